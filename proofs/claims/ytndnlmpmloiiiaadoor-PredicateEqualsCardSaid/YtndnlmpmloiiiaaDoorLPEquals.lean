/- The law PredicateEquals returns true for all codes and every predicate that can be read as data, where the package's table of shapes holds what start-up has laid. -/
import Derived.Test.YtndnlmpmloiiiaaDoorPy
import Derived.Test.YtndnlmpmloiiiaaDoorQf
import Derived.Test.YtndnlmpmloiiiaaDoorQw
import Derived.Test.YtndnlmpmloiiiaaDoorPna
import Derived.Test.YtndnlmpmloiiiaaDoorPfr
import Derived.Test.YtndnlmpmloiiiaaDoorQv
import Derived.Test.YtndnlmpmloiiiaaDoorQo
import Derived.Test.YtndnlmpmloiiiaaDoorTie
import Derived.Test.YtndnlmpmloiiiaaDoorCards
import Derived.SevenTiedAt
set_option linter.unusedSimpArgs false
set_option linter.unusedVariables false
namespace Go.Proofs.YtndnlmpmloiiiaaDoor
open Go.RowKit

open Go.ChangeShapes Go.WideShapes Go.ChangeAt Go.RowKit
namespace Equals
set_option maxHeartbeats 40000000 in
set_option maxRecDepth 100000 in
theorem walk (a : Option Addr) (len cap : Nat) (zs : List Int) (kr : Nat) (raw : Pr) (sr : Value) (w : World) (hr : IsRow .u8 w a len cap zs)
    (hraw : PrIn (fun _ => True) w kr sr raw.args ∧ fitP raw) (hs : Shapes w) :
    Calls Tryd.prog 7 #[.slice a len cap, raw.val sr] w fun e w' => e = .returned (.bool true) ∧ Below w.heap.size w w' := by
  have mx := mixed
  obtain ⟨ra, rc, rfl, -⟩ := hraw.1.shape
  obtain ⟨W0, hW0⟩ : ∃ W0, W0 = w.alloc (pBlock raw (.slice ra raw.args.length rc) 29) := ⟨_, rfl⟩
  have hg0 : Below w.heap.size w W0 := by rw [hW0]; exact (Below.refl _ _).alloc (Nat.le_refl _) _
  have hx0 : PBx W0 w.heap.size raw (.slice ra raw.args.length rc) := by rw [hW0]; exact PBx.new w raw _ _
  have HX0 := Lib.hid hx0
  have HN := Lib.hid (new160_calls a len cap zs W0 (hr.later hg0))
  have HS : Hid (∀ w', Below w.heap.size w w' → Shapes w') := fun w' h => hs.later h
  have HRAW : Hid (∀ w', Below w.heap.size w w' → PrIn (fun _ => True) w' kr (.slice ra raw.args.length rc) raw.args) := fun w' h => hraw.1.later h
  have HB0 := Lib.hid hg0
  have HW0 := Lib.hid hW0
  have HS0 : Hid (W0.heap.size = w.heap.size + 1) := by show _ = _; rw [hW0]; simp
  clear hr hs hraw hg0 hx0 hW0
  show Calls _ _ #[.slice a len cap, .agg #[.int .i64 raw.op, .int .i64 raw.cmp, .int .i64 raw.l.k, .int .i64 raw.l.i, .int .i64 raw.l.v.k, .int .i64 raw.l.v.n, .string raw.l.v.t, .int .i64 raw.r.k, .int .i64 raw.r.i, .int .i64 raw.r.v.k, .int .i64 raw.r.v.n, .string raw.r.v.t, (.slice ra raw.args.length rc)]] _ _
  go_enter Tryd.func7, Tryd.ntmps7
  go_wp2_with fail
  have hW0 := HW0.out
  simp only [pBlock, pObj] at hW0
  rw [← hW0]
  clear hW0 HW0
  refine HN.out.mono ?_
  rintro e w1 ⟨b, c, rfl, hbs, hcs, hb1⟩
  have HBW : Hid (w.heap.size ≤ b) := by have := HS0.out; show _ ≤ _; omega
  have HB1 : Hid (Below w.heap.size w w1) := HB0.out.trans (hb1.mono HB0.out.size)
  have HX1 : Hid (PBx w1 w.heap.size raw (.slice ra raw.args.length rc)) := HX0.out.by_ (r := none) ⟨hb1.os, hb1.tape, hb1.output, hb1.size, fun k hk _ => hb1.block k hk⟩ (by simp)
  have HNE : Hid (w.heap.size ≠ b) := by have := HS0.out; show _ ≠ _; omega
  have HK := Lib.hid (kinds_calls b c 4 (by omega) w1 hcs)
  have HBL : Hid (b < w1.heap.size) := hcs.lt
  clear hcs hb1 HN hbs HX0
  generalize w.heap.size = gr at HX1 HNE ⊢
  go_wp2_with fail
  refine HK.out.mono ?_
  rintro e w2 ⟨vk, ks, rfl, hkl, hok, hown, hcs2, hby2⟩
  have hi2 : IntsAt (fun g => g ≠ b) w2 vk ks := hown.ints (by omega) (fun g hg => by have := HBL.out; omega)
  have HBY2 := Lib.hid hby2
  obtain ⟨ka, kc, rfl, -⟩ := hi2.slice
  have HP := Lib.hid (casePredicate_calls (fun g => g ≠ b) b (by simp) c (.slice ka ks.length kc) (.slice none 0 0) ks [] hok (by simp [KindsOk]) (by omega) (by simp) 3 (by omega) w2 hcs2 hi2 (IntsAt.nil none 0))
  clear hkl hok hown hcs2 hby2 hi2 HK
  go_wp2_with fail
  refine HP.out.mono ?_
  rintro e w3 ⟨p, s, rfl, hps, hck, hdp, hcs3, hby3⟩
  obtain ⟨sa, sc, rfl, -⟩ := hps.shape
  have HCP : Hid (countP p ≤ 24) := by
    have h := hck
    unfold checkE at h
    show _ ≤ _
    split at h
    · cases h
    · split at h
      · cases h
      · rename_i h2; omega
  obtain ⟨W3, hW3⟩ : ∃ W3, W3 = w3.alloc (pBlock p (.slice sa p.args.length sc) 29) := ⟨_, rfl⟩
  have hal3 : ∀ r, w3.grownBy W3 r := fun r => by rw [hW3]; exact World.grownBy_alloc _ _ _
  have HX3 : Hid (PBx W3 w3.heap.size p (.slice sa p.args.length sc)) := by rw [hW3]; exact PBx.new w3 p _ _
  have HG3 : Hid (w3.heap.size ≠ b) := by have := hcs3.lt; show _ ≠ _; omega
  have HBY3 : Hid (w1.grownBy W3 (some b)) := by_trans (by_trans HBY2.out hby3) (hal3 _)
  have HPS3 : Hid (PrIn (fun g => g ≠ b) W3 4 (.slice sa p.args.length sc) p.args) := (hps.mono fun g _ hg => by have := HBL.out; have := HBY2.out.size; omega).kept (kept_by (hal3 none) fun g hg => by cases hg)
  have HSP : Hid (Calls Tryd.prog 11 #[.pointer (some ⟨b, 0, none⟩), .agg #[.int .i64 p.op, .int .i64 p.cmp, .int .i64 p.l.k, .int .i64 p.l.i, .int .i64 p.l.v.k, .int .i64 p.l.v.n, .string p.l.v.t, .int .i64 p.r.k, .int .i64 p.r.i, .int .i64 p.r.v.k, .int .i64 p.r.v.n, .string p.r.v.t, (.slice sa p.args.length sc)]] W3 (GotSpoil (fun g => g ≠ b) b c W3)) := spoil_all b c 4 p (fun g => g ≠ b) (.slice sa p.args.length sc) W3 (by simp) (by have := HCP.out; omega) (hcs3.grown (hal3 none)) HPS3.out
  have HFP : Hid (fitP p) := fit_count p (by have := HCP.out; omega)
  have HW3 := Lib.hid hW3
  obtain ⟨⟨l3, c0, c1, c2, c3, c4, c5, c6, c7, c8, c9, c10, c11, c12⟩, f3⟩ := HX3.out
  clear hps hck hdp hcs3 hby3 hal3 HP HBY2
  subst hW3
  go_wp2_with fail
  have hW3 := HW3.out
  generalize hWW : w3.alloc (pBlock p (.slice sa p.args.length sc) 29) = W3 at *
  simp only [pBlock, pObj] at hWW
  try rw [hWW]
  clear hW3 HW3 hWW l3 c0 c1 c2 c3 c4 c5 c6 c7 c8 c9 c10 c11 c12 f3
  generalize w3.heap.size = gp at HX3 HG3 ⊢
  refine HSP.out.mono ?_
  rintro e w4 ⟨q, t, kq, rfl, hpq, hcs4, hby4⟩
  obtain ⟨qa, qc, rfl, -⟩ := hpq.shape
  obtain ⟨W4, hW4⟩ : ∃ W4, W4 = w4.alloc (pBlock q (.slice qa q.args.length qc) 29) := ⟨_, rfl⟩
  have hal4 : w4.grownBy W4 none := by rw [hW4]; exact World.grownBy_alloc _ _ _
  have hby14 : w1.grownBy W4 (some b) := by_trans (by_trans HBY3.out hby4) (by_some hal4 _)
  have HXQ : Hid (PBox W4 w4.heap.size q (.slice qa q.args.length qc)) := by rw [hW4]; exact PBox.new w4 q _ _
  have HXP : Hid (PBox W4 gp p (.slice sa p.args.length sc)) := ((HX3.out.by_ hby4 (by have := HG3.out; simp; omega)).by_ hal4 (by simp)).b
  have HXR : Hid (PBox W4 gr raw (.slice ra raw.args.length rc)) := (HX1.out.by_ hby14 (by have := HNE.out; simp; omega)).b
  have HB4 : Hid (Below w.heap.size w W4) := HB1.out.grown hby14 HB1.out.size (fun k hk => by cases hk; exact HBW.out)
  have HPP : Hid (∀ w', Below W4.heap.size W4 w' → PrIn (fun _ => True) w' 4 (.slice sa p.args.length sc) p.args) := fun w' h => ((((HPS3.out.kept (kept_by hby4 fun g hg => by cases hg; simp)).kept (kept_by hal4 fun g hg => by cases hg)).mono fun _ _ _ => trivial)).later h
  have HPQ : Hid (∀ w', Below W4.heap.size W4 w' → PrIn (fun _ => True) w' kq (.slice qa q.args.length qc) q.args) := fun w' h => ((hpq.later (by_below hal4)).mono fun _ _ _ => trivial).later h
  have HWW : Hid (∀ w', Below W4.heap.size W4 w' → Below w.heap.size w w') := fun w' h => HB4.out.trans (h.mono HB4.out.size)
  have HW4 := Lib.hid hW4
  clear hpq hcs4 hby4 hal4 hby14 hW4 HSP HX3 HX1 HB1 HB4 HPS3 HBY3
  go_wp2_with fail
  have hW4 := HW4.out
  simp only [pBlock, pObj] at hW4
  rw [← hW4]
  clear hW4 HW4
  generalize w4.heap.size = gq at HXQ ⊢
  have HX : Hid (∀ w', Below W4.heap.size W4 w' → PBox w' gr raw (.slice ra raw.args.length rc) ∧ PBox w' gp p (.slice sa p.args.length sc) ∧ PBox w' gq q (.slice qa q.args.length qc)) := fun w' h => ⟨HXR.out.later h, HXP.out.later h, HXQ.out.later h⟩
  have hdw : Below W4.heap.size W4 W4.drew := (Below.refl _ _).drew
  have HDW := Lib.hid hdw
  clear HXR HXP HXQ hdw
  refine wp_region_noPanic ?_
  refine wp_region_X (fun w' => PBox w' gr raw (.slice ra raw.args.length rc) ∧ PBox w' gp p (.slice sa p.args.length sc) ∧ PBox w' gq q (.slice qa q.args.length qc)) 30 (by kernel_rfl) (HX.out _ HDW.out) (fun hHeld => ?_)
  try simp only [Act.put, List.setIfInBounds_toArray, List.set_cons_zero, List.set_cons_succ]
  refine wpX_one 0 (by kernel_rfl) rfl (fun K hK => ?_)
  clear hHeld
  go_simp
  go_at_call 12
  refine (begun_calls _ (HS.out _ (HWW.out _ HDW.out))).mono ?_
  rintro e x0 ⟨rfl, hx0⟩
  have Hx0 : Hid (Below W4.heap.size W4 x0) := HDW.out.trans (hx0.mono HDW.out.size)
  clear hx0
  refine hK.out _ _ (HX.out _ Hx0.out) (fun hHeld => ?_)
  clear hK K
  try simp only [Act.put, List.setIfInBounds_toArray, List.set_cons_zero, List.set_cons_succ]
  try simp only [Act.put, List.setIfInBounds_toArray, List.set_cons_zero, List.set_cons_succ]
  refine wpX_take 1 (v := ?_) rfl (by kernel_rfl) (by kernel_rfl) (by kernel_rfl) (by kernel_rfl) (by kernel_rfl) (fun _ _ _ h => h) (Or.inl ⟨by rfl, ?_⟩) (by assumption) ?_
  rotate_left
  · intro w hSw; clear hSw; go_simp; try with_reducible rfl
  try simp only [Act.put, List.setIfInBounds_toArray, List.set_cons_zero, List.set_cons_succ]
  refine wpX_take 2 (v := ?_) rfl (by kernel_rfl) (by kernel_rfl) (by kernel_rfl) (by kernel_rfl) (by kernel_rfl) (fun _ _ _ h => h) (Or.inl ⟨by rfl, ?_⟩) (by assumption) ?_
  rotate_left
  · intro w hSw; obtain ⟨l, b0, b1, b2, b3, b4, b5, b6, b7, b8, b9, b10, b11, b12⟩ := hSw.2.1; clear hSw; go_simp; try with_reducible rfl
  try simp only [Act.put, List.setIfInBounds_toArray, List.set_cons_zero, List.set_cons_succ]
  refine wpX_take 3 (v := ?_) rfl (by kernel_rfl) (by kernel_rfl) (by kernel_rfl) (by kernel_rfl) (by kernel_rfl) (fun _ _ _ h => h) (Or.inl ⟨by rfl, ?_⟩) (by assumption) ?_
  rotate_left
  · intro w hSw; obtain ⟨l, b0, b1, b2, b3, b4, b5, b6, b7, b8, b9, b10, b11, b12⟩ := hSw.2.1; clear hSw; go_simp; try with_reducible rfl
  try simp only [Act.put, List.setIfInBounds_toArray, List.set_cons_zero, List.set_cons_succ]
  refine wpX_one 4 (by kernel_rfl) rfl (fun K hK => ?_)
  clear hHeld
  go_simp
  go_at_call 21
  refine (show Calls Tryd.prog 21 #[p.val (.slice sa p.args.length sc), .slice none 0 0] x0 (fun e w' => ∃ t, e = .returned (p.val t) ∧ PrIn (fun g => x0.heap.size ≤ g) w' 4 t p.args ∧ x0.grownBy w' none) from (by have h := RBindAt_all (fun _ => True) (.slice none 0 0) [] 4 p (.slice sa p.args.length sc) x0 HFP.out ⟨none, 0, rfl, by simp, .inl rfl⟩ (HPP.out _ Hx0.out); unfold GotBind at h; rw [bindP_nil] at h; exact h)).mono ?_
  rintro e x1 ⟨t1, rfl, hp1, hx1⟩
  obtain ⟨a1, c1, rfl, -⟩ := hp1.shape
  have Hx1 : Hid (Below W4.heap.size W4 x1) := Hx0.out.trans ((by_below hx1).mono Hx0.out.size)
  have HT1 : Hid (PrIn (fun _ => True) x1 4 (.slice a1 p.args.length c1) p.args) := hp1.mono fun _ _ _ => trivial
  clear hx1 hp1
  refine hK.out _ _ (HX.out _ Hx1.out) (fun hHeld => ?_)
  clear hK K
  try simp only [Act.put, List.setIfInBounds_toArray, List.set_cons_zero, List.set_cons_succ]
  try simp only [Act.put, List.setIfInBounds_toArray, List.set_cons_zero, List.set_cons_succ]
  refine wpX_one 5 (by kernel_rfl) rfl (fun K hK => ?_)
  clear hHeld
  go_simp
  go_at_call 25
  refine (show Calls Tryd.prog 25 #[p.val (.slice sa p.args.length sc), p.val (.slice a1 p.args.length c1)] x1 (fun e w' => e = .returned (.bool (eqP p p)) ∧ Gro x1 w') from EqAt_all (fun _ => True) (fun _ => True) (4) p p (.slice sa p.args.length sc) (.slice a1 p.args.length c1) x1 (HPP.out _ Hx1.out) (HT1.out)).mono ?_
  rintro e x2 ⟨rfl, hx2⟩
  rw [eqP_self]
  have Hx2 : Hid (Below W4.heap.size W4 x2) := Hx1.out.trans (hx2.below.mono Hx1.out.size)
  clear hx2
  refine hK.out _ _ (HX.out _ Hx2.out) (fun hHeld => ?_)
  clear hK K
  try simp only [Act.put, List.setIfInBounds_toArray, List.set_cons_zero, List.set_cons_succ]
  try simp only [Act.put, List.setIfInBounds_toArray, List.set_cons_zero, List.set_cons_succ]
  refine wpX_take 6 (v := ?_) rfl (by kernel_rfl) (by kernel_rfl) (by kernel_rfl) (by kernel_rfl) (by kernel_rfl) (fun _ _ _ h => h) (Or.inl ⟨by rfl, ?_⟩) (by assumption) ?_
  rotate_left
  · intro w hSw; clear hSw; go_simp; try with_reducible rfl
  try simp only [Act.put, List.setIfInBounds_toArray, List.set_cons_zero, List.set_cons_succ]
  refine wpX_take 7 (v := ?_) rfl (by kernel_rfl) (by kernel_rfl) (by kernel_rfl) (by kernel_rfl) (by kernel_rfl) (fun _ _ _ h => h) (Or.inl ⟨by rfl, ?_⟩) (by assumption) ?_
  rotate_left
  · intro w hSw; clear hSw; go_simp; try with_reducible rfl
  try simp only [Act.put, List.setIfInBounds_toArray, List.set_cons_zero, List.set_cons_succ]
  refine wpX_take 8 (v := ?_) rfl (by kernel_rfl) (by kernel_rfl) (by kernel_rfl) (by kernel_rfl) (by kernel_rfl) (fun _ _ _ h => h) (Or.inl ⟨by rfl, ?_⟩) (by assumption) ?_
  rotate_left
  · intro w hSw; obtain ⟨l, b0, b1, b2, b3, b4, b5, b6, b7, b8, b9, b10, b11, b12⟩ := hSw.2.1; clear hSw; go_simp; try with_reducible rfl
  try simp only [Act.put, List.setIfInBounds_toArray, List.set_cons_zero, List.set_cons_succ]
  refine wpX_take 9 (v := ?_) rfl (by kernel_rfl) (by kernel_rfl) (by kernel_rfl) (by kernel_rfl) (by kernel_rfl) (fun _ _ _ h => h) (Or.inl ⟨by rfl, ?_⟩) (by assumption) ?_
  rotate_left
  · intro w hSw; obtain ⟨l, b0, b1, b2, b3, b4, b5, b6, b7, b8, b9, b10, b11, b12⟩ := hSw.2.2; clear hSw; go_simp; try with_reducible rfl
  try simp only [Act.put, List.setIfInBounds_toArray, List.set_cons_zero, List.set_cons_succ]
  refine wpX_take 11 (v := ?_) rfl (by kernel_rfl) (by kernel_rfl) (by kernel_rfl) (by kernel_rfl) (by kernel_rfl) (fun _ _ _ h => h) (Or.inl ⟨by rfl, ?_⟩) (by assumption) ?_
  rotate_left
  · intro w hSw; obtain ⟨l, b0, b1, b2, b3, b4, b5, b6, b7, b8, b9, b10, b11, b12⟩ := hSw.2.1; clear hSw; go_simp; try with_reducible rfl
  try simp only [Act.put, List.setIfInBounds_toArray, List.set_cons_zero, List.set_cons_succ]
  refine wpX_take 12 (v := ?_) rfl (by kernel_rfl) (by kernel_rfl) (by kernel_rfl) (by kernel_rfl) (by kernel_rfl) (fun _ _ _ h => h) (Or.inl ⟨by rfl, ?_⟩) (by assumption) ?_
  rotate_left
  · intro w hSw; obtain ⟨l, b0, b1, b2, b3, b4, b5, b6, b7, b8, b9, b10, b11, b12⟩ := hSw.2.2; clear hSw; go_simp; try with_reducible rfl
  obtain ⟨q1, hq1⟩ : ∃ q1, eqP p q = q1 := ⟨_, rfl⟩
  have HQ1 := Lib.hid hq1
  clear hq1
  try simp only [Act.put, List.setIfInBounds_toArray, List.set_cons_zero, List.set_cons_succ]
  refine wpX_one 10 (by kernel_rfl) rfl (fun K hK => ?_)
  clear hHeld
  go_simp
  go_at_call 25
  refine (show Calls Tryd.prog 25 #[p.val (.slice sa p.args.length sc), q.val (.slice qa q.args.length qc)] x2 (fun e w' => e = .returned (.bool (eqP p q)) ∧ Gro x2 w') from EqAt_all (fun _ => True) (fun _ => True) (max 4 kq) p q (.slice sa p.args.length sc) (.slice qa q.args.length qc) x2 ((HPP.out _ Hx2.out).deep (Nat.le_max_left _ _)) ((HPQ.out _ Hx2.out).deep (Nat.le_max_right _ _))).mono ?_
  rintro e x3 ⟨rfl, hx3⟩
  rw [HQ1.out]
  have Hx3 : Hid (Below W4.heap.size W4 x3) := Hx2.out.trans (hx3.below.mono Hx2.out.size)
  clear hx3
  refine hK.out _ _ (HX.out _ Hx3.out) (fun hHeld => ?_)
  clear hK K
  try simp only [Act.put, List.setIfInBounds_toArray, List.set_cons_zero, List.set_cons_succ]
  try simp only [Act.put, List.setIfInBounds_toArray, List.set_cons_zero, List.set_cons_succ]
  refine wpX_one 13 (by kernel_rfl) rfl (fun K hK => ?_)
  clear hHeld
  go_simp
  go_at_call 20
  refine (show Calls Tryd.prog 20 #[p.val (.slice sa p.args.length sc), q.val (.slice qa q.args.length qc)] x3 (fun e w' => e = .returned (.bool (eqP p q)) ∧ Gro x3 w') from REqAt_all (fun _ => True) (fun _ => True) (max 4 kq) p q (.slice sa p.args.length sc) (.slice qa q.args.length qc) x3 ((HPP.out _ Hx3.out).deep (Nat.le_max_left _ _)) ((HPQ.out _ Hx3.out).deep (Nat.le_max_right _ _))).mono ?_
  rintro e x4 ⟨rfl, hx4⟩
  rw [HQ1.out]
  have Hx4 : Hid (Below W4.heap.size W4 x4) := Hx3.out.trans (hx4.below.mono Hx3.out.size)
  clear hx4
  refine hK.out _ _ (HX.out _ Hx4.out) (fun hHeld => ?_)
  clear hK K
  try simp only [Act.put, List.setIfInBounds_toArray, List.set_cons_zero, List.set_cons_succ]
  try simp only [Act.put, List.setIfInBounds_toArray, List.set_cons_zero, List.set_cons_succ]
  refine wpX_take 14 (v := ?_) rfl (by kernel_rfl) (by kernel_rfl) (by kernel_rfl) (by kernel_rfl) (by kernel_rfl) (fun _ _ _ h => h) (Or.inl ⟨by rfl, ?_⟩) (by assumption) ?_
  rotate_left
  · intro w hSw; clear hSw; go_simp; try with_reducible rfl
  try simp only [Act.put, List.setIfInBounds_toArray, List.set_cons_zero, List.set_cons_succ]
  refine wpX_take 15 (v := ?_) rfl (by kernel_rfl) (by kernel_rfl) (by kernel_rfl) (by kernel_rfl) (by kernel_rfl) (fun _ _ _ h => h) (Or.inl ⟨by rfl, ?_⟩) (by assumption) ?_
  rotate_left
  · intro w hSw; clear hSw; go_simp; try with_reducible rfl
  try simp only [Act.put, List.setIfInBounds_toArray, List.set_cons_zero, List.set_cons_succ]
  refine wpX_take 16 (v := ?_) rfl (by kernel_rfl) (by kernel_rfl) (by kernel_rfl) (by kernel_rfl) (by kernel_rfl) (fun _ _ _ h => h) (Or.inl ⟨by rfl, ?_⟩) (by assumption) ?_
  rotate_left
  · intro w hSw; clear hSw; go_simp; try with_reducible rfl
  try simp only [Act.put, List.setIfInBounds_toArray, List.set_cons_zero, List.set_cons_succ]
  refine wpX_take 17 (v := ?_) rfl (by kernel_rfl) (by kernel_rfl) (by kernel_rfl) (by kernel_rfl) (by kernel_rfl) (fun _ _ _ h => h) (Or.inl ⟨by rfl, ?_⟩) (by assumption) ?_
  rotate_left
  · intro w hSw; obtain ⟨l, b0, b1, b2, b3, b4, b5, b6, b7, b8, b9, b10, b11, b12⟩ := hSw.1; clear hSw; go_simp; try with_reducible rfl
  try simp only [Act.put, List.setIfInBounds_toArray, List.set_cons_zero, List.set_cons_succ]
  refine wpX_take 18 (v := ?_) rfl (by kernel_rfl) (by kernel_rfl) (by kernel_rfl) (by kernel_rfl) (by kernel_rfl) (fun _ _ _ h => h) (Or.inl ⟨by rfl, ?_⟩) (by assumption) ?_
  rotate_left
  · intro w hSw; obtain ⟨l, b0, b1, b2, b3, b4, b5, b6, b7, b8, b9, b10, b11, b12⟩ := hSw.2.1; clear hSw; go_simp; try with_reducible rfl
  try simp only [Act.put, List.setIfInBounds_toArray, List.set_cons_zero, List.set_cons_succ]
  refine wpX_take 20 (v := ?_) rfl (by kernel_rfl) (by kernel_rfl) (by kernel_rfl) (by kernel_rfl) (by kernel_rfl) (fun _ _ _ h => h) (Or.inl ⟨by rfl, ?_⟩) (by assumption) ?_
  rotate_left
  · intro w hSw; obtain ⟨l, b0, b1, b2, b3, b4, b5, b6, b7, b8, b9, b10, b11, b12⟩ := hSw.1; clear hSw; go_simp; try with_reducible rfl
  try simp only [Act.put, List.setIfInBounds_toArray, List.set_cons_zero, List.set_cons_succ]
  refine wpX_take 21 (v := ?_) rfl (by kernel_rfl) (by kernel_rfl) (by kernel_rfl) (by kernel_rfl) (by kernel_rfl) (fun _ _ _ h => h) (Or.inl ⟨by rfl, ?_⟩) (by assumption) ?_
  rotate_left
  · intro w hSw; obtain ⟨l, b0, b1, b2, b3, b4, b5, b6, b7, b8, b9, b10, b11, b12⟩ := hSw.2.1; clear hSw; go_simp; try with_reducible rfl
  obtain ⟨q2, hq2⟩ : ∃ q2, eqP raw p = q2 := ⟨_, rfl⟩
  have HQ2 := Lib.hid hq2
  clear hq2
  try simp only [Act.put, List.setIfInBounds_toArray, List.set_cons_zero, List.set_cons_succ]
  refine wpX_one 19 (by kernel_rfl) rfl (fun K hK => ?_)
  clear hHeld
  go_simp
  go_at_call 25
  refine (show Calls Tryd.prog 25 #[raw.val (.slice ra raw.args.length rc), p.val (.slice sa p.args.length sc)] x4 (fun e w' => e = .returned (.bool (eqP raw p)) ∧ Gro x4 w') from EqAt_all (fun _ => True) (fun _ => True) (max kr 4) raw p (.slice ra raw.args.length rc) (.slice sa p.args.length sc) x4 ((HRAW.out _ (HWW.out _ Hx4.out)).deep (Nat.le_max_left _ _)) ((HPP.out _ Hx4.out).deep (Nat.le_max_right _ _))).mono ?_
  rintro e x5 ⟨rfl, hx5⟩
  rw [HQ2.out]
  have Hx5 : Hid (Below W4.heap.size W4 x5) := Hx4.out.trans (hx5.below.mono Hx4.out.size)
  clear hx5
  refine hK.out _ _ (HX.out _ Hx5.out) (fun hHeld => ?_)
  clear hK K
  try simp only [Act.put, List.setIfInBounds_toArray, List.set_cons_zero, List.set_cons_succ]
  try simp only [Act.put, List.setIfInBounds_toArray, List.set_cons_zero, List.set_cons_succ]
  refine wpX_one 22 (by kernel_rfl) rfl (fun K hK => ?_)
  clear hHeld
  go_simp
  go_at_call 20
  refine (show Calls Tryd.prog 20 #[raw.val (.slice ra raw.args.length rc), p.val (.slice sa p.args.length sc)] x5 (fun e w' => e = .returned (.bool (eqP raw p)) ∧ Gro x5 w') from REqAt_all (fun _ => True) (fun _ => True) (max kr 4) raw p (.slice ra raw.args.length rc) (.slice sa p.args.length sc) x5 ((HRAW.out _ (HWW.out _ Hx5.out)).deep (Nat.le_max_left _ _)) ((HPP.out _ Hx5.out).deep (Nat.le_max_right _ _))).mono ?_
  rintro e x6 ⟨rfl, hx6⟩
  rw [HQ2.out]
  have Hx6 : Hid (Below W4.heap.size W4 x6) := Hx5.out.trans (hx6.below.mono Hx5.out.size)
  clear hx6
  refine hK.out _ _ (HX.out _ Hx6.out) (fun hHeld => ?_)
  clear hK K
  try simp only [Act.put, List.setIfInBounds_toArray, List.set_cons_zero, List.set_cons_succ]
  try simp only [Act.put, List.setIfInBounds_toArray, List.set_cons_zero, List.set_cons_succ]
  refine wpX_take 23 (v := ?_) rfl (by kernel_rfl) (by kernel_rfl) (by kernel_rfl) (by kernel_rfl) (by kernel_rfl) (fun _ _ _ h => h) (Or.inl ⟨by rfl, ?_⟩) (by assumption) ?_
  rotate_left
  · intro w hSw; clear hSw; go_simp; try with_reducible rfl
  try simp only [Act.put, List.setIfInBounds_toArray, List.set_cons_zero, List.set_cons_succ]
  refine wpX_take 24 (v := ?_) rfl (by kernel_rfl) (by kernel_rfl) (by kernel_rfl) (by kernel_rfl) (by kernel_rfl) (fun _ _ _ h => h) (Or.inl ⟨by rfl, ?_⟩) (by assumption) ?_
  rotate_left
  · intro w hSw; clear hSw; go_simp; try with_reducible rfl
  try simp only [Act.put, List.setIfInBounds_toArray, List.set_cons_zero, List.set_cons_succ]
  refine wpX_take 25 (v := ?_) rfl (by kernel_rfl) (by kernel_rfl) (by kernel_rfl) (by kernel_rfl) (by kernel_rfl) (fun _ _ _ h => h) (Or.inl ⟨by rfl, ?_⟩) (by assumption) ?_
  rotate_left
  · intro w hSw; clear hSw; go_simp; try with_reducible rfl
  try simp only [Act.put, List.setIfInBounds_toArray, List.set_cons_zero, List.set_cons_succ]
  refine wpX_take 26 (v := ?_) rfl (by kernel_rfl) (by kernel_rfl) (by kernel_rfl) (by kernel_rfl) (by kernel_rfl) (fun _ _ _ h => h) (Or.inl ⟨by rfl, ?_⟩) (by assumption) ?_
  rotate_left
  · intro w hSw; obtain ⟨l, b0, b1, b2, b3, b4, b5, b6, b7, b8, b9, b10, b11, b12⟩ := hSw.1; clear hSw; go_simp; try with_reducible rfl
  try simp only [Act.put, List.setIfInBounds_toArray, List.set_cons_zero, List.set_cons_succ]
  refine wpX_take 27 (v := ?_) rfl (by kernel_rfl) (by kernel_rfl) (by kernel_rfl) (by kernel_rfl) (by kernel_rfl) (fun _ _ _ h => h) (Or.inl ⟨by rfl, ?_⟩) (by assumption) ?_
  rotate_left
  · intro w hSw; obtain ⟨l, b0, b1, b2, b3, b4, b5, b6, b7, b8, b9, b10, b11, b12⟩ := hSw.1; clear hSw; go_simp; try with_reducible rfl
  try simp only [Act.put, List.setIfInBounds_toArray, List.set_cons_zero, List.set_cons_succ]
  refine wpX_one 28 (by kernel_rfl) rfl (fun K hK => ?_)
  clear hHeld
  go_simp
  go_at_call 25
  refine (show Calls Tryd.prog 25 #[raw.val (.slice ra raw.args.length rc), raw.val (.slice ra raw.args.length rc)] x6 (fun e w' => e = .returned (.bool (eqP raw raw)) ∧ Gro x6 w') from EqAt_all (fun _ => True) (fun _ => True) (kr) raw raw (.slice ra raw.args.length rc) (.slice ra raw.args.length rc) x6 (HRAW.out _ (HWW.out _ Hx6.out)) (HRAW.out _ (HWW.out _ Hx6.out))).mono ?_
  rintro e x7 ⟨rfl, hx7⟩
  rw [eqP_self]
  have Hx7 : Hid (Below W4.heap.size W4 x7) := Hx6.out.trans (hx7.below.mono Hx6.out.size)
  clear hx7
  refine hK.out _ _ (HX.out _ Hx7.out) (fun hHeld => ?_)
  clear hK K
  try simp only [Act.put, List.setIfInBounds_toArray, List.set_cons_zero, List.set_cons_succ]
  try simp only [Act.put, List.setIfInBounds_toArray, List.set_cons_zero, List.set_cons_succ]
  refine wpX_take 29 (v := ?_) rfl (by kernel_rfl) (by kernel_rfl) (by kernel_rfl) (by kernel_rfl) (by kernel_rfl) (fun _ _ _ h => h) (Or.inl ⟨by rfl, ?_⟩) (by assumption) ?_
  rotate_left
  · intro w hSw; clear hSw; go_simp; try with_reducible rfl
  try simp only [Act.put, List.setIfInBounds_toArray, List.set_cons_zero, List.set_cons_succ]
  refine wpX_last 30 (by kernel_rfl) rfl rfl (by kernel_rfl) (fun K hK => ?_)
  go_simp
  refine hK.out _ _ ?_
  clear hK K
  refine NoPanic.normal ?_
  cases q1 <;> cases q2 <;>
    (go_wp2
     go_ret
     exact ⟨rfl, HWW.out _ Hx7.out⟩)
set_option maxRecDepth 100000 in
theorem lifted (os : Os) (started : os.Started) (H : Type) (enc : TypeId × Value → H) :
    ReturnsInHanded {} Tryd.checked os 7 .any (fun w args => (Rows.predicateEqualsSpec.pre enc Tryd.prog Tryd.f7 [] false w args ∧ laidMetH Tryd.prog laid1 w) ∧ sizedMet enc Tryd.prog Tryd.f7 (OpenSpec.ofChange Rows.predicateEqualsSpec) false w args) (Rows.predicateEqualsSpec.post enc Tryd.prog Tryd.f7 false true false false) := by
  refine returnsInHanded_of_change_and (C := Tryd.checked) (X := fun w _ => laidMetH Tryd.prog laid1 w) (fun _ _ _ hh h => h.of_heap hh) own started (by kernel_rfl) Tryd.func7
    (ChangeSpec.witness_shaped (enc := enc) (C := Tryd.checked) (os := os) (X := fun w _ => laidMetH Tryd.prog laid1 w) false (World.doorLaid Tryd.prog 400 os) #[.slice none 0 0, .agg #[.int .i64 0, .int .i64 0, .int .i64 0, .int .i64 0, .int .i64 0, .int .i64 0, .string ByteArray.empty, .int .i64 0, .int .i64 0, .int .i64 0, .int .i64 0, .string ByteArray.empty, .slice none 0 0]] 8 rfl (World.shaped_of_RefB (by kernel_rfl) (by kernel_rfl)) (by kernel_rfl) (by kernel_rfl) (by kernel_rfl) (door_met os _)) ?_
  intro W base args ds gs before hval0 hW hcnd hsz0 hL hlast
  have hS : Shapes W := shapes_of_laid hL
  have hval : ∀ (j : Nat) t v, Tryd.f7.params[j]? = some t → args[j]? = some v → Value.okWide Tryd.prog W .any base t v := hval0
  have hW' := hW
  obtain ⟨p, q, hA0, hV, rfl, hfz, hnd⟩ := hW
  have hA : DataW.TrodAll enc Tryd.prog W 0 (fun _ => true) true Tryd.f7.params.toList args.toList ds p := hA0
  have hsz : (DataW.weightsEach Tryd.prog (Tryd.f7.params.toList ++ Rows.predicateEqualsSpec.plain.varTypes Tryd.prog) (ds ++ gs)).all (· ≤ reachBytes) = true := hsz0
  rw [Tryd.params7] at hA hval hsz
  obtain ⟨v0, vs0, d0, ds0, p0, q0, hargs, rfl, rfl, h0, r0⟩ := trodAll_cons hA
  obtain ⟨v1, vs1, d1, ds1, p1, q1, rfl, rfl, rfl, h1, r1⟩ := trodAll_cons r0
  obtain ⟨rfl, rfl, rfl⟩ := trodAll_nil r1
  obtain rfl : args = #[v0, v1] := by cases args; simp_all
  obtain ⟨rfl, rfl⟩ := trodVars_none hV
  have lt0 : ∀ x ∈ p0, x.block < W.heap.size := by obtain ⟨m, hm⟩ := h0; exact DataW.trod_lt m _ _ _ hm
  obtain ⟨a0, len0, cap0, z0, rfl, w0⟩ := open_codes (hval 0 22 v0 rfl rfl) h0
  have lt1 : ∀ x ∈ p1, x.block < W.heap.size := by obtain ⟨m, hm⟩ := h1; exact DataW.trod_lt m _ _ _ hm
  obtain ⟨k1, x1, s1, rfl, w1⟩ := open_Pr (hval 1 29 v1 rfl rfl) h1 (fun n hn => by have hq := List.all_eq_true.1 hsz n (DataW.weights_mem_each (j := 1) (t := 29) rfl rfl n hn); simpa using hq)
  clear hA0 hval0
  refine (walk a0 len0 cap0 z0 k1 x1 s1 W w0 w1 hS).mono fun e W' ⟨he, bel⟩ => ?_
  subst he
  exact ⟨_, rfl, _, _, _, [], _, [], hW', trodAll_mk1 (shut_bool Tryd.underlying4 _), (trodAll_cons_mk (Below.trod laidOut (by kernel_rfl) (of_decide_eq_true (by kernel_rfl)) h0 bel lt0) (trodAll_cons_mk (Below.trod laidOut (by kernel_rfl) (of_decide_eq_true (by kernel_rfl)) h1 bel lt1) trodAll_mk0)), rfl, bel.frame _, fun h => by cases h⟩

theorem over : Rows.predicateEqualsRow.holds Tryd.pinned (OpenSpec.ofChange Rows.predicateEqualsSpec) :=
  OpenClaim.holds_of_wide 7 Tryd.f7 rfl rfl rfl rfl rfl rfl rfl ⟨rfl, rfl, rfl, rfl, rfl⟩ rfl rfl rfl rfl rfl (by kernel_rfl) Tryd.func7 (by kernel_rfl)
    (of_decide_eq_true (by kernel_rfl)) (by unfold Func.isWrapper; first | (rw [if_pos (by decide +kernel)]; kernel_rfl) | (rw [if_neg (by decide +kernel)]; exact ⟨rfl, rfl⟩))
    (fun os started H enc _ => lifted os started H enc)
theorem proved : Rows.PredicateEqualsCardSaid :=
  Claim7.holds_tied_plain_at .later [] [.data] true (true, "62304b6054be119b6ae2d039ac867110b2739c12822506048046d376c491136a") false
    over (fun _ h => by cases h) (by kernel_rfl) (fun _ h => by cases h) predicateEquals_row_tie rfl ⟨rfl, rfl⟩ (by kernel_rfl) rfl
    (fun f fn hf hfn => by
      obtain rfl : f = 7 := Option.some.inj ((show Tryd.prog.funcNamed "partsync/partsynclaw05.PredicateEquals" = some 7 by kernel_rfl).symm.trans hf) |>.symm
      obtain rfl : fn = Tryd.f7 := (Option.some.inj (Tryd.func7.symm.trans hfn)).symm
      exact ⟨by kernel_rfl, fun j t ht => by
        rw [Tryd.params7] at ht
        have hm : t ∈ [22, 29] := by simpa using Array.mem_of_getElem? ht
        have hall : ([22, 29].all fun u => !Tryd.prog.wantsStandIn u) = true := by kernel_rfl
        exact (show Tryd.prog.wantsStandIn t = false by simpa using List.all_eq_true.1 hall t hm)⟩)
    (by kernel_rfl)

end Equals
end Go.Proofs.YtndnlmpmloiiiaaDoor
