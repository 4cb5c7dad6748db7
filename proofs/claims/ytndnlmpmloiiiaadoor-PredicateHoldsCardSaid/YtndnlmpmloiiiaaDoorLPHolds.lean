/- The law PredicateHolds returns true for all codes, every predicate that can be read as data and all cells and values, where the package's table of shapes holds what start-up has laid. -/
import Derived.Test.YtndnlmpmloiiiaaDoorPy
import Derived.Test.YtndnlmpmloiiiaaDoorQf
import Derived.Test.YtndnlmpmloiiiaaDoorQw
import Derived.Test.YtndnlmpmloiiiaaDoorQa
import Derived.Test.YtndnlmpmloiiiaaDoorPna
import Derived.Test.YtndnlmpmloiiiaaDoorPfr
import Derived.Test.YtndnlmpmloiiiaaDoorPj
import Derived.Test.YtndnlmpmloiiiaaDoorQo
import Derived.Test.YtndnlmpmloiiiaaDoorTie
import Derived.Test.YtndnlmpmloiiiaaDoorCards
import Derived.SevenTiedAt
import Derived.Deep.RegionHeld3
set_option linter.unusedSimpArgs false
set_option linter.unusedVariables false
namespace Go.Proofs.YtndnlmpmloiiiaaDoor
open Go.RowKit

open Go.ChangeShapes Go.WideShapes Go.ChangeAt Go.RowKit
namespace HoldsLaw
abbrev pThree (p q r : Pr) (s t u : Value) (T : TypeId) : Obj := .cells #[.int .i64 p.op, .int .i64 p.cmp, .int .i64 p.l.k, .int .i64 p.l.i, .int .i64 p.l.v.k, .int .i64 p.l.v.n, .string p.l.v.t, .int .i64 p.r.k, .int .i64 p.r.i, .int .i64 p.r.v.k, .int .i64 p.r.v.n, .string p.r.v.t, s, .int .i64 q.op, .int .i64 q.cmp, .int .i64 q.l.k, .int .i64 q.l.i, .int .i64 q.l.v.k, .int .i64 q.l.v.n, .string q.l.v.t, .int .i64 q.r.k, .int .i64 q.r.i, .int .i64 q.r.v.k, .int .i64 q.r.v.n, .string q.r.v.t, t, .int .i64 r.op, .int .i64 r.cmp, .int .i64 r.l.k, .int .i64 r.l.i, .int .i64 r.l.v.k, .int .i64 r.l.v.n, .string r.l.v.t, .int .i64 r.r.k, .int .i64 r.r.i, .int .i64 r.r.v.k, .int .i64 r.r.v.n, .string r.r.v.t, u] T
theorem three_in {S : Nat → Prop} {w : World} {m : Nat} {p q r : Pr} {s t u : Value} {T : TypeId} (hp : PrIn S w m s p.args) (hq : PrIn S w m t q.args) (hr : PrIn S w m u r.args) (h5 : S w.heap.size) :
    PrIn S (w.alloc (pThree p q r s t u T)) (m + 1) (.slice (some ⟨w.heap.size, 0, none⟩) 3 3) [p, q, r] := by
  have hal : Below w.heap.size w (w.alloc (pThree p q r s t u T)) := (Below.refl _ _).alloc (Nat.le_refl _) _
  have h0 : PrAt (w.alloc (pThree p q r s t u T)) w.heap.size 0 p s := ⟨by go_simp, by go_simp, by go_simp, by go_simp, by go_simp, by go_simp, by go_simp, by go_simp, by go_simp, by go_simp, by go_simp, by go_simp, by go_simp⟩
  have h1 : PrAt (w.alloc (pThree p q r s t u T)) w.heap.size 13 q t := ⟨by go_simp, by go_simp, by go_simp, by go_simp, by go_simp, by go_simp, by go_simp, by go_simp, by go_simp, by go_simp, by go_simp, by go_simp, by go_simp⟩
  have h2 : PrAt (w.alloc (pThree p q r s t u T)) w.heap.size 26 r u := ⟨by go_simp, by go_simp, by go_simp, by go_simp, by go_simp, by go_simp, by go_simp, by go_simp, by go_simp, by go_simp, by go_simp, by go_simp, by go_simp⟩
  refine ⟨_, 3, rfl, by simp, .inr ⟨w.heap.size, 0, rfl, by simp, h5, fun i hi => ?_⟩⟩
  obtain rfl | rfl | rfl : i = 0 ∨ i = 1 ∨ i = 2 := by have : i < 3 := hi; omega
  · exact ⟨s, h0, hp.later hal⟩
  · exact ⟨t, h1, hq.later hal⟩
  · exact ⟨u, h2, hr.later hal⟩
set_option maxHeartbeats 40000000 in
set_option maxRecDepth 100000 in
theorem walk (a : Option Addr) (len cap : Nat) (zs : List Int) (kr : Nat) (raw : Pr) (sr : Value) (vo : Value) (row : List V) (va : Value) (par : List V) (w : World) (hr : IsRow .u8 w a len cap zs)
    (hraw : PrIn (fun _ => True) w kr sr raw.args ∧ fitP raw) (hoth : RowAt w vo row) (hpar : RowAt w va par) (hs : Shapes w) :
    Calls Tryd.prog 4 #[.slice a len cap, raw.val sr, vo, va] w fun e w' => e = .returned (.bool true) ∧ Below w.heap.size w w' := by
  have mx := mixed
  obtain ⟨ra, rc, rfl, -⟩ := hraw.1.shape
  obtain ⟨pa, pn, pc, rfl⟩ := RowAt.slice hpar
  obtain ⟨oa, on, oc, rfl⟩ := RowAt.slice hoth
  obtain ⟨W0, hW0⟩ : ∃ W0, W0 = w.alloc (pBlock raw (.slice ra raw.args.length rc) 29) := ⟨_, rfl⟩
  have hg0 : Below w.heap.size w W0 := by rw [hW0]; exact (Below.refl _ _).alloc (Nat.le_refl _) _
  have hx0 : PBx W0 w.heap.size raw (.slice ra raw.args.length rc) := by rw [hW0]; exact PBx.new w raw _ _
  have HX0 := Lib.hid hx0
  have HN := Lib.hid (new160_calls a len cap zs W0 (hr.later hg0))
  have HS : Hid (∀ w', Below w.heap.size w w' → Shapes w') := fun w' h => hs.later h
  have HRAW : Hid (∀ w', Below w.heap.size w w' → PrIn (fun _ => True) w' kr (.slice ra raw.args.length rc) raw.args) := fun w' h => hraw.1.later h
  have HPAR : Hid (∀ w', Below w.heap.size w w' → RowAt w' (.slice pa pn pc) par) := fun w' h => hpar.later h
  have HOTH : Hid (∀ w', Below w.heap.size w w' → RowAt w' (.slice oa on oc) row) := fun w' h => hoth.later h
  have HB0 := Lib.hid hg0
  have HW0 := Lib.hid hW0
  have HS0 : Hid (W0.heap.size = w.heap.size + 1) := by show _ = _; rw [hW0]; simp
  clear hr hs hraw hpar hoth hg0 hx0 hW0
  show Calls _ _ #[.slice a len cap, .agg #[.int .i64 raw.op, .int .i64 raw.cmp, .int .i64 raw.l.k, .int .i64 raw.l.i, .int .i64 raw.l.v.k, .int .i64 raw.l.v.n, .string raw.l.v.t, .int .i64 raw.r.k, .int .i64 raw.r.i, .int .i64 raw.r.v.k, .int .i64 raw.r.v.n, .string raw.r.v.t, (.slice ra raw.args.length rc)], .slice oa on oc, .slice pa pn pc] _ _
  go_enter Tryd.func4, Tryd.ntmps4
  go_wp2_with fail
  have hW0 := HW0.out
  simp only [pBlock, pObj] at hW0
  rw [← hW0]
  clear hW0 HW0
  refine HN.out.mono ?_
  rintro e w1 ⟨b, c, rfl, hbs, hcs, hb1⟩
  have HBW : Hid (w.heap.size ≤ b) := by have := HS0.out; show _ ≤ _; omega
  have HB1 : Hid (Below w.heap.size w w1) := HB0.out.trans (hb1.mono HB0.out.size)
  have HX1 : Hid (PBx w1 w.heap.size raw (.slice ra raw.args.length rc)) := HX0.out.by_ (r := none) ⟨hb1.os, hb1.tape, hb1.output, hb1.size, fun k hk _ => hb1.block k hk⟩ (by simp)
  have HNE : Hid (w.heap.size ≠ b) := by have := HS0.out; show _ ≠ _; omega
  have HK := Lib.hid (kinds_calls b c 4 (by omega) w1 hcs)
  have HBL : Hid (b < w1.heap.size) := hcs.lt
  clear hcs hb1 HN hbs HX0
  generalize w.heap.size = gr at HX1 HNE ⊢
  go_wp2_with fail
  refine HK.out.mono ?_
  rintro e w2 ⟨vk, ks, rfl, hkl, hok, hown, hcs2, hby2⟩
  have HOK := Lib.hid (And.intro hkl hok)
  have hi2 : IntsAt (fun g => g ≠ b) w2 vk ks := hown.ints (by omega) (fun g hg => by have := HBL.out; omega)
  have HI2 := Lib.hid hi2
  have HBY2 := Lib.hid hby2
  have HM := Lib.hid (kinds_calls b c 2 (by omega) w2 hcs2)
  obtain ⟨ka, kc, rfl, -⟩ := hi2.slice
  clear hkl hok hown hcs2 hby2 hi2 HK
  go_wp2_with fail
  refine HM.out.mono ?_
  rintro e w3 ⟨vm, ms, rfl, hml, hmk, hown, hcs3, hby3⟩
  have HMK := Lib.hid (And.intro hml hmk)
  have HI3 : Hid (IntsAt (fun g => g ≠ b) w3 (.slice ka ks.length kc) ks) := HI2.out.kept (kept_by hby3 fun g hg => by cases hg; simp)
  have hm3 : IntsAt (fun g => g ≠ b) w3 vm ms := hown.ints (by omega) (fun g hg => by have := HBL.out; have := HBY2.out.size; omega)
  obtain ⟨ma, mc, rfl, -⟩ := hm3.slice
  have HM3 := Lib.hid hm3
  have HBY3 := Lib.hid (by_trans HBY2.out hby3)
  have HP := Lib.hid (casePredicate_calls (fun g => g ≠ b) b (by simp) c (.slice ka ks.length kc) (.slice ma ms.length mc) ks ms HOK.out.2 hmk (by have := HOK.out.1; omega) (by omega) 3 (by omega) w3 hcs3 HI3.out hm3)
  clear hml hmk hown hcs3 hby3 hm3 HM HI2 HBY2
  go_wp2_with fail
  refine HP.out.mono ?_
  rintro e w4 ⟨p, s, rfl, hps, hck, hdp, hcs4, hby4⟩
  obtain ⟨sa, sc, rfl, -⟩ := hps.shape
  have HCP : Hid (countP p ≤ 24) := by
    have h := hck
    unfold checkE at h
    show _ ≤ _
    split at h
    · cases h
    · split at h
      · cases h
      · rename_i h2; omega
  obtain ⟨W4, hW4⟩ : ∃ W4, W4 = w4.alloc (pBlock p (.slice sa p.args.length sc) 29) := ⟨_, rfl⟩
  have hal4 : ∀ r, w4.grownBy W4 r := fun r => by rw [hW4]; exact World.grownBy_alloc _ _ _
  have HX4 : Hid (PBx W4 w4.heap.size p (.slice sa p.args.length sc)) := by rw [hW4]; exact PBx.new w4 p _ _
  have HG4 : Hid (w4.heap.size ≠ b ∧ b < W4.heap.size) := ⟨by have := hcs4.lt; omega, (hcs4.grown (hal4 none)).lt⟩
  have HBY4 : Hid (w1.grownBy W4 (some b)) := by_trans (by_trans HBY3.out hby4) (hal4 _)
  have HPS4 : Hid (PrIn (fun g => g ≠ b) W4 4 (.slice sa p.args.length sc) p.args) := (hps.mono fun g _ hg => by have := HBL.out; have := HBY3.out.size; omega).kept (kept_by (hal4 none) fun g hg => by cases hg)
  have HI4 : Hid (IntsAt (fun g => g ≠ b) W4 (.slice ka ks.length kc) ks) := HI3.out.kept (kept_by (by_trans hby4 (hal4 _)) fun g hg => by cases hg; simp)
  have HM4 : Hid (IntsAt (fun g => g ≠ b) W4 (.slice ma ms.length mc) ms) := HM3.out.kept (kept_by (by_trans hby4 (hal4 _)) fun g hg => by cases hg; simp)
  have HR := Lib.hid (caseRow_calls (fun g => g ≠ b) b (by simp) c (.slice ka ks.length kc) ks HOK.out.2 W4 (hcs4.grown (hal4 none)) HI4.out)
  have HW4 := Lib.hid hW4
  clear hps hck hdp hcs4 hby4 hW4 hal4 HP HI3 HM3 HBY3
  go_wp2_with fail
  have hW4 := HW4.out
  simp only [pBlock, pObj] at hW4
  rw [← hW4]
  clear hW4 HW4
  generalize w4.heap.size = gp at HX4 HG4 ⊢
  refine HR.out.mono ?_
  rintro e w5 ⟨vr, r, rfl, hrl, hrc, hrv, hro, hcs5, hby5⟩
  have HRO := Lib.hid hro
  have HRL : Hid (r.length ≤ 4) := by have := HOK.out.1; show _ ≤ _; omega
  have HBY5 := Lib.hid hby5
  have HM5 : Hid (IntsAt (fun g => g ≠ b) w5 (.slice ma ms.length mc) ms) := HM4.out.kept (kept_by hby5 fun g hg => by cases hg; simp)
  have HV := Lib.hid (values_calls (fun g => g ≠ b) b (by simp) c (.slice ma ms.length mc) ms HMK.out.2 w5 hcs5 HM5.out)
  obtain ⟨va', vn', vc', rfl⟩ := (RowAt.of_owned hro (by have := HOK.out.1; omega)).slice
  clear hrl hrc hrv hro hcs5 hby5 HR HM4 HI4
  go_wp2_with fail
  refine HV.out.mono ?_
  rintro e w6 ⟨vv, v, rfl, hvk, hvv, hvo, hcs6, hby6⟩
  have HVL : Hid (v.length ≤ 2) := by have h := congrArg List.length hvk; rw [List.length_map] at h; have := HMK.out.1; show _ ≤ _; omega
  have HBY6 := Lib.hid (by_trans HBY5.out hby6)
  have HVO := Lib.hid hvo
  have HRO6 := Lib.hid (World.ownsRow.kept HRO.out hby6 (own_far HRO.out HG4.out.2))
  obtain ⟨ua, un, uc, rfl⟩ := (RowAt.of_owned hvo (by have := HVL.out; omega)).slice
  have HX6 : Hid (PBx w6 gp p (.slice sa p.args.length sc)) := HX4.out.by_ HBY6.out (by have := HG4.out.1; simp; omega)
  have hby16 := by_trans HBY4.out HBY6.out
  have HXR6 : Hid (PBx w6 gr raw (.slice ra raw.args.length rc)) := HX1.out.by_ hby16 (by have := HNE.out; simp; omega)
  have HPS6 : Hid (PrIn (fun g => g ≠ b) w6 4 (.slice sa p.args.length sc) p.args) := HPS4.out.kept (kept_by HBY6.out fun g hg => by cases hg; simp)
  have HBY16 := Lib.hid hby16
  have hdw : w6.grownBy w6.drew none := ⟨rfl, rfl, rfl, Nat.le_refl _, fun _ _ _ => rfl⟩
  have HSP : Hid (Calls Tryd.prog 11 #[.pointer (some ⟨b, 0, none⟩), .agg #[.int .i64 p.op, .int .i64 p.cmp, .int .i64 p.l.k, .int .i64 p.l.i, .int .i64 p.l.v.k, .int .i64 p.l.v.n, .string p.l.v.t, .int .i64 p.r.k, .int .i64 p.r.i, .int .i64 p.r.v.k, .int .i64 p.r.v.n, .string p.r.v.t, (.slice sa p.args.length sc)]] w6.drew (GotSpoil (fun g => g ≠ b) b c w6.drew)) := spoil_all b c 4 p (fun g => g ≠ b) (.slice sa p.args.length sc) w6.drew (by simp) (by have := HCP.out; omega) (hcs6.grown hdw) (HPS6.out.kept (kept_by hdw fun g e => by cases e))
  have HDW := Lib.hid hdw
  have HC5 : Hid (b < w5.heap.size) := by have := HG4.out.2; have := HBY5.out.size; show _ < _; omega
  clear hvk hvv hvo hcs6 hby6 hby16 hdw HV HRO HX4 HPS4 HBY4 HBY5 HX1 HM5
  go_wp2_with fail
  refine wp_region_noPanic ?_
  refine wp_region_held (S := fun w' => PBox w' gr raw (.slice ra raw.args.length rc) ∧ PBox w' gp p (.slice sa p.args.length sc)) mx ?_
  have hHeld : (fun w' => PBox w' gr raw (.slice ra raw.args.length rc) ∧ PBox w' gp p (.slice sa p.args.length sc)) w6.drew := ⟨(HXR6.out.by_ HDW.out (by simp)).b, (HX6.out.by_ HDW.out (by simp)).b⟩
  change wpAnyH _ _ _ _ (fun w' => PBox w' gr raw (.slice ra raw.args.length rc) ∧ PBox w' gp p (.slice sa p.args.length sc)) _ _ _ w6.drew
  try simp only [Act.put, List.getElem_toArray, List.getElem_cons_succ, List.getElem_cons_zero, List.setIfInBounds_toArray, List.set_cons_zero, List.set_cons_succ]
  refine wpAnyH_take (i := 0) (v := ?_) rfl (by kernel_rfl) (by kernel_rfl) (by kernel_rfl) (fun _ _ _ h => h) (Or.inl ⟨by rfl, ?_⟩) (by assumption) ?_
  rotate_left
  · intro w hSw; obtain ⟨l, b0, b1, b2, b3, b4, b5, b6, b7, b8, b9, b10, b11, b12⟩ := hSw.2; clear hSw; go_simp; try with_reducible rfl
  try simp only [Act.put, List.getElem_toArray, List.getElem_cons_succ, List.getElem_cons_zero, List.setIfInBounds_toArray, List.set_cons_zero, List.set_cons_succ]
  refine wpAnyH_take (i := 1) (v := ?_) rfl (by kernel_rfl) (by kernel_rfl) (by kernel_rfl) (fun _ _ _ h => h) (Or.inl ⟨by rfl, ?_⟩) (by assumption) ?_
  rotate_left
  · intro w hSw; clear hSw; go_simp; try with_reducible rfl
  try simp only [Act.put, List.getElem_toArray, List.getElem_cons_succ, List.getElem_cons_zero, List.setIfInBounds_toArray, List.set_cons_zero, List.set_cons_succ]
  refine wpAnyH_take (i := 2) (v := ?_) rfl (by kernel_rfl) (by kernel_rfl) (by kernel_rfl) (fun _ _ _ h => h) (Or.inl ⟨by rfl, ?_⟩) (by assumption) ?_
  rotate_left
  · intro w hSw; obtain ⟨l, b0, b1, b2, b3, b4, b5, b6, b7, b8, b9, b10, b11, b12⟩ := hSw.2; clear hSw; go_simp; try with_reducible rfl
  try simp only [Act.put, List.getElem_toArray, List.getElem_cons_succ, List.getElem_cons_zero, List.setIfInBounds_toArray, List.set_cons_zero, List.set_cons_succ]
  refine wpAnyH_take (i := 4) (v := ?_) rfl (by kernel_rfl) (by kernel_rfl) (by kernel_rfl) (fun _ _ _ h => h) (Or.inl ⟨by rfl, ?_⟩) (by assumption) ?_
  rotate_left
  · intro w hSw; obtain ⟨l, b0, b1, b2, b3, b4, b5, b6, b7, b8, b9, b10, b11, b12⟩ := hSw.1; clear hSw; go_simp; try with_reducible rfl
  try simp only [Act.put, List.getElem_toArray, List.getElem_cons_succ, List.getElem_cons_zero, List.setIfInBounds_toArray, List.set_cons_zero, List.set_cons_succ]
  refine wpAnyH_take (i := 7) (v := ?_) rfl (by kernel_rfl) (by kernel_rfl) (by kernel_rfl) (fun _ _ _ h => h) (Or.inl ⟨by rfl, ?_⟩) (by assumption) ?_
  rotate_left
  · intro w hSw; clear hSw; go_simp; try with_reducible rfl
  try simp only [Act.put, List.getElem_toArray, List.getElem_cons_succ, List.getElem_cons_zero, List.setIfInBounds_toArray, List.set_cons_zero, List.set_cons_succ]
  refine wpAnyH_ready (rs := [3]) (by kernel_rfl) (by simp) ?_
  refine AllReadyH.cons rfl (fun K hK => ?_) AllReadyH.nil
  clear hHeld
  go_simp
  go_at_call 11
  refine (HSP.out).mono ?_
  rintro e w7 ⟨q, t, kq, rfl, hpq, hcs7, hby7⟩
  obtain ⟨qa, qc, rfl, -⟩ := hpq.shape
  have HBY7 : Hid (w6.grownBy w7 (some b)) := by_trans (by_some HDW.out _) hby7
  have HPQ7 := Lib.hid hpq
  have HXP7 := Lib.hid (HX6.out.by_ HBY7.out (by have := HG4.out.1; simp; omega))
  have HXR7 := Lib.hid (HXR6.out.by_ HBY7.out (by have := HNE.out; simp; omega))
  have HPS7 : Hid (PrIn (fun g => g ≠ b) w7 4 (.slice sa p.args.length sc) p.args) := HPS6.out.kept (kept_by HBY7.out fun g hg => by cases hg; simp)
  have HB7 : Hid (Below w.heap.size w w7) := HB1.out.grown (by_trans HBY16.out HBY7.out) HB1.out.size (fun k hk => by cases hk; exact HBW.out)
  have HRR7 : Hid (RowAt w7 (.slice va' vn' vc') r) := RowAt.of_owned (World.ownsRow.kept HRO6.out HBY7.out (own_far HRO6.out HG4.out.2)) (by have := HRL.out; omega)
  have HVR7 : Hid (RowAt w7 (.slice ua un uc) v) := RowAt.of_owned (World.ownsRow.kept HVO.out HBY7.out (own_far HVO.out HC5.out)) (by have := HVL.out; omega)
  clear hpq hcs7 hby7
  refine hK.out _ _ ⟨HXR7.out.b, HXP7.out.b⟩ (fun hHeld => ?_)
  clear hK K
  try simp only [Act.put, List.getElem_toArray, List.getElem_cons_succ, List.getElem_cons_zero, List.setIfInBounds_toArray, List.set_cons_zero, List.set_cons_succ]
  obtain ⟨W8, hW8⟩ : ∃ W8, W8 = w7.alloc (pThree p q raw (.slice sa p.args.length sc) (.slice qa q.args.length qc) (.slice ra raw.args.length rc) 29) := ⟨_, rfl⟩
  have hb78 : Below w7.heap.size w7 W8 := by rw [hW8]; exact (Below.refl _ _).alloc (Nat.le_refl _) _
  obtain ⟨KD, hKD⟩ : ∃ KD, KD = max 4 (max kq kr) := ⟨_, rfl⟩
  have HIN8 : Hid (PrIn (fun _ => True) W8 (KD + 1) (.slice (some ⟨w7.heap.size, 0, none⟩) 3 3) [p, q, raw]) := by
    rw [hW8]
    exact three_in ((HPS7.out.mono fun _ _ _ => trivial).deep (by omega)) ((HPQ7.out.mono fun _ _ _ => trivial).deep (by omega)) ((HRAW.out _ HB7.out).deep (by omega)) trivial
  have HB8 : Hid (Below w.heap.size w W8) := HB7.out.trans (hb78.mono HB7.out.size)
  have HX8 : Hid (PBox W8 gr raw (.slice ra raw.args.length rc) ∧ PBox W8 gp p (.slice sa p.args.length sc)) := ⟨HXR7.out.b.later hb78, HXP7.out.b.later hb78⟩
  have HRW : Hid (∀ w', Below W8.heap.size W8 w' → RowAt w' (.slice va' vn' vc') r) := fun w' h => (HRR7.out.later hb78).later h
  have HVW : Hid (∀ w', Below W8.heap.size W8 w' → RowAt w' (.slice ua un uc) v) := fun w' h => (HVR7.out.later hb78).later h
  have HWW : Hid (∀ w', Below W8.heap.size W8 w' → Below w.heap.size w w') := fun w' h => HB8.out.trans (h.mono HB8.out.size)
  have HW8 := Lib.hid hW8
  clear hW8 hb78 hKD
  try simp only [Act.put, List.getElem_toArray, List.getElem_cons_succ, List.getElem_cons_zero, List.setIfInBounds_toArray, List.set_cons_zero, List.set_cons_succ]
  refine wpAnyH_ready (rs := [5]) (by kernel_rfl) (by simp) ?_
  refine AllReadyH.cons rfl (fun K hK => ?_) AllReadyH.nil
  clear hHeld
  go_simp
  have hW8 := HW8.out
  simp only [pThree] at hW8
  rw [← hW8]
  clear hW8 HW8
  refine hK.out _ _ HX8.out (fun hHeld => ?_)
  clear hK K
  try simp only [Act.put, List.setIfInBounds_toArray, List.set_cons_zero, List.set_cons_succ]
  try simp only [Act.put, List.getElem_toArray, List.getElem_cons_succ, List.getElem_cons_zero, List.setIfInBounds_toArray, List.set_cons_zero, List.set_cons_succ]
  refine wpAnyH_ready (rs := [6]) (by kernel_rfl) (by simp) ?_
  refine AllReadyH.cons rfl (fun K hK => ?_) AllReadyH.nil
  clear hHeld
  go_simp
  refine hK.out _ _ HX8.out (fun hHeld => ?_)
  clear hK K
  try simp only [Act.put, List.getElem_toArray, List.getElem_cons_succ, List.getElem_cons_zero, List.setIfInBounds_toArray, List.set_cons_zero, List.set_cons_succ]
  try simp only [Act.put, List.getElem_toArray, List.getElem_cons_succ, List.getElem_cons_zero, List.setIfInBounds_toArray, List.set_cons_zero, List.set_cons_succ]
  refine wpAnyH_done (by kernel_rfl) ?_ _
  refine NoPanic.normal ?_
  clear hHeld HX8 HXR7 HXP7 HPQ7 HPS7 HBY7 HRR7 HVR7 HB7 HX6 HXR6 HPS6 HBY6 HBY16 HSP HDW HRO6 HVO HB8 HB1
  generalize w7.heap.size = gA at HIN8 ⊢
  go_wp2_with fail
  go_loopw [40] (fun i wr => ∃ j : Nat, j ≤ 3 ∧ i = .int .i64 j ∧ Below W8.heap.size W8 wr) (fun i _ => 3 - (intOf i).toNat)
  case atStart => exact ⟨0, by omega, rfl, Below.refl _ _⟩
  case round =>
    obtain ⟨j, hj, rfl, hg⟩ := hrel
    obtain ⟨wo, rfl⟩ : ∃ wo : World, wo = wr := ⟨_, rfl⟩
    have HGR := Lib.hid hg
    have hwk := step_i j (by omega)
    by_cases h3 : j = 3
    · subst h3
      have HBE := Lib.hid (begun_calls wo (HS.out _ (HWW.out _ hg)))
      clear hg
      go_wp2_with fail
      refine HBE.out.mono ?_
      rintro e wz ⟨rfl, hbz⟩
      have HBZ : Hid (Below W8.heap.size W8 wz) := HGR.out.trans (hbz.mono HGR.out.size)
      clear hbz
      go_wp2
      go_ret
      exact ⟨rfl, HWW.out _ HBZ.out⟩
    · have hlt2 : j < 3 := by omega
      have hlt : decide ((j : Int) < 3) = true := by simp; omega
      have hltI : (j : Int) < 3 := by omega
      have h0I : (0 : Int) ≤ (j : Int) := by omega
      have hkl : j < [p, q, raw].length := hlt2
      obtain ⟨xb, xo, xs, hxa, hxb, -, hxat, hxr⟩ := (HIN8.out.later hg).get hkl
      obtain ⟨x, hx⟩ : ∃ x, [p, q, raw][j] = x := ⟨_, rfl⟩
      rw [hx] at hxat hxr
      obtain ⟨rfl, rfl⟩ : gA = xb ∧ 0 = xo := by simpa using hxa
      obtain ⟨xa, xc, rfl, -⟩ := hxr.shape
      obtain ⟨w2x, hw2⟩ : ∃ w2x, w2x = wo.alloc (pBlock x (.slice xa x.args.length xc) 29) := ⟨_, rfl⟩
      have hb2 : Below wo.heap.size wo w2x := by rw [hw2]; exact (Below.refl _ _).alloc (Nat.le_refl _) _
      have HXX : Hid (∀ w', Below w2x.heap.size w2x w' → PBox w' wo.heap.size x (.slice xa x.args.length xc)) := fun w' h => (show PBox w2x wo.heap.size x (.slice xa x.args.length xc) by rw [hw2]; exact PBox.new wo x _ _).later h
      have HXI : Hid (∀ w', Below w2x.heap.size w2x w' → PrIn (fun _ => True) w' KD (.slice xa x.args.length xc) x.args) := fun w' h => (hxr.later hb2).later h
      have HB2 : Hid (Below W8.heap.size W8 w2x) := HGR.out.trans (hb2.mono HGR.out.size)
      have HB2W : Hid (∀ w', Below w2x.heap.size w2x w' → Below W8.heap.size W8 w') := fun w' h => HB2.out.trans (h.mono HB2.out.size)
      have HDX : Hid (Below w2x.heap.size w2x w2x.drew) := (Below.refl _ _).drew
      have HW2 := Lib.hid hw2
      obtain ⟨d0, d1, d2, d3, d4, d5, d6, d7, d8, d9, d10, d11, d12⟩ := hxat
      simp only [Nat.zero_add] at d0 d1 d2 d3 d4 d5 d6 d7 d8 d9 d10 d11 d12
      obtain ⟨y1, hy1⟩ : ∃ y1, holdsP r v x = y1 := ⟨_, rfl⟩
      obtain ⟨y2, hy2⟩ : ∃ y2, holdsP row v x = y2 := ⟨_, rfl⟩
      obtain ⟨y3, hy3⟩ : ∃ y3, holdsP r par x = y3 := ⟨_, rfl⟩
      have HY1 := Lib.hid hy1
      have HY2 := Lib.hid hy2
      have HY3 := Lib.hid hy3
      clear hg hx hxr hxa hw2 hb2 hy1 hy2 hy3
      go_wp2_with fail
      have hw2 := HW2.out
      simp only [pBlock, pObj] at hw2
      rw [← hw2]
      clear hw2 HW2 d0 d1 d2 d3 d4 d5 d6 d7 d8 d9 d10 d11 d12
      generalize wo.heap.size = gx at HXX ⊢
      refine wp_region_noPanic ?_
      refine wp_region_held (S := fun w' => PBox w' gx x (.slice xa x.args.length xc)) mx ?_
      have hHeld : (fun w' => PBox w' gx x (.slice xa x.args.length xc)) w2x.drew := HXX.out _ HDX.out
      change wpAnyH _ _ _ _ (fun w' => PBox w' gx x (.slice xa x.args.length xc)) _ _ _ w2x.drew
      try simp only [Act.put, List.getElem_toArray, List.getElem_cons_succ, List.getElem_cons_zero, List.setIfInBounds_toArray, List.set_cons_zero, List.set_cons_succ]
      refine wpAnyH_take (i := 0) (v := ?_) rfl (by kernel_rfl) (by kernel_rfl) (by kernel_rfl) (fun _ _ _ h => h) (Or.inl ⟨by rfl, ?_⟩) (by assumption) ?_
      rotate_left
      · intro w hSw; obtain ⟨l, b0, b1, b2, b3, b4, b5, b6, b7, b8, b9, b10, b11, b12⟩ := id hSw; clear hSw; go_simp; try with_reducible rfl
      try simp only [Act.put, List.getElem_toArray, List.getElem_cons_succ, List.getElem_cons_zero, List.setIfInBounds_toArray, List.set_cons_zero, List.set_cons_succ]
      refine wpAnyH_take (i := 1) (v := ?_) rfl (by kernel_rfl) (by kernel_rfl) (by kernel_rfl) (fun _ _ _ h => h) (Or.inl ⟨by rfl, ?_⟩) (by assumption) ?_
      rotate_left
      · intro w hSw; clear hSw; go_simp; try with_reducible rfl
      try simp only [Act.put, List.getElem_toArray, List.getElem_cons_succ, List.getElem_cons_zero, List.setIfInBounds_toArray, List.set_cons_zero, List.set_cons_succ]
      refine wpAnyH_take (i := 2) (v := ?_) rfl (by kernel_rfl) (by kernel_rfl) (by kernel_rfl) (fun _ _ _ h => h) (Or.inl ⟨by rfl, ?_⟩) (by assumption) ?_
      rotate_left
      · intro w hSw; clear hSw; go_simp; try with_reducible rfl
      try simp only [Act.put, List.getElem_toArray, List.getElem_cons_succ, List.getElem_cons_zero, List.setIfInBounds_toArray, List.set_cons_zero, List.set_cons_succ]
      refine wpAnyH_take (i := 4) (v := ?_) rfl (by kernel_rfl) (by kernel_rfl) (by kernel_rfl) (fun _ _ _ h => h) (Or.inl ⟨by rfl, ?_⟩) (by assumption) ?_
      rotate_left
      · intro w hSw; obtain ⟨l, b0, b1, b2, b3, b4, b5, b6, b7, b8, b9, b10, b11, b12⟩ := id hSw; clear hSw; go_simp; try with_reducible rfl
      try simp only [Act.put, List.getElem_toArray, List.getElem_cons_succ, List.getElem_cons_zero, List.setIfInBounds_toArray, List.set_cons_zero, List.set_cons_succ]
      refine wpAnyH_take (i := 5) (v := ?_) rfl (by kernel_rfl) (by kernel_rfl) (by kernel_rfl) (fun _ _ _ h => h) (Or.inl ⟨by rfl, ?_⟩) (by assumption) ?_
      rotate_left
      · intro w hSw; clear hSw; go_simp; try with_reducible rfl
      try simp only [Act.put, List.getElem_toArray, List.getElem_cons_succ, List.getElem_cons_zero, List.setIfInBounds_toArray, List.set_cons_zero, List.set_cons_succ]
      refine wpAnyH_take (i := 6) (v := ?_) rfl (by kernel_rfl) (by kernel_rfl) (by kernel_rfl) (fun _ _ _ h => h) (Or.inl ⟨by rfl, ?_⟩) (by assumption) ?_
      rotate_left
      · intro w hSw; clear hSw; go_simp; try with_reducible rfl
      try simp only [Act.put, List.getElem_toArray, List.getElem_cons_succ, List.getElem_cons_zero, List.setIfInBounds_toArray, List.set_cons_zero, List.set_cons_succ]
      refine wpAnyH_ready (rs := [3]) (by kernel_rfl) (by simp) ?_
      refine AllReadyH.cons rfl (fun K hK => ?_) AllReadyH.nil
      clear hHeld
      go_simp
      go_at_call 17
      refine (show Calls Tryd.prog 17 #[x.val (.slice xa x.args.length xc), (.slice va' vn' vc'), (.slice ua un uc)] w2x.drew (fun e w' => e = .returned (.bool y1) ∧ Gro w2x.drew w') from (by rw [← HY1.out]; exact holds_at (fun _ => True) (.slice va' vn' vc') (.slice ua un uc) r v KD x (.slice xa x.args.length xc) w2x.drew (HRW.out _ (HB2W.out _ HDX.out)) (HVW.out _ (HB2W.out _ HDX.out)) (HXI.out _ HDX.out))).mono ?_
      rintro e z0 ⟨rfl, hz0⟩
      have Hz0 : Hid (Below w2x.heap.size w2x z0) := HDX.out.trans (hz0.below.mono HDX.out.size)
      clear hz0
      refine hK.out _ _ (HXX.out _ Hz0.out) (fun hHeld => ?_)
      clear hK K
      try simp only [Act.put, List.getElem_toArray, List.getElem_cons_succ, List.getElem_cons_zero, List.setIfInBounds_toArray, List.set_cons_zero, List.set_cons_succ]
      try simp only [Act.put, List.getElem_toArray, List.getElem_cons_succ, List.getElem_cons_zero, List.setIfInBounds_toArray, List.set_cons_zero, List.set_cons_succ]
      refine wpAnyH_ready (rs := [7]) (by kernel_rfl) (by simp) ?_
      refine AllReadyH.cons rfl (fun K hK => ?_) AllReadyH.nil
      clear hHeld
      go_simp
      go_at_call 18
      refine (show Calls Tryd.prog 18 #[x.val (.slice xa x.args.length xc), (.slice va' vn' vc'), (.slice ua un uc)] z0 (fun e w' => e = .returned (.bool y1) ∧ Gro z0 w') from (by rw [← HY1.out]; exact rholds_at (fun _ => True) (.slice va' vn' vc') (.slice ua un uc) r v KD x (.slice xa x.args.length xc) z0 (HRW.out _ (HB2W.out _ Hz0.out)) (HVW.out _ (HB2W.out _ Hz0.out)) (HXI.out _ Hz0.out))).mono ?_
      rintro e z1 ⟨rfl, hz1⟩
      have Hz1 : Hid (Below w2x.heap.size w2x z1) := Hz0.out.trans (hz1.below.mono Hz0.out.size)
      clear hz1
      refine hK.out _ _ (HXX.out _ Hz1.out) (fun hHeld => ?_)
      clear hK K
      try simp only [Act.put, List.getElem_toArray, List.getElem_cons_succ, List.getElem_cons_zero, List.setIfInBounds_toArray, List.set_cons_zero, List.set_cons_succ]
      try simp only [Act.put, List.getElem_toArray, List.getElem_cons_succ, List.getElem_cons_zero, List.setIfInBounds_toArray, List.set_cons_zero, List.set_cons_succ]
      refine wpAnyH_take (i := 8) (v := ?_) rfl (by kernel_rfl) (by kernel_rfl) (by kernel_rfl) (fun _ _ _ h => h) (Or.inl ⟨by rfl, ?_⟩) (by assumption) ?_
      rotate_left
      · intro w hSw; clear hSw; go_simp; try with_reducible rfl
      try simp only [Act.put, List.getElem_toArray, List.getElem_cons_succ, List.getElem_cons_zero, List.setIfInBounds_toArray, List.set_cons_zero, List.set_cons_succ]
      refine wpAnyH_take (i := 9) (v := ?_) rfl (by kernel_rfl) (by kernel_rfl) (by kernel_rfl) (fun _ _ _ h => h) (Or.inl ⟨by rfl, ?_⟩) (by assumption) ?_
      rotate_left
      · intro w hSw; clear hSw; go_simp; try with_reducible rfl
      try simp only [Act.put, List.getElem_toArray, List.getElem_cons_succ, List.getElem_cons_zero, List.setIfInBounds_toArray, List.set_cons_zero, List.set_cons_succ]
      refine wpAnyH_take (i := 10) (v := ?_) rfl (by kernel_rfl) (by kernel_rfl) (by kernel_rfl) (fun _ _ _ h => h) (Or.inl ⟨by rfl, ?_⟩) (by assumption) ?_
      rotate_left
      · intro w hSw; obtain ⟨l, b0, b1, b2, b3, b4, b5, b6, b7, b8, b9, b10, b11, b12⟩ := id hSw; clear hSw; go_simp; try with_reducible rfl
      try simp only [Act.put, List.getElem_toArray, List.getElem_cons_succ, List.getElem_cons_zero, List.setIfInBounds_toArray, List.set_cons_zero, List.set_cons_succ]
      refine wpAnyH_take (i := 11) (v := ?_) rfl (by kernel_rfl) (by kernel_rfl) (by kernel_rfl) (fun _ _ _ h => h) (Or.inl ⟨by rfl, ?_⟩) (by assumption) ?_
      rotate_left
      · intro w hSw; clear hSw; go_simp; try with_reducible rfl
      try simp only [Act.put, List.getElem_toArray, List.getElem_cons_succ, List.getElem_cons_zero, List.setIfInBounds_toArray, List.set_cons_zero, List.set_cons_succ]
      refine wpAnyH_take (i := 12) (v := ?_) rfl (by kernel_rfl) (by kernel_rfl) (by kernel_rfl) (fun _ _ _ h => h) (Or.inl ⟨by rfl, ?_⟩) (by assumption) ?_
      rotate_left
      · intro w hSw; clear hSw; go_simp; try with_reducible rfl
      try simp only [Act.put, List.getElem_toArray, List.getElem_cons_succ, List.getElem_cons_zero, List.setIfInBounds_toArray, List.set_cons_zero, List.set_cons_succ]
      refine wpAnyH_take (i := 14) (v := ?_) rfl (by kernel_rfl) (by kernel_rfl) (by kernel_rfl) (fun _ _ _ h => h) (Or.inl ⟨by rfl, ?_⟩) (by assumption) ?_
      rotate_left
      · intro w hSw; obtain ⟨l, b0, b1, b2, b3, b4, b5, b6, b7, b8, b9, b10, b11, b12⟩ := id hSw; clear hSw; go_simp; try with_reducible rfl
      try simp only [Act.put, List.getElem_toArray, List.getElem_cons_succ, List.getElem_cons_zero, List.setIfInBounds_toArray, List.set_cons_zero, List.set_cons_succ]
      refine wpAnyH_take (i := 15) (v := ?_) rfl (by kernel_rfl) (by kernel_rfl) (by kernel_rfl) (fun _ _ _ h => h) (Or.inl ⟨by rfl, ?_⟩) (by assumption) ?_
      rotate_left
      · intro w hSw; clear hSw; go_simp; try with_reducible rfl
      try simp only [Act.put, List.getElem_toArray, List.getElem_cons_succ, List.getElem_cons_zero, List.setIfInBounds_toArray, List.set_cons_zero, List.set_cons_succ]
      refine wpAnyH_take (i := 16) (v := ?_) rfl (by kernel_rfl) (by kernel_rfl) (by kernel_rfl) (fun _ _ _ h => h) (Or.inl ⟨by rfl, ?_⟩) (by assumption) ?_
      rotate_left
      · intro w hSw; clear hSw; go_simp; try with_reducible rfl
      try simp only [Act.put, List.getElem_toArray, List.getElem_cons_succ, List.getElem_cons_zero, List.setIfInBounds_toArray, List.set_cons_zero, List.set_cons_succ]
      refine wpAnyH_ready (rs := [13]) (by kernel_rfl) (by simp) ?_
      refine AllReadyH.cons rfl (fun K hK => ?_) AllReadyH.nil
      clear hHeld
      go_simp
      go_at_call 17
      refine (show Calls Tryd.prog 17 #[x.val (.slice xa x.args.length xc), (.slice oa on oc), (.slice ua un uc)] z1 (fun e w' => e = .returned (.bool y2) ∧ Gro z1 w') from (by rw [← HY2.out]; exact holds_at (fun _ => True) (.slice oa on oc) (.slice ua un uc) row v KD x (.slice xa x.args.length xc) z1 (HOTH.out _ (HWW.out _ (HB2W.out _ Hz1.out))) (HVW.out _ (HB2W.out _ Hz1.out)) (HXI.out _ Hz1.out))).mono ?_
      rintro e z2 ⟨rfl, hz2⟩
      have Hz2 : Hid (Below w2x.heap.size w2x z2) := Hz1.out.trans (hz2.below.mono Hz1.out.size)
      clear hz2
      refine hK.out _ _ (HXX.out _ Hz2.out) (fun hHeld => ?_)
      clear hK K
      try simp only [Act.put, List.getElem_toArray, List.getElem_cons_succ, List.getElem_cons_zero, List.setIfInBounds_toArray, List.set_cons_zero, List.set_cons_succ]
      try simp only [Act.put, List.getElem_toArray, List.getElem_cons_succ, List.getElem_cons_zero, List.setIfInBounds_toArray, List.set_cons_zero, List.set_cons_succ]
      refine wpAnyH_ready (rs := [17]) (by kernel_rfl) (by simp) ?_
      refine AllReadyH.cons rfl (fun K hK => ?_) AllReadyH.nil
      clear hHeld
      go_simp
      go_at_call 18
      refine (show Calls Tryd.prog 18 #[x.val (.slice xa x.args.length xc), (.slice oa on oc), (.slice ua un uc)] z2 (fun e w' => e = .returned (.bool y2) ∧ Gro z2 w') from (by rw [← HY2.out]; exact rholds_at (fun _ => True) (.slice oa on oc) (.slice ua un uc) row v KD x (.slice xa x.args.length xc) z2 (HOTH.out _ (HWW.out _ (HB2W.out _ Hz2.out))) (HVW.out _ (HB2W.out _ Hz2.out)) (HXI.out _ Hz2.out))).mono ?_
      rintro e z3 ⟨rfl, hz3⟩
      have Hz3 : Hid (Below w2x.heap.size w2x z3) := Hz2.out.trans (hz3.below.mono Hz2.out.size)
      clear hz3
      refine hK.out _ _ (HXX.out _ Hz3.out) (fun hHeld => ?_)
      clear hK K
      try simp only [Act.put, List.getElem_toArray, List.getElem_cons_succ, List.getElem_cons_zero, List.setIfInBounds_toArray, List.set_cons_zero, List.set_cons_succ]
      try simp only [Act.put, List.getElem_toArray, List.getElem_cons_succ, List.getElem_cons_zero, List.setIfInBounds_toArray, List.set_cons_zero, List.set_cons_succ]
      refine wpAnyH_take (i := 18) (v := ?_) rfl (by kernel_rfl) (by kernel_rfl) (by kernel_rfl) (fun _ _ _ h => h) (Or.inl ⟨by rfl, ?_⟩) (by assumption) ?_
      rotate_left
      · intro w hSw; clear hSw; go_simp; try with_reducible rfl
      try simp only [Act.put, List.getElem_toArray, List.getElem_cons_succ, List.getElem_cons_zero, List.setIfInBounds_toArray, List.set_cons_zero, List.set_cons_succ]
      refine wpAnyH_take (i := 19) (v := ?_) rfl (by kernel_rfl) (by kernel_rfl) (by kernel_rfl) (fun _ _ _ h => h) (Or.inl ⟨by rfl, ?_⟩) (by assumption) ?_
      rotate_left
      · intro w hSw; clear hSw; go_simp; try with_reducible rfl
      try simp only [Act.put, List.getElem_toArray, List.getElem_cons_succ, List.getElem_cons_zero, List.setIfInBounds_toArray, List.set_cons_zero, List.set_cons_succ]
      refine wpAnyH_take (i := 20) (v := ?_) rfl (by kernel_rfl) (by kernel_rfl) (by kernel_rfl) (fun _ _ _ h => h) (Or.inl ⟨by rfl, ?_⟩) (by assumption) ?_
      rotate_left
      · intro w hSw; clear hSw; go_simp; try with_reducible rfl
      try simp only [Act.put, List.getElem_toArray, List.getElem_cons_succ, List.getElem_cons_zero, List.setIfInBounds_toArray, List.set_cons_zero, List.set_cons_succ]
      refine wpAnyH_take (i := 21) (v := ?_) rfl (by kernel_rfl) (by kernel_rfl) (by kernel_rfl) (fun _ _ _ h => h) (Or.inl ⟨by rfl, ?_⟩) (by assumption) ?_
      rotate_left
      · intro w hSw; obtain ⟨l, b0, b1, b2, b3, b4, b5, b6, b7, b8, b9, b10, b11, b12⟩ := id hSw; clear hSw; go_simp; try with_reducible rfl
      try simp only [Act.put, List.getElem_toArray, List.getElem_cons_succ, List.getElem_cons_zero, List.setIfInBounds_toArray, List.set_cons_zero, List.set_cons_succ]
      refine wpAnyH_take (i := 22) (v := ?_) rfl (by kernel_rfl) (by kernel_rfl) (by kernel_rfl) (fun _ _ _ h => h) (Or.inl ⟨by rfl, ?_⟩) (by assumption) ?_
      rotate_left
      · intro w hSw; clear hSw; go_simp; try with_reducible rfl
      try simp only [Act.put, List.getElem_toArray, List.getElem_cons_succ, List.getElem_cons_zero, List.setIfInBounds_toArray, List.set_cons_zero, List.set_cons_succ]
      refine wpAnyH_take (i := 23) (v := ?_) rfl (by kernel_rfl) (by kernel_rfl) (by kernel_rfl) (fun _ _ _ h => h) (Or.inl ⟨by rfl, ?_⟩) (by assumption) ?_
      rotate_left
      · intro w hSw; clear hSw; go_simp; try with_reducible rfl
      try simp only [Act.put, List.getElem_toArray, List.getElem_cons_succ, List.getElem_cons_zero, List.setIfInBounds_toArray, List.set_cons_zero, List.set_cons_succ]
      refine wpAnyH_take (i := 25) (v := ?_) rfl (by kernel_rfl) (by kernel_rfl) (by kernel_rfl) (fun _ _ _ h => h) (Or.inl ⟨by rfl, ?_⟩) (by assumption) ?_
      rotate_left
      · intro w hSw; obtain ⟨l, b0, b1, b2, b3, b4, b5, b6, b7, b8, b9, b10, b11, b12⟩ := id hSw; clear hSw; go_simp; try with_reducible rfl
      try simp only [Act.put, List.getElem_toArray, List.getElem_cons_succ, List.getElem_cons_zero, List.setIfInBounds_toArray, List.set_cons_zero, List.set_cons_succ]
      refine wpAnyH_take (i := 26) (v := ?_) rfl (by kernel_rfl) (by kernel_rfl) (by kernel_rfl) (fun _ _ _ h => h) (Or.inl ⟨by rfl, ?_⟩) (by assumption) ?_
      rotate_left
      · intro w hSw; clear hSw; go_simp; try with_reducible rfl
      try simp only [Act.put, List.getElem_toArray, List.getElem_cons_succ, List.getElem_cons_zero, List.setIfInBounds_toArray, List.set_cons_zero, List.set_cons_succ]
      refine wpAnyH_take (i := 27) (v := ?_) rfl (by kernel_rfl) (by kernel_rfl) (by kernel_rfl) (fun _ _ _ h => h) (Or.inl ⟨by rfl, ?_⟩) (by assumption) ?_
      rotate_left
      · intro w hSw; clear hSw; go_simp; try with_reducible rfl
      try simp only [Act.put, List.getElem_toArray, List.getElem_cons_succ, List.getElem_cons_zero, List.setIfInBounds_toArray, List.set_cons_zero, List.set_cons_succ]
      refine wpAnyH_ready (rs := [24]) (by kernel_rfl) (by simp) ?_
      refine AllReadyH.cons rfl (fun K hK => ?_) AllReadyH.nil
      clear hHeld
      go_simp
      go_at_call 17
      refine (show Calls Tryd.prog 17 #[x.val (.slice xa x.args.length xc), (.slice va' vn' vc'), (.slice pa pn pc)] z3 (fun e w' => e = .returned (.bool y3) ∧ Gro z3 w') from (by rw [← HY3.out]; exact holds_at (fun _ => True) (.slice va' vn' vc') (.slice pa pn pc) r par KD x (.slice xa x.args.length xc) z3 (HRW.out _ (HB2W.out _ Hz3.out)) (HPAR.out _ (HWW.out _ (HB2W.out _ Hz3.out))) (HXI.out _ Hz3.out))).mono ?_
      rintro e z4 ⟨rfl, hz4⟩
      have Hz4 : Hid (Below w2x.heap.size w2x z4) := Hz3.out.trans (hz4.below.mono Hz3.out.size)
      clear hz4
      refine hK.out _ _ (HXX.out _ Hz4.out) (fun hHeld => ?_)
      clear hK K
      try simp only [Act.put, List.getElem_toArray, List.getElem_cons_succ, List.getElem_cons_zero, List.setIfInBounds_toArray, List.set_cons_zero, List.set_cons_succ]
      try simp only [Act.put, List.getElem_toArray, List.getElem_cons_succ, List.getElem_cons_zero, List.setIfInBounds_toArray, List.set_cons_zero, List.set_cons_succ]
      refine wpAnyH_ready (rs := [28]) (by kernel_rfl) (by simp) ?_
      refine AllReadyH.cons rfl (fun K hK => ?_) AllReadyH.nil
      clear hHeld
      go_simp
      go_at_call 18
      refine (show Calls Tryd.prog 18 #[x.val (.slice xa x.args.length xc), (.slice va' vn' vc'), (.slice pa pn pc)] z4 (fun e w' => e = .returned (.bool y3) ∧ Gro z4 w') from (by rw [← HY3.out]; exact rholds_at (fun _ => True) (.slice va' vn' vc') (.slice pa pn pc) r par KD x (.slice xa x.args.length xc) z4 (HRW.out _ (HB2W.out _ Hz4.out)) (HPAR.out _ (HWW.out _ (HB2W.out _ Hz4.out))) (HXI.out _ Hz4.out))).mono ?_
      rintro e z5 ⟨rfl, hz5⟩
      have Hz5 : Hid (Below w2x.heap.size w2x z5) := Hz4.out.trans (hz5.below.mono Hz4.out.size)
      clear hz5
      refine hK.out _ _ (HXX.out _ Hz5.out) (fun hHeld => ?_)
      clear hK K
      try simp only [Act.put, List.getElem_toArray, List.getElem_cons_succ, List.getElem_cons_zero, List.setIfInBounds_toArray, List.set_cons_zero, List.set_cons_succ]
      try simp only [Act.put, List.getElem_toArray, List.getElem_cons_succ, List.getElem_cons_zero, List.setIfInBounds_toArray, List.set_cons_zero, List.set_cons_succ]
      refine wpAnyH_take (i := 29) (v := ?_) rfl (by kernel_rfl) (by kernel_rfl) (by kernel_rfl) (fun _ _ _ h => h) (Or.inl ⟨by rfl, ?_⟩) (by assumption) ?_
      rotate_left
      · intro w hSw; clear hSw; go_simp; try with_reducible rfl
      try simp only [Act.put, List.getElem_toArray, List.getElem_cons_succ, List.getElem_cons_zero, List.setIfInBounds_toArray, List.set_cons_zero, List.set_cons_succ]
      refine wpAnyH_take (i := 30) (v := ?_) rfl (by kernel_rfl) (by kernel_rfl) (by kernel_rfl) (fun _ _ _ h => h) (Or.inl ⟨by rfl, ?_⟩) (by assumption) ?_
      rotate_left
      · intro w hSw; clear hSw; go_simp; try with_reducible rfl
      try simp only [Act.put, List.setIfInBounds_toArray, List.set_cons_zero, List.set_cons_succ]
      try simp only [Act.put, List.getElem_toArray, List.getElem_cons_succ, List.getElem_cons_zero, List.setIfInBounds_toArray, List.set_cons_zero, List.set_cons_succ]
      refine wpAnyH_done (by kernel_rfl) ?_ _
      refine NoPanic.normal ?_
      clear hHeld
      have HZZ : Hid (Below W8.heap.size W8 z5) := HB2W.out _ Hz5.out
      go_wp2
      exact ⟨⟨j + 1, by omega, by go_num, HZZ.out⟩, by simp [intOf]; omega⟩
set_option maxRecDepth 100000 in
theorem lifted (os : Os) (started : os.Started) (H : Type) (enc : TypeId × Value → H) :
    ReturnsInHanded {} Tryd.checked os 4 .any (fun w args => (Rows.predicateHoldsSpec.pre enc Tryd.prog Tryd.f4 [] false w args ∧ laidMetH Tryd.prog laid1 w) ∧ sizedMet enc Tryd.prog Tryd.f4 (OpenSpec.ofChange Rows.predicateHoldsSpec) false w args) (Rows.predicateHoldsSpec.post enc Tryd.prog Tryd.f4 false true false false) := by
  refine returnsInHanded_of_change_and (C := Tryd.checked) (X := fun w _ => laidMetH Tryd.prog laid1 w) (fun _ _ _ hh h => h.of_heap hh) own started (by kernel_rfl) Tryd.func4
    (ChangeSpec.witness_shaped (enc := enc) (C := Tryd.checked) (os := os) (X := fun w _ => laidMetH Tryd.prog laid1 w) false (World.doorLaid Tryd.prog 400 os) #[.slice none 0 0, .agg #[.int .i64 0, .int .i64 0, .int .i64 0, .int .i64 0, .int .i64 0, .int .i64 0, .string ByteArray.empty, .int .i64 0, .int .i64 0, .int .i64 0, .int .i64 0, .string ByteArray.empty, .slice none 0 0], .slice none 0 0, .slice none 0 0] 8 rfl (World.shaped_of_RefB (by kernel_rfl) (by kernel_rfl)) (by kernel_rfl) (by kernel_rfl) (by kernel_rfl) (door_met os _)) ?_
  intro W base args ds gs before hval0 hW hcnd hsz0 hL hlast
  have hS : Shapes W := shapes_of_laid hL
  have hval : ∀ (j : Nat) t v, Tryd.f4.params[j]? = some t → args[j]? = some v → Value.okWide Tryd.prog W .any base t v := hval0
  have hW' := hW
  obtain ⟨p, q, hA0, hV, rfl, hfz, hnd⟩ := hW
  have hA : DataW.TrodAll enc Tryd.prog W 0 (fun _ => true) true Tryd.f4.params.toList args.toList ds p := hA0
  have hsz : (DataW.weightsEach Tryd.prog (Tryd.f4.params.toList ++ Rows.predicateHoldsSpec.plain.varTypes Tryd.prog) (ds ++ gs)).all (· ≤ reachBytes) = true := hsz0
  rw [Tryd.params4] at hA hval hsz
  obtain ⟨v0, vs0, d0, ds0, p0, q0, hargs, rfl, rfl, h0, r0⟩ := trodAll_cons hA
  obtain ⟨v1, vs1, d1, ds1, p1, q1, rfl, rfl, rfl, h1, r1⟩ := trodAll_cons r0
  obtain ⟨v2, vs2, d2, ds2, p2, q2, rfl, rfl, rfl, h2, r2⟩ := trodAll_cons r1
  obtain ⟨v3, vs3, d3, ds3, p3, q3, rfl, rfl, rfl, h3, r3⟩ := trodAll_cons r2
  obtain ⟨rfl, rfl, rfl⟩ := trodAll_nil r3
  obtain rfl : args = #[v0, v1, v2, v3] := by cases args; simp_all
  obtain ⟨rfl, rfl⟩ := trodVars_none hV
  have lt0 : ∀ x ∈ p0, x.block < W.heap.size := by obtain ⟨m, hm⟩ := h0; exact DataW.trod_lt m _ _ _ hm
  obtain ⟨a0, len0, cap0, z0, rfl, w0⟩ := open_codes (hval 0 22 v0 rfl rfl) h0
  have lt1 : ∀ x ∈ p1, x.block < W.heap.size := by obtain ⟨m, hm⟩ := h1; exact DataW.trod_lt m _ _ _ hm
  obtain ⟨k1, x1, s1, rfl, w1⟩ := open_Pr (hval 1 29 v1 rfl rfl) h1 (fun n hn => by have hq := List.all_eq_true.1 hsz n (DataW.weights_mem_each (j := 1) (t := 29) rfl rfl n hn); simpa using hq)
  have lt2 : ∀ x ∈ p2, x.block < W.heap.size := by obtain ⟨m, hm⟩ := h2; exact DataW.trod_lt m _ _ _ hm
  obtain ⟨x2, w2⟩ := open_Row (hval 2 41 v2 rfl rfl) h2 (fun es sp he => by have hq := sized_slice (j := 2) (e := 24) hsz rfl (by rw [he]; rfl) Tryd.underlying41; rwa [bytes24] at hq)
  have lt3 : ∀ x ∈ p3, x.block < W.heap.size := by obtain ⟨m, hm⟩ := h3; exact DataW.trod_lt m _ _ _ hm
  obtain ⟨x3, w3⟩ := open_Vs (hval 3 40 v3 rfl rfl) h3 (fun es sp he => by have hq := sized_slice (j := 3) (e := 24) hsz rfl (by rw [he]; rfl) Tryd.underlying40; rwa [bytes24] at hq)
  clear hA0 hval0
  refine (walk a0 len0 cap0 z0 k1 x1 s1 v2 x2 v3 x3 W w0 w1 w2 w3 hS).mono fun e W' ⟨he, bel⟩ => ?_
  subst he
  exact ⟨_, rfl, _, _, _, [], _, [], hW', trodAll_mk1 (shut_bool Tryd.underlying4 _), (trodAll_cons_mk (Below.trod laidOut (by kernel_rfl) (of_decide_eq_true (by kernel_rfl)) h0 bel lt0) (trodAll_cons_mk (Below.trod laidOut (by kernel_rfl) (of_decide_eq_true (by kernel_rfl)) h1 bel lt1) (trodAll_cons_mk (Below.trod laidOut (by kernel_rfl) (of_decide_eq_true (by kernel_rfl)) h2 bel lt2) (trodAll_cons_mk (Below.trod laidOut (by kernel_rfl) (of_decide_eq_true (by kernel_rfl)) h3 bel lt3) trodAll_mk0)))), rfl, bel.frame _, fun h => by cases h⟩

theorem over : Rows.predicateHoldsRow.holds Tryd.pinned (OpenSpec.ofChange Rows.predicateHoldsSpec) :=
  OpenClaim.holds_of_wide 4 Tryd.f4 rfl rfl rfl rfl rfl rfl rfl ⟨rfl, rfl, rfl, rfl, rfl⟩ rfl rfl rfl rfl rfl (by kernel_rfl) Tryd.func4 (by kernel_rfl)
    (of_decide_eq_true (by kernel_rfl)) (by unfold Func.isWrapper; first | (rw [if_pos (by decide +kernel)]; kernel_rfl) | (rw [if_neg (by decide +kernel)]; exact ⟨rfl, rfl⟩))
    (fun os started H enc _ => lifted os started H enc)
theorem proved : Rows.PredicateHoldsCardSaid :=
  Claim7.holds_tied_plain_at .later [] [.data] true (true, "62304b6054be119b6ae2d039ac867110b2739c12822506048046d376c491136a") false
    over (fun _ h => by cases h) (by kernel_rfl) (fun _ h => by cases h) predicateHolds_row_tie rfl ⟨rfl, rfl⟩ (by kernel_rfl) rfl
    (fun f fn hf hfn => by
      obtain rfl : f = 4 := Option.some.inj ((show Tryd.prog.funcNamed "partsync/partsynclaw05.PredicateHolds" = some 4 by kernel_rfl).symm.trans hf) |>.symm
      obtain rfl : fn = Tryd.f4 := (Option.some.inj (Tryd.func4.symm.trans hfn)).symm
      exact ⟨by kernel_rfl, fun j t ht => by
        rw [Tryd.params4] at ht
        have hm : t ∈ [22, 29, 41, 40] := by simpa using Array.mem_of_getElem? ht
        have hall : ([22, 29, 41, 40].all fun u => !Tryd.prog.wantsStandIn u) = true := by kernel_rfl
        exact (show Tryd.prog.wantsStandIn t = false by simpa using List.all_eq_true.1 hall t hm)⟩)
    (by kernel_rfl)

end HoldsLaw
end Go.Proofs.YtndnlmpmloiiiaaDoor
