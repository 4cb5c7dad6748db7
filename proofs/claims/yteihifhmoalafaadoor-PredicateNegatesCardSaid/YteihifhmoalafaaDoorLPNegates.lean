/- The law PredicateNegates returns true for all codes, where the package's table of shapes holds what start-up has laid. -/
import Derived.Test.YteihifhmoalafaaDoorPy
import Derived.Test.YteihifhmoalafaaDoorQf
import Derived.Test.YteihifhmoalafaaDoorQb
import Derived.Test.YteihifhmoalafaaDoorPna
import Derived.Test.YteihifhmoalafaaDoorPi
import Derived.Test.YteihifhmoalafaaDoorPfr
import Derived.Test.YteihifhmoalafaaDoorTie
import Derived.Test.YteihifhmoalafaaDoorCards
import Derived.SevenTiedAt
import Derived.Deep.RegionHeld3
set_option linter.unusedSimpArgs false
set_option linter.unusedVariables false
namespace Go.Proofs.YteihifhmoalafaaDoor
open Go.RowKit

theorem neg_holds (row par : List V) (p : Pr) : holdsP row par (.mk 6 0 zeroO zeroO [p]) = !holdsP row par p := by
  rw [holdsP_eq]; simp [Pr.op, Pr.args, failsHead]
theorem and_holds (row par : List V) (p q : Pr) : holdsP row par (.mk 4 0 zeroO zeroO [p, q]) = (holdsP row par p && holdsP row par q) := by
  rw [holdsP_eq]; simp [Pr.op, Pr.args, failsAny]
theorem or_holds (row par : List V) (p q : Pr) : holdsP row par (.mk 5 0 zeroO zeroO [p, q]) = (holdsP row par p || holdsP row par q) := by
  rw [holdsP_eq]; simp [Pr.op, Pr.args, holdsAny]
theorem and_none (row par : List V) : holdsP row par (.mk 4 0 zeroO zeroO []) = true := by
  rw [holdsP_eq]; simp [Pr.op, Pr.args, failsAny]
theorem or_none (row par : List V) : holdsP row par (.mk 5 0 zeroO zeroO []) = false := by
  rw [holdsP_eq]; simp [Pr.op, Pr.args, holdsAny]
/-- The block of two predicates. -/
abbrev pTwo (p q : Pr) (s t : Value) (T : TypeId) : Obj := .cells #[.int .i64 p.op, .int .i64 p.cmp, .int .i64 p.l.k, .int .i64 p.l.i, .int .i64 p.l.v.k, .int .i64 p.l.v.n, .string p.l.v.t, .int .i64 p.r.k, .int .i64 p.r.i, .int .i64 p.r.v.k, .int .i64 p.r.v.n, .string p.r.v.t, s, .int .i64 q.op, .int .i64 q.cmp, .int .i64 q.l.k, .int .i64 q.l.i, .int .i64 q.l.v.k, .int .i64 q.l.v.n, .string q.l.v.t, .int .i64 q.r.k, .int .i64 q.r.i, .int .i64 q.r.v.k, .int .i64 q.r.v.n, .string q.r.v.t, t] T
theorem two_in {S : Nat → Prop} {w : World} {m : Nat} {p q : Pr} {s t : Value} {T : TypeId} (hp : PrIn S w m s p.args) (hq : PrIn S w m t q.args) (h5 : S w.heap.size) :
    PrIn S (w.alloc (pTwo p q s t T)) (m + 1) (.slice (some ⟨w.heap.size, 0, none⟩) 2 2) [p, q] ∧ PrIn S (w.alloc (pTwo p q s t T)) (m + 1) (.slice (some ⟨w.heap.size, 0, none⟩) 1 2) [p] := by
  have hal : Below w.heap.size w (w.alloc (pTwo p q s t T)) := (Below.refl _ _).alloc (Nat.le_refl _) _
  have h0 : PrAt (w.alloc (pTwo p q s t T)) w.heap.size 0 p s := ⟨by go_simp, by go_simp, by go_simp, by go_simp, by go_simp, by go_simp, by go_simp, by go_simp, by go_simp, by go_simp, by go_simp, by go_simp, by go_simp⟩
  have h1 : PrAt (w.alloc (pTwo p q s t T)) w.heap.size 13 q t := ⟨by go_simp, by go_simp, by go_simp, by go_simp, by go_simp, by go_simp, by go_simp, by go_simp, by go_simp, by go_simp, by go_simp, by go_simp, by go_simp⟩
  refine ⟨⟨_, 2, rfl, by simp, .inr ⟨w.heap.size, 0, rfl, by simp, h5, fun i hi => ?_⟩⟩, ⟨_, 2, rfl, by simp, .inr ⟨w.heap.size, 0, rfl, by simp, h5, fun i hi => ?_⟩⟩⟩
  · obtain rfl | rfl : i = 0 ∨ i = 1 := by have : i < 2 := hi; omega
    · exact ⟨s, h0, hp.later hal⟩
    · exact ⟨t, h1, hq.later hal⟩
  · obtain rfl : i = 0 := by have : i < 1 := hi; omega
    exact ⟨s, h0, hp.later hal⟩
open Go.ChangeShapes Go.WideShapes Go.ChangeAt Go.RowKit
namespace Negates
set_option maxHeartbeats 40000000 in
set_option maxRecDepth 100000 in
theorem walk (a : Option Addr) (len cap : Nat) (zs : List Int) (w : World) (hr : IsRow .u8 w a len cap zs) (hs : Shapes w) :
    Calls Tryd.prog 5 #[.slice a len cap] w fun e w' => e = .returned (.bool true) ∧ Below w.heap.size w w' := by
  have mx := mixed
  have HN := Lib.hid (new160_calls a len cap zs w hr)
  have HS := Lib.hid hs
  clear hr hs
  go_enter Tryd.func5, Tryd.ntmps5
  go_wp2_with fail
  refine HN.out.mono ?_
  rintro e w1 ⟨b, c, rfl, hbs, hcs, hb1⟩
  have HBS := Lib.hid hbs
  have HB1 := Lib.hid hb1
  have HBL : Hid (b < w1.heap.size) := hcs.lt
  have HK : Hid (Calls Tryd.prog 11 #[.pointer (some ⟨b, 0, none⟩), .int .i64 4] w1 (GotKinds b c 4 w1)) := kinds_calls b c 4 (by omega) w1 hcs
  clear hcs hb1 HN hbs
  go_wp2_with fail
  refine HK.out.mono ?_
  rintro e w2 ⟨vk, ks, rfl, hkl, hok, hown, hcs2, hby2⟩
  have HB2 : Hid (Below w.heap.size w w2) := HB1.out.grown hby2 HB1.out.size (fun k hk => by cases hk; exact HBS.out)
  have HOK := Lib.hid (And.intro hkl hok)
  have hi2 : IntsAt (fun g => g ≠ b) w2 vk ks := hown.ints (by omega) (fun g hg => by have := HBL.out; omega)
  have HI : Hid (∀ w', w2.grownBy w' (some b) → IntsAt (fun g => g ≠ b) w' vk ks) := fun w' hg => hi2.kept (kept_by hg fun g hg' => by cases hg'; simp)
  have HPR : Hid (∀ w', w2.grownBy w' (some b) → CaseAt w' b c → Calls Tryd.prog 12 #[.pointer (some ⟨b, 0, none⟩), vk, .slice none 0 0, .int .i64 2] w' (GotPred b c ks [] 2 w')) := fun w' hg hc => casePredicate_calls (fun g => g ≠ b) b (by simp) c vk (.slice none 0 0) ks [] hok (by simp [KindsOk]) (by omega) (by simp) 2 (by omega) w' hc (HI.out w' hg) (IntsAt.nil none 0)
  have HRW : Hid (∀ w', w2.grownBy w' (some b) → CaseAt w' b c → Calls Tryd.prog 17 #[.pointer (some ⟨b, 0, none⟩), vk, .int .i64 0, .int .i64 3] w' (GotCells b c ks w')) := fun w' hg hc => caseRow_calls (fun g => g ≠ b) b (by simp) c vk ks hok w' hc (HI.out w' hg)
  have HB2L : Hid (b < w2.heap.size) := hcs2.lt
  have HP1 := Lib.hid (HPR.out w2 ⟨rfl, rfl, rfl, Nat.le_refl _, fun _ _ _ => rfl⟩ hcs2)
  obtain ⟨ka, kc, rfl, -⟩ := hi2.slice
  generalize ks.length = N at HI HPR HRW HP1 ⊢
  clear hkl hok hown hcs2 hby2 hi2 HK HB1 HI
  go_wp2_with fail
  refine HP1.out.mono ?_
  rintro e w3 ⟨p, s, rfl, hps, hck, hdp, hcs3, hby3⟩
  obtain ⟨sa, sc, rfl, -⟩ := hps.shape
  have HB3 : Hid (Below w.heap.size w w3) := HB2.out.grown hby3 HB2.out.size (fun k hk => by cases hk; exact HBS.out)
  have HBY3 := Lib.hid hby3
  have HPS3 : Hid (PrIn (fun g => g ≠ b) w3 3 (.slice sa p.args.length sc) p.args) := hps.mono fun g _ hg => by have := HB2L.out; omega
  have HP2 := Lib.hid (HPR.out w3 hby3 hcs3)
  clear hps hck hdp hcs3 hby3 HP1 HB2
  go_wp2_with fail
  refine HP2.out.mono ?_
  rintro e w4 ⟨q, t, rfl, hqs, hck, hdp, hcs4, hby4⟩
  obtain ⟨ta, tc, rfl, -⟩ := hqs.shape
  have HB4 : Hid (Below w.heap.size w w4) := HB3.out.grown hby4 HB3.out.size (fun k hk => by cases hk; exact HBS.out)
  have HBY4 := Lib.hid (by_trans HBY3.out hby4)
  have HPS4 : Hid (PrIn (fun g => g ≠ b) w4 3 (.slice sa p.args.length sc) p.args) := HPS3.out.kept (kept_by hby4 fun g hg => by cases hg; simp)
  have HQS4 : Hid (PrIn (fun g => g ≠ b) w4 3 (.slice ta q.args.length tc) q.args) := hqs.mono fun g _ hg => by have := HB2L.out; have := HBY3.out.size; omega
  obtain ⟨W, hW⟩ : ∃ W, W = (w4.alloc (pBlock p (.slice sa p.args.length sc) 29)).alloc (pBlock q (.slice ta q.args.length tc) 29) := ⟨_, rfl⟩
  have hg4 : Gro w4 W := by rw [hW]; exact ((Gro.refl _).alloc _).alloc _
  have hx1 : PBox W w4.heap.size p (.slice sa p.args.length sc) := by rw [hW]; exact (PBox.new w4 p _ _).later ((Below.refl _ _).alloc (Nat.le_refl _) _)
  have hx2 : PBox W (w4.heap.size + 1) q (.slice ta q.args.length tc) := by
    have h := PBox.new (w4.alloc (pBlock p (.slice sa p.args.length sc) 29)) q (.slice ta q.args.length tc) 29
    rw [hW]; simpa using h
  have HX := Lib.hid (And.intro hx1 hx2)
  have HBW : Hid (Below w.heap.size w W) := HB4.out.trans (hg4.below.mono HB4.out.size)
  have HPSW := Lib.hid (And.intro (HPS4.out.later hg4.below) (HQS4.out.later hg4.below))
  have hcW : CaseAt W b c := hcs4.grown (gro_by hg4 none)
  have HBLW : Hid (b < w4.heap.size) := hcs4.lt
  have HR := Lib.hid (HRW.out W (by_trans HBY4.out (gro_by hg4 _)) hcW)
  have HW := Lib.hid hW
  clear hqs hck hdp hcs4 hby4 hg4 hx1 hx2 hcW hW HP2 HPR HRW HPS3 HPS4 HQS4 HB3 HBY3
  go_wp2_with fail
  have hW := HW.out
  simp only [pBlock, pObj] at hW
  rw [← hW]
  clear hW HW
  generalize w4.heap.size = gb at HX HBLW ⊢
  refine HR.out.mono ?_
  rintro e w6 ⟨vr, r, rfl, hrl, hrc, hrv, hro, hcs6, hby6⟩
  have HB6 : Hid (Below w.heap.size w w6) := HBW.out.grown hby6 HBW.out.size (fun k hk => by cases hk; exact HBS.out)
  have hbx : ∀ {g : Nat} {p : Pr} {s : Value}, PBox W g p s → g ≠ b → PBox w6 g p s := fun {g p s} h hne =>
    have hb : w6.heap[g]? = W.heap[g]? := hby6.block g h.l (by simp; omega)
    have hc : ∀ o, w6.cell? ⟨g, o, none⟩ = W.cell? ⟨g, o, none⟩ := fun o => World.cell?_of_block hb
    ⟨Nat.lt_of_lt_of_le h.l hby6.size, (hc _).trans h.c0, (hc _).trans h.c1, (hc _).trans h.c2, (hc _).trans h.c3, (hc _).trans h.c4, (hc _).trans h.c5, (hc _).trans h.c6, (hc _).trans h.c7, (hc _).trans h.c8, (hc _).trans h.c9, (hc _).trans h.c10, (hc _).trans h.c11, (hc _).trans h.c12⟩
  have HX6 := Lib.hid (And.intro (hbx HX.out.1 (by have := HBLW.out; omega)) (hbx HX.out.2 (by have := HBLW.out; omega)))
  have HPS6 := Lib.hid (And.intro (HPSW.out.1.kept (kept_by hby6 fun g hg => by cases hg; simp)) (HPSW.out.2.kept (kept_by hby6 fun g hg => by cases hg; simp)))
  have HRA : Hid (RowAt w6 vr r) := RowAt.of_owned hro (by have := HOK.out.1; omega)
  have HRN : Hid (∀ w', RowAt w' (.slice none 0 0) []) := fun w' => ⟨none, 0, rfl, by simp, .inl rfl⟩
  obtain ⟨va, vn, vc, rfl⟩ := HRA.out.slice
  obtain ⟨x, hx⟩ : ∃ x, holdsP r [] p = x := ⟨_, rfl⟩
  obtain ⟨y, hy⟩ : ∃ y, holdsP r [] q = y := ⟨_, rfl⟩
  have HH1 : Hid (∀ w', Below w6.heap.size w6 w' → Calls Tryd.prog 19 #[.agg #[.int .i64 p.op, .int .i64 p.cmp, .int .i64 p.l.k, .int .i64 p.l.i, .int .i64 p.l.v.k, .int .i64 p.l.v.n, .string p.l.v.t, .int .i64 p.r.k, .int .i64 p.r.i, .int .i64 p.r.v.k, .int .i64 p.r.v.n, .string p.r.v.t, (.slice sa p.args.length sc)], .slice va vn vc, .slice none 0 0] w' (fun e w'' => e = .returned (.bool x) ∧ Gro w' w'')) := fun w' hb => by rw [← hx]; exact holds_at (fun g => g ≠ b) _ _ r [] 3 p _ w' (HRA.out.later hb) (HRN.out w') (HPS6.out.1.later hb)
  have HH2 : Hid (∀ w', Below w6.heap.size w6 w' → Calls Tryd.prog 19 #[.agg #[.int .i64 q.op, .int .i64 q.cmp, .int .i64 q.l.k, .int .i64 q.l.i, .int .i64 q.l.v.k, .int .i64 q.l.v.n, .string q.l.v.t, .int .i64 q.r.k, .int .i64 q.r.i, .int .i64 q.r.v.k, .int .i64 q.r.v.n, .string q.r.v.t, (.slice ta q.args.length tc)], .slice va vn vc, .slice none 0 0] w' (fun e w'' => e = .returned (.bool y) ∧ Gro w' w'')) := fun w' hb => by rw [← hy]; exact holds_at (fun g => g ≠ b) _ _ r [] 3 q _ w' (HRA.out.later hb) (HRN.out w') (HPS6.out.2.later hb)
  have HXY := Lib.hid (And.intro hx hy)
  obtain ⟨⟨l0, b0, b1, b2, b3, b4, b5, b6, b7, b8, b9, b10, b11, b12⟩, ⟨l1, d0, d1, d2, d3, d4, d5, d6, d7, d8, d9, d10, d11, d12⟩⟩ := HX6.out
  clear hrl hrc hrv hro hcs6 hby6 hbx hx hy HX HPSW HR HBW
  go_wp2_with fail
  go_quiet_grown (first | (go_at_call 19; with_reducible refine gro_calls (HH1.out _ ((Gro.refl w6).grown _ _).below)) | (go_at_call 19; with_reducible refine gro_calls (HH2.out _ ((Gro.refl w6).grown _ _).below)))
  try dsimp only
  obtain ⟨w8, hw8⟩ : ∃ w8, w8 = Sort.grow (w6.drewN nq) osq := ⟨_, rfl⟩
  have hg8 : Below w6.heap.size w6 w8 := by rw [hw8]; exact ((Gro.refl w6).grown _ _).below
  rw [← hw8]
  clear hw8 l0 b0 b1 b2 b3 b4 b5 b6 b7 b8 b9 b10 b11 b12 l1 d0 d1 d2 d3 d4 d5 d6 d7 d8 d9 d10 d11 d12
  obtain ⟨⟨l0, b0, b1, b2, b3, b4, b5, b6, b7, b8, b9, b10, b11, b12⟩, ⟨l1, d0, d1, d2, d3, d4, d5, d6, d7, d8, d9, d10, d11, d12⟩⟩ := And.intro (HX6.out.1.later hg8) (HX6.out.2.later hg8)
  have hb8 : b < w8.heap.size := by have := HBLW.out; omega
  obtain ⟨w9, hw9⟩ : ∃ w9, w9 = w8.alloc (pTwo p q (.slice sa p.args.length sc) (.slice ta q.args.length tc) 29) := ⟨_, rfl⟩
  have h2 := two_in (T := 29) (HPS6.out.1.later hg8) (HPS6.out.2.later hg8) (show w8.heap.size ≠ b by omega)
  rw [← hw9] at h2
  have hg9 : Below w8.heap.size w8 w9 := by rw [hw9]; exact (Below.refl _ _).alloc (Nat.le_refl _) _
  have h69 : Below w6.heap.size w6 w9 := hg8.trans (hg9.mono hg8.size)
  have HB9 : Hid (Below w.heap.size w w9) := HB6.out.trans (h69.mono HB6.out.size)
  have HBE := Lib.hid (begun_calls w9 (HS.out.later HB9.out))
  have hra := HRA.out.later h69
  have hx := HXY.out.1
  have hy := HXY.out.2
  have HNOT : Hid (∀ w', Below w9.heap.size w9 w' → Calls Tryd.prog 19 #[.agg #[.int .i64 6, .int .i64 0, .int .i64 0, .int .i64 0, .int .i64 0, .int .i64 0, .string ⟨#[]⟩, .int .i64 0, .int .i64 0, .int .i64 0, .int .i64 0, .string ⟨#[]⟩, .slice (some ⟨w8.heap.size, 0, none⟩) 1 2], .slice va vn vc, .slice none 0 0] w' (BoolG (!x) w')) := fun w' hb => by
    have h := holds_at (fun g => g ≠ b) _ _ r [] 4 (.mk 6 0 zeroO zeroO [p]) _ w' (hra.later hb) (HRN.out w') (h2.2.later hb)
    rw [neg_holds, hx] at h; exact h
  have HAND : Hid (∀ w', Below w9.heap.size w9 w' → Calls Tryd.prog 19 #[.agg #[.int .i64 4, .int .i64 0, .int .i64 0, .int .i64 0, .int .i64 0, .int .i64 0, .string ⟨#[]⟩, .int .i64 0, .int .i64 0, .int .i64 0, .int .i64 0, .string ⟨#[]⟩, .slice (some ⟨w8.heap.size, 0, none⟩) 2 2], .slice va vn vc, .slice none 0 0] w' (BoolG (x && y) w')) := fun w' hb => by
    have h := holds_at (fun g => g ≠ b) _ _ r [] 4 (.mk 4 0 zeroO zeroO [p, q]) _ w' (hra.later hb) (HRN.out w') (h2.1.later hb)
    rw [and_holds, hx, hy] at h; exact h
  have HOR : Hid (∀ w', Below w9.heap.size w9 w' → Calls Tryd.prog 19 #[.agg #[.int .i64 5, .int .i64 0, .int .i64 0, .int .i64 0, .int .i64 0, .int .i64 0, .string ⟨#[]⟩, .int .i64 0, .int .i64 0, .int .i64 0, .int .i64 0, .string ⟨#[]⟩, .slice (some ⟨w8.heap.size, 0, none⟩) 2 2], .slice va vn vc, .slice none 0 0] w' (BoolG (x || y) w')) := fun w' hb => by
    have h := holds_at (fun g => g ≠ b) _ _ r [] 4 (.mk 5 0 zeroO zeroO [p, q]) _ w' (hra.later hb) (HRN.out w') (h2.1.later hb)
    rw [or_holds, hx, hy] at h; exact h
  have HAN : Hid (∀ w', Below w9.heap.size w9 w' → Calls Tryd.prog 19 #[.agg #[.int .i64 4, .int .i64 0, .int .i64 0, .int .i64 0, .int .i64 0, .int .i64 0, .string ⟨#[]⟩, .int .i64 0, .int .i64 0, .int .i64 0, .int .i64 0, .string ⟨#[]⟩, .slice none 0 0], .slice va vn vc, .slice none 0 0] w' (BoolG true w')) := fun w' hb => by
    have h := holds_at (fun g => g ≠ b) _ _ r [] 4 (.mk 4 0 zeroO zeroO []) (.slice none 0 0) w' (hra.later hb) (HRN.out w') (PrIn.nil 4 none 0)
    rw [and_none] at h; exact h
  have HON : Hid (∀ w', Below w9.heap.size w9 w' → Calls Tryd.prog 19 #[.agg #[.int .i64 5, .int .i64 0, .int .i64 0, .int .i64 0, .int .i64 0, .int .i64 0, .string ⟨#[]⟩, .int .i64 0, .int .i64 0, .int .i64 0, .int .i64 0, .string ⟨#[]⟩, .slice none 0 0], .slice va vn vc, .slice none 0 0] w' (BoolG false w')) := fun w' hb => by
    have h := holds_at (fun g => g ≠ b) _ _ r [] 4 (.mk 5 0 zeroO zeroO []) (.slice none 0 0) w' (hra.later hb) (HRN.out w') (PrIn.nil 4 none 0)
    rw [or_none] at h; exact h
  have HW9 := Lib.hid hw9
  clear HH1 HH2 HXY HX6 HPS6 h2 hg8 hg9 h69 hra hx hy hw9 hb8 HRA HRN HB6 HBY4
  go_wp2_with fail
  have hw9 := HW9.out
  simp only [pTwo] at hw9
  rw [← hw9]
  clear hw9 HW9 l0 b0 b1 b2 b3 b4 b5 b6 b7 b8 b9 b10 b11 b12 l1 d0 d1 d2 d3 d4 d5 d6 d7 d8 d9 d10 d11 d12
  generalize w8.heap.size = g8 at HNOT HAND HOR ⊢
  refine HBE.out.mono ?_
  rintro e wa ⟨rfl, hba⟩
  have HBA := Lib.hid hba
  clear hba HBE
  cases x <;> cases y
  all_goals
    (go_wp2_with fail
     refine (HNOT.out wa HBA.out).mono ?_
     rintro e wb ⟨rfl, hgb⟩
     have HBB : Hid (Below w9.heap.size w9 wb) := HBA.out.trans (hgb.below.mono HBA.out.size)
     clear hgb
     go_wp2_with fail
     refine (HAND.out wb HBB.out).mono ?_
     rintro e wc ⟨rfl, hgc⟩
     have HBC : Hid (Below w9.heap.size w9 wc) := HBB.out.trans (hgc.below.mono HBB.out.size)
     clear hgc
     go_wp2_with fail
     refine (HOR.out wc HBC.out).mono ?_
     rintro e wd ⟨rfl, hgd⟩
     have HBD : Hid (Below w9.heap.size w9 wd) := HBC.out.trans (hgd.below.mono HBC.out.size)
     clear hgd
     go_wp2_with fail
     refine (HAN.out wd HBD.out).mono ?_
     rintro e we ⟨rfl, hge⟩
     have HBE : Hid (Below w9.heap.size w9 we) := HBD.out.trans (hge.below.mono HBD.out.size)
     clear hge
     go_wp2_with fail
     refine (HON.out we HBE.out).mono ?_
     rintro e wf ⟨rfl, hgf⟩
     have HBF : Hid (Below w9.heap.size w9 wf) := HBE.out.trans (hgf.below.mono HBE.out.size)
     clear hgf
     go_wp2
     go_ret
     exact ⟨rfl, HB9.out.trans (HBF.out.mono HB9.out.size)⟩)
set_option maxRecDepth 100000 in
theorem lifted (os : Os) (started : os.Started) (H : Type) (enc : TypeId × Value → H) :
    ReturnsInHanded {} Tryd.checked os 5 .any (fun w args => (Rows.predicateNegatesSpec.pre enc Tryd.prog Tryd.f5 [] false w args ∧ laidMetH Tryd.prog laid1 w) ∧ sizedMet enc Tryd.prog Tryd.f5 (OpenSpec.ofChange Rows.predicateNegatesSpec) false w args) (Rows.predicateNegatesSpec.post enc Tryd.prog Tryd.f5 false true false false) := by
  refine returnsInHanded_of_change_and (C := Tryd.checked) (X := fun w _ => laidMetH Tryd.prog laid1 w) (fun _ _ _ hh h => h.of_heap hh) own started (by kernel_rfl) Tryd.func5
    (ChangeSpec.witness_shaped (enc := enc) (C := Tryd.checked) (os := os) (X := fun w _ => laidMetH Tryd.prog laid1 w) false (World.doorLaid Tryd.prog 400 os) #[.slice none 0 0] 8 rfl (World.shaped_of_RefB (by kernel_rfl) (by kernel_rfl)) (by kernel_rfl) (by kernel_rfl) (by kernel_rfl) (door_met os _)) ?_
  intro W base args ds gs before hval0 hW hcnd hsz0 hL hlast
  have hS : Shapes W := shapes_of_laid hL
  have hval : ∀ (j : Nat) t v, Tryd.f5.params[j]? = some t → args[j]? = some v → Value.okWide Tryd.prog W .any base t v := hval0
  have hW' := hW
  obtain ⟨p, q, hA0, hV, rfl, hfz, hnd⟩ := hW
  have hA : DataW.TrodAll enc Tryd.prog W 0 (fun _ => true) true Tryd.f5.params.toList args.toList ds p := hA0
  have hsz : (DataW.weightsEach Tryd.prog (Tryd.f5.params.toList ++ Rows.predicateNegatesSpec.plain.varTypes Tryd.prog) (ds ++ gs)).all (· ≤ reachBytes) = true := hsz0
  rw [Tryd.params5] at hA hval hsz
  obtain ⟨v0, vs0, d0, ds0, p0, q0, hargs, rfl, rfl, h0, r0⟩ := trodAll_cons hA
  obtain ⟨rfl, rfl, rfl⟩ := trodAll_nil r0
  obtain rfl : args = #[v0] := by cases args; simp_all
  obtain ⟨rfl, rfl⟩ := trodVars_none hV
  have lt0 : ∀ x ∈ p0, x.block < W.heap.size := by obtain ⟨m, hm⟩ := h0; exact DataW.trod_lt m _ _ _ hm
  obtain ⟨a0, len0, cap0, z0, rfl, w0⟩ := open_codes (hval 0 22 v0 rfl rfl) h0
  clear hA0 hval0
  refine (walk a0 len0 cap0 z0 W w0 hS).mono fun e W' ⟨he, bel⟩ => ?_
  subst he
  exact ⟨_, rfl, _, _, _, [], _, [], hW', trodAll_mk1 (shut_bool Tryd.underlying4 _), (trodAll_cons_mk (Below.trod laidOut (by kernel_rfl) (of_decide_eq_true (by kernel_rfl)) h0 bel lt0) trodAll_mk0), rfl, bel.frame _, fun h => by cases h⟩

theorem over : Rows.predicateNegatesRow.holds Tryd.pinned (OpenSpec.ofChange Rows.predicateNegatesSpec) :=
  OpenClaim.holds_of_wide 5 Tryd.f5 rfl rfl rfl rfl rfl rfl rfl ⟨rfl, rfl, rfl, rfl, rfl⟩ rfl rfl rfl rfl rfl (by kernel_rfl) Tryd.func5 (by kernel_rfl)
    (of_decide_eq_true (by kernel_rfl)) (by unfold Func.isWrapper; first | (rw [if_pos (by decide +kernel)]; kernel_rfl) | (rw [if_neg (by decide +kernel)]; exact ⟨rfl, rfl⟩))
    (fun os started H enc _ => lifted os started H enc)
theorem proved : Rows.PredicateNegatesCardSaid :=
  Claim7.holds_tied_plain_at .later [] [.data] true (true, "9bab2e6f8f3a4086f970aadcef5cd4a53f1b43a7419a730cbea14f448ef152b5") false
    over (fun _ h => by cases h) (by kernel_rfl) (fun _ h => by cases h) predicateNegates_row_tie rfl ⟨rfl, rfl⟩ (by kernel_rfl) rfl
    (fun f fn hf hfn => by
      obtain rfl : f = 5 := Option.some.inj ((show Tryd.prog.funcNamed "partsync/partsynclaw05.PredicateNegates" = some 5 by kernel_rfl).symm.trans hf) |>.symm
      obtain rfl : fn = Tryd.f5 := (Option.some.inj (Tryd.func5.symm.trans hfn)).symm
      exact ⟨by kernel_rfl, fun j t ht => by
        rw [Tryd.params5] at ht
        have hm : t ∈ [22] := by simpa using Array.mem_of_getElem? ht
        have hall : ([22].all fun u => !Tryd.prog.wantsStandIn u) = true := by kernel_rfl
        exact (show Tryd.prog.wantsStandIn t = false by simpa using List.all_eq_true.1 hall t hm)⟩)
    (by kernel_rfl)

end Negates
end Go.Proofs.YteihifhmoalafaaDoor
