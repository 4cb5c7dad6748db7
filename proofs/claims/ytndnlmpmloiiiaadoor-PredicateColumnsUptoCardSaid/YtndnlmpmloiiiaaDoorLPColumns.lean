/- The law PredicateColumns returns true for all codes and every predicate of bounded bulk that can be read as data, where the package's table of shapes holds what start-up has laid. -/
import Derived.Test.YtndnlmpmloiiiaaDoorPy
import Derived.Test.YtndnlmpmloiiiaaDoorQf
import Derived.Test.YtndnlmpmloiiiaaDoorQa
import Derived.Test.YtndnlmpmloiiiaaDoorPna
import Derived.Test.YtndnlmpmloiiiaaDoorPfr
import Derived.Test.YtndnlmpmloiiiaaDoorPi
import Derived.Test.YtndnlmpmloiiiaaDoorQo
import Derived.Test.YtndnlmpmloiiiaaDoorQx
import Derived.Test.YtndnlmpmloiiiaaDoorQj
import Derived.Test.YtndnlmpmloiiiaaDoorQn
import Derived.Test.YtndnlmpmloiiiaaDoorTie
import Derived.Test.YtndnlmpmloiiiaaDoorCards
import Derived.SevenTiedAt
import Derived.Deep.RegionHeld3
import Derived.Deep.DeepHandedRow
import Derived.Deep.DeepWitnessRowRef
import Derived.JoinedCond
set_option linter.unusedSimpArgs false
set_option linter.unusedVariables false
namespace Go.Proofs.YtndnlmpmloiiiaaDoor
open Go.RowKit

open Go.ChangeShapes Go.WideShapes Go.ChangeAt Go.RowKit
namespace Columns
mutual
theorem cols_count : ∀ p : Pr, (colsP p).length ≤ 2 * countP p
  | .mk op cmp l r args => by
    have h0 : (opdCols l).length ≤ 1 ∧ (opdCols r).length ≤ 1 := by constructor <;> (unfold opdCols; split <;> simp)
    have h1 := colsL_count args
    rw [colsP_eq, countP, List.length_append]
    split
    · rw [List.length_append]; omega
    · simp; omega
theorem colsL_count : ∀ ps : List Pr, (colsL ps).length ≤ 2 * countL ps
  | [] => by simp [colsL]
  | p :: ps => by rw [colsL, countL, List.length_append]; have := cols_count p; have := colsL_count ps; omega
end
theorem by_bel {w w' : World} {r : Option Nat} (h : Below w.heap.size w w') : w.grownBy w' r := ⟨h.os, h.tape, h.output, h.size, fun k hk _ => h.block k hk⟩
theorem bel_by {w w' : World} (h : w.grownBy w' none) : Below w.heap.size w w' := ⟨h.os, h.tape, h.output, h.size, fun k hk => h.block k hk (by simp)⟩
/-- Where a row that is stored into lies. -/
theorem own_where {base : Nat} {w : World} {v : Value} {r : List V} (h : w.ownsRow base 24 3 v r.length (flat r)) : ∃ (a : Option Addr) (cap : Nat), v = .slice a r.length cap ∧ (r = [] ∨ ∃ g, a = some ⟨g, 0, none⟩ ∧ base ≤ g ∧ g < w.heap.size) := by
  obtain ⟨hx, ⟨rfl, hn⟩ | ⟨g, cap, cur, hv, hg, hh, hcap, hm, hs, ht⟩⟩ := h
  · obtain rfl : r = [] := List.eq_nil_of_length_eq_zero hn
    exact ⟨none, 0, rfl, .inl rfl⟩
  · refine ⟨some ⟨g, 0, none⟩, cap, hv, .inr ⟨g, rfl, hg, ?_⟩⟩
    by_cases hlt : g < w.heap.size
    · exact hlt
    · rw [Array.getElem?_eq_none (by omega)] at hh; cases hh
theorem own_apart {w w' : World} {base base' : Nat} {e e' : TypeId} {size size' n n' : Nat} {v v' : Value} {xs xs' : List Value} (h : w.ownsRow base e size v n xs) (h' : w'.ownsRow base' e' size' v' n' xs') (hb : w.heap.size ≤ base') : v.ownBlock = none ∨ v.ownBlock ≠ v'.ownBlock := by
  cases hv : v.ownBlock with
  | none => exact .inl rfl
  | some k =>
    right
    intro e1
    have h1 := (h.lt k hv).2
    have h2 := (h'.lt k e1.symm).1
    omega
theorem set_at {a : List V} {R : List V} {m : Nat} (hm : m < R.length) (ha : m < a.length) : (∀ i, atV a i = atV R i → atV a i = atV (R.set m a[m]) i) ∧ atV a (m : Int) = atV (R.set m a[m]) (m : Int) := by
  refine ⟨fun i hi => ?_, ?_⟩
  · unfold atV at hi ⊢
    split
    · rename_i h0
      rw [if_pos h0, if_pos h0] at hi
      by_cases e : i.toNat = m
      · rw [List.getD_eq_getElem?_getD, List.getD_eq_getElem?_getD, e, List.getElem?_set_self hm, List.getElem?_eq_getElem ha]
      · rw [hi, List.getD_eq_getElem?_getD, List.getD_eq_getElem?_getD, List.getElem?_set_ne (by omega)]
    · rfl
  · unfold atV
    rw [if_pos (by omega), if_pos (by omega), List.getD_eq_getElem?_getD, List.getD_eq_getElem?_getD, Int.toNat_natCast, List.getElem?_set_self hm, List.getElem?_eq_getElem ha]
set_option maxHeartbeats 40000000 in
set_option maxRecDepth 100000 in
theorem walk (a : Option Addr) (len cap : Nat) (zs : List Int) (kr : Nat) (raw : Pr) (sr : Value) (w : World) (hr : IsRow .u8 w a len cap zs)
    (hraw : PrIn (fun _ => True) w kr sr raw.args ∧ fitP raw ∧ (colsP raw).length ≤ 1048576) (hs : Shapes w) :
    Calls Tryd.prog 6 #[.slice a len cap, raw.val sr] w fun e w' => e = .returned (.bool true) ∧ Below w.heap.size w w' := by
  have mx := mixed
  obtain ⟨ra, rc, rfl, -⟩ := hraw.1.shape
  obtain ⟨W0, hW0⟩ : ∃ W0, W0 = w.alloc (pBlock raw (.slice ra raw.args.length rc) 29) := ⟨_, rfl⟩
  have hg0 : Below w.heap.size w W0 := by rw [hW0]; exact (Below.refl _ _).alloc (Nat.le_refl _) _
  have hx0 : PBx W0 w.heap.size raw (.slice ra raw.args.length rc) := by rw [hW0]; exact PBx.new w raw _ _
  have HX0 := Lib.hid hx0
  have HN := Lib.hid (new160_calls a len cap zs W0 (hr.later hg0))
  have HS : Hid (∀ w', Below w.heap.size w w' → Shapes w') := fun w' h => hs.later h
  have HRAW : Hid (∀ w', Below w.heap.size w w' → PrIn (fun _ => True) w' kr (.slice ra raw.args.length rc) raw.args) := fun w' h => hraw.1.later h
  have HRL := Lib.hid hraw.2.2
  have HB0 := Lib.hid hg0
  have HW0 := Lib.hid hW0
  have HS0 : Hid (W0.heap.size = w.heap.size + 1) := by show _ = _; rw [hW0]; simp
  clear hr hs hraw hg0 hx0 hW0
  show Calls _ _ #[.slice a len cap, .agg #[.int .i64 raw.op, .int .i64 raw.cmp, .int .i64 raw.l.k, .int .i64 raw.l.i, .int .i64 raw.l.v.k, .int .i64 raw.l.v.n, .string raw.l.v.t, .int .i64 raw.r.k, .int .i64 raw.r.i, .int .i64 raw.r.v.k, .int .i64 raw.r.v.n, .string raw.r.v.t, (.slice ra raw.args.length rc)]] _ _
  go_enter Tryd.func6, Tryd.ntmps6
  go_wp2_with fail
  have hW0 := HW0.out
  simp only [pBlock, pObj] at hW0
  rw [← hW0]
  clear hW0 HW0
  refine HN.out.mono ?_
  rintro e w1 ⟨b, c, rfl, hbs, hcs, hb1⟩
  have HBW : Hid (w.heap.size ≤ b) := by have := HS0.out; show _ ≤ _; omega
  have HB1 : Hid (Below w.heap.size w w1) := HB0.out.trans (hb1.mono HB0.out.size)
  have HX1 : Hid (PBx w1 w.heap.size raw (.slice ra raw.args.length rc)) := HX0.out.by_ (r := none) (by_bel hb1) (by simp)
  have HNE : Hid (w.heap.size ≠ b) := by have := HS0.out; show _ ≠ _; omega
  have HK := Lib.hid (kinds_calls b c 5 (by omega) w1 hcs)
  have HBL : Hid (b < w1.heap.size) := hcs.lt
  clear hcs hb1 HN hbs HX0
  generalize w.heap.size = gr at HX1 HNE ⊢
  go_wp2_with fail
  refine HK.out.mono ?_
  rintro e w3 ⟨vk, ks, rfl, hkl, hok, hown, hcs3, hby3⟩
  have HOK := Lib.hid (And.intro hkl hok)
  have hi3 : IntsAt (fun g => g ≠ b) w3 vk ks := hown.ints (by omega) (fun g hg => by have := HBL.out; omega)
  have HI3 := Lib.hid hi3
  have HBY3 := Lib.hid hby3
  obtain ⟨ka, kc, rfl, -⟩ := hi3.slice
  have HP := Lib.hid (casePredicate_calls (fun g => g ≠ b) b (by simp) c (.slice ka ks.length kc) (.slice none 0 0) ks [] hok (by intro k hk; cases hk) (by omega) (by simp) 3 (by omega) w3 hcs3 hi3 (IntsAt.nil _ _))
  clear hkl hok hown hcs3 hby3 hi3 HK
  go_wp2_with fail
  refine HP.out.mono ?_
  rintro e w4 ⟨p, s, rfl, hps, hck, hdp, hcs4, hby4⟩
  obtain ⟨sa, sc, rfl, -⟩ := hps.shape
  have HCK := Lib.hid hck
  have HCP : Hid ((colsP p).length ≤ 48) := by
    have h := hck
    unfold checkE at h
    show _ ≤ _
    have h9 := cols_count p
    split at h
    · cases h
    · split at h
      · cases h
      · rename_i h2; omega
  obtain ⟨W4, hW4⟩ : ∃ W4, W4 = w4.alloc (pBlock p (.slice sa p.args.length sc) 29) := ⟨_, rfl⟩
  have hal4 : ∀ r, w4.grownBy W4 r := fun r => by rw [hW4]; exact World.grownBy_alloc _ _ _
  have HX4 : Hid (PBx W4 w4.heap.size p (.slice sa p.args.length sc)) := by rw [hW4]; exact PBx.new w4 p _ _
  have HG4 : Hid (w4.heap.size ≠ b ∧ b < W4.heap.size) := ⟨by have := hcs4.lt; omega, (hcs4.grown (hal4 none)).lt⟩
  have HBY4 : Hid (w1.grownBy W4 (some b)) := by_trans (by_trans HBY3.out hby4) (hal4 _)
  have HPS4 : Hid (PrIn (fun g => g ≠ b) W4 4 (.slice sa p.args.length sc) p.args) := (hps.mono fun g _ hg => by have := HBL.out; have := HBY3.out.size; omega).kept (kept_by (hal4 none) fun g hg => by cases hg)
  have HI4 : Hid (IntsAt (fun g => g ≠ b) W4 (.slice ka ks.length kc) ks) := HI3.out.kept (kept_by (by_trans hby4 (hal4 _)) fun g hg => by cases hg; simp)
  have HC4 := Lib.hid (hcs4.grown (hal4 none))
  have HCO : Hid (Calls Tryd.prog 22 #[.agg #[.int .i64 p.op, .int .i64 p.cmp, .int .i64 p.l.k, .int .i64 p.l.i, .int .i64 p.l.v.k, .int .i64 p.l.v.n, .string p.l.v.t, .int .i64 p.r.k, .int .i64 p.r.i, .int .i64 p.r.v.k, .int .i64 p.r.v.n, .string p.r.v.t, (.slice sa p.args.length sc)]] W4 (ColOut (colsV p) W4)) := columns_calls (fun g => g ≠ b) 4 p (.slice sa p.args.length sc) W4 HPS4.out (by have := HCP.out; omega)
  have HW4 := Lib.hid hW4
  clear hps hck hdp hcs4 hby4 hW4 hal4 HP HI3 HBY3
  go_wp2_with fail
  have hW4 := HW4.out
  simp only [pBlock, pObj] at hW4
  rw [← hW4]
  clear hW4 HW4
  generalize w4.heap.size = gp at HX4 HG4 ⊢
  refine HCO.out.mono ?_
  rintro e w5 ⟨v5, rfl, hb5, hi5⟩
  have HLB : Hid (∀ i ∈ colsV p, 0 ≤ i ∧ i < ks.length) := check_below HCK.out
  obtain ⟨la, lc, rfl, -⟩ := hi5.slice
  have HB5 : Hid (Below w5.heap.size w5 w5.drew) := (Below.refl _ _).drew
  have HI5 : Hid (∀ w', Below w5.heap.size w5 w' → IntsAt (fun g => W4.heap.size ≤ g) w' (.slice la (colsV p).length lc) (colsV p)) := fun w' h => hi5.later h
  have HBY5 : Hid (w1.grownBy w5 (some b)) := by_trans HBY4.out (by_bel hb5)
  have HX5 : Hid (∀ w', Below w5.heap.size w5 w' → PBox w' gr raw (.slice ra raw.args.length rc) ∧ PBox w' gp p (.slice sa p.args.length sc)) := fun w' h => ⟨(HX1.out.by_ HBY5.out (by have := HNE.out; simp; omega)).b.later h, (HX4.out.b.later hb5).later h⟩
  have HPS5 : Hid (∀ w', Below w5.heap.size w5 w' → PrIn (fun g => g ≠ b) w' 4 (.slice sa p.args.length sc) p.args) := fun w' h => (HPS4.out.later hb5).later h
  have HI45 : Hid (∀ w', Below w5.heap.size w5 w' → IntsAt (fun g => g ≠ b) w' (.slice ka ks.length kc) ks) := fun w' h => (HI4.out.later hb5).later h
  have HC5 : Hid (∀ w', Below w5.heap.size w5 w' → CaseAt w' b c) := fun w' h => (HC4.out.grown (by_bel hb5)).grown (by_bel h)
  have HBW5 : Hid (∀ w', Below w5.heap.size w5 w' → Below w.heap.size w w') := fun w' h => HB1.out.grown (by_trans HBY5.out (by_bel h)) HB1.out.size (fun k hk => by cases hk; exact HBW.out)
  have HSZ5 : Hid (b < w5.heap.size) := by have := HG4.out.2; have := hb5.size; show _ < _; omega
  clear hb5 hi5 HCO HX4 HPS4 HI4 HC4 HBY4 HX1
  go_wp2_with fail
  refine wp_region_noPanic ?_
  refine wp_region_held (S := fun w' => PBox w' gr raw (.slice ra raw.args.length rc) ∧ PBox w' gp p (.slice sa p.args.length sc)) mx ?_
  have hHeld : (fun w' => PBox w' gr raw (.slice ra raw.args.length rc) ∧ PBox w' gp p (.slice sa p.args.length sc)) w5.drew := HX5.out _ HB5.out
  change wpAnyH _ _ _ _ (fun w' => PBox w' gr raw (.slice ra raw.args.length rc) ∧ PBox w' gp p (.slice sa p.args.length sc)) _ _ _ w5.drew
  try simp only [Act.put, List.getElem_toArray, List.getElem_cons_succ, List.getElem_cons_zero, List.setIfInBounds_toArray, List.set_cons_zero, List.set_cons_succ]
  refine wpAnyH_take (i := 1) (v := ?_) rfl (by kernel_rfl) (by kernel_rfl) (by kernel_rfl) (fun _ _ _ h => h) (Or.inl ⟨by rfl, ?_⟩) (by assumption) ?_
  rotate_left
  · intro w hSw; obtain ⟨l, b0, b1, b2, b3, b4, b5, b6, b7, b8, b9, b10, b11, b12⟩ := hSw.2; clear hSw; go_simp; try with_reducible rfl
  try simp only [Act.put, List.getElem_toArray, List.getElem_cons_succ, List.getElem_cons_zero, List.setIfInBounds_toArray, List.set_cons_zero, List.set_cons_succ]
  refine wpAnyH_take (i := 0) (v := ?_) rfl (by kernel_rfl) (by kernel_rfl) (by kernel_rfl) (fun _ _ _ h => h) (Or.inl ⟨by rfl, ?_⟩) (by assumption) ?_
  rotate_left
  · intro w hSw; clear hSw; go_simp; try with_reducible rfl
  try simp only [Act.put, List.getElem_toArray, List.getElem_cons_succ, List.getElem_cons_zero, List.setIfInBounds_toArray, List.set_cons_zero, List.set_cons_succ]
  refine wpAnyH_ready (rs := [2]) (by kernel_rfl) (by simp) ?_
  refine AllReadyH.cons rfl (fun K hK => ?_) AllReadyH.nil
  clear hHeld
  go_simp
  go_at_call 24
  refine (show Calls Tryd.prog 24 #[p.val (.slice sa p.args.length sc)] w5.drew (GOut (colsV p) w5.drew) from refColumns_calls 4 p (.slice sa p.args.length sc) w5.drew ((HPS5.out _ HB5.out).mono fun _ _ _ => trivial) (by have := HCP.out; omega)).mono ?_
  rintro e z0 ⟨_, rfl, a0, c0, rfl, -, h01, h02⟩
  have Hz0 : Hid (Below w5.heap.size w5 z0) := HB5.out.trans (h02.mono HB5.out.size)
  have HA0 := Lib.hid h01
  clear h01 h02
  refine hK.out _ _ (HX5.out _ Hz0.out) (fun hHeld => ?_)
  clear hK K
  try simp only [Act.put, List.getElem_toArray, List.getElem_cons_succ, List.getElem_cons_zero, List.setIfInBounds_toArray, List.set_cons_zero, List.set_cons_succ]
  try simp only [Act.put, List.getElem_toArray, List.getElem_cons_succ, List.getElem_cons_zero, List.setIfInBounds_toArray, List.set_cons_zero, List.set_cons_succ]
  refine wpAnyH_ready (rs := [3]) (by kernel_rfl) (by simp) ?_
  refine AllReadyH.cons rfl (fun K hK => ?_) AllReadyH.nil
  clear hHeld
  go_simp
  go_at_call 23
  refine (show Calls Tryd.prog 23 #[.slice la (colsV p).length lc, .slice a0 (colsV p).length c0] z0 (fun e w' => e = .returned (.bool true) ∧ Gro z0 w') from (by have h := same_calls _ _ _ _ _ _ z0 (HI5.out _ Hz0.out) HA0.out; simp only [decide_true] at h; exact h)).mono ?_
  rintro e z1 ⟨rfl, h1⟩
  have Hz1 : Hid (Below w5.heap.size w5 z1) := Hz0.out.trans (h1.below.mono Hz0.out.size)
  clear h1 HA0
  refine hK.out _ _ (HX5.out _ Hz1.out) (fun hHeld => ?_)
  clear hK K
  try simp only [Act.put, List.getElem_toArray, List.getElem_cons_succ, List.getElem_cons_zero, List.setIfInBounds_toArray, List.set_cons_zero, List.set_cons_succ]
  try simp only [Act.put, List.getElem_toArray, List.getElem_cons_succ, List.getElem_cons_zero, List.setIfInBounds_toArray, List.set_cons_zero, List.set_cons_succ]
  refine wpAnyH_take (i := 4) (v := ?_) rfl (by kernel_rfl) (by kernel_rfl) (by kernel_rfl) (fun _ _ _ h => h) (Or.inl ⟨by rfl, ?_⟩) (by assumption) ?_
  rotate_left
  · intro w hSw; clear hSw; go_simp; try with_reducible rfl
  try simp only [Act.put, List.getElem_toArray, List.getElem_cons_succ, List.getElem_cons_zero, List.setIfInBounds_toArray, List.set_cons_zero, List.set_cons_succ]
  refine wpAnyH_take (i := 5) (v := ?_) rfl (by kernel_rfl) (by kernel_rfl) (by kernel_rfl) (fun _ _ _ h => h) (Or.inl ⟨by rfl, ?_⟩) (by assumption) ?_
  rotate_left
  · intro w hSw; clear hSw; go_simp; try with_reducible rfl
  try simp only [Act.put, List.getElem_toArray, List.getElem_cons_succ, List.getElem_cons_zero, List.setIfInBounds_toArray, List.set_cons_zero, List.set_cons_succ]
  refine wpAnyH_take (i := 6) (v := ?_) rfl (by kernel_rfl) (by kernel_rfl) (by kernel_rfl) (fun _ _ _ h => h) (Or.inl ⟨by rfl, ?_⟩) (by assumption) ?_
  rotate_left
  · intro w hSw; obtain ⟨l, b0, b1, b2, b3, b4, b5, b6, b7, b8, b9, b10, b11, b12⟩ := hSw.1; clear hSw; go_simp; try with_reducible rfl
  try simp only [Act.put, List.getElem_toArray, List.getElem_cons_succ, List.getElem_cons_zero, List.setIfInBounds_toArray, List.set_cons_zero, List.set_cons_succ]
  refine wpAnyH_take (i := 8) (v := ?_) rfl (by kernel_rfl) (by kernel_rfl) (by kernel_rfl) (fun _ _ _ h => h) (Or.inl ⟨by rfl, ?_⟩) (by assumption) ?_
  rotate_left
  · intro w hSw; obtain ⟨l, b0, b1, b2, b3, b4, b5, b6, b7, b8, b9, b10, b11, b12⟩ := hSw.1; clear hSw; go_simp; try with_reducible rfl
  try simp only [Act.put, List.getElem_toArray, List.getElem_cons_succ, List.getElem_cons_zero, List.setIfInBounds_toArray, List.set_cons_zero, List.set_cons_succ]
  refine wpAnyH_ready (rs := [7]) (by kernel_rfl) (by simp) ?_
  refine AllReadyH.cons rfl (fun K hK => ?_) AllReadyH.nil
  clear hHeld
  go_simp
  go_at_call 22
  refine (show Calls Tryd.prog 22 #[raw.val (.slice ra raw.args.length rc)] z1 (ColOut (colsV raw) z1) from columns_calls (fun _ => True) kr raw (.slice ra raw.args.length rc) z1 (HRAW.out _ (HBW5.out _ Hz1.out)) (by have := HRL.out; omega)).mono ?_
  rintro e z2 ⟨v2, rfl, h21, h22⟩
  have Hz2 : Hid (Below w5.heap.size w5 z2) := Hz1.out.trans (h21.mono Hz1.out.size)
  obtain ⟨a2, c2, rfl, -⟩ := h22.slice
  have HA2 := Lib.hid h22
  clear h21 h22
  refine hK.out _ _ (HX5.out _ Hz2.out) (fun hHeld => ?_)
  clear hK K
  try simp only [Act.put, List.getElem_toArray, List.getElem_cons_succ, List.getElem_cons_zero, List.setIfInBounds_toArray, List.set_cons_zero, List.set_cons_succ]
  try simp only [Act.put, List.getElem_toArray, List.getElem_cons_succ, List.getElem_cons_zero, List.setIfInBounds_toArray, List.set_cons_zero, List.set_cons_succ]
  refine wpAnyH_ready (rs := [9]) (by kernel_rfl) (by simp) ?_
  refine AllReadyH.cons rfl (fun K hK => ?_) AllReadyH.nil
  clear hHeld
  go_simp
  go_at_call 24
  refine (show Calls Tryd.prog 24 #[raw.val (.slice ra raw.args.length rc)] z2 (GOut (colsV raw) z2) from refColumns_calls kr raw (.slice ra raw.args.length rc) z2 (HRAW.out _ (HBW5.out _ Hz2.out)) (by have := HRL.out; omega)).mono ?_
  rintro e z3 ⟨_, rfl, a3, c3, rfl, -, h31, h32⟩
  have Hz3 : Hid (Below w5.heap.size w5 z3) := Hz2.out.trans (h32.mono Hz2.out.size)
  have HA3 := Lib.hid h31
  have HA23 := Lib.hid (HA2.out.later h32)
  clear h31 h32 HA2
  refine hK.out _ _ (HX5.out _ Hz3.out) (fun hHeld => ?_)
  clear hK K
  try simp only [Act.put, List.getElem_toArray, List.getElem_cons_succ, List.getElem_cons_zero, List.setIfInBounds_toArray, List.set_cons_zero, List.set_cons_succ]
  try simp only [Act.put, List.getElem_toArray, List.getElem_cons_succ, List.getElem_cons_zero, List.setIfInBounds_toArray, List.set_cons_zero, List.set_cons_succ]
  refine wpAnyH_ready (rs := [10]) (by kernel_rfl) (by simp) ?_
  refine AllReadyH.cons rfl (fun K hK => ?_) AllReadyH.nil
  clear hHeld
  go_simp
  go_at_call 23
  refine (show Calls Tryd.prog 23 #[.slice a2 (colsV raw).length c2, .slice a3 (colsV raw).length c3] z3 (fun e w' => e = .returned (.bool true) ∧ Gro z3 w') from (by have h := same_calls _ _ _ _ _ _ z3 HA23.out HA3.out; simp only [decide_true] at h; exact h)).mono ?_
  rintro e z4 ⟨rfl, h4⟩
  have Hz4 : Hid (Below w5.heap.size w5 z4) := Hz3.out.trans (h4.below.mono Hz3.out.size)
  clear h4 HA3 HA23
  refine hK.out _ _ (HX5.out _ Hz4.out) (fun hHeld => ?_)
  clear hK K
  try simp only [Act.put, List.getElem_toArray, List.getElem_cons_succ, List.getElem_cons_zero, List.setIfInBounds_toArray, List.set_cons_zero, List.set_cons_succ]
  try simp only [Act.put, List.getElem_toArray, List.getElem_cons_succ, List.getElem_cons_zero, List.setIfInBounds_toArray, List.set_cons_zero, List.set_cons_succ]
  refine wpAnyH_take (i := 11) (v := ?_) rfl (by kernel_rfl) (by kernel_rfl) (by kernel_rfl) (fun _ _ _ h => h) (Or.inl ⟨by rfl, ?_⟩) (by assumption) ?_
  rotate_left
  · intro w hSw; clear hSw; go_simp; try with_reducible rfl
  try simp only [Act.put, List.getElem_toArray, List.getElem_cons_succ, List.getElem_cons_zero, List.setIfInBounds_toArray, List.set_cons_zero, List.set_cons_succ]
  refine wpAnyH_take (i := 12) (v := ?_) rfl (by kernel_rfl) (by kernel_rfl) (by kernel_rfl) (fun _ _ _ h => h) (Or.inl ⟨by rfl, ?_⟩) (by assumption) ?_
  rotate_left
  · intro w hSw; clear hSw; go_simp; try with_reducible rfl
  try simp only [Act.put, List.getElem_toArray, List.getElem_cons_succ, List.getElem_cons_zero, List.setIfInBounds_toArray, List.set_cons_zero, List.set_cons_succ]
  try simp only [Act.put, List.getElem_toArray, List.getElem_cons_succ, List.getElem_cons_zero, List.setIfInBounds_toArray, List.set_cons_zero, List.set_cons_succ]
  refine wpAnyH_done (by kernel_rfl) ?_ _
  refine NoPanic.normal ?_
  clear hHeld
  have HI5z := Lib.hid (HI5.out _ Hz4.out)
  have HPSz := Lib.hid (HPS5.out _ Hz4.out)
  have HIz := Lib.hid (HI45.out _ Hz4.out)
  have HCz := Lib.hid (HC5.out _ Hz4.out)
  have HXz := Lib.hid (HX5.out _ Hz4.out).2
  have HBz := Lib.hid (HBW5.out _ Hz4.out)
  have HSz : Hid (b < z4.heap.size) := Nat.lt_of_lt_of_le HSZ5.out Hz4.out.size
  have HR := Lib.hid (caseRow_calls (fun g => g ≠ b) b (by simp) c (.slice ka ks.length kc) ks HOK.out.2 z4 HCz.out HIz.out (by have := HOK.out.1; omega))
  clear HI5 HPS5 HI45 HC5 HX5 HBW5 Hz0 Hz1 Hz2 Hz3 Hz4 HB5 HSZ5 HCz HCP HCK HBY5 HBL HB1
  go_wp2_with fail
  refine HR.out.mono ?_
  rintro e w6 ⟨vr, r, rfl, hrl, hrc, hrv, hro, hcs6, hby6⟩
  have HRO := Lib.hid hro
  have HRN := Lib.hid hrl
  have HBY6 := Lib.hid hby6
  have HI6 : Hid (IntsAt (fun g => g ≠ b) w6 (.slice ka ks.length kc) ks) := HIz.out.kept (kept_by hby6 fun g hg => by cases hg; simp)
  have HR2 := Lib.hid (caseRow_calls (fun g => g ≠ b) b (by simp) c (.slice ka ks.length kc) ks HOK.out.2 w6 hcs6 HI6.out (by have := HOK.out.1; omega))
  obtain ⟨ra1, rc1, rfl, haw⟩ := own_where hro
  have HAW := Lib.hid haw
  clear hrl hrc hrv hro hcs6 hby6 HR HIz haw
  go_wp2_with fail
  refine HR2.out.mono ?_
  rintro e w7 ⟨vq, q, rfl, hql, hqc, hqv, hqo, hcs7, hby7⟩
  obtain ⟨rb1, rbc, rfl, hbw⟩ := own_where hqo
  have HNR : Hid (r.length = ks.length ∧ ks.length ≤ 5) := ⟨HRN.out, HOK.out.1⟩
  have HNQ : Hid (q.length = ks.length) := hql
  obtain ⟨gb, hgb⟩ : ∃ gb : Option Nat, gb = (Value.slice rb1 q.length rbc).ownBlock := ⟨_, rfl⟩
  have hgl : ∀ g, gb = some g → w6.heap.size ≤ g := fun g e => (hqo.lt g (hgb.symm.trans e)).1
  have hs46 : z4.heap.size ≤ w6.heap.size := HBY6.out.size
  obtain ⟨S0, hS0⟩ : ∃ S0 : Nat → Prop, S0 = fun g => g ≠ b ∧ g < z4.heap.size := ⟨_, rfl⟩
  have hby47 : z4.grownBy w7 (some b) := by_trans HBY6.out hby7
  have hn7 : ∀ g, some b = some g → ¬ S0 g := fun g e h => by cases e; rw [hS0] at h; exact h.1 rfl
  have HFAR : Hid (∀ g, gb = some g → ¬ S0 g) := fun g e h => by rw [hS0] at h; have h1 := hgl g e; have h2 := h.2; omega
  have HP7 : Hid (PrIn S0 w7 4 (.slice sa p.args.length sc) p.args) := (HPSz.out.mono fun g hg hne => by rw [hS0]; exact ⟨hne, hg⟩).kept (kept_by hby47 hn7)
  have HL7 : Hid (IntsAt S0 w7 (.slice la (colsV p).length lc) (colsV p)) := (HI5z.out.mono fun g hg h => by rw [hS0]; exact ⟨by have := HG4.out.2; omega, hg⟩).kept (kept_by hby47 hn7)
  have HLL : Hid ((colsV p).length ≤ 17592186044416) := by obtain ⟨_, _, _, h⟩ := HL7.out.slice; exact h
  have HX7 : Hid (PBox w7 gp p (.slice sa p.args.length sc)) := HXz.out.by hby47 (by have := HG4.out.1; simp; omega)
  have HGP : Hid (gb ≠ some gp) := fun e => by have h1 := hgl gp e; have h2 := HXz.out.l; omega
  have HRO7 : Hid (w7.ownsRow z4.heap.size 24 3 (.slice ra1 r.length rc1) r.length (flat r)) := World.ownsRow.kept HRO.out hby7 (own_far HRO.out HSz.out)
  have HAP : Hid ((Value.slice ra1 r.length rc1).ownBlock = none ∨ (Value.slice ra1 r.length rc1).ownBlock ≠ gb) := by
    show _ ∨ _
    rw [hgb]
    exact own_apart HRO.out hqo (Nat.le_refl _)
  have HB7 : Hid (Below w.heap.size w w7) := HBz.out.grown hby47 HBz.out.size (fun k hk => by cases hk; exact HBW.out)
  have HGW : Hid (∀ g, gb = some g → w.heap.size ≤ g) := fun g e => by have h1 := hgl g e; have h2 := HBz.out.size; omega
  have HQ7 := Lib.hid hqo
  have HBQ := Lib.hid hbw
  have HGB := Lib.hid hgb
  clear hql hqc hqv hqo hcs7 hby7 hby47 hn7 hgl hs46 hS0 hgb hbw HR2 HI6 HRO HPSz HI5z HXz HBz HSz HBY6 HOK HRN HG4
  go_wp2_with fail
  go_loopw [12, 43] (fun _ i wr => ∃ (j : Nat) (R : List V), j ≤ (colsV p).length ∧ i = .int .i64 j ∧ R.length = q.length ∧ wr.ownsRow w6.heap.size 24 3 (.slice rb1 q.length rbc) q.length (flat R) ∧ (∀ k (h : k < (colsV p).length), k < j → atV r (colsV p)[k] = atV R (colsV p)[k]) ∧ w7.grownBy wr gb) (fun _ i _ => (colsV p).length - (intOf i).toNat)
  case atStart => exact ⟨0, q, by omega, rfl, rfl, HQ7.out, fun k h hk => by omega, ⟨rfl, rfl, rfl, Nat.le_refl _, fun _ _ _ => rfl⟩⟩
  case round =>
    obtain ⟨j, R, hj, rfl, hRl, hRo, hRe, hgr⟩ := hrel
    obtain ⟨wo, rfl⟩ : ∃ wo : World, wo = wr := ⟨_, rfl⟩
    have HGR := Lib.hid hgr
    have HRE := Lib.hid hRe
    have HROW := Lib.hid hRo
    have HRLN := Lib.hid hRl
    have hwk := step_i j (by have := HLL.out; omega)
    have HRA := Lib.hid (World.ownsRow.kept HRO7.out hgr HAP.out)
    by_cases hlt2 : j < (colsV p).length
    · have hlt : decide ((j : Int) < ((colsV p).length : Int)) = true := by simp; omega
      have hltI : (j : Int) < ((colsV p).length : Int) := by omega
      have h0I : (0 : Int) ≤ (j : Int) := by omega
      obtain ⟨lb, lo, rfl, -, -, hlc⟩ := (HL7.out.kept (kept_by hgr HFAR.out)).get hlt2
      obtain ⟨i0, hi0⟩ : ∃ i0, (colsV p)[j] = i0 := ⟨_, rfl⟩
      have hib := HLB.out i0 (hi0 ▸ List.getElem_mem hlt2)
      obtain ⟨m, rfl⟩ : ∃ m : Nat, i0 = m := ⟨i0.toNat, by omega⟩
      rw [hi0] at hlc
      have HI0 := Lib.hid hi0
      have hmr : m < r.length := by have := HNR.out.1; omega
      have hmq : m < R.length := by have := HNQ.out; omega
      obtain ⟨ga, rfl, hga1, hga2⟩ := HAW.out.resolve_left (by intro e; rw [e] at hmr; simp at hmr)
      obtain ⟨gq, rfl, hgq1, hgq2⟩ := HBQ.out.resolve_left (by intro e; rw [hRl, e] at hmq; simp at hmq)
      have hne : ga ≠ gq := by omega
      have h' : wo.ownsRow w6.heap.size 24 3 (.slice (some ⟨gq, 0, none⟩) R.length rbc) R.length (flat R) := by rw [hRl]; exact hRo
      have ha0 := HRA.out.cellAt (m * 3) (by omega)
      have ha1 := HRA.out.cellAt (m * 3 + 1) (by omega)
      have ha2 := HRA.out.cellAt (m * 3 + 2) (by omega)
      rw [(flat_at r m hmr).1] at ha0
      rw [(flat_at r m hmr).2.1] at ha1
      rw [(flat_at r m hmr).2.2] at ha2
      have hq0 := h'.cellAt (m * 3) (by omega)
      have hq1 := h'.cellAt (m * 3 + 1) (by omega)
      have hq2 := h'.cellAt (m * 3 + 2) (by omega)
      rw [(flat_at R m hmq).1] at hq0
      rw [(flat_at R m hmq).2.1] at hq1
      rw [(flat_at R m hmq).2.2] at hq2
      have fz0 := h'.frozenAt (m * 3)
      have fz1 := h'.frozenAt (m * 3 + 1)
      have fz2 := h'.frozenAt (m * 3 + 2)
      have HSA := Lib.hid (set_at (a := r) hmq hmr)
      obtain ⟨x, hx⟩ : ∃ x, r[m] = x := ⟨_, rfl⟩
      rw [hx] at ha0 ha1 ha2 HSA
      have HSET := Lib.hid (row_set h' m hmq x)
      obtain ⟨xk, xn, xt⟩ := x
      have hge : decide ((r.length : Int) ≤ (m : Int)) = false := by simp; omega
      have hge' : ¬ ((r.length : Int) ≤ (m : Int)) := by omega
      have hmI : (m : Int) < (r.length : Int) := by omega
      have hmI2 : (m : Int) < (q.length : Int) := by omega
      have h0m : (0 : Int) ≤ (m : Int) := by omega
      clear hgr hRe hRo h' hib hga1 hga2 hgq1 hgq2 hi0 hx HRA HX7 HP7 HB7 HS HQ7
      go_wp2_with fail
      generalize wrap64 ((j : Int) + 1) = zz at hwk ⊢
      subst hwk
      have hgq : gb = some gq := HGB.out
      refine ⟨⟨j + 1, R.set m ⟨xk, xn, xt⟩, by omega, by push_cast; rfl, by rw [List.length_set]; exact HRLN.out, ?_, ?_, ?_⟩, by simp [intOf]; omega⟩
      · have h := HSET.out.1
        rw [HRLN.out] at h
        exact h
      · intro k hk hkj
        by_cases e : k = j
        · subst e
          rw [HI0.out]
          exact HSA.out.2
        · exact HSA.out.1 _ (HRE.out k hk (by omega))
      · exact by_trans HGR.out (hgq ▸ HSET.out.2)
    · have hlt' : decide ((j : Int) < ((colsV p).length : Int)) = false := by simp; omega
      have HHO : Hid (holdsP r [] p = holdsP R [] p) := by
        show _ = _
        refine holds_cols r R [] p fun i hi => ?_
        have hi2 : i ∈ colsV p := by rw [colsV_add, foldl_mem]; exact .inr hi
        obtain ⟨k, hk, rfl⟩ := List.getElem_of_mem hi2
        exact HRE.out k hk (by omega)
      have HXO : Hid (PBox wo gp p (.slice sa p.args.length sc)) := HX7.out.by hgr HGP.out
      have HPO : Hid (∀ w', Below wo.heap.size wo w' → PrIn S0 w' 4 (.slice sa p.args.length sc) p.args) := fun w' h => (HP7.out.kept (kept_by hgr HFAR.out)).later h
      have HXW : Hid (∀ w', Below wo.heap.size wo w' → PBox w' gp p (.slice sa p.args.length sc)) := fun w' h => HXO.out.later h
      have HWW : Hid (∀ w', Below wo.heap.size wo w' → Below w.heap.size w w') := fun w' h => HB7.out.grown (by_trans hgr (by_bel h)) HB7.out.size HGW.out
      have HRR : Hid (∀ w', Below wo.heap.size wo w' → RowAt w' (.slice ra1 r.length rc1) r) := fun w' h => (RowAt.of_owned HRA.out (by have := HNR.out; omega)).later h
      have HQQ : Hid (∀ w', Below wo.heap.size wo w' → RowAt w' (.slice rb1 q.length rbc) R) := fun w' h => (RowAt.of_owned (base := w6.heap.size) (show wo.ownsRow w6.heap.size 24 3 (.slice rb1 q.length rbc) R.length (flat R) by rw [hRl]; exact hRo) (by have := HNR.out; have := HNQ.out; omega)).later h
      have HNI : Hid (∀ w', RowAt w' (.slice none 0 0) []) := fun w' => ⟨none, 0, rfl, by simp, .inl rfl⟩
      obtain ⟨y, hy⟩ : ∃ y, holdsP R [] p = y := ⟨_, rfl⟩
      have HY2 := Lib.hid hy
      have HY1 : Hid (holdsP r [] p = y) := HHO.out.trans hy
      have HDO : Hid (Below wo.heap.size wo wo.drew) := (Below.refl _ _).drew
      clear hgr hRe hRo hRl hy HRA HROW HRE HGR HXO HX7 HP7 HB7 HHO HL7 HQ7 HRO7 HAW HBQ HGB HAP HFAR HGP HGW HLB HLL HRAW HRL HB0 HS0 HBW HNE
      go_wp2_with fail
      refine wp_region_noPanic ?_
      refine wp_region_held (S := fun w' => PBox w' gp p (.slice sa p.args.length sc)) mx ?_
      have hHeld : (fun w' => PBox w' gp p (.slice sa p.args.length sc)) wo.drew := HXW.out _ HDO.out
      change wpAnyH _ _ _ _ (fun w' => PBox w' gp p (.slice sa p.args.length sc)) _ _ _ wo.drew
      try simp only [Act.put, List.getElem_toArray, List.getElem_cons_succ, List.getElem_cons_zero, List.setIfInBounds_toArray, List.set_cons_zero, List.set_cons_succ]
      refine wpAnyH_ready (rs := [0]) (by kernel_rfl) (by simp) ?_
      refine AllReadyH.cons rfl (fun K hK => ?_) AllReadyH.nil
      clear hHeld
      go_simp
      go_at_call 12
      refine (begun_calls wo.drew (HS.out _ (HWW.out _ HDO.out))).mono ?_
      rintro e z5 ⟨rfl, h5⟩
      have Hz5 : Hid (Below wo.heap.size wo z5) := HDO.out.trans (h5.mono HDO.out.size)
      clear h5
      refine hK.out _ _ (HXW.out _ Hz5.out) (fun hHeld => ?_)
      clear hK K
      try simp only [Act.put, List.getElem_toArray, List.getElem_cons_succ, List.getElem_cons_zero, List.setIfInBounds_toArray, List.set_cons_zero, List.set_cons_succ]
      try simp only [Act.put, List.getElem_toArray, List.getElem_cons_succ, List.getElem_cons_zero, List.setIfInBounds_toArray, List.set_cons_zero, List.set_cons_succ]
      refine wpAnyH_take (i := 1) (v := ?_) rfl (by kernel_rfl) (by kernel_rfl) (by kernel_rfl) (fun _ _ _ h => h) (Or.inl ⟨by rfl, ?_⟩) (by assumption) ?_
      rotate_left
      · intro w hSw; clear hSw; go_simp; try with_reducible rfl
      try simp only [Act.put, List.getElem_toArray, List.getElem_cons_succ, List.getElem_cons_zero, List.setIfInBounds_toArray, List.set_cons_zero, List.set_cons_succ]
      refine wpAnyH_take (i := 2) (v := ?_) rfl (by kernel_rfl) (by kernel_rfl) (by kernel_rfl) (fun _ _ _ h => h) (Or.inl ⟨by rfl, ?_⟩) (by assumption) ?_
      rotate_left
      · intro w hSw; obtain ⟨l, b0, b1, b2, b3, b4, b5, b6, b7, b8, b9, b10, b11, b12⟩ := id hSw; clear hSw; go_simp; try with_reducible rfl
      try simp only [Act.put, List.getElem_toArray, List.getElem_cons_succ, List.getElem_cons_zero, List.setIfInBounds_toArray, List.set_cons_zero, List.set_cons_succ]
      refine wpAnyH_take (i := 3) (v := ?_) rfl (by kernel_rfl) (by kernel_rfl) (by kernel_rfl) (fun _ _ _ h => h) (Or.inl ⟨by rfl, ?_⟩) (by assumption) ?_
      rotate_left
      · intro w hSw; clear hSw; go_simp; try with_reducible rfl
      try simp only [Act.put, List.getElem_toArray, List.getElem_cons_succ, List.getElem_cons_zero, List.setIfInBounds_toArray, List.set_cons_zero, List.set_cons_succ]
      refine wpAnyH_take (i := 5) (v := ?_) rfl (by kernel_rfl) (by kernel_rfl) (by kernel_rfl) (fun _ _ _ h => h) (Or.inl ⟨by rfl, ?_⟩) (by assumption) ?_
      rotate_left
      · intro w hSw; obtain ⟨l, b0, b1, b2, b3, b4, b5, b6, b7, b8, b9, b10, b11, b12⟩ := id hSw; clear hSw; go_simp; try with_reducible rfl
      try simp only [Act.put, List.getElem_toArray, List.getElem_cons_succ, List.getElem_cons_zero, List.setIfInBounds_toArray, List.set_cons_zero, List.set_cons_succ]
      refine wpAnyH_take (i := 6) (v := ?_) rfl (by kernel_rfl) (by kernel_rfl) (by kernel_rfl) (fun _ _ _ h => h) (Or.inl ⟨by rfl, ?_⟩) (by assumption) ?_
      rotate_left
      · intro w hSw; clear hSw; go_simp; try with_reducible rfl
      try simp only [Act.put, List.getElem_toArray, List.getElem_cons_succ, List.getElem_cons_zero, List.setIfInBounds_toArray, List.set_cons_zero, List.set_cons_succ]
      refine wpAnyH_ready (rs := [4]) (by kernel_rfl) (by simp) ?_
      refine AllReadyH.cons rfl (fun K hK => ?_) AllReadyH.nil
      clear hHeld
      go_simp
      go_at_call 17
      refine (show Calls Tryd.prog 17 #[p.val (.slice sa p.args.length sc), (.slice ra1 r.length rc1), .slice none 0 0] z5 (fun e w' => e = .returned (.bool y) ∧ Gro z5 w') from (by rw [← HY1.out]; exact holds_at S0 (.slice ra1 r.length rc1) (.slice none 0 0) r [] 4 p (.slice sa p.args.length sc) z5 (HRR.out _ Hz5.out) (HNI.out _) (HPO.out _ Hz5.out))).mono ?_
      rintro e z6 ⟨rfl, h6⟩
      have Hz6 : Hid (Below wo.heap.size wo z6) := Hz5.out.trans (h6.below.mono Hz5.out.size)
      clear h6
      refine hK.out _ _ (HXW.out _ Hz6.out) (fun hHeld => ?_)
      clear hK K
      try simp only [Act.put, List.getElem_toArray, List.getElem_cons_succ, List.getElem_cons_zero, List.setIfInBounds_toArray, List.set_cons_zero, List.set_cons_succ]
      try simp only [Act.put, List.getElem_toArray, List.getElem_cons_succ, List.getElem_cons_zero, List.setIfInBounds_toArray, List.set_cons_zero, List.set_cons_succ]
      refine wpAnyH_ready (rs := [7]) (by kernel_rfl) (by simp) ?_
      refine AllReadyH.cons rfl (fun K hK => ?_) AllReadyH.nil
      clear hHeld
      go_simp
      go_at_call 17
      refine (show Calls Tryd.prog 17 #[p.val (.slice sa p.args.length sc), (.slice rb1 q.length rbc), .slice none 0 0] z6 (fun e w' => e = .returned (.bool y) ∧ Gro z6 w') from (by rw [← HY2.out]; exact holds_at S0 (.slice rb1 q.length rbc) (.slice none 0 0) R [] 4 p (.slice sa p.args.length sc) z6 (HQQ.out _ Hz6.out) (HNI.out _) (HPO.out _ Hz6.out))).mono ?_
      rintro e z7 ⟨rfl, h7⟩
      have Hz7 : Hid (Below wo.heap.size wo z7) := Hz6.out.trans (h7.below.mono Hz6.out.size)
      clear h7
      refine hK.out _ _ (HXW.out _ Hz7.out) (fun hHeld => ?_)
      clear hK K
      try simp only [Act.put, List.getElem_toArray, List.getElem_cons_succ, List.getElem_cons_zero, List.setIfInBounds_toArray, List.set_cons_zero, List.set_cons_succ]
      try simp only [Act.put, List.getElem_toArray, List.getElem_cons_succ, List.getElem_cons_zero, List.setIfInBounds_toArray, List.set_cons_zero, List.set_cons_succ]
      refine wpAnyH_take (i := 8) (v := ?_) rfl (by kernel_rfl) (by kernel_rfl) (by kernel_rfl) (fun _ _ _ h => h) (Or.inl ⟨by rfl, ?_⟩) (by assumption) ?_
      rotate_left
      · intro w hSw; clear hSw; go_simp; try with_reducible rfl
      try simp only [Act.put, List.getElem_toArray, List.getElem_cons_succ, List.getElem_cons_zero, List.setIfInBounds_toArray, List.set_cons_zero, List.set_cons_succ]
      refine wpAnyH_take (i := 9) (v := ?_) rfl (by kernel_rfl) (by kernel_rfl) (by kernel_rfl) (fun _ _ _ h => h) (Or.inl ⟨by rfl, ?_⟩) (by assumption) ?_
      rotate_left
      · intro w hSw; clear hSw; go_simp; try with_reducible rfl
      try simp only [Act.put, List.getElem_toArray, List.getElem_cons_succ, List.getElem_cons_zero, List.setIfInBounds_toArray, List.set_cons_zero, List.set_cons_succ]
      refine wpAnyH_take (i := 10) (v := ?_) rfl (by kernel_rfl) (by kernel_rfl) (by kernel_rfl) (fun _ _ _ h => h) (Or.inl ⟨by rfl, ?_⟩) (by assumption) ?_
      rotate_left
      · intro w hSw; clear hSw; go_simp; try with_reducible rfl
      try simp only [Act.put, List.getElem_toArray, List.getElem_cons_succ, List.getElem_cons_zero, List.setIfInBounds_toArray, List.set_cons_zero, List.set_cons_succ]
      try simp only [Act.put, List.getElem_toArray, List.getElem_cons_succ, List.getElem_cons_zero, List.setIfInBounds_toArray, List.set_cons_zero, List.set_cons_succ]
      refine wpAnyH_done (by kernel_rfl) ?_ _
      refine NoPanic.normal ?_
      clear hHeld
      go_wp2
      go_ret
      exact ⟨rfl, HWW.out _ Hz7.out⟩
set_option maxRecDepth 100000 in
theorem contract (H : Type) (enc : TypeId × Value → H) (W : World) (base : Nat) (args : Array Value) (ds gs : List (DataW H)) (before : List MemPlace)
    (hval0 : ∀ (j : Nat) t v, Tryd.f6.params[j]? = some t → args[j]? = some v → Value.okWide Tryd.prog W .any base t v)
    (hW : DataW.Whole enc Tryd.prog Tryd.f6.params.toList Rows.predicateColumnsSpec.vars false W args.toList ds gs before) (hk : Rows.uptoSmall H (ds ++ gs) = true)
    (hsz0 : (DataW.weightsEach Tryd.prog (Tryd.f6.params.toList ++ Rows.predicateColumnsSpec.plain.varTypes Tryd.prog) (ds ++ gs)).all (· ≤ reachBytes) = true) (hL : laidMetH Tryd.prog laid1 W) :
    Calls Tryd.prog 6 args W fun e W' => ∃ v, e = .returned v ∧ Rows.predicateColumnsSpec.post enc Tryd.prog Tryd.f6 false true false false W args v W' := by
  have hS : Shapes W := shapes_of_laid hL
  have hval : ∀ (j : Nat) t v, Tryd.f6.params[j]? = some t → args[j]? = some v → Value.okWide Tryd.prog W .any base t v := hval0
  have hW' := hW
  obtain ⟨p, q, hA0, hV, rfl, hfz, hnd⟩ := hW
  have hA : DataW.TrodAll enc Tryd.prog W 0 (fun _ => true) true Tryd.f6.params.toList args.toList ds p := hA0
  have hsz : (DataW.weightsEach Tryd.prog (Tryd.f6.params.toList ++ Rows.predicateColumnsSpec.plain.varTypes Tryd.prog) (ds ++ gs)).all (· ≤ reachBytes) = true := hsz0
  rw [Tryd.params6] at hA hval hsz
  obtain ⟨v0, vs0, d0, ds0, p0, q0, hargs, rfl, rfl, h0, r0⟩ := trodAll_cons hA
  obtain ⟨v1, vs1, d1, ds1, p1, q1, rfl, rfl, rfl, h1, r1⟩ := trodAll_cons r0
  obtain ⟨rfl, rfl, rfl⟩ := trodAll_nil r1
  obtain rfl : args = #[v0, v1] := by cases args; simp_all
  obtain ⟨rfl, rfl⟩ := trodVars_none hV
  have hb : Rows.uptoBulk d1 ≤ 1048576 := by
    have h := of_decide_eq_true hk
    simp only [Rows.uptoBulkAll, List.cons_append, List.nil_append, List.append_nil] at h
    omega
  have lt0 : ∀ x ∈ p0, x.block < W.heap.size := by obtain ⟨m, hm⟩ := h0; exact DataW.trod_lt m _ _ _ hm
  obtain ⟨a0, len0, cap0, z0, rfl, w0⟩ := open_codes (hval 0 22 v0 rfl rfl) h0
  have lt1 : ∀ x ∈ p1, x.block < W.heap.size := by obtain ⟨m, hm⟩ := h1; exact DataW.trod_lt m _ _ _ hm
  obtain ⟨k1, x1, s1, rfl, w1, w2, w3⟩ := open_Prb (hval 1 29 v1 rfl rfl) h1 (fun n hn => by have hq := List.all_eq_true.1 hsz n (DataW.weights_mem_each (j := 1) (t := 29) rfl rfl n hn); simpa using hq)
  clear hA0 hval0
  refine (walk a0 len0 cap0 z0 k1 x1 s1 W w0 ⟨w1, w2, by omega⟩ hS).mono fun e W' ⟨he, bel⟩ => ?_
  subst he
  exact ⟨_, rfl, _, _, _, [], _, [], hW', trodAll_mk1 (shut_bool Tryd.underlying4 _), (trodAll_cons_mk (Below.trod laidOut (by kernel_rfl) (of_decide_eq_true (by kernel_rfl)) h0 bel lt0) (trodAll_cons_mk (Below.trod laidOut (by kernel_rfl) (of_decide_eq_true (by kernel_rfl)) h1 bel lt1) trodAll_mk0)), rfl, bel.frame _, fun h => by cases h⟩
abbrev wArgs : Array Value := #[.slice none 0 0, .agg #[.int .i64 0, .int .i64 0, .int .i64 0, .int .i64 0, .int .i64 0, .int .i64 0, .string ByteArray.empty, .int .i64 0, .int .i64 0, .int .i64 0, .int .i64 0, .string ByteArray.empty, .slice none 0 0]]
set_option maxRecDepth 100000 in
theorem lifted (os : Os) (started : os.Started) (H : Type) (enc : TypeId × Value → H) (Fi : Stop.Interp) :
    ReturnsInHanded {} Tryd.checked os 6 .any ((Rows.OpenSpec.upto Rows.predicateColumnsSpec).preRow enc Tryd.prog Tryd.f6 Rows.predicateColumnsUptoRow.domain false Rows.predicateColumnsUptoRow.laid) (((Rows.OpenSpec.upto Rows.predicateColumnsSpec).at Fi).post enc Tryd.prog Tryd.f6 false true false false) := by
  have hm : (DataW.whole enc Tryd.prog ((World.doorLaid Tryd.prog 400 os).forCall (fun _ _ => 0) ⟨#[], wArgs, []⟩).memory Tryd.f6.params.toList Rows.predicateColumnsSpec.vars false wArgs.toList 8).map (fun x => Rows.uptoSmall H (x.1 ++ x.2.1)) = some true := by kernel_rfl
  obtain ⟨x, hx, hbd⟩ := Option.map_eq_some_iff.1 hm
  refine returnsInHanded_of_row (C := Tryd.checked) (s := Rows.OpenSpec.upto Rows.predicateColumnsSpec) own started (by kernel_rfl) Tryd.func6
    (witness_row_atRef (enc := enc) (C := Tryd.checked) false (World.doorLaid Tryd.prog 400 os) wArgs rfl (by kernel_rfl) (by kernel_rfl) (by kernel_rfl)
      (OpenSpec.preRow_of_cond 8 hx rfl (fun k hk => by cases hk; exact hbd) (by kernel_rfl) (door_met os _))) ?_
  intro W base args ds gs before hval hW _ hcond hsz hL _ _
  exact contract H enc W base args ds gs before hval hW (hcond _ rfl) hsz hL

theorem over : Rows.predicateColumnsUptoRow.holds Tryd.pinned (Rows.OpenSpec.upto Rows.predicateColumnsSpec) :=
  OpenClaim.holds_of_cond 6 Tryd.f6 rfl rfl rfl rfl rfl rfl rfl ⟨rfl, rfl, rfl, rfl, rfl⟩ rfl rfl rfl rfl rfl (by kernel_rfl) Tryd.func6 (by kernel_rfl)
    (of_decide_eq_true (by kernel_rfl)) (by unfold Func.isWrapper; first | (rw [if_pos (by decide +kernel)]; kernel_rfl) | (rw [if_neg (by decide +kernel)]; exact ⟨rfl, rfl⟩))
    (fun os started H enc _ Fi => by rw [OpenClaim.pre_eq_preRow]; exact lifted os started H enc Fi)
theorem proved : Rows.PredicateColumnsUptoCardSaid :=
  Claim7.holds_tied_plain_at .later [] [.data] true (true, "62304b6054be119b6ae2d039ac867110b2739c12822506048046d376c491136a") false
    over (fun _ h => by cases h) (by kernel_rfl) (fun _ h => by cases h) predicateColumnsUpto_row_tie rfl ⟨rfl, rfl⟩ (by kernel_rfl) rfl
    (fun f fn hf hfn => by
      obtain rfl : f = 6 := Option.some.inj ((show Tryd.prog.funcNamed "partsync/partsynclaw05.PredicateColumns" = some 6 by kernel_rfl).symm.trans hf) |>.symm
      obtain rfl : fn = Tryd.f6 := (Option.some.inj (Tryd.func6.symm.trans hfn)).symm
      exact ⟨by kernel_rfl, fun j t ht => by
        rw [Tryd.params6] at ht
        have hm : t ∈ [22, 29] := by simpa using Array.mem_of_getElem? ht
        have hall : ([22, 29].all fun u => !Tryd.prog.wantsStandIn u) = true := by kernel_rfl
        exact (show Tryd.prog.wantsStandIn t = false by simpa using List.all_eq_true.1 hall t hm)⟩)
    (by kernel_rfl)
end Columns
end Go.Proofs.YtndnlmpmloiiiaaDoor
