/- The law PredicateCompares returns true for all codes, where the package's table of shapes holds what start-up has laid. -/
import Derived.Test.YteihifhmoalafaaDoorPy
import Derived.Test.YteihifhmoalafaaDoorPf
import Derived.Test.YteihifhmoalafaaDoorPz
import Derived.Test.YteihifhmoalafaaDoorN
import Derived.Test.YteihifhmoalafaaDoorPfr
import Derived.Test.YteihifhmoalafaaDoorTie
import Derived.Test.YteihifhmoalafaaDoorCards
import Derived.SevenTiedAt
set_option linter.unusedSimpArgs false
set_option linter.unusedVariables false
namespace Go.Proofs.YteihifhmoalafaaDoor
open Go.RowKit

/-- How many of the first comparisons hold. -/
def cnt (a b : V) : Nat → Nat
  | 0 => 0
  | m + 1 => cnt a b m + if cpB ((m : Int) + 1) a b = true then 1 else 0
theorem cnt_real {a b : V} (ha : realB a = true) (hb : realB b = true) (hk : a.k = b.k) : cnt a b 6 = 3 := by
  have h : ∀ cmp, cpB cmp a b = ordB cmp (cmpV a b) := fun cmp => by unfold cpB; rw [ha, hb, decide_eq_true hk]; rfl
  simp only [cnt, h]
  generalize cmpV a b = d
  by_cases h1 : d < 0
  · have e1 : ordB ((0 : Nat) + 1) d = false := by unfold ordB; rw [if_pos (by omega)]; exact decide_eq_false (by omega)
    have e2 : ordB ((1 : Nat) + 1) d = true := by unfold ordB; rw [if_neg (by omega), if_pos (by omega), decide_eq_false (by omega)]; rfl
    have e3 : ordB ((2 : Nat) + 1) d = true := by unfold ordB; rw [if_neg (by omega), if_neg (by omega), if_pos (by omega)]; exact decide_eq_true (by omega)
    have e4 : ordB ((3 : Nat) + 1) d = true := by unfold ordB; rw [if_neg (by omega), if_neg (by omega), if_neg (by omega), if_pos (by omega)]; exact decide_eq_true (by omega)
    have e5 : ordB ((4 : Nat) + 1) d = false := by unfold ordB; rw [if_neg (by omega), if_neg (by omega), if_neg (by omega), if_neg (by omega), if_pos (by omega)]; exact decide_eq_false (by omega)
    have e6 : ordB ((5 : Nat) + 1) d = false := by unfold ordB; rw [if_neg (by omega), if_neg (by omega), if_neg (by omega), if_neg (by omega), if_neg (by omega), if_pos (by omega)]; exact decide_eq_false (by omega)
    rw [e1, e2, e3, e4, e5, e6]; rfl
  by_cases h2 : d = 0
  · have e1 : ordB ((0 : Nat) + 1) d = true := by unfold ordB; rw [if_pos (by omega)]; exact decide_eq_true (by omega)
    have e2 : ordB ((1 : Nat) + 1) d = false := by unfold ordB; rw [if_neg (by omega), if_pos (by omega), decide_eq_true (by omega)]; rfl
    have e3 : ordB ((2 : Nat) + 1) d = false := by unfold ordB; rw [if_neg (by omega), if_neg (by omega), if_pos (by omega)]; exact decide_eq_false (by omega)
    have e4 : ordB ((3 : Nat) + 1) d = true := by unfold ordB; rw [if_neg (by omega), if_neg (by omega), if_neg (by omega), if_pos (by omega)]; exact decide_eq_true (by omega)
    have e5 : ordB ((4 : Nat) + 1) d = false := by unfold ordB; rw [if_neg (by omega), if_neg (by omega), if_neg (by omega), if_neg (by omega), if_pos (by omega)]; exact decide_eq_false (by omega)
    have e6 : ordB ((5 : Nat) + 1) d = true := by unfold ordB; rw [if_neg (by omega), if_neg (by omega), if_neg (by omega), if_neg (by omega), if_neg (by omega), if_pos (by omega)]; exact decide_eq_true (by omega)
    rw [e1, e2, e3, e4, e5, e6]; rfl
  · have e1 : ordB ((0 : Nat) + 1) d = false := by unfold ordB; rw [if_pos (by omega)]; exact decide_eq_false (by omega)
    have e2 : ordB ((1 : Nat) + 1) d = true := by unfold ordB; rw [if_neg (by omega), if_pos (by omega), decide_eq_false (by omega)]; rfl
    have e3 : ordB ((2 : Nat) + 1) d = false := by unfold ordB; rw [if_neg (by omega), if_neg (by omega), if_pos (by omega)]; exact decide_eq_false (by omega)
    have e4 : ordB ((3 : Nat) + 1) d = false := by unfold ordB; rw [if_neg (by omega), if_neg (by omega), if_neg (by omega), if_pos (by omega)]; exact decide_eq_false (by omega)
    have e5 : ordB ((4 : Nat) + 1) d = true := by unfold ordB; rw [if_neg (by omega), if_neg (by omega), if_neg (by omega), if_neg (by omega), if_pos (by omega)]; exact decide_eq_true (by omega)
    have e6 : ordB ((5 : Nat) + 1) d = true := by unfold ordB; rw [if_neg (by omega), if_neg (by omega), if_neg (by omega), if_neg (by omega), if_neg (by omega), if_pos (by omega)]; exact decide_eq_true (by omega)
    rw [e1, e2, e3, e4, e5, e6]; rfl
theorem cnt_none {a b : V} (hk : ¬ a.k = b.k) : ∀ m, cnt a b m = 0
  | 0 => rfl
  | m + 1 => by
    have h : ∀ cmp, cpB cmp a b = false := fun cmp => by unfold cpB; rw [decide_eq_false hk, Bool.and_false]; rfl
    rw [cnt, cnt_none hk m, h]; rfl
theorem cnt_le (a b : V) : ∀ m, cnt a b m ≤ m
  | 0 => Nat.le_refl _
  | m + 1 => by
    have h := cnt_le a b m
    rw [cnt]; split <;> omega
theorem two_holds (cmp : Int) (a b : V) : holdsP [a, b] [] (.mk 3 cmp ⟨1, 0, nilV⟩ ⟨1, 1, nilV⟩ []) = cpB cmp a b := by
  rw [holdsP_eq]
  show (if (3 : Int) = 1 then true else if (3 : Int) = 3 then cpB cmp (denV [a, b] [] ⟨1, 0, nilV⟩) (denV [a, b] [] ⟨1, 1, nilV⟩) else _) = _
  rw [if_neg (by omega), if_pos rfl]
  rfl
theorem row_two {w : World} {g : Nat} {a b : V} (h : g < w.heap.size) (ha : At w g 0 a) (hb : At w g 3 b) : RowAt w (.slice (some ⟨g, 0, none⟩) 2 2) [a, b] :=
  ⟨_, 2, rfl, by simp, .inr ⟨g, 0, rfl, h, fun i hi => by
    obtain rfl | rfl : i = 0 ∨ i = 1 := by have : i < 2 := hi; omega
    · exact ha
    · exact hb⟩⟩
open Go.ChangeShapes Go.WideShapes Go.ChangeAt Go.RowKit
namespace Compares
set_option maxHeartbeats 8000000 in
set_option maxRecDepth 100000 in
theorem walk (a : Option Addr) (len cap : Nat) (zs : List Int) (w : World) (hr : IsRow .u8 w a len cap zs) (hs : Shapes w) :
    Calls Tryd.prog 6 #[.slice a len cap] w fun e w' => e = .returned (.bool true) ∧ Below w.heap.size w w' := by
  have HN := Lib.hid (new_calls a len cap zs w hr)
  have HS := Lib.hid hs
  clear hr hs
  go_enter Tryd.func6, Tryd.ntmps6
  go_wp2_with fail
  refine HN.out.mono ?_
  rintro e w1 ⟨b, c, rfl, hbs, hcs, hb1⟩
  have HBS := Lib.hid hbs
  have HB1 := Lib.hid hb1
  have HC := Lib.hid (int_calls b c 3 (by omega) (by omega) w1 hcs)
  clear hcs hb1 HN hbs
  go_wp2_with fail
  refine HC.out.mono ?_
  rintro e w2 ⟨x, rfl, hx0, hx1, hcs2, hby2⟩
  have hwx : wrap64 (3 + x) = 3 + x := by unfold wrap64; omega
  have hb2 : Below w.heap.size w w2 := HB1.out.grown hby2 HB1.out.size (fun k hk => by cases hk; exact HBS.out)
  have HB2 := Lib.hid hb2
  have HV := Lib.hid (caseValueK_calls b c (3 + x) (by omega) (by omega) w2 hcs2)
  have HK3 : Hid (3 ≤ 3 + x) := by show _ ≤ _; omega
  clear hx0 hx1 hcs2 hby2 hb2 HC HB1
  obtain ⟨k, hk⟩ : ∃ k, 3 + x = k := ⟨_, rfl⟩
  rw [hk] at HV HK3
  replace hwx : wrap64 (3 + x) = k := hwx.trans hk
  clear hk
  have HWX := Lib.hid hwx
  go_wp2_with fail
  clear hwx
  refine HV.out.mono ?_
  rintro e w3 ⟨v1, rfl, hk1, hv1, hn1, hcs3, hby3⟩
  have hb3 : Below w.heap.size w w3 := HB2.out.grown hby3 HB2.out.size (fun k hk => by cases hk; exact HBS.out)
  have HB3 := Lib.hid hb3
  have HA := Lib.hid (any_calls b c w3 hcs3)
  have HV1 := Lib.hid (And.intro hk1 hv1)
  clear hk1 hv1 hn1 hcs3 hby3 hb3 HV HB2
  obtain ⟨ak, an, at_⟩ := v1
  go_wp2_with fail
  refine HA.out.mono ?_
  rintro e w4 ⟨v2, rfl, hv2, hn2, hcs4, hby4⟩
  have hb4 : Below w.heap.size w w4 := HB3.out.grown hby4 HB3.out.size (fun k hk => by cases hk; exact HBS.out)
  have HV2 := Lib.hid hv2
  have hT := Two3.new w4 ⟨ak, an, at_⟩ v2 24
  obtain ⟨bk, bn, bt⟩ := v2
  obtain ⟨W, hW⟩ : ∃ W, W = (w4.alloc (.cells #[.int .i64 ak, .int .i64 an, .string at_] 24)).alloc (.cells #[.int .i64 bk, .int .i64 bn, .string bt] 24) := ⟨_, rfl⟩
  have hbW : Below w.heap.size w W := by rw [hW]; exact (hb4.alloc hb4.size _).alloc (by have := hb4.size; simp; omega) _
  replace hT : Two3 W w4.heap.size ⟨ak, an, at_⟩ ⟨bk, bn, bt⟩ := by rw [hW]; exact hT
  have HT := Lib.hid hT
  have HBW := Lib.hid hbW
  have HW := Lib.hid hW
  have HRE : Hid (ak = bk → realB ⟨ak, an, at_⟩ = true ∧ realB ⟨bk, bn, bt⟩ = true) := fun h => by
    have h1 := HV1.out.1
    have h2 := HK3.out
    have h3 := HV1.out.2
    have h4 := HV2.out
    constructor
    · unfold realB; rw [h3, decide_eq_true (by show 3 ≤ ak; omega)]; rfl
    · unfold realB; rw [h4, decide_eq_true (by show 3 ≤ bk; omega)]; rfl
  have HAK : Hid (ak = k) := HV1.out.1
  have hwx := HWX.out
  clear hv2 hn2 hcs4 hby4 hb4 HA HB3 HV1 HV2 HBS hW hbW
  obtain ⟨l0, l1, a0, a1, a2, b0, b1, b2⟩ := hT
  simp only at a0 a1 a2 b0 b1 b2
  have hlt : w4.heap.size + 1 < W.heap.size := l1
  obtain ⟨rq, hrq⟩ : ∃ rq, decide (bk = k) = rq := ⟨_, rfl⟩
  have hrq' : (bk == wrap64 (3 + x)) = rq := by rw [hwx, ← hrq]; rfl
  clear hwx
  have HRQ := Lib.hid hrq
  clear hrq
  go_wp2_with fail
  rw [← HW.out]
  clear HW
  generalize w4.heap.size = gb at l0 l1 a0 a1 a2 b0 b1 b2 HT hlt ⊢
  go_loopw [8, 9] (fun n i wr => ∃ m : Nat, m ≤ 6 ∧ i = .int .i64 ((m : Int) + 1) ∧ n = .int .i64 (cnt ⟨ak, an, at_⟩ ⟨bk, bn, bt⟩ m : Nat) ∧ Gro W wr) (fun _ i _ => 7 - (intOf i).toNat)
  case atStart => exact ⟨0, by omega, rfl, rfl, Gro.refl _⟩
  case round =>
    obtain ⟨m, hm, rfl, rfl, hg⟩ := hrel
    have HGR := Lib.hid hg
    obtain ⟨l0, l1, a0, a1, a2, b0, b1, b2⟩ := HT.out.later hg.below
    simp only at a0 a1 a2 b0 b1 b2
    by_cases hlt6 : m < 6
    · have hd : decide ((m : Int) + 1 ≤ 6) = true := by simp; omega
      obtain ⟨cmp, hcmp⟩ : ∃ cmp : Int, (m : Int) + 1 = cmp := ⟨_, rfl⟩
      rw [hcmp] at hd
      have hwm := wrap_more cmp (by omega) (by omega)
      have hwn : wrap64 (((cnt ⟨ak, an, at_⟩ ⟨bk, bn, bt⟩ m : Nat) : Int) + 1) = ((cnt ⟨ak, an, at_⟩ ⟨bk, bn, bt⟩ m : Nat) : Int) + 1 := by have := cnt_le ⟨ak, an, at_⟩ ⟨bk, bn, bt⟩ m; exact wrap_more _ (by omega) (by omega)
      obtain ⟨wp, hwp⟩ : ∃ wp, wp = (wr.alloc (.cells #[.int .i64 3, .int .i64 cmp, .int .i64 1, .int .i64 0, .int .i64 0, .int .i64 0, .string ⟨#[]⟩, .int .i64 1, .int .i64 1, .int .i64 0, .int .i64 0, .string ⟨#[]⟩, .slice none 0 0] 29)).alloc (.cells #[.int .i64 ak, .int .i64 an, .string at_, .int .i64 bk, .int .i64 bn, .string bt] 24) := ⟨_, rfl⟩
      have hgp : Gro wr wp := by rw [hwp]; exact ((Gro.refl _).alloc _).alloc _
      have hrow : RowAt wp (.slice (some ⟨wr.heap.size + 1, 0, none⟩) 2 2) [⟨ak, an, at_⟩, ⟨bk, bn, bt⟩] := by
        rw [hwp]
        exact row_two (by simp) ⟨by go_simp, by go_simp, by go_simp⟩ ⟨by go_simp, by go_simp, by go_simp⟩
      have hh := holds_at (fun _ => True) (.slice (some ⟨wr.heap.size + 1, 0, none⟩) 2 2) (.slice none 0 0) [⟨ak, an, at_⟩, ⟨bk, bn, bt⟩] [] 0 (.mk 3 cmp ⟨1, 0, nilV⟩ ⟨1, 1, nilV⟩ []) (.slice none 0 0) wp hrow ⟨none, 0, rfl, by simp, .inl rfl⟩ (PrIn.nil 0 none 0)
      rw [two_holds] at hh
      have HH : Hid (Calls Tryd.prog 19 #[.agg #[.int .i64 3, .int .i64 cmp, .int .i64 1, .int .i64 0, .int .i64 0, .int .i64 0, .string ⟨#[]⟩, .int .i64 1, .int .i64 1, .int .i64 0, .int .i64 0, .string ⟨#[]⟩, .slice none 0 0], .slice (some ⟨wr.heap.size + 1, 0, none⟩) 2 2, .slice none 0 0] wp (BoolG (cpB cmp ⟨ak, an, at_⟩ ⟨bk, bn, bt⟩) wp)) := hh
      have HCP := Lib.hid (fun w' => refCompares_calls cmp ⟨ak, an, at_⟩ ⟨bk, bn, bt⟩ w')
      have HCN : Hid (cnt ⟨ak, an, at_⟩ ⟨bk, bn, bt⟩ (m + 1) = cnt ⟨ak, an, at_⟩ ⟨bk, bn, bt⟩ m + if cpB cmp ⟨ak, an, at_⟩ ⟨bk, bn, bt⟩ = true then 1 else 0) := by show _ = _; rw [cnt, hcmp]
      have HQR : Hid (cpB cmp ⟨ak, an, at_⟩ ⟨bk, bn, bt⟩ = true → rq = true) := fun h => by
        have h2 : ak = bk := by
          unfold cpB at h
          simp only [Bool.and_eq_true, decide_eq_true_eq] at h
          exact h.1.2
        rw [← HRQ.out]; exact decide_eq_true (h2.symm.trans HAK.out)
      have HWP := Lib.hid hwp
      have HGP := Lib.hid (HGR.out.trans hgp)
      generalize cpB cmp ⟨ak, an, at_⟩ ⟨bk, bn, bt⟩ = q at HH HCP HCN HQR
      have HM := Lib.hid (And.intro hlt6 hcmp)
      clear hg hrow hh hwp hgp hlt6 hm
      go_wp2_with fail
      rw [hcmp]
      go_wp2_with fail
      rw [← HWP.out]
      refine HH.out.mono ?_
      rintro e w5 ⟨rfl, hg5⟩
      have hg5' := HGP.out.trans hg5
      obtain ⟨l0, l1, a0, a1, a2, b0, b1, b2⟩ := HT.out.later hg5'.below
      simp only at a0 a1 a2 b0 b1 b2
      have HG5 := Lib.hid hg5'
      clear hg5 hg5' HWP HGP HH HGR
      go_wp2_with fail
      refine (HCP.out w5).mono ?_
      rintro e w6 ⟨rfl, hg6⟩
      have HG6 := Lib.hid (HG5.out.trans hg6)
      clear hg6 HG5 HCP hcmp
      cases q with
      | false =>
        have HCX : Hid (cnt ⟨ak, an, at_⟩ ⟨bk, bn, bt⟩ (m + 1) = cnt ⟨ak, an, at_⟩ ⟨bk, bn, bt⟩ m) := HCN.out
        clear HCN HQR hwn
        go_wp2
        have hmm := HM.out
        exact ⟨⟨m + 1, by omega, by go_num, by rw [HCX.out], HG6.out⟩, by simp [intOf]; omega⟩
      | true =>
        have hrt := HQR.out rfl
        subst hrt
        have HCX : Hid (cnt ⟨ak, an, at_⟩ ⟨bk, bn, bt⟩ (m + 1) = cnt ⟨ak, an, at_⟩ ⟨bk, bn, bt⟩ m + 1) := HCN.out
        clear HCN HQR
        go_wp2
        have hmm := HM.out
        exact ⟨⟨m + 1, by omega, by go_num, by rw [HCX.out]; go_num, HG6.out⟩, by simp [intOf]; omega⟩
    · obtain rfl : m = 6 := by omega
      have HBE := Lib.hid (begun_calls wr (HS.out.later (HBW.out.trans (hg.below.mono HBW.out.size))))
      have HBR := Lib.hid (HBW.out.trans (hg.below.mono HBW.out.size))
      have hc6 : cnt ⟨ak, an, at_⟩ ⟨bk, bn, bt⟩ 6 = if rq = true then 3 else 0 := by
        rw [← HRQ.out]
        by_cases h : bk = k
        · have h2 : ak = bk := HAK.out.trans h.symm
          rw [if_pos (decide_eq_true h)]
          exact cnt_real (HRE.out h2).1 (HRE.out h2).2 h2
        · rw [if_neg (by rw [decide_eq_false h]; simp)]
          exact cnt_none (fun h2 => h (h2.symm.trans HAK.out)) 6
      rw [hc6]
      clear hg hc6 HT HRE
      cases rq with
      | false =>
        go_wp2_with fail
        refine HBE.out.mono ?_
        rintro e w7 ⟨rfl, hb7⟩
        have HB7 := Lib.hid (HBR.out.trans (hb7.mono HBR.out.size))
        clear hb7
        go_wp2
        go_ret
        exact ⟨rfl, HB7.out⟩
      | true =>
        go_wp2_with fail
        refine HBE.out.mono ?_
        rintro e w7 ⟨rfl, hb7⟩
        have HB7 := Lib.hid (HBR.out.trans (hb7.mono HBR.out.size))
        clear hb7
        go_wp2
        go_ret
        exact ⟨rfl, HB7.out⟩
set_option maxRecDepth 100000 in
theorem lifted (os : Os) (started : os.Started) (H : Type) (enc : TypeId × Value → H) :
    ReturnsInHanded {} Tryd.checked os 6 .any (fun w args => (Rows.predicateComparesSpec.pre enc Tryd.prog Tryd.f6 [] false w args ∧ laidMetH Tryd.prog laid1 w) ∧ sizedMet enc Tryd.prog Tryd.f6 (OpenSpec.ofChange Rows.predicateComparesSpec) false w args) (Rows.predicateComparesSpec.post enc Tryd.prog Tryd.f6 false true false false) := by
  refine returnsInHanded_of_change_and (C := Tryd.checked) (X := fun w _ => laidMetH Tryd.prog laid1 w) (fun _ _ _ hh h => h.of_heap hh) own started (by kernel_rfl) Tryd.func6
    (ChangeSpec.witness_shaped (enc := enc) (C := Tryd.checked) (os := os) (X := fun w _ => laidMetH Tryd.prog laid1 w) false (World.doorLaid Tryd.prog 400 os) #[.slice none 0 0] 8 rfl (World.shaped_of_RefB (by kernel_rfl) (by kernel_rfl)) (by kernel_rfl) (by kernel_rfl) (by kernel_rfl) (door_met os _)) ?_
  intro W base args ds gs before hval0 hW hcnd hsz0 hL hlast
  have hS : Shapes W := shapes_of_laid hL
  have hval : ∀ (j : Nat) t v, Tryd.f6.params[j]? = some t → args[j]? = some v → Value.okWide Tryd.prog W .any base t v := hval0
  have hW' := hW
  obtain ⟨p, q, hA0, hV, rfl, hfz, hnd⟩ := hW
  have hA : DataW.TrodAll enc Tryd.prog W 0 (fun _ => true) true Tryd.f6.params.toList args.toList ds p := hA0
  have hsz : (DataW.weightsEach Tryd.prog (Tryd.f6.params.toList ++ Rows.predicateComparesSpec.plain.varTypes Tryd.prog) (ds ++ gs)).all (· ≤ reachBytes) = true := hsz0
  rw [Tryd.params6] at hA hval hsz
  obtain ⟨v0, vs0, d0, ds0, p0, q0, hargs, rfl, rfl, h0, r0⟩ := trodAll_cons hA
  obtain ⟨rfl, rfl, rfl⟩ := trodAll_nil r0
  obtain rfl : args = #[v0] := by cases args; simp_all
  obtain ⟨rfl, rfl⟩ := trodVars_none hV
  have lt0 : ∀ x ∈ p0, x.block < W.heap.size := by obtain ⟨m, hm⟩ := h0; exact DataW.trod_lt m _ _ _ hm
  obtain ⟨a0, len0, cap0, z0, rfl, w0⟩ := open_codes (hval 0 22 v0 rfl rfl) h0
  clear hA0 hval0
  refine (walk a0 len0 cap0 z0 W w0 hS).mono fun e W' ⟨he, bel⟩ => ?_
  subst he
  exact ⟨_, rfl, _, _, _, [], _, [], hW', trodAll_mk1 (shut_bool Tryd.underlying4 _), (trodAll_cons_mk (Below.trod laidOut (by kernel_rfl) (of_decide_eq_true (by kernel_rfl)) h0 bel lt0) trodAll_mk0), rfl, bel.frame _, fun h => by cases h⟩

theorem over : Rows.predicateComparesRow.holds Tryd.pinned (OpenSpec.ofChange Rows.predicateComparesSpec) :=
  OpenClaim.holds_of_wide 6 Tryd.f6 rfl rfl rfl rfl rfl rfl rfl ⟨rfl, rfl, rfl, rfl, rfl⟩ rfl rfl rfl rfl rfl (by kernel_rfl) Tryd.func6 (by kernel_rfl)
    (of_decide_eq_true (by kernel_rfl)) (by unfold Func.isWrapper; first | (rw [if_pos (by decide +kernel)]; kernel_rfl) | (rw [if_neg (by decide +kernel)]; exact ⟨rfl, rfl⟩))
    (fun os started H enc _ => lifted os started H enc)
theorem proved : Rows.PredicateComparesCardSaid :=
  Claim7.holds_tied_plain_at .later [] [.data] true (true, "9bab2e6f8f3a4086f970aadcef5cd4a53f1b43a7419a730cbea14f448ef152b5") false
    over (fun _ h => by cases h) (by kernel_rfl) (fun _ h => by cases h) predicateCompares_row_tie rfl ⟨rfl, rfl⟩ (by kernel_rfl) rfl
    (fun f fn hf hfn => by
      obtain rfl : f = 6 := Option.some.inj ((show Tryd.prog.funcNamed "partsync/partsynclaw05.PredicateCompares" = some 6 by kernel_rfl).symm.trans hf) |>.symm
      obtain rfl : fn = Tryd.f6 := (Option.some.inj (Tryd.func6.symm.trans hfn)).symm
      exact ⟨by kernel_rfl, fun j t ht => by
        rw [Tryd.params6] at ht
        have hm : t ∈ [22] := by simpa using Array.mem_of_getElem? ht
        have hall : ([22].all fun u => !Tryd.prog.wantsStandIn u) = true := by kernel_rfl
        exact (show Tryd.prog.wantsStandIn t = false by simpa using List.all_eq_true.1 hall t hm)⟩)
    (by kernel_rfl)

end Compares
end Go.Proofs.YteihifhmoalafaaDoor
