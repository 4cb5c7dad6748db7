/- The law IntervalPoints returns true for all codes, without conditions. -/
import Derived.Test.YtmjokpakekfkfaaUc
import Derived.Test.YtmjokpakekfkfaaVt
set_option linter.unusedSimpArgs false
set_option linter.unusedVariables false
namespace Go.Proofs.Ytmjokpakekfkfaa
open Go.ChangeShapes Go.WideShapes Go.ChangeAt Go.RowKit

namespace LPoints
theorem do_small {f : Bool → Bool → Bool} (hff : f false false = false) {a b : List I} (ha : OrdL a) (hb : OrdL b) (hl : a.length + b.length ≤ 64) : doL f a b = combL f a b ∧ doE f a b = 0 := by
  have h1 := comb_ord hff ha hb
  have ca := canon_of ha (by omega)
  have cb := canon_of hb (by omega)
  have hl3 : (combL f a b).length ≤ 64 := by omega
  exact ⟨by unfold doL; rw [if_pos ⟨ca, cb, hl3⟩], by unfold doE; rw [if_pos ⟨ca, cb⟩, if_pos hl3]⟩
theorem cov_err {a b : List I} (ha : canonB a = true) (hb : canonB b = true) : covE a b = 0 := by unfold covE; rw [if_pos ⟨ha, hb⟩]
theorem cov_says {a b : List I} (ha : OrdL a) (hb : OrdL b) (h : covB a b = true) (u : V) (hu : inB b u = true) : inB a u = true := by
  unfold covB at h
  simp only [Bool.and_eq_true, decide_eq_true_eq] at h
  have h0 := List.eq_nil_of_length_eq_zero h.2
  have h1 := (comb_ord (f := opNot) rfl hb ha).2.1 u
  rw [h0, hu] at h1
  cases hx : inB a u with
  | true => rfl
  | false => rw [hx] at h1; cases h1
theorem all_in {u : V} (h : validB u = true) : inB allL u = true := by
  have hs := goodS.self ByteArray.empty
  have hp : validP u := by simpa [validB] using h
  have : cmpV ⟨1, 0, ByteArray.empty⟩ u ≤ 0 := by
    obtain ⟨k, n, t⟩ := u
    rcases hp with ⟨h1, h2, h3⟩ | ⟨h1, _⟩ | ⟨h1, _⟩ | ⟨h1, _⟩
    · simp only at h1 h2 h3
      subst h2 h3
      rcases h1 with rfl | rfl
      · rw [goodV.self]; omega
      · simp [cmpV, cmpI]
    all_goals (simp only at h1; subst h1; simp [cmpV, cmpI])
  exact inB_iff.2 ⟨⟨⟨1, 0, ByteArray.empty⟩, zV, true⟩, by simp [allL], inI_iff.2 ⟨this, .inl rfl⟩⟩
theorem has_eq {L : List I} {x : V} (hc : canonB L = true) (hv : validB x = true) : hasB L x = inB L x := by unfold hasB; rw [hc, hv]; rfl
/-- The six lists, each of its own memory behind the case's. -/
structure Six (cb : Nat) (w : World) (va vb vu vi vm vn : Value) (A B U I' M N : List I) : Prop where
  a : IvO (cb + 1) w va A
  b : IvO (cb + 1) w vb B
  u : IvO (cb + 1) w vu U
  i : IvO (cb + 1) w vi I'
  m : IvO (cb + 1) w vm M
  n : IvO (cb + 1) w vn N
theorem Six.off {cb : Nat} {w w' : World} {va vb vu vi vm vn : Value} {A B U I' M N : List I} (h : Six cb w va vb vu vi vm vn A B U I' M N) (hg : w.grownBy w' (some cb)) : Six cb w' va vb vu vi vm vn A B U I' M N :=
  ⟨h.a.off hg, h.b.off hg, h.u.off hg, h.i.off hg, h.m.off hg, h.n.off hg⟩
theorem Six.later {cb : Nat} {w w' : World} {va vb vu vi vm vn : Value} {A B U I' M N : List I} (h : Six cb w va vb vu vi vm vn A B U I' M N) (hg : Below w.heap.size w w') : Six cb w' va vb vu vi vm vn A B U I' M N :=
  ⟨h.a.later hg, h.b.later hg, h.u.later hg, h.i.later hg, h.m.later hg, h.n.later hg⟩
/-- The canonical lists and what is in them. -/
structure Six' (A B U I' M N : List I) (P : Bool) : Prop where
  ca : canonB A = true
  cb : canonB B = true
  cu : canonB U = true
  ci : canonB I' = true
  cm : canonB M = true
  cn : canonB N = true
  iu : ∀ x, inB U x = (inB A x || inB B x)
  ii : ∀ x, inB I' x = (inB A x && inB B x)
  im : ∀ x, inB M x = (inB A x && !inB B x)
  in_ : ∀ x, validB x = true → inB N x = !inB A x
  p : P = true → ∀ x, inB B x = true → inB A x = true
theorem six' {A B : List I} (ha : OrdL A) (hb : OrdL B) (hla : A.length ≤ 4) (hlb : B.length ≤ 4) : Six' A B (combL opOr A B) (combL opAnd A B) (combL opNot A B) (combL opNot allL A) (covB A B) := by
  obtain ⟨o1, m1, l1⟩ := comb_ord (f := opOr) rfl ha hb
  obtain ⟨o2, m2, l2⟩ := comb_ord (f := opAnd) rfl ha hb
  obtain ⟨o3, m3, l3⟩ := comb_ord (f := opNot) rfl ha hb
  obtain ⟨o4, m4, l4⟩ := comb_ord (f := opNot) rfl (canon_ord canon_all).1 ha
  have l0 : allL.length = 1 := rfl
  exact ⟨canon_of ha (by omega), canon_of hb (by omega), canon_of o1 (by omega), canon_of o2 (by omega), canon_of o3 (by omega), canon_of o4 (by omega), m1, m2, m3, fun x hx => by rw [m4 x, all_in hx]; rfl, fun h x => cov_says ha hb h x⟩
set_option maxHeartbeats 4000000 in
set_option maxRecDepth 100000 in
theorem walk (a : Option Addr) (len cap : Nat) (zs : List Int) (w : World) (hr : IsRow .u8 w a len cap zs) :
    Calls Try.prog 5 #[.slice a len cap] w fun e w' => e = .returned (.bool true) ∧ Below w.heap.size w w' := by
  have mx := mixed
  have HN := Lib.hid (new120_calls a len cap zs w hr)
  clear hr
  go_enter Try.func5, Try.ntmps5
  go_wp2_with fail
  refine HN.out.mono ?_
  rintro e w1 ⟨cb, c, rfl, hbs, hcs, hb1⟩
  have HC := Lib.hid hcs
  have HB1 := Lib.hid hb1
  have HBS := Lib.hid hbs
  have HBSX := Lib.hid hbs
  clear hbs hcs hb1 HN
  go_wp2_with fail
  refine (caseInterval_calls cb c _ HC.out).mono ?_
  rintro e w2 ⟨va, A, rfl, hoa, hra, hla, hc2, hb2⟩
  have HOA := Lib.hid hoa
  have HRA := Lib.hid hra
  have HLA := Lib.hid hla
  have HC2 := Lib.hid hc2
  have HB2 := Lib.hid hb2
  obtain ⟨pa, ka, rfl⟩ := ownsRow_slice hoa
  clear hoa hra hla hc2 hb2
  go_wp2_with fail
  refine (caseInterval_calls cb c _ HC2.out).mono ?_
  rintro e w3 ⟨vb, B, rfl, hob, hrb, hlb, hc3, hb3⟩
  obtain ⟨pb, kb, rfl⟩ := ownsRow_slice hob
  have HC3 := Lib.hid hc3
  have HWB : Hid (Below w.heap.size w w3) := (HB1.out.grown HB2.out HB1.out.size (fun k hk => by cases hk; exact HBS.out)).grown hb3 (by have := HB1.out.size; have := HB2.out.size; omega) (fun k hk => by cases hk; exact HBS.out)
  have HLT : Hid (cb + 1 ≤ w3.heap.size) := hc3.lt
  have HIA : Hid (IvO (cb + 1) w3 (.slice pa A.length ka) A) := ⟨OwnI.at_ (own_off HOA.out hb3) (by have := HLA.out; omega), own_off HOA.out hb3⟩
  have HIB : Hid (IvO (cb + 1) w3 (.slice pb B.length kb) B) := ⟨OwnI.at_ hob (by omega), hob⟩
  have H6 := Lib.hid (six' HRA.out hrb HLA.out hlb)
  have hal : allL.length = 1 := rfl
  have hcu := fun w' h h' => Union_own (.slice pa A.length ka) (.slice pb B.length kb) A B w' h h'
  rw [(do_small (f := opOr) rfl HRA.out hrb (by have := HLA.out; omega)).1, (do_small (f := opOr) rfl HRA.out hrb (by have := HLA.out; omega)).2] at hcu
  have hci := fun w' h h' => Intersect_own (.slice pa A.length ka) (.slice pb B.length kb) A B w' h h'
  rw [(do_small (f := opAnd) rfl HRA.out hrb (by have := HLA.out; omega)).1, (do_small (f := opAnd) rfl HRA.out hrb (by have := HLA.out; omega)).2] at hci
  have hcm := fun w' h h' => Minus_own (.slice pa A.length ka) (.slice pb B.length kb) A B w' h h'
  rw [(do_small (f := opNot) rfl HRA.out hrb (by have := HLA.out; omega)).1, (do_small (f := opNot) rfl HRA.out hrb (by have := HLA.out; omega)).2] at hcm
  have hcn := fun w' h => Complement_own (.slice pa A.length ka) A w' h
  rw [(do_small (f := opNot) rfl (canon_ord canon_all).1 HRA.out (by have := HLA.out; omega)).1, (do_small (f := opNot) rfl (canon_ord canon_all).1 HRA.out (by have := HLA.out; omega)).2] at hcn
  have hcv := fun w' h h' => Covers_calls (.slice pa A.length ka) (.slice pb B.length kb) A B w' h h'
  rw [cov_err H6.out.ca H6.out.cb] at hcv
  generalize covB A B = P at hcv H6
  generalize combL opOr A B = U at hcu H6
  generalize combL opAnd A B = J at hci H6
  generalize combL opNot A B = M at hcm H6
  generalize combL opNot allL A = N at hcn H6
  have HCU := Lib.hid hcu
  have HCI := Lib.hid hci
  have HCM := Lib.hid hcm
  have HCN := Lib.hid hcn
  have HCV := Lib.hid hcv
  clear hcu hci hcm hcn hcv hob hrb hlb hc3 hb3 HOA HRA HLA HC2 HB2 HC HB1 HBS hal
  generalize A.length = na at HIA HCU HCI HCM HCN HCV ⊢
  generalize B.length = nb at HIB HCU HCI HCM HCV ⊢
  go_wp2_with fail
  refine (HCU.out w3 HIA.out.at_ HIB.out.at_).mono ?_
  rintro e w4 ⟨pu, ku, rfl, hou, hb4⟩
  have HOU := Lib.hid (hou.mono HLT.out)
  have HB4 := Lib.hid hb4
  generalize U.length = nu at HOU ⊢
  clear hou hb4 HCU
  go_wp2_with fail
  refine (HCI.out w4 (HIA.out.at_.later HB4.out) (HIB.out.at_.later HB4.out)).mono ?_
  rintro e w5 ⟨pi, ki, rfl, hoi, hb5⟩
  have HOI := Lib.hid (hoi.mono (Nat.le_trans HLT.out HB4.out.size))
  have HOU := Lib.hid (HOU.out.later hb5)
  have HB5 := Lib.hid (HB4.out.trans (hb5.mono HB4.out.size))
  generalize J.length = ni at HOI ⊢
  clear hoi hb5 HCI HB4
  go_wp2_with fail
  refine (HCM.out w5 (HIA.out.at_.later HB5.out) (HIB.out.at_.later HB5.out)).mono ?_
  rintro e w6 ⟨pm, km, rfl, hom, hb6⟩
  have HOM := Lib.hid (hom.mono (Nat.le_trans HLT.out HB5.out.size))
  have HOU := Lib.hid (HOU.out.later hb6)
  have HOI := Lib.hid (HOI.out.later hb6)
  have HB6 := Lib.hid (HB5.out.trans (hb6.mono HB5.out.size))
  generalize M.length = nm at HOM ⊢
  clear hom hb6 HCM HB5
  go_wp2_with fail
  refine (HCN.out w6 (HIA.out.at_.later HB6.out)).mono ?_
  rintro e w7 ⟨pn, kn, rfl, hon, hb7⟩
  have HON := Lib.hid (hon.mono (Nat.le_trans HLT.out HB6.out.size))
  have HOU := Lib.hid (HOU.out.later hb7)
  have HOI := Lib.hid (HOI.out.later hb7)
  have HOM := Lib.hid (HOM.out.later hb7)
  have HB7 := Lib.hid (HB6.out.trans (hb7.mono HB6.out.size))
  generalize N.length = nn at HON ⊢
  clear hon hb7 HCN HB6
  go_wp2_with fail
  refine (HCV.out w7 (HIA.out.at_.later HB7.out) (HIB.out.at_.later HB7.out)).mono ?_
  rintro e w8 ⟨rfl, hb8⟩
  have HB8 := Lib.hid (HB7.out.trans (hb8.mono HB7.out.size))
  have HS : Hid (Six cb w8 (.slice pa na ka) (.slice pb nb kb) (.slice pu nu ku) (.slice pi ni ki) (.slice pm nm km) (.slice pn nn kn) A B U J M N) := ⟨HIA.out.later HB8.out, HIB.out.later HB8.out, HOU.out.later hb8, HOI.out.later hb8, HOM.out.later hb8, HON.out.later hb8⟩
  have HC8 : Hid (CaseAt w8 cb c) := CaseAt.grown HC3.out ⟨HB8.out.os, HB8.out.tape, HB8.out.output, HB8.out.size, fun k hk _ => HB8.out.block k hk⟩
  have HW8 := Lib.hid (HWB.out.trans (HB8.out.mono HWB.out.size))
  have HCB : Hid (w.heap.size ≤ cb) := HBSX.out
  clear hb8 HCV HIA HIB HOU HOI HOM HON HB8 HB7 HC3 HWB HLT
  go_wp2_with fail
  go_loopw [16] (fun i wr => ∃ k : Nat, k ≤ 6 ∧ i = .int .i64 k ∧ CaseAt wr cb c ∧ Six cb wr (.slice pa na ka) (.slice pb nb kb) (.slice pu nu ku) (.slice pi ni ki) (.slice pm nm km) (.slice pn nn kn) A B U J M N ∧ Below w.heap.size w wr) (fun i _ => 6 - (intOf i).toNat)
  case atStart => exact ⟨0, by omega, rfl, HC8.out, HS.out, HW8.out⟩
  case round =>
    obtain ⟨k, hk, rfl, hcs, hs, hb⟩ := hrel
    have HC := Lib.hid hcs
    have HX := Lib.hid hs
    have HB := Lib.hid hb
    clear hcs hs hb HC8 HS HW8
    by_cases hlt : k < 6
    · have hlt' : decide ((k : Int) < 6) = true := by simp; omega
      have HKK := Lib.hid hlt
      obtain ⟨wo, rfl⟩ : ∃ wo : World, wo = wr := ⟨_, rfl⟩
      clear hlt hk
      go_wp2_with fail
      refine (any_calls cb c _ HC.out).mono ?_
      rintro e w2 ⟨⟨xk, xn, xt⟩, rfl, hval, hnum, hcs2, hby2⟩
      have HCS2 := Lib.hid hcs2
      have HS2 := Lib.hid (HX.out.off hby2)
      have HBB2 := Lib.hid (HB.out.grown hby2 HB.out.size (fun k hk => by cases hk; exact HCB.out))
      have HV := Lib.hid hval
      clear hval hnum hcs2 hby2 HX HB HC
      go_wp2_with fail
      obtain ⟨W, hW⟩ : ∃ W, W = w2.alloc (.cells #[.int .i64 xk, .int .i64 xn, .string xt] 25) := ⟨_, rfl⟩
      rw [← hW]
      have hgW : Gro w2 W := by rw [hW]; exact (Gro.refl _).alloc _
      obtain ⟨lx, x0, x1, x2⟩ : w2.heap.size < W.heap.size ∧ W.cell? ⟨w2.heap.size, 0, none⟩ = some (.int .i64 xk) ∧ W.cell? ⟨w2.heap.size, 1, none⟩ = some (.int .i64 xn) ∧ W.cell? ⟨w2.heap.size, 2, none⟩ = some (.string xt) := by
        rw [hW]; exact ⟨by simp, by go_simp, by go_simp, by go_simp⟩
      generalize w2.heap.size = gx at lx x0 x1 x2 ⊢
      have HCW : Hid (CaseAt W cb c) := HCS2.out.below hgW
      have HSW := Lib.hid (HS2.out.later hgW.below)
      have HBW := Lib.hid (HBB2.out.trans (hgW.below.mono HBB2.out.size))
      have HXB : Hid (Box W gx ⟨xk, xn, xt⟩) := ⟨lx, ⟨x0, x1, x2⟩⟩
      clear hW hgW HCS2 HS2 HBB2
      obtain ⟨qa, hqa⟩ : ∃ q, inB A ⟨xk, xn, xt⟩ = q := ⟨_, rfl⟩
      obtain ⟨qb, hqb⟩ : ∃ q, inB B ⟨xk, xn, xt⟩ = q := ⟨_, rfl⟩
      have HHA : Hid (∀ w', IvAt w' (.slice pa na ka) A → Calls Try.prog 14 #[.slice pa na ka, (⟨xk, xn, xt⟩ : V).val] w' fun e w'' => e = .returned (.bool qa) ∧ Gro w' w'') := fun w' h => by
        have := ihas_calls _ A ⟨xk, xn, xt⟩ w' h; rw [has_eq H6.out.ca HV.out, hqa] at this; exact this
      have HHB : Hid (∀ w', IvAt w' (.slice pb nb kb) B → Calls Try.prog 14 #[.slice pb nb kb, (⟨xk, xn, xt⟩ : V).val] w' fun e w'' => e = .returned (.bool qb) ∧ Gro w' w'') := fun w' h => by
        have := ihas_calls _ B ⟨xk, xn, xt⟩ w' h; rw [has_eq H6.out.cb HV.out, hqb] at this; exact this
      have HHU : Hid (∀ w', IvAt w' (.slice pu nu ku) U → Calls Try.prog 14 #[.slice pu nu ku, (⟨xk, xn, xt⟩ : V).val] w' fun e w'' => e = .returned (.bool (qa || qb)) ∧ Gro w' w'') := fun w' h => by
        have := ihas_calls _ U ⟨xk, xn, xt⟩ w' h; rw [has_eq H6.out.cu HV.out, H6.out.iu, hqa, hqb] at this; exact this
      have HHI : Hid (∀ w', IvAt w' (.slice pi ni ki) J → Calls Try.prog 14 #[.slice pi ni ki, (⟨xk, xn, xt⟩ : V).val] w' fun e w'' => e = .returned (.bool (qa && qb)) ∧ Gro w' w'') := fun w' h => by
        have := ihas_calls _ J ⟨xk, xn, xt⟩ w' h; rw [has_eq H6.out.ci HV.out, H6.out.ii, hqa, hqb] at this; exact this
      have HHM : Hid (∀ w', IvAt w' (.slice pm nm km) M → Calls Try.prog 14 #[.slice pm nm km, (⟨xk, xn, xt⟩ : V).val] w' fun e w'' => e = .returned (.bool (qa && !qb)) ∧ Gro w' w'') := fun w' h => by
        have := ihas_calls _ M ⟨xk, xn, xt⟩ w' h; rw [has_eq H6.out.cm HV.out, H6.out.im, hqa, hqb] at this; exact this
      have HHN : Hid (∀ w', IvAt w' (.slice pn nn kn) N → Calls Try.prog 14 #[.slice pn nn kn, (⟨xk, xn, xt⟩ : V).val] w' fun e w'' => e = .returned (.bool (!qa)) ∧ Gro w' w'') := fun w' h => by
        have := ihas_calls _ N ⟨xk, xn, xt⟩ w' h; rw [has_eq H6.out.cn HV.out, H6.out.in_ _ HV.out, hqa] at this; exact this
      have HPQ : Hid (P = true → qb = true → qa = true) := fun h1 h2 => by rw [← hqa]; exact H6.out.p h1 _ (by rw [hqb]; exact h2)
      clear hqa hqb
      have HGA : Hid (∀ n os, IvAt (Sort.grow (W.drewN n) os) (.slice pa na ka) A) := fun n os => HSW.out.a.at_.later ((Gro.refl W).grown n os).below
      have HGB : Hid (∀ n os, IvAt (Sort.grow (W.drewN n) os) (.slice pb nb kb) B) := fun n os => HSW.out.b.at_.later ((Gro.refl W).grown n os).below
      refine wp_region_quiet_grown mx (by kernel_rfl) ?_
      repeat (go_big_quiet_step ((first | (go_at_call_of 14 pa; refine gro_calls (HHA.out _ (HGA.out _ _))) | (go_at_call_of 14 pb; refine gro_calls (HHB.out _ (HGB.out _ _))) | fail)))
      refine wpQuiet_nil ?_
      intro w5 hw5
      obtain ⟨⟨nq, osq⟩, hw6⟩ := hw5
      have hg5 : Gro W w5 := by rw [hw6]; exact (Gro.refl W).grown nq osq
      have HC5 := Lib.hid (HCW.out.below hg5)
      have HS5 := Lib.hid (HSW.out.later hg5.below)
      have HB5 := Lib.hid (HBW.out.trans (hg5.below.mono HBW.out.size))
      obtain ⟨ly, y0, y1, y2⟩ := (HXB.out.later hg5.below).cells
      have HXB5 := Lib.hid (HXB.out.later hg5.below)
      have hwk := step_int k (by have := HKK.out; omega)
      clear hw6 hg5 x0 x1 x2 lx HGA HGB HHA HHB HCW HSW HBW HXB
      have HPP := HPQ.out
      cases P <;> cases qa <;> cases qb
      all_goals try (exact absurd (HPP rfl rfl) (by decide))
      all_goals (
        clear HPP HPQ
        go_wp2_with fail
        refine (HHU.out w5 HS5.out.u.at_).mono ?_
        rintro e w6 ⟨rfl, hg6⟩
        have HG6 := Lib.hid hg6
        obtain ⟨lz, z0, z1, z2⟩ := (HXB5.out.later hg6.below).cells
        clear hg6 ly y0 y1 y2
        go_wp2_with fail
        refine (HHI.out w6 (HS5.out.i.at_.later HG6.out.below)).mono ?_
        rintro e w7 ⟨rfl, hg7⟩
        have HG7 := Lib.hid (HG6.out.trans hg7)
        obtain ⟨ly, y0, y1, y2⟩ := (HXB5.out.later HG7.out.below).cells
        clear hg7 lz z0 z1 z2
        go_wp2_with fail
        refine (HHM.out w7 (HS5.out.m.at_.later HG7.out.below)).mono ?_
        rintro e w8 ⟨rfl, hg8⟩
        have HG8 := Lib.hid (HG7.out.trans hg8)
        obtain ⟨lz, z0, z1, z2⟩ := (HXB5.out.later HG8.out.below).cells
        clear hg8 ly y0 y1 y2
        go_wp2_with fail
        refine (HHN.out w8 (HS5.out.n.at_.later HG8.out.below)).mono ?_
        rintro e w9 ⟨rfl, hg9⟩
        have HG9 := Lib.hid (HG8.out.trans hg9)
        clear hg9 lz z0 z1 z2
        go_wp2
        generalize wrap64 ((k : Int) + 1) = z at hwk ⊢
        subst hwk
        have hkk := HKK.out
        exact ⟨⟨k + 1, by omega, by go_num, HC5.out.below HG9.out, HS5.out.later HG9.out.below, HB5.out.trans (HG9.out.below.mono HB5.out.size)⟩, by simp [intOf]; omega⟩)
    · have hlt' : decide ((k : Int) < 6) = false := by simp; omega
      obtain ⟨wo, rfl⟩ : ∃ wo : World, wo = wr := ⟨_, rfl⟩
      clear hlt hk
      go_wp2_with fail
      refine (ibegun_calls _).mono ?_
      rintro e w2 ⟨rfl, hb2⟩
      have HB2 := Lib.hid (HB.out.trans (hb2.mono HB.out.size))
      have HS2 := Lib.hid (HX.out.later hb2)
      have hv1 := ivalid_calls _ U w2 HS2.out.u.at_
      rw [H6.out.cu] at hv1
      have HV1 := Lib.hid hv1
      clear hb2 hv1
      go_wp2_with fail
      refine HV1.out.mono ?_
      rintro e w3 ⟨rfl, hg3⟩
      have HG3 := Lib.hid hg3
      have hv2 := ivalid_calls _ J w3 (HS2.out.i.at_.later HG3.out.below)
      rw [H6.out.ci] at hv2
      have HV2 := Lib.hid hv2
      clear hg3 hv2
      go_wp2_with fail
      refine HV2.out.mono ?_
      rintro e w4 ⟨rfl, hg4⟩
      have HG4 := Lib.hid (HG3.out.trans hg4)
      have hv3 := ivalid_calls _ M w4 (HS2.out.m.at_.later HG4.out.below)
      rw [H6.out.cm] at hv3
      have HV3 := Lib.hid hv3
      clear hg4 hv3
      go_wp2_with fail
      refine HV3.out.mono ?_
      rintro e w5 ⟨rfl, hg5⟩
      have HG5 := Lib.hid (HG4.out.trans hg5)
      have hv4 := ivalid_calls _ N w5 (HS2.out.n.at_.later HG5.out.below)
      rw [H6.out.cn] at hv4
      have HV4 := Lib.hid hv4
      clear hg5 hv4
      go_wp2_with fail
      refine HV4.out.mono ?_
      rintro e w6 ⟨rfl, hg6⟩
      have HG6 := Lib.hid (HG5.out.trans hg6)
      clear hg6
      go_wp2
      go_ret
      exact ⟨rfl, HB2.out.trans (HG6.out.below.mono HB2.out.size)⟩
set_option maxRecDepth 100000 in
theorem lifted (os : Os) (started : os.Started) (H : Type) (enc : TypeId × Value → H) :
    ReturnsInHanded {} Try.checked os 5 .any (Rows.intervalPointsSpec.pre6 enc Try.prog Try.f5 Rows.intervalPointsRow.domain false) (Rows.intervalPointsSpec.post enc Try.prog Try.f5 false true false false) := by
  refine returnsInHanded_of_change (C := Try.checked) own started (by kernel_rfl) Try.func5
    (ChangeSpec.witness6 (enc := enc) (C := Try.checked) false ⟨#[], #[.slice none 0 0], []⟩ 8 (by kernel_rfl) (by kernel_rfl) (by kernel_rfl) (by kernel_rfl)) ?_
  intro W base args ds gs before hval0 hW hcnd hsizes
  have hval : ∀ (j : Nat) t v, Try.f5.params[j]? = some t → args[j]? = some v → Value.okWide Try.prog W .any base t v := hval0
  have hW' := hW
  obtain ⟨p, q, hA0, hV, rfl, hfz, hnd⟩ := hW
  have hA : DataW.TrodAll enc Try.prog W 0 (fun _ => true) true Try.f5.params.toList args.toList ds p := hA0
  rw [Try.params5] at hA hval
  obtain ⟨v0, vs0, d0, ds0, p0, q0, hargs, rfl, rfl, h0, r0⟩ := trodAll_cons hA
  obtain ⟨rfl, rfl, rfl⟩ := trodAll_nil r0
  obtain rfl : args = #[v0] := by cases args; simp_all
  obtain ⟨rfl, rfl⟩ := trodVars_none hV
  have lt0 : ∀ x ∈ p0, x.block < W.heap.size := by obtain ⟨m, hm⟩ := h0; exact DataW.trod_lt m _ _ _ hm
  obtain ⟨a0, len0, cap0, z0, rfl, w0⟩ := open_codes (hval 0 22 v0 rfl rfl) h0
  clear hA0 hval0
  refine (walk a0 len0 cap0 z0 W w0).mono fun e W' ⟨he, bel⟩ => ?_
  subst he
  exact ⟨_, rfl, _, _, _, [], _, [], hW', trodAll_mk1 (shut_bool Try.underlying4 _), (trodAll_cons_mk (Below.trod laidOut (by kernel_rfl) (of_decide_eq_true (by kernel_rfl)) h0 bel lt0) trodAll_mk0), rfl, bel.frame _, fun h => by cases h⟩

theorem over : Rows.intervalPointsRow.holds Try.pinned (OpenSpec.ofChange Rows.intervalPointsSpec) :=
  OpenClaim.holds_of_wide 5 Try.f5 rfl rfl rfl rfl rfl rfl rfl ⟨rfl, rfl, rfl, rfl, rfl⟩ rfl rfl rfl rfl rfl (by kernel_rfl) Try.func5 (by kernel_rfl)
    (of_decide_eq_true (by kernel_rfl)) (by unfold Func.isWrapper; first | (rw [if_pos (by decide +kernel)]; kernel_rfl) | (rw [if_neg (by decide +kernel)]; exact ⟨rfl, rfl⟩))
    (fun os started H enc _ => lifted os started H enc)
theorem proved : Rows.IntervalPointsSaid := over
end LPoints
end Go.Proofs.Ytmjokpakekfkfaa
