/- The law IntervalOnce returns true for all codes, without conditions. -/
import Derived.Test.YtllakifmflploaaUc
import Derived.Test.YtllakifmflploaaVt
set_option linter.unusedSimpArgs false
set_option linter.unusedVariables false
namespace Go.Proofs.Ytllakifmflploaa
open Go.ChangeShapes Go.WideShapes Go.ChangeAt Go.RowKit

namespace Once
theorem do_small {f : Bool → Bool → Bool} (hff : f false false = false) {a b : List I} (ha : OrdL a) (hb : OrdL b) (hl : a.length + b.length ≤ 64) : doL f a b = combL f a b ∧ doE f a b = 0 := by
  have h1 := comb_ord hff ha hb
  have ca := canon_of ha (by omega)
  have cb := canon_of hb (by omega)
  have hl3 : (combL f a b).length ≤ 64 := by omega
  exact ⟨by unfold doL; rw [if_pos ⟨ca, cb, hl3⟩], by unfold doE; rw [if_pos ⟨ca, cb⟩, if_pos hl3]⟩
theorem nil_iff {L : List I} (h : OrdL L) : L.length = 0 ↔ ∀ u, inB L u = false := by
  constructor
  · intro h0 u
    obtain rfl := List.eq_nil_of_length_eq_zero h0
    rfl
  · intro h0
    cases L with
    | nil => rfl
    | cons x l =>
      have := head_in h
      rw [h0] at this
      cases this
theorem cov_small {a b : List I} (ha : OrdL a) (hb : OrdL b) (hla : a.length ≤ 32) (hlb : b.length ≤ 32) : covE a b = 0 ∧ (covB a b = true ↔ ∀ u, inB b u = true → inB a u = true) := by
  have ca := canon_of ha (by omega)
  have cb := canon_of hb (by omega)
  obtain ⟨h1, h2, _⟩ := comb_ord (f := opNot) rfl hb ha
  refine ⟨by unfold covE; rw [if_pos ⟨ca, cb⟩], ?_⟩
  unfold covB
  rw [ca, cb, Bool.true_and, Bool.true_and, decide_eq_true_eq, nil_iff h1]
  constructor
  · intro h u hu
    have h3 := h u
    rw [h2 u, hu] at h3
    cases hx : inB a u with
    | true => rfl
    | false => rw [hx] at h3; cases h3
  · intro h u
    rw [h2 u]
    cases hx : inB b u with
    | false => rfl
    | true => rw [h u hx]; rfl
theorem both {a b : List I} (ha : OrdL a) (hb : OrdL b) (hla : a.length ≤ 32) (hlb : b.length ≤ 32) : (covB a b && covB b a) = decide (a = b) := by
  have h1 := (cov_small ha hb hla hlb).2
  have h2 := (cov_small hb ha hlb hla).2
  rw [Bool.eq_iff_iff, Bool.and_eq_true, h1, h2, decide_eq_true_eq]
  constructor
  · rintro ⟨x, y⟩
    refine OrdL.unique ha hb fun v _ => ?_
    rw [Bool.eq_iff_iff]
    exact ⟨y v, x v⟩
  · rintro rfl
    exact ⟨fun _ h => h, fun _ h => h⟩
theorem parts {a b : List I} (ha : OrdL a) (hb : OrdL b) : combL opOr (combL opNot a b) (combL opAnd a b) = a := by
  obtain ⟨o1, m1, _⟩ := comb_ord (f := opNot) rfl ha hb
  obtain ⟨o2, m2, _⟩ := comb_ord (f := opAnd) rfl ha hb
  refine (combL_is ha fun u => ?_).symm
  rw [m1 u, m2 u]
  cases inB a u <;> cases inB b u <;> rfl
set_option maxHeartbeats 4000000 in
set_option maxRecDepth 100000 in
theorem walk (a : Option Addr) (len cap : Nat) (zs : List Int) (w : World) (hr : IsRow .u8 w a len cap zs) :
    Calls Try.prog 10 #[.slice a len cap] w fun e w' => e = .returned (.bool true) ∧ Below w.heap.size w w' := by
  have HN := Lib.hid (new120_calls a len cap zs w hr)
  clear hr
  go_enter Try.func10, Try.ntmps10
  go_wp2_with fail
  refine HN.out.mono ?_
  rintro e w1 ⟨cb, c, rfl, hbs, hcs, hb1⟩
  have HC := Lib.hid hcs
  have HB1 := Lib.hid hb1
  have HBS := Lib.hid hbs
  clear hbs hcs hb1 HN
  go_wp2_with fail
  refine (caseInterval_calls cb c _ HC.out).mono ?_
  rintro e w2 ⟨va, A, rfl, hoa, hra, hla, hc2, hb2⟩
  have HOA := Lib.hid hoa
  have HRA := Lib.hid hra
  have HLA := Lib.hid hla
  have HC2 := Lib.hid hc2
  have HB2 := Lib.hid hb2
  obtain ⟨pa, ca, rfl⟩ := ownsRow_slice hoa
  clear hoa hra hla hc2 hb2
  go_wp2_with fail
  refine (caseInterval_calls cb c _ HC2.out).mono ?_
  rintro e w3 ⟨vb, B, rfl, hob, hrb, hlb, hc3, hb3⟩
  obtain ⟨pb, kb, rfl⟩ := ownsRow_slice hob
  have HRB := Lib.hid hrb
  have HLB := Lib.hid hlb
  have hwb : Below w.heap.size w w3 := (HB1.out.grown HB2.out HB1.out.size (fun k hk => by cases hk; exact HBS.out)).grown hb3 (by have := HB1.out.size; have := HB2.out.size; omega) (fun k hk => by cases hk; exact HBS.out)
  have HW := Lib.hid hwb
  have HIA : Hid (IvAt w3 (.slice pa A.length ca) A) := OwnI.at_ (own_off HOA.out hb3) (by have := HLA.out; omega)
  have HIB : Hid (IvAt w3 (.slice pb B.length kb) B) := OwnI.at_ hob (by omega)
  have hbo := both HRA.out HRB.out (by have := HLA.out; omega) (by omega)
  have hca := Covers_calls (.slice pa A.length ca) (.slice pb B.length kb) A B w3 HIA.out HIB.out
  have hcb := fun w' h h' => Covers_calls (.slice pb B.length kb) (.slice pa A.length ca) B A w' h h'
  rw [(cov_small HRA.out HRB.out (by have := HLA.out; omega) (by omega)).1] at hca
  rw [(cov_small HRB.out HRA.out (by omega) (by have := HLA.out; omega)).1] at hcb
  have hcm := fun w' h h' => Minus_calls (.slice pa A.length ca) (.slice pb B.length kb) A B w' h h'
  rw [(do_small (f := opNot) rfl HRA.out HRB.out (by have := HLA.out; omega)).1, (do_small (f := opNot) rfl HRA.out HRB.out (by have := HLA.out; omega)).2] at hcm
  have hci := fun w' h h' => Intersect_calls (.slice pa A.length ca) (.slice pb B.length kb) A B w' h h'
  rw [(do_small (f := opAnd) rfl HRA.out HRB.out (by have := HLA.out; omega)).1, (do_small (f := opAnd) rfl HRA.out HRB.out (by have := HLA.out; omega)).2] at hci
  obtain ⟨o1, m1, l1⟩ := comb_ord (f := opNot) rfl HRA.out HRB.out
  obtain ⟨o2, m2, l2⟩ := comb_ord (f := opAnd) rfl HRA.out HRB.out
  have hcu := fun vx vy w' h h' => Union_calls vx vy (combL opNot A B) (combL opAnd A B) w' h h'
  rw [(do_small (f := opOr) rfl o1 o2 (by have := HLA.out; omega)).1, (do_small (f := opOr) rfl o1 o2 (by have := HLA.out; omega)).2, parts HRA.out HRB.out] at hcu
  have hs1 := fun w' h h' => sameI_calls (.slice pa A.length ca) (.slice pb B.length kb) A B w' h h'
  have hs2 := fun vz w' h h' => sameI_calls vz (.slice pa A.length ca) A A w' h h'
  rw [show decide (A = A) = true from by simp] at hs2
  obtain ⟨S, hS⟩ : ∃ S, decide (A = B) = S := ⟨_, rfl⟩
  rw [hS] at hs1 hbo
  generalize covB A B = P at hca hbo
  generalize covB B A = Q at hcb hbo
  generalize combL opNot A B = X at hcm hcu
  generalize combL opAnd A B = Y at hci hcu
  subst hbo
  have HCA := Lib.hid hca
  have HCB := Lib.hid hcb
  have HCM := Lib.hid hcm
  have HCI := Lib.hid hci
  have HCU := Lib.hid hcu
  have HS1 := Lib.hid hs1
  have HS2 := Lib.hid hs2
  clear hca hcb hcm hci hcu hs1 hs2 hS hob hrb hlb hc3 hb3 hwb o1 m1 l1 o2 m2 l2 HOA HC2 HB2 HC HB1
  generalize A.length = na at *
  generalize B.length = nb at *
  go_wp2_with fail
  refine HCA.out.mono ?_
  rintro e w4 ⟨rfl, hb4⟩
  have HB4 := Lib.hid hb4
  clear hb4
  go_wp2_with fail
  refine (HCB.out w4 (HIB.out.later HB4.out) (HIA.out.later HB4.out)).mono ?_
  rintro e w5 ⟨rfl, hb5⟩
  have HB5 := Lib.hid (HB4.out.trans (hb5.mono HB4.out.size))
  clear hb5
  go_wp2_with fail
  refine (HCM.out w5 (HIA.out.later HB5.out) (HIB.out.later HB5.out)).mono ?_
  rintro e w6 ⟨px, kx, rfl, hix, hb6⟩
  have HIX := Lib.hid hix
  have HB6 := Lib.hid (HB5.out.trans (hb6.mono HB5.out.size))
  clear hix hb6
  go_wp2_with fail
  refine (HCI.out w6 (HIA.out.later HB6.out) (HIB.out.later HB6.out)).mono ?_
  rintro e w7 ⟨py, ky, rfl, hiy, hb7⟩
  have HIY := Lib.hid hiy
  have HIX7 := Lib.hid (HIX.out.later hb7)
  have HB7 := Lib.hid (HB6.out.trans (hb7.mono HB6.out.size))
  clear hiy hb7
  go_wp2_with fail
  refine (HCU.out _ _ w7 HIX7.out HIY.out).mono ?_
  rintro e w8 ⟨pz, kz, rfl, hiz, hb8⟩
  have HIZ := Lib.hid hiz
  have HB8 := Lib.hid (HB7.out.trans (hb8.mono HB7.out.size))
  clear hiz hb8
  go_wp2_with fail
  refine (ibegun_calls _).mono ?_
  rintro e w9 ⟨rfl, hb9⟩
  have HIZ9 := Lib.hid (HIZ.out.later hb9)
  have HB9 := Lib.hid (HB8.out.trans (hb9.mono HB8.out.size))
  have HS3 := Lib.hid (HS1.out w9 (HIA.out.later HB9.out) (HIB.out.later HB9.out))
  clear hb9
  cases P <;> cases Q
  all_goals (
    go_wp2_with fail
    refine HS3.out.mono ?_
    rintro e w10 ⟨rfl, hg10⟩
    have HB10 := Lib.hid (HB9.out.trans (hg10.below.mono HB9.out.size))
    have HS4 := Lib.hid (HS2.out _ w10 (HIZ9.out.later hg10.below) (HIA.out.later HB10.out))
    clear hg10
    go_wp2_with fail
    refine HS4.out.mono ?_
    rintro e w11 ⟨rfl, hg11⟩
    have HB11 := Lib.hid (HB10.out.trans (hg11.below.mono HB10.out.size))
    clear hg11
    go_wp2
    go_ret
    exact ⟨rfl, HW.out.trans (HB11.out.mono HW.out.size)⟩)
set_option maxRecDepth 100000 in
theorem lifted (os : Os) (started : os.Started) (H : Type) (enc : TypeId × Value → H) :
    ReturnsInHanded {} Try.checked os 10 .any (Rows.intervalOnceSpec.pre6 enc Try.prog Try.f10 Rows.intervalOnceRow.domain false) (Rows.intervalOnceSpec.post enc Try.prog Try.f10 false true false false) := by
  refine returnsInHanded_of_change (C := Try.checked) own started (by kernel_rfl) Try.func10
    (ChangeSpec.witness6 (enc := enc) (C := Try.checked) false ⟨#[], #[.slice none 0 0], []⟩ 8 (by kernel_rfl) (by kernel_rfl) (by kernel_rfl) (by kernel_rfl)) ?_
  intro W base args ds gs before hval0 hW hcnd hsizes
  have hval : ∀ (j : Nat) t v, Try.f10.params[j]? = some t → args[j]? = some v → Value.okWide Try.prog W .any base t v := hval0
  have hW' := hW
  obtain ⟨p, q, hA0, hV, rfl, hfz, hnd⟩ := hW
  have hA : DataW.TrodAll enc Try.prog W 0 (fun _ => true) true Try.f10.params.toList args.toList ds p := hA0
  rw [Try.params10] at hA hval
  obtain ⟨v0, vs0, d0, ds0, p0, q0, hargs, rfl, rfl, h0, r0⟩ := trodAll_cons hA
  obtain ⟨rfl, rfl, rfl⟩ := trodAll_nil r0
  obtain rfl : args = #[v0] := by cases args; simp_all
  obtain ⟨rfl, rfl⟩ := trodVars_none hV
  have lt0 : ∀ x ∈ p0, x.block < W.heap.size := by obtain ⟨m, hm⟩ := h0; exact DataW.trod_lt m _ _ _ hm
  obtain ⟨a0, len0, cap0, z0, rfl, w0⟩ := open_codes (hval 0 22 v0 rfl rfl) h0
  clear hA0 hval0
  refine (walk a0 len0 cap0 z0 W w0).mono fun e W' ⟨he, bel⟩ => ?_
  subst he
  exact ⟨_, rfl, _, _, _, [], _, [], hW', trodAll_mk1 (shut_bool Try.underlying4 _), (trodAll_cons_mk (Below.trod laidOut (by kernel_rfl) (of_decide_eq_true (by kernel_rfl)) h0 bel lt0) trodAll_mk0), rfl, bel.frame _, fun h => by cases h⟩

theorem over : Rows.intervalOnceRow.holds Try.pinned (OpenSpec.ofChange Rows.intervalOnceSpec) :=
  OpenClaim.holds_of_wide 10 Try.f10 rfl rfl rfl rfl rfl rfl rfl ⟨rfl, rfl, rfl, rfl, rfl⟩ rfl rfl rfl rfl rfl (by kernel_rfl) Try.func10 (by kernel_rfl)
    (of_decide_eq_true (by kernel_rfl)) (by unfold Func.isWrapper; first | (rw [if_pos (by decide +kernel)]; kernel_rfl) | (rw [if_neg (by decide +kernel)]; exact ⟨rfl, rfl⟩))
    (fun os started H enc _ => lifted os started H enc)
theorem proved : Rows.IntervalOnceSaid := over
end Once
end Go.Proofs.Ytllakifmflploaa
