/- The law IntervalAlgebra returns true for all codes, without conditions. -/
import Derived.Test.YtllakifmflploaaUc
import Derived.Test.YtllakifmflploaaVt
set_option linter.unusedSimpArgs false
set_option linter.unusedVariables false
namespace Go.Proofs.Ytllakifmflploaa
open Go.ChangeShapes Go.WideShapes Go.ChangeAt Go.RowKit

namespace Algebra
theorem do_small {f : Bool → Bool → Bool} (hff : f false false = false) {a b : List I} (ha : OrdL a) (hb : OrdL b) (hl : a.length + b.length ≤ 64) : doL f a b = combL f a b ∧ doE f a b = 0 := by
  have h1 := comb_ord hff ha hb
  have ca := canon_of ha (by omega)
  have cb := canon_of hb (by omega)
  have hl3 : (combL f a b).length ≤ 64 := by omega
  exact ⟨by unfold doL; rw [if_pos ⟨ca, cb, hl3⟩], by unfold doE; rw [if_pos ⟨ca, cb⟩, if_pos hl3]⟩
noncomputable def oL (a b : List I) : List I := combL opOr a b
noncomputable def aL (a b : List I) : List I := combL opAnd a b
noncomputable def nL (a : List I) : List I := combL opNot allL a
def Ok (a : List I) (n : Nat) : Prop := OrdL a ∧ a.length ≤ n
theorem all_in {u : V} (h : validB u = true) : inB allL u = true := by
  have hs := goodS.self ByteArray.empty
  have hp : validP u := by simpa [validB] using h
  have : cmpV ⟨1, 0, ByteArray.empty⟩ u ≤ 0 := by
    obtain ⟨k, n, t⟩ := u
    rcases hp with ⟨h1, h2, h3⟩ | ⟨h1, _⟩ | ⟨h1, _⟩ | ⟨h1, _⟩
    · simp only at h1 h2 h3
      subst h2 h3
      rcases h1 with rfl | rfl
      · rw [goodV.self]; omega
      · simp [cmpV, cmpI]
    all_goals (simp only at h1; subst h1; simp [cmpV, cmpI])
  exact inB_iff.2 ⟨⟨⟨1, 0, ByteArray.empty⟩, zV, true⟩, by simp [allL], inI_iff.2 ⟨this, .inl rfl⟩⟩
theorem all_ok : Ok allL 1 := ⟨(canon_ord canon_all).1, by decide⟩
theorem ok_or {a b : List I} {n m : Nat} (ha : Ok a n) (hb : Ok b m) : Ok (oL a b) (n + m) := ⟨(comb_ord (f := opOr) rfl ha.1 hb.1).1, by have := (comb_ord (f := opOr) rfl ha.1 hb.1).2.2; have := ha.2; have := hb.2; unfold oL; omega⟩
theorem ok_and {a b : List I} {n m : Nat} (ha : Ok a n) (hb : Ok b m) : Ok (aL a b) (n + m) := ⟨(comb_ord (f := opAnd) rfl ha.1 hb.1).1, by have := (comb_ord (f := opAnd) rfl ha.1 hb.1).2.2; have := ha.2; have := hb.2; unfold aL; omega⟩
theorem ok_not {a : List I} {n : Nat} (ha : Ok a n) : Ok (nL a) (1 + n) := ⟨(comb_ord (f := opNot) rfl all_ok.1 ha.1).1, by have := (comb_ord (f := opNot) rfl all_ok.1 ha.1).2.2; have := ha.2; have := all_ok.2; unfold nL; omega⟩
theorem in_or {a b : List I} {n m : Nat} (ha : Ok a n) (hb : Ok b m) (u : V) : inB (oL a b) u = (inB a u || inB b u) := (comb_ord (f := opOr) rfl ha.1 hb.1).2.1 u
theorem in_and {a b : List I} {n m : Nat} (ha : Ok a n) (hb : Ok b m) (u : V) : inB (aL a b) u = (inB a u && inB b u) := (comb_ord (f := opAnd) rfl ha.1 hb.1).2.1 u
theorem in_not {a : List I} {n : Nat} (ha : Ok a n) {u : V} (hu : validB u = true) : inB (nL a) u = !inB a u := by
  have := (comb_ord (f := opNot) rfl all_ok.1 ha.1).2.1 u
  rw [all_in hu] at this
  exact this
section
variable {a b c : List I} {n m k : Nat} (ha : Ok a n) (hb : Ok b m) (hc : Ok c k)
include ha
theorem alg1 : nL (nL a) = a := OrdL.unique (ok_not (ok_not ha)).1 ha.1 fun u hu => by rw [in_not (ok_not ha) hu, in_not ha hu]; cases inB a u <;> rfl
theorem alg6 : oL a (nL a) = allL := OrdL.unique (ok_or ha (ok_not ha)).1 all_ok.1 fun u hu => by rw [in_or ha (ok_not ha), in_not ha hu, all_in hu]; cases inB a u <;> rfl
theorem alg7 : aL a (nL a) = [] := OrdL.unique (ok_and ha (ok_not ha)).1 .nil fun u hu => by rw [in_and ha (ok_not ha), in_not ha hu]; cases inB a u <;> rfl
include hb
theorem alg2 : oL a b = oL b a := OrdL.unique (ok_or ha hb).1 (ok_or hb ha).1 fun u hu => by rw [in_or ha hb, in_or hb ha]; cases inB a u <;> cases inB b u <;> rfl
theorem alg3 : aL a (oL a b) = a := OrdL.unique (ok_and ha (ok_or ha hb)).1 ha.1 fun u hu => by rw [in_and ha (ok_or ha hb), in_or ha hb]; cases inB a u <;> cases inB b u <;> rfl
theorem alg5 : nL (oL a b) = aL (nL a) (nL b) := OrdL.unique (ok_not (ok_or ha hb)).1 (ok_and (ok_not ha) (ok_not hb)).1 fun u hu => by rw [in_not (ok_or ha hb) hu, in_or ha hb, in_and (ok_not ha) (ok_not hb), in_not ha hu, in_not hb hu]; cases inB a u <;> cases inB b u <;> rfl
include hc
theorem alg4 : aL a (oL b c) = oL (aL a b) (aL a c) := OrdL.unique (ok_and ha (ok_or hb hc)).1 (ok_or (ok_and ha hb) (ok_and ha hc)).1 fun u hu => by rw [in_and ha (ok_or hb hc), in_or hb hc, in_or (ok_and ha hb) (ok_and ha hc), in_and ha hb, in_and ha hc]; cases inB a u <;> cases inB b u <;> cases inB c u <;> rfl
theorem alg8 : oL a (oL b c) = oL (oL a b) c := OrdL.unique (ok_or ha (ok_or hb hc)).1 (ok_or (ok_or ha hb) hc).1 fun u hu => by rw [in_or ha (ok_or hb hc), in_or hb hc, in_or (ok_or ha hb) hc, in_or ha hb]; cases inB a u <;> cases inB b u <;> cases inB c u <;> rfl
end
def OneOut (L : List I) (w : World) (e : Ending) (w' : World) : Prop := ∃ p k, e = .returned (.slice p L.length k) ∧ IvAt w' (.slice p L.length k) L ∧ Below w.heap.size w w'
theorem one_done {L : List I} {w w' : World} {p : Option Addr} {n k : Nat} {u : Value} (hu : u = .slice p n k) (hn : L.length = n) (h : IvAt w' (.slice p n k) L) (hb : Below w.heap.size w w') : OneOut L w (.returned u) w' := by subst hu hn; exact ⟨_, _, rfl, h, hb⟩
set_option maxHeartbeats 1000000 in
theorem or_calls (va vb : Value) (a b : List I) (n m : Nat) (w : World) (ha : IvAt w va a) (hb : IvAt w vb b) (oa : Ok a n) (ob : Ok b m) (hl : n + m ≤ 64) : Calls Try.prog 65 #[va, vb] w (OneOut (oL a b) w) := by
  have hd := do_small (f := opOr) rfl oa.1 ob.1 (by have := oa.2; have := ob.2; omega)
  have hm := Union_calls va vb a b w ha hb
  rw [hd.1, hd.2] at hm
  have HM := Lib.hid hm
  show Calls _ _ _ _ (OneOut (combL opOr a b) w)
  generalize combL opOr a b = L0 at HM ⊢
  clear ha hb oa ob hd hm
  go_enter Try.func65, Try.ntmps65
  go_wp2_with fail
  refine HM.out.mono ?_
  rintro e w4 ⟨a4, c4, rfl, hiv, hb4⟩
  have HIV := Lib.hid hiv
  have HB4 := Lib.hid hb4
  generalize hn : L0.length = n0 at HIV ⊢
  have HN := Lib.hid hn
  clear hiv hb4 hn HM
  go_wp2
  go_ret
  exact one_done rfl HN.out HIV.out HB4.out
set_option maxHeartbeats 1000000 in
theorem and_calls (va vb : Value) (a b : List I) (n m : Nat) (w : World) (ha : IvAt w va a) (hb : IvAt w vb b) (oa : Ok a n) (ob : Ok b m) (hl : n + m ≤ 64) : Calls Try.prog 66 #[va, vb] w (OneOut (aL a b) w) := by
  have hd := do_small (f := opAnd) rfl oa.1 ob.1 (by have := oa.2; have := ob.2; omega)
  have hm := Intersect_calls va vb a b w ha hb
  rw [hd.1, hd.2] at hm
  have HM := Lib.hid hm
  show Calls _ _ _ _ (OneOut (combL opAnd a b) w)
  generalize combL opAnd a b = L0 at HM ⊢
  clear ha hb oa ob hd hm
  go_enter Try.func66, Try.ntmps66
  go_wp2_with fail
  refine HM.out.mono ?_
  rintro e w4 ⟨a4, c4, rfl, hiv, hb4⟩
  have HIV := Lib.hid hiv
  have HB4 := Lib.hid hb4
  generalize hn : L0.length = n0 at HIV ⊢
  have HN := Lib.hid hn
  clear hiv hb4 hn HM
  go_wp2
  go_ret
  exact one_done rfl HN.out HIV.out HB4.out
set_option maxHeartbeats 1000000 in
theorem not_calls (va : Value) (a : List I) (n : Nat) (w : World) (ha : IvAt w va a) (oa : Ok a n) (hl : n ≤ 60) : Calls Try.prog 64 #[va] w (OneOut (nL a) w) := by
  have hd := do_small (f := opNot) rfl all_ok.1 oa.1 (by have := oa.2; have := all_ok.2; omega)
  have hm := Complement_calls va a w ha
  rw [hd.1, hd.2] at hm
  have HM := Lib.hid hm
  show Calls _ _ _ _ (OneOut (combL opNot allL a) w)
  generalize combL opNot allL a = L0 at HM ⊢
  clear ha oa hd hm
  go_enter Try.func64, Try.ntmps64
  go_wp2_with fail
  refine HM.out.mono ?_
  rintro e w4 ⟨a4, c4, rfl, hiv, hb4⟩
  have HIV := Lib.hid hiv
  have HB4 := Lib.hid hb4
  generalize hn : L0.length = n0 at HIV ⊢
  have HN := Lib.hid hn
  clear hiv hb4 hn HM
  go_wp2
  go_ret
  exact one_done rfl HN.out HIV.out HB4.out
theorem same_eq {va vb : Value} {a b : List I} {w : World} (h : a = b) (ha : IvAt w va a) (hb : IvAt w vb b) : Calls Try.prog 45 #[va, vb] w fun e w' => e = .returned (.bool true) ∧ Gro w w' := by
  have := sameI_calls va vb a b w ha hb
  rw [show decide (a = b) = true from by simp [h]] at this
  exact this
set_option maxHeartbeats 8000000 in
set_option maxRecDepth 100000 in
theorem walk (a : Option Addr) (len cap : Nat) (zs : List Int) (w : World) (hr : IsRow .u8 w a len cap zs) :
    Calls Try.prog 9 #[.slice a len cap] w fun e w' => e = .returned (.bool true) ∧ Below w.heap.size w w' := by
  have HN := Lib.hid (new120_calls a len cap zs w hr)
  clear hr
  go_enter Try.func9, Try.ntmps9
  go_wp2_with fail
  refine HN.out.mono ?_
  rintro e w1 ⟨cb, c, rfl, hbs, hcs, hb1⟩
  have HC := Lib.hid hcs
  have HB1 := Lib.hid hb1
  have HBS := Lib.hid hbs
  clear hbs hcs hb1 HN
  go_wp2_with fail
  refine (caseInterval_calls cb c _ HC.out).mono ?_
  rintro e w2 ⟨va, A, rfl, hoa, hra, hla, hc2, hb2⟩
  have HOA := Lib.hid hoa
  have OA : Hid (Ok A 4) := ⟨hra, hla⟩
  have HC2 := Lib.hid hc2
  have HB2 := Lib.hid hb2
  obtain ⟨pa, ka, rfl⟩ := ownsRow_slice hoa
  clear hoa hra hla hc2 hb2
  go_wp2_with fail
  refine (caseInterval_calls cb c _ HC2.out).mono ?_
  rintro e w3 ⟨vb, B, rfl, hob, hrb, hlb, hc3, hb3⟩
  have HOB := Lib.hid hob
  have OB : Hid (Ok B 4) := ⟨hrb, hlb⟩
  have HC3 := Lib.hid hc3
  have HB3 := Lib.hid (by_trans HB2.out hb3)
  have HOA3 := Lib.hid (own_off HOA.out hb3)
  obtain ⟨pb, kb, rfl⟩ := ownsRow_slice hob
  clear hob hrb hlb hc3 hb3
  go_wp2_with fail
  refine (caseInterval_calls cb c _ HC3.out).mono ?_
  rintro e w4 ⟨vc, C, rfl, hoc, hrc, hlc, hc4, hb4⟩
  have OC : Hid (Ok C 4) := ⟨hrc, hlc⟩
  obtain ⟨pc, kc, rfl⟩ := ownsRow_slice hoc
  have HW : Hid (Below w.heap.size w w4) := HB1.out.grown (by_trans HB3.out hb4) HB1.out.size (fun k hk => by cases hk; exact HBS.out)
  have HIA : Hid (IvAt w4 (.slice pa A.length ka) A) := OwnI.at_ (own_off HOA3.out hb4) (by have := OA.out.2; omega)
  have HIB : Hid (IvAt w4 (.slice pb B.length kb) B) := OwnI.at_ (own_off HOB.out hb4) (by have := OB.out.2; omega)
  have HIC : Hid (IvAt w4 (.slice pc C.length kc) C) := OwnI.at_ hoc (by have := OC.out.2; omega)
  clear hoc hrc hlc hc4 hb4 HOA HOB HOA3 HB1 HB2 HB3 HC HC2 HC3 HBS
  go_wp2_with fail
  refine (ibegun_calls _).mono ?_
  rintro e w5 ⟨rfl, hb⟩
  have HB5 := Lib.hid hb
  clear hb
  have HK := Lib.hid (not_calls _ _ _ w5 (HIA.out.later HB5.out) (OA.out) (by omega))
  go_wp2_with fail
  refine HK.out.mono ?_
  rintro e w6 ⟨pn1, kn1, rfl, hi, hb⟩
  have HIn1 := Lib.hid hi
  have HB6 := Lib.hid (HB5.out.trans (hb.mono HB5.out.size))
  clear HK hb HB5
  clear hi
  have HK := Lib.hid (not_calls _ _ _ w6 HIn1.out (ok_not (OA.out)) (by omega))
  go_wp2_with fail
  refine HK.out.mono ?_
  rintro e w7 ⟨pn2, kn2, rfl, hi, hb⟩
  have HIn2 := Lib.hid hi
  have HB7 := Lib.hid (HB6.out.trans (hb.mono HB6.out.size))
  clear HK hb HB6
  clear hi
  clear HIn1
  have HK := Lib.hid (same_eq (alg1 OA.out) HIn2.out (HIA.out.later HB7.out))
  go_wp2_with fail
  refine HK.out.mono ?_
  rintro e w8 ⟨rfl, hg⟩
  have hb := hg.below
  have HB8 := Lib.hid (HB7.out.trans (hb.mono HB7.out.size))
  clear HK hb HB7
  clear hg
  clear HIn2
  have hk := or_calls _ _ _ _ _ _ w8 (HIA.out.later HB8.out) (HIB.out.later HB8.out) (OA.out) (OB.out) (by omega)
  have HK := Lib.hid hk
  clear hk
  go_wp2_with fail
  refine HK.out.mono ?_
  rintro e w9 ⟨po1, ko1, rfl, hi, hb⟩
  have HIo1 := Lib.hid hi
  have HB9 := Lib.hid (HB8.out.trans (hb.mono HB8.out.size))
  clear HK hb HB8
  clear hi
  have hk := or_calls _ _ _ _ _ _ w9 (HIB.out.later HB9.out) (HIA.out.later HB9.out) (OB.out) (OA.out) (by omega)
  have HK := Lib.hid hk
  clear hk
  go_wp2_with fail
  refine HK.out.mono ?_
  rintro e w10 ⟨po2, ko2, rfl, hi, hb⟩
  have HIo2 := Lib.hid hi
  have HIo1 := Lib.hid (HIo1.out.later hb)
  have HB10 := Lib.hid (HB9.out.trans (hb.mono HB9.out.size))
  clear HK hb HB9
  clear hi
  have HK := Lib.hid (same_eq (alg2 OA.out OB.out) HIo1.out HIo2.out)
  go_wp2_with fail
  refine HK.out.mono ?_
  rintro e w11 ⟨rfl, hg⟩
  have hb := hg.below
  have HB11 := Lib.hid (HB10.out.trans (hb.mono HB10.out.size))
  clear HK hb HB10
  clear hg
  clear HIo1 HIo2
  have hk := or_calls _ _ _ _ _ _ w11 (HIA.out.later HB11.out) (HIB.out.later HB11.out) (OA.out) (OB.out) (by omega)
  have HK := Lib.hid hk
  clear hk
  go_wp2_with fail
  refine HK.out.mono ?_
  rintro e w12 ⟨po3, ko3, rfl, hi, hb⟩
  have HIo3 := Lib.hid hi
  have HB12 := Lib.hid (HB11.out.trans (hb.mono HB11.out.size))
  clear HK hb HB11
  clear hi
  have hk := and_calls _ _ _ _ _ _ w12 (HIA.out.later HB12.out) HIo3.out (OA.out) (ok_or (OA.out) (OB.out)) (by omega)
  have HK := Lib.hid hk
  clear hk
  go_wp2_with fail
  refine HK.out.mono ?_
  rintro e w13 ⟨pp1, kp1, rfl, hi, hb⟩
  have HIp1 := Lib.hid hi
  have HB13 := Lib.hid (HB12.out.trans (hb.mono HB12.out.size))
  clear HK hb HB12
  clear hi
  clear HIo3
  have HK := Lib.hid (same_eq (alg3 OA.out OB.out) HIp1.out (HIA.out.later HB13.out))
  go_wp2_with fail
  refine HK.out.mono ?_
  rintro e w14 ⟨rfl, hg⟩
  have hb := hg.below
  have HB14 := Lib.hid (HB13.out.trans (hb.mono HB13.out.size))
  clear HK hb HB13
  clear hg
  clear HIp1
  have hk := or_calls _ _ _ _ _ _ w14 (HIB.out.later HB14.out) (HIC.out.later HB14.out) (OB.out) (OC.out) (by omega)
  have HK := Lib.hid hk
  clear hk
  go_wp2_with fail
  refine HK.out.mono ?_
  rintro e w15 ⟨po4, ko4, rfl, hi, hb⟩
  have HIo4 := Lib.hid hi
  have HB15 := Lib.hid (HB14.out.trans (hb.mono HB14.out.size))
  clear HK hb HB14
  clear hi
  have hk := and_calls _ _ _ _ _ _ w15 (HIA.out.later HB15.out) HIo4.out (OA.out) (ok_or (OB.out) (OC.out)) (by omega)
  have HK := Lib.hid hk
  clear hk
  go_wp2_with fail
  refine HK.out.mono ?_
  rintro e w16 ⟨pp2, kp2, rfl, hi, hb⟩
  have HIp2 := Lib.hid hi
  have HB16 := Lib.hid (HB15.out.trans (hb.mono HB15.out.size))
  clear HK hb HB15
  clear hi
  clear HIo4
  have hk := and_calls _ _ _ _ _ _ w16 (HIA.out.later HB16.out) (HIB.out.later HB16.out) (OA.out) (OB.out) (by omega)
  have HK := Lib.hid hk
  clear hk
  go_wp2_with fail
  refine HK.out.mono ?_
  rintro e w17 ⟨pp3, kp3, rfl, hi, hb⟩
  have HIp3 := Lib.hid hi
  have HIp2 := Lib.hid (HIp2.out.later hb)
  have HB17 := Lib.hid (HB16.out.trans (hb.mono HB16.out.size))
  clear HK hb HB16
  clear hi
  have hk := and_calls _ _ _ _ _ _ w17 (HIA.out.later HB17.out) (HIC.out.later HB17.out) (OA.out) (OC.out) (by omega)
  have HK := Lib.hid hk
  clear hk
  go_wp2_with fail
  refine HK.out.mono ?_
  rintro e w18 ⟨pp4, kp4, rfl, hi, hb⟩
  have HIp4 := Lib.hid hi
  have HIp2 := Lib.hid (HIp2.out.later hb)
  have HIp3 := Lib.hid (HIp3.out.later hb)
  have HB18 := Lib.hid (HB17.out.trans (hb.mono HB17.out.size))
  clear HK hb HB17
  clear hi
  have hk := or_calls _ _ _ _ _ _ w18 HIp3.out HIp4.out (ok_and (OA.out) (OB.out)) (ok_and (OA.out) (OC.out)) (by omega)
  have HK := Lib.hid hk
  clear hk
  go_wp2_with fail
  refine HK.out.mono ?_
  rintro e w19 ⟨po5, ko5, rfl, hi, hb⟩
  have HIo5 := Lib.hid hi
  have HIp2 := Lib.hid (HIp2.out.later hb)
  have HB19 := Lib.hid (HB18.out.trans (hb.mono HB18.out.size))
  clear HK hb HB18
  clear hi
  clear HIp3 HIp4
  have HK := Lib.hid (same_eq (alg4 OA.out OB.out OC.out) HIp2.out HIo5.out)
  go_wp2_with fail
  refine HK.out.mono ?_
  rintro e w20 ⟨rfl, hg⟩
  have hb := hg.below
  have HB20 := Lib.hid (HB19.out.trans (hb.mono HB19.out.size))
  clear HK hb HB19
  clear hg
  clear HIp2 HIo5
  have hk := or_calls _ _ _ _ _ _ w20 (HIA.out.later HB20.out) (HIB.out.later HB20.out) (OA.out) (OB.out) (by omega)
  have HK := Lib.hid hk
  clear hk
  go_wp2_with fail
  refine HK.out.mono ?_
  rintro e w21 ⟨po6, ko6, rfl, hi, hb⟩
  have HIo6 := Lib.hid hi
  have HB21 := Lib.hid (HB20.out.trans (hb.mono HB20.out.size))
  clear HK hb HB20
  clear hi
  have HK := Lib.hid (not_calls _ _ _ w21 HIo6.out (ok_or (OA.out) (OB.out)) (by omega))
  go_wp2_with fail
  refine HK.out.mono ?_
  rintro e w22 ⟨pn3, kn3, rfl, hi, hb⟩
  have HIn3 := Lib.hid hi
  have HB22 := Lib.hid (HB21.out.trans (hb.mono HB21.out.size))
  clear HK hb HB21
  clear hi
  clear HIo6
  have HK := Lib.hid (not_calls _ _ _ w22 (HIA.out.later HB22.out) (OA.out) (by omega))
  go_wp2_with fail
  refine HK.out.mono ?_
  rintro e w23 ⟨pn4, kn4, rfl, hi, hb⟩
  have HIn4 := Lib.hid hi
  have HIn3 := Lib.hid (HIn3.out.later hb)
  have HB23 := Lib.hid (HB22.out.trans (hb.mono HB22.out.size))
  clear HK hb HB22
  clear hi
  have HK := Lib.hid (not_calls _ _ _ w23 (HIB.out.later HB23.out) (OB.out) (by omega))
  go_wp2_with fail
  refine HK.out.mono ?_
  rintro e w24 ⟨pn5, kn5, rfl, hi, hb⟩
  have HIn5 := Lib.hid hi
  have HIn3 := Lib.hid (HIn3.out.later hb)
  have HIn4 := Lib.hid (HIn4.out.later hb)
  have HB24 := Lib.hid (HB23.out.trans (hb.mono HB23.out.size))
  clear HK hb HB23
  clear hi
  have hk := and_calls _ _ _ _ _ _ w24 HIn4.out HIn5.out (ok_not (OA.out)) (ok_not (OB.out)) (by omega)
  have HK := Lib.hid hk
  clear hk
  go_wp2_with fail
  refine HK.out.mono ?_
  rintro e w25 ⟨pp5, kp5, rfl, hi, hb⟩
  have HIp5 := Lib.hid hi
  have HIn3 := Lib.hid (HIn3.out.later hb)
  have HB25 := Lib.hid (HB24.out.trans (hb.mono HB24.out.size))
  clear HK hb HB24
  clear hi
  clear HIn4 HIn5
  have HK := Lib.hid (same_eq (alg5 OA.out OB.out) HIn3.out HIp5.out)
  go_wp2_with fail
  refine HK.out.mono ?_
  rintro e w26 ⟨rfl, hg⟩
  have hb := hg.below
  have HB26 := Lib.hid (HB25.out.trans (hb.mono HB25.out.size))
  clear HK hb HB25
  clear hg
  clear HIn3 HIp5
  have HK := Lib.hid (not_calls _ _ _ w26 (HIA.out.later HB26.out) (OA.out) (by omega))
  go_wp2_with fail
  refine HK.out.mono ?_
  rintro e w27 ⟨pn6, kn6, rfl, hi, hb⟩
  have HIn6 := Lib.hid hi
  have HB27 := Lib.hid (HB26.out.trans (hb.mono HB26.out.size))
  clear HK hb HB26
  clear hi
  have hk := or_calls _ _ _ _ _ _ w27 (HIA.out.later HB27.out) HIn6.out (OA.out) (ok_not (OA.out)) (by omega)
  have HK := Lib.hid hk
  clear hk
  go_wp2_with fail
  refine HK.out.mono ?_
  rintro e w28 ⟨po7, ko7, rfl, hi, hb⟩
  have HIo7 := Lib.hid hi
  have HB28 := Lib.hid (HB27.out.trans (hb.mono HB27.out.size))
  clear HK hb HB27
  clear hi
  clear HIn6
  go_wp2_with fail
  refine (all_calls _).mono ?_
  rintro e w29 ⟨pal, rfl, hi, hg⟩
  have hb := hg.below
  have HIal := Lib.hid hi
  have HK : Hid True := trivial
  have HIo7 := Lib.hid (HIo7.out.later hb)
  have HB29 := Lib.hid (HB28.out.trans (hb.mono HB28.out.size))
  clear HK hb HB28
  clear hg hi
  have HK := Lib.hid (same_eq (alg6 OA.out) HIo7.out HIal.out)
  go_wp2_with fail
  refine HK.out.mono ?_
  rintro e w30 ⟨rfl, hg⟩
  have hb := hg.below
  have HB30 := Lib.hid (HB29.out.trans (hb.mono HB29.out.size))
  clear HK hb HB29
  clear hg
  clear HIo7 HIal
  have HK := Lib.hid (not_calls _ _ _ w30 (HIA.out.later HB30.out) (OA.out) (by omega))
  go_wp2_with fail
  refine HK.out.mono ?_
  rintro e w31 ⟨pn7, kn7, rfl, hi, hb⟩
  have HIn7 := Lib.hid hi
  have HB31 := Lib.hid (HB30.out.trans (hb.mono HB30.out.size))
  clear HK hb HB30
  clear hi
  have hk := and_calls _ _ _ _ _ _ w31 (HIA.out.later HB31.out) HIn7.out (OA.out) (ok_not (OA.out)) (by omega)
  rw [alg7 OA.out] at hk
  have HK := Lib.hid hk
  clear hk
  go_wp2_with fail
  refine HK.out.mono ?_
  rintro e w32 ⟨pp6, kp6, rfl, hi, hb⟩
  have HIp6 := Lib.hid hi
  have HB32 := Lib.hid (HB31.out.trans (hb.mono HB31.out.size))
  clear HK hb HB31
  clear hi
  clear HIn7
  have hk := or_calls _ _ _ _ _ _ w32 (HIB.out.later HB32.out) (HIC.out.later HB32.out) (OB.out) (OC.out) (by omega)
  have HK := Lib.hid hk
  clear hk
  go_wp2_with fail
  refine HK.out.mono ?_
  rintro e w33 ⟨po8, ko8, rfl, hi, hb⟩
  have HIo8 := Lib.hid hi
  have HB33 := Lib.hid (HB32.out.trans (hb.mono HB32.out.size))
  clear HK hb HB32
  clear hi
  have hk := or_calls _ _ _ _ _ _ w33 (HIA.out.later HB33.out) HIo8.out (OA.out) (ok_or (OB.out) (OC.out)) (by omega)
  have HK := Lib.hid hk
  clear hk
  go_wp2_with fail
  refine HK.out.mono ?_
  rintro e w34 ⟨po9, ko9, rfl, hi, hb⟩
  have HIo9 := Lib.hid hi
  have HB34 := Lib.hid (HB33.out.trans (hb.mono HB33.out.size))
  clear HK hb HB33
  clear hi
  clear HIo8
  have hk := or_calls _ _ _ _ _ _ w34 (HIA.out.later HB34.out) (HIB.out.later HB34.out) (OA.out) (OB.out) (by omega)
  have HK := Lib.hid hk
  clear hk
  go_wp2_with fail
  refine HK.out.mono ?_
  rintro e w35 ⟨po10, ko10, rfl, hi, hb⟩
  have HIo10 := Lib.hid hi
  have HIo9 := Lib.hid (HIo9.out.later hb)
  have HB35 := Lib.hid (HB34.out.trans (hb.mono HB34.out.size))
  clear HK hb HB34
  clear hi
  have hk := or_calls _ _ _ _ _ _ w35 HIo10.out (HIC.out.later HB35.out) (ok_or (OA.out) (OB.out)) (OC.out) (by omega)
  have HK := Lib.hid hk
  clear hk
  go_wp2_with fail
  refine HK.out.mono ?_
  rintro e w36 ⟨po11, ko11, rfl, hi, hb⟩
  have HIo11 := Lib.hid hi
  have HIo9 := Lib.hid (HIo9.out.later hb)
  have HB36 := Lib.hid (HB35.out.trans (hb.mono HB35.out.size))
  clear HK hb HB35
  clear hi
  clear HIo10
  have HK := Lib.hid (same_eq (alg8 OA.out OB.out OC.out) HIo9.out HIo11.out)
  go_wp2_with fail
  refine HK.out.mono ?_
  rintro e w37 ⟨rfl, hg⟩
  have hb := hg.below
  have HB37 := Lib.hid (HB36.out.trans (hb.mono HB36.out.size))
  clear HK hb HB36
  clear hg
  clear HIo9 HIo11
  go_wp2
  go_ret
  exact ⟨rfl, HW.out.trans (HB37.out.mono HW.out.size)⟩
set_option maxRecDepth 100000 in
theorem lifted (os : Os) (started : os.Started) (H : Type) (enc : TypeId × Value → H) :
    ReturnsInHanded {} Try.checked os 9 .any (Rows.intervalAlgebraSpec.pre6 enc Try.prog Try.f9 Rows.intervalAlgebraRow.domain false) (Rows.intervalAlgebraSpec.post enc Try.prog Try.f9 false true false false) := by
  refine returnsInHanded_of_change (C := Try.checked) own started (by kernel_rfl) Try.func9
    (ChangeSpec.witness6 (enc := enc) (C := Try.checked) false ⟨#[], #[.slice none 0 0], []⟩ 8 (by kernel_rfl) (by kernel_rfl) (by kernel_rfl) (by kernel_rfl)) ?_
  intro W base args ds gs before hval0 hW hcnd hsizes
  have hval : ∀ (j : Nat) t v, Try.f9.params[j]? = some t → args[j]? = some v → Value.okWide Try.prog W .any base t v := hval0
  have hW' := hW
  obtain ⟨p, q, hA0, hV, rfl, hfz, hnd⟩ := hW
  have hA : DataW.TrodAll enc Try.prog W 0 (fun _ => true) true Try.f9.params.toList args.toList ds p := hA0
  rw [Try.params9] at hA hval
  obtain ⟨v0, vs0, d0, ds0, p0, q0, hargs, rfl, rfl, h0, r0⟩ := trodAll_cons hA
  obtain ⟨rfl, rfl, rfl⟩ := trodAll_nil r0
  obtain rfl : args = #[v0] := by cases args; simp_all
  obtain ⟨rfl, rfl⟩ := trodVars_none hV
  have lt0 : ∀ x ∈ p0, x.block < W.heap.size := by obtain ⟨m, hm⟩ := h0; exact DataW.trod_lt m _ _ _ hm
  obtain ⟨a0, len0, cap0, z0, rfl, w0⟩ := open_codes (hval 0 22 v0 rfl rfl) h0
  clear hA0 hval0
  refine (walk a0 len0 cap0 z0 W w0).mono fun e W' ⟨he, bel⟩ => ?_
  subst he
  exact ⟨_, rfl, _, _, _, [], _, [], hW', trodAll_mk1 (shut_bool Try.underlying4 _), (trodAll_cons_mk (Below.trod laidOut (by kernel_rfl) (of_decide_eq_true (by kernel_rfl)) h0 bel lt0) trodAll_mk0), rfl, bel.frame _, fun h => by cases h⟩

theorem over : Rows.intervalAlgebraRow.holds Try.pinned (OpenSpec.ofChange Rows.intervalAlgebraSpec) :=
  OpenClaim.holds_of_wide 9 Try.f9 rfl rfl rfl rfl rfl rfl rfl ⟨rfl, rfl, rfl, rfl, rfl⟩ rfl rfl rfl rfl rfl (by kernel_rfl) Try.func9 (by kernel_rfl)
    (of_decide_eq_true (by kernel_rfl)) (by unfold Func.isWrapper; first | (rw [if_pos (by decide +kernel)]; kernel_rfl) | (rw [if_neg (by decide +kernel)]; exact ⟨rfl, rfl⟩))
    (fun os started H enc _ => lifted os started H enc)
theorem proved : Rows.IntervalAlgebraSaid := over
end Algebra
end Go.Proofs.Ytllakifmflploaa
