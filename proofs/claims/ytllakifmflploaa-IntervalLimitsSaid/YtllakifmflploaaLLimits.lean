/- The law IntervalLimits returns true for every number, without conditions. -/
import Derived.Test.YtllakifmflploaaVt
import Derived.Deep.AppendLies
set_option linter.unusedSimpArgs false
set_option linter.unusedVariables false
namespace Go.Proofs.Ytllakifmflploaa
open Go.ChangeShapes Go.WideShapes Go.ChangeAt Go.RowKit

namespace Limits
/-- Intervals of numbers, side by side. -/
def cell (j : Int) : I := ⟨nV (2 * j), nV (2 * j + 1), false⟩
def la (k : Nat) : List I := (List.range k).map fun i : Nat => cell (2 * (i : Int))
def lb (k : Nat) : List I := (List.range k).map fun i : Nat => cell (2 * (i : Int) + 1)
def lc (k : Nat) : List I := (List.range (2 * k)).map fun i : Nat => cell (i : Int)
theorem num_lt {a b : Int} (h : a < b) : cmpV (nV a) (nV b) < 0 := by rw [num_cmp]; simp [cmpI, h]
theorem row_ord (n : Nat) (f : Nat → Int) (hf : ∀ i, f i < f (i + 1)) : OrdL ((List.range n).map fun i : Nat => cell (f i)) := by
  refine ord_iff.1 fun i hi => ⟨?_, fun h0 => ?_⟩
  · simp only [List.getElem_map, List.getElem_range]
    exact num_part (by omega)
  · simp only [List.getElem_map, List.getElem_range]
    have := hf (i - 1)
    rw [show i - 1 + 1 = i from by omega] at this
    exact sepB_iff.2 ⟨rfl, num_lt (by omega)⟩
theorem la_snoc (k : Nat) : la (k + 1) = la k ++ [cell (2 * k)] := by simp [la, List.range_succ]
theorem lb_snoc (k : Nat) : lb (k + 1) = lb k ++ [cell (2 * k + 1)] := by simp [lb, List.range_succ]
theorem lc_snoc (k : Nat) : lc (k + 1) = lc k ++ [cell (2 * k), cell (2 * k + 1)] := by
  simp [lc, show 2 * (k + 1) = 2 * k + 1 + 1 from by omega, List.range_succ]
theorem la_len (k : Nat) : (la k).length = k := by simp [la]
theorem lb_len (k : Nat) : (lb k).length = k := by simp [lb]
theorem lc_len (k : Nat) : (lc k).length = 2 * k := by simp [lc]
theorem la_canon {k : Nat} (h : k ≤ 64) : canonB (la k) = true := canon_of (row_ord k (fun i => 2 * i) (fun i => by omega)) (by rw [la_len]; exact h)
theorem lb_canon {k : Nat} (h : k ≤ 64) : canonB (lb k) = true := canon_of (row_ord k (fun i => 2 * i + 1) (fun i => by omega)) (by rw [lb_len]; exact h)
theorem lc_in (k : Nat) (u : V) : inB (lc k) u = opOr (inB (la k) u) (inB (lb k) u) := by
  induction k with
  | zero => rfl
  | succ k ih =>
    rw [la_snoc, lb_snoc, lc_snoc]
    simp only [inB, List.any_append, List.any_cons, List.any_nil, Bool.or_false, opOr] at ih ⊢
    rw [ih]
    cases (la k).any (fun x => inI x u) <;> cases (lb k).any (fun x => inI x u) <;> cases inI (cell (2 * ↑k)) u <;> simp
theorem comb (k : Nat) : combL opOr (la k) (lb k) = lc k := (combL_is (row_ord (2 * k) (fun i => (i : Int)) (fun i => by simp; omega)) (lc_in k)).symm
theorem done {k : Nat} (h : k ≤ 64) : doL opOr (la k) (lb k) = (if 2 * k ≤ 64 then lc k else []) ∧ doE opOr (la k) (lb k) = (if 2 * k ≤ 64 then 0 else 2) := by
  constructor
  · unfold doL; rw [comb, lc_len]; simp [la_canon h, lb_canon h]
  · unfold doE; rw [comb, lc_len]; simp [la_canon h, lb_canon h]
theorem toNat_succ (k : Nat) : ((k : Int) + 1).toNat = k + 1 := by omega
theorem cell_a (k : Nat) : cell (2 * k) = ⟨nV (4 * k), nV (4 * k + 1), false⟩ := by unfold cell; congr 2 <;> omega
theorem cell_b (k : Nat) : cell (2 * k + 1) = ⟨nV (4 * k + 2), nV (4 * k + 3), false⟩ := by unfold cell; congr 2 <;> omega
theorem mul_64 (n : Int) (h0 : 0 ≤ n) (h : n ≤ 4398046511104) : wrap64 n = n := by unfold wrap64; omega
/-- Two owned lists in two blocks. -/
def Apart2 (a b : Value) : Prop := ∀ k, a.ownBlock = some k → b.ownBlock ≠ some k
theorem apart_symm {a b : Value} (h : Apart2 a b) : Apart2 b a := fun k h1 h2 => h k h2 h1
theorem apart_ne {a b : Value} (h : Apart2 a b) : b.ownBlock = none ∨ b.ownBlock ≠ a.ownBlock := by
  cases hb : b.ownBlock with
  | none => exact .inl rfl
  | some k => exact .inr fun e => h k e.symm hb
theorem apart_new {base : Nat} {w : World} {a b : Value} {e : TypeId} {size n : Nat} {xs : List Value} {g m c : Nat} (h : Apart2 a b) (hb : w.ownsRow base e size b n xs) (hg : a.ownBlock = some g ∨ w.heap.size ≤ g) : Apart2 (.slice (some ⟨g, 0, none⟩) m c) b := by
  intro k hk hbk
  have e1 : some g = some k := hk
  cases e1
  rcases hg with hg | hg
  · exact h g hg hbk
  · have := (hb.lt g hbk).2; omega
set_option maxHeartbeats 4000000 in
set_option maxRecDepth 100000 in
theorem walk (x : Nat) (w : World) (hx : x < 256) :
    Calls Try.prog 11 #[.int .u8 x] w fun e w' => e = .returned (.bool true) ∧ Below w.heap.size w w' := by
  obtain ⟨i, hi, hz, hsz, hby⟩ := info_parts info72
  have HI := Lib.hid hi
  have HZ := Lib.hid hz
  have HSZ := Lib.hid hsz
  have HBY := Lib.hid hby
  obtain ⟨K, hK, hK1, hK2⟩ : ∃ K : Nat, 28 + (x : Int) % 10 = K ∧ 28 ≤ K ∧ K ≤ 37 := ⟨28 + x % 10, by omega, by omega, by omega⟩
  have HK1 := Lib.hid hK1
  have HK2 := Lib.hid hK2
  clear hi hz hsz hby hK1 hK2
  go_enter Try.func11, Try.ntmps11
  go_wp2_with fail
  clear hK
  go_loopw [3, 4, 6] (fun va vb vi wr => ∃ k : Nat, k ≤ K ∧ vi = .int .i64 k ∧ OwnI w.heap.size wr va (la k) ∧ OwnI w.heap.size wr vb (lb k) ∧ Apart2 va vb ∧ Below w.heap.size w wr) (fun _ _ vi _ => K - (intOf vi).toNat)
  case atStart => exact ⟨0, by omega, rfl, World.ownsRow_nil _ _ _ _, World.ownsRow_nil _ _ _ _, fun k h => by simp [Value.ownBlock] at h, Below.refl _ _⟩
  case round =>
    obtain ⟨k, hk, rfl, hoa, hob, hap, hb⟩ := hrel
    have HKK := Lib.hid hk
    have HOA := Lib.hid hoa
    have HOB := Lib.hid hob
    have HAP := Lib.hid hap
    have HB := Lib.hid hb
    have hKK := HK2.out
    have hw0 := step_int k (by omega)
    have hw1 := mul_64 (4 * k) (by omega) (by omega)
    have hw2 := mul_64 (4 * k + 1) (by omega) (by omega)
    have hw3 := mul_64 (4 * k + 2) (by omega) (by omega)
    have hw4 := mul_64 (4 * k + 3) (by omega) (by omega)
    by_cases hlt : k < K
    · have HLT := Lib.hid hlt
      have hlt' : decide ((k : Int) < (K : Int)) = true := by simp; omega
      have HA1 := Lib.hid (la_snoc k)
      have HB1 := Lib.hid (lb_snoc k)
      have hla := la_len k
      have hlb := lb_len k
      rw [show (2 * (k : Int)) = 2 * ((k : Nat) : Int) from rfl, cell_a] at HA1
      rw [cell_b] at HB1
      generalize la k = A at *
      generalize lb k = B at *
      have HLA := Lib.hid hla
      have HLB := Lib.hid hlb
      obtain ⟨wo, rfl⟩ : ∃ wo : World, wo = wr := ⟨_, rfl⟩
      clear hoa hob hap hb hk hla hlb hKK hlt
      go_wp2_with (at_builtin; go_must (refine wpList_append_lies _ rfl _ _ 48 rfl w.heap.size 72 i (I.val ⟨⟨0, 0, ⟨#[]⟩⟩, ⟨0, 0, ⟨#[]⟩⟩, false⟩) 7 72 Try.underlying48 HI.out HZ.out HSZ.out HBY.out rfl (by decide) _ A.length (flatI A) rfl (HOA.out.alloc _) ⟨wo.heap.size, 0, none⟩ 1 1 [.int .i64 4, .int .i64 (4 * k), .string ⟨#[]⟩, .int .i64 4, .int .i64 (4 * k + 1), .string ⟨#[]⟩, .bool false] rfl rfl (seven_at wo _ _ _ _ _ _ _ _ _ rfl) (by intro u hu; simp at hu; rcases hu with rfl | rfl | rfl | rfl | rfl | rfl | rfl <;> rfl) (by decide) ?c3 ?c4 ?c5 (wo.heap.size + 1) ?c6 ?_))
      case c3 => have := HLA.out; have := HLT.out; have := HK2.out; unfold maxLen; omega
      case c4 => have := HLA.out; have := HLT.out; have := HK2.out; omega
      case c5 => have := HB.out.size; simp; omega
      case c6 => simp
      intro ga ca w2 hown2 hgrow2 hat2 hlt2
      have HOA2 : Hid (OwnI w.heap.size w2 (.slice (some ⟨ga, 0, none⟩) (A.length + 1) ca) (A ++ [⟨nV (4 * k), nV (4 * k + 1), false⟩])) := ownI_snoc (x := ⟨nV (4 * k), nV (4 * k + 1), false⟩) hown2
      have HOB2 : Hid (OwnI w.heap.size w2 u4 B) := (HOB.out.alloc _).kept hgrow2 (apart_ne HAP.out)
      have HAP2 : Hid (Apart2 (.slice (some ⟨ga, 0, none⟩) (A.length + 1) ca) u4) := apart_new HAP.out HOB.out (hat2.imp id fun h => by omega)
      have HB2 : Hid (Below w.heap.size w w2) := (HB.out.alloc HB.out.size _).grown hgrow2 (by have := HB.out.size; simp; omega) (fun k hk => (HOA.out.lt k hk).1)
      clear hown2 hgrow2 hat2 hlt2 HOA HOB HAP HB
      go_wp2_with (at_builtin; go_must (refine wpList_append_lies _ rfl _ _ 48 rfl w.heap.size 72 i (I.val ⟨⟨0, 0, ⟨#[]⟩⟩, ⟨0, 0, ⟨#[]⟩⟩, false⟩) 7 72 Try.underlying48 HI.out HZ.out HSZ.out HBY.out rfl (by decide) _ B.length (flatI B) rfl (HOB2.out.alloc _) ⟨w2.heap.size, 0, none⟩ 1 1 [.int .i64 4, .int .i64 (4 * k + 2), .string ⟨#[]⟩, .int .i64 4, .int .i64 (4 * k + 3), .string ⟨#[]⟩, .bool false] rfl rfl (seven_at w2 _ _ _ _ _ _ _ _ _ rfl) (by intro u hu; simp at hu; rcases hu with rfl | rfl | rfl | rfl | rfl | rfl | rfl <;> rfl) (by decide) ?d3 ?d4 ?d5 (w2.heap.size + 1) ?d6 ?_))
      case d3 => have := HLB.out; have := HLT.out; have := HK2.out; unfold maxLen; omega
      case d4 => have := HLB.out; have := HLT.out; have := HK2.out; omega
      case d5 => have := HB2.out.size; simp; omega
      case d6 => simp
      intro gb cb w3 hown3 hgrow3 hat3 hlt3
      have HOB3 : Hid (OwnI w.heap.size w3 (.slice (some ⟨gb, 0, none⟩) (B.length + 1) cb) (B ++ [⟨nV (4 * k + 2), nV (4 * k + 3), false⟩])) := ownI_snoc (x := ⟨nV (4 * k + 2), nV (4 * k + 3), false⟩) hown3
      have HOA3 : Hid (OwnI w.heap.size w3 (.slice (some ⟨ga, 0, none⟩) (A.length + 1) ca) (A ++ [⟨nV (4 * k), nV (4 * k + 1), false⟩])) := (HOA2.out.alloc _).kept hgrow3 (apart_ne (apart_symm HAP2.out))
      have HAP3 : Hid (Apart2 (.slice (some ⟨ga, 0, none⟩) (A.length + 1) ca) (.slice (some ⟨gb, 0, none⟩) (B.length + 1) cb)) := apart_symm (apart_new (apart_symm HAP2.out) HOA2.out (hat3.imp id fun h => by omega))
      have HB3 : Hid (Below w.heap.size w w3) := (HB2.out.alloc HB2.out.size _).grown hgrow3 (by have := HB2.out.size; simp; omega) (fun k hk => (HOB2.out.lt k hk).1)
      clear hown3 hgrow3 hat3 hlt3 HOA2 HOB2 HAP2 HB2
      go_wp2
      clear hw1 hw2 hw3 hw4
      generalize wrap64 ((k : Int) + 1) = z at hw0 ⊢
      subst hw0
      have hlt := HLT.out
      have hm1 : k + 1 ≤ K := hlt
      have hm2 : K - (k + 1) < K - k := Nat.sub_lt_sub_left hlt (Nat.lt_succ_self k)
      clear hlt
      exact ⟨⟨k + 1, hm1, rfl, by rw [HA1.out]; exact HOA3.out, by rw [HB1.out]; exact HOB3.out, HAP3.out, HB3.out⟩, hm2⟩
    · have hlt' : decide ((k : Int) < (K : Int)) = false := by simp; omega
      obtain rfl : k = K := by omega
      have hd := done (k := k) (by omega)
      have hla := la_len k
      have hlb := lb_len k
      have hlc := lc_len k
      have hu := Union_calls _ _ _ _ wr (hoa.at_ (by omega)) (hob.at_ (by omega))
      rw [hd.1, hd.2] at hu
      have HU := Lib.hid hu
      have hw5 := mul_64 (2 * k) (by omega) (by omega)
      clear hoa hob hap hlt hu hd hb
      by_cases h64 : 2 * k ≤ 64
      · rw [if_pos h64, if_pos h64] at HU
        have h64' : decide (64 < 2 * (k : Int)) = false := by simp; omega
        have HLC := Lib.hid hlc
        go_wp2_with fail
        refine HU.out.mono ?_
        rintro e w4 ⟨a4, c4, rfl, hiv, hb4⟩
        have HB4 := Lib.hid (HB.out.trans (hb4.mono HB.out.size))
        rw [HLC.out]
        clear hiv hb4 hla hlb hlc
        go_wp2_with fail
        refine (ibegun_calls _).mono ?_
        rintro e w5 ⟨rfl, hb5⟩
        have HB5 := Lib.hid (HB4.out.trans (hb5.mono HB4.out.size))
        clear hb5
        go_wp2
        go_ret
        exact ⟨rfl, HB5.out⟩
      · rw [if_neg h64, if_neg h64] at HU
        have h64' : decide (64 < 2 * (k : Int)) = true := by simp; omega
        go_wp2_with fail
        refine HU.out.mono ?_
        rintro e w4 ⟨a4, c4, rfl, hiv, hb4⟩
        have HB4 := Lib.hid (HB.out.trans (hb4.mono HB.out.size))
        clear hiv hb4 hla hlb hlc
        go_wp2_with fail
        refine (ibegun_calls _).mono ?_
        rintro e w5 ⟨rfl, hb5⟩
        have HB5 := Lib.hid (HB4.out.trans (hb5.mono HB4.out.size))
        clear hb5
        go_wp2
        go_ret
        exact ⟨rfl, HB5.out⟩
set_option maxRecDepth 100000 in
theorem lifted (os : Os) (started : os.Started) (H : Type) (enc : TypeId × Value → H) :
    ReturnsInHanded {} Try.checked os 11 .any (Rows.intervalLimitsSpec.pre6 enc Try.prog Try.f11 Rows.intervalLimitsRow.domain false) (Rows.intervalLimitsSpec.post enc Try.prog Try.f11 false true false false) := by
  refine returnsInHanded_of_change (C := Try.checked) own started (by kernel_rfl) Try.func11
    (ChangeSpec.witness6 (enc := enc) (C := Try.checked) false ⟨#[], #[.int .u8 0], []⟩ 8 (by kernel_rfl) (by kernel_rfl) (by kernel_rfl) (by kernel_rfl)) ?_
  intro W base args ds gs before hval0 hW hcnd hsizes
  have hval : ∀ (j : Nat) t v, Try.f11.params[j]? = some t → args[j]? = some v → Value.okWide Try.prog W .any base t v := hval0
  have hW' := hW
  obtain ⟨p, q, hA0, hV, rfl, hfz, hnd⟩ := hW
  have hA : DataW.TrodAll enc Try.prog W 0 (fun _ => true) true Try.f11.params.toList args.toList ds p := hA0
  rw [Try.params11] at hA hval
  obtain ⟨v0, vs0, d0, ds0, p0, q0, hargs, rfl, rfl, h0, r0⟩ := trodAll_cons hA
  obtain ⟨rfl, rfl, rfl⟩ := trodAll_nil r0
  obtain rfl : args = #[v0] := by cases args; simp_all
  obtain ⟨rfl, rfl⟩ := trodVars_none hV
  have lt0 : ∀ x ∈ p0, x.block < W.heap.size := by obtain ⟨m, hm⟩ := h0; exact DataW.trod_lt m _ _ _ hm
  obtain ⟨x0, rfl, b0⟩ := open_u8 (hval 0 5 v0 rfl rfl) h0
  clear hA0 hval0
  refine (walk x0 W b0).mono fun e W' ⟨he, bel⟩ => ?_
  subst he
  exact ⟨_, rfl, _, _, _, [], _, [], hW', trodAll_mk1 (shut_bool Try.underlying4 _), (trodAll_cons_mk (Below.trod laidOut (by kernel_rfl) (of_decide_eq_true (by kernel_rfl)) h0 bel lt0) trodAll_mk0), rfl, bel.frame _, fun h => by cases h⟩

theorem over : Rows.intervalLimitsRow.holds Try.pinned (OpenSpec.ofChange Rows.intervalLimitsSpec) :=
  OpenClaim.holds_of_wide 11 Try.f11 rfl rfl rfl rfl rfl rfl rfl ⟨rfl, rfl, rfl, rfl, rfl⟩ rfl rfl rfl rfl rfl (by kernel_rfl) Try.func11 (by kernel_rfl)
    (of_decide_eq_true (by kernel_rfl)) (by unfold Func.isWrapper; first | (rw [if_pos (by decide +kernel)]; kernel_rfl) | (rw [if_neg (by decide +kernel)]; exact ⟨rfl, rfl⟩))
    (fun os started H enc _ => lifted os started H enc)
theorem proved : Rows.IntervalLimitsSaid := over
end Limits
end Go.Proofs.Ytllakifmflploaa
