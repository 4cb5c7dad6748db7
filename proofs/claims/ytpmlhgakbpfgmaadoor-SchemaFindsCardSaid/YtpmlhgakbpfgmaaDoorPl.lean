/- The contracts of predicate.columnKinds and of the reference's ColumnKinds. -/
import Derived.Test.YtpmlhgakbpfgmaaDoorPa
import Derived.Test.YtpmlhgakbpfgmaaDoorPb
set_option linter.unusedSimpArgs false
set_option linter.unusedVariables false
namespace Go.Proofs.YtpmlhgakbpfgmaaDoor
open Go.RowKit

theorem kfn_calls (k : Int) (w : World) : Calls Tryd.prog 79 #[.int .i64 k] w (BoolG (!kindB k) w) := by
  by_cases h3 : k = 3
  · subst h3
    go_enter Tryd.func79, Tryd.ntmps79
    go_wp2
    go_ret
    exact boolg rfl (Gro.refl _)
  by_cases h4 : k = 4
  · subst h4
    go_enter Tryd.func79, Tryd.ntmps79
    go_wp2
    go_ret
    exact boolg rfl (Gro.refl _)
  by_cases h5 : k = 5
  · subst h5
    go_enter Tryd.func79, Tryd.ntmps79
    go_wp2
    go_ret
    exact boolg rfl (Gro.refl _)
  have HK : Hid (kindB k = false) := by show _ = _; unfold kindB; rw [decide_eq_false h3, decide_eq_false h4, decide_eq_false h5]; rfl
  go_enter Tryd.func79, Tryd.ntmps79
  go_wp2
  go_ret
  exact boolg (by rw [HK.out]; simp [h3, h4, h5]) (Gro.refl _)
theorem refColumnKind_calls (k : Int) (w : World) : Calls Tryd.prog 59 #[.int .i64 k] w (BoolG (kindB k) w) := by
  by_cases h3 : k = 3
  · subst h3
    go_enter Tryd.func59, Tryd.ntmps59
    go_wp2
    go_ret
    exact boolg rfl (Gro.refl _)
  by_cases h4 : k = 4
  · subst h4
    go_enter Tryd.func59, Tryd.ntmps59
    go_wp2
    go_ret
    exact boolg rfl (Gro.refl _)
  by_cases h5 : k = 5
  · subst h5
    go_enter Tryd.func59, Tryd.ntmps59
    go_wp2
    go_ret
    exact boolg rfl (Gro.refl _)
  have HK : Hid (kindB k = false) := by show _ = _; unfold kindB; rw [decide_eq_false h3, decide_eq_false h4, decide_eq_false h5]; rfl
  go_enter Tryd.func59, Tryd.ntmps59
  go_wp2
  go_ret
  exact boolg (by rw [HK.out]; simp [h3, h4, h5]) (Gro.refl _)
theorem kindsB_any : ∀ l : List Int, kindsB l = !l.any fun k => !kindB k
  | [] => rfl
  | k :: l => by
    have h := kindsB_any l
    unfold kindsB at h ⊢
    rw [List.all_cons, List.any_cons, h]; cases kindB k <;> simp
/-- What IndexFunc answers. -/
def IdxI (l : List Int) (w : World) (e : Ending) (w' : World) : Prop := ∃ i : Int, e = .returned (.int .i64 i) ∧ ((l.any fun k => !kindB k) = true → 0 ≤ i) ∧ ((l.any fun k => !kindB k) = false → i = -1) ∧ Gro w w'
set_option maxHeartbeats 2000000 in
set_option maxRecDepth 100000 in
theorem idx_kinds (S : Nat → Prop) (v : Value) (ks : List Int) (w : World) (hp : IntsAt S w v ks) : Calls Tryd.prog 84 #[v, .func (.func 79) #[] #[]] w (IdxI ks w) := by
  obtain ⟨w0, rfl⟩ : ∃ w0, w0 = w := ⟨_, rfl⟩
  have HP := Lib.hid hp
  obtain ⟨a, cap, rfl, hl⟩ := hp.slice
  generalize hN : ks.length = N at hl HP ⊢
  have HN := Lib.hid hN
  clear hN hp
  go_enter Tryd.func84, Tryd.ntmps84
  go_wp2_with fail
  go_loopw [5, 8] (fun _ i wr => ∃ j : Nat, j ≤ N ∧ i = .int .i64 j ∧ ((ks.take j).any fun k => !kindB k) = false ∧ Gro w0 wr) (fun _ i _ => N - (intOf i).toNat)
  case atStart => exact ⟨0, by omega, rfl, by simp, Gro.refl _⟩
  case round =>
    obtain ⟨j, hj, rfl, ht, hg⟩ := hrel
    have HT := Lib.hid ht
    have HG := Lib.hid hg
    have hwk := step_i j (by omega)
    by_cases hlt : j < N
    · have hkl : j < ks.length := by rw [HN.out]; exact hlt
      have hlt' : decide ((j : Int) < (N : Int)) = true := by simp; omega
      obtain ⟨b, off, rfl, hbl, -, d0⟩ := (HP.out.later hg.below).get hkl
      obtain ⟨x, hx⟩ : ∃ x, ks[j] = x := ⟨_, rfl⟩
      have hc := kfn_calls x wr
      rw [hx] at d0
      have HX := Lib.hid hx
      obtain ⟨q, hq⟩ : ∃ q, (!kindB x) = q := ⟨_, rfl⟩
      rw [hq] at hc
      have HC := Lib.hid hc
      have HQ := Lib.hid hq
      clear ht hg hx hc hq
      cases q
      · go_wp2_with fail
        refine HC.out.mono ?_
        rintro e w2 ⟨rfl, hg2⟩
        have HG2 := Lib.hid hg2
        clear hg2
        go_wp2
        exact ⟨⟨j + 1, by omega, by go_num, by rw [List.take_succ_eq_append_getElem hkl, List.any_append, HT.out, HX.out]; simp only [List.any_cons, List.any_nil, HQ.out]; rfl, HG.out.trans HG2.out⟩, by simp [intOf]; omega⟩
      · have HIN : Hid ((ks.any fun k => !kindB k) = true) := by show _ = _; rw [List.any_eq_true]; exact ⟨x, by rw [← HX.out]; exact List.getElem_mem hkl, HQ.out⟩
        go_wp2_with fail
        refine HC.out.mono ?_
        rintro e w2 ⟨rfl, hg2⟩
        have HG2 := Lib.hid hg2
        clear hg2
        go_wp2
        go_ret
        exact ⟨(j : Int), rfl, (fun _ => by omega), (fun h => by rw [HIN.out] at h; cases h), HG.out.trans HG2.out⟩
    · have hlt' : decide ((j : Int) < (N : Int)) = false := by simp; omega
      have HE : Hid ((ks.any fun k => !kindB k) = false) := by
        show _ = _
        rw [List.take_of_length_le (by have := HN.out; omega)] at ht
        exact ht
      clear ht hg
      go_wp2
      go_ret
      exact ⟨-1, rfl, (fun h => by rw [HE.out] at h; cases h), (fun _ => rfl), HG.out⟩
set_option maxRecDepth 100000 in
theorem containsKinds_calls (S : Nat → Prop) (v : Value) (ks : List Int) (w : World) (hp : IntsAt S w v ks) : Calls Tryd.prog 78 #[v, .func (.func 79) #[] #[]] w (BoolG (ks.any fun k => !kindB k) w) := by
  have HI := Lib.hid (idx_kinds S v ks w hp)
  obtain ⟨a, cap, rfl, -⟩ := hp
  obtain ⟨q, hq⟩ : ∃ q, (ks.any fun k => !kindB k) = q := ⟨_, rfl⟩
  rw [hq]
  have HQ := Lib.hid hq
  clear hq
  go_enter Tryd.func78, Tryd.ntmps78
  go_wp2_with fail
  refine HI.out.mono ?_
  rintro e w2 ⟨i, rfl, h1, h2, hg⟩
  have HG := Lib.hid hg
  rw [HQ.out] at h1 h2
  cases q
  · have : i = -1 := h2 rfl
    subst this
    clear h1 h2 hg
    go_wp2
    go_ret
    exact boolg (by simp) HG.out
  · have hi : 0 ≤ i := h1 rfl
    clear h1 h2 hg
    go_wp2
    go_ret
    exact boolg (by simp [hi]) HG.out
set_option maxRecDepth 100000 in
theorem columnKinds_calls (S : Nat → Prop) (v : Value) (ks : List Int) (w : World) (hp : IntsAt S w v ks) : Calls Tryd.prog 70 #[v] w (BoolG (kindsB ks) w) := by
  have HI := Lib.hid (containsKinds_calls S v ks w hp)
  rw [kindsB_any]
  obtain ⟨a, cap, rfl, -⟩ := hp
  generalize (ks.any fun k => !kindB k) = q at HI ⊢
  go_enter Tryd.func70, Tryd.ntmps70
  go_wp2_with fail
  refine HI.out.mono ?_
  rintro e w2 ⟨rfl, hg⟩
  have HG := Lib.hid hg
  clear hg
  go_wp2
  go_ret
  exact boolg rfl HG.out
set_option maxHeartbeats 2000000 in
set_option maxRecDepth 100000 in
theorem refColumnKinds_calls (S : Nat → Prop) (v : Value) (ks : List Int) (w : World) (hp : IntsAt S w v ks) : Calls Tryd.prog 44 #[v] w (BoolG (kindsB ks) w) := by
  obtain ⟨w0, rfl⟩ : ∃ w0, w0 = w := ⟨_, rfl⟩
  rw [kindsB_any]
  have HP := Lib.hid hp
  obtain ⟨a, cap, rfl, hl⟩ := hp.slice
  generalize hN : ks.length = N at hl HP ⊢
  have HN := Lib.hid hN
  obtain ⟨res, hres⟩ : ∃ res, (ks.any fun k => !kindB k) = res := ⟨_, rfl⟩
  rw [hres]
  have HR := Lib.hid hres
  clear hN hp hres
  go_enter Tryd.func44, Tryd.ntmps44
  go_wp2_with fail
  go_loopw [4, 7] (fun _ i wr => ∃ j : Nat, j ≤ N ∧ i = .int .i64 j ∧ ((ks.take j).any fun k => !kindB k) = false ∧ Gro w0 wr) (fun _ i _ => N - (intOf i).toNat)
  case atStart => exact ⟨0, by omega, rfl, by simp, Gro.refl _⟩
  case round =>
    obtain ⟨j, hj, rfl, ht, hg⟩ := hrel
    have HT := Lib.hid ht
    have HG := Lib.hid hg
    have hwk := step_i j (by omega)
    by_cases hlt : j < N
    · have hkl : j < ks.length := by rw [HN.out]; exact hlt
      have hlt' : decide ((j : Int) < (N : Int)) = true := by simp; omega
      obtain ⟨b, off, rfl, hbl, -, d0⟩ := (HP.out.later hg.below).get hkl
      obtain ⟨x, hx⟩ : ∃ x, ks[j] = x := ⟨_, rfl⟩
      have hc := refColumnKind_calls x wr
      rw [hx] at d0
      have HX := Lib.hid hx
      obtain ⟨q, hq⟩ : ∃ q, kindB x = q := ⟨_, rfl⟩
      rw [hq] at hc
      have HC := Lib.hid hc
      have HQ := Lib.hid hq
      clear ht hg hx hc hq
      cases q
      · have HIN : Hid (true = res) := by show _ = _; rw [← HR.out]; symm; rw [List.any_eq_true]; exact ⟨x, by rw [← HX.out]; exact List.getElem_mem hkl, by rw [HQ.out]; rfl⟩
        go_wp2_with fail
        refine HC.out.mono ?_
        rintro e w2 ⟨rfl, hg2⟩
        have HG2 := Lib.hid hg2
        clear hg2
        go_wp2
        go_ret
        exact boolg (by rw [← HIN.out]; rfl) (HG.out.trans HG2.out)
      · go_wp2_with fail
        refine HC.out.mono ?_
        rintro e w2 ⟨rfl, hg2⟩
        have HG2 := Lib.hid hg2
        clear hg2
        go_wp2
        exact ⟨⟨j + 1, by omega, by go_num, by rw [List.take_succ_eq_append_getElem hkl, List.any_append, HT.out, HX.out]; simp only [List.any_cons, List.any_nil, HQ.out]; rfl, HG.out.trans HG2.out⟩, by simp [intOf]; omega⟩
    · have hlt' : decide ((j : Int) < (N : Int)) = false := by simp; omega
      have HE : Hid (false = res) := by
        show _ = _
        rw [List.take_of_length_le (by have := HN.out; omega)] at ht
        rw [← HR.out, ht]
      clear ht hg
      go_wp2
      go_ret
      exact boolg (by rw [← HE.out]; rfl) HG.out
end Go.Proofs.YtpmlhgakbpfgmaaDoor
/- The contracts of predicate.spare and of the reference's nodes and deeper. -/
set_option linter.unusedSimpArgs false
set_option linter.unusedVariables false
namespace Go.Proofs.YtpmlhgakbpfgmaaDoor
open Go.RowKit

def IntG (n : Int) (w : World) (e : Ending) (w' : World) : Prop := e = .returned (.int .i64 n) ∧ Gro w w'
theorem intg {x y : Int} {w w' : World} (h : y = x) (h3 : Gro w w') : IntG x w (.returned (.int .i64 y)) w' := by subst h; exact ⟨rfl, h3⟩
theorem spareP_range {p : Pr} {r : Int} {n : Nat} (h0 : 0 ≤ r) (h1 : r ≤ 24) : -1 ≤ spareP p r n ∧ spareP p r n ≤ 24 := by
  rw [spareP_eq p r n h0]
  split <;> omega
theorem nodesP_range {p : Pr} {n : Int} (h0 : 0 ≤ n) (h1 : n ≤ 24) : 0 ≤ nodesP p n ∧ nodesP p n ≤ 25 := by
  rw [nodesP_eq p n h1]
  split <;> omega
theorem wrap_less (L : Int) (h0 : -4398046511104 ≤ L) (h : L ≤ 4398046511104) : wrap64 (L - 1) = L - 1 := by
  unfold wrap64
  omega
theorem wrap_more (L : Int) (h0 : -4398046511104 ≤ L) (h : L ≤ 4398046511104) : wrap64 (L + 1) = L + 1 := by
  unfold wrap64
  omega
def SpareAt (S : Nat → Prop) (k : Nat) (p : Pr) : Prop :=
  ∀ (s : Value) (r L : Int) (n : Nat) (w : World), 0 ≤ r → r ≤ 24 → L = n → n ≤ 8 → PrIn S w k s p.args → Calls Tryd.prog 71 #[p.val s, .int .i64 r, .int .i64 L] w (IntG (spareP p r n) w)
set_option maxHeartbeats 4000000 in
set_option maxRecDepth 100000 in
theorem spare_step (S : Nat → Prop) (k : Nat) (p : Pr) (ih : ∀ q ∈ p.args, SpareAt S k q) : SpareAt S (k + 1) p := by
  intro s r L n w hr0 hr1 hL hn hp
  have mx := mixed
  obtain ⟨sa, sc, rfl, hsl⟩ := hp.shape
  obtain ⟨W, hW⟩ : ∃ W, W = w.alloc (pBlock p (.slice sa p.args.length sc) 60) := ⟨_, rfl⟩
  have hg : Gro w W := by rw [hW]; exact (Gro.refl w).alloc _
  have HBX : Hid (PBox W w.heap.size p (.slice sa p.args.length sc)) := by show PBox _ _ _ _; rw [hW]; exact PBox.new w p _ _
  have HP := Lib.hid (hp.later hg.below)
  have HG := Lib.hid hg
  have HIH := Lib.hid ih
  have HW := Lib.hid hW
  clear hp hg ih hW
  obtain ⟨op, cmp, ⟨lk, li, ⟨lvk, lvn, lvt⟩⟩, ⟨rk, ri, ⟨rvk, rvn, rvt⟩⟩, args⟩ := p
  replace HW : Hid (W = w.alloc (.cells #[.int .i64 op, .int .i64 cmp, .int .i64 lk, .int .i64 li, .int .i64 lvk, .int .i64 lvn, .string lvt, .int .i64 rk, .int .i64 ri, .int .i64 rvk, .int .i64 rvn, .string rvt, .slice sa args.length sc] 60)) := HW.out
  replace HP : Hid (PrIn S W (k + 1) (.slice sa args.length sc) args) := HP.out
  replace hsl : args.length ≤ 4398046511104 := hsl
  replace HBX : Hid (PBox W w.heap.size (.mk op cmp ⟨lk, li, ⟨lvk, lvn, lvt⟩⟩ ⟨rk, ri, ⟨rvk, rvn, rvt⟩⟩ args) (.slice sa args.length sc)) := HBX.out
  obtain ⟨l, b0, b1, b2, b3, b4, b5, b6, b7, b8, b9, b10, b11, b12⟩ := HBX.out
  simp only [Pr.op, Pr.cmp, Pr.l, Pr.r, Pr.args] at b0 b1 b2 b3 b4 b5 b6 b7 b8 b9 b10 b11 b12

  replace HIH : Hid (∀ q ∈ args, SpareAt S k q) := HIH.out
  show Calls _ _ #[.agg #[.int .i64 op, .int .i64 cmp, .int .i64 lk, .int .i64 li, .int .i64 lvk, .int .i64 lvn, .string lvt, .int .i64 rk, .int .i64 ri, .int .i64 rvk, .int .i64 rvn, .string rvt, .slice sa args.length sc], .int .i64 r, .int .i64 L] _ _
  cases n with
  | zero =>
    obtain rfl : L = 0 := hL
    have HE : Hid (-1 = spareP (.mk op cmp ⟨lk, li, ⟨lvk, lvn, lvt⟩⟩ ⟨rk, ri, ⟨rvk, rvn, rvt⟩⟩ args) r 0) := by show _ = _; rw [spareP]
    go_enter Tryd.func71, Tryd.ntmps71
    go_wp2
    go_ret
    rw [← HW.out]
    exact intg HE.out HG.out
  | succ n =>
    obtain ⟨res, hres⟩ : ∃ res, spareP (.mk op cmp ⟨lk, li, ⟨lvk, lvn, lvt⟩⟩ ⟨rk, ri, ⟨rvk, rvn, rvt⟩⟩ args) r (n + 1) = res := ⟨_, rfl⟩
    have HE : Hid (spareL args (r - 1) n = res) := by show _ = _; rw [← hres, spareP]
    rw [hres]
    have hL0 : ¬ L = 0 := by omega
    have hL1 : (L == 0) = false := by simpa using hL0
    have hwL := wrap_less L (by omega) (by omega)
    have hwr := wrap_less r (by omega) (by omega)
    have HLn : Hid (L - 1 = n) := by show _ = _; omega
    generalize hN : args.length = N at hsl HP HW b12 HBX ⊢
    have HN := Lib.hid hN
    have HNB : Hid (n ≤ 8) := by show _ ≤ _; omega
    clear hN hres hL hn
    go_enter Tryd.func71, Tryd.ntmps71
    go_wp2_with fail
    rw [← HW.out]
    clear HW
    generalize w.heap.size = gb at l b0 b1 b2 b3 b4 b5 b6 b7 b8 b9 b10 b11 b12 HBX ⊢
    go_loopw [1, 7] (fun v i wr => ∃ (j : Nat) (r' : Int), j ≤ N ∧ i = .int .i64 j ∧ v = .int .i64 r' ∧ spareL (args.drop j) r' n = res ∧ -1 ≤ r' ∧ r' ≤ 24 ∧ Gro W wr) (fun _ i _ => N - (intOf i).toNat)
    case atStart => exact ⟨0, r - 1, by omega, rfl, rfl, HE.out, by omega, by omega, Gro.refl _⟩
    case round =>
      obtain ⟨j, r', hj, rfl, rfl, hf, hr0', hr1', hg⟩ := hrel
      have HF := Lib.hid hf
      have HGR := Lib.hid hg
      obtain ⟨l, b0, b1, b2, b3, b4, b5, b6, b7, b8, b9, b10, b11, b12⟩ := HBX.out.later hg.below
      simp only [Pr.op, Pr.cmp, Pr.l, Pr.r, Pr.args] at b0 b1 b2 b3 b4 b5 b6 b7 b8 b9 b10 b11 b12
      clear hwr hr0 hr1
      by_cases hlt : j < N
      · have hkl : j < args.length := by rw [HN.out]; exact hlt
        have hlt' : decide ((j : Int) < (N : Int)) = true := by simp; omega
        rw [List.drop_eq_getElem_cons hkl] at HF
        by_cases hrr : 0 ≤ r'
        · have hrr' : decide ((0 : Int) ≤ r') = true := by simpa using hrr
          have HRN : Hid (¬ r' < 0) := by show ¬ _; omega
          obtain ⟨b, off, s, rfl, hbl, -, hat, hr⟩ := (HP.out.later hg.below).get hkl
          have hc := HIH.out args[j] (List.getElem_mem hkl) s r' (L - 1) n wr hrr hr1' HLn.out HNB.out hr
          generalize args[j] = x at hat hc HF ⊢
          obtain ⟨d0, d1, d2, d3, d4, d5, d6, d7, d8, d9, d10, d11, d12⟩ := hat

          have hrng := spareP_range (p := x) (n := n) hrr hr1'
          replace HF : Hid ((if r' < 0 then r' else spareL (args.drop (j + 1)) (spareP x r' n) n) = res) := HF.out
          rw [if_neg HRN.out] at HF
          generalize spareP x r' n = y at hc HF hrng
          have HC := Lib.hid hc
          have HRG := Lib.hid hrng
          have hwk := step_i j (by omega)
          clear hf hg hr hc hrng
          go_wp2_with fail
          refine HC.out.mono ?_
          rintro e w2 ⟨rfl, hg2⟩
          have HG2 := Lib.hid hg2
          have HJ := Lib.hid hlt
          clear hg2 hwL hL0 hL1 hrr hrr' hr0' hr1' hlt' hlt hkl hj hsl HNB b0 b1 b2 b3 b4 b5 b6 b7 b8 b9 b10 b11 b12 d0 d1 d2 d3 d4 d5 d6 d7 d8 d9 d10 d11 d12 l hbl
          go_wp2
          generalize wrap64 ((j : Int) + 1) = z at hwk ⊢
          subst hwk
          have hjj := HJ.out
          exact ⟨⟨j + 1, y, by omega, by go_num, rfl, HF.out, HRG.out.1, HRG.out.2, HGR.out.trans HG2.out⟩, by simp [intOf]; omega⟩
        · have hrr' : decide ((0 : Int) ≤ r') = false := by simpa using hrr
          replace HF : Hid ((if r' < 0 then r' else spareL (args.drop (j + 1)) (spareP args[j] r' n) n) = res) := HF.out
          have HX : Hid (r' = res) := by show _ = _; rw [← HF.out, if_pos (by omega)]
          clear hf hg HF
          go_wp2
          go_ret
          exact intg HX.out (HG.out.trans HGR.out)
      · have hlt' : decide ((j : Int) < (N : Int)) = false := by simp; omega
        have HX : Hid (r' = res) := by
          show _ = _
          rw [List.drop_eq_nil_of_le (by have := HN.out; omega)] at hf
          exact hf
        clear hf hg HF
        go_wp2
        go_ret
        exact intg HX.out (HG.out.trans HGR.out)
theorem spare_at (S : Nat → Prop) : ∀ (k : Nat) (p : Pr), SpareAt S k p
  | 0, p => fun s r L n w h1 h2 h3 h4 hp => spare_step S 0 p (fun q hq => by rw [hp.1] at hq; simp at hq) s r L n w h1 h2 h3 h4 hp.deeper
  | k + 1, p => spare_step S k p fun q _ => spare_at S k q
def NodesAt (S : Nat → Prop) (k : Nat) (p : Pr) : Prop :=
  ∀ (s : Value) (n : Int) (w : World), 0 ≤ n → n ≤ 24 → PrIn S w k s p.args → Calls Tryd.prog 45 #[p.val s, .int .i64 n] w (IntG (nodesP p n) w)
set_option maxHeartbeats 4000000 in
set_option maxRecDepth 100000 in
theorem nodes_step (S : Nat → Prop) (k : Nat) (p : Pr) (ih : ∀ q ∈ p.args, NodesAt S k q) : NodesAt S (k + 1) p := by
  intro s n w hn0 hn1 hp
  have mx := mixed
  obtain ⟨sa, sc, rfl, hsl⟩ := hp.shape
  obtain ⟨W, hW⟩ : ∃ W, W = w.alloc (pBlock p (.slice sa p.args.length sc) 60) := ⟨_, rfl⟩
  have hg : Gro w W := by rw [hW]; exact (Gro.refl w).alloc _
  have HBX : Hid (PBox W w.heap.size p (.slice sa p.args.length sc)) := by show PBox _ _ _ _; rw [hW]; exact PBox.new w p _ _
  have HP := Lib.hid (hp.later hg.below)
  have HG := Lib.hid hg
  have HIH := Lib.hid ih
  have HW := Lib.hid hW
  clear hp hg ih hW
  obtain ⟨op, cmp, ⟨lk, li, ⟨lvk, lvn, lvt⟩⟩, ⟨rk, ri, ⟨rvk, rvn, rvt⟩⟩, args⟩ := p
  replace HW : Hid (W = w.alloc (.cells #[.int .i64 op, .int .i64 cmp, .int .i64 lk, .int .i64 li, .int .i64 lvk, .int .i64 lvn, .string lvt, .int .i64 rk, .int .i64 ri, .int .i64 rvk, .int .i64 rvn, .string rvt, .slice sa args.length sc] 60)) := HW.out
  replace HP : Hid (PrIn S W (k + 1) (.slice sa args.length sc) args) := HP.out
  replace hsl : args.length ≤ 4398046511104 := hsl
  replace HBX : Hid (PBox W w.heap.size (.mk op cmp ⟨lk, li, ⟨lvk, lvn, lvt⟩⟩ ⟨rk, ri, ⟨rvk, rvn, rvt⟩⟩ args) (.slice sa args.length sc)) := HBX.out
  obtain ⟨l, b0, b1, b2, b3, b4, b5, b6, b7, b8, b9, b10, b11, b12⟩ := HBX.out
  simp only [Pr.op, Pr.cmp, Pr.l, Pr.r, Pr.args] at b0 b1 b2 b3 b4 b5 b6 b7 b8 b9 b10 b11 b12

  replace HIH : Hid (∀ q ∈ args, NodesAt S k q) := HIH.out
  show Calls _ _ #[.agg #[.int .i64 op, .int .i64 cmp, .int .i64 lk, .int .i64 li, .int .i64 lvk, .int .i64 lvn, .string lvt, .int .i64 rk, .int .i64 ri, .int .i64 rvk, .int .i64 rvn, .string rvt, .slice sa args.length sc], .int .i64 n] _ _
  obtain ⟨res, hres⟩ : ∃ res, nodesP (.mk op cmp ⟨lk, li, ⟨lvk, lvn, lvt⟩⟩ ⟨rk, ri, ⟨rvk, rvn, rvt⟩⟩ args) n = res := ⟨_, rfl⟩
  have HE : Hid (nodesL args (n + 1) = res) := by show _ = _; rw [← hres, nodesP]
  rw [hres]
  have hwr := wrap_more n (by omega) (by omega)
  generalize hN : args.length = N at hsl HP HW b12 HBX ⊢
  have HN := Lib.hid hN
  clear hN hres
  go_enter Tryd.func45, Tryd.ntmps45
  go_wp2_with fail
  rw [← HW.out]
  clear HW
  generalize w.heap.size = gb at l b0 b1 b2 b3 b4 b5 b6 b7 b8 b9 b10 b11 b12 HBX ⊢
  go_loopw [1, 5] (fun v i wr => ∃ (j : Nat) (m : Int), j ≤ N ∧ i = .int .i64 j ∧ v = .int .i64 m ∧ nodesL (args.drop j) m = res ∧ 0 ≤ m ∧ m ≤ 25 ∧ Gro W wr) (fun _ i _ => N - (intOf i).toNat)
  case atStart => exact ⟨0, n + 1, by omega, rfl, rfl, HE.out, by omega, by omega, Gro.refl _⟩
  case round =>
    obtain ⟨j, m, hj, rfl, rfl, hf, hm0, hm1, hg⟩ := hrel
    have HF := Lib.hid hf
    have HGR := Lib.hid hg
    obtain ⟨l, b0, b1, b2, b3, b4, b5, b6, b7, b8, b9, b10, b11, b12⟩ := HBX.out.later hg.below
    simp only [Pr.op, Pr.cmp, Pr.l, Pr.r, Pr.args] at b0 b1 b2 b3 b4 b5 b6 b7 b8 b9 b10 b11 b12
    clear hwr hn0 hn1
    by_cases hlt : j < N
    · have hkl : j < args.length := by rw [HN.out]; exact hlt
      have hlt' : decide ((j : Int) < (N : Int)) = true := by simp; omega
      rw [List.drop_eq_getElem_cons hkl] at HF
      by_cases hmm : m ≤ 24
      · have hmm' : decide (m ≤ 24) = true := by simpa using hmm
        have HRN : Hid (¬ 24 < m) := by show ¬ _; omega
        obtain ⟨b, off, s, rfl, hbl, -, hat, hr⟩ := (HP.out.later hg.below).get hkl
        have hc := HIH.out args[j] (List.getElem_mem hkl) s m wr hm0 hmm hr
        generalize args[j] = x at hat hc HF ⊢
        obtain ⟨d0, d1, d2, d3, d4, d5, d6, d7, d8, d9, d10, d11, d12⟩ := hat
        have hrng := nodesP_range (p := x) hm0 hmm
        replace HF : Hid ((if 24 < m then m else nodesL (args.drop (j + 1)) (nodesP x m)) = res) := HF.out
        rw [if_neg HRN.out] at HF
        generalize nodesP x m = y at hc HF hrng
        have HC := Lib.hid hc
        have HRG := Lib.hid hrng
        have hwk := step_i j (by omega)
        clear hf hg hr hc hrng
        go_wp2_with fail
        refine HC.out.mono ?_
        rintro e w2 ⟨rfl, hg2⟩
        have HG2 := Lib.hid hg2
        clear hg2
        go_wp2
        generalize wrap64 ((j : Int) + 1) = z at hwk ⊢
        subst hwk
        exact ⟨⟨j + 1, y, by omega, by go_num, rfl, HF.out, HRG.out.1, HRG.out.2, HGR.out.trans HG2.out⟩, by simp [intOf]; omega⟩
      · have hmm' : decide (m ≤ 24) = false := by simpa using hmm
        replace HF : Hid ((if 24 < m then m else nodesL (args.drop (j + 1)) (nodesP args[j] m)) = res) := HF.out
        have HX : Hid (m = res) := by show _ = _; rw [← HF.out, if_pos (by omega)]
        clear hf hg HF
        go_wp2
        go_ret
        exact intg HX.out (HG.out.trans HGR.out)
    · have hlt' : decide ((j : Int) < (N : Int)) = false := by simp; omega
      have HX : Hid (m = res) := by
        show _ = _
        rw [List.drop_eq_nil_of_le (by have := HN.out; omega)] at hf
        exact hf
      clear hf hg HF
      go_wp2
      go_ret
      exact intg HX.out (HG.out.trans HGR.out)
theorem nodes_at (S : Nat → Prop) : ∀ (k : Nat) (p : Pr), NodesAt S k p
  | 0, p => fun s n w h1 h2 hp => nodes_step S 0 p (fun q hq => by rw [hp.1] at hq; simp at hq) s n w h1 h2 hp.deeper
  | k + 1, p => nodes_step S k p fun q _ => nodes_at S k q
def DeepAt (S : Nat → Prop) (k : Nat) (p : Pr) : Prop :=
  ∀ (s : Value) (L : Int) (n : Nat) (w : World), L = n → n ≤ 8 → PrIn S w k s p.args → Calls Tryd.prog 46 #[p.val s, .int .i64 L] w (BoolG (deepP p n) w)
set_option maxHeartbeats 4000000 in
set_option maxRecDepth 100000 in
theorem deep_step (S : Nat → Prop) (k : Nat) (p : Pr) (ih : ∀ q ∈ p.args, DeepAt S k q) : DeepAt S (k + 1) p := by
  intro s L n w hL hn hp
  have mx := mixed
  obtain ⟨sa, sc, rfl, hsl⟩ := hp.shape
  obtain ⟨W, hW⟩ : ∃ W, W = w.alloc (pBlock p (.slice sa p.args.length sc) 60) := ⟨_, rfl⟩
  have hg : Gro w W := by rw [hW]; exact (Gro.refl w).alloc _
  have HBX : Hid (PBox W w.heap.size p (.slice sa p.args.length sc)) := by show PBox _ _ _ _; rw [hW]; exact PBox.new w p _ _
  have HP := Lib.hid (hp.later hg.below)
  have HG := Lib.hid hg
  have HIH := Lib.hid ih
  have HW := Lib.hid hW
  clear hp hg ih hW
  obtain ⟨op, cmp, ⟨lk, li, ⟨lvk, lvn, lvt⟩⟩, ⟨rk, ri, ⟨rvk, rvn, rvt⟩⟩, args⟩ := p
  replace HW : Hid (W = w.alloc (.cells #[.int .i64 op, .int .i64 cmp, .int .i64 lk, .int .i64 li, .int .i64 lvk, .int .i64 lvn, .string lvt, .int .i64 rk, .int .i64 ri, .int .i64 rvk, .int .i64 rvn, .string rvt, .slice sa args.length sc] 60)) := HW.out
  replace HP : Hid (PrIn S W (k + 1) (.slice sa args.length sc) args) := HP.out
  replace hsl : args.length ≤ 4398046511104 := hsl
  replace HBX : Hid (PBox W w.heap.size (.mk op cmp ⟨lk, li, ⟨lvk, lvn, lvt⟩⟩ ⟨rk, ri, ⟨rvk, rvn, rvt⟩⟩ args) (.slice sa args.length sc)) := HBX.out
  obtain ⟨l, b0, b1, b2, b3, b4, b5, b6, b7, b8, b9, b10, b11, b12⟩ := HBX.out
  simp only [Pr.op, Pr.cmp, Pr.l, Pr.r, Pr.args] at b0 b1 b2 b3 b4 b5 b6 b7 b8 b9 b10 b11 b12

  replace HIH : Hid (∀ q ∈ args, DeepAt S k q) := HIH.out
  show Calls _ _ #[.agg #[.int .i64 op, .int .i64 cmp, .int .i64 lk, .int .i64 li, .int .i64 lvk, .int .i64 lvn, .string lvt, .int .i64 rk, .int .i64 ri, .int .i64 rvk, .int .i64 rvn, .string rvt, .slice sa args.length sc], .int .i64 L] _ _
  cases n with
  | zero =>
    obtain rfl : L = 0 := hL
    have HE : Hid (true = deepP (.mk op cmp ⟨lk, li, ⟨lvk, lvn, lvt⟩⟩ ⟨rk, ri, ⟨rvk, rvn, rvt⟩⟩ args) 0) := by show _ = _; rw [deepP]
    go_enter Tryd.func46, Tryd.ntmps46
    go_wp2
    go_ret
    rw [← HW.out]
    exact boolg HE.out HG.out
  | succ n =>
    obtain ⟨res, hres⟩ : ∃ res, deepP (.mk op cmp ⟨lk, li, ⟨lvk, lvn, lvt⟩⟩ ⟨rk, ri, ⟨rvk, rvn, rvt⟩⟩ args) (n + 1) = res := ⟨_, rfl⟩
    have HE : Hid (deepL args n = res) := by show _ = _; rw [← hres, deepP]
    rw [hres]
    have hL0 : ¬ L = 0 := by omega
    have hL1 : (L == 0) = false := by simpa using hL0
    have hwL := wrap_less L (by omega) (by omega)
    have HLn : Hid (L - 1 = n) := by show _ = _; omega
    generalize hN : args.length = N at hsl HP HW b12 HBX ⊢
    have HN := Lib.hid hN
    have HNB : Hid (n ≤ 8) := by show _ ≤ _; omega
    clear hN hres hL hn
    go_enter Tryd.func46, Tryd.ntmps46
    go_wp2_with fail
    rw [← HW.out]
    clear HW
    generalize w.heap.size = gb at l b0 b1 b2 b3 b4 b5 b6 b7 b8 b9 b10 b11 b12 HBX ⊢
    go_loopw [5, 11] (fun _ i wr => ∃ j : Nat, j ≤ N ∧ i = .int .i64 j ∧ deepL (args.drop j) n = res ∧ Gro W wr) (fun _ i _ => N - (intOf i).toNat)
    case atStart => exact ⟨0, by omega, rfl, HE.out, Gro.refl _⟩
    case round =>
      obtain ⟨j, hj, rfl, hf, hg⟩ := hrel
      have HF := Lib.hid hf
      have HGR := Lib.hid hg
      obtain ⟨l, b0, b1, b2, b3, b4, b5, b6, b7, b8, b9, b10, b11, b12⟩ := HBX.out.later hg.below
      simp only [Pr.op, Pr.cmp, Pr.l, Pr.r, Pr.args] at b0 b1 b2 b3 b4 b5 b6 b7 b8 b9 b10 b11 b12
      by_cases hlt : j < N
      · have hkl : j < args.length := by rw [HN.out]; exact hlt
        have hlt' : decide ((j : Int) < (N : Int)) = true := by simp; omega
        rw [List.drop_eq_getElem_cons hkl] at HF
        obtain ⟨b, off, s, rfl, hbl, -, hat, hr⟩ := (HP.out.later hg.below).get hkl
        have hc := HIH.out args[j] (List.getElem_mem hkl) s (L - 1) n wr HLn.out HNB.out hr
        generalize args[j] = x at hat hc HF ⊢
        obtain ⟨d0, d1, d2, d3, d4, d5, d6, d7, d8, d9, d10, d11, d12⟩ := hat
        replace HF : Hid ((deepP x n || deepL (args.drop (j + 1)) n) = res) := HF.out
        generalize deepP x n = q at hc HF
        have HC := Lib.hid hc
        have hwk := step_i j (by omega)
        clear hf hg hr hc
        cases q with
        | false =>
          go_wp2_with fail
          refine HC.out.mono ?_
          rintro e w2 ⟨rfl, hg2⟩
          have HG2 := Lib.hid hg2
          clear hg2
          go_wp2
          exact ⟨⟨j + 1, by omega, by go_num, by simpa using HF.out, HGR.out.trans HG2.out⟩, by simp [intOf]; omega⟩
        | true =>
          have HX : Hid (true = res) := HF.out
          go_wp2_with fail
          refine HC.out.mono ?_
          rintro e w2 ⟨rfl, hg2⟩
          have HG2 := Lib.hid hg2
          clear hg2
          go_wp2
          go_ret
          exact boolg HX.out (HG.out.trans (HGR.out.trans HG2.out))
      · have hlt' : decide ((j : Int) < (N : Int)) = false := by simp; omega
        have HX : Hid (false = res) := by
          show _ = _
          rw [List.drop_eq_nil_of_le (by have := HN.out; omega)] at hf
          exact hf
        clear hf hg HF
        go_wp2
        go_ret
        exact boolg HX.out (HG.out.trans HGR.out)
theorem deep_at (S : Nat → Prop) : ∀ (k : Nat) (p : Pr), DeepAt S k p
  | 0, p => fun s L n w h1 h2 hp => deep_step S 0 p (fun q hq => by rw [hp.1] at hq; simp at hq) s L n w h1 h2 hp.deeper
  | k + 1, p => deep_step S k p fun q _ => deep_at S k q
end Go.Proofs.YtpmlhgakbpfgmaaDoor
