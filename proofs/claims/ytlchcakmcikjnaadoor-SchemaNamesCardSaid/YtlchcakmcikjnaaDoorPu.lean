/- The contract of predicate.valid. -/
import Derived.Test.YtlchcakmcikjnaaDoorPn
import Derived.Test.YtlchcakmcikjnaaDoorPt
set_option linter.unusedSimpArgs false
set_option linter.unusedVariables false
namespace Go.Proofs.YtlchcakmcikjnaaDoor
open Go.RowKit

/-- The blocks that the closure of valid has captured. -/
structure CapsV (w : World) (gr gq : Nat) (vc vp : Value) : Prop where
  l0 : gr < w.heap.size
  l1 : gq < w.heap.size
  c0 : w.cell? ⟨gr, 0, none⟩ = some vc
  c1 : w.cell? ⟨gq, 0, none⟩ = some vp
theorem CapsV.later {w w' : World} {gr gq : Nat} {vc vp : Value} (h : CapsV w gr gq vc vp) (hw : Below w.heap.size w w') : CapsV w' gr gq vc vp :=
  ⟨Nat.lt_of_lt_of_le h.l0 hw.size, Nat.lt_of_lt_of_le h.l1 hw.size, (hw.cell (p := ⟨gr, 0, none⟩) h.l0).trans h.c0, (hw.cell (p := ⟨gq, 0, none⟩) h.l1).trans h.c1⟩
def ValidAt (S Sc Sp : Nat → Prop) (vc vp : Value) (cols par : List Int) (k : Nat) (p : Pr) : Prop :=
  ∀ (s : Value) (w : World), Shapes w → IntsAt Sc w vc cols → IntsAt Sp w vp par → PrIn S w k s p.args → Calls Tryd.prog 72 #[p.val s, vc, vp] w (BoolG (validA cols par p) w)
set_option maxRecDepth 100000 in
theorem valid1_calls {S Sc Sp : Nat → Prop} {vc vp : Value} {cols par : List Int} {k : Nat} (p : Pr) (ih : ValidAt S Sc Sp vc vp cols par k p) (s : Value) (gr gq : Nat) (w : World) (hk : CapsV w gr gq vc vp) (hs : Shapes w) (ha : IntsAt Sc w vc cols) (hb : IntsAt Sp w vp par) (hp : PrIn S w k s p.args) :
    Calls Tryd.prog 86 #[p.val s, .pointer (some ⟨gr, 0, none⟩), .pointer (some ⟨gq, 0, none⟩)] w (BoolG (!validA cols par p) w) := by
  obtain ⟨W, hW⟩ : ∃ W, W = w.alloc (pBlock p s 74) := ⟨_, rfl⟩
  have hg : Gro w W := by rw [hW]; exact (Gro.refl w).alloc _
  have hB : PBox W w.heap.size p s := by rw [hW]; exact PBox.new w p s _
  have HI := Lib.hid (ih s W (hs.later hg.below) (ha.later hg.below) (hb.later hg.below) (hp.later hg.below))
  obtain ⟨q, hq⟩ : ∃ q, validA cols par p = q := ⟨_, rfl⟩
  rw [hq] at HI ⊢
  obtain ⟨a1, k1, rfl, -⟩ := ha.slice
  obtain ⟨a2, k2, rfl, -⟩ := hb.slice
  obtain ⟨h0, h1, c0, c1⟩ := hk.later hg.below
  obtain ⟨l, b0, b1, b2, b3, b4, b5, b6, b7, b8, b9, b10, b11, b12⟩ := hB
  have HG := Lib.hid hg
  subst hW
  clear hg hq ih ha hb hp hk hs
  go_enter Tryd.func86, Tryd.ntmps86
  go_wp2_with fail
  refine HI.out.mono ?_
  rintro e w1 ⟨rfl, hg1⟩
  have HG1 := Lib.hid (HG.out.trans hg1)
  clear hg1
  go_wp2
  go_ret
  exact boolg rfl HG1.out
set_option maxHeartbeats 4000000 in
set_option maxRecDepth 100000 in
theorem valid_step (S Sc Sp : Nat → Prop) (vc vp : Value) (cols par : List Int) (k : Nat) (p : Pr) (ih : ∀ q ∈ p.args, ValidAt S Sc Sp vc vp cols par k q) : ValidAt S Sc Sp vc vp cols par (k + 1) p := by
  intro s w hs hc hq hp
  have mx := mixed
  obtain ⟨ca, cc, rfl, -⟩ := hc.slice
  obtain ⟨qa, qc, rfl, -⟩ := hq.slice
  obtain ⟨sa, sc, rfl, hsl⟩ := hp.shape
  have HMK : Hid (validA cols par p = (nodeB cols par p.op p.cmp p.l p.r p.args.length && !badL cols par p.args)) := by
    show _ = _
    obtain ⟨op, cmp, l, r, args⟩ := p
    rw [validA]; rfl
  generalize hcn : cols.length = cn at hc hq ih ⊢
  generalize hqn : par.length = qn at hc hq ih ⊢
  obtain ⟨W, hW⟩ : ∃ W, W = ((w.alloc (pBlock p (.slice sa p.args.length sc) 74)).alloc (.cells #[.slice ca cn cc] 47)).alloc (.cells #[.slice qa qn qc] 47) := ⟨_, rfl⟩
  have hg : Gro w W := by rw [hW]; exact (((Gro.refl w).alloc _).alloc _).alloc _
  have HBX : Hid (PBox W w.heap.size p (.slice sa p.args.length sc)) := by
    show PBox _ _ _ _
    rw [hW]
    refine (PBox.new w p _ 74).later ?_
    exact ((Below.refl _ _).alloc (Nat.le_refl _) _).alloc (by simp) _
  have HCA : Hid (CapsV W (w.heap.size + 1) (w.heap.size + 1 + 1) (.slice ca cn cc) (.slice qa qn qc)) := by
    show CapsV _ _ _ _ _
    rw [hW]; exact ⟨by simp <;> omega, by simp <;> omega, by go_simp, by go_simp⟩
  have HS := Lib.hid (hs.later hg.below)
  have HC := Lib.hid (hc.later hg.below)
  have HQ := Lib.hid (hq.later hg.below)
  have HP := Lib.hid (hp.later hg.below)
  have HG := Lib.hid hg
  have HIH := Lib.hid ih
  have HW := Lib.hid hW
  have HN := Lib.hid (validNode_calls Sc Sp (.slice ca cn cc) (.slice qa qn qc) cols par p sa p.args.length sc W HS.out HC.out HQ.out)
  have hbad := fun w' (hb : Below W.heap.size W w') => contains_valid S k (fun p => !validA cols par p) (w.heap.size + 1) (w.heap.size + 1 + 1) (.slice sa p.args.length sc) p.args w' (HP.out.later hb) (fun q s w2 hb2 hr hm =>
    have hbb := hb.trans (hb2.mono hb.size)
    valid1_calls q (HIH.out q hm) s _ _ w2 (HCA.out.later hbb) (HS.out.later hbb) (HC.out.later hbb) (HQ.out.later hbb) hr)
  rw [← badL_any] at hbad
  have HBAD := Lib.hid hbad
  clear hp hg ih hW hs hc hq hbad hcn hqn
  obtain ⟨op, cmp, ⟨lk, li, ⟨lvk, lvn, lvt⟩⟩, ⟨rk, ri, ⟨rvk, rvn, rvt⟩⟩, args⟩ := p
  replace HW : Hid (W = ((w.alloc (.cells #[.int .i64 op, .int .i64 cmp, .int .i64 lk, .int .i64 li, .int .i64 lvk, .int .i64 lvn, .string lvt, .int .i64 rk, .int .i64 ri, .int .i64 rvk, .int .i64 rvn, .string rvt, .slice sa args.length sc] 74)).alloc (.cells #[.slice ca cn cc] 47)).alloc (.cells #[.slice qa qn qc] 47)) := HW.out
  replace HMK : Hid (validA cols par (.mk op cmp ⟨lk, li, ⟨lvk, lvn, lvt⟩⟩ ⟨rk, ri, ⟨rvk, rvn, rvt⟩⟩ args) = (nodeB cols par op cmp ⟨lk, li, ⟨lvk, lvn, lvt⟩⟩ ⟨rk, ri, ⟨rvk, rvn, rvt⟩⟩ args.length && !badL cols par args)) := HMK.out
  replace HN : Hid (Calls Tryd.prog 84 #[.agg #[.int .i64 op, .int .i64 cmp, .int .i64 lk, .int .i64 li, .int .i64 lvk, .int .i64 lvn, .string lvt, .int .i64 rk, .int .i64 ri, .int .i64 rvk, .int .i64 rvn, .string rvt, .slice sa args.length sc], .slice ca cn cc, .slice qa qn qc] W (BoolG (nodeB cols par op cmp ⟨lk, li, ⟨lvk, lvn, lvt⟩⟩ ⟨rk, ri, ⟨rvk, rvn, rvt⟩⟩ args.length) W)) := HN.out
  replace HBAD : Hid (∀ w', Below W.heap.size W w' → Calls Tryd.prog 85 #[.slice sa args.length sc, .func (.func 86) #[] #[.pointer (some ⟨w.heap.size + 1, 0, none⟩), .pointer (some ⟨w.heap.size + 1 + 1, 0, none⟩)]] w' (BoolG (badL cols par args) w')) := HBAD.out
  replace HBX : Hid (PBox W w.heap.size (.mk op cmp ⟨lk, li, ⟨lvk, lvn, lvt⟩⟩ ⟨rk, ri, ⟨rvk, rvn, rvt⟩⟩ args) (.slice sa args.length sc)) := HBX.out
  obtain ⟨res, hres⟩ : ∃ res, validA cols par (.mk op cmp ⟨lk, li, ⟨lvk, lvn, lvt⟩⟩ ⟨rk, ri, ⟨rvk, rvn, rvt⟩⟩ args) = res := ⟨_, rfl⟩
  show Calls _ _ #[.agg #[.int .i64 op, .int .i64 cmp, .int .i64 lk, .int .i64 li, .int .i64 lvk, .int .i64 lvn, .string lvt, .int .i64 rk, .int .i64 ri, .int .i64 rvk, .int .i64 rvn, .string rvt, .slice sa args.length sc], .slice ca cn cc, .slice qa qn qc] _ (BoolG (validA cols par (.mk op cmp ⟨lk, li, ⟨lvk, lvn, lvt⟩⟩ ⟨rk, ri, ⟨rvk, rvn, rvt⟩⟩ args)) w)
  rw [hres] at HMK ⊢
  generalize nodeB cols par op cmp ⟨lk, li, ⟨lvk, lvn, lvt⟩⟩ ⟨rk, ri, ⟨rvk, rvn, rvt⟩⟩ args.length = x at HN HMK
  generalize badL cols par args = y at HBAD HMK
  obtain ⟨l, b0, b1, b2, b3, b4, b5, b6, b7, b8, b9, b10, b11, b12⟩ := HBX.out
  simp only [Pr.op, Pr.cmp, Pr.l, Pr.r, Pr.args] at b0 b1 b2 b3 b4 b5 b6 b7 b8 b9 b10 b11 b12
  obtain ⟨k0, k1, k2, k3⟩ := HCA.out
  clear hres HC HQ HP HS HIH
  go_enter Tryd.func72, Tryd.ntmps72
  go_wp2_with fail
  rw [← HW.out]
  refine HN.out.mono ?_
  rintro e w2 ⟨rfl, hg2⟩
  obtain ⟨l, b0, b1, b2, b3, b4, b5, b6, b7, b8, b9, b10, b11, b12⟩ := HBX.out.later hg2.below
  simp only [Pr.op, Pr.cmp, Pr.l, Pr.r, Pr.args] at b0 b1 b2 b3 b4 b5 b6 b7 b8 b9 b10 b11 b12
  obtain ⟨k0, k1, k2, k3⟩ := HCA.out.later hg2.below
  have HC2 := Lib.hid (HBAD.out w2 hg2.below)
  have HG2 := Lib.hid (HG.out.trans hg2)
  clear hg2 HW HBX HCA HBAD HN HG
  generalize w.heap.size = gb at l b0 b1 b2 b3 b4 b5 b6 b7 b8 b9 b10 b11 b12 k0 k1 k2 k3 HC2 ⊢
  cases x with
  | false =>
    have HX : Hid (false = res) := HMK.out.symm
    go_wp2
    go_ret
    exact boolg HX.out HG2.out
  | true =>
    have HX : Hid ((!y) = res) := HMK.out.symm
    have hmf : ∀ (fn : Fn) (first cap : Array Value) (w : World), (Instr.makeFunc fn first cap).run Tryd.prog w = .ok (.func fn first cap) w := fun _ _ _ _ => rfl
    go_wp2_with fail
    refine HC2.out.mono ?_
    rintro e w3 ⟨rfl, hg3⟩
    have HG3 := Lib.hid (HG2.out.trans hg3)
    clear hg3
    go_wp2
    go_ret
    exact boolg HX.out HG3.out
theorem valid_at (S Sc Sp : Nat → Prop) (vc vp : Value) (cols par : List Int) : ∀ (k : Nat) (p : Pr), ValidAt S Sc Sp vc vp cols par k p
  | 0, p => fun s w hs hc hq hp => valid_step S Sc Sp vc vp cols par 0 p (fun q hq => by rw [hp.1] at hq; simp at hq) s w hs hc hq hp.deeper
  | k + 1, p => valid_step S Sc Sp vc vp cols par k p fun q _ => valid_at S Sc Sp vc vp cols par k q
end Go.Proofs.YtlchcakmcikjnaaDoor
