/- The contract of predicate.Holds. -/
import Derived.Test.YtndnlmpmloiiiaaDoorPh
import Derived.Laws.EntriesVeiled
set_option linter.unusedSimpArgs false
set_option linter.unusedVariables false
namespace Go.Proofs.YtndnlmpmloiiiaaDoor
open Go.RowKit

/-- The world of Holds behind its closures. -/
abbrev holdsW (w : World) (p : Pr) (s va vb : Value) : World :=
  (((w.alloc (pBlock p s 29)).alloc (.cells #[va] 41)).alloc (.cells #[vb] 40)).alloc (.cells #[.func (.func 39) #[] #[.pointer (some ⟨w.heap.size + 1, 0, none⟩), .pointer (some ⟨w.heap.size + 1 + 1, 0, none⟩)]] 65)
theorem holdsW_gro (w : World) (p : Pr) (s va vb : Value) : Gro w (holdsW w p s va vb) := ((((Gro.refl w).alloc _).alloc _).alloc _).alloc _
theorem holdsW_box (w : World) (p : Pr) (s va vb : Value) : PBox (holdsW w p s va vb) w.heap.size p s := by
  refine (PBox.new w p s 29).later ?_
  exact (((Below.refl _ _).alloc (Nat.le_refl _) _).alloc (by simp) _).alloc (by simp <;> omega) _
theorem holdsW_caps (w : World) (p : Pr) (s va vb : Value) : Caps (holdsW w p s va vb) (w.heap.size + 1) (w.heap.size + 1 + 1) (w.heap.size + 1 + 1 + 1) va vb :=
  ⟨by simp <;> omega, by simp <;> omega, by simp, by go_simp, by go_simp, by go_simp⟩
set_option maxHeartbeats 4000000 in
set_option maxRecDepth 100000 in
theorem holds_step (S : Nat → Prop) (va vb : Value) (row par : List V) (k : Nat) (p : Pr) (ih : ∀ q ∈ p.args, HoldsAt S va vb row par k q) : HoldsAt S va vb row par (k + 1) p := by
  intro s w ha hb hp
  have mx := mixed
  have hg := holdsW_gro w p s va vb
  have HBX := Lib.hid (holdsW_box w p s va vb)
  have HCA := Lib.hid (holdsW_caps w p s va vb)
  have HA := Lib.hid (ha.later hg.below)
  have HB := Lib.hid (hb.later hg.below)
  have HP := Lib.hid (hp.later hg.below)
  have HG := Lib.hid hg
  have HIH := Lib.hid ih
  have HE := Lib.hid (holdsP_eq row par p)
  obtain ⟨a1, n1, k1, rfl⟩ := RowAt.slice ha
  obtain ⟨a2, n2, k2, rfl⟩ := RowAt.slice hb
  obtain ⟨sa, sc, rfl, hsl⟩ := hp.shape
  obtain ⟨W, hW⟩ : ∃ W, W = holdsW w p (.slice sa p.args.length sc) (.slice a1 n1 k1) (.slice a2 n2 k2) := ⟨_, rfl⟩
  rw [← hW] at HBX HCA HA HB HP HG
  have HW := Lib.hid hW
  obtain ⟨op, cmp, ⟨lk, li, ⟨lvk, lvn, lvt⟩⟩, ⟨rk, ri, ⟨rvk, rvn, rvt⟩⟩, args⟩ := p
  obtain ⟨res, hres⟩ : ∃ res, holdsP row par (.mk op cmp ⟨lk, li, ⟨lvk, lvn, lvt⟩⟩ ⟨rk, ri, ⟨rvk, rvn, rvt⟩⟩ args) = res := ⟨_, rfl⟩
  rw [hres] at HE ⊢
  replace HE : Hid (res = if op = 1 then true else if op = 3 then cpB cmp (denV row par ⟨lk, li, ⟨lvk, lvn, lvt⟩⟩) (denV row par ⟨rk, ri, ⟨rvk, rvn, rvt⟩⟩) else if op = 4 then !failsAny row par args else if op = 5 then holdsAny row par args else if op = 6 then failsHead row par args else false) := HE.out
  replace HW : Hid (W = ((((w.alloc (.cells #[.int .i64 op, .int .i64 cmp, .int .i64 lk, .int .i64 li, .int .i64 lvk, .int .i64 lvn, .string lvt, .int .i64 rk, .int .i64 ri, .int .i64 rvk, .int .i64 rvn, .string rvt, .slice sa args.length sc] 29)).alloc (.cells #[.slice a1 n1 k1] 41)).alloc (.cells #[.slice a2 n2 k2] 40)).alloc (.cells #[.func (.func 39) #[] #[.pointer (some ⟨w.heap.size + 1, 0, none⟩), .pointer (some ⟨w.heap.size + 1 + 1, 0, none⟩)]] 65))) := HW.out
  replace HP : Hid (PrIn S W (k + 1) (.slice sa args.length sc) args) := HP.out
  replace HIH : Hid (∀ q ∈ args, HoldsAt S (.slice a1 n1 k1) (.slice a2 n2 k2) row par k q) := HIH.out
  show Calls _ _ #[.agg #[.int .i64 op, .int .i64 cmp, .int .i64 lk, .int .i64 li, .int .i64 lvk, .int .i64 lvn, .string lvt, .int .i64 rk, .int .i64 ri, .int .i64 rvk, .int .i64 rvn, .string rvt, .slice sa args.length sc], .slice a1 n1 k1, .slice a2 n2 k2] _ _
  obtain ⟨l, b0, b1, b2, b3, b4, b5, b6, b7, b8, b9, b10, b11, b12⟩ := HBX.out
  simp only [Pr.op, Pr.cmp, Pr.l, Pr.r, Pr.args] at b0 b1 b2 b3 b4 b5 b6 b7 b8 b9 b10 b11 b12
  obtain ⟨m0, m1, m2, e0, e1, e2⟩ := HCA.out
  clear ih ha hb hp hg hW hres hsl
  by_cases h1 : op = 1
  · subst h1
    have HR : Hid (true = res) := HE.out.symm
    go_enter Tryd.func17, Tryd.ntmps17
    go_wp2
    go_ret
    rw [← HW.out]
    exact boolg HR.out HG.out
  rw [if_neg h1] at HE
  by_cases h3 : op = 3
  · subst h3
    have HR : Hid (cpB cmp (denV row par ⟨lk, li, ⟨lvk, lvn, lvt⟩⟩) (denV row par ⟨rk, ri, ⟨rvk, rvn, rvt⟩⟩) = res) := HE.out.symm
    have hdl := fun n os => pdenoted_calls ⟨lk, li, ⟨lvk, lvn, lvt⟩⟩ (.slice a1 n1 k1) (.slice a2 n2 k2) row par (Sort.grow (W.drewN n) os) (HA.out.later ((Gro.refl W).grown n os).below) (HB.out.later ((Gro.refl W).grown n os).below)
    have hdr := fun n os => pdenoted_calls ⟨rk, ri, ⟨rvk, rvn, rvt⟩⟩ (.slice a1 n1 k1) (.slice a2 n2 k2) row par (Sort.grow (W.drewN n) os) (HA.out.later ((Gro.refl W).grown n os).below) (HB.out.later ((Gro.refl W).grown n os).below)
    have HDL := Lib.hid hdl
    have HDR := Lib.hid hdr
    have HCP := Lib.hid (fun w' => pcompare_calls (denV row par ⟨lk, li, ⟨lvk, lvn, lvt⟩⟩) cmp (denV row par ⟨rk, ri, ⟨rvk, rvn, rvt⟩⟩) w')
    clear hdl hdr HE
    generalize denV row par ⟨lk, li, ⟨lvk, lvn, lvt⟩⟩ = x at HDL HCP HR
    generalize denV row par ⟨rk, ri, ⟨rvk, rvn, rvt⟩⟩ = y at HDR HCP HR
    generalize cpB cmp x y = q at HCP HR
    obtain ⟨xk, xn, xt⟩ := x
    obtain ⟨yk, yn, yt⟩ := y
    go_enter Tryd.func17, Tryd.ntmps17
    go_wp2_with fail
    rw [← HW.out]
    refine wp_region_quiet_grown mx (by kernel_rfl) ?_
    repeat (go_big_quiet_step ((first | (go_at_call_of 42 lk; refine gro_calls (HDL.out _ _)) | (go_at_call_of 42 rk; refine gro_calls (HDR.out _ _)) | (go_at_call 41; refine gro_calls (HCP.out _)) | fail)))
    refine wpQuiet_nil ?_
    intro w2 hw2
    obtain ⟨⟨nq, osq⟩, hw3⟩ := hw2
    have HG2 : Hid (Gro w w2) := by rw [hw3]; exact HG.out.grown nq osq
    clear hw3
    go_wp2
    go_ret
    exact boolg HR.out HG2.out
  rw [if_neg h3] at HE
  by_cases h4 : op = 4
  · subst h4
    have HR : Hid ((!failsAny row par args) = res) := HE.out.symm
    have hc := contains_fails S k (fun p => !holdsP row par p) (w.heap.size + 1 + 1 + 1) (.slice sa args.length sc) args W HP.out (fun p s w' hb hr hm => holds2_calls p (HIH.out p hm) s _ _ _ w' (HCA.out.later hb) (HA.out.later hb) (HB.out.later hb) hr)
    rw [← failsAny_eq] at hc
    generalize failsAny row par args = q at hc HR
    have HC := Lib.hid hc
    clear hc HE
    go_enter Tryd.func17, Tryd.ntmps17
    go_wp2_with fail
    rw [← HW.out]
    refine HC.out.mono ?_
    rintro e w2 ⟨rfl, hg2⟩
    have HG2 := Lib.hid (HG.out.trans hg2)
    clear hg2
    go_wp2
    go_ret
    exact boolg HR.out HG2.out
  rw [if_neg h4] at HE
  by_cases h5 : op = 5
  · subst h5
    have HR : Hid (holdsAny row par args = res) := HE.out.symm
    have hc := contains_holds S k (fun p => holdsP row par p) (w.heap.size + 1) (w.heap.size + 1 + 1) (.slice sa args.length sc) args W HP.out (fun p s w' hb hr hm => holds1_calls p (HIH.out p hm) s _ _ _ w' (HCA.out.later hb) (HA.out.later hb) (HB.out.later hb) hr)
    rw [← holdsAny_eq] at hc
    generalize holdsAny row par args = q at hc HR
    have HC := Lib.hid hc
    clear hc HE
    go_enter Tryd.func17, Tryd.ntmps17
    go_wp2_with fail
    rw [← HW.out]
    refine HC.out.mono ?_
    rintro e w2 ⟨rfl, hg2⟩
    have HG2 := Lib.hid (HG.out.trans hg2)
    clear hg2
    go_wp2
    go_ret
    exact boolg HR.out HG2.out
  rw [if_neg h5] at HE
  by_cases h6 : op = 6
  · subst h6
    have HR : Hid (failsHead row par args = res) := HE.out.symm
    clear HE
    cases args with
    | nil =>
      replace HR : Hid (false = res) := HR.out
      have HGX : Gro w W := HG.out
      rw [HW.out] at HGX
      have HX := Lib.hid HGX
      clear HGX
      go_enter Tryd.func17, Tryd.ntmps17
      go_wp2
      go_ret
      exact boolg HR.out HX.out
    | cons x xs =>
      replace HR : Hid ((!holdsP row par x) = res) := HR.out
      obtain ⟨b, off, s, rfl, hbl, -, hat, hr⟩ := HP.out.get (i := 0) (by simp)
      replace hr : PrIn S W k s x.args := hr
      replace hat : PrAt W b (off + 0 * 13) x s := hat
      have hc := holds2_calls x (HIH.out x (by simp)) s (w.heap.size + 1) (w.heap.size + 1 + 1) (w.heap.size + 1 + 1 + 1) W HCA.out HA.out HB.out hr
      generalize (!holdsP row par x) = q at hc HR
      have HC := Lib.hid hc
      have hlen : ((xs.length : Int) + 1 : Int) > 0 := by omega
      obtain ⟨d0, d1, d2, d3, d4, d5, d6, d7, d8, d9, d10, d11, d12⟩ := hat
      simp only [Nat.zero_mul, Nat.add_zero] at d0 d1 d2 d3 d4 d5 d6 d7 d8 d9 d10 d11 d12
      have hWe := HW.out
      clear HW HP HA HB HCA HBX hr hc HIH
      subst hWe
      simp only [List.length_cons] at *
      go_enter Tryd.func17, Tryd.ntmps17
      go_wp2_with fail
      refine HC.out.mono ?_
      rintro e w2 ⟨rfl, hg2⟩
      have HG2 := Lib.hid (HG.out.trans hg2)
      clear hg2
      go_wp2
      go_ret
      exact boolg HR.out HG2.out
  rw [if_neg h6] at HE
  have HR : Hid (false = res) := HE.out.symm
  go_enter Tryd.func17, Tryd.ntmps17
  go_wp2
  go_ret
  rw [← HW.out]
  exact boolg HR.out HG.out
theorem holds_at (S : Nat → Prop) (va vb : Value) (row par : List V) : ∀ (k : Nat) (p : Pr), HoldsAt S va vb row par k p
  | 0, p => fun s w ha hb hp => holds_step S va vb row par 0 p (fun q hq => by rw [hp.1] at hq; simp at hq) s w ha hb hp.deeper
  | k + 1, p => holds_step S va vb row par k p fun q _ => holds_at S va vb row par k q
end Go.Proofs.YtndnlmpmloiiiaaDoor
