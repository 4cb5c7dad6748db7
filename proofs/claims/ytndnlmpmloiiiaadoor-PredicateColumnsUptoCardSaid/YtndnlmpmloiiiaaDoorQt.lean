/- The contracts of predicate.Bind and of the reference's Bind. -/
import Derived.Test.YtndnlmpmloiiiaaDoorQr
import Derived.Test.YtndnlmpmloiiiaaDoorQe
import Derived.Test.YtndnlmpmloiiiaaDoorKx
import Derived.Deep.CutRange
import Derived.Deep.AppendLies
set_option linter.unusedSimpArgs false
set_option linter.unusedVariables false
namespace Go.Proofs.YtndnlmpmloiiiaaDoor
open Go.RowKit

section
variable {P : Program} {ops : Array Oper} {Q : Exit → Act → World → Prop} {md : Region.Mode} {S : World → Prop} {z : Nat}
/-- Two operations may come up. -/
theorem wpX_two (i j : Nat) {oi oj : Oper} {fuel : Nat} {listed : Array Bool} {a : Act} {w : World} (hr : Region.ready md ops listed = [i, j]) (hoi : ops[i]? = some oi) (hoj : ops[j]? = some oj)
    (h1 : ∀ K' : Act → World → Prop, Shut (∀ a w, S w → (S w → wpX P md ops Q S z fuel (listed.setIfInBounds i true) a w) → K' a w) → if Region.wanted oi (yielded ops a.tmps) = true then Oper.wp P oi a w K' Q else K' (a.put oi.dst undef) w)
    (h2 : ∀ K' : Act → World → Prop, Shut (∀ a w, S w → (S w → wpX P md ops Q S z fuel (listed.setIfInBounds j true) a w) → K' a w) → if Region.wanted oj (yielded ops a.tmps) = true then Oper.wp P oj a w K' Q else K' (a.put oj.dst undef) w) :
    wpX P md ops Q S z (fuel + 1) listed a w := fun hcl => by
  refine ⟨fun h0 => absurd (hr ▸ h0) (by simp), fun k hk => ?_⟩
  have hk' := hk
  rw [hr] at hk
  simp only [List.mem_cons, List.not_mem_nil, or_false] at hk
  rcases hk with rfl | rfl
  · exact wpOp_step hoi (fun K' hK => h1 K' (fun a w hS hW => hK a w ⟨.inr hS, hW hS (hcl.step hk')⟩))
  · exact wpOp_step hoj (fun K' hK => h2 K' (fun a w hS hW => hK a w ⟨.inr hS, hW hS (hcl.step hk')⟩))
end
theorem PBx.all {w : World} {g : Nat} {p : Pr} {s : Value} (h : PBx w g p s) (q : Pr) (t : Value) :
    PBx (((((((((((((w.setCell ⟨g, 0, none⟩ (.int .i64 q.op)).setCell ⟨g, 1, none⟩ (.int .i64 q.cmp)).setCell ⟨g, 2, none⟩ (.int .i64 q.l.k)).setCell ⟨g, 3, none⟩ (.int .i64 q.l.i)).setCell ⟨g, 4, none⟩ (.int .i64 q.l.v.k)).setCell ⟨g, 5, none⟩ (.int .i64 q.l.v.n)).setCell ⟨g, 6, none⟩ (.string q.l.v.t)).setCell ⟨g, 7, none⟩ (.int .i64 q.r.k)).setCell ⟨g, 8, none⟩ (.int .i64 q.r.i)).setCell ⟨g, 9, none⟩ (.int .i64 q.r.v.k)).setCell ⟨g, 10, none⟩ (.int .i64 q.r.v.n)).setCell ⟨g, 11, none⟩ (.string q.r.v.t)).setCell ⟨g, 12, none⟩ (t)) g q t := by
  obtain ⟨⟨hl, c0, c1, c2, c3, c4, c5, c6, c7, c8, c9, c10, c11, c12⟩, f⟩ := h
  exact ⟨⟨by simpa using hl, by go_simp, by go_simp, by go_simp, by go_simp, by go_simp, by go_simp, by go_simp, by go_simp, by go_simp, by go_simp, by go_simp, by go_simp, by go_simp⟩, fun o => by have := f o; go_simp⟩
theorem gro_thirteen {a w : World} (h : Gro a w) {g : Nat} (hg : a.heap.size ≤ g) (x0 x1 x2 x3 x4 x5 x6 x7 x8 x9 x10 x11 x12 : Value) : Gro a (((((((((((((w.setCell ⟨g, 0, none⟩ x0).setCell ⟨g, 1, none⟩ x1).setCell ⟨g, 2, none⟩ x2).setCell ⟨g, 3, none⟩ x3).setCell ⟨g, 4, none⟩ x4).setCell ⟨g, 5, none⟩ x5).setCell ⟨g, 6, none⟩ x6).setCell ⟨g, 7, none⟩ x7).setCell ⟨g, 8, none⟩ x8).setCell ⟨g, 9, none⟩ x9).setCell ⟨g, 10, none⟩ x10).setCell ⟨g, 11, none⟩ x11).setCell ⟨g, 12, none⟩ x12) :=
  (((((((((((((h.setCell hg _).setCell hg _).setCell hg _).setCell hg _).setCell hg _).setCell hg _).setCell hg _).setCell hg _).setCell hg _).setCell hg _).setCell hg _).setCell hg _).setCell hg _)
theorem by_new {w0 w w' : World} {r : Option Nat} (h : w0.grownBy w none) (hg : w.grownBy w' r) (hr : ∀ k, r = some k → w0.heap.size ≤ k) : w0.grownBy w' none :=
  ⟨hg.os.trans h.os, hg.tape.trans h.tape, hg.output.trans h.output, Nat.le_trans h.size hg.size, fun k hk hn => (hg.block k (Nat.lt_of_lt_of_le hk h.size) (fun e => by have := hr k e.symm; omega)).trans (h.block k hk hn)⟩
theorem by_below {w w' : World} (h : w.grownBy w' none) : Below w.heap.size w w' := ⟨h.os, h.tape, h.output, h.size, fun k hk => h.block k hk (by simp)⟩
theorem fin_bind {w wf : World} {H n : Nat} {s : Value} {ps : List Pr} (hH : w.heap.size ≤ H) (hg : w.grownBy wf none) (hp : PrIn (fun g => H < g) wf n s ps) (x0 x1 x2 x3 x4 x5 x6 x7 x8 x9 x10 x11 x12 : Value) :
    PrIn (fun g => w.heap.size ≤ g) (((((((((((((wf.setCell ⟨H, 0, none⟩ x0).setCell ⟨H, 1, none⟩ x1).setCell ⟨H, 2, none⟩ x2).setCell ⟨H, 3, none⟩ x3).setCell ⟨H, 4, none⟩ x4).setCell ⟨H, 5, none⟩ x5).setCell ⟨H, 6, none⟩ x6).setCell ⟨H, 7, none⟩ x7).setCell ⟨H, 8, none⟩ x8).setCell ⟨H, 9, none⟩ x9).setCell ⟨H, 10, none⟩ x10).setCell ⟨H, 11, none⟩ x11).setCell ⟨H, 12, none⟩ x12) n s ps ∧ w.grownBy (((((((((((((wf.setCell ⟨H, 0, none⟩ x0).setCell ⟨H, 1, none⟩ x1).setCell ⟨H, 2, none⟩ x2).setCell ⟨H, 3, none⟩ x3).setCell ⟨H, 4, none⟩ x4).setCell ⟨H, 5, none⟩ x5).setCell ⟨H, 6, none⟩ x6).setCell ⟨H, 7, none⟩ x7).setCell ⟨H, 8, none⟩ x8).setCell ⟨H, 9, none⟩ x9).setCell ⟨H, 10, none⟩ x10).setCell ⟨H, 11, none⟩ x11).setCell ⟨H, 12, none⟩ x12) none :=
  ⟨(hp.kept (kept_by (chain_by wf H x0 x1 x2 x3 x4 x5 x6 x7 x8 x9 x10 x11 x12) fun g e hS => by cases e; omega)).mono fun g _ hS => by omega, by_store_new (by_store_new (by_store_new (by_store_new (by_store_new (by_store_new (by_store_new (by_store_new (by_store_new (by_store_new (by_store_new (by_store_new (by_store_new hg hH _) hH _) hH _) hH _) hH _) hH _) hH _) hH _) hH _) hH _) hH _) hH _) hH _⟩
theorem PBx.later {w w' : World} {g : Nat} {p : Pr} {s : Value} (h : PBx w g p s) (hw : Gro w w') : PBx w' g p s := h.by_ (gro_by hw none) (by simp)
/-- What Bind answers. -/
def GotBind (par : List V) (p : Pr) (k : Nat) (w : World) (e : Ending) (w' : World) : Prop :=
  ∃ t, e = .returned ((bindP par p).val t) ∧ PrIn (fun g => w.heap.size ≤ g) w' k t (bindP par p).args ∧ w.grownBy w' none
def BindAt (S : Nat → Prop) (vb : Value) (par : List V) (k : Nat) (p : Pr) : Prop :=
  ∀ (s : Value) (w : World), fitP p → RowAt w vb par → PrIn S w k s p.args → Calls Tryd.prog 19 #[p.val s, vb] w (GotBind par p k w)
set_option maxHeartbeats 8000000 in
set_option maxRecDepth 100000 in
theorem BindAt_step (S : Nat → Prop) (vb : Value) (par : List V) (k : Nat) (p : Pr) (ih : ∀ q ∈ p.args, BindAt S vb par k q) : BindAt S vb par (k + 1) p := by
  intro s w hfit hb hp
  have mx := mixed
  have HB := Lib.hid hb
  obtain ⟨a2, n2, k2, rfl⟩ : ∃ a n c, vb = .slice a n c := (let ⟨a, c, h, _⟩ := HB.out; ⟨a, par.length, c, h⟩)
  clear hb
  obtain ⟨sa, sc, rfl, hsl⟩ := hp.shape
  obtain ⟨W, hW⟩ : ∃ W, W = (w.alloc (pBlock p (.slice sa p.args.length sc) 29)).alloc (.cells #[.int .i64 0, .int .i64 0, .int .i64 0, .int .i64 0, .int .i64 0, .int .i64 0, .string ⟨#[]⟩, .int .i64 0, .int .i64 0, .int .i64 0, .int .i64 0, .string ⟨#[]⟩, .slice none 0 0] 29) := ⟨_, rfl⟩
  have hg : Gro w W := by rw [hW]; exact ((Gro.refl w).alloc _).alloc _
  have hx1 : PBox W w.heap.size p (.slice sa p.args.length sc) := by rw [hW]; exact (PBox.new w p _ _).later ((Below.refl _ _).alloc (Nat.le_refl _) _)
  have HRB : Hid (∀ wf, W.grownBy wf none → PBx wf (w.heap.size + 1) (.mk 0 0 zeroO zeroO []) (.slice none 0 0)) := fun wf hgf => by
    have h := PBx.new (w.alloc (pBlock p (.slice sa p.args.length sc) 29)) (.mk 0 0 zeroO zeroO []) (.slice none 0 0) 29
    have h' : PBx W (w.heap.size + 1) (.mk 0 0 zeroO zeroO []) (.slice none 0 0) := by
      have e : (w.alloc (pBlock p (.slice sa p.args.length sc) 29)).heap.size = w.heap.size + 1 := by simp
      rw [e] at h; rw [hW]; exact h
    exact h'.by_ hgf (by simp)
  have HBX := Lib.hid hx1
  have HWS : Hid (W.heap.size = w.heap.size + 2) := by show _ = _; rw [hW]; simp
  have HP := Lib.hid (hp.later hg.below)
  have HG := Lib.hid hg
  have HIH := Lib.hid ih
  have HFIT := Lib.hid (fitP_iff.1 hfit)
  have HBI : Hid (∀ (o : Od) (w' : World), Gro W w' → Calls Tryd.prog 46 #[o.val, .slice a2 n2 k2] w' (OdG (bindO par o) w')) := fun o w' hw => pbind_calls o (.slice a2 n2 k2) par w' (HB.out.later (HG.out.trans hw).below)
  have HBR : Hid (∀ w', W.grownBy w' none → RowAt w' (.slice a2 n2 k2) par) := fun w' hw => HB.out.later (by_below (by_trans (gro_by HG.out none) hw))
  have HW := Lib.hid hW
  clear hp hg ih hW hx1 hfit HB
  obtain ⟨res, hres⟩ : ∃ res, bindP par p = res := ⟨_, rfl⟩
  have HRES : Hid (res.op = p.op ∧ res.cmp = p.cmp ∧ res.l = bindO par p.l ∧ res.r = bindO par p.r ∧ res.args = p.args.map (bindP par)) := by
    show _ ∧ _; rw [← hres]; exact ⟨bindP_op _ _, bindP_cmp _ _, bindP_l _ _, bindP_r _ _, bindP_args _ _⟩
  show Calls _ _ _ _ (fun e w' => ∃ t, e = .returned ((bindP par p).val t) ∧ PrIn (fun g => w.heap.size ≤ g) w' (k + 1) t (bindP par p).args ∧ w.grownBy w' none)
  rw [hres]
  clear hres
  obtain ⟨op, cmp, ⟨lk, li, ⟨lvk, lvn, lvt⟩⟩, ⟨rk, ri, ⟨rvk, rvn, rvt⟩⟩, args⟩ := p
  replace HW : Hid (W = (w.alloc (.cells #[.int .i64 op, .int .i64 cmp, .int .i64 lk, .int .i64 li, .int .i64 lvk, .int .i64 lvn, .string lvt, .int .i64 rk, .int .i64 ri, .int .i64 rvk, .int .i64 rvn, .string rvt, .slice sa args.length sc] 29)).alloc (.cells #[.int .i64 0, .int .i64 0, .int .i64 0, .int .i64 0, .int .i64 0, .int .i64 0, .string ⟨#[]⟩, .int .i64 0, .int .i64 0, .int .i64 0, .int .i64 0, .string ⟨#[]⟩, .slice none 0 0] 29)) := HW.out
  replace HP : Hid (PrIn S W (k + 1) (.slice sa args.length sc) args) := HP.out
  replace hsl : args.length ≤ 4398046511104 := hsl
  replace HFIT : Hid (args.length ≤ 1034834473200 ∧ ∀ q ∈ args, fitP q) := HFIT.out
  replace HIH : Hid (∀ q ∈ args, BindAt S (.slice a2 n2 k2) par k q) := HIH.out
  replace HBX : Hid (PBox W w.heap.size (.mk op cmp ⟨lk, li, ⟨lvk, lvn, lvt⟩⟩ ⟨rk, ri, ⟨rvk, rvn, rvt⟩⟩ args) (.slice sa args.length sc)) := HBX.out
  replace HRES : Hid (res.op = op ∧ res.cmp = cmp ∧ res.l = bindO par ⟨lk, li, ⟨lvk, lvn, lvt⟩⟩ ∧ res.r = bindO par ⟨rk, ri, ⟨rvk, rvn, rvt⟩⟩ ∧ res.args = args.map (bindP par)) := HRES.out
  obtain ⟨LB, hLB⟩ : ∃ x, bindO par ⟨lk, li, ⟨lvk, lvn, lvt⟩⟩ = x := ⟨_, rfl⟩
  obtain ⟨RB, hRB⟩ : ∃ x, bindO par ⟨rk, ri, ⟨rvk, rvn, rvt⟩⟩ = x := ⟨_, rfl⟩
  have HCL : Hid (∀ w', Gro W w' → Calls Tryd.prog 46 #[.agg #[.int .i64 lk, .int .i64 li, .int .i64 lvk, .int .i64 lvn, .string lvt], .slice a2 n2 k2] w' (fun e w'' => e = .returned LB.val ∧ Gro w' w'')) := fun w' hw => by rw [← hLB]; exact HBI.out ⟨lk, li, ⟨lvk, lvn, lvt⟩⟩ w' hw
  have HCR : Hid (∀ w', Gro W w' → Calls Tryd.prog 46 #[.agg #[.int .i64 rk, .int .i64 ri, .int .i64 rvk, .int .i64 rvn, .string rvt], .slice a2 n2 k2] w' (fun e w'' => e = .returned RB.val ∧ Gro w' w'')) := fun w' hw => by rw [← hRB]; exact HBI.out ⟨rk, ri, ⟨rvk, rvn, rvt⟩⟩ w' hw
  rw [hLB, hRB] at HRES
  clear hLB hRB HBI
  obtain ⟨xlk, xli, ⟨xlvk, xlvn, xlvt⟩⟩ := LB
  obtain ⟨xrk, xri, ⟨xrvk, xrvn, xrvt⟩⟩ := RB
  show Calls _ _ #[.agg #[.int .i64 op, .int .i64 cmp, .int .i64 lk, .int .i64 li, .int .i64 lvk, .int .i64 lvn, .string lvt, .int .i64 rk, .int .i64 ri, .int .i64 rvk, .int .i64 rvn, .string rvt, .slice sa args.length sc], .slice a2 n2 k2] _ _
  go_enter Tryd.func19, Tryd.ntmps19
  go_upto_region 1 with fail
  rw [← HW.out]
  clear HW
  go_cut [5] from 5 to 37 (fun v wr => ∃ g, v = .pointer (some ⟨g, 0, none⟩) ∧ W.heap.size ≤ g ∧ PBx wr g (.mk op cmp ⟨xlk, xli, ⟨xlvk, xlvn, xlvt⟩⟩ ⟨xrk, xri, ⟨xrvk, xrvn, xrvt⟩⟩ []) (.slice none 0 0) ∧ W.grownBy wr none)
  case first =>
    obtain ⟨l, b0, b1, b2, b3, b4, b5, b6, b7, b8, b9, b10, b11, b12⟩ := HBX.out
    simp only [Pr.op, Pr.cmp, Pr.l, Pr.r, Pr.args] at b0 b1 b2 b3 b4 b5 b6 b7 b8 b9 b10 b11 b12
    refine wp_region_noPanic ?_
    refine wp_region_X (fun w' => w'.cell? ⟨w.heap.size, 0, none⟩ = some (.int .i64 op) ∧ w'.cell? ⟨w.heap.size, 1, none⟩ = some (.int .i64 cmp) ∧ w'.cell? ⟨w.heap.size, 2, none⟩ = some (.int .i64 lk) ∧ w'.cell? ⟨w.heap.size, 3, none⟩ = some (.int .i64 li) ∧ w'.cell? ⟨w.heap.size, 4, none⟩ = some (.int .i64 lvk) ∧ w'.cell? ⟨w.heap.size, 5, none⟩ = some (.int .i64 lvn) ∧ w'.cell? ⟨w.heap.size, 6, none⟩ = some (.string lvt) ∧ w'.cell? ⟨w.heap.size, 7, none⟩ = some (.int .i64 rk) ∧ w'.cell? ⟨w.heap.size, 8, none⟩ = some (.int .i64 ri) ∧ w'.cell? ⟨w.heap.size, 9, none⟩ = some (.int .i64 rvk) ∧ w'.cell? ⟨w.heap.size, 10, none⟩ = some (.int .i64 rvn) ∧ w'.cell? ⟨w.heap.size, 11, none⟩ = some (.string rvt)) 14 (by kernel_rfl) ?_ (fun hHeld => ?_)
    · (try dsimp only); go_keep
    try simp only [Act.put, List.setIfInBounds_toArray, List.set_cons_zero, List.set_cons_succ]
    refine wpX_take 0 (v := ?_) rfl (by kernel_rfl) (by kernel_rfl) (by kernel_rfl) (by kernel_rfl) (by kernel_rfl) (fun _ _ _ h => h) (Or.inl ⟨by rfl, ?_⟩) (by assumption) ?_
    rotate_left
    · intro w hSw; (try dsimp only at hSw); go_simp; try with_reducible rfl
    try simp only [Act.put, List.setIfInBounds_toArray, List.set_cons_zero, List.set_cons_succ]
    refine wpX_take 1 (v := ?_) rfl (by kernel_rfl) (by kernel_rfl) (by kernel_rfl) (by kernel_rfl) (by kernel_rfl) (fun _ _ _ h => h) (Or.inl ⟨by rfl, ?_⟩) (by assumption) ?_
    rotate_left
    · intro w hSw; (try dsimp only at hSw); go_simp; try with_reducible rfl
    try simp only [Act.put, List.setIfInBounds_toArray, List.set_cons_zero, List.set_cons_succ]
    refine wpX_take 2 (v := ?_) rfl (by kernel_rfl) (by kernel_rfl) (by kernel_rfl) (by kernel_rfl) (by kernel_rfl) (fun _ _ _ h => h) (Or.inl ⟨by rfl, ?_⟩) (by assumption) ?_
    rotate_left
    · intro w hSw; (try dsimp only at hSw); go_simp; try with_reducible rfl
    try simp only [Act.put, List.setIfInBounds_toArray, List.set_cons_zero, List.set_cons_succ]
    refine wpX_take 3 (v := ?_) rfl (by kernel_rfl) (by kernel_rfl) (by kernel_rfl) (by kernel_rfl) (by kernel_rfl) (fun _ _ _ h => h) (Or.inl ⟨by rfl, ?_⟩) (by assumption) ?_
    rotate_left
    · intro w hSw; (try dsimp only at hSw); go_simp; try with_reducible rfl
    try simp only [Act.put, List.setIfInBounds_toArray, List.set_cons_zero, List.set_cons_succ]
    refine wpX_take 4 (v := ?_) rfl (by kernel_rfl) (by kernel_rfl) (by kernel_rfl) (by kernel_rfl) (by kernel_rfl) (fun _ _ _ h => h) (Or.inl ⟨by rfl, ?_⟩) (by assumption) ?_
    rotate_left
    · intro w hSw; (try dsimp only at hSw); go_simp; try with_reducible rfl
    try simp only [Act.put, List.setIfInBounds_toArray, List.set_cons_zero, List.set_cons_succ]
    refine wpX_take 5 (v := ?_) rfl (by kernel_rfl) (by kernel_rfl) (by kernel_rfl) (by kernel_rfl) (by kernel_rfl) (fun _ _ _ h => h) (Or.inl ⟨by rfl, ?_⟩) (by assumption) ?_
    rotate_left
    · intro w hSw; (try dsimp only at hSw); go_simp; try with_reducible rfl
    try simp only [Act.put, List.setIfInBounds_toArray, List.set_cons_zero, List.set_cons_succ]
    refine wpX_take 6 (v := ?_) rfl (by kernel_rfl) (by kernel_rfl) (by kernel_rfl) (by kernel_rfl) (by kernel_rfl) (fun _ _ _ h => h) (Or.inl ⟨by rfl, ?_⟩) (by assumption) ?_
    rotate_left
    · intro w hSw; (try dsimp only at hSw); go_simp; try with_reducible rfl
    try simp only [Act.put, List.setIfInBounds_toArray, List.set_cons_zero, List.set_cons_succ]
    refine wpX_take 8 (v := ?_) rfl (by kernel_rfl) (by kernel_rfl) (by kernel_rfl) (by kernel_rfl) (by kernel_rfl) (fun _ _ _ h => h) (Or.inl ⟨by rfl, ?_⟩) (by assumption) ?_
    rotate_left
    · intro w hSw; (try dsimp only at hSw); go_simp; try with_reducible rfl
    try simp only [Act.put, List.setIfInBounds_toArray, List.set_cons_zero, List.set_cons_succ]
    refine wpX_take 9 (v := ?_) rfl (by kernel_rfl) (by kernel_rfl) (by kernel_rfl) (by kernel_rfl) (by kernel_rfl) (fun _ _ _ h => h) (Or.inl ⟨by rfl, ?_⟩) (by assumption) ?_
    rotate_left
    · intro w hSw; (try dsimp only at hSw); go_simp; try with_reducible rfl
    try simp only [Act.put, List.setIfInBounds_toArray, List.set_cons_zero, List.set_cons_succ]
    refine wpX_take 10 (v := ?_) rfl (by kernel_rfl) (by kernel_rfl) (by kernel_rfl) (by kernel_rfl) (by kernel_rfl) (fun _ _ _ h => h) (Or.inl ⟨by rfl, ?_⟩) (by assumption) ?_
    rotate_left
    · intro w hSw; (try dsimp only at hSw); go_simp; try with_reducible rfl
    try simp only [Act.put, List.setIfInBounds_toArray, List.set_cons_zero, List.set_cons_succ]
    refine wpX_two 7 13 (by kernel_rfl) rfl rfl (fun K hK => ?_) (fun K hK => ?_)
    · have hgd : Gro W W.drew := (Gro.refl W).drew
      go_simp
      go_at_call 46
      refine (HCL.out _ hgd).mono ?_
      rintro e w1 ⟨rfl, hgw1⟩
      have G1 := hgd.trans hgw1
      obtain ⟨lw1, w1b0, w1b1, w1b2, w1b3, w1b4, w1b5, w1b6, w1b7, w1b8, w1b9, w1b10, w1b11, w1b12⟩ := HBX.out.later G1.below
      simp only [Pr.op, Pr.cmp, Pr.l, Pr.r, Pr.args] at w1b0 w1b1 w1b2 w1b3 w1b4 w1b5 w1b6 w1b7 w1b8 w1b9 w1b10 w1b11 w1b12
      refine hK.out _ _ ?_ (fun hHeld => ?_)
      · (try dsimp only); go_keep
      clear hK K
      try simp only [Act.put, List.setIfInBounds_toArray, List.set_cons_zero, List.set_cons_succ]
      refine wpX_two 11 13 (by kernel_rfl) rfl rfl (fun K hK => ?_) (fun K hK => ?_)
      · skip
        go_simp
        go_at_call 46
        refine (HCR.out _ G1).mono ?_
        rintro e w2 ⟨rfl, hgw2⟩
        have G2 := G1.trans hgw2
        obtain ⟨lw2, w2b0, w2b1, w2b2, w2b3, w2b4, w2b5, w2b6, w2b7, w2b8, w2b9, w2b10, w2b11, w2b12⟩ := HBX.out.later G2.below
        simp only [Pr.op, Pr.cmp, Pr.l, Pr.r, Pr.args] at w2b0 w2b1 w2b2 w2b3 w2b4 w2b5 w2b6 w2b7 w2b8 w2b9 w2b10 w2b11 w2b12
        refine hK.out _ _ ?_ (fun hHeld => ?_)
        · (try dsimp only); go_keep
        clear hK K
        try simp only [Act.put, List.setIfInBounds_toArray, List.set_cons_zero, List.set_cons_succ]
        try simp only [Act.put, List.setIfInBounds_toArray, List.set_cons_zero, List.set_cons_succ]
        refine wpX_take 12 (v := ?_) rfl (by kernel_rfl) (by kernel_rfl) (by kernel_rfl) (by kernel_rfl) (by kernel_rfl) (fun _ _ _ h => h) (Or.inl ⟨by rfl, ?_⟩) (by assumption) ?_
        rotate_left
        · intro w hSw; (try dsimp only at hSw); go_simp; try with_reducible rfl
        try simp only [Act.put, List.setIfInBounds_toArray, List.set_cons_zero, List.set_cons_succ]
        refine wpX_one 13 (by kernel_rfl) rfl (fun K hK => ?_)
        go_simp
        refine hK.out _ _ ?_ (fun hHeld => ?_)
        · (try dsimp only); go_keep
        clear hK K
        try simp only [Act.put, List.setIfInBounds_toArray, List.set_cons_zero, List.set_cons_succ]
        refine wpX_last 14 (by kernel_rfl) rfl rfl (by kernel_rfl) (fun K hK => ?_)
        go_simp
        refine hK.out _ _ ?_
        clear hK K
        refine NoPanic.normal ?_
        go_wp2_with fail
        go_meet
        case rel => exact ⟨_, rfl, G2.size, PBx.new w2 (.mk op cmp ⟨xlk, xli, ⟨xlvk, xlvn, xlvt⟩⟩ ⟨xrk, xri, ⟨xrvk, xrvn, xrvt⟩⟩ []) (.slice none 0 0) _, gro_by (G2.alloc _) none⟩
      · go_simp
        refine hK.out _ _ ?_ (fun hHeld => ?_)
        · (try dsimp only); go_keep
        clear hK K
        try simp only [Act.put, List.setIfInBounds_toArray, List.set_cons_zero, List.set_cons_succ]
        refine wpX_one 11 (by kernel_rfl) rfl (fun K hK => ?_)
        have hga : Gro W (w1.alloc (.cells #[.int .i64 0, .int .i64 0, .int .i64 0, .int .i64 0, .int .i64 0, .int .i64 0, .string ⟨#[]⟩, .int .i64 0, .int .i64 0, .int .i64 0, .int .i64 0, .string ⟨#[]⟩, .slice none 0 0] 29)) := G1.alloc _
        go_simp
        go_at_call 46
        refine (HCR.out _ hga).mono ?_
        rintro e w2 ⟨rfl, hgw2⟩
        have G2 := hga.trans hgw2
        obtain ⟨lw2, w2b0, w2b1, w2b2, w2b3, w2b4, w2b5, w2b6, w2b7, w2b8, w2b9, w2b10, w2b11, w2b12⟩ := HBX.out.later G2.below
        simp only [Pr.op, Pr.cmp, Pr.l, Pr.r, Pr.args] at w2b0 w2b1 w2b2 w2b3 w2b4 w2b5 w2b6 w2b7 w2b8 w2b9 w2b10 w2b11 w2b12
        have zb := (PBx.new w1 (.mk 0 0 zeroO zeroO []) (.slice none 0 0) 29).later hgw2
        have HZB := Lib.hid zb
        obtain ⟨⟨lz, z0, z1, z2, z3, z4, z5, z6, z7, z8, z9, z10, z11, z12⟩, fz⟩ := zb
        simp only [op_mk, cmp_mk, l_mk, r_mk, zeroO, nilV] at z0 z1 z2 z3 z4 z5 z6 z7 z8 z9 z10 z11
        refine hK.out _ _ ?_ (fun hHeld => ?_)
        · (try dsimp only); go_keep
        clear hK K
        try simp only [Act.put, List.setIfInBounds_toArray, List.set_cons_zero, List.set_cons_succ]
        try simp only [Act.put, List.setIfInBounds_toArray, List.set_cons_zero, List.set_cons_succ]
        refine wpX_take 12 (v := ?_) rfl (by kernel_rfl) (by kernel_rfl) (by kernel_rfl) (by kernel_rfl) (by kernel_rfl) (fun _ _ _ h => h) (Or.inl ⟨by rfl, ?_⟩) (by assumption) ?_
        rotate_left
        · intro w hSw; (try dsimp only at hSw); go_simp; try with_reducible rfl
        try simp only [Act.put, List.setIfInBounds_toArray, List.set_cons_zero, List.set_cons_succ]
        refine wpX_last 14 (by kernel_rfl) rfl rfl (by kernel_rfl) (fun K hK => ?_)
        go_simp
        refine hK.out _ _ ?_
        clear hK K
        refine NoPanic.normal ?_
        go_wp2_with fail
        go_meet
        case rel => exact ⟨_, rfl, G1.size, PBx.all HZB.out (.mk op cmp ⟨xlk, xli, ⟨xlvk, xlvn, xlvt⟩⟩ ⟨xrk, xri, ⟨xrvk, xrvn, xrvt⟩⟩ []) (.slice none 0 0), gro_by (gro_thirteen G2 G1.size _ _ _ _ _ _ _ _ _ _ _ _ _) none⟩
    · go_simp
      refine hK.out _ _ ?_ (fun hHeld => ?_)
      · (try dsimp only); go_keep
      clear hK K
      try simp only [Act.put, List.setIfInBounds_toArray, List.set_cons_zero, List.set_cons_succ]
      refine wpX_one 7 (by kernel_rfl) rfl (fun K hK => ?_)
      have hga : Gro W (W.drew.alloc (.cells #[.int .i64 0, .int .i64 0, .int .i64 0, .int .i64 0, .int .i64 0, .int .i64 0, .string ⟨#[]⟩, .int .i64 0, .int .i64 0, .int .i64 0, .int .i64 0, .string ⟨#[]⟩, .slice none 0 0] 29)) := (Gro.refl W).drew.alloc _
      go_simp
      go_at_call 46
      refine (HCL.out _ hga).mono ?_
      rintro e w1 ⟨rfl, hgw1⟩
      have G1 := hga.trans hgw1
      obtain ⟨lw1, w1b0, w1b1, w1b2, w1b3, w1b4, w1b5, w1b6, w1b7, w1b8, w1b9, w1b10, w1b11, w1b12⟩ := HBX.out.later G1.below
      simp only [Pr.op, Pr.cmp, Pr.l, Pr.r, Pr.args] at w1b0 w1b1 w1b2 w1b3 w1b4 w1b5 w1b6 w1b7 w1b8 w1b9 w1b10 w1b11 w1b12
      have zb1 := (show PBx (W.drew.alloc (.cells #[.int .i64 0, .int .i64 0, .int .i64 0, .int .i64 0, .int .i64 0, .int .i64 0, .string ⟨#[]⟩, .int .i64 0, .int .i64 0, .int .i64 0, .int .i64 0, .string ⟨#[]⟩, .slice none 0 0] 29)) W.heap.size (.mk 0 0 zeroO zeroO []) (.slice none 0 0) from PBx.new W.drew (.mk 0 0 zeroO zeroO []) (.slice none 0 0) 29).later hgw1
      refine hK.out _ _ ?_ (fun hHeld => ?_)
      · (try dsimp only); go_keep
      clear hK K
      try simp only [Act.put, List.setIfInBounds_toArray, List.set_cons_zero, List.set_cons_succ]
      refine wpX_one 11 (by kernel_rfl) rfl (fun K hK => ?_)
      go_simp
      go_at_call 46
      refine (HCR.out _ G1).mono ?_
      rintro e w2 ⟨rfl, hgw2⟩
      have G2 := G1.trans hgw2
      obtain ⟨lw2, w2b0, w2b1, w2b2, w2b3, w2b4, w2b5, w2b6, w2b7, w2b8, w2b9, w2b10, w2b11, w2b12⟩ := HBX.out.later G2.below
      simp only [Pr.op, Pr.cmp, Pr.l, Pr.r, Pr.args] at w2b0 w2b1 w2b2 w2b3 w2b4 w2b5 w2b6 w2b7 w2b8 w2b9 w2b10 w2b11 w2b12
      have zb := zb1.later hgw2
      have HZB := Lib.hid zb
      obtain ⟨⟨lz, z0, z1, z2, z3, z4, z5, z6, z7, z8, z9, z10, z11, z12⟩, fz⟩ := zb
      simp only [op_mk, cmp_mk, l_mk, r_mk, zeroO, nilV] at z0 z1 z2 z3 z4 z5 z6 z7 z8 z9 z10 z11
      refine hK.out _ _ ?_ (fun hHeld => ?_)
      · (try dsimp only); go_keep
      clear hK K
      try simp only [Act.put, List.setIfInBounds_toArray, List.set_cons_zero, List.set_cons_succ]
      try simp only [Act.put, List.setIfInBounds_toArray, List.set_cons_zero, List.set_cons_succ]
      refine wpX_take 12 (v := ?_) rfl (by kernel_rfl) (by kernel_rfl) (by kernel_rfl) (by kernel_rfl) (by kernel_rfl) (fun _ _ _ h => h) (Or.inl ⟨by rfl, ?_⟩) (by assumption) ?_
      rotate_left
      · intro w hSw; (try dsimp only at hSw); go_simp; try with_reducible rfl
      try simp only [Act.put, List.setIfInBounds_toArray, List.set_cons_zero, List.set_cons_succ]
      refine wpX_last 14 (by kernel_rfl) rfl rfl (by kernel_rfl) (fun K hK => ?_)
      go_simp
      refine hK.out _ _ ?_
      clear hK K
      refine NoPanic.normal ?_
      go_wp2_with fail
      go_meet
      case rel => exact ⟨_, rfl, Nat.le_refl _, PBx.all HZB.out (.mk op cmp ⟨xlk, xli, ⟨xlvk, xlvn, xlvt⟩⟩ ⟨xrk, xri, ⟨xrvk, xrvn, xrvt⟩⟩ []) (.slice none 0 0), gro_by (gro_thirteen G2 (Nat.le_refl _) _ _ _ _ _ _ _ _ _ _ _ _ _) none⟩
  case rest =>
    obtain ⟨g, rfl, hgl, hpb, hgr⟩ := hcut
    obtain ⟨wq, rfl⟩ : ∃ wq : World, wq = wc := ⟨_, rfl⟩
    have HGL := Lib.hid hgl
    have HPB := Lib.hid hpb
    have HGR := Lib.hid hgr
    obtain ⟨l, b0, b1, b2, b3, b4, b5, b6, b7, b8, b9, b10, b11, b12⟩ := HBX.out.later (by_below hgr)
    simp only [Pr.op, Pr.cmp, Pr.l, Pr.r, Pr.args] at b0 b1 b2 b3 b4 b5 b6 b7 b8 b9 b10 b11 b12
    clear hgl hpb hgr HCL HCR b0 b1 b2 b3 b4 b5 b6 b7 b8 b9 b10 b11
    obtain ⟨N, hN⟩ : ∃ N, args.length = N := ⟨_, rfl⟩
    rw [hN] at b12 hsl
    rw [hN] at HBX
    have HN := Lib.hid hN
    have HSL := Lib.hid hsl
    clear hN hsl
    obtain ⟨ii, hii, hz, hsz, hby⟩ := info_parts infoR
    have HII := Lib.hid hii
    have HZ := Lib.hid hz
    have HSZ := Lib.hid hsz
    have HBY := Lib.hid hby
    clear hii hz hsz hby
    go_wp2_with fail
    go_loopw [24] (fun v wr => ∃ (j : Nat) (qs : List (Pr × Value)) (sl : Value), v = .int .i64 j ∧ j ≤ N ∧ qs.length = j ∧ OwnR (g + 1) k wr sl qs ∧ qs.map (·.1) = (args.take j).map (bindP par) ∧ PBx wr g (.mk op cmp ⟨xlk, xli, ⟨xlvk, xlvn, xlvt⟩⟩ ⟨xrk, xri, ⟨xrvk, xrvn, xrvt⟩⟩ []) sl ∧ W.grownBy wr none) (fun v _ => N - (intOf v).toNat)
    case atStart => exact ⟨0, [], _, rfl, Nat.zero_le _, rfl, OwnR.nil _ _ _, by simp, HPB.out, HGR.out⟩
    case round =>
      clear HPB HGR b12 l
      obtain ⟨j, qs, sl, rfl, hj, hlen, hown, hmap, hpb, hgr⟩ := hrel
      obtain ⟨wo, rfl⟩ : ∃ wo : World, wo = wr := ⟨_, rfl⟩
      obtain ⟨slA, slC, rfl⟩ := ownR_slice hown
      have HLEN := Lib.hid hlen
      have HOW := Lib.hid hown
      have HMAP := Lib.hid hmap
      have HPB := Lib.hid hpb
      have HGR := Lib.hid hgr
      clear hlen hown hmap hpb hgr
      by_cases hjn : j = N
      · have hlt : decide ((j : Int) < (N : Int)) = false := by simp; omega
        have hlt' : decide (j < N) = false := by simp; omega
        have hlt2 : ¬ j < N := by omega
        have HPZ : Hid (PrIn (fun g => w.heap.size + 1 < g) wo (k + 1) (.slice slA qs.length slC) res.args) := by
          have h := HOW.out.at_ (by have := HSL.out; have := HLEN.out; omega)
          rw [HMAP.out, hjn, ← HN.out, List.take_length, ← HRES.out.2.2.2.2] at h
          exact h.mono fun g' _ h => by have h1 := HWS.out; have h2 := HGL.out; have : g + 1 ≤ g' := h; omega
        have HFA : Hid (w.grownBy wo none) := by_trans (gro_by HG.out none) HGR.out
        obtain ⟨⟨l, c0, c1, c2, c3, c4, c5, c6, c7, c8, c9, c10, c11, c12⟩, f⟩ := HRB.out wo HGR.out
        obtain ⟨⟨bl, b0, b1, b2, b3, b4, b5, b6, b7, b8, b9, b10, b11, b12⟩, bf⟩ := HPB.out
        have HRV : Hid (res.val (.slice slA qs.length slC) = (Pr.mk op cmp ⟨xlk, xli, ⟨xlvk, xlvn, xlvt⟩⟩ ⟨xrk, xri, ⟨xrvk, xrvn, xrvt⟩⟩ []).val (.slice slA qs.length slC)) := by
          show _ = _
          have h := HRES.out
          simp only [Pr.val]
          rw [h.1, h.2.1, h.2.2.1, h.2.2.2.1]; rfl
        clear HOW HMAP HPB HLEN HIH HP HFIT HBX HGR HRB HBR HII HZ HSZ HBY HN HSL
        simp only [op_mk, cmp_mk, l_mk, r_mk, zeroO, nilV] at c0 c1 c2 c3 c4 c5 c6 c7 c8 c9 c10 c11 b0 b1 b2 b3 b4 b5 b6 b7 b8 b9 b10 b11
        go_wp2
        exact bodyPost_ret (v := (Pr.mk op cmp ⟨xlk, xli, ⟨xlvk, xlvn, xlvt⟩⟩ ⟨xrk, xri, ⟨xrvk, xrvn, xrvt⟩⟩ []).val (.slice slA qs.length slC)) (by simp [results, Tryd.results19, go_sem, Pr.val, op_mk, cmp_mk, l_mk, r_mk, zeroO, nilV, c0, c1, c2, c3, c4, c5, c6, c7, c8, c9, c10, c11, c12, l]; try rfl) rfl
          (have h := fin_bind (Nat.le_succ w.heap.size) HFA.out HPZ.out _ _ _ _ _ _ _ _ _ _ _ _ _
          ⟨.slice slA qs.length slC, by rw [HRV.out], h.1, h.2⟩)
      · have hlt : decide ((j : Int) < (N : Int)) = true := by simp; omega
        have hlt' : decide (j < N) = true := by simp; omega
        have hlt2 : j < N := by omega
        have HLT := Lib.hid hlt2
        have hja : j < args.length := by rw [HN.out]; exact hlt2
        obtain ⟨q, hq⟩ : ∃ q, args[j] = q := ⟨_, rfl⟩
        have HTK : Hid ((args.take (j + 1)).map (bindP par) = (args.take j).map (bindP par) ++ [bindP par q]) := by
          show _ = _; rw [List.take_add_one, List.map_append, List.getElem?_eq_getElem hja, hq]; rfl
        have hpr := HP.out.later (by_below HGR.out)
        obtain ⟨qb, qo, qs', hsa, hqb, hSb, hat, hrest⟩ := hpr.get hja
        obtain ⟨qb2, qo2, qs2, hsa2, hqW, -, -, -⟩ := HP.out.get hja
        rw [hsa] at hsa2
        obtain ⟨rfl, rfl⟩ : qb = qb2 ∧ qo = qo2 := by simpa using hsa2
        clear hsa2
        rw [hq] at hat hrest
        have hmem : q ∈ args := by rw [← hq]; exact List.getElem_mem hja
        obtain ⟨qa, qc, rfl, hql⟩ := hrest.shape
        subst hsa
        have HMEM := Lib.hid hmem
        have HHQ := Lib.hid (HIH.out q hmem)
        have HFQ := Lib.hid (HFIT.out.2 q hmem)
        have HREST := Lib.hid hrest
        clear hq hmem hpr hrest hja
        obtain ⟨w6, hw6⟩ : ∃ w6, w6 = wo.alloc (pBlock q (.slice qa q.args.length qc) 29) := ⟨_, rfl⟩
        have hx6 : PBx w6 wo.heap.size q (.slice qa q.args.length qc) := by rw [hw6]; exact PBx.new wo q _ _
        have hg6 : wo.grownBy w6 none := by rw [hw6]; exact World.grownBy_alloc _ _ _
        have G6 : W.grownBy w6 none := by_trans HGR.out hg6
        have HG6 := Lib.hid G6
        have HO6 : Hid (OwnR (g + 1) k w6 (.slice slA qs.length slC) qs) := HOW.out.far (by_some hg6 (some g)) (Nat.lt_succ_self g)
        have HP6 := Lib.hid (HPB.out.by_ hg6 (by simp))
        have hdw : w6.grownBy w6.drew none := ⟨rfl, rfl, rfl, Nat.le_refl _, fun _ _ _ => rfl⟩
        have HDW := Lib.hid hdw
        have HSEP : Hid (∀ k, (Value.slice slA qs.length slC).ownBlock = some k → g + 1 ≤ k ∧ k < wo.heap.size) := fun k e => HOW.out.own.lt k e
        have HBD : Hid (Calls Tryd.prog 19 #[q.val (.slice qa q.args.length qc), .slice a2 n2 k2] w6.drew (GotBind par q k w6.drew)) := HHQ.out (.slice qa q.args.length qc) w6.drew HFQ.out (HBR.out _ (by_trans G6 hdw)) (HREST.out.later (by_below (by_trans hg6 hdw)))
        have HW6 := Lib.hid hw6
        have HX6 := Lib.hid hx6
        obtain ⟨qr, hqr⟩ : ∃ qr, bindP par q = qr := ⟨_, rfl⟩
        have HQR : Hid (qr = bindP par q) := hqr.symm
        replace HBD : Hid (Calls Tryd.prog 19 #[q.val (.slice qa q.args.length qc), .slice a2 n2 k2] w6.drew (fun e w' => ∃ t, e = .returned (qr.val t) ∧ PrIn (fun g => w6.drew.heap.size ≤ g) w' k t qr.args ∧ w6.drew.grownBy w' none)) := by rw [HQR.out]; exact HBD.out
        have HGLT : Hid (g < wo.heap.size) := HPB.out.b.l
        have HQLT : Hid (qb < W.heap.size) := by show _ < _; exact hqW
        clear hw6 hg6 G6 hqr hdw hqb hqW hx6 HOW HPB HHQ HFQ HREST HMEM
        obtain ⟨qop, qcmp, ⟨qlk, qli, ⟨qlvk, qlvn, qlvt⟩⟩, ⟨qrk, qri, ⟨qrvk, qrvn, qrvt⟩⟩, qargs⟩ := q
        replace HBD : Hid (Calls Tryd.prog 19 #[.agg #[.int .i64 qop, .int .i64 qcmp, .int .i64 qlk, .int .i64 qli, .int .i64 qlvk, .int .i64 qlvn, .string qlvt, .int .i64 qrk, .int .i64 qri, .int .i64 qrvk, .int .i64 qrvn, .string qrvt, .slice qa qargs.length qc], .slice a2 n2 k2] w6.drew (fun e w' => ∃ t, e = .returned (qr.val t) ∧ PrIn (fun g => w6.drew.heap.size ≤ g) w' k t qr.args ∧ w6.drew.grownBy w' none)) := HBD.out
        replace HW6 : Hid (w6 = wo.alloc (.cells #[.int .i64 qop, .int .i64 qcmp, .int .i64 qlk, .int .i64 qli, .int .i64 qlvk, .int .i64 qlvn, .string qlvt, .int .i64 qrk, .int .i64 qri, .int .i64 qrvk, .int .i64 qrvn, .string qrvt, .slice qa qargs.length qc] 29)) := HW6.out
        replace HX6 : Hid (PBx w6 wo.heap.size (.mk qop qcmp ⟨qlk, qli, ⟨qlvk, qlvn, qlvt⟩⟩ ⟨qrk, qri, ⟨qrvk, qrvn, qrvt⟩⟩ qargs) (.slice qa qargs.length qc)) := HX6.out
        obtain ⟨d0, d1, d2, d3, d4, d5, d6, d7, d8, d9, d10, d11, d12⟩ := hat
        simp only [Pr.op, Pr.cmp, Pr.l, Pr.r, Pr.args] at d0 d1 d2 d3 d4 d5 d6 d7 d8 d9 d10 d11 d12
        obtain ⟨QN, hQN⟩ : ∃ QN, qargs.length = QN := ⟨_, rfl⟩
        rw [hQN] at HBD HW6 HX6 d12
        clear hQN hql
        go_wp2_with fail
        rw [← HW6.out]
        clear d0 d1 d2 d3 d4 d5 d6 d7 d8 d9 d10 d11 d12 HW6
        obtain ⟨⟨xl, e0, e1, e2, e3, e4, e5, e6, e7, e8, e9, e10, e11, e12⟩, xf⟩ := HX6.out
        simp only [Pr.op, Pr.cmp, Pr.l, Pr.r, Pr.args] at e0 e1 e2 e3 e4 e5 e6 e7 e8 e9 e10 e11 e12
        have HGX := HGLT
        generalize wo.heap.size = gx at HX6 HSEP HGX HGLT e0 e1 e2 e3 e4 e5 e6 e7 e8 e9 e10 e11 e12 xl xf ⊢
        have hm12 := HP6.out.b.c12
        have hgl := HP6.out.b.l
        have hfz := HP6.out.f 12
        have HNG : Hid (some g ≠ (Value.slice slA qs.length slC).ownBlock) := by
          show _ ≠ _
          intro e
          have := (HO6.out.own.lt _ e.symm).1
          omega
        refine wp_region_noPanic ?_
        refine wp_region_X (fun w' => w'.cell? ⟨g, 12, none⟩ = some (.slice slA qs.length slC) ∧ w'.cell? ⟨gx, 0, none⟩ = some (.int .i64 qop) ∧ w'.cell? ⟨gx, 1, none⟩ = some (.int .i64 qcmp) ∧ w'.cell? ⟨gx, 2, none⟩ = some (.int .i64 qlk) ∧ w'.cell? ⟨gx, 3, none⟩ = some (.int .i64 qli) ∧ w'.cell? ⟨gx, 4, none⟩ = some (.int .i64 qlvk) ∧ w'.cell? ⟨gx, 5, none⟩ = some (.int .i64 qlvn) ∧ w'.cell? ⟨gx, 6, none⟩ = some (.string qlvt) ∧ w'.cell? ⟨gx, 7, none⟩ = some (.int .i64 qrk) ∧ w'.cell? ⟨gx, 8, none⟩ = some (.int .i64 qri) ∧ w'.cell? ⟨gx, 9, none⟩ = some (.int .i64 qrvk) ∧ w'.cell? ⟨gx, 10, none⟩ = some (.int .i64 qrvn) ∧ w'.cell? ⟨gx, 11, none⟩ = some (.string qrvt) ∧ w'.cell? ⟨gx, 12, none⟩ = some (.slice qa QN qc)) 8 (by kernel_rfl) ?_ (fun hHeld => ?_)
        · (try dsimp only); go_keep
        try simp only [Act.put, List.setIfInBounds_toArray, List.set_cons_zero, List.set_cons_succ]
        refine wpX_take 0 (v := ?_) rfl (by kernel_rfl) (by kernel_rfl) (by kernel_rfl) (by kernel_rfl) (by kernel_rfl) (fun _ _ _ h => h) (Or.inl ⟨by rfl, ?_⟩) (by assumption) ?_
        rotate_left
        · intro w hSw; (try dsimp only at hSw); go_simp; try with_reducible rfl
        try simp only [Act.put, List.setIfInBounds_toArray, List.set_cons_zero, List.set_cons_succ]
        refine wpX_take 1 (v := ?_) rfl (by kernel_rfl) (by kernel_rfl) (by kernel_rfl) (by kernel_rfl) (by kernel_rfl) (fun _ _ _ h => h) (Or.inl ⟨by rfl, ?_⟩) (by assumption) ?_
        rotate_left
        · intro w hSw; (try dsimp only at hSw); go_simp; try with_reducible rfl
        try simp only [Act.put, List.setIfInBounds_toArray, List.set_cons_zero, List.set_cons_succ]
        refine wpX_take 2 (v := ?_) rfl (by kernel_rfl) (by kernel_rfl) (by kernel_rfl) (by kernel_rfl) (by kernel_rfl) (fun _ _ _ h => h) (Or.inl ⟨by rfl, ?_⟩) (by assumption) ?_
        rotate_left
        · intro w hSw; (try dsimp only at hSw); go_simp; try with_reducible rfl
        try simp only [Act.put, List.setIfInBounds_toArray, List.set_cons_zero, List.set_cons_succ]
        refine wpX_take 3 (v := ?_) rfl (by kernel_rfl) (by kernel_rfl) (by kernel_rfl) (by kernel_rfl) (by kernel_rfl) (fun _ _ _ h => h) (Or.inl ⟨by rfl, ?_⟩) (by assumption) ?_
        rotate_left
        · intro w hSw; (try dsimp only at hSw); go_simp; try with_reducible rfl
        try simp only [Act.put, List.setIfInBounds_toArray, List.set_cons_zero, List.set_cons_succ]
        refine wpX_one 4 (by kernel_rfl) rfl (fun K hK => ?_)
        go_simp
        go_at_call 19
        refine HBD.out.mono ?_
        rintro e w7 ⟨s, rfl, hps, hg7⟩
        obtain ⟨sa', sc', rfl, hsl'⟩ := hps.shape
        have HG7 : Hid (w6.grownBy w7 none) := by_trans HDW.out hg7
        have HPS : Hid (PrIn (fun g => w6.heap.size ≤ g) w7 k (.slice sa' qr.args.length sc') qr.args) := hps
        have HP7 := Lib.hid (HP6.out.by_ HG7.out (by simp))
        have z12 := HP7.out.b.c12
        have hfz7 := HP7.out.f 12
        have HS7 : Hid (g + 1 ≤ w7.heap.size) := HP7.out.b.l
        have HO7 : Hid (OwnR (g + 1) k w7 (.slice slA qs.length slC) qs) := HO6.out.far (by_some HG7.out (some g)) (Nat.lt_succ_self g)
        have HX7 := Lib.hid (HX6.out.by_ HG7.out (by simp))
        obtain ⟨⟨yl, y0, y1, y2, y3, y4, y5, y6, y7, y8, y9, y10, y11, y12⟩, yf⟩ := HX7.out
        simp only [Pr.op, Pr.cmp, Pr.l, Pr.r, Pr.args] at y0 y1 y2 y3 y4 y5 y6 y7 y8 y9 y10 y11 y12
        clear hps hg7 HBD hfz hm12
        refine hK.out _ _ ?_ (fun hHeld => ?_)
        · (try dsimp only); go_keep
        clear hK K
        try simp only [Act.put, List.setIfInBounds_toArray, List.set_cons_zero, List.set_cons_succ]
        refine wpX_one 5 (by kernel_rfl) rfl (fun K hK => ?_)
        go_simp
        refine hK.out _ _ ?_ (fun hHeld => ?_)
        · (try dsimp only); go_keep
        clear hK K
        try simp only [Act.put, List.setIfInBounds_toArray, List.set_cons_zero, List.set_cons_succ]
        refine wpX_one 6 (by kernel_rfl) rfl (fun K hK => ?_)
        refine step_append_lies _ rfl _ _ 27 rfl (g + 1) 29 ii (.agg #[.int .i64 0, .int .i64 0, .int .i64 0, .int .i64 0, .int .i64 0, .int .i64 0, .string ⟨#[]⟩, .int .i64 0, .int .i64 0, .int .i64 0, .int .i64 0, .string ⟨#[]⟩, .slice none 0 0]) 13 136 Tryd.underlying27 HII.out HZ.out HSZ.out HBY.out rfl (by decide) (.slice slA qs.length slC) qs.length (cellsR qs) rfl (HO7.out.own.alloc _) ⟨w7.heap.size, 0, none⟩ 1 1 (cellsO qr (.slice sa' qr.args.length sc')) rfl rfl (thirteen_new w7 _ _ _ _ _ _ _ _ _ _ _ _ _ _ _ rfl) (by intro u hu; simp [cellsO] at hu; rcases hu with rfl | rfl | rfl | rfl | rfl | rfl | rfl | rfl | rfl | rfl | rfl | rfl | rfl <;> rfl) (by decide) (by have := HLEN.out; have := HLT.out; have := HSL.out; unfold maxLen; omega) (by have := HLEN.out; have := HLT.out; have := HN.out; have := HFIT.out.1; omega) (by have := HS7.out; simp; omega) (w7.heap.size + 1) (by simp) ?_
        intro g9 c9 w9 hown9 hgrow9 hat9 hlt9
        have n12 : w9.cell? ⟨g, 12, none⟩ = some (.slice slA qs.length slC) := hgrow9.cell (by go_simp) HNG.out
        have HP9 : Hid (PBx w9 g (.mk op cmp ⟨xlk, xli, ⟨xlvk, xlvn, xlvt⟩⟩ ⟨xrk, xri, ⟨xrvk, xrvn, xrvt⟩⟩ []) (.slice slA qs.length slC)) := (HP7.out.by_ (World.grownBy_alloc w7 _ none) (by simp)).by_ hgrow9 (Ne.symm HNG.out)
        have nf := HP9.out.f 12
        have nl := HP9.out.b.l
        obtain ⟨⟨vl, v0, v1, v2, v3, v4, v5, v6, v7, v8, v9, v10, v11, v12⟩, vf⟩ := (HX7.out.by_ (World.grownBy_alloc w7 _ none) (by simp)).by_ hgrow9 (fun e => by have := (HSEP.out _ e).2; omega)
        simp only [Pr.op, Pr.cmp, Pr.l, Pr.r, Pr.args] at v0 v1 v2 v3 v4 v5 v6 v7 v8 v9 v10 v11 v12
        clear y0 y1 y2 y3 y4 y5 y6 y7 y8 y9 y10 y11 y12 yl yf e0 e1 e2 e3 e4 e5 e6 e7 e8 e9 e10 e11 e12 xl xf vf
        have HO9 := Lib.hid hown9
        have HG9 := Lib.hid hgrow9
        have HA9 := Lib.hid hat9
        clear hown9 hgrow9 hat9 hlt9 hfz7 z12
        refine hK.out _ _ ?_ (fun hHeld => ?_)
        · (try dsimp only); go_keep
        clear hK K
        try simp only [Act.put, List.setIfInBounds_toArray, List.set_cons_zero, List.set_cons_succ]
        try simp only [Act.put, List.setIfInBounds_toArray, List.set_cons_zero, List.set_cons_succ]
        refine wpX_take 7 (v := ?_) rfl (by kernel_rfl) (by kernel_rfl) (by kernel_rfl) (by kernel_rfl) (by kernel_rfl) (fun _ _ _ h => h) (Or.inl ⟨by rfl, ?_⟩) (by assumption) ?_
        rotate_left
        · intro w hSw; (try dsimp only at hSw); go_simp; try with_reducible rfl
        try simp only [Act.put, List.setIfInBounds_toArray, List.set_cons_zero, List.set_cons_succ]
        refine wpX_last 8 (by kernel_rfl) rfl rfl (by kernel_rfl) (fun K hK => ?_)
        go_simp
        refine hK.out _ _ ?_
        clear hK K
        refine NoPanic.normal ?_
        have hl9 : (Value.slice (some ⟨g9, 0, none⟩) (qs.length + 1) c9).ownBlock = (Value.slice slA qs.length slC).ownBlock ∨ ∃ g', (Value.slice (some ⟨g9, 0, none⟩) (qs.length + 1) c9).ownBlock = some g' ∧ w7.heap.size < g' := by
          rcases HA9.out with e | e
          · exact .inl e.symm
          · exact .inr ⟨g9, rfl, by omega⟩
        have hor := HO6.out.snoc (b := g) (H := 0) (p := qr) (s := .slice sa' qr.args.length sc') (Nat.lt_succ_self g) (by have := HP6.out.b.l; omega) (by_some HG7.out (some g)) HPS.out HG9.out HO9.out hl9
        have hb9 : W.grownBy w9 none := by_new (by_trans (by_trans HG6.out HG7.out) (World.grownBy_alloc w7 _ _)) HG9.out (fun k e => by have := (HSEP.out k e).1; have := HGL.out; omega)
        have HORZ := Lib.hid (hor.far (by_store (w := w9) (b := g) (o := 12) (v := .slice (some ⟨g9, 0, none⟩) (qs.length + 1) c9)) (Nat.lt_succ_self g))
        have HPZ := Lib.hid (HP9.out.args (.slice (some ⟨g9, 0, none⟩) (qs.length + 1) c9))
        have HBZ : Hid (W.grownBy (w9.setCell ⟨g, 12, none⟩ (.slice (some ⟨g9, 0, none⟩) (qs.length + 1) c9)) none) := by_store_new hb9 HGL.out _
        generalize w9.setCell ⟨g, 12, none⟩ (.slice (some ⟨g9, 0, none⟩) (qs.length + 1) c9) = wz at HORZ HPZ HBZ ⊢
        have hwk : wrap64 ((j : Int) + 1) = (j : Int) + 1 := wrap_i64 (by omega) (by have := HSL.out; omega)
        clear hor hb9 hl9 nf nl hHeld n12 hlt hlt' hlt2
        clear v0 v1 v2 v3 v4 v5 v6 v7 v8 v9 v10 v11 v12 vl
        go_wp2_with fail
        generalize wrap64 ((j : Int) + 1) = zz at hwk ⊢
        subst hwk
        have hjj := HLT.out
        have hll := HLEN.out
        have hln : (qs ++ [(qr, Value.slice sa' qr.args.length sc')]).length = j + 1 := by simp [hll]
        have hmm : (qs ++ [(qr, Value.slice sa' qr.args.length sc')]).map (·.1) = (args.take (j + 1)).map (bindP par) := by rw [HTK.out, List.map_append, HMAP.out, HQR.out]; rfl
        exact ⟨⟨j + 1, qs ++ [(qr, .slice sa' qr.args.length sc')], _, by push_cast; rfl, by omega, hln, HORZ.out, hmm, HPZ.out, HBZ.out⟩, by simp [intOf]; omega⟩
theorem BindAt_all (S : Nat → Prop) (vb : Value) (par : List V) : ∀ (k : Nat) (p : Pr), BindAt S vb par k p
  | 0, p => fun s w hf hb hp => by
    obtain ⟨t, h1, h2, h3⟩ : True ∧ True ∧ True ∧ True := ⟨trivial, trivial, trivial, trivial⟩
    refine (BindAt_step S vb par 0 p (fun q hq => by rw [hp.1] at hq; simp at hq) s w hf hb hp.deeper).mono ?_
    rintro e w' ⟨t, rfl, h2, h3⟩
    have hn : (bindP par p).args = [] := by rw [bindP_args, hp.1]; rfl
    refine ⟨t, rfl, ?_, h3⟩
    rw [hn] at h2 ⊢
    obtain ⟨a, cap, h⟩ := h2.shape
    exact ⟨rfl, a, cap, h.1⟩
  | k + 1, p => BindAt_step S vb par k p fun q _ => BindAt_all S vb par k q
def RBindAt (S : Nat → Prop) (vb : Value) (par : List V) (k : Nat) (p : Pr) : Prop :=
  ∀ (s : Value) (w : World), fitP p → RowAt w vb par → PrIn S w k s p.args → Calls Tryd.prog 21 #[p.val s, vb] w (GotBind par p k w)
set_option maxHeartbeats 8000000 in
set_option maxRecDepth 100000 in
theorem RBindAt_step (S : Nat → Prop) (vb : Value) (par : List V) (k : Nat) (p : Pr) (ih : ∀ q ∈ p.args, RBindAt S vb par k q) : RBindAt S vb par (k + 1) p := by
  intro s w hfit hb hp
  have mx := mixed
  have HB := Lib.hid hb
  obtain ⟨a2, n2, k2, rfl⟩ : ∃ a n c, vb = .slice a n c := (let ⟨a, c, h, _⟩ := HB.out; ⟨a, par.length, c, h⟩)
  clear hb
  obtain ⟨sa, sc, rfl, hsl⟩ := hp.shape
  obtain ⟨W, hW⟩ : ∃ W, W = (w.alloc (pBlock p (.slice sa p.args.length sc) 29)).alloc (.cells #[.int .i64 0, .int .i64 0, .int .i64 0, .int .i64 0, .int .i64 0, .int .i64 0, .string ⟨#[]⟩, .int .i64 0, .int .i64 0, .int .i64 0, .int .i64 0, .string ⟨#[]⟩, .slice none 0 0] 29) := ⟨_, rfl⟩
  have hg : Gro w W := by rw [hW]; exact ((Gro.refl w).alloc _).alloc _
  have hx1 : PBox W w.heap.size p (.slice sa p.args.length sc) := by rw [hW]; exact (PBox.new w p _ _).later ((Below.refl _ _).alloc (Nat.le_refl _) _)
  have HRB : Hid (∀ wf, W.grownBy wf none → PBx wf (w.heap.size + 1) (.mk 0 0 zeroO zeroO []) (.slice none 0 0)) := fun wf hgf => by
    have h := PBx.new (w.alloc (pBlock p (.slice sa p.args.length sc) 29)) (.mk 0 0 zeroO zeroO []) (.slice none 0 0) 29
    have h' : PBx W (w.heap.size + 1) (.mk 0 0 zeroO zeroO []) (.slice none 0 0) := by
      have e : (w.alloc (pBlock p (.slice sa p.args.length sc) 29)).heap.size = w.heap.size + 1 := by simp
      rw [e] at h; rw [hW]; exact h
    exact h'.by_ hgf (by simp)
  have HBX := Lib.hid hx1
  have HWS : Hid (W.heap.size = w.heap.size + 2) := by show _ = _; rw [hW]; simp
  have HP := Lib.hid (hp.later hg.below)
  have HG := Lib.hid hg
  have HIH := Lib.hid ih
  have HFIT := Lib.hid (fitP_iff.1 hfit)
  have HBI : Hid (∀ (o : Od) (w' : World), Gro W w' → Calls Tryd.prog 47 #[o.val, .slice a2 n2 k2] w' (OdG (bindO par o) w')) := fun o w' hw => rbound_calls o (.slice a2 n2 k2) par w' (HB.out.later (HG.out.trans hw).below)
  have HBR : Hid (∀ w', W.grownBy w' none → RowAt w' (.slice a2 n2 k2) par) := fun w' hw => HB.out.later (by_below (by_trans (gro_by HG.out none) hw))
  have HW := Lib.hid hW
  clear hp hg ih hW hx1 hfit HB
  obtain ⟨res, hres⟩ : ∃ res, bindP par p = res := ⟨_, rfl⟩
  have HRES : Hid (res.op = p.op ∧ res.cmp = p.cmp ∧ res.l = bindO par p.l ∧ res.r = bindO par p.r ∧ res.args = p.args.map (bindP par)) := by
    show _ ∧ _; rw [← hres]; exact ⟨bindP_op _ _, bindP_cmp _ _, bindP_l _ _, bindP_r _ _, bindP_args _ _⟩
  show Calls _ _ _ _ (fun e w' => ∃ t, e = .returned ((bindP par p).val t) ∧ PrIn (fun g => w.heap.size ≤ g) w' (k + 1) t (bindP par p).args ∧ w.grownBy w' none)
  rw [hres]
  clear hres
  obtain ⟨op, cmp, ⟨lk, li, ⟨lvk, lvn, lvt⟩⟩, ⟨rk, ri, ⟨rvk, rvn, rvt⟩⟩, args⟩ := p
  replace HW : Hid (W = (w.alloc (.cells #[.int .i64 op, .int .i64 cmp, .int .i64 lk, .int .i64 li, .int .i64 lvk, .int .i64 lvn, .string lvt, .int .i64 rk, .int .i64 ri, .int .i64 rvk, .int .i64 rvn, .string rvt, .slice sa args.length sc] 29)).alloc (.cells #[.int .i64 0, .int .i64 0, .int .i64 0, .int .i64 0, .int .i64 0, .int .i64 0, .string ⟨#[]⟩, .int .i64 0, .int .i64 0, .int .i64 0, .int .i64 0, .string ⟨#[]⟩, .slice none 0 0] 29)) := HW.out
  replace HP : Hid (PrIn S W (k + 1) (.slice sa args.length sc) args) := HP.out
  replace hsl : args.length ≤ 4398046511104 := hsl
  replace HFIT : Hid (args.length ≤ 1034834473200 ∧ ∀ q ∈ args, fitP q) := HFIT.out
  replace HIH : Hid (∀ q ∈ args, RBindAt S (.slice a2 n2 k2) par k q) := HIH.out
  replace HBX : Hid (PBox W w.heap.size (.mk op cmp ⟨lk, li, ⟨lvk, lvn, lvt⟩⟩ ⟨rk, ri, ⟨rvk, rvn, rvt⟩⟩ args) (.slice sa args.length sc)) := HBX.out
  replace HRES : Hid (res.op = op ∧ res.cmp = cmp ∧ res.l = bindO par ⟨lk, li, ⟨lvk, lvn, lvt⟩⟩ ∧ res.r = bindO par ⟨rk, ri, ⟨rvk, rvn, rvt⟩⟩ ∧ res.args = args.map (bindP par)) := HRES.out
  obtain ⟨LB, hLB⟩ : ∃ x, bindO par ⟨lk, li, ⟨lvk, lvn, lvt⟩⟩ = x := ⟨_, rfl⟩
  obtain ⟨RB, hRB⟩ : ∃ x, bindO par ⟨rk, ri, ⟨rvk, rvn, rvt⟩⟩ = x := ⟨_, rfl⟩
  have HCL : Hid (∀ w', Gro W w' → Calls Tryd.prog 47 #[.agg #[.int .i64 lk, .int .i64 li, .int .i64 lvk, .int .i64 lvn, .string lvt], .slice a2 n2 k2] w' (fun e w'' => e = .returned LB.val ∧ Gro w' w'')) := fun w' hw => by rw [← hLB]; exact HBI.out ⟨lk, li, ⟨lvk, lvn, lvt⟩⟩ w' hw
  have HCR : Hid (∀ w', Gro W w' → Calls Tryd.prog 47 #[.agg #[.int .i64 rk, .int .i64 ri, .int .i64 rvk, .int .i64 rvn, .string rvt], .slice a2 n2 k2] w' (fun e w'' => e = .returned RB.val ∧ Gro w' w'')) := fun w' hw => by rw [← hRB]; exact HBI.out ⟨rk, ri, ⟨rvk, rvn, rvt⟩⟩ w' hw
  rw [hLB, hRB] at HRES
  clear hLB hRB HBI
  obtain ⟨xlk, xli, ⟨xlvk, xlvn, xlvt⟩⟩ := LB
  obtain ⟨xrk, xri, ⟨xrvk, xrvn, xrvt⟩⟩ := RB
  show Calls _ _ #[.agg #[.int .i64 op, .int .i64 cmp, .int .i64 lk, .int .i64 li, .int .i64 lvk, .int .i64 lvn, .string lvt, .int .i64 rk, .int .i64 ri, .int .i64 rvk, .int .i64 rvn, .string rvt, .slice sa args.length sc], .slice a2 n2 k2] _ _
  go_enter Tryd.func21, Tryd.ntmps21
  go_upto_region 1 with fail
  rw [← HW.out]
  clear HW
  go_cut [5] from 5 to 39 (fun v wr => ∃ g, v = .pointer (some ⟨g, 0, none⟩) ∧ W.heap.size ≤ g ∧ PBx wr g (.mk op cmp ⟨xlk, xli, ⟨xlvk, xlvn, xlvt⟩⟩ ⟨xrk, xri, ⟨xrvk, xrvn, xrvt⟩⟩ []) (.slice none 0 0) ∧ W.grownBy wr none)
  case first =>
    obtain ⟨l, b0, b1, b2, b3, b4, b5, b6, b7, b8, b9, b10, b11, b12⟩ := HBX.out
    simp only [Pr.op, Pr.cmp, Pr.l, Pr.r, Pr.args] at b0 b1 b2 b3 b4 b5 b6 b7 b8 b9 b10 b11 b12
    refine wp_region_noPanic ?_
    refine wp_region_X (fun w' => w'.cell? ⟨w.heap.size, 0, none⟩ = some (.int .i64 op) ∧ w'.cell? ⟨w.heap.size, 1, none⟩ = some (.int .i64 cmp) ∧ w'.cell? ⟨w.heap.size, 2, none⟩ = some (.int .i64 lk) ∧ w'.cell? ⟨w.heap.size, 3, none⟩ = some (.int .i64 li) ∧ w'.cell? ⟨w.heap.size, 4, none⟩ = some (.int .i64 lvk) ∧ w'.cell? ⟨w.heap.size, 5, none⟩ = some (.int .i64 lvn) ∧ w'.cell? ⟨w.heap.size, 6, none⟩ = some (.string lvt) ∧ w'.cell? ⟨w.heap.size, 7, none⟩ = some (.int .i64 rk) ∧ w'.cell? ⟨w.heap.size, 8, none⟩ = some (.int .i64 ri) ∧ w'.cell? ⟨w.heap.size, 9, none⟩ = some (.int .i64 rvk) ∧ w'.cell? ⟨w.heap.size, 10, none⟩ = some (.int .i64 rvn) ∧ w'.cell? ⟨w.heap.size, 11, none⟩ = some (.string rvt)) 14 (by kernel_rfl) ?_ (fun hHeld => ?_)
    · (try dsimp only); go_keep
    try simp only [Act.put, List.setIfInBounds_toArray, List.set_cons_zero, List.set_cons_succ]
    refine wpX_take 0 (v := ?_) rfl (by kernel_rfl) (by kernel_rfl) (by kernel_rfl) (by kernel_rfl) (by kernel_rfl) (fun _ _ _ h => h) (Or.inl ⟨by rfl, ?_⟩) (by assumption) ?_
    rotate_left
    · intro w hSw; (try dsimp only at hSw); go_simp; try with_reducible rfl
    try simp only [Act.put, List.setIfInBounds_toArray, List.set_cons_zero, List.set_cons_succ]
    refine wpX_take 1 (v := ?_) rfl (by kernel_rfl) (by kernel_rfl) (by kernel_rfl) (by kernel_rfl) (by kernel_rfl) (fun _ _ _ h => h) (Or.inl ⟨by rfl, ?_⟩) (by assumption) ?_
    rotate_left
    · intro w hSw; (try dsimp only at hSw); go_simp; try with_reducible rfl
    try simp only [Act.put, List.setIfInBounds_toArray, List.set_cons_zero, List.set_cons_succ]
    refine wpX_take 2 (v := ?_) rfl (by kernel_rfl) (by kernel_rfl) (by kernel_rfl) (by kernel_rfl) (by kernel_rfl) (fun _ _ _ h => h) (Or.inl ⟨by rfl, ?_⟩) (by assumption) ?_
    rotate_left
    · intro w hSw; (try dsimp only at hSw); go_simp; try with_reducible rfl
    try simp only [Act.put, List.setIfInBounds_toArray, List.set_cons_zero, List.set_cons_succ]
    refine wpX_take 3 (v := ?_) rfl (by kernel_rfl) (by kernel_rfl) (by kernel_rfl) (by kernel_rfl) (by kernel_rfl) (fun _ _ _ h => h) (Or.inl ⟨by rfl, ?_⟩) (by assumption) ?_
    rotate_left
    · intro w hSw; (try dsimp only at hSw); go_simp; try with_reducible rfl
    try simp only [Act.put, List.setIfInBounds_toArray, List.set_cons_zero, List.set_cons_succ]
    refine wpX_take 4 (v := ?_) rfl (by kernel_rfl) (by kernel_rfl) (by kernel_rfl) (by kernel_rfl) (by kernel_rfl) (fun _ _ _ h => h) (Or.inl ⟨by rfl, ?_⟩) (by assumption) ?_
    rotate_left
    · intro w hSw; (try dsimp only at hSw); go_simp; try with_reducible rfl
    try simp only [Act.put, List.setIfInBounds_toArray, List.set_cons_zero, List.set_cons_succ]
    refine wpX_take 5 (v := ?_) rfl (by kernel_rfl) (by kernel_rfl) (by kernel_rfl) (by kernel_rfl) (by kernel_rfl) (fun _ _ _ h => h) (Or.inl ⟨by rfl, ?_⟩) (by assumption) ?_
    rotate_left
    · intro w hSw; (try dsimp only at hSw); go_simp; try with_reducible rfl
    try simp only [Act.put, List.setIfInBounds_toArray, List.set_cons_zero, List.set_cons_succ]
    refine wpX_take 6 (v := ?_) rfl (by kernel_rfl) (by kernel_rfl) (by kernel_rfl) (by kernel_rfl) (by kernel_rfl) (fun _ _ _ h => h) (Or.inl ⟨by rfl, ?_⟩) (by assumption) ?_
    rotate_left
    · intro w hSw; (try dsimp only at hSw); go_simp; try with_reducible rfl
    try simp only [Act.put, List.setIfInBounds_toArray, List.set_cons_zero, List.set_cons_succ]
    refine wpX_take 8 (v := ?_) rfl (by kernel_rfl) (by kernel_rfl) (by kernel_rfl) (by kernel_rfl) (by kernel_rfl) (fun _ _ _ h => h) (Or.inl ⟨by rfl, ?_⟩) (by assumption) ?_
    rotate_left
    · intro w hSw; (try dsimp only at hSw); go_simp; try with_reducible rfl
    try simp only [Act.put, List.setIfInBounds_toArray, List.set_cons_zero, List.set_cons_succ]
    refine wpX_take 9 (v := ?_) rfl (by kernel_rfl) (by kernel_rfl) (by kernel_rfl) (by kernel_rfl) (by kernel_rfl) (fun _ _ _ h => h) (Or.inl ⟨by rfl, ?_⟩) (by assumption) ?_
    rotate_left
    · intro w hSw; (try dsimp only at hSw); go_simp; try with_reducible rfl
    try simp only [Act.put, List.setIfInBounds_toArray, List.set_cons_zero, List.set_cons_succ]
    refine wpX_take 10 (v := ?_) rfl (by kernel_rfl) (by kernel_rfl) (by kernel_rfl) (by kernel_rfl) (by kernel_rfl) (fun _ _ _ h => h) (Or.inl ⟨by rfl, ?_⟩) (by assumption) ?_
    rotate_left
    · intro w hSw; (try dsimp only at hSw); go_simp; try with_reducible rfl
    try simp only [Act.put, List.setIfInBounds_toArray, List.set_cons_zero, List.set_cons_succ]
    refine wpX_two 7 13 (by kernel_rfl) rfl rfl (fun K hK => ?_) (fun K hK => ?_)
    · have hgd : Gro W W.drew := (Gro.refl W).drew
      go_simp
      go_at_call 47
      refine (HCL.out _ hgd).mono ?_
      rintro e w1 ⟨rfl, hgw1⟩
      have G1 := hgd.trans hgw1
      obtain ⟨lw1, w1b0, w1b1, w1b2, w1b3, w1b4, w1b5, w1b6, w1b7, w1b8, w1b9, w1b10, w1b11, w1b12⟩ := HBX.out.later G1.below
      simp only [Pr.op, Pr.cmp, Pr.l, Pr.r, Pr.args] at w1b0 w1b1 w1b2 w1b3 w1b4 w1b5 w1b6 w1b7 w1b8 w1b9 w1b10 w1b11 w1b12
      refine hK.out _ _ ?_ (fun hHeld => ?_)
      · (try dsimp only); go_keep
      clear hK K
      try simp only [Act.put, List.setIfInBounds_toArray, List.set_cons_zero, List.set_cons_succ]
      refine wpX_two 11 13 (by kernel_rfl) rfl rfl (fun K hK => ?_) (fun K hK => ?_)
      · skip
        go_simp
        go_at_call 47
        refine (HCR.out _ G1).mono ?_
        rintro e w2 ⟨rfl, hgw2⟩
        have G2 := G1.trans hgw2
        obtain ⟨lw2, w2b0, w2b1, w2b2, w2b3, w2b4, w2b5, w2b6, w2b7, w2b8, w2b9, w2b10, w2b11, w2b12⟩ := HBX.out.later G2.below
        simp only [Pr.op, Pr.cmp, Pr.l, Pr.r, Pr.args] at w2b0 w2b1 w2b2 w2b3 w2b4 w2b5 w2b6 w2b7 w2b8 w2b9 w2b10 w2b11 w2b12
        refine hK.out _ _ ?_ (fun hHeld => ?_)
        · (try dsimp only); go_keep
        clear hK K
        try simp only [Act.put, List.setIfInBounds_toArray, List.set_cons_zero, List.set_cons_succ]
        try simp only [Act.put, List.setIfInBounds_toArray, List.set_cons_zero, List.set_cons_succ]
        refine wpX_take 12 (v := ?_) rfl (by kernel_rfl) (by kernel_rfl) (by kernel_rfl) (by kernel_rfl) (by kernel_rfl) (fun _ _ _ h => h) (Or.inl ⟨by rfl, ?_⟩) (by assumption) ?_
        rotate_left
        · intro w hSw; (try dsimp only at hSw); go_simp; try with_reducible rfl
        try simp only [Act.put, List.setIfInBounds_toArray, List.set_cons_zero, List.set_cons_succ]
        refine wpX_one 13 (by kernel_rfl) rfl (fun K hK => ?_)
        go_simp
        refine hK.out _ _ ?_ (fun hHeld => ?_)
        · (try dsimp only); go_keep
        clear hK K
        try simp only [Act.put, List.setIfInBounds_toArray, List.set_cons_zero, List.set_cons_succ]
        refine wpX_last 14 (by kernel_rfl) rfl rfl (by kernel_rfl) (fun K hK => ?_)
        go_simp
        refine hK.out _ _ ?_
        clear hK K
        refine NoPanic.normal ?_
        go_wp2_with fail
        go_meet
        case rel => exact ⟨_, rfl, G2.size, PBx.new w2 (.mk op cmp ⟨xlk, xli, ⟨xlvk, xlvn, xlvt⟩⟩ ⟨xrk, xri, ⟨xrvk, xrvn, xrvt⟩⟩ []) (.slice none 0 0) _, gro_by (G2.alloc _) none⟩
      · go_simp
        refine hK.out _ _ ?_ (fun hHeld => ?_)
        · (try dsimp only); go_keep
        clear hK K
        try simp only [Act.put, List.setIfInBounds_toArray, List.set_cons_zero, List.set_cons_succ]
        refine wpX_one 11 (by kernel_rfl) rfl (fun K hK => ?_)
        have hga : Gro W (w1.alloc (.cells #[.int .i64 0, .int .i64 0, .int .i64 0, .int .i64 0, .int .i64 0, .int .i64 0, .string ⟨#[]⟩, .int .i64 0, .int .i64 0, .int .i64 0, .int .i64 0, .string ⟨#[]⟩, .slice none 0 0] 29)) := G1.alloc _
        go_simp
        go_at_call 47
        refine (HCR.out _ hga).mono ?_
        rintro e w2 ⟨rfl, hgw2⟩
        have G2 := hga.trans hgw2
        obtain ⟨lw2, w2b0, w2b1, w2b2, w2b3, w2b4, w2b5, w2b6, w2b7, w2b8, w2b9, w2b10, w2b11, w2b12⟩ := HBX.out.later G2.below
        simp only [Pr.op, Pr.cmp, Pr.l, Pr.r, Pr.args] at w2b0 w2b1 w2b2 w2b3 w2b4 w2b5 w2b6 w2b7 w2b8 w2b9 w2b10 w2b11 w2b12
        have zb := (PBx.new w1 (.mk 0 0 zeroO zeroO []) (.slice none 0 0) 29).later hgw2
        have HZB := Lib.hid zb
        obtain ⟨⟨lz, z0, z1, z2, z3, z4, z5, z6, z7, z8, z9, z10, z11, z12⟩, fz⟩ := zb
        simp only [op_mk, cmp_mk, l_mk, r_mk, zeroO, nilV] at z0 z1 z2 z3 z4 z5 z6 z7 z8 z9 z10 z11
        refine hK.out _ _ ?_ (fun hHeld => ?_)
        · (try dsimp only); go_keep
        clear hK K
        try simp only [Act.put, List.setIfInBounds_toArray, List.set_cons_zero, List.set_cons_succ]
        try simp only [Act.put, List.setIfInBounds_toArray, List.set_cons_zero, List.set_cons_succ]
        refine wpX_take 12 (v := ?_) rfl (by kernel_rfl) (by kernel_rfl) (by kernel_rfl) (by kernel_rfl) (by kernel_rfl) (fun _ _ _ h => h) (Or.inl ⟨by rfl, ?_⟩) (by assumption) ?_
        rotate_left
        · intro w hSw; (try dsimp only at hSw); go_simp; try with_reducible rfl
        try simp only [Act.put, List.setIfInBounds_toArray, List.set_cons_zero, List.set_cons_succ]
        refine wpX_last 14 (by kernel_rfl) rfl rfl (by kernel_rfl) (fun K hK => ?_)
        go_simp
        refine hK.out _ _ ?_
        clear hK K
        refine NoPanic.normal ?_
        go_wp2_with fail
        go_meet
        case rel => exact ⟨_, rfl, G1.size, PBx.all HZB.out (.mk op cmp ⟨xlk, xli, ⟨xlvk, xlvn, xlvt⟩⟩ ⟨xrk, xri, ⟨xrvk, xrvn, xrvt⟩⟩ []) (.slice none 0 0), gro_by (gro_thirteen G2 G1.size _ _ _ _ _ _ _ _ _ _ _ _ _) none⟩
    · go_simp
      refine hK.out _ _ ?_ (fun hHeld => ?_)
      · (try dsimp only); go_keep
      clear hK K
      try simp only [Act.put, List.setIfInBounds_toArray, List.set_cons_zero, List.set_cons_succ]
      refine wpX_one 7 (by kernel_rfl) rfl (fun K hK => ?_)
      have hga : Gro W (W.drew.alloc (.cells #[.int .i64 0, .int .i64 0, .int .i64 0, .int .i64 0, .int .i64 0, .int .i64 0, .string ⟨#[]⟩, .int .i64 0, .int .i64 0, .int .i64 0, .int .i64 0, .string ⟨#[]⟩, .slice none 0 0] 29)) := (Gro.refl W).drew.alloc _
      go_simp
      go_at_call 47
      refine (HCL.out _ hga).mono ?_
      rintro e w1 ⟨rfl, hgw1⟩
      have G1 := hga.trans hgw1
      obtain ⟨lw1, w1b0, w1b1, w1b2, w1b3, w1b4, w1b5, w1b6, w1b7, w1b8, w1b9, w1b10, w1b11, w1b12⟩ := HBX.out.later G1.below
      simp only [Pr.op, Pr.cmp, Pr.l, Pr.r, Pr.args] at w1b0 w1b1 w1b2 w1b3 w1b4 w1b5 w1b6 w1b7 w1b8 w1b9 w1b10 w1b11 w1b12
      have zb1 := (show PBx (W.drew.alloc (.cells #[.int .i64 0, .int .i64 0, .int .i64 0, .int .i64 0, .int .i64 0, .int .i64 0, .string ⟨#[]⟩, .int .i64 0, .int .i64 0, .int .i64 0, .int .i64 0, .string ⟨#[]⟩, .slice none 0 0] 29)) W.heap.size (.mk 0 0 zeroO zeroO []) (.slice none 0 0) from PBx.new W.drew (.mk 0 0 zeroO zeroO []) (.slice none 0 0) 29).later hgw1
      refine hK.out _ _ ?_ (fun hHeld => ?_)
      · (try dsimp only); go_keep
      clear hK K
      try simp only [Act.put, List.setIfInBounds_toArray, List.set_cons_zero, List.set_cons_succ]
      refine wpX_one 11 (by kernel_rfl) rfl (fun K hK => ?_)
      go_simp
      go_at_call 47
      refine (HCR.out _ G1).mono ?_
      rintro e w2 ⟨rfl, hgw2⟩
      have G2 := G1.trans hgw2
      obtain ⟨lw2, w2b0, w2b1, w2b2, w2b3, w2b4, w2b5, w2b6, w2b7, w2b8, w2b9, w2b10, w2b11, w2b12⟩ := HBX.out.later G2.below
      simp only [Pr.op, Pr.cmp, Pr.l, Pr.r, Pr.args] at w2b0 w2b1 w2b2 w2b3 w2b4 w2b5 w2b6 w2b7 w2b8 w2b9 w2b10 w2b11 w2b12
      have zb := zb1.later hgw2
      have HZB := Lib.hid zb
      obtain ⟨⟨lz, z0, z1, z2, z3, z4, z5, z6, z7, z8, z9, z10, z11, z12⟩, fz⟩ := zb
      simp only [op_mk, cmp_mk, l_mk, r_mk, zeroO, nilV] at z0 z1 z2 z3 z4 z5 z6 z7 z8 z9 z10 z11
      refine hK.out _ _ ?_ (fun hHeld => ?_)
      · (try dsimp only); go_keep
      clear hK K
      try simp only [Act.put, List.setIfInBounds_toArray, List.set_cons_zero, List.set_cons_succ]
      try simp only [Act.put, List.setIfInBounds_toArray, List.set_cons_zero, List.set_cons_succ]
      refine wpX_take 12 (v := ?_) rfl (by kernel_rfl) (by kernel_rfl) (by kernel_rfl) (by kernel_rfl) (by kernel_rfl) (fun _ _ _ h => h) (Or.inl ⟨by rfl, ?_⟩) (by assumption) ?_
      rotate_left
      · intro w hSw; (try dsimp only at hSw); go_simp; try with_reducible rfl
      try simp only [Act.put, List.setIfInBounds_toArray, List.set_cons_zero, List.set_cons_succ]
      refine wpX_last 14 (by kernel_rfl) rfl rfl (by kernel_rfl) (fun K hK => ?_)
      go_simp
      refine hK.out _ _ ?_
      clear hK K
      refine NoPanic.normal ?_
      go_wp2_with fail
      go_meet
      case rel => exact ⟨_, rfl, Nat.le_refl _, PBx.all HZB.out (.mk op cmp ⟨xlk, xli, ⟨xlvk, xlvn, xlvt⟩⟩ ⟨xrk, xri, ⟨xrvk, xrvn, xrvt⟩⟩ []) (.slice none 0 0), gro_by (gro_thirteen G2 (Nat.le_refl _) _ _ _ _ _ _ _ _ _ _ _ _ _) none⟩
  case rest =>
    obtain ⟨g, rfl, hgl, hpb, hgr⟩ := hcut
    obtain ⟨wq, rfl⟩ : ∃ wq : World, wq = wc := ⟨_, rfl⟩
    have HGL := Lib.hid hgl
    have HPB := Lib.hid hpb
    have HGR := Lib.hid hgr
    obtain ⟨l, b0, b1, b2, b3, b4, b5, b6, b7, b8, b9, b10, b11, b12⟩ := HBX.out.later (by_below hgr)
    simp only [Pr.op, Pr.cmp, Pr.l, Pr.r, Pr.args] at b0 b1 b2 b3 b4 b5 b6 b7 b8 b9 b10 b11 b12
    clear hgl hpb hgr HCL HCR b0 b1 b2 b3 b4 b5 b6 b7 b8 b9 b10 b11
    obtain ⟨N, hN⟩ : ∃ N, args.length = N := ⟨_, rfl⟩
    rw [hN] at b12 hsl
    rw [hN] at HBX
    have HN := Lib.hid hN
    have HSL := Lib.hid hsl
    clear hN hsl
    obtain ⟨ii, hii, hz, hsz, hby⟩ := info_parts infoR
    have HII := Lib.hid hii
    have HZ := Lib.hid hz
    have HSZ := Lib.hid hsz
    have HBY := Lib.hid hby
    clear hii hz hsz hby
    go_wp2_with fail
    go_loopw [23] (fun v wr => ∃ (j : Nat) (qs : List (Pr × Value)) (sl : Value), v = .int .i64 j ∧ j ≤ N ∧ qs.length = j ∧ OwnR (g + 1) k wr sl qs ∧ qs.map (·.1) = (args.take j).map (bindP par) ∧ PBx wr g (.mk op cmp ⟨xlk, xli, ⟨xlvk, xlvn, xlvt⟩⟩ ⟨xrk, xri, ⟨xrvk, xrvn, xrvt⟩⟩ []) sl ∧ W.grownBy wr none) (fun v _ => N - (intOf v).toNat)
    case atStart => exact ⟨0, [], _, rfl, Nat.zero_le _, rfl, OwnR.nil _ _ _, by simp, HPB.out, HGR.out⟩
    case round =>
      clear HPB HGR b12 l
      obtain ⟨j, qs, sl, rfl, hj, hlen, hown, hmap, hpb, hgr⟩ := hrel
      obtain ⟨wo, rfl⟩ : ∃ wo : World, wo = wr := ⟨_, rfl⟩
      obtain ⟨slA, slC, rfl⟩ := ownR_slice hown
      have HLEN := Lib.hid hlen
      have HOW := Lib.hid hown
      have HMAP := Lib.hid hmap
      have HPB := Lib.hid hpb
      have HGR := Lib.hid hgr
      clear hlen hown hmap hpb hgr
      by_cases hjn : j = N
      · have hlt : decide ((j : Int) < (N : Int)) = false := by simp; omega
        have hlt' : decide (j < N) = false := by simp; omega
        have hlt2 : ¬ j < N := by omega
        have HPZ : Hid (PrIn (fun g => w.heap.size + 1 < g) wo (k + 1) (.slice slA qs.length slC) res.args) := by
          have h := HOW.out.at_ (by have := HSL.out; have := HLEN.out; omega)
          rw [HMAP.out, hjn, ← HN.out, List.take_length, ← HRES.out.2.2.2.2] at h
          exact h.mono fun g' _ h => by have h1 := HWS.out; have h2 := HGL.out; have : g + 1 ≤ g' := h; omega
        have HFA : Hid (w.grownBy wo none) := by_trans (gro_by HG.out none) HGR.out
        obtain ⟨⟨l, c0, c1, c2, c3, c4, c5, c6, c7, c8, c9, c10, c11, c12⟩, f⟩ := HRB.out wo HGR.out
        obtain ⟨⟨bl, b0, b1, b2, b3, b4, b5, b6, b7, b8, b9, b10, b11, b12⟩, bf⟩ := HPB.out
        have HRV : Hid (res.val (.slice slA qs.length slC) = (Pr.mk op cmp ⟨xlk, xli, ⟨xlvk, xlvn, xlvt⟩⟩ ⟨xrk, xri, ⟨xrvk, xrvn, xrvt⟩⟩ []).val (.slice slA qs.length slC)) := by
          show _ = _
          have h := HRES.out
          simp only [Pr.val]
          rw [h.1, h.2.1, h.2.2.1, h.2.2.2.1]; rfl
        clear HOW HMAP HPB HLEN HIH HP HFIT HBX HGR HRB HBR HII HZ HSZ HBY HN HSL
        simp only [op_mk, cmp_mk, l_mk, r_mk, zeroO, nilV] at c0 c1 c2 c3 c4 c5 c6 c7 c8 c9 c10 c11 b0 b1 b2 b3 b4 b5 b6 b7 b8 b9 b10 b11
        go_wp2
        exact bodyPost_ret (v := (Pr.mk op cmp ⟨xlk, xli, ⟨xlvk, xlvn, xlvt⟩⟩ ⟨xrk, xri, ⟨xrvk, xrvn, xrvt⟩⟩ []).val (.slice slA qs.length slC)) (by simp [results, Tryd.results21, go_sem, Pr.val, op_mk, cmp_mk, l_mk, r_mk, zeroO, nilV, c0, c1, c2, c3, c4, c5, c6, c7, c8, c9, c10, c11, c12, l]; try rfl) rfl
          (have h := fin_bind (Nat.le_succ w.heap.size) HFA.out HPZ.out _ _ _ _ _ _ _ _ _ _ _ _ _
          ⟨.slice slA qs.length slC, by rw [HRV.out], h.1, h.2⟩)
      · have hlt : decide ((j : Int) < (N : Int)) = true := by simp; omega
        have hlt' : decide (j < N) = true := by simp; omega
        have hlt2 : j < N := by omega
        have HLT := Lib.hid hlt2
        have hja : j < args.length := by rw [HN.out]; exact hlt2
        obtain ⟨q, hq⟩ : ∃ q, args[j] = q := ⟨_, rfl⟩
        have HTK : Hid ((args.take (j + 1)).map (bindP par) = (args.take j).map (bindP par) ++ [bindP par q]) := by
          show _ = _; rw [List.take_add_one, List.map_append, List.getElem?_eq_getElem hja, hq]; rfl
        have hpr := HP.out.later (by_below HGR.out)
        obtain ⟨qb, qo, qs', hsa, hqb, hSb, hat, hrest⟩ := hpr.get hja
        obtain ⟨qb2, qo2, qs2, hsa2, hqW, -, -, -⟩ := HP.out.get hja
        rw [hsa] at hsa2
        obtain ⟨rfl, rfl⟩ : qb = qb2 ∧ qo = qo2 := by simpa using hsa2
        clear hsa2
        rw [hq] at hat hrest
        have hmem : q ∈ args := by rw [← hq]; exact List.getElem_mem hja
        obtain ⟨qa, qc, rfl, hql⟩ := hrest.shape
        subst hsa
        have HMEM := Lib.hid hmem
        have HHQ := Lib.hid (HIH.out q hmem)
        have HFQ := Lib.hid (HFIT.out.2 q hmem)
        have HREST := Lib.hid hrest
        clear hq hmem hpr hrest hja
        obtain ⟨w6, hw6⟩ : ∃ w6, w6 = wo := ⟨_, rfl⟩
        have hg6 : wo.grownBy w6 none := by rw [hw6]; exact gro_by (Gro.refl wo) none
        have G6 : W.grownBy w6 none := by_trans HGR.out hg6
        have HG6 := Lib.hid G6
        have HO6 : Hid (OwnR (g + 1) k w6 (.slice slA qs.length slC) qs) := HOW.out.far (by_some hg6 (some g)) (Nat.lt_succ_self g)
        have HP6 := Lib.hid (HPB.out.by_ hg6 (by simp))
        have hdw : w6.grownBy w6.drew none := ⟨rfl, rfl, rfl, Nat.le_refl _, fun _ _ _ => rfl⟩
        have HDW := Lib.hid hdw
        have HSEP : Hid (∀ k, (Value.slice slA qs.length slC).ownBlock = some k → g + 1 ≤ k ∧ k < wo.heap.size) := fun k e => HOW.out.own.lt k e
        have HBD : Hid (Calls Tryd.prog 21 #[q.val (.slice qa q.args.length qc), .slice a2 n2 k2] w6.drew (GotBind par q k w6.drew)) := HHQ.out (.slice qa q.args.length qc) w6.drew HFQ.out (HBR.out _ (by_trans G6 hdw)) (HREST.out.later (by_below (by_trans hg6 hdw)))
        have HW6 := Lib.hid hw6
        have HAT : Hid (PrAt w6 qb (qo + j * 13) q (.slice qa q.args.length qc)) := by rw [hw6]; exact hat
        have HQB : Hid (qb < w6.heap.size) := by rw [hw6]; exact hqb
        obtain ⟨qr, hqr⟩ : ∃ qr, bindP par q = qr := ⟨_, rfl⟩
        have HQR : Hid (qr = bindP par q) := hqr.symm
        replace HBD : Hid (Calls Tryd.prog 21 #[q.val (.slice qa q.args.length qc), .slice a2 n2 k2] w6.drew (fun e w' => ∃ t, e = .returned (qr.val t) ∧ PrIn (fun g => w6.drew.heap.size ≤ g) w' k t qr.args ∧ w6.drew.grownBy w' none)) := by rw [HQR.out]; exact HBD.out
        have HGLT : Hid (g < wo.heap.size) := HPB.out.b.l
        have HQLT : Hid (qb < W.heap.size) := by show _ < _; exact hqW
        clear hw6 hg6 G6 hqr hdw hqb hqW  HOW HPB HHQ HFQ HREST HMEM
        obtain ⟨qop, qcmp, ⟨qlk, qli, ⟨qlvk, qlvn, qlvt⟩⟩, ⟨qrk, qri, ⟨qrvk, qrvn, qrvt⟩⟩, qargs⟩ := q
        replace HBD : Hid (Calls Tryd.prog 21 #[.agg #[.int .i64 qop, .int .i64 qcmp, .int .i64 qlk, .int .i64 qli, .int .i64 qlvk, .int .i64 qlvn, .string qlvt, .int .i64 qrk, .int .i64 qri, .int .i64 qrvk, .int .i64 qrvn, .string qrvt, .slice qa qargs.length qc], .slice a2 n2 k2] w6.drew (fun e w' => ∃ t, e = .returned (qr.val t) ∧ PrIn (fun g => w6.drew.heap.size ≤ g) w' k t qr.args ∧ w6.drew.grownBy w' none)) := HBD.out
        replace HAT : Hid (PrAt w6 qb (qo + j * 13) (.mk qop qcmp ⟨qlk, qli, ⟨qlvk, qlvn, qlvt⟩⟩ ⟨qrk, qri, ⟨qrvk, qrvn, qrvt⟩⟩ qargs) (.slice qa qargs.length qc)) := HAT.out
        obtain rfl := HW6.out
        obtain ⟨QN, hQN⟩ : ∃ QN, qargs.length = QN := ⟨_, rfl⟩
        rw [hQN] at HBD HAT
        clear hQN hql
        obtain ⟨e0, e1, e2, e3, e4, e5, e6, e7, e8, e9, e10, e11, e12⟩ := HAT.out
        simp only [Pr.op, Pr.cmp, Pr.l, Pr.r, Pr.args] at e0 e1 e2 e3 e4 e5 e6 e7 e8 e9 e10 e11 e12
        go_wp2_with fail
        have hm12 := HP6.out.b.c12
        have hgl := HP6.out.b.l
        have hfz := HP6.out.f 12
        have HNG : Hid (some g ≠ (Value.slice slA qs.length slC).ownBlock) := by
          show _ ≠ _
          intro e
          have := (HO6.out.own.lt _ e.symm).1
          omega
        obtain ⟨xl6, x0, x1, x2, x3, x4, x5, x6, x7, x8, x9, x10, x11, w12⟩ := HBX.out.later (by_below HG6.out)
        clear x0 x1 x2 x3 x4 x5 x6 x7 x8 x9 x10 x11
        refine wp_region_noPanic ?_
        refine wp_region_X (fun w' => w'.cell? ⟨g, 12, none⟩ = some (.slice slA qs.length slC) ∧ w'.cell? ⟨w.heap.size, 12, none⟩ = some (.slice (some ⟨qb, qo, none⟩) N sc) ∧ w'.cell? ⟨qb, qo + j * 13, none⟩ = some (.int .i64 qop) ∧ w'.cell? ⟨qb, qo + j * 13 + 1, none⟩ = some (.int .i64 qcmp) ∧ w'.cell? ⟨qb, qo + j * 13 + 2, none⟩ = some (.int .i64 qlk) ∧ w'.cell? ⟨qb, qo + j * 13 + 3, none⟩ = some (.int .i64 qli) ∧ w'.cell? ⟨qb, qo + j * 13 + 4, none⟩ = some (.int .i64 qlvk) ∧ w'.cell? ⟨qb, qo + j * 13 + 5, none⟩ = some (.int .i64 qlvn) ∧ w'.cell? ⟨qb, qo + j * 13 + 6, none⟩ = some (.string qlvt) ∧ w'.cell? ⟨qb, qo + j * 13 + 7, none⟩ = some (.int .i64 qrk) ∧ w'.cell? ⟨qb, qo + j * 13 + 8, none⟩ = some (.int .i64 qri) ∧ w'.cell? ⟨qb, qo + j * 13 + 9, none⟩ = some (.int .i64 qrvk) ∧ w'.cell? ⟨qb, qo + j * 13 + 10, none⟩ = some (.int .i64 qrvn) ∧ w'.cell? ⟨qb, qo + j * 13 + 11, none⟩ = some (.string qrvt) ∧ w'.cell? ⟨qb, qo + j * 13 + 12, none⟩ = some (.slice qa QN qc)) 12 (by kernel_rfl) ?_ (fun hHeld => ?_)
        · (try dsimp only); go_keep
        try simp only [Act.put, List.setIfInBounds_toArray, List.set_cons_zero, List.set_cons_succ]
        refine wpX_take 0 (v := ?_) rfl (by kernel_rfl) (by kernel_rfl) (by kernel_rfl) (by kernel_rfl) (by kernel_rfl) (fun _ _ _ h => h) (Or.inl ⟨by rfl, ?_⟩) (by assumption) ?_
        rotate_left
        · intro w hSw; (try dsimp only at hSw); go_simp; try with_reducible rfl
        try simp only [Act.put, List.setIfInBounds_toArray, List.set_cons_zero, List.set_cons_succ]
        refine wpX_take 1 (v := ?_) rfl (by kernel_rfl) (by kernel_rfl) (by kernel_rfl) (by kernel_rfl) (by kernel_rfl) (fun _ _ _ h => h) (Or.inl ⟨by rfl, ?_⟩) (by assumption) ?_
        rotate_left
        · intro w hSw; (try dsimp only at hSw); go_simp; try with_reducible rfl
        try simp only [Act.put, List.setIfInBounds_toArray, List.set_cons_zero, List.set_cons_succ]
        refine wpX_take 2 (v := ?_) rfl (by kernel_rfl) (by kernel_rfl) (by kernel_rfl) (by kernel_rfl) (by kernel_rfl) (fun _ _ _ h => h) (Or.inl ⟨by rfl, ?_⟩) (by assumption) ?_
        rotate_left
        · intro w hSw; (try dsimp only at hSw); go_simp; try with_reducible rfl
        try simp only [Act.put, List.setIfInBounds_toArray, List.set_cons_zero, List.set_cons_succ]
        refine wpX_take 3 (v := ?_) rfl (by kernel_rfl) (by kernel_rfl) (by kernel_rfl) (by kernel_rfl) (by kernel_rfl) (fun _ _ _ h => h) (Or.inl ⟨by rfl, ?_⟩) (by assumption) ?_
        rotate_left
        · intro w hSw; (try dsimp only at hSw); go_simp; try with_reducible rfl
        try simp only [Act.put, List.setIfInBounds_toArray, List.set_cons_zero, List.set_cons_succ]
        refine wpX_take 4 (v := ?_) rfl (by kernel_rfl) (by kernel_rfl) (by kernel_rfl) (by kernel_rfl) (by kernel_rfl) (fun _ _ _ h => h) (Or.inl ⟨by rfl, ?_⟩) (by assumption) ?_
        rotate_left
        · intro w hSw; (try dsimp only at hSw); go_simp; try with_reducible rfl
        try simp only [Act.put, List.setIfInBounds_toArray, List.set_cons_zero, List.set_cons_succ]
        refine wpX_take 5 (v := ?_) rfl (by kernel_rfl) (by kernel_rfl) (by kernel_rfl) (by kernel_rfl) (by kernel_rfl) (fun _ _ _ h => h) (Or.inl ⟨by rfl, ?_⟩) (by assumption) ?_
        rotate_left
        · intro w hSw; (try dsimp only at hSw); go_simp; try with_reducible rfl
        try simp only [Act.put, List.setIfInBounds_toArray, List.set_cons_zero, List.set_cons_succ]
        refine wpX_take 6 (v := ?_) rfl (by kernel_rfl) (by kernel_rfl) (by kernel_rfl) (by kernel_rfl) (by kernel_rfl) (fun _ _ _ h => h) (Or.inl ⟨by rfl, ?_⟩) (by assumption) ?_
        rotate_left
        · intro w hSw; (try dsimp only at hSw); go_simp; try with_reducible rfl
        try simp only [Act.put, List.setIfInBounds_toArray, List.set_cons_zero, List.set_cons_succ]
        refine wpX_take 7 (v := ?_) rfl (by kernel_rfl) (by kernel_rfl) (by kernel_rfl) (by kernel_rfl) (by kernel_rfl) (fun _ _ _ h => h) (Or.inl ⟨by rfl, ?_⟩) (by assumption) ?_
        rotate_left
        · intro w hSw; (try dsimp only at hSw); go_simp; try with_reducible rfl
        try simp only [Act.put, List.setIfInBounds_toArray, List.set_cons_zero, List.set_cons_succ]
        refine wpX_one 8 (by kernel_rfl) rfl (fun K hK => ?_)
        go_simp
        go_at_call 21
        refine HBD.out.mono ?_
        rintro e w7 ⟨s, rfl, hps, hg7⟩
        obtain ⟨sa', sc', rfl, hsl'⟩ := hps.shape
        have HG7 : Hid (w6.grownBy w7 none) := by_trans HDW.out hg7
        have HPS : Hid (PrIn (fun g => w6.heap.size ≤ g) w7 k (.slice sa' qr.args.length sc') qr.args) := hps
        have HP7 := Lib.hid (HP6.out.by_ HG7.out (by simp))
        have z12 := HP7.out.b.c12
        have hfz7 := HP7.out.f 12
        have HS7 : Hid (g + 1 ≤ w7.heap.size) := HP7.out.b.l
        have HO7 : Hid (OwnR (g + 1) k w7 (.slice slA qs.length slC) qs) := HO6.out.far (by_some HG7.out (some g)) (Nat.lt_succ_self g)
        obtain ⟨yl, x0, x1, x2, x3, x4, x5, x6, x7, x8, x9, x10, x11, x12⟩ := HBX.out.later (by_below (by_trans HG6.out HG7.out))
        clear x0 x1 x2 x3 x4 x5 x6 x7 x8 x9 x10 x11
        obtain ⟨y0, y1, y2, y3, y4, y5, y6, y7, y8, y9, y10, y11, y12⟩ := HAT.out.same (w' := w7) (fun o => World.cell?_of_block (HG7.out.block qb HQB.out (by simp)))
        simp only [Pr.op, Pr.cmp, Pr.l, Pr.r, Pr.args] at y0 y1 y2 y3 y4 y5 y6 y7 y8 y9 y10 y11 y12
        have ql7 : qb < w7.heap.size := Nat.lt_of_lt_of_le HQB.out HG7.out.size
        clear hps hg7 HBD hfz hm12
        refine hK.out _ _ ?_ (fun hHeld => ?_)
        · (try dsimp only); go_keep
        clear hK K
        try simp only [Act.put, List.setIfInBounds_toArray, List.set_cons_zero, List.set_cons_succ]
        refine wpX_one 9 (by kernel_rfl) rfl (fun K hK => ?_)
        go_simp
        refine hK.out _ _ ?_ (fun hHeld => ?_)
        · (try dsimp only); go_keep
        clear hK K
        try simp only [Act.put, List.setIfInBounds_toArray, List.set_cons_zero, List.set_cons_succ]
        refine wpX_one 10 (by kernel_rfl) rfl (fun K hK => ?_)
        refine step_append_lies _ rfl _ _ 27 rfl (g + 1) 29 ii (.agg #[.int .i64 0, .int .i64 0, .int .i64 0, .int .i64 0, .int .i64 0, .int .i64 0, .string ⟨#[]⟩, .int .i64 0, .int .i64 0, .int .i64 0, .int .i64 0, .string ⟨#[]⟩, .slice none 0 0]) 13 136 Tryd.underlying27 HII.out HZ.out HSZ.out HBY.out rfl (by decide) (.slice slA qs.length slC) qs.length (cellsR qs) rfl (HO7.out.own.alloc _) ⟨w7.heap.size, 0, none⟩ 1 1 (cellsO qr (.slice sa' qr.args.length sc')) rfl rfl (thirteen_new w7 _ _ _ _ _ _ _ _ _ _ _ _ _ _ _ rfl) (by intro u hu; simp [cellsO] at hu; rcases hu with rfl | rfl | rfl | rfl | rfl | rfl | rfl | rfl | rfl | rfl | rfl | rfl | rfl <;> rfl) (by decide) (by have := HLEN.out; have := HLT.out; have := HSL.out; unfold maxLen; omega) (by have := HLEN.out; have := HLT.out; have := HN.out; have := HFIT.out.1; omega) (by have := HS7.out; simp; omega) (w7.heap.size + 1) (by simp) ?_
        intro g9 c9 w9 hown9 hgrow9 hat9 hlt9
        have n12 : w9.cell? ⟨g, 12, none⟩ = some (.slice slA qs.length slC) := hgrow9.cell (by go_simp) HNG.out
        have HP9 : Hid (PBx w9 g (.mk op cmp ⟨xlk, xli, ⟨xlvk, xlvn, xlvt⟩⟩ ⟨xrk, xri, ⟨xrvk, xrvn, xrvt⟩⟩ []) (.slice slA qs.length slC)) := (HP7.out.by_ (World.grownBy_alloc w7 _ none) (by simp)).by_ hgrow9 (Ne.symm HNG.out)
        have nf := HP9.out.f 12
        have nl := HP9.out.b.l
        have hbz : ∀ kk, kk < W.heap.size → kk < w7.heap.size → ∀ o, w9.cell? ⟨kk, o, none⟩ = w7.cell? ⟨kk, o, none⟩ := fun kk hk hk7 o => (World.cell?_of_block (hgrow9.block kk (by simp; omega) (fun e => by have := (HSEP.out _ e.symm).1; have := HGL.out; omega))).trans (World.cell?_of_block ((World.grownBy_alloc w7 _ none).block kk hk7 (by simp)))
        obtain ⟨v0, v1, v2, v3, v4, v5, v6, v7, v8, v9, v10, v11, v12⟩ := (HAT.out.same (w' := w7) (fun o => World.cell?_of_block (HG7.out.block qb HQB.out (by simp)))).same (w' := w9) (hbz qb HQLT.out ql7)
        simp only [Pr.op, Pr.cmp, Pr.l, Pr.r, Pr.args] at v0 v1 v2 v3 v4 v5 v6 v7 v8 v9 v10 v11 v12
        have v13 : w9.cell? ⟨w.heap.size, 12, none⟩ = some (.slice (some ⟨qb, qo, none⟩) N sc) := (hbz _ HBX.out.l yl 12).trans x12
        clear y0 y1 y2 y3 y4 y5 y6 y7 y8 y9 y10 y11 y12 yl e0 e1 e2 e3 e4 e5 e6 e7 e8 e9 e10 e11 e12 x12 hbz ql7
        have HO9 := Lib.hid hown9
        have HG9 := Lib.hid hgrow9
        have HA9 := Lib.hid hat9
        clear hown9 hgrow9 hat9 hlt9 hfz7 z12
        refine hK.out _ _ ?_ (fun hHeld => ?_)
        · (try dsimp only); go_keep
        clear hK K
        try simp only [Act.put, List.setIfInBounds_toArray, List.set_cons_zero, List.set_cons_succ]
        try simp only [Act.put, List.setIfInBounds_toArray, List.set_cons_zero, List.set_cons_succ]
        refine wpX_take 11 (v := ?_) rfl (by kernel_rfl) (by kernel_rfl) (by kernel_rfl) (by kernel_rfl) (by kernel_rfl) (fun _ _ _ h => h) (Or.inl ⟨by rfl, ?_⟩) (by assumption) ?_
        rotate_left
        · intro w hSw; (try dsimp only at hSw); go_simp; try with_reducible rfl
        try simp only [Act.put, List.setIfInBounds_toArray, List.set_cons_zero, List.set_cons_succ]
        refine wpX_last 12 (by kernel_rfl) rfl rfl (by kernel_rfl) (fun K hK => ?_)
        go_simp
        refine hK.out _ _ ?_
        clear hK K
        refine NoPanic.normal ?_
        have hl9 : (Value.slice (some ⟨g9, 0, none⟩) (qs.length + 1) c9).ownBlock = (Value.slice slA qs.length slC).ownBlock ∨ ∃ g', (Value.slice (some ⟨g9, 0, none⟩) (qs.length + 1) c9).ownBlock = some g' ∧ w7.heap.size < g' := by
          rcases HA9.out with e | e
          · exact .inl e.symm
          · exact .inr ⟨g9, rfl, by omega⟩
        have hor := HO6.out.snoc (b := g) (H := 0) (p := qr) (s := .slice sa' qr.args.length sc') (Nat.lt_succ_self g) (by have := HP6.out.b.l; omega) (by_some HG7.out (some g)) HPS.out HG9.out HO9.out hl9
        have hb9 : W.grownBy w9 none := by_new (by_trans (by_trans HG6.out HG7.out) (World.grownBy_alloc w7 _ _)) HG9.out (fun k e => by have := (HSEP.out k e).1; have := HGL.out; omega)
        have HORZ := Lib.hid (hor.far (by_store (w := w9) (b := g) (o := 12) (v := .slice (some ⟨g9, 0, none⟩) (qs.length + 1) c9)) (Nat.lt_succ_self g))
        have HPZ := Lib.hid (HP9.out.args (.slice (some ⟨g9, 0, none⟩) (qs.length + 1) c9))
        have HBZ : Hid (W.grownBy (w9.setCell ⟨g, 12, none⟩ (.slice (some ⟨g9, 0, none⟩) (qs.length + 1) c9)) none) := by_store_new hb9 HGL.out _
        generalize w9.setCell ⟨g, 12, none⟩ (.slice (some ⟨g9, 0, none⟩) (qs.length + 1) c9) = wz at HORZ HPZ HBZ ⊢
        have hwk : wrap64 ((j : Int) + 1) = (j : Int) + 1 := wrap_i64 (by omega) (by have := HSL.out; omega)
        clear hor hb9 hl9 nf nl hHeld n12 hlt hlt' hlt2
        clear v0 v1 v2 v3 v4 v5 v6 v7 v8 v9 v10 v11 v12 v13
        go_wp2_with fail
        generalize wrap64 ((j : Int) + 1) = zz at hwk ⊢
        subst hwk
        have hjj := HLT.out
        have hll := HLEN.out
        have hln : (qs ++ [(qr, Value.slice sa' qr.args.length sc')]).length = j + 1 := by simp [hll]
        have hmm : (qs ++ [(qr, Value.slice sa' qr.args.length sc')]).map (·.1) = (args.take (j + 1)).map (bindP par) := by rw [HTK.out, List.map_append, HMAP.out, HQR.out]; rfl
        exact ⟨⟨j + 1, qs ++ [(qr, .slice sa' qr.args.length sc')], _, by push_cast; rfl, by omega, hln, HORZ.out, hmm, HPZ.out, HBZ.out⟩, by simp [intOf]; omega⟩
theorem RBindAt_all (S : Nat → Prop) (vb : Value) (par : List V) : ∀ (k : Nat) (p : Pr), RBindAt S vb par k p
  | 0, p => fun s w hf hb hp => by
    obtain ⟨t, h1, h2, h3⟩ : True ∧ True ∧ True ∧ True := ⟨trivial, trivial, trivial, trivial⟩
    refine (RBindAt_step S vb par 0 p (fun q hq => by rw [hp.1] at hq; simp at hq) s w hf hb hp.deeper).mono ?_
    rintro e w' ⟨t, rfl, h2, h3⟩
    have hn : (bindP par p).args = [] := by rw [bindP_args, hp.1]; rfl
    refine ⟨t, rfl, ?_, h3⟩
    rw [hn] at h2 ⊢
    obtain ⟨a, cap, h⟩ := h2.shape
    exact ⟨rfl, a, cap, h.1⟩
  | k + 1, p => RBindAt_step S vb par k p fun q _ => RBindAt_all S vb par k q
end Go.Proofs.YtndnlmpmloiiiaaDoor
