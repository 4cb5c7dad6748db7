/- The columns of a predicate; the contract of predicate.appendColumns. -/
import Derived.Test.YtndnlmpmloiiiaaDoorPg
import Derived.Test.YtndnlmpmloiiiaaDoorPl
import Derived.Test.YtndnlmpmloiiiaaDoorKa
import Derived.Deep.AppendLies
set_option linter.unusedSimpArgs false
set_option linter.unusedVariables false
namespace Go.Proofs.YtndnlmpmloiiiaaDoor
open Go.RowKit

/-- The columns of an operand. -/
def opdCols (o : Od) : List Int := if o.k = 1 ∧ 0 ≤ o.i then [o.i] else []
mutual
/-- The columns of a predicate as they come. -/
def colsP : Pr → List Int
  | .mk op _ l r args => (if op = 3 then opdCols l ++ opdCols r else []) ++ colsL args
def colsL : List Pr → List Int
  | [] => []
  | p :: ps => colsP p ++ colsL ps
end
theorem colsP_eq (op cmp : Int) (l r : Od) (args : List Pr) : colsP (.mk op cmp l r args) = (if op = 3 then opdCols l ++ opdCols r else []) ++ colsL args := by rw [colsP]
theorem colsL_append : ∀ (a b : List Pr), colsL (a ++ b) = colsL a ++ colsL b
  | [], b => by rw [colsL]; rfl
  | p :: a, b => by rw [List.cons_append, colsL, colsL, colsL_append a b, List.append_assoc]
theorem colsL_take {ps : List Pr} {j : Nat} (h : j < ps.length) : colsL (ps.take (j + 1)) = colsL (ps.take j) ++ colsP ps[j] := by
  rw [List.take_succ_eq_append_getElem h, colsL_append, colsL, colsL, List.append_nil]
theorem colsL_le : ∀ (ps : List Pr) (j : Nat), (colsL (ps.take j)).length ≤ (colsL ps).length
  | [], j => by rw [List.take_nil]; exact Nat.le_refl _
  | p :: ps, 0 => by rw [List.take_zero, colsL]; simp
  | p :: ps, j + 1 => by
    have h := colsL_le ps j
    rw [List.take_succ_cons, colsL, colsL, List.length_append, List.length_append]; omega
def ints (l : List Int) : List Value := l.map (Value.int .i64)
theorem ints_length (l : List Int) : (ints l).length = l.length := by unfold ints; simp
theorem ints_append (a b : List Int) : ints (a ++ b) = ints a ++ ints b := by unfold ints; simp
theorem ints_one (l : List Int) : ∀ u ∈ ints l, u.oneCell' = true := by
  intro u hu
  obtain ⟨n, _, rfl⟩ := List.mem_map.1 hu
  rfl
/-- A list of numbers that lies in memory of the call's own. -/
def OwnN (w : World) (base : Nat) (v : Value) (l : List Int) : Prop := w.ownsRow base 3 1 v l.length (ints l)
theorem OwnN.ints {S : Nat → Prop} {w : World} {base : Nat} {v : Value} {l : List Int} (h : OwnN w base v l) (hl : l.length ≤ 4398046511104) (hS : ∀ b, base ≤ b → S b) : IntsAt S w v l := by
  obtain ⟨hx, hv | ⟨g, cap, cur, rfl, hg, hh, hcap, hm, hs, ht⟩⟩ := h
  · obtain ⟨rfl, hn⟩ := hv
    obtain rfl : l = [] := List.length_eq_zero_iff.1 hn
    exact IntsAt.nil none 0
  · have h' : w.ownsRow base 3 1 (.slice (some ⟨g, 0, none⟩) l.length cap) l.length (Go.Proofs.YtndnlmpmloiiiaaDoor.ints l) := ⟨hx, .inr ⟨g, cap, cur, rfl, hg, hh, hcap, hm, hs, ht⟩⟩
    refine ⟨_, cap, rfl, by omega, .inr ⟨g, 0, rfl, (Array.getElem?_eq_some_iff.1 hh).1, hS g hg, fun i hi => ?_⟩⟩
    have hc := h'.cellAt i (by omega)
    rw [Nat.zero_add, hc]
    unfold Go.Proofs.YtndnlmpmloiiiaaDoor.ints
    simp [hi]
theorem own_slice {w : World} {base : Nat} {e : TypeId} {size : Nat} {v : Value} {n : Nat} {xs : List Value} (h : w.ownsRow base e size v n xs) : ∃ a cap, v = .slice a n cap := by
  obtain ⟨hx, hv | ⟨g, cap, cur, hv, hg, hh, hcap, hm, hs, ht⟩⟩ := h
  · obtain ⟨rfl, hn⟩ := hv; exact ⟨none, 0, by rw [hn]⟩
  · exact ⟨_, _, hv⟩
/-- How the list's block has moved: it is the old one, or younger than the world w. -/
def Moved (w : World) (v v' : Value) : Prop := v'.ownBlock = v.ownBlock ∨ ∀ g, v'.ownBlock = some g → w.heap.size ≤ g
theorem Moved.refl (w : World) (v : Value) : Moved w v v := .inl rfl
theorem grown_step {w0 w1 w2 : World} {v v' : Value} (h1 : w0.grownBy w1 v.ownBlock) (hr : Moved w0 v v') (h2 : w1.grownBy w2 v'.ownBlock) : w0.grownBy w2 v.ownBlock :=
  ⟨h2.os.trans h1.os, h2.tape.trans h1.tape, h2.output.trans h1.output, Nat.le_trans h1.size h2.size, fun k hk hn => (h2.block k (Nat.lt_of_lt_of_le hk h1.size) (fun e => hr.elim (fun h => hn (e.trans h)) (fun h => by have := h k e.symm; omega))).trans (h1.block k hk hn)⟩
theorem moved_step {w0 w1 : World} {v v' v'' : Value} (h : w0.heap.size ≤ w1.heap.size) (hr : Moved w0 v v') (h2 : Moved w1 v' v'') : Moved w0 v v'' := by
  rcases h2 with h2 | h2
  · rcases hr with hr | hr
    · exact .inl (h2.trans hr)
    · exact .inr fun g hg => hr g (h2.symm.trans hg)
  · exact .inr fun g hg => Nat.le_trans h (h2 g hg)
theorem grown_alloc {w0 w1 : World} {r : Option Nat} (h : w0.grownBy w1 r) (o : Obj) : w0.grownBy (w1.alloc o) r := by_trans h (World.grownBy_alloc _ o r)
theorem below_grown {w0 w1 : World} {v : Value} {base : Nat} (h : w0.grownBy w1 v.ownBlock) (hb : ∀ g, v.ownBlock = some g → base ≤ g) : Kept (fun g => g < base) w0 w1 :=
  kept_by h fun g hg hlt => by have := hb g hg; omega
theorem grown_w {w W wr : World} {v : Value} (h : w.grownBy W none) (h2 : W.grownBy wr v.ownBlock) : w.grownBy wr v.ownBlock := by_trans (by_some h _) h2
theorem moved_w {w W : World} {v v' : Value} (h : w.heap.size ≤ W.heap.size) (hm : Moved W v v') : Moved w v v' := hm.imp id fun h2 g hg => Nat.le_trans h (h2 g hg)
/-- What appendColumns answers. -/
def AppOut (base : Nat) (L : List Int) (v : Value) (w : World) (e : Ending) (w' : World) : Prop := ∃ v', e = .returned v' ∧ OwnN w' base v' L ∧ w.grownBy w' v.ownBlock ∧ Moved w v v'
def AppAt (base k : Nat) (p : Pr) : Prop :=
  ∀ (s v : Value) (c : List Int) (w : World), PrIn (fun g => g < base) w k s p.args → base ≤ w.heap.size → OwnN w base v c → c.length + (colsP p).length ≤ 4398046511104 → Calls Tryd.prog 48 #[v, p.val s] w (AppOut base (c ++ colsP p) v w)
theorem infoI : (Tryd.prog.info? 3).map (fun i => (i.zero, i.size, i.bytes)) = some (some (.int .i64 0), 1, 8) := by kernel_rfl
theorem PBox.by {w w' : World} {g : Nat} {p : Pr} {s : Value} {r : Option Nat} (h : PBox w g p s) (hw : w.grownBy w' r) (hr : r ≠ some g) : PBox w' g p s :=
  have hc : ∀ o, w'.cell? ⟨g, o, none⟩ = w.cell? ⟨g, o, none⟩ := fun o => World.cell?_of_block (hw.block g h.l (fun e => hr e.symm))
  ⟨Nat.lt_of_lt_of_le h.l hw.size, (hc _).trans h.c0, (hc _).trans h.c1, (hc _).trans h.c2, (hc _).trans h.c3, (hc _).trans h.c4, (hc _).trans h.c5, (hc _).trans h.c6, (hc _).trans h.c7, (hc _).trans h.c8, (hc _).trans h.c9, (hc _).trans h.c10, (hc _).trans h.c11, (hc _).trans h.c12⟩
/-- The columns of the first operands. -/
def opsCols (l r : Od) : Nat → List Int
  | 0 => []
  | 1 => opdCols l
  | _ + 2 => opdCols l ++ opdCols r
theorem run_two0 (a b c d e f g h i k : Value) (w : World) : (Instr.index 90 (.agg #[a, b, c, d, e, f, g, h, i, k]) (.int .i64 0)).run Tryd.prog w = .ok (.agg #[a, b, c, d, e]) w := by
  have hu := Tryd.underlying90
  have hz := Tryd.sizeOf26
  have ha := Tryd.isAgg26
  simp [Instr.index, run_underlying hu, asIntOf, go_sem]
theorem run_two1 (a b c d e f g h i k : Value) (w : World) : (Instr.index 90 (.agg #[a, b, c, d, e, f, g, h, i, k]) (.int .i64 1)).run Tryd.prog w = .ok (.agg #[f, g, h, i, k]) w := by
  have hu := Tryd.underlying90
  have hz := Tryd.sizeOf26
  have ha := Tryd.isAgg26
  simp [Instr.index, run_underlying hu, asIntOf, go_sem]
theorem cell_one_new' (w : World) (x : Value) (t : TypeId) : ∀ j u, [x][j]? = some u → (w.alloc (.cells #[x] t)).cell? ((⟨w.heap.size, 0, none⟩ : Addr).add j) = some u := by
  intro j u hj
  rcases j with _ | j
  · simp at hj; subst hj; show (w.alloc _).cell? ⟨w.heap.size, 0 + 0, none⟩ = _; go_simp
  · simp at hj
set_option maxHeartbeats 8000000 in
set_option maxRecDepth 100000 in
theorem app_step (base k : Nat) (p : Pr) (ih : ∀ q ∈ p.args, AppAt base k q) : AppAt base (k + 1) p := by
  intro s v c w hp hb hv hlen
  obtain ⟨ii, hii, hiz, hisz, hiby⟩ := info_parts infoI
  have HII := Lib.hid hii
  have HIZ := Lib.hid hiz
  have HISZ := Lib.hid hisz
  have HIBY := Lib.hid hiby
  have HVL := Lib.hid (fun g hg => (hv.lt g hg))
  have HV := Lib.hid hv
  have HBS := Lib.hid hb
  clear hii hiz hisz hiby
  obtain ⟨sa, sc, rfl, hsl⟩ := hp.shape
  obtain ⟨W, hW⟩ : ∃ W, W = w.alloc (pBlock p (.slice sa p.args.length sc) 29) := ⟨_, rfl⟩
  have hg : Gro w W := by rw [hW]; exact (Gro.refl w).alloc _
  have HBX : Hid (PBox W w.heap.size p (.slice sa p.args.length sc)) := by show PBox _ _ _ _; rw [hW]; exact PBox.new w p _ _
  have HP := Lib.hid (hp.later hg.below)
  have HG := Lib.hid hg
  have HIH := Lib.hid ih
  have HW := Lib.hid hW
  clear hp hg ih hW
  obtain ⟨op, cmp, ⟨lk, li, ⟨lvk, lvn, lvt⟩⟩, ⟨rk, ri, ⟨rvk, rvn, rvt⟩⟩, args⟩ := p
  replace HW : Hid (W = w.alloc (.cells #[.int .i64 op, .int .i64 cmp, .int .i64 lk, .int .i64 li, .int .i64 lvk, .int .i64 lvn, .string lvt, .int .i64 rk, .int .i64 ri, .int .i64 rvk, .int .i64 rvn, .string rvt, .slice sa args.length sc] 29)) := HW.out
  replace HP : Hid (PrIn (fun g => g < base) W (k + 1) (.slice sa args.length sc) args) := HP.out
  replace hsl : args.length ≤ 4398046511104 := hsl
  replace HBX : Hid (PBox W w.heap.size (.mk op cmp ⟨lk, li, ⟨lvk, lvn, lvt⟩⟩ ⟨rk, ri, ⟨rvk, rvn, rvt⟩⟩ args) (.slice sa args.length sc)) := HBX.out
  obtain ⟨l, b0, b1, b2, b3, b4, b5, b6, b7, b8, b9, b10, b11, b12⟩ := HBX.out
  simp only [Pr.op, Pr.cmp, Pr.l, Pr.r, Pr.args] at b0 b1 b2 b3 b4 b5 b6 b7 b8 b9 b10 b11 b12

  replace HIH : Hid (∀ q ∈ args, AppAt base k q) := HIH.out
  have HCE : Hid (colsP (.mk op cmp ⟨lk, li, ⟨lvk, lvn, lvt⟩⟩ ⟨rk, ri, ⟨rvk, rvn, rvt⟩⟩ args) = (if op = 3 then opdCols ⟨lk, li, ⟨lvk, lvn, lvt⟩⟩ ++ opdCols ⟨rk, ri, ⟨rvk, rvn, rvt⟩⟩ else []) ++ colsL args) := colsP_eq op cmp ⟨lk, li, ⟨lvk, lvn, lvt⟩⟩ ⟨rk, ri, ⟨rvk, rvn, rvt⟩⟩ args
  obtain ⟨va, vcap, rfl⟩ := own_slice hv
  show Calls _ _ #[.slice va c.length vcap, .agg #[.int .i64 op, .int .i64 cmp, .int .i64 lk, .int .i64 li, .int .i64 lvk, .int .i64 lvn, .string lvt, .int .i64 rk, .int .i64 ri, .int .i64 rvk, .int .i64 rvn, .string rvt, .slice sa args.length sc]] _ (AppOut base (c ++ colsP (.mk op cmp ⟨lk, li, ⟨lvk, lvn, lvt⟩⟩ ⟨rk, ri, ⟨rvk, rvn, rvt⟩⟩ args)) (.slice va c.length vcap) w)
  have HLEN : Hid (c.length + (colsP (.mk op cmp ⟨lk, li, ⟨lvk, lvn, lvt⟩⟩ ⟨rk, ri, ⟨rvk, rvn, rvt⟩⟩ args)).length ≤ 4398046511104) := hlen
  have HW0 : Hid (w.grownBy W (none : Option Nat)) := by show w.grownBy W none; rw [HW.out]; exact World.grownBy_alloc _ _ _
  have HWS : Hid (W.heap.size = w.heap.size + 1) := by show _ = _; rw [HW.out]; simp
  generalize hV : Value.slice va c.length vcap = V at HV HVL ⊢
  have HVV := Lib.hid hV
  clear hv hlen
  have HV1 : Hid (OwnN W base V c) := by show OwnN W base V c; rw [HW.out]; exact HV.out.alloc _
  have HBASE : Hid (base ≤ W.heap.size) := by show _ ≤ _; have := HWS.out; have := HBS.out; omega
  have HLT : Hid (∀ wr x, W.grownBy wr V.ownBlock → Moved W V x → x.ownBlock ≠ some w.heap.size) := fun wr x hw hm he => by
    rcases hm with hm | hm
    · have := (HVL.out w.heap.size (by rw [← hm]; exact he)).2; omega
    · have := hm _ he; have := HWS.out; omega
  have HKE : Hid (∀ wr, W.grownBy wr V.ownBlock → Kept (fun g => g < base) W wr) := fun wr hw => below_grown hw fun g hg => (HVL.out g hg).1
  generalize hN : args.length = N at HP HW b12 HBX hsl ⊢
  have HN := Lib.hid hN
  clear hN
  by_cases h3 : op = 3
  · subst h3
    replace HCE : Hid (colsP (.mk 3 cmp ⟨lk, li, ⟨lvk, lvn, lvt⟩⟩ ⟨rk, ri, ⟨rvk, rvn, rvt⟩⟩ args) = opdCols ⟨lk, li, ⟨lvk, lvn, lvt⟩⟩ ++ opdCols ⟨rk, ri, ⟨rvk, rvn, rvt⟩⟩ ++ colsL args) := by show _ = _; rw [HCE.out, if_pos rfl]
    have HTOT : Hid ((c ++ opsCols ⟨lk, li, ⟨lvk, lvn, lvt⟩⟩ ⟨rk, ri, ⟨rvk, rvn, rvt⟩⟩ 2 ++ colsL args).length ≤ 4398046511104) := by
      show _ ≤ _
      have h1 := HLEN.out
      rw [HCE.out] at h1
      rw [List.append_assoc, List.length_append]; exact h1
    have HRES : Hid ((c ++ opsCols ⟨lk, li, ⟨lvk, lvn, lvt⟩⟩ ⟨rk, ri, ⟨rvk, rvn, rvt⟩⟩ 2 ++ colsL args) = c ++ colsP (.mk 3 cmp ⟨lk, li, ⟨lvk, lvn, lvt⟩⟩ ⟨rk, ri, ⟨rvk, rvn, rvt⟩⟩ args)) := by
      show _ = _
      rw [HCE.out, List.append_assoc]; rfl
    go_enter Tryd.func48, Tryd.ntmps48
    go_wp2_with fail
    rw [← HW.out]
    go_loopw [0, 17] (fun x i wr => ∃ j : Nat, j ≤ 2 ∧ i = .int .i64 j ∧ OwnN wr base x (c ++ opsCols ⟨lk, li, ⟨lvk, lvn, lvt⟩⟩ ⟨rk, ri, ⟨rvk, rvn, rvt⟩⟩ j) ∧ W.grownBy wr V.ownBlock ∧ Moved W V x) (fun _ i _ => 2 - (intOf i).toNat)
    case atStart => exact ⟨0, by omega, rfl, by rw [opsCols, List.append_nil]; exact HV1.out, ⟨rfl, rfl, rfl, Nat.le_refl _, fun _ _ _ => rfl⟩, Moved.refl _ _⟩
    case round =>
      obtain ⟨j, hj, rfl, hown, hg, hm⟩ := hrel
      have HGR := Lib.hid hg
      have HMV := Lib.hid hm
      have hbx := HBX.out.by hg (fun h => (HLT.out W V ⟨rfl, rfl, rfl, Nat.le_refl _, fun _ _ _ => rfl⟩ (Moved.refl _ _)) h)
      obtain ⟨l0, b0, b1, b2, b3, b4, b5, b6, b7, b8, b9, b10, b11, b12⟩ := hbx
      simp only [Pr.op, Pr.cmp, Pr.l, Pr.r, Pr.args] at b0 b1 b2 b3 b4 b5 b6 b7 b8 b9 b10 b11 b12
      obtain rfl | rfl | rfl : j = 0 ∨ j = 1 ∨ j = 2 := by omega
      · have hwk := step_i 0 (by omega)
        have hx0 := run_two0
        obtain ⟨C1, hC1⟩ : ∃ C1, c ++ opsCols ⟨lk, li, ⟨lvk, lvn, lvt⟩⟩ ⟨rk, ri, ⟨rvk, rvn, rvt⟩⟩ 0 = C1 := ⟨_, rfl⟩
        rw [hC1] at hown
        have HC1 := Lib.hid hC1
        clear hC1
        by_cases hk1 : lk = 1
        · by_cases hi0 : 0 ≤ li
          · have HO : Hid (opdCols ⟨lk, li, ⟨lvk, lvn, lvt⟩⟩ = [li]) := by show _ = _; unfold opdCols; rw [if_pos ⟨hk1, hi0⟩]
            have hd : decide ((0 : Int) ≤ li) = true := by simpa using hi0
            have HOA : Hid (((wr.alloc (.cells #[.int .i64 lk, .int .i64 li, .int .i64 lvk, .int .i64 lvn, .string lvt] 26)).alloc (.cells #[.int .i64 li] 3)).ownsRow base 3 1 u0 C1.length (ints C1)) := (World.ownsRow.alloc (World.ownsRow.alloc hown _) _)
            have HLE : Hid (C1.length + 1 ≤ 4398046511104) := by
              show _ ≤ _
              rw [← HC1.out]
              have h1 := HLEN.out
              rw [HCE.out] at h1
              have h0 : (opdCols ⟨lk, li, ⟨lvk, lvn, lvt⟩⟩).length ≤ 1 ∧ (opdCols ⟨rk, ri, ⟨rvk, rvn, rvt⟩⟩).length ≤ 1 := by constructor <;> (unfold opdCols; split <;> simp)
              simp only [List.length_append, opsCols, List.length_nil] at h1 ⊢
              have h2 : (opdCols ⟨lk, li, ⟨lvk, lvn, lvt⟩⟩).length = 1 := by rw [HO.out]; rfl
              omega
            have hkk : (lk == 1) = true := by simpa using hk1
            clear hown hg hm hk1
            go_wp2_with (at_builtin; go_must (refine wpList_append_lies _ rfl _ _ 30 rfl base 3 ii (.int .i64 0) 1 8 Tryd.underlying30 HII.out HIZ.out HISZ.out HIBY.out rfl (by decide) u0 C1.length (ints C1) rfl HOA.out ⟨wr.heap.size + 1, 0, none⟩ 1 1 [.int .i64 li] rfl rfl ?c1 ?c2 (by decide) ?c3 ?c4 ?c5 _ rfl ?_))
            case c1 =>
              intro jj u hj
              rcases jj with _ | jj
              · simp at hj; subst hj; show World.cell? _ ⟨wr.heap.size + 1, 0 + 0, none⟩ = _; go_simp
              · simp at hj
            case c2 => intro u hu; simp at hu; subst hu; rfl
            case c3 => have := HLE.out; unfold maxLen; omega
            case c4 => have := HLE.out; omega
            case c5 => have := HGR.out.size; have := HBASE.out; simp; omega
            intro g2 cap2 w2 ho2 hg2 hl2 hlt2
            have HF : Hid (OwnN w2 base (.slice (some ⟨g2, 0, none⟩) (C1.length + 1) cap2) (c ++ opsCols ⟨lk, li, ⟨lvk, lvn, lvt⟩⟩ ⟨rk, ri, ⟨rvk, rvn, rvt⟩⟩ (0 + 1)) ∧ W.grownBy w2 V.ownBlock ∧ Moved W V (.slice (some ⟨g2, 0, none⟩) (C1.length + 1) cap2)) := by
              have hga := grown_alloc (grown_alloc HGR.out (.cells #[.int .i64 lk, .int .i64 li, .int .i64 lvk, .int .i64 lvn, .string lvt] 26)) (.cells #[.int .i64 li] 3)
              refine ⟨?_, grown_step hga HMV.out hg2, ?_⟩
              · have e1 : c ++ opsCols ⟨lk, li, ⟨lvk, lvn, lvt⟩⟩ ⟨rk, ri, ⟨rvk, rvn, rvt⟩⟩ (0 + 1) = C1 ++ [li] := by rw [← HC1.out, List.append_assoc, ← HO.out]; rfl
                rw [e1]
                show World.ownsRow _ _ _ _ _ _ _
                rw [List.length_append (bs := [li]), ints_append]
                exact ho2
              · rcases hl2 with h | h
                · rcases HMV.out with h' | h'
                  · exact .inl (h.symm.trans h')
                  · exact .inr fun g hg => h' g (h.trans hg)
                · refine .inr fun g hg => ?_
                  cases hg
                  have := HGR.out.size
                  rw [h] at *; simp; omega
            clear ho2 hg2 hl2 hlt2
            go_wp2
            generalize wrap64 (((0 : Nat) : Int) + 1) = z at hwk ⊢
            subst hwk
            exact ⟨⟨0 + 1, by omega, by go_num, HF.out.1, HF.out.2.1, HF.out.2.2⟩, by simp [intOf]⟩
          · have HO : Hid (opdCols ⟨lk, li, ⟨lvk, lvn, lvt⟩⟩ = []) := by show _ = _; unfold opdCols; rw [if_neg (fun h => hi0 h.2)]
            have hd : decide ((0 : Int) ≤ li) = false := by simpa using hi0
            have HF : Hid (OwnN (wr.alloc (.cells #[.int .i64 lk, .int .i64 li, .int .i64 lvk, .int .i64 lvn, .string lvt] 26)) base u0 (c ++ opsCols ⟨lk, li, ⟨lvk, lvn, lvt⟩⟩ ⟨rk, ri, ⟨rvk, rvn, rvt⟩⟩ (0 + 1))) := by
              have e1 : c ++ opsCols ⟨lk, li, ⟨lvk, lvn, lvt⟩⟩ ⟨rk, ri, ⟨rvk, rvn, rvt⟩⟩ (0 + 1) = C1 := by
                have : opsCols ⟨lk, li, ⟨lvk, lvn, lvt⟩⟩ ⟨rk, ri, ⟨rvk, rvn, rvt⟩⟩ (0 + 1) = opsCols ⟨lk, li, ⟨lvk, lvn, lvt⟩⟩ ⟨rk, ri, ⟨rvk, rvn, rvt⟩⟩ 0 ++ opdCols ⟨lk, li, ⟨lvk, lvn, lvt⟩⟩ := rfl
                rw [this, HO.out, List.append_nil, HC1.out]
              show OwnN _ _ _ _
              rw [e1]; exact World.ownsRow.alloc hown _
            have hkk : (lk == 1) = true := by simpa using hk1
            clear hown hg hm hk1
            go_wp2
            generalize wrap64 (((0 : Nat) : Int) + 1) = z at hwk ⊢
            subst hwk
            exact ⟨⟨0 + 1, by omega, by go_num, HF.out, grown_alloc HGR.out _, HMV.out⟩, by simp [intOf]⟩
        · have HO : Hid (opdCols ⟨lk, li, ⟨lvk, lvn, lvt⟩⟩ = []) := by show _ = _; unfold opdCols; rw [if_neg (fun h => hk1 h.1)]
          have hkk : (lk == 1) = false := by simpa using hk1
          have HF : Hid (OwnN (wr.alloc (.cells #[.int .i64 lk, .int .i64 li, .int .i64 lvk, .int .i64 lvn, .string lvt] 26)) base u0 (c ++ opsCols ⟨lk, li, ⟨lvk, lvn, lvt⟩⟩ ⟨rk, ri, ⟨rvk, rvn, rvt⟩⟩ (0 + 1))) := by
            have e1 : c ++ opsCols ⟨lk, li, ⟨lvk, lvn, lvt⟩⟩ ⟨rk, ri, ⟨rvk, rvn, rvt⟩⟩ (0 + 1) = C1 := by
              have : opsCols ⟨lk, li, ⟨lvk, lvn, lvt⟩⟩ ⟨rk, ri, ⟨rvk, rvn, rvt⟩⟩ (0 + 1) = opsCols ⟨lk, li, ⟨lvk, lvn, lvt⟩⟩ ⟨rk, ri, ⟨rvk, rvn, rvt⟩⟩ 0 ++ opdCols ⟨lk, li, ⟨lvk, lvn, lvt⟩⟩ := rfl
              rw [this, HO.out, List.append_nil, HC1.out]
            show OwnN _ _ _ _
            rw [e1]; exact World.ownsRow.alloc hown _
          clear hown hg hm
          go_wp2
          generalize wrap64 (((0 : Nat) : Int) + 1) = z at hwk ⊢
          subst hwk
          exact ⟨⟨0 + 1, by omega, by go_num, HF.out, grown_alloc HGR.out _, HMV.out⟩, by simp [intOf]⟩

      · have hwk := step_i 1 (by omega)
        have hx0 := run_two1
        obtain ⟨C1, hC1⟩ : ∃ C1, c ++ opsCols ⟨lk, li, ⟨lvk, lvn, lvt⟩⟩ ⟨rk, ri, ⟨rvk, rvn, rvt⟩⟩ 1 = C1 := ⟨_, rfl⟩
        rw [hC1] at hown
        have HC1 := Lib.hid hC1
        clear hC1
        by_cases hk1 : rk = 1
        · by_cases hi0 : 0 ≤ ri
          · have HO : Hid (opdCols ⟨rk, ri, ⟨rvk, rvn, rvt⟩⟩ = [ri]) := by show _ = _; unfold opdCols; rw [if_pos ⟨hk1, hi0⟩]
            have hd : decide ((0 : Int) ≤ ri) = true := by simpa using hi0
            have HOA : Hid (((wr.alloc (.cells #[.int .i64 rk, .int .i64 ri, .int .i64 rvk, .int .i64 rvn, .string rvt] 26)).alloc (.cells #[.int .i64 ri] 3)).ownsRow base 3 1 u0 C1.length (ints C1)) := (World.ownsRow.alloc (World.ownsRow.alloc hown _) _)
            have HLE : Hid (C1.length + 1 ≤ 4398046511104) := by
              show _ ≤ _
              rw [← HC1.out]
              have h1 := HLEN.out
              rw [HCE.out] at h1
              have h0 : (opdCols ⟨lk, li, ⟨lvk, lvn, lvt⟩⟩).length ≤ 1 ∧ (opdCols ⟨rk, ri, ⟨rvk, rvn, rvt⟩⟩).length ≤ 1 := by constructor <;> (unfold opdCols; split <;> simp)
              simp only [List.length_append, opsCols, List.length_nil] at h1 ⊢
              have h2 : (opdCols ⟨rk, ri, ⟨rvk, rvn, rvt⟩⟩).length = 1 := by rw [HO.out]; rfl
              omega
            have hkk : (rk == 1) = true := by simpa using hk1
            clear hown hg hm hk1
            go_wp2_with (at_builtin; go_must (refine wpList_append_lies _ rfl _ _ 30 rfl base 3 ii (.int .i64 0) 1 8 Tryd.underlying30 HII.out HIZ.out HISZ.out HIBY.out rfl (by decide) u0 C1.length (ints C1) rfl HOA.out ⟨wr.heap.size + 1, 0, none⟩ 1 1 [.int .i64 ri] rfl rfl ?c1 ?c2 (by decide) ?c3 ?c4 ?c5 _ rfl ?_))
            case c1 =>
              intro jj u hj
              rcases jj with _ | jj
              · simp at hj; subst hj; show World.cell? _ ⟨wr.heap.size + 1, 0 + 0, none⟩ = _; go_simp
              · simp at hj
            case c2 => intro u hu; simp at hu; subst hu; rfl
            case c3 => have := HLE.out; unfold maxLen; omega
            case c4 => have := HLE.out; omega
            case c5 => have := HGR.out.size; have := HBASE.out; simp; omega
            intro g2 cap2 w2 ho2 hg2 hl2 hlt2
            have HF : Hid (OwnN w2 base (.slice (some ⟨g2, 0, none⟩) (C1.length + 1) cap2) (c ++ opsCols ⟨lk, li, ⟨lvk, lvn, lvt⟩⟩ ⟨rk, ri, ⟨rvk, rvn, rvt⟩⟩ (1 + 1)) ∧ W.grownBy w2 V.ownBlock ∧ Moved W V (.slice (some ⟨g2, 0, none⟩) (C1.length + 1) cap2)) := by
              have hga := grown_alloc (grown_alloc HGR.out (.cells #[.int .i64 rk, .int .i64 ri, .int .i64 rvk, .int .i64 rvn, .string rvt] 26)) (.cells #[.int .i64 ri] 3)
              refine ⟨?_, grown_step hga HMV.out hg2, ?_⟩
              · have e1 : c ++ opsCols ⟨lk, li, ⟨lvk, lvn, lvt⟩⟩ ⟨rk, ri, ⟨rvk, rvn, rvt⟩⟩ (1 + 1) = C1 ++ [ri] := by rw [← HC1.out, List.append_assoc, ← HO.out]; rfl
                rw [e1]
                show World.ownsRow _ _ _ _ _ _ _
                rw [List.length_append (bs := [ri]), ints_append]
                exact ho2
              · rcases hl2 with h | h
                · rcases HMV.out with h' | h'
                  · exact .inl (h.symm.trans h')
                  · exact .inr fun g hg => h' g (h.trans hg)
                · refine .inr fun g hg => ?_
                  cases hg
                  have := HGR.out.size
                  rw [h] at *; simp; omega
            clear ho2 hg2 hl2 hlt2
            go_wp2
            generalize wrap64 (((1 : Nat) : Int) + 1) = z at hwk ⊢
            subst hwk
            exact ⟨⟨1 + 1, by omega, by go_num, HF.out.1, HF.out.2.1, HF.out.2.2⟩, by simp [intOf]⟩
          · have HO : Hid (opdCols ⟨rk, ri, ⟨rvk, rvn, rvt⟩⟩ = []) := by show _ = _; unfold opdCols; rw [if_neg (fun h => hi0 h.2)]
            have hd : decide ((0 : Int) ≤ ri) = false := by simpa using hi0
            have HF : Hid (OwnN (wr.alloc (.cells #[.int .i64 rk, .int .i64 ri, .int .i64 rvk, .int .i64 rvn, .string rvt] 26)) base u0 (c ++ opsCols ⟨lk, li, ⟨lvk, lvn, lvt⟩⟩ ⟨rk, ri, ⟨rvk, rvn, rvt⟩⟩ (1 + 1))) := by
              have e1 : c ++ opsCols ⟨lk, li, ⟨lvk, lvn, lvt⟩⟩ ⟨rk, ri, ⟨rvk, rvn, rvt⟩⟩ (1 + 1) = C1 := by
                have : opsCols ⟨lk, li, ⟨lvk, lvn, lvt⟩⟩ ⟨rk, ri, ⟨rvk, rvn, rvt⟩⟩ (1 + 1) = opsCols ⟨lk, li, ⟨lvk, lvn, lvt⟩⟩ ⟨rk, ri, ⟨rvk, rvn, rvt⟩⟩ 1 ++ opdCols ⟨rk, ri, ⟨rvk, rvn, rvt⟩⟩ := rfl
                rw [this, HO.out, List.append_nil, HC1.out]
              show OwnN _ _ _ _
              rw [e1]; exact World.ownsRow.alloc hown _
            have hkk : (rk == 1) = true := by simpa using hk1
            clear hown hg hm hk1
            go_wp2
            generalize wrap64 (((1 : Nat) : Int) + 1) = z at hwk ⊢
            subst hwk
            exact ⟨⟨1 + 1, by omega, by go_num, HF.out, grown_alloc HGR.out _, HMV.out⟩, by simp [intOf]⟩
        · have HO : Hid (opdCols ⟨rk, ri, ⟨rvk, rvn, rvt⟩⟩ = []) := by show _ = _; unfold opdCols; rw [if_neg (fun h => hk1 h.1)]
          have hkk : (rk == 1) = false := by simpa using hk1
          have HF : Hid (OwnN (wr.alloc (.cells #[.int .i64 rk, .int .i64 ri, .int .i64 rvk, .int .i64 rvn, .string rvt] 26)) base u0 (c ++ opsCols ⟨lk, li, ⟨lvk, lvn, lvt⟩⟩ ⟨rk, ri, ⟨rvk, rvn, rvt⟩⟩ (1 + 1))) := by
            have e1 : c ++ opsCols ⟨lk, li, ⟨lvk, lvn, lvt⟩⟩ ⟨rk, ri, ⟨rvk, rvn, rvt⟩⟩ (1 + 1) = C1 := by
              have : opsCols ⟨lk, li, ⟨lvk, lvn, lvt⟩⟩ ⟨rk, ri, ⟨rvk, rvn, rvt⟩⟩ (1 + 1) = opsCols ⟨lk, li, ⟨lvk, lvn, lvt⟩⟩ ⟨rk, ri, ⟨rvk, rvn, rvt⟩⟩ 1 ++ opdCols ⟨rk, ri, ⟨rvk, rvn, rvt⟩⟩ := rfl
              rw [this, HO.out, List.append_nil, HC1.out]
            show OwnN _ _ _ _
            rw [e1]; exact World.ownsRow.alloc hown _
          clear hown hg hm
          go_wp2
          generalize wrap64 (((1 : Nat) : Int) + 1) = z at hwk ⊢
          subst hwk
          exact ⟨⟨1 + 1, by omega, by go_num, HF.out, grown_alloc HGR.out _, HMV.out⟩, by simp [intOf]⟩

      · have HOW1 := Lib.hid hown
        clear hown hg hm
        go_wp2_with fail
        go_loopw [0, 37] (fun x i wr => ∃ j : Nat, j ≤ N ∧ i = .int .i64 j ∧ OwnN wr base x (c ++ opsCols ⟨lk, li, ⟨lvk, lvn, lvt⟩⟩ ⟨rk, ri, ⟨rvk, rvn, rvt⟩⟩ 2 ++ colsL (args.take j)) ∧ W.grownBy wr V.ownBlock ∧ Moved W V x) (fun _ i _ => N - (intOf i).toNat)
        case atStart => exact ⟨0, by omega, rfl, by rw [List.take_zero, colsL, List.append_nil]; exact HOW1.out, HGR.out, HMV.out⟩
        case round =>
          obtain ⟨j, hj, rfl, hown, hg, hm⟩ := hrel
          have HOW := Lib.hid hown
          have HGR := Lib.hid hg
          have HMV := Lib.hid hm
          by_cases hlt : j < N
          · have hkl : j < args.length := by rw [HN.out]; exact hlt
            have hlt' : decide ((j : Int) < (N : Int)) = true := by simp; omega
            obtain ⟨b, off, s, rfl, hbl, -, hat, hr⟩ := (HP.out.kept (HKE.out wr hg)).get hkl
            obtain ⟨s1, s2, rfl, -⟩ := hr.shape
            have HTA := Lib.hid (colsL_take hkl)
            have HLE : Hid ((c ++ opsCols ⟨lk, li, ⟨lvk, lvn, lvt⟩⟩ ⟨rk, ri, ⟨rvk, rvn, rvt⟩⟩ 2 ++ colsL (args.take j)).length + (colsP args[j]).length ≤ 4398046511104) := by
              show _ ≤ _
              have h1 := colsL_le args (j + 1)
              have h2 := HTOT.out
              rw [HTA.out, List.length_append] at h1
              rw [List.length_append] at h2 ⊢
              omega
            obtain ⟨wn, hwn⟩ : ∃ wn, wn = wr.alloc (pBlock args[j] (.slice s1 args[j].args.length s2) 29) := ⟨_, rfl⟩
            have hc := HIH.out args[j] (List.getElem_mem hkl) (.slice s1 args[j].args.length s2) u0 (c ++ opsCols ⟨lk, li, ⟨lvk, lvn, lvt⟩⟩ ⟨rk, ri, ⟨rvk, rvn, rvt⟩⟩ 2 ++ colsL (args.take j)) wn (by rw [hwn]; exact hr.kept (kept_by (World.grownBy_alloc wr _ none) (fun g h => by cases h))) (by rw [hwn]; have := hg.size; have := HBASE.out; simp; omega) (by rw [hwn]; exact World.ownsRow.alloc hown _) HLE.out
            have HWN := Lib.hid hwn
            obtain ⟨q, hq⟩ : ∃ q, args[j] = q := ⟨_, rfl⟩
            rw [hq] at hat hc HWN HTA
            obtain ⟨qop, qcmp, ⟨qlk, qli, ⟨qlvk, qlvn, qlvt⟩⟩, ⟨qrk, qri, ⟨qrvk, qrvn, qrvt⟩⟩, qargs⟩ := q
            obtain ⟨d0, d1, d2, d3, d4, d5, d6, d7, d8, d9, d10, d11, d12⟩ := hat
            simp only [Pr.op, Pr.cmp, Pr.l, Pr.r, Pr.args] at d0 d1 d2 d3 d4 d5 d6 d7 d8 d9 d10 d11 d12
            replace HWN : Hid (wn = wr.alloc (.cells #[.int .i64 qop, .int .i64 qcmp, .int .i64 qlk, .int .i64 qli, .int .i64 qlvk, .int .i64 qlvn, .string qlvt, .int .i64 qrk, .int .i64 qri, .int .i64 qrvk, .int .i64 qrvn, .string qrvt, .slice s1 qargs.length s2] 29)) := HWN.out
            have HC := Lib.hid hc
            have hwk := step_i j (by omega)
            have HJ := Lib.hid hlt
            clear hown hg hm hr hc hwn hq
            go_wp2_with fail
            rw [← HWN.out]
            refine HC.out.mono ?_
            rintro e w2 ⟨v2, rfl, ho2, hg2, hm2⟩
            have HF : Hid (OwnN w2 base v2 (c ++ opsCols ⟨lk, li, ⟨lvk, lvn, lvt⟩⟩ ⟨rk, ri, ⟨rvk, rvn, rvt⟩⟩ 2 ++ colsL (args.take (j + 1))) ∧ W.grownBy w2 V.ownBlock ∧ Moved W V v2) := by
              have hga : W.grownBy wn V.ownBlock := by rw [HWN.out]; exact grown_alloc HGR.out _
              refine ⟨?_, grown_step hga HMV.out hg2, moved_step hga.size HMV.out hm2⟩
              rw [HTA.out, ← List.append_assoc]; exact ho2
            clear HLE hsl ho2 hg2 hm2 hlt' hlt hkl hj d0 d1 d2 d3 d4 d5 d6 d7 d8 d9 d10 d11 d12 hbl
            go_wp2
            generalize wrap64 ((j : Int) + 1) = z at hwk ⊢
            subst hwk
            have hjj := HJ.out
            first
              | exact ⟨⟨j + 1, by omega, by go_num, HF.out.1, HF.out.2.1, HF.out.2.2⟩, by simp [intOf]; omega⟩
              | exact ⟨⟨_, _, _, _, _, _, _, _, _, _, ⟨j + 1, by omega, by go_num, HF.out.1, HF.out.2.1, HF.out.2.2⟩, rfl⟩, by simp [intOf]; omega⟩
          · have hlt' : decide ((j : Int) < (N : Int)) = false := by simp; omega
            have HF : Hid (AppOut base (c ++ colsP (.mk 3 cmp ⟨lk, li, ⟨lvk, lvn, lvt⟩⟩ ⟨rk, ri, ⟨rvk, rvn, rvt⟩⟩ args)) V w (.returned u0) wr) := by
              show AppOut _ _ _ _ _ _
              rw [List.take_of_length_le (by have := HN.out; omega), HRES.out] at hown
              exact ⟨u0, rfl, hown, grown_w (HW0.out) hg, moved_w (by have := HWS.out; omega) hm⟩
            clear hown hg hm
            go_wp2
            go_ret
            exact HF.out

  · have HTOT : Hid ((c ++ colsL args).length ≤ 4398046511104) := by
      show _ ≤ _
      have h1 := HLEN.out
      rw [HCE.out, if_neg h3] at h1
      rw [List.length_append]; exact h1
    have HRES : Hid ((c ++ colsL args) = c ++ colsP (.mk op cmp ⟨lk, li, ⟨lvk, lvn, lvt⟩⟩ ⟨rk, ri, ⟨rvk, rvn, rvt⟩⟩ args)) := by
      show _ = _
      rw [HCE.out, if_neg h3]; rfl
    have h3' : (op == 3) = false := by simpa using h3
    have HGR0 : Hid (W.grownBy W V.ownBlock) := ⟨rfl, rfl, rfl, Nat.le_refl _, fun _ _ _ => rfl⟩
    have HMV0 : Hid (Moved W V V) := Moved.refl _ _
    go_enter Tryd.func48, Tryd.ntmps48
    go_wp2_with fail
    rw [← HW.out]
    go_loopw [0, 37] (fun x i wr => ∃ j : Nat, j ≤ N ∧ i = .int .i64 j ∧ OwnN wr base x (c ++ colsL (args.take j)) ∧ W.grownBy wr V.ownBlock ∧ Moved W V x) (fun _ i _ => N - (intOf i).toNat)
    case atStart => exact ⟨0, by omega, rfl, by rw [List.take_zero, colsL, List.append_nil]; exact HV1.out, HGR0.out, HMV0.out⟩
    case round =>
      obtain ⟨j, hj, rfl, hown, hg, hm⟩ := hrel
      have HOW := Lib.hid hown
      have HGR := Lib.hid hg
      have HMV := Lib.hid hm
      by_cases hlt : j < N
      · have hkl : j < args.length := by rw [HN.out]; exact hlt
        have hlt' : decide ((j : Int) < (N : Int)) = true := by simp; omega
        obtain ⟨b, off, s, rfl, hbl, -, hat, hr⟩ := (HP.out.kept (HKE.out wr hg)).get hkl
        obtain ⟨s1, s2, rfl, -⟩ := hr.shape
        have HTA := Lib.hid (colsL_take hkl)
        have HLE : Hid ((c ++ colsL (args.take j)).length + (colsP args[j]).length ≤ 4398046511104) := by
          show _ ≤ _
          have h1 := colsL_le args (j + 1)
          have h2 := HTOT.out
          rw [HTA.out, List.length_append] at h1
          rw [List.length_append] at h2 ⊢
          omega
        obtain ⟨wn, hwn⟩ : ∃ wn, wn = wr.alloc (pBlock args[j] (.slice s1 args[j].args.length s2) 29) := ⟨_, rfl⟩
        have hc := HIH.out args[j] (List.getElem_mem hkl) (.slice s1 args[j].args.length s2) u0 (c ++ colsL (args.take j)) wn (by rw [hwn]; exact hr.kept (kept_by (World.grownBy_alloc wr _ none) (fun g h => by cases h))) (by rw [hwn]; have := hg.size; have := HBASE.out; simp; omega) (by rw [hwn]; exact World.ownsRow.alloc hown _) HLE.out
        have HWN := Lib.hid hwn
        obtain ⟨q, hq⟩ : ∃ q, args[j] = q := ⟨_, rfl⟩
        rw [hq] at hat hc HWN HTA
        obtain ⟨qop, qcmp, ⟨qlk, qli, ⟨qlvk, qlvn, qlvt⟩⟩, ⟨qrk, qri, ⟨qrvk, qrvn, qrvt⟩⟩, qargs⟩ := q
        obtain ⟨d0, d1, d2, d3, d4, d5, d6, d7, d8, d9, d10, d11, d12⟩ := hat
        simp only [Pr.op, Pr.cmp, Pr.l, Pr.r, Pr.args] at d0 d1 d2 d3 d4 d5 d6 d7 d8 d9 d10 d11 d12
        replace HWN : Hid (wn = wr.alloc (.cells #[.int .i64 qop, .int .i64 qcmp, .int .i64 qlk, .int .i64 qli, .int .i64 qlvk, .int .i64 qlvn, .string qlvt, .int .i64 qrk, .int .i64 qri, .int .i64 qrvk, .int .i64 qrvn, .string qrvt, .slice s1 qargs.length s2] 29)) := HWN.out
        have HC := Lib.hid hc
        have hwk := step_i j (by omega)
        have HJ := Lib.hid hlt
        clear hown hg hm hr hc hwn hq
        go_wp2_with fail
        rw [← HWN.out]
        refine HC.out.mono ?_
        rintro e w2 ⟨v2, rfl, ho2, hg2, hm2⟩
        have HF : Hid (OwnN w2 base v2 (c ++ colsL (args.take (j + 1))) ∧ W.grownBy w2 V.ownBlock ∧ Moved W V v2) := by
          have hga : W.grownBy wn V.ownBlock := by rw [HWN.out]; exact grown_alloc HGR.out _
          refine ⟨?_, grown_step hga HMV.out hg2, moved_step hga.size HMV.out hm2⟩
          rw [HTA.out, ← List.append_assoc]; exact ho2
        clear HLE hsl ho2 hg2 hm2 hlt' hlt hkl hj d0 d1 d2 d3 d4 d5 d6 d7 d8 d9 d10 d11 d12 hbl
        go_wp2
        generalize wrap64 ((j : Int) + 1) = z at hwk ⊢
        subst hwk
        have hjj := HJ.out
        first
          | exact ⟨⟨j + 1, by omega, by go_num, HF.out.1, HF.out.2.1, HF.out.2.2⟩, by simp [intOf]; omega⟩
          | exact ⟨⟨_, _, _, _, _, _, _, _, _, _, ⟨j + 1, by omega, by go_num, HF.out.1, HF.out.2.1, HF.out.2.2⟩, rfl⟩, by simp [intOf]; omega⟩
      · have hlt' : decide ((j : Int) < (N : Int)) = false := by simp; omega
        have HF : Hid (AppOut base (c ++ colsP (.mk op cmp ⟨lk, li, ⟨lvk, lvn, lvt⟩⟩ ⟨rk, ri, ⟨rvk, rvn, rvt⟩⟩ args)) V w (.returned u0) wr) := by
          show AppOut _ _ _ _ _ _
          rw [List.take_of_length_le (by have := HN.out; omega), HRES.out] at hown
          exact ⟨u0, rfl, hown, grown_w (HW0.out) hg, moved_w (by have := HWS.out; omega) hm⟩
        clear hown hg hm
        go_wp2
        go_ret
        exact HF.out

theorem app_at (base : Nat) : ∀ (k : Nat) (p : Pr), AppAt base k p
  | 0, p => fun s v c w hp hb hv hl => app_step base 0 p (fun q hq => by rw [hp.1] at hq; simp at hq) s v c w hp.deeper hb hv hl
  | k + 1, p => app_step base k p fun q _ => app_at base k q
end Go.Proofs.YtndnlmpmloiiiaaDoor
