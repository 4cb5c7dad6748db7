/- The contract of the case's operand. -/
import Derived.Test.YtpmlhgakbpfgmaaDoorQa
import Derived.Test.YtpmlhgakbpfgmaaDoorPp
set_option linter.unusedSimpArgs false
set_option linter.unusedVariables false
namespace Go.Proofs.YtpmlhgakbpfgmaaDoor
open Go.RowKit

def flatO : List Od → List Value
  | [] => []
  | x :: r => .int .i64 x.k :: .int .i64 x.i :: .int .i64 x.v.k :: .int .i64 x.v.n :: .string x.v.t :: flatO r
theorem flatO_length : ∀ r : List Od, (flatO r).length = r.length * 5
  | [] => rfl
  | x :: r => by simp only [flatO, List.length_cons, flatO_length r]; omega
theorem flatO_snoc : ∀ (r : List Od) (x : Od), flatO (r ++ [x]) = flatO r ++ [.int .i64 x.k, .int .i64 x.i, .int .i64 x.v.k, .int .i64 x.v.n, .string x.v.t]
  | [], x => rfl
  | y :: r, x => by rw [List.cons_append, flatO, flatO_snoc r x]; rfl
theorem flatO_at : ∀ (r : List Od) (i : Nat) (h : i < r.length), (flatO r)[i * 5]? = some (.int .i64 r[i].k) ∧ (flatO r)[i * 5 + 1]? = some (.int .i64 r[i].i) ∧ (flatO r)[i * 5 + 2]? = some (.int .i64 r[i].v.k) ∧ (flatO r)[i * 5 + 3]? = some (.int .i64 r[i].v.n) ∧ (flatO r)[i * 5 + 4]? = some (.string r[i].v.t)
  | x :: r, 0, h => by simp [flatO]
  | x :: r, i + 1, h => by
    have h2 := flatO_at r i (by simpa using h)
    rw [show (i + 1) * 5 = i * 5 + 5 from by omega]
    simpa [flatO] using h2
def OwnO (w : World) (base : Nat) (v : Value) (l : List Od) : Prop := w.ownsRow base 58 5 v l.length (flatO l)
theorem infoO : (Tryd.prog.info? 58).map (fun i => (i.zero, i.size, i.bytes)) = some (some (Od.val ⟨0, 0, ⟨0, 0, ⟨#[]⟩⟩⟩), 5, 48) := by kernel_rfl
theorem OwnO.get {w : World} {base n cap : Nat} {a : Option Addr} {l : List Od} (h : OwnO w base (.slice a n cap) l) {i : Nat} (hi : i < l.length) :
    ∃ g, a = some ⟨g, 0, none⟩ ∧ g < w.heap.size ∧ base ≤ g ∧ w.cell? ⟨g, i * 5, none⟩ = some (.int .i64 l[i].k) ∧ w.cell? ⟨g, i * 5 + 1, none⟩ = some (.int .i64 l[i].i) ∧ w.cell? ⟨g, i * 5 + 2, none⟩ = some (.int .i64 l[i].v.k) ∧ w.cell? ⟨g, i * 5 + 3, none⟩ = some (.int .i64 l[i].v.n) ∧ w.cell? ⟨g, i * 5 + 4, none⟩ = some (.string l[i].v.t) := by
  obtain ⟨hx, ⟨hv, hn⟩ | ⟨g, cp, cur, hv, hg, hh, hcap, hm, hs, ht⟩⟩ := h
  · omega
  · simp only [Value.slice.injEq] at hv
    obtain ⟨rfl, rfl, rfl⟩ := hv
    have h' : w.ownsRow base 58 5 (.slice (some ⟨g, 0, none⟩) l.length cap) l.length (flatO l) := ⟨hx, .inr ⟨g, cap, cur, rfl, hg, hh, hcap, hm, hs, ht⟩⟩
    obtain ⟨f0, f1, f2, f3, f4⟩ := flatO_at l i hi
    exact ⟨g, rfl, (Array.getElem?_eq_some_iff.1 hh).1, hg, (h'.cellAt _ (by omega)).trans f0, (h'.cellAt _ (by omega)).trans f1, (h'.cellAt _ (by omega)).trans f2, (h'.cellAt _ (by omega)).trans f3, (h'.cellAt _ (by omega)).trans f4⟩
theorem cell_five_new (w : World) (a b c d e : Value) (t : TypeId) : ∀ j u, [a, b, c, d, e][j]? = some u → (w.alloc (.cells #[a, b, c, d, e] t)).cell? ((⟨w.heap.size, 0, none⟩ : Addr).add j) = some u := by
  intro j u hj
  rcases j with _ | _ | _ | _ | _ | j
  · simp at hj; subst hj; show (w.alloc _).cell? ⟨w.heap.size, 0 + 0, none⟩ = _; go_simp
  · simp at hj; subst hj; show (w.alloc _).cell? ⟨w.heap.size, 0 + 1, none⟩ = _; go_simp
  · simp at hj; subst hj; show (w.alloc _).cell? ⟨w.heap.size, 0 + 2, none⟩ = _; go_simp
  · simp at hj; subst hj; show (w.alloc _).cell? ⟨w.heap.size, 0 + 3, none⟩ = _; go_simp
  · simp at hj; subst hj; show (w.alloc _).cell? ⟨w.heap.size, 0 + 4, none⟩ = _; go_simp
  · simp at hj
/-- An operand of the kind that was asked for. -/
def GotOp (b : Nat) (c : CaseId) (cols par : List Int) (k : Int) (w : World) (e : Ending) (w' : World) : Prop := ∃ x : Od, e = .returned x.val ∧ kindO cols par x = k ∧ CaseAt w' b c ∧ w.grownBy w' (some b)
theorem kind_col {cols par : List Int} {j : Nat} (h : j < cols.length) : kindO cols par ⟨1, j, nilV⟩ = cols[j] := by
  unfold kindO
  rw [if_pos rfl]
  unfold kAt
  rw [if_pos ⟨by show (0 : Int) ≤ j; omega, by show (j : Int) < _; omega, rfl⟩]
  simp [h]
theorem kind_par {cols par : List Int} {j : Nat} (h : j < par.length) : kindO cols par ⟨2, j, nilV⟩ = par[j] := by
  unfold kindO
  rw [if_neg (by show ¬ (2 : Int) = 1; omega), if_pos rfl]
  unfold kAt
  rw [if_pos ⟨by show (0 : Int) ≤ j; omega, by show (j : Int) < _; omega, rfl⟩]
  simp [h]
theorem kind_val {cols par : List Int} {v : V} {k : Int} (h1 : v.k = k) (h2 : validB v = true) (h3 : 3 ≤ k) : kindO cols par ⟨3, 0, v⟩ = k := by
  unfold kindO
  rw [if_neg (by show ¬ (3 : Int) = 1; omega), if_neg (by show ¬ (3 : Int) = 2; omega), if_pos rfl, if_pos ⟨rfl, by unfold realB; rw [h2, decide_eq_true (by rw [h1]; exact h3)]; rfl⟩]
  exact h1
theorem o_snoc {W w2 w7 : World} {b : Nat} {c : CaseId} {L : List Od} {v v' : Value} {x : Od} (h0 : CaseAt W b c) (hc : CaseAt w2 b c) (hb : W.grownBy w2 (some b)) (ho : OwnO w2 W.heap.size v L)
    (ho' : w7.ownsRow W.heap.size 58 5 v' (L.length + 1) (flatO L ++ [.int .i64 x.k, .int .i64 x.i, .int .i64 x.v.k, .int .i64 x.v.n, .string x.v.t])) (hg : (w2.alloc (.cells #[.int .i64 x.k, .int .i64 x.i, .int .i64 x.v.k, .int .i64 x.v.n, .string x.v.t] 58)).grownBy w7 v.ownBlock) :
    OwnO w7 W.heap.size v' (L ++ [x]) ∧ CaseAt w7 b c ∧ W.grownBy w7 (some b) := by
  have hal := World.grownBy_alloc w2 (.cells #[.int .i64 x.k, .int .i64 x.i, .int .i64 x.v.k, .int .i64 x.v.n, .string x.v.t] 58)
  refine ⟨?_, ?_, ?_⟩
  · show World.ownsRow _ _ _ _ _ _ _
    rw [flatO_snoc, List.length_append]; exact ho'
  · exact h0.kept (hc.grown (hal none)) hg (fun k hk => (ho.lt k hk).1)
  · exact by_own (by_trans hb (hal _)) hg (fun k hk => (ho.lt k hk).1)
/-- The result's cell. -/
structure RBox (w : World) (g : Nat) : Prop where
  l : g < w.heap.size
  c0 : w.cell? ⟨g, 0, none⟩ = some (.int .i64 0)
  c1 : w.cell? ⟨g, 1, none⟩ = some (.int .i64 0)
  c2 : w.cell? ⟨g, 2, none⟩ = some (.int .i64 0)
  c3 : w.cell? ⟨g, 3, none⟩ = some (.int .i64 0)
  c4 : w.cell? ⟨g, 4, none⟩ = some (.string ⟨#[]⟩)
  f0 : w.frozen? ⟨g, 0, none⟩ = false
  f1 : w.frozen? ⟨g, 1, none⟩ = false
  f2 : w.frozen? ⟨g, 2, none⟩ = false
  f3 : w.frozen? ⟨g, 3, none⟩ = false
  f4 : w.frozen? ⟨g, 4, none⟩ = false
theorem RBox.new (w : World) (T : TypeId) : RBox (w.alloc (.cells #[.int .i64 0, .int .i64 0, .int .i64 0, .int .i64 0, .string ⟨#[]⟩] T)) w.heap.size := ⟨by simp, by go_simp, by go_simp, by go_simp, by go_simp, by go_simp, by go_simp, by go_simp, by go_simp, by go_simp, by go_simp⟩
theorem RBox.by_ {w w' : World} {g : Nat} {r : Option Nat} (h : RBox w g) (hw : w.grownBy w' r) (hr : r ≠ some g) : RBox w' g :=
  have hb : w'.heap[g]? = w.heap[g]? := hw.block g h.l (fun e => hr e.symm)
  have hc : ∀ o, w'.cell? ⟨g, o, none⟩ = w.cell? ⟨g, o, none⟩ := fun o => World.cell?_of_block hb
  have hf : ∀ o, w'.frozen? ⟨g, o, none⟩ = w.frozen? ⟨g, o, none⟩ := fun o => World.frozen?_of_block hb
  ⟨Nat.lt_of_lt_of_le h.l hw.size, (hc _).trans h.c0, (hc _).trans h.c1, (hc _).trans h.c2, (hc _).trans h.c3, (hc _).trans h.c4, (hf _).trans h.f0, (hf _).trans h.f1, (hf _).trans h.f2, (hf _).trans h.f3, (hf _).trans h.f4⟩
theorem fin_case {w wf : World} {b : Nat} {c : CaseId} (h0 : CaseAt w b c) (h : CaseAt wf b c) (x y z u t : Value) : CaseAt (((((wf.setCell ⟨w.heap.size, 0, none⟩ x).setCell ⟨w.heap.size, 1, none⟩ y).setCell ⟨w.heap.size, 2, none⟩ z).setCell ⟨w.heap.size, 3, none⟩ u).setCell ⟨w.heap.size, 4, none⟩ t) b c :=
  h0.stored (h0.stored (h0.stored (h0.stored (h0.stored h (Nat.le_refl _) _) (Nat.le_refl _) _) (Nat.le_refl _) _) (Nat.le_refl _) _) (Nat.le_refl _) _
theorem fin_by {w W wf : World} {b : Nat} (h0 : w.grownBy W (none : Option Nat)) (h : W.grownBy wf (some b)) (hs : W.heap.size = w.heap.size + 1) (x y z u t : Value) : w.grownBy (((((wf.setCell ⟨w.heap.size, 0, none⟩ x).setCell ⟨w.heap.size, 1, none⟩ y).setCell ⟨w.heap.size, 2, none⟩ z).setCell ⟨w.heap.size, 3, none⟩ u).setCell ⟨w.heap.size, 4, none⟩ t) (some b) :=
  by_store_new (by_store_new (by_store_new (by_store_new (by_store_new (by_trans (by_some h0 _) h) (Nat.le_refl _) _) (Nat.le_refl _) _) (Nat.le_refl _) _) (Nat.le_refl _) _) (Nat.le_refl _) _
set_option maxHeartbeats 4000000 in
set_option maxRecDepth 100000 in
theorem operand_calls (S : Nat → Prop) (b : Nat) (hS : ¬ S b) (c : CaseId) (vc vp : Value) (cols par : List Int) (k : Int) (hk3 : 3 ≤ k) (hk5 : k ≤ 5) (hcl : cols.length ≤ 1000) (hpl : par.length ≤ 1000) (w : World) (hc : CaseAt w b c) (hkc : IntsAt S w vc cols) (hkp : IntsAt S w vp par) :
    Calls Tryd.prog 42 #[.pointer (some ⟨b, 0, none⟩), vc, vp, .int .i64 k] w (GotOp b c cols par k w) := by
  obtain ⟨i, hi, hz, hsz, hby⟩ := info_parts infoO
  have HI := Lib.hid hi
  have HZ := Lib.hid hz
  have HSZ := Lib.hid hsz
  have HBY := Lib.hid hby
  have HK := Lib.hid (And.intro hk3 hk5)
  obtain ⟨W, hW⟩ : ∃ W, W = w.alloc (.cells #[.int .i64 0, .int .i64 0, .int .i64 0, .int .i64 0, .string ⟨#[]⟩] 58) := ⟨_, rfl⟩
  have hal : w.grownBy W (none : Option Nat) := by rw [hW]; exact World.grownBy_alloc _ _ _
  have HBA := Lib.hid hal
  have HWS : Hid (W.heap.size = w.heap.size + 1) := by show _ = _; rw [hW]; simp
  have HCI := Lib.hid hc
  have HCW := Lib.hid (hc.grown hal)
  have HBL : Hid (b < w.heap.size) := hc.lt
  have HBL2 : Hid (b < W.heap.size) := by show _ < _; have := hc.lt; have := HWS.out; omega
  have HRB : Hid (∀ wf, W.grownBy wf (some b) → RBox wf w.heap.size) := fun wf hg => by
    have h := RBox.new w 58
    rw [← hW] at h
    exact h.by_ hg (by have := HBL.out; simp; omega)
  have hkc' : IntsAt S W vc cols := hkc.kept (kept_by hal (fun g h => by cases h))
  have hkp' : IntsAt S W vp par := hkp.kept (kept_by hal (fun g h => by cases h))
  have HKC := Lib.hid (fun wr (hg : W.grownBy wr (some b)) => hkc'.kept (kept_by hg (fun g hg' => by cases hg'; exact hS)))
  have HKP := Lib.hid (fun wr (hg : W.grownBy wr (some b)) => hkp'.kept (kept_by hg (fun g hg' => by cases hg'; exact hS)))
  obtain ⟨ka, kc, rfl, -⟩ := hkc.slice
  obtain ⟨pa, pc, rfl, -⟩ := hkp.slice
  generalize hN : cols.length = N at hcl HKC ⊢
  generalize hM : par.length = M at hpl HKP ⊢
  have HN := Lib.hid hN
  have HM := Lib.hid hM
  have HW := Lib.hid hW
  clear hc hi hz hsz hby hkc hkp hkc' hkp' hN hM hW hal hk3 hk5
  go_enter Tryd.func42, Tryd.ntmps42
  go_wp2_with fail
  rw [← HW.out]
  go_loopw [9, 17] (fun v i wr => ∃ (j : Nat) (L : List Od), j ≤ N ∧ i = .int .i64 j ∧ L.length ≤ 0 + j ∧ (∀ x ∈ L, kindO cols par x = k) ∧ OwnO wr W.heap.size v L ∧ CaseAt wr b c ∧ W.grownBy wr (some b)) (fun _ i _ => N - (intOf i).toNat)
  case atStart => exact ⟨0, [], by omega, rfl, by simp, fun x hx => absurd hx (by simp), World.ownsRow_nil _ _ _ _, HCW.out, ⟨rfl, rfl, rfl, Nat.le_refl _, fun _ _ _ => rfl⟩⟩
  case round =>
    obtain ⟨j, L, hj, rfl, hll, hkinds, hown, hcr, hbr⟩ := hrel
    have HLL := Lib.hid hll
    have HKS := Lib.hid hkinds
    have HOW := Lib.hid hown
    have HCR := Lib.hid hcr
    have HBR := Lib.hid hbr
    clear hkinds hcr
    by_cases hlt : j < N
    · have hkl' : j < cols.length := by rw [HN.out]; exact hlt
      have hlt' : decide ((j : Int) < (N : Int)) = true := by simp; omega
      obtain ⟨kb, ko, rfl, hkb, -, d0⟩ := (HKC.out wr hbr).get hkl'
      have hwk := step_i j (by omega)
      have HKJ : Hid (kindO cols par ⟨1, j, nilV⟩ = cols[j]) := kind_col hkl'
      generalize cols[j] = kk at d0 HKJ
      by_cases hkk : kk = k
      · subst hkk
        have hbase : W.heap.size ≤ wr.heap.size := hbr.size
        have hln : L.length + 1 ≤ 4398046511104 := by omega
        clear hbr hown
        go_wp2_with (at_builtin; go_must (refine wpList_append_own _ rfl _ _ 95 rfl W.heap.size 58 i (Od.val ⟨0, 0, ⟨0, 0, ⟨#[]⟩⟩⟩) 5 48 Tryd.underlying95 HI.out HZ.out HSZ.out HBY.out rfl (by decide) _ L.length (flatO L) rfl (World.ownsRow.alloc HOW.out _) ⟨wr.heap.size, 0, none⟩ 1 1 [.int .i64 1, .int .i64 j, .int .i64 0, .int .i64 0, .string ⟨#[]⟩] rfl rfl ?c1 ?c2 ?c3 ?c4 ?c5 ?_))
        case c1 => exact cell_five_new _ _ _ _ _ _ _
        case c2 => intro x hx; simp at hx; rcases hx with rfl | rfl | rfl | rfl | rfl <;> rfl
        case c3 => unfold maxLen; omega
        case c4 => omega
        case c5 => simp; omega
        intro v' w7 hown' hgrow hnil
        have HF := Lib.hid (o_snoc (x := ⟨1, j, nilV⟩) HCW.out HCR.out HBR.out HOW.out hown' hgrow)
        have HJ := Lib.hid hlt
        clear hown' hgrow hnil hlt' hlt hkl' hj hll d0 hkb
        go_wp2
        generalize wrap64 ((j : Int) + 1) = z at hwk ⊢
        subst hwk
        have hjj := HJ.out
        have hll := HLL.out
        have hks : ∀ x ∈ L ++ [⟨1, j, nilV⟩], kindO cols par x = kk := fun x hx => by
          rcases List.mem_append.1 hx with h | h
          · exact HKS.out x h
          · rw [List.mem_singleton] at h; subst h; exact HKJ.out
        first
          | exact ⟨⟨j + 1, L ++ [⟨1, j, nilV⟩], by omega, by go_num, by simp; omega, hks, HF.out⟩, by simp [intOf]; omega⟩
          | exact ⟨⟨_, _, _, _, _, _, _, _, _, _, _, _, _, _, _, ⟨j + 1, L ++ [⟨1, j, nilV⟩], by omega, by go_num, by simp; omega, hks, HF.out⟩, rfl⟩, by simp [intOf]; omega⟩
      · have hkk' : (kk == k) = false := by simpa using hkk
        have HJ := Lib.hid hlt
        clear hbr hown hlt hkl' hj hll hkb
        go_wp2
        generalize wrap64 ((j : Int) + 1) = z at hwk ⊢
        subst hwk
        have hjj := HJ.out
        have hll := HLL.out
        first
          | exact ⟨⟨j + 1, L, by omega, by go_num, by omega, HKS.out, HOW.out, HCR.out, HBR.out⟩, by simp [intOf]; omega⟩
          | exact ⟨⟨_, _, _, _, _, _, _, _, _, _, _, _, _, _, _, ⟨j + 1, L, by omega, by go_num, by omega, HKS.out, HOW.out, HCR.out, HBR.out⟩, rfl⟩, by simp [intOf]; omega⟩
    · have hlt' : decide ((j : Int) < (N : Int)) = false := by simp; omega
      have HL1 : Hid (L.length ≤ N + 0) := by show _ ≤ _; omega
      clear hbr hown hj hll
      go_wp2_with fail
      go_loopw [9, 33] (fun v i wr => ∃ (j : Nat) (L : List Od), j ≤ M ∧ i = .int .i64 j ∧ L.length ≤ N + j ∧ (∀ x ∈ L, kindO cols par x = k) ∧ OwnO wr W.heap.size v L ∧ CaseAt wr b c ∧ W.grownBy wr (some b)) (fun _ i _ => M - (intOf i).toNat)
      case atStart => exact ⟨0, L, by omega, rfl, by have := HL1.out; omega, HKS.out, HOW.out, HCR.out, HBR.out⟩
      case round =>
        obtain ⟨j, L, hj, rfl, hll, hkinds, hown, hcr, hbr⟩ := hrel
        have HLL := Lib.hid hll
        have HKS := Lib.hid hkinds
        have HOW := Lib.hid hown
        have HCR := Lib.hid hcr
        have HBR := Lib.hid hbr
        clear hkinds hcr
        by_cases hlt : j < M
        · have hkl' : j < par.length := by rw [HM.out]; exact hlt
          have hlt' : decide ((j : Int) < (M : Int)) = true := by simp; omega
          obtain ⟨kb, ko, rfl, hkb, -, d0⟩ := (HKP.out wr hbr).get hkl'
          have hwk := step_i j (by omega)
          have HKJ : Hid (kindO cols par ⟨2, j, nilV⟩ = par[j]) := kind_par hkl'
          generalize par[j] = kk at d0 HKJ
          by_cases hkk : kk = k
          · subst hkk
            have hbase : W.heap.size ≤ wr.heap.size := hbr.size
            have hln : L.length + 1 ≤ 4398046511104 := by omega
            clear hbr hown
            go_wp2_with (at_builtin; go_must (refine wpList_append_own _ rfl _ _ 95 rfl W.heap.size 58 i (Od.val ⟨0, 0, ⟨0, 0, ⟨#[]⟩⟩⟩) 5 48 Tryd.underlying95 HI.out HZ.out HSZ.out HBY.out rfl (by decide) _ L.length (flatO L) rfl (World.ownsRow.alloc HOW.out _) ⟨wr.heap.size, 0, none⟩ 1 1 [.int .i64 2, .int .i64 j, .int .i64 0, .int .i64 0, .string ⟨#[]⟩] rfl rfl ?c1 ?c2 ?c3 ?c4 ?c5 ?_))
            case c1 => exact cell_five_new _ _ _ _ _ _ _
            case c2 => intro x hx; simp at hx; rcases hx with rfl | rfl | rfl | rfl | rfl <;> rfl
            case c3 => unfold maxLen; omega
            case c4 => omega
            case c5 => simp; omega
            intro v' w7 hown' hgrow hnil
            have HF := Lib.hid (o_snoc (x := ⟨2, j, nilV⟩) HCW.out HCR.out HBR.out HOW.out hown' hgrow)
            have HJ := Lib.hid hlt
            clear hown' hgrow hnil hlt' hlt hkl' hj hll d0 hkb
            go_wp2
            generalize wrap64 ((j : Int) + 1) = z at hwk ⊢
            subst hwk
            have hjj := HJ.out
            have hll := HLL.out
            have hks : ∀ x ∈ L ++ [⟨2, j, nilV⟩], kindO cols par x = kk := fun x hx => by
              rcases List.mem_append.1 hx with h | h
              · exact HKS.out x h
              · rw [List.mem_singleton] at h; subst h; exact HKJ.out
            first
              | exact ⟨⟨j + 1, L ++ [⟨2, j, nilV⟩], by omega, by go_num, by simp; omega, hks, HF.out⟩, by simp [intOf]; omega⟩
              | exact ⟨⟨_, _, _, _, _, _, _, _, _, _, _, _, _, _, _, ⟨j + 1, L ++ [⟨2, j, nilV⟩], by omega, by go_num, by simp; omega, hks, HF.out⟩, rfl⟩, by simp [intOf]; omega⟩
          · have hkk' : (kk == k) = false := by simpa using hkk
            have HJ := Lib.hid hlt
            clear hbr hown hlt hkl' hj hll hkb
            go_wp2
            generalize wrap64 ((j : Int) + 1) = z at hwk ⊢
            subst hwk
            have hjj := HJ.out
            have hll := HLL.out
            first
              | exact ⟨⟨j + 1, L, by omega, by go_num, by omega, HKS.out, HOW.out, HCR.out, HBR.out⟩, by simp [intOf]; omega⟩
              | exact ⟨⟨_, _, _, _, _, _, _, _, _, _, _, _, _, _, _, ⟨j + 1, L, by omega, by go_num, by omega, HKS.out, HOW.out, HCR.out, HBR.out⟩, rfl⟩, by simp [intOf]; omega⟩
        · have hlt' : decide ((j : Int) < (M : Int)) = false := by simp; omega
          have HLN : Hid (L.length ≤ 2000) := by show _ ≤ _; omega
          obtain ⟨la, lcap, hva⟩ := own_slice hown
          clear hbr hown hj hll
          obtain ⟨lv, hlv⟩ : ∃ lv, u9 = lv := ⟨_, rfl⟩
          rw [hva] at HOW ⊢
          have HI1 := Lib.hid (int_calls b c ((L.length : Int) + 1) (by omega) (by have := HLN.out; omega) wr HCR.out)
          have hwl : wrap64 ((L.length : Int) + 1) = (L.length : Int) + 1 := wrap_more _ (by omega) (by have := HLN.out; omega)
          go_wp2_with fail
          refine HI1.out.mono ?_
          rintro e w2 ⟨x, rfl, hx0, hx1, hc2, hby2⟩
          have HC2 := Lib.hid hc2
          have HB2 := Lib.hid (by_trans HBR.out hby2)
          have HO2 : Hid (OwnO w2 W.heap.size (.slice la L.length lcap) L) := World.ownsRow.kept HOW.out hby2 (own_far HOW.out HBL2.out)
          have HR2 := Lib.hid (HRB.out w2 HB2.out)
          clear hc2 hby2 HI1 hwl HOW HBR HCR
          obtain ⟨q, rfl⟩ : ∃ q : Nat, x = q := ⟨x.toNat, by omega⟩
          by_cases hq : q < L.length
          · have hq' : decide ((q : Int) < (L.length : Int)) = true := by simp; omega
            have hq2 : (q : Int) < (L.length : Int) := by omega
            obtain ⟨g, rfl, hg, hbg, d0, d1, d2, d3, d4⟩ := HO2.out.get hq
            have HKQ := Lib.hid (HKS.out _ (List.getElem_mem hq))
            generalize L[q] = y at d0 d1 d2 d3 d4 HKQ
            obtain ⟨yk, yi, ⟨yvk, yvn, yvt⟩⟩ := y
            obtain ⟨l0, c0, c1, c2, c3, c4, f0, f1, f2, f3, f4⟩ := HR2.out
            simp only at d0 d1 d2 d3 d4
            clear hx0 hx1 hq
            go_wp2
            exact bodyPost_ret (v := Od.val ⟨yk, yi, ⟨yvk, yvn, yvt⟩⟩) (by simp [results, Tryd.results42, go_sem, c0, c1, c2, c3, c4, l0]; try rfl) rfl ⟨⟨yk, yi, ⟨yvk, yvn, yvt⟩⟩, rfl, HKQ.out, fin_case HCI.out HC2.out _ _ _ _ _, fin_by HBA.out HB2.out HWS.out _ _ _ _ _⟩
          · have hq' : decide ((q : Int) < (L.length : Int)) = false := by simp; omega
            have HV := Lib.hid (caseValueK_calls b c k HK.out.1 HK.out.2 w2 HC2.out)
            clear hx0 hx1
            go_wp2_with fail
            refine HV.out.mono ?_
            rintro e w3 ⟨⟨vk, vn, vt⟩, rfl, hvk, hval, hnum, hc3, hby3⟩
            have HC3 := Lib.hid hc3
            have HB3 := Lib.hid (by_trans HB2.out hby3)
            have HKQ : Hid (kindO cols par ⟨3, 0, ⟨vk, vn, vt⟩⟩ = k) := kind_val hvk hval HK.out.1
            obtain ⟨l0, c0, c1, c2, c3, c4, f0, f1, f2, f3, f4⟩ := HRB.out w3 HB3.out
            clear hvk hval hnum hc3 hby3
            go_wp2
            exact bodyPost_ret (v := Od.val ⟨3, 0, ⟨vk, vn, vt⟩⟩) (by simp [results, Tryd.results42, go_sem, c0, c1, c2, c3, c4, l0]; try rfl) rfl ⟨⟨3, 0, ⟨vk, vn, vt⟩⟩, rfl, HKQ.out, fin_case HCI.out HC3.out _ _ _ _ _, fin_by HBA.out HB3.out HWS.out _ _ _ _ _⟩
end Go.Proofs.YtpmlhgakbpfgmaaDoor
