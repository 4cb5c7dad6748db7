/- The law SchemaNames returns true. -/
import Derived.Test.YtlchcakmcikjnaaDoorZt
import Derived.Test.YtlchcakmcikjnaaDoorO
import Derived.Test.YtlchcakmcikjnaaDoorPfr
import Derived.Test.YtlchcakmcikjnaaDoorTie
import Derived.Test.YtlchcakmcikjnaaDoorCards
import Derived.SevenTiedAt
import Derived.Deep.RegionHeld3
import Derived.Deep.CutRange
set_option linter.unusedSimpArgs false
set_option linter.unusedVariables false
namespace Go.Proofs.YtlchcakmcikjnaaDoor
open Go.RowKit

/-- The case's tables, the first k of them without references and checks. -/
def plainTo (id : Int) (R1 R2 R3 : List Rfc) (K1 : List Pr) (k i : Nat) : Tab := if i < k then tab4 id [] [] [] [] i else tab4 id R1 R2 R3 K1 i
theorem tab4_plain (id : Int) (R1 R2 R3 : List Rfc) (K1 : List Pr) : ∀ i, (tab4 id [] [] [] [] i).name = (tab4 id R1 R2 R3 K1 i).name ∧ (tab4 id [] [] [] [] i).cols = (tab4 id R1 R2 R3 K1 i).cols ∧ (tab4 id [] [] [] [] i).key = (tab4 id R1 R2 R3 K1 i).key ∧ (tab4 id [] [] [] [] i).refs = [] ∧ (tab4 id [] [] [] [] i).checks = []
  | 0 => ⟨rfl, rfl, rfl, rfl, rfl⟩
  | 1 => ⟨rfl, rfl, rfl, rfl, rfl⟩
  | 2 => ⟨rfl, rfl, rfl, rfl, rfl⟩
  | n + 3 => ⟨rfl, rfl, rfl, rfl, rfl⟩
structure PS (b : Nat) (c : CaseId) (w wr : World) (sb tb n cap : Nat) (ver : Int) (T : Nat → Tab) : Prop where
  hb : b < w.heap.size
  t : w.heap.size < tb
  ts : tb < sb
  l : Laid4 (fun g => w.heap.size < g ∧ g ≠ tb) wr tb T
  s : SBox wr sb ver (some ⟨tb, 0, none⟩) n cap
  r : SBoxF wr w.heap.size 0 none 0 0
  c : CaseAt wr b c
  g : w.grownBy wr (some b)
theorem PS.later {b : Nat} {c : CaseId} {w wr wr' : World} {sb tb n cap : Nat} {ver : Int} {T : Nat → Tab} (h : PS b c w wr sb tb n cap ver T) (hg : Below wr.heap.size wr wr') : PS b c w wr' sb tb n cap ver T :=
  have hg' : ∀ r, wr.grownBy wr' r := fun r => ⟨hg.os, hg.tape, hg.output, hg.size, fun k hk _ => hg.block k hk⟩
  ⟨h.hb, h.t, h.ts, h.l.later hg, h.s.later hg, h.r.by_ (hg' none) (by simp), h.c.grown (hg' none), by_trans h.g (hg' _)⟩
theorem PS.store {b : Nat} {c : CaseId} {w wr : World} {sb tb n cap : Nat} {ver id : Int} {R1 R2 R3 : List Rfc} {K1 : List Pr} (h0 : CaseAt w b c) {j : Nat} (hj : j < 4) (h : PS b c w wr sb tb n cap ver (plainTo id R1 R2 R3 K1 j)) :
    PS b c w ((wr.setCell ⟨tb, j * 5 + 3, none⟩ (.slice none 0 0)).setCell ⟨tb, j * 5 + 4, none⟩ (.slice none 0 0)) sb tb n cap ver (plainTo id R1 R2 R3 K1 (j + 1)) := by
  have ht := h.t
  have hts := h.ts
  obtain ⟨ca, cc, ra, rn, rc, ka, kn, kc, tcell, -⟩ := h.l.at_ j hj
  have e3 : 0 + j * 5 + 3 = j * 5 + 3 := by omega
  have e4 : 0 + j * 5 + 4 = j * 5 + 4 := by omega
  have c3 := tcell.refs
  have c4 := tcell.checks
  obtain ⟨W1, hW1⟩ : ∃ W1, W1 = wr.setCell ⟨tb, 0 + j * 5 + 3, none⟩ (.slice none 0 0) := ⟨_, rfl⟩
  obtain ⟨W2, hW2⟩ : ∃ W2, W2 = W1.setCell ⟨tb, 0 + j * 5 + 4, none⟩ (.slice none 0 0) := ⟨_, rfl⟩
  rw [← e3, ← hW1, ← e4, ← hW2]
  have b1 : wr.grownBy W1 (some tb) := by rw [hW1]; exact by_store
  have b2 : W1.grownBy W2 (some tb) := by rw [hW2]; exact by_store
  have b12 := by_trans b1 b2
  have k1 : Kept (fun g => w.heap.size < g ∧ g ≠ tb) wr W1 := kept_by b1 fun g e hS => by cases e; omega
  have k2 : Kept (fun g => w.heap.size < g ∧ g ≠ tb) W1 W2 := kept_by b2 fun g e hS => by cases e; omega
  have f1 : ∀ o, W1.frozen? ⟨tb, o, none⟩ = false := fun o => by rw [hW1]; have := h.l.fz o; simpa using this
  have f2 : ∀ o, W2.frozen? ⟨tb, o, none⟩ = false := fun o => by rw [hW2]; have := f1 o; simpa using this
  have o1 : ∀ o, o ≠ 0 + j * 5 + 3 → W1.cell? ⟨tb, o, none⟩ = wr.cell? ⟨tb, o, none⟩ := fun o ho => by rw [hW1]; exact World.cell?_setCell_other _ _ _ _ (by simp <;> omega)
  have o2 : ∀ o, o ≠ 0 + j * 5 + 4 → W2.cell? ⟨tb, o, none⟩ = W1.cell? ⟨tb, o, none⟩ := fun o ho => by rw [hW2]; exact World.cell?_setCell_other _ _ _ _ (by simp <;> omega)
  have n1 : W1.cell? ⟨tb, 0 + j * 5 + 3, none⟩ = some (.slice none 0 0) := by rw [hW1]; exact World.cell?_setCell_same _ _ _ c3
  have n2 : W2.cell? ⟨tb, 0 + j * 5 + 4, none⟩ = some (.slice none 0 0) := by rw [hW2]; exact World.cell?_setCell_same _ _ _ ((o1 _ (by omega)).trans c4)
  have tp := tab4_plain id R1 R2 R3 K1 j
  have pj : plainTo id R1 R2 R3 K1 j j = tab4 id R1 R2 R3 K1 j := if_neg (by omega)
  have pj' : plainTo id R1 R2 R3 K1 (j + 1) j = tab4 id [] [] [] [] j := if_pos (by omega)
  have l1 := h.l.refs (T' := fun i => if i = j then { plainTo id R1 R2 R3 K1 j i with refs := [] } else plainTo id R1 R2 R3 K1 j i) j k1 f1 o1 n1 (by simp only [if_true]; exact RefsAt.nil none 0) (fun i _ ne => by simp [ne]) (by simp)
  have l2 := l1.checks (T' := plainTo id R1 R2 R3 K1 (j + 1)) j k2 f2 o2 n2 (by rw [pj', tp.2.2.2.2]; exact PrIn.nil 3 none 0) (fun i _ ne => by
    simp only [if_neg ne]
    unfold plainTo
    by_cases hij : i < j
    · rw [if_pos hij, if_pos (by omega)]
    · rw [if_neg hij, if_neg (by omega)]) (by simp only [if_true]; rw [pj', pj]; exact ⟨tp.1, tp.2.1, tp.2.2.1, tp.2.2.2.1⟩)
  refine ⟨h.hb, h.t, h.ts, l2, ?_, h.r.by_ b12 (by simp <;> omega), ?_, ?_⟩
  · have hc : ∀ o, W2.cell? ⟨sb, o, none⟩ = wr.cell? ⟨sb, o, none⟩ := fun o => World.cell?_of_block (b12.block sb h.s.l (by simp <;> omega))
    exact ⟨Nat.lt_of_lt_of_le h.s.l b12.size, (hc _).trans h.s.c0, (hc _).trans h.s.c1⟩
  · rw [hW2, hW1]; exact h0.stored (h0.stored h.c (by omega) _) (by omega) _
  · rw [hW2, hW1]; exact by_store_new (by_store_new h.g (by omega) _) (by omega) _
theorem SBox.far {w : World} {g tb o : Nat} {ver : Int} {a : Option Addr} {n cap : Nat} {v : Value} (h : SBox w g ver a n cap) (hne : tb ≠ g) : SBox (w.setCell ⟨tb, o, none⟩ v) g ver a n cap := by
  obtain ⟨l, c0, c1⟩ := h
  exact ⟨by simpa using l, by rw [World.cell?_setCell_other _ _ _ _ (by simp <;> omega)]; exact c0, by rw [World.cell?_setCell_other _ _ _ _ (by simp <;> omega)]; exact c1⟩
/-- What the case's Plain answers. -/
def GotPlain (b : Nat) (c : CaseId) (w : World) (e : Ending) (w' : World) : Prop :=
  ∃ (ver : Int) (tb cap n : Nat) (id : Int) (T : Nat → Tab), e = .returned (.agg #[.int .i64 ver, .slice (some ⟨tb, 0, none⟩) n cap]) ∧ (0 ≤ ver ∧ ver ≤ 2) ∧ 2 ≤ n ∧ n ≤ 4 ∧ (id = 4 ∨ id = 5) ∧ (∀ i, i < n → T i = tab4 id [] [] [] [] i) ∧ w.heap.size ≤ tb ∧
    Laid4 (fun g => w.heap.size ≤ g ∧ g ≠ tb) w' tb T ∧ CaseAt w' b c ∧ w.grownBy w' (some b)
set_option maxHeartbeats 8000000 in
set_option maxRecDepth 100000 in
theorem casePlain_calls (b : Nat) (c : CaseId) (w : World) (hc : CaseAt w b c) : Calls Tryd.prog 8 #[.pointer (some ⟨b, 0, none⟩)] w (GotPlain b c w) := by
  have mx := mixed
  have hlt := hc.lt
  obtain ⟨W0, hW0⟩ : ∃ W0, W0 = w.alloc (.cells #[.int .i64 0, .slice none 0 0] 25) := ⟨_, rfl⟩
  have hc0 : CaseAt W0 b c := by rw [hW0]; exact hc.grown (World.grownBy_alloc w _ none)
  have hx0 : SBoxF W0 w.heap.size 0 none 0 0 := by rw [hW0]; exact SBoxF.new _ _ _ _ _ _
  have HB0 : Hid (∀ r, w.grownBy W0 r) := fun r => by rw [hW0]; exact World.grownBy_alloc w _ r
  have HS0 : Hid (W0.heap.size = w.heap.size + 1) := by show _ = _; rw [hW0]; simp
  have HSC := Lib.hid (caseSchema_calls b c W0 hc0)
  have HX0 := Lib.hid hx0
  have HLT := Lib.hid hlt
  have HCW := Lib.hid hc
  have HW0 := Lib.hid hW0
  clear hc hc0 hlt hx0 hW0
  go_enter Tryd.func8, Tryd.ntmps8
  go_wp2_with fail
  rw [← HW0.out]
  clear HW0
  refine HSC.out.mono ?_
  rintro e w2 ⟨ver, tb, cp, n, id, R1, R2, R3, K1, rfl, hver, hok, htb, hlaid, hc2, hby2⟩
  have HV := Lib.hid (And.intro hver hok.idk)
  have hn2 := hok.n2
  have hn4 := hok.n4
  obtain ⟨W2, hW2⟩ : ∃ W2, W2 = w2.alloc (.cells #[.int .i64 ver, .slice (some ⟨tb, 0, none⟩) n cp] 25) := ⟨_, rfl⟩
  have HPS : Hid (PS b c w W2 w2.heap.size tb n cp ver (plainTo id R1 R2 R3 K1 0)) := by
    have ha : ∀ r, w2.grownBy W2 r := fun r => by rw [hW2]; exact World.grownBy_alloc _ _ r
    have hl := HLT.out
    have hs0 := HS0.out
    refine ⟨hl, by omega, hlaid.lt, ?_, by rw [hW2]; exact SBox.new _ _ _ _ _ _, (HX0.out.by_ hby2 (by simp <;> omega)).by_ (ha none) (by simp), hc2.grown (ha none), by_trans (by_trans (HB0.out _) hby2) (ha _)⟩
    have he : plainTo id R1 R2 R3 K1 0 = tab4 id R1 R2 R3 K1 := by funext i; exact if_neg (by omega)
    rw [he]
    exact (hlaid.mono fun g _ hS => ⟨by omega, hS.2⟩).kept (kept_by (ha none) (by simp))
  have HW2 := Lib.hid hW2
  clear hver hok htb hlaid hc2 hby2 hW2 HSC HX0
  obtain ⟨sb, hsb⟩ : ∃ sb, w2.heap.size = sb := ⟨_, rfl⟩
  rw [hsb] at HPS
  have HSB := Lib.hid hsb
  clear hsb
  go_upto_region 2 with fail
  rw [← HW2.out]
  rw [HSB.out]
  clear HW2 HSB
  obtain ⟨sl, s0, s1⟩ := HPS.out.s
  go_wp2_with fail
  clear sl s0 s1
  go_loopw [4, 10] (fun _ y wr => ∃ j : Nat, j ≤ n ∧ y = .int .i64 j ∧ PS b c w wr sb tb n cp ver (plainTo id R1 R2 R3 K1 j)) (fun _ y _ => n - (intOf y).toNat)
  case atStart => exact ⟨0, by omega, rfl, HPS.out⟩
  case round =>
    obtain ⟨j, hj, rfl, hps⟩ := hrel
    have HP := Lib.hid hps
    have hwk := step_i j (by omega)
    by_cases hlt : j < n
    · have hlt' : decide ((j : Int) < (n : Int)) = true := by simp; omega
      have hltI : (j : Int) < (n : Int) := by omega
      have h0j : (0 : Int) ≤ (j : Int) := by omega
      have hge : decide ((n : Int) ≤ (j : Int)) = false := by simp; omega
      clear hps
      go_upto_region 5 with fail
      refine wp_region_noPanic ?_
      refine wp_region_held (S := fun w' => SBox w' sb ver (some ⟨tb, 0, none⟩) n cp) mx ?_
      have hHeld : (fun w' => SBox w' sb ver (some ⟨tb, 0, none⟩) n cp) wr.drew := HP.out.s.later ⟨rfl, rfl, rfl, Nat.le_refl _, fun _ _ => rfl⟩
      change wpAnyH _ _ _ _ (fun w' => SBox w' sb ver (some ⟨tb, 0, none⟩) n cp) _ _ _ wr.drew
      try simp only [Act.put, List.getElem_toArray, List.getElem_cons_succ, List.getElem_cons_zero, List.setIfInBounds_toArray, List.set_cons_zero, List.set_cons_succ]
      refine wpAnyH_take (i := 0) (v := ?_) rfl (by kernel_rfl) (by kernel_rfl) (by kernel_rfl) (fun _ _ _ h => h) (Or.inl ⟨by rfl, ?_⟩) (by assumption) ?_
      rotate_left
      · intro w hSw; clear hSw; go_simp; try with_reducible rfl
      try simp only [Act.put, List.getElem_toArray, List.getElem_cons_succ, List.getElem_cons_zero, List.setIfInBounds_toArray, List.set_cons_zero, List.set_cons_succ]
      refine wpAnyH_take (i := 1) (v := ?_) rfl (by kernel_rfl) (by kernel_rfl) (by kernel_rfl) (fun _ _ _ h => h) (Or.inl ⟨by rfl, ?_⟩) (by assumption) ?_
      rotate_left
      · intro w hSw; have hQ := hSw; obtain ⟨l, c0, c1⟩ := hQ; clear hSw; go_simp; try with_reducible rfl
      try simp only [Act.put, List.getElem_toArray, List.getElem_cons_succ, List.getElem_cons_zero, List.setIfInBounds_toArray, List.set_cons_zero, List.set_cons_succ]
      refine wpAnyH_take (i := 2) (v := ?_) rfl (by kernel_rfl) (by kernel_rfl) (by kernel_rfl) (fun _ _ _ h => h) (Or.inl ⟨by rfl, ?_⟩) (by assumption) ?_
      rotate_left
      · intro w hSw; clear hSw; go_simp; try with_reducible rfl
      try simp only [Act.put, List.getElem_toArray, List.getElem_cons_succ, List.getElem_cons_zero, List.setIfInBounds_toArray, List.set_cons_zero, List.set_cons_succ]
      refine wpAnyH_take (i := 3) (v := ?_) rfl (by kernel_rfl) (by kernel_rfl) (by kernel_rfl) (fun _ _ _ h => h) (Or.inl ⟨by rfl, ?_⟩) (by assumption) ?_
      rotate_left
      · intro w hSw; clear hSw; go_simp; try with_reducible rfl
      try simp only [Act.put, List.getElem_toArray, List.getElem_cons_succ, List.getElem_cons_zero, List.setIfInBounds_toArray, List.set_cons_zero, List.set_cons_succ]
      refine wpAnyH_take (i := 4) (v := ?_) rfl (by kernel_rfl) (by kernel_rfl) (by kernel_rfl) (fun _ _ _ h => h) (Or.inl ⟨by rfl, ?_⟩) (by assumption) ?_
      rotate_left
      · intro w hSw; have hQ := hSw; obtain ⟨l, c0, c1⟩ := hQ; clear hSw; go_simp; try with_reducible rfl
      try simp only [Act.put, List.getElem_toArray, List.getElem_cons_succ, List.getElem_cons_zero, List.setIfInBounds_toArray, List.set_cons_zero, List.set_cons_succ]
      refine wpAnyH_take (i := 5) (v := ?_) rfl (by kernel_rfl) (by kernel_rfl) (by kernel_rfl) (fun _ _ _ h => h) (Or.inl ⟨by rfl, ?_⟩) (by assumption) ?_
      rotate_left
      · intro w hSw; clear hSw; go_simp; try with_reducible rfl
      try simp only [Act.put, List.getElem_toArray, List.getElem_cons_succ, List.getElem_cons_zero, List.setIfInBounds_toArray, List.set_cons_zero, List.set_cons_succ]
      refine wpAnyH_take (i := 6) (v := ?_) rfl (by kernel_rfl) (by kernel_rfl) (by kernel_rfl) (fun _ _ _ h => h) (Or.inl ⟨by rfl, ?_⟩) (by assumption) ?_
      rotate_left
      · intro w hSw; clear hSw; go_simp; try with_reducible rfl
      try simp only [Act.put, List.getElem_toArray, List.getElem_cons_succ, List.getElem_cons_zero, List.setIfInBounds_toArray, List.set_cons_zero, List.set_cons_succ]
      refine wpAnyH_take (i := 7) (v := ?_) rfl (by kernel_rfl) (by kernel_rfl) (by kernel_rfl) (fun _ _ _ h => h) (Or.inl ⟨by rfl, ?_⟩) (by assumption) ?_
      rotate_left
      · intro w hSw; clear hSw; go_simp; try with_reducible rfl
      try simp only [Act.put, List.getElem_toArray, List.getElem_cons_succ, List.getElem_cons_zero, List.setIfInBounds_toArray, List.set_cons_zero, List.set_cons_succ]
      refine wpAnyH_ready (rs := [8]) (by kernel_rfl) (by simp) ?_
      refine AllReadyH.cons rfl (fun K hK => ?_) AllReadyH.nil
      have htl := HP.out.l.lt
      obtain ⟨ca, cc, ra, rn, rc, ka, kn, kc, tcell, -⟩ := HP.out.l.at_ j (by omega)
      have tr := tcell.refs
      have tk := tcell.checks
      have tf3 := HP.out.l.fz (j * 5 + 3)
      have tf4 := HP.out.l.fz (j * 5 + 4)
      simp only [Nat.zero_add] at tr tk
      have HS1 := Lib.hid hHeld
      clear hHeld tcell
      go_simp
      refine hK.out _ _ (SBox.far HS1.out (by have := HP.out.ts; omega)) (fun hHeld => ?_)
      clear hK K
      try simp only [Act.put, List.getElem_toArray, List.getElem_cons_succ, List.getElem_cons_zero, List.setIfInBounds_toArray, List.set_cons_zero, List.set_cons_succ]
      refine wpAnyH_take (i := 9) (v := ?_) rfl (by kernel_rfl) (by kernel_rfl) (by kernel_rfl) (fun _ _ _ h => h) (Or.inl ⟨by rfl, ?_⟩) (by assumption) ?_
      rotate_left
      · intro w hSw; clear hSw; go_simp; try with_reducible rfl
      try simp only [Act.put, List.getElem_toArray, List.getElem_cons_succ, List.getElem_cons_zero, List.setIfInBounds_toArray, List.set_cons_zero, List.set_cons_succ]
      refine wpAnyH_take (i := 10) (v := ?_) rfl (by kernel_rfl) (by kernel_rfl) (by kernel_rfl) (fun _ _ _ h => h) (Or.inl ⟨by rfl, ?_⟩) (by assumption) ?_
      rotate_left
      · intro w hSw; clear hSw; go_simp; try with_reducible rfl
      try simp only [Act.put, List.getElem_toArray, List.getElem_cons_succ, List.getElem_cons_zero, List.setIfInBounds_toArray, List.set_cons_zero, List.set_cons_succ]
      refine wpAnyH_ready (rs := [11]) (by kernel_rfl) (by simp) ?_
      refine AllReadyH.cons rfl (fun K hK => ?_) AllReadyH.nil
      clear hHeld
      go_simp
      refine hK.out _ _ (SBox.far (SBox.far HS1.out (by have := HP.out.ts; omega)) (by have := HP.out.ts; omega)) (fun hHeld => ?_)
      clear hK K
      try simp only [Act.put, List.getElem_toArray, List.getElem_cons_succ, List.getElem_cons_zero, List.setIfInBounds_toArray, List.set_cons_zero, List.set_cons_succ]
      refine wpAnyH_done (by kernel_rfl) ?_ _
      refine NoPanic.normal ?_
      clear hHeld
      have HPN := Lib.hid (PS.store HCW.out (by omega) (HP.out.later (wr' := wr.drew) ⟨rfl, rfl, rfl, Nat.le_refl _, fun _ _ => rfl⟩))
      go_wp2_with fail
      generalize wrap64 ((j : Int) + 1) = z at hwk ⊢
      subst hwk
      go_roundw
      case rel => exact ⟨j + 1, by omega, by go_num, HPN.out⟩
      case measure => simp [intOf]; omega
    · have hlt' : decide ((j : Int) < (n : Int)) = false := by simp; omega
      obtain rfl : j = n := by omega
      obtain ⟨sl, s0, s1⟩ := HP.out.s
      obtain ⟨⟨rl, r0, r1⟩, rf⟩ := HP.out.r
      have rf0 := rf 0
      have rf1 := rf 1
      obtain ⟨w7, rfl⟩ : ∃ wz : World, wz = wr := ⟨_, rfl⟩
      clear rf hps hwk
      go_wp2_with fail
      have HF : Hid (GotPlain b c w (.returned (.agg #[.int .i64 ver, .slice (some ⟨tb, 0, none⟩) j cp])) ((w7.setCell ⟨w.heap.size, 0, none⟩ (.int .i64 ver)).setCell ⟨w.heap.size, 1, none⟩ (.slice (some ⟨tb, 0, none⟩) j cp))) := by
        have hk1 : w7.grownBy ((w7.setCell ⟨w.heap.size, 0, none⟩ (.int .i64 ver)).setCell ⟨w.heap.size, 1, none⟩ (.slice (some ⟨tb, 0, none⟩) j cp)) (some w.heap.size) := by_trans by_store by_store
        have ht := HP.out.t
        refine ⟨ver, tb, cp, j, id, plainTo id R1 R2 R3 K1 j, rfl, HV.out.1, hn2, hn4, HV.out.2, fun i hi => if_pos hi, by omega, ?_, ?_, ?_⟩
        · exact (HP.out.l.kept (kept_by hk1 fun g e hS => by cases e; rcases hS with h | h <;> omega)).mono fun g _ hS => ⟨by omega, hS.2⟩
        · exact HCW.out.stored (HCW.out.stored HP.out.c (Nat.le_refl _) _) (Nat.le_refl _) _
        · exact by_store_new (by_store_new HP.out.g (Nat.le_refl _) _) (Nat.le_refl _) _
      exact bodyPost_ret (v := .agg #[.int .i64 ver, .slice (some ⟨tb, 0, none⟩) j cp]) (by simp [results, Tryd.results8, go_sem, r0, r1, rl, rf0, rf1]; try rfl) rfl HF.out
end Go.Proofs.YtlchcakmcikjnaaDoor
set_option linter.unusedSimpArgs false
set_option linter.unusedVariables false
namespace Go.Proofs.YtlchcakmcikjnaaDoor
open Go.RowKit

theorem namesB_snoc (s : ByteArray) : ∀ (l seen : List ByteArray), namesB seen (l ++ [s]) = (namesB seen l && (nameB s && !inB s (l.reverse ++ seen)))
  | [], seen => by
    show (nameB s && !inB s seen && namesB (s :: seen) []) = (true && (nameB s && !inB s ([] ++ seen)))
    rw [show namesB (s :: seen) [] = true from rfl]; simp
  | x :: l, seen => by
    show (nameB x && !inB x seen && namesB (x :: seen) (l ++ [s])) = _
    rw [namesB_snoc s l (x :: seen)]
    show _ = ((nameB x && !inB x seen && namesB (x :: seen) l) && _)
    rw [show (x :: l).reverse ++ seen = l.reverse ++ x :: seen by simp, Bool.and_assoc (nameB x && !inB x seen)]
theorem inB_iff {s : ByteArray} {l : List ByteArray} : inB s l = true ↔ s ∈ l := by unfold inB; simp
theorem sameB_iff {s t : ByteArray} : sameB s t = true ↔ s = t := by
  rw [sameB_data]
  constructor
  · intro h; exact bytes_ext (by simpa using h)
  · rintro rfl; simp
theorem findGo_lt (s : ByteArray) : ∀ (ts : List Tab) (i : Nat), (s ∈ ts.map Tab.name → 0 ≤ findGo s ts i) ∧ (s ∉ ts.map Tab.name → findGo s ts i = -1)
  | [], i => ⟨fun h => by simp at h, fun _ => rfl⟩
  | t :: r, i => by
    have ih := findGo_lt s r (i + 1)
    unfold findGo
    by_cases h : sameB t.name s = true
    · rw [if_pos h]
      refine ⟨fun _ => by omega, fun hn => absurd (sameB_iff.1 h) (fun e => hn (by simp [e]))⟩
    · rw [if_neg h]
      have hne : t.name ≠ s := fun e => h (sameB_iff.2 e)
      refine ⟨fun hm => ih.1 ?_, fun hn => ih.2 fun hm => hn ?_⟩
      · simp only [List.map_cons, List.mem_cons] at hm
        exact hm.resolve_left (fun e => hne e.symm)
      · simp only [List.map_cons, List.mem_cons]; exact .inr hm
theorem find_ge (ts : List Tab) (s : ByteArray) : decide (0 ≤ findS ts s) = inB s (ts.map Tab.name) := by
  unfold findS
  have h := findGo_lt s ts 0
  by_cases hm : s ∈ ts.map Tab.name
  · rw [inB_iff.2 hm]; simpa using h.1 hm
  · rw [inB_none hm, h.2 hm]; decide
theorem checkS_plain {ver : Int} {ts : List Tab} (hv : 0 ≤ ver ∧ ver ≤ 2) (hl : ts.length ≤ 8) (h : ∀ t ∈ ts, t.cols.length ≤ 8 ∧ t.refs = [] ∧ t.checks = []) :
    checkS ver ts = if namesB [] (ts.map Tab.name) && ts.all validColsT then 0 else 70 := by
  unfold checkS
  have h1 : ts.any largeT = false := by
    rw [List.any_eq_false]
    intro t ht
    obtain ⟨a, b, c⟩ := h t ht
    unfold largeT
    rw [b, c]; simp; omega
  have h2 : condE ts = 0 := by
    unfold condE
    refine firstNZ_none fun x hx => ?_
    obtain ⟨t, ht, rfl⟩ := List.mem_map.1 hx
    rw [(h t ht).2.2]; rfl
  have h3 : validS ver ts = (namesB [] (ts.map Tab.name) && ts.all validColsT) := by
    unfold validS
    rw [decide_eq_true hv.1, decide_eq_true (show ver ≤ 1000 by omega)]
    have : (List.range ts.length).all (tabOk ts) = ts.all validColsT := by
      rw [Bool.eq_iff_iff, List.all_eq_true, List.all_eq_true]
      constructor
      · intro ha t ht
        obtain ⟨i, hi, rfl⟩ := List.getElem_of_mem ht
        have := ha i (by simpa using hi)
        unfold tabOk at this
        rw [tabOf_nat hi, Bool.and_eq_true] at this
        exact this.1
      · intro ha i hi
        have hi' : i < ts.length := by simpa using hi
        unfold tabOk refsT
        rw [tabOf_nat hi', ha _ (List.getElem_mem hi'), (h _ (List.getElem_mem hi')).2.1]; rfl
    rw [this]; simp
  rw [h1, h2, h3, decide_eq_false (by omega)]
  simp
theorem name7_projects : nameB sProjects = true := name_of 8 rfl (by omega) (by omega) (by decide)
theorem name7_tasks : nameB sTasks = true := name_of 5 rfl (by omega) (by omega) (by decide)
theorem name7_members : nameB sMembers = true := name_of 7 rfl (by omega) (by omega) (by decide)
theorem name7_archived : nameB sArchived = true := name_of 8 rfl (by omega) (by omega) (by decide)
theorem name7_id : nameB sId = true := name_of 2 rfl (by omega) (by omega) (by decide)
theorem name7_owner : nameB sOwner = true := name_of 5 rfl (by omega) (by omega) (by decide)
theorem name7_project : nameB sProject = true := name_of 7 rfl (by omega) (by omega) (by decide)
theorem name7_title : nameB sTitle = true := name_of 5 rfl (by omega) (by omega) (by decide)
theorem name7_done : nameB sDone = true := name_of 4 rfl (by omega) (by omega) (by decide)
theorem name7_person : nameB sPerson = true := name_of 6 rfl (by omega) (by omega) (by decide)
theorem name7_task : nameB sTask = true := name_of 4 rfl (by omega) (by omega) (by decide)
def sOther : ByteArray := ⟨#[111, 116, 104, 101, 114]⟩
theorem name7_other : nameB sOther = true := name_of 5 rfl (by omega) (by omega) (by decide)
/-- Names that are all names, and all different. -/
theorem namesB_of : ∀ (l seen : List ByteArray), (∀ s ∈ l, nameB s = true ∧ s ∉ seen) → l.Nodup → namesB seen l = true
  | [], _, _, _ => rfl
  | s :: l, seen, h, hn => by
    show (nameB s && !inB s seen && namesB (s :: seen) l) = true
    rw [(h s (List.mem_cons_self ..)).1, inB_none (h s (List.mem_cons_self ..)).2, namesB_of l (s :: seen) (fun x hx => ⟨(h x (List.mem_cons_of_mem _ hx)).1, ?_⟩) (List.nodup_cons.1 hn).2]; rfl
    rw [List.mem_cons, not_or]
    exact ⟨fun e => (List.nodup_cons.1 hn).1 (e ▸ hx), (h x (List.mem_cons_of_mem _ hx)).2⟩
def pTabs (n : Nat) (id : Int) : List Tab := tabs4 n id [] [] [] []
theorem pTab_ok (id : Int) (hid : id = 4 ∨ id = 5) : ∀ i, validColsT (tab4 id [] [] [] [] i) = true ∧ (tab4 id [] [] [] [] i).cols.length ≤ 8 ∧ (tab4 id [] [] [] [] i).refs = [] ∧ (tab4 id [] [] [] [] i).checks = []
  | 0 => ⟨by
      unfold validColsT
      show (_ && namesB [] [sId, sOwner] && _) = true
      rw [namesB_of _ _ (by simp [name7_id, name7_owner]) (by decide)]; rfl, by show 2 ≤ 8; omega, rfl, rfl⟩
  | 1 => ⟨by
      unfold validColsT
      show (_ && namesB [] [sId, sProject, sTitle, sDone] && _) = true
      rw [namesB_of _ _ (by simp [name7_id, name7_project, name7_title, name7_done]) (by decide)]
      rcases hid with rfl | rfl <;> rfl, by show 4 ≤ 8; omega, rfl, rfl⟩
  | 2 => ⟨by
      unfold validColsT
      show (_ && namesB [] [sProject, sPerson] && _) = true
      rw [namesB_of _ _ (by simp [name7_project, name7_person]) (by decide)]; rfl, by show 2 ≤ 8; omega, rfl, rfl⟩
  | n + 3 => ⟨by
      unfold validColsT
      show (_ && namesB [] [sTask] && _) = true
      rw [namesB_of _ _ (by simp [name7_task]) (by decide)]
      rcases hid with rfl | rfl <;> rfl, by show 1 ≤ 8; omega, rfl, rfl⟩
theorem pTabs_ok (n : Nat) (id : Int) (hid : id = 4 ∨ id = 5) : ∀ t ∈ pTabs n id, validColsT t = true ∧ t.cols.length ≤ 8 ∧ t.refs = [] ∧ t.checks = [] := by
  intro t ht
  obtain ⟨i, -, rfl⟩ := List.mem_map.1 ht
  exact pTab_ok id hid i
theorem pNames (n : Nat) (id : Int) (hn2 : 2 ≤ n) (hn4 : n ≤ 4) : (pTabs n id).map Tab.name = [sProjects, sTasks, sMembers, sArchived].take n := by
  obtain rfl | rfl | rfl : n = 2 ∨ n = 3 ∨ n = 4 := by omega
  · rfl
  · rfl
  · rfl
theorem pNames_ok (n : Nat) : namesB [] ([sProjects, sTasks, sMembers, sArchived].take n) = true ∧ sOther ∉ [sProjects, sTasks, sMembers, sArchived].take n := by
  refine ⟨namesB_of _ _ (fun s hs => ⟨?_, by simp⟩) ((by decide : [sProjects, sTasks, sMembers, sArchived].Nodup).sublist (List.take_sublist _ _)), fun h => ?_⟩
  · have := List.mem_of_mem_take hs
    simp at this
    rcases this with rfl | rfl | rfl | rfl
    · exact name7_projects
    · exact name7_tasks
    · exact name7_members
    · exact name7_archived
  · have := List.mem_of_mem_take h
    simp [sOther, sProjects, sTasks, sMembers, sArchived] at this
def newT1 (s : ByteArray) : Tab := ⟨s, 1, [⟨sId, 4⟩], [], []⟩
def newT2 (s : ByteArray) : Tab := ⟨sOther, 1, [⟨s, 4⟩], [], []⟩
theorem valid_new1 (s : ByteArray) : validColsT (newT1 s) = true := by
  unfold validColsT
  show (_ && namesB [] [sId] && _) = true
  rw [namesB_of _ _ (by simp [name7_id]) (by decide)]; rfl
theorem valid_new2 (s : ByteArray) : validColsT (newT2 s) = nameB s := by
  unfold validColsT
  show (_ && (nameB s && !inB s [] && true) && _) = nameB s
  rw [inB_nil]
  cases nameB s <;> rfl
theorem check_new1 (ver : Int) (n : Nat) (id : Int) (s : ByteArray) (hv : 0 ≤ ver ∧ ver ≤ 2) (hn2 : 2 ≤ n) (hn4 : n ≤ 4) (hid : id = 4 ∨ id = 5) :
    checkS ver (pTabs n id ++ [newT1 s]) = if !nameB s || decide (0 ≤ findS (pTabs n id) s) then 70 else 0 := by
  have hp := pTabs_ok n id hid
  have hlen : (pTabs n id).length = n := tabs4_length ..
  rw [checkS_plain hv (by rw [List.length_append, hlen]; simp; omega) (fun t ht => by
    rcases List.mem_append.1 ht with h | h
    · exact (hp t h).2
    · rw [List.mem_singleton] at h; subst h; exact ⟨by show 1 ≤ 8; omega, rfl, rfl⟩), List.map_append, List.map_cons, List.map_nil, namesB_snoc, pNames n id hn2 hn4, (pNames_ok n).1, find_ge, pNames n id hn2 hn4]
  have ha : (pTabs n id ++ [newT1 s]).all validColsT = true := by
    rw [List.all_append, List.all_eq_true.2 fun t ht => (hp t ht).1]
    show (true && (validColsT (newT1 s) && true)) = true
    rw [valid_new1]; rfl
  rw [ha]
  show (if (true && (nameB s && !inB s (([sProjects, sTasks, sMembers, sArchived].take n).reverse ++ []))) && true then (0 : Int) else 70) = _
  have hi : inB s (([sProjects, sTasks, sMembers, sArchived].take n).reverse ++ []) = inB s ([sProjects, sTasks, sMembers, sArchived].take n) := by
    rw [Bool.eq_iff_iff, inB_iff, inB_iff]; simp
  rw [hi]
  cases nameB s <;> cases inB s ([sProjects, sTasks, sMembers, sArchived].take n) <;> rfl
theorem check_new2 (ver : Int) (n : Nat) (id : Int) (s : ByteArray) (hv : 0 ≤ ver ∧ ver ≤ 2) (hn2 : 2 ≤ n) (hn4 : n ≤ 4) (hid : id = 4 ∨ id = 5) :
    checkS ver (pTabs n id ++ [newT2 s]) = if !nameB s then 70 else 0 := by
  have hp := pTabs_ok n id hid
  have hlen : (pTabs n id).length = n := tabs4_length ..
  rw [checkS_plain hv (by rw [List.length_append, hlen]; simp; omega) (fun t ht => by
    rcases List.mem_append.1 ht with h | h
    · exact (hp t h).2
    · rw [List.mem_singleton] at h; subst h; exact ⟨by show 1 ≤ 8; omega, rfl, rfl⟩), List.map_append, List.map_cons, List.map_nil, namesB_snoc, pNames n id hn2 hn4, (pNames_ok n).1]
  have ha : (pTabs n id ++ [newT2 s]).all validColsT = nameB s := by
    rw [List.all_append, List.all_eq_true.2 fun t ht => (hp t ht).1]
    show (true && (validColsT (newT2 s) && true)) = nameB s
    rw [valid_new2]; simp
  rw [ha]
  show (if (true && (nameB sOther && !inB sOther (([sProjects, sTasks, sMembers, sArchived].take n).reverse ++ []))) && nameB s then (0 : Int) else 70) = _
  rw [name7_other, inB_none (by simpa using (pNames_ok n).2)]
  cases nameB s <;> rfl
end Go.Proofs.YtlchcakmcikjnaaDoor
set_option linter.unusedSimpArgs false
set_option linter.unusedVariables false
namespace Go.Proofs.YtlchcakmcikjnaaDoor
open Go.RowKit

theorem infoTab7 : (Tryd.prog.info? 35).map (fun i => (i.zero, i.size, i.bytes)) = some (some (.agg #[.string ⟨#[]⟩, .slice none 0 0, .int .i64 0, .slice none 0 0, .slice none 0 0]), 5, 96) := by kernel_rfl
theorem info_parts5 {t : TypeId} {z : Value} (h : (Tryd.prog.info? t).map (fun i => (i.zero, i.size, i.bytes)) = some (some z, 5, 96)) : ∃ i, Tryd.prog.info? t = some i ∧ i.zero = some z ∧ i.size = 5 ∧ i.bytes = 96 := by
  obtain ⟨i, h1, h2⟩ := Option.map_eq_some_iff.1 h
  simp only [Prod.mk.injEq] at h2
  exact ⟨i, h1, h2.1, h2.2.1, h2.2.2⟩
/-- The five values at i say this table. -/
structure TabX (xs : List Value) (i : Nat) (t : Tab) (ca : Option Addr) (cc : Nat) (ra : Option Addr) (rn rc : Nat) (ka : Option Addr) (kn kc : Nat) : Prop where
  name : xs[i * 5]? = some (.string t.name)
  cols : xs[i * 5 + 1]? = some (.slice ca t.cols.length cc)
  key : xs[i * 5 + 2]? = some (.int .i64 t.key)
  refs : xs[i * 5 + 3]? = some (.slice ra rn rc)
  checks : xs[i * 5 + 4]? = some (.slice ka kn kc)
/-- The values xs say these tables, whose slices lie in blocks of S. -/
def TabsX (full : Bool) (k : Nat) (S : Nat → Prop) (w : World) (xs : List Value) (L : List Tab) : Prop :=
  xs.length = L.length * 5 ∧ ∀ i (h : i < L.length), ∃ (ca : Option Addr) (cc : Nat) (ra : Option Addr) (rn rc : Nat) (ka : Option Addr) (kn kc : Nat), TabX xs i L[i] ca cc ra rn rc ka kn kc ∧ TabV full k S w L[i] ca cc ra rn rc ka kn kc
theorem TabsX.later {full : Bool} {k : Nat} {S : Nat → Prop} {w w' : World} {xs : List Value} {L : List Tab} (h : TabsX full k S w xs L) (hw : Below w.heap.size w w') : TabsX full k S w' xs L :=
  ⟨h.1, fun i hi => let ⟨ca, cc, ra, rn, rc, ka, kn, kc, c, v⟩ := h.2 i hi; ⟨ca, cc, ra, rn, rc, ka, kn, kc, c, v.later hw⟩⟩
theorem TabsX.mono {full : Bool} {k : Nat} {S S' : Nat → Prop} {w : World} {xs : List Value} {L : List Tab} (h : TabsX full k S w xs L) (hs : ∀ b, b < w.heap.size → S b → S' b) : TabsX full k S' w xs L :=
  ⟨h.1, fun i hi => let ⟨ca, cc, ra, rn, rc, ka, kn, kc, c, v⟩ := h.2 i hi; ⟨ca, cc, ra, rn, rc, ka, kn, kc, c, v.mono hs⟩⟩
theorem TabsX.snoc {full : Bool} {k : Nat} {S : Nat → Prop} {w : World} {xs : List Value} {L : List Tab} (h : TabsX full k S w xs L) (t : Tab) {ca : Option Addr} {cc : Nat} {ra : Option Addr} {rn rc : Nat} {ka : Option Addr} {kn kc : Nat} (hv : TabV full k S w t ca cc ra rn rc ka kn kc) :
    TabsX full k S w (xs ++ [.string t.name, .slice ca t.cols.length cc, .int .i64 t.key, .slice ra rn rc, .slice ka kn kc]) (L ++ [t]) := by
  obtain ⟨hl, h⟩ := h
  refine ⟨by simp [hl]; omega, fun i hi => ?_⟩
  by_cases hc : i < L.length
  · obtain ⟨ca, cc, ra, rn, rc, ka, kn, kc, c, v⟩ := h i hc
    refine ⟨ca, cc, ra, rn, rc, ka, kn, kc, ?_, by rw [List.getElem_append_left hc]; exact v⟩
    rw [List.getElem_append_left hc]
    exact ⟨by rw [List.getElem?_append_left (by omega)]; exact c.name, by rw [List.getElem?_append_left (by omega)]; exact c.cols, by rw [List.getElem?_append_left (by omega)]; exact c.key, by rw [List.getElem?_append_left (by omega)]; exact c.refs, by rw [List.getElem?_append_left (by omega)]; exact c.checks⟩
  · obtain rfl : i = L.length := by simp at hi; omega
    refine ⟨ca, cc, ra, rn, rc, ka, kn, kc, ?_, by simpa using hv⟩
    have e : (L ++ [t])[L.length]'hi = t := by simp
    rw [e]
    refine ⟨?_, ?_, ?_, ?_, ?_⟩
    · rw [List.getElem?_append_right (by omega), hl, show L.length * 5 - L.length * 5 = 0 by omega]; rfl
    · rw [List.getElem?_append_right (by omega), hl, show L.length * 5 + 1 - L.length * 5 = 1 by omega]; rfl
    · rw [List.getElem?_append_right (by omega), hl, show L.length * 5 + 2 - L.length * 5 = 2 by omega]; rfl
    · rw [List.getElem?_append_right (by omega), hl, show L.length * 5 + 3 - L.length * 5 = 3 by omega]; rfl
    · rw [List.getElem?_append_right (by omega), hl, show L.length * 5 + 4 - L.length * 5 = 4 by omega]; rfl
theorem TabsX.one {full : Bool} {k : Nat} {S : Nat → Prop} {w : World} {xs : List Value} {L : List Tab} (h : TabsX full k S w xs L) : ∀ u ∈ xs, u.oneCell' = true := by
  intro u hu
  obtain ⟨j, hj, rfl⟩ := List.getElem_of_mem hu
  have hl := h.1
  obtain ⟨ca, cc, ra, rn, rc, ka, kn, kc, c, -⟩ := h.2 (j / 5) (by omega)
  have hq : j = j / 5 * 5 ∨ j = j / 5 * 5 + 1 ∨ j = j / 5 * 5 + 2 ∨ j = j / 5 * 5 + 3 ∨ j = j / 5 * 5 + 4 := by omega
  have hs : xs[j]? = some xs[j] := List.getElem?_eq_getElem hj
  generalize xs[j] = x at hs
  obtain ⟨t, ht⟩ : ∃ t, L[j / 5]'(by omega) = t := ⟨_, rfl⟩
  rw [ht] at c
  clear ht
  generalize j / 5 = i at c hq
  rcases hq with e | e | e | e | e
  · rw [e, c.name] at hs; cases hs; rfl
  · rw [e, c.cols] at hs; cases hs; rfl
  · rw [e, c.key] at hs; cases hs; rfl
  · rw [e, c.refs] at hs; cases hs; rfl
  · rw [e, c.checks] at hs; cases hs; rfl
/-- The values of the tables in memory. -/
def tnews (w : World) (tb m : Nat) : List Value := (List.range m).map fun j => (w.cell? ⟨tb, j, none⟩).getD .nilIface
theorem tnews_at {w : World} {tb m j : Nat} {u : Value} (h : w.cell? ⟨tb, j, none⟩ = some u) (hj : j < m) : (tnews w tb m)[j]? = some u := by
  unfold tnews
  rw [List.getElem?_map, List.getElem?_range hj]
  simp [h]
theorem tnews_x {full : Bool} {k : Nat} {T S : Nat → Prop} {w : World} {tb n cap : Nat} {L : List Tab} (h : TabsAt full k T S w (.slice (some ⟨tb, 0, none⟩) n cap) L) (hn : L.length = n) : TabsX full k S w (tnews w tb (n * 5)) L := by
  refine ⟨by unfold tnews; simp [hn], fun i hi => ?_⟩
  obtain ⟨b, off, hb, -, -, ca, cc, ra, rn, rc, ka, kn, kc, c, v⟩ := h.get hi
  simp only [Option.some.injEq, Addr.mk.injEq, and_true] at hb
  obtain ⟨rfl, rfl⟩ := hb
  obtain ⟨c0, c1, c2, c3, c4⟩ := c
  simp only [Nat.zero_add] at c0 c1 c2 c3 c4
  exact ⟨ca, cc, ra, rn, rc, ka, kn, kc, ⟨tnews_at c0 (by omega), tnews_at c1 (by omega), tnews_at c2 (by omega), tnews_at c3 (by omega), tnews_at c4 (by omega)⟩, v⟩
theorem tnews_cell {full : Bool} {k : Nat} {T S : Nat → Prop} {w : World} {tb n cap : Nat} {L : List Tab} (h : TabsAt full k T S w (.slice (some ⟨tb, 0, none⟩) n cap) L) (hn : L.length = n) :
    ∀ j u, (tnews w tb (n * 5))[j]? = some u → w.cell? ((⟨tb, 0, none⟩ : Addr).add j) = some u := by
  intro j u hj
  have hjl : j < n * 5 := by
    have := (List.getElem?_eq_some_iff.1 hj).1
    unfold tnews at this; simpa using this
  obtain ⟨b, off, hb, -, -, ca, cc, ra, rn, rc, ka, kn, kc, c, v⟩ := h.get (i := j / 5) (by omega)
  simp only [Option.some.injEq, Addr.mk.injEq, and_true] at hb
  obtain ⟨rfl, rfl⟩ := hb
  obtain ⟨c0, c1, c2, c3, c4⟩ := c
  simp only [Nat.zero_add] at c0 c1 c2 c3 c4
  have hc : ∃ x, w.cell? ⟨tb, j, none⟩ = some x := by
    have hq : j = j / 5 * 5 ∨ j = j / 5 * 5 + 1 ∨ j = j / 5 * 5 + 2 ∨ j = j / 5 * 5 + 3 ∨ j = j / 5 * 5 + 4 := by omega
    clear v
    obtain ⟨t, ht⟩ : ∃ t, L[j / 5]'(by omega) = t := ⟨_, rfl⟩
    rw [ht] at c0 c1 c2
    clear ht
    generalize j / 5 = i at c0 c1 c2 c3 c4 hq
    rcases hq with e | e | e | e | e
    · exact ⟨_, e ▸ c0⟩
    · exact ⟨_, e ▸ c1⟩
    · exact ⟨_, e ▸ c2⟩
    · exact ⟨_, e ▸ c3⟩
    · exact ⟨_, e ▸ c4⟩
  obtain ⟨x, hx⟩ := hc
  rw [tnews_at hx hjl] at hj
  cases hj
  have : (⟨tb, 0, none⟩ : Addr).add j = ⟨tb, j, none⟩ := by unfold Addr.add; split <;> simp_all
  rw [this]; exact hx
/-- Tables in a slice that the call owns. -/
theorem tabs_own {full : Bool} {k : Nat} {S : Nat → Prop} {base : Nat} {w : World} {v : Value} {xs : List Value} {L : List Tab} (ho : w.ownsRow base 35 5 v L.length xs) (h : TabsX full k S w xs L) (hl : L.length ≤ 17592186044416) : TabsAt full k (fun g => base ≤ g) S w v L := by
  have ho' := ho
  obtain ⟨hx, hv | ⟨g, cap, cur, hv, hg, hh, hcap, hm, hs, ht⟩⟩ := ho
  · obtain ⟨rfl, hn⟩ := hv
    obtain rfl : L = [] := List.eq_nil_of_length_eq_zero hn
    exact ⟨none, 0, rfl, by simp, .inl rfl⟩
  · subst hv
    refine ⟨some ⟨g, 0, none⟩, cap, rfl, hl, .inr ⟨g, 0, rfl, (Array.getElem?_eq_some_iff.1 hh).1, hg, fun i hi => ?_⟩⟩
    obtain ⟨ca, cc, ra, rn, rc, ka, kn, kc, c, v⟩ := h.2 i hi
    refine ⟨ca, cc, ra, rn, rc, ka, kn, kc, ⟨?_, ?_, ?_, ?_, ?_⟩, v⟩
    · rw [Nat.zero_add, ho'.cellAt _ (by omega)]; exact c.name
    · rw [Nat.zero_add, ho'.cellAt _ (by omega)]; exact c.cols
    · rw [Nat.zero_add, ho'.cellAt _ (by omega)]; exact c.key
    · rw [Nat.zero_add, ho'.cellAt _ (by omega)]; exact c.refs
    · rw [Nat.zero_add, ho'.cellAt _ (by omega)]; exact c.checks
theorem Laid4.tabsT {S : Nat → Prop} {w : World} {tb : Nat} {id : Int} {T : Nat → Tab} {n : Nat} (h : Laid4 S w tb T) (hn : n ≤ 4) (hT : ∀ i, i < n → T i = tab4 id [] [] [] [] i) (cap : Nat) : TabsAt true 3 (fun g => g = tb) S w (.slice (some ⟨tb, 0, none⟩) n cap) (pTabs n id) := by
  unfold pTabs
  refine ⟨_, cap, by rw [tabs4_length], by rw [tabs4_length]; omega, .inr ⟨tb, 0, rfl, h.lt, rfl, fun i hi => ?_⟩⟩
  rw [tabs4_get]
  rw [tabs4_length] at hi
  rw [← hT i hi]
  exact h.at_ i (by omega)
/-- The slices of a table of one column that has just been laid. -/
theorem tabv_new (w : World) (x : Col) (t : Tab) (ht : t.cols = [x] ∧ t.refs = [] ∧ t.checks = []) (X : TypeId) {S : Nat → Prop} (hS : S w.heap.size) : TabV true 3 S (w.alloc (.cells #[.string x.n, .int .i64 x.k] X)) t (some ⟨w.heap.size, 0, none⟩) 1 none 0 0 none 0 0 := by
  obtain ⟨h1, h2, h3⟩ := ht
  refine ⟨?_, fun _ => ?_, fun _ => ?_⟩
  · rw [h1]; exact (cols_new1 w x X).mono fun g _ e => e ▸ hS
  · rw [h2]; exact RefsAt.nil none 0
  · rw [h3]; exact PrIn.nil 3 none 0
end Go.Proofs.YtlchcakmcikjnaaDoor
set_option linter.unusedSimpArgs false
set_option linter.unusedVariables false
namespace Go.Proofs.YtlchcakmcikjnaaDoor
open Go.RowKit

open Go.ChangeShapes Go.WideShapes Go.ChangeAt Go.RowKit
namespace SNames
set_option maxRecDepth 100000 in
theorem open_str7 {H : Type} {enc : TypeId × Value → H} {w : World} {base : Nat} {spare : Nat → Bool} {held : Bool} {r : Reach} {b0 : Nat} {v : Value} {d : DataW H} {p : List MemPlace} (hv : Value.okWide Tryd.prog w r b0 9 v) (h : DataW.Trod enc Tryd.prog w base spare held 9 v d p)
    (hsz : ∀ bs, d = .lit (.string bs) → bs.length ≤ reachBytes) : ∃ s : ByteArray, v = .string s ∧ s.size ≤ 140737488351232 := by
  obtain ⟨s, rfl, rfl, -, -⟩ := Go.ChangeMaps.open_string Tryd.underlying9 hv h
  have := hsz _ rfl
  exact ⟨s, rfl, by simpa [reachBytes] using this⟩
/-- What the two copies of the schema are. -/
structure Two (w0 wr : World) (g6 g7 : Nat) (ver : Int) (a6 : Option Addr) (n6 c6 : Nat) (a7 : Option Addr) (n7 c7 : Nat) : Prop where
  b6 : w0.heap.size ≤ g6
  b7 : w0.heap.size ≤ g7
  ne : g6 ≠ g7
  x6 : SBoxF wr g6 ver a6 n6 c6
  x7 : SBoxF wr g7 ver a7 n7 c7
  g : Below w0.heap.size w0 wr
theorem two_new (W : World) (ver : Int) (a : Option Addr) (n cap : Nat) (X : TypeId) :
    Two W ((W.alloc (.cells #[.int .i64 ver, .slice a n cap] X)).alloc (.cells #[.int .i64 ver, .slice a n cap] X)).drew W.heap.size (W.heap.size + 1) ver a n cap a n cap ∧
    Two W ((W.alloc (.cells #[.int .i64 ver, .slice a n cap] X)).alloc (.cells #[.int .i64 ver, .slice a n cap] X)).drew (W.heap.size + 1) W.heap.size ver a n cap a n cap := by
  have hb : Below W.heap.size W ((W.alloc (.cells #[.int .i64 ver, .slice a n cap] X)).alloc (.cells #[.int .i64 ver, .slice a n cap] X)).drew := (((Below.refl _ _).alloc (Nat.le_refl _) _).alloc (by simp) _).drew
  have h0 : SBoxF ((W.alloc (.cells #[.int .i64 ver, .slice a n cap] X)).alloc (.cells #[.int .i64 ver, .slice a n cap] X)).drew W.heap.size ver a n cap := ⟨⟨by simp <;> omega, by go_simp, by go_simp⟩, fun o => by go_simp⟩
  have h1 : SBoxF ((W.alloc (.cells #[.int .i64 ver, .slice a n cap] X)).alloc (.cells #[.int .i64 ver, .slice a n cap] X)).drew (W.heap.size + 1) ver a n cap := ⟨⟨by simp <;> omega, by go_simp, by go_simp⟩, fun o => by go_simp⟩
  exact ⟨⟨Nat.le_refl _, by omega, by omega, h0, h1, hb⟩, ⟨by omega, Nat.le_refl _, by omega, h1, h0, hb⟩⟩
theorem TabsX.kept {full : Bool} {k : Nat} {S : Nat → Prop} {w w' : World} {xs : List Value} {L : List Tab} (h : TabsX full k S w xs L) (hw : Kept S w w') : TabsX full k S w' xs L :=
  ⟨h.1, fun i hi => let ⟨ca, cc, ra, rn, rc, ka, kn, kc, c, v⟩ := h.2 i hi; ⟨ca, cc, ra, rn, rc, ka, kn, kc, c, v.kept hw⟩⟩
theorem by_below8 {w w' : World} (h : Below w.heap.size w w') (r : Option Nat) : w.grownBy w' r := ⟨h.os, h.tape, h.output, h.size, fun k hk _ => h.block k hk⟩
theorem five_at (w : World) (o : Obj) (a b c d e : Value) (t : TypeId) (j : Nat) (u : Value) (h : [a, b, c, d, e][j]? = some u) : ((w.alloc o).alloc (.cells #[a, b, c, d, e] t)).cell? ((⟨w.heap.size + 1, 0, none⟩ : Addr).add j) = some u := by
  have h' := cell_five_new (w.alloc o) a b c d e t j u h
  rwa [show (w.alloc o).heap.size = w.heap.size + 1 by simp] at h'
set_option maxHeartbeats 40000000 in
set_option maxRecDepth 100000 in
theorem walk (a : Option Addr) (len cap : Nat) (zs : List Int) (s : ByteArray) (w : World) (hr : IsRow .u8 w a len cap zs) (hsl : s.size ≤ 140737488351232) (hs : Shapes w) :
    Calls Tryd.prog 3 #[.slice a len cap, .string s] w fun e w' => e = .returned (.bool true) ∧ Below w.heap.size w w' := by
  have mx := mixed
  have HN := Lib.hid (new_calls a len cap zs w hr)
  have HS := Lib.hid hs
  have HSL := Lib.hid hsl
  clear hr hs hsl
  go_enter Tryd.func3, Tryd.ntmps3
  go_wp2_with fail
  refine HN.out.mono ?_
  rintro e w1 ⟨b, c, rfl, hbs, hcs, hb1⟩
  have HBS := Lib.hid (And.intro hbs hb1)
  have HSC := Lib.hid (casePlain_calls b c w1 hcs)
  clear hcs hb1 HN hbs
  go_wp2_with fail
  refine HSC.out.mono ?_
  rintro e w2 ⟨ver, tb, cp, n, id, T, rfl, hver, hn2, hn4, hid, hT, htb, hlaid, hc2, hby2⟩
  have HV := Lib.hid (And.intro hver hid)
  obtain ⟨W2, hW2⟩ : ∃ W2, W2 = w2.alloc (.cells #[.int .i64 ver, .slice (some ⟨tb, 0, none⟩) n cp] 25) := ⟨_, rfl⟩
  have ha2 : Below w2.heap.size w2 W2 := by rw [hW2]; exact (Below.refl _ _).alloc (Nat.le_refl _) _
  have HB2 : Hid (Below w.heap.size w W2) := by
    have h2 : Below w.heap.size w w2 := HBS.out.2.grown hby2 HBS.out.2.size (fun k hk => by cases hk; exact HBS.out.1)
    exact h2.trans (ha2.mono h2.size)
  have HTS : Hid (TabsAt true 3 (fun g => g = tb) (fun g => g < W2.heap.size) W2 (.slice (some ⟨tb, 0, none⟩) n cp) (pTabs n id)) := ((hlaid.tabsT hn4 hT cp).later ha2).mono (fun _ _ h => h) (fun _ h _ => h)
  have HSB : Hid (SBox W2 w2.heap.size ver (some ⟨tb, 0, none⟩) n cp) := by rw [hW2]; exact SBox.new _ _ _ _ _ _
  have HW2 := Lib.hid hW2
  clear hver hid hT htb hlaid hc2 hby2 hW2 ha2 HSC HBS
  obtain ⟨sb, hsb⟩ : ∃ sb, w2.heap.size = sb := ⟨_, rfl⟩
  rw [hsb] at HSB
  have HSBB := Lib.hid hsb
  clear hsb
  go_upto_region 2 with fail
  rw [← HW2.out]
  rw [HSBB.out]
  clear HW2 HSBB
  obtain ⟨sl, s0, s1⟩ := HSB.out
  go_cut [6, 7] from 13 to 14 (fun v6 v7 wx => ∃ g6 g7 : Nat, v6 = .pointer (some ⟨g6, 0, none⟩) ∧ v7 = .pointer (some ⟨g7, 0, none⟩) ∧ Two W2 wx g6 g7 ver (some ⟨tb, 0, none⟩) n cp (some ⟨tb, 0, none⟩) n cp)
  case first =>
    go_region
    · go_wp2
      go_meet
      case rel => exact ⟨_, _, rfl, rfl, (two_new _ _ _ _ _ _).1⟩
    · go_wp2
      go_meet
      case rel => exact ⟨_, _, rfl, rfl, (two_new _ _ _ _ _ _).2⟩
  case rest =>
    obtain ⟨g6, g7, rfl, rfl, htw⟩ := hcut
    obtain ⟨w3, rfl⟩ : ∃ wz : World, wz = wc := ⟨_, rfl⟩
    have HTW3 := Lib.hid htw
    obtain ⟨inf, hinf, hz, hsz, hby⟩ := info_parts5 infoTab7
    have HINF := Lib.hid (And.intro hinf (And.intro hz (And.intro hsz hby)))
    have hlen : (pTabs n id).length = n := tabs4_length ..
    clear hinf hz hsz hby htw sl s0 s1
    have HTw3 := Lib.hid (HTS.out.later HTW3.out.g)
    obtain ⟨sl, s0, s1⟩ := HSB.out.later HTW3.out.g
    have hnx := tnews_x HTw3.out hlen
    have hnc := tnews_cell HTw3.out hlen
    obtain ⟨Nw3, hN⟩ : ∃ l, tnews w3 tb (n * 5) = l := ⟨_, rfl⟩
    rw [hN] at hnx hnc
    have HNXw3 := Lib.hid hnx
    have HNCw3 := Lib.hid hnc
    have HNLw3 : Hid (Nw3.length = n * 5) := by show _ = _; rw [hnx.1, hlen]
    clear hnx hnc hN
    go_wp2_with (at_builtin; go_must (refine wpList_append_own _ rfl _ _ 23 rfl w3.heap.size 35 inf (.agg #[.string ⟨#[]⟩, .slice none 0 0, .int .i64 0, .slice none 0 0, .slice none 0 0]) 5 96 Tryd.underlying23 HINF.out.1 HINF.out.2.1 HINF.out.2.2.1 HINF.out.2.2.2 rfl (by decide) _ 0 [] rfl (World.ownsRow_nil _ _ _ _) ⟨tb, 0, none⟩ n cp Nw3 rfl HNLw3.out HNCw3.out HNXw3.out.one (by unfold maxLen; omega) (by omega) (by omega) ?_))
    intro v4 w4 hown hgrow hnil
    have HOw4 : Hid (w4.ownsRow w3.heap.size 35 5 v4 n Nw3) := by show World.ownsRow _ _ _ _ _ _ _; simpa using hown
    have HBw4 : Hid (Below w3.heap.size w3 w4) := (Below.refl _ _).grown hgrow (Nat.le_refl _) (fun k hk => by simp [Value.ownBlock] at hk)
    have hsz4 : w3.heap.size ≤ w4.heap.size := HBw4.out.size
    clear hown hgrow hnil
    go_wp2_with (at_builtin; go_must (refine wpList_append_own _ rfl _ _ 23 rfl w3.heap.size 35 inf (.agg #[.string ⟨#[]⟩, .slice none 0 0, .int .i64 0, .slice none 0 0, .slice none 0 0]) 5 96 Tryd.underlying23 HINF.out.1 HINF.out.2.1 HINF.out.2.2.1 HINF.out.2.2.2 rfl (by decide) _ n Nw3 rfl (World.ownsRow.alloc (World.ownsRow.alloc HOw4.out _) _) ⟨w4.heap.size + 1, 0, none⟩ 1 1 [.string s, .slice (some ⟨w4.heap.size, 0, none⟩) 1 1, .int .i64 1, .slice none 0 0, .slice none 0 0] rfl rfl (five_at _ _ _ _ _ _ _ _) (by intro x hx; simp at hx; rcases hx with rfl | rfl | rfl | rfl | rfl <;> rfl) (by unfold maxLen; omega) (by omega) (by simp; omega) ?_))
    intro v5 w5 hown hgrow hnil
    have HBw5 : Hid (Below w3.heap.size w3 w5) := ((HBw4.out.alloc hsz4 _).alloc (by simp; omega) _).grown hgrow (by simp; omega) (fun k hk => (HOw4.out.lt k hk).1)
    have HXw5 : Hid (TabsX true 3 (fun g => g < W2.heap.size ∨ w3.heap.size ≤ g) w5 (Nw3 ++ [.string s, .slice (some ⟨w4.heap.size, 0, none⟩) 1 1, .int .i64 1, .slice none 0 0, .slice none 0 0]) (pTabs n id ++ [newT1 s])) := by
      have h1 := ((HNXw3.out.mono (S' := fun g => g < W2.heap.size ∨ w4.heap.size ≤ g) fun g _ h => .inl h).later HBw4.out).later ((Below.refl w4.heap.size w4).alloc (Nat.le_refl _) (.cells #[.string sId, .int .i64 4] 30))
      have h2 := h1.snoc (newT1 s) (tabv_new w4 ⟨sId, 4⟩ (newT1 s) ⟨rfl, rfl, rfl⟩ 30 (S := fun g => g < W2.heap.size ∨ w4.heap.size ≤ g) (.inr (Nat.le_refl _)))
      have hgz : W2.heap.size ≤ w3.heap.size := HTW3.out.g.size
      have h3 := TabsX.kept h2 (kept_by (by_trans (World.grownBy_alloc _ _ _) hgrow) fun k hk hS => by have := HOw4.out.lt k hk; omega)
      exact h3.mono fun g _ h => h.imp (fun h => h) fun h => by omega
    obtain ⟨ga, ca, rfl⟩ : ∃ ga ca, v5 = .slice (some ⟨ga, 0, none⟩) (n + 1) ca := by
      obtain ⟨-, ⟨rfl, hn⟩ | ⟨g, cap, cur, hv, -⟩⟩ := hown
      · omega
      · exact ⟨g, cap, hv⟩
    have HAw5 : Hid (TabsAt true 3 (fun g => w3.heap.size ≤ g) (fun g => g < W2.heap.size ∨ w3.heap.size ≤ g) w5 (.slice (some ⟨ga, 0, none⟩) (n + 1) ca) (pTabs n id ++ [newT1 s])) := by
      have hl2 : (pTabs n id ++ [newT1 s]).length = n + 1 := by rw [List.length_append, hlen]; rfl
      exact tabs_own (by rw [hl2]; exact hown) HXw5.out (by rw [hl2]; omega)
    clear hown hgrow hnil HXw5 HOw4 HNXw3 HNCw3 HNLw3 HTw3
    obtain ⟨⟨xl, x0, x1⟩, xf⟩ := HTW3.out.x6.by_ (by_below8 HBw5.out none) (by simp)
    have xf1 := xf 1
    clear xf sl s0 s1
    go_upto_region 4 with fail
    have HTWw6 : Hid (Two W2 (w5.setCell ⟨g6, 1, none⟩ (.slice (some ⟨ga, 0, none⟩) (n + 1) ca)) g6 g7 ver (some ⟨ga, 0, none⟩) (n + 1) ca (some ⟨tb, 0, none⟩) n cp) := by
      have hne := HTW3.out.ne
      have hby : w5.grownBy (w5.setCell ⟨g6, 1, none⟩ (.slice (some ⟨ga, 0, none⟩) (n + 1) ca)) (some g6) := by_store
      have h6 := HTW3.out.x6.by_ (by_below8 HBw5.out none) (by simp)
      have h7 := HTW3.out.x7.by_ (by_below8 HBw5.out none) (by simp)
      have hgl : W2.heap.size ≤ w3.heap.size := HTW3.out.g.size
      have hgb : W2.heap.size ≤ g6 := HTW3.out.b6
      have hgg := HTW3.out.g.trans (HBw5.out.mono hgl)
      refine ⟨HTW3.out.b6, HTW3.out.b7, HTW3.out.ne, ⟨⟨by simpa using h6.s.l, by have := h6.s.c0; go_simp, by have := h6.s.c1; go_simp⟩, fun o => by have := h6.f o; go_simp⟩, SBoxF.by_ h7 hby (by simp <;> omega), hgg.setCell (by exact hgb) _⟩
    have HAw6 : Hid (TabsAt true 3 (fun g => w3.heap.size ≤ g) (fun g => g < W2.heap.size ∨ w3.heap.size ≤ g) (w5.setCell ⟨g6, 1, none⟩ (.slice (some ⟨ga, 0, none⟩) (n + 1) ca)) (.slice (some ⟨ga, 0, none⟩) (n + 1) ca) (pTabs n id ++ [newT1 s])) := by
      have hgb : W2.heap.size ≤ g6 := HTW3.out.b6
      have hgl : g6 < w3.heap.size := HTW3.out.x6.s.l
      refine HAw5.out.kept (kept_by (r := some g6) by_store fun k hk hS => ?_)
      cases hk
      rcases hS with h | h | h <;> omega
    obtain ⟨w6, hwo⟩ : ∃ wz, wz = w5.setCell ⟨g6, 1, none⟩ (.slice (some ⟨ga, 0, none⟩) (n + 1) ca) := ⟨_, rfl⟩
    have HWO := Lib.hid hwo
    rw [← hwo] at HTWw6 HAw6
    clear hwo
    rw [← HWO.out]
    have hsw6 : w3.heap.size ≤ w6.heap.size := by rw [HWO.out]; simpa using HBw5.out.size
    have HKw6 : Hid (Kept (fun k => k ≠ g6) w3 w6) := by
      show Kept _ _ _
      rw [HWO.out]
      exact (kept_below HBw5.out).trans (kept_by (r := some g6) by_store fun k hk hS => hS (by cases hk; rfl))
    clear HWO xl x0 x1 xf1 HAw5 HBw5 HBw4 hsz4
    have HTw6 := Lib.hid (HTS.out.later HTWw6.out.g)
    obtain ⟨sl, s0, s1⟩ := HSB.out.later HTWw6.out.g
    have hnx := tnews_x HTw6.out hlen
    have hnc := tnews_cell HTw6.out hlen
    obtain ⟨Nw6, hN⟩ : ∃ l, tnews w6 tb (n * 5) = l := ⟨_, rfl⟩
    rw [hN] at hnx hnc
    have HNXw6 := Lib.hid hnx
    have HNCw6 := Lib.hid hnc
    have HNLw6 : Hid (Nw6.length = n * 5) := by show _ = _; rw [hnx.1, hlen]
    clear hnx hnc hN
    go_wp2_with (at_builtin; go_must (refine wpList_append_own _ rfl _ _ 23 rfl w6.heap.size 35 inf (.agg #[.string ⟨#[]⟩, .slice none 0 0, .int .i64 0, .slice none 0 0, .slice none 0 0]) 5 96 Tryd.underlying23 HINF.out.1 HINF.out.2.1 HINF.out.2.2.1 HINF.out.2.2.2 rfl (by decide) _ 0 [] rfl (World.ownsRow_nil _ _ _ _) ⟨tb, 0, none⟩ n cp Nw6 rfl HNLw6.out HNCw6.out HNXw6.out.one (by unfold maxLen; omega) (by omega) (by omega) ?_))
    intro v9 w7 hown hgrow hnil
    have HOw7 : Hid (w7.ownsRow w6.heap.size 35 5 v9 n Nw6) := by show World.ownsRow _ _ _ _ _ _ _; simpa using hown
    have HBw7 : Hid (Below w6.heap.size w6 w7) := (Below.refl _ _).grown hgrow (Nat.le_refl _) (fun k hk => by simp [Value.ownBlock] at hk)
    have hsz4 : w6.heap.size ≤ w7.heap.size := HBw7.out.size
    clear hown hgrow hnil
    go_wp2_with (at_builtin; go_must (refine wpList_append_own _ rfl _ _ 23 rfl w6.heap.size 35 inf (.agg #[.string ⟨#[]⟩, .slice none 0 0, .int .i64 0, .slice none 0 0, .slice none 0 0]) 5 96 Tryd.underlying23 HINF.out.1 HINF.out.2.1 HINF.out.2.2.1 HINF.out.2.2.2 rfl (by decide) _ n Nw6 rfl (World.ownsRow.alloc (World.ownsRow.alloc HOw7.out _) _) ⟨w7.heap.size + 1, 0, none⟩ 1 1 [.string ⟨#[111, 116, 104, 101, 114]⟩, .slice (some ⟨w7.heap.size, 0, none⟩) 1 1, .int .i64 1, .slice none 0 0, .slice none 0 0] rfl rfl (five_at _ _ _ _ _ _ _ _) (by intro x hx; simp at hx; rcases hx with rfl | rfl | rfl | rfl | rfl <;> rfl) (by unfold maxLen; omega) (by omega) (by simp; omega) ?_))
    intro v6 w8 hown hgrow hnil
    have HBw8 : Hid (Below w6.heap.size w6 w8) := ((HBw7.out.alloc hsz4 _).alloc (by simp; omega) _).grown hgrow (by simp; omega) (fun k hk => (HOw7.out.lt k hk).1)
    have HXw8 : Hid (TabsX true 3 (fun g => g < W2.heap.size ∨ w6.heap.size ≤ g) w8 (Nw6 ++ [.string ⟨#[111, 116, 104, 101, 114]⟩, .slice (some ⟨w7.heap.size, 0, none⟩) 1 1, .int .i64 1, .slice none 0 0, .slice none 0 0]) (pTabs n id ++ [newT2 s])) := by
      have h1 := ((HNXw6.out.mono (S' := fun g => g < W2.heap.size ∨ w7.heap.size ≤ g) fun g _ h => .inl h).later HBw7.out).later ((Below.refl w7.heap.size w7).alloc (Nat.le_refl _) (.cells #[.string s, .int .i64 4] 30))
      have h2 := h1.snoc (newT2 s) (tabv_new w7 ⟨s, 4⟩ (newT2 s) ⟨rfl, rfl, rfl⟩ 30 (S := fun g => g < W2.heap.size ∨ w7.heap.size ≤ g) (.inr (Nat.le_refl _)))
      have hgz : W2.heap.size ≤ w6.heap.size := HTWw6.out.g.size
      have h3 := TabsX.kept h2 (kept_by (by_trans (World.grownBy_alloc _ _ _) hgrow) fun k hk hS => by have := HOw7.out.lt k hk; omega)
      exact h3.mono fun g _ h => h.imp (fun h => h) fun h => by omega
    obtain ⟨gv, cv, rfl⟩ : ∃ gv cv, v6 = .slice (some ⟨gv, 0, none⟩) (n + 1) cv := by
      obtain ⟨-, ⟨rfl, hn⟩ | ⟨g, cap, cur, hv, -⟩⟩ := hown
      · omega
      · exact ⟨g, cap, hv⟩
    have HAw8 : Hid (TabsAt true 3 (fun g => w6.heap.size ≤ g) (fun g => g < W2.heap.size ∨ w6.heap.size ≤ g) w8 (.slice (some ⟨gv, 0, none⟩) (n + 1) cv) (pTabs n id ++ [newT2 s])) := by
      have hl2 : (pTabs n id ++ [newT2 s]).length = n + 1 := by rw [List.length_append, hlen]; rfl
      exact tabs_own (by rw [hl2]; exact hown) HXw8.out (by rw [hl2]; omega)
    clear hown hgrow hnil HXw8 HOw7 HNXw6 HNCw6 HNLw6 HTw6
    obtain ⟨⟨xl, x0, x1⟩, xf⟩ := HTWw6.out.x7.by_ (by_below8 HBw8.out none) (by simp)
    have xf1 := xf 1
    clear xf sl s0 s1
    go_upto_region 5 with fail
    have HTWw9 : Hid (Two W2 (w8.setCell ⟨g7, 1, none⟩ (.slice (some ⟨gv, 0, none⟩) (n + 1) cv)) g6 g7 ver (some ⟨ga, 0, none⟩) (n + 1) ca (some ⟨gv, 0, none⟩) (n + 1) cv) := by
      have hne := HTWw6.out.ne
      have hby : w8.grownBy (w8.setCell ⟨g7, 1, none⟩ (.slice (some ⟨gv, 0, none⟩) (n + 1) cv)) (some g7) := by_store
      have h6 := HTWw6.out.x6.by_ (by_below8 HBw8.out none) (by simp)
      have h7 := HTWw6.out.x7.by_ (by_below8 HBw8.out none) (by simp)
      have hgl : W2.heap.size ≤ w6.heap.size := HTWw6.out.g.size
      have hgb : W2.heap.size ≤ g7 := HTWw6.out.b7
      have hgg := HTWw6.out.g.trans (HBw8.out.mono hgl)
      refine ⟨HTWw6.out.b6, HTWw6.out.b7, HTWw6.out.ne, SBoxF.by_ h6 hby (by simp <;> omega), ⟨⟨by simpa using h7.s.l, by have := h7.s.c0; go_simp, by have := h7.s.c1; go_simp⟩, fun o => by have := h7.f o; go_simp⟩, hgg.setCell (by exact hgb) _⟩
    have HAw9 : Hid (TabsAt true 3 (fun g => w6.heap.size ≤ g) (fun g => g < W2.heap.size ∨ w6.heap.size ≤ g) (w8.setCell ⟨g7, 1, none⟩ (.slice (some ⟨gv, 0, none⟩) (n + 1) cv)) (.slice (some ⟨gv, 0, none⟩) (n + 1) cv) (pTabs n id ++ [newT2 s])) := by
      have hgb : W2.heap.size ≤ g7 := HTWw6.out.b7
      have hgl : g7 < w6.heap.size := HTWw6.out.x7.s.l
      refine HAw8.out.kept (kept_by (r := some g7) by_store fun k hk hS => ?_)
      cases hk
      rcases hS with h | h | h <;> omega
    obtain ⟨w9, hwo⟩ : ∃ wz, wz = w8.setCell ⟨g7, 1, none⟩ (.slice (some ⟨gv, 0, none⟩) (n + 1) cv) := ⟨_, rfl⟩
    have HWO := Lib.hid hwo
    rw [← hwo] at HTWw9 HAw9
    clear hwo
    rw [← HWO.out]
    have hsw9 : w6.heap.size ≤ w9.heap.size := by rw [HWO.out]; simpa using HBw8.out.size
    have HKw9 : Hid (Kept (fun k => k ≠ g7) w6 w9) := by
      show Kept _ _ _
      rw [HWO.out]
      exact (kept_below HBw8.out).trans (kept_by (r := some g7) by_store fun k hk hS => hS (by cases hk; rfl))
    clear HWO xl x0 x1 xf1 HAw8 HBw8 HBw7 hsz4

    have HAA : Hid (TabsAt true 3 (fun g => w3.heap.size ≤ g) (fun g => g < W2.heap.size ∨ w3.heap.size ≤ g) w9 (.slice (some ⟨ga, 0, none⟩) (n + 1) ca) (pTabs n id ++ [newT1 s])) :=
      HAw6.out.kept (HKw9.out.mono fun k _ hS => by have := HTW3.out.b7; have := HTW3.out.x7.s.l; rcases hS with h | h | h <;> omega)
    have HFIN : Hid (∀ w', Gro w9 w' → Below w.heap.size w w') := fun w' h => HB2.out.trans ((HTWw9.out.g.trans (h.below.mono HTWw9.out.g.size)).mono HB2.out.size)
    have hC1 : ∀ w', Gro w9 w' → Calls Tryd.prog 12 #[.agg #[.int .i64 ver, .slice (some ⟨ga, 0, none⟩) (n + 1) ca]] w' (IntG (checkS ver (pTabs n id ++ [newT1 s])) w') := fun w' h =>
      sCheck_calls 2 _ _ ver _ _ w' (HS.out.later (HFIN.out w' h)) (HAA.out.later h.below)
    have hC2 : ∀ w', Gro w9 w' → Calls Tryd.prog 12 #[.agg #[.int .i64 ver, .slice (some ⟨gv, 0, none⟩) (n + 1) cv]] w' (IntG (checkS ver (pTabs n id ++ [newT2 s])) w') := fun w' h =>
      sCheck_calls 2 _ _ ver _ _ w' (HS.out.later (HFIN.out w' h)) (HAw9.out.later h.below)
    rw [check_new1 ver n id s HV.out.1 hn2 hn4 HV.out.2] at hC1
    rw [check_new2 ver n id s HV.out.1 hn2 hn4 HV.out.2] at hC2
    have hNM : ∀ w', Gro w9 w' → Calls Tryd.prog 9 #[.string s] w' (BoolG (nameB s) w') := fun w' _ => refName_calls s (by have := HSL.out; omega) w'
    have hFD : ∀ w', Gro w9 w' → Calls Tryd.prog 10 #[.agg #[.int .i64 ver, .slice (some ⟨tb, 0, none⟩) n cp], .string s] w' (IntG (findS (pTabs n id) s) w') := fun w' h =>
      refFind_calls true 3 _ _ ver _ _ s w' ((HTS.out.later HTWw9.out.g).later h.below)
    have HBE : Hid (∀ w', Gro w9 w' → Calls Tryd.prog 11 #[] w' fun e w'' => e = .returned (.bool true) ∧ Gro w' w'') := fun w' h => begun7_calls w' (HS.out.later (HFIN.out w' h))
    generalize nameB s = nb at hC1 hC2 hNM
    generalize findS (pTabs n id) s = fd at hC1 hFD
    have HSB9 := Lib.hid (HSB.out.later HTWw9.out.g)
    have HX6 := Lib.hid HTWw9.out.x6
    have HX7 := Lib.hid HTWw9.out.x7
    have HC1 := Lib.hid hC1
    have HC2 := Lib.hid hC2
    have HNM := Lib.hid hNM
    have HFD := Lib.hid hFD
    clear hC1 hC2 hNM hFD HAA HAw6 HAw9 HKw9 HKw6 HTWw9 HTWw6 HTW3 HTS HSB HS hsw6 hsw9
    cases nb with
    | false =>
      simp only [Bool.not_false, Bool.true_or, if_true] at HC1 HC2
      have HG0 := Lib.hid (Gro.refl w9)
      go_wp2_with fail
      refine (HNM.out w9 HG0.out).mono ?_
      rintro e w10 ⟨rfl, hg⟩
      have HG1 := Lib.hid (HG0.out.trans hg)
      clear hg
      go_wp2_with fail
      refine (HNM.out w10 HG1.out).mono ?_
      rintro e w11 ⟨rfl, hg⟩
      have HG2 := Lib.hid (HG1.out.trans hg)
      clear hg
      go_wp2_with fail
      refine (HBE.out w11 HG2.out).mono ?_
      rintro e wb ⟨rfl, hg⟩
      have HGb := Lib.hid (HG2.out.trans hg)
      clear hg
      obtain ⟨yl, y0, y1⟩ := (HX6.out.by_ (by_below8 HGb.out.below none) (by simp)).s
      go_wp2_with fail
      refine (HC1.out wb HGb.out).mono ?_
      rintro e wc1 ⟨rfl, hg⟩
      have HGc := Lib.hid (HGb.out.trans hg)
      clear hg
      clear yl y0 y1
      obtain ⟨yl, y0, y1⟩ := (HX7.out.by_ (by_below8 HGc.out.below none) (by simp)).s
      go_wp2_with fail
      refine (HC2.out wc1 HGc.out).mono ?_
      rintro e wd ⟨rfl, hg⟩
      have HGd := Lib.hid (HGc.out.trans hg)
      clear hg
      clear yl y0 y1
      go_wp2_with fail
      go_ret
      exact ⟨rfl, HFIN.out _ HGd.out⟩
    | true =>
      by_cases hf : 0 ≤ fd
      · have hd : decide (fd ≥ 0) = true := by simpa using hf
        have hd' : decide (0 ≤ fd) = true := by simpa using hf
        simp only [Bool.not_true, Bool.false_or, hd', if_true, Bool.false_eq_true, if_false] at HC1 HC2
        have HG0 := Lib.hid (Gro.refl w9)
        go_wp2_with fail
        refine (HNM.out w9 HG0.out).mono ?_
        rintro e w10 ⟨rfl, hg⟩
        have HG1 := Lib.hid (HG0.out.trans hg)
        clear hg
        obtain ⟨yl, y0, y1⟩ := HSB9.out.later HG1.out.below
        go_wp2_with fail
        refine (HFD.out w10 HG1.out).mono ?_
        rintro e w11 ⟨rfl, hg⟩
        have HG2 := Lib.hid (HG1.out.trans hg)
        clear hg
        clear yl y0 y1
        go_wp2_with fail
        refine (HNM.out w11 HG2.out).mono ?_
        rintro e w12 ⟨rfl, hg⟩
        have HG3 := Lib.hid (HG2.out.trans hg)
        clear hg
        go_wp2_with fail
        refine (HBE.out w12 HG3.out).mono ?_
        rintro e wb ⟨rfl, hg⟩
        have HGb := Lib.hid (HG3.out.trans hg)
        clear hg
        obtain ⟨yl, y0, y1⟩ := (HX6.out.by_ (by_below8 HGb.out.below none) (by simp)).s
        go_wp2_with fail
        refine (HC1.out wb HGb.out).mono ?_
        rintro e wc1 ⟨rfl, hg⟩
        have HGc := Lib.hid (HGb.out.trans hg)
        clear hg
        clear yl y0 y1
        obtain ⟨yl, y0, y1⟩ := (HX7.out.by_ (by_below8 HGc.out.below none) (by simp)).s
        go_wp2_with fail
        refine (HC2.out wc1 HGc.out).mono ?_
        rintro e wd ⟨rfl, hg⟩
        have HGd := Lib.hid (HGc.out.trans hg)
        clear hg
        clear yl y0 y1
        go_wp2_with fail
        go_ret
        exact ⟨rfl, HFIN.out _ HGd.out⟩
      · have hd : decide (fd ≥ 0) = false := by simpa using hf
        have hd' : decide (0 ≤ fd) = false := by simpa using hf
        simp only [Bool.not_true, Bool.false_or, hd', if_true, Bool.false_eq_true, if_false] at HC1 HC2
        have HG0 := Lib.hid (Gro.refl w9)
        go_wp2_with fail
        refine (HNM.out w9 HG0.out).mono ?_
        rintro e w10 ⟨rfl, hg⟩
        have HG1 := Lib.hid (HG0.out.trans hg)
        clear hg
        obtain ⟨yl, y0, y1⟩ := HSB9.out.later HG1.out.below
        go_wp2_with fail
        refine (HFD.out w10 HG1.out).mono ?_
        rintro e w11 ⟨rfl, hg⟩
        have HG2 := Lib.hid (HG1.out.trans hg)
        clear hg
        clear yl y0 y1
        go_wp2_with fail
        refine (HNM.out w11 HG2.out).mono ?_
        rintro e w12 ⟨rfl, hg⟩
        have HG3 := Lib.hid (HG2.out.trans hg)
        clear hg
        go_wp2_with fail
        refine (HBE.out w12 HG3.out).mono ?_
        rintro e wb ⟨rfl, hg⟩
        have HGb := Lib.hid (HG3.out.trans hg)
        clear hg
        obtain ⟨yl, y0, y1⟩ := (HX6.out.by_ (by_below8 HGb.out.below none) (by simp)).s
        go_wp2_with fail
        refine (HC1.out wb HGb.out).mono ?_
        rintro e wc1 ⟨rfl, hg⟩
        have HGc := Lib.hid (HGb.out.trans hg)
        clear hg
        clear yl y0 y1
        obtain ⟨yl, y0, y1⟩ := (HX7.out.by_ (by_below8 HGc.out.below none) (by simp)).s
        go_wp2_with fail
        refine (HC2.out wc1 HGc.out).mono ?_
        rintro e wd ⟨rfl, hg⟩
        have HGd := Lib.hid (HGc.out.trans hg)
        clear hg
        clear yl y0 y1
        go_wp2_with fail
        go_ret
        exact ⟨rfl, HFIN.out _ HGd.out⟩
set_option maxRecDepth 100000 in
theorem lifted (os : Os) (started : os.Started) (H : Type) (enc : TypeId × Value → H) :
    ReturnsInHanded {} Tryd.checked os 3 .any (fun w args => (Rows.schemaNamesSpec.pre enc Tryd.prog Tryd.f3 [] false w args ∧ laidMetH Tryd.prog laid1 w) ∧ sizedMet enc Tryd.prog Tryd.f3 (OpenSpec.ofChange Rows.schemaNamesSpec) false w args) (Rows.schemaNamesSpec.post enc Tryd.prog Tryd.f3 false true false false) := by
  refine returnsInHanded_of_change_and (C := Tryd.checked) (X := fun w _ => laidMetH Tryd.prog laid1 w) (fun _ _ _ hh h => h.of_heap hh) own started (by kernel_rfl) Tryd.func3
    (ChangeSpec.witness_shaped (enc := enc) (C := Tryd.checked) (os := os) (X := fun w _ => laidMetH Tryd.prog laid1 w) false (World.doorLaid Tryd.prog 400 os) #[.slice none 0 0, .string ByteArray.empty] 8 rfl (World.shaped_of_RefB (by kernel_rfl) (by kernel_rfl)) (by kernel_rfl) (by kernel_rfl) (by kernel_rfl) (door_met os _)) ?_
  intro W base args ds gs before hval0 hW hcnd hsz0 hL hlast
  have hS : Shapes W := shapes_of_laid hL
  have hval : ∀ (j : Nat) t v, Tryd.f3.params[j]? = some t → args[j]? = some v → Value.okWide Tryd.prog W .any base t v := hval0
  have hW' := hW
  obtain ⟨p, q, hA0, hV, rfl, hfz, hnd⟩ := hW
  have hA : DataW.TrodAll enc Tryd.prog W 0 (fun _ => true) true Tryd.f3.params.toList args.toList ds p := hA0
  have hsz : (DataW.weightsEach Tryd.prog (Tryd.f3.params.toList ++ Rows.schemaNamesSpec.plain.varTypes Tryd.prog) (ds ++ gs)).all (· ≤ reachBytes) = true := hsz0
  rw [Tryd.params3] at hA hval hsz
  obtain ⟨v0, vs0, d0, ds0, p0, q0, hargs, rfl, rfl, h0, r0⟩ := trodAll_cons hA
  obtain ⟨v1, vs1, d1, ds1, p1, q1, rfl, rfl, rfl, h1, r1⟩ := trodAll_cons r0
  obtain ⟨rfl, rfl, rfl⟩ := trodAll_nil r1
  obtain rfl : args = #[v0, v1] := by cases args; simp_all
  obtain ⟨rfl, rfl⟩ := trodVars_none hV
  have lt0 : ∀ x ∈ p0, x.block < W.heap.size := by obtain ⟨m, hm⟩ := h0; exact DataW.trod_lt m _ _ _ hm
  obtain ⟨a0, len0, cap0, z0, rfl, w0⟩ := open_codes (hval 0 22 v0 rfl rfl) h0
  have lt1 : ∀ x ∈ p1, x.block < W.heap.size := by obtain ⟨m, hm⟩ := h1; exact DataW.trod_lt m _ _ _ hm
  obtain ⟨x1, rfl, w1⟩ := open_str7 (hval 1 9 v1 rfl rfl) h1 (fun bs he => sized_string (j := 1) (t := 9) hsz rfl (by rw [← he]; rfl))
  clear hA0 hval0
  refine (walk a0 len0 cap0 z0 x1 W w0 w1 hS).mono fun e W' ⟨he, bel⟩ => ?_
  subst he
  exact ⟨_, rfl, _, _, _, [], _, [], hW', trodAll_mk1 (shut_bool Tryd.underlying4 _), (trodAll_cons_mk (Below.trod laidOut (by kernel_rfl) (of_decide_eq_true (by kernel_rfl)) h0 bel lt0) (trodAll_cons_mk (Below.trod laidOut (by kernel_rfl) (of_decide_eq_true (by kernel_rfl)) h1 bel lt1) trodAll_mk0)), rfl, bel.frame _, fun h => by cases h⟩

theorem over : Rows.schemaNamesRow.holds Tryd.pinned (OpenSpec.ofChange Rows.schemaNamesSpec) :=
  OpenClaim.holds_of_wide 3 Tryd.f3 rfl rfl rfl rfl rfl rfl rfl ⟨rfl, rfl, rfl, rfl, rfl⟩ rfl rfl rfl rfl rfl (by kernel_rfl) Tryd.func3 (by kernel_rfl)
    (of_decide_eq_true (by kernel_rfl)) (by unfold Func.isWrapper; first | (rw [if_pos (by decide +kernel)]; kernel_rfl) | (rw [if_neg (by decide +kernel)]; exact ⟨rfl, rfl⟩))
    (fun os started H enc _ => lifted os started H enc)
theorem proved : Rows.SchemaNamesCardSaid :=
  Claim7.holds_tied_plain_at .later [] [.data] true (true, "8557f04bab906c1f0e989062b3ce7dd8f480b1e042db6bf49772a294d4c16312") false
    over (fun _ h => by cases h) (by kernel_rfl) (fun _ h => by cases h) schemaNames_row_tie rfl ⟨rfl, rfl⟩ (by kernel_rfl) rfl
    (fun f fn hf hfn => by
      obtain rfl : f = 3 := Option.some.inj ((show Tryd.prog.funcNamed "partsync/partsynclaw07.SchemaNames" = some 3 by kernel_rfl).symm.trans hf) |>.symm
      obtain rfl : fn = Tryd.f3 := (Option.some.inj (Tryd.func3.symm.trans hfn)).symm
      exact ⟨by kernel_rfl, fun j t ht => by
        rw [Tryd.params3] at ht
        have hm : t ∈ [22, 9] := by simpa using Array.mem_of_getElem? ht
        have hall : ([22, 9].all fun u => !Tryd.prog.wantsStandIn u) = true := by kernel_rfl
        exact (show Tryd.prog.wantsStandIn t = false by simpa using List.all_eq_true.1 hall t hm)⟩)
    (by kernel_rfl)
end SNames
end Go.Proofs.YtlchcakmcikjnaaDoor
