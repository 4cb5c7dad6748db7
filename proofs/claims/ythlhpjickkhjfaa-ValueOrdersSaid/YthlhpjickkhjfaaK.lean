/- Contracts of partsynccase.Case's Bool and Cells, and of the law file's rows. -/
import Derived.Test.YthlhpjickkhjfaaH
import Derived.Test.YthlhpjickkhjfaaT
import Derived.Laws.AppendOwn
import Derived.Laws.AppendOwnNone
set_option linter.unusedSimpArgs false
set_option linter.unusedVariables false
namespace Go.Proofs.Ythlhpjickkhjfaa
open Go.RowKit

def GotB (b : Nat) (c : CaseId) (w : World) (e : Ending) (w' : World) : Prop := ∃ x : Bool, e = .returned (.bool x) ∧ CaseAt w' b c ∧ w.grownBy w' (some b)
theorem bool_calls (b : Nat) (c : CaseId) (w : World) (hc : CaseAt w b c) : Calls Try.prog 44 #[.pointer (some ⟨b, 0, none⟩), .int .i64 3] w (GotB b c w) := by
  have hi := int_calls b c 3 (by omega) (by omega) w hc
  have HI := Lib.hid hi
  clear hi hc
  go_enter Try.func44, Try.ntmps44
  go_wp2_with fail
  refine HI.out.mono ?_
  rintro e w' ⟨x, rfl, hx0, hx1, hcs, hby⟩
  have HC := Lib.hid hcs
  have HB := Lib.hid hby
  clear hcs hby HI
  go_wp2
  go_ret
  exact ⟨_, rfl, HC.out, HB.out⟩

theorem flat_snoc (r : List V) (v : V) : flat (r ++ [v]) = flat r ++ [.int .i64 v.k, .int .i64 v.n, .string v.t] := by
  induction r with
  | nil => rfl
  | cons a r ih => simp [flat, ih]
theorem by_mono {w w' : World} {r r' : Option Nat} (h : w.grownBy w' r) (hr : ∀ k, k < w.heap.size → some k ≠ r' → some k ≠ r) : w.grownBy w' r' :=
  ⟨h.os, h.tape, h.output, h.size, fun k hk hn => h.block k hk (hr k hk hn)⟩

theorem by_own {w0 w w' : World} {b : Nat} {r : Option Nat} (h : w0.grownBy w (some b)) (hg : w.grownBy w' r) (hr : ∀ k, r = some k → w0.heap.size ≤ k) : w0.grownBy w' (some b) :=
  ⟨hg.os.trans h.os, hg.tape.trans h.tape, hg.output.trans h.output, Nat.le_trans h.size hg.size, fun k hk hn => (hg.block k (Nat.lt_of_lt_of_le hk h.size) (fun e => by have := hr k e.symm; omega)).trans (h.block k hk hn)⟩
/-- A change of what is the call's own. -/
theorem CaseAt.kept {w0 w w' : World} {b : Nat} {c : CaseId} {r : Option Nat} (h0 : CaseAt w0 b c) (h : CaseAt w b c) (hg : w.grownBy w' r) (hr : ∀ k, r = some k → w0.heap.size ≤ k) : CaseAt w' b c := by
  obtain ⟨pos, h⟩ := h
  obtain ⟨pos0, h0⟩ := h0
  have hb := h0.lt
  have hne : ∀ k, k < w0.heap.size → some k ≠ r := fun k hk e => by have := hr k e.symm; omega
  refine ⟨pos, Nat.lt_of_lt_of_le h.lt hg.size, hg.cell h.c0 (hne _ hb), hg.cell h.c1 (hne _ hb), by rw [World.frozen?_of_block (w := w) (hg.block b h.lt (hne _ hb))]; exact h.f1, h.le, h.few, ?_⟩
  rcases h0.num with h0n | ⟨g0, off0, e0, h00, _⟩
  · exact .inl h0n
  · rcases h.num with hn' | ⟨g, off, e, h1, h2, h3⟩
    · exact .inl hn'
    · rw [e0] at e
      simp only [Option.some.injEq, Addr.mk.injEq] at e
      obtain ⟨rfl, rfl, -⟩ := e
      exact .inr ⟨g0, off0, e0, Nat.lt_of_lt_of_le h1 hg.size, h2, fun i hi => let ⟨x, k1, k2⟩ := h3 i hi; ⟨x, hg.cell k1 (hne _ h00), k2⟩⟩
theorem cell_three_new (w : World) (x y z : Value) (t : TypeId) : ∀ j u, [x, y, z][j]? = some u → (w.alloc (.cells #[x, y, z] t)).cell? ((⟨w.heap.size, 0, none⟩ : Addr).add j) = some u := by
  intro j u hj
  rcases j with _ | _ | _ | j
  · simp at hj; subst hj; show (w.alloc _).cell? ⟨w.heap.size, 0 + 0, none⟩ = _; go_simp
  · simp at hj; subst hj; show (w.alloc _).cell? ⟨w.heap.size, 0 + 1, none⟩ = _; go_simp
  · simp at hj; subst hj; show (w.alloc _).cell? ⟨w.heap.size, 0 + 2, none⟩ = _; go_simp
  · simp at hj
theorem own_far {w : World} {base b : Nat} {e : TypeId} {size n : Nat} {v : Value} {xs : List Value} (h : w.ownsRow base e size v n xs) (hb : b < base) : v.ownBlock = none ∨ v.ownBlock ≠ some b := by
  cases hv : v.ownBlock with
  | none => exact .inl rfl
  | some k => right; intro e; cases e; have := (h.lt b hv).1; omega

theorem wrap_pred (k : Nat) (h0 : 0 < k) (h : k ≤ 4398046511104) : wrap64 ((k : Int) - 1) = (k : Int) - 1 := by
  unfold wrap64
  omega
def GotRow (b : Nat) (c : CaseId) (n : Nat) (w : World) (e : Ending) (w' : World) : Prop :=
  ∃ (v : Value) (r : List V), e = .returned v ∧ r.length = n ∧ w'.ownsRow w.heap.size 24 3 v r.length (flat r) ∧ CaseAt w' b c ∧ w.grownBy w' (some b)

set_option maxHeartbeats 1000000 in
set_option maxRecDepth 100000 in
theorem cells_calls (b : Nat) (c : CaseId) (n : Nat) (hn : n ≤ 90) (w : World) (hc : CaseAt w b c) : Calls Try.prog 43 #[.pointer (some ⟨b, 0, none⟩), .int .i64 n] w (GotRow b c n w) := by
  obtain ⟨i, hi, hz, hsz, hby⟩ := info_parts info24
  have HC := Lib.hid hc
  have HI := Lib.hid hi
  have HZ := Lib.hid hz
  have HSZ := Lib.hid hsz
  have HBY := Lib.hid hby
  clear hc hi hz hsz hby
  go_enter Try.func43, Try.ntmps43
  go_wp2_with fail
  go_loopw [1, 5] (fun i v wr => ∃ (k : Nat) (r : List V), k + r.length = n ∧ i = .int .i64 k ∧ wr.ownsRow w.heap.size 24 3 v r.length (flat r) ∧ CaseAt wr b c ∧ w.grownBy wr (some b)) (fun i _ _ => (intOf i).toNat)
  case atStart => exact ⟨n, [], by simp, rfl, World.ownsRow_nil _ _ _ _, HC.out, ⟨rfl, rfl, rfl, Nat.le_refl _, fun _ _ _ => rfl⟩⟩
  case round =>
    obtain ⟨k, r, hkr, rfl, hown, hcr, hbr⟩ := hrel
    have HOW := Lib.hid hown
    have HCR := Lib.hid hcr
    have HBR := Lib.hid hbr
    have HKR := Lib.hid hkr
    clear hown hcr hbr hkr
    by_cases hlt : 0 < k
    · have hb0 : b < w.heap.size := HC.out.lt
      have hlt' : decide ((0 : Int) < (k : Int)) = true := by simp; omega
      have hwj := wrap_pred k hlt (by have := HKR.out; omega)
      go_wp2_with fail
      refine (any_calls b c wr HCR.out).mono ?_
      rintro e w2 ⟨⟨vk, vn, vt⟩, rfl, hval, hnum, hc2, hby2⟩
      have HC2 := Lib.hid hc2
      have HB2 := Lib.hid hby2
      have hb2 : w.grownBy w2 (some b) := by_trans HBR.out hby2
      have HBB := Lib.hid hb2
      have HO2 := Lib.hid (HOW.out.kept hby2 (own_far HOW.out hb0))
      have hln : r.length + 1 ≤ 4398046511104 := by have := HKR.out; omega
      have hbase : w.heap.size ≤ w2.heap.size := hb2.size
      have HVN := Lib.hid (And.intro hval hnum)
      clear hc2 hby2 hb2 hval hnum
      go_wp2_with (at_builtin; go_must (refine wpList_append_own _ rfl _ _ 38 rfl w.heap.size 24 i (V.val ⟨0, 0, ⟨#[]⟩⟩) 3 32 Try.underlying38 HI.out HZ.out HSZ.out HBY.out rfl (by decide) _ r.length (flat r) rfl (HO2.out.alloc _) ⟨w2.heap.size, 0, none⟩ 1 1 [.int .i64 vk, .int .i64 vn, .string vt] rfl rfl ?c1 ?c2 ?c3 ?c4 ?c5 ?_))
      case c1 => exact cell_three_new _ _ _ _ _
      case c2 => intro x hx; simp at hx; rcases hx with rfl | rfl | rfl <;> rfl
      case c3 => unfold maxLen; omega
      case c4 => omega
      case c5 => simp; omega
      intro v' w7 hown' hgrow hnil
      have HOW' := Lib.hid hown'
      have HG7 := Lib.hid hgrow
      clear hown' hgrow hnil
      go_wp2
      go_roundw
      case rel =>
        have hal := World.grownBy_alloc w2 (.cells #[.int .i64 vk, .int .i64 vn, .string vt] 24)
        refine ⟨k - 1, r ++ [⟨vk, vn, vt⟩], by simp; have := HKR.out; omega, by congr 1; omega, ?_, ?_, ?_⟩
        · rw [flat_snoc, List.length_append]; exact HOW'.out
        · exact HC.out.kept (HC2.out.grown (hal none)) HG7.out (fun k hk => (HO2.out.lt k hk).1)
        · exact by_own (by_trans HBB.out (hal _)) HG7.out (fun k hk => (HO2.out.lt k hk).1)
      case measure => simp only [intOf]; omega
    · obtain rfl : k = 0 := by omega
      have hkr : r.length = n := by have := HKR.out; omega
      go_wp2
      go_ret
      exact ⟨_, r, rfl, hkr, HOW.out, HCR.out, HBR.out⟩

theorem Owned.far {base b : Nat} {w w' : World} {v : Value} {out : List (List V)} (h : Owned base w v out) (hg : w.grownBy w' (some b)) (hb : b < base) : Owned base w' v out := by
  obtain ⟨xs, h1, h2⟩ := h
  exact ⟨xs, h1.kept hg (own_far h1 hb), fun j hj => let ⟨u, a, b, c⟩ := h2 j hj; ⟨u, a, b.kept hg (own_far b hb), c⟩⟩
theorem Owned.nil (base : Nat) (w : World) : Owned base w (.slice none 0 0) [] := ⟨[], World.ownsRow_nil _ _ _ _, fun j h => absurd h (Nat.not_lt_zero _)⟩
/-- The cells and the length of a list of rows. -/
theorem Owned.shape {base : Nat} {w : World} {v : Value} {out : List (List V)} (h : Owned base w v out) : ∃ a cap, v = .slice a out.length cap ∧ ∀ j (h : j < out.length), ∃ g u, a = some ⟨g, 0, none⟩ ∧ g < w.heap.size ∧ w.cell? ⟨g, j, none⟩ = some u ∧ w.ownsRow base 24 3 u out[j].length (flat out[j]) ∧ out[j].length ≤ 4398046511104 := by
  obtain ⟨xs, h1, h2⟩ := h
  have h0 := h1
  obtain ⟨hx, hv | ⟨g, cap, cur, hv, hg, hh, hcap, hm, hs, ht⟩⟩ := h1
  · obtain ⟨rfl, hn⟩ := hv
    exact ⟨none, 0, by rw [hn], fun j hj => by omega⟩
  · subst hv
    refine ⟨_, cap, rfl, fun j hj => ?_⟩
    obtain ⟨u, k1, k2, k3⟩ := h2 j hj
    exact ⟨g, u, rfl, (Array.getElem?_eq_some_iff.1 hh).1, (h0.cellAt j (by omega)).trans k1, k2, k3⟩

theorem ownsRow_slice {w : World} {base : Nat} {e : TypeId} {size : Nat} {v : Value} {n : Nat} {xs : List Value} (h : w.ownsRow base e size v n xs) : ∃ a cap, v = .slice a n cap := by
  obtain ⟨hx, hv | ⟨g, cap, cur, hv, hg, hh, hcap, hm, hs, ht⟩⟩ := h
  · obtain ⟨rfl, hn⟩ := hv; exact ⟨none, 0, by rw [hn]⟩
  · exact ⟨_, _, hv⟩
def GotRows (b : Nat) (c : CaseId) (w : World) (e : Ending) (w' : World) : Prop :=
  ∃ (v : Value) (rs : List (List V)), e = .returned v ∧ rs.length ≤ 6 ∧ (∀ r ∈ rs, r.length ≤ 2) ∧ Owned w.heap.size w' v rs ∧ CaseAt w' b c ∧ w.grownBy w' (some b)

set_option maxHeartbeats 1000000 in
set_option maxRecDepth 100000 in
theorem rows_calls (b : Nat) (c : CaseId) (w : World) (hc : CaseAt w b c) : Calls Try.prog 24 #[.pointer (some ⟨b, 0, none⟩)] w (GotRows b c w) := by
  obtain ⟨i, hi, hz, hsz, hby⟩ := info_parts info38
  have HC := Lib.hid hc
  have HI := Lib.hid hi
  have HZ := Lib.hid hz
  have HSZ := Lib.hid hsz
  have HBY := Lib.hid hby
  have hb0 : b < w.heap.size := hc.lt
  clear hc hi hz hsz hby
  go_enter Try.func24, Try.ntmps24
  go_wp2_with fail
  refine (int_calls b c 7 (by omega) (by omega) _ HC.out).mono ?_
  rintro e w1 ⟨x, rfl, hx0, hx1, hcs, hby⟩
  have HC1 := Lib.hid hcs
  have HB1 := Lib.hid hby
  clear hcs hby
  obtain ⟨m, rfl⟩ : ∃ m : Nat, x = m := ⟨x.toNat, by omega⟩
  go_wp2_with fail
  go_loopw [3, 4] (fun v i wr => ∃ (k : Nat) (rs : List (List V)), k + rs.length ≤ 6 ∧ i = .int .i64 k ∧ (∀ r ∈ rs, r.length ≤ 2) ∧ Owned w.heap.size wr v rs ∧ CaseAt wr b c ∧ w.grownBy wr (some b)) (fun _ i _ => (intOf i).toNat)
  case atStart => exact ⟨m, [], by simp; omega, rfl, by simp, Owned.nil _ _, HC1.out, HB1.out⟩
  case round =>
    obtain ⟨k, rs, hkr, rfl, hsm, hown, hcr, hbr⟩ := hrel
    have HOW := Lib.hid hown
    have HCR := Lib.hid hcr
    have HBR := Lib.hid hbr
    have HSM := Lib.hid hsm
    clear hown hcr hbr hsm hx0 hx1 HC1 HB1
    by_cases hlt : 0 < k
    · have hlt' : decide ((0 : Int) < (k : Int)) = true := by simp; omega
      have hwj := wrap_pred k hlt (by omega)
      go_wp2_with fail
      refine (int_calls b c 3 (by omega) (by omega) _ HCR.out).mono ?_
      rintro e w2 ⟨y, rfl, hy0, hy1, hcs, hby⟩
      obtain ⟨q, rfl⟩ : ∃ q : Nat, y = q := ⟨y.toNat, by omega⟩
      have HC2 := Lib.hid hcs
      have HB2 := Lib.hid (by_trans HBR.out hby)
      have HO2 := Lib.hid (HOW.out.far hby hb0)
      have hq2 : q ≤ 2 := by omega
      clear hcs hby hy0 hy1 HCR HOW HBR
      go_wp2_with fail
      refine (cells_calls b c q (by omega) _ HC2.out).mono ?_
      rintro e w3 ⟨u, r, rfl, hrl, hur, hcs, hby⟩
      have HC3 := Lib.hid hcs
      have HU3 := Lib.hid (ownsRow_mono hur HB2.out.size)
      have HB3 := Lib.hid (by_trans HB2.out hby)
      have HO3 := Lib.hid (HO2.out.far hby hb0)
      have HRL : Hid (r.length ≤ 2) := by show _ ≤ _; omega
      clear hcs hby hur hrl HC2 HB2 HO2 hq2
      obtain ⟨va, vcap, rfl, hsh⟩ := HO3.out.shape
      have HSH := Lib.hid hsh
      clear hsh
      have hfin : ∀ (u : Value) (r : List V) (w4 : World) (HC : CaseAt w4 b c) (HB : w.grownBy w4 (some b)) (HO : Owned w.heap.size w4 (.slice va rs.length vcap) rs) (HU : w4.ownsRow w.heap.size 24 3 u r.length (flat r)) (HR : r.length ≤ 2) (v' : Value) (w7 : World) (xs : List Value)
          (ho : w4.ownsRow w.heap.size 38 1 (.slice va rs.length vcap) rs.length xs) (hi : ∀ j (h : j < rs.length), ∃ u, xs[j]? = some u ∧ w4.ownsRow w.heap.size 24 3 u rs[j].length (flat rs[j]) ∧ rs[j].length ≤ 4398046511104)
          (ho' : w7.ownsRow w.heap.size 38 1 v' (rs.length + 1) (xs ++ [u])) (hg : (w4.alloc (.cells #[u] 38)).grownBy w7 (Value.slice va rs.length vcap).ownBlock),
          ∃ (k' : Nat) (rs' : List (List V)), k' + rs'.length ≤ 6 ∧ Value.int .i64 ((k : Int) - 1) = .int .i64 k' ∧ (∀ r ∈ rs', r.length ≤ 2) ∧ Owned w.heap.size w7 v' rs' ∧ CaseAt w7 b c ∧ w.grownBy w7 (some b) := fun u r w4 HC4 HB4 HO4 HU4 HR v' w7 xs ho hi ho' hg => by
        have hal := World.grownBy_alloc w4 (.cells #[u] 38)
        refine ⟨k - 1, rs ++ [r], by simp; omega, by congr 1; omega, ?_, ?_, ?_, ?_⟩
        · intro r' hr'
          rcases List.mem_append.1 hr' with h | h
          · exact HSM.out r' h
          · rw [List.mem_singleton.1 h]; exact HR
        · exact Owned.snoc (ho.alloc _) (fun j hj => let ⟨u, a, b, c⟩ := hi j hj; ⟨u, a, b.alloc _, c⟩) (HU4.alloc _) (by omega) ho' hg
        · exact HC.out.kept (HC4.grown (hal none)) hg (fun k hk => (ho.lt k hk).1)
        · exact by_own (by_trans HB4 (hal _)) hg (fun k hk => (ho.lt k hk).1)
      have HF := Lib.hid hfin
      clear hfin
      have hms : intOf (Value.int .i64 ((k : Int) - 1)) = (k : Int) - 1 := rfl
      obtain ⟨ua, ucap, rfl⟩ := ownsRow_slice HU3.out
      by_cases hz : rs = []
      · subst hz
        obtain ⟨xs, hox, hix⟩ := HO3.out
        have HOX := Lib.hid hox
        have HIX := Lib.hid hix
        clear hox hix
        have hln : (0 : Nat) + 1 ≤ 4398046511104 := by omega
        have hbase : w.heap.size ≤ w3.heap.size := HB3.out.size
        go_wp2_with (at_builtin; go_must (refine wpList_append_own _ rfl _ _ 39 rfl w.heap.size 38 i (.slice none 0 0) 1 24 Try.underlying39 HI.out HZ.out HSZ.out HBY.out rfl (by decide) _ 0 xs rfl (HOX.out.alloc _) ⟨w3.heap.size, 0, none⟩ 1 1 [.slice ua r.length ucap] rfl rfl ?c1 ?c2 ?c3 ?c4 ?c5 ?_))
        case c1 => exact cell_one_new _ _ _
        case c2 => intro x hx; simp at hx; subst hx; rfl
        case c3 => unfold maxLen; omega
        case c4 => omega
        case c5 => simp; omega
        intro v' w7 hown' hgrow hnil
        have HOW' := Lib.hid hown'
        have HG7 := Lib.hid hgrow
        clear hown' hgrow hnil
        go_wp2
        go_roundw
        case rel => exact HF.out _ r _ HC3.out HB3.out HO3.out HU3.out HRL.out _ _ xs HOX.out HIX.out HOW'.out HG7.out
        case measure => rw [hms]; simp only [intOf]; omega
      · have hz1 : 0 < rs.length := List.length_pos_iff.2 hz
        have hz' : decide ((0 : Int) < (rs.length : Int)) = true := by simp; omega
        have hln : rs.length + 1 ≤ 4398046511104 := by omega
        clear hz
        go_wp2_with fail
        refine (bool_calls b c _ HC3.out).mono ?_
        rintro e w4 ⟨bb, rfl, hcs, hby⟩
        have HC4 := Lib.hid hcs
        have HB4 := Lib.hid (by_trans HB3.out hby)
        have HO4 := Lib.hid (HO3.out.far hby hb0)
        have HU4 := Lib.hid (HU3.out.kept hby (own_far HU3.out hb0))
        clear hcs hby HC3 HB3 HO3 HU3 HSH
        cases bb
        · obtain ⟨xs, hox, hix⟩ := HO4.out
          have HOX := Lib.hid hox
          have HIX := Lib.hid hix
          clear hox hix
          have hbase : w.heap.size ≤ w4.heap.size := HB4.out.size
          go_wp2_with (at_builtin; go_must (refine wpList_append_own _ rfl _ _ 39 rfl w.heap.size 38 i (.slice none 0 0) 1 24 Try.underlying39 HI.out HZ.out HSZ.out HBY.out rfl (by decide) _ rs.length xs rfl (HOX.out.alloc _) ⟨w4.heap.size, 0, none⟩ 1 1 [.slice ua r.length ucap] rfl rfl ?c1 ?c2 ?c3 ?c4 ?c5 ?_))
          case c1 => exact cell_one_new _ _ _
          case c2 => intro x hx; simp at hx; subst hx; rfl
          case c3 => unfold maxLen; omega
          case c4 => omega
          case c5 => simp; omega
          intro v' w7 hown' hgrow hnil
          have HOW' := Lib.hid hown'
          have HG7 := Lib.hid hgrow
          clear hown' hgrow hnil
          go_wp2
          go_roundw
          case rel => exact HF.out _ r _ HC4.out HB4.out HO4.out HU4.out HRL.out _ _ xs HOX.out HIX.out HOW'.out HG7.out
          case measure => rw [hms]; simp only [intOf]; omega
        · go_wp2_with fail
          refine (int_calls b c rs.length (by omega) (by omega) _ HC4.out).mono ?_
          rintro e w5 ⟨y, rfl, hy0, hy1, hcs, hby⟩
          obtain ⟨y, rfl⟩ : ∃ q : Nat, y = q := ⟨y.toNat, by omega⟩
          have hyl : y < rs.length := by omega
          have HC5 := Lib.hid hcs
          have HB5 := Lib.hid (by_trans HB4.out hby)
          have HO5 := Lib.hid (HO4.out.far hby hb0)
          clear hcs hby HC4 HB4 HO4 HU4 hy0
          obtain ⟨va', vcap', hva, hsh⟩ := HO5.out.shape
          simp only [Value.slice.injEq, true_and] at hva
          obtain ⟨hva, -⟩ := hva
          subst hva
          obtain ⟨g, u', hg0, hg1, hg2, hg3, -⟩ := hsh y hyl
          subst hg0
          obtain ⟨ya, ycap, rfl⟩ := ownsRow_slice hg3
          have HU5 := Lib.hid hg3
          have HR5 := Lib.hid (HSM.out _ (List.getElem_mem hyl))
          generalize rs[y] = ry at HU5 HR5 hg2
          clear hg3 hsh
          obtain ⟨xs, hox, hix⟩ := HO5.out
          have HOX := Lib.hid hox
          have HIX := Lib.hid hix
          clear hox hix
          have hbase : w.heap.size ≤ w5.heap.size := HB5.out.size
          go_wp2_with (at_builtin; go_must (refine wpList_append_own _ rfl _ _ 39 rfl w.heap.size 38 i (.slice none 0 0) 1 24 Try.underlying39 HI.out HZ.out HSZ.out HBY.out rfl (by decide) _ rs.length xs rfl (HOX.out.alloc _) ⟨w5.heap.size, 0, none⟩ 1 1 [.slice ya ry.length ycap] rfl rfl ?c1 ?c2 ?c3 ?c4 ?c5 ?_))
          case c1 => exact cell_one_new _ _ _
          case c2 => intro x hx; simp at hx; subst hx; rfl
          case c3 => unfold maxLen; omega
          case c4 => omega
          case c5 => simp; omega
          intro v' w7 hown' hgrow hnil
          have HOW' := Lib.hid hown'
          have HG7 := Lib.hid hgrow
          clear hown' hgrow hnil
          go_wp2
          go_roundw
          case rel => exact HF.out _ ry _ HC5.out HB5.out HO5.out HU5.out HR5.out _ _ xs HOX.out HIX.out HOW'.out HG7.out
          case measure => rw [hms]; simp only [intOf]; omega
    · obtain rfl : k = 0 := by omega
      go_wp2
      go_ret
      exact ⟨_, rs, rfl, by omega, HSM.out, HOW.out, HCR.out, HBR.out⟩
end Go.Proofs.Ythlhpjickkhjfaa
