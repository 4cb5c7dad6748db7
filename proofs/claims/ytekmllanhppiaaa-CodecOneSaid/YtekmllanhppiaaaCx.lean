/- The contract of the reference's Value. -/
import Derived.Test.YtekmllanhppiaaaCi
import Derived.Test.YtekmllanhppiaaaCp
import Derived.Test.YtekmllanhppiaaaCw
set_option linter.unusedSimpArgs false
set_option linter.unusedVariables false
namespace Go.Proofs.Ytekmllanhppiaaa
open Go.RowKit
open Go.Lib (byteCells uvarint zigzag)

abbrev zV : V := ⟨0, 0, ⟨#[]⟩⟩
theorem out_verr {R : Except Int (V × Nat)} {p : Nat} {c : Int} (h : R = .error c) : (.tuple #[V.val ⟨0, 0, ⟨#[]⟩⟩, .int .i64 0, .int .i64 c] : Value) = triple V.val (outOf zV p R) := by rw [h]; rfl
theorem out_vok {R : Except Int (V × Nat)} {p k : Nat} {x : V} {z : Int} (h : R = .ok (x, k)) (h2 : z = ((p + k : Nat) : Int)) : (.tuple #[x.val, .int .i64 z, .int .i64 0] : Value) = triple V.val (outOf zV p R) := by rw [h, h2]; rfl
theorem bel2 (w : World) (o o' : Obj) : Below w.heap.size w ((w.alloc o).alloc o') := ((Below.refl _ _).alloc (Nat.le_refl _) _).alloc (by simp) _
set_option maxHeartbeats 1000000 in
set_option maxRecDepth 100000 in
theorem refValue_bad (a : Option Addr) (cap N : Nat) (p : Int) (w : World) (h : p < 0 ∨ (N : Int) < p) : Calls Try.prog 47 #[.slice a N cap, .int .i64 p] w (RetPost (.tuple #[V.val ⟨0, 0, ⟨#[]⟩⟩, .int .i64 0, .int .i64 1]) w) := by
  by_cases h0 : p < 0
  · go_enter Try.func47, Try.ntmps47
    go_wp2
    exact bodyPost_ret (v := .tuple #[V.val ⟨0, 0, ⟨#[]⟩⟩, .int .i64 0, .int .i64 1]) (by simp [results, Try.results47, go_sem, V.val]) rfl (ret_post rfl ((Below.refl _ _).alloc (Nat.le_refl _) _))
  · have h1 : (N : Int) < p := by omega
    go_enter Try.func47, Try.ntmps47
    go_wp2
    exact bodyPost_ret (v := .tuple #[V.val ⟨0, 0, ⟨#[]⟩⟩, .int .i64 0, .int .i64 1]) (by simp [results, Try.results47, go_sem, V.val]) rfl (ret_post rfl ((Below.refl _ _).alloc (Nat.le_refl _) _))
set_option maxHeartbeats 1000000 in
set_option maxRecDepth 100000 in
theorem refValue_end (a : Option Addr) (cap N : Nat) (hN : N ≤ 1099511627776) (w : World) (R : Except Int (V × Nat)) (hR : R = .error 20) : Calls Try.prog 47 #[.slice a N cap, .int .i64 (N : Int)] w (RetPost (triple V.val (outOf zV N R)) w) := by
  have HR := Lib.hid hR
  have d1 : ¬ ((N : Int) < 0) := by omega
  clear hR
  go_enter Try.func47, Try.ntmps47
  go_wp2
  exact bodyPost_ret (v := .tuple #[V.val ⟨0, 0, ⟨#[]⟩⟩, .int .i64 0, .int .i64 20]) (by simp [results, Try.results47, go_sem, V.val]) rfl (ret_post (out_verr HR.out) ((Below.refl _ _).alloc (Nat.le_refl _) _))

/-- What the walk is told of the bytes at and behind p. -/
structure Here (w : World) (g off N p c : Nat) : Prop where
  lt : p < N
  few : N ≤ 1099511627776
  blk : g < w.heap.size
  cell : w.cell? ⟨g, off + p, none⟩ = some (.int .u8 (c : Int))
set_option maxHeartbeats 1000000 in
set_option maxRecDepth 100000 in
theorem refValue_plain (g off cap N p c : Nat) (w : World) (h : Here w g off N p c) (hc : c = 1 ∨ c = 2) (R : Except Int (V × Nat)) (hR : R = .ok (⟨c, 0, ⟨#[]⟩⟩, 1)) :
    Calls Try.prog 47 #[.slice (some ⟨g, off, none⟩) N cap, .int .i64 (p : Int)] w (RetPost (triple V.val (outOf zV p R)) w) := by
  obtain ⟨hlt, hf, hg, hcell⟩ := h
  have HR := Lib.hid hR
  have d1 : ¬ ((p : Int) < 0) := by omega
  have d2 : decide ((N : Int) < (p : Int)) = false := by simp; omega
  have d2' : decide (N < p) = false := by simp; omega
  have d3 : ((p : Int) == (N : Int)) = false := by simp; omega
  have d4 : ¬ p = N := by omega
  have w1 : wrap64 ((p : Int) + 1) = (p : Int) + 1 := by unfold wrap64; omega
  clear hR
  rcases hc with rfl | rfl
  all_goals
    go_enter Try.func47, Try.ntmps47
    go_wp2
    exact bodyPost_ret (v := .tuple #[V.val ⟨_, 0, ⟨#[]⟩⟩, .int .i64 ((p : Int) + 1), .int .i64 0]) (by simp [results, Try.results47, go_sem, V.val]; try rfl) rfl (ret_post (out_vok HR.out (by push_cast; rfl)) (bel2 _ _ _))
set_option maxHeartbeats 1000000 in
set_option maxRecDepth 100000 in
theorem refValue_else (g off cap N p c : Nat) (w : World) (h : Here w g off N p c) (hc : c = 0 ∨ 6 ≤ c) (hc2 : c < 256) (R : Except Int (V × Nat)) (hR : R = .error 21) :
    Calls Try.prog 47 #[.slice (some ⟨g, off, none⟩) N cap, .int .i64 (p : Int)] w (RetPost (triple V.val (outOf zV p R)) w) := by
  obtain ⟨hlt, hf, hg, hcell⟩ := h
  have HR := Lib.hid hR
  have d1 : ¬ ((p : Int) < 0) := by omega
  have d2 : decide ((N : Int) < (p : Int)) = false := by simp; omega
  have d2' : decide (N < p) = false := by simp; omega
  have d3 : ((p : Int) == (N : Int)) = false := by simp; omega
  have d4 : ¬ p = N := by omega
  have w1 : wrap64 ((p : Int) + 1) = (p : Int) + 1 := by unfold wrap64; omega
  have c1 : ((c : Int) == 1) = false := by simp; omega
  have c2 : ((c : Int) == 2) = false := by simp; omega
  have c3 : ((c : Int) == 3) = false := by simp; omega
  have c4 : ((c : Int) == 4) = false := by simp; omega
  have c5 : ((c : Int) == 5) = false := by simp; omega
  clear hR hc
  go_enter Try.func47, Try.ntmps47
  go_wp2
  exact bodyPost_ret (v := .tuple #[V.val ⟨0, 0, ⟨#[]⟩⟩, .int .i64 0, .int .i64 21]) (by simp [results, Try.results47, go_sem, V.val]; try rfl) rfl (ret_post (out_verr HR.out) (bel2 _ _ _))
set_option maxHeartbeats 1000000 in
set_option maxRecDepth 100000 in
theorem refValue_bool_end (g off cap N p : Nat) (w : World) (h : Here w g off N p 3) (he : p + 1 = N) (R : Except Int (V × Nat)) (hR : R = .error 20) :
    Calls Try.prog 47 #[.slice (some ⟨g, off, none⟩) N cap, .int .i64 (p : Int)] w (RetPost (triple V.val (outOf zV p R)) w) := by
  obtain ⟨hlt, hf, hg, hcell⟩ := h
  have HR := Lib.hid hR
  have d1 : ¬ ((p : Int) < 0) := by omega
  have d2 : decide ((N : Int) < (p : Int)) = false := by simp; omega
  have d2' : decide (N < p) = false := by simp; omega
  have d3 : ((p : Int) == (N : Int)) = false := by simp; omega
  have d4 : ¬ p = N := by omega
  have w1 : wrap64 ((p : Int) + 1) = (p : Int) + 1 := by unfold wrap64; omega
  clear hR
  have e1 : ((p : Int) + 1 == (N : Int)) = true := by simp; omega
  have e2 : (p : Int) + 1 = (N : Int) := by omega
  clear he
  go_enter Try.func47, Try.ntmps47
  go_wp2
  exact bodyPost_ret (v := .tuple #[V.val ⟨0, 0, ⟨#[]⟩⟩, .int .i64 (0), .int .i64 (20)]) (by simp [results, Try.results47, go_sem, V.val]; try rfl) rfl (ret_post (out_verr HR.out) (bel2 _ _ _))
set_option maxHeartbeats 1000000 in
set_option maxRecDepth 100000 in
theorem refValue_bool (g off cap N p b : Nat) (w : World) (h : Here w g off N p 3) (hb : b < 256) (he : p + 1 < N) (hc2 : w.cell? ⟨g, off + (p + 1), none⟩ = some (.int .u8 (b : Int))) (R : Except Int (V × Nat)) (hR : R = if b ≤ 1 then .ok (⟨3, b, ⟨#[]⟩⟩, 2) else .error 21) :
    Calls Try.prog 47 #[.slice (some ⟨g, off, none⟩) N cap, .int .i64 (p : Int)] w (RetPost (triple V.val (outOf zV p R)) w) := by
  obtain ⟨hlt, hf, hg, hcell⟩ := h
  have HR := Lib.hid hR
  have d1 : ¬ ((p : Int) < 0) := by omega
  have d2 : decide ((N : Int) < (p : Int)) = false := by simp; omega
  have d2' : decide (N < p) = false := by simp; omega
  have d3 : ((p : Int) == (N : Int)) = false := by simp; omega
  have d4 : ¬ p = N := by omega
  have w1 : wrap64 ((p : Int) + 1) = (p : Int) + 1 := by unfold wrap64; omega
  clear hR
  have e1 : ((p : Int) + 1 == (N : Int)) = false := by simp; omega
  have e2 : ¬ (p : Int) + 1 = (N : Int) := by omega
  have w2 : wrap64 ((p : Int) + 1 + 1) = (p : Int) + 1 + 1 := by unfold wrap64; omega
  have e3 : ((p : Int) + 1).toNat = p + 1 := by omega
  by_cases hb1 : b ≤ 1
  · have hR := HR.out
    rw [if_pos hb1] at hR
    have HRR := Lib.hid hR
    have e4 : decide ((1 : Int) < (b : Int)) = false := by simp; omega
    have e4' : decide (1 < b) = false := by simp; omega
    clear hR hb1
    go_enter Try.func47, Try.ntmps47
    go_wp2
    exact bodyPost_ret (v := .tuple #[V.val ⟨3, b, ⟨#[]⟩⟩, .int .i64 ((p : Int) + 1 + 1), .int .i64 (0)]) (by simp [results, Try.results47, go_sem, V.val]; try rfl) rfl (ret_post (out_vok HRR.out (by push_cast; exact Int.add_assoc _ _ _)) (by first | exact bel2 _ _ _ | exact (bel2 _ _ _).setCell (by simp) _ | exact (bel2 _ _ _)))
  · have hR := HR.out
    rw [if_neg hb1] at hR
    have HRR := Lib.hid hR
    have e4 : decide ((1 : Int) < (b : Int)) = true := by simp; omega
    have e4' : decide (1 < b) = true := by simp; omega
    clear hR hb1
    go_enter Try.func47, Try.ntmps47
    go_wp2
    exact bodyPost_ret (v := .tuple #[V.val ⟨0, 0, ⟨#[]⟩⟩, .int .i64 (0), .int .i64 (21)]) (by simp [results, Try.results47, go_sem, V.val]; try rfl) rfl (ret_post (out_verr HRR.out) (bel2 _ _ _))
set_option maxHeartbeats 1000000 in
set_option maxRecDepth 100000 in
theorem refValue_int_err (g off cap N p P : Nat) (w : World) (h : Here w g off N p 4) (hP : P = p + 1) (c : Int) (hc0 : (c != 0) = true) (hcall : ∀ w', Below w.heap.size w w' → Calls Try.prog 43 #[.slice (some ⟨g, off, none⟩) N cap, .int .i64 (P : Int)] w' (SamePost (.tuple #[.int .i64 0, .int .i64 0, .int .i64 c]) w')) (R : Except Int (V × Nat)) (hR : R = .error c) :
    Calls Try.prog 47 #[.slice (some ⟨g, off, none⟩) N cap, .int .i64 (p : Int)] w (RetPost (triple V.val (outOf zV p R)) w) := by
  obtain ⟨hlt, hf, hg, hcell⟩ := h
  have HR := Lib.hid hR
  have HC := Lib.hid hcall
  have d1 : ¬ ((p : Int) < 0) := by omega
  have d2 : decide ((N : Int) < (p : Int)) = false := by simp; omega
  have d2' : decide (N < p) = false := by simp; omega
  have d3 : ((p : Int) == (N : Int)) = false := by simp; omega
  have d4 : ¬ p = N := by omega
  have e1 : (p : Int) + 1 = (P : Int) := by omega
  have w2 : wrap64 (P : Int) = (P : Int) := by unfold wrap64; omega
  clear hR hP hcall
  go_enter Try.func47, Try.ntmps47
  go_wp2_with fail
  refine (HC.out _ (bel2 _ _ _)).mono ?_
  rintro e w3 ⟨rfl, rfl⟩
  clear HC
  go_wp2
  exact bodyPost_ret (v := .tuple #[V.val ⟨0, 0, ⟨#[]⟩⟩, .int .i64 (0), .int .i64 (c)]) (by simp [results, Try.results47, go_sem, V.val]; try rfl) rfl (ret_post (out_verr HR.out) (by first | exact bel2 _ _ _ | exact (bel2 _ _ _).setCell (by simp) _))
set_option maxHeartbeats 1000000 in
set_option maxRecDepth 100000 in
theorem refValue_int_ok (g off cap N p P : Nat) (w : World) (h : Here w g off N p 4) (hP : P = p + 1) (z q : Int) (K : Nat) (hq : q = ((p + K : Nat) : Int)) (hcall : ∀ w', Below w.heap.size w w' → Calls Try.prog 43 #[.slice (some ⟨g, off, none⟩) N cap, .int .i64 (P : Int)] w' (SamePost (.tuple #[.int .i64 z, .int .i64 q, .int .i64 0]) w')) (R : Except Int (V × Nat)) (hR : R = .ok (⟨4, z, ⟨#[]⟩⟩, K)) :
    Calls Try.prog 47 #[.slice (some ⟨g, off, none⟩) N cap, .int .i64 (p : Int)] w (RetPost (triple V.val (outOf zV p R)) w) := by
  obtain ⟨hlt, hf, hg, hcell⟩ := h
  have HR := Lib.hid hR
  have HC := Lib.hid hcall
  have d1 : ¬ ((p : Int) < 0) := by omega
  have d2 : decide ((N : Int) < (p : Int)) = false := by simp; omega
  have d2' : decide (N < p) = false := by simp; omega
  have d3 : ((p : Int) == (N : Int)) = false := by simp; omega
  have d4 : ¬ p = N := by omega
  have e1 : (p : Int) + 1 = (P : Int) := by omega
  have w2 : wrap64 (P : Int) = (P : Int) := by unfold wrap64; omega
  have HQ := Lib.hid hq
  clear hR hP hcall hq
  go_enter Try.func47, Try.ntmps47
  go_wp2_with fail
  refine (HC.out _ (bel2 _ _ _)).mono ?_
  rintro e w3 ⟨rfl, rfl⟩
  clear HC
  go_wp2
  exact bodyPost_ret (v := .tuple #[V.val ⟨4, z, ⟨#[]⟩⟩, .int .i64 (q), .int .i64 (0)]) (by simp [results, Try.results47, go_sem, V.val]; try rfl) rfl (ret_post (out_vok HR.out HQ.out) (by first | exact bel2 _ _ _ | exact (bel2 _ _ _).setCell (by simp) _))
set_option maxHeartbeats 1000000 in
set_option maxRecDepth 100000 in
theorem refValue_text_err (g off cap N p P : Nat) (w : World) (h : Here w g off N p 5) (hP : P = p + 1) (c : Int) (hc0 : (c != 0) = true) (hcall : ∀ w', Below w.heap.size w w' → Calls Try.prog 45 #[.slice (some ⟨g, off, none⟩) N cap, .int .i64 (P : Int), .int .i64 64] w' (SamePost (.tuple #[.string ⟨#[]⟩, .int .i64 0, .int .i64 c]) w')) (R : Except Int (V × Nat)) (hR : R = .error c) :
    Calls Try.prog 47 #[.slice (some ⟨g, off, none⟩) N cap, .int .i64 (p : Int)] w (RetPost (triple V.val (outOf zV p R)) w) := by
  obtain ⟨hlt, hf, hg, hcell⟩ := h
  have HR := Lib.hid hR
  have HC := Lib.hid hcall
  have d1 : ¬ ((p : Int) < 0) := by omega
  have d2 : decide ((N : Int) < (p : Int)) = false := by simp; omega
  have d2' : decide (N < p) = false := by simp; omega
  have d3 : ((p : Int) == (N : Int)) = false := by simp; omega
  have d4 : ¬ p = N := by omega
  have e1 : (p : Int) + 1 = (P : Int) := by omega
  have w2 : wrap64 (P : Int) = (P : Int) := by unfold wrap64; omega
  clear hR hP hcall
  go_enter Try.func47, Try.ntmps47
  go_wp2_with fail
  refine (HC.out _ (bel2 _ _ _)).mono ?_
  rintro e w3 ⟨rfl, rfl⟩
  clear HC
  go_wp2
  exact bodyPost_ret (v := .tuple #[V.val ⟨0, 0, ⟨#[]⟩⟩, .int .i64 (0), .int .i64 (c)]) (by simp [results, Try.results47, go_sem, V.val]; try rfl) rfl (ret_post (out_verr HR.out) (by first | exact bel2 _ _ _ | exact (bel2 _ _ _).setCell (by simp) _))
set_option maxHeartbeats 1000000 in
set_option maxRecDepth 100000 in
theorem refValue_text_ok (g off cap N p P : Nat) (w : World) (h : Here w g off N p 5) (hP : P = p + 1) (z : ByteArray) (q : Int) (K : Nat) (hq : q = ((p + K : Nat) : Int)) (hcall : ∀ w', Below w.heap.size w w' → Calls Try.prog 45 #[.slice (some ⟨g, off, none⟩) N cap, .int .i64 (P : Int), .int .i64 64] w' (SamePost (.tuple #[.string z, .int .i64 q, .int .i64 0]) w')) (R : Except Int (V × Nat)) (hR : R = .ok (⟨5, 0, z⟩, K)) :
    Calls Try.prog 47 #[.slice (some ⟨g, off, none⟩) N cap, .int .i64 (p : Int)] w (RetPost (triple V.val (outOf zV p R)) w) := by
  obtain ⟨hlt, hf, hg, hcell⟩ := h
  have HR := Lib.hid hR
  have HC := Lib.hid hcall
  have d1 : ¬ ((p : Int) < 0) := by omega
  have d2 : decide ((N : Int) < (p : Int)) = false := by simp; omega
  have d2' : decide (N < p) = false := by simp; omega
  have d3 : ((p : Int) == (N : Int)) = false := by simp; omega
  have d4 : ¬ p = N := by omega
  have e1 : (p : Int) + 1 = (P : Int) := by omega
  have w2 : wrap64 (P : Int) = (P : Int) := by unfold wrap64; omega
  have HQ := Lib.hid hq
  clear hR hP hcall hq
  go_enter Try.func47, Try.ntmps47
  go_wp2_with fail
  refine (HC.out _ (bel2 _ _ _)).mono ?_
  rintro e w3 ⟨rfl, rfl⟩
  clear HC
  go_wp2
  exact bodyPost_ret (v := .tuple #[V.val ⟨5, 0, z⟩, .int .i64 (q), .int .i64 (0)]) (by simp [results, Try.results47, go_sem, V.val]; try rfl) rfl (ret_post (out_vok HR.out HQ.out) (by first | exact bel2 _ _ _ | exact (bel2 _ _ _).setCell (by simp) _))

theorem rdT_err {most : Nat} {l : List UInt8} {c : Int} (h : rdT most l = .error c) : (c != 0) = true := by
  unfold rdT at h
  rcases hu : rdU 0 0 l with e | ⟨n, k⟩
  · rw [hu] at h
    simp only [Except.error.injEq] at h
    subst h
    rcases rdU_err _ _ _ _ hu with rfl | rfl <;> decide
  · rw [hu] at h
    simp only at h
    split at h
    · simp only [Except.error.injEq] at h; subst h; decide
    · split at h
      · simp only [Except.error.injEq] at h; subst h; decide
      · cases h
theorem refValue_reads (v : Value) (bs : List UInt8) (p : Int) (w : World) (h : BytesAt w v bs) (hf : bs.length ≤ 1099511627776) :
    Calls Try.prog 47 #[v, .int .i64 p] w (RetPost (triple V.val (readAt rdV zV bs p)) w) := by
  have hbytes := h
  obtain ⟨a, cap, rfl, hr, hm, hn, hl⟩ := bytes_value h
  by_cases hp : p < 0 ∨ (bs.length : Int) < p
  · rw [readAt_out hp]; exact refValue_bad a cap bs.length p w hp
  · obtain ⟨q, rfl⟩ : ∃ q : Nat, p = q := ⟨p.toNat, by omega⟩
    have hq : q ≤ bs.length := by omega
    rw [readAt_in hq]
    by_cases hend : q = bs.length
    · subst hend
      exact refValue_end a cap bs.length hf w _ (by rw [List.drop_eq_nil_of_le (Nat.le_refl _)]; rfl)
    · have hlt : q < bs.length := by omega
      obtain ⟨g, off, rfl, hg, hcell⟩ := hl.resolve_left (by rintro e; rw [e] at hlt; simp at hlt)
      obtain ⟨c, hc⟩ : ∃ c : Nat, c = bs[q].toNat := ⟨_, rfl⟩
      have hc256 : c < 256 := by rw [hc]; exact bs[q].toNat_lt
      have hcl := hcell q hlt
      rw [← hc] at hcl
      have hh : Here w g off bs.length q c := ⟨hlt, hf, hg, hcl⟩
      have hq1 : q + 1 ≤ bs.length := hlt
      have hcase : (c = 1 ∨ c = 2) ∨ (c = 0 ∨ 6 ≤ c) ∨ c = 3 ∨ c = 4 ∨ c = 5 := by omega
      rcases hcase with h1 | h1 | rfl | rfl | rfl
      · exact refValue_plain g off cap bs.length q c w hh h1 _ (rdV_plain hlt hc h1)
      · exact refValue_else g off cap bs.length q c w hh h1 hc256 _ (rdV_else hlt hc h1)
      · by_cases he : q + 1 = bs.length
        · exact refValue_bool_end g off cap bs.length q w hh he _ (rdV_bool_end hlt hc he)
        · have hp1 : q + 1 < bs.length := by omega
          exact refValue_bool g off cap bs.length q _ w hh (bs[q + 1].toNat_lt) hp1 (hcell (q + 1) hp1) _ (rdV_bool hlt hc hp1 rfl)
      · have hcall := fun w' (hb : Below w.heap.size w w') => refInt_calls _ bs ((q + 1 : Nat) : Int) w' (hbytes.later hb) hf
        rw [rdV_int hlt hc]
        rcases hu : rdU 0 0 (bs.drop (q + 1)) with e | ⟨n, k⟩
        · refine refValue_int_err g off cap bs.length q (q + 1) w hh rfl e (by rcases rdU_err _ _ _ _ hu with rfl | rfl <;> decide) (fun w' hb => ?_) _ rfl
          have := hcall w' hb
          rw [readAt_in hq1, rdI_err hu] at this
          exact this
        · refine refValue_int_ok g off cap bs.length q (q + 1) w hh rfl (unzig n) ((q + 1 + k : Nat) : Int) (1 + k) (by rw [Nat.add_assoc]) (fun w' hb => ?_) _ rfl
          have := hcall w' hb
          rw [readAt_in hq1, rdI_ok hu] at this
          exact this
      · have hcall := fun w' (hb : Below w.heap.size w w') => refText_calls _ bs ((q + 1 : Nat) : Int) 64 (by omega) w' (hbytes.later hb) hf
        have e64 : textAt 64 bs ((q + 1 : Nat) : Int) = outOf ⟨#[]⟩ (q + 1) (rdT 64 (bs.drop (q + 1))) := by
          unfold textAt
          rw [if_neg (by omega), readAt_in hq1]
          rfl
        rw [rdV_text hlt hc]
        rcases hu : rdT 64 (bs.drop (q + 1)) with e | ⟨t, k⟩
        · refine refValue_text_err g off cap bs.length q (q + 1) w hh rfl e (rdT_err hu) (fun w' hb => ?_) _ rfl
          have := hcall w' hb
          rw [e64, hu] at this
          exact this
        · refine refValue_text_ok g off cap bs.length q (q + 1) w hh rfl t ((q + 1 + k : Nat) : Int) (1 + k) (by rw [Nat.add_assoc]) (fun w' hb => ?_) _ rfl
          have := hcall w' hb
          rw [e64, hu] at this
          exact this
end Go.Proofs.Ytekmllanhppiaaa
