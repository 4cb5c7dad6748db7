/- What is read is written as the bytes from which it was read; the case's Bool at 2. -/
import Derived.Test.YtekmllanhppiaaaCs
import Derived.Test.YtekmllanhppiaaaCy
import Derived.Test.YtekmllanhppiaaaCu
import Derived.Test.YtekmllanhppiaaaCq
import Derived.Test.YtekmllanhppiaaaKa
set_option linter.unusedSimpArgs false
set_option linter.unusedVariables false
namespace Go.Proofs.Ytekmllanhppiaaa
open Go.RowKit
open Go.Lib (byteCells uvarint zigzag)

theorem byte_id (c : UInt8) : (c.toNat).toUInt8 = c := by simp
theorem rdT_writes {most : Nat} {l : List UInt8} {t : ByteArray} {k : Nat} (h : rdT most l = .ok (t, k)) : encT t = l.take k ∧ t.size ≤ most ∧ k ≤ l.length := by
  unfold rdT at h
  rcases hu : rdU 0 0 l with e | ⟨n, j⟩
  · rw [hu] at h; cases h
  · rw [hu] at h
    simp only at h
    have hw := rdU_writes hu
    obtain ⟨-, -, h3, -⟩ := rdU_bounds _ _ _ (by simp) (by omega) _ _ hu
    split at h
    · cases h
    · rename_i hm
      split at h
      · cases h
      · rename_i hlt
        simp only [Except.ok.injEq, Prod.mk.injEq] at h
        obtain ⟨rfl, rfl⟩ := h
        have hsz : (⟨((l.drop j).take n).toArray⟩ : ByteArray).size = n := by
          show ((l.drop j).take n).toArray.size = n
          simp only [List.size_toArray, List.length_take]; omega
        refine ⟨?_, by rw [hsz]; omega, by simp only [List.length_drop] at hlt; omega⟩
        unfold encT
        rw [hsz, hw, List.take_add]
theorem rdV_cons (c : UInt8) (l : List UInt8) : rdV (c :: l) = (if c.toNat = 1 ∨ c.toNat = 2 then .ok (⟨c.toNat, 0, ⟨#[]⟩⟩, 1)
    else if c.toNat = 3 then (match l with
      | [] => .error 20
      | b :: _ => if b.toNat ≤ 1 then .ok (⟨3, b.toNat, ⟨#[]⟩⟩, 2) else .error 21)
    else if c.toNat = 4 then (match rdU 0 0 l with
      | .error e => .error e
      | .ok (n, k) => .ok (⟨4, unzig n, ⟨#[]⟩⟩, 1 + k))
    else if c.toNat = 5 then (match rdT 64 l with
      | .error e => .error e
      | .ok (t, k) => .ok (⟨5, 0, t⟩, 1 + k))
    else .error 21) := by cases l <;> rfl
theorem rdV_writes {l : List UInt8} {x : V} {k : Nat} (h : rdV l = .ok (x, k)) : encV x = l.take k ∧ validB x = true ∧ isI64 x.n ∧ k ≤ l.length := by
  rcases l with _ | ⟨c, l⟩
  · simp [rdV] at h
  · rw [rdV_cons] at h
    split at h
    · rename_i hc
      simp only [Except.ok.injEq, Prod.mk.injEq] at h
      obtain ⟨rfl, rfl⟩ := h
      have hb := byte_id c
      refine ⟨?_, ?_, ⟨by show (-9223372036854775808 : Int) ≤ 0; decide, by show (0 : Int) ≤ _; decide⟩, by simp⟩
      · rcases hc with hc | hc
        · rw [hc] at hb; rw [hc, show (((1 : Nat) : Int)) = 1 from rfl, encV_1]; simp [← hb]
        · rw [hc] at hb; rw [hc, show (((2 : Nat) : Int)) = 2 from rfl, encV_2]; simp [← hb]
      · exact decide_eq_true (.inl ⟨by rcases hc with hc | hc <;> simp [hc], rfl, rfl⟩)
    · split at h
      · rename_i hc
        split at h
        · cases h
        · rename_i b tl
          split at h
          · rename_i hb1
            simp only [Except.ok.injEq, Prod.mk.injEq] at h
            obtain ⟨rfl, rfl⟩ := h
            have hb := byte_id c
            have hb2 := byte_id b
            rw [hc] at hb
            refine ⟨?_, ?_, ⟨by show (-9223372036854775808 : Int) ≤ (b.toNat : Int); omega, by show (b.toNat : Int) ≤ 9223372036854775807; omega⟩, by simp⟩
            · rw [encV_3]; simp [← hb]
            · exact decide_eq_true (.inr (.inl ⟨rfl, by simp; omega, rfl⟩))
          · cases h
      · split at h
        · rename_i hc
          split at h
          · cases h
          · rename_i n j hu
            simp only [Except.ok.injEq, Prod.mk.injEq] at h
            obtain ⟨rfl, rfl⟩ := h
            have hb := byte_id c
            rw [hc] at hb
            have hw := rdU_writes hu
            obtain ⟨h1, -, h3, -⟩ := rdU_bounds _ _ _ (by simp) (by omega) _ _ hu
            refine ⟨?_, ?_, unzig_range n h1, by simp at h3 ⊢; omega⟩
            · rw [encV_4, zigzag_unzig, hw, Nat.add_comm]; simp [← hb]
            · exact decide_eq_true (.inr (.inr (.inl ⟨rfl, rfl⟩)))
        · split at h
          · rename_i hc
            split at h
            · cases h
            · rename_i t j hu
              simp only [Except.ok.injEq, Prod.mk.injEq] at h
              obtain ⟨rfl, rfl⟩ := h
              have hb := byte_id c
              rw [hc] at hb
              obtain ⟨hw, hs, h3⟩ := rdT_writes hu
              refine ⟨?_, ?_, ⟨by show (-9223372036854775808 : Int) ≤ 0; decide, by show (0 : Int) ≤ _; decide⟩, by simp; omega⟩
              · rw [encV_5, hw, Nat.add_comm]; simp [← hb]
              · exact decide_eq_true (.inr (.inr (.inr ⟨rfl, rfl, hs⟩)))
          · cases h
theorem rdVs_writes : ∀ (n : Nat) (l : List UInt8) (r : List V) (k : Nat), rdVs n l = .ok (r, k) → r.length = n ∧ encVs r = l.take k ∧ (∀ x ∈ r, validB x = true ∧ isI64 x.n) ∧ k ≤ l.length := by
  intro n
  induction n with
  | zero =>
    intro l r k h
    simp only [rdVs, Except.ok.injEq, Prod.mk.injEq] at h
    obtain ⟨rfl, rfl⟩ := h
    exact ⟨rfl, by simp [encVs], fun x hx => absurd hx (by simp), Nat.zero_le _⟩
  | succ n ih =>
    intro l r k h
    rw [rdVs] at h
    split at h
    · cases h
    · rename_i v j hv
      split at h
      · cases h
      · rename_i r2 i hr
        simp only [Except.ok.injEq, Prod.mk.injEq] at h
        obtain ⟨rfl, rfl⟩ := h
        obtain ⟨a1, a2, a3, a4⟩ := rdV_writes hv
        obtain ⟨b1, b2, b3, b4⟩ := ih _ _ _ hr
        refine ⟨by simp [b1], ?_, ?_, by simp only [List.length_drop] at b4; omega⟩
        · rw [encVs, a1, b2, List.take_add]
        · intro x hx
          rcases List.mem_cons.1 hx with rfl | hx
          · exact ⟨a2, a3⟩
          · exact b3 x hx
theorem rdR_writes {l : List UInt8} {r : List V} {k : Nat} (h : rdR l = .ok (r, k)) : r.length ≤ 12 ∧ encR r = l.take k ∧ (∀ x ∈ r, validB x = true ∧ isI64 x.n) ∧ k ≤ l.length := by
  unfold rdR at h
  split at h
  · cases h
  · rename_i n j hu
    have hw := rdU_writes hu
    obtain ⟨-, -, h3, -⟩ := rdU_bounds _ _ _ (by simp) (by omega) _ _ hu
    split at h
    · cases h
    · rename_i h12
      split at h
      · cases h
      · rename_i r2 i hr
        simp only [Except.ok.injEq, Prod.mk.injEq] at h
        obtain ⟨rfl, rfl⟩ := h
        obtain ⟨b1, b2, b3, b4⟩ := rdVs_writes _ _ _ _ hr
        refine ⟨by omega, ?_, b3, by simp only [List.length_drop] at b4; omega⟩
        unfold encR
        rw [b1, hw, b2, List.take_add]
theorem rdVs_err : ∀ (n : Nat) (l : List UInt8) (c : Int), rdVs n l = .error c → ∃ l', rdV l' = .error c := by
  intro n
  induction n with
  | zero => intro l c h; simp [rdVs] at h
  | succ n ih =>
    intro l c h
    rw [rdVs] at h
    split at h
    · rename_i e he
      simp only [Except.error.injEq] at h; subst h
      exact ⟨_, he⟩
    · split at h
      · rename_i e he
        simp only [Except.error.injEq] at h; subst h
        exact ih _ _ he
      · cases h
theorem rdR_err {l : List UInt8} {c : Int} (h : rdR l = .error c) : (c != 0) = true := by
  unfold rdR at h
  split at h
  · rename_i e he
    simp only [Except.error.injEq] at h; subst h
    rcases rdU_err _ _ _ _ he with rfl | rfl <;> decide
  · split at h
    · simp only [Except.error.injEq] at h; subst h; decide
    · split at h
      · rename_i e he
        simp only [Except.error.injEq] at h; subst h
        obtain ⟨l', hl⟩ := rdVs_err _ _ _ he
        exact rdV_err hl
      · cases h
theorem bool2_calls (b : Nat) (c : CaseId) (w : World) (hc : CaseAt w b c) : Calls Try.prog 52 #[.pointer (some ⟨b, 0, none⟩), .int .i64 2] w (GotB b c w) := by
  have hi := int_calls b c 2 (by omega) (by omega) w hc
  have HI := Lib.hid hi
  clear hi hc
  go_enter Try.func52, Try.ntmps52
  go_wp2_with fail
  refine HI.out.mono ?_
  rintro e w' ⟨x, rfl, hx0, hx1, hcs, hby⟩
  have HC := Lib.hid hcs
  have HB := Lib.hid hby
  clear hcs hby HI
  go_wp2
  go_ret
  exact ⟨_, rfl, HC.out, HB.out⟩
/-- A store to bytes that the call owns. -/
theorem Own.put {base : Nat} {w : World} {g cap : Nat} {bs : List UInt8} (h : Own base w (.slice (some ⟨g, 0, none⟩) bs.length cap) bs) (j : Nat) (hj : j < bs.length) (x : UInt8) :
    Own base (w.setCell ⟨g, j, none⟩ (.int .u8 (x.toNat : Int))) (.slice (some ⟨g, 0, none⟩) bs.length cap) (bs.set j x) := by
  obtain ⟨h1, h2⟩ := h
  rcases h2 with ⟨hv, -⟩ | ⟨k, cap', cur, hv, hb, hg, hnc, hcm, hcs, htake⟩
  · cases hv
  · simp only [Value.slice.injEq, Option.some.injEq, Addr.mk.injEq, true_and, and_true] at hv
    obtain ⟨rfl, rfl⟩ := hv
    refine ⟨by simp [byteCells], .inr ⟨g, cap, cur.setIfInBounds j (.int .u8 (x.toNat : Int)), by simp, hb, store_heap hg _ _, by simpa using hnc, hcm, by simpa using hcs, ?_⟩⟩
    rw [List.length_set, Array.toList_setIfInBounds, List.take_set, htake]
    simp [byteCells, List.map_set]
theorem xor_u8 (a b : Int) : ∃ z : Nat, z < 256 ∧ bits .xor .u8 a b = (z : Int) := by
  have h : bits .xor .u8 a b = IntKind.u8.wrap (((BitVec.ofInt 8 a ^^^ BitVec.ofInt 8 b).toNat : Int)) := rfl
  have hl := (BitVec.ofInt 8 a ^^^ BitVec.ofInt 8 b).isLt
  refine ⟨(BitVec.ofInt 8 a ^^^ BitVec.ofInt 8 b).toNat, hl, ?_⟩
  rw [h, IntKind.wrap_u8]
  omega
theorem own_form {base : Nat} {w : World} {va : Option Addr} {vc : Nat} {bs : List UInt8} (h : Own base w (.slice va bs.length vc) bs) (hn : ¬ bs.length = 0) : ∃ g, va = some ⟨g, 0, none⟩ ∧ base ≤ g ∧ g < w.heap.size ∧ ∀ j, w.frozen? ⟨g, j, none⟩ = false := by
  obtain ⟨-, h2⟩ := h
  rcases h2 with ⟨-, h0⟩ | ⟨g, cp, cur, he, hbg, hg, -⟩
  · exact absurd h0 hn
  · simp only [Value.slice.injEq, true_and] at he
    exact ⟨g, he.1, hbg, (Array.getElem?_eq_some_iff.1 hg).1, fun j => by simp [World.frozen?, hg]⟩
theorem own_cell {base : Nat} {w : World} {g vc : Nat} {bs : List UInt8} (h : Own base w (.slice (some ⟨g, 0, none⟩) bs.length vc) bs) (j : Nat) (hj : j < bs.length) : w.cell? ⟨g, j, none⟩ = some (.int .u8 (bs[j].toNat : Int)) := by
  obtain ⟨a2, c2, he2, -, k2⟩ := h.at_.cells
  simp only [Value.slice.injEq] at he2
  have hk := k2 _ he2.1.symm j (.int .u8 (bs[j].toNat : Int)) (by simp [byteCells, hj])
  rw [addr_add, Nat.zero_add] at hk
  exact hk
theorem store_facts {base : Nat} {w : World} {va : Option Addr} {vc : Nat} {bs : List UInt8} (h : Own base w (.slice va bs.length vc) bs) (L : Nat) (hL : bs.length = L) (hn : ¬ L = 0) (y : Nat) (x : Int) :
    ∃ (g j z : Nat) (bv : Int), va = some ⟨g, 0, none⟩ ∧ base ≤ g ∧ g < w.heap.size ∧ w.frozen? ⟨g, j, none⟩ = false ∧ j < L ∧ (y : Int).tmod (L : Int) = (j : Int) ∧ (y : Int) % (L : Int) = (j : Int) ∧ w.cell? ⟨g, j, none⟩ = some (.int .u8 bv) ∧ bits .xor .u8 bv x = (z : Int) ∧
      ∃ bs' : List UInt8, bs'.length = L ∧ Own base (w.setCell ⟨g, j, none⟩ (.int .u8 (z : Int))) (.slice (some ⟨g, 0, none⟩) L vc) bs' := by
  subst hL
  obtain ⟨g, rfl, h1, h2, h3⟩ := own_form h hn
  have hjl : y % bs.length < bs.length := Nat.mod_lt _ (Nat.pos_of_ne_zero hn)
  obtain ⟨z, hz, hzx⟩ := xor_u8 (bs[y % bs.length].toNat : Int) x
  have hput := Own.put h (y % bs.length) hjl z.toUInt8
  have hz2 : ((z.toUInt8).toNat : Int) = (z : Int) := by simp; omega
  rw [hz2] at hput
  exact ⟨g, y % bs.length, z, _, rfl, h1, h2, h3 _, hjl, nat_rem y bs.length, rfl, own_cell h _ hjl, hzx, _, List.length_set .., hput⟩
end Go.Proofs.Ytekmllanhppiaaa
