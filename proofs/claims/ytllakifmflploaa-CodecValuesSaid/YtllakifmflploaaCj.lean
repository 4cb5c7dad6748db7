/- The contracts of what writes a value: codec.appendValue and the reference's value. -/
import Derived.Test.YtllakifmflploaaCc
set_option linter.unusedSimpArgs false
set_option linter.unusedVariables false
namespace Go.Proofs.Ytllakifmflploaa
open Go.RowKit
open Go.Lib (byteCells uvarint zigzag)

/-- What may be appended to, and the block that appending may write to. -/
def WideR (r : Option Nat) (base : Nat) (w : World) (v : Value) (bs : List UInt8) : Prop := (Own base w v bs ∧ r = v.ownBlock) ∨ ((BytesAt w v bs ∧ ∃ a, v = .slice a bs.length bs.length) ∧ r = none)
theorem Wide.r {base : Nat} {w : World} {v : Value} {bs : List UInt8} (h : Wide base w v bs) : ∃ r, WideR r base w v bs := by
  rcases h with h | h
  · exact ⟨_, .inl ⟨h, rfl⟩⟩
  · exact ⟨_, .inr ⟨h, rfl⟩⟩
theorem WideR.wide {r : Option Nat} {base : Nat} {w : World} {v : Value} {bs : List UInt8} (h : WideR r base w v bs) : Wide base w v bs := h.imp And.left And.left
theorem WideR.lt {r : Option Nat} {base : Nat} {w : World} {v : Value} {bs : List UInt8} (h : WideR r base w v bs) : ∀ k, r = some k → base ≤ k ∧ k < w.heap.size := by
  intro k hk
  rcases h with ⟨h, rfl⟩ | ⟨_, rfl⟩
  · exact World.ownsRow.lt h k hk
  · cases hk
theorem WideR.alloc {r : Option Nat} {base : Nat} {w : World} {v : Value} {bs : List UInt8} (h : WideR r base w v bs) (o : Obj) : WideR r base (w.alloc o) v bs :=
  h.imp (fun ⟨a, b⟩ => ⟨a.alloc o, b⟩) fun ⟨⟨a, b⟩, c⟩ => ⟨⟨a.later ((Below.refl _ _).alloc (Nat.le_refl _) _), b⟩, c⟩
/-- Appending one byte. -/
theorem wpList_append_one {w : World} {ops : Array Oper} {rest : List Oper} {o : Oper} {a : Act} {Q : Exit → Act → World → Prop} (hgd : o.guard = none) (s x : Operand)
    (ho : o.op = .call { callee := .builtin .append, args := #[s, x], argTypes := #[22, 22] })
    (r : Option Nat) (base : Nat) (v : Value) (bs : List UInt8) (hs : a.eval s = v) (hown : WideR r base w v bs)
    (ad : Addr) (n : UInt8) (hx : a.eval x = .slice (some ad) 1 1) (hnew : w.cell? ad = some (.int .u8 (n.toNat : Int)))
    (hlim : bs.length + 1 ≤ 140737488355328) (hbase : base ≤ w.heap.size)
    (h : ∀ v' w', Own base w' v' (bs ++ [n]) → w.grownBy w' r → wpList Try.prog ops Q rest (a.put o.dst v') w') : wpList Try.prog ops Q (o :: rest) a w := by
  obtain ⟨i, hi, hz, hsz, hby⟩ := info_parts info_u8
  have hnl : (byteCells [n]).length = 1 * 1 := by simp [byteCells]
  have hnews : ∀ j u, (byteCells [n])[j]? = some u → w.cell? (ad.add j) = some u := by
    intro j u hj
    match j, hj with
    | 0, hj => simp [byteCells] at hj; subst hj; simpa [Addr.add] using hnew
  have hlen : bs.length + 1 = (bs ++ [n]).length := by simp
  rcases hown with ⟨hown, rfl⟩ | ⟨⟨hat, a', rfl⟩, rfl⟩
  · refine wpList_append_own _ hgd s x 22 ho base 5 i (.int .u8 0) 1 1 Try.underlying22 hi hz hsz hby rfl (by decide) v bs.length (byteCells bs) hs hown ad 1 1 (byteCells [n]) hx hnl hnews (byteCells_one' [n]) (by unfold maxLen; omega) (by omega) hbase ?_
    intro v' w' ho' hg _
    refine h v' w' ?_ hg
    unfold Own
    rw [← hlen, Go.Lib.byteCells_append]
    exact ho'
  · obtain ⟨a2, cap2, he, k1, k2⟩ := hat.cells
    simp only [Value.slice.injEq, true_and] at he
    obtain ⟨rfl, rfl⟩ := he
    refine wpList_append_grows w hgd s x 22 ho 5 i (.int .u8 0) 1 1 Try.underlying22 hi hz hsz hby rfl (by decide) a' bs.length bs.length (byteCells bs) hs k1 (by simp [byteCells]) k2 ad 1 1 (byteCells [n]) hx hnl hnews (byteCells_one' [n]) (by omega) (by unfold maxLen; omega) (by omega) ?_
    intro v' w' ho' hg
    refine h v' w' ?_ hg
    unfold Own
    rw [← hlen, Go.Lib.byteCells_append]
    exact ⟨ho'.1, ho'.2.imp id fun ⟨g, cap, cur, h1, h2, h3⟩ => ⟨g, cap, cur, h1, Nat.le_trans hbase h2, h3⟩⟩

theorem encV_1 (n : Int) (t : ByteArray) : encV ⟨1, n, t⟩ = [1] := by simp [encV]
theorem encV_2 (n : Int) (t : ByteArray) : encV ⟨2, n, t⟩ = [2] := by simp [encV]
theorem encV_3 (n : Int) (t : ByteArray) : encV ⟨3, n, t⟩ = [3] ++ [n.toNat.toUInt8] := by simp [encV]
theorem encV_4 (n : Int) (t : ByteArray) : encV ⟨4, n, t⟩ = [4] ++ uvarint (zigzag n) := by simp [encV]
theorem encV_5 (n : Int) (t : ByteArray) : encV ⟨5, n, t⟩ = [5] ++ encT t := by simp [encV]
/-- What a valid value is, kind by kind. -/
theorem valid_cases {x : V} (h : validB x = true) : (x.k = 1 ∨ x.k = 2) ∨ (x.k = 3 ∧ (x.n = 0 ∨ x.n = 1)) ∨ x.k = 4 ∨ (x.k = 5 ∧ x.t.size ≤ 64) := by
  have := of_decide_eq_true h
  unfold validP at this
  omega
/-- The box of a value, behind an append to something older. -/
theorem box_by {w w1 : World} {x y z c : Value} {T T' : TypeId} {r : Option Nat} (h : ((w.alloc (.cells #[x, y, z] T)).alloc (.cells #[c] T')).grownBy w1 r) (hr : ∀ k, r = some k → k < w.heap.size) :
    w.heap.size < w1.heap.size ∧ w1.cell? ⟨w.heap.size, 0, none⟩ = some x ∧ w1.cell? ⟨w.heap.size, 1, none⟩ = some y ∧ w1.cell? ⟨w.heap.size, 2, none⟩ = some z := by
  have hs := h.size
  have hne : some w.heap.size ≠ r := fun e => by have := hr _ e.symm; omega
  simp at hs
  exact ⟨by omega, h.cell (by go_simp) hne, h.cell (by go_simp) hne, h.cell (by go_simp) hne⟩
theorem below_two {base : Nat} {w w1 : World} {o o' : Obj} {r : Option Nat} (hb : base ≤ w.heap.size) (h : ((w.alloc o).alloc o').grownBy w1 r) (hr : ∀ k, r = some k → base ≤ k) : Below base w w1 :=
  ((((Below.refl base w).alloc hb o).alloc (by simp; omega) o').grown h (by simp; omega) hr)

set_option maxHeartbeats 1000000 in
set_option maxRecDepth 100000 in
theorem appendValue_4 (base : Nat) (v : Value) (bs : List UInt8) (n : Int) (t : ByteArray) (hn : isI64 n) (w : World) (hv : Wide base w v bs) (hb : base ≤ w.heap.size) (hl : bs.length + 100 ≤ 140737488355328) :
    Calls Try.prog 79 #[v, .agg #[.int .i64 4, .int .i64 n, .string t]] w (AppPost base (bs ++ encV ⟨4, n, t⟩) w) := by
  obtain ⟨r, hr⟩ := hv.r
  have HV := Lib.hid hr
  have HX := Lib.hid hn
  have hl1 : bs.length + 1 ≤ 140737488355328 := by omega
  rw [encV_4]
  clear hv hn hr
  go_enter Try.func79, Try.ntmps79
  go_wp2_with (at_builtin; go_must (refine wpList_append_one rfl _ _ rfl r base _ bs rfl ((HV.out.alloc _).alloc _) ⟨w.heap.size + 1, 0, none⟩ 4 rfl ?c1 hl1 ?c2 ?_))
  case c1 => go_simp
  case c2 => simp; omega
  intro v1 w1 ho1 hb1
  obtain ⟨c0, c1, c2, c3⟩ := box_by hb1 (fun k hk => (HV.out.lt k hk).2)
  have HB1 := Lib.hid (below_two hb hb1 (fun k hk => (HV.out.lt k hk).1))
  have HC := Lib.hid (appendInt_calls base v1 (bs ++ [4]) n HX.out w1 (.inl ho1) (Nat.le_trans hb HB1.out.size) (by simp; omega))
  clear hb1 ho1
  go_wp2_with fail
  refine HC.out.mono ?_
  rintro e w2 ⟨v2, rfl, ho2, hb2⟩
  have HO2 := Lib.hid ho2
  have HB2 := Lib.hid (HB1.out.trans hb2)
  clear ho2 hb2
  go_wp2
  go_ret
  exact ⟨v2, rfl, by have := HO2.out; simpa using this, HB2.out⟩

/-! ### the kinds, by pattern -/
set_option maxHeartbeats 1000000 in
set_option maxRecDepth 100000 in
theorem appendValue_1 (base : Nat) (v : Value) (bs : List UInt8) (n : Int) (t : ByteArray) (w : World) (hv : Wide base w v bs) (hb : base ≤ w.heap.size) (hl : bs.length + 100 ≤ 140737488355328) :
    Calls Try.prog 79 #[v, .agg #[.int .i64 1, .int .i64 n, .string t]] w (AppPost base (bs ++ encV ⟨1, n, t⟩) w) := by
  obtain ⟨r, hr⟩ := hv.r
  have HV := Lib.hid hr
  have hl1 : bs.length + 1 ≤ 140737488355328 := by omega
  rw [encV_1]
  clear hv hr
  go_enter Try.func79, Try.ntmps79
  go_wp2_with (at_builtin; go_must (refine wpList_append_one rfl _ _ rfl r base _ bs rfl ((HV.out.alloc _).alloc _) ⟨w.heap.size + 1, 0, none⟩ 1 rfl ?c1 hl1 ?c2 ?_))
  case c1 => go_simp
  case c2 => simp; omega
  intro v1 w1 ho1 hb1
  obtain ⟨c0, c1, c2, c3⟩ := box_by hb1 (fun k hk => (HV.out.lt k hk).2)
  have HB1 := Lib.hid (below_two hb hb1 (fun k hk => (HV.out.lt k hk).1))
  have HO1 := Lib.hid ho1
  clear hb1 ho1
  go_wp2
  go_ret
  exact ⟨v1, rfl, HO1.out, HB1.out⟩
set_option maxHeartbeats 1000000 in
set_option maxRecDepth 100000 in
theorem appendValue_2 (base : Nat) (v : Value) (bs : List UInt8) (n : Int) (t : ByteArray) (w : World) (hv : Wide base w v bs) (hb : base ≤ w.heap.size) (hl : bs.length + 100 ≤ 140737488355328) :
    Calls Try.prog 79 #[v, .agg #[.int .i64 2, .int .i64 n, .string t]] w (AppPost base (bs ++ encV ⟨2, n, t⟩) w) := by
  obtain ⟨r, hr⟩ := hv.r
  have HV := Lib.hid hr
  have hl1 : bs.length + 1 ≤ 140737488355328 := by omega
  rw [encV_2]
  clear hv hr
  go_enter Try.func79, Try.ntmps79
  go_wp2_with (at_builtin; go_must (refine wpList_append_one rfl _ _ rfl r base _ bs rfl ((HV.out.alloc _).alloc _) ⟨w.heap.size + 1, 0, none⟩ 2 rfl ?c1 hl1 ?c2 ?_))
  case c1 => go_simp
  case c2 => simp; omega
  intro v1 w1 ho1 hb1
  obtain ⟨c0, c1, c2, c3⟩ := box_by hb1 (fun k hk => (HV.out.lt k hk).2)
  have HB1 := Lib.hid (below_two hb hb1 (fun k hk => (HV.out.lt k hk).1))
  have HO1 := Lib.hid ho1
  clear hb1 ho1
  go_wp2
  go_ret
  exact ⟨v1, rfl, HO1.out, HB1.out⟩
set_option maxHeartbeats 1000000 in
set_option maxRecDepth 100000 in
theorem appendValue_30 (base : Nat) (v : Value) (bs : List UInt8) (t : ByteArray) (w : World) (hv : Wide base w v bs) (hb : base ≤ w.heap.size) (hl : bs.length + 100 ≤ 140737488355328) :
    Calls Try.prog 79 #[v, .agg #[.int .i64 3, .int .i64 0, .string t]] w (AppPost base (bs ++ encV ⟨3, 0, t⟩) w) := by
  obtain ⟨r, hr⟩ := hv.r
  have HV := Lib.hid hr
  have hl1 : bs.length + 1 ≤ 140737488355328 := by omega
  rw [encV_3]
  clear hv hr
  go_enter Try.func79, Try.ntmps79
  go_wp2_with (at_builtin; go_must (refine wpList_append_one rfl _ _ rfl r base _ bs rfl ((HV.out.alloc _).alloc _) ⟨w.heap.size + 1, 0, none⟩ 3 rfl ?c1 hl1 ?c2 ?_))
  case c1 => go_simp
  case c2 => simp; omega
  intro v1 w1 ho1 hb1
  obtain ⟨c0, c1, c2, c3⟩ := box_by hb1 (fun k hk => (HV.out.lt k hk).2)
  have HB1 := Lib.hid (below_two hb hb1 (fun k hk => (HV.out.lt k hk).1))
  have ho1' : WideR v1.ownBlock base w1 v1 (bs ++ [3]) := .inl ⟨ho1, rfl⟩
  have HO1 := Lib.hid ho1'
  have hl2 : (bs ++ [3]).length + 1 ≤ 140737488355328 := by simp; omega
  have hbs1 := HB1.out.size
  clear hb1 ho1 ho1'
  go_wp2_with (at_builtin; go_must (refine wpList_append_one rfl _ _ rfl _ base _ (bs ++ [3]) rfl (HO1.out.alloc _) ⟨w1.heap.size, 0, none⟩ 0 rfl ?d1 hl2 ?d2 ?_))
  case d1 => go_simp
  case d2 => simp; omega
  intro v2 w2 ho2 hb2
  have HO2 := Lib.hid ho2
  have HB2 : Hid (Below base w w2) := (HB1.out.alloc (by omega) _).grown hb2 (by simp; omega) (fun k hk => (HO1.out.lt k hk).1)
  clear ho2 hb2
  go_wp2
  go_ret
  exact ⟨v2, rfl, by have := HO2.out; simpa using this, HB2.out⟩
set_option maxHeartbeats 1000000 in
set_option maxRecDepth 100000 in
theorem appendValue_31 (base : Nat) (v : Value) (bs : List UInt8) (t : ByteArray) (w : World) (hv : Wide base w v bs) (hb : base ≤ w.heap.size) (hl : bs.length + 100 ≤ 140737488355328) :
    Calls Try.prog 79 #[v, .agg #[.int .i64 3, .int .i64 1, .string t]] w (AppPost base (bs ++ encV ⟨3, 1, t⟩) w) := by
  obtain ⟨r, hr⟩ := hv.r
  have HV := Lib.hid hr
  have hl1 : bs.length + 1 ≤ 140737488355328 := by omega
  rw [encV_3]
  clear hv hr
  go_enter Try.func79, Try.ntmps79
  go_wp2_with (at_builtin; go_must (refine wpList_append_one rfl _ _ rfl r base _ bs rfl ((HV.out.alloc _).alloc _) ⟨w.heap.size + 1, 0, none⟩ 3 rfl ?c1 hl1 ?c2 ?_))
  case c1 => go_simp
  case c2 => simp; omega
  intro v1 w1 ho1 hb1
  obtain ⟨c0, c1, c2, c3⟩ := box_by hb1 (fun k hk => (HV.out.lt k hk).2)
  have HB1 := Lib.hid (below_two hb hb1 (fun k hk => (HV.out.lt k hk).1))
  have ho1' : WideR v1.ownBlock base w1 v1 (bs ++ [3]) := .inl ⟨ho1, rfl⟩
  have HO1 := Lib.hid ho1'
  have hl2 : (bs ++ [3]).length + 1 ≤ 140737488355328 := by simp; omega
  have hbs1 := HB1.out.size
  clear hb1 ho1 ho1'
  go_wp2_with (at_builtin; go_must (refine wpList_append_one rfl _ _ rfl _ base _ (bs ++ [3]) rfl (HO1.out.alloc _) ⟨w1.heap.size, 0, none⟩ 1 rfl ?d1 hl2 ?d2 ?_))
  case d1 => go_simp
  case d2 => simp; omega
  intro v2 w2 ho2 hb2
  have HO2 := Lib.hid ho2
  have HB2 : Hid (Below base w w2) := (HB1.out.alloc (by omega) _).grown hb2 (by simp; omega) (fun k hk => (HO1.out.lt k hk).1)
  clear ho2 hb2
  go_wp2
  go_ret
  exact ⟨v2, rfl, by have := HO2.out; simpa using this, HB2.out⟩
set_option maxHeartbeats 1000000 in
set_option maxRecDepth 100000 in
theorem refValue_1 (base : Nat) (v : Value) (bs : List UInt8) (n : Int) (t : ByteArray) (w : World) (hv : Wide base w v bs) (hb : base ≤ w.heap.size) (hl : bs.length + 100 ≤ 140737488355328) :
    Calls Try.prog 82 #[v, .agg #[.int .i64 1, .int .i64 n, .string t]] w (AppPost base (bs ++ encV ⟨1, n, t⟩) w) := by
  obtain ⟨r, hr⟩ := hv.r
  have HV := Lib.hid hr
  have hl1 : bs.length + 1 ≤ 140737488355328 := by omega
  rw [encV_1]
  clear hv hr
  go_enter Try.func82, Try.ntmps82
  go_wp2_with (at_builtin; go_must (refine wpList_append_one rfl _ _ rfl r base _ bs rfl ((HV.out.alloc _).alloc _) ⟨w.heap.size + 1, 0, none⟩ 1 rfl ?c1 hl1 ?c2 ?_))
  case c1 => go_simp
  case c2 => simp; omega
  intro v1 w1 ho1 hb1
  obtain ⟨c0, c1, c2, c3⟩ := box_by hb1 (fun k hk => (HV.out.lt k hk).2)
  have HB1 := Lib.hid (below_two hb hb1 (fun k hk => (HV.out.lt k hk).1))
  have HO1 := Lib.hid ho1
  clear hb1 ho1
  go_wp2
  go_ret
  exact ⟨v1, rfl, HO1.out, HB1.out⟩
set_option maxHeartbeats 1000000 in
set_option maxRecDepth 100000 in
theorem refValue_2 (base : Nat) (v : Value) (bs : List UInt8) (n : Int) (t : ByteArray) (w : World) (hv : Wide base w v bs) (hb : base ≤ w.heap.size) (hl : bs.length + 100 ≤ 140737488355328) :
    Calls Try.prog 82 #[v, .agg #[.int .i64 2, .int .i64 n, .string t]] w (AppPost base (bs ++ encV ⟨2, n, t⟩) w) := by
  obtain ⟨r, hr⟩ := hv.r
  have HV := Lib.hid hr
  have hl1 : bs.length + 1 ≤ 140737488355328 := by omega
  rw [encV_2]
  clear hv hr
  go_enter Try.func82, Try.ntmps82
  go_wp2_with (at_builtin; go_must (refine wpList_append_one rfl _ _ rfl r base _ bs rfl ((HV.out.alloc _).alloc _) ⟨w.heap.size + 1, 0, none⟩ 2 rfl ?c1 hl1 ?c2 ?_))
  case c1 => go_simp
  case c2 => simp; omega
  intro v1 w1 ho1 hb1
  obtain ⟨c0, c1, c2, c3⟩ := box_by hb1 (fun k hk => (HV.out.lt k hk).2)
  have HB1 := Lib.hid (below_two hb hb1 (fun k hk => (HV.out.lt k hk).1))
  have HO1 := Lib.hid ho1
  clear hb1 ho1
  go_wp2
  go_ret
  exact ⟨v1, rfl, HO1.out, HB1.out⟩
set_option maxHeartbeats 1000000 in
set_option maxRecDepth 100000 in
theorem refValue_30 (base : Nat) (v : Value) (bs : List UInt8) (t : ByteArray) (w : World) (hv : Wide base w v bs) (hb : base ≤ w.heap.size) (hl : bs.length + 100 ≤ 140737488355328) :
    Calls Try.prog 82 #[v, .agg #[.int .i64 3, .int .i64 0, .string t]] w (AppPost base (bs ++ encV ⟨3, 0, t⟩) w) := by
  obtain ⟨r, hr⟩ := hv.r
  have HV := Lib.hid hr
  have hl1 : bs.length + 1 ≤ 140737488355328 := by omega
  rw [encV_3]
  clear hv hr
  go_enter Try.func82, Try.ntmps82
  go_wp2_with (at_builtin; go_must (refine wpList_append_one rfl _ _ rfl r base _ bs rfl ((HV.out.alloc _).alloc _) ⟨w.heap.size + 1, 0, none⟩ 3 rfl ?c1 hl1 ?c2 ?_))
  case c1 => go_simp
  case c2 => simp; omega
  intro v1 w1 ho1 hb1
  obtain ⟨c0, c1, c2, c3⟩ := box_by hb1 (fun k hk => (HV.out.lt k hk).2)
  have HB1 := Lib.hid (below_two hb hb1 (fun k hk => (HV.out.lt k hk).1))
  have ho1' : WideR v1.ownBlock base w1 v1 (bs ++ [3]) := .inl ⟨ho1, rfl⟩
  have HO1 := Lib.hid ho1'
  have hl2 : (bs ++ [3]).length + 1 ≤ 140737488355328 := by simp; omega
  have hbs1 := HB1.out.size
  clear hb1 ho1 ho1'
  go_wp2_with (at_builtin; go_must (refine wpList_append_one rfl _ _ rfl _ base _ (bs ++ [3]) rfl (HO1.out.alloc _) ⟨w1.heap.size, 0, none⟩ 0 rfl ?d1 hl2 ?d2 ?_))
  case d1 => go_simp
  case d2 => simp; omega
  intro v2 w2 ho2 hb2
  have HO2 := Lib.hid ho2
  have HB2 : Hid (Below base w w2) := (HB1.out.alloc (by omega) _).grown hb2 (by simp; omega) (fun k hk => (HO1.out.lt k hk).1)
  clear ho2 hb2
  go_wp2
  go_ret
  exact ⟨v2, rfl, by have := HO2.out; simpa using this, HB2.out⟩
set_option maxHeartbeats 1000000 in
set_option maxRecDepth 100000 in
theorem refValue_31 (base : Nat) (v : Value) (bs : List UInt8) (t : ByteArray) (w : World) (hv : Wide base w v bs) (hb : base ≤ w.heap.size) (hl : bs.length + 100 ≤ 140737488355328) :
    Calls Try.prog 82 #[v, .agg #[.int .i64 3, .int .i64 1, .string t]] w (AppPost base (bs ++ encV ⟨3, 1, t⟩) w) := by
  obtain ⟨r, hr⟩ := hv.r
  have HV := Lib.hid hr
  have hl1 : bs.length + 1 ≤ 140737488355328 := by omega
  rw [encV_3]
  clear hv hr
  go_enter Try.func82, Try.ntmps82
  go_wp2_with (at_builtin; go_must (refine wpList_append_one rfl _ _ rfl r base _ bs rfl ((HV.out.alloc _).alloc _) ⟨w.heap.size + 1, 0, none⟩ 3 rfl ?c1 hl1 ?c2 ?_))
  case c1 => go_simp
  case c2 => simp; omega
  intro v1 w1 ho1 hb1
  obtain ⟨c0, c1, c2, c3⟩ := box_by hb1 (fun k hk => (HV.out.lt k hk).2)
  have HB1 := Lib.hid (below_two hb hb1 (fun k hk => (HV.out.lt k hk).1))
  have ho1' : WideR v1.ownBlock base w1 v1 (bs ++ [3]) := .inl ⟨ho1, rfl⟩
  have HO1 := Lib.hid ho1'
  have hl2 : (bs ++ [3]).length + 1 ≤ 140737488355328 := by simp; omega
  have hbs1 := HB1.out.size
  clear hb1 ho1 ho1'
  go_wp2_with (at_builtin; go_must (refine wpList_append_one rfl _ _ rfl _ base _ (bs ++ [3]) rfl (HO1.out.alloc _) ⟨w1.heap.size, 0, none⟩ 1 rfl ?d1 hl2 ?d2 ?_))
  case d1 => go_simp
  case d2 => simp; omega
  intro v2 w2 ho2 hb2
  have HO2 := Lib.hid ho2
  have HB2 : Hid (Below base w w2) := (HB1.out.alloc (by omega) _).grown hb2 (by simp; omega) (fun k hk => (HO1.out.lt k hk).1)
  clear ho2 hb2
  go_wp2
  go_ret
  exact ⟨v2, rfl, by have := HO2.out; simpa using this, HB2.out⟩
set_option maxHeartbeats 1000000 in
set_option maxRecDepth 100000 in
theorem appendValue_5 (base : Nat) (v : Value) (bs : List UInt8) (n : Int) (t : ByteArray) (ht : t.size ≤ 64) (w : World) (hv : Wide base w v bs) (hb : base ≤ w.heap.size) (hl : bs.length + 100 ≤ 140737488355328) :
    Calls Try.prog 79 #[v, .agg #[.int .i64 5, .int .i64 n, .string t]] w (AppPost base (bs ++ encV ⟨5, n, t⟩) w) := by
  obtain ⟨r, hr⟩ := hv.r
  have HV := Lib.hid hr
  have hl1 : bs.length + 1 ≤ 140737488355328 := by omega
  rw [encV_5]
  have HT := Lib.hid ht
  clear hv hr ht
  go_enter Try.func79, Try.ntmps79
  go_wp2_with (at_builtin; go_must (refine wpList_append_one rfl _ _ rfl r base _ bs rfl ((HV.out.alloc _).alloc _) ⟨w.heap.size + 1, 0, none⟩ 5 rfl ?c1 hl1 ?c2 ?_))
  case c1 => go_simp
  case c2 => simp; omega
  intro v1 w1 ho1 hb1
  obtain ⟨c0, c1, c2, c3⟩ := box_by hb1 (fun k hk => (HV.out.lt k hk).2)
  have HB1 := Lib.hid (below_two hb hb1 (fun k hk => (HV.out.lt k hk).1))
  have HC := Lib.hid (appendText_calls base v1 (bs ++ [5]) t w1 (.inl ho1) (Nat.le_trans hb HB1.out.size) (by have := HT.out; simp; omega))
  clear hb1 ho1
  go_wp2_with fail
  refine HC.out.mono ?_
  rintro e w2 ⟨v2, rfl, ho2, hb2⟩
  have HO2 := Lib.hid ho2
  have HB2 := Lib.hid (HB1.out.trans hb2)
  clear ho2 hb2
  go_wp2
  go_ret
  exact ⟨v2, rfl, by have := HO2.out; simpa using this, HB2.out⟩
set_option maxHeartbeats 1000000 in
set_option maxRecDepth 100000 in
theorem refValue_4 (base : Nat) (v : Value) (bs : List UInt8) (n : Int) (t : ByteArray) (hn : isI64 n) (w : World) (hv : Wide base w v bs) (hb : base ≤ w.heap.size) (hl : bs.length + 100 ≤ 140737488355328) :
    Calls Try.prog 82 #[v, .agg #[.int .i64 4, .int .i64 n, .string t]] w (AppPost base (bs ++ encV ⟨4, n, t⟩) w) := by
  obtain ⟨r, hr⟩ := hv.r
  have HV := Lib.hid hr
  have hl1 : bs.length + 1 ≤ 140737488355328 := by omega
  rw [encV_4]
  obtain ⟨x0, x1⟩ := hn
  clear hv hr
  go_enter Try.func82, Try.ntmps82
  go_wp2_with (at_builtin; go_must (refine wpList_append_one rfl _ _ rfl r base _ bs rfl ((HV.out.alloc _).alloc _) ⟨w.heap.size + 1, 0, none⟩ 4 rfl ?c1 hl1 ?c2 ?_))
  case c1 => go_simp
  case c2 => simp; omega
  intro v1 w1 ho1 hb1
  obtain ⟨c0, c1, c2, c3⟩ := box_by hb1 (fun k hk => (HV.out.lt k hk).2)
  have HB1 := Lib.hid (below_two hb hb1 (fun k hk => (HV.out.lt k hk).1))
  have hd := refUint_calls base v1 (bs ++ [4]) (zigzag n) (Go.Lib.zigzag_lt x0 x1) w1 (.inl ho1) (Nat.le_trans hb HB1.out.size) (by simp; omega)
  rw [← zig_ref n x0 x1] at hd
  have HC := Lib.hid hd
  clear hb1 ho1 hd
  go_wp2_with fail
  refine HC.out.mono ?_
  rintro e w2 ⟨v2, rfl, ho2, hb2⟩
  have HO2 := Lib.hid ho2
  have HB2 := Lib.hid (HB1.out.trans hb2)
  clear ho2 hb2
  go_wp2
  go_ret
  exact ⟨v2, rfl, by have := HO2.out; simpa using this, HB2.out⟩
theorem appendValue_calls (base : Nat) (v : Value) (bs : List UInt8) (x : V) (hx : validB x = true) (hn : isI64 x.n) (w : World) (hv : Wide base w v bs) (hb : base ≤ w.heap.size) (hl : bs.length + 100 ≤ 140737488355328) :
    Calls Try.prog 79 #[v, x.val] w (AppPost base (bs ++ encV x) w) := by
  have hc := valid_cases hx
  obtain ⟨k, n, t⟩ := x
  simp only at hc hn
  rcases hc with (rfl | rfl) | ⟨rfl, rfl | rfl⟩ | rfl | ⟨rfl, ht⟩
  · exact appendValue_1 base v bs n t w hv hb hl
  · exact appendValue_2 base v bs n t w hv hb hl
  · exact appendValue_30 base v bs t w hv hb hl
  · exact appendValue_31 base v bs t w hv hb hl
  · exact appendValue_4 base v bs n t hn w hv hb hl
  · exact appendValue_5 base v bs n t ht w hv hb hl
end Go.Proofs.Ytllakifmflploaa
