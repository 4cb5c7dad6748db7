/- Bytes in memory, and appending to a slice that the call owns or that is full. -/
import Derived.Test.YtllakifmflploaaA1
import Derived.Test.YtllakifmflploaaCm
import Derived.OwnWalk
import Derived.Laws.OwnMore
import Derived.Laws.AppendOwnNone
import Derived.Laws.BytesArg
import Derived.Laws.IdiomStrings
import Derived.ArgAppend
import Derived.Lib.AppendStr
set_option linter.unusedSimpArgs false
set_option linter.unusedVariables false
namespace Go.Proofs.Ytllakifmflploaa
open Go.RowKit
open Go.Lib (byteCells uvarint zigzag)

/-- A slice value that reads as bytes. -/
def BytesAt (w : World) (v : Value) (bs : List UInt8) : Prop :=
  ∃ (a : Option Addr) (cap : Nat), v = .slice a bs.length cap ∧ bs.length ≤ cap ∧ cap ≤ maxLen ∧ (a = none → cap = 0) ∧ (bs = [] ∨ ∃ b off, a = some ⟨b, off, none⟩ ∧ b < w.heap.size ∧ ∀ i (h : i < bs.length), w.cell? ⟨b, off + i, none⟩ = some (.int .u8 (bs[i].toNat : Int)))
theorem BytesAt.later {w w' : World} {v : Value} {bs : List UInt8} (h : BytesAt w v bs) (hw : Below w.heap.size w w') : BytesAt w' v bs := by
  obtain ⟨a, cap, h1, h2, h3, h4, h5⟩ := h
  exact ⟨a, cap, h1, h2, h3, h4, h5.imp id fun ⟨b, off, k1, k2, k3⟩ => ⟨b, off, k1, Nat.lt_of_lt_of_le k2 hw.size, fun i hi => (hw.cell (p := ⟨b, off + i, none⟩) k2).trans (k3 i hi)⟩⟩
/-- A slice of bytes that the call owns. -/
def Own (base : Nat) (w : World) (v : Value) (bs : List UInt8) : Prop := w.ownsRow base 5 1 v bs.length (byteCells bs)
theorem Own.nil (base : Nat) (w : World) : Own base w (.slice none 0 0) [] := World.ownsRow_nil _ _ _ _
theorem Own.mono {base base' : Nat} {w : World} {v : Value} {bs : List UInt8} (h : Own base w v bs) (hb : base' ≤ base) : Own base' w v bs :=
  ⟨h.1, h.2.imp id fun ⟨g, cap, cur, h1, h2, h3⟩ => ⟨g, cap, cur, h1, Nat.le_trans hb h2, h3⟩⟩
theorem Own.later {base : Nat} {w w' : World} {v : Value} {bs : List UInt8} (h : Own base w v bs) (hw : Below w.heap.size w w') : Own base w' v bs :=
  h.kept (row := none) ⟨hw.os, hw.tape, hw.output, hw.size, fun k hk _ => hw.block k hk⟩ (by cases v.ownBlock <;> simp)
theorem Own.alloc {base : Nat} {w : World} {v : Value} {bs : List UInt8} (h : Own base w v bs) (o : Obj) : Own base (w.alloc o) v bs := World.ownsRow.alloc h o
theorem Own.drew {base : Nat} {w : World} {v : Value} {bs : List UInt8} (h : Own base w v bs) : Own base w.drew v bs := h.later ⟨rfl, rfl, rfl, Nat.le_refl _, fun _ _ => rfl⟩
theorem Own.at_ {base : Nat} {w : World} {v : Value} {bs : List UInt8} (h : Own base w v bs) : BytesAt w v bs := by
  have h0 := h
  obtain ⟨hx, hv | ⟨g, cap, cur, hv, hg, hh, hcap, hm, hs, ht⟩⟩ := h
  · obtain ⟨rfl, hn⟩ := hv
    obtain rfl : bs = [] := List.eq_nil_of_length_eq_zero hn
    exact ⟨none, 0, rfl, Nat.le_refl _, by simp, fun _ => rfl, .inl rfl⟩
  · subst hv
    refine ⟨_, cap, rfl, hcap, hm, by simp, .inr ⟨g, 0, rfl, (Array.getElem?_eq_some_iff.1 hh).1, fun i hi => ?_⟩⟩
    rw [Nat.zero_add, World.ownsRow.cellAt h0 i (by omega)]
    simp [byteCells, hi]
/-- What may be appended to without writing to what was there. -/
def Wide (base : Nat) (w : World) (v : Value) (bs : List UInt8) : Prop := Own base w v bs ∨ (BytesAt w v bs ∧ ∃ a, v = .slice a bs.length bs.length)
theorem Wide.later {base : Nat} {w w' : World} {v : Value} {bs : List UInt8} (h : Wide base w v bs) (hw : Below w.heap.size w w') : Wide base w' v bs :=
  h.imp (fun h => h.later hw) fun ⟨h, k⟩ => ⟨h.later hw, k⟩
theorem Wide.alloc {base : Nat} {w : World} {v : Value} {bs : List UInt8} (h : Wide base w v bs) (o : Obj) : Wide base (w.alloc o) v bs := h.later ((Below.refl _ _).alloc (Nat.le_refl _) _)
theorem byteCells_one' (l : List UInt8) : ∀ v ∈ byteCells l, v.oneCell' = true := by
  intro v hv
  obtain ⟨b, _, rfl⟩ := List.mem_map.1 hv
  rfl
theorem byteCells_at (l : List UInt8) (j : Nat) (u : Value) (h : (byteCells l)[j]? = some u) : ∃ hj : j < l.length, u = .int .u8 (l[j].toNat : Int) := by
  have hj : j < l.length := by
    have := (List.getElem?_eq_some_iff.1 h).1
    simpa [byteCells] using this
  refine ⟨hj, ?_⟩
  simp [byteCells, hj] at h
  exact h.symm
theorem addr_add (b off j : Nat) : (⟨b, off, none⟩ : Addr).add j = ⟨b, off + j, none⟩ := by unfold Addr.add; split <;> simp_all

/-- The address and the cells of the bytes, as appending asks for them. -/
theorem BytesAt.cells {w : World} {v : Value} {bs : List UInt8} (h : BytesAt w v bs) : ∃ (a : Option Addr) (cap : Nat), v = .slice a bs.length cap ∧ (a = none → bs.length = 0 ∧ cap = 0) ∧ ∀ b, a = some b → ∀ j u, (byteCells bs)[j]? = some u → w.cell? (b.add j) = some u := by
  obtain ⟨a, cap, h1, h2, h3, h4, h5⟩ := h
  refine ⟨a, cap, h1, fun e => by have := h4 e; omega, fun b hb j u hj => ?_⟩
  obtain ⟨hjl, rfl⟩ := byteCells_at _ _ _ hj
  rcases h5 with rfl | ⟨b', off, rfl, k2, k3⟩
  · exact absurd hjl (Nat.not_lt_zero _)
  · simp only [Option.some.injEq] at hb
    subst hb
    rw [addr_add]
    exact k3 j hjl

theorem info_u8 : (Try.prog.info? 5).map (fun i => (i.zero, i.size, i.bytes)) = some (some (.int .u8 0), 1, 1) := by kernel_rfl

/-- Appending bytes that lie somewhere, at least one. -/
theorem wpList_append_wide {w : World} {ops : Array Oper} {rest : List Oper} {o : Oper} {a : Act} {Q : Exit → Act → World → Prop} (hgd : o.guard = none) (s x : Operand)
    (ho : o.op = .call { callee := .builtin .append, args := #[s, x], argTypes := #[22, 22] })
    (base : Nat) (v : Value) (bs : List UInt8) (hs : a.eval s = v) (hown : Wide base w v bs)
    (ad : Addr) (m c : Nat) (ns : List UInt8) (hx : a.eval x = .slice (some ad) m c) (hl : ns.length = m) (hnews : ∀ j u, (byteCells ns)[j]? = some u → w.cell? (ad.add j) = some u)
    (hm : 0 < m) (hlim : bs.length + m ≤ 140737488355328) (hbase : base ≤ w.heap.size)
    (h : ∀ v' w', Own base w' v' (bs ++ ns) → Below base w w' → wpList Try.prog ops Q rest (a.put o.dst v') w') : wpList Try.prog ops Q (o :: rest) a w := by
  obtain ⟨i, hi, hz, hsz, hby⟩ := info_parts info_u8
  have hnl : (byteCells ns).length = m * 1 := by simp [byteCells, hl]
  have hlen : bs.length + m = (bs ++ ns).length := by simp [hl]
  rcases hown with hown | ⟨hat, a', rfl⟩
  · refine wpList_append_own _ hgd s x 22 ho base 5 i (.int .u8 0) 1 1 Try.underlying22 hi hz hsz hby rfl (by decide) v bs.length (byteCells bs) hs hown ad m c (byteCells ns) hx hnl hnews (byteCells_one' ns) (by unfold maxLen; omega) (by omega) hbase ?_
    intro v' w' ho' hg _
    refine h v' w' ?_ ?_
    · unfold Own
      rw [← hlen, Go.Lib.byteCells_append]
      exact ho'
    · exact (Below.refl _ _).grown hg hbase (fun k hk => (World.ownsRow.lt hown k hk).1)
  · obtain ⟨a2, cap2, he, k1, k2⟩ := hat.cells
    simp only [Value.slice.injEq, true_and] at he
    obtain ⟨rfl, rfl⟩ := he
    refine wpList_append_grows w hgd s x 22 ho 5 i (.int .u8 0) 1 1 Try.underlying22 hi hz hsz hby rfl (by decide) a' bs.length bs.length (byteCells bs) hs k1 (by simp [byteCells]) k2 ad m c (byteCells ns) hx hnl hnews (byteCells_one' ns) (by omega) (by unfold maxLen; omega) (by omega) ?_
    intro v' w' ho' hg
    refine h v' w' ?_ ((Below.refl _ _).grown hg hbase (fun k hk => by cases hk))
    unfold Own
    rw [← hlen, Go.Lib.byteCells_append]
    exact ⟨ho'.1, ho'.2.imp id fun ⟨g, cap, cur, h1, h2, h3⟩ => ⟨g, cap, cur, h1, Nat.le_trans hbase h2, h3⟩⟩
/-- Appending the bytes of a slice, to one that the call owns. -/
theorem wpList_append_bytes {w : World} {ops : Array Oper} {rest : List Oper} {o : Oper} {a : Act} {Q : Exit → Act → World → Prop} (hgd : o.guard = none) (s x : Operand)
    (ho : o.op = .call { callee := .builtin .append, args := #[s, x], argTypes := #[22, 22] })
    (base : Nat) (v : Value) (bs : List UInt8) (hs : a.eval s = v) (hown : Own base w v bs)
    (vx : Value) (ns : List UInt8) (hx : a.eval x = vx) (hat : BytesAt w vx ns)
    (hlim : bs.length + ns.length ≤ 140737488355328) (hbase : base ≤ w.heap.size)
    (h : ∀ v' w', Own base w' v' (bs ++ ns) → Below base w w' → wpList Try.prog ops Q rest (a.put o.dst v') w') : wpList Try.prog ops Q (o :: rest) a w := by
  obtain ⟨i, hi, hz, hsz, hby⟩ := info_parts info_u8
  have hnl : (byteCells ns).length = ns.length * 1 := by simp [byteCells]
  have hlen : bs.length + ns.length = (bs ++ ns).length := by simp
  obtain ⟨ad, c, rfl, k1, k2⟩ := hat.cells
  cases ad with
  | none =>
    obtain ⟨e1, rfl⟩ := k1 rfl
    obtain rfl : ns = [] := List.eq_nil_of_length_eq_zero e1
    refine wpList_append_own_none hgd s x 22 ho base 5 i 1 Try.underlying22 hi v bs.length (byteCells bs) hs hown hx ?_
    have := h v w (by simpa using hown) (Below.refl _ _)
    exact this
  | some ad =>
    refine wpList_append_own _ hgd s x 22 ho base 5 i (.int .u8 0) 1 1 Try.underlying22 hi hz hsz hby rfl (by decide) v bs.length (byteCells bs) hs hown ad ns.length c (byteCells ns) hx hnl (k2 ad rfl) (byteCells_one' ns) (by unfold maxLen; omega) (by omega) hbase ?_
    intro v' w' ho' hg _
    refine h v' w' ?_ ((Below.refl _ _).grown hg hbase (fun k hk => (World.ownsRow.lt hown k hk).1))
    unfold Own
    rw [← hlen, Go.Lib.byteCells_append]
    exact ho'
/-- Appending the bytes of a string. -/
theorem wpList_append_text' {w : World} {ops : Array Oper} {rest : List Oper} {o : Oper} {a : Act} {Q : Exit → Act → World → Prop} (hgd : o.guard = none) (s x : Operand)
    (ho : o.op = .call { callee := .builtin .append, args := #[s, x], argTypes := #[22, 9] })
    (base : Nat) (v : Value) (bs : List UInt8) (hs : a.eval s = v) (hown : Own base w v bs)
    (t : ByteArray) (hx : a.eval x = .string t)
    (hlim : bs.length + t.size ≤ 140737488355328) (hbase : base ≤ w.heap.size)
    (h : ∀ v' w', Own base w' v' (bs ++ t.data.toList) → Below base w w' → wpList Try.prog ops Q rest (a.put o.dst v') w') : wpList Try.prog ops Q (o :: rest) a w := by
  obtain ⟨i, hi, hz, hsz, hby⟩ := info_parts info_u8
  refine Go.Lib.wpList_append_own_string w hgd s x 22 9 ho base 5 i Try.underlying22 Try.underlying9 hi hz hsz hby v bs.length (byteCells bs) hs hown t hx (by unfold maxLen; omega) hlim hbase ?_
  intro v' w' ho' hg _
  refine h v' w' ?_ ((Below.refl _ _).grown hg hbase (fun k hk => (World.ownsRow.lt hown k hk).1))
  unfold Own
  rw [List.length_append, Go.Lib.byteCells_append]
  exact ho'
/-- 'string(b)' -/
theorem convert_bytes {w : World} {v : Value} {bs : List UInt8} (h : BytesAt w v bs) : (convert 22 9 v).run Try.prog w = .ok (.string ⟨bs.toArray⟩) w := by
  obtain ⟨a, c, rfl, k1, k2⟩ := h.cells
  cases a with
  | none =>
    obtain ⟨e1, rfl⟩ := k1 rfl
    obtain rfl : bs = [] := List.eq_nil_of_length_eq_zero e1
    exact run_convert_bytes_nil (P := Try.prog) w 22 5 Try.underlying22 Try.underlying5 _ _ 9 Try.underlying9
  | some a =>
    refine run_convert_bytes_back (P := Try.prog) w 22 9 5 a c bs Try.underlying22 Try.underlying5 Try.underlying9 fun j hj => k2 a rfl j _ ?_
    simp [byteCells, hj]
/-- What a function that appends leaves. -/
def AppPost (base : Nat) (out : List UInt8) (w : World) (e : Ending) (w' : World) : Prop := ∃ v, e = .returned v ∧ Own base w' v out ∧ Below base w w'
end Go.Proofs.Ytllakifmflploaa
