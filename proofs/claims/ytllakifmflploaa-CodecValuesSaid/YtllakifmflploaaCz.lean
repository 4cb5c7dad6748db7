/- The contract of the reference's value at a text, and whole. -/
import Derived.Test.YtllakifmflploaaCj
import Derived.Test.YtllakifmflploaaE
import Derived.Test.YtllakifmflploaaKa
import Derived.Deep.RegionHeld3
set_option linter.unusedSimpArgs false
set_option linter.unusedVariables false
namespace Go.Proofs.Ytllakifmflploaa
open Go.RowKit
open Go.Lib (byteCells uvarint zigzag)

/-- Appending the bytes of a string, at a step of a drawn region. -/
theorem step_append_text {w : World} {ops : Array Oper} {o : Oper} {a : Act} {K : Act → World → Prop} {Q : Exit → Act → World → Prop} {E : Prop} (hgd : o.guard = none) (s x : Operand)
    (ho : o.op = .call { callee := .builtin .append, args := #[s, x], argTypes := #[22, 9] })
    (base : Nat) (v : Value) (bs : List UInt8) (hs : a.eval s = v) (hown : Own base w v bs)
    (t : ByteArray) (hx : a.eval x = .string t)
    (hlim : bs.length + t.size ≤ 140737488355328) (hbase : base ≤ w.heap.size)
    (h : ∀ v' w', Own base w' v' (bs ++ t.data.toList) → w.grownBy w' v.ownBlock → K (a.put o.dst v') w') :
    if Region.wanted o (yielded ops a.tmps) = true then Oper.wp Try.prog o a w K Q else E := by
  have hw : Region.wanted o (yielded ops a.tmps) = true := by simp [Region.wanted, hgd]
  rw [if_pos hw]
  obtain ⟨i, hi, hz, hsz, hby⟩ := info_parts info_u8
  obtain ⟨v', w', hr, h2, h3, -⟩ := Go.Lib.run_append_own_string (P := Try.prog) w base 22 9 o.type 5 i Try.underlying22 Try.underlying9 hi hz hsz hby v bs.length (byteCells bs) hown t (by unfold maxLen; omega) hlim hbase
  have h2' : Own base w' v' (bs ++ t.data.toList) := by
    unfold Own
    rw [List.length_append, Go.Lib.byteCells_append]
    exact h2
  unfold Oper.wp execOp
  simp only [ho, resolve, invoke, builtin, Sem.run_bind, Sem.run_pure, Result.andThen_ok, List.map_toArray, List.map_cons, List.map_nil, hs, hx, hr]
  exact h v' w' h2' h3
theorem own_ne_box {base : Nat} {w : World} {v : Value} {bs : List UInt8} {g : Nat} {cur : Array Value} {fr : Nat × Nat} (h : Own base w v bs) (hg : w.heap[g]? = some (.cells cur 35 fr)) : some g ≠ v.ownBlock := by
  rcases h.2 with ⟨rfl, -⟩ | ⟨k, cap, c, rfl, -, hk, -⟩
  · intro e; cases e
  · intro e
    have e2 : g = k := by simpa [Value.ownBlock] using e
    subst e2
    rw [hg] at hk
    simp at hk

set_option maxHeartbeats 1000000 in
theorem refUint_small (base : Nat) (v : Value) (bs : List UInt8) (n : Nat) (hn : n < 128) (w : World) (hv : Own base w v bs) (hb : base ≤ w.heap.size) (hl : bs.length + 1 ≤ 140737488355328) :
    Calls Try.prog 85 #[v, .int .u64 n] w fun e w' => ∃ v', e = .returned v' ∧ Own base w' v' (bs ++ uvarint n) ∧ w.grownBy w' v.ownBlock := by
  have HV := Lib.hid hv
  clear hv
  go_enter Try.func85, Try.ntmps85
  go_wp2
  go_loopw [0, 1] (fun vb vx wr => vb = v ∧ vx = .int .u64 n ∧ wr = w) (fun _ _ _ => 0)
  case atStart => exact ⟨rfl, rfl, rfl⟩
  case round =>
    obtain ⟨rfl, rfl, rfl⟩ := hrel
    have d1 : decide ((128 : Int) ≤ (n : Int)) = false := by simp; omega
    have d2 : decide (128 ≤ n) = false := by simp; omega
    obtain ⟨bt, hbt⟩ : ∃ bt : UInt8, bt = n.toUInt8 := ⟨_, rfl⟩
    have hnt : (bt.toNat : Int) = (n : Int) := by rw [hbt]; simp; omega
    have HSM : Hid (uvarint n = [bt]) := by show _ = _; rw [hbt]; exact Go.Lib.uvarint_small (by omega)
    have HNT := Lib.hid hnt
    have hy256 : (n : Int) % 256 = (n : Int) := by omega
    clear hbt hnt
    go_wp2_with (at_builtin; go_must (refine wpList_append_one rfl _ _ rfl _ base _ bs rfl (.inl ⟨HV.out.alloc _, rfl⟩) ⟨wr.heap.size, 0, none⟩ bt rfl ?c1 hl ?c2 ?_))
    case c1 => rw [HNT.out]; go_simp
    case c2 => simp; omega
    intro v1 w1 ho1 hb1
    have HO1 := Lib.hid ho1
    have HB1 := Lib.hid (by_trans (World.grownBy_alloc _ _ _) hb1)
    clear ho1 hb1
    go_wp2
    go_ret
    exact ⟨v1, rfl, by rw [HSM.out]; exact HO1.out, HB1.out⟩
theorem drew_none (w : World) (r : Option Nat) : w.grownBy w.drew r := ⟨rfl, rfl, rfl, Nat.le_refl _, fun _ _ _ => rfl⟩
theorem box_heap {w w1 : World} {x y z c : Value} {T T' : TypeId} {r : Option Nat} (h : ((w.alloc (.cells #[x, y, z] T)).alloc (.cells #[c] T')).grownBy w1 r) (hr : ∀ k, r = some k → k < w.heap.size) :
    w1.heap[w.heap.size]? = some (.cells #[x, y, z] T (0, 0)) := by
  have hne : some w.heap.size ≠ r := fun e => by have := hr _ e.symm; omega
  rw [h.block w.heap.size (by simp; omega) hne]
  have e1 : ((w.alloc (.cells #[x, y, z] T)).alloc (.cells #[c] T')).heap[w.heap.size]? = (w.alloc (.cells #[x, y, z] T)).heap[w.heap.size]? :=
    ((Below.refl _ _).alloc (Nat.le_refl _) _).block _ (by simp)
  rw [e1]
  exact heap_alloc_new _ _
set_option maxHeartbeats 1000000 in
set_option maxRecDepth 100000 in
theorem refValue_5 (base : Nat) (v : Value) (bs : List UInt8) (n : Int) (t : ByteArray) (ht : t.size ≤ 64) (w : World) (hv : Wide base w v bs) (hb : base ≤ w.heap.size) (hl : bs.length + 100 ≤ 140737488355328) :
    Calls Try.prog 82 #[v, .agg #[.int .i64 5, .int .i64 n, .string t]] w (AppPost base (bs ++ encV ⟨5, n, t⟩) w) := by
  have mx := mixed
  obtain ⟨r, hr⟩ := hv.r
  have HV := Lib.hid hr
  have HT := Lib.hid ht
  have hl1 : bs.length + 1 ≤ 140737488355328 := by omega
  rw [encV_5]
  clear hv hr ht
  go_enter Try.func82, Try.ntmps82
  go_wp2_with (at_builtin; go_must (refine wpList_append_one rfl _ _ rfl r base _ bs rfl ((HV.out.alloc _).alloc _) ⟨w.heap.size + 1, 0, none⟩ 5 rfl ?c1 hl1 ?c2 ?_))
  case c1 => go_simp
  case c2 => simp; omega
  intro v1 w1 ho1 hb1
  obtain ⟨c0, c1, c2, c3⟩ := box_by hb1 (fun k hk => (HV.out.lt k hk).2)
  have hbx := box_heap hb1 (fun k hk => (HV.out.lt k hk).2)
  have HB1 := Lib.hid (below_two hb hb1 (fun k hk => (HV.out.lt k hk).1))
  have hne1 := own_ne_box ho1 hbx
  have HO1 := Lib.hid ho1
  have HBX := Lib.hid hbx
  have hls : (bs ++ [5]).length + 1 ≤ 140737488355328 := by simp; omega
  have htn : t.size < 128 := by have := HT.out; omega
  have hwr : IntKind.u64.wrap (t.size : Int) = (t.size : Int) := by rw [IntKind.wrap_u64]; omega
  have hc := fun (w' : World) (h : Own base w' v1 (bs ++ [5])) (hb : base ≤ w'.heap.size) => refUint_small base v1 (bs ++ [5]) t.size htn w' h hb hls
  rw [← hwr] at hc
  have HC := Lib.hid hc
  have hlim : (bs ++ [5] ++ uvarint t.size).length + t.size ≤ 140737488355328 := by
    have h64 := HT.out
    have := Go.Lib.uvarint_length64 (x := t.size) (by omega)
    simp only [List.length_append, List.length_cons, List.length_nil]; omega
  have HLIM := Lib.hid hlim
  clear hb1 ho1 hbx hls htn hl hl1 hwr hc hlim
  have htl : t.size ≤ 64 := HT.out
  go_wp2_with fail
  go_region_held3 (fun w' => w'.cell? ⟨w.heap.size, 2, none⟩ = some (.string t)) (go_keep)
    (first
      | (go_at_call 85; refine (HC.out w1.drew HO1.out.drew (Nat.le_trans hb HB1.out.size)).mono ?_; rintro e w2 ⟨v2, rfl, ho2, hb2⟩; have hb2' : w1.grownBy w2 v1.ownBlock := by_trans (drew_none _ _) hb2; have p2 : w2.cell? ⟨w.heap.size, 2, none⟩ = some (.string t) := hb2'.cell c3 hne1; have lw2 : w.heap.size < w2.heap.size := Nat.lt_of_lt_of_le c0 hb2'.size; have hne2 := own_ne_box ho2 ((hb2'.block _ c0 hne1).trans HBX.out); have HO2 := Lib.hid ho2; have HB2 := Lib.hid hb2'; clear ho2 hb2 hb2')
      | (refine step_append_text rfl _ _ rfl base v2 (bs ++ [5] ++ uvarint t.size) rfl HO2.out t rfl HLIM.out (Nat.le_trans hb (Nat.le_trans HB1.out.size HB2.out.size)) ?_; intro v3 w3 ho3 hb3; have hb3' : w2.grownBy w3 v2.ownBlock := hb3; have p3 : w3.cell? ⟨w.heap.size, 2, none⟩ = some (.string t) := hb3'.cell p2 hne2; have lw3 : w.heap.size < w3.heap.size := Nat.lt_of_lt_of_le lw2 hb3'.size; have HO3 := Lib.hid ho3; have HB3 := Lib.hid hb3'; clear ho3 hb3 hb3'))
  go_wp2
  go_ret
  exact ⟨v3, rfl, by unfold encT; have := HO3.out; simpa using this, (HB1.out.grown HB2.out (Nat.le_trans hb HB1.out.size) (fun k hk => (HO1.out.lt k hk).1)).grown HB3.out (Nat.le_trans hb (Nat.le_trans HB1.out.size HB2.out.size)) (fun k hk => (HO2.out.lt k hk).1)⟩
theorem refValue_calls (base : Nat) (v : Value) (bs : List UInt8) (x : V) (hx : validB x = true) (hn : isI64 x.n) (w : World) (hv : Wide base w v bs) (hb : base ≤ w.heap.size) (hl : bs.length + 100 ≤ 140737488355328) :
    Calls Try.prog 82 #[v, x.val] w (AppPost base (bs ++ encV x) w) := by
  have hc := valid_cases hx
  obtain ⟨k, n, t⟩ := x
  simp only at hc hn
  rcases hc with (rfl | rfl) | ⟨rfl, rfl | rfl⟩ | rfl | ⟨rfl, ht⟩
  · exact refValue_1 base v bs n t w hv hb hl
  · exact refValue_2 base v bs n t w hv hb hl
  · exact refValue_30 base v bs t w hv hb hl
  · exact refValue_31 base v bs t w hv hb hl
  · exact refValue_4 base v bs n t hn w hv hb hl
  · exact refValue_5 base v bs n t ht w hv hb hl
end Go.Proofs.Ytllakifmflploaa
