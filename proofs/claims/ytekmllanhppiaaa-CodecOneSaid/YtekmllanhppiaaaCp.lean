/- The contract of codec's decoder: value. -/
import Derived.Test.YtekmllanhppiaaaCe
set_option linter.unusedSimpArgs false
set_option linter.unusedVariables false
namespace Go.Proofs.Ytekmllanhppiaaa
open Go.RowKit
open Go.Lib (byteCells uvarint zigzag)

theorem Dec.stored {w0 w : World} {d : Nat} {a : Option Addr} {cap : Nat} {bs : List UInt8} {p q : Nat} (h0 : Dec w0 d a cap bs p) (h : Dec w d a cap bs q) {n o : Nat} (hn : w0.heap.size ≤ n) (v : Value) : Dec (w.setCell ⟨n, o, none⟩ v) d a cap bs q := by
  have hd := h0.lt
  refine ⟨by have := h.lt; simpa [World.setCell] using this, by rw [World.cell?_setCell_other _ _ _ _ (by simp <;> omega)]; exact h.c0, by rw [World.cell?_setCell_other _ _ _ _ (by simp <;> omega)]; exact h.c1, by have := h.f1; simpa using this, h.le, h.few, h.room, h.max, h.nil, ?_⟩
  rcases h.byt with hb | ⟨g, off, e, g1, g2, g3⟩
  · exact .inl hb
  · rcases h0.byt with hb | ⟨g0, off0, e0, k1, k2, k3⟩
    · exact .inl hb
    · rw [e0] at e
      simp only [Option.some.injEq, Addr.mk.injEq] at e
      obtain ⟨rfl, rfl, -⟩ := e
      exact .inr ⟨g0, off0, e0, by simpa [World.setCell] using g1, g2, fun i hi => by rw [World.cell?_setCell_other _ _ _ _ (by simp <;> omega)]; exact g3 i hi⟩
theorem rdV_of {bs : List UInt8} {p c : Nat} (h : p < bs.length) (hc : c = bs[p].toNat) : rdV (bs.drop p) =
    if c = 1 ∨ c = 2 then .ok (⟨c, 0, ⟨#[]⟩⟩, 1)
    else if c = 3 then
      match bs.drop (p + 1) with
      | [] => .error 20
      | b :: _ => if b.toNat ≤ 1 then .ok (⟨3, b.toNat, ⟨#[]⟩⟩, 2) else .error 21
    else if c = 4 then
      match rdU 0 0 (bs.drop (p + 1)) with
      | .error e => .error e
      | .ok (n, k) => .ok (⟨4, unzig n, ⟨#[]⟩⟩, 1 + k)
    else if c = 5 then
      match rdT 64 (bs.drop (p + 1)) with
      | .error e => .error e
      | .ok (t, k) => .ok (⟨5, 0, t⟩, 1 + k)
    else .error 21 := by
  rw [drop_at h, hc]; rfl
/-- The way to the switch. -/
abbrev zeroB : Obj := .cells #[.int .i64 0, .int .i64 0, .string ⟨#[]⟩] 42

theorem rdV_plain {bs : List UInt8} {p c : Nat} (h : p < bs.length) (hc : c = bs[p].toNat) (hk : c = 1 ∨ c = 2) : rdV (bs.drop p) = .ok (⟨c, 0, ⟨#[]⟩⟩, 1) := by rw [rdV_of h hc, if_pos hk]
theorem rdV_bool_end {bs : List UInt8} {p : Nat} (h : p < bs.length) (hc : 3 = bs[p].toNat) (he : p + 1 = bs.length) : rdV (bs.drop p) = .error 20 := by
  rw [rdV_of h hc, if_neg (by omega), if_pos rfl, List.drop_eq_nil_of_le (by omega)]
theorem rdV_bool {bs : List UInt8} {p b : Nat} (h : p < bs.length) (hc : 3 = bs[p].toNat) (he : p + 1 < bs.length) (hb : b = bs[p + 1].toNat) : rdV (bs.drop p) = if b ≤ 1 then .ok (⟨3, b, ⟨#[]⟩⟩, 2) else .error 21 := by
  rw [rdV_of h hc, if_neg (by omega), if_pos rfl, drop_at he, hb]
theorem rdV_int {bs : List UInt8} {p : Nat} (h : p < bs.length) (hc : 4 = bs[p].toNat) : rdV (bs.drop p) = match rdU 0 0 (bs.drop (p + 1)) with | .error e => .error e | .ok (n, k) => .ok (⟨4, unzig n, ⟨#[]⟩⟩, 1 + k) := by
  rw [rdV_of h hc, if_neg (by omega), if_neg (by omega), if_pos rfl]
theorem rdV_text {bs : List UInt8} {p : Nat} (h : p < bs.length) (hc : 5 = bs[p].toNat) : rdV (bs.drop p) = match rdT 64 (bs.drop (p + 1)) with | .error e => .error e | .ok (t, k) => .ok (⟨5, 0, t⟩, 1 + k) := by
  rw [rdV_of h hc, if_neg (by omega), if_neg (by omega), if_neg (by omega), if_pos rfl]
theorem rdV_else {bs : List UInt8} {p c : Nat} (h : p < bs.length) (hc : c = bs[p].toNat) (hk : c = 0 ∨ 6 ≤ c) : rdV (bs.drop p) = .error 21 := by
  rw [rdV_of h hc, if_neg (by omega), if_neg (by omega), if_neg (by omega), if_neg (by omega)]
theorem dec3 {w0 w : World} {d : Nat} {a : Option Addr} {cap : Nat} {bs : List UInt8} {p q : Nat} (h0 : Dec w0 d a cap bs p) (h : Dec w d a cap bs q) {n : Nat} (hn : w0.heap.size ≤ n) (x y z : Value) : Dec (((w.setCell ⟨n, 0, none⟩ x).setCell ⟨n, 1, none⟩ y).setCell ⟨n, 2, none⟩ z) d a cap bs q :=
  h0.stored (h0.stored (h0.stored h hn _) hn _) hn _
theorem by3 {w w' : World} {r : Option Nat} (h : w.grownBy w' r) {n : Nat} (hn : w.heap.size ≤ n) (x y z : Value) : w.grownBy (((w'.setCell ⟨n, 0, none⟩ x).setCell ⟨n, 1, none⟩ y).setCell ⟨n, 2, none⟩ z) r :=
  by_store_new (by_store_new (by_store_new h hn _) hn _) hn _

set_option maxHeartbeats 1000000 in
set_option maxRecDepth 100000 in
theorem value_end (d : Nat) (a : Option Addr) (cap : Nat) (bs : List UInt8) (w : World) (h : Dec w d a cap bs bs.length) :
    Calls Try.prog 82 #[.pointer (some ⟨d, 0, none⟩)] w (Reads V.val d a cap bs bs.length w (rdV (bs.drop bs.length))) := by
  have hc := octet_end d a cap bs _ (h.alloc zeroB)
  have HC := Lib.hid hc
  have hR : rdV (bs.drop bs.length) = .error 20 := by rw [List.drop_eq_nil_of_le (Nat.le_refl _)]; rfl
  generalize rdV (bs.drop bs.length) = R at hR ⊢
  have HR := Lib.hid hR
  clear hc h hR
  go_enter Try.func82, Try.ntmps82
  go_wp2_with fail
  refine HC.out.mono ?_
  rintro e w1 ⟨rfl, hb⟩
  go_wp2
  exact ⟨rfl, reads_no HR.out rfl (by_trans (World.grownBy_alloc w _ _) hb)⟩

set_option maxHeartbeats 1000000 in
set_option maxRecDepth 100000 in
theorem value_plain (d : Nat) (a : Option Addr) (cap : Nat) (bs : List UInt8) (p c : Nat) (w : World) (h : Dec w d a cap bs p) (hc : c = 1 ∨ c = 2)
    (ho : Calls Try.prog 96 #[.pointer (some ⟨d, 0, none⟩)] (w.alloc zeroB) (GotByte d a cap bs p (w.alloc zeroB) c)) (R : Except Int (V × Nat)) (hR : R = .ok (⟨c, 0, ⟨#[]⟩⟩, 1)) :
    Calls Try.prog 82 #[.pointer (some ⟨d, 0, none⟩)] w (Reads V.val d a cap bs p w R) := by
  have HR := Lib.hid hR
  have H0 := Lib.hid h
  have HO := Lib.hid ho
  have hlt := h.lt
  clear h ho hR
  rcases hc with rfl | rfl
  all_goals
    go_enter Try.func82, Try.ntmps82
    go_wp2_with fail
    refine HO.out.mono ?_
    rintro e w1 ⟨rfl, hd1, hb1⟩
    obtain ⟨q1, r0, r1, r2, f0, f1, f2⟩ := box_kept hb1 hlt
    have HD := Lib.hid hd1
    have HB := Lib.hid (by_alloc hb1)
    clear hd1 hb1
    go_wp2
    refine bodyPost_ret (v := V.val ⟨_, 0, ⟨#[]⟩⟩) (by simp [results, Try.results82, go_sem, V.val, r0, r1, r2, q1]; try rfl) rfl (reads_ok HR.out rfl ((dec3 H0.out HD.out (Nat.le_refl _) _ _ _).alloc _) (by_trans (by3 HB.out (Nat.le_refl _) _ _ _) (World.grownBy_alloc _ _ _)))

set_option maxHeartbeats 1000000 in
set_option maxRecDepth 100000 in
theorem value_else (d : Nat) (a : Option Addr) (cap : Nat) (bs : List UInt8) (p c : Nat) (w : World) (h : Dec w d a cap bs p) (hc : c = 0 ∨ 6 ≤ c) (hc2 : c < 256)
    (ho : Calls Try.prog 96 #[.pointer (some ⟨d, 0, none⟩)] (w.alloc zeroB) (GotByte d a cap bs p (w.alloc zeroB) c)) (R : Except Int (V × Nat)) (hR : R = .error 21) :
    Calls Try.prog 82 #[.pointer (some ⟨d, 0, none⟩)] w (Reads V.val d a cap bs p w R) := by
  have HR := Lib.hid hR
  have HO := Lib.hid ho
  have hlt := h.lt
  have d1 : ((c : Int) == 1) = false := by simp; omega
  have d2 : ((c : Int) == 2) = false := by simp; omega
  have d3 : ((c : Int) == 3) = false := by simp; omega
  have d4 : ((c : Int) == 4) = false := by simp; omega
  have d5 : ((c : Int) == 5) = false := by simp; omega
  clear h ho hR
  go_enter Try.func82, Try.ntmps82
  go_wp2_with fail
  refine HO.out.mono ?_
  rintro e w1 ⟨rfl, hd1, hb1⟩
  obtain ⟨q1, r0, r1, r2, f0, f1, f2⟩ := box_kept hb1 hlt
  have HB := Lib.hid (by_alloc hb1)
  clear hd1 hb1
  go_wp2
  exact ⟨rfl, reads_no HR.out rfl (by_trans HB.out (World.grownBy_alloc _ _ _))⟩

/-- Behind the kind's byte: the variable of the value, and the second call. -/
theorem two_boxes {w w1 w2 : World} {d : Nat} {o o' o'' x y z : Value} {T T' : TypeId} (hlt : d < w.heap.size) (h1 : (w.alloc (.cells #[o, o', o''] T)).grownBy w1 (some d)) (h2 : (w1.alloc (.cells #[x, y, z] T')).grownBy w2 (some d)) :
    (w1.heap.size < w2.heap.size ∧ w2.cell? ⟨w1.heap.size, 0, none⟩ = some x ∧ w2.cell? ⟨w1.heap.size, 1, none⟩ = some y ∧ w2.cell? ⟨w1.heap.size, 2, none⟩ = some z ∧ w2.frozen? ⟨w1.heap.size, 0, none⟩ = false ∧ w2.frozen? ⟨w1.heap.size, 1, none⟩ = false ∧ w2.frozen? ⟨w1.heap.size, 2, none⟩ = false) ∧
    (w.heap.size < w2.heap.size ∧ w2.cell? ⟨w.heap.size, 0, none⟩ = some o ∧ w2.cell? ⟨w.heap.size, 1, none⟩ = some o' ∧ w2.cell? ⟨w.heap.size, 2, none⟩ = some o'' ∧ w2.frozen? ⟨w.heap.size, 0, none⟩ = false ∧ w2.frozen? ⟨w.heap.size, 1, none⟩ = false ∧ w2.frozen? ⟨w.heap.size, 2, none⟩ = false) ∧
    ¬ w.heap.size = w1.heap.size ∧ ¬ w1.heap.size = w.heap.size ∧ w.heap.size ≤ w1.heap.size ∧ w.grownBy w2 (some d) := by
  have hs := h1.size
  simp at hs
  exact ⟨box_kept h2 (by omega), box_kept (by_trans (by_trans h1 (World.grownBy_alloc _ _ _)) h2) hlt, by omega, by omega, by omega, by_alloc (by_trans (by_trans h1 (World.grownBy_alloc _ _ _)) h2)⟩

set_option maxHeartbeats 2000000 in
set_option maxRecDepth 100000 in
theorem value_int (d : Nat) (a : Option Addr) (cap : Nat) (bs : List UInt8) (p : Nat) (w : World) (h : Dec w d a cap bs p)
    (ho : Calls Try.prog 96 #[.pointer (some ⟨d, 0, none⟩)] (w.alloc zeroB) (GotByte d a cap bs p (w.alloc zeroB) 4)) (R : Except Int (V × Nat)) (hR : R = match rdU 0 0 (bs.drop (p + 1)) with | .error e => .error e | .ok (n, k) => .ok (⟨4, unzig n, ⟨#[]⟩⟩, 1 + k)) :
    Calls Try.prog 82 #[.pointer (some ⟨d, 0, none⟩)] w (Reads V.val d a cap bs p w R) := by
  have H0 := Lib.hid h
  have HO := Lib.hid ho
  have hlt := h.lt
  clear h ho
  rcases hu : rdU 0 0 (bs.drop (p + 1)) with c | ⟨n, k⟩
  · rw [hu] at hR
    have HR := Lib.hid hR
    have HU := Lib.hid hu
    clear hR hu
    go_enter Try.func82, Try.ntmps82
    go_wp2_with fail
    refine HO.out.mono ?_
    rintro e w1 ⟨rfl, hd1, hb1⟩
    have HBA := Lib.hid hb1
    have hc := int_reads d a cap bs (p + 1) _ (hd1.alloc (.cells #[.int .i64 4, .int .i64 0, .string ⟨#[]⟩] 42))
    rw [HU.out] at hc
    have HC := Lib.hid hc
    clear hc
    clear hd1 hb1
    go_wp2_with fail
    refine HC.out.mono ?_
    rintro e w2 ⟨rfl, hb2⟩
    obtain ⟨⟨s1, t0, t1, t2, g0, g1, g2⟩, ⟨s0, r0, r1, r2, f0, f1, f2⟩, n1, n2, n3, hby⟩ := two_boxes hlt HBA.out hb2
    have HBY := Lib.hid hby
    have HN3 := Lib.hid n3
    clear hb2 hby n3
    go_wp2
    exact ⟨rfl, reads_no HR.out rfl HBY.out⟩
  · rw [hu] at hR
    have HR := Lib.hid hR
    have HU := Lib.hid hu
    clear hR hu
    go_enter Try.func82, Try.ntmps82
    go_wp2_with fail
    refine HO.out.mono ?_
    rintro e w1 ⟨rfl, hd1, hb1⟩
    have HBA := Lib.hid hb1
    have hc := int_reads d a cap bs (p + 1) _ (hd1.alloc (.cells #[.int .i64 4, .int .i64 0, .string ⟨#[]⟩] 42))
    rw [HU.out] at hc
    have HC := Lib.hid hc
    clear hc
    clear hd1 hb1
    go_wp2_with fail
    refine HC.out.mono ?_
    rintro e w2 ⟨rfl, hd2, hb2⟩
    obtain ⟨⟨s1, t0, t1, t2, g0, g1, g2⟩, ⟨s0, r0, r1, r2, f0, f1, f2⟩, n1, n2, n3, hby⟩ := two_boxes hlt HBA.out hb2
    have HBY := Lib.hid hby
    have HN3 := Lib.hid n3
    have HD2 := Lib.hid hd2
    clear hb2 hby n3 hd2
    go_wp2
    refine bodyPost_ret (v := V.val ⟨4, unzig n, ⟨#[]⟩⟩) (by simp [results, Try.results82, go_sem, V.val, r0, r1, r2, s0, s1, n1, n2]; try rfl) rfl (reads_ok HR.out rfl (dec3 H0.out (H0.out.stored (by have := HD2.out; rw [Nat.add_assoc] at this; exact this) HN3.out _) (Nat.le_refl _) _ _ _) (by3 (by_store_new HBY.out HN3.out _) (Nat.le_refl _) _ _ _))

set_option maxHeartbeats 2000000 in
set_option maxRecDepth 100000 in
theorem value_text (d : Nat) (a : Option Addr) (cap : Nat) (bs : List UInt8) (p : Nat) (w : World) (h : Dec w d a cap bs p)
    (ho : Calls Try.prog 96 #[.pointer (some ⟨d, 0, none⟩)] (w.alloc zeroB) (GotByte d a cap bs p (w.alloc zeroB) 5)) (R : Except Int (V × Nat)) (hR : R = match rdT 64 (bs.drop (p + 1)) with | .error e => .error e | .ok (t, k) => .ok (⟨5, 0, t⟩, 1 + k)) :
    Calls Try.prog 82 #[.pointer (some ⟨d, 0, none⟩)] w (Reads V.val d a cap bs p w R) := by
  have H0 := Lib.hid h
  have HO := Lib.hid ho
  have hlt := h.lt
  clear h ho
  rcases hu : rdT 64 (bs.drop (p + 1)) with c | ⟨t, k⟩
  · rw [hu] at hR
    have HR := Lib.hid hR
    have HU := Lib.hid hu
    clear hR hu
    go_enter Try.func82, Try.ntmps82
    go_wp2_with fail
    refine HO.out.mono ?_
    rintro e w1 ⟨rfl, hd1, hb1⟩
    have HBA := Lib.hid hb1
    have hc := text_reads d a cap bs (p + 1) 64 (by omega) _ (hd1.alloc (.cells #[.int .i64 5, .int .i64 0, .string ⟨#[]⟩] 42))
    rw [HU.out] at hc
    have HC := Lib.hid hc
    clear hc
    clear hd1 hb1
    go_wp2_with fail
    refine HC.out.mono ?_
    rintro e w2 ⟨rfl, hb2⟩
    obtain ⟨⟨s1, t0, t1, t2, g0, g1, g2⟩, ⟨s0, r0, r1, r2, f0, f1, f2⟩, n1, n2, n3, hby⟩ := two_boxes hlt HBA.out hb2
    have HBY := Lib.hid hby
    have HN3 := Lib.hid n3
    clear hb2 hby n3
    go_wp2
    exact ⟨rfl, reads_no HR.out rfl HBY.out⟩
  · rw [hu] at hR
    have HR := Lib.hid hR
    have HU := Lib.hid hu
    clear hR hu
    go_enter Try.func82, Try.ntmps82
    go_wp2_with fail
    refine HO.out.mono ?_
    rintro e w1 ⟨rfl, hd1, hb1⟩
    have HBA := Lib.hid hb1
    have hc := text_reads d a cap bs (p + 1) 64 (by omega) _ (hd1.alloc (.cells #[.int .i64 5, .int .i64 0, .string ⟨#[]⟩] 42))
    rw [HU.out] at hc
    have HC := Lib.hid hc
    clear hc
    clear hd1 hb1
    go_wp2_with fail
    refine HC.out.mono ?_
    rintro e w2 ⟨rfl, hd2, hb2⟩
    obtain ⟨⟨s1, t0, t1, t2, g0, g1, g2⟩, ⟨s0, r0, r1, r2, f0, f1, f2⟩, n1, n2, n3, hby⟩ := two_boxes hlt HBA.out hb2
    have HBY := Lib.hid hby
    have HN3 := Lib.hid n3
    have HD2 := Lib.hid hd2
    clear hb2 hby n3 hd2
    go_wp2
    refine bodyPost_ret (v := V.val ⟨5, 0, t⟩) (by simp [results, Try.results82, go_sem, V.val, r0, r1, r2, s0, s1, n1, n2]; try rfl) rfl (reads_ok HR.out rfl (dec3 H0.out (H0.out.stored (by have := HD2.out; rw [Nat.add_assoc] at this; exact this) HN3.out _) (Nat.le_refl _) _ _ _) (by3 (by_store_new HBY.out HN3.out _) (Nat.le_refl _) _ _ _))

set_option maxHeartbeats 2000000 in
set_option maxRecDepth 100000 in
theorem value_bool_end (d : Nat) (a : Option Addr) (cap : Nat) (bs : List UInt8) (p : Nat) (w : World) (h : Dec w d a cap bs p)
    (ho : Calls Try.prog 96 #[.pointer (some ⟨d, 0, none⟩)] (w.alloc zeroB) (GotByte d a cap bs p (w.alloc zeroB) 3)) (he : p + 1 = bs.length) (R : Except Int (V × Nat)) (hR : R = .error 20) :
    Calls Try.prog 82 #[.pointer (some ⟨d, 0, none⟩)] w (Reads V.val d a cap bs p w R) := by
  have H0 := Lib.hid h
  have HO := Lib.hid ho
  have hlt := h.lt
  clear h ho
  have HR := Lib.hid hR
  have HE := Lib.hid he
  clear hR he
  go_enter Try.func82, Try.ntmps82
  go_wp2_with fail
  refine HO.out.mono ?_
  rintro e w1 ⟨rfl, hd1, hb1⟩
  have HBA := Lib.hid hb1
  have hc := octet_end d a cap bs _ (by have := hd1.alloc (.cells #[.int .i64 3, .int .i64 0, .string ⟨#[]⟩] 42); rw [HE.out] at this; exact this)
  have HC := Lib.hid hc
  clear hc
  clear hd1 hb1
  go_wp2_with fail
  refine HC.out.mono ?_
  rintro e w2 ⟨rfl, hb2⟩
  obtain ⟨⟨s1, t0, t1, t2, g0, g1, g2⟩, ⟨s0, r0, r1, r2, f0, f1, f2⟩, n1, n2, n3, hby⟩ := two_boxes hlt HBA.out hb2
  have HBY := Lib.hid hby
  have HN3 := Lib.hid n3
  clear hb2 hby n3
  go_wp2
  exact ⟨rfl, reads_no HR.out rfl HBY.out⟩

set_option maxHeartbeats 2000000 in
set_option maxRecDepth 100000 in
theorem value_bool (d : Nat) (a : Option Addr) (cap : Nat) (bs : List UInt8) (p : Nat) (w : World) (h : Dec w d a cap bs p)
    (ho : Calls Try.prog 96 #[.pointer (some ⟨d, 0, none⟩)] (w.alloc zeroB) (GotByte d a cap bs p (w.alloc zeroB) 3)) (b : Nat) (hb256 : b < 256) (ho2 : ∀ w' : World, Dec w' d a cap bs (p + 1) → Calls Try.prog 96 #[.pointer (some ⟨d, 0, none⟩)] w' (GotByte d a cap bs (p + 1) w' b)) (R : Except Int (V × Nat)) (hR : R = if b ≤ 1 then .ok (⟨3, b, ⟨#[]⟩⟩, 2) else .error 21) :
    Calls Try.prog 82 #[.pointer (some ⟨d, 0, none⟩)] w (Reads V.val d a cap bs p w R) := by
  have H0 := Lib.hid h
  have HO := Lib.hid ho
  have hlt := h.lt
  clear h ho
  have HR := Lib.hid hR
  have HO2 := Lib.hid ho2
  clear hR ho2
  by_cases hb : b ≤ 1
  · have d1 : decide ((b : Int) ≤ 1) = true := by simp; omega
    have HB := Lib.hid hb
    go_enter Try.func82, Try.ntmps82
    go_wp2_with fail
    refine HO.out.mono ?_
    rintro e w1 ⟨rfl, hd1, hb1⟩
    have HBA := Lib.hid hb1
    have HC := Lib.hid (HO2.out _ (hd1.alloc (.cells #[.int .i64 3, .int .i64 0, .string ⟨#[]⟩] 42)))
    clear hd1 hb1
    go_wp2_with fail
    refine HC.out.mono ?_
    rintro e w2 ⟨rfl, hd2, hb2⟩
    obtain ⟨⟨s1, t0, t1, t2, g0, g1, g2⟩, ⟨s0, r0, r1, r2, f0, f1, f2⟩, n1, n2, n3, hby⟩ := two_boxes hlt HBA.out hb2
    have HBY := Lib.hid hby
    have HN3 := Lib.hid n3
    have HD2 := Lib.hid hd2
    clear hb2 hby n3 hd2
    go_wp2_with fail
    ((with_reducible refine (require_yes _ _).mono ?_); rintro e w3 ⟨rfl, rfl⟩)
    go_wp2
    refine bodyPost_ret (v := V.val ⟨3, b, ⟨#[]⟩⟩) (by simp [results, Try.results82, go_sem, V.val, r0, r1, r2, s0, s1, n1, n2]; try rfl) rfl (reads_ok (by rw [HR.out, if_pos HB.out]) rfl (dec3 H0.out (H0.out.stored HD2.out HN3.out _) (Nat.le_refl _) _ _ _) (by3 (by_store_new HBY.out HN3.out _) (Nat.le_refl _) _ _ _))
  · have d1 : decide ((b : Int) ≤ 1) = false := by simp; omega
    have HB := Lib.hid hb
    go_enter Try.func82, Try.ntmps82
    go_wp2_with fail
    refine HO.out.mono ?_
    rintro e w1 ⟨rfl, hd1, hb1⟩
    have HBA := Lib.hid hb1
    have HC := Lib.hid (HO2.out _ (hd1.alloc (.cells #[.int .i64 3, .int .i64 0, .string ⟨#[]⟩] 42)))
    clear hd1 hb1
    go_wp2_with fail
    refine HC.out.mono ?_
    rintro e w2 ⟨rfl, hd2, hb2⟩
    obtain ⟨⟨s1, t0, t1, t2, g0, g1, g2⟩, ⟨s0, r0, r1, r2, f0, f1, f2⟩, n1, n2, n3, hby⟩ := two_boxes hlt HBA.out hb2
    have HBY := Lib.hid hby
    have HN3 := Lib.hid n3
    clear hb2 hby n3 hd2
    go_wp2_with fail
    ((with_reducible refine (require_no _ _).mono ?_); rintro e w3 ⟨rfl, rfl⟩)
    go_wp2
    exact ⟨rfl, reads_no (by rw [HR.out, if_neg HB.out]) rfl (by_store_new HBY.out HN3.out _)⟩

theorem value_reads (d : Nat) (a : Option Addr) (cap : Nat) (bs : List UInt8) (p : Nat) (w : World) (h : Dec w d a cap bs p) :
    Calls Try.prog 82 #[.pointer (some ⟨d, 0, none⟩)] w (Reads V.val d a cap bs p w (rdV (bs.drop p))) := by
  by_cases hp : p < bs.length
  · have ho := octet_one d a cap bs p hp _ (h.alloc zeroB)
    obtain ⟨c, hc⟩ : ∃ c : Nat, c = bs[p].toNat := ⟨_, rfl⟩
    have hc256 : c < 256 := by rw [hc]; exact bs[p].toNat_lt
    rw [← hc] at ho
    have hcase : (c = 1 ∨ c = 2) ∨ (c = 0 ∨ 6 ≤ c) ∨ c = 3 ∨ c = 4 ∨ c = 5 := by omega
    rcases hcase with h1 | h1 | rfl | rfl | rfl
    · exact value_plain d a cap bs p c w h h1 ho _ (rdV_plain hp hc h1)
    · exact value_else d a cap bs p c w h h1 hc256 ho _ (rdV_else hp hc h1)
    · by_cases he : p + 1 = bs.length
      · exact value_bool_end d a cap bs p w h ho he _ (rdV_bool_end hp hc he)
      · have hp1 : p + 1 < bs.length := by omega
        exact value_bool d a cap bs p w h ho _ (bs[p + 1].toNat_lt) (fun w' hd => octet_one d a cap bs (p + 1) hp1 w' hd) _ (rdV_bool hp hc hp1 rfl)
    · exact value_int d a cap bs p w h ho _ (rdV_int hp hc)
    · exact value_text d a cap bs p w h ho _ (rdV_text hp hc)
  · have he : p = bs.length := by have := h.le; omega
    subst he
    exact value_end d a cap bs w h
end Go.Proofs.Ytekmllanhppiaaa
