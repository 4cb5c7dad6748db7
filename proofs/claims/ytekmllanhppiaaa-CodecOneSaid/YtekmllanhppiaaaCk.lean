/- The contract of codec.Row. -/
import Derived.Test.YtekmllanhppiaaaCg
import Derived.Test.YtekmllanhppiaaaCq
set_option linter.unusedSimpArgs false
set_option linter.unusedVariables false
namespace Go.Proofs.Ytekmllanhppiaaa
open Go.RowKit
open Go.Lib (byteCells uvarint zigzag)

theorem row_other {w : World} {v : Value} {r : List V} (h : RowAt w v r) {g : Nat} {cur : Array Value} {T : TypeId} (hg : w.heap[g]? = some (.cells cur T (0, 0))) (h1 : cur.size = 1) (o : Nat) (u : Value) : RowAt (w.setCell ⟨g, o, none⟩ u) v r := by
  obtain ⟨a, cap, e, hl, hat⟩ := h
  refine ⟨a, cap, e, hl, ?_⟩
  rcases hat with hn | ⟨b, off, e2, hb, hi⟩
  · exact .inl hn
  · by_cases h0 : r = []
    · exact .inl h0
    · have hne : ¬ b = g := by
        rintro rfl
        have hlen : 0 < r.length := List.length_pos_iff.2 h0
        have := (hi 0 hlen).n
        simp [World.cell?, hg] at this
        have hs := (Array.getElem?_eq_some_iff.1 this).1
        omega
      refine .inr ⟨b, off, e2, by simpa [World.setCell] using hb, fun i hi' => ?_⟩
      obtain ⟨k0, k1, k2⟩ := hi i hi'
      exact ⟨by rw [World.cell?_setCell_other _ _ _ _ (by simp [hne])]; exact k0, by rw [World.cell?_setCell_other _ _ _ _ (by simp [hne])]; exact k1, by rw [World.cell?_setCell_other _ _ _ _ (by simp [hne])]; exact k2⟩
theorem row_stored2 {w : World} {v : Value} {r : List V} (h : RowAt w v r) {g : Nat} {cur : Array Value} {T : TypeId} (hg : w.heap[g]? = some (.cells cur T (0, 0))) (h1 : cur.size = 1) (o o' : Nat) (u u' : Value) : RowAt ((w.drew.setCell ⟨g, o, none⟩ u).setCell ⟨g, o', none⟩ u') v r := by
  have hd : RowAt w.drew v r := h.later ⟨rfl, rfl, rfl, Nat.le_refl _, fun _ _ => rfl⟩
  have hgd : w.drew.heap[g]? = some (.cells cur T (0, 0)) := hg
  exact row_other (row_other hd hgd h1 o u) (store_heap hgd o u) (by simpa using h1) o' u'
theorem err_block {w w1 w2 : World} {x : Value} {T : TypeId} {d : Nat} (h1 : (w.alloc (.cells #[x] T)).grownBy w1 none) (h2 : w1.grownBy w2 (some d)) (hd : d ≠ w.heap.size) : w2.heap[w.heap.size]? = some (.cells #[x] T (0, 0)) := by
  have s1 := h1.size
  simp at s1
  have hne : some w.heap.size ≠ some d := by simp; omega
  have hb1 : w1.heap[w.heap.size]? = (w.alloc (.cells #[x] T)).heap[w.heap.size]? := h1.block _ (by simp) (by simp)
  have hb2 : w2.heap[w.heap.size]? = w1.heap[w.heap.size]? := h2.block _ (by omega) hne
  exact (hb2.trans hb1).trans (heap_alloc_new w _)
/-- What Row leaves. -/
def RowRet (r : List V × Int × Int) (w : World) (e : Ending) (w' : World) : Prop := ∃ v, e = .returned (.tuple #[v, .int .i64 r.2.1, .int .i64 r.2.2]) ∧ RowAt w' v r.1 ∧ (r.2.2 ≠ 0 → v = .slice none 0 0) ∧ Below w.heap.size w w'
theorem rowAt_nil (w : World) : RowAt w (.slice none 0 0) [] := ⟨none, 0, rfl, by simp, .inl rfl⟩

set_option maxHeartbeats 1000000 in
set_option maxRecDepth 100000 in
theorem Row_bad (a : Option Addr) (cap N : Nat) (p : Int) (w : World) (h : p < 0 ∨ (N : Int) < p) : Calls Try.prog 48 #[.slice a N cap, .int .i64 p] w (RetPost (.tuple #[.slice none 0 0, .int .i64 0, .int .i64 1]) w) := by
  have hmf : ∀ (fn : Fn) (first cap : Array Value) (w : World), (Instr.makeFunc fn first cap).run Try.prog w = .ok (.func fn first cap) w := fun _ _ _ _ => rfl
  go_enter_defers Try.func48, Try.ntmps48
  go_wp2_with fail
  refine (begin_no a cap N p _ h).mono ?_
  rintro e w1 ⟨rfl, rfl⟩
  go_wp2
  refine leaves_cons (f := 83) (args := #[.pointer (some ⟨w.heap.size, 0, none⟩)]) (by simp) (by simp [go_sem]) ?_
  refine (Row_stops ⟨w.heap.size, 0, none⟩ (.int .i64 0) 1 _ ?_ ?_).mono ?_
  · go_simp
  · go_simp
  rintro e u' w'' ⟨rfl, rfl, rfl⟩
  simp [Leaves, settle, results, Try.results48, go_sem]
  exact ret_post rfl ((Below.refl _ _).alloc (Nat.le_refl _) _)
set_option maxHeartbeats 1000000 in
set_option maxRecDepth 100000 in
theorem Row_err (a : Option Addr) (cap : Nat) (bs : List UInt8) (p : Nat) (w : World) (h : Laid w a bs) (hp : p ≤ bs.length) (hf : bs.length ≤ 1099511627776) (hr : bs.length ≤ cap) (hm : cap ≤ maxLen) (hn : a = none → cap = 0) (c : Int) (hc : rdR (bs.drop p) = .error c) :
    Calls Try.prog 48 #[.slice a bs.length cap, .int .i64 p] w (RetPost (.tuple #[.slice none 0 0, .int .i64 0, .int .i64 c]) w) := by
  have hmf : ∀ (fn : Fn) (first cap : Array Value) (w : World), (Instr.makeFunc fn first cap).run Try.prog w = .ok (.func fn first cap) w := fun _ _ _ _ => rfl
  have hl : Laid (w.alloc (.cells #[.int .i64 0] 44)) a bs := (h.lt _).imp id fun ⟨g, off, h1, h2, _, h4⟩ => ⟨g, off, h1, h2, h4⟩
  have HBG := Lib.hid (begin_ok a cap bs p _ hl hp hf hr hm hn)
  have HC := Lib.hid hc
  generalize hN : bs.length = N at HBG ⊢
  clear hl h hp hf hr hn hN hc
  go_enter_defers Try.func48, Try.ntmps48
  go_wp2_with fail
  refine HBG.out.mono ?_
  rintro e w1 ⟨d, rfl, hds, hd1, hb1⟩
  have hdn : ¬ d = w.heap.size := by simp at hds; omega
  have hdn2 : ¬ w.heap.size = d := fun e => hdn e.symm
  have HDS : Hid (w.heap.size ≤ d) := by show _ ≤ _; simp at hds; omega
  clear hds
  have hu := row_reads _ a cap bs p w1 hd1
  rw [HC.out] at hu
  have HU := Lib.hid hu
  have HB1 := Lib.hid hb1
  clear hu hd1 hb1
  go_wp2_with fail
  refine HU.out.mono ?_
  rintro e w2 ⟨rfl, hb2⟩
  obtain ⟨e1, e2, e3⟩ := err_cell HB1.out hb2 hdn
  have HB := Lib.hid (below_by HB1.out hb2 HDS.out)
  clear hb2
  go_wp2
  refine leaves_cons (f := 83) (args := #[.pointer (some ⟨w.heap.size, 0, none⟩)]) (by simp) (by simp [go_sem]) ?_
  refine (Row_stops ⟨w.heap.size, 0, none⟩ (.int .i64 0) c _ e1 e2).mono ?_
  rintro e u' w'' ⟨rfl, rfl, rfl⟩
  simp [Leaves, settle, results, Try.results48, go_sem, e1, e2, e3]
  exact ret_post rfl (HB.out.setCell (Nat.le_refl _) _)
set_option maxHeartbeats 1000000 in
set_option maxRecDepth 100000 in
theorem Row_good (a : Option Addr) (cap : Nat) (bs : List UInt8) (p : Nat) (w : World) (h : Laid w a bs) (hp : p ≤ bs.length) (hf : bs.length ≤ 1099511627776) (hr : bs.length ≤ cap) (hm : cap ≤ maxLen) (hn : a = none → cap = 0) (x : List V) (k q : Nat) (hq : q = p + k) (hc : rdR (bs.drop p) = .ok (x, k)) :
    Calls Try.prog 48 #[.slice a bs.length cap, .int .i64 p] w (RowRet (x, (q : Int), 0) w) := by
  have HQ := Lib.hid hq
  clear hq
  have hmf : ∀ (fn : Fn) (first cap : Array Value) (w : World), (Instr.makeFunc fn first cap).run Try.prog w = .ok (.func fn first cap) w := fun _ _ _ _ => rfl
  have hl : Laid (w.alloc (.cells #[.int .i64 0] 44)) a bs := (h.lt _).imp id fun ⟨g, off, h1, h2, _, h4⟩ => ⟨g, off, h1, h2, h4⟩
  have HBG := Lib.hid (begin_ok a cap bs p _ hl hp hf hr hm hn)
  have HC := Lib.hid hc
  generalize hN : bs.length = N at HBG ⊢
  clear hl h hp hf hr hn hN hc
  go_enter_defers Try.func48, Try.ntmps48
  go_wp2_with fail
  refine HBG.out.mono ?_
  rintro e w1 ⟨d, rfl, hds, hd1, hb1⟩
  have hdn : ¬ d = w.heap.size := by simp at hds; omega
  have hdn2 : ¬ w.heap.size = d := fun e => hdn e.symm
  have HDS : Hid (w.heap.size ≤ d) := by show _ ≤ _; simp at hds; omega
  clear hds
  have hu := row_reads _ a cap bs p w1 hd1
  rw [HC.out] at hu
  have HU := Lib.hid hu
  have HB1 := Lib.hid hb1
  clear hu hd1 hb1
  go_wp2_with fail
  refine HU.out.mono ?_
  rintro e w2 ⟨v2, rfl, hrow, hd2, hb2⟩
  have HBK := Lib.hid (err_block HB1.out hb2 hdn)
  have HRW := Lib.hid hrow
  obtain ⟨va, vc, rfl, -, -⟩ := hrow
  obtain ⟨e1, e2, e3⟩ := err_cell HB1.out hb2 hdn
  have k1 := hd2.c1
  have kl := hd2.lt
  have HB := Lib.hid (below_by HB1.out hb2 HDS.out)
  rw [← HQ.out] at k1
  clear hb2 hd2 HU HBG
  go_wp2
  go_region
  all_goals
    go_wp2
    refine leaves_cons (f := 83) (args := #[.pointer (some ⟨w.heap.size, 0, none⟩)]) (by simp) (by simp [go_sem]) ?_
    refine (Row_idle ⟨w.heap.size, 0, none⟩ (.int .i64 0) _ ?_ ?_).mono ?_
    · go_simp
    · go_simp
    rintro e u' w'' ⟨rfl, rfl, rfl⟩
    simp [Leaves, settle, results, Try.results48, go_sem, e1, e2, e3]
    exact ⟨_, rfl, row_stored2 HRW.out HBK.out rfl _ _ _ _, fun h => absurd rfl h, (HB.out.drew.setCell (Nat.le_refl _) _).setCell (Nat.le_refl _) _⟩


theorem Row_calls (v : Value) (bs : List UInt8) (p : Int) (w : World) (h : BytesAt w v bs) (hf : bs.length ≤ 1099511627776) :
    Calls Try.prog 48 #[v, .int .i64 p] w (RowRet (readAt rdR [] bs p) w) := by
  obtain ⟨a, cap, rfl, hr, hm, hn, hl⟩ := bytes_value h
  by_cases hp : p < 0 ∨ (bs.length : Int) < p
  · rw [readAt_out hp]
    exact (Row_bad a cap bs.length p w hp).mono fun e w' ⟨he, hb⟩ => ⟨_, he, rowAt_nil _, fun _ => rfl, hb⟩
  · obtain ⟨q, rfl⟩ : ∃ q : Nat, p = q := ⟨p.toNat, by omega⟩
    have hq : q ≤ bs.length := by omega
    rw [readAt_in hq]
    rcases hc : rdR (bs.drop q) with c | ⟨x, k⟩
    · exact (Row_err a cap bs q w hl hq hf hr hm hn c hc).mono fun e w' ⟨he, hb⟩ => ⟨_, he, rowAt_nil _, fun _ => rfl, hb⟩
    · exact Row_good a cap bs q w hl hq hf hr hm hn x k _ rfl hc
end Go.Proofs.Ytekmllanhppiaaa
