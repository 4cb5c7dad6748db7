/- The contract of codec.Value. -/
import Derived.Test.YtekmllanhppiaaaCk
set_option linter.unusedSimpArgs false
set_option linter.unusedVariables false
namespace Go.Proofs.Ytekmllanhppiaaa
open Go.RowKit
open Go.Lib (byteCells uvarint zigzag)

theorem Laid.alloc {w : World} {a : Option Addr} {bs : List UInt8} (h : Laid w a bs) (o : Obj) : Laid (w.alloc o) a bs := (h.lt o).imp id fun ⟨g, off, h1, h2, _, h4⟩ => ⟨g, off, h1, h2, h4⟩
/-- The result's variable and the error's, behind what the decoder did. -/
structure TwoVars (w w2 : World) (x y z u : Value) : Prop where
  r0 : w2.cell? ⟨w.heap.size, 0, none⟩ = some x
  r1 : w2.cell? ⟨w.heap.size, 1, none⟩ = some y
  r2 : w2.cell? ⟨w.heap.size, 2, none⟩ = some z
  f0 : w2.frozen? ⟨w.heap.size, 0, none⟩ = false
  f1 : w2.frozen? ⟨w.heap.size, 1, none⟩ = false
  f2 : w2.frozen? ⟨w.heap.size, 2, none⟩ = false
  e0 : w2.cell? ⟨w.heap.size + 1, 0, none⟩ = some u
  e1 : w2.frozen? ⟨w.heap.size + 1, 0, none⟩ = false
  s0 : w.heap.size < w2.heap.size
  s1 : w.heap.size + 1 < w2.heap.size
  below : Below w.heap.size w w2
theorem two_vars {w w1 w2 : World} {x y z u : Value} {T T' : TypeId} {d : Nat} (h1 : ((w.alloc (.cells #[x, y, z] T)).alloc (.cells #[u] T')).grownBy w1 none) (h2 : w1.grownBy w2 (some d)) (hd : w.heap.size + 2 ≤ d) : TwoVars w w2 x y z u := by
  have s1 := h1.size
  have s2 := h2.size
  simp at s1
  have hg := by_trans (by_some h1 (some d)) h2
  have n0 : some w.heap.size ≠ some d := by simp; omega
  have n1 : some (w.heap.size + 1) ≠ some d := by simp; omega
  have b0 := hg.block w.heap.size (by simp; omega) n0
  have b1 := hg.block (w.heap.size + 1) (by simp) n1
  have fr : ∀ n o, w2.heap[n]? = ((w.alloc (.cells #[x, y, z] T)).alloc (.cells #[u] T')).heap[n]? → w2.frozen? ⟨n, o, none⟩ = ((w.alloc (.cells #[x, y, z] T)).alloc (.cells #[u] T')).frozen? ⟨n, o, none⟩ := fun n o hb => World.frozen?_of_block (a := ⟨n, o, none⟩) hb
  have ce : ∀ n o, w2.heap[n]? = ((w.alloc (.cells #[x, y, z] T)).alloc (.cells #[u] T')).heap[n]? → w2.cell? ⟨n, o, none⟩ = ((w.alloc (.cells #[x, y, z] T)).alloc (.cells #[u] T')).cell? ⟨n, o, none⟩ := fun n o hb => World.cell?_of_block (a := ⟨n, o, none⟩) hb
  exact ⟨by rw [ce _ _ b0]; go_simp, by rw [ce _ _ b0]; go_simp, by rw [ce _ _ b0]; go_simp, by rw [fr _ _ b0]; go_simp, by rw [fr _ _ b0]; go_simp, by rw [fr _ _ b0]; go_simp,
    by rw [ce _ _ b1]; go_simp, by rw [fr _ _ b1]; go_simp, by omega, by omega,
    ((((Below.refl _ _).alloc (Nat.le_refl _) _).alloc (by simp) _).grown h1 (by simp; omega) (fun k hk => by cases hk)).grown h2 (by omega) (fun k hk => by cases hk; omega)⟩

set_option maxHeartbeats 1000000 in
set_option maxRecDepth 100000 in
theorem Value_bad (a : Option Addr) (cap N : Nat) (p : Int) (w : World) (h : p < 0 ∨ (N : Int) < p) : Calls Try.prog 46 #[.slice a N cap, .int .i64 p] w (RetPost (.tuple #[V.val ⟨0, 0, ⟨#[]⟩⟩, .int .i64 0, .int .i64 1]) w) := by
  have hmf : ∀ (fn : Fn) (first cap : Array Value) (w : World), (Instr.makeFunc fn first cap).run Try.prog w = .ok (.func fn first cap) w := fun _ _ _ _ => rfl
  go_enter_defers Try.func46, Try.ntmps46
  go_wp2_with fail
  refine (begin_no a cap N p _ h).mono ?_
  rintro e w1 ⟨rfl, rfl⟩
  go_wp2
  refine leaves_cons (f := 81) (args := #[.pointer (some ⟨w.heap.size + 1, 0, none⟩)]) (by simp) (by simp [go_sem]) ?_
  refine (Value_stops ⟨w.heap.size + 1, 0, none⟩ (.int .i64 0) 1 _ ?_ ?_).mono ?_
  · go_simp
  · go_simp
  rintro e u' w'' ⟨rfl, rfl, rfl⟩
  simp [Leaves, settle, results, Try.results46, go_sem]
  exact ret_post rfl (((Below.refl _ _).alloc (Nat.le_refl _) _).alloc (by simp) _)
set_option maxHeartbeats 1000000 in
set_option maxRecDepth 100000 in
theorem Value_err (a : Option Addr) (cap : Nat) (bs : List UInt8) (p : Nat) (w : World) (h : Laid w a bs) (hp : p ≤ bs.length) (hf : bs.length ≤ 1099511627776) (hr : bs.length ≤ cap) (hm : cap ≤ maxLen) (hn : a = none → cap = 0) (c : Int) (hc : rdV (bs.drop p) = .error c) :
    Calls Try.prog 46 #[.slice a bs.length cap, .int .i64 p] w (RetPost (.tuple #[V.val ⟨0, 0, ⟨#[]⟩⟩, .int .i64 0, .int .i64 c]) w) := by
  have hmf : ∀ (fn : Fn) (first cap : Array Value) (w : World), (Instr.makeFunc fn first cap).run Try.prog w = .ok (.func fn first cap) w := fun _ _ _ _ => rfl
  have HBG := Lib.hid (begin_ok a cap bs p _ ((h.alloc zeroB).alloc (.cells #[.int .i64 0] 44)) hp hf hr hm hn)
  have HC := Lib.hid hc
  generalize hN : bs.length = N at HBG ⊢
  clear h hp hf hr hn hN hc
  go_enter_defers Try.func46, Try.ntmps46
  go_wp2_with fail
  refine HBG.out.mono ?_
  rintro e w1 ⟨d, rfl, hds, hd1, hb1⟩
  have HDS : Hid (w.heap.size + 2 ≤ d) := by show _ ≤ _; simp at hds; omega
  have hu := value_reads _ a cap bs p w1 hd1
  rw [HC.out] at hu
  have HU := Lib.hid hu
  have HB1 := Lib.hid hb1
  clear hu hd1 hb1 hds HBG
  go_wp2_with fail
  refine HU.out.mono ?_
  rintro e w2 ⟨rfl, hb2⟩
  have htv := two_vars HB1.out hb2 HDS.out
  have HTV := Lib.hid htv
  obtain ⟨r0, r1, r2, f0, f1, f2, e0, e1, s0, s1, -⟩ := htv
  clear hb2
  go_wp2
  refine leaves_cons (f := 81) (args := #[.pointer (some ⟨w.heap.size + 1, 0, none⟩)]) (by simp) (by simp [go_sem]) ?_
  refine (Value_stops ⟨w.heap.size + 1, 0, none⟩ (.int .i64 0) c _ e0 e1).mono ?_
  rintro e u' w'' ⟨rfl, rfl, rfl⟩
  simp [Leaves, settle, results, Try.results46, go_sem, r0, r1, r2, e0, e1, s0, s1]
  exact ret_post rfl (HTV.out.below.setCell (Nat.le_succ _) _)
set_option maxHeartbeats 2000000 in
set_option maxRecDepth 100000 in
theorem Value_good (a : Option Addr) (cap : Nat) (bs : List UInt8) (p : Nat) (w : World) (h : Laid w a bs) (hp : p ≤ bs.length) (hf : bs.length ≤ 1099511627776) (hr : bs.length ≤ cap) (hm : cap ≤ maxLen) (hn : a = none → cap = 0) (x : V) (k q : Nat) (hq : q = p + k) (hc : rdV (bs.drop p) = .ok (x, k)) :
    Calls Try.prog 46 #[.slice a bs.length cap, .int .i64 p] w (RetPost (.tuple #[x.val, .int .i64 (q : Int), .int .i64 0]) w) := by
  have HQ := Lib.hid hq
  have hmf : ∀ (fn : Fn) (first cap : Array Value) (w : World), (Instr.makeFunc fn first cap).run Try.prog w = .ok (.func fn first cap) w := fun _ _ _ _ => rfl
  have HBG := Lib.hid (begin_ok a cap bs p _ ((h.alloc zeroB).alloc (.cells #[.int .i64 0] 44)) hp hf hr hm hn)
  have HC := Lib.hid hc
  generalize hN : bs.length = N at HBG ⊢
  clear h hp hf hr hn hN hc hq
  obtain ⟨xk, xn, xt⟩ := x
  go_enter_defers Try.func46, Try.ntmps46
  go_wp2_with fail
  refine HBG.out.mono ?_
  rintro e w1 ⟨d, rfl, hds, hd1, hb1⟩
  have HDS : Hid (w.heap.size + 2 ≤ d) := by show _ ≤ _; simp at hds; omega
  have hu := value_reads _ a cap bs p w1 hd1
  rw [HC.out] at hu
  have HU := Lib.hid hu
  have HB1 := Lib.hid hb1
  clear hu hd1 hb1 hds HBG
  go_wp2_with fail
  refine HU.out.mono ?_
  rintro e w2 ⟨rfl, hd2, hb2⟩
  have htv := two_vars HB1.out hb2 HDS.out
  have HTV := Lib.hid htv
  obtain ⟨r0, r1, r2, f0, f1, f2, e0, e1, s0, s1, -⟩ := htv
  have k1 := hd2.c1
  have kl := hd2.lt
  have hdn : ¬ d = w.heap.size := by have := HDS.out; omega
  have hdn2 : ¬ w.heap.size = d := fun e => hdn e.symm
  have hdn3 : ¬ d = w.heap.size + 1 := by have := HDS.out; omega
  have hdn4 : ¬ w.heap.size + 1 = d := fun e => hdn3 e.symm
  rw [← HQ.out] at k1
  clear hb2 hd2 HU
  go_wp2
  obtain ⟨W, hW⟩ : ∃ W, W = (((w2.setCell ⟨w.heap.size, 0, none⟩ (.int .i64 xk)).setCell ⟨w.heap.size, 1, none⟩ (.int .i64 xn)).setCell ⟨w.heap.size, 2, none⟩ (.string xt)) := ⟨_, rfl⟩
  rw [← hW]
  have R0 : W.cell? ⟨w.heap.size, 0, none⟩ = some (.int .i64 xk) := by rw [hW]; go_simp
  have R1 : W.cell? ⟨w.heap.size, 1, none⟩ = some (.int .i64 xn) := by rw [hW]; go_simp
  have R2 : W.cell? ⟨w.heap.size, 2, none⟩ = some (.string xt) := by rw [hW]; go_simp
  have F0 : W.frozen? ⟨w.heap.size, 0, none⟩ = false := by rw [hW]; go_simp
  have F1 : W.frozen? ⟨w.heap.size, 1, none⟩ = false := by rw [hW]; go_simp
  have F2 : W.frozen? ⟨w.heap.size, 2, none⟩ = false := by rw [hW]; go_simp
  have E0 : W.cell? ⟨w.heap.size + 1, 0, none⟩ = some (.int .i64 0) := by rw [hW]; go_simp
  have E1 : W.frozen? ⟨w.heap.size + 1, 0, none⟩ = false := by rw [hW]; go_simp
  have K1 : W.cell? ⟨d, 1, none⟩ = some (.int .i64 q) := by rw [hW]; go_simp
  have S0 : w.heap.size < W.heap.size := by rw [hW]; simpa [World.setCell] using s0
  have S1 : w.heap.size + 1 < W.heap.size := by rw [hW]; simpa [World.setCell] using s1
  have SK : d < W.heap.size := by rw [hW]; simpa [World.setCell] using kl
  have HB : Hid (Below w.heap.size w W) := by show Below _ _ _; rw [hW]; exact ((HTV.out.below.setCell (Nat.le_refl _) _).setCell (Nat.le_refl _) _).setCell (Nat.le_refl _) _
  clear hW r0 r1 r2 f0 f1 f2 e0 e1 s0 s1 k1 kl HTV
  go_region
  all_goals
    go_wp2
    obtain ⟨W2, hW2⟩ : ∃ W2, W2 = ((((W.setCell ⟨w.heap.size, 0, none⟩ (.int .i64 xk)).setCell ⟨w.heap.size, 1, none⟩ (.int .i64 xn)).setCell ⟨w.heap.size, 2, none⟩ (.string xt)).setCell ⟨w.heap.size + 1, 0, none⟩ (.int .i64 0)).drew := ⟨_, rfl⟩
    rw [← hW2]
    have R0' : W2.cell? ⟨w.heap.size, 0, none⟩ = some (.int .i64 xk) := by rw [hW2]; go_simp
    have R1' : W2.cell? ⟨w.heap.size, 1, none⟩ = some (.int .i64 xn) := by rw [hW2]; go_simp
    have R2' : W2.cell? ⟨w.heap.size, 2, none⟩ = some (.string xt) := by rw [hW2]; go_simp
    have E0' : W2.cell? ⟨w.heap.size + 1, 0, none⟩ = some (.int .i64 0) := by
      have h1 : (((W.setCell ⟨w.heap.size, 0, none⟩ (.int .i64 xk)).setCell ⟨w.heap.size, 1, none⟩ (.int .i64 xn)).setCell ⟨w.heap.size, 2, none⟩ (.string xt)).cell? ⟨w.heap.size + 1, 0, none⟩ = some (.int .i64 0) := by go_simp
      rw [hW2]
      exact World.cell?_setCell_same _ _ _ h1
    have E1' : W2.frozen? ⟨w.heap.size + 1, 0, none⟩ = false := by rw [hW2]; go_simp
    have S0' : w.heap.size < W2.heap.size := by rw [hW2]; simpa [World.setCell] using S0
    have HB2 : Hid (Below w.heap.size w W2) := by
      show Below _ _ _
      rw [hW2]
      exact ((((HB.out.setCell (Nat.le_refl _) _).setCell (Nat.le_refl _) _).setCell (Nat.le_refl _) _).setCell (Nat.le_succ _) _).drew
    have S1' : w.heap.size + 1 < W2.heap.size := by rw [hW2]; simpa [World.setCell] using S1
    clear hW2 R0 R1 R2 F0 F1 F2 E0 E1 K1 S0 S1 SK HB
    refine leaves_cons (f := 81) (args := #[.pointer (some ⟨w.heap.size + 1, 0, none⟩)]) (by simp) (by simp [go_sem]) ?_
    refine (Value_idle ⟨w.heap.size + 1, 0, none⟩ (.int .i64 0) _ E0' E1').mono ?_
    rintro e u' w'' ⟨rfl, rfl, rfl⟩
    simp [Leaves, settle, results, Try.results46, go_sem, R0', R1', R2', E0', E1', S0', S1']
    exact ret_post rfl (HB2.out.setCell (Nat.le_succ _) _)
theorem Value_calls (v : Value) (bs : List UInt8) (p : Int) (w : World) (h : BytesAt w v bs) (hf : bs.length ≤ 1099511627776) :
    Calls Try.prog 46 #[v, .int .i64 p] w (RetPost (triple V.val (readAt rdV ⟨0, 0, ⟨#[]⟩⟩ bs p)) w) := by
  obtain ⟨a, cap, rfl, hr, hm, hn, hl⟩ := bytes_value h
  by_cases hp : p < 0 ∨ (bs.length : Int) < p
  · rw [readAt_out hp]; exact Value_bad a cap bs.length p w hp
  · obtain ⟨q, rfl⟩ : ∃ q : Nat, p = q := ⟨p.toNat, by omega⟩
    have hq : q ≤ bs.length := by omega
    rw [readAt_in hq]
    rcases hc : rdV (bs.drop q) with c | ⟨x, k⟩
    · exact Value_err a cap bs q w hl hq hf hr hm hn c hc
    · exact Value_good a cap bs q w hl hq hf hr hm hn x k _ rfl hc
end Go.Proofs.Ytekmllanhppiaaa
