/- The contracts of codec.Uint, Int and Text. (written by gen_exported.py) -/
import Derived.Test.YtllakifmflploaaCf
set_option linter.unusedSimpArgs false
set_option linter.unusedVariables false
namespace Go.Proofs.Ytllakifmflploaa
open Go.RowKit
open Go.Lib (byteCells uvarint zigzag)

def outOf {α : Type} (z : α) (p : Nat) : Except Int (α × Nat) → α × Int × Int
  | .ok (x, k) => (x, ((p + k : Nat) : Int), 0)
  | .error c => (z, 0, c)
/-- What an exported reader returns. -/
def readAt {α : Type} (rd : List UInt8 → Except Int (α × Nat)) (z : α) (bs : List UInt8) (at_ : Int) : α × Int × Int :=
  if at_ < 0 ∨ (bs.length : Int) < at_ then (z, 0, 1) else outOf z at_.toNat (rd (bs.drop at_.toNat))
def triple {α : Type} (mk : α → Value) (r : α × Int × Int) : Value := .tuple #[mk r.1, .int .i64 r.2.1, .int .i64 r.2.2]
def RetPost (v : Value) (w : World) (e : Ending) (w' : World) : Prop := e = .returned v ∧ Below w.heap.size w w'
theorem ret_post {v u : Value} {w w' : World} (h : u = v) (hb : Below w.heap.size w w') : RetPost v w (.returned u) w' := ⟨by rw [h], hb⟩

/-- The error's variable, behind what the decoder did. -/
theorem err_cell {w w1 w2 : World} {x : Value} {T : TypeId} {d : Nat} (h1 : (w.alloc (.cells #[x] T)).grownBy w1 none) (h2 : w1.grownBy w2 (some d)) (hd : d ≠ w.heap.size) :
    w2.cell? ⟨w.heap.size, 0, none⟩ = some x ∧ w2.frozen? ⟨w.heap.size, 0, none⟩ = false ∧ w.heap.size < w2.heap.size := by
  have s1 := h1.size
  have s2 := h2.size
  simp at s1
  have hne : some w.heap.size ≠ some d := by simp; omega
  have hb1 : w1.heap[w.heap.size]? = (w.alloc (.cells #[x] T)).heap[w.heap.size]? := h1.block _ (by simp) (by simp)
  have hb2 : w2.heap[w.heap.size]? = w1.heap[w.heap.size]? := h2.block _ (by omega) hne
  have hb := hb2.trans hb1
  refine ⟨?_, ?_, by omega⟩
  · rw [World.cell?_of_block (w := w.alloc (.cells #[x] T)) (a := ⟨w.heap.size, 0, none⟩) hb]; go_simp
  · rw [World.frozen?_of_block (w := w.alloc (.cells #[x] T)) (a := ⟨w.heap.size, 0, none⟩) hb]; go_simp
theorem below_by {w w1 w2 : World} {o : Obj} {d : Nat} (h1 : (w.alloc o).grownBy w1 none) (h2 : w1.grownBy w2 (some d)) (hd : w.heap.size ≤ d) : Below w.heap.size w w2 := by
  have s1 := h1.size
  simp at s1
  exact (((Below.refl _ _).alloc (Nat.le_refl _) o).grown h1 (by simp) (fun k hk => by cases hk)).grown h2 (by omega) (fun k hk => by cases hk; exact hd)



set_option maxHeartbeats 1000000 in
set_option maxRecDepth 100000 in
theorem Uint_bad (a : Option Addr) (cap N : Nat) (p : Int) (w : World) (h : p < 0 ∨ (N : Int) < p) : Calls Try.prog 86 #[.slice a N cap, .int .i64 p] w (RetPost (.tuple #[.int .u64 0, .int .i64 0, .int .i64 1]) w) := by
  have hmf : ∀ (fn : Fn) (first cap : Array Value) (w : World), (Instr.makeFunc fn first cap).run Try.prog w = .ok (.func fn first cap) w := fun _ _ _ _ => rfl
  go_enter_defers Try.func86, Try.ntmps86
  go_wp2_with fail
  refine (begin_no a cap N p _ h).mono ?_
  rintro e w1 ⟨rfl, rfl⟩
  go_wp2
  refine leaves_cons (f := 119) (args := #[.pointer (some ⟨w.heap.size, 0, none⟩)]) (by simp) (by simp [go_sem]) ?_
  refine (Uint_stops ⟨w.heap.size, 0, none⟩ (.int .i64 0) 1 _ ?_ ?_).mono ?_
  · go_simp
  · go_simp
  rintro e u' w'' ⟨rfl, rfl, rfl⟩
  simp [Leaves, settle, results, Try.results86, go_sem]
  exact ret_post rfl ((Below.refl _ _).alloc (Nat.le_refl _) _)
set_option maxHeartbeats 1000000 in
set_option maxRecDepth 100000 in
theorem Uint_err (a : Option Addr) (cap : Nat) (bs : List UInt8) (p : Nat) (w : World) (h : Laid w a bs) (hp : p ≤ bs.length) (hf : bs.length ≤ 1099511627776) (hr : bs.length ≤ cap) (hm : cap ≤ maxLen) (hn : a = none → cap = 0) (c : Int) (hc : rdU 0 0 (bs.drop p) = .error c) :
    Calls Try.prog 86 #[.slice a bs.length cap, .int .i64 p] w (RetPost (.tuple #[.int .u64 0, .int .i64 0, .int .i64 c]) w) := by
  have hmf : ∀ (fn : Fn) (first cap : Array Value) (w : World), (Instr.makeFunc fn first cap).run Try.prog w = .ok (.func fn first cap) w := fun _ _ _ _ => rfl
  have hl : Laid (w.alloc (.cells #[.int .i64 0] 38)) a bs := (h.lt _).imp id fun ⟨g, off, h1, h2, _, h4⟩ => ⟨g, off, h1, h2, h4⟩
  have HBG := Lib.hid (begin_ok a cap bs p _ hl hp hf hr hm hn)
  have HC := Lib.hid hc
  generalize hN : bs.length = N at HBG ⊢
  clear hl h hp hf hr hn hN hc
  go_enter_defers Try.func86, Try.ntmps86
  go_wp2_with fail
  refine HBG.out.mono ?_
  rintro e w1 ⟨d, rfl, hds, hd1, hb1⟩
  have hdn : ¬ d = w.heap.size := by simp at hds; omega
  have hdn2 : ¬ w.heap.size = d := fun e => hdn e.symm
  have HDS : Hid (w.heap.size ≤ d) := by show _ ≤ _; simp at hds; omega
  clear hds
  have hu := uint_calls _ a cap bs p w1 hd1
  rw [HC.out] at hu
  have HU := Lib.hid hu
  have HB1 := Lib.hid hb1
  clear hu hd1 hb1
  go_wp2_with fail
  refine HU.out.mono ?_
  rintro e w2 ⟨rfl, hb2⟩
  obtain ⟨e1, e2, e3⟩ := err_cell HB1.out hb2 hdn
  have HB := Lib.hid (below_by HB1.out hb2 HDS.out)
  clear hb2
  go_wp2
  refine leaves_cons (f := 119) (args := #[.pointer (some ⟨w.heap.size, 0, none⟩)]) (by simp) (by simp [go_sem]) ?_
  refine (Uint_stops ⟨w.heap.size, 0, none⟩ (.int .i64 0) c _ e1 e2).mono ?_
  rintro e u' w'' ⟨rfl, rfl, rfl⟩
  simp [Leaves, settle, results, Try.results86, go_sem, e1, e2, e3]
  exact ret_post rfl (HB.out.setCell (Nat.le_refl _) _)
set_option maxHeartbeats 1000000 in
set_option maxRecDepth 100000 in
theorem Uint_good (a : Option Addr) (cap : Nat) (bs : List UInt8) (p : Nat) (w : World) (h : Laid w a bs) (hp : p ≤ bs.length) (hf : bs.length ≤ 1099511627776) (hr : bs.length ≤ cap) (hm : cap ≤ maxLen) (hn : a = none → cap = 0) (x : Nat) (k q : Nat) (hq : q = p + k) (hc : rdU 0 0 (bs.drop p) = .ok (x, k)) :
    Calls Try.prog 86 #[.slice a bs.length cap, .int .i64 p] w (RetPost (.tuple #[.int .u64 x, .int .i64 (q : Int), .int .i64 0]) w) := by
  have HQ := Lib.hid hq
  clear hq
  have hmf : ∀ (fn : Fn) (first cap : Array Value) (w : World), (Instr.makeFunc fn first cap).run Try.prog w = .ok (.func fn first cap) w := fun _ _ _ _ => rfl
  have hl : Laid (w.alloc (.cells #[.int .i64 0] 38)) a bs := (h.lt _).imp id fun ⟨g, off, h1, h2, _, h4⟩ => ⟨g, off, h1, h2, h4⟩
  have HBG := Lib.hid (begin_ok a cap bs p _ hl hp hf hr hm hn)
  have HC := Lib.hid hc
  generalize hN : bs.length = N at HBG ⊢
  clear hl h hp hf hr hn hN hc
  go_enter_defers Try.func86, Try.ntmps86
  go_wp2_with fail
  refine HBG.out.mono ?_
  rintro e w1 ⟨d, rfl, hds, hd1, hb1⟩
  have hdn : ¬ d = w.heap.size := by simp at hds; omega
  have hdn2 : ¬ w.heap.size = d := fun e => hdn e.symm
  have HDS : Hid (w.heap.size ≤ d) := by show _ ≤ _; simp at hds; omega
  clear hds
  have hu := uint_calls _ a cap bs p w1 hd1
  rw [HC.out] at hu
  have HU := Lib.hid hu
  have HB1 := Lib.hid hb1
  clear hu hd1 hb1
  go_wp2_with fail
  refine HU.out.mono ?_
  rintro e w2 ⟨rfl, hd2, hb2⟩
  obtain ⟨e1, e2, e3⟩ := err_cell HB1.out hb2 hdn
  have k1 := hd2.c1
  have kl := hd2.lt
  have HB := Lib.hid (below_by HB1.out hb2 HDS.out)
  rw [← HQ.out] at k1
  clear hb2 hd2 HU HBG
  go_wp2
  go_region
  all_goals
    go_wp2
    refine leaves_cons (f := 119) (args := #[.pointer (some ⟨w.heap.size, 0, none⟩)]) (by simp) (by simp [go_sem]) ?_
    refine (Uint_idle ⟨w.heap.size, 0, none⟩ (.int .i64 0) _ ?_ ?_).mono ?_
    · go_simp
    · go_simp
    rintro e u' w'' ⟨rfl, rfl, rfl⟩
    simp [Leaves, settle, results, Try.results86, go_sem, e1, e2, e3]
    exact ret_post rfl ((HB.out.drew.setCell (Nat.le_refl _) _).setCell (Nat.le_refl _) _)

/-! ### whatever the arguments -/
def rdI (l : List UInt8) : Except Int (Int × Nat) :=
  match rdU 0 0 l with
  | .error c => .error c
  | .ok (n, k) => .ok (unzig n, k)
theorem rdI_err {l : List UInt8} {c : Int} (h : rdU 0 0 l = .error c) : rdI l = .error c := by unfold rdI; rw [h]
theorem rdI_ok {l : List UInt8} {n k : Nat} (h : rdU 0 0 l = .ok (n, k)) : rdI l = .ok (unzig n, k) := by unfold rdI; rw [h]
def mkU (n : Nat) : Value := .int .u64 n
def mkI (n : Int) : Value := .int .i64 n
def mkT (t : ByteArray) : Value := .string t
theorem readAt_out {α : Type} {rd : List UInt8 → Except Int (α × Nat)} {z : α} {bs : List UInt8} {p : Int} (h : p < 0 ∨ (bs.length : Int) < p) : readAt rd z bs p = (z, 0, 1) := if_pos h
theorem readAt_in {α : Type} {rd : List UInt8 → Except Int (α × Nat)} {z : α} {bs : List UInt8} {p : Nat} (h : p ≤ bs.length) : readAt rd z bs (p : Int) = outOf z p (rd (bs.drop p)) := by
  unfold readAt
  rw [if_neg (by omega)]
  rfl
theorem Uint_calls (v : Value) (bs : List UInt8) (p : Int) (w : World) (h : BytesAt w v bs) (hf : bs.length ≤ 1099511627776) :
    Calls Try.prog 86 #[v, .int .i64 p] w (RetPost (triple mkU (readAt (rdU 0 0) 0 bs p)) w) := by
  obtain ⟨a, cap, rfl, hr, hm, hn, hl⟩ := bytes_value h
  by_cases hp : p < 0 ∨ (bs.length : Int) < p
  · rw [readAt_out hp]; exact Uint_bad a cap bs.length p w hp
  · obtain ⟨q, rfl⟩ : ∃ q : Nat, p = q := ⟨p.toNat, by omega⟩
    have hq : q ≤ bs.length := by omega
    rw [readAt_in hq]
    rcases hc : rdU 0 0 (bs.drop q) with c | ⟨x, k⟩
    · exact Uint_err a cap bs q w hl hq hf hr hm hn c hc
    · exact Uint_good a cap bs q w hl hq hf hr hm hn x k _ rfl hc
/-- What Text returns. -/
def textAt (most : Int) (bs : List UInt8) (p : Int) : ByteArray × Int × Int := if most < 0 then (⟨#[]⟩, 0, 1) else readAt (rdT most.toNat) ⟨#[]⟩ bs p
end Go.Proofs.Ytllakifmflploaa
