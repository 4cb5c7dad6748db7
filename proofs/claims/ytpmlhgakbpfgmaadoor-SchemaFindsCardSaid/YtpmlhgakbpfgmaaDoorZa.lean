/- Schemas in memory. -/
import Derived.Test.YtpmlhgakbpfgmaaDoorPa
set_option linter.unusedSimpArgs false
set_option linter.unusedVariables false
namespace Go.Proofs.YtpmlhgakbpfgmaaDoor
open Go.RowKit

/-- A column: its name and its kind. -/
structure Col where
  n : ByteArray
  k : Int
/-- A reference: its columns and its table. -/
structure Rfc where
  cols : List Int
  t : Int
structure Tab where
  name : ByteArray
  key : Int
  cols : List Col
  refs : List Rfc
  checks : List Pr

/-! ### columns -/
structure ColAt (w : World) (b off : Nat) (c : Col) : Prop where
  n : w.cell? ⟨b, off, none⟩ = some (.string c.n)
  k : w.cell? ⟨b, off + 1, none⟩ = some (.int .i64 c.k)
def ColsAt (S : Nat → Prop) (w : World) (v : Value) (l : List Col) : Prop :=
  ∃ (a : Option Addr) (cap : Nat), v = .slice a l.length cap ∧ l.length ≤ 17592186044416 ∧ l.length ≤ cap ∧ (l = [] ∨ ∃ b off, a = some ⟨b, off, none⟩ ∧ b < w.heap.size ∧ S b ∧ ∀ i (h : i < l.length), ColAt w b (off + i * 2) l[i])
theorem ColAt.kept {S : Nat → Prop} {w w' : World} {b off : Nat} {c : Col} (h : ColAt w b off c) (hw : Kept S w w') (hb : b < w.heap.size) (hs : S b) : ColAt w' b off c :=
  ⟨(hw.cell hb hs).trans h.n, (hw.cell hb hs).trans h.k⟩
theorem ColsAt.kept {S : Nat → Prop} {w w' : World} {v : Value} {l : List Col} (h : ColsAt S w v l) (hw : Kept S w w') : ColsAt S w' v l :=
  let ⟨a, cap, h1, h2, h2', h3⟩ := h
  ⟨a, cap, h1, h2, h2', h3.imp id fun ⟨b, off, k1, k2, k3, k4⟩ => ⟨b, off, k1, Nat.lt_of_lt_of_le k2 hw.size, k3, fun i hi => (k4 i hi).kept hw k2 k3⟩⟩
theorem ColsAt.later {S : Nat → Prop} {w w' : World} {v : Value} {l : List Col} (h : ColsAt S w v l) (hw : Below w.heap.size w w') : ColsAt S w' v l := h.kept (kept_below hw)
theorem ColsAt.mono {S S' : Nat → Prop} {w : World} {v : Value} {l : List Col} (h : ColsAt S w v l) (hs : ∀ b, b < w.heap.size → S b → S' b) : ColsAt S' w v l :=
  let ⟨a, cap, h1, h2, h2', h3⟩ := h
  ⟨a, cap, h1, h2, h2', h3.imp id fun ⟨b, off, k1, k2, k3, k4⟩ => ⟨b, off, k1, k2, hs b k2 k3, k4⟩⟩
theorem ColsAt.slice {S : Nat → Prop} {w : World} {v : Value} {l : List Col} (h : ColsAt S w v l) : ∃ a cap, v = .slice a l.length cap ∧ l.length ≤ 17592186044416 ∧ l.length ≤ cap := let ⟨a, cap, h1, h2, h3, _⟩ := h; ⟨a, cap, h1, h2, h3⟩
theorem ColsAt.get {S : Nat → Prop} {w : World} {a : Option Addr} {n cap : Nat} {l : List Col} (h : ColsAt S w (.slice a n cap) l) {i : Nat} (hi : i < l.length) :
    ∃ b off, a = some ⟨b, off, none⟩ ∧ b < w.heap.size ∧ S b ∧ ColAt w b (off + i * 2) l[i] := by
  obtain ⟨a1, cap1, hv, -, -, h3⟩ := h
  simp only [Value.slice.injEq] at hv
  obtain ⟨rfl, -, rfl⟩ := hv
  obtain ⟨b, off, rfl, k2, k3, k4⟩ := h3.resolve_left (by rintro rfl; simp at hi)
  exact ⟨b, off, rfl, k2, k3, k4 i hi⟩
theorem ColsAt.nil {S : Nat → Prop} {w : World} (a : Option Addr) (cap : Nat) : ColsAt S w (.slice a 0 cap) [] := ⟨a, cap, rfl, by simp, by simp, .inl rfl⟩
theorem ColsAt.take {S : Nat → Prop} {w : World} {a : Option Addr} {n cap : Nat} {l : List Col} (h : ColsAt S w (.slice a n cap) l) (m : Nat) (hm : m ≤ l.length) : ColsAt S w (.slice a m cap) (l.take m) := by
  obtain ⟨a1, cap1, hv, h1, h2, h3⟩ := h
  simp only [Value.slice.injEq] at hv
  obtain ⟨rfl, -, rfl⟩ := hv
  have hl : (l.take m).length = m := by rw [List.length_take]; omega
  refine ⟨a, cap, by rw [hl], by omega, by omega, ?_⟩
  rcases h3 with rfl | ⟨b, off, k1, k2, k3, k4⟩
  · left; simp
  · right; refine ⟨b, off, k1, k2, k3, fun i hi => ?_⟩
    have := k4 i (by rw [hl] at hi; omega)
    simpa using this

/-! ### references -/
def RefsAt (S : Nat → Prop) (w : World) (v : Value) (l : List Rfc) : Prop :=
  ∃ (a : Option Addr) (cap : Nat), v = .slice a l.length cap ∧ l.length ≤ 17592186044416 ∧ (l = [] ∨ ∃ b off, a = some ⟨b, off, none⟩ ∧ b < w.heap.size ∧ S b ∧
    ∀ i (h : i < l.length), ∃ (ia : Option Addr) (ic : Nat), w.cell? ⟨b, off + i * 2, none⟩ = some (.slice ia l[i].cols.length ic) ∧ w.cell? ⟨b, off + i * 2 + 1, none⟩ = some (.int .i64 l[i].t) ∧ IntsAt S w (.slice ia l[i].cols.length ic) l[i].cols)
theorem RefsAt.kept {S : Nat → Prop} {w w' : World} {v : Value} {l : List Rfc} (h : RefsAt S w v l) (hw : Kept S w w') : RefsAt S w' v l :=
  let ⟨a, cap, h1, h2, h3⟩ := h
  ⟨a, cap, h1, h2, h3.imp id fun ⟨b, off, k1, k2, k3, k4⟩ => ⟨b, off, k1, Nat.lt_of_lt_of_le k2 hw.size, k3, fun i hi => let ⟨ia, ic, c0, c1, hi'⟩ := k4 i hi; ⟨ia, ic, (hw.cell k2 k3).trans c0, (hw.cell k2 k3).trans c1, hi'.kept hw⟩⟩⟩
theorem RefsAt.later {S : Nat → Prop} {w w' : World} {v : Value} {l : List Rfc} (h : RefsAt S w v l) (hw : Below w.heap.size w w') : RefsAt S w' v l := h.kept (kept_below hw)
theorem RefsAt.mono {S S' : Nat → Prop} {w : World} {v : Value} {l : List Rfc} (h : RefsAt S w v l) (hs : ∀ b, b < w.heap.size → S b → S' b) : RefsAt S' w v l :=
  let ⟨a, cap, h1, h2, h3⟩ := h
  ⟨a, cap, h1, h2, h3.imp id fun ⟨b, off, k1, k2, k3, k4⟩ => ⟨b, off, k1, k2, hs b k2 k3, fun i hi => let ⟨ia, ic, c0, c1, hi'⟩ := k4 i hi; ⟨ia, ic, c0, c1, hi'.mono hs⟩⟩⟩
theorem RefsAt.slice {S : Nat → Prop} {w : World} {v : Value} {l : List Rfc} (h : RefsAt S w v l) : ∃ a cap, v = .slice a l.length cap ∧ l.length ≤ 17592186044416 := let ⟨a, cap, h1, h2, _⟩ := h; ⟨a, cap, h1, h2⟩
theorem RefsAt.get {S : Nat → Prop} {w : World} {a : Option Addr} {n cap : Nat} {l : List Rfc} (h : RefsAt S w (.slice a n cap) l) {i : Nat} (hi : i < l.length) :
    ∃ b off, a = some ⟨b, off, none⟩ ∧ b < w.heap.size ∧ S b ∧ ∃ (ia : Option Addr) (ic : Nat), w.cell? ⟨b, off + i * 2, none⟩ = some (.slice ia l[i].cols.length ic) ∧ w.cell? ⟨b, off + i * 2 + 1, none⟩ = some (.int .i64 l[i].t) ∧ IntsAt S w (.slice ia l[i].cols.length ic) l[i].cols := by
  obtain ⟨a1, cap1, hv, -, h3⟩ := h
  simp only [Value.slice.injEq] at hv
  obtain ⟨rfl, -, rfl⟩ := hv
  obtain ⟨b, off, rfl, k2, k3, k4⟩ := h3.resolve_left (by rintro rfl; simp at hi)
  exact ⟨b, off, rfl, k2, k3, k4 i hi⟩
theorem RefsAt.nil {S : Nat → Prop} {w : World} (a : Option Addr) (cap : Nat) : RefsAt S w (.slice a 0 cap) [] := ⟨a, cap, rfl, by simp, .inl rfl⟩

/-! ### tables -/
/-- The five cells of a table. -/
structure TabC (w : World) (b off : Nat) (t : Tab) (ca : Option Addr) (cc : Nat) (ra : Option Addr) (rn rc : Nat) (ka : Option Addr) (kn kc : Nat) : Prop where
  name : w.cell? ⟨b, off, none⟩ = some (.string t.name)
  cols : w.cell? ⟨b, off + 1, none⟩ = some (.slice ca t.cols.length cc)
  key : w.cell? ⟨b, off + 2, none⟩ = some (.int .i64 t.key)
  refs : w.cell? ⟨b, off + 3, none⟩ = some (.slice ra rn rc)
  checks : w.cell? ⟨b, off + 4, none⟩ = some (.slice ka kn kc)
/-- What its slices hold; of its references and checks, only if all is asked. -/
structure TabV (full : Bool) (k : Nat) (S : Nat → Prop) (w : World) (t : Tab) (ca : Option Addr) (cc : Nat) (ra : Option Addr) (rn rc : Nat) (ka : Option Addr) (kn kc : Nat) : Prop where
  cols : ColsAt S w (.slice ca t.cols.length cc) t.cols
  refs : full = true → RefsAt S w (.slice ra rn rc) t.refs
  checks : full = true → PrIn S w k (.slice ka kn kc) t.checks
theorem TabC.kept {S : Nat → Prop} {w w' : World} {b off : Nat} {t : Tab} {ca : Option Addr} {cc : Nat} {ra : Option Addr} {rn rc : Nat} {ka : Option Addr} {kn kc : Nat} (h : TabC w b off t ca cc ra rn rc ka kn kc) (hw : Kept S w w') (hb : b < w.heap.size) (hs : S b) : TabC w' b off t ca cc ra rn rc ka kn kc :=
  ⟨(hw.cell hb hs).trans h.name, (hw.cell hb hs).trans h.cols, (hw.cell hb hs).trans h.key, (hw.cell hb hs).trans h.refs, (hw.cell hb hs).trans h.checks⟩
theorem TabV.kept {full : Bool} {k : Nat} {S : Nat → Prop} {w w' : World} {t : Tab} {ca : Option Addr} {cc : Nat} {ra : Option Addr} {rn rc : Nat} {ka : Option Addr} {kn kc : Nat} (h : TabV full k S w t ca cc ra rn rc ka kn kc) (hw : Kept S w w') : TabV full k S w' t ca cc ra rn rc ka kn kc :=
  ⟨h.cols.kept hw, fun e => (h.refs e).kept hw, fun e => (h.checks e).kept hw⟩
theorem TabV.later {full : Bool} {k : Nat} {S : Nat → Prop} {w w' : World} {t : Tab} {ca : Option Addr} {cc : Nat} {ra : Option Addr} {rn rc : Nat} {ka : Option Addr} {kn kc : Nat} (h : TabV full k S w t ca cc ra rn rc ka kn kc) (hw : Below w.heap.size w w') : TabV full k S w' t ca cc ra rn rc ka kn kc := h.kept (kept_below hw)
theorem TabV.mono {full : Bool} {k : Nat} {S S' : Nat → Prop} {w : World} {t : Tab} {ca : Option Addr} {cc : Nat} {ra : Option Addr} {rn rc : Nat} {ka : Option Addr} {kn kc : Nat} (h : TabV full k S w t ca cc ra rn rc ka kn kc) (hs : ∀ b, b < w.heap.size → S b → S' b) : TabV full k S' w t ca cc ra rn rc ka kn kc :=
  ⟨h.cols.mono hs, fun e => (h.refs e).mono hs, fun e => (h.checks e).mono hs⟩
def TabAt (full : Bool) (k : Nat) (S : Nat → Prop) (w : World) (b off : Nat) (t : Tab) : Prop :=
  ∃ (ca : Option Addr) (cc : Nat) (ra : Option Addr) (rn rc : Nat) (ka : Option Addr) (kn kc : Nat), TabC w b off t ca cc ra rn rc ka kn kc ∧ TabV full k S w t ca cc ra rn rc ka kn kc
/-- A list of tables, in a block of T; what they hold, in blocks of S. -/
def TabsAt (full : Bool) (k : Nat) (T S : Nat → Prop) (w : World) (v : Value) (l : List Tab) : Prop :=
  ∃ (a : Option Addr) (cap : Nat), v = .slice a l.length cap ∧ l.length ≤ 17592186044416 ∧ (l = [] ∨ ∃ b off, a = some ⟨b, off, none⟩ ∧ b < w.heap.size ∧ T b ∧ ∀ i (h : i < l.length), TabAt full k S w b (off + i * 5) l[i])
theorem TabsAt.kept {full : Bool} {k : Nat} {T S : Nat → Prop} {w w' : World} {v : Value} {l : List Tab} (h : TabsAt full k T S w v l) (hw : Kept (fun g => T g ∨ S g) w w') : TabsAt full k T S w' v l :=
  let ⟨a, cap, h1, h2, h3⟩ := h
  ⟨a, cap, h1, h2, h3.imp id fun ⟨b, off, k1, k2, k3, k4⟩ => ⟨b, off, k1, Nat.lt_of_lt_of_le k2 hw.size, k3, fun i hi => let ⟨ca, cc, ra, rn, rc, ka, kn, kc, c, v⟩ := k4 i hi; ⟨ca, cc, ra, rn, rc, ka, kn, kc, c.kept hw k2 (.inl k3), v.kept (hw.mono fun _ _ h => .inr h)⟩⟩⟩
theorem TabsAt.later {full : Bool} {k : Nat} {T S : Nat → Prop} {w w' : World} {v : Value} {l : List Tab} (h : TabsAt full k T S w v l) (hw : Below w.heap.size w w') : TabsAt full k T S w' v l := h.kept (kept_below hw)
theorem TabsAt.mono {full : Bool} {k : Nat} {T T' S S' : Nat → Prop} {w : World} {v : Value} {l : List Tab} (h : TabsAt full k T S w v l) (ht : ∀ b, b < w.heap.size → T b → T' b) (hs : ∀ b, b < w.heap.size → S b → S' b) : TabsAt full k T' S' w v l :=
  let ⟨a, cap, h1, h2, h3⟩ := h
  ⟨a, cap, h1, h2, h3.imp id fun ⟨b, off, k1, k2, k3, k4⟩ => ⟨b, off, k1, k2, ht b k2 k3, fun i hi => let ⟨ca, cc, ra, rn, rc, ka, kn, kc, c, v⟩ := k4 i hi; ⟨ca, cc, ra, rn, rc, ka, kn, kc, c, v.mono hs⟩⟩⟩
theorem TabsAt.part {full : Bool} {k : Nat} {T S : Nat → Prop} {w : World} {v : Value} {l : List Tab} (h : TabsAt full k T S w v l) : TabsAt false k T S w v l :=
  let ⟨a, cap, h1, h2, h3⟩ := h
  ⟨a, cap, h1, h2, h3.imp id fun ⟨b, off, k1, k2, k3, k4⟩ => ⟨b, off, k1, k2, k3, fun i hi => let ⟨ca, cc, ra, rn, rc, ka, kn, kc, c, v⟩ := k4 i hi; ⟨ca, cc, ra, rn, rc, ka, kn, kc, c, v.cols, (fun e => by cases e), (fun e => by cases e)⟩⟩⟩
theorem TabsAt.slice {full : Bool} {k : Nat} {T S : Nat → Prop} {w : World} {v : Value} {l : List Tab} (h : TabsAt full k T S w v l) : ∃ a cap, v = .slice a l.length cap ∧ l.length ≤ 17592186044416 := let ⟨a, cap, h1, h2, _⟩ := h; ⟨a, cap, h1, h2⟩
theorem TabsAt.get {full : Bool} {k : Nat} {T S : Nat → Prop} {w : World} {a : Option Addr} {n cap : Nat} {l : List Tab} (h : TabsAt full k T S w (.slice a n cap) l) {i : Nat} (hi : i < l.length) :
    ∃ b off, a = some ⟨b, off, none⟩ ∧ b < w.heap.size ∧ T b ∧ TabAt full k S w b (off + i * 5) l[i] := by
  obtain ⟨a1, cap1, hv, -, h3⟩ := h
  simp only [Value.slice.injEq] at hv
  obtain ⟨rfl, -, rfl⟩ := hv
  obtain ⟨b, off, rfl, k2, k3, k4⟩ := h3.resolve_left (by rintro rfl; simp at hi)
  exact ⟨b, off, rfl, k2, k3, k4 i hi⟩

/-! ### what the lookups answer -/
def kindsT (t : Tab) : List Int := t.cols.map Col.k
def inTabs (ts : List Tab) (i : Int) : Bool := decide (0 ≤ i) && decide (i < ts.length)
/-- Some table, where there is none. -/
def noTab : Tab := ⟨⟨#[]⟩, 0, [], [], []⟩
def tabOf (ts : List Tab) (i : Int) : Tab := if inTabs ts i = true then ts.getD i.toNat noTab else noTab
def kindsS (ts : List Tab) (i : Int) : List Int := kindsT (tabOf ts i)
def keyOf (k : Int) (n : Nat) : Nat := min k.toNat n
def keyKindsS (ts : List Tab) (i : Int) : List Int := (kindsS ts i).take (keyOf (tabOf ts i).key (tabOf ts i).cols.length)
theorem inTabs_nat {ts : List Tab} {i : Int} (h : inTabs ts i = true) : ∃ n : Nat, i = n ∧ n < ts.length := by
  unfold inTabs at h
  simp only [Bool.and_eq_true, decide_eq_true_eq] at h
  exact ⟨i.toNat, by omega, by omega⟩
theorem tabOf_nat {ts : List Tab} {n : Nat} (h : n < ts.length) : tabOf ts n = ts[n] := by
  unfold tabOf inTabs
  rw [if_pos (by simp; omega)]
  simp [h]
theorem tabOf_none {ts : List Tab} {i : Int} (h : inTabs ts i = false) : tabOf ts i = noTab := by unfold tabOf; rw [h]; rfl
end Go.Proofs.YtpmlhgakbpfgmaaDoor
