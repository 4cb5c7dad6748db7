/- Predicates: what they mean, and how they lie in memory. -/
import Derived.Test.YtlchcakmcikjnaaDoorKc
import Derived.Test.YtlchcakmcikjnaaDoorH
set_option linter.unusedSimpArgs false
set_option linter.unusedVariables false
namespace Go.Proofs.YtlchcakmcikjnaaDoor
open Go.RowKit

/-- An operand. -/
structure Od where
  k : Int
  i : Int
  v : V
abbrev Od.val (o : Od) : Value := .agg #[.int .i64 o.k, .int .i64 o.i, .int .i64 o.v.k, .int .i64 o.v.n, .string o.v.t]
/-- A predicate. -/
inductive Pr where
  | mk (op cmp : Int) (l r : Od) (args : List Pr)
def Pr.op : Pr → Int | .mk o _ _ _ _ => o
def Pr.cmp : Pr → Int | .mk _ c _ _ _ => c
def Pr.l : Pr → Od | .mk _ _ l _ _ => l
def Pr.r : Pr → Od | .mk _ _ _ r _ => r
def Pr.args : Pr → List Pr | .mk _ _ _ _ a => a
/-- The value of a predicate whose arguments lie behind s. -/
abbrev Pr.val (p : Pr) (s : Value) : Value := .agg #[.int .i64 p.op, .int .i64 p.cmp, .int .i64 p.l.k, .int .i64 p.l.i, .int .i64 p.l.v.k, .int .i64 p.l.v.n, .string p.l.v.t, .int .i64 p.r.k, .int .i64 p.r.i, .int .i64 p.r.v.k, .int .i64 p.r.v.n, .string p.r.v.t, s]
def nilV : V := ⟨0, 0, ⟨#[]⟩⟩
def zeroO : Od := ⟨0, 0, nilV⟩
/-- A block of a predicate's cells. -/
abbrev pObj (op cmp lk li lvk lvn : Int) (lvt : ByteArray) (rk ri rvk rvn : Int) (rvt : ByteArray) (s : Value) (T : TypeId) : Obj :=
  .cells #[.int .i64 op, .int .i64 cmp, .int .i64 lk, .int .i64 li, .int .i64 lvk, .int .i64 lvn, .string lvt, .int .i64 rk, .int .i64 ri, .int .i64 rvk, .int .i64 rvn, .string rvt, s] T
/-- The thirteen cells of a predicate. -/
structure PrAt (w : World) (b off : Nat) (p : Pr) (s : Value) : Prop where
  c0 : w.cell? ⟨b, off, none⟩ = some (.int .i64 p.op)
  c1 : w.cell? ⟨b, off + 1, none⟩ = some (.int .i64 p.cmp)
  c2 : w.cell? ⟨b, off + 2, none⟩ = some (.int .i64 p.l.k)
  c3 : w.cell? ⟨b, off + 3, none⟩ = some (.int .i64 p.l.i)
  c4 : w.cell? ⟨b, off + 4, none⟩ = some (.int .i64 p.l.v.k)
  c5 : w.cell? ⟨b, off + 5, none⟩ = some (.int .i64 p.l.v.n)
  c6 : w.cell? ⟨b, off + 6, none⟩ = some (.string p.l.v.t)
  c7 : w.cell? ⟨b, off + 7, none⟩ = some (.int .i64 p.r.k)
  c8 : w.cell? ⟨b, off + 8, none⟩ = some (.int .i64 p.r.i)
  c9 : w.cell? ⟨b, off + 9, none⟩ = some (.int .i64 p.r.v.k)
  c10 : w.cell? ⟨b, off + 10, none⟩ = some (.int .i64 p.r.v.n)
  c11 : w.cell? ⟨b, off + 11, none⟩ = some (.string p.r.v.t)
  c12 : w.cell? ⟨b, off + 12, none⟩ = some s
theorem PrAt.same {w w' : World} {b off : Nat} {p : Pr} {s : Value} (h : PrAt w b off p s) (hc : ∀ o, w'.cell? ⟨b, o, none⟩ = w.cell? ⟨b, o, none⟩) : PrAt w' b off p s :=
  ⟨(hc _).trans h.c0, (hc _).trans h.c1, (hc _).trans h.c2, (hc _).trans h.c3, (hc _).trans h.c4, (hc _).trans h.c5, (hc _).trans h.c6, (hc _).trans h.c7, (hc _).trans h.c8, (hc _).trans h.c9, (hc _).trans h.c10, (hc _).trans h.c11, (hc _).trans h.c12⟩
/-- A list of predicates, to the depth k, in blocks of S. -/
def PrIn (S : Nat → Prop) (w : World) : Nat → Value → List Pr → Prop
  | 0, v, ps => ps = [] ∧ ∃ a cap, v = .slice a 0 cap
  | k + 1, v, ps => ∃ (a : Option Addr) (cap : Nat), v = .slice a ps.length cap ∧ (ps.length ≤ 4398046511104 ∧ ps.length ≤ cap) ∧ (ps = [] ∨ ∃ b off, a = some ⟨b, off, none⟩ ∧ b < w.heap.size ∧ S b ∧
      ∀ i (h : i < ps.length), ∃ s, PrAt w b (off + i * 13) ps[i] s ∧ PrIn S w k s ps[i].args)
theorem PrIn.kept {S : Nat → Prop} {w w' : World} (hw : Kept S w w') : ∀ {k : Nat} {v : Value} {ps : List Pr}, PrIn S w k v ps → PrIn S w' k v ps
  | 0, _, _, h => h
  | k + 1, v, ps, h => by
    obtain ⟨a, cap, h1, h2, h3⟩ := h
    refine ⟨a, cap, h1, h2, h3.imp id ?_⟩
    rintro ⟨b, off, k1, k2, k3, k4⟩
    refine ⟨b, off, k1, Nat.lt_of_lt_of_le k2 hw.size, k3, fun i hi => ?_⟩
    obtain ⟨s, hp, hr⟩ := k4 i hi
    exact ⟨s, hp.same (fun o => hw.cell k2 k3), PrIn.kept hw hr⟩
theorem PrIn.later {S : Nat → Prop} {w w' : World} {k : Nat} {v : Value} {ps : List Pr} (h : PrIn S w k v ps) (hw : Below w.heap.size w w') : PrIn S w' k v ps := h.kept (kept_below hw)
theorem PrIn.mono {S S' : Nat → Prop} {w : World} (hs : ∀ b, b < w.heap.size → S b → S' b) : ∀ {k : Nat} {v : Value} {ps : List Pr}, PrIn S w k v ps → PrIn S' w k v ps
  | 0, _, _, h => h
  | k + 1, v, ps, h => by
    obtain ⟨a, cap, h1, h2, h3⟩ := h
    refine ⟨a, cap, h1, h2, h3.imp id ?_⟩
    rintro ⟨b, off, k1, k2, k3, k4⟩
    refine ⟨b, off, k1, k2, hs b k2 k3, fun i hi => ?_⟩
    obtain ⟨s, hp, hr⟩ := k4 i hi
    exact ⟨s, hp, PrIn.mono hs hr⟩
theorem PrIn.deeper {S : Nat → Prop} {w : World} : ∀ {k : Nat} {v : Value} {ps : List Pr}, PrIn S w k v ps → PrIn S w (k + 1) v ps
  | 0, v, ps, h => by
    obtain ⟨rfl, a, cap, rfl⟩ := h
    exact ⟨a, cap, rfl, by simp, .inl rfl⟩
  | k + 1, v, ps, h => by
    obtain ⟨a, cap, h1, h2, h3⟩ := h
    refine ⟨a, cap, h1, h2, h3.imp id ?_⟩
    rintro ⟨b, off, k1, k2, k3, k4⟩
    refine ⟨b, off, k1, k2, k3, fun i hi => ?_⟩
    obtain ⟨s, hp, hr⟩ := k4 i hi
    exact ⟨s, hp, PrIn.deeper hr⟩
theorem PrIn.deep {S : Nat → Prop} {w : World} {k n : Nat} {v : Value} {ps : List Pr} (h : PrIn S w k v ps) (hn : k ≤ n) : PrIn S w n v ps := by
  induction n with
  | zero => obtain rfl : k = 0 := by omega
            exact h
  | succ n ih =>
    by_cases e : k = n + 1
    · subst e; exact h
    · exact (ih (by omega)).deeper
theorem PrIn.shape {S : Nat → Prop} {w : World} {k : Nat} {v : Value} {ps : List Pr} (h : PrIn S w k v ps) : ∃ a cap, v = .slice a ps.length cap ∧ ps.length ≤ 4398046511104 := by
  cases k with
  | zero => obtain ⟨rfl, a, cap, rfl⟩ := h; exact ⟨a, cap, rfl, by simp⟩
  | succ k => obtain ⟨a, cap, h1, h2, _⟩ := h; exact ⟨a, cap, h1, h2.1⟩
theorem PrIn.nil {S : Nat → Prop} {w : World} (k : Nat) (a : Option Addr) (cap : Nat) : PrIn S w k (.slice a 0 cap) [] := by
  cases k with
  | zero => exact ⟨rfl, a, cap, rfl⟩
  | succ k => exact ⟨a, cap, rfl, by simp, .inl rfl⟩
theorem PrIn.cap_le {S : Nat → Prop} {w : World} {k : Nat} {a : Option Addr} {n cap : Nat} {ps : List Pr} (h : PrIn S w k (.slice a n cap) ps) : n ≤ cap := by
  cases k with
  | zero => obtain ⟨-, a1, c1, h1⟩ := h; simp only [Value.slice.injEq] at h1; omega
  | succ k => obtain ⟨a1, c1, h1, h2, -⟩ := h; simp only [Value.slice.injEq] at h1; obtain ⟨-, h1, rfl⟩ := h1; omega
/-- What lies at an index. -/
theorem PrIn.get {S : Nat → Prop} {w : World} {k : Nat} {a : Option Addr} {n cap : Nat} {ps : List Pr} (h : PrIn S w (k + 1) (.slice a n cap) ps) {i : Nat} (hi : i < ps.length) :
    ∃ b off s, a = some ⟨b, off, none⟩ ∧ b < w.heap.size ∧ S b ∧ PrAt w b (off + i * 13) ps[i] s ∧ PrIn S w k s ps[i].args := by
  obtain ⟨a1, cap1, hv, -, h3⟩ := h
  simp only [Value.slice.injEq] at hv
  obtain ⟨rfl, -, rfl⟩ := hv
  obtain ⟨b, off, rfl, k2, k3, k4⟩ := h3.resolve_left (by rintro rfl; simp at hi)
  obtain ⟨s, h1, h2⟩ := k4 i hi
  exact ⟨b, off, s, rfl, k2, k3, h1, h2⟩

/-! ### what predicates mean -/
def atV (l : List V) (i : Int) : V := if 0 ≤ i then l.getD i.toNat nilV else nilV
/-- What an operand denotes. -/
def denV (row par : List V) (o : Od) : V := if o.k = 1 then atV row o.i else if o.k = 2 then atV par o.i else if o.k = 3 then o.v else nilV
def ordB (cmp d : Int) : Bool := if cmp = 1 then decide (d = 0) else if cmp = 2 then !decide (d = 0) else if cmp = 3 then decide (d < 0) else if cmp = 4 then decide (d ≤ 0) else if cmp = 5 then decide (0 < d) else if cmp = 6 then decide (0 ≤ d) else false
/-- Whether two values compare so. -/
def cpB (cmp : Int) (a b : V) : Bool := realB a && realB b && decide (a.k = b.k) && ordB cmp (cmpV a b)
mutual
def holdsP (row par : List V) : Pr → Bool
  | .mk op cmp l r args => if op = 1 then true else if op = 3 then cpB cmp (denV row par l) (denV row par r) else if op = 4 then !failsAny row par args else if op = 5 then holdsAny row par args else if op = 6 then failsHead row par args else false
def failsAny (row par : List V) : List Pr → Bool
  | [] => false
  | p :: ps => !holdsP row par p || failsAny row par ps
def holdsAny (row par : List V) : List Pr → Bool
  | [] => false
  | p :: ps => holdsP row par p || holdsAny row par ps
def failsHead (row par : List V) : List Pr → Bool
  | [] => false
  | p :: _ => !holdsP row par p
end
theorem holdsP_eq (row par : List V) (p : Pr) : holdsP row par p = if p.op = 1 then true else if p.op = 3 then cpB p.cmp (denV row par p.l) (denV row par p.r) else if p.op = 4 then !failsAny row par p.args else if p.op = 5 then holdsAny row par p.args else if p.op = 6 then failsHead row par p.args else false := by
  cases p; rw [holdsP]; rfl
theorem nilV_real : realB nilV = false := by simp [realB, validB, validP, nilV]
theorem step_i (k : Nat) (h : k ≤ 1000000000000000000) : wrap64 ((k : Int) + 1) = (k : Int) + 1 := by
  unfold wrap64
  omega
theorem failsAny_eq (row par : List V) : ∀ ps : List Pr, failsAny row par ps = ps.any fun p => !holdsP row par p
  | [] => rfl
  | p :: ps => by rw [failsAny, failsAny_eq row par ps]; rfl
theorem holdsAny_eq (row par : List V) : ∀ ps : List Pr, holdsAny row par ps = ps.any fun p => holdsP row par p
  | [] => rfl
  | p :: ps => by rw [holdsAny, holdsAny_eq row par ps]; rfl
end Go.Proofs.YtlchcakmcikjnaaDoor
