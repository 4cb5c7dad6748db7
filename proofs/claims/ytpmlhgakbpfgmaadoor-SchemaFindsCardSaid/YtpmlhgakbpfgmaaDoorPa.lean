/- Predicates: what they mean, and how they lie in memory. -/
import Derived.Test.YtpmlhgakbpfgmaaDoorE
set_option linter.unusedSimpArgs false
set_option linter.unusedVariables false
namespace Go.Proofs.YtpmlhgakbpfgmaaDoor
open Go.RowKit

/-- An operand. -/
structure Od where
  k : Int
  i : Int
  v : V
abbrev Od.val (o : Od) : Value := .agg #[.int .i64 o.k, .int .i64 o.i, .int .i64 o.v.k, .int .i64 o.v.n, .string o.v.t]
/-- A predicate. -/
inductive Pr where
  | mk (op cmp : Int) (l r : Od) (args : List Pr)
def Pr.op : Pr → Int | .mk o _ _ _ _ => o
def Pr.cmp : Pr → Int | .mk _ c _ _ _ => c
def Pr.l : Pr → Od | .mk _ _ l _ _ => l
def Pr.r : Pr → Od | .mk _ _ _ r _ => r
def Pr.args : Pr → List Pr | .mk _ _ _ _ a => a
/-- The value of a predicate whose arguments lie behind s. -/
abbrev Pr.val (p : Pr) (s : Value) : Value := .agg #[.int .i64 p.op, .int .i64 p.cmp, .int .i64 p.l.k, .int .i64 p.l.i, .int .i64 p.l.v.k, .int .i64 p.l.v.n, .string p.l.v.t, .int .i64 p.r.k, .int .i64 p.r.i, .int .i64 p.r.v.k, .int .i64 p.r.v.n, .string p.r.v.t, s]
def nilV : V := ⟨0, 0, ⟨#[]⟩⟩
def zeroO : Od := ⟨0, 0, nilV⟩
/-- A block of a predicate's cells. -/
abbrev pObj (op cmp lk li lvk lvn : Int) (lvt : ByteArray) (rk ri rvk rvn : Int) (rvt : ByteArray) (s : Value) (T : TypeId) : Obj :=
  .cells #[.int .i64 op, .int .i64 cmp, .int .i64 lk, .int .i64 li, .int .i64 lvk, .int .i64 lvn, .string lvt, .int .i64 rk, .int .i64 ri, .int .i64 rvk, .int .i64 rvn, .string rvt, s] T
/-- The thirteen cells of a predicate. -/
structure PrAt (w : World) (b off : Nat) (p : Pr) (s : Value) : Prop where
  c0 : w.cell? ⟨b, off, none⟩ = some (.int .i64 p.op)
  c1 : w.cell? ⟨b, off + 1, none⟩ = some (.int .i64 p.cmp)
  c2 : w.cell? ⟨b, off + 2, none⟩ = some (.int .i64 p.l.k)
  c3 : w.cell? ⟨b, off + 3, none⟩ = some (.int .i64 p.l.i)
  c4 : w.cell? ⟨b, off + 4, none⟩ = some (.int .i64 p.l.v.k)
  c5 : w.cell? ⟨b, off + 5, none⟩ = some (.int .i64 p.l.v.n)
  c6 : w.cell? ⟨b, off + 6, none⟩ = some (.string p.l.v.t)
  c7 : w.cell? ⟨b, off + 7, none⟩ = some (.int .i64 p.r.k)
  c8 : w.cell? ⟨b, off + 8, none⟩ = some (.int .i64 p.r.i)
  c9 : w.cell? ⟨b, off + 9, none⟩ = some (.int .i64 p.r.v.k)
  c10 : w.cell? ⟨b, off + 10, none⟩ = some (.int .i64 p.r.v.n)
  c11 : w.cell? ⟨b, off + 11, none⟩ = some (.string p.r.v.t)
  c12 : w.cell? ⟨b, off + 12, none⟩ = some s
theorem PrAt.same {w w' : World} {b off : Nat} {p : Pr} {s : Value} (h : PrAt w b off p s) (hc : ∀ o, w'.cell? ⟨b, o, none⟩ = w.cell? ⟨b, o, none⟩) : PrAt w' b off p s :=
  ⟨(hc _).trans h.c0, (hc _).trans h.c1, (hc _).trans h.c2, (hc _).trans h.c3, (hc _).trans h.c4, (hc _).trans h.c5, (hc _).trans h.c6, (hc _).trans h.c7, (hc _).trans h.c8, (hc _).trans h.c9, (hc _).trans h.c10, (hc _).trans h.c11, (hc _).trans h.c12⟩
/-- A list of predicates, to the depth k, in blocks of S. -/
def PrIn (S : Nat → Prop) (w : World) : Nat → Value → List Pr → Prop
  | 0, v, ps => ps = [] ∧ ∃ a cap, v = .slice a 0 cap
  | k + 1, v, ps => ∃ (a : Option Addr) (cap : Nat), v = .slice a ps.length cap ∧ (ps.length ≤ 4398046511104 ∧ ps.length ≤ cap) ∧ (ps = [] ∨ ∃ b off, a = some ⟨b, off, none⟩ ∧ b < w.heap.size ∧ S b ∧
      ∀ i (h : i < ps.length), ∃ s, PrAt w b (off + i * 13) ps[i] s ∧ PrIn S w k s ps[i].args)
theorem PrIn.kept {S : Nat → Prop} {w w' : World} (hw : Kept S w w') : ∀ {k : Nat} {v : Value} {ps : List Pr}, PrIn S w k v ps → PrIn S w' k v ps
  | 0, _, _, h => h
  | k + 1, v, ps, h => by
    obtain ⟨a, cap, h1, h2, h3⟩ := h
    refine ⟨a, cap, h1, h2, h3.imp id ?_⟩
    rintro ⟨b, off, k1, k2, k3, k4⟩
    refine ⟨b, off, k1, Nat.lt_of_lt_of_le k2 hw.size, k3, fun i hi => ?_⟩
    obtain ⟨s, hp, hr⟩ := k4 i hi
    exact ⟨s, hp.same (fun o => hw.cell k2 k3), PrIn.kept hw hr⟩
theorem PrIn.later {S : Nat → Prop} {w w' : World} {k : Nat} {v : Value} {ps : List Pr} (h : PrIn S w k v ps) (hw : Below w.heap.size w w') : PrIn S w' k v ps := h.kept (kept_below hw)
theorem PrIn.mono {S S' : Nat → Prop} {w : World} (hs : ∀ b, b < w.heap.size → S b → S' b) : ∀ {k : Nat} {v : Value} {ps : List Pr}, PrIn S w k v ps → PrIn S' w k v ps
  | 0, _, _, h => h
  | k + 1, v, ps, h => by
    obtain ⟨a, cap, h1, h2, h3⟩ := h
    refine ⟨a, cap, h1, h2, h3.imp id ?_⟩
    rintro ⟨b, off, k1, k2, k3, k4⟩
    refine ⟨b, off, k1, k2, hs b k2 k3, fun i hi => ?_⟩
    obtain ⟨s, hp, hr⟩ := k4 i hi
    exact ⟨s, hp, PrIn.mono hs hr⟩
theorem PrIn.deeper {S : Nat → Prop} {w : World} : ∀ {k : Nat} {v : Value} {ps : List Pr}, PrIn S w k v ps → PrIn S w (k + 1) v ps
  | 0, v, ps, h => by
    obtain ⟨rfl, a, cap, rfl⟩ := h
    exact ⟨a, cap, rfl, by simp, .inl rfl⟩
  | k + 1, v, ps, h => by
    obtain ⟨a, cap, h1, h2, h3⟩ := h
    refine ⟨a, cap, h1, h2, h3.imp id ?_⟩
    rintro ⟨b, off, k1, k2, k3, k4⟩
    refine ⟨b, off, k1, k2, k3, fun i hi => ?_⟩
    obtain ⟨s, hp, hr⟩ := k4 i hi
    exact ⟨s, hp, PrIn.deeper hr⟩
theorem PrIn.deep {S : Nat → Prop} {w : World} {k n : Nat} {v : Value} {ps : List Pr} (h : PrIn S w k v ps) (hn : k ≤ n) : PrIn S w n v ps := by
  induction n with
  | zero => obtain rfl : k = 0 := by omega
            exact h
  | succ n ih =>
    by_cases e : k = n + 1
    · subst e; exact h
    · exact (ih (by omega)).deeper
theorem PrIn.shape {S : Nat → Prop} {w : World} {k : Nat} {v : Value} {ps : List Pr} (h : PrIn S w k v ps) : ∃ a cap, v = .slice a ps.length cap ∧ ps.length ≤ 4398046511104 := by
  cases k with
  | zero => obtain ⟨rfl, a, cap, rfl⟩ := h; exact ⟨a, cap, rfl, by simp⟩
  | succ k => obtain ⟨a, cap, h1, h2, _⟩ := h; exact ⟨a, cap, h1, h2.1⟩
theorem PrIn.nil {S : Nat → Prop} {w : World} (k : Nat) (a : Option Addr) (cap : Nat) : PrIn S w k (.slice a 0 cap) [] := by
  cases k with
  | zero => exact ⟨rfl, a, cap, rfl⟩
  | succ k => exact ⟨a, cap, rfl, by simp, .inl rfl⟩
theorem PrIn.cap_le {S : Nat → Prop} {w : World} {k : Nat} {a : Option Addr} {n cap : Nat} {ps : List Pr} (h : PrIn S w k (.slice a n cap) ps) : n ≤ cap := by
  cases k with
  | zero => obtain ⟨-, a1, c1, h1⟩ := h; simp only [Value.slice.injEq] at h1; omega
  | succ k => obtain ⟨a1, c1, h1, h2, -⟩ := h; simp only [Value.slice.injEq] at h1; obtain ⟨-, h1, rfl⟩ := h1; omega
/-- What lies at an index. -/
theorem PrIn.get {S : Nat → Prop} {w : World} {k : Nat} {a : Option Addr} {n cap : Nat} {ps : List Pr} (h : PrIn S w (k + 1) (.slice a n cap) ps) {i : Nat} (hi : i < ps.length) :
    ∃ b off s, a = some ⟨b, off, none⟩ ∧ b < w.heap.size ∧ S b ∧ PrAt w b (off + i * 13) ps[i] s ∧ PrIn S w k s ps[i].args := by
  obtain ⟨a1, cap1, hv, -, h3⟩ := h
  simp only [Value.slice.injEq] at hv
  obtain ⟨rfl, -, rfl⟩ := hv
  obtain ⟨b, off, rfl, k2, k3, k4⟩ := h3.resolve_left (by rintro rfl; simp at hi)
  obtain ⟨s, h1, h2⟩ := k4 i hi
  exact ⟨b, off, s, rfl, k2, k3, h1, h2⟩

/-! ### what predicates mean -/
def atV (l : List V) (i : Int) : V := if 0 ≤ i then l.getD i.toNat nilV else nilV
/-- What an operand denotes. -/
def denV (row par : List V) (o : Od) : V := if o.k = 1 then atV row o.i else if o.k = 2 then atV par o.i else if o.k = 3 then o.v else nilV
def ordB (cmp d : Int) : Bool := if cmp = 1 then decide (d = 0) else if cmp = 2 then !decide (d = 0) else if cmp = 3 then decide (d < 0) else if cmp = 4 then decide (d ≤ 0) else if cmp = 5 then decide (0 < d) else if cmp = 6 then decide (0 ≤ d) else false
/-- Whether two values compare so. -/
def cpB (cmp : Int) (a b : V) : Bool := realB a && realB b && decide (a.k = b.k) && ordB cmp (cmpV a b)
mutual
def holdsP (row par : List V) : Pr → Bool
  | .mk op cmp l r args => if op = 1 then true else if op = 3 then cpB cmp (denV row par l) (denV row par r) else if op = 4 then !failsAny row par args else if op = 5 then holdsAny row par args else if op = 6 then failsHead row par args else false
def failsAny (row par : List V) : List Pr → Bool
  | [] => false
  | p :: ps => !holdsP row par p || failsAny row par ps
def holdsAny (row par : List V) : List Pr → Bool
  | [] => false
  | p :: ps => holdsP row par p || holdsAny row par ps
def failsHead (row par : List V) : List Pr → Bool
  | [] => false
  | p :: _ => !holdsP row par p
end
theorem holdsP_eq (row par : List V) (p : Pr) : holdsP row par p = if p.op = 1 then true else if p.op = 3 then cpB p.cmp (denV row par p.l) (denV row par p.r) else if p.op = 4 then !failsAny row par p.args else if p.op = 5 then holdsAny row par p.args else if p.op = 6 then failsHead row par p.args else false := by
  cases p; rw [holdsP]; rfl
theorem nilV_real : realB nilV = false := by simp [realB, validB, validP, nilV]
theorem step_i (k : Nat) (h : k ≤ 1000000000000000000) : wrap64 ((k : Int) + 1) = (k : Int) + 1 := by
  unfold wrap64
  omega
theorem failsAny_eq (row par : List V) : ∀ ps : List Pr, failsAny row par ps = ps.any fun p => !holdsP row par p
  | [] => rfl
  | p :: ps => by rw [failsAny, failsAny_eq row par ps]; rfl
theorem holdsAny_eq (row par : List V) : ∀ ps : List Pr, holdsAny row par ps = ps.any fun p => holdsP row par p
  | [] => rfl
  | p :: ps => by rw [holdsAny, holdsAny_eq row par ps]; rfl
end Go.Proofs.YtpmlhgakbpfgmaaDoor
/- What Check answers: the mathematics; lists of numbers and the table of shapes in memory. -/
set_option linter.unusedSimpArgs false
set_option linter.unusedVariables false
namespace Go.Proofs.YtpmlhgakbpfgmaaDoor
open Go.RowKit

/-! ### how large a predicate is -/
mutual
def countP : Pr → Nat
  | .mk _ _ _ _ args => 1 + countL args
def countL : List Pr → Nat
  | [] => 0
  | p :: ps => countP p + countL ps
end
mutual
def depthP : Pr → Nat
  | .mk _ _ _ _ args => 1 + depthL args
def depthL : List Pr → Nat
  | [] => 0
  | p :: ps => max (depthP p) (depthL ps)
end
mutual
/-- What predicate.spare answers. -/
def spareP : Pr → Int → Nat → Int
  | .mk _ _ _ _ args, r, n => match n with | 0 => -1 | n + 1 => spareL args (r - 1) n
def spareL : List Pr → Int → Nat → Int
  | [], r, _ => r
  | p :: ps, r, n => if r < 0 then r else spareL ps (spareP p r n) n
end
mutual
/-- What the reference's nodes answers. -/
def nodesP : Pr → Int → Int
  | .mk _ _ _ _ args, n => nodesL args (n + 1)
def nodesL : List Pr → Int → Int
  | [], n => n
  | p :: ps, n => if 24 < n then n else nodesL ps (nodesP p n)
end
mutual
/-- What the reference's deeper answers. -/
def deepP : Pr → Nat → Bool
  | .mk _ _ _ _ args, n => match n with | 0 => true | n + 1 => deepL args n
def deepL : List Pr → Nat → Bool
  | [], _ => false
  | p :: ps, n => deepP p n || deepL ps n
end
mutual
theorem spareP_eq : ∀ (p : Pr) (r : Int) (n : Nat), 0 ≤ r → spareP p r n = if (countP p : Int) ≤ r ∧ depthP p ≤ n then r - countP p else -1
  | .mk _ _ _ _ args, r, 0, hr => by rw [spareP, if_neg (by rw [depthP]; omega)]
  | .mk o c l q args, r, n + 1, hr => by
    have h := spareL_eq args (r - 1) n (by omega)
    have hc : countP (.mk o c l q args) = 1 + countL args := by rw [countP]
    have hd : depthP (.mk o c l q args) = 1 + depthL args := by rw [depthP]
    generalize countP (.mk o c l q args) = C at hc ⊢
    generalize depthP (.mk o c l q args) = D at hd ⊢
    rw [spareP, h]
    by_cases h0 : r - 1 = -1
    · rw [if_pos h0, if_neg (by omega)]
    · rw [if_neg h0]
      by_cases h1 : (countL args : Int) ≤ r - 1 ∧ depthL args ≤ n
      · rw [if_pos h1, if_pos (by omega)]; omega
      · rw [if_neg h1, if_neg (by omega)]
theorem spareL_eq : ∀ (ps : List Pr) (r : Int) (n : Nat), -1 ≤ r → spareL ps r n = if r = -1 then -1 else if (countL ps : Int) ≤ r ∧ depthL ps ≤ n then r - countL ps else -1
  | [], r, n, hr => by
    have hc : countL [] = 0 := by rw [countL]
    have hd : depthL [] = 0 := by rw [depthL]
    generalize countL [] = C at hc ⊢
    generalize depthL [] = D at hd ⊢
    rw [spareL]
    by_cases h : r = -1
    · rw [if_pos h, h]
    · rw [if_neg h, if_pos (by omega)]; omega
  | p :: ps, r, n, hr => by
    have hc : countL (p :: ps) = countP p + countL ps := by rw [countL]
    have hd : depthL (p :: ps) = max (depthP p) (depthL ps) := by rw [depthL]
    generalize countL (p :: ps) = C at hc ⊢
    generalize depthL (p :: ps) = D at hd ⊢
    rw [spareL]
    by_cases h : r = -1
    · rw [if_pos h, if_pos (by omega), h]
    · rw [if_neg h, if_neg (by omega), spareP_eq p r n (by omega)]
      by_cases h1 : (countP p : Int) ≤ r ∧ depthP p ≤ n
      · rw [if_pos h1, spareL_eq ps _ n (by omega), if_neg (by omega)]
        by_cases h2 : (countL ps : Int) ≤ r - countP p ∧ depthL ps ≤ n
        · rw [if_pos h2, if_pos (by omega)]; omega
        · rw [if_neg h2, if_neg (by omega)]
      · rw [if_neg h1, spareL_eq ps (-1) n (by omega), if_pos rfl, if_neg (by omega)]
end
mutual
theorem nodesP_eq : ∀ (p : Pr) (n : Int), n ≤ 24 → nodesP p n = if n + countP p ≤ 24 then n + countP p else 25
  | .mk o c l q args, n, hn => by
    have hc : countP (.mk o c l q args) = 1 + countL args := by rw [countP]
    generalize countP (.mk o c l q args) = C at hc ⊢
    rw [nodesP, nodesL_eq args (n + 1) (by omega)]
    by_cases h0 : n + 1 = 25
    · rw [if_pos h0, if_neg (by omega)]
    · rw [if_neg h0]
      by_cases h1 : n + 1 + (countL args : Int) ≤ 24
      · rw [if_pos h1, if_pos (by omega)]; omega
      · rw [if_neg h1, if_neg (by omega)]
theorem nodesL_eq : ∀ (ps : List Pr) (n : Int), n ≤ 25 → nodesL ps n = if n = 25 then 25 else if n + countL ps ≤ 24 then n + countL ps else 25
  | [], n, hn => by
    have hc : countL [] = 0 := by rw [countL]
    generalize countL [] = C at hc ⊢
    rw [nodesL]
    by_cases h : n = 25
    · rw [if_pos h, h]
    · rw [if_neg h, if_pos (by omega)]; omega
  | p :: ps, n, hn => by
    have hc : countL (p :: ps) = countP p + countL ps := by rw [countL]
    generalize countL (p :: ps) = C at hc ⊢
    rw [nodesL]
    by_cases h : n = 25
    · rw [if_pos h, if_pos (by omega), h]
    · rw [if_neg h, if_neg (by omega), nodesP_eq p n (by omega)]
      by_cases h1 : n + (countP p : Int) ≤ 24
      · rw [if_pos h1, nodesL_eq ps _ (by omega), if_neg (by omega)]
        by_cases h2 : n + (countP p : Int) + countL ps ≤ 24
        · rw [if_pos h2, if_pos (by omega)]; omega
        · rw [if_neg h2, if_neg (by omega)]
      · rw [if_neg h1, nodesL_eq ps 25 (by omega), if_pos rfl, if_neg (by omega)]
end
mutual
theorem deepP_eq : ∀ (p : Pr) (n : Nat), deepP p n = decide (n < depthP p)
  | .mk _ _ _ _ args, 0 => by rw [deepP, depthP, decide_eq_true (by omega)]
  | .mk _ _ _ _ args, n + 1 => by
    rw [deepP, depthP, deepL_eq args n, Bool.eq_iff_iff, decide_eq_true_eq, decide_eq_true_eq]; omega
theorem deepL_eq : ∀ (ps : List Pr) (n : Nat), deepL ps n = decide (n < depthL ps)
  | [], n => by rw [deepL, depthL, decide_eq_false (by omega)]
  | p :: ps, n => by
    rw [deepL, depthL, deepP_eq p n, deepL_eq ps n, Bool.eq_iff_iff, Bool.or_eq_true, decide_eq_true_eq, decide_eq_true_eq, decide_eq_true_eq]; omega
end
theorem deepL_any : ∀ (ps : List Pr) (n : Nat), deepL ps n = ps.any fun p => deepP p n
  | [], _ => rfl
  | p :: ps, n => by rw [deepL, deepL_any ps n]; rfl
theorem length_countL : ∀ ps : List Pr, ps.length ≤ countL ps
  | [] => by simp
  | .mk o c l r a :: ps => by rw [List.length_cons, countL, countP]; have := length_countL ps; omega
theorem mem_countL : ∀ {ps : List Pr} {p : Pr}, p ∈ ps → countP p ≤ countL ps
  | q :: ps, p, h => by
    rw [countL]
    rcases List.mem_cons.1 h with rfl | h
    · omega
    · have := mem_countL h; omega

/-! ### which predicates are valid -/
def kindB (k : Int) : Bool := decide (k = 3) || decide (k = 4) || decide (k = 5)
def kindsB (l : List Int) : Bool := l.all kindB
noncomputable def kAt (ks : List Int) (o : Od) : Int := if 0 ≤ o.i ∧ o.i < ks.length ∧ o.v = nilV then ks.getD o.i.toNat 0 else 0
/-- The kind of a valid operand, 0 for any other one. -/
noncomputable def kindO (cols par : List Int) (o : Od) : Int := if o.k = 1 then kAt cols o else if o.k = 2 then kAt par o else if o.k = 3 then (if o.i = 0 ∧ realB o.v = true then o.v.k else 0) else 0
noncomputable def plainB (cmp : Int) (l r : Od) : Bool := decide (cmp = 0) && decide (l.k = 0 ∧ l.i = 0 ∧ l.v = nilV) && decide (r.k = 0 ∧ r.i = 0 ∧ r.v = nilV)
noncomputable def comparesB (cols par : List Int) (cmp : Int) (l r : Od) : Bool := (decide (1 ≤ cmp) && decide (cmp ≤ 6)) && !decide (kindO cols par l = 0) && decide (kindO cols par l = kindO cols par r)
/-- Whether predicate.validNode accepts a node with so many arguments. -/
noncomputable def nodeB (cols par : List Int) (op cmp : Int) (l r : Od) (n : Nat) : Bool :=
  if op = 1 ∨ op = 2 then decide (n = 0) && plainB cmp l r else if op = 3 then decide (n = 0) && comparesB cols par cmp l r else if op = 4 ∨ op = 5 then decide (n ≤ 24) && plainB cmp l r else if op = 6 then decide (n = 1) && plainB cmp l r else false
mutual
/-- What predicate.valid answers. -/
noncomputable def validA (cols par : List Int) : Pr → Bool
  | .mk op cmp l r args => nodeB cols par op cmp l r args.length && !badL cols par args
noncomputable def badL (cols par : List Int) : List Pr → Bool
  | [] => false
  | p :: ps => !validA cols par p || badL cols par ps
end
/-- Whether the reference accepts a node with so many arguments. -/
noncomputable def rnodeB (cols par : List Int) (op cmp : Int) (l r : Od) (n : Nat) : Bool :=
  if op = 1 ∨ op = 2 then decide (n = 0) && plainB cmp l r else if op = 3 then decide (n = 0) && comparesB cols par cmp l r else if op = 4 ∨ op = 5 then plainB cmp l r else if op = 6 then decide (n = 1) && plainB cmp l r else false
mutual
/-- What the reference's valid answers. -/
noncomputable def validR (cols par : List Int) : Pr → Bool
  | .mk op cmp l r args => rnodeB cols par op cmp l r args.length && !rbadL cols par args
noncomputable def rbadL (cols par : List Int) : List Pr → Bool
  | [] => false
  | p :: ps => !validR cols par p || rbadL cols par ps
end
theorem badL_any (cols par : List Int) : ∀ ps : List Pr, badL cols par ps = ps.any fun p => !validA cols par p
  | [] => rfl
  | p :: ps => by rw [badL, badL_any cols par ps]; rfl
theorem rbadL_any (cols par : List Int) : ∀ ps : List Pr, rbadL cols par ps = ps.any fun p => !validR cols par p
  | [] => rfl
  | p :: ps => by rw [rbadL, rbadL_any cols par ps]; rfl
theorem nodeB_small {cols par : List Int} {op cmp : Int} {l r : Od} {n : Nat} (h : n ≤ 24) : nodeB cols par op cmp l r n = rnodeB cols par op cmp l r n := by
  unfold nodeB rnodeB; rw [decide_eq_true h, Bool.true_and]
mutual
theorem validA_small (cols par : List Int) : ∀ p : Pr, countP p ≤ 24 → validA cols par p = validR cols par p
  | .mk op cmp l r args, h => by
    rw [countP] at h
    rw [validA, validR, nodeB_small (by have := length_countL args; omega), badL_small cols par args (by omega)]
theorem badL_small (cols par : List Int) : ∀ ps : List Pr, countL ps ≤ 24 → badL cols par ps = rbadL cols par ps
  | [], _ => rfl
  | p :: ps, h => by
    rw [countL] at h
    rw [badL, rbadL, validA_small cols par p (by omega), badL_small cols par ps (by omega)]
end
/-- The error of a predicate. -/
noncomputable def checkE (cols par : List Int) (p : Pr) : Int :=
  if kindsB cols = false ∨ kindsB par = false then 1 else if 24 < countP p ∨ 8 < depthP p then 2 else if validR cols par p = false then 50 else 0
theorem spare_neg (p : Pr) : spareP p 24 8 < 0 ↔ (24 < countP p ∨ 8 < depthP p) := by
  rw [spareP_eq p 24 8 (by omega)]
  by_cases h : (countP p : Int) ≤ 24 ∧ depthP p ≤ 8
  · rw [if_pos h]; omega
  · rw [if_neg h]; omega
theorem nodes_big (p : Pr) : 24 < nodesP p 0 ↔ 24 < countP p := by
  rw [nodesP_eq p 0 (by omega)]
  by_cases h : (0 : Int) + countP p ≤ 24
  · rw [if_pos h]; omega
  · rw [if_neg h]; omega

/-! ### memory -/
/-- A list of numbers, in a block of S. -/
def IntsAt (S : Nat → Prop) (w : World) (v : Value) (l : List Int) : Prop :=
  ∃ (a : Option Addr) (cap : Nat), v = .slice a l.length cap ∧ l.length ≤ 17592186044416 ∧ (l = [] ∨ ∃ b off, a = some ⟨b, off, none⟩ ∧ b < w.heap.size ∧ S b ∧ ∀ i (h : i < l.length), w.cell? ⟨b, off + i, none⟩ = some (.int .i64 l[i]))
theorem IntsAt.kept {S : Nat → Prop} {w w' : World} {v : Value} {l : List Int} (h : IntsAt S w v l) (hw : Kept S w w') : IntsAt S w' v l :=
  let ⟨a, cap, h1, h2, h3⟩ := h
  ⟨a, cap, h1, h2, h3.imp id fun ⟨b, off, k1, k2, k3, k4⟩ => ⟨b, off, k1, Nat.lt_of_lt_of_le k2 hw.size, k3, fun i hi => (hw.cell k2 k3).trans (k4 i hi)⟩⟩
theorem IntsAt.later {S : Nat → Prop} {w w' : World} {v : Value} {l : List Int} (h : IntsAt S w v l) (hw : Below w.heap.size w w') : IntsAt S w' v l := h.kept (kept_below hw)
theorem IntsAt.mono {S S' : Nat → Prop} {w : World} {v : Value} {l : List Int} (h : IntsAt S w v l) (hs : ∀ b, b < w.heap.size → S b → S' b) : IntsAt S' w v l :=
  let ⟨a, cap, h1, h2, h3⟩ := h
  ⟨a, cap, h1, h2, h3.imp id fun ⟨b, off, k1, k2, k3, k4⟩ => ⟨b, off, k1, k2, hs b k2 k3, k4⟩⟩
theorem IntsAt.slice {S : Nat → Prop} {w : World} {v : Value} {l : List Int} (h : IntsAt S w v l) : ∃ a cap, v = .slice a l.length cap ∧ l.length ≤ 17592186044416 := let ⟨a, cap, h1, h2, _⟩ := h; ⟨a, cap, h1, h2⟩
theorem IntsAt.get {S : Nat → Prop} {w : World} {a : Option Addr} {n cap : Nat} {l : List Int} (h : IntsAt S w (.slice a n cap) l) {i : Nat} (hi : i < l.length) :
    ∃ b off, a = some ⟨b, off, none⟩ ∧ b < w.heap.size ∧ S b ∧ w.cell? ⟨b, off + i, none⟩ = some (.int .i64 l[i]) := by
  obtain ⟨a1, cap1, hv, -, h3⟩ := h
  simp only [Value.slice.injEq] at hv
  obtain ⟨rfl, -, rfl⟩ := hv
  obtain ⟨b, off, rfl, k2, k3, k4⟩ := h3.resolve_left (by rintro rfl; simp at hi)
  exact ⟨b, off, rfl, k2, k3, k4 i hi⟩
theorem IntsAt.nil {S : Nat → Prop} {w : World} (a : Option Addr) (cap : Nat) : IntsAt S w (.slice a 0 cap) [] := ⟨a, cap, rfl, by simp, .inl rfl⟩
def shapeB (i : Nat) : Bool := decide (i = 3)
def shapeF (i : Nat) : Int := if i = 6 then 1 else 0
def shapeM (i : Nat) : Int := if i = 4 ∨ i = 5 then 24 else if i = 6 then 1 else 0
/-- The package's table of shapes, as start-up has laid it. -/
structure Shapes (w : World) : Prop where
  l : 0 < w.heap.size
  b : ∀ i, i < 7 → w.cell? ⟨0, i * 3, none⟩ = some (.bool (shapeB i))
  f : ∀ i, i < 7 → w.cell? ⟨0, i * 3 + 1, none⟩ = some (.int .i64 (shapeF i))
  m : ∀ i, i < 7 → w.cell? ⟨0, i * 3 + 2, none⟩ = some (.int .i64 (shapeM i))
theorem Shapes.kept {S : Nat → Prop} {w w' : World} (h : Shapes w) (hw : Kept S w w') (hs : S 0) : Shapes w' :=
  ⟨Nat.lt_of_lt_of_le h.l hw.size, fun i hi => (hw.cell h.l hs).trans (h.b i hi), fun i hi => (hw.cell h.l hs).trans (h.f i hi), fun i hi => (hw.cell h.l hs).trans (h.m i hi)⟩
theorem Shapes.later {w w' : World} (h : Shapes w) (hw : Below w.heap.size w w') : Shapes w' := h.kept (S := fun _ => True) (kept_below hw) trivial
end Go.Proofs.YtpmlhgakbpfgmaaDoor
