/- The contract of the reference's Combine. -/
import Derived.Test.YtmjokpakekfkfaaVx
import Derived.Test.YtmjokpakekfkfaaVp
import Derived.Test.YtmjokpakekfkfaaVr
set_option linter.unusedSimpArgs false
set_option linter.unusedVariables false
namespace Go.Proofs.Ytmjokpakekfkfaa
open Go.RowKit

theorem ordL_snoc {A : List I} {y : I} (h : OrdL A) (hy : partB y = true) (hs : ∀ z, A.getLast? = some z → sepB z y = true) : OrdL (A ++ [y]) := by
  induction h with
  | nil => exact .one hy
  | one hx => exact .cons hx (hs _ (by simp)) (.one hy)
  | cons hx hxy hl ih => exact .cons hx hxy (ih (fun z hz => hs z (by simpa using hz)))
theorem ordL_last {A : List I} {y : I} (h : OrdL (A ++ [y])) : OrdL A ∧ partB y = true ∧ ∀ z, A.getLast? = some z → sepB z y = true := by
  induction A with
  | nil => exact ⟨.nil, by cases h; assumption, by intro z hz; simp at hz⟩
  | cons x A ih =>
    obtain ⟨h1, h2, h3⟩ := ih h.tail
    cases A with
    | nil =>
      cases h with
      | cons hx hs hl => exact ⟨.one hx, h2, by intro z hz; simp at hz; subst hz; exact hs⟩
    | cons x' A =>
      cases h with
      | cons hx hs hl => exact ⟨.cons hx hs h1, h2, by intro z hz; exact h3 z (by simpa using hz)⟩
theorem inB_snoc (A : List I) (y : I) (u : V) : inB (A ++ [y]) u = (inB A u || inI y u) := by simp [inB]

/-! ### between two points nothing changes -/
theorem pts_lt {P : List V} (h : AscV P) {i j : Nat} (hi : i < P.length) (hj : j < P.length) (hij : i < j) : cmpV P[i] P[j] < 0 := List.pairwise_iff_getElem.1 h i j hi hj hij
theorem pts_le {P : List V} (h : AscV P) {i j : Nat} (hi : i < P.length) (hj : j < P.length) (hij : i ≤ j) : cmpV P[i] P[j] ≤ 0 := by
  rcases Nat.lt_or_ge i j with h1 | h1
  · have := pts_lt h hi hj h1; omega
  · obtain rfl : i = j := by omega
    rw [goodV.self]; omega
/-- u lies at or above point k, and below the next. -/
def Here (P : List V) (k : Nat) (hk : k < P.length) (u : V) : Prop := cmpV P[k] u ≤ 0 ∧ ∀ h : k + 1 < P.length, cmpV u (P[k + 1]) < 0
theorem here_le {P : List V} (h : AscV P) {k : Nat} {hk : k < P.length} {u e : V} (hu : Here P k hk u) (he : e ∈ P) : cmpV e u ≤ 0 ↔ cmpV e P[k] ≤ 0 := by
  obtain ⟨i, hi, rfl⟩ := List.getElem_of_mem he
  rcases Nat.lt_or_ge k i with h1 | h1
  · have h2 : k + 1 < P.length := by omega
    have h3 := hu.2 h2
    have h4 := pts_le h h2 hi h1
    have h5 := pts_lt h hk hi h1
    have h6 := goodV.lt_le h3 h4
    have n1 := goodV.neg u P[i]
    have n2 := goodV.neg P[k] P[i]
    constructor <;> intro h7 <;> omega
  · have h2 := pts_le h hi hk h1
    exact ⟨fun _ => h2, fun _ => goodV.trans _ _ _ h2 hu.1⟩
theorem here_inI {P : List V} (h : AscV P) {k : Nat} {hk : k < P.length} {u : V} (hu : Here P k hk u) {x : I} (hf : x.f ∈ P) (ht : x.o = false → x.t ∈ P) : inI x u = inI x P[k] := by
  rw [Bool.eq_iff_iff, inI_iff, inI_iff, here_le h hu hf]
  cases ho : x.o
  · have h1 := here_le h hu (ht ho)
    have n1 := goodV.neg u x.t
    have n2 := goodV.neg P[k] x.t
    constructor
    · rintro ⟨a, b⟩
      refine ⟨a, .inr ?_⟩
      have b := b.resolve_left (by simp)
      have : ¬ cmpV x.t u ≤ 0 := by omega
      rw [h1] at this
      omega
    · rintro ⟨a, b⟩
      refine ⟨a, .inr ?_⟩
      have b := b.resolve_left (by simp)
      have : ¬ cmpV x.t P[k] ≤ 0 := by omega
      rw [← h1] at this
      omega
  · simp
def EdgesIn (l : List I) (P : List V) : Prop := ∀ x ∈ l, x.f ∈ P ∧ (x.o = false → x.t ∈ P)
theorem edges_in {l : List I} {P : List V} (h : ∀ e ∈ edges l, e ∈ P) : EdgesIn l P := fun x hx => ⟨h _ (mem_edges.2 ⟨x, hx, .inl rfl⟩), fun ho => h _ (mem_edges.2 ⟨x, hx, .inr ⟨ho, rfl⟩⟩)⟩
theorem here_inB {P : List V} (h : AscV P) {k : Nat} {hk : k < P.length} {u : V} (hu : Here P k hk u) {l : List I} (hl : EdgesIn l P) : inB l u = inB l P[k] := by
  induction l with
  | nil => rfl
  | cons x l ih =>
    have h1 := here_inI h hu (hl x (by simp)).1 (hl x (by simp)).2
    have h2 := ih (fun y hy => hl y (List.mem_cons_of_mem _ hy))
    simp only [inB, List.any_cons] at h2 ⊢
    rw [h1, h2]
theorem below_inB {P : List V} (h : AscV P) {u : V} (hu : ∀ hk : 0 < P.length, cmpV u P[0] < 0) {l : List I} (hl : EdgesIn l P) : inB l u = false := by
  cases hb : inB l u with
  | false => rfl
  | true =>
    obtain ⟨x, hx, hi⟩ := inB_iff.1 hb
    obtain ⟨i, hi', hxi⟩ := List.getElem_of_mem (hl x hx).1
    have h1 := hu (by omega)
    have h2 := pts_le h (by omega) hi' (Nat.zero_le i)
    rw [hxi] at h2
    have h3 := goodV.lt_le h1 h2
    have h4 := (inI_iff.1 hi).1
    have h5 := goodV.neg u x.f
    omega

/-! ### the list behind k points -/
noncomputable def outL (f : Bool → Bool → Bool) (a b : List I) (P : List V) : Nat → List I
  | 0 => []
  | k + 1 => if f (inB a (P.getD k default)) (inB b (P.getD k default)) = true then joinL (outL f a b P k) (nxtI P k) else outL f a b P k
/-- u lies below point k, or there is none. -/
def upTo (P : List V) (k : Nat) (u : V) : Bool := decide (P.length ≤ k) || decide (cmpV u (P.getD k default) < 0)
structure CInv (f : Bool → Bool → Bool) (a b : List I) (P : List V) (k : Nat) (L : List I) : Prop where
  ord : OrdL L
  mem : ∀ u, inB L u = (upTo P k u && f (inB a u) (inB b u))
  far : ∀ y, L.getLast? = some y → (y.o = true → P.length ≤ k) ∧ (y.o = false → ∀ h : k < P.length, cmpV y.t P[k] ≤ 0)
theorem nxt_part {P : List V} (h : AscV P) (hv : ∀ x ∈ P, validB x = true) {k : Nat} (hk : k < P.length) : partB (nxtI P k) = true := by
  by_cases hl : k + 1 = P.length
  · rw [nxt_last hk hl]; unfold partB; rw [if_pos rfl]; simp [hv _ (List.getElem_mem hk)]
  · have hl' : k + 1 < P.length := by omega
    rw [nxt_mid hl']; unfold partB; rw [if_neg (by simp)]; simp [hv _ (List.getElem_mem hk), hv _ (List.getElem_mem hl'), pts_lt h hk hl' (by omega)]
theorem nxt_in {P : List V} {k : Nat} (hk : k < P.length) (u : V) : inI (nxtI P k) u = true ↔ Here P k hk u := by
  rw [inI_iff]
  by_cases hl : k + 1 = P.length
  · rw [nxt_last hk hl]
    exact ⟨fun h => ⟨h.1, fun h' => by omega⟩, fun h => ⟨h.1, .inl rfl⟩⟩
  · have hl' : k + 1 < P.length := by omega
    rw [nxt_mid hl']
    exact ⟨fun h => ⟨h.1, fun _ => h.2.resolve_left (by simp)⟩, fun h => ⟨h.1, .inr (h.2 hl')⟩⟩
theorem upTo_iff {P : List V} {k : Nat} {u : V} : upTo P k u = true ↔ ∀ h : k < P.length, cmpV u P[k] < 0 := by
  unfold upTo
  by_cases hk : k < P.length
  · have : ¬ P.length ≤ k := by omega
    simp [this, hk]
  · have : P.length ≤ k := by omega
    simp [this]
    intro h
    omega
/-- One point further: what lies below the next is what lies below this, and what lies here. -/
theorem upTo_next {P : List V} (h : AscV P) {k : Nat} (hk : k < P.length) (u : V) : upTo P (k + 1) u = true ↔ upTo P k u = true ∨ Here P k hk u := by
  rw [upTo_iff, upTo_iff]
  have n1 := goodV.neg u P[k]
  constructor
  · intro h1
    by_cases h2 : cmpV u P[k] < 0
    · exact .inl fun _ => h2
    · exact .inr ⟨by omega, h1⟩
  · rintro (h1 | h1)
    · intro h'
      exact goodV.lt_le (h1 hk) (by have := pts_lt h hk h' (by omega); omega)
    · exact h1.2
theorem cinv_zero {f : Bool → Bool → Bool} {a b : List I} {P : List V} (hf : f false false = false) (h : AscV P) (ha : EdgesIn a P) (hb : EdgesIn b P) : CInv f a b P 0 [] := by
  refine ⟨.nil, fun u => ?_, fun y hy => by simp at hy⟩
  cases hu : upTo P 0 u with
  | false => simp [inB]
  | true =>
    have h1 := upTo_iff.1 hu
    rw [below_inB h h1 ha, below_inB h h1 hb, hf]
    simp [inB]
theorem cinv_skip {f : Bool → Bool → Bool} {a b : List I} {P : List V} {k : Nat} {L : List I} (h : AscV P) (ha : EdgesIn a P) (hb : EdgesIn b P) (hk : k < P.length) (H : CInv f a b P k L)
    (hn : f (inB a P[k]) (inB b P[k]) = false) : CInv f a b P (k + 1) L := by
  refine ⟨H.ord, fun u => ?_, fun y hy => ⟨fun ho => by have := (H.far y hy).1 ho; omega, fun ho h' => goodV.trans _ _ _ ((H.far y hy).2 ho hk) (by have := pts_lt h hk h' (by omega); omega)⟩⟩
  rw [H.mem u]
  have h1 := upTo_next h hk u
  cases hu : upTo P k u with
  | true => rw [h1.2 (.inl hu)]
  | false =>
    by_cases hh : Here P k hk u
    · rw [h1.2 (.inr hh), here_inB h hh ha, here_inB h hh hb, hn]; rfl
    · cases h2 : upTo P (k + 1) u with
      | false => rfl
      | true =>
        rcases h1.1 h2 with h3 | h3
        · rw [h3] at hu; cases hu
        · exact absurd h3 hh
theorem cinv_join {f : Bool → Bool → Bool} {a b : List I} {P : List V} {k : Nat} {L : List I} (h : AscV P) (hv : ∀ x ∈ P, validB x = true) (ha : EdgesIn a P) (hb : EdgesIn b P) (hk : k < P.length) (H : CInv f a b P k L)
    (hn : f (inB a P[k]) (inB b P[k]) = true) : CInv f a b P (k + 1) (joinL L (nxtI P k)) := by
  have hp := nxt_part h hv hk
  have hxf : (nxtI P k).f = P[k] := by
    by_cases hl : k + 1 = P.length
    · rw [nxt_last hk hl]
    · rw [nxt_mid (by omega)]
  have hmem : ∀ M : List I, (∀ u, inB M u = (inB L u || inI (nxtI P k) u)) → ∀ u, inB M u = (upTo P (k + 1) u && f (inB a u) (inB b u)) := fun M hM u => by
    rw [hM u, H.mem u]
    have h1 := upTo_next h hk u
    have h2 := nxt_in hk u
    by_cases hh : Here P k hk u
    · rw [h2.2 hh, h1.2 (.inr hh), here_inB h hh ha, here_inB h hh hb, hn]; simp
    · have h3 : inI (nxtI P k) u = false := by cases hx : inI (nxtI P k) u with
        | false => rfl
        | true => exact absurd (h2.1 hx) hh
      rw [h3, Bool.or_false]
      cases hu : upTo P k u with
      | true => rw [h1.2 (.inl hu)]
      | false => cases h4 : upTo P (k + 1) u with
        | false => rfl
        | true => rcases h1.1 h4 with h5 | h5
                  · rw [h5] at hu; cases hu
                  · exact absurd h5 hh
  have hfar : ∀ z : V, ∀ y : I, y = ⟨z, (nxtI P k).t, (nxtI P k).o⟩ → (y.o = true → P.length ≤ k + 1) ∧ (y.o = false → ∀ h : k + 1 < P.length, cmpV y.t P[k + 1] ≤ 0) := fun z y hy => by
    subst hy
    by_cases hl : k + 1 = P.length
    · rw [nxt_last hk hl]; exact ⟨fun _ => by omega, fun ho => by cases ho⟩
    · have hl' : k + 1 < P.length := by omega
      rw [nxt_mid hl']; exact ⟨(fun ho => by cases ho), fun _ _ => by rw [goodV.self]; omega⟩
  rcases List.eq_nil_or_concat L with rfl | ⟨A, y, rfl⟩
  · rw [joinL_nil]
    exact ⟨.one hp, hmem _ fun u => by simp [inB], fun y hy => by simp at hy; subst hy; exact hfar (nxtI P k).f _ rfl⟩
  · rw [List.concat_eq_append] at *
    obtain ⟨o1, o2, o3⟩ := ordL_last H.ord
    obtain ⟨f1, f2⟩ := H.far y (by simp)
    have ho : y.o = false := by
      cases ho : y.o with
      | false => rfl
      | true => have := f1 ho; omega
    have f3 := f2 ho hk
    obtain ⟨y1, y2, y3⟩ := partB_closed o2 ho
    by_cases hc : cmpV y.t (nxtI P k).f = 0
    · rw [joinL_old ⟨ho, hc⟩]
      have hyt : y.t = P[k] := by rw [hxf] at hc; exact (goodV.zero _ _).1 hc
      refine ⟨ordL_snoc o1 ?_ fun z hz => ?_, hmem _ fun u => ?_, fun z hz => by simp at hz; subst hz; exact hfar y.f _ rfl⟩
      · unfold partB
        by_cases hno : (nxtI P k).o = true
        · obtain ⟨_, hz⟩ := partB_open hp hno
          simp [hno, hz, y1]
        · obtain ⟨_, hz, hz2⟩ := partB_closed hp (by simpa using hno)
          have : cmpV y.f (nxtI P k).t < 0 := goodV.lt_le y3 (by rw [hyt, ← hxf]; omega)
          simp [hno, hz, y1, this]
      · exact o3 z hz
      · rw [inB_snoc, inB_snoc, Bool.or_assoc]
        congr 1
        rw [Bool.eq_iff_iff, Bool.or_eq_true, inI_iff, inI_iff, inI_iff]
        simp only [ho, hxf, hyt, Bool.false_eq_true, false_or]
        have n1 := goodV.neg u P[k]
        have y4 : cmpV y.f P[k] < 0 := by rw [← hyt]; exact y3
        constructor
        · rintro ⟨a1, a2⟩
          by_cases h2 : cmpV u P[k] < 0
          · exact .inl ⟨a1, h2⟩
          · exact .inr ⟨by omega, a2⟩
        · rintro (⟨a1, a2⟩ | ⟨a1, a2⟩)
          · refine ⟨a1, ?_⟩
            by_cases hno : (nxtI P k).o = true
            · exact .inl hno
            · obtain ⟨_, hz, hz2⟩ := partB_closed hp (by simpa using hno)
              rw [hxf] at hz2
              exact .inr (goodV.lt_le a2 (by omega))
          · exact ⟨by have := goodV.lt_le y4 a1; omega, a2⟩
    · rw [joinL_new (fun hh => hc hh.2)]
      refine ⟨ordL_snoc H.ord hp fun z hz => ?_, hmem _ fun u => inB_snoc _ _ u, fun z hz => by simp at hz; subst hz; exact hfar (nxtI P k).f _ rfl⟩
      simp at hz
      subst hz
      rw [hxf] at hc
      exact sepB_iff.2 ⟨ho, by rw [hxf]; omega⟩
end Go.Proofs.Ytmjokpakekfkfaa
set_option linter.unusedSimpArgs false
set_option linter.unusedVariables false
namespace Go.Proofs.Ytmjokpakekfkfaa
open Go.RowKit

theorem refJoin_calls (base : Nat) (vl vp : Value) (L : List I) (P : List V) (k : Nat) (w : World) (hk : k < P.length) (hpl : P.length ≤ 100000) (hp : RowAt w vp P) (ho : OwnI base w vl L) (hl : L.length ≤ 100000) (hbase : base ≤ w.heap.size) :
    Calls Try.prog 58 #[vl, vp, .int .i64 k] w (JoinOut base (joinL L (nxtI P k)) vl w) := by
  rcases List.eq_nil_or_concat L with rfl | ⟨A, y, rfl⟩
  · rw [joinL_nil]; exact join_nil base vl vp P k w hk hpl hp ho hbase
  · rw [List.concat_eq_append] at *
    have hlA : A.length ≤ 100000 := by simp at hl; omega
    cases hyo : y.o
    · by_cases hc : cmpV y.t (nxtI P k).f = 0
      · rw [joinL_old ⟨hyo, hc⟩]; exact join_near base vl vp P k w hk hpl hp A y ho hlA hyo hc hbase
      · rw [joinL_new (fun hh => hc hh.2)]; exact join_far base vl vp P k w hk hpl hp A y ho hlA hyo hc hbase
    · rw [joinL_new (fun hh => by rw [hyo] at hh; cases hh.1)]; exact join_open base vl vp P k w hk hpl hp A y ho hlA hyo hbase
theorem joinL_len (L : List I) (x : I) : (joinL L x).length ≤ L.length + 1 := by
  rcases List.eq_nil_or_concat L with rfl | ⟨A, y, rfl⟩
  · simp [joinL]
  · rw [List.concat_eq_append]
    by_cases h : y.o = false ∧ cmpV y.t x.f = 0
    · rw [joinL_old h]; simp
    · rw [joinL_new h]; simp
theorem outL_len (f : Bool → Bool → Bool) (a b : List I) (P : List V) (k : Nat) : (outL f a b P k).length ≤ k := by
  induction k with
  | zero => simp [outL]
  | succ k ih =>
    unfold outL
    split
    · have := joinL_len (outL f a b P k) (nxtI P k); omega
    · omega
theorem apply_or (x y : Bool) (w : World) : Calls Try.prog 57 #[.int .i64 1, .bool x, .bool y] w fun e w' => e = .returned (.bool (opOr x y)) ∧ Gro w w' := by
  cases x <;> cases y <;> (go_enter Try.func57, Try.ntmps57; go_wp2; go_ret; exact ⟨rfl, Gro.refl _⟩)
theorem apply_and (x y : Bool) (w : World) : Calls Try.prog 57 #[.int .i64 2, .bool x, .bool y] w fun e w' => e = .returned (.bool (opAnd x y)) ∧ Gro w w' := by
  cases x <;> cases y <;> (go_enter Try.func57, Try.ntmps57; go_wp2; go_ret; exact ⟨rfl, Gro.refl _⟩)
theorem apply_not (x y : Bool) (w : World) : Calls Try.prog 57 #[.int .i64 3, .bool x, .bool y] w fun e w' => e = .returned (.bool (opNot x y)) ∧ Gro w w' := by
  cases x <;> cases y <;> (go_enter Try.func57, Try.ntmps57; go_wp2; go_ret; exact ⟨rfl, Gro.refl _⟩)
def CombOut (f : Bool → Bool → Bool) (a b : List I) (w : World) (e : Ending) (w' : World) : Prop :=
  ∃ v, e = .returned v ∧ OwnI w.heap.size w' v (combL f a b) ∧ Below w.heap.size w w' ∧ OrdL (combL f a b) ∧ (∀ u, inB (combL f a b) u = f (inB a u) (inB b u)) ∧ (combL f a b).length ≤ 2 * (a.length + b.length)
theorem out_step {f : Bool → Bool → Bool} {a b : List I} {P : List V} {k : Nat} (hk : k < P.length) {q : Bool} (h : f (inB a P[k]) (inB b P[k]) = q) : outL f a b P (k + 1) = if q = true then joinL (outL f a b P k) (nxtI P k) else outL f a b P k := by
  subst h
  show (if f (inB a (P.getD k default)) (inB b (P.getD k default)) = true then _ else _) = _
  rw [getDV_at hk]
set_option maxHeartbeats 4000000 in
set_option maxRecDepth 100000 in
theorem refCombine_calls (op : Int) (f : Bool → Bool → Bool) (hff : f false false = false) (hap : ∀ x y w, Calls Try.prog 57 #[.int .i64 op, .bool x, .bool y] w fun e w' => e = .returned (.bool (f x y)) ∧ Gro w w')
    (va vb : Value) (a b : List I) (w : World) (ha : IvAt w va a) (hb : IvAt w vb b) (hla : a.length ≤ 10000) (hlb : b.length ≤ 10000) (hv : ∀ x ∈ edges (a ++ b), validB x = true) :
    Calls Try.prog 33 #[.int .i64 op, va, vb] w (CombOut f a b w) := by
  have mx := mixed
  have HAP := Lib.hid hap
  have hg0 : Gro w (w.alloc (.cells #[va, vb] 23)) := (Gro.refl _).alloc _
  have HP := Lib.hid (refPoints_calls va vb a b w.heap.size (w.alloc (.cells #[va, vb] 23)) (ha.later hg0.below) (hb.later hg0.below) hla hlb (by go_simp) (by go_simp) (by simp))
  have HA := Lib.hid ha
  have HB := Lib.hid hb
  have HV := Lib.hid hv
  have HLS := Lib.hid (And.intro hla hlb)
  clear hg0 hap
  obtain ⟨pa, ca, rfl⟩ := iv_slice' ha
  obtain ⟨pb, cb, rfl⟩ := iv_slice' hb
  clear ha hb hv hla hlb
  go_enter Try.func33, Try.ntmps33
  go_wp2_with fail
  refine HP.out.mono ?_
  rintro e w2 ⟨vp, P, rfl, hpts, hplen, hown, hb2⟩
  have hbw : Below w.heap.size w w2 := ((Below.refl _ _).alloc (Nat.le_refl _) _).trans (hb2.mono (by simp))
  have HBW := Lib.hid hbw
  have hea : EdgesIn a P := edges_in fun e he => (hpts.2 e).2 (by rw [edges_app]; exact List.mem_append_left _ he)
  have heb : EdgesIn b P := edges_in fun e he => (hpts.2 e).2 (by rw [edges_app]; exact List.mem_append_right _ he)
  have hvp : ∀ x ∈ P, validB x = true := fun x hx => HV.out x ((hpts.2 x).1 hx)
  have HEA := Lib.hid hea
  have HEB := Lib.hid heb
  have HVP := Lib.hid hvp
  have HASC := Lib.hid hpts.1
  have hple : P.length ≤ 2 * (a.length + b.length) := Nat.le_trans (asc_sub hpts.1 (fun x hx => (hpts.2 x).1 hx)) (by have := edges_len (a ++ b); simpa using this)
  have HPLE := Lib.hid hple
  have hrow : RowAt w2 vp P := RowAt.of_owned hown (by omega)
  have HROW := Lib.hid hrow
  obtain ⟨ap, cp, rfl⟩ := ownsRow_slice hown
  obtain ⟨N, hN⟩ : ∃ N, P.length = N := ⟨_, rfl⟩
  have HN := Lib.hid hN
  have hNl : N ≤ 100000 := by omega
  have HNL := Lib.hid hNl
  rw [hN]
  clear hbw hea heb hvp hpts hple hrow hown hb2 hplen hN hNl HP HV
  go_wp2_with fail
  go_loopw [8, 17] (fun v c wr => ∃ k : Nat, k ≤ N ∧ c = .int .i64 k ∧ OwnI w2.heap.size wr v (outL f a b P k) ∧ CInv f a b P k (outL f a b P k) ∧ Below w2.heap.size w2 wr) (fun _ c _ => N - (intOf c).toNat)
  case atStart => exact ⟨0, by omega, rfl, World.ownsRow_nil _ _ _ _, cinv_zero hff HASC.out HEA.out HEB.out, Below.refl _ _⟩
  case round =>
    obtain ⟨k, hk, rfl, ho, hci, hb⟩ := hrel
    have HO := Lib.hid ho
    have HCI := Lib.hid hci
    have HB2 := Lib.hid hb
    by_cases hlt : k < N
    · have hkl : k < P.length := by rw [HN.out]; exact hlt
      have HKL := Lib.hid hkl
      have hlt' : decide ((k : Int) < (N : Int)) = true := by simp; omega
      have hwk := step_int k (by have := HNL.out; omega)
      have HK := Lib.hid hlt
      obtain ⟨wo, rfl⟩ : ∃ wo : World, wo = wr := ⟨_, rfl⟩
      obtain ⟨ap', cp', hvv, _, hr2⟩ := HROW.out
      rw [HN.out] at hvv
      simp only [Value.slice.injEq, true_and] at hvv
      obtain ⟨rfl, rfl⟩ := hvv
      obtain ⟨bp, fp, rfl, hr3⟩ := hr2.resolve_left (by rintro rfl; simp at hkl)
      have hrow' := hr3.later hb
      obtain ⟨e0, e1, e2⟩ := hrow'.at_ k hkl
      have hbl := hrow'.blk
      obtain ⟨p, hp⟩ : ∃ p, P[k] = p := ⟨_, rfl⟩
      obtain ⟨q, hq⟩ : ∃ q, f (inB a P[k]) (inB b P[k]) = q := ⟨_, rfl⟩
      have HST := Lib.hid (out_step hkl hq)
      have HQ := Lib.hid hq
      have hlen := outL_len f a b P k
      have HLEN := Lib.hid hlen
      have g0 : wo.cell? ⟨bp, fp + k * 3, none⟩ = some (.int .i64 p.k) := by rw [← hp]; exact e0
      have g1 : wo.cell? ⟨bp, fp + k * 3 + 1, none⟩ = some (.int .i64 p.n) := by rw [← hp]; exact e1
      have g2 : wo.cell? ⟨bp, fp + k * 3 + 2, none⟩ = some (.string p.t) := by rw [← hp]; exact e2
      have hq : f (inB a p) (inB b p) = q := by rw [← hp]; exact hq
      clear e0 e1 e2
      obtain ⟨pk, pn, pt⟩ := p
      simp only at g0 g1 g2
      obtain ⟨qa, hqa⟩ : ∃ qa, inB a ⟨pk, pn, pt⟩ = qa := ⟨_, rfl⟩
      obtain ⟨qb, hqb⟩ : ∃ qb, inB b ⟨pk, pn, pt⟩ = qb := ⟨_, rfl⟩
      rw [hqa, hqb] at hq
      have hca := fun w' h => refIn_calls (.slice pa a.length ca) a ⟨pk, pn, pt⟩ w' h
      have hcb := fun w' h => refIn_calls (.slice pb b.length cb) b ⟨pk, pn, pt⟩ w' h
      have hcp := fun w' => HAP.out qa qb w'
      rw [hqa] at hca
      rw [hqb] at hcb
      rw [hq] at hcp
      have HCA := Lib.hid hca
      have HCB := Lib.hid hcb
      have HCP := Lib.hid hcp
      clear ho hci hb hp hq hqa hqb hca hcb hcp hr2 hr3 hrow' hlen hk
      go_wp2_with fail
      obtain ⟨W, hW⟩ : ∃ W, W = wo.alloc (.cells #[.int .i64 pk, .int .i64 pn, .string pt] 25) := ⟨_, rfl⟩
      rw [← hW]
      have hgW : Gro wo W := by rw [hW]; exact (Gro.refl _).alloc _
      obtain ⟨lx, x0, x1, x2⟩ : wo.heap.size < W.heap.size ∧ W.cell? ⟨wo.heap.size, 0, none⟩ = some (.int .i64 pk) ∧ W.cell? ⟨wo.heap.size, 1, none⟩ = some (.int .i64 pn) ∧ W.cell? ⟨wo.heap.size, 2, none⟩ = some (.string pt) := by
        rw [hW]; exact ⟨by simp, by go_simp, by go_simp, by go_simp⟩
      generalize wo.heap.size = gx at lx x0 x1 x2 ⊢
      have HGW := Lib.hid hgW
      have hww : Below w.heap.size w W := HBW.out.trans ((HB2.out.mono HBW.out.size).trans (hgW.below.mono (Nat.le_trans HBW.out.size HB2.out.size)))
      have HIA : Hid (∀ n os, IvAt (Sort.grow (W.drewN n) os) (.slice pa a.length ca) a) := fun n os => HA.out.later (hww.trans ((((Gro.refl W).grown n os).below).mono hww.size))
      have HIB : Hid (∀ n os, IvAt (Sort.grow (W.drewN n) os) (.slice pb b.length cb) b) := fun n os => HB.out.later (hww.trans ((((Gro.refl W).grown n os).below).mono hww.size))
      clear hW hgW hww g0 g1 g2 hbl
      refine wp_region_quiet_grown mx (by kernel_rfl) ?_
      repeat (go_big_quiet_step ((first | (go_at_call 57; refine gro_calls (HCP.out _)) | (go_at_call_of 45 pa; refine gro_calls (HCA.out _ (HIA.out _ _))) | (go_at_call_of 45 pb; refine gro_calls (HCB.out _ (HIB.out _ _))) | fail)))
      refine wpQuiet_nil ?_
      intro w5 hw5
      obtain ⟨⟨nq, osq⟩, hw6⟩ := hw5
      have hg5 : Gro wo w5 := by rw [hw6]; exact HGW.out.trans ((Gro.refl W).grown nq osq)
      have HG5 := Lib.hid hg5
      have HO5 := Lib.hid (own_later HO.out hg5.below)
      clear hw6 hg5 x0 x1 x2 lx HIA HIB HCA HCB HCP
      have hlt := HK.out
      cases q
      · have HN1 : Hid (outL f a b P (k + 1) = outL f a b P k) := by show _ = _; rw [HST.out, if_neg (by simp)]
        go_wp2
        generalize wrap64 ((k : Int) + 1) = z at hwk ⊢
        subst hwk
        exact ⟨⟨k + 1, by omega, by go_num, by rw [HN1.out]; exact HO5.out, by rw [HN1.out]; exact cinv_skip HASC.out HEA.out HEB.out HKL.out HCI.out HQ.out, HB2.out.trans (HG5.out.below.mono HB2.out.size)⟩, by simp [intOf]; omega⟩
      · have HN1 : Hid (outL f a b P (k + 1) = joinL (outL f a b P k) (nxtI P k)) := by show _ = _; rw [HST.out, if_pos rfl]
        have hrow5 : RowAt w5 (.slice (some ⟨bp, fp, none⟩) N cp) P := by have := HROW.out.later (HB2.out.trans (HG5.out.below.mono HB2.out.size)); rw [HN.out] at this; exact this
        have HJ := Lib.hid (refJoin_calls w2.heap.size u8 (.slice (some ⟨bp, fp, none⟩) N cp) (outL f a b P k) P k w5 HKL.out (by have := HNL.out; have := HN.out; omega) hrow5 HO5.out (by have := HLEN.out; have := HNL.out; omega) (Nat.le_trans HB2.out.size HG5.out.size))
        clear hrow5
        go_wp2_with fail
        refine HJ.out.mono ?_
        rintro e w7 ⟨v7, rfl, hown7, hg7⟩
        have HO7 := Lib.hid hown7
        have HB7 : Hid (Below w2.heap.size w2 w7) := (HB2.out.trans (HG5.out.below.mono HB2.out.size)).grown hg7 (Nat.le_trans HB2.out.size HG5.out.size) (fun k hk => (HO5.out.lt k hk).1)
        clear hown7 hg7
        go_wp2
        generalize wrap64 ((k : Int) + 1) = z at hwk ⊢
        subst hwk
        exact ⟨⟨k + 1, by omega, by go_num, by rw [HN1.out]; exact HO7.out, by rw [HN1.out]; exact cinv_join HASC.out HVP.out HEA.out HEB.out HKL.out HCI.out HQ.out, HB7.out⟩, by simp [intOf]; omega⟩
    · have hlt' : decide ((k : Int) < (N : Int)) = false := by simp; omega
      have hmem : ∀ u, inB (outL f a b P k) u = f (inB a u) (inB b u) := fun u => by
        rw [hci.mem u, upTo_iff.2 (fun h => by have := HN.out; omega), Bool.true_and]
      have he : outL f a b P k = combL f a b := combL_is hci.ord hmem
      have hlen := outL_len f a b P k
      rw [he] at ho hmem hlen
      have hord : OrdL (combL f a b) := by rw [← he]; exact hci.ord
      have HF : Hid (OwnI w.heap.size wr u8 (combL f a b)) := ownsRow_mono ho HBW.out.size
      have HM := Lib.hid hmem
      have HOR := Lib.hid hord
      have HL2 : Hid ((combL f a b).length ≤ 2 * (a.length + b.length)) := by show _ ≤ _; have := HPLE.out; have := HN.out; omega
      clear ho hci hmem he hlen hord hb
      go_wp2
      go_ret
      exact ⟨_, rfl, HF.out, HBW.out.trans (HB2.out.mono HBW.out.size), HOR.out, HM.out, HL2.out⟩
end Go.Proofs.Ytmjokpakekfkfaa
