/- The contract of the reference's Combine: its result is the canonical list of what it should contain. -/
import Derived.Test.YtmjokpakekfkfaaVx
import Derived.Test.YtmjokpakekfkfaaVp
import Derived.Test.YtmjokpakekfkfaaVr
set_option linter.unusedSimpArgs false
set_option linter.unusedVariables false
namespace Go.Proofs.Ytmjokpakekfkfaa
open Go.RowKit

theorem ordL_snoc {A : List I} {y : I} (h : OrdL A) (hy : partB y = true) (hs : ∀ z, A.getLast? = some z → sepB z y = true) : OrdL (A ++ [y]) := by
  induction h with
  | nil => exact .one hy
  | one hx => exact .cons hx (hs _ (by simp)) (.one hy)
  | cons hx hxy hl ih => exact .cons hx hxy (ih (fun z hz => hs z (by simpa using hz)))
theorem ordL_last {A : List I} {y : I} (h : OrdL (A ++ [y])) : OrdL A ∧ partB y = true ∧ ∀ z, A.getLast? = some z → sepB z y = true := by
  induction A with
  | nil => exact ⟨.nil, by cases h; assumption, by intro z hz; simp at hz⟩
  | cons x A ih =>
    obtain ⟨h1, h2, h3⟩ := ih h.tail
    cases A with
    | nil =>
      cases h with
      | cons hx hs hl => exact ⟨.one hx, h2, by intro z hz; simp at hz; subst hz; exact hs⟩
    | cons x' A =>
      cases h with
      | cons hx hs hl => exact ⟨.cons hx hs h1, h2, by intro z hz; exact h3 z (by simpa using hz)⟩
theorem inB_snoc (A : List I) (y : I) (u : V) : inB (A ++ [y]) u = (inB A u || inI y u) := by simp [inB]

/-! ### between two points nothing changes -/
theorem pts_lt {P : List V} (h : AscV P) {i j : Nat} (hi : i < P.length) (hj : j < P.length) (hij : i < j) : cmpV P[i] P[j] < 0 := List.pairwise_iff_getElem.1 h i j hi hj hij
theorem pts_le {P : List V} (h : AscV P) {i j : Nat} (hi : i < P.length) (hj : j < P.length) (hij : i ≤ j) : cmpV P[i] P[j] ≤ 0 := by
  rcases Nat.lt_or_ge i j with h1 | h1
  · have := pts_lt h hi hj h1; omega
  · obtain rfl : i = j := by omega
    rw [goodV.self]; omega
/-- u lies at or above point k, and below the next. -/
def Here (P : List V) (k : Nat) (hk : k < P.length) (u : V) : Prop := cmpV P[k] u ≤ 0 ∧ ∀ h : k + 1 < P.length, cmpV u (P[k + 1]) < 0
theorem here_le {P : List V} (h : AscV P) {k : Nat} {hk : k < P.length} {u e : V} (hu : Here P k hk u) (he : e ∈ P) : cmpV e u ≤ 0 ↔ cmpV e P[k] ≤ 0 := by
  obtain ⟨i, hi, rfl⟩ := List.getElem_of_mem he
  rcases Nat.lt_or_ge k i with h1 | h1
  · have h2 : k + 1 < P.length := by omega
    have h3 := hu.2 h2
    have h4 := pts_le h h2 hi h1
    have h5 := pts_lt h hk hi h1
    have h6 := goodV.lt_le h3 h4
    have n1 := goodV.neg u P[i]
    have n2 := goodV.neg P[k] P[i]
    constructor <;> intro h7 <;> omega
  · have h2 := pts_le h hi hk h1
    exact ⟨fun _ => h2, fun _ => goodV.trans _ _ _ h2 hu.1⟩
theorem here_inI {P : List V} (h : AscV P) {k : Nat} {hk : k < P.length} {u : V} (hu : Here P k hk u) {x : I} (hf : x.f ∈ P) (ht : x.o = false → x.t ∈ P) : inI x u = inI x P[k] := by
  rw [Bool.eq_iff_iff, inI_iff, inI_iff, here_le h hu hf]
  cases ho : x.o
  · have h1 := here_le h hu (ht ho)
    have n1 := goodV.neg u x.t
    have n2 := goodV.neg P[k] x.t
    constructor
    · rintro ⟨a, b⟩
      refine ⟨a, .inr ?_⟩
      have b := b.resolve_left (by simp)
      have : ¬ cmpV x.t u ≤ 0 := by omega
      rw [h1] at this
      omega
    · rintro ⟨a, b⟩
      refine ⟨a, .inr ?_⟩
      have b := b.resolve_left (by simp)
      have : ¬ cmpV x.t P[k] ≤ 0 := by omega
      rw [← h1] at this
      omega
  · simp
def EdgesIn (l : List I) (P : List V) : Prop := ∀ x ∈ l, x.f ∈ P ∧ (x.o = false → x.t ∈ P)
theorem edges_in {l : List I} {P : List V} (h : ∀ e ∈ edges l, e ∈ P) : EdgesIn l P := fun x hx => ⟨h _ (mem_edges.2 ⟨x, hx, .inl rfl⟩), fun ho => h _ (mem_edges.2 ⟨x, hx, .inr ⟨ho, rfl⟩⟩)⟩
theorem here_inB {P : List V} (h : AscV P) {k : Nat} {hk : k < P.length} {u : V} (hu : Here P k hk u) {l : List I} (hl : EdgesIn l P) : inB l u = inB l P[k] := by
  induction l with
  | nil => rfl
  | cons x l ih =>
    have h1 := here_inI h hu (hl x (by simp)).1 (hl x (by simp)).2
    have h2 := ih (fun y hy => hl y (List.mem_cons_of_mem _ hy))
    simp only [inB, List.any_cons] at h2 ⊢
    rw [h1, h2]
theorem below_inB {P : List V} (h : AscV P) {u : V} (hu : ∀ hk : 0 < P.length, cmpV u P[0] < 0) {l : List I} (hl : EdgesIn l P) : inB l u = false := by
  cases hb : inB l u with
  | false => rfl
  | true =>
    obtain ⟨x, hx, hi⟩ := inB_iff.1 hb
    obtain ⟨i, hi', hxi⟩ := List.getElem_of_mem (hl x hx).1
    have h1 := hu (by omega)
    have h2 := pts_le h (by omega) hi' (Nat.zero_le i)
    rw [hxi] at h2
    have h3 := goodV.lt_le h1 h2
    have h4 := (inI_iff.1 hi).1
    have h5 := goodV.neg u x.f
    omega

/-! ### the list behind k points -/
noncomputable def outL (f : Bool → Bool → Bool) (a b : List I) (P : List V) : Nat → List I
  | 0 => []
  | k + 1 => if f (inB a (P.getD k default)) (inB b (P.getD k default)) = true then joinL (outL f a b P k) (nxtI P k) else outL f a b P k
/-- u lies below point k, or there is none. -/
def upTo (P : List V) (k : Nat) (u : V) : Bool := decide (P.length ≤ k) || decide (cmpV u (P.getD k default) < 0)
structure CInv (f : Bool → Bool → Bool) (a b : List I) (P : List V) (k : Nat) (L : List I) : Prop where
  ord : OrdL L
  mem : ∀ u, inB L u = (upTo P k u && f (inB a u) (inB b u))
  far : ∀ y, L.getLast? = some y → (y.o = true → P.length ≤ k) ∧ (y.o = false → ∀ h : k < P.length, cmpV y.t P[k] ≤ 0)
theorem nxt_part {P : List V} (h : AscV P) (hv : ∀ x ∈ P, validB x = true) {k : Nat} (hk : k < P.length) : partB (nxtI P k) = true := by
  by_cases hl : k + 1 = P.length
  · rw [nxt_last hk hl]; unfold partB; rw [if_pos rfl]; simp [hv _ (List.getElem_mem hk)]
  · have hl' : k + 1 < P.length := by omega
    rw [nxt_mid hl']; unfold partB; rw [if_neg (by simp)]; simp [hv _ (List.getElem_mem hk), hv _ (List.getElem_mem hl'), pts_lt h hk hl' (by omega)]
theorem nxt_in {P : List V} {k : Nat} (hk : k < P.length) (u : V) : inI (nxtI P k) u = true ↔ Here P k hk u := by
  rw [inI_iff]
  by_cases hl : k + 1 = P.length
  · rw [nxt_last hk hl]
    exact ⟨fun h => ⟨h.1, fun h' => by omega⟩, fun h => ⟨h.1, .inl rfl⟩⟩
  · have hl' : k + 1 < P.length := by omega
    rw [nxt_mid hl']
    exact ⟨fun h => ⟨h.1, fun _ => h.2.resolve_left (by simp)⟩, fun h => ⟨h.1, .inr (h.2 hl')⟩⟩
theorem upTo_iff {P : List V} {k : Nat} {u : V} : upTo P k u = true ↔ ∀ h : k < P.length, cmpV u P[k] < 0 := by
  unfold upTo
  by_cases hk : k < P.length
  · have : ¬ P.length ≤ k := by omega
    simp [this, hk]
  · have : P.length ≤ k := by omega
    simp [this]
    intro h
    omega
/-- One point further: what lies below the next is what lies below this, and what lies here. -/
theorem upTo_next {P : List V} (h : AscV P) {k : Nat} (hk : k < P.length) (u : V) : upTo P (k + 1) u = true ↔ upTo P k u = true ∨ Here P k hk u := by
  rw [upTo_iff, upTo_iff]
  have n1 := goodV.neg u P[k]
  constructor
  · intro h1
    by_cases h2 : cmpV u P[k] < 0
    · exact .inl fun _ => h2
    · exact .inr ⟨by omega, h1⟩
  · rintro (h1 | h1)
    · intro h'
      exact goodV.lt_le (h1 hk) (by have := pts_lt h hk h' (by omega); omega)
    · exact h1.2
theorem cinv_zero {f : Bool → Bool → Bool} {a b : List I} {P : List V} (hf : f false false = false) (h : AscV P) (ha : EdgesIn a P) (hb : EdgesIn b P) : CInv f a b P 0 [] := by
  refine ⟨.nil, fun u => ?_, fun y hy => by simp at hy⟩
  cases hu : upTo P 0 u with
  | false => simp [inB]
  | true =>
    have h1 := upTo_iff.1 hu
    rw [below_inB h h1 ha, below_inB h h1 hb, hf]
    simp [inB]
theorem cinv_skip {f : Bool → Bool → Bool} {a b : List I} {P : List V} {k : Nat} {L : List I} (h : AscV P) (ha : EdgesIn a P) (hb : EdgesIn b P) (hk : k < P.length) (H : CInv f a b P k L)
    (hn : f (inB a P[k]) (inB b P[k]) = false) : CInv f a b P (k + 1) L := by
  refine ⟨H.ord, fun u => ?_, fun y hy => ⟨fun ho => by have := (H.far y hy).1 ho; omega, fun ho h' => goodV.trans _ _ _ ((H.far y hy).2 ho hk) (by have := pts_lt h hk h' (by omega); omega)⟩⟩
  rw [H.mem u]
  have h1 := upTo_next h hk u
  cases hu : upTo P k u with
  | true => rw [h1.2 (.inl hu)]
  | false =>
    by_cases hh : Here P k hk u
    · rw [h1.2 (.inr hh), here_inB h hh ha, here_inB h hh hb, hn]; rfl
    · cases h2 : upTo P (k + 1) u with
      | false => rfl
      | true =>
        rcases h1.1 h2 with h3 | h3
        · rw [h3] at hu; cases hu
        · exact absurd h3 hh
theorem cinv_join {f : Bool → Bool → Bool} {a b : List I} {P : List V} {k : Nat} {L : List I} (h : AscV P) (hv : ∀ x ∈ P, validB x = true) (ha : EdgesIn a P) (hb : EdgesIn b P) (hk : k < P.length) (H : CInv f a b P k L)
    (hn : f (inB a P[k]) (inB b P[k]) = true) : CInv f a b P (k + 1) (joinL L (nxtI P k)) := by
  have hp := nxt_part h hv hk
  have hxf : (nxtI P k).f = P[k] := by
    by_cases hl : k + 1 = P.length
    · rw [nxt_last hk hl]
    · rw [nxt_mid (by omega)]
  have hmem : ∀ M : List I, (∀ u, inB M u = (inB L u || inI (nxtI P k) u)) → ∀ u, inB M u = (upTo P (k + 1) u && f (inB a u) (inB b u)) := fun M hM u => by
    rw [hM u, H.mem u]
    have h1 := upTo_next h hk u
    have h2 := nxt_in hk u
    by_cases hh : Here P k hk u
    · rw [h2.2 hh, h1.2 (.inr hh), here_inB h hh ha, here_inB h hh hb, hn]; simp
    · have h3 : inI (nxtI P k) u = false := by cases hx : inI (nxtI P k) u with
        | false => rfl
        | true => exact absurd (h2.1 hx) hh
      rw [h3, Bool.or_false]
      cases hu : upTo P k u with
      | true => rw [h1.2 (.inl hu)]
      | false => cases h4 : upTo P (k + 1) u with
        | false => rfl
        | true => rcases h1.1 h4 with h5 | h5
                  · rw [h5] at hu; cases hu
                  · exact absurd h5 hh
  have hfar : ∀ z : V, ∀ y : I, y = ⟨z, (nxtI P k).t, (nxtI P k).o⟩ → (y.o = true → P.length ≤ k + 1) ∧ (y.o = false → ∀ h : k + 1 < P.length, cmpV y.t P[k + 1] ≤ 0) := fun z y hy => by
    subst hy
    by_cases hl : k + 1 = P.length
    · rw [nxt_last hk hl]; exact ⟨fun _ => by omega, fun ho => by cases ho⟩
    · have hl' : k + 1 < P.length := by omega
      rw [nxt_mid hl']; exact ⟨(fun ho => by cases ho), fun _ _ => by rw [goodV.self]; omega⟩
  rcases List.eq_nil_or_concat L with rfl | ⟨A, y, rfl⟩
  · rw [joinL_nil]
    exact ⟨.one hp, hmem _ fun u => by simp [inB], fun y hy => by simp at hy; subst hy; exact hfar (nxtI P k).f _ rfl⟩
  · rw [List.concat_eq_append] at *
    obtain ⟨o1, o2, o3⟩ := ordL_last H.ord
    obtain ⟨f1, f2⟩ := H.far y (by simp)
    have ho : y.o = false := by
      cases ho : y.o with
      | false => rfl
      | true => have := f1 ho; omega
    have f3 := f2 ho hk
    obtain ⟨y1, y2, y3⟩ := partB_closed o2 ho
    by_cases hc : cmpV y.t (nxtI P k).f = 0
    · rw [joinL_old ⟨ho, hc⟩]
      have hyt : y.t = P[k] := by rw [hxf] at hc; exact (goodV.zero _ _).1 hc
      refine ⟨ordL_snoc o1 ?_ fun z hz => ?_, hmem _ fun u => ?_, fun z hz => by simp at hz; subst hz; exact hfar y.f _ rfl⟩
      · unfold partB
        by_cases hno : (nxtI P k).o = true
        · obtain ⟨_, hz⟩ := partB_open hp hno
          simp [hno, hz, y1]
        · obtain ⟨_, hz, hz2⟩ := partB_closed hp (by simpa using hno)
          have : cmpV y.f (nxtI P k).t < 0 := goodV.lt_le y3 (by rw [hyt, ← hxf]; omega)
          simp [hno, hz, y1, this]
      · exact o3 z hz
      · rw [inB_snoc, inB_snoc, Bool.or_assoc]
        congr 1
        rw [Bool.eq_iff_iff, Bool.or_eq_true, inI_iff, inI_iff, inI_iff]
        simp only [ho, hxf, hyt, Bool.false_eq_true, false_or]
        have n1 := goodV.neg u P[k]
        have y4 : cmpV y.f P[k] < 0 := by rw [← hyt]; exact y3
        constructor
        · rintro ⟨a1, a2⟩
          by_cases h2 : cmpV u P[k] < 0
          · exact .inl ⟨a1, h2⟩
          · exact .inr ⟨by omega, a2⟩
        · rintro (⟨a1, a2⟩ | ⟨a1, a2⟩)
          · refine ⟨a1, ?_⟩
            by_cases hno : (nxtI P k).o = true
            · exact .inl hno
            · obtain ⟨_, hz, hz2⟩ := partB_closed hp (by simpa using hno)
              rw [hxf] at hz2
              exact .inr (goodV.lt_le a2 (by omega))
          · exact ⟨by have := goodV.lt_le y4 a1; omega, a2⟩
    · rw [joinL_new (fun hh => hc hh.2)]
      refine ⟨ordL_snoc H.ord hp fun z hz => ?_, hmem _ fun u => inB_snoc _ _ u, fun z hz => by simp at hz; subst hz; exact hfar (nxtI P k).f _ rfl⟩
      simp at hz
      subst hz
      rw [hxf] at hc
      exact sepB_iff.2 ⟨ho, by rw [hxf]; omega⟩
end Go.Proofs.Ytmjokpakekfkfaa
