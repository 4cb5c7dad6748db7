/- The contracts of interval.combine, Union, Intersect, Minus, Complement and Covers. -/
import Derived.Test.YtmjokpakekfkfaaVo
import Derived.Test.YtmjokpakekfkfaaVd
import Derived.Test.YtmjokpakekfkfaaVi
set_option linter.unusedSimpArgs false
set_option linter.unusedVariables false
namespace Go.Proofs.Ytmjokpakekfkfaa
open Go.RowKit

/-- The one canonical list of the values that are chosen. -/
noncomputable def combL (op : Bool → Bool → Bool) (a b : List I) : List I := @Classical.epsilon (List I) ⟨[]⟩ (fun L => OrdL L ∧ ∀ u, inB L u = op (inB a u) (inB b u))
theorem combL_is {op : Bool → Bool → Bool} {a b L : List I} (h1 : OrdL L) (h2 : ∀ u, inB L u = op (inB a u) (inB b u)) : L = combL op a b := by
  have := @Classical.epsilon_spec (List I) (fun L => OrdL L ∧ ∀ u, inB L u = op (inB a u) (inB b u)) ⟨L, h1, h2⟩
  exact OrdL.unique h1 this.1 fun v _ => by rw [h2 v]; exact (this.2 v).symm
theorem combL_ord {op : Bool → Bool → Bool} {a b : List I} (h : ∃ L, OrdL L ∧ ∀ u, inB L u = op (inB a u) (inB b u)) : OrdL (combL op a b) ∧ ∀ u, inB (combL op a b) u = op (inB a u) (inB b u) :=
  @Classical.epsilon_spec (List I) (fun L => OrdL L ∧ ∀ u, inB L u = op (inB a u) (inB b u)) h
theorem canon_ord {l : List I} (h : canonB l = true) : OrdL l ∧ l.length ≤ 64 := by
  unfold canonB at h
  simp at h
  exact ⟨ord_iff.1 (ordB_iff.1 h.2), h.1⟩
theorem canon_of {l : List I} (h : OrdL l) (hl : l.length ≤ 64) : canonB l = true := by unfold canonB; simp [hl, ordB_iff.2 (ord_iff.2 h)]
noncomputable def doL (op : Bool → Bool → Bool) (a b : List I) : List I := if canonB a = true ∧ canonB b = true ∧ (combL op a b).length ≤ 64 then combL op a b else []
noncomputable def doE (op : Bool → Bool → Bool) (a b : List I) : Int := if canonB a = true ∧ canonB b = true then (if (combL op a b).length ≤ 64 then 0 else 2) else 30
def MakeB (l : List I) (err : Int) (w : World) (e : Ending) (w' : World) : Prop := ∃ (a : Option Addr) (cap : Nat), e = .returned (.tuple #[.slice a l.length cap, .int .i64 err]) ∧ IvAt w' (.slice a l.length cap) l ∧ Below w.heap.size w w'
theorem makeB_nil {err : Int} {w w' : World} {u : Value} (hu : u = .tuple #[.slice none 0 0, .int .i64 err]) (h : Below w.heap.size w w') : MakeB [] err w (.returned u) w' := by subst hu; exact ⟨_, _, rfl, iv_nil _, h⟩
theorem makeB_done {l : List I} {err : Int} {w w' : World} {u : Value} {a : Option Addr} {n cap : Nat} (hu : u = .tuple #[.slice a n cap, .int .i64 err]) (hn : l.length = n) (h : IvAt w' (.slice a n cap) l) (hg : Below w.heap.size w w') : MakeB l err w (.returned u) w' := by subst hu hn; exact ⟨_, _, rfl, h, hg⟩
theorem MakeB.from_ {l : List I} {err : Int} {w w0 : World} {e : Ending} {w' : World} (h : MakeB l err w e w') (hw : Below w0.heap.size w0 w) : MakeB l err w0 e w' := by
  obtain ⟨a, cap, h1, h2, h3⟩ := h
  exact ⟨a, cap, h1, h2, hw.trans (h3.mono hw.size)⟩
theorem iv_slice {w : World} {v : Value} {l : List I} (h : IvAt w v l) : ∃ a cap, v = .slice a l.length cap := let ⟨a, cap, h1, _⟩ := h; ⟨a, cap, h1⟩
/-- A list that is both readable and owned. -/
structure IvO (base : Nat) (w : World) (v : Value) (l : List I) : Prop where
  at_ : IvAt w v l
  own : OwnI base w v l
theorem IvO.mono {b b' : Nat} {w : World} {v : Value} {l : List I} (h : IvO b w v l) (hb : b' ≤ b) : IvO b' w v l := ⟨h.at_, ownsRow_mono h.own hb⟩
theorem ivO_nil (b : Nat) (w : World) : IvO b w (.slice none 0 0) [] := ⟨iv_nil _, World.ownsRow_nil _ _ _ _⟩
/-- A list that the call has made, and an error. -/
def MakeO (l : List I) (err : Int) (w : World) (e : Ending) (w' : World) : Prop := ∃ (a : Option Addr) (cap : Nat), e = .returned (.tuple #[.slice a l.length cap, .int .i64 err]) ∧ IvO w.heap.size w' (.slice a l.length cap) l ∧ Below w.heap.size w w'
theorem MakeO.b {l : List I} {err : Int} {w : World} {e : Ending} {w' : World} (h : MakeO l err w e w') : MakeB l err w e w' := let ⟨a, cap, h1, h2, h3⟩ := h; ⟨a, cap, h1, h2.at_, h3⟩
theorem makeO_nil {err : Int} {w w' : World} {u : Value} (hu : u = .tuple #[.slice none 0 0, .int .i64 err]) (h : Below w.heap.size w w') : MakeO [] err w (.returned u) w' := by subst hu; exact ⟨_, _, rfl, ivO_nil _ _, h⟩
theorem makeO_done {l : List I} {err : Int} {w w' : World} {u : Value} {a : Option Addr} {n cap : Nat} (hu : u = .tuple #[.slice a n cap, .int .i64 err]) (hn : l.length = n) (h : IvO w.heap.size w' (.slice a n cap) l) (hg : Below w.heap.size w w') : MakeO l err w (.returned u) w' := by subst hu hn; exact ⟨_, _, rfl, h, hg⟩
def opOr (a b : Bool) : Bool := a || b
def opAnd (a b : Bool) : Bool := a && b
def opNot (a b : Bool) : Bool := a && !b
set_option maxHeartbeats 1000000 in
theorem combine_or_calls (va vb : Value) (a b : List I) (w : World) (ha : IvAt w va a) (hb : IvAt w vb b) : Calls Try.prog 50 #[va, vb, .func (.func 51) #[] #[]] w (MakeO (doL opOr a b) (doE opOr a b) w) := by
  have HA := Lib.hid ha
  have HB := Lib.hid hb
  have HV1 := Lib.hid (ivalid_calls va a w ha)
  cases ca : canonB a
  · have HL : Hid (doL opOr a b = [] ∧ doE opOr a b = 30) := by show _ ∧ _; simp [doL, doE, ca]
    rw [HL.out.1, HL.out.2]
    rw [ca] at HV1
    clear ha hb ca
    go_enter Try.func50, Try.ntmps50
    go_wp2_with fail
    refine HV1.out.mono ?_
    rintro e w2 ⟨rfl, hg⟩
    have HG := Lib.hid hg.below
    clear hg
    go_wp2
    go_ret2
    exact makeO_nil rfl HG.out
  cases cb : canonB b
  · have HL : Hid (doL opOr a b = [] ∧ doE opOr a b = 30) := by show _ ∧ _; simp [doL, doE, cb]
    rw [HL.out.1, HL.out.2]
    rw [ca] at HV1
    have CB := Lib.hid cb
    clear ha hb ca cb
    go_enter Try.func50, Try.ntmps50
    go_wp2_with fail
    refine HV1.out.mono ?_
    rintro e w2 ⟨rfl, hg⟩
    have HG := Lib.hid hg.below
    have hv2 := ivalid_calls vb b w2 (HB.out.later HG.out)
    rw [CB.out] at hv2
    have HV2 := Lib.hid hv2
    clear hg hv2
    go_wp2_with fail
    refine HV2.out.mono ?_
    rintro e w3 ⟨rfl, hg⟩
    have HG3 := Lib.hid (HG.out.trans (hg.below.mono HG.out.size))
    clear hg
    go_wp2
    go_ret2
    exact makeO_nil rfl HG3.out
  obtain ⟨o1, o2⟩ := canon_ord ca
  obtain ⟨p1, p2⟩ := canon_ord cb
  rw [ca] at HV1
  have CA := Lib.hid ca
  have CB := Lib.hid cb
  have O := Lib.hid (And.intro (And.intro o1 o2) (And.intro p1 p2))
  obtain ⟨L0, hL0⟩ : ∃ L0, doL opOr a b = L0 := ⟨_, rfl⟩
  obtain ⟨E0, hE0⟩ : ∃ E0, doE opOr a b = E0 := ⟨_, rfl⟩
  rw [hL0, hE0]
  have HL0 := Lib.hid hL0
  have HE0 := Lib.hid hE0
  clear ha hb ca cb o1 o2 p1 p2 hL0 hE0
  go_enter Try.func50, Try.ntmps50
  go_wp2_with fail
  refine HV1.out.mono ?_
  rintro e w2 ⟨rfl, hg⟩
  have HG := Lib.hid hg.below
  have hv2 := ivalid_calls vb b w2 (HB.out.later HG.out)
  rw [CB.out] at hv2
  have HV2 := Lib.hid hv2
  clear hg hv2
  go_wp2_with fail
  refine HV2.out.mono ?_
  rintro e w3 ⟨rfl, hg⟩
  have HG3 := Lib.hid (HG.out.trans (hg.below.mono HG.out.size))
  have HM := Lib.hid (merge_or opOr (by rfl) union_fn va vb a b w3 (HA.out.later HG3.out) (HB.out.later HG3.out) O.out.1.1 O.out.2.1 (by have := O.out.1.2; omega) (by have := O.out.2.2; omega))
  clear hg
  go_wp2_with fail
  refine HM.out.mono ?_
  rintro e w4 ⟨v4, L, rfl, hl1, hl2, hl3, hl4, hb4⟩
  have hLe : L = combL opOr a b := combL_is hl1 hl2
  have hll : L.length ≤ 1000 := by have := O.out.1.2; have := O.out.2.2; omega
  have hiv : IvO w.heap.size w4 v4 L := ⟨hl3.at_ (by omega), ownsRow_mono hl3 HG3.out.size⟩
  obtain ⟨a4, c4, rfl⟩ := iv_slice hiv.at_
  have HIV := Lib.hid hiv
  have HB4 := Lib.hid (HG3.out.trans (hb4.mono HG3.out.size))
  have HLE := Lib.hid hLe
  generalize hn : L.length = n at hll HIV ⊢
  have HN := Lib.hid hn
  clear hl1 hl2 hl3 hl4 hb4 hiv hLe hn HM HV2
  by_cases h64 : n ≤ 64
  · have d1 : decide ((64 : Int) < (n : Int)) = false := by simp; omega
    have e1 : L0 = L := by rw [← HL0.out]; unfold doL; rw [if_pos ⟨CA.out, CB.out, by rw [← HLE.out, HN.out]; exact h64⟩, HLE.out]
    have e2 : E0 = 0 := by rw [← HE0.out]; unfold doE; rw [if_pos ⟨CA.out, CB.out⟩, if_pos (by rw [← HLE.out, HN.out]; exact h64)]
    subst e1 e2
    go_wp2
    go_ret2
    exact makeO_done rfl HN.out HIV.out HB4.out
  · have d1 : decide ((64 : Int) < (n : Int)) = true := by simp; omega
    have e1 : L0 = [] := by rw [← HL0.out]; unfold doL; rw [if_neg (by rintro ⟨-, -, h⟩; rw [← HLE.out, HN.out] at h; exact h64 h)]
    have e2 : E0 = 2 := by rw [← HE0.out]; unfold doE; rw [if_pos ⟨CA.out, CB.out⟩, if_neg (by rw [← HLE.out, HN.out]; exact h64)]
    subst e1 e2
    go_wp2
    go_ret2
    exact makeO_nil rfl HB4.out
theorem Union_own (va vb : Value) (a b : List I) (w : World) (ha : IvAt w va a) (hb : IvAt w vb b) : Calls Try.prog 20 #[va, vb] w (MakeO (doL opOr a b) (doE opOr a b) w) := by
  have HC := Lib.hid (combine_or_calls va vb a b w ha hb)
  obtain ⟨L0, hL0⟩ : ∃ L0, doL opOr a b = L0 := ⟨_, rfl⟩
  rw [hL0] at HC ⊢
  generalize doE opOr a b = E0 at HC ⊢
  clear ha hb hL0
  go_enter Try.func20, Try.ntmps20
  go_wp2_with fail
  refine HC.out.mono ?_
  rintro e w4 ⟨a4, c4, rfl, hiv, hb4⟩
  have HIV := Lib.hid hiv
  have HB4 := Lib.hid hb4
  generalize hn : L0.length = n at HIV ⊢
  have HN := Lib.hid hn
  clear hiv hb4 hn HC
  go_wp2
  go_ret2
  exact makeO_done rfl HN.out HIV.out HB4.out
set_option maxHeartbeats 1000000 in
theorem combine_and_calls (va vb : Value) (a b : List I) (w : World) (ha : IvAt w va a) (hb : IvAt w vb b) : Calls Try.prog 50 #[va, vb, .func (.func 52) #[] #[]] w (MakeO (doL opAnd a b) (doE opAnd a b) w) := by
  have HA := Lib.hid ha
  have HB := Lib.hid hb
  have HV1 := Lib.hid (ivalid_calls va a w ha)
  cases ca : canonB a
  · have HL : Hid (doL opAnd a b = [] ∧ doE opAnd a b = 30) := by show _ ∧ _; simp [doL, doE, ca]
    rw [HL.out.1, HL.out.2]
    rw [ca] at HV1
    clear ha hb ca
    go_enter Try.func50, Try.ntmps50
    go_wp2_with fail
    refine HV1.out.mono ?_
    rintro e w2 ⟨rfl, hg⟩
    have HG := Lib.hid hg.below
    clear hg
    go_wp2
    go_ret2
    exact makeO_nil rfl HG.out
  cases cb : canonB b
  · have HL : Hid (doL opAnd a b = [] ∧ doE opAnd a b = 30) := by show _ ∧ _; simp [doL, doE, cb]
    rw [HL.out.1, HL.out.2]
    rw [ca] at HV1
    have CB := Lib.hid cb
    clear ha hb ca cb
    go_enter Try.func50, Try.ntmps50
    go_wp2_with fail
    refine HV1.out.mono ?_
    rintro e w2 ⟨rfl, hg⟩
    have HG := Lib.hid hg.below
    have hv2 := ivalid_calls vb b w2 (HB.out.later HG.out)
    rw [CB.out] at hv2
    have HV2 := Lib.hid hv2
    clear hg hv2
    go_wp2_with fail
    refine HV2.out.mono ?_
    rintro e w3 ⟨rfl, hg⟩
    have HG3 := Lib.hid (HG.out.trans (hg.below.mono HG.out.size))
    clear hg
    go_wp2
    go_ret2
    exact makeO_nil rfl HG3.out
  obtain ⟨o1, o2⟩ := canon_ord ca
  obtain ⟨p1, p2⟩ := canon_ord cb
  rw [ca] at HV1
  have CA := Lib.hid ca
  have CB := Lib.hid cb
  have O := Lib.hid (And.intro (And.intro o1 o2) (And.intro p1 p2))
  obtain ⟨L0, hL0⟩ : ∃ L0, doL opAnd a b = L0 := ⟨_, rfl⟩
  obtain ⟨E0, hE0⟩ : ∃ E0, doE opAnd a b = E0 := ⟨_, rfl⟩
  rw [hL0, hE0]
  have HL0 := Lib.hid hL0
  have HE0 := Lib.hid hE0
  clear ha hb ca cb o1 o2 p1 p2 hL0 hE0
  go_enter Try.func50, Try.ntmps50
  go_wp2_with fail
  refine HV1.out.mono ?_
  rintro e w2 ⟨rfl, hg⟩
  have HG := Lib.hid hg.below
  have hv2 := ivalid_calls vb b w2 (HB.out.later HG.out)
  rw [CB.out] at hv2
  have HV2 := Lib.hid hv2
  clear hg hv2
  go_wp2_with fail
  refine HV2.out.mono ?_
  rintro e w3 ⟨rfl, hg⟩
  have HG3 := Lib.hid (HG.out.trans (hg.below.mono HG.out.size))
  have HM := Lib.hid (merge_and opAnd (by rfl) intersect_fn va vb a b w3 (HA.out.later HG3.out) (HB.out.later HG3.out) O.out.1.1 O.out.2.1 (by have := O.out.1.2; omega) (by have := O.out.2.2; omega))
  clear hg
  go_wp2_with fail
  refine HM.out.mono ?_
  rintro e w4 ⟨v4, L, rfl, hl1, hl2, hl3, hl4, hb4⟩
  have hLe : L = combL opAnd a b := combL_is hl1 hl2
  have hll : L.length ≤ 1000 := by have := O.out.1.2; have := O.out.2.2; omega
  have hiv : IvO w.heap.size w4 v4 L := ⟨hl3.at_ (by omega), ownsRow_mono hl3 HG3.out.size⟩
  obtain ⟨a4, c4, rfl⟩ := iv_slice hiv.at_
  have HIV := Lib.hid hiv
  have HB4 := Lib.hid (HG3.out.trans (hb4.mono HG3.out.size))
  have HLE := Lib.hid hLe
  generalize hn : L.length = n at hll HIV ⊢
  have HN := Lib.hid hn
  clear hl1 hl2 hl3 hl4 hb4 hiv hLe hn HM HV2
  by_cases h64 : n ≤ 64
  · have d1 : decide ((64 : Int) < (n : Int)) = false := by simp; omega
    have e1 : L0 = L := by rw [← HL0.out]; unfold doL; rw [if_pos ⟨CA.out, CB.out, by rw [← HLE.out, HN.out]; exact h64⟩, HLE.out]
    have e2 : E0 = 0 := by rw [← HE0.out]; unfold doE; rw [if_pos ⟨CA.out, CB.out⟩, if_pos (by rw [← HLE.out, HN.out]; exact h64)]
    subst e1 e2
    go_wp2
    go_ret2
    exact makeO_done rfl HN.out HIV.out HB4.out
  · have d1 : decide ((64 : Int) < (n : Int)) = true := by simp; omega
    have e1 : L0 = [] := by rw [← HL0.out]; unfold doL; rw [if_neg (by rintro ⟨-, -, h⟩; rw [← HLE.out, HN.out] at h; exact h64 h)]
    have e2 : E0 = 2 := by rw [← HE0.out]; unfold doE; rw [if_pos ⟨CA.out, CB.out⟩, if_neg (by rw [← HLE.out, HN.out]; exact h64)]
    subst e1 e2
    go_wp2
    go_ret2
    exact makeO_nil rfl HB4.out
theorem Intersect_own (va vb : Value) (a b : List I) (w : World) (ha : IvAt w va a) (hb : IvAt w vb b) : Calls Try.prog 22 #[va, vb] w (MakeO (doL opAnd a b) (doE opAnd a b) w) := by
  have HC := Lib.hid (combine_and_calls va vb a b w ha hb)
  obtain ⟨L0, hL0⟩ : ∃ L0, doL opAnd a b = L0 := ⟨_, rfl⟩
  rw [hL0] at HC ⊢
  generalize doE opAnd a b = E0 at HC ⊢
  clear ha hb hL0
  go_enter Try.func22, Try.ntmps22
  go_wp2_with fail
  refine HC.out.mono ?_
  rintro e w4 ⟨a4, c4, rfl, hiv, hb4⟩
  have HIV := Lib.hid hiv
  have HB4 := Lib.hid hb4
  generalize hn : L0.length = n at HIV ⊢
  have HN := Lib.hid hn
  clear hiv hb4 hn HC
  go_wp2
  go_ret2
  exact makeO_done rfl HN.out HIV.out HB4.out
set_option maxHeartbeats 1000000 in
theorem combine_without_calls (va vb : Value) (a b : List I) (w : World) (ha : IvAt w va a) (hb : IvAt w vb b) : Calls Try.prog 50 #[va, vb, .func (.func 53) #[] #[]] w (MakeO (doL opNot a b) (doE opNot a b) w) := by
  have HA := Lib.hid ha
  have HB := Lib.hid hb
  have HV1 := Lib.hid (ivalid_calls va a w ha)
  cases ca : canonB a
  · have HL : Hid (doL opNot a b = [] ∧ doE opNot a b = 30) := by show _ ∧ _; simp [doL, doE, ca]
    rw [HL.out.1, HL.out.2]
    rw [ca] at HV1
    clear ha hb ca
    go_enter Try.func50, Try.ntmps50
    go_wp2_with fail
    refine HV1.out.mono ?_
    rintro e w2 ⟨rfl, hg⟩
    have HG := Lib.hid hg.below
    clear hg
    go_wp2
    go_ret2
    exact makeO_nil rfl HG.out
  cases cb : canonB b
  · have HL : Hid (doL opNot a b = [] ∧ doE opNot a b = 30) := by show _ ∧ _; simp [doL, doE, cb]
    rw [HL.out.1, HL.out.2]
    rw [ca] at HV1
    have CB := Lib.hid cb
    clear ha hb ca cb
    go_enter Try.func50, Try.ntmps50
    go_wp2_with fail
    refine HV1.out.mono ?_
    rintro e w2 ⟨rfl, hg⟩
    have HG := Lib.hid hg.below
    have hv2 := ivalid_calls vb b w2 (HB.out.later HG.out)
    rw [CB.out] at hv2
    have HV2 := Lib.hid hv2
    clear hg hv2
    go_wp2_with fail
    refine HV2.out.mono ?_
    rintro e w3 ⟨rfl, hg⟩
    have HG3 := Lib.hid (HG.out.trans (hg.below.mono HG.out.size))
    clear hg
    go_wp2
    go_ret2
    exact makeO_nil rfl HG3.out
  obtain ⟨o1, o2⟩ := canon_ord ca
  obtain ⟨p1, p2⟩ := canon_ord cb
  rw [ca] at HV1
  have CA := Lib.hid ca
  have CB := Lib.hid cb
  have O := Lib.hid (And.intro (And.intro o1 o2) (And.intro p1 p2))
  obtain ⟨L0, hL0⟩ : ∃ L0, doL opNot a b = L0 := ⟨_, rfl⟩
  obtain ⟨E0, hE0⟩ : ∃ E0, doE opNot a b = E0 := ⟨_, rfl⟩
  rw [hL0, hE0]
  have HL0 := Lib.hid hL0
  have HE0 := Lib.hid hE0
  clear ha hb ca cb o1 o2 p1 p2 hL0 hE0
  go_enter Try.func50, Try.ntmps50
  go_wp2_with fail
  refine HV1.out.mono ?_
  rintro e w2 ⟨rfl, hg⟩
  have HG := Lib.hid hg.below
  have hv2 := ivalid_calls vb b w2 (HB.out.later HG.out)
  rw [CB.out] at hv2
  have HV2 := Lib.hid hv2
  clear hg hv2
  go_wp2_with fail
  refine HV2.out.mono ?_
  rintro e w3 ⟨rfl, hg⟩
  have HG3 := Lib.hid (HG.out.trans (hg.below.mono HG.out.size))
  have HM := Lib.hid (merge_without opNot (by rfl) without_fn va vb a b w3 (HA.out.later HG3.out) (HB.out.later HG3.out) O.out.1.1 O.out.2.1 (by have := O.out.1.2; omega) (by have := O.out.2.2; omega))
  clear hg
  go_wp2_with fail
  refine HM.out.mono ?_
  rintro e w4 ⟨v4, L, rfl, hl1, hl2, hl3, hl4, hb4⟩
  have hLe : L = combL opNot a b := combL_is hl1 hl2
  have hll : L.length ≤ 1000 := by have := O.out.1.2; have := O.out.2.2; omega
  have hiv : IvO w.heap.size w4 v4 L := ⟨hl3.at_ (by omega), ownsRow_mono hl3 HG3.out.size⟩
  obtain ⟨a4, c4, rfl⟩ := iv_slice hiv.at_
  have HIV := Lib.hid hiv
  have HB4 := Lib.hid (HG3.out.trans (hb4.mono HG3.out.size))
  have HLE := Lib.hid hLe
  generalize hn : L.length = n at hll HIV ⊢
  have HN := Lib.hid hn
  clear hl1 hl2 hl3 hl4 hb4 hiv hLe hn HM HV2
  by_cases h64 : n ≤ 64
  · have d1 : decide ((64 : Int) < (n : Int)) = false := by simp; omega
    have e1 : L0 = L := by rw [← HL0.out]; unfold doL; rw [if_pos ⟨CA.out, CB.out, by rw [← HLE.out, HN.out]; exact h64⟩, HLE.out]
    have e2 : E0 = 0 := by rw [← HE0.out]; unfold doE; rw [if_pos ⟨CA.out, CB.out⟩, if_pos (by rw [← HLE.out, HN.out]; exact h64)]
    subst e1 e2
    go_wp2
    go_ret2
    exact makeO_done rfl HN.out HIV.out HB4.out
  · have d1 : decide ((64 : Int) < (n : Int)) = true := by simp; omega
    have e1 : L0 = [] := by rw [← HL0.out]; unfold doL; rw [if_neg (by rintro ⟨-, -, h⟩; rw [← HLE.out, HN.out] at h; exact h64 h)]
    have e2 : E0 = 2 := by rw [← HE0.out]; unfold doE; rw [if_pos ⟨CA.out, CB.out⟩, if_neg (by rw [← HLE.out, HN.out]; exact h64)]
    subst e1 e2
    go_wp2
    go_ret2
    exact makeO_nil rfl HB4.out
theorem Minus_own (va vb : Value) (a b : List I) (w : World) (ha : IvAt w va a) (hb : IvAt w vb b) : Calls Try.prog 24 #[va, vb] w (MakeO (doL opNot a b) (doE opNot a b) w) := by
  have HC := Lib.hid (combine_without_calls va vb a b w ha hb)
  obtain ⟨L0, hL0⟩ : ∃ L0, doL opNot a b = L0 := ⟨_, rfl⟩
  rw [hL0] at HC ⊢
  generalize doE opNot a b = E0 at HC ⊢
  clear ha hb hL0
  go_enter Try.func24, Try.ntmps24
  go_wp2_with fail
  refine HC.out.mono ?_
  rintro e w4 ⟨a4, c4, rfl, hiv, hb4⟩
  have HIV := Lib.hid hiv
  have HB4 := Lib.hid hb4
  generalize hn : L0.length = n at HIV ⊢
  have HN := Lib.hid hn
  clear hiv hb4 hn HC
  go_wp2
  go_ret2
  exact makeO_done rfl HN.out HIV.out HB4.out
theorem canon_all : canonB allL = true := canon_of (.one (by unfold partB; rw [if_pos rfl]; decide +kernel)) (by decide)
theorem Complement_own (va : Value) (a : List I) (w : World) (ha : IvAt w va a) : Calls Try.prog 17 #[va] w (MakeO (doL opNot allL a) (doE opNot allL a) w) := by
  have HA := Lib.hid ha
  have HAL := Lib.hid (all_calls w)
  obtain ⟨L0, hL0⟩ : ∃ L0, doL opNot allL a = L0 := ⟨_, rfl⟩
  have HM := Lib.hid (fun (vb : Value) (w' : World) (h1 : IvAt w' vb allL) (h2 : IvAt w' va a) => Minus_own vb va allL a w' h1 h2)
  rw [hL0] at HM ⊢
  generalize doE opNot allL a = E0 at HM ⊢
  clear ha hL0
  go_enter Try.func17, Try.ntmps17
  go_wp2_with fail
  refine HAL.out.mono ?_
  rintro e w2 ⟨b2, rfl, hiv, hg⟩
  have HG := Lib.hid hg.below
  have HM2 := Lib.hid (HM.out _ w2 hiv (HA.out.later hg.below))
  clear hiv hg HM HAL
  go_wp2_with fail
  refine HM2.out.mono ?_
  rintro e w4 ⟨a4, c4, rfl, hiv, hb4⟩
  have HIV := Lib.hid (hiv.mono HG.out.size)
  have HB4 := Lib.hid (HG.out.trans (hb4.mono HG.out.size))
  generalize hn : L0.length = n at HIV ⊢
  have HN := Lib.hid hn
  clear hiv hb4 hn HM2
  go_wp2
  go_ret2
  exact makeO_done rfl HN.out HIV.out HB4.out
theorem Union_calls (va vb : Value) (a b : List I) (w : World) (ha : IvAt w va a) (hb : IvAt w vb b) : Calls Try.prog 20 #[va, vb] w (MakeB (doL opOr a b) (doE opOr a b) w) := (Union_own va vb a b w ha hb).mono fun _ _ h => h.b
theorem Intersect_calls (va vb : Value) (a b : List I) (w : World) (ha : IvAt w va a) (hb : IvAt w vb b) : Calls Try.prog 22 #[va, vb] w (MakeB (doL opAnd a b) (doE opAnd a b) w) := (Intersect_own va vb a b w ha hb).mono fun _ _ h => h.b
theorem Minus_calls (va vb : Value) (a b : List I) (w : World) (ha : IvAt w va a) (hb : IvAt w vb b) : Calls Try.prog 24 #[va, vb] w (MakeB (doL opNot a b) (doE opNot a b) w) := (Minus_own va vb a b w ha hb).mono fun _ _ h => h.b
theorem Complement_calls (va : Value) (a : List I) (w : World) (ha : IvAt w va a) : Calls Try.prog 17 #[va] w (MakeB (doL opNot allL a) (doE opNot allL a) w) := (Complement_own va a w ha).mono fun _ _ h => h.b
noncomputable def covB (a b : List I) : Bool := canonB a && canonB b && decide ((combL opNot b a).length = 0)
noncomputable def covE (a b : List I) : Int := if canonB a = true ∧ canonB b = true then 0 else 30
def CovOut (q : Bool) (err : Int) (w : World) (e : Ending) (w' : World) : Prop := e = .returned (.tuple #[.bool q, .int .i64 err]) ∧ Below w.heap.size w w'
set_option maxHeartbeats 1000000 in
theorem Covers_calls (va vb : Value) (a b : List I) (w : World) (ha : IvAt w va a) (hb : IvAt w vb b) : Calls Try.prog 26 #[va, vb] w (CovOut (covB a b) (covE a b) w) := by
  have HA := Lib.hid ha
  have HB := Lib.hid hb
  have HV1 := Lib.hid (ivalid_calls va a w ha)
  cases ca : canonB a
  · have HL : Hid (covB a b = false ∧ covE a b = 30) := by show _ ∧ _; simp [covB, covE, ca]
    rw [HL.out.1, HL.out.2]
    rw [ca] at HV1
    clear ha hb ca
    go_enter Try.func26, Try.ntmps26
    go_wp2_with fail
    refine HV1.out.mono ?_
    rintro e w2 ⟨rfl, hg⟩
    have HG := Lib.hid hg.below
    clear hg
    go_wp2
    go_ret2
    exact ⟨rfl, HG.out⟩
  cases cb : canonB b
  · have HL : Hid (covB a b = false ∧ covE a b = 30) := by show _ ∧ _; simp [covB, covE, cb]
    rw [HL.out.1, HL.out.2]
    rw [ca] at HV1
    have CB := Lib.hid cb
    clear ha hb ca cb
    go_enter Try.func26, Try.ntmps26
    go_wp2_with fail
    refine HV1.out.mono ?_
    rintro e w2 ⟨rfl, hg⟩
    have HG := Lib.hid hg.below
    have hv2 := ivalid_calls vb b w2 (HB.out.later HG.out)
    rw [CB.out] at hv2
    have HV2 := Lib.hid hv2
    clear hg hv2
    go_wp2_with fail
    refine HV2.out.mono ?_
    rintro e w3 ⟨rfl, hg⟩
    have HG3 := Lib.hid (HG.out.trans (hg.below.mono HG.out.size))
    clear hg
    go_wp2
    go_ret2
    exact ⟨rfl, HG3.out⟩
  obtain ⟨o1, o2⟩ := canon_ord ca
  obtain ⟨p1, p2⟩ := canon_ord cb
  rw [ca] at HV1
  have CB := Lib.hid cb
  have O := Lib.hid (And.intro (And.intro o1 o2) (And.intro p1 p2))
  have HL : Hid (covB a b = decide ((combL opNot b a).length = 0) ∧ covE a b = 0) := by show _ ∧ _; simp [covB, covE, ca, cb]
  rw [HL.out.1, HL.out.2]
  obtain ⟨m, hm⟩ : ∃ m, (combL opNot b a).length = m := ⟨_, rfl⟩
  rw [hm]
  have HMM := Lib.hid hm
  clear ha hb ca cb o1 o2 p1 p2 hm
  go_enter Try.func26, Try.ntmps26
  go_wp2_with fail
  refine HV1.out.mono ?_
  rintro e w2 ⟨rfl, hg⟩
  have HG := Lib.hid hg.below
  have hv2 := ivalid_calls vb b w2 (HB.out.later HG.out)
  rw [CB.out] at hv2
  have HV2 := Lib.hid hv2
  clear hg hv2
  go_wp2_with fail
  refine HV2.out.mono ?_
  rintro e w3 ⟨rfl, hg⟩
  have HG3 := Lib.hid (HG.out.trans (hg.below.mono HG.out.size))
  have HM := Lib.hid (merge_without opNot (by rfl) without_fn vb va b a w3 (HB.out.later HG3.out) (HA.out.later HG3.out) O.out.2.1 O.out.1.1 (by have := O.out.2.2; omega) (by have := O.out.1.2; omega))
  clear hg
  go_wp2_with fail
  refine HM.out.mono ?_
  rintro e w4 ⟨v4, L, rfl, hl1, hl2, hl3, hl4, hb4⟩
  have hLe : L = combL opNot b a := combL_is hl1 hl2
  have hll : L.length ≤ 1000 := by have := O.out.1.2; have := O.out.2.2; omega
  have hiv := hl3.at_ (by omega)
  obtain ⟨a4, c4, rfl⟩ := iv_slice hiv
  have hlm : L.length = m := by rw [hLe]; exact HMM.out
  rw [hlm] at hll ⊢
  have HB4 := Lib.hid (HG3.out.trans (hb4.mono HG3.out.size))
  clear hl1 hl2 hl3 hl4 hb4 hiv hLe hlm HM HV2
  by_cases h0 : m = 0
  · subst h0
    go_wp2
    go_ret2
    exact ⟨rfl, HB4.out⟩
  · have e1 : ((m : Int) == 0) = false := by simp; omega
    have e2 : decide (m = 0) = false := by simp [h0]
    have E2 := Lib.hid e2
    clear e2
    go_wp2
    go_ret2
    exact ⟨by rw [E2.out]; rfl, HB4.out⟩
end Go.Proofs.Ytmjokpakekfkfaa
