/- The merging of two lists of edges: what holds between two steps; the contract of interval.walk. -/
import Derived.Test.YtmjokpakekfkfaaVm
set_option linter.unusedSimpArgs false
set_option linter.unusedVariables false
namespace Go.Proofs.Ytmjokpakekfkfaa
open Go.RowKit

/-- The next edge of either list, and how far both have been read behind it. -/
def Step (EA EB : List V) (p q : Nat) (x : V) (p' q' : Nat) : Prop :=
  (p' = p + 1 ∧ q' = q ∧ ∃ A, EA.drop p = x :: A ∧ ∀ y ∈ EB.drop q, cmpV x y < 0) ∨ (p' = p ∧ q' = q + 1 ∧ ∃ B, EB.drop q = x :: B ∧ ∀ y ∈ EA.drop p, cmpV x y < 0) ∨
  (p' = p + 1 ∧ q' = q + 1 ∧ (∃ A, EA.drop p = x :: A) ∧ ∃ B, EB.drop q = x :: B)
structure MInv (op : Bool → Bool → Bool) (EA EB : List V) (p q : Nat) (out : List V) : Prop where
  par_ : ∀ v, par out v = op (par (EA.take p) v) (par (EB.take q) v)
  mem : ∀ e ∈ out, e ∈ EA.take p ∨ e ∈ EB.take q
  asc : AscV out
  apart : ∀ e, (e ∈ EA.take p ∨ e ∈ EB.take q) → ∀ e', (e' ∈ EA.drop p ∨ e' ∈ EB.drop q) → cmpV e e' < 0
  len : out.length ≤ p + q
theorem MInv.zero {op : Bool → Bool → Bool} (h : op false false = false) (EA EB : List V) : MInv op EA EB 0 0 [] :=
  ⟨fun v => by simp [par_nil, h], fun e he => by simp at he, List.Pairwise.nil, fun e he => by simp at he, by simp⟩
theorem take_step {E : List V} {p : Nat} {x : V} {A : List V} (h : E.drop p = x :: A) : E.take (p + 1) = E.take p ++ [x] ∧ E.drop (p + 1) = A ∧ p < E.length ∧ x ∈ E.drop p := by
  have hl : p < E.length := by
    have : (E.drop p).length = A.length + 1 := by rw [h]; rfl
    simp at this; omega
  have he := h.symm.trans (List.drop_eq_getElem_cons hl)
  obtain ⟨h1, h2⟩ := List.cons.inj he
  exact ⟨by rw [List.take_succ_eq_append_getElem hl, h1], h2.symm, hl, by rw [h]; simp⟩
theorem drop_asc {E : List V} (h : AscV E) {p : Nat} {x : V} {A : List V} (hd : E.drop p = x :: A) : ∀ y ∈ A, cmpV x y < 0 := by
  have := h.drop (i := p)
  rw [hd] at this
  exact (List.pairwise_cons.1 this).1
theorem Step.grew {EA EB : List V} {p q p' q' : Nat} {x : V} (h : Step EA EB p q x p' q') : Grew (EA.take p) (EA.take p') x ∧ Grew (EB.take q) (EB.take q') x ∧ p' ≤ p + 1 ∧ q' ≤ q + 1 ∧ p + q < p' + q' ∧ (x ∈ EA.drop p ∨ x ∈ EB.drop q) ∧ (p' = p ∨ p' ≤ EA.length) ∧ (q' = q ∨ q' ≤ EB.length) := by
  rcases h with ⟨rfl, rfl, A, h1, h2⟩ | ⟨rfl, rfl, B, h1, h2⟩ | ⟨rfl, rfl, ⟨A, h1⟩, B, h2⟩
  · obtain ⟨t1, t2, t3, t4⟩ := take_step h1
    exact ⟨.inr t1, .inl rfl, by omega, by omega, by omega, .inl t4, .inr (by omega), .inl rfl⟩
  · obtain ⟨t1, t2, t3, t4⟩ := take_step h1
    exact ⟨.inl rfl, .inr t1, by omega, by omega, by omega, .inr t4, .inl rfl, .inr (by omega)⟩
  · obtain ⟨t1, t2, t3, t4⟩ := take_step h1
    obtain ⟨u1, u2, u3, u4⟩ := take_step h2
    exact ⟨.inr t1, .inr u1, by omega, by omega, by omega, .inl t4, .inr (by omega), .inr (by omega)⟩
theorem Step.behind {EA EB : List V} (hA : AscV EA) (hB : AscV EB) {p q p' q' : Nat} {x : V} (h : Step EA EB p q x p' q') : ∀ y, (y ∈ EA.drop p' ∨ y ∈ EB.drop q') → cmpV x y < 0 := by
  rcases h with ⟨rfl, rfl, A, h1, h2⟩ | ⟨rfl, rfl, B, h1, h2⟩ | ⟨rfl, rfl, ⟨A, h1⟩, B, h2⟩
  · obtain ⟨t1, t2, t3, t4⟩ := take_step h1
    rintro y (hy | hy)
    · rw [t2] at hy; exact drop_asc hA h1 y hy
    · exact h2 y hy
  · obtain ⟨t1, t2, t3, t4⟩ := take_step h1
    rintro y (hy | hy)
    · exact h2 y hy
    · rw [t2] at hy; exact drop_asc hB h1 y hy
  · obtain ⟨t1, t2, t3, t4⟩ := take_step h1
    obtain ⟨u1, u2, u3, u4⟩ := take_step h2
    rintro y (hy | hy)
    · rw [t2] at hy; exact drop_asc hA h1 y hy
    · rw [u2] at hy; exact drop_asc hB h2 y hy
theorem grew_mem {T T' : List V} {p e : V} (h : Grew T T' p) (he : e ∈ T') : e ∈ T ∨ e = p := by
  rcases h with rfl | rfl
  · exact .inl he
  · simpa using he
theorem grew_sub {T T' : List V} {p e : V} (h : Grew T T' p) (he : e ∈ T) : e ∈ T' := by
  rcases h with rfl | rfl
  · exact he
  · exact List.mem_append_left _ he
theorem MInv.step {op : Bool → Bool → Bool} {EA EB : List V} (hA : AscV EA) (hB : AscV EB) {p q p' q' : Nat} {x : V} {out : List V} (h : MInv op EA EB p q out) (hs : Step EA EB p q x p' q') (hp : p ≤ EA.length) (hq : q ≤ EB.length) :
    MInv op EA EB p' q' (flips op (oddB p') (oddB q') out x) := by
  obtain ⟨g1, g2, l1, l2, l3, hx, l4, l5⟩ := hs.grew
  have hlt : ∀ e, (e ∈ EA.take p ∨ e ∈ EB.take q) → cmpV e x < 0 := fun e he => h.apart e he x hx
  have e1 : (EA.take p').length = p' := by rw [List.length_take]; omega
  have e2 : (EB.take q').length = q' := by rw [List.length_take]; omega
  have hpar := flips_par g1 g2 (fun e he => hlt e (.inl he)) (fun e he => hlt e (.inr he)) h.mem h.par_
  rw [e1, e2] at hpar
  have hxin : x ∈ EA.take p' ∨ x ∈ EB.take q' := by
    rcases hs with ⟨rfl, rfl, A, h1, h2⟩ | ⟨rfl, rfl, B, h1, h2⟩ | ⟨rfl, rfl, ⟨A, h1⟩, B, h2⟩
    · left; rw [(take_step h1).1]; simp
    · right; rw [(take_step h1).1]; simp
    · left; rw [(take_step h1).1]; simp
  refine ⟨hpar, fun e he => ?_, flips_asc h.asc (fun e he => hlt e (h.mem e he)), fun e he e' he' => ?_, by have := flips_len (op := op) (a := oddB p') (b := oddB q') (out := out) (p := x); have := h.len; omega⟩
  · rcases flips_mem he with he | rfl
    · exact (h.mem e he).imp (grew_sub g1) (grew_sub g2)
    · exact hxin
  · have hb := hs.behind hA hB e' he'
    have he2 : (e ∈ EA.take p ∨ e ∈ EB.take q) ∨ e = x := by
      rcases he with he | he
      · exact (grew_mem g1 he).imp .inl id
      · exact (grew_mem g2 he).imp .inr id
    rcases he2 with he2 | rfl
    · exact goodV.lt_le (hlt e he2) (by omega)
    · exact hb
/-- What a call of the closure does. -/
def NextOut (w0 w : World) (ka kp kb kq : Nat) (va vb : Value) (EA EB : List V) (p q : Nat) (e : Ending) (w' : World) : Prop :=
  (p = EA.length ∧ q = EB.length ∧ EndOut w0 w ka kp kb kq va vb EA EB p q e w') ∨ ∃ x p' q', Step EA EB p q x p' q' ∧ StepOut w0 w ka kp kb kq va vb EA EB x p' q' e w'
theorem next_step (w0 w : World) (ka kp kb kq : Nat) (va vb : Value) (EA EB : List V) (hA : AscV EA) (hB : AscV EB) (p q : Nat) (h : Walking w0 w ka kp kb kq va vb EA EB p q) :
    Calls Try.prog 79 #[.pointer (some ⟨ka, 0, none⟩), .pointer (some ⟨kp, 0, none⟩), .pointer (some ⟨kb, 0, none⟩), .pointer (some ⟨kq, 0, none⟩)] w (NextOut w0 w ka kp kb kq va vb EA EB p q) := by
  have nonempty : ∀ {E : List V} {k : Nat}, k ≤ E.length → E.drop k = [] → k = E.length := fun hk hd => by
    have := congrArg List.length hd
    simp at this; omega
  rcases hda : EA.drop p with _ | ⟨x, A⟩
  · rcases hdb : EB.drop q with _ | ⟨y, B⟩
    · have e1 := nonempty h.pA hda
      have e2 := nonempty h.qB hdb
      exact (step_end w0 w ka kp kb kq va vb EA EB p q h e1 e2).mono fun _ _ ho => .inl ⟨e1, e2, ho⟩
    · exact (step_b w0 w ka kp kb kq va vb EA EB p q h y B hdb (by rw [hda, hdb]; show (1 : Int) > 0; omega)).mono fun _ _ ho => .inr ⟨y, p, q + 1, .inr (.inl ⟨rfl, rfl, B, hdb, fun z hz => by rw [hda] at hz; simp at hz⟩), ho⟩
  · rcases hdb : EB.drop q with _ | ⟨y, B⟩
    · exact (step_a w0 w ka kp kb kq va vb EA EB p q h x A hda (by rw [hda, hdb]; show (-1 : Int) < 0; omega)).mono fun _ _ ho => .inr ⟨x, p + 1, q, .inl ⟨rfl, rfl, A, hda, fun z hz => by rw [hdb] at hz; simp at hz⟩, ho⟩
    · have hc : cmpF (EA.drop p) (EB.drop q) = cmpV x y := by rw [hda, hdb]; rfl
      by_cases h1 : cmpV x y < 0
      · refine (step_a w0 w ka kp kb kq va vb EA EB p q h x A hda (by rw [hc]; exact h1)).mono fun _ _ ho => .inr ⟨x, p + 1, q, .inl ⟨rfl, rfl, A, hda, fun z hz => ?_⟩, ho⟩
        rw [hdb] at hz
        rcases List.mem_cons.1 hz with rfl | hz
        · exact h1
        · exact goodV.lt_le h1 (by have := drop_asc hB hdb z hz; omega)
      · by_cases h2 : cmpV x y = 0
        · have : x = y := (goodV.zero _ _).1 h2
          subst this
          exact (step_both w0 w ka kp kb kq va vb EA EB p q h x A hda x B hdb (by rw [hc]; exact h2)).mono fun _ _ ho => .inr ⟨x, p + 1, q + 1, .inr (.inr ⟨rfl, rfl, ⟨A, hda⟩, B, hdb⟩), ho⟩
        · have h3 : cmpV y x < 0 := by have := goodV.neg x y; omega
          refine (step_b w0 w ka kp kb kq va vb EA EB p q h y B hdb (by rw [hc]; omega)).mono fun _ _ ho => .inr ⟨y, p, q + 1, .inr (.inl ⟨rfl, rfl, B, hdb, fun z hz => ?_⟩), ho⟩
          rw [hda] at hz
          rcases List.mem_cons.1 hz with rfl | hz
          · exact h3
          · exact goodV.lt_le h3 (by have := drop_asc hA hda z hz; omega)
def WalkOut (w : World) (va vb : Value) (EA EB : List V) (e : Ending) (w' : World) : Prop :=
  ∃ ka kp kb kq, e = .returned (.func (.func 79) #[] #[.pointer (some ⟨ka, 0, none⟩), .pointer (some ⟨kp, 0, none⟩), .pointer (some ⟨kb, 0, none⟩), .pointer (some ⟨kq, 0, none⟩)]) ∧ Walking w w' ka kp kb kq va vb EA EB 0 0
theorem walk_calls (va vb : Value) (EA EB : List V) (w : World) (ha : CutV w va EA) (hb : CutV w vb EB) : Calls Try.prog 71 #[va, vb] w (WalkOut w va vb EA EB) := by
  have HA := Lib.hid ha
  have HB := Lib.hid hb
  obtain ⟨pa, ca, rfl, -⟩ := id ha
  obtain ⟨pb, cb, rfl, -⟩ := id hb
  generalize EA.length = n at HA
  generalize EB.length = m at HB
  clear ha hb
  go_enter Try.func71, Try.ntmps71
  go_wp2
  go_ret
  refine ⟨w.heap.size, w.heap.size + 1 + 1, w.heap.size + 1, w.heap.size + 1 + 1 + 1, rfl, ?_⟩
  have hbel : Below w.heap.size w ((((w.alloc (.cells #[.slice pa n ca] 35)).alloc (.cells #[.slice pb m cb] 35)).alloc (.cells #[.int .i64 0] 3)).alloc (.cells #[.int .i64 0] 3)) :=
    ((((Gro.refl w).alloc _).alloc _).alloc _).alloc _ |>.below
  exact {
    bel := hbel
    za := Nat.le_refl _
    zb := by omega
    zp := by omega
    zq := by omega
    la := by first | (simp; done) | (simp; omega)
    lp := by simp
    lb := by first | (simp; done) | (simp; omega)
    lq := by simp
    ca := by go_simp
    cp := by go_simp
    cb := by go_simp
    cq := by go_simp
    fp := by go_simp
    fq := by go_simp
    n1 := by omega
    n2 := by omega
    n3 := by omega
    n4 := by omega
    n5 := by omega
    pA := Nat.zero_le _
    qB := Nat.zero_le _
    ra := HA.out
    rb := HB.out }
end Go.Proofs.Ytmjokpakekfkfaa
