/- The contract of interval.merge. -/
import Derived.Test.YtmjokpakekfkfaaVm
set_option linter.unusedSimpArgs false
set_option linter.unusedVariables false
namespace Go.Proofs.Ytmjokpakekfkfaa
open Go.RowKit

/-- The next edge of either list, and how far both have been read behind it. -/
def Step (EA EB : List V) (p q : Nat) (x : V) (p' q' : Nat) : Prop :=
  (p' = p + 1 ∧ q' = q ∧ ∃ A, EA.drop p = x :: A ∧ ∀ y ∈ EB.drop q, cmpV x y < 0) ∨ (p' = p ∧ q' = q + 1 ∧ ∃ B, EB.drop q = x :: B ∧ ∀ y ∈ EA.drop p, cmpV x y < 0) ∨
  (p' = p + 1 ∧ q' = q + 1 ∧ (∃ A, EA.drop p = x :: A) ∧ ∃ B, EB.drop q = x :: B)
structure MInv (op : Bool → Bool → Bool) (EA EB : List V) (p q : Nat) (out : List V) : Prop where
  par_ : ∀ v, par out v = op (par (EA.take p) v) (par (EB.take q) v)
  mem : ∀ e ∈ out, e ∈ EA.take p ∨ e ∈ EB.take q
  asc : AscV out
  apart : ∀ e, (e ∈ EA.take p ∨ e ∈ EB.take q) → ∀ e', (e' ∈ EA.drop p ∨ e' ∈ EB.drop q) → cmpV e e' < 0
  len : out.length ≤ p + q
theorem MInv.zero {op : Bool → Bool → Bool} (h : op false false = false) (EA EB : List V) : MInv op EA EB 0 0 [] :=
  ⟨fun v => by simp [par_nil, h], fun e he => by simp at he, List.Pairwise.nil, fun e he => by simp at he, by simp⟩
theorem take_step {E : List V} {p : Nat} {x : V} {A : List V} (h : E.drop p = x :: A) : E.take (p + 1) = E.take p ++ [x] ∧ E.drop (p + 1) = A ∧ p < E.length ∧ x ∈ E.drop p := by
  have hl : p < E.length := by
    have : (E.drop p).length = A.length + 1 := by rw [h]; rfl
    simp at this; omega
  have he := h.symm.trans (List.drop_eq_getElem_cons hl)
  obtain ⟨h1, h2⟩ := List.cons.inj he
  exact ⟨by rw [List.take_succ_eq_append_getElem hl, h1], h2.symm, hl, by rw [h]; simp⟩
theorem drop_asc {E : List V} (h : AscV E) {p : Nat} {x : V} {A : List V} (hd : E.drop p = x :: A) : ∀ y ∈ A, cmpV x y < 0 := by
  have := h.drop (i := p)
  rw [hd] at this
  exact (List.pairwise_cons.1 this).1
theorem Step.grew {EA EB : List V} {p q p' q' : Nat} {x : V} (h : Step EA EB p q x p' q') : Grew (EA.take p) (EA.take p') x ∧ Grew (EB.take q) (EB.take q') x ∧ p' ≤ p + 1 ∧ q' ≤ q + 1 ∧ p + q < p' + q' ∧ (x ∈ EA.drop p ∨ x ∈ EB.drop q) ∧ (p' = p ∨ p' ≤ EA.length) ∧ (q' = q ∨ q' ≤ EB.length) := by
  rcases h with ⟨rfl, rfl, A, h1, h2⟩ | ⟨rfl, rfl, B, h1, h2⟩ | ⟨rfl, rfl, ⟨A, h1⟩, B, h2⟩
  · obtain ⟨t1, t2, t3, t4⟩ := take_step h1
    exact ⟨.inr t1, .inl rfl, by omega, by omega, by omega, .inl t4, .inr (by omega), .inl rfl⟩
  · obtain ⟨t1, t2, t3, t4⟩ := take_step h1
    exact ⟨.inl rfl, .inr t1, by omega, by omega, by omega, .inr t4, .inl rfl, .inr (by omega)⟩
  · obtain ⟨t1, t2, t3, t4⟩ := take_step h1
    obtain ⟨u1, u2, u3, u4⟩ := take_step h2
    exact ⟨.inr t1, .inr u1, by omega, by omega, by omega, .inl t4, .inr (by omega), .inr (by omega)⟩
theorem Step.behind {EA EB : List V} (hA : AscV EA) (hB : AscV EB) {p q p' q' : Nat} {x : V} (h : Step EA EB p q x p' q') : ∀ y, (y ∈ EA.drop p' ∨ y ∈ EB.drop q') → cmpV x y < 0 := by
  rcases h with ⟨rfl, rfl, A, h1, h2⟩ | ⟨rfl, rfl, B, h1, h2⟩ | ⟨rfl, rfl, ⟨A, h1⟩, B, h2⟩
  · obtain ⟨t1, t2, t3, t4⟩ := take_step h1
    rintro y (hy | hy)
    · rw [t2] at hy; exact drop_asc hA h1 y hy
    · exact h2 y hy
  · obtain ⟨t1, t2, t3, t4⟩ := take_step h1
    rintro y (hy | hy)
    · exact h2 y hy
    · rw [t2] at hy; exact drop_asc hB h1 y hy
  · obtain ⟨t1, t2, t3, t4⟩ := take_step h1
    obtain ⟨u1, u2, u3, u4⟩ := take_step h2
    rintro y (hy | hy)
    · rw [t2] at hy; exact drop_asc hA h1 y hy
    · rw [u2] at hy; exact drop_asc hB h2 y hy
theorem grew_mem {T T' : List V} {p e : V} (h : Grew T T' p) (he : e ∈ T') : e ∈ T ∨ e = p := by
  rcases h with rfl | rfl
  · exact .inl he
  · simpa using he
theorem grew_sub {T T' : List V} {p e : V} (h : Grew T T' p) (he : e ∈ T) : e ∈ T' := by
  rcases h with rfl | rfl
  · exact he
  · exact List.mem_append_left _ he
theorem MInv.step {op : Bool → Bool → Bool} {EA EB : List V} (hA : AscV EA) (hB : AscV EB) {p q p' q' : Nat} {x : V} {out : List V} (h : MInv op EA EB p q out) (hs : Step EA EB p q x p' q') (hp : p ≤ EA.length) (hq : q ≤ EB.length) :
    MInv op EA EB p' q' (flips op (oddB p') (oddB q') out x) := by
  obtain ⟨g1, g2, l1, l2, l3, hx, l4, l5⟩ := hs.grew
  have hlt : ∀ e, (e ∈ EA.take p ∨ e ∈ EB.take q) → cmpV e x < 0 := fun e he => h.apart e he x hx
  have e1 : (EA.take p').length = p' := by rw [List.length_take]; omega
  have e2 : (EB.take q').length = q' := by rw [List.length_take]; omega
  have hpar := flips_par g1 g2 (fun e he => hlt e (.inl he)) (fun e he => hlt e (.inr he)) h.mem h.par_
  rw [e1, e2] at hpar
  have hxin : x ∈ EA.take p' ∨ x ∈ EB.take q' := by
    rcases hs with ⟨rfl, rfl, A, h1, h2⟩ | ⟨rfl, rfl, B, h1, h2⟩ | ⟨rfl, rfl, ⟨A, h1⟩, B, h2⟩
    · left; rw [(take_step h1).1]; simp
    · right; rw [(take_step h1).1]; simp
    · left; rw [(take_step h1).1]; simp
  refine ⟨hpar, fun e he => ?_, flips_asc h.asc (fun e he => hlt e (h.mem e he)), fun e he e' he' => ?_, by have := flips_len (op := op) (a := oddB p') (b := oddB q') (out := out) (p := x); have := h.len; omega⟩
  · rcases flips_mem he with he | rfl
    · exact (h.mem e he).imp (grew_sub g1) (grew_sub g2)
    · exact hxin
  · have hb := hs.behind hA hB e' he'
    have he2 : (e ∈ EA.take p ∨ e ∈ EB.take q) ∨ e = x := by
      rcases he with he | he
      · exact (grew_mem g1 he).imp .inl id
      · exact (grew_mem g2 he).imp .inr id
    rcases he2 with he2 | rfl
    · exact goodV.lt_le (hlt e he2) (by omega)
    · exact hb
/-- What a call of the closure does. -/
def NextOut (w0 w : World) (ka kp kb kq : Nat) (va vb : Value) (EA EB : List V) (p q : Nat) (e : Ending) (w' : World) : Prop :=
  (p = EA.length ∧ q = EB.length ∧ EndOut w0 w ka kp kb kq va vb EA EB p q e w') ∨ ∃ x p' q', Step EA EB p q x p' q' ∧ StepOut w0 w ka kp kb kq va vb EA EB x p' q' e w'
theorem next_step (w0 w : World) (ka kp kb kq : Nat) (va vb : Value) (EA EB : List V) (hA : AscV EA) (hB : AscV EB) (p q : Nat) (h : Walking w0 w ka kp kb kq va vb EA EB p q) :
    Calls Try.prog 79 #[.pointer (some ⟨ka, 0, none⟩), .pointer (some ⟨kp, 0, none⟩), .pointer (some ⟨kb, 0, none⟩), .pointer (some ⟨kq, 0, none⟩)] w (NextOut w0 w ka kp kb kq va vb EA EB p q) := by
  have nonempty : ∀ {E : List V} {k : Nat}, k ≤ E.length → E.drop k = [] → k = E.length := fun hk hd => by
    have := congrArg List.length hd
    simp at this; omega
  rcases hda : EA.drop p with _ | ⟨x, A⟩
  · rcases hdb : EB.drop q with _ | ⟨y, B⟩
    · have e1 := nonempty h.pA hda
      have e2 := nonempty h.qB hdb
      exact (step_end w0 w ka kp kb kq va vb EA EB p q h e1 e2).mono fun _ _ ho => .inl ⟨e1, e2, ho⟩
    · exact (step_b w0 w ka kp kb kq va vb EA EB p q h y B hdb (by rw [hda, hdb]; show (1 : Int) > 0; omega)).mono fun _ _ ho => .inr ⟨y, p, q + 1, .inr (.inl ⟨rfl, rfl, B, hdb, fun z hz => by rw [hda] at hz; simp at hz⟩), ho⟩
  · rcases hdb : EB.drop q with _ | ⟨y, B⟩
    · exact (step_a w0 w ka kp kb kq va vb EA EB p q h x A hda (by rw [hda, hdb]; show (-1 : Int) < 0; omega)).mono fun _ _ ho => .inr ⟨x, p + 1, q, .inl ⟨rfl, rfl, A, hda, fun z hz => by rw [hdb] at hz; simp at hz⟩, ho⟩
    · have hc : cmpF (EA.drop p) (EB.drop q) = cmpV x y := by rw [hda, hdb]; rfl
      by_cases h1 : cmpV x y < 0
      · refine (step_a w0 w ka kp kb kq va vb EA EB p q h x A hda (by rw [hc]; exact h1)).mono fun _ _ ho => .inr ⟨x, p + 1, q, .inl ⟨rfl, rfl, A, hda, fun z hz => ?_⟩, ho⟩
        rw [hdb] at hz
        rcases List.mem_cons.1 hz with rfl | hz
        · exact h1
        · exact goodV.lt_le h1 (by have := drop_asc hB hdb z hz; omega)
      · by_cases h2 : cmpV x y = 0
        · have : x = y := (goodV.zero _ _).1 h2
          subst this
          exact (step_both w0 w ka kp kb kq va vb EA EB p q h x A hda x B hdb (by rw [hc]; exact h2)).mono fun _ _ ho => .inr ⟨x, p + 1, q + 1, .inr (.inr ⟨rfl, rfl, ⟨A, hda⟩, B, hdb⟩), ho⟩
        · have h3 : cmpV y x < 0 := by have := goodV.neg x y; omega
          refine (step_b w0 w ka kp kb kq va vb EA EB p q h y B hdb (by rw [hc]; omega)).mono fun _ _ ho => .inr ⟨y, p, q + 1, .inr (.inl ⟨rfl, rfl, B, hdb, fun z hz => ?_⟩), ho⟩
          rw [hda] at hz
          rcases List.mem_cons.1 hz with rfl | hz
          · exact h3
          · exact goodV.lt_le h3 (by have := drop_asc hA hda z hz; omega)
def WalkOut (w : World) (va vb : Value) (EA EB : List V) (e : Ending) (w' : World) : Prop :=
  ∃ ka kp kb kq, e = .returned (.func (.func 79) #[] #[.pointer (some ⟨ka, 0, none⟩), .pointer (some ⟨kp, 0, none⟩), .pointer (some ⟨kb, 0, none⟩), .pointer (some ⟨kq, 0, none⟩)]) ∧ Walking w w' ka kp kb kq va vb EA EB 0 0
theorem walk_calls (va vb : Value) (EA EB : List V) (w : World) (ha : CutV w va EA) (hb : CutV w vb EB) : Calls Try.prog 71 #[va, vb] w (WalkOut w va vb EA EB) := by
  have HA := Lib.hid ha
  have HB := Lib.hid hb
  obtain ⟨pa, ca, rfl, -⟩ := id ha
  obtain ⟨pb, cb, rfl, -⟩ := id hb
  generalize EA.length = n at HA
  generalize EB.length = m at HB
  clear ha hb
  go_enter Try.func71, Try.ntmps71
  go_wp2
  go_ret
  refine ⟨w.heap.size, w.heap.size + 1 + 1, w.heap.size + 1, w.heap.size + 1 + 1 + 1, rfl, ?_⟩
  have hbel : Below w.heap.size w ((((w.alloc (.cells #[.slice pa n ca] 35)).alloc (.cells #[.slice pb m cb] 35)).alloc (.cells #[.int .i64 0] 3)).alloc (.cells #[.int .i64 0] 3)) :=
    ((((Gro.refl w).alloc _).alloc _).alloc _).alloc _ |>.below
  exact {
    bel := hbel
    za := Nat.le_refl _
    zb := by omega
    zp := by omega
    zq := by omega
    la := by first | (simp; done) | (simp; omega)
    lp := by simp
    lb := by first | (simp; done) | (simp; omega)
    lq := by simp
    ca := by go_simp
    cp := by go_simp
    cb := by go_simp
    cq := by go_simp
    fp := by go_simp
    fq := by go_simp
    n1 := by omega
    n2 := by omega
    n3 := by omega
    n4 := by omega
    n5 := by omega
    pA := Nat.zero_le _
    qB := Nat.zero_le _
    ra := HA.out
    rb := HB.out }
end Go.Proofs.Ytmjokpakekfkfaa
set_option linter.unusedSimpArgs false
set_option linter.unusedVariables false
namespace Go.Proofs.Ytmjokpakekfkfaa
open Go.RowKit

theorem Moves.own {w w' : World} {kp kq : Nat} (h : Moves w w' kp kq) {base n size : Nat} {e : TypeId} {v : Value} {xs : List Value} (ho : w.ownsRow base e size v n xs) (h1 : kp < base) (h2 : kq < base) : w'.ownsRow base e size v n xs := by
  refine ⟨ho.1, ho.2.imp id ?_⟩
  rintro ⟨g, cap, cur, a, b, c, d⟩
  refine ⟨g, cap, cur, a, b, ?_, d⟩
  rw [h.block g (Array.getElem?_eq_some_iff.1 c).1 (by omega) (by omega)]
  exact c
theorem Moves.cell {w w' : World} {kp kq : Nat} (h : Moves w w' kp kq) {g o : Nat} {v : Value} (hc : w.cell? ⟨g, o, none⟩ = some v) (hl : g < w.heap.size) (h1 : g ≠ kp) (h2 : g ≠ kq) : w'.cell? ⟨g, o, none⟩ = some v := by
  rw [← hc]
  unfold World.cell?
  rw [show w'.heap[g]? = w.heap[g]? from h.block g hl h1 h2]
theorem Moves.frozen {w w' : World} {kp kq : Nat} (h : Moves w w' kp kq) {g o : Nat} {z : Bool} (hc : w.frozen? ⟨g, o, none⟩ = z) (hl : g < w.heap.size) (h1 : g ≠ kp) (h2 : g ≠ kq) : w'.frozen? ⟨g, o, none⟩ = z := by
  rw [World.frozen?_of_block (w := w) (h.block g hl h1 h2)]; exact hc
def natAt (w : World) (k : Nat) : Nat := match w.cell? ⟨k, 0, none⟩ with
  | some (.int _ n) => n.toNat
  | _ => 0
theorem natAt_eq {w : World} {k p : Nat} (h : w.cell? ⟨k, 0, none⟩ = some (.int .i64 (p : Int))) : natAt w k = p := by unfold natAt; rw [h]; simp
def okNat : Value → Nat
  | .bool true => 1
  | _ => 0
theorem nextOut_is {w0 w : World} {ka kp kb kq : Nat} {va vb : Value} {EA EB : List V} {p q : Nat} {e : Ending} {w' : World} (h : NextOut w0 w ka kp kb kq va vb EA EB p q e w') :
    ∃ (x : V) (inA inB ok : Bool) (p' q' : Nat), e = .returned (.tuple #[x.val, .bool inA, .bool inB, .bool ok]) ∧ Walking w0 w' ka kp kb kq va vb EA EB p' q' ∧ Moves w w' kp kq ∧
      (ok = true → inA = oddB p' ∧ inB = oddB q' ∧ Step EA EB p q x p' q') ∧ (ok = false → p' = p ∧ q' = q ∧ p = EA.length ∧ q = EB.length) := by
  rcases h with ⟨h1, h2, rfl, h4, h5⟩ | ⟨x, p', q', hs, rfl, h4, h5⟩
  · exact ⟨⟨0, 0, ByteArray.empty⟩, false, false, false, p, q, rfl, h4, h5, (fun h => by cases h), fun _ => ⟨rfl, rfl, h1, h2⟩⟩
  · exact ⟨x, _, _, true, p', q', rfl, h4, h5, fun _ => ⟨rfl, rfl, hs⟩, (fun h => by cases h)⟩
/-- Between two rounds of the merging. -/
structure MSt (op : Bool → Bool → Bool) (EA EB : List V) (w0 : World) (base : Nat) (wr : World) (ka kp kb kq : Nat) (va vb vo : Value) (gp : Nat) (x : V) (inA inB ok : Bool) (p q : Nat) (out : List V) : Prop where
  walk : Walking w0 wr ka kp kb kq va vb EA EB p q
  own : OwnV base wr vo out
  pt : At wr gp 0 x
  lt : gp < wr.heap.size
  ge : base ≤ gp
  ne : some gp ≠ vo.ownBlock
  sz : base ≤ wr.heap.size
  st : ok = true → inA = oddB p ∧ inB = oddB q ∧ ∃ p0 q0, p0 ≤ EA.length ∧ q0 ≤ EB.length ∧ MInv op EA EB p0 q0 out ∧ Step EA EB p0 q0 x p q
  fin : ok = false → p = EA.length ∧ q = EB.length ∧ MInv op EA EB p q out
theorem mst_next {op : Bool → Bool → Bool} {EA EB : List V} {w0 wn w2 : World} {base ka kp kb kq p q p' q' gn : Nat} {va vb vo : Value} {out : List V} {inA inB ok : Bool} {xk xn : Int} {xt : ByteArray} {a b c : Value}
    (hown : OwnV base wn vo out) (hinv : MInv op EA EB p q out) (hp : p ≤ EA.length) (hq : q ≤ EB.length) (hk : kp < base ∧ kq < base ∧ ka < base ∧ kb < base) (hgn : gn < wn.heap.size) (hge : base ≤ gn) (hne : some gn ≠ vo.ownBlock)
    (hw2 : Walking w0 w2 ka kp kb kq va vb EA EB p' q') (hm : Moves wn w2 kp kq) (hb : w0.heap.size ≤ base)
    (hst : ok = true → inA = oddB p' ∧ inB = oddB q' ∧ Step EA EB p q ⟨xk, xn, xt⟩ p' q') (hfin : ok = false → p' = p ∧ q' = q ∧ p = EA.length ∧ q = EB.length)
    (z0 : w2.frozen? ⟨gn, 0, none⟩ = false) (z1 : w2.frozen? ⟨gn, 1, none⟩ = false) (z2 : w2.frozen? ⟨gn, 2, none⟩ = false) (s0 : w2.cell? ⟨gn, 0, none⟩ = some a) (s1 : w2.cell? ⟨gn, 1, none⟩ = some b) (s2 : w2.cell? ⟨gn, 2, none⟩ = some c) :
    MSt op EA EB w0 base (((w2.setCell ⟨gn, 0, none⟩ (.int .i64 xk)).setCell ⟨gn, 1, none⟩ (.int .i64 xn)).setCell ⟨gn, 2, none⟩ (.string xt)) ka kp kb kq va vb vo gn ⟨xk, xn, xt⟩ inA inB ok p' q' out := by
  obtain ⟨hby, y0, y1, y2, -, -, -, hs⟩ := put3 w2 gn xk xn xt (Nat.lt_of_lt_of_le hgn hm.size) z0 z1 z2 s0 s1 s2
  exact {
    walk := hw2.kept hby (fun k hk' => by cases hk'; omega)
    own := (hm.own hown hk.1 hk.2.1).kept hby (by
      cases hv : vo.ownBlock with
      | none => exact .inl rfl
      | some j => right; rw [hv] at hne; exact fun e => hne e.symm)
    pt := ⟨y0, y1, y2⟩
    lt := by rw [hs]; exact Nat.lt_of_lt_of_le hgn hm.size
    ge := hge
    ne := hne
    sz := by rw [hs]; have := hm.size; omega
    st := fun h => ⟨(hst h).1, (hst h).2.1, p, q, hp, hq, hinv, (hst h).2.2⟩
    fin := fun h => by
      obtain ⟨f1, f2, f3, f4⟩ := hfin h
      subst f1 f2
      exact ⟨f3, f4, hinv⟩ }
theorem measure_next {EA EB : List V} {w0 w w2 : World} {op : Bool → Bool → Bool} {ka kp kb kq p q p' q' gn base : Nat} {va vb vo : Value} {x : V} {inA inB ok : Bool} {out : List V}
    (h2 : MSt op EA EB w0 base w2 ka kp kb kq va vb vo gn x inA inB ok p' q' out) (h1 : Walking w0 w ka kp kb kq va vb EA EB p q)
    (hst : ok = true → inA = oddB p' ∧ inB = oddB q' ∧ Step EA EB p q x p' q') (hfin : ok = false → p' = p ∧ q' = q ∧ p = EA.length ∧ q = EB.length) :
    EA.length - natAt w2 kp + (EB.length - natAt w2 kq) + okNat (.bool ok) < EA.length - natAt w kp + (EB.length - natAt w kq) + okNat (.bool true) := by
  rw [natAt_eq h2.walk.cp, natAt_eq h2.walk.cq, natAt_eq h1.cp, natAt_eq h1.cq]
  have k1 := h2.walk.pA
  have k2 := h2.walk.qB
  cases ok
  · obtain ⟨f1, f2, f3, f4⟩ := hfin rfl
    subst f1 f2
    show _ + _ + 0 < _ + _ + 1
    omega
  · have hs := (hst rfl).2.2
    obtain ⟨-, -, a1, a2, a3, -⟩ := hs.grew
    have b1 := h1.pA
    have b2 := h1.qB
    show _ + _ + 1 < _ + _ + 1
    rcases hs with ⟨rfl, rfl, -⟩ | ⟨rfl, rfl, -⟩ | ⟨rfl, rfl, -⟩ <;> omega
def Merge (op : Bool → Bool → Bool) (EA EB : List V) (w0 : World) (base ka kp kb kq : Nat) (va vb vo vp v10 v11 v12 : Value) (wr : World) : Prop :=
  ∃ gp x inA inB ok p q out, vp = .pointer (some ⟨gp, 0, none⟩) ∧ v10 = .bool inA ∧ v11 = .bool inB ∧ v12 = .bool ok ∧ MSt op EA EB w0 base wr ka kp kb kq va vb vo gp x inA inB ok p q out
def MergeOut (op : Bool → Bool → Bool) (la lb : List I) (w : World) (e : Ending) (w' : World) : Prop :=
  ∃ (v : Value) (L : List I), e = .returned v ∧ OrdL L ∧ (∀ u, inB L u = op (inB la u) (inB lb u)) ∧ OwnI w.heap.size w' v L ∧ L.length ≤ 2 * (la.length + lb.length) ∧ Below w.heap.size w w'
theorem own_mono {w : World} {base base' : Nat} {e : TypeId} {size : Nat} {v : Value} {n : Nat} {xs : List Value} (h : w.ownsRow base e size v n xs) (hb : base' ≤ base) : w.ownsRow base' e size v n xs :=
  ⟨h.1, h.2.imp id fun ⟨g, cap, cur, h1, h2, h3⟩ => ⟨g, cap, cur, h1, Nat.le_trans hb h2, h3⟩⟩

set_option maxHeartbeats 4000000 in
set_option maxRecDepth 100000 in
theorem merge_or (op : Bool → Bool → Bool) (h00 : op false false = false) (hF : ∀ a b w, Calls Try.prog 51 #[.bool a, .bool b] w fun e w' => e = .returned (.bool (op a b)) ∧ w = w')
    (va vb : Value) (la lb : List I) (w : World) (ha : IvAt w va la) (hb : IvAt w vb lb) (oa : OrdL la) (ob : OrdL lb) (h1 : la.length ≤ 1000) (h2 : lb.length ≤ 1000) :
    Calls Try.prog 54 #[va, vb, .func (.func 51) #[] #[]] w (MergeOut op la lb w) := by
  have HF := Lib.hid hF
  have H00 := Lib.hid h00
  have HA := Lib.hid ha
  have HB := Lib.hid hb
  obtain ⟨a1, a2, a3⟩ := edges_ok oa
  obtain ⟨b1, b2, b3⟩ := edges_ok ob
  have A1 := Lib.hid a1
  have A2 := Lib.hid a2
  have A3 := Lib.hid a3
  have B1 := Lib.hid b1
  have B2 := Lib.hid b2
  have B3 := Lib.hid b3
  have hla := edges_len la
  have hlb := edges_len lb
  have HLA : Hid ((edges la).length ≤ 2 * la.length ∧ (edges lb).length ≤ 2 * lb.length ∧ la.length ≤ 1000 ∧ lb.length ≤ 1000) := ⟨hla, hlb, h1, h2⟩
  have HE := Lib.hid (edgesOf_calls va la w ha (by omega))
  clear hF h00 ha hb oa ob a1 a2 a3 b1 b2 b3 hla hlb h1 h2
  go_enter Try.func54, Try.ntmps54
  go_wp2_with fail
  refine HE.out.mono ?_
  rintro e wa ⟨ea, rfl, hoa, hba⟩
  have HOA := Lib.hid hoa
  have HBA := Lib.hid hba
  have HE2 := Lib.hid (edgesOf_calls vb lb wa (HB.out.later hba) (by have := HLA.out; omega))
  clear hoa hba HE
  go_wp2_with fail
  refine HE2.out.mono ?_
  rintro e w0 ⟨eb, rfl, hob, hbb⟩
  have hca : CutV w0 ea (edges la) := (HOA.out.cut (by have := HLA.out; omega)).later hbb
  have hcb : CutV w0 eb (edges lb) := hob.cut (by have := HLA.out; omega)
  have HB0 := Lib.hid (HBA.out.trans (hbb.mono HBA.out.size))
  have HW := Lib.hid (walk_calls ea eb (edges la) (edges lb) w0 hca hcb)
  generalize edges la = EA at *
  generalize edges lb = EB at *
  clear hob hbb HOA HBA HE2 hca hcb
  go_wp2_with fail
  refine HW.out.mono ?_
  rintro e w1 ⟨ka, kp, kb, kq, rfl, hwk⟩
  have HK := Lib.hid hwk
  have HN := Lib.hid (next_step w0 w1 ka kp kb kq ea eb EA EB A1.out B1.out 0 0 hwk)
  clear hwk HW
  go_wp2_with fail
  refine HN.out.mono ?_
  intro e w2 ho
  obtain ⟨⟨xk, xn, xt⟩, iA, iB, ok, p, q, rfl, hw2, hm2, hst, hfin⟩ := nextOut_is ho
  obtain ⟨W, hW⟩ : ∃ W, W = w2.alloc (.cells #[.int .i64 xk, .int .i64 xn, .string xt] 25) := ⟨_, rfl⟩
  have hbw : Below w2.heap.size w2 W := by rw [hW]; exact (Below.refl _ _).alloc (Nat.le_refl _) _
  have hlt : w2.heap.size < W.heap.size := by rw [hW]; simp
  have hwW : Walking w0 W ka kp kb kq ea eb EA EB p q := hw2.kept (r := none) ⟨hbw.os, hbw.tape, hbw.output, hbw.size, fun k hk _ => hbw.block k hk⟩ (fun k hk => by cases hk)
  have hstate : MSt op EA EB w0 w1.heap.size W ka kp kb kq ea eb (.slice none 0 0) w2.heap.size ⟨xk, xn, xt⟩ iA iB ok p q [] := {
    walk := hwW
    own := World.ownsRow_nil _ _ _ _
    pt := by rw [hW]; exact ⟨by go_simp, by go_simp, by go_simp⟩
    lt := hlt
    ge := hm2.size
    ne := by simp [Value.ownBlock]
    sz := Nat.le_trans hm2.size (Nat.le_of_lt hlt)
    st := fun h => ⟨(hst h).1, (hst h).2.1, 0, 0, Nat.zero_le _, Nat.zero_le _, MInv.zero H00.out EA EB, (hst h).2.2⟩
    fin := fun h => by
      obtain ⟨f1, f2, f3, f4⟩ := hfin h
      subst f1 f2
      exact ⟨f3, f4, MInv.zero H00.out EA EB⟩ }
  have HST : Hid (Merge op EA EB w0 w1.heap.size ka kp kb kq ea eb (.slice none 0 0) (.pointer (some ⟨w2.heap.size, 0, none⟩)) (.bool iA) (.bool iB) (.bool ok) W) := ⟨_, _, _, _, _, _, _, _, rfl, rfl, rfl, rfl, hstate⟩
  have hk4 : ka < w1.heap.size ∧ kp < w1.heap.size ∧ kb < w1.heap.size ∧ kq < w1.heap.size := ⟨HK.out.la, HK.out.lp, HK.out.lb, HK.out.lq⟩
  have HK4 := Lib.hid hk4
  clear ho hw2 hm2 hst hfin hbw hlt hwW hstate HN hk4
  go_wp2_with fail
  rw [← hW]
  generalize w2.heap.size = gp0 at HST ⊢
  clear hW
  generalize w1.heap.size = base at HST HK4
  obtain ⟨i, hi, hz, hsz, hby⟩ := info_parts info24
  have HI := Lib.hid hi
  have HZ := Lib.hid hz
  have HSZ := Lib.hid hsz
  have HBY := Lib.hid hby
  clear hi hz hsz hby
  go_loopw [7, 9, 10, 11, 12] (fun vo vp v10 v11 v12 wr => Merge op EA EB w0 base ka kp kb kq ea eb vo vp v10 v11 v12 wr) (fun _ _ _ _ v12 wr => (EA.length - natAt wr kp) + (EB.length - natAt wr kq) + okNat v12)
  case atStart => exact HST.out
  case round =>
    obtain ⟨gp, ⟨xk, xn, xt⟩, iA, iB, ok, p, q, out, rfl, rfl, rfl, rfl, hs⟩ := hrel
    have HS := Lib.hid hs
    have hol : out.length ≤ 4000 := by
      have := HLA.out
      cases ok
      · have h3 := hs.fin rfl
        have := h3.2.2.len; omega
      · obtain ⟨-, -, p0, q0, i1, i2, i3, -⟩ := hs.st rfl
        have := i3.len; omega
    have HOL := Lib.hid hol
    have hcut := hs.own.cut (by omega)
    obtain ⟨oa, oc, rfl, -, -, -, -⟩ := id hcut
    have HCUT := Lib.hid hcut
    clear HST hol hcut
    cases ok
    · obtain ⟨hp, hq, hinv⟩ := hs.fin rfl
      have HIN := Lib.hid hinv
      have HBW : Hid (Below w.heap.size w wr) := HB0.out.trans (hs.walk.bel.mono HB0.out.size)
      have hov : ∀ e ∈ out, validB e = true := fun e he => by
        rcases hinv.mem e he with h | h
        · exact A2.out e (List.mem_of_mem_take h)
        · exact B2.out e (List.mem_of_mem_take h)
      have hin : ∀ u, inB (ivs out) u = op (inB la u) (inB lb u) := fun u => by
        rw [ivs_in hinv.asc hov u, hinv.par_ u, hp, hq, List.take_length, List.take_length, A3.out u, B3.out u]
      have HIU := Lib.hid hin
      have HOV := Lib.hid (ivs_ord out hinv.asc hov)
      have HIV := Lib.hid (intervals_calls _ out wr HCUT.out (by have := HOL.out; omega))
      have HLN : Hid ((ivs out).length ≤ 2 * (la.length + lb.length)) := by
        show _ ≤ _
        have h1 := ivs_total out
        have h2 := hinv.len
        have h3 := HLA.out
        omega
      clear hs hinv hov hin hp hq
      go_wp2_with fail
      refine HIV.out.mono ?_
      rintro e w5 ⟨v5, rfl, ho5, hb5⟩
      have HO5 := Lib.hid (own_mono ho5 HBW.out.size)
      have HB5 := Lib.hid (HBW.out.trans (hb5.mono HBW.out.size))
      clear ho5 hb5
      go_wp2
      go_ret
      exact ⟨_, _, rfl, HOV.out, HIU.out, HO5.out, HLN.out, HB5.out⟩
    · obtain ⟨rfl, rfl, p0, q0, hp0, hq0, hinv, hstep⟩ := hs.st rfl
      have HINV := Lib.hid (hinv.step A1.out B1.out hstep hp0 hq0)
      have HOWN := Lib.hid hs.own
      have HWK0 := Lib.hid hs.walk
      obtain ⟨t0, t1, t2⟩ := hs.pt
      simp only [Nat.zero_add] at t0 t1 t2
      have lgp := hs.lt
      have hne := hs.ne
      have SZ0 := hs.sz
      obtain ⟨c, hc⟩ : ∃ c, op (oddB p) (oddB q) = c := ⟨_, rfl⟩
      obtain ⟨d, hd⟩ : ∃ d, oddB out.length = d := ⟨_, rfl⟩
      have HC := Lib.hid hc
      have HD := Lib.hid hd
      have HCF := Lib.hid (HF.out (oddB p) (oddB q))
      have HCI := Lib.hid (fun w' => inside_calls oa out.length oc (by have := HOL.out; omega) w')
      rw [hc] at HCF
      rw [hd] at HCI
      clear hs hp0 hq0 hinv hstep hc hd
      by_cases hcd : c = d
      · subst hcd
        have hcc : (c != c) = false := by simp
        have hfl : flips op (oddB p) (oddB q) out ⟨xk, xn, xt⟩ = out := by unfold flips; rw [HC.out, HD.out, hcc]; rfl
        rw [hfl] at HINV
        clear hfl
        go_wp2_with fail
        refine (HCF.out _).mono ?_
        rintro e w' ⟨rfl, rfl⟩
        go_wp2_with fail
        refine (HCI.out _).mono ?_
        rintro e w' ⟨rfl, rfl⟩
        go_wp2_with fail
        have hwk := HS.out.walk.kept (r := none) (World.grownBy_alloc wr (.cells #[.int .i64 xk, .int .i64 xn, .string xt] 25) none) (fun k hk => by cases hk)
        obtain ⟨wn, hwn⟩ : ∃ u, u = wr.alloc (.cells #[.int .i64 xk, .int .i64 xn, .string xt] 25) := ⟨_, rfl⟩
        have hown := HOWN.out.alloc (.cells #[.int .i64 xk, .int .i64 xn, .string xt] 25)
        have g0 : wn.cell? ⟨wr.heap.size, 0, none⟩ = some (.int .i64 xk) := by rw [hwn]; go_simp
        have g1 : wn.cell? ⟨wr.heap.size, 1, none⟩ = some (.int .i64 xn) := by rw [hwn]; go_simp
        have g2 : wn.cell? ⟨wr.heap.size, 2, none⟩ = some (.string xt) := by rw [hwn]; go_simp
        have z0 : wn.frozen? ⟨wr.heap.size, 0, none⟩ = false := by rw [hwn]; go_simp
        have z1 : wn.frozen? ⟨wr.heap.size, 1, none⟩ = false := by rw [hwn]; go_simp
        have z2 : wn.frozen? ⟨wr.heap.size, 2, none⟩ = false := by rw [hwn]; go_simp
        have hgn : wr.heap.size < wn.heap.size := by rw [hwn]; simp
        have hnn : some wr.heap.size ≠ (.slice oa out.length oc : Value).ownBlock := fun e => by have := (HOWN.out.lt _ e.symm).2; omega
        have hge : base ≤ wr.heap.size := SZ0
        rw [← hwn] at hwk hown ⊢
        have HWK := Lib.hid hwk
        have HWN := Lib.hid hown
        clear hwn
        generalize wr.heap.size = gn at *
        refine (next_step w0 wn ka kp kb kq ea eb EA EB A1.out B1.out p q HWK.out).mono ?_
        intro e w2 ho
        obtain ⟨⟨yk, yn, yt⟩, iA', iB', ok', p', q', rfl, hw2, hm2, hst, hfin⟩ := nextOut_is ho
        have n1 : gn ≠ kp := by have := HK4.out; omega
        have n2 : gn ≠ kq := by have := HK4.out; omega
        have s0 := hm2.cell g0 hgn n1 n2
        have s1 := hm2.cell g1 hgn n1 n2
        have s2 := hm2.cell g2 hgn n1 n2
        have f0 := hm2.frozen z0 hgn n1 n2
        have f1 := hm2.frozen z1 hgn n1 n2
        have f2 := hm2.frozen z2 hgn n1 n2
        have lg2 := Nat.lt_of_lt_of_le hgn hm2.size
        have HNX := Lib.hid (mst_next (inA := iA') (inB := iB') (ok := ok') (xk := yk) (xn := yn) (xt := yt) HWN.out HINV.out HWK.out.pA HWK.out.qB ⟨HK4.out.2.1, HK4.out.2.2.2, HK4.out.1, HK4.out.2.2.1⟩ hgn hge hnn hw2 hm2 (Nat.le_trans HK.out.za (Nat.le_of_lt HK4.out.1)) hst hfin f0 f1 f2 s0 s1 s2)
        have HMS := Lib.hid (measure_next HNX.out HWK0.out hst hfin)
        clear ho hw2 hm2 hst hfin g0 g1 g2 z0 z1 z2 hwk hown t0 t1 t2
        go_wp2
        go_roundw
        case rel => exact ⟨gn, ⟨yk, yn, yt⟩, iA', iB', ok', p', q', out, rfl, rfl, rfl, rfl, HNX.out⟩
        case measure => exact HMS.out
      · have hcc : (c != d) = true := by simpa using hcd
        have hfl : flips op (oddB p) (oddB q) out ⟨xk, xn, xt⟩ = out ++ [⟨xk, xn, xt⟩] := by unfold flips; rw [HC.out, HD.out, hcc]; rfl
        rw [hfl] at HINV
        have hcc2 : (!c == d) = true := by cases c <;> cases d <;> simp_all
        clear hfl hcd hcc
        have HSS := Lib.hid SZ0
        go_wp2_with fail
        refine (HCF.out _).mono ?_
        rintro e w' ⟨rfl, rfl⟩
        go_wp2_with fail
        refine (HCI.out _).mono ?_
        rintro e w' ⟨rfl, rfl⟩
        go_wp2_with (at_builtin; go_must (refine wpList_append_own _ rfl _ _ 35 rfl base 25 i (V.val ⟨0, 0, ⟨#[]⟩⟩) 3 32 Try.underlying35 HI.out HZ.out HSZ.out HBY.out rfl (by decide) _ out.length (flat out) rfl (HOWN.out.alloc _) ⟨wr.heap.size, 0, none⟩ 1 1 [.int .i64 xk, .int .i64 xn, .string xt] rfl rfl (three_at _ _ _ _ _ _ rfl) (by intro u hu; simp at hu; rcases hu with rfl | rfl | rfl <;> rfl) ?c3 ?c4 ?c5 ?_))
        case c3 => have := HOL.out; unfold maxLen; omega
        case c4 => have := HOL.out; omega
        case c5 => have := HSS.out; simp; omega
        intro v' w5 hown' hgrow hnil
        have hal := World.grownBy_alloc wr (.cells #[.int .i64 xk, .int .i64 xn, .string xt] 25) none
        have HWKA := Lib.hid ((HS.out.walk.kept hal (fun k hk => by cases hk)).kept hgrow (fun k hk => by
          have h1 := (HOWN.out.lt k hk).1
          have h2 := HK4.out
          have h3 := HK.out.za
          exact ⟨by omega, by omega, by omega, by omega, by omega⟩))
        have u0 : w5.cell? ⟨gp, 0, none⟩ = some (.int .i64 xk) := hgrow.cell (by go_simp) hne
        have u1 : w5.cell? ⟨gp, 1, none⟩ = some (.int .i64 xn) := hgrow.cell (by go_simp) hne
        have u2 : w5.cell? ⟨gp, 2, none⟩ = some (.string xt) := hgrow.cell (by go_simp) hne
        have lg5 : gp < w5.heap.size := Nat.lt_of_lt_of_le (by simp; omega) hgrow.size
        have HOWN5 : Hid (OwnV base w5 v' (out ++ [⟨xk, xn, xt⟩])) := own_one (x := ⟨xk, xn, xt⟩) hown'
        have SZ5 : base ≤ w5.heap.size := Nat.le_trans SZ0 (Nat.le_trans (by simp) hgrow.size)
        clear hown' hgrow hnil hal t0 t1 t2 lgp hne SZ0
        go_wp2_with fail
        have hwk := HWKA.out.kept (r := none) (World.grownBy_alloc w5 (.cells #[.int .i64 xk, .int .i64 xn, .string xt] 25) none) (fun k hk => by cases hk)
        obtain ⟨wn, hwn⟩ : ∃ u, u = w5.alloc (.cells #[.int .i64 xk, .int .i64 xn, .string xt] 25) := ⟨_, rfl⟩
        have hown := HOWN5.out.alloc (.cells #[.int .i64 xk, .int .i64 xn, .string xt] 25)
        have g0 : wn.cell? ⟨w5.heap.size, 0, none⟩ = some (.int .i64 xk) := by rw [hwn]; go_simp
        have g1 : wn.cell? ⟨w5.heap.size, 1, none⟩ = some (.int .i64 xn) := by rw [hwn]; go_simp
        have g2 : wn.cell? ⟨w5.heap.size, 2, none⟩ = some (.string xt) := by rw [hwn]; go_simp
        have z0 : wn.frozen? ⟨w5.heap.size, 0, none⟩ = false := by rw [hwn]; go_simp
        have z1 : wn.frozen? ⟨w5.heap.size, 1, none⟩ = false := by rw [hwn]; go_simp
        have z2 : wn.frozen? ⟨w5.heap.size, 2, none⟩ = false := by rw [hwn]; go_simp
        have hgn : w5.heap.size < wn.heap.size := by rw [hwn]; simp
        have hnn : some w5.heap.size ≠ v'.ownBlock := fun e => by have := (HOWN5.out.lt _ e.symm).2; omega
        have hge : base ≤ w5.heap.size := SZ5
        rw [← hwn] at hwk hown ⊢
        have HWK := Lib.hid hwk
        have HWN := Lib.hid hown
        clear hwn
        generalize w5.heap.size = gn at *
        refine (next_step w0 wn ka kp kb kq ea eb EA EB A1.out B1.out p q HWK.out).mono ?_
        intro e w2 ho
        obtain ⟨⟨yk, yn, yt⟩, iA', iB', ok', p', q', rfl, hw2, hm2, hst, hfin⟩ := nextOut_is ho
        have n1 : gn ≠ kp := by have := HK4.out; omega
        have n2 : gn ≠ kq := by have := HK4.out; omega
        have s0 := hm2.cell g0 hgn n1 n2
        have s1 := hm2.cell g1 hgn n1 n2
        have s2 := hm2.cell g2 hgn n1 n2
        have f0 := hm2.frozen z0 hgn n1 n2
        have f1 := hm2.frozen z1 hgn n1 n2
        have f2 := hm2.frozen z2 hgn n1 n2
        have lg2 := Nat.lt_of_lt_of_le hgn hm2.size
        have HNX := Lib.hid (mst_next (inA := iA') (inB := iB') (ok := ok') (xk := yk) (xn := yn) (xt := yt) HWN.out HINV.out HWK.out.pA HWK.out.qB ⟨HK4.out.2.1, HK4.out.2.2.2, HK4.out.1, HK4.out.2.2.1⟩ hgn hge hnn hw2 hm2 (Nat.le_trans HK.out.za (Nat.le_of_lt HK4.out.1)) hst hfin f0 f1 f2 s0 s1 s2)
        have HMS := Lib.hid (measure_next HNX.out HWK0.out hst hfin)
        clear ho hw2 hm2 hst hfin g0 g1 g2 z0 z1 z2 hwk hown u0 u1 u2
        go_wp2
        go_roundw
        case rel => exact ⟨gn, ⟨yk, yn, yt⟩, iA', iB', ok', p', q', (out ++ [⟨xk, xn, xt⟩]), rfl, rfl, rfl, rfl, HNX.out⟩
        case measure => exact HMS.out
set_option maxHeartbeats 4000000 in
set_option maxRecDepth 100000 in
theorem merge_and (op : Bool → Bool → Bool) (h00 : op false false = false) (hF : ∀ a b w, Calls Try.prog 52 #[.bool a, .bool b] w fun e w' => e = .returned (.bool (op a b)) ∧ w = w')
    (va vb : Value) (la lb : List I) (w : World) (ha : IvAt w va la) (hb : IvAt w vb lb) (oa : OrdL la) (ob : OrdL lb) (h1 : la.length ≤ 1000) (h2 : lb.length ≤ 1000) :
    Calls Try.prog 54 #[va, vb, .func (.func 52) #[] #[]] w (MergeOut op la lb w) := by
  have HF := Lib.hid hF
  have H00 := Lib.hid h00
  have HA := Lib.hid ha
  have HB := Lib.hid hb
  obtain ⟨a1, a2, a3⟩ := edges_ok oa
  obtain ⟨b1, b2, b3⟩ := edges_ok ob
  have A1 := Lib.hid a1
  have A2 := Lib.hid a2
  have A3 := Lib.hid a3
  have B1 := Lib.hid b1
  have B2 := Lib.hid b2
  have B3 := Lib.hid b3
  have hla := edges_len la
  have hlb := edges_len lb
  have HLA : Hid ((edges la).length ≤ 2 * la.length ∧ (edges lb).length ≤ 2 * lb.length ∧ la.length ≤ 1000 ∧ lb.length ≤ 1000) := ⟨hla, hlb, h1, h2⟩
  have HE := Lib.hid (edgesOf_calls va la w ha (by omega))
  clear hF h00 ha hb oa ob a1 a2 a3 b1 b2 b3 hla hlb h1 h2
  go_enter Try.func54, Try.ntmps54
  go_wp2_with fail
  refine HE.out.mono ?_
  rintro e wa ⟨ea, rfl, hoa, hba⟩
  have HOA := Lib.hid hoa
  have HBA := Lib.hid hba
  have HE2 := Lib.hid (edgesOf_calls vb lb wa (HB.out.later hba) (by have := HLA.out; omega))
  clear hoa hba HE
  go_wp2_with fail
  refine HE2.out.mono ?_
  rintro e w0 ⟨eb, rfl, hob, hbb⟩
  have hca : CutV w0 ea (edges la) := (HOA.out.cut (by have := HLA.out; omega)).later hbb
  have hcb : CutV w0 eb (edges lb) := hob.cut (by have := HLA.out; omega)
  have HB0 := Lib.hid (HBA.out.trans (hbb.mono HBA.out.size))
  have HW := Lib.hid (walk_calls ea eb (edges la) (edges lb) w0 hca hcb)
  generalize edges la = EA at *
  generalize edges lb = EB at *
  clear hob hbb HOA HBA HE2 hca hcb
  go_wp2_with fail
  refine HW.out.mono ?_
  rintro e w1 ⟨ka, kp, kb, kq, rfl, hwk⟩
  have HK := Lib.hid hwk
  have HN := Lib.hid (next_step w0 w1 ka kp kb kq ea eb EA EB A1.out B1.out 0 0 hwk)
  clear hwk HW
  go_wp2_with fail
  refine HN.out.mono ?_
  intro e w2 ho
  obtain ⟨⟨xk, xn, xt⟩, iA, iB, ok, p, q, rfl, hw2, hm2, hst, hfin⟩ := nextOut_is ho
  obtain ⟨W, hW⟩ : ∃ W, W = w2.alloc (.cells #[.int .i64 xk, .int .i64 xn, .string xt] 25) := ⟨_, rfl⟩
  have hbw : Below w2.heap.size w2 W := by rw [hW]; exact (Below.refl _ _).alloc (Nat.le_refl _) _
  have hlt : w2.heap.size < W.heap.size := by rw [hW]; simp
  have hwW : Walking w0 W ka kp kb kq ea eb EA EB p q := hw2.kept (r := none) ⟨hbw.os, hbw.tape, hbw.output, hbw.size, fun k hk _ => hbw.block k hk⟩ (fun k hk => by cases hk)
  have hstate : MSt op EA EB w0 w1.heap.size W ka kp kb kq ea eb (.slice none 0 0) w2.heap.size ⟨xk, xn, xt⟩ iA iB ok p q [] := {
    walk := hwW
    own := World.ownsRow_nil _ _ _ _
    pt := by rw [hW]; exact ⟨by go_simp, by go_simp, by go_simp⟩
    lt := hlt
    ge := hm2.size
    ne := by simp [Value.ownBlock]
    sz := Nat.le_trans hm2.size (Nat.le_of_lt hlt)
    st := fun h => ⟨(hst h).1, (hst h).2.1, 0, 0, Nat.zero_le _, Nat.zero_le _, MInv.zero H00.out EA EB, (hst h).2.2⟩
    fin := fun h => by
      obtain ⟨f1, f2, f3, f4⟩ := hfin h
      subst f1 f2
      exact ⟨f3, f4, MInv.zero H00.out EA EB⟩ }
  have HST : Hid (Merge op EA EB w0 w1.heap.size ka kp kb kq ea eb (.slice none 0 0) (.pointer (some ⟨w2.heap.size, 0, none⟩)) (.bool iA) (.bool iB) (.bool ok) W) := ⟨_, _, _, _, _, _, _, _, rfl, rfl, rfl, rfl, hstate⟩
  have hk4 : ka < w1.heap.size ∧ kp < w1.heap.size ∧ kb < w1.heap.size ∧ kq < w1.heap.size := ⟨HK.out.la, HK.out.lp, HK.out.lb, HK.out.lq⟩
  have HK4 := Lib.hid hk4
  clear ho hw2 hm2 hst hfin hbw hlt hwW hstate HN hk4
  go_wp2_with fail
  rw [← hW]
  generalize w2.heap.size = gp0 at HST ⊢
  clear hW
  generalize w1.heap.size = base at HST HK4
  obtain ⟨i, hi, hz, hsz, hby⟩ := info_parts info24
  have HI := Lib.hid hi
  have HZ := Lib.hid hz
  have HSZ := Lib.hid hsz
  have HBY := Lib.hid hby
  clear hi hz hsz hby
  go_loopw [7, 9, 10, 11, 12] (fun vo vp v10 v11 v12 wr => Merge op EA EB w0 base ka kp kb kq ea eb vo vp v10 v11 v12 wr) (fun _ _ _ _ v12 wr => (EA.length - natAt wr kp) + (EB.length - natAt wr kq) + okNat v12)
  case atStart => exact HST.out
  case round =>
    obtain ⟨gp, ⟨xk, xn, xt⟩, iA, iB, ok, p, q, out, rfl, rfl, rfl, rfl, hs⟩ := hrel
    have HS := Lib.hid hs
    have hol : out.length ≤ 4000 := by
      have := HLA.out
      cases ok
      · have h3 := hs.fin rfl
        have := h3.2.2.len; omega
      · obtain ⟨-, -, p0, q0, i1, i2, i3, -⟩ := hs.st rfl
        have := i3.len; omega
    have HOL := Lib.hid hol
    have hcut := hs.own.cut (by omega)
    obtain ⟨oa, oc, rfl, -, -, -, -⟩ := id hcut
    have HCUT := Lib.hid hcut
    clear HST hol hcut
    cases ok
    · obtain ⟨hp, hq, hinv⟩ := hs.fin rfl
      have HIN := Lib.hid hinv
      have HBW : Hid (Below w.heap.size w wr) := HB0.out.trans (hs.walk.bel.mono HB0.out.size)
      have hov : ∀ e ∈ out, validB e = true := fun e he => by
        rcases hinv.mem e he with h | h
        · exact A2.out e (List.mem_of_mem_take h)
        · exact B2.out e (List.mem_of_mem_take h)
      have hin : ∀ u, inB (ivs out) u = op (inB la u) (inB lb u) := fun u => by
        rw [ivs_in hinv.asc hov u, hinv.par_ u, hp, hq, List.take_length, List.take_length, A3.out u, B3.out u]
      have HIU := Lib.hid hin
      have HOV := Lib.hid (ivs_ord out hinv.asc hov)
      have HIV := Lib.hid (intervals_calls _ out wr HCUT.out (by have := HOL.out; omega))
      have HLN : Hid ((ivs out).length ≤ 2 * (la.length + lb.length)) := by
        show _ ≤ _
        have h1 := ivs_total out
        have h2 := hinv.len
        have h3 := HLA.out
        omega
      clear hs hinv hov hin hp hq
      go_wp2_with fail
      refine HIV.out.mono ?_
      rintro e w5 ⟨v5, rfl, ho5, hb5⟩
      have HO5 := Lib.hid (own_mono ho5 HBW.out.size)
      have HB5 := Lib.hid (HBW.out.trans (hb5.mono HBW.out.size))
      clear ho5 hb5
      go_wp2
      go_ret
      exact ⟨_, _, rfl, HOV.out, HIU.out, HO5.out, HLN.out, HB5.out⟩
    · obtain ⟨rfl, rfl, p0, q0, hp0, hq0, hinv, hstep⟩ := hs.st rfl
      have HINV := Lib.hid (hinv.step A1.out B1.out hstep hp0 hq0)
      have HOWN := Lib.hid hs.own
      have HWK0 := Lib.hid hs.walk
      obtain ⟨t0, t1, t2⟩ := hs.pt
      simp only [Nat.zero_add] at t0 t1 t2
      have lgp := hs.lt
      have hne := hs.ne
      have SZ0 := hs.sz
      obtain ⟨c, hc⟩ : ∃ c, op (oddB p) (oddB q) = c := ⟨_, rfl⟩
      obtain ⟨d, hd⟩ : ∃ d, oddB out.length = d := ⟨_, rfl⟩
      have HC := Lib.hid hc
      have HD := Lib.hid hd
      have HCF := Lib.hid (HF.out (oddB p) (oddB q))
      have HCI := Lib.hid (fun w' => inside_calls oa out.length oc (by have := HOL.out; omega) w')
      rw [hc] at HCF
      rw [hd] at HCI
      clear hs hp0 hq0 hinv hstep hc hd
      by_cases hcd : c = d
      · subst hcd
        have hcc : (c != c) = false := by simp
        have hfl : flips op (oddB p) (oddB q) out ⟨xk, xn, xt⟩ = out := by unfold flips; rw [HC.out, HD.out, hcc]; rfl
        rw [hfl] at HINV
        clear hfl
        go_wp2_with fail
        refine (HCF.out _).mono ?_
        rintro e w' ⟨rfl, rfl⟩
        go_wp2_with fail
        refine (HCI.out _).mono ?_
        rintro e w' ⟨rfl, rfl⟩
        go_wp2_with fail
        have hwk := HS.out.walk.kept (r := none) (World.grownBy_alloc wr (.cells #[.int .i64 xk, .int .i64 xn, .string xt] 25) none) (fun k hk => by cases hk)
        obtain ⟨wn, hwn⟩ : ∃ u, u = wr.alloc (.cells #[.int .i64 xk, .int .i64 xn, .string xt] 25) := ⟨_, rfl⟩
        have hown := HOWN.out.alloc (.cells #[.int .i64 xk, .int .i64 xn, .string xt] 25)
        have g0 : wn.cell? ⟨wr.heap.size, 0, none⟩ = some (.int .i64 xk) := by rw [hwn]; go_simp
        have g1 : wn.cell? ⟨wr.heap.size, 1, none⟩ = some (.int .i64 xn) := by rw [hwn]; go_simp
        have g2 : wn.cell? ⟨wr.heap.size, 2, none⟩ = some (.string xt) := by rw [hwn]; go_simp
        have z0 : wn.frozen? ⟨wr.heap.size, 0, none⟩ = false := by rw [hwn]; go_simp
        have z1 : wn.frozen? ⟨wr.heap.size, 1, none⟩ = false := by rw [hwn]; go_simp
        have z2 : wn.frozen? ⟨wr.heap.size, 2, none⟩ = false := by rw [hwn]; go_simp
        have hgn : wr.heap.size < wn.heap.size := by rw [hwn]; simp
        have hnn : some wr.heap.size ≠ (.slice oa out.length oc : Value).ownBlock := fun e => by have := (HOWN.out.lt _ e.symm).2; omega
        have hge : base ≤ wr.heap.size := SZ0
        rw [← hwn] at hwk hown ⊢
        have HWK := Lib.hid hwk
        have HWN := Lib.hid hown
        clear hwn
        generalize wr.heap.size = gn at *
        refine (next_step w0 wn ka kp kb kq ea eb EA EB A1.out B1.out p q HWK.out).mono ?_
        intro e w2 ho
        obtain ⟨⟨yk, yn, yt⟩, iA', iB', ok', p', q', rfl, hw2, hm2, hst, hfin⟩ := nextOut_is ho
        have n1 : gn ≠ kp := by have := HK4.out; omega
        have n2 : gn ≠ kq := by have := HK4.out; omega
        have s0 := hm2.cell g0 hgn n1 n2
        have s1 := hm2.cell g1 hgn n1 n2
        have s2 := hm2.cell g2 hgn n1 n2
        have f0 := hm2.frozen z0 hgn n1 n2
        have f1 := hm2.frozen z1 hgn n1 n2
        have f2 := hm2.frozen z2 hgn n1 n2
        have lg2 := Nat.lt_of_lt_of_le hgn hm2.size
        have HNX := Lib.hid (mst_next (inA := iA') (inB := iB') (ok := ok') (xk := yk) (xn := yn) (xt := yt) HWN.out HINV.out HWK.out.pA HWK.out.qB ⟨HK4.out.2.1, HK4.out.2.2.2, HK4.out.1, HK4.out.2.2.1⟩ hgn hge hnn hw2 hm2 (Nat.le_trans HK.out.za (Nat.le_of_lt HK4.out.1)) hst hfin f0 f1 f2 s0 s1 s2)
        have HMS := Lib.hid (measure_next HNX.out HWK0.out hst hfin)
        clear ho hw2 hm2 hst hfin g0 g1 g2 z0 z1 z2 hwk hown t0 t1 t2
        go_wp2
        go_roundw
        case rel => exact ⟨gn, ⟨yk, yn, yt⟩, iA', iB', ok', p', q', out, rfl, rfl, rfl, rfl, HNX.out⟩
        case measure => exact HMS.out
      · have hcc : (c != d) = true := by simpa using hcd
        have hfl : flips op (oddB p) (oddB q) out ⟨xk, xn, xt⟩ = out ++ [⟨xk, xn, xt⟩] := by unfold flips; rw [HC.out, HD.out, hcc]; rfl
        rw [hfl] at HINV
        have hcc2 : (!c == d) = true := by cases c <;> cases d <;> simp_all
        clear hfl hcd hcc
        have HSS := Lib.hid SZ0
        go_wp2_with fail
        refine (HCF.out _).mono ?_
        rintro e w' ⟨rfl, rfl⟩
        go_wp2_with fail
        refine (HCI.out _).mono ?_
        rintro e w' ⟨rfl, rfl⟩
        go_wp2_with (at_builtin; go_must (refine wpList_append_own _ rfl _ _ 35 rfl base 25 i (V.val ⟨0, 0, ⟨#[]⟩⟩) 3 32 Try.underlying35 HI.out HZ.out HSZ.out HBY.out rfl (by decide) _ out.length (flat out) rfl (HOWN.out.alloc _) ⟨wr.heap.size, 0, none⟩ 1 1 [.int .i64 xk, .int .i64 xn, .string xt] rfl rfl (three_at _ _ _ _ _ _ rfl) (by intro u hu; simp at hu; rcases hu with rfl | rfl | rfl <;> rfl) ?c3 ?c4 ?c5 ?_))
        case c3 => have := HOL.out; unfold maxLen; omega
        case c4 => have := HOL.out; omega
        case c5 => have := HSS.out; simp; omega
        intro v' w5 hown' hgrow hnil
        have hal := World.grownBy_alloc wr (.cells #[.int .i64 xk, .int .i64 xn, .string xt] 25) none
        have HWKA := Lib.hid ((HS.out.walk.kept hal (fun k hk => by cases hk)).kept hgrow (fun k hk => by
          have h1 := (HOWN.out.lt k hk).1
          have h2 := HK4.out
          have h3 := HK.out.za
          exact ⟨by omega, by omega, by omega, by omega, by omega⟩))
        have u0 : w5.cell? ⟨gp, 0, none⟩ = some (.int .i64 xk) := hgrow.cell (by go_simp) hne
        have u1 : w5.cell? ⟨gp, 1, none⟩ = some (.int .i64 xn) := hgrow.cell (by go_simp) hne
        have u2 : w5.cell? ⟨gp, 2, none⟩ = some (.string xt) := hgrow.cell (by go_simp) hne
        have lg5 : gp < w5.heap.size := Nat.lt_of_lt_of_le (by simp; omega) hgrow.size
        have HOWN5 : Hid (OwnV base w5 v' (out ++ [⟨xk, xn, xt⟩])) := own_one (x := ⟨xk, xn, xt⟩) hown'
        have SZ5 : base ≤ w5.heap.size := Nat.le_trans SZ0 (Nat.le_trans (by simp) hgrow.size)
        clear hown' hgrow hnil hal t0 t1 t2 lgp hne SZ0
        go_wp2_with fail
        have hwk := HWKA.out.kept (r := none) (World.grownBy_alloc w5 (.cells #[.int .i64 xk, .int .i64 xn, .string xt] 25) none) (fun k hk => by cases hk)
        obtain ⟨wn, hwn⟩ : ∃ u, u = w5.alloc (.cells #[.int .i64 xk, .int .i64 xn, .string xt] 25) := ⟨_, rfl⟩
        have hown := HOWN5.out.alloc (.cells #[.int .i64 xk, .int .i64 xn, .string xt] 25)
        have g0 : wn.cell? ⟨w5.heap.size, 0, none⟩ = some (.int .i64 xk) := by rw [hwn]; go_simp
        have g1 : wn.cell? ⟨w5.heap.size, 1, none⟩ = some (.int .i64 xn) := by rw [hwn]; go_simp
        have g2 : wn.cell? ⟨w5.heap.size, 2, none⟩ = some (.string xt) := by rw [hwn]; go_simp
        have z0 : wn.frozen? ⟨w5.heap.size, 0, none⟩ = false := by rw [hwn]; go_simp
        have z1 : wn.frozen? ⟨w5.heap.size, 1, none⟩ = false := by rw [hwn]; go_simp
        have z2 : wn.frozen? ⟨w5.heap.size, 2, none⟩ = false := by rw [hwn]; go_simp
        have hgn : w5.heap.size < wn.heap.size := by rw [hwn]; simp
        have hnn : some w5.heap.size ≠ v'.ownBlock := fun e => by have := (HOWN5.out.lt _ e.symm).2; omega
        have hge : base ≤ w5.heap.size := SZ5
        rw [← hwn] at hwk hown ⊢
        have HWK := Lib.hid hwk
        have HWN := Lib.hid hown
        clear hwn
        generalize w5.heap.size = gn at *
        refine (next_step w0 wn ka kp kb kq ea eb EA EB A1.out B1.out p q HWK.out).mono ?_
        intro e w2 ho
        obtain ⟨⟨yk, yn, yt⟩, iA', iB', ok', p', q', rfl, hw2, hm2, hst, hfin⟩ := nextOut_is ho
        have n1 : gn ≠ kp := by have := HK4.out; omega
        have n2 : gn ≠ kq := by have := HK4.out; omega
        have s0 := hm2.cell g0 hgn n1 n2
        have s1 := hm2.cell g1 hgn n1 n2
        have s2 := hm2.cell g2 hgn n1 n2
        have f0 := hm2.frozen z0 hgn n1 n2
        have f1 := hm2.frozen z1 hgn n1 n2
        have f2 := hm2.frozen z2 hgn n1 n2
        have lg2 := Nat.lt_of_lt_of_le hgn hm2.size
        have HNX := Lib.hid (mst_next (inA := iA') (inB := iB') (ok := ok') (xk := yk) (xn := yn) (xt := yt) HWN.out HINV.out HWK.out.pA HWK.out.qB ⟨HK4.out.2.1, HK4.out.2.2.2, HK4.out.1, HK4.out.2.2.1⟩ hgn hge hnn hw2 hm2 (Nat.le_trans HK.out.za (Nat.le_of_lt HK4.out.1)) hst hfin f0 f1 f2 s0 s1 s2)
        have HMS := Lib.hid (measure_next HNX.out HWK0.out hst hfin)
        clear ho hw2 hm2 hst hfin g0 g1 g2 z0 z1 z2 hwk hown u0 u1 u2
        go_wp2
        go_roundw
        case rel => exact ⟨gn, ⟨yk, yn, yt⟩, iA', iB', ok', p', q', (out ++ [⟨xk, xn, xt⟩]), rfl, rfl, rfl, rfl, HNX.out⟩
        case measure => exact HMS.out
set_option maxHeartbeats 4000000 in
set_option maxRecDepth 100000 in
theorem merge_without (op : Bool → Bool → Bool) (h00 : op false false = false) (hF : ∀ a b w, Calls Try.prog 53 #[.bool a, .bool b] w fun e w' => e = .returned (.bool (op a b)) ∧ w = w')
    (va vb : Value) (la lb : List I) (w : World) (ha : IvAt w va la) (hb : IvAt w vb lb) (oa : OrdL la) (ob : OrdL lb) (h1 : la.length ≤ 1000) (h2 : lb.length ≤ 1000) :
    Calls Try.prog 54 #[va, vb, .func (.func 53) #[] #[]] w (MergeOut op la lb w) := by
  have HF := Lib.hid hF
  have H00 := Lib.hid h00
  have HA := Lib.hid ha
  have HB := Lib.hid hb
  obtain ⟨a1, a2, a3⟩ := edges_ok oa
  obtain ⟨b1, b2, b3⟩ := edges_ok ob
  have A1 := Lib.hid a1
  have A2 := Lib.hid a2
  have A3 := Lib.hid a3
  have B1 := Lib.hid b1
  have B2 := Lib.hid b2
  have B3 := Lib.hid b3
  have hla := edges_len la
  have hlb := edges_len lb
  have HLA : Hid ((edges la).length ≤ 2 * la.length ∧ (edges lb).length ≤ 2 * lb.length ∧ la.length ≤ 1000 ∧ lb.length ≤ 1000) := ⟨hla, hlb, h1, h2⟩
  have HE := Lib.hid (edgesOf_calls va la w ha (by omega))
  clear hF h00 ha hb oa ob a1 a2 a3 b1 b2 b3 hla hlb h1 h2
  go_enter Try.func54, Try.ntmps54
  go_wp2_with fail
  refine HE.out.mono ?_
  rintro e wa ⟨ea, rfl, hoa, hba⟩
  have HOA := Lib.hid hoa
  have HBA := Lib.hid hba
  have HE2 := Lib.hid (edgesOf_calls vb lb wa (HB.out.later hba) (by have := HLA.out; omega))
  clear hoa hba HE
  go_wp2_with fail
  refine HE2.out.mono ?_
  rintro e w0 ⟨eb, rfl, hob, hbb⟩
  have hca : CutV w0 ea (edges la) := (HOA.out.cut (by have := HLA.out; omega)).later hbb
  have hcb : CutV w0 eb (edges lb) := hob.cut (by have := HLA.out; omega)
  have HB0 := Lib.hid (HBA.out.trans (hbb.mono HBA.out.size))
  have HW := Lib.hid (walk_calls ea eb (edges la) (edges lb) w0 hca hcb)
  generalize edges la = EA at *
  generalize edges lb = EB at *
  clear hob hbb HOA HBA HE2 hca hcb
  go_wp2_with fail
  refine HW.out.mono ?_
  rintro e w1 ⟨ka, kp, kb, kq, rfl, hwk⟩
  have HK := Lib.hid hwk
  have HN := Lib.hid (next_step w0 w1 ka kp kb kq ea eb EA EB A1.out B1.out 0 0 hwk)
  clear hwk HW
  go_wp2_with fail
  refine HN.out.mono ?_
  intro e w2 ho
  obtain ⟨⟨xk, xn, xt⟩, iA, iB, ok, p, q, rfl, hw2, hm2, hst, hfin⟩ := nextOut_is ho
  obtain ⟨W, hW⟩ : ∃ W, W = w2.alloc (.cells #[.int .i64 xk, .int .i64 xn, .string xt] 25) := ⟨_, rfl⟩
  have hbw : Below w2.heap.size w2 W := by rw [hW]; exact (Below.refl _ _).alloc (Nat.le_refl _) _
  have hlt : w2.heap.size < W.heap.size := by rw [hW]; simp
  have hwW : Walking w0 W ka kp kb kq ea eb EA EB p q := hw2.kept (r := none) ⟨hbw.os, hbw.tape, hbw.output, hbw.size, fun k hk _ => hbw.block k hk⟩ (fun k hk => by cases hk)
  have hstate : MSt op EA EB w0 w1.heap.size W ka kp kb kq ea eb (.slice none 0 0) w2.heap.size ⟨xk, xn, xt⟩ iA iB ok p q [] := {
    walk := hwW
    own := World.ownsRow_nil _ _ _ _
    pt := by rw [hW]; exact ⟨by go_simp, by go_simp, by go_simp⟩
    lt := hlt
    ge := hm2.size
    ne := by simp [Value.ownBlock]
    sz := Nat.le_trans hm2.size (Nat.le_of_lt hlt)
    st := fun h => ⟨(hst h).1, (hst h).2.1, 0, 0, Nat.zero_le _, Nat.zero_le _, MInv.zero H00.out EA EB, (hst h).2.2⟩
    fin := fun h => by
      obtain ⟨f1, f2, f3, f4⟩ := hfin h
      subst f1 f2
      exact ⟨f3, f4, MInv.zero H00.out EA EB⟩ }
  have HST : Hid (Merge op EA EB w0 w1.heap.size ka kp kb kq ea eb (.slice none 0 0) (.pointer (some ⟨w2.heap.size, 0, none⟩)) (.bool iA) (.bool iB) (.bool ok) W) := ⟨_, _, _, _, _, _, _, _, rfl, rfl, rfl, rfl, hstate⟩
  have hk4 : ka < w1.heap.size ∧ kp < w1.heap.size ∧ kb < w1.heap.size ∧ kq < w1.heap.size := ⟨HK.out.la, HK.out.lp, HK.out.lb, HK.out.lq⟩
  have HK4 := Lib.hid hk4
  clear ho hw2 hm2 hst hfin hbw hlt hwW hstate HN hk4
  go_wp2_with fail
  rw [← hW]
  generalize w2.heap.size = gp0 at HST ⊢
  clear hW
  generalize w1.heap.size = base at HST HK4
  obtain ⟨i, hi, hz, hsz, hby⟩ := info_parts info24
  have HI := Lib.hid hi
  have HZ := Lib.hid hz
  have HSZ := Lib.hid hsz
  have HBY := Lib.hid hby
  clear hi hz hsz hby
  go_loopw [7, 9, 10, 11, 12] (fun vo vp v10 v11 v12 wr => Merge op EA EB w0 base ka kp kb kq ea eb vo vp v10 v11 v12 wr) (fun _ _ _ _ v12 wr => (EA.length - natAt wr kp) + (EB.length - natAt wr kq) + okNat v12)
  case atStart => exact HST.out
  case round =>
    obtain ⟨gp, ⟨xk, xn, xt⟩, iA, iB, ok, p, q, out, rfl, rfl, rfl, rfl, hs⟩ := hrel
    have HS := Lib.hid hs
    have hol : out.length ≤ 4000 := by
      have := HLA.out
      cases ok
      · have h3 := hs.fin rfl
        have := h3.2.2.len; omega
      · obtain ⟨-, -, p0, q0, i1, i2, i3, -⟩ := hs.st rfl
        have := i3.len; omega
    have HOL := Lib.hid hol
    have hcut := hs.own.cut (by omega)
    obtain ⟨oa, oc, rfl, -, -, -, -⟩ := id hcut
    have HCUT := Lib.hid hcut
    clear HST hol hcut
    cases ok
    · obtain ⟨hp, hq, hinv⟩ := hs.fin rfl
      have HIN := Lib.hid hinv
      have HBW : Hid (Below w.heap.size w wr) := HB0.out.trans (hs.walk.bel.mono HB0.out.size)
      have hov : ∀ e ∈ out, validB e = true := fun e he => by
        rcases hinv.mem e he with h | h
        · exact A2.out e (List.mem_of_mem_take h)
        · exact B2.out e (List.mem_of_mem_take h)
      have hin : ∀ u, inB (ivs out) u = op (inB la u) (inB lb u) := fun u => by
        rw [ivs_in hinv.asc hov u, hinv.par_ u, hp, hq, List.take_length, List.take_length, A3.out u, B3.out u]
      have HIU := Lib.hid hin
      have HOV := Lib.hid (ivs_ord out hinv.asc hov)
      have HIV := Lib.hid (intervals_calls _ out wr HCUT.out (by have := HOL.out; omega))
      have HLN : Hid ((ivs out).length ≤ 2 * (la.length + lb.length)) := by
        show _ ≤ _
        have h1 := ivs_total out
        have h2 := hinv.len
        have h3 := HLA.out
        omega
      clear hs hinv hov hin hp hq
      go_wp2_with fail
      refine HIV.out.mono ?_
      rintro e w5 ⟨v5, rfl, ho5, hb5⟩
      have HO5 := Lib.hid (own_mono ho5 HBW.out.size)
      have HB5 := Lib.hid (HBW.out.trans (hb5.mono HBW.out.size))
      clear ho5 hb5
      go_wp2
      go_ret
      exact ⟨_, _, rfl, HOV.out, HIU.out, HO5.out, HLN.out, HB5.out⟩
    · obtain ⟨rfl, rfl, p0, q0, hp0, hq0, hinv, hstep⟩ := hs.st rfl
      have HINV := Lib.hid (hinv.step A1.out B1.out hstep hp0 hq0)
      have HOWN := Lib.hid hs.own
      have HWK0 := Lib.hid hs.walk
      obtain ⟨t0, t1, t2⟩ := hs.pt
      simp only [Nat.zero_add] at t0 t1 t2
      have lgp := hs.lt
      have hne := hs.ne
      have SZ0 := hs.sz
      obtain ⟨c, hc⟩ : ∃ c, op (oddB p) (oddB q) = c := ⟨_, rfl⟩
      obtain ⟨d, hd⟩ : ∃ d, oddB out.length = d := ⟨_, rfl⟩
      have HC := Lib.hid hc
      have HD := Lib.hid hd
      have HCF := Lib.hid (HF.out (oddB p) (oddB q))
      have HCI := Lib.hid (fun w' => inside_calls oa out.length oc (by have := HOL.out; omega) w')
      rw [hc] at HCF
      rw [hd] at HCI
      clear hs hp0 hq0 hinv hstep hc hd
      by_cases hcd : c = d
      · subst hcd
        have hcc : (c != c) = false := by simp
        have hfl : flips op (oddB p) (oddB q) out ⟨xk, xn, xt⟩ = out := by unfold flips; rw [HC.out, HD.out, hcc]; rfl
        rw [hfl] at HINV
        clear hfl
        go_wp2_with fail
        refine (HCF.out _).mono ?_
        rintro e w' ⟨rfl, rfl⟩
        go_wp2_with fail
        refine (HCI.out _).mono ?_
        rintro e w' ⟨rfl, rfl⟩
        go_wp2_with fail
        have hwk := HS.out.walk.kept (r := none) (World.grownBy_alloc wr (.cells #[.int .i64 xk, .int .i64 xn, .string xt] 25) none) (fun k hk => by cases hk)
        obtain ⟨wn, hwn⟩ : ∃ u, u = wr.alloc (.cells #[.int .i64 xk, .int .i64 xn, .string xt] 25) := ⟨_, rfl⟩
        have hown := HOWN.out.alloc (.cells #[.int .i64 xk, .int .i64 xn, .string xt] 25)
        have g0 : wn.cell? ⟨wr.heap.size, 0, none⟩ = some (.int .i64 xk) := by rw [hwn]; go_simp
        have g1 : wn.cell? ⟨wr.heap.size, 1, none⟩ = some (.int .i64 xn) := by rw [hwn]; go_simp
        have g2 : wn.cell? ⟨wr.heap.size, 2, none⟩ = some (.string xt) := by rw [hwn]; go_simp
        have z0 : wn.frozen? ⟨wr.heap.size, 0, none⟩ = false := by rw [hwn]; go_simp
        have z1 : wn.frozen? ⟨wr.heap.size, 1, none⟩ = false := by rw [hwn]; go_simp
        have z2 : wn.frozen? ⟨wr.heap.size, 2, none⟩ = false := by rw [hwn]; go_simp
        have hgn : wr.heap.size < wn.heap.size := by rw [hwn]; simp
        have hnn : some wr.heap.size ≠ (.slice oa out.length oc : Value).ownBlock := fun e => by have := (HOWN.out.lt _ e.symm).2; omega
        have hge : base ≤ wr.heap.size := SZ0
        rw [← hwn] at hwk hown ⊢
        have HWK := Lib.hid hwk
        have HWN := Lib.hid hown
        clear hwn
        generalize wr.heap.size = gn at *
        refine (next_step w0 wn ka kp kb kq ea eb EA EB A1.out B1.out p q HWK.out).mono ?_
        intro e w2 ho
        obtain ⟨⟨yk, yn, yt⟩, iA', iB', ok', p', q', rfl, hw2, hm2, hst, hfin⟩ := nextOut_is ho
        have n1 : gn ≠ kp := by have := HK4.out; omega
        have n2 : gn ≠ kq := by have := HK4.out; omega
        have s0 := hm2.cell g0 hgn n1 n2
        have s1 := hm2.cell g1 hgn n1 n2
        have s2 := hm2.cell g2 hgn n1 n2
        have f0 := hm2.frozen z0 hgn n1 n2
        have f1 := hm2.frozen z1 hgn n1 n2
        have f2 := hm2.frozen z2 hgn n1 n2
        have lg2 := Nat.lt_of_lt_of_le hgn hm2.size
        have HNX := Lib.hid (mst_next (inA := iA') (inB := iB') (ok := ok') (xk := yk) (xn := yn) (xt := yt) HWN.out HINV.out HWK.out.pA HWK.out.qB ⟨HK4.out.2.1, HK4.out.2.2.2, HK4.out.1, HK4.out.2.2.1⟩ hgn hge hnn hw2 hm2 (Nat.le_trans HK.out.za (Nat.le_of_lt HK4.out.1)) hst hfin f0 f1 f2 s0 s1 s2)
        have HMS := Lib.hid (measure_next HNX.out HWK0.out hst hfin)
        clear ho hw2 hm2 hst hfin g0 g1 g2 z0 z1 z2 hwk hown t0 t1 t2
        go_wp2
        go_roundw
        case rel => exact ⟨gn, ⟨yk, yn, yt⟩, iA', iB', ok', p', q', out, rfl, rfl, rfl, rfl, HNX.out⟩
        case measure => exact HMS.out
      · have hcc : (c != d) = true := by simpa using hcd
        have hfl : flips op (oddB p) (oddB q) out ⟨xk, xn, xt⟩ = out ++ [⟨xk, xn, xt⟩] := by unfold flips; rw [HC.out, HD.out, hcc]; rfl
        rw [hfl] at HINV
        have hcc2 : (!c == d) = true := by cases c <;> cases d <;> simp_all
        clear hfl hcd hcc
        have HSS := Lib.hid SZ0
        go_wp2_with fail
        refine (HCF.out _).mono ?_
        rintro e w' ⟨rfl, rfl⟩
        go_wp2_with fail
        refine (HCI.out _).mono ?_
        rintro e w' ⟨rfl, rfl⟩
        go_wp2_with (at_builtin; go_must (refine wpList_append_own _ rfl _ _ 35 rfl base 25 i (V.val ⟨0, 0, ⟨#[]⟩⟩) 3 32 Try.underlying35 HI.out HZ.out HSZ.out HBY.out rfl (by decide) _ out.length (flat out) rfl (HOWN.out.alloc _) ⟨wr.heap.size, 0, none⟩ 1 1 [.int .i64 xk, .int .i64 xn, .string xt] rfl rfl (three_at _ _ _ _ _ _ rfl) (by intro u hu; simp at hu; rcases hu with rfl | rfl | rfl <;> rfl) ?c3 ?c4 ?c5 ?_))
        case c3 => have := HOL.out; unfold maxLen; omega
        case c4 => have := HOL.out; omega
        case c5 => have := HSS.out; simp; omega
        intro v' w5 hown' hgrow hnil
        have hal := World.grownBy_alloc wr (.cells #[.int .i64 xk, .int .i64 xn, .string xt] 25) none
        have HWKA := Lib.hid ((HS.out.walk.kept hal (fun k hk => by cases hk)).kept hgrow (fun k hk => by
          have h1 := (HOWN.out.lt k hk).1
          have h2 := HK4.out
          have h3 := HK.out.za
          exact ⟨by omega, by omega, by omega, by omega, by omega⟩))
        have u0 : w5.cell? ⟨gp, 0, none⟩ = some (.int .i64 xk) := hgrow.cell (by go_simp) hne
        have u1 : w5.cell? ⟨gp, 1, none⟩ = some (.int .i64 xn) := hgrow.cell (by go_simp) hne
        have u2 : w5.cell? ⟨gp, 2, none⟩ = some (.string xt) := hgrow.cell (by go_simp) hne
        have lg5 : gp < w5.heap.size := Nat.lt_of_lt_of_le (by simp; omega) hgrow.size
        have HOWN5 : Hid (OwnV base w5 v' (out ++ [⟨xk, xn, xt⟩])) := own_one (x := ⟨xk, xn, xt⟩) hown'
        have SZ5 : base ≤ w5.heap.size := Nat.le_trans SZ0 (Nat.le_trans (by simp) hgrow.size)
        clear hown' hgrow hnil hal t0 t1 t2 lgp hne SZ0
        go_wp2_with fail
        have hwk := HWKA.out.kept (r := none) (World.grownBy_alloc w5 (.cells #[.int .i64 xk, .int .i64 xn, .string xt] 25) none) (fun k hk => by cases hk)
        obtain ⟨wn, hwn⟩ : ∃ u, u = w5.alloc (.cells #[.int .i64 xk, .int .i64 xn, .string xt] 25) := ⟨_, rfl⟩
        have hown := HOWN5.out.alloc (.cells #[.int .i64 xk, .int .i64 xn, .string xt] 25)
        have g0 : wn.cell? ⟨w5.heap.size, 0, none⟩ = some (.int .i64 xk) := by rw [hwn]; go_simp
        have g1 : wn.cell? ⟨w5.heap.size, 1, none⟩ = some (.int .i64 xn) := by rw [hwn]; go_simp
        have g2 : wn.cell? ⟨w5.heap.size, 2, none⟩ = some (.string xt) := by rw [hwn]; go_simp
        have z0 : wn.frozen? ⟨w5.heap.size, 0, none⟩ = false := by rw [hwn]; go_simp
        have z1 : wn.frozen? ⟨w5.heap.size, 1, none⟩ = false := by rw [hwn]; go_simp
        have z2 : wn.frozen? ⟨w5.heap.size, 2, none⟩ = false := by rw [hwn]; go_simp
        have hgn : w5.heap.size < wn.heap.size := by rw [hwn]; simp
        have hnn : some w5.heap.size ≠ v'.ownBlock := fun e => by have := (HOWN5.out.lt _ e.symm).2; omega
        have hge : base ≤ w5.heap.size := SZ5
        rw [← hwn] at hwk hown ⊢
        have HWK := Lib.hid hwk
        have HWN := Lib.hid hown
        clear hwn
        generalize w5.heap.size = gn at *
        refine (next_step w0 wn ka kp kb kq ea eb EA EB A1.out B1.out p q HWK.out).mono ?_
        intro e w2 ho
        obtain ⟨⟨yk, yn, yt⟩, iA', iB', ok', p', q', rfl, hw2, hm2, hst, hfin⟩ := nextOut_is ho
        have n1 : gn ≠ kp := by have := HK4.out; omega
        have n2 : gn ≠ kq := by have := HK4.out; omega
        have s0 := hm2.cell g0 hgn n1 n2
        have s1 := hm2.cell g1 hgn n1 n2
        have s2 := hm2.cell g2 hgn n1 n2
        have f0 := hm2.frozen z0 hgn n1 n2
        have f1 := hm2.frozen z1 hgn n1 n2
        have f2 := hm2.frozen z2 hgn n1 n2
        have lg2 := Nat.lt_of_lt_of_le hgn hm2.size
        have HNX := Lib.hid (mst_next (inA := iA') (inB := iB') (ok := ok') (xk := yk) (xn := yn) (xt := yt) HWN.out HINV.out HWK.out.pA HWK.out.qB ⟨HK4.out.2.1, HK4.out.2.2.2, HK4.out.1, HK4.out.2.2.1⟩ hgn hge hnn hw2 hm2 (Nat.le_trans HK.out.za (Nat.le_of_lt HK4.out.1)) hst hfin f0 f1 f2 s0 s1 s2)
        have HMS := Lib.hid (measure_next HNX.out HWK0.out hst hfin)
        clear ho hw2 hm2 hst hfin g0 g1 g2 z0 z1 z2 hwk hown u0 u1 u2
        go_wp2
        go_roundw
        case rel => exact ⟨gn, ⟨yk, yn, yt⟩, iA', iB', ok', p', q', (out ++ [⟨xk, xn, xt⟩]), rfl, rfl, rfl, rfl, HNX.out⟩
        case measure => exact HMS.out
theorem union_fn (a b : Bool) (w : World) : Calls Try.prog 51 #[.bool a, .bool b] w fun e w' => e = .returned (.bool (a || b)) ∧ w = w' := by
  cases a <;> cases b
  all_goals
    go_enter Try.func51, Try.ntmps51
    go_wp2
    go_ret
    exact ⟨rfl, rfl⟩
theorem intersect_fn (a b : Bool) (w : World) : Calls Try.prog 52 #[.bool a, .bool b] w fun e w' => e = .returned (.bool (a && b)) ∧ w = w' := by
  cases a <;> cases b
  all_goals
    go_enter Try.func52, Try.ntmps52
    go_wp2
    go_ret
    exact ⟨rfl, rfl⟩
theorem without_fn (a b : Bool) (w : World) : Calls Try.prog 53 #[.bool a, .bool b] w fun e w' => e = .returned (.bool (a && !b)) ∧ w = w' := by
  cases a <;> cases b
  all_goals
    go_enter Try.func53, Try.ntmps53
    go_wp2
    go_ret
    exact ⟨rfl, rfl⟩
end Go.Proofs.Ytmjokpakekfkfaa
