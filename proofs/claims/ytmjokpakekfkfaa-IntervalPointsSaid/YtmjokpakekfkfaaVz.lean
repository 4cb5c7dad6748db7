/- The contract of the reference's Combine. -/
import Derived.Test.YtmjokpakekfkfaaVy
set_option linter.unusedSimpArgs false
set_option linter.unusedVariables false
namespace Go.Proofs.Ytmjokpakekfkfaa
open Go.RowKit

theorem refJoin_calls (base : Nat) (vl vp : Value) (L : List I) (P : List V) (k : Nat) (w : World) (hk : k < P.length) (hpl : P.length ≤ 100000) (hp : RowAt w vp P) (ho : OwnI base w vl L) (hl : L.length ≤ 100000) (hbase : base ≤ w.heap.size) :
    Calls Try.prog 58 #[vl, vp, .int .i64 k] w (JoinOut base (joinL L (nxtI P k)) vl w) := by
  rcases List.eq_nil_or_concat L with rfl | ⟨A, y, rfl⟩
  · rw [joinL_nil]; exact join_nil base vl vp P k w hk hpl hp ho hbase
  · rw [List.concat_eq_append] at *
    have hlA : A.length ≤ 100000 := by simp at hl; omega
    cases hyo : y.o
    · by_cases hc : cmpV y.t (nxtI P k).f = 0
      · rw [joinL_old ⟨hyo, hc⟩]; exact join_near base vl vp P k w hk hpl hp A y ho hlA hyo hc hbase
      · rw [joinL_new (fun hh => hc hh.2)]; exact join_far base vl vp P k w hk hpl hp A y ho hlA hyo hc hbase
    · rw [joinL_new (fun hh => by rw [hyo] at hh; cases hh.1)]; exact join_open base vl vp P k w hk hpl hp A y ho hlA hyo hbase
theorem joinL_len (L : List I) (x : I) : (joinL L x).length ≤ L.length + 1 := by
  rcases List.eq_nil_or_concat L with rfl | ⟨A, y, rfl⟩
  · simp [joinL]
  · rw [List.concat_eq_append]
    by_cases h : y.o = false ∧ cmpV y.t x.f = 0
    · rw [joinL_old h]; simp
    · rw [joinL_new h]; simp
theorem outL_len (f : Bool → Bool → Bool) (a b : List I) (P : List V) (k : Nat) : (outL f a b P k).length ≤ k := by
  induction k with
  | zero => simp [outL]
  | succ k ih =>
    unfold outL
    split
    · have := joinL_len (outL f a b P k) (nxtI P k); omega
    · omega
theorem apply_or (x y : Bool) (w : World) : Calls Try.prog 57 #[.int .i64 1, .bool x, .bool y] w fun e w' => e = .returned (.bool (opOr x y)) ∧ Gro w w' := by
  cases x <;> cases y <;> (go_enter Try.func57, Try.ntmps57; go_wp2; go_ret; exact ⟨rfl, Gro.refl _⟩)
theorem apply_and (x y : Bool) (w : World) : Calls Try.prog 57 #[.int .i64 2, .bool x, .bool y] w fun e w' => e = .returned (.bool (opAnd x y)) ∧ Gro w w' := by
  cases x <;> cases y <;> (go_enter Try.func57, Try.ntmps57; go_wp2; go_ret; exact ⟨rfl, Gro.refl _⟩)
theorem apply_not (x y : Bool) (w : World) : Calls Try.prog 57 #[.int .i64 3, .bool x, .bool y] w fun e w' => e = .returned (.bool (opNot x y)) ∧ Gro w w' := by
  cases x <;> cases y <;> (go_enter Try.func57, Try.ntmps57; go_wp2; go_ret; exact ⟨rfl, Gro.refl _⟩)
def CombOut (f : Bool → Bool → Bool) (a b : List I) (w : World) (e : Ending) (w' : World) : Prop :=
  ∃ v, e = .returned v ∧ OwnI w.heap.size w' v (combL f a b) ∧ Below w.heap.size w w' ∧ OrdL (combL f a b) ∧ (∀ u, inB (combL f a b) u = f (inB a u) (inB b u)) ∧ (combL f a b).length ≤ 2 * (a.length + b.length)
theorem out_step {f : Bool → Bool → Bool} {a b : List I} {P : List V} {k : Nat} (hk : k < P.length) {q : Bool} (h : f (inB a P[k]) (inB b P[k]) = q) : outL f a b P (k + 1) = if q = true then joinL (outL f a b P k) (nxtI P k) else outL f a b P k := by
  subst h
  show (if f (inB a (P.getD k default)) (inB b (P.getD k default)) = true then _ else _) = _
  rw [getDV_at hk]
set_option maxHeartbeats 4000000 in
set_option maxRecDepth 100000 in
theorem refCombine_calls (op : Int) (f : Bool → Bool → Bool) (hff : f false false = false) (hap : ∀ x y w, Calls Try.prog 57 #[.int .i64 op, .bool x, .bool y] w fun e w' => e = .returned (.bool (f x y)) ∧ Gro w w')
    (va vb : Value) (a b : List I) (w : World) (ha : IvAt w va a) (hb : IvAt w vb b) (hla : a.length ≤ 10000) (hlb : b.length ≤ 10000) (hv : ∀ x ∈ edges (a ++ b), validB x = true) :
    Calls Try.prog 33 #[.int .i64 op, va, vb] w (CombOut f a b w) := by
  have mx := mixed
  have HAP := Lib.hid hap
  have hg0 : Gro w (w.alloc (.cells #[va, vb] 23)) := (Gro.refl _).alloc _
  have HP := Lib.hid (refPoints_calls va vb a b w.heap.size (w.alloc (.cells #[va, vb] 23)) (ha.later hg0.below) (hb.later hg0.below) hla hlb (by go_simp) (by go_simp) (by simp))
  have HA := Lib.hid ha
  have HB := Lib.hid hb
  have HV := Lib.hid hv
  have HLS := Lib.hid (And.intro hla hlb)
  clear hg0 hap
  obtain ⟨pa, ca, rfl⟩ := iv_slice' ha
  obtain ⟨pb, cb, rfl⟩ := iv_slice' hb
  clear ha hb hv hla hlb
  go_enter Try.func33, Try.ntmps33
  go_wp2_with fail
  refine HP.out.mono ?_
  rintro e w2 ⟨vp, P, rfl, hpts, hplen, hown, hb2⟩
  have hbw : Below w.heap.size w w2 := ((Below.refl _ _).alloc (Nat.le_refl _) _).trans (hb2.mono (by simp))
  have HBW := Lib.hid hbw
  have hea : EdgesIn a P := edges_in fun e he => (hpts.2 e).2 (by rw [edges_app]; exact List.mem_append_left _ he)
  have heb : EdgesIn b P := edges_in fun e he => (hpts.2 e).2 (by rw [edges_app]; exact List.mem_append_right _ he)
  have hvp : ∀ x ∈ P, validB x = true := fun x hx => HV.out x ((hpts.2 x).1 hx)
  have HEA := Lib.hid hea
  have HEB := Lib.hid heb
  have HVP := Lib.hid hvp
  have HASC := Lib.hid hpts.1
  have hple : P.length ≤ 2 * (a.length + b.length) := Nat.le_trans (asc_sub hpts.1 (fun x hx => (hpts.2 x).1 hx)) (by have := edges_len (a ++ b); simpa using this)
  have HPLE := Lib.hid hple
  have hrow : RowAt w2 vp P := RowAt.of_owned hown (by omega)
  have HROW := Lib.hid hrow
  obtain ⟨ap, cp, rfl⟩ := ownsRow_slice hown
  obtain ⟨N, hN⟩ : ∃ N, P.length = N := ⟨_, rfl⟩
  have HN := Lib.hid hN
  have hNl : N ≤ 100000 := by omega
  have HNL := Lib.hid hNl
  rw [hN]
  clear hbw hea heb hvp hpts hple hrow hown hb2 hplen hN hNl HP HV
  go_wp2_with fail
  go_loopw [8, 17] (fun v c wr => ∃ k : Nat, k ≤ N ∧ c = .int .i64 k ∧ OwnI w2.heap.size wr v (outL f a b P k) ∧ CInv f a b P k (outL f a b P k) ∧ Below w2.heap.size w2 wr) (fun _ c _ => N - (intOf c).toNat)
  case atStart => exact ⟨0, by omega, rfl, World.ownsRow_nil _ _ _ _, cinv_zero hff HASC.out HEA.out HEB.out, Below.refl _ _⟩
  case round =>
    obtain ⟨k, hk, rfl, ho, hci, hb⟩ := hrel
    have HO := Lib.hid ho
    have HCI := Lib.hid hci
    have HB2 := Lib.hid hb
    by_cases hlt : k < N
    · have hkl : k < P.length := by rw [HN.out]; exact hlt
      have HKL := Lib.hid hkl
      have hlt' : decide ((k : Int) < (N : Int)) = true := by simp; omega
      have hwk := step_int k (by have := HNL.out; omega)
      have HK := Lib.hid hlt
      obtain ⟨wo, rfl⟩ : ∃ wo : World, wo = wr := ⟨_, rfl⟩
      obtain ⟨ap', cp', hvv, _, hr2⟩ := HROW.out
      rw [HN.out] at hvv
      simp only [Value.slice.injEq, true_and] at hvv
      obtain ⟨rfl, rfl⟩ := hvv
      obtain ⟨bp, fp, rfl, hr3⟩ := hr2.resolve_left (by rintro rfl; simp at hkl)
      have hrow' := hr3.later hb
      obtain ⟨e0, e1, e2⟩ := hrow'.at_ k hkl
      have hbl := hrow'.blk
      obtain ⟨p, hp⟩ : ∃ p, P[k] = p := ⟨_, rfl⟩
      obtain ⟨q, hq⟩ : ∃ q, f (inB a P[k]) (inB b P[k]) = q := ⟨_, rfl⟩
      have HST := Lib.hid (out_step hkl hq)
      have HQ := Lib.hid hq
      have hlen := outL_len f a b P k
      have HLEN := Lib.hid hlen
      have g0 : wo.cell? ⟨bp, fp + k * 3, none⟩ = some (.int .i64 p.k) := by rw [← hp]; exact e0
      have g1 : wo.cell? ⟨bp, fp + k * 3 + 1, none⟩ = some (.int .i64 p.n) := by rw [← hp]; exact e1
      have g2 : wo.cell? ⟨bp, fp + k * 3 + 2, none⟩ = some (.string p.t) := by rw [← hp]; exact e2
      have hq : f (inB a p) (inB b p) = q := by rw [← hp]; exact hq
      clear e0 e1 e2
      obtain ⟨pk, pn, pt⟩ := p
      simp only at g0 g1 g2
      obtain ⟨qa, hqa⟩ : ∃ qa, inB a ⟨pk, pn, pt⟩ = qa := ⟨_, rfl⟩
      obtain ⟨qb, hqb⟩ : ∃ qb, inB b ⟨pk, pn, pt⟩ = qb := ⟨_, rfl⟩
      rw [hqa, hqb] at hq
      have hca := fun w' h => refIn_calls (.slice pa a.length ca) a ⟨pk, pn, pt⟩ w' h
      have hcb := fun w' h => refIn_calls (.slice pb b.length cb) b ⟨pk, pn, pt⟩ w' h
      have hcp := fun w' => HAP.out qa qb w'
      rw [hqa] at hca
      rw [hqb] at hcb
      rw [hq] at hcp
      have HCA := Lib.hid hca
      have HCB := Lib.hid hcb
      have HCP := Lib.hid hcp
      clear ho hci hb hp hq hqa hqb hca hcb hcp hr2 hr3 hrow' hlen hk
      go_wp2_with fail
      obtain ⟨W, hW⟩ : ∃ W, W = wo.alloc (.cells #[.int .i64 pk, .int .i64 pn, .string pt] 25) := ⟨_, rfl⟩
      rw [← hW]
      have hgW : Gro wo W := by rw [hW]; exact (Gro.refl _).alloc _
      obtain ⟨lx, x0, x1, x2⟩ : wo.heap.size < W.heap.size ∧ W.cell? ⟨wo.heap.size, 0, none⟩ = some (.int .i64 pk) ∧ W.cell? ⟨wo.heap.size, 1, none⟩ = some (.int .i64 pn) ∧ W.cell? ⟨wo.heap.size, 2, none⟩ = some (.string pt) := by
        rw [hW]; exact ⟨by simp, by go_simp, by go_simp, by go_simp⟩
      generalize wo.heap.size = gx at lx x0 x1 x2 ⊢
      have HGW := Lib.hid hgW
      have hww : Below w.heap.size w W := HBW.out.trans ((HB2.out.mono HBW.out.size).trans (hgW.below.mono (Nat.le_trans HBW.out.size HB2.out.size)))
      have HIA : Hid (∀ n os, IvAt (Sort.grow (W.drewN n) os) (.slice pa a.length ca) a) := fun n os => HA.out.later (hww.trans ((((Gro.refl W).grown n os).below).mono hww.size))
      have HIB : Hid (∀ n os, IvAt (Sort.grow (W.drewN n) os) (.slice pb b.length cb) b) := fun n os => HB.out.later (hww.trans ((((Gro.refl W).grown n os).below).mono hww.size))
      clear hW hgW hww g0 g1 g2 hbl
      refine wp_region_quiet_grown mx (by kernel_rfl) ?_
      repeat (go_big_quiet_step ((first | (go_at_call 57; refine gro_calls (HCP.out _)) | (go_at_call_of 45 pa; refine gro_calls (HCA.out _ (HIA.out _ _))) | (go_at_call_of 45 pb; refine gro_calls (HCB.out _ (HIB.out _ _))) | fail)))
      refine wpQuiet_nil ?_
      intro w5 hw5
      obtain ⟨⟨nq, osq⟩, hw6⟩ := hw5
      have hg5 : Gro wo w5 := by rw [hw6]; exact HGW.out.trans ((Gro.refl W).grown nq osq)
      have HG5 := Lib.hid hg5
      have HO5 := Lib.hid (own_later HO.out hg5.below)
      clear hw6 hg5 x0 x1 x2 lx HIA HIB HCA HCB HCP
      have hlt := HK.out
      cases q
      · have HN1 : Hid (outL f a b P (k + 1) = outL f a b P k) := by show _ = _; rw [HST.out, if_neg (by simp)]
        go_wp2
        generalize wrap64 ((k : Int) + 1) = z at hwk ⊢
        subst hwk
        exact ⟨⟨k + 1, by omega, by go_num, by rw [HN1.out]; exact HO5.out, by rw [HN1.out]; exact cinv_skip HASC.out HEA.out HEB.out HKL.out HCI.out HQ.out, HB2.out.trans (HG5.out.below.mono HB2.out.size)⟩, by simp [intOf]; omega⟩
      · have HN1 : Hid (outL f a b P (k + 1) = joinL (outL f a b P k) (nxtI P k)) := by show _ = _; rw [HST.out, if_pos rfl]
        have hrow5 : RowAt w5 (.slice (some ⟨bp, fp, none⟩) N cp) P := by have := HROW.out.later (HB2.out.trans (HG5.out.below.mono HB2.out.size)); rw [HN.out] at this; exact this
        have HJ := Lib.hid (refJoin_calls w2.heap.size u8 (.slice (some ⟨bp, fp, none⟩) N cp) (outL f a b P k) P k w5 HKL.out (by have := HNL.out; have := HN.out; omega) hrow5 HO5.out (by have := HLEN.out; have := HNL.out; omega) (Nat.le_trans HB2.out.size HG5.out.size))
        clear hrow5
        go_wp2_with fail
        refine HJ.out.mono ?_
        rintro e w7 ⟨v7, rfl, hown7, hg7⟩
        have HO7 := Lib.hid hown7
        have HB7 : Hid (Below w2.heap.size w2 w7) := (HB2.out.trans (HG5.out.below.mono HB2.out.size)).grown hg7 (Nat.le_trans HB2.out.size HG5.out.size) (fun k hk => (HO5.out.lt k hk).1)
        clear hown7 hg7
        go_wp2
        generalize wrap64 ((k : Int) + 1) = z at hwk ⊢
        subst hwk
        exact ⟨⟨k + 1, by omega, by go_num, by rw [HN1.out]; exact HO7.out, by rw [HN1.out]; exact cinv_join HASC.out HVP.out HEA.out HEB.out HKL.out HCI.out HQ.out, HB7.out⟩, by simp [intOf]; omega⟩
    · have hlt' : decide ((k : Int) < (N : Int)) = false := by simp; omega
      have hmem : ∀ u, inB (outL f a b P k) u = f (inB a u) (inB b u) := fun u => by
        rw [hci.mem u, upTo_iff.2 (fun h => by have := HN.out; omega), Bool.true_and]
      have he : outL f a b P k = combL f a b := combL_is hci.ord hmem
      have hlen := outL_len f a b P k
      rw [he] at ho hmem hlen
      have hord : OrdL (combL f a b) := by rw [← he]; exact hci.ord
      have HF : Hid (OwnI w.heap.size wr u8 (combL f a b)) := ownsRow_mono ho HBW.out.size
      have HM := Lib.hid hmem
      have HOR := Lib.hid hord
      have HL2 : Hid ((combL f a b).length ≤ 2 * (a.length + b.length)) := by show _ ≤ _; have := HPLE.out; have := HN.out; omega
      clear ho hci hmem he hlen hord hb
      go_wp2
      go_ret
      exact ⟨_, rfl, HF.out, HBW.out.trans (HB2.out.mono HBW.out.size), HOR.out, HM.out, HL2.out⟩
end Go.Proofs.Ytmjokpakekfkfaa
