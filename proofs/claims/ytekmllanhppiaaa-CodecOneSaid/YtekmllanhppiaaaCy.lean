/- The contract of the reference's Row. -/
import Derived.Test.YtekmllanhppiaaaCx
import Derived.Test.YtekmllanhppiaaaKa
set_option linter.unusedSimpArgs false
set_option linter.unusedVariables false
namespace Go.Proofs.Ytekmllanhppiaaa
open Go.RowKit
open Go.Lib (byteCells uvarint zigzag)

theorem ownsRow_later {base : Nat} {w w' : World} {e : TypeId} {size n : Nat} {v : Value} {xs : List Value} (h : w.ownsRow base e size v n xs) (hw : Below w.heap.size w w') : w'.ownsRow base e size v n xs :=
  h.kept (row := none) ⟨hw.os, hw.tape, hw.output, hw.size, fun k hk _ => hw.block k hk⟩ (by cases v.ownBlock <;> simp)
theorem ownsRow_box {base : Nat} {wr w5 : World} {e : TypeId} {size n : Nat} {v : Value} {xs : List Value} {o : Obj} (h : wr.ownsRow base e size v n xs) (hb : Below (wr.alloc o).heap.size (wr.alloc o) w5) (x y z : Value) :
    (((w5.setCell ⟨wr.heap.size, 0, none⟩ x).setCell ⟨wr.heap.size, 1, none⟩ y).setCell ⟨wr.heap.size, 2, none⟩ z).ownsRow base e size v n xs := by
  have h5 : w5.ownsRow base e size v n xs := ownsRow_later (h.alloc o) hb
  have hne : v.ownBlock = none ∨ v.ownBlock ≠ some wr.heap.size := by
    cases hv : v.ownBlock with
    | none => exact .inl rfl
    | some k => right; intro e; cases e; have := (h.lt _ hv).2; omega
  exact ((h5.kept (by_store (o := 0) (v := x)) hne).kept (by_store (o := 1) (v := y)) hne).kept (by_store (o := 2) (v := z)) hne
theorem box_below {wr w5 : World} {x y z : Value} {T : TypeId} (hb : Below (wr.alloc (.cells #[x, y, z] T)).heap.size (wr.alloc (.cells #[x, y, z] T)) w5) :
    wr.heap.size < w5.heap.size ∧ w5.cell? ⟨wr.heap.size, 0, none⟩ = some x ∧ w5.cell? ⟨wr.heap.size, 1, none⟩ = some y ∧ w5.cell? ⟨wr.heap.size, 2, none⟩ = some z ∧ w5.frozen? ⟨wr.heap.size, 0, none⟩ = false ∧ w5.frozen? ⟨wr.heap.size, 1, none⟩ = false ∧ w5.frozen? ⟨wr.heap.size, 2, none⟩ = false := by
  have hs := hb.size
  simp at hs
  have hc : ∀ o, w5.cell? ⟨wr.heap.size, o, none⟩ = (wr.alloc (.cells #[x, y, z] T)).cell? ⟨wr.heap.size, o, none⟩ := fun o => hb.cell (p := ⟨wr.heap.size, o, none⟩) (by simp)
  have hf : ∀ o, w5.frozen? ⟨wr.heap.size, o, none⟩ = (wr.alloc (.cells #[x, y, z] T)).frozen? ⟨wr.heap.size, o, none⟩ := fun o => hb.frozen (p := ⟨wr.heap.size, o, none⟩) (by simp)
  exact ⟨by omega, by rw [hc]; go_simp, by rw [hc]; go_simp, by rw [hc]; go_simp, by rw [hf]; go_simp, by rw [hf]; go_simp, by rw [hf]; go_simp⟩
theorem below_own {w w' w'' : World} {r : Option Nat} (h : Below w.heap.size w w') (hg : w'.grownBy w'' r) (hr : ∀ k, r = some k → w.heap.size ≤ k) : Below w.heap.size w w'' :=
  ⟨hg.os.trans h.os, hg.tape.trans h.tape, hg.output.trans h.output, Nat.le_trans h.size hg.size, fun k hk => (hg.block k (Nat.lt_of_lt_of_le hk h.size) (fun e => absurd (hr k e.symm) (by omega))).trans (h.block k hk)⟩
theorem cell_three_at (w : World) (x y z : Value) (t : TypeId) (g : Nat) (hg : g = w.heap.size) : ∀ j u, [x, y, z][j]? = some u → (w.alloc (.cells #[x, y, z] t)).cell? ((⟨g, 0, none⟩ : Addr).add j) = some u := by
  subst hg; exact cell_three_new w x y z t
theorem rowRet_no {r : List V × Int × Int} {w w' : World} {c : Int} {u : Value} (hr : r = ([], 0, c)) (hu : u = .tuple #[.slice none 0 0, .int .i64 0, .int .i64 c]) (hb : Below w.heap.size w w') : RowRet r w (.returned u) w' := by
  subst hr; subst hu; exact ⟨_, rfl, rowAt_nil _, fun _ => rfl, hb⟩

set_option maxRecDepth 100000 in
theorem refRow_err (v : Value) (p c : Int) (hc : (c != 0) = true) (w : World) (h : Calls Try.prog 41 #[v, .int .i64 p] w (SamePost (.tuple #[.int .u64 0, .int .i64 0, .int .i64 c]) w)) :
    Calls Try.prog 49 #[v, .int .i64 p] w (RowRet ([], 0, c) w) := by
  have H := Lib.hid h
  clear h
  go_enter Try.func49, Try.ntmps49
  go_wp2_with fail
  refine H.out.mono ?_
  rintro e w1 ⟨rfl, rfl⟩
  go_wp2
  go_ret3
  exact rowRet_no rfl rfl (Below.refl _ _)
set_option maxRecDepth 100000 in
theorem refRow_long (v : Value) (p q : Int) (n : Nat) (hn : 12 < n) (w : World) (h : Calls Try.prog 41 #[v, .int .i64 p] w (SamePost (.tuple #[.int .u64 n, .int .i64 q, .int .i64 0]) w)) :
    Calls Try.prog 49 #[v, .int .i64 p] w (RowRet ([], 0, 2) w) := by
  have H := Lib.hid h
  have d1 : decide ((12 : Int) < (n : Int)) = true := by simp; omega
  have d2 : decide (12 < n) = true := by simp; omega
  clear h
  go_enter Try.func49, Try.ntmps49
  go_wp2_with fail
  refine H.out.mono ?_
  rintro e w1 ⟨rfl, rfl⟩
  go_wp2
  go_ret3
  exact rowRet_no rfl rfl (Below.refl _ _)

theorem rdV_err {l : List UInt8} {c : Int} (h : rdV l = .error c) : (c != 0) = true := by
  rcases l with _ | ⟨x, l⟩
  · simp [rdV] at h; subst h; decide
  · have hd : rdV ((x :: l).drop 0) = .error c := h
    have hp : 0 < (x :: l).length := by simp
    obtain ⟨k, hk⟩ : ∃ k : Nat, k = ((x :: l)[0]).toNat := ⟨_, rfl⟩
    rw [rdV_of hp hk] at hd
    split at hd
    · cases hd
    · split at hd
      · split at hd
        · simp only [Except.error.injEq] at hd; subst hd; decide
        · split at hd
          · cases hd
          · simp only [Except.error.injEq] at hd; subst hd; decide
      · split at hd
        · split at hd
          · rename_i e he
            simp only [Except.error.injEq] at hd; subst hd
            rcases rdU_err _ _ _ _ he with rfl | rfl <;> decide
          · cases hd
        · split at hd
          · split at hd
            · rename_i e he
              simp only [Except.error.injEq] at hd; subst hd
              exact rdT_err he
            · cases hd
          · simp only [Except.error.injEq] at hd; subst hd; decide
theorem rdT_len {most : Nat} {l : List UInt8} {t : ByteArray} {k : Nat} (h : rdT most l = .ok (t, k)) : k ≤ l.length := by
  unfold rdT at h
  rcases hu : rdU 0 0 l with e | ⟨n, j⟩
  · rw [hu] at h; cases h
  · rw [hu] at h
    simp only at h
    obtain ⟨-, -, h3, -⟩ := rdU_bounds _ _ _ (by simp) (by omega) _ _ hu
    split at h
    · cases h
    · split at h
      · cases h
      · simp only [Except.ok.injEq, Prod.mk.injEq] at h
        obtain ⟨-, rfl⟩ := h
        simp at *
        omega
theorem rdV_len {bs : List UInt8} {q : Nat} {x : V} {k : Nat} (hq : q ≤ bs.length) (h : rdV (bs.drop q) = .ok (x, k)) : q + k ≤ bs.length := by
  by_cases hp : q < bs.length
  · obtain ⟨c, hc⟩ : ∃ c : Nat, c = bs[q].toNat := ⟨_, rfl⟩
    rw [rdV_of hp hc] at h
    split at h
    · simp only [Except.ok.injEq, Prod.mk.injEq] at h; omega
    · split at h
      · split at h
        · cases h
        · rename_i b tl he
          split at h
          · simp only [Except.ok.injEq, Prod.mk.injEq] at h
            have hl := congrArg List.length he
            simp at hl
            omega
          · cases h
      · split at h
        · split at h
          · cases h
          · rename_i n j he
            simp only [Except.ok.injEq, Prod.mk.injEq] at h
            obtain ⟨-, -, h3, -⟩ := rdU_bounds _ _ _ (by simp) (by omega) _ _ he
            simp at h3
            omega
        · split at h
          · split at h
            · cases h
            · rename_i t j he
              simp only [Except.ok.injEq, Prod.mk.injEq] at h
              have h3 := rdT_len he
              simp at h3
              omega
          · cases h
  · rw [List.drop_eq_nil_of_le (by omega)] at h
    simp [rdV] at h

set_option maxHeartbeats 2000000 in
set_option maxRecDepth 100000 in
theorem refRow_loop (a : Option Addr) (cap : Nat) (bs : List UInt8) (p : Int) (q0 n k : Nat) (hn12 : n ≤ 12) (hq0 : q0 ≤ bs.length) (hf : bs.length ≤ 1099511627776) (w : World) (hb : BytesAt w (.slice a bs.length cap) bs)
    (h : Calls Try.prog 41 #[.slice a bs.length cap, .int .i64 p] w (SamePost (.tuple #[.int .u64 n, .int .i64 (q0 : Int), .int .i64 0]) w)) (R : Except Int (List V × Nat)) (hR : R = addR [] k (rdVs n (bs.drop q0))) (pz : Nat) (hpz : q0 = pz + k) :
    Calls Try.prog 49 #[.slice a bs.length cap, .int .i64 p] w (RowRet (outOf [] pz R) w) := by
  have H := Lib.hid h
  have HR := Lib.hid hR
  have HBA := Lib.hid hb
  have HPZ := Lib.hid hpz
  have HQ0 := Lib.hid hq0
  have HF := Lib.hid hf
  obtain ⟨i, hi, hz, hsz, hby⟩ := info_parts infoV
  have HI := Lib.hid hi
  have HZ := Lib.hid hz
  have HSZ := Lib.hid hsz
  have HBY := Lib.hid hby
  have hn0 := World.ownsRow_nil w w.heap.size 42 3
  have HN0 := Lib.hid hn0
  obtain ⟨N, hN⟩ : ∃ N, N = bs.length := ⟨_, rfl⟩
  rw [← hN] at H HBA ⊢
  have d1 : decide ((12 : Int) < (n : Int)) = false := by simp; omega
  have d2 : decide (12 < n) = false := by simp; omega
  have w1 : wrap64 (n : Int) = (n : Int) := by clear hf hq0; unfold wrap64; omega
  clear h hR hb hpz hq0 hf hi hz hsz hby hn0 hN
  go_enter Try.func49, Try.ntmps49
  go_wp2_with fail
  refine H.out.mono ?_
  rintro e w2 ⟨rfl, rfl⟩
  go_wp2
  clear d1 d2 H
  go_loopw [8, 10, 11] (fun vq vr vi wr => ∃ (j q : Nat) (xs : List V), xs.length = j ∧ j ≤ n ∧ vi = .int .i64 j ∧ vq = .int .i64 q ∧ q0 ≤ q ∧ q ≤ bs.length ∧ R = addR xs (k + (q - q0)) (rdVs (n - j) (bs.drop q)) ∧ wr.ownsRow w.heap.size 42 3 vr xs.length (flat xs) ∧ Below w.heap.size w wr) (fun _ _ vi _ => n - (intOf vi).toNat)
  case atStart => exact ⟨0, q0, [], rfl, Nat.zero_le _, rfl, rfl, Nat.le_refl _, HQ0.out, by rw [Nat.sub_self]; exact HR.out, HN0.out, Below.refl _ _⟩
  case round =>
    obtain ⟨j, q, xs, hxs, hj, rfl, rfl, hq, hql, hr, ho, hbel⟩ := hrel
    have HXS := Lib.hid hxs
    have HQL := Lib.hid hql
    have HR' := Lib.hid hr
    have HO := Lib.hid ho
    have HB := Lib.hid hbel
    clear hxs hql hr ho hbel HR HN0
    by_cases hlt : j < n
    · obtain ⟨m, hm⟩ : ∃ m, n - j = m + 1 := ⟨n - j - 1, by omega⟩
      have HM := Lib.hid hm
      have hv := refValue_reads _ bs (q : Int) (wr.alloc zeroB) ((HBA.out.later HB.out).later ((Below.refl _ _).alloc (Nat.le_refl _) _)) HF.out
      rw [readAt_in HQL.out] at hv
      have d1 : decide ((j : Int) < (n : Int)) = true := by simp; exact hlt
      have hsi : wrap64 ((j : Int) + 1) = (j : Int) + 1 := by unfold wrap64; omega
      clear hm
      rcases hc : rdV (bs.drop q) with c | ⟨x, z⟩
      · rw [hc] at hv
        have hc0 := rdV_err hc
        simp only [outOf, triple, zV, V.val] at hv
        have HV := Lib.hid hv
        have HC := Lib.hid hc
        clear hv hc
        go_wp2_with fail
        refine HV.out.mono ?_
        rintro e w5 ⟨rfl, hb5⟩
        obtain ⟨s0, b0, b1, b2, f0, f1, f2⟩ := box_below hb5
        have HB5 := Lib.hid ((HB.out.alloc HB.out.size _).trans (hb5.mono (by have := HB.out.size; simp; omega)))
        clear hb5
        go_wp2
        go_ret3
        exact rowRet_no (by rw [HR'.out, HM.out, rdVs_stop m _ _ _ HC.out]; rfl) rfl (((HB5.out.setCell HB.out.size _).setCell HB.out.size _).setCell HB.out.size _)
      · rw [hc] at hv
        obtain ⟨xk, xn, xt⟩ := x
        have hqz := rdV_len HQL.out hc
        simp only [outOf, triple, V.val] at hv
        have HV := Lib.hid hv
        have HC := Lib.hid hc
        have HQZ := Lib.hid hqz
        clear hv hc hqz
        go_wp2_with fail
        refine HV.out.mono ?_
        rintro e w5 ⟨rfl, hb5⟩
        obtain ⟨s0, b0, b1, b2, f0, f1, f2⟩ := box_below hb5
        have HO5 := Lib.hid (ownsRow_box HO.out hb5 (.int .i64 xk) (.int .i64 xn) (.string xt))
        have HB5 := Lib.hid ((((HB.out.alloc HB.out.size zeroB).trans (hb5.mono (by have := HB.out.size; simp; omega))).setCell (p := ⟨wr.heap.size, 0, none⟩) HB.out.size (.int .i64 xk)).setCell (p := ⟨wr.heap.size, 1, none⟩) HB.out.size (.int .i64 xn) |>.setCell (p := ⟨wr.heap.size, 2, none⟩) HB.out.size (.string xt))
        clear hb5
        go_wp2_with (at_builtin; go_must (refine wpList_append_own _ rfl _ _ 25 rfl w.heap.size 42 i (V.val ⟨0, 0, ⟨#[]⟩⟩) 3 32 Try.underlying25 HI.out HZ.out HSZ.out HBY.out rfl (by decide) _ xs.length (flat xs) rfl (HO5.out.alloc _) ⟨w5.heap.size, 0, none⟩ 1 1 [.int .i64 xk, .int .i64 xn, .string xt] rfl rfl ?c1 ?c2 ?c3 ?c4 ?c5 ?_))
        case c1 => exact cell_three_at _ _ _ _ _ _ (by simp)
        case c2 => intro x hx; simp at hx; rcases hx with rfl | rfl | rfl <;> rfl
        case c3 => have := HXS.out; unfold maxLen; omega
        case c4 => have := HXS.out; omega
        case c5 => have := HB5.out.size; simp at this ⊢; omega
        intro v' w7 hown' hgrow hnil
        have HOW' := Lib.hid hown'
        have HG7 := Lib.hid hgrow
        clear hown' hgrow hnil
        go_wp2
        go_roundw
        case rel =>
          refine ⟨j + 1, q + z, xs ++ [⟨xk, xn, xt⟩], by rw [List.length_append, HXS.out]; rfl, Nat.succ_le_of_lt hlt, by go_num, by go_num, Nat.le_trans hq (Nat.le_add_right _ _), HQZ.out, ?_, ?_, ?_⟩
          · have h1 := rdVs_step m (bs.drop q) xs (k + (q - q0)) HC.out
            have e1 : n - (j + 1) = m := ar1 HM.out
            have e2 : k + (q + z - q0) = k + (q - q0) + z := ar2 hq
            rw [HR'.out, HM.out, h1, e1, e2, List.drop_drop]
          · rw [flat_snoc, List.length_append]; exact HOW'.out
          · exact below_own (HB5.out.alloc HB5.out.size _) HG7.out (fun k hk => (HO.out.lt k hk).1)
        case measure => simp [intOf]; omega
    · obtain rfl : j = n := by omega
      have d1 : decide ((j : Int) < (j : Int)) = false := by simp
      go_wp2
      go_ret3
      have hR : R = .ok (xs, k + (q - q0)) := by rw [HR'.out, Nat.sub_self, rdVs]; simp [addR]
      have hrow : RowAt wr _ xs := .of_owned HO.out (by have := HXS.out; omega)
      subst hR
      have e : pz + (k + (q - q0)) = q := ar3 HPZ.out hq
      refine ⟨_, ?_, hrow, fun h => absurd rfl h, HB.out⟩
      simp only [outOf, e]
      rfl
theorem refRow_calls (v : Value) (bs : List UInt8) (p : Int) (w : World) (h : BytesAt w v bs) (hf : bs.length ≤ 1099511627776) :
    Calls Try.prog 49 #[v, .int .i64 p] w (RowRet (readAt rdR [] bs p) w) := by
  have hu := refUint_calls' v bs p w h hf
  by_cases hp : p < 0 ∨ (bs.length : Int) < p
  · rw [readAt_out hp] at hu ⊢
    exact refRow_err v p 1 (by decide) w hu
  · obtain ⟨q, rfl⟩ : ∃ q : Nat, p = q := ⟨p.toNat, by omega⟩
    have hq : q ≤ bs.length := by omega
    rw [readAt_in hq] at hu ⊢
    rcases hr : rdU 0 0 (bs.drop q) with c | ⟨n, k⟩
    · rw [hr] at hu
      have hR : rdR (bs.drop q) = .error c := by unfold rdR; rw [hr]
      rw [hR]
      exact refRow_err v q c (by rcases rdU_err _ _ _ _ hr with rfl | rfl <;> decide) w hu
    · rw [hr] at hu
      obtain ⟨-, -, h3, -⟩ := rdU_bounds _ _ _ (by simp) (by omega) _ _ hr
      have hk : q + k ≤ bs.length := by simp at h3; omega
      by_cases h12 : 12 < n
      · have hR : rdR (bs.drop q) = .error 2 := by unfold rdR; rw [hr]; simp only; rw [if_pos h12]
        rw [hR]
        exact refRow_long v q _ n h12 w hu
      · have hR : rdR (bs.drop q) = addR [] k (rdVs n (bs.drop (q + k))) := by
          unfold rdR; rw [hr]; simp only; rw [if_neg h12, List.drop_drop]
          cases rdVs n (bs.drop (q + k)) with
          | error e => rfl
          | ok r => rfl
        obtain ⟨a, cap, rfl, -, -, -, -⟩ := bytes_value h
        exact refRow_loop a cap bs q (q + k) n k (by omega) hk hf w h hu _ hR q rfl
end Go.Proofs.Ytekmllanhppiaaa
