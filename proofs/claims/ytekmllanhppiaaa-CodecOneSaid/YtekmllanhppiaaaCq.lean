/- The contract of codec's decoder: row. -/
import Derived.Test.YtekmllanhppiaaaCp
import Derived.Test.YtekmllanhppiaaaC
set_option linter.unusedSimpArgs false
set_option linter.unusedVariables false
namespace Go.Proofs.Ytekmllanhppiaaa
open Go.RowKit
open Go.Lib (byteCells uvarint zigzag)

/-- A block of n values, of which the first are known. -/
def Filled (w : World) (g n : Nat) (xs : List V) : Prop := ∃ cur : Array Value, w.heap[g]? = some (.cells cur 42 (0, 0)) ∧ cur.size = n * 3 ∧
  ∀ i (h : i < xs.length), cur[i * 3]? = some (.int .i64 xs[i].k) ∧ cur[i * 3 + 1]? = some (.int .i64 xs[i].n) ∧ cur[i * 3 + 2]? = some (.string xs[i].t)
theorem Filled.by {w w' : World} {g n : Nat} {xs : List V} {r : Option Nat} (h : Filled w g n xs) (hg : w.grownBy w' r) (hne : some g ≠ r) : Filled w' g n xs := by
  obtain ⟨cur, h1, h2, h3⟩ := h
  exact ⟨cur, (hg.block g (Array.getElem?_eq_some_iff.1 h1).1 hne).trans h1, h2, h3⟩
theorem Filled.cell {w : World} {g n : Nat} {xs : List V} (h : Filled w g n xs) {j : Nat} (hj : j < n * 3) : (∃ x, w.cell? ⟨g, j, none⟩ = some x) ∧ w.frozen? ⟨g, j, none⟩ = false ∧ g < w.heap.size := by
  obtain ⟨cur, h1, h2, h3⟩ := h
  have hj' : j < cur.size := by omega
  refine ⟨⟨cur[j], ?_⟩, ?_, (Array.getElem?_eq_some_iff.1 h1).1⟩
  · simp [World.cell?, h1, hj']
  · simp [World.frozen?, h1]
theorem store_heap {w : World} {k : Nat} {cur : Array Value} {T : TypeId} (h : w.heap[k]? = some (.cells cur T (0, 0))) (o : Nat) (v : Value) : (w.setCell ⟨k, o, none⟩ v).heap[k]? = some (.cells (cur.setIfInBounds o v) T (0, 0)) := by
  simp [World.setCell, Array.getElem?_modify, h]
theorem Filled.put {w : World} {g n : Nat} {xs : List V} (h : Filled w g n xs) (hk : xs.length < n) (x : V) :
    Filled (((w.setCell ⟨g, xs.length * 3, none⟩ (.int .i64 x.k)).setCell ⟨g, xs.length * 3 + 1, none⟩ (.int .i64 x.n)).setCell ⟨g, xs.length * 3 + 2, none⟩ (.string x.t)) g n (xs ++ [x]) := by
  obtain ⟨cur, h1, h2, h3⟩ := h
  refine ⟨_, store_heap (store_heap (store_heap h1 _ _) _ _) _ _, by simp [h2], fun i hi => ?_⟩
  by_cases hik : i < xs.length
  · obtain ⟨k0, k1, k2⟩ := h3 i hik
    have e : (xs ++ [x])[i] = xs[i] := List.getElem_append_left hik
    rw [e]
    refine ⟨?_, ?_, ?_⟩ <;> (simp only [Array.getElem?_setIfInBounds]; rw [if_neg (by omega), if_neg (by omega), if_neg (by omega)]; assumption)
  · have hi' : i = xs.length := by simp at hi; omega
    subst hi'
    have e : (xs ++ [x])[xs.length] = x := by simp
    rw [e]
    refine ⟨?_, ?_, ?_⟩
    · simp only [Array.getElem?_setIfInBounds]; rw [if_neg (by omega), if_neg (by omega), if_pos trivial, if_pos (by omega)]
    · simp only [Array.getElem?_setIfInBounds, Array.size_setIfInBounds]; rw [if_neg (by omega), if_pos trivial, if_pos (by omega)]
    · simp only [Array.getElem?_setIfInBounds, Array.size_setIfInBounds]; rw [if_pos trivial, if_pos (by omega)]
theorem Filled.row {w : World} {g n : Nat} {xs : List V} (h : Filled w g n xs) (hn : xs.length = n) (h12 : n ≤ 12) : RowAt w (.slice (some ⟨g, 0, none⟩) n n) xs := by
  obtain ⟨cur, h1, h2, h3⟩ := h
  refine ⟨_, n, by rw [hn], by omega, .inr ⟨g, 0, rfl, (Array.getElem?_eq_some_iff.1 h1).1, fun i hi => ?_⟩⟩
  obtain ⟨k0, k1, k2⟩ := h3 i hi
  exact ⟨by simp [World.cell?, h1, k0], by simp [World.cell?, h1, k1], by simp [World.cell?, h1, k2]⟩

/-- What is left of a row's values. -/
def addR (xs : List V) (s : Nat) : Except Int (List V × Nat) → Except Int (List V × Nat)
  | .error e => .error e
  | .ok (r, j) => .ok (xs ++ r, s + j)
theorem rdVs_step (m : Nat) (l : List UInt8) (xs : List V) (s : Nat) {v : V} {j : Nat} (h : rdV l = .ok (v, j)) : addR xs s (rdVs (m + 1) l) = addR (xs ++ [v]) (s + j) (rdVs m (l.drop j)) := by
  rw [rdVs, h]
  cases hr : rdVs m (l.drop j) with
  | error e => simp [hr, addR]
  | ok p => obtain ⟨r, i⟩ := p; simp [hr, addR, Nat.add_assoc]
theorem rdVs_stop (m : Nat) (l : List UInt8) (xs : List V) (s : Nat) {e : Int} (h : rdV l = .error e) : addR xs s (rdVs (m + 1) l) = .error e := by
  rw [rdVs, h]; rfl
def ReadsRow (d : Nat) (a : Option Addr) (cap : Nat) (bs : List UInt8) (p : Nat) (w : World) (r : Except Int (List V × Nat)) (e : Ending) (w' : World) : Prop :=
  match r with
  | .ok (x, k) => ∃ v, e = .returned v ∧ RowAt w' v x ∧ Dec w' d a cap bs (p + k) ∧ w.grownBy w' (some d)
  | .error c => Stops c d w e w'
theorem readsRow_ok {d : Nat} {a : Option Addr} {cap : Nat} {bs : List UInt8} {p : Nat} {w : World} {r : Except Int (List V × Nat)} {v : Value} {w' : World} {x : List V} {k : Nat} (hr : r = .ok (x, k)) (hv : RowAt w' v x) (hd : Dec w' d a cap bs (p + k)) (hb : w.grownBy w' (some d)) : ReadsRow d a cap bs p w r (.returned v) w' := by
  subst hr; exact ⟨v, rfl, hv, hd, hb⟩
theorem readsRow_no {d : Nat} {a : Option Addr} {cap : Nat} {bs : List UInt8} {p : Nat} {w : World} {r : Except Int (List V × Nat)} {c : Int} {ch : List PanicEntry} {w' : World} (hr : r = .error c) (hc : ch = pan c) (hb : w.grownBy w' (some d)) : ReadsRow d a cap bs p w r (.panicked ch) w' := by
  subst hr; subst hc; exact ⟨rfl, hb⟩

theorem ar1 {n j m : Nat} (h : n - j = m + 1) : n - (j + 1) = m := by omega
theorem ar2 {k q z q0 : Nat} (h : q0 ≤ q) : k + (q + z - q0) = k + (q - q0) + z := by omega
theorem ar3 {p k q q0 : Nat} (h : q0 = p + k) (hq : q0 ≤ q) : p + (k + (q - q0)) = q := by omega
theorem dec3o {w0 w : World} {d : Nat} {a : Option Addr} {cap : Nat} {bs : List UInt8} {p q : Nat} (h0 : Dec w0 d a cap bs p) (h : Dec w d a cap bs q) {n : Nat} (hn : w0.heap.size ≤ n) (o : Nat) (x y z : Value) : Dec (((w.setCell ⟨n, o, none⟩ x).setCell ⟨n, o + 1, none⟩ y).setCell ⟨n, o + 2, none⟩ z) d a cap bs q :=
  h0.stored (h0.stored (h0.stored h hn _) hn _) hn _
theorem by3o {w w' : World} {r : Option Nat} (h : w.grownBy w' r) {n : Nat} (hn : w.heap.size ≤ n) (o : Nat) (x y z : Value) : w.grownBy (((w'.setCell ⟨n, o, none⟩ x).setCell ⟨n, o + 1, none⟩ y).setCell ⟨n, o + 2, none⟩ z) r :=
  by_store_new (by_store_new (by_store_new h hn _) hn _) hn _
theorem infoV : (Try.prog.info? 42).map (fun i => (i.zero, i.size, i.bytes)) = some (some (V.val ⟨0, 0, ⟨#[]⟩⟩), 3, 32) := by kernel_rfl
set_option maxHeartbeats 600000 in
set_option maxRecDepth 100000 in
theorem row_reads (d : Nat) (a : Option Addr) (cap : Nat) (bs : List UInt8) (p : Nat) (w : World) (h : Dec w d a cap bs p) :
    Calls Try.prog 84 #[.pointer (some ⟨d, 0, none⟩)] w (ReadsRow d a cap bs p w (rdR (bs.drop p))) := by
  have hu := uint_calls d a cap bs p w h
  rcases hr : rdU 0 0 (bs.drop p) with c | ⟨n, k⟩
  · rw [hr] at hu
    have hR : rdR (bs.drop p) = .error c := by unfold rdR; rw [hr]
    generalize rdR (bs.drop p) = R at hR ⊢
    have HR := Lib.hid hR
    have HU := Lib.hid hu
    clear hu hr h hR
    go_enter Try.func84, Try.ntmps84
    go_wp2_with fail
    refine HU.out.mono ?_
    rintro e w2 ⟨rfl, hb2⟩
    go_wp2
    exact ⟨rfl, readsRow_no HR.out rfl hb2⟩
  · rw [hr] at hu
    by_cases h12 : 12 < n
    · have hR : rdR (bs.drop p) = .error 2 := by unfold rdR; rw [hr]; simp only; rw [if_pos h12]
      generalize rdR (bs.drop p) = R at hR ⊢
      have HR := Lib.hid hR
      have HU := Lib.hid hu
      have d1 : decide ((n : Int) ≤ 12) = false := by simp; omega
      have d1' : decide (n ≤ 12) = false := by simp; omega
      clear hu hr h hR
      go_enter Try.func84, Try.ntmps84
      go_wp2_with fail
      refine HU.out.mono ?_
      rintro e w2 ⟨rfl, hd2, hb2⟩
      go_wp2_with fail
      ((with_reducible refine (require_no _ _).mono ?_); rintro e w3 ⟨rfl, rfl⟩)
      go_wp2
      exact ⟨rfl, readsRow_no HR.out rfl hb2⟩
    · obtain ⟨q0, hq0⟩ : ∃ q0, q0 = p + k := ⟨_, rfl⟩
      have hR : rdR (bs.drop p) = addR [] k (rdVs n (bs.drop q0)) := by
        unfold rdR; rw [hr]; simp only; rw [if_neg h12, List.drop_drop, ← hq0]
        cases rdVs n (bs.drop q0) with
        | error e => rfl
        | ok r => rfl
      generalize rdR (bs.drop p) = R at hR ⊢
      have HR := Lib.hid hR
      have HU := Lib.hid hu
      have HQ0 := Lib.hid hq0
      have hn12 : n ≤ 12 := by omega
      have d1 : decide ((n : Int) ≤ 12) = true := by simp; omega
      have d1' : decide (n ≤ 12) = true := by simp; omega
      obtain ⟨i, hi, hz, hsz, hby⟩ := info_parts infoV
      have hmk := fun w => run_make (P := Try.prog) w 25 42 i _ Try.underlying25 hi hz .u64 .u64 (n : Int) (n : Int) (by omega) (Int.le_refl _) (by rw [hby]; omega) (by omega)
      rw [hsz, Int.toNat_natCast] at hmk
      have hdl := h.lt
      have H0 := Lib.hid h
      clear hu hr h hR hi hz hsz hby hq0 h12
      go_enter Try.func84, Try.ntmps84
      go_wp2_with fail
      refine HU.out.mono ?_
      rintro e w2 ⟨rfl, hd2, hb2⟩
      rw [← HQ0.out] at hd2
      have HD2 := Lib.hid hd2
      have HB2 := Lib.hid hb2
      clear hd2 hb2
      go_wp2_with fail
      ((with_reducible refine (require_yes _ _).mono ?_); rintro e w3 ⟨rfl, rfl⟩)
      go_wp2
      obtain ⟨g, hg⟩ : ∃ g, g = w2.heap.size := ⟨_, rfl⟩
      have hf0 : Filled (w2.alloc (.cells (madeCells (V.val ⟨0, 0, ⟨#[]⟩⟩).cells (n * 3)) 42)) g n [] := ⟨_, by rw [hg]; exact heap_alloc_new _ _, by rw [size_madeCells], fun i h => absurd h (Nat.not_lt_zero _)⟩
      have HF0 := Lib.hid hf0
      have HGD : Hid (g ≠ d) := by show _ ≠ _; have := HD2.out.lt; omega
      have HGW : Hid (w.heap.size ≤ g) := by show _ ≤ _; rw [hg]; exact HB2.out.size
      rw [← hg]
      clear hf0 hg hmk d1 d1' HU
      go_loopw [15] (fun vi wr => ∃ (j q : Nat) (xs : List V), xs.length = j ∧ j ≤ n ∧ vi = .int .i64 j ∧ q0 ≤ q ∧ R = addR xs (k + (q - q0)) (rdVs (n - j) (bs.drop q)) ∧ Dec wr d a cap bs q ∧ w.grownBy wr (some d) ∧ Filled wr g n xs) (fun vi _ => n - (intOf vi).toNat)
      case atStart => exact ⟨0, q0, [], rfl, Nat.zero_le _, rfl, Nat.le_refl _, by rw [Nat.sub_self]; exact HR.out, HD2.out.alloc _, by_trans HB2.out (World.grownBy_alloc _ _ _), HF0.out⟩
      case round =>
        obtain ⟨j, q, xs, hxs, hj, rfl, hq, hr, hd, hb, hf⟩ := hrel
        have HXS := Lib.hid hxs
        have HR' := Lib.hid hr
        have HD := Lib.hid hd
        have HB := Lib.hid hb
        have HF := Lib.hid hf
        clear hxs hr hd hb hf HR HF0
        by_cases hlt : j < n
        · obtain ⟨m, hm⟩ : ∃ m, n - j = m + 1 := ⟨n - j - 1, by omega⟩
          have HM := Lib.hid hm
          have hv := value_reads d a cap bs q wr HD.out
          have d1 : decide ((j : Int) < (n : Int)) = true := by simp; exact hlt
          have hsi : wrap64 ((j : Int) + 1) = (j : Int) + 1 := by unfold wrap64; omega
          clear hm
          rcases hc : rdV (bs.drop q) with c | ⟨x, z⟩
          · rw [hc] at hv
            have HV := Lib.hid hv
            have HC := Lib.hid hc
            clear hv hc
            go_wp2_with fail
            refine HV.out.mono ?_
            rintro e w5 ⟨rfl, hb5⟩
            go_wp2
            exact ⟨rfl, readsRow_no (by rw [HR'.out, HM.out, rdVs_stop m _ _ _ HC.out]) rfl (by_trans HB.out hb5)⟩
          · rw [hc] at hv
            have HV := Lib.hid hv
            have HC := Lib.hid hc
            obtain ⟨xk, xn, xt⟩ := x
            clear hv hc
            go_wp2_with fail
            refine HV.out.mono ?_
            rintro e w5 ⟨rfl, hd5, hb5⟩
            have hf5 : Filled w5 g n xs := HF.out.by hb5 (by simp; exact HGD.out)
            obtain ⟨⟨y0, c0⟩, z0, g0⟩ := hf5.cell (j := j * 3) (by omega)
            obtain ⟨⟨y1, c1⟩, z1, -⟩ := hf5.cell (j := j * 3 + 1) (by omega)
            obtain ⟨⟨y2, c2⟩, z2, -⟩ := hf5.cell (j := j * 3 + 2) (by omega)
            have HD5 := Lib.hid hd5
            have HB5 := Lib.hid (by_trans HB.out hb5)
            have HF5 := Lib.hid hf5
            clear hd5 hb5 hf5
            go_wp2
            go_roundw
            case rel =>
              refine ⟨j + 1, q + z, xs ++ [⟨xk, xn, xt⟩], by rw [List.length_append, HXS.out]; rfl, Nat.succ_le_of_lt hlt, by go_num, Nat.le_trans hq (Nat.le_add_right _ _), ?_, dec3o H0.out HD5.out HGW.out _ _ _ _, by3o HB5.out HGW.out _ _ _ _, ?_⟩
              · have h1 := rdVs_step m (bs.drop q) xs (k + (q - q0)) HC.out
                have e1 : n - (j + 1) = m := ar1 HM.out
                have e2 : k + (q + z - q0) = k + (q - q0) + z := ar2 hq
                rw [HR'.out, HM.out, h1, e1, e2, List.drop_drop]
              · have := HF5.out.put (by rw [HXS.out]; exact hlt) ⟨xk, xn, xt⟩
                rw [HXS.out] at this
                exact this
            case measure => simp [intOf]; omega
        · obtain rfl : j = n := by omega
          have d1 : decide ((j : Int) < (j : Int)) = false := by simp
          go_wp2
          go_ret
          have hR : R = .ok (xs, k + (q - q0)) := by rw [HR'.out, Nat.sub_self, rdVs]; simp [addR]
          have hD : Dec wr d a cap bs (p + (k + (q - q0))) := by
            have h1 := HD.out
            have e : p + (k + (q - q0)) = q := ar3 HQ0.out hq
            rw [e]; exact h1
          exact readsRow_ok hR (HF.out.row HXS.out hn12) hD HB.out
end Go.Proofs.Ytekmllanhppiaaa
