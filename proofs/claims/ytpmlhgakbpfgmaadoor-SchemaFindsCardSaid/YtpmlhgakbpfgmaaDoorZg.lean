/- Names: the contracts of schema.isName and of the reference's Name; maps of names. -/
import Derived.Test.YtpmlhgakbpfgmaaDoorZf
import Derived.Laws.RangeAny
import Derived.Laws.RangeString
import Derived.Maps.OwnSet
set_option linter.unusedSimpArgs false
set_option linter.unusedVariables false
namespace Go.Proofs.YtpmlhgakbpfgmaaDoor
open Go.RowKit

/-- Whether a byte may stand at a place of a name. -/
def nameC (i : Nat) (b : Nat) : Bool := (decide (97 ≤ b) && decide (b ≤ 122)) || (decide (0 < i) && ((decide (48 ≤ b) && decide (b ≤ 57)) || decide (b = 95)))
def NameTo (s : ByteArray) (j : Nat) : Prop := ∀ i (h : i < s.size), i < j → nameC i (s[i]'h).toNat = true
def NameP (s : ByteArray) : Prop := 1 ≤ s.size ∧ s.size ≤ 32 ∧ NameTo s s.size
noncomputable def nameB (s : ByteArray) : Bool := @decide (NameP s) (Classical.propDecidable _)
theorem nameB_true {s : ByteArray} (h : NameP s) : nameB s = true := by unfold nameB; simpa using h
theorem nameB_false {s : ByteArray} (h : ¬ NameP s) : nameB s = false := by unfold nameB; simpa using h
theorem nameB_iff {s : ByteArray} : nameB s = true ↔ NameP s := by unfold nameB; simp
theorem NameTo.next {s : ByteArray} {j : Nat} (h : NameTo s j) (hj : j < s.size) (hc : nameC j (s[j]'hj).toNat = true) : NameTo s (j + 1) := by
  intro i hi hij
  by_cases e : i = j
  · subst e; exact hc
  · exact h i hi (by omega)
theorem NameTo.bad {s : ByteArray} {j : Nat} (hj : j < s.size) (hc : nameC j (s[j]'hj).toNat = false) : nameB s = false :=
  nameB_false fun h => by have := h.2.2 j hj hj; rw [hc] at this; cases this
theorem gro_iter (w : World) (s : ByteArray) (pos : Nat) : Gro w (w.iter s pos) := (Gro.refl w).alloc _
set_option maxHeartbeats 4000000 in
set_option maxRecDepth 100000 in
theorem isName_calls (s : ByteArray) (w : World) : Calls Tryd.prog 62 #[.string s] w (BoolG (nameB s) w) := by
  by_cases h1 : s.size < 1
  · have HE : Hid (nameB s = false) := nameB_false fun h => by have := h.1; omega
    have hd : decide ((s.size : Int) < 1) = true := by simp; omega
    go_enter Tryd.func62, Tryd.ntmps62
    go_wp2
    go_ret
    exact boolg HE.out.symm (Gro.refl _)
  have hd1 : decide ((s.size : Int) < 1) = false := by simp; omega
  by_cases h32 : 32 < s.size
  · have HE : Hid (nameB s = false) := nameB_false fun h => by have := h.2.1; omega
    have hd : decide ((32 : Int) < (s.size : Int)) = true := by simp; omega
    go_enter Tryd.func62, Tryd.ntmps62
    go_wp2
    go_ret
    exact boolg HE.out.symm (Gro.refl _)
  have hd32 : decide ((32 : Int) < (s.size : Int)) = false := by simp; omega
  go_enter Tryd.func62, Tryd.ntmps62
  go_wp2_with fail
  go_loopw [3, 4, 5, 6] (fun _ _ _ _ wr => ∃ pos, pos ≤ s.size ∧ wr = w.iter s pos ∧ NameTo s pos) (fun _ _ _ _ wr => s.size - wr.iterPos w.heap.size)
  case atStart => exact ⟨0, by omega, rfl, fun i _ h => absurd h (by omega)⟩
  case round =>
    obtain ⟨pos, hps, rfl, hnt⟩ := hrel
    have HNT := Lib.hid hnt
    clear hnt
    by_cases hp : pos < s.size
    · have hnx : ∀ ty, (Instr.next (.pointer (some ⟨w.heap.size, 0, none⟩)) true ty).run Tryd.prog (w.iter s pos) = _ := fun ty => run_next_any w s pos ty hp
      have HXC : Hid (((Utf8.decode s pos).1 : Int) < 128 → ((Utf8.decode s pos).1 : Int) = ((s[pos]'hp).toNat : Int)) := fun h => by
        by_cases ha : (s[pos]'hp).toNat < 128
        · rw [decode_ascii s pos hp ha]
        · have := (decode_high s pos hp (by omega)).1; omega
      have HXH : Hid (128 ≤ ((Utf8.decode s pos).1 : Int) → 128 ≤ (s[pos]'hp).toNat) := fun h => by
        by_cases ha : (s[pos]'hp).toNat < 128
        · rw [decode_ascii s pos hp ha] at h; simp at h; omega
        · omega
      have HWD : Hid (((Utf8.decode s pos).1 : Int) < 128 → (Utf8.decode s pos).2 = 1) := fun h => by
        by_cases ha : (s[pos]'hp).toNat < 128
        · rw [decode_ascii s pos hp ha]
        · have := (decode_high s pos hp (by omega)).1; omega
      have HX0 : Hid ((0 : Int) ≤ ((Utf8.decode s pos).1 : Int)) := by show (0 : Int) ≤ _; omega
      generalize ((Utf8.decode s pos).1 : Int) = x at hnx HXC HXH HWD HX0
      generalize (Utf8.decode s pos).2 = wd at hnx HWD
      have hx0 := HX0.out
      by_cases c0 : x < 48
      · skip
        have t0 : decide (97 ≤ x) = false := by simp; omega
        have t1 : decide (48 ≤ x) = false := by simp; omega
        have t2 : (x == 95) = false := by simp; omega
        by_cases h0 : pos = 0
        · subst h0
          have HE : Hid (nameB s = false) := NameTo.bad hp (by
            by_cases h8 : x < 128
            · have h := HXC.out h8; unfold nameC; simp; omega
            · have h := HXH.out (by omega); unfold nameC; simp; omega)
          go_wp2_with fail
          go_ret
          exact boolg HE.out.symm (gro_iter _ _ _)
        · have z1 : decide ((0 : Int) < (pos : Int)) = true := by simp; omega
          have z2 : decide (0 < pos) = true := by simp; omega
          have z3 : 0 < pos := by omega
          have HE : Hid (nameB s = false) := NameTo.bad hp (by
            by_cases h8 : x < 128
            · have h := HXC.out h8; unfold nameC; simp; omega
            · have h := HXH.out (by omega); unfold nameC; simp; omega)
          go_wp2_with fail
          go_ret
          exact boolg HE.out.symm (gro_iter _ _ _)
      by_cases c1 : x ≤ 57
      · skip
        have t0 : decide (97 ≤ x) = false := by simp; omega
        have t1 : decide (48 ≤ x) = true := by simp; omega
        have t2 : decide (x ≤ 57) = true := by simp; omega
        have t3 : (x == 95) = false := by simp; omega
        by_cases h0 : pos = 0
        · subst h0
          have HE : Hid (nameB s = false) := NameTo.bad hp (by
            by_cases h8 : x < 128
            · have h := HXC.out h8; unfold nameC; simp; omega
            · have h := HXH.out (by omega); unfold nameC; simp; omega)
          go_wp2_with fail
          go_ret
          exact boolg HE.out.symm (gro_iter _ _ _)
        · have z1 : decide ((0 : Int) < (pos : Int)) = true := by simp; omega
          have z2 : decide (0 < pos) = true := by simp; omega
          have z3 : 0 < pos := by omega
          have HN2 : Hid (NameTo s (pos + 1)) := HNT.out.next hp (by have h := HXC.out (by omega); unfold nameC; simp; omega)
          have hwd : wd = 1 := HWD.out (by omega)
          subst hwd
          go_wp2_with fail
          go_roundw
          case rel => exact ⟨pos + 1, by omega, rfl, HN2.out⟩
          case measure => simp; omega
      by_cases c2 : x = 95
      · skip
        have t0 : decide (97 ≤ x) = false := by simp; omega
        have t1 : decide (48 ≤ x) = true := by simp; omega
        have t2 : decide (x ≤ 57) = false := by simp; omega
        have t3 : (x == 95) = true := by simp; omega
        by_cases h0 : pos = 0
        · subst h0
          have HE : Hid (nameB s = false) := NameTo.bad hp (by
            by_cases h8 : x < 128
            · have h := HXC.out h8; unfold nameC; simp; omega
            · have h := HXH.out (by omega); unfold nameC; simp; omega)
          go_wp2_with fail
          go_ret
          exact boolg HE.out.symm (gro_iter _ _ _)
        · have z1 : decide ((0 : Int) < (pos : Int)) = true := by simp; omega
          have z2 : decide (0 < pos) = true := by simp; omega
          have z3 : 0 < pos := by omega
          have HN2 : Hid (NameTo s (pos + 1)) := HNT.out.next hp (by have h := HXC.out (by omega); unfold nameC; simp; omega)
          have hwd : wd = 1 := HWD.out (by omega)
          subst hwd
          go_wp2_with fail
          go_roundw
          case rel => exact ⟨pos + 1, by omega, rfl, HN2.out⟩
          case measure => simp; omega
      by_cases c3 : x < 97
      · skip
        have t0 : decide (97 ≤ x) = false := by simp; omega
        have t1 : decide (48 ≤ x) = true := by simp; omega
        have t2 : decide (x ≤ 57) = false := by simp; omega
        have t3 : (x == 95) = false := by simp; omega
        by_cases h0 : pos = 0
        · subst h0
          have HE : Hid (nameB s = false) := NameTo.bad hp (by
            by_cases h8 : x < 128
            · have h := HXC.out h8; unfold nameC; simp; omega
            · have h := HXH.out (by omega); unfold nameC; simp; omega)
          go_wp2_with fail
          go_ret
          exact boolg HE.out.symm (gro_iter _ _ _)
        · have z1 : decide ((0 : Int) < (pos : Int)) = true := by simp; omega
          have z2 : decide (0 < pos) = true := by simp; omega
          have z3 : 0 < pos := by omega
          have HE : Hid (nameB s = false) := NameTo.bad hp (by
            by_cases h8 : x < 128
            · have h := HXC.out h8; unfold nameC; simp; omega
            · have h := HXH.out (by omega); unfold nameC; simp; omega)
          go_wp2_with fail
          go_ret
          exact boolg HE.out.symm (gro_iter _ _ _)
      by_cases c4 : x ≤ 122
      · skip
        have t0 : decide (97 ≤ x) = true := by simp; omega
        have t1 : decide (x ≤ 122) = true := by simp; omega
        have t2 : decide (48 ≤ x) = true := by simp; omega
        have t3 : decide (x ≤ 57) = false := by simp; omega
        have t4 : (x == 95) = false := by simp; omega
        by_cases h0 : pos = 0
        · subst h0
          have HN2 : Hid (NameTo s (0 + 1)) := HNT.out.next hp (by have h := HXC.out (by omega); unfold nameC; simp; omega)
          have hwd : wd = 1 := HWD.out (by omega)
          subst hwd
          go_wp2_with fail
          go_roundw
          case rel => exact ⟨0 + 1, by omega, rfl, HN2.out⟩
          case measure => simp; omega
        · have z1 : decide ((0 : Int) < (pos : Int)) = true := by simp; omega
          have z2 : decide (0 < pos) = true := by simp; omega
          have z3 : 0 < pos := by omega
          have HN2 : Hid (NameTo s (pos + 1)) := HNT.out.next hp (by have h := HXC.out (by omega); unfold nameC; simp; omega)
          have hwd : wd = 1 := HWD.out (by omega)
          subst hwd
          go_wp2_with fail
          go_roundw
          case rel => exact ⟨pos + 1, by omega, rfl, HN2.out⟩
          case measure => simp; omega
      have t0 : decide (97 ≤ x) = true := by simp; omega
      have t1 : decide (x ≤ 122) = false := by simp; omega
      have t2 : decide (48 ≤ x) = true := by simp; omega
      have t3 : decide (x ≤ 57) = false := by simp; omega
      have t4 : (x == 95) = false := by simp; omega
      by_cases h0 : pos = 0
      · subst h0
        have HE : Hid (nameB s = false) := NameTo.bad hp (by
          by_cases h8 : x < 128
          · have h := HXC.out h8; unfold nameC; simp; omega
          · have h := HXH.out (by omega); unfold nameC; simp; omega)
        go_wp2_with fail
        go_ret
        exact boolg HE.out.symm (gro_iter _ _ _)
      · have z1 : decide ((0 : Int) < (pos : Int)) = true := by simp; omega
        have z2 : decide (0 < pos) = true := by simp; omega
        have z3 : 0 < pos := by omega
        have HE : Hid (nameB s = false) := NameTo.bad hp (by
          by_cases h8 : x < 128
          · have h := HXC.out h8; unfold nameC; simp; omega
          · have h := HXH.out (by omega); unfold nameC; simp; omega)
        go_wp2_with fail
        go_ret
        exact boolg HE.out.symm (gro_iter _ _ _)
    · have hnx : ∀ ty, (Instr.next (.pointer (some ⟨w.heap.size, 0, none⟩)) true ty).run Tryd.prog (w.iter s pos) = _ := fun ty => run_next_end w s pos ty hp
      have HE : Hid (nameB s = true) := nameB_true ⟨by omega, by omega, by have h := HNT.out; rwa [show pos = s.size by omega] at h⟩
      go_wp2_with fail
      go_ret
      exact boolg HE.out.symm (gro_iter _ _ _)
end Go.Proofs.YtpmlhgakbpfgmaaDoor
/- The contract of the reference's Name; maps of names. -/
set_option linter.unusedSimpArgs false
set_option linter.unusedVariables false
namespace Go.Proofs.YtpmlhgakbpfgmaaDoor
open Go.RowKit

end Go.Proofs.YtpmlhgakbpfgmaaDoor
/- Sets of names in a map; the contracts of schema.validNames. -/
set_option linter.unusedSimpArgs false
set_option linter.unusedVariables false
namespace Go.Proofs.YtpmlhgakbpfgmaaDoor
open Go.RowKit

theorem bytes_ext {s t : ByteArray} (h : s.data.toList = t.data.toList) : s = t := by
  cases s; cases t
  simp only at h
  congr 1
  exact Array.ext' h
noncomputable def inB (s : ByteArray) (l : List ByteArray) : Bool := @decide (s ∈ l) (Classical.propDecidable _)
theorem inB_nil (s : ByteArray) : inB s [] = false := by unfold inB; simp
theorem inB_self (s : ByteArray) (l : List ByteArray) : inB s (s :: l) = true := by unfold inB; simp
theorem inB_other {s t : ByteArray} (l : List ByteArray) (h : t ≠ s) : inB t (s :: l) = inB t l := by unfold inB; rw [Bool.eq_iff_iff]; simp [h]
theorem strKeyed : Maps.Keyed Tryd.prog 9 := Maps.string_keyed Tryd.underlying9
theorem plainElem_bool_inv {P : Program} {e : TypeId} (he : P.underlying e = some .bool) {v : Value} {z : DataW Unit × List MemPlace} (h : plainElem P e v = some z) : ∃ x, v = .bool x ∧ z = (.lit (.bool x), []) := by
  unfold plainElem at h
  rw [he] at h
  cases v <;> simp at h
  subst h
  exact ⟨_, rfl, rfl⟩
/-- Block b is a map of at most n entries whose keys with true are the names of l. -/
def SeenAt (w : World) (b n : Nat) (l : List ByteArray) : Prop :=
  ∃ D : DataW Unit, w.ownsMap Tryd.prog 9 (plainElem Tryd.prog 4) b n D ∧ ∀ s : ByteArray, D.atKey (.string s.data.toList) (.lit (.bool false)) = .lit (.bool (inB s l))
theorem SeenAt.lt {w : World} {b n : Nat} {l : List ByteArray} (h : SeenAt w b n l) : b < w.heap.size := let ⟨_, h1, _⟩ := h; h1.lt
theorem SeenAt.kept {w w' : World} {b n : Nat} {l : List ByteArray} {r : Option Nat} (h : SeenAt w b n l) (hg : w.grownBy w' r) (hne : some b ≠ r) : SeenAt w' b n l := let ⟨D, h1, h2⟩ := h; ⟨D, h1.kept hg hne, h2⟩
theorem SeenAt.later {w w' : World} {b n : Nat} {l : List ByteArray} (h : SeenAt w b n l) (hg : Below w.heap.size w w') : SeenAt w' b n l := h.kept (r := none) ⟨hg.os, hg.tape, hg.output, hg.size, fun k hk _ => hg.block k hk⟩ (by simp)
theorem SeenAt.new (w : World) : SeenAt (w.alloc (.map #[] 0)) w.heap.size 0 [] :=
  ⟨.map [], World.ownsMap_made _ _ _ _, fun s => by
    rw [Maps.atKey_of_not_has (by simp [Maps.has]), inB_nil]⟩
theorem run_makeMap_hint (w : World) (n : Int) : (Instr.makeMap 100 (some (.int .i64 n))).run Tryd.prog w = .ok (.map (some w.heap.size)) (w.alloc (.map #[] 0)) := by
  simp [Instr.makeMap, run_underlying Tryd.underlying100, asInt, asIntOf]
theorem seen_look {w : World} {b n : Nat} {l : List ByteArray} (h : SeenAt w b n l) (s : ByteArray) (hs : s.size ≤ maxLen) : (Instr.lookup 100 (.map (some b)) (.string s) false).run Tryd.prog w = .ok (.bool (inB s l)) w := by
  obtain ⟨D, h1, h2⟩ := h
  obtain ⟨v, ps, hrun, hv⟩ := h1.lookup strKeyed Tryd.underlying100 (z := .bool false) (by kernel_rfl) (zd := .lit (.bool false)) (zp := []) (by kernel_rfl) (WideMaps.keyOf_string_mk Tryd.underlying9 hs)
  obtain ⟨x, rfl, hx⟩ := plainElem_bool_inv Tryd.underlying4 hv
  rw [h2 s] at hx
  simp only [Prod.mk.injEq, DataW.lit.injEq, Lit.bool.injEq] at hx
  rw [hrun, hx.1]
theorem seen_store {w : World} {b n : Nat} {l : List ByteArray} (h : SeenAt w b n l) (hn : n < maxLen) (s : ByteArray) (hs : s.size ≤ maxLen) :
    ∃ w', (Instr.mapUpdate 100 (.map (some b)) (.string s) (.bool true)).run Tryd.prog w = .ok () w' ∧ SeenAt w' b (n + 1) (s :: l) ∧ w.grownBy w' (some b) ∧ w.drawn ≤ w'.drawn := by
  obtain ⟨D, h1, h2⟩ := h
  obtain ⟨w', hrun, hown, hturn⟩ := h1.store strKeyed Tryd.underlying100 hn (WideMaps.keyOf_string_mk Tryd.underlying9 hs) (plainElem_bool Tryd.underlying4 true)
  refine ⟨w', hrun, ⟨_, hown, fun t => ?_⟩, hturn.grown, ?_⟩
  · by_cases e : t = s
    · subst e
      rw [Maps.atKey_put_same h1.isMap (show WideAt.IsKeyLit (.string _) from trivial), inB_self]
    · rw [Maps.atKey_put_other (fun h' => e (bytes_ext (Lit.string.inj h'))), h2 t, inB_other l e]
  · obtain ⟨es, clock, es', clock', -, rfl⟩ := hturn
    exact Nat.le_refl _
/-- Whether these are names, none of them twice nor among those before. -/
noncomputable def namesB : List ByteArray → List ByteArray → Bool
  | _, [] => true
  | seen, s :: r => nameB s && !inB s seen && namesB (s :: seen) r
theorem nameB_le {s : ByteArray} (h : nameB s = true) : s.size ≤ 32 := (nameB_iff.1 h).2.1
theorem tableName_calls (n : ByteArray) (ca : Option Addr) (cn cc : Nat) (key : Int) (ra : Option Addr) (rn rc : Nat) (ka : Option Addr) (kn kc : Nat) (w : World) :
    Calls Tryd.prog 50 #[.agg #[.string n, .slice ca cn cc, .int .i64 key, .slice ra rn rc, .slice ka kn kc]] w fun e w' => e = .returned (.string n) ∧ Gro w w' := by
  go_enter Tryd.func50, Tryd.ntmps50
  go_wp2
  go_ret
  exact ⟨rfl, (Gro.refl _).alloc _⟩
theorem columnName_calls (n : ByteArray) (k : Int) (w : World) : Calls Tryd.prog 64 #[.agg #[.string n, .int .i64 k]] w fun e w' => e = .returned (.string n) ∧ Gro w w' := by
  go_enter Tryd.func64, Tryd.ntmps64
  go_wp2
  go_ret
  exact ⟨rfl, (Gro.refl _).alloc _⟩
set_option maxHeartbeats 4000000 in
set_option maxRecDepth 100000 in
theorem validNamesC_calls (S : Nat → Prop) (v : Value) (l : List Col) (w : World) (hp : ColsAt S w v l) :
    Calls Tryd.prog 63 #[v, .func (.func 64) #[] #[]] w (BoolG (namesB [] (l.map Col.n)) w) := by
  have hmm := run_makeMap_hint
  have HP := Lib.hid hp
  obtain ⟨a, cap, rfl, hl, -⟩ := hp.slice
  clear hp
  obtain ⟨N, hN⟩ : ∃ N, l.length = N := ⟨_, rfl⟩
  rw [hN] at hl HP ⊢
  have HN := Lib.hid hN
  clear hN
  obtain ⟨W, hW⟩ : ∃ W, W = w.alloc (.map #[] 0) := ⟨_, rfl⟩
  have HSE : Hid (SeenAt W w.heap.size 0 []) := by rw [hW]; exact SeenAt.new w
  have HG : Hid (Gro w W) := by show Gro _ _; rw [hW]; exact (Gro.refl _).alloc _
  have HW := Lib.hid hW
  obtain ⟨res, hres⟩ : ∃ res, namesB [] (l.map Col.n) = res := ⟨_, rfl⟩
  rw [hres]
  have HR := Lib.hid hres
  clear hres hW
  go_enter Tryd.func63, Tryd.ntmps63
  go_wp2_with fail
  clear hmm
  rw [← HW.out]
  obtain ⟨mb, hmb⟩ : ∃ mb, w.heap.size = mb := ⟨_, rfl⟩
  have HMB := Lib.hid hmb
  rw [hmb] at HSE
  rw [hmb]
  clear hmb
  go_loopw [7, 8, 14] (fun _ _ y wr => ∃ (j : Nat) (seen : List ByteArray), j ≤ N ∧ y = .int .i64 j ∧ namesB seen ((l.map Col.n).drop j) = res ∧ SeenAt wr mb j seen ∧ Gro w wr) (fun _ _ y _ => N - (intOf y).toNat)
  case atStart => exact ⟨0, [], by omega, rfl, by rw [List.drop_zero]; exact HR.out, HSE.out, HG.out⟩
  case round =>
    obtain ⟨j, seen, hj, rfl, hnb, hse, hg⟩ := hrel
    have HNB := Lib.hid hnb
    have HSR := Lib.hid hse
    have HGR := Lib.hid hg
    have hwk := step_i j (by omega)
    by_cases hlt : j < N
    · have hkl : j < l.length := by rw [HN.out]; exact hlt
      have hlt' : decide ((j : Int) < (N : Int)) = true := by simp; omega
      obtain ⟨b, off, rfl, hbl, -, d0, d1⟩ := (HP.out.later hg.below).get hkl
      generalize hx : l[j] = x at d0 d1
      have HNX : Hid (namesB seen ((l.map Col.n).drop j) = (nameB x.n && !inB x.n seen && namesB (x.n :: seen) ((l.map Col.n).drop (j + 1)))) := by
        show _ = _; rw [List.drop_eq_getElem_cons (by simpa using hkl)]; simp [namesB, hx]
      obtain ⟨xn, xk⟩ := x
      simp only at d0 d1
      replace HNX : Hid (namesB seen ((l.map Col.n).drop j) = (nameB xn && !inB xn seen && namesB (xn :: seen) ((l.map Col.n).drop (j + 1)))) := HNX.out
      obtain ⟨W1, hW1⟩ : ∃ W1, W1 = wr.alloc (.cells #[.string xn, .int .i64 xk] 46) := ⟨_, rfl⟩
      have hbox : wr.heap.size < W1.heap.size ∧ W1.cell? ⟨wr.heap.size, 0, none⟩ = some (.string xn) ∧ W1.cell? ⟨wr.heap.size, 1, none⟩ = some (.int .i64 xk) := by rw [hW1]; exact ⟨by simp, by go_simp, by go_simp⟩
      have HCN : Hid (∀ w', Calls Tryd.prog 64 #[.agg #[.string xn, .int .i64 xk]] w' fun e w'' => e = .returned (.string xn) ∧ Gro w' w'') := fun w' => columnName_calls xn xk w'
      have HW1 := Lib.hid hW1
      have HG1 : Hid (Gro wr W1) := by show Gro _ _; rw [hW1]; exact (Gro.refl _).alloc _
      have HBX := Lib.hid hbox
      clear hnb hse hg hW1 hx hkl hbox
      go_upto_region 5 with fail
      rw [← HW1.out]
      clear HW1 d0 d1
      obtain ⟨bl, b0, b1⟩ := HBX.out
      go_wp2_with fail
      refine (HCN.out _).mono ?_
      rintro e w2 ⟨rfl, hg2⟩
      have HG2 := Lib.hid (HG1.out.trans hg2)
      clear hg2 bl b0 b1 HCN
      have HIN := Lib.hid (isName_calls xn w2)
      obtain ⟨q, hq⟩ : ∃ q, nameB xn = q := ⟨_, rfl⟩
      rw [hq] at HIN HNX
      have HQ := Lib.hid hq
      clear hq
      cases q with
      | false =>
        have HE : Hid (false = res) := by show _ = _; rw [← HNB.out, HNX.out]; rfl
        go_wp2_with fail
        refine HIN.out.mono ?_
        rintro e w3 ⟨rfl, hg3⟩
        have HG3 := Lib.hid (HG2.out.trans hg3)
        clear hg3
        go_wp2_with fail
        go_ret
        exact boolg HE.out (HGR.out.trans HG3.out)
      | true =>
        go_wp2_with fail
        refine HIN.out.mono ?_
        rintro e w3 ⟨rfl, hg3⟩
        have HG3 := Lib.hid (HG2.out.trans hg3)
        have hlk := seen_look (HSR.out.later HG3.out.below) xn (by have := nameB_le HQ.out; unfold maxLen; omega)
        obtain ⟨z, hz⟩ : ∃ z, inB xn seen = z := ⟨_, rfl⟩
        rw [hz] at hlk HNX
        clear hg3 hz
        cases z with
        | true =>
          have HE : Hid (false = res) := by show _ = _; rw [← HNB.out, HNX.out]; rfl
          go_wp2_with fail
          go_ret
          exact boolg HE.out (HGR.out.trans HG3.out)
        | false =>
          obtain ⟨w4, hup, hse4, hby4, hdr4⟩ := seen_store (HSR.out.later HG3.out.below) (by unfold maxLen; omega) xn (by have := nameB_le HQ.out; unfold maxLen; omega)
          have HF : Hid (namesB (xn :: seen) ((l.map Col.n).drop (j + 1)) = res ∧ SeenAt w4 mb (j + 1) (xn :: seen) ∧ Gro w w4) := by
            refine ⟨by rw [← HNB.out, HNX.out]; rfl, hse4, (HGR.out.trans HG3.out).own hby4 (fun k hk => ?_) hdr4⟩
            cases hk; have := HMB.out; omega
          clear hse4 hby4 hdr4
          go_wp2_with fail
          generalize wrap64 ((j : Int) + 1) = z at hwk ⊢
          subst hwk
          go_roundw
          case rel => exact ⟨j + 1, xn :: seen, by omega, by go_num, HF.out⟩
          case measure => simp [intOf]; omega
    · have hlt' : decide ((j : Int) < (N : Int)) = false := by simp; omega
      have HE : Hid (true = res) := by
        show _ = _
        rw [← hnb, List.drop_of_length_le (by rw [List.length_map]; have := HN.out; omega)]; rfl
      clear hnb hse hg
      go_wp2_with fail
      go_ret
      exact boolg HE.out HGR.out
set_option maxHeartbeats 4000000 in
set_option maxRecDepth 100000 in
theorem validNamesT_calls (full : Bool) (k : Nat) (T S : Nat → Prop) (v : Value) (l : List Tab) (w : World) (hp : TabsAt full k T S w v l) :
    Calls Tryd.prog 49 #[v, .func (.func 50) #[] #[]] w (BoolG (namesB [] (l.map Tab.name)) w) := by
  have hmm := run_makeMap_hint
  have HP := Lib.hid hp
  obtain ⟨a, cap, rfl, hl⟩ := hp.slice
  clear hp
  obtain ⟨N, hN⟩ : ∃ N, l.length = N := ⟨_, rfl⟩
  rw [hN] at hl HP ⊢
  have HN := Lib.hid hN
  clear hN
  obtain ⟨W, hW⟩ : ∃ W, W = w.alloc (.map #[] 0) := ⟨_, rfl⟩
  have HSE : Hid (SeenAt W w.heap.size 0 []) := by rw [hW]; exact SeenAt.new w
  have HG : Hid (Gro w W) := by show Gro _ _; rw [hW]; exact (Gro.refl _).alloc _
  have HW := Lib.hid hW
  obtain ⟨res, hres⟩ : ∃ res, namesB [] (l.map Tab.name) = res := ⟨_, rfl⟩
  rw [hres]
  have HR := Lib.hid hres
  clear hres hW
  go_enter Tryd.func49, Tryd.ntmps49
  go_wp2_with fail
  clear hmm
  rw [← HW.out]
  obtain ⟨mb, hmb⟩ : ∃ mb, w.heap.size = mb := ⟨_, rfl⟩
  have HMB := Lib.hid hmb
  rw [hmb] at HSE
  rw [hmb]
  clear hmb
  go_loopw [7, 8, 14] (fun _ _ y wr => ∃ (j : Nat) (seen : List ByteArray), j ≤ N ∧ y = .int .i64 j ∧ namesB seen ((l.map Tab.name).drop j) = res ∧ SeenAt wr mb j seen ∧ Gro w wr) (fun _ _ y _ => N - (intOf y).toNat)
  case atStart => exact ⟨0, [], by omega, rfl, by rw [List.drop_zero]; exact HR.out, HSE.out, HG.out⟩
  case round =>
    obtain ⟨j, seen, hj, rfl, hnb, hse, hg⟩ := hrel
    have HNB := Lib.hid hnb
    have HSR := Lib.hid hse
    have HGR := Lib.hid hg
    have hwk := step_i j (by omega)
    by_cases hlt : j < N
    · have hkl : j < l.length := by rw [HN.out]; exact hlt
      have hlt' : decide ((j : Int) < (N : Int)) = true := by simp; omega
      obtain ⟨b, off, rfl, hbl, -, ca, cc, ra, rn, rc, ka, kn, kc, ⟨d0, d1, d2, d3, d4⟩, -⟩ := (HP.out.later hg.below).get hkl
      generalize hx : l[j] = x at d0 d1 d2
      have HNX : Hid (namesB seen ((l.map Tab.name).drop j) = (nameB x.name && !inB x.name seen && namesB (x.name :: seen) ((l.map Tab.name).drop (j + 1)))) := by
        show _ = _; rw [List.drop_eq_getElem_cons (by simpa using hkl)]; simp [namesB, hx]
      obtain ⟨xn, xk, xc, xr, xp⟩ := x
      simp only at d0 d1 d2
      replace HNX : Hid (namesB seen ((l.map Tab.name).drop j) = (nameB xn && !inB xn seen && namesB (xn :: seen) ((l.map Tab.name).drop (j + 1)))) := HNX.out
      generalize xc.length = C at d1
      obtain ⟨W1, hW1⟩ : ∃ W1, W1 = wr.alloc (tObj xn ca C cc xk ra rn rc ka kn kc) := ⟨_, rfl⟩
      have hbox : TBox W1 wr.heap.size xn ca C cc xk ra rn rc ka kn kc := by rw [hW1]; exact TBox.new _ _ _ _ _ _ _ _ _ _ _ _
      have HCN : Hid (∀ w', Calls Tryd.prog 50 #[.agg #[.string xn, .slice ca C cc, .int .i64 xk, .slice ra rn rc, .slice ka kn kc]] w' fun e w'' => e = .returned (.string xn) ∧ Gro w' w'') := fun w' => tableName_calls xn ca C cc xk ra rn rc ka kn kc w'
      have HW1 := Lib.hid hW1
      have HG1 : Hid (Gro wr W1) := by show Gro _ _; rw [hW1]; exact (Gro.refl _).alloc _
      have HBX := Lib.hid hbox
      clear hnb hse hg hW1 hx hkl hbox
      go_upto_region 5 with fail
      rw [← HW1.out]
      clear HW1 d0 d1 d2 d3 d4
      obtain ⟨bl, b0, b1, b2, b3, b4⟩ := HBX.out
      go_wp2_with fail
      refine (HCN.out _).mono ?_
      rintro e w2 ⟨rfl, hg2⟩
      have HG2 := Lib.hid (HG1.out.trans hg2)
      clear hg2 bl b0 b1 b2 b3 b4 HCN
      have HIN := Lib.hid (isName_calls xn w2)
      obtain ⟨q, hq⟩ : ∃ q, nameB xn = q := ⟨_, rfl⟩
      rw [hq] at HIN HNX
      have HQ := Lib.hid hq
      clear hq
      cases q with
      | false =>
        have HE : Hid (false = res) := by show _ = _; rw [← HNB.out, HNX.out]; rfl
        go_wp2_with fail
        refine HIN.out.mono ?_
        rintro e w3 ⟨rfl, hg3⟩
        have HG3 := Lib.hid (HG2.out.trans hg3)
        clear hg3
        go_wp2_with fail
        go_ret
        exact boolg HE.out (HGR.out.trans HG3.out)
      | true =>
        go_wp2_with fail
        refine HIN.out.mono ?_
        rintro e w3 ⟨rfl, hg3⟩
        have HG3 := Lib.hid (HG2.out.trans hg3)
        have hlk := seen_look (HSR.out.later HG3.out.below) xn (by have := nameB_le HQ.out; unfold maxLen; omega)
        obtain ⟨z, hz⟩ : ∃ z, inB xn seen = z := ⟨_, rfl⟩
        rw [hz] at hlk HNX
        clear hg3 hz
        cases z with
        | true =>
          have HE : Hid (false = res) := by show _ = _; rw [← HNB.out, HNX.out]; rfl
          go_wp2_with fail
          go_ret
          exact boolg HE.out (HGR.out.trans HG3.out)
        | false =>
          obtain ⟨w4, hup, hse4, hby4, hdr4⟩ := seen_store (HSR.out.later HG3.out.below) (by unfold maxLen; omega) xn (by have := nameB_le HQ.out; unfold maxLen; omega)
          have HF : Hid (namesB (xn :: seen) ((l.map Tab.name).drop (j + 1)) = res ∧ SeenAt w4 mb (j + 1) (xn :: seen) ∧ Gro w w4) := by
            refine ⟨by rw [← HNB.out, HNX.out]; rfl, hse4, (HGR.out.trans HG3.out).own hby4 (fun k hk => ?_) hdr4⟩
            cases hk; have := HMB.out; omega
          clear hse4 hby4 hdr4
          go_wp2_with fail
          generalize wrap64 ((j : Int) + 1) = z at hwk ⊢
          subst hwk
          go_roundw
          case rel => exact ⟨j + 1, xn :: seen, by omega, by go_num, HF.out⟩
          case measure => simp [intOf]; omega
    · have hlt' : decide ((j : Int) < (N : Int)) = false := by simp; omega
      have HE : Hid (true = res) := by
        show _ = _
        rw [← hnb, List.drop_of_length_le (by rw [List.length_map]; have := HN.out; omega)]; rfl
      clear hnb hse hg
      go_wp2_with fail
      go_ret
      exact boolg HE.out HGR.out
end Go.Proofs.YtpmlhgakbpfgmaaDoor
