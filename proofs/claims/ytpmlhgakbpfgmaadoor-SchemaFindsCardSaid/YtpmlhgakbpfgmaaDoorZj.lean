/- slices.IndexFunc and ContainsFunc at tables, columns and references; tooLarge and holdsNothing. -/
import Derived.Test.YtpmlhgakbpfgmaaDoorZg
set_option linter.unusedSimpArgs false
set_option linter.unusedVariables false
namespace Go.Proofs.YtpmlhgakbpfgmaaDoor
open Go.RowKit

/-- What IndexFunc answers, if this is whether there is one. -/
def IdxB (q : Bool) (w : World) (e : Ending) (w' : World) : Prop := ∃ i : Int, e = .returned (.int .i64 i) ∧ (q = true → 0 ≤ i) ∧ (q = false → i = -1) ∧ Gro w w'
set_option maxHeartbeats 2000000 in
set_option maxRecDepth 100000 in
theorem idxTable (full : Bool) (k : Nat) (T S : Nat → Prop) (v : Value) (l : List Tab) (f : Tab → Bool) (w : World) (hp : TabsAt full k T S w v l)
    (hf : ∀ (x : Tab) (ca : Option Addr) (cc : Nat) (ra : Option Addr) (rn rc : Nat) (ka : Option Addr) (kn kc : Nat) (w' : World), Gro w w' → TabV full k S w' x ca cc ra rn rc ka kn kc → x ∈ l → Calls Tryd.prog 36 #[.agg #[.string x.name, .slice ca x.cols.length cc, .int .i64 x.key, .slice ra rn rc, .slice ka kn kc]] w' (BoolG (f x) w')) :
    Calls Tryd.prog 48 #[v, .func (.func 36) #[] #[]] w (IdxB (l.any f) w) := by
  obtain ⟨w0, rfl⟩ : ∃ w0, w0 = w := ⟨_, rfl⟩
  have HF := Lib.hid hf
  have HP := Lib.hid hp
  obtain ⟨a, cap, rfl, hl⟩ := hp.slice
  clear hf hp
  obtain ⟨N, hN⟩ : ∃ N, l.length = N := ⟨_, rfl⟩
  rw [hN] at hl HP ⊢
  have HN := Lib.hid hN
  clear hN
  go_enter Tryd.func48, Tryd.ntmps48
  go_wp2_with fail
  go_loopw [5, 8] (fun _ i wr => ∃ j : Nat, j ≤ N ∧ i = .int .i64 j ∧ (l.take j).any f = false ∧ Gro w0 wr) (fun _ i _ => N - (intOf i).toNat)
  case atStart => exact ⟨0, by omega, rfl, by simp, Gro.refl _⟩
  case round =>
    obtain ⟨j, hj, rfl, ht, hg⟩ := hrel
    have HT := Lib.hid ht
    have HG := Lib.hid hg
    have hwk := step_i j (by omega)
    by_cases hlt : j < N
    · have hkl : j < l.length := by rw [HN.out]; exact hlt
      have hlt' : decide ((j : Int) < (N : Int)) = true := by simp; omega
      obtain ⟨b, off, rfl, hbl, -, ca, cc, ra, rn, rc, ka, kn, kc, ⟨d0, d1, d2, d3, d4⟩, hv⟩ := (HP.out.later hg.below).get hkl
      have hc := HF.out l[j] ca cc ra rn rc ka kn kc wr hg hv (List.getElem_mem hkl)
      obtain ⟨x, hx⟩ : ∃ x, l[j] = x := ⟨_, rfl⟩
      rw [hx] at d0 d1 d2 hc
      have HX := Lib.hid hx
      obtain ⟨q, hq⟩ : ∃ q, f x = q := ⟨_, rfl⟩
      rw [hq] at hc
      have HC := Lib.hid hc
      have HQ := Lib.hid hq
      clear ht hg hv hx hc hq
      cases q
      · go_wp2_with fail
        refine HC.out.mono ?_
        rintro e w2 ⟨rfl, hg2⟩
        have HG2 := Lib.hid hg2
        clear hg2
        go_wp2
        generalize wrap64 ((j : Int) + 1) = z at hwk ⊢
        subst hwk
        go_roundw
        case rel => exact ⟨j + 1, by omega, by go_num, by rw [List.take_succ_eq_append_getElem hkl, List.any_append, HT.out, HX.out]; simp [HQ.out], HG.out.trans HG2.out⟩
        case measure => simp [intOf]; omega
      · have HIN : Hid (l.any f = true) := by show _ = _; rw [List.any_eq_true]; exact ⟨x, by rw [← HX.out]; exact List.getElem_mem hkl, HQ.out⟩
        go_wp2_with fail
        refine HC.out.mono ?_
        rintro e w2 ⟨rfl, hg2⟩
        have HG2 := Lib.hid hg2
        clear hg2
        go_wp2
        go_ret
        exact ⟨(j : Int), rfl, (fun _ => by omega), (fun h => by rw [HIN.out] at h; cases h), HG.out.trans HG2.out⟩
    · have hlt' : decide ((j : Int) < (N : Int)) = false := by simp; omega
      have HE : Hid (l.any f = false) := by
        show _ = _
        rw [List.take_of_length_le (by have := HN.out; omega)] at ht
        exact ht
      clear ht hg
      go_wp2
      go_ret
      exact ⟨-1, rfl, (fun h => by rw [HE.out] at h; cases h), (fun _ => rfl), HG.out⟩
set_option maxRecDepth 100000 in
theorem containsTable (full : Bool) (k : Nat) (T S : Nat → Prop) (v : Value) (l : List Tab) (f : Tab → Bool) (w : World) (hp : TabsAt full k T S w v l)
    (hf : ∀ (x : Tab) (ca : Option Addr) (cc : Nat) (ra : Option Addr) (rn rc : Nat) (ka : Option Addr) (kn kc : Nat) (w' : World), Gro w w' → TabV full k S w' x ca cc ra rn rc ka kn kc → x ∈ l → Calls Tryd.prog 36 #[.agg #[.string x.name, .slice ca x.cols.length cc, .int .i64 x.key, .slice ra rn rc, .slice ka kn kc]] w' (BoolG (f x) w')) :
    Calls Tryd.prog 35 #[v, .func (.func 36) #[] #[]] w (BoolG (l.any f) w) := by
  have HI := Lib.hid (idxTable full k T S v l f w hp hf)
  obtain ⟨a, cap, rfl, -⟩ := hp
  obtain ⟨q, hq⟩ : ∃ q, l.any f = q := ⟨_, rfl⟩
  rw [hq] at HI ⊢
  clear hf hq
  go_enter Tryd.func35, Tryd.ntmps35
  go_wp2_with fail
  refine HI.out.mono ?_
  rintro e w2 ⟨i, rfl, h1, h2, hg⟩
  have HG := Lib.hid hg
  cases q
  · have : i = -1 := h2 rfl
    subst this
    clear h1 h2 hg
    go_wp2
    go_ret
    exact boolg (by simp) HG.out
  · have hi : 0 ≤ i := h1 rfl
    clear h1 h2 hg
    go_wp2
    go_ret
    exact boolg (by simp [hi]) HG.out
set_option maxHeartbeats 2000000 in
set_option maxRecDepth 100000 in
theorem idxColumn (S : Nat → Prop) (v : Value) (l : List Col) (f : Col → Bool) (w : World) (hp : ColsAt S w v l)
    (hf : ∀ (x : Col) (w' : World), Gro w w' → x ∈ l → Calls Tryd.prog 66 #[.agg #[.string x.n, .int .i64 x.k]] w' (BoolG (f x) w')) :
    Calls Tryd.prog 74 #[v, .func (.func 66) #[] #[]] w (IdxB (l.any f) w) := by
  obtain ⟨w0, rfl⟩ : ∃ w0, w0 = w := ⟨_, rfl⟩
  have HF := Lib.hid hf
  have HP := Lib.hid hp
  obtain ⟨a, cap, rfl, hl, -⟩ := hp.slice
  clear hf hp
  obtain ⟨N, hN⟩ : ∃ N, l.length = N := ⟨_, rfl⟩
  rw [hN] at hl HP ⊢
  have HN := Lib.hid hN
  clear hN
  go_enter Tryd.func74, Tryd.ntmps74
  go_wp2_with fail
  go_loopw [5, 8] (fun _ i wr => ∃ j : Nat, j ≤ N ∧ i = .int .i64 j ∧ (l.take j).any f = false ∧ Gro w0 wr) (fun _ i _ => N - (intOf i).toNat)
  case atStart => exact ⟨0, by omega, rfl, by simp, Gro.refl _⟩
  case round =>
    obtain ⟨j, hj, rfl, ht, hg⟩ := hrel
    have HT := Lib.hid ht
    have HG := Lib.hid hg
    have hwk := step_i j (by omega)
    by_cases hlt : j < N
    · have hkl : j < l.length := by rw [HN.out]; exact hlt
      have hlt' : decide ((j : Int) < (N : Int)) = true := by simp; omega
      obtain ⟨b, off, rfl, hbl, -, d0, d1⟩ := (HP.out.later hg.below).get hkl
      have hc := HF.out l[j] wr hg (List.getElem_mem hkl)
      obtain ⟨x, hx⟩ : ∃ x, l[j] = x := ⟨_, rfl⟩
      rw [hx] at d0 d1 hc
      have HX := Lib.hid hx
      obtain ⟨q, hq⟩ : ∃ q, f x = q := ⟨_, rfl⟩
      rw [hq] at hc
      have HC := Lib.hid hc
      have HQ := Lib.hid hq
      clear ht hg  hx hc hq
      cases q
      · go_wp2_with fail
        refine HC.out.mono ?_
        rintro e w2 ⟨rfl, hg2⟩
        have HG2 := Lib.hid hg2
        clear hg2
        go_wp2
        generalize wrap64 ((j : Int) + 1) = z at hwk ⊢
        subst hwk
        go_roundw
        case rel => exact ⟨j + 1, by omega, by go_num, by rw [List.take_succ_eq_append_getElem hkl, List.any_append, HT.out, HX.out]; simp [HQ.out], HG.out.trans HG2.out⟩
        case measure => simp [intOf]; omega
      · have HIN : Hid (l.any f = true) := by show _ = _; rw [List.any_eq_true]; exact ⟨x, by rw [← HX.out]; exact List.getElem_mem hkl, HQ.out⟩
        go_wp2_with fail
        refine HC.out.mono ?_
        rintro e w2 ⟨rfl, hg2⟩
        have HG2 := Lib.hid hg2
        clear hg2
        go_wp2
        go_ret
        exact ⟨(j : Int), rfl, (fun _ => by omega), (fun h => by rw [HIN.out] at h; cases h), HG.out.trans HG2.out⟩
    · have hlt' : decide ((j : Int) < (N : Int)) = false := by simp; omega
      have HE : Hid (l.any f = false) := by
        show _ = _
        rw [List.take_of_length_le (by have := HN.out; omega)] at ht
        exact ht
      clear ht hg
      go_wp2
      go_ret
      exact ⟨-1, rfl, (fun h => by rw [HE.out] at h; cases h), (fun _ => rfl), HG.out⟩
set_option maxRecDepth 100000 in
theorem containsColumn (S : Nat → Prop) (v : Value) (l : List Col) (f : Col → Bool) (w : World) (hp : ColsAt S w v l)
    (hf : ∀ (x : Col) (w' : World), Gro w w' → x ∈ l → Calls Tryd.prog 66 #[.agg #[.string x.n, .int .i64 x.k]] w' (BoolG (f x) w')) :
    Calls Tryd.prog 65 #[v, .func (.func 66) #[] #[]] w (BoolG (l.any f) w) := by
  have HI := Lib.hid (idxColumn S v l f w hp hf)
  obtain ⟨a, cap, rfl, -⟩ := hp
  obtain ⟨q, hq⟩ : ∃ q, l.any f = q := ⟨_, rfl⟩
  rw [hq] at HI ⊢
  clear hf hq
  go_enter Tryd.func65, Tryd.ntmps65
  go_wp2_with fail
  refine HI.out.mono ?_
  rintro e w2 ⟨i, rfl, h1, h2, hg⟩
  have HG := Lib.hid hg
  cases q
  · have : i = -1 := h2 rfl
    subst this
    clear h1 h2 hg
    go_wp2
    go_ret
    exact boolg (by simp) HG.out
  · have hi : 0 ≤ i := h1 rfl
    clear h1 h2 hg
    go_wp2
    go_ret
    exact boolg (by simp [hi]) HG.out
set_option maxHeartbeats 2000000 in
set_option maxRecDepth 100000 in
theorem idxReference (S : Nat → Prop) (gs gk : Nat) (v : Value) (l : List Rfc) (f : Rfc → Bool) (w : World) (hp : RefsAt S w v l)
    (hf : ∀ (x : Rfc) (ia : Option Addr) (ic : Nat) (w' : World), Gro w w' → IntsAt S w' (.slice ia x.cols.length ic) x.cols → x ∈ l → Calls Tryd.prog 68 #[.agg #[.slice ia x.cols.length ic, .int .i64 x.t], .pointer (some ⟨gs, 0, none⟩), .pointer (some ⟨gk, 0, none⟩)] w' (BoolG (f x) w')) :
    Calls Tryd.prog 77 #[v, .func (.func 68) #[] #[.pointer (some ⟨gs, 0, none⟩), .pointer (some ⟨gk, 0, none⟩)]] w (IdxB (l.any f) w) := by
  obtain ⟨w0, rfl⟩ : ∃ w0, w0 = w := ⟨_, rfl⟩
  have HF := Lib.hid hf
  have HP := Lib.hid hp
  obtain ⟨a, cap, rfl, hl⟩ := hp.slice
  clear hf hp
  obtain ⟨N, hN⟩ : ∃ N, l.length = N := ⟨_, rfl⟩
  rw [hN] at hl HP ⊢
  have HN := Lib.hid hN
  clear hN
  go_enter Tryd.func77, Tryd.ntmps77
  go_wp2_with fail
  go_loopw [5, 8] (fun _ i wr => ∃ j : Nat, j ≤ N ∧ i = .int .i64 j ∧ (l.take j).any f = false ∧ Gro w0 wr) (fun _ i _ => N - (intOf i).toNat)
  case atStart => exact ⟨0, by omega, rfl, by simp, Gro.refl _⟩
  case round =>
    obtain ⟨j, hj, rfl, ht, hg⟩ := hrel
    have HT := Lib.hid ht
    have HG := Lib.hid hg
    have hwk := step_i j (by omega)
    by_cases hlt : j < N
    · have hkl : j < l.length := by rw [HN.out]; exact hlt
      have hlt' : decide ((j : Int) < (N : Int)) = true := by simp; omega
      obtain ⟨b, off, rfl, hbl, -, ia, ic, d0, d1, hv⟩ := (HP.out.later hg.below).get hkl
      have hc := HF.out l[j] ia ic wr hg hv (List.getElem_mem hkl)
      obtain ⟨x, hx⟩ : ∃ x, l[j] = x := ⟨_, rfl⟩
      rw [hx] at d0 d1 hc
      have HX := Lib.hid hx
      obtain ⟨q, hq⟩ : ∃ q, f x = q := ⟨_, rfl⟩
      rw [hq] at hc
      have HC := Lib.hid hc
      have HQ := Lib.hid hq
      clear ht hg hv hx hc hq
      cases q
      · go_wp2_with fail
        refine HC.out.mono ?_
        rintro e w2 ⟨rfl, hg2⟩
        have HG2 := Lib.hid hg2
        clear hg2
        go_wp2
        generalize wrap64 ((j : Int) + 1) = z at hwk ⊢
        subst hwk
        go_roundw
        case rel => exact ⟨j + 1, by omega, by go_num, by rw [List.take_succ_eq_append_getElem hkl, List.any_append, HT.out, HX.out]; simp [HQ.out], HG.out.trans HG2.out⟩
        case measure => simp [intOf]; omega
      · have HIN : Hid (l.any f = true) := by show _ = _; rw [List.any_eq_true]; exact ⟨x, by rw [← HX.out]; exact List.getElem_mem hkl, HQ.out⟩
        go_wp2_with fail
        refine HC.out.mono ?_
        rintro e w2 ⟨rfl, hg2⟩
        have HG2 := Lib.hid hg2
        clear hg2
        go_wp2
        go_ret
        exact ⟨(j : Int), rfl, (fun _ => by omega), (fun h => by rw [HIN.out] at h; cases h), HG.out.trans HG2.out⟩
    · have hlt' : decide ((j : Int) < (N : Int)) = false := by simp; omega
      have HE : Hid (l.any f = false) := by
        show _ = _
        rw [List.take_of_length_le (by have := HN.out; omega)] at ht
        exact ht
      clear ht hg
      go_wp2
      go_ret
      exact ⟨-1, rfl, (fun h => by rw [HE.out] at h; cases h), (fun _ => rfl), HG.out⟩
set_option maxRecDepth 100000 in
theorem containsReference (S : Nat → Prop) (gs gk : Nat) (v : Value) (l : List Rfc) (f : Rfc → Bool) (w : World) (hp : RefsAt S w v l)
    (hf : ∀ (x : Rfc) (ia : Option Addr) (ic : Nat) (w' : World), Gro w w' → IntsAt S w' (.slice ia x.cols.length ic) x.cols → x ∈ l → Calls Tryd.prog 68 #[.agg #[.slice ia x.cols.length ic, .int .i64 x.t], .pointer (some ⟨gs, 0, none⟩), .pointer (some ⟨gk, 0, none⟩)] w' (BoolG (f x) w')) :
    Calls Tryd.prog 67 #[v, .func (.func 68) #[] #[.pointer (some ⟨gs, 0, none⟩), .pointer (some ⟨gk, 0, none⟩)]] w (BoolG (l.any f) w) := by
  have HI := Lib.hid (idxReference S gs gk v l f w hp hf)
  obtain ⟨a, cap, rfl, -⟩ := hp
  obtain ⟨q, hq⟩ : ∃ q, l.any f = q := ⟨_, rfl⟩
  rw [hq] at HI ⊢
  clear hf hq
  go_enter Tryd.func67, Tryd.ntmps67
  go_wp2_with fail
  refine HI.out.mono ?_
  rintro e w2 ⟨i, rfl, h1, h2, hg⟩
  have HG := Lib.hid hg
  cases q
  · have : i = -1 := h2 rfl
    subst this
    clear h1 h2 hg
    go_wp2
    go_ret
    exact boolg (by simp) HG.out
  · have hi : 0 ≤ i := h1 rfl
    clear h1 h2 hg
    go_wp2
    go_ret
    exact boolg (by simp [hi]) HG.out
def largeT (t : Tab) : Bool := decide (8 < t.cols.length) || decide (4 < t.refs.length) || decide (4 < t.checks.length)
set_option maxRecDepth 100000 in
theorem tooLarge_calls (n : ByteArray) (ca : Option Addr) (cn cc : Nat) (key : Int) (ra : Option Addr) (rn rc : Nat) (ka : Option Addr) (kn kc : Nat) (w : World) :
    Calls Tryd.prog 36 #[.agg #[.string n, .slice ca cn cc, .int .i64 key, .slice ra rn rc, .slice ka kn kc]] w (BoolG (decide (8 < cn) || decide (4 < rn) || decide (4 < kn)) w) := by
  by_cases h1 : 8 < cn
  · have d1 : decide ((8 : Int) < (cn : Int)) = true := by simp; omega
    go_enter Tryd.func36, Tryd.ntmps36
    go_wp2
    go_ret
    exact boolg (by simp [h1]) ((Gro.refl _).alloc _)
  have d1 : decide ((8 : Int) < (cn : Int)) = false := by simp; omega
  by_cases h2 : 4 < rn
  · have d2 : decide ((4 : Int) < (rn : Int)) = true := by simp; omega
    go_enter Tryd.func36, Tryd.ntmps36
    go_wp2
    go_ret
    exact boolg (by simp [h2]) ((Gro.refl _).alloc _)
  have d2 : decide ((4 : Int) < (rn : Int)) = false := by simp; omega
  by_cases h3 : 4 < kn
  · have d3 : decide ((4 : Int) < (kn : Int)) = true := by simp; omega
    go_enter Tryd.func36, Tryd.ntmps36
    go_wp2
    go_ret
    exact boolg (by simp [h3]) ((Gro.refl _).alloc _)
  have d3 : decide ((4 : Int) < (kn : Int)) = false := by simp; omega
  have HE : Hid (decide (8 < cn) = false ∧ decide (4 < rn) = false ∧ decide (4 < kn) = false) := ⟨decide_eq_false h1, decide_eq_false h2, decide_eq_false h3⟩
  go_enter Tryd.func36, Tryd.ntmps36
  go_wp2
  go_ret
  exact boolg (by rw [HE.out.1, HE.out.2.1, HE.out.2.2]; rfl) ((Gro.refl _).alloc _)
theorem firstReal (k : Int) : realB (firstV k) = kindB k := by
  by_cases h1 : k = 1
  · subst h1; simp [realB, firstV, kindB]
  by_cases h2 : k = 2
  · subst h2; simp [realB, firstV, kindB]
  by_cases h3 : k = 3
  · subst h3; simp [realB, firstV, kindB, validB, validP, data_empty]
  by_cases h4 : k = 4
  · subst h4; simp [realB, firstV, kindB, validB, validP, data_empty]
  by_cases h5 : k = 5
  · subst h5; simp [realB, firstV, kindB, validB, validP, data_empty]
  · simp [realB, firstV, kindB, h1, h2, h3, h4, h5]
set_option maxRecDepth 100000 in
theorem holdsNothing_calls (n : ByteArray) (k : Int) (w : World) : Calls Tryd.prog 66 #[.agg #[.string n, .int .i64 k]] w (BoolG (!kindB k) w) := by
  have HFV := Lib.hid (fun w' => first_calls k w')
  have HRV := Lib.hid (fun w' => real_calls (firstV k) w')
  rw [firstReal k] at HRV
  obtain ⟨⟨xk, xn, xt⟩, hx⟩ : ∃ x, firstV k = x := ⟨_, rfl⟩
  rw [hx] at HFV HRV
  obtain ⟨fb, hfb⟩ : ∃ b, firstB k = b := ⟨_, rfl⟩
  rw [hfb] at HFV
  obtain ⟨q, hq⟩ : ∃ q, kindB k = q := ⟨_, rfl⟩
  rw [hq] at HRV ⊢
  clear hx hfb hq
  go_enter Tryd.func66, Tryd.ntmps66
  go_wp2_with fail
  refine (HFV.out _).mono ?_
  rintro e w2 ⟨rfl, hg2⟩
  have HG2 := Lib.hid (((Gro.refl w).alloc _).trans hg2)
  clear hg2
  go_wp2_with fail
  refine (HRV.out _).mono ?_
  rintro e w3 ⟨rfl, hg3⟩
  have HG3 := Lib.hid ((HG2.out.alloc _).trans hg3)
  clear hg3
  go_wp2
  go_ret
  exact boolg rfl HG3.out
end Go.Proofs.YtpmlhgakbpfgmaaDoor
