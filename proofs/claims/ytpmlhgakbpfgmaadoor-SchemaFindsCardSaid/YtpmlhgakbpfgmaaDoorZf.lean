/- The contracts of the reference's Kinds and KeyKinds, and of the laws' same. -/
import Derived.Test.YtpmlhgakbpfgmaaDoorZb
import Derived.Test.YtpmlhgakbpfgmaaDoorZd
import Derived.Test.YtpmlhgakbpfgmaaDoorQa
set_option linter.unusedSimpArgs false
set_option linter.unusedVariables false
namespace Go.Proofs.YtpmlhgakbpfgmaaDoor
open Go.RowKit

/-- A list of numbers in memory that the call has made. -/
def IntsNew (l : List Int) (w : World) (e : Ending) (w' : World) : Prop := ∃ v, e = .returned v ∧ IntsAt (fun g => w.heap.size ≤ g) w' v l ∧ Gro w w'
theorem IntsOut.new {l : List Int} {w : World} {e : Ending} {w' : World} (h : IntsOut l w e w') (hl : l.length ≤ 17592186044416) : IntsNew l w e w' :=
  let ⟨v, h1, h2, h3⟩ := h
  ⟨v, h1, h2.ints4 hl (fun _ h => h), h3⟩
theorem Gro.own {w w1 w2 : World} {r : Option Nat} (h : Gro w w1) (hg : w1.grownBy w2 r) (hr : ∀ k, r = some k → w.heap.size ≤ k) (hd : w1.drawn ≤ w2.drawn) : Gro w w2 :=
  ⟨h.below.grown hg h.size hr, Nat.le_trans h.drawn hd⟩
set_option maxHeartbeats 4000000 in
set_option maxRecDepth 100000 in
theorem refKinds_calls (full : Bool) (k : Nat) (T S : Nat → Prop) (ver : Int) (v : Value) (ts : List Tab) (i : Int) (w : World) (hp : TabsAt full k T S w v ts) :
    Calls Tryd.prog 10 #[.agg #[.int .i64 ver, v], .int .i64 i] w (fun e w' => ∃ v, e = .returned v ∧ OwnN w' w.heap.size v (kindsS ts i) ∧ Below w.heap.size w w') := by
  obtain ⟨inf, hi, hz, hsz, hby⟩ := info_parts infoI
  obtain ⟨a, cap, rfl, hl⟩ := hp.slice
  obtain ⟨W, hW⟩ : ∃ W, W = w.alloc (.cells #[.int .i64 ver, .slice a ts.length cap] 25) := ⟨_, rfl⟩
  have hg : Below w.heap.size w W := by rw [hW]; exact (Below.refl _ _).alloc (Nat.le_refl _) _
  have HSB : Hid (SBox W w.heap.size ver a ts.length cap) := by rw [hW]; exact SBox.new _ _ _ _ _ _
  have HTS := Lib.hid (hp.later hg)
  have HG := Lib.hid hg
  have HW := Lib.hid hW
  obtain ⟨L, hL⟩ : ∃ L, ts.length = L := ⟨_, rfl⟩
  rw [hL] at HSB HTS HW hl ⊢
  have HL := Lib.hid hL
  have HI := Lib.hid hi
  have HZ := Lib.hid hz
  have HSZ := Lib.hid hsz
  have HBY := Lib.hid hby
  clear hp hg hW hL hi hz hsz hby
  by_cases hi0 : i < 0
  · have HE : Hid (kindsS ts i = []) := kindsS_out (by unfold inTabs; rw [decide_eq_false (by omega)]; rfl)
    have hd : decide (i < 0) = true := by simpa using hi0
    go_enter Tryd.func10, Tryd.ntmps10
    go_wp2
    go_ret
    rw [← HW.out, HE.out]
    exact ⟨_, rfl, World.ownsRow_nil _ _ _ _, HG.out⟩
  obtain ⟨n, rfl⟩ : ∃ n : Nat, i = n := ⟨i.toNat, by omega⟩
  by_cases hiL : L ≤ n
  · have HE : Hid (kindsS ts n = []) := kindsS_out (by have := HL.out; unfold inTabs; rw [decide_eq_false (p := (n : Int) < _) (by omega), Bool.and_false])
    have hd : decide ((L : Int) ≤ (n : Int)) = true := by simp; omega
    go_enter Tryd.func10, Tryd.ntmps10
    go_wp2
    go_ret
    rw [← HW.out, HE.out]
    exact ⟨_, rfl, World.ownsRow_nil _ _ _ _, HG.out⟩
  have hdL : decide ((L : Int) ≤ (n : Int)) = false := by simp; omega
  have hnL : (n : Int) < (L : Int) := by omega
  have hn : n < ts.length := by have := HL.out; omega
  obtain ⟨b, off, rfl, hb, -, ca, cc, ra, rn, rc, ka, kn, kc, hcell, hv⟩ := HTS.out.get hn
  have HKS : Hid (kindsS ts n = ts[n].cols.map Col.k) := by show _ = _; unfold kindsS kindsT; rw [tabOf_nat hn]
  have HCO := Lib.hid hv.cols
  obtain ⟨t, ht⟩ : ∃ t, ts[n] = t := ⟨_, rfl⟩
  rw [ht] at HKS HCO hcell
  obtain ⟨C, hC⟩ : ∃ C, t.cols.length = C := ⟨_, rfl⟩
  have HC := Lib.hid hC
  obtain ⟨h0, h1, h2, h3, h4⟩ := hcell
  rw [hC] at HCO h1
  obtain ⟨a1, c1, hsl, hCl, -⟩ := HCO.out.slice
  rw [hC] at hCl
  clear hsl
  obtain ⟨s0, s1, s2⟩ := HSB.out
  rw [HKS.out]
  clear hC ht hv hn
  go_enter Tryd.func10, Tryd.ntmps10
  go_upto_region 1 with fail
  rw [← HW.out]
  go_wp2_with fail
  clear h0 h1 h2 h3 h4 s0 s1 s2
  go_loopw [5, 7, 24] (fun vo _ y wr => ∃ (j : Nat) (R : List Int), j ≤ C ∧ y = .int .i64 j ∧ R = (t.cols.map Col.k).take j ∧ OwnN wr W.heap.size vo R ∧ Below W.heap.size W wr) (fun _ _ y _ => C - (intOf y).toNat)
  case atStart => exact ⟨0, [], by omega, rfl, by simp, World.ownsRow_nil _ _ _ _, Below.refl _ _⟩
  case round =>
    obtain ⟨j, R, hj, rfl, hR, hown, hbW⟩ := hrel
    have hwk := step_i j (by omega)
    have HR := Lib.hid hR
    have HO := Lib.hid hown
    have HBW := Lib.hid hbW
    have hRL : R.length = j := by rw [hR, List.length_take, List.length_map]; have := HC.out; omega
    have HRL := Lib.hid hRL
    by_cases hlt : j < C
    · have hjc : j < t.cols.length := by rw [HC.out]; exact hlt
      have hlt' : decide ((j : Int) < (C : Int)) = true := by simp; omega
      obtain ⟨cb, co, rfl, hcl, -, k0, k1⟩ := (HCO.out.later hbW).get hjc
      obtain ⟨x, hx⟩ : ∃ x, t.cols[j] = x := ⟨_, rfl⟩
      rw [hx] at k0 k1
      have HX : Hid ((t.cols.map Col.k).take (j + 1) = (t.cols.map Col.k).take j ++ [x.k]) := by
        show _ = _; rw [List.take_succ_eq_append_getElem (by simpa using hjc)]; simp [hx]
      have hln : R.length + 1 ≤ 17592186044416 := by omega
      have hbase : W.heap.size ≤ wr.heap.size := hbW.size
      clear hx hR hown hbW hRL hjc
      go_wp2_with (at_builtin; go_must (refine wpList_append_own _ rfl _ _ 34 rfl W.heap.size 3 inf (.int .i64 0) 1 8 Tryd.underlying34 HI.out HZ.out HSZ.out HBY.out rfl (by decide) _ R.length (ints R) rfl (World.ownsRow.alloc (World.ownsRow.alloc HO.out _) _) ⟨wr.heap.size + 1, 0, none⟩ 1 1 [.int .i64 x.k] rfl rfl ?c1 ?c2 ?c3 ?c4 ?c5 ?_))
      case c1 =>
        have e : (wr.alloc (.cells #[.string x.n, .int .i64 x.k] 46)).heap.size = wr.heap.size + 1 := by simp
        have h := cell_one_new' (wr.alloc (.cells #[.string x.n, .int .i64 x.k] 46)) (.int .i64 x.k) 3
        rw [e] at h; exact h
      case c2 => intro x hx; simp at hx; subst hx; rfl
      case c3 => unfold maxLen; omega
      case c4 => omega
      case c5 => simp; omega
      intro v' w7 hown' hgrow hnil
      have HF : Hid (OwnN w7 W.heap.size v' (R ++ [x.k]) ∧ Below W.heap.size W w7) := by
        refine ⟨?_, ?_⟩
        · show World.ownsRow _ _ _ _ _ _ _
          rw [List.length_append, ints_append]; exact hown'
        · exact ((HBW.out.alloc HBW.out.size _).alloc (by simp; omega) _).grown hgrow (by simp; omega) (fun k hk => (HO.out.lt k hk).1)
      have HJ : Hid ((R ++ [x.k]) = (t.cols.map Col.k).take (j + 1)) := by show _ = _; rw [HX.out, HR.out]
      clear hown' hgrow hnil
      go_wp2_with fail
      generalize wrap64 ((j : Int) + 1) = z at hwk ⊢
      subst hwk
      go_roundw
      case rel => exact ⟨j + 1, R ++ [x.k], by omega, by go_num, HJ.out, HF.out⟩
      case measure => simp [intOf]; omega
    · have hlt' : decide ((j : Int) < (C : Int)) = false := by simp; omega
      have HE : Hid (R = t.cols.map Col.k) := by
        show _ = _
        rw [hR, List.take_of_length_le (by rw [List.length_map]; have := HC.out; omega)]
      clear hR hown hbW hRL
      go_wp2_with fail
      go_ret
      exact ⟨_, rfl, by rw [← HE.out]; exact own_mono HO.out HG.out.size, HG.out.trans (HBW.out.mono HG.out.size)⟩
/-- What the reference's Kinds answers. -/
def IntsB (l : List Int) (w : World) (e : Ending) (w' : World) : Prop := ∃ v, e = .returned v ∧ OwnN w' w.heap.size v l ∧ Below w.heap.size w w'
def IntsNewB (l : List Int) (w : World) (e : Ending) (w' : World) : Prop := ∃ v, e = .returned v ∧ IntsAt (fun g => w.heap.size ≤ g) w' v l ∧ Below w.heap.size w w'
theorem kindsS_le {full : Bool} {k : Nat} {T S : Nat → Prop} {w : World} {v : Value} {ts : List Tab} (hp : TabsAt full k T S w v ts) (i : Int) : (kindsS ts i).length ≤ 17592186044416 := by
  obtain ⟨a, cap, rfl, hl⟩ := hp.slice
  cases hin : inTabs ts i with
  | false => rw [kindsS_out hin]; simp
  | true =>
    obtain ⟨n, rfl, hn⟩ := inTabs_nat hin
    obtain ⟨b, off, -, hb, -, ca, cc, ra, rn, rc, ka, kn, kc, hcell, hv⟩ := hp.get hn
    obtain ⟨a1, c1, -, h, -⟩ := hv.cols.slice
    unfold kindsS kindsT
    rw [tabOf_nat hn, List.length_map]; exact h
theorem refKinds_new (full : Bool) (k : Nat) (T S : Nat → Prop) (ver : Int) (v : Value) (ts : List Tab) (i : Int) (w : World) (hp : TabsAt full k T S w v ts) :
    Calls Tryd.prog 10 #[.agg #[.int .i64 ver, v], .int .i64 i] w (IntsNewB (kindsS ts i) w) :=
  (refKinds_calls full k T S ver v ts i w hp).mono fun _ _ ⟨v, h1, h2, h3⟩ => ⟨v, h1, h2.ints4 (kindsS_le hp i) (fun _ h => h), h3⟩
theorem sKinds_new (full : Bool) (k : Nat) (T S : Nat → Prop) (ver : Int) (v : Value) (ts : List Tab) (i : Int) (w : World) (hp : TabsAt full k T S w v ts) :
    Calls Tryd.prog 9 #[.agg #[.int .i64 ver, v], .int .i64 i] w (IntsNew (kindsS ts i) w) :=
  (sKinds_calls full k T S ver v ts i w hp).mono fun _ _ h => h.new (kindsS_le hp i)
theorem keyKindsS_le {ts : List Tab} {i : Int} (h : (kindsS ts i).length ≤ 17592186044416) : (keyKindsS ts i).length ≤ 17592186044416 := by
  unfold keyKindsS; rw [List.length_take]; omega
theorem sKeyKinds_new (full : Bool) (k : Nat) (T S : Nat → Prop) (ver : Int) (v : Value) (ts : List Tab) (i : Int) (w : World) (hp : TabsAt full k T S w v ts) :
    Calls Tryd.prog 11 #[.agg #[.int .i64 ver, v], .int .i64 i] w (IntsNew (keyKindsS ts i) w) :=
  (sKeyKinds_calls full k T S ver v ts i w hp).mono fun _ _ h => h.new (keyKindsS_le (kindsS_le hp i))
set_option maxHeartbeats 4000000 in
set_option maxRecDepth 100000 in
theorem lsame_calls (S S' : Nat → Prop) (va vb : Value) (a b : List Int) (w : World) (ha : IntsAt S w va a) (hb : IntsAt S' w vb b) : Calls Tryd.prog 8 #[va, vb] w (BoolG (decide (a = b)) w) := by
  have mx := mixed
  obtain ⟨W, rfl⟩ : ∃ W, W = w := ⟨_, rfl⟩
  obtain ⟨sa, sc, rfl, hsl⟩ := ha.slice
  obtain ⟨ta, tc, rfl, htl⟩ := hb.slice
  have HA := Lib.hid ha
  have HB := Lib.hid hb
  clear ha hb
  obtain ⟨res, hres⟩ : ∃ res, decide (a = b) = res := ⟨_, rfl⟩
  rw [hres]
  have HE : Hid (res = decide (a = b)) := hres.symm
  clear hres
  by_cases hNM : a.length = b.length
  · generalize hN : a.length = N at hsl HA hNM ⊢
    have hM : b.length = N := hNM.symm
    clear hNM
    rw [hM] at HB htl ⊢
    have HN := Lib.hid hN
    have HM := Lib.hid hM
    clear hN hM
    go_enter Tryd.func8, Tryd.ntmps8
    go_wp2_with fail
    go_loopw [5, 13] (fun _ i wr => ∃ j : Nat, j ≤ N ∧ i = .int .i64 j ∧ a.take j = b.take j ∧ Gro W wr) (fun _ i _ => N - (intOf i).toNat)
    case atStart => exact ⟨0, by omega, rfl, rfl, Gro.refl _⟩
    case round =>
      obtain ⟨j, hj, rfl, ht, hg⟩ := hrel
      have HT := Lib.hid ht
      have HGR := Lib.hid hg
      have hwk := step_i j (by omega)
      by_cases hlt : j < N
      · have hkl : j < a.length := by rw [HN.out]; exact hlt
        have hkm : j < b.length := by rw [HM.out]; exact hlt
        have hlt' : decide ((j : Int) < (N : Int)) = true := by simp; omega
        have hltI : (j : Int) < (N : Int) := by omega
        have h0I : (0 : Int) ≤ (j : Int) := by omega
        obtain ⟨xb, xo, rfl, hxb, -, hxc⟩ := (HA.out.later hg.below).get hkl
        obtain ⟨yb, yo, rfl, hyb, -, hyc⟩ := (HB.out.later hg.below).get hkm
        have HTA := Lib.hid (List.take_succ_eq_append_getElem hkl)
        have HTB := Lib.hid (List.take_succ_eq_append_getElem hkm)
        generalize a[j] = x at hxc HTA
        generalize b[j] = y at hyc HTB
        clear ht hg
        by_cases hxy : x = y
        · subst hxy
          have hne : (x != x) = false := by simp
          go_wp2_with fail
          go_quiet_grown (fail)
          go_wp2_with fail
          generalize wrap64 ((j : Int) + 1) = z at hwk ⊢
          subst hwk
          go_roundw
          case rel => exact ⟨j + 1, by omega, by go_num, by rw [HTA.out, HTB.out, HT.out], HGR.out.grown _ _⟩
          case measure => simp [intOf]; omega
        · have hne : (x != y) = true := by simpa using hxy
          have HF : Hid (false = res) := by
            show _ = _
            rw [HE.out]
            symm
            rw [decide_eq_false_iff_not]
            rintro rfl
            have h := HTA.out.symm.trans HTB.out
            simp at h
            exact hxy h
          go_wp2_with fail
          go_quiet_grown (fail)
          go_wp2_with fail
          go_ret
          exact boolg HF.out (HGR.out.grown _ _)
      · have hlt' : decide ((j : Int) < (N : Int)) = false := by simp; omega
        have HF : Hid (true = res) := by
          show _ = _
          rw [HE.out]
          symm
          rw [decide_eq_true_eq]
          rw [List.take_of_length_le (by have := HN.out; omega), List.take_of_length_le (by have := HM.out; omega)] at ht
          exact ht
        clear ht hg
        go_wp2_with fail
        go_ret
        exact boolg HF.out HGR.out
  · have hne : ((a.length : Int) != (b.length : Int)) = true := by simp; omega
    have HF : Hid (false = res) := by
      show _ = _
      rw [HE.out]
      symm
      rw [decide_eq_false_iff_not]
      rintro rfl
      exact hNM rfl
    go_enter Tryd.func8, Tryd.ntmps8
    go_wp2_with fail
    go_ret
    exact boolg HF.out (Gro.refl _)
end Go.Proofs.YtpmlhgakbpfgmaaDoor
/- The contracts of schema.Find and of the reference's Find. -/
set_option linter.unusedSimpArgs false
set_option linter.unusedVariables false
namespace Go.Proofs.YtpmlhgakbpfgmaaDoor
open Go.RowKit

def sameB (s t : ByteArray) : Bool := s.toList == t.toList
def findGo (name : ByteArray) : List Tab → Nat → Int
  | [], _ => -1
  | t :: r, i => if sameB t.name name then i else findGo name r (i + 1)
def findS (ts : List Tab) (name : ByteArray) : Int := findGo name ts 0
set_option maxHeartbeats 4000000 in
set_option maxRecDepth 100000 in
theorem sFind_calls (full : Bool) (k : Nat) (T S : Nat → Prop) (ver : Int) (v : Value) (ts : List Tab) (name : ByteArray) (w : World) (hp : TabsAt full k T S w v ts) :
    Calls Tryd.prog 16 #[.agg #[.int .i64 ver, v], .string name] w (IntG (findS ts name) w) := by
  obtain ⟨a, cap, rfl, hl⟩ := hp.slice
  obtain ⟨W, hW⟩ : ∃ W, W = w.alloc (.cells #[.int .i64 ver, .slice a ts.length cap] 25) := ⟨_, rfl⟩
  have hg : Gro w W := by rw [hW]; exact (Gro.refl w).alloc _
  have HSB : Hid (SBox W w.heap.size ver a ts.length cap) := by rw [hW]; exact SBox.new _ _ _ _ _ _
  have HTS := Lib.hid (hp.later hg.below)
  have HG := Lib.hid hg
  have HW := Lib.hid hW
  clear hp hg hW
  obtain ⟨res, hres⟩ : ∃ res, findS ts name = res := ⟨_, rfl⟩
  rw [hres]
  have HR := Lib.hid hres
  unfold findS at HR
  obtain ⟨L, hL⟩ : ∃ L, ts.length = L := ⟨_, rfl⟩
  have HL := Lib.hid hL
  rw [hL] at HSB HTS HW hl ⊢
  clear hres hL
  go_enter Tryd.func16, Tryd.ntmps16
  go_upto_region 1 with fail
  rw [← HW.out]
  clear HW
  obtain ⟨sl, s0, s1⟩ := HSB.out
  go_wp2_with fail
  clear sl s0 s1
  go_loopw [5, 6, 10] (fun _ _ y wr => ∃ j : Nat, j ≤ L ∧ y = .int .i64 j ∧ findGo name (ts.drop j) j = res ∧ Gro W wr) (fun _ _ y _ => L - (intOf y).toNat)
  case atStart => exact ⟨0, by omega, rfl, HR.out, Gro.refl _⟩
  case round =>
    obtain ⟨j, hj, rfl, hfd, hgr⟩ := hrel
    have HFD := Lib.hid hfd
    have HGR := Lib.hid hgr
    have hwk := step_i j (by omega)
    clear hfd
    by_cases hlt : j < L
    · have hjl : j < ts.length := by rw [HL.out]; exact hlt
      have hlt' : decide ((j : Int) < (L : Int)) = true := by simp; omega
      obtain ⟨b, off, rfl, hbl, -, ca, cc, ra, rn, rc, ka, kn, kc, ⟨t0, t1, t2, t3, t4⟩, -⟩ := (HTS.out.later hgr.below).get hjl
      have HNX : Hid ((if sameB ts[j].name name then (j : Int) else findGo name (ts.drop (j + 1)) (j + 1)) = res) := by
        show _ = _; rw [← HFD.out, List.drop_eq_getElem_cons hjl]; rfl
      generalize ts[j] = t at t0 t1 t2 HNX
      obtain ⟨tn, tk, tc, tr, tp⟩ := t
      simp only at t0 t1 t2
      replace HNX : Hid ((if sameB tn name then (j : Int) else findGo name (ts.drop (j + 1)) (j + 1)) = res) := HNX.out
      generalize tc.length = C at t1
      obtain ⟨W1, hW1⟩ : ∃ W1, W1 = wr.alloc (tObj tn ca C cc tk ra rn rc ka kn kc) := ⟨_, rfl⟩
      have hgw1 : Gro wr W1 := by rw [hW1]; exact (Gro.refl _).alloc _
      have HBX : Hid (TBox W1 wr.heap.size tn ca C cc tk ra rn rc ka kn kc) := by rw [hW1]; exact TBox.new _ _ _ _ _ _ _ _ _ _ _ _
      have HW1 := Lib.hid hW1
      have HGW1 := Lib.hid (hgr.trans hgw1)
      clear hgw1 hW1 hjl hgr
      go_upto_region 4 with fail
      rw [← HW1.out]
      clear HW1 t0 t1 t2 t3 t4
      obtain ⟨bl, b0, b1, b2, b3, b4⟩ := HBX.out
      obtain ⟨q, hq⟩ : ∃ q, (tn.toList == name.toList) = q := ⟨_, rfl⟩
      have HQ : Hid (sameB tn name = q) := hq
      rw [HQ.out] at HNX
      cases q with
      | true =>
        have HE : Hid ((j : Int) = res) := HNX.out
        go_wp2_with fail
        go_ret
        exact intg HE.out (HG.out.trans HGW1.out)
      | false =>
        have HF1 : Hid (findGo name (ts.drop (j + 1)) (j + 1) = res) := HNX.out
        go_wp2_with fail
        generalize wrap64 ((j : Int) + 1) = z at hwk ⊢
        subst hwk
        exact ⟨⟨j + 1, by omega, by go_num, HF1.out, HGW1.out⟩, by simp [intOf]; omega⟩
    · have hlt' : decide ((j : Int) < (L : Int)) = false := by simp; omega
      have HE : Hid (-1 = res) := by
        show _ = _
        rw [← HFD.out, List.drop_of_length_le (by have := HL.out; omega)]; rfl
      clear hgr
      go_wp2_with fail
      go_ret
      exact intg HE.out (HG.out.trans HGR.out)
set_option maxHeartbeats 4000000 in
set_option maxRecDepth 100000 in
theorem refFind_calls (full : Bool) (k : Nat) (T S : Nat → Prop) (ver : Int) (v : Value) (ts : List Tab) (name : ByteArray) (w : World) (hp : TabsAt full k T S w v ts) :
    Calls Tryd.prog 17 #[.agg #[.int .i64 ver, v], .string name] w (IntG (findS ts name) w) := by
  obtain ⟨a, cap, rfl, hl⟩ := hp.slice
  obtain ⟨W, hW⟩ : ∃ W, W = w.alloc (.cells #[.int .i64 ver, .slice a ts.length cap] 25) := ⟨_, rfl⟩
  have hg : Gro w W := by rw [hW]; exact (Gro.refl w).alloc _
  have HSB : Hid (SBox W w.heap.size ver a ts.length cap) := by rw [hW]; exact SBox.new _ _ _ _ _ _
  have HTS := Lib.hid (hp.later hg.below)
  have HG := Lib.hid hg
  have HW := Lib.hid hW
  clear hp hg hW
  obtain ⟨res, hres⟩ : ∃ res, findS ts name = res := ⟨_, rfl⟩
  rw [hres]
  have HR := Lib.hid hres
  unfold findS at HR
  obtain ⟨L, hL⟩ : ∃ L, ts.length = L := ⟨_, rfl⟩
  have HL := Lib.hid hL
  rw [hL] at HSB HTS HW hl ⊢
  clear hres hL
  go_enter Tryd.func17, Tryd.ntmps17
  go_upto_region 1 with fail
  rw [← HW.out]
  clear HW
  obtain ⟨sl, s0, s1⟩ := HSB.out
  go_wp2_with fail
  clear sl s0 s1
  go_loopw [5, 9] (fun _ y wr => ∃ j : Nat, j ≤ L ∧ y = .int .i64 j ∧ findGo name (ts.drop j) j = res ∧ Gro W wr) (fun _ y _ => L - (intOf y).toNat)
  case atStart => exact ⟨0, by omega, rfl, HR.out, Gro.refl _⟩
  case round =>
    obtain ⟨j, hj, rfl, hfd, hgr⟩ := hrel
    have HFD := Lib.hid hfd
    have HGR := Lib.hid hgr
    have hwk := step_i j (by omega)
    clear hfd
    by_cases hlt : j < L
    · have hjl : j < ts.length := by rw [HL.out]; exact hlt
      have hlt' : decide ((j : Int) < (L : Int)) = true := by simp; omega
      obtain ⟨b, off, rfl, hbl, -, ca, cc, ra, rn, rc, ka, kn, kc, ⟨t0, t1, t2, t3, t4⟩, -⟩ := (HTS.out.later hgr.below).get hjl
      have HNX : Hid ((if sameB ts[j].name name then (j : Int) else findGo name (ts.drop (j + 1)) (j + 1)) = res) := by
        show _ = _; rw [← HFD.out, List.drop_eq_getElem_cons hjl]; rfl
      generalize ts[j] = t at t0 t1 t2 HNX
      obtain ⟨tn, tk, tc, tr, tp⟩ := t
      simp only at t0 t1 t2
      replace HNX : Hid ((if sameB tn name then (j : Int) else findGo name (ts.drop (j + 1)) (j + 1)) = res) := HNX.out
      generalize tc.length = C at t1
      have HGW1 := Lib.hid hgr
      have hbl' := hbl
      clear hjl hgr
      obtain ⟨sl, s0, s1⟩ := HSB.out.later HGW1.out.below
      obtain ⟨q, hq⟩ : ∃ q, (tn.toList == name.toList) = q := ⟨_, rfl⟩
      have HQ : Hid (sameB tn name = q) := hq
      rw [HQ.out] at HNX
      cases q with
      | true =>
        have HE : Hid ((j : Int) = res) := HNX.out
        go_wp2_with fail
        go_ret
        exact intg HE.out (HG.out.trans HGW1.out)
      | false =>
        have HF1 : Hid (findGo name (ts.drop (j + 1)) (j + 1) = res) := HNX.out
        go_wp2_with fail
        generalize wrap64 ((j : Int) + 1) = z at hwk ⊢
        subst hwk
        exact ⟨⟨j + 1, by omega, by go_num, HF1.out, HGW1.out⟩, by simp [intOf]; omega⟩
    · have hlt' : decide ((j : Int) < (L : Int)) = false := by simp; omega
      have HE : Hid (-1 = res) := by
        show _ = _
        rw [← HFD.out, List.drop_of_length_le (by have := HL.out; omega)]; rfl
      clear hgr
      go_wp2_with fail
      go_ret
      exact intg HE.out (HG.out.trans HGR.out)
end Go.Proofs.YtpmlhgakbpfgmaaDoor
