/- The law ValueRows returns true for all codes and every two rows, without conditions. -/
import Derived.Test.YthlhpjickkhjfaaK
import Derived.Test.YthlhpjickkhjfaaO
import Derived.Deep.RegionHeld3
set_option linter.unusedSimpArgs false
set_option linter.unusedVariables false
namespace Go.Proofs.Ythlhpjickkhjfaa
open Go.ChangeShapes Go.WideShapes Go.ChangeAt Go.RowKit Go.Joins

namespace Rows1
theorem wrap_succ (k N : Nat) (hk : k ≤ N) (hn : N ≤ 8) : wrap64 ((k : Int) + 1) = (k : Int) + 1 := by
  unfold wrap64
  omega
theorem cell_two_new (w : World) (x y : Value) (t : TypeId) : ∀ j u, [x, y][j]? = some u → (w.alloc (.cells #[x, y] t)).cell? ((⟨w.heap.size, 0, none⟩ : Addr).add j) = some u := by
  intro j u hj
  rcases j with _ | _ | j
  · simp at hj; subst hj; show (w.alloc _).cell? ⟨w.heap.size, 0 + 0, none⟩ = _; go_simp
  · simp at hj; subst hj; show (w.alloc _).cell? ⟨w.heap.size, 0 + 1, none⟩ = _; go_simp
  · simp at hj
set_option maxHeartbeats 4000000 in
set_option maxRecDepth 100000 in
theorem walk (a : Option Addr) (len cap : Nat) (zs : List Int) (va : Value) (ra : List V) (vb : Value) (rb : List V) (w : World) (hr : IsRow .u8 w a len cap zs) (ha : RowAt w va ra) (hb : RowAt w vb rb) :
    Calls Try.prog 7 #[.slice a len cap, va, vb] w fun e w' => e = .returned (.bool true) ∧ Below w.heap.size w w' := by
  have mx := mixed
  obtain ⟨i, hi, hz, hsz, hby⟩ := info_parts info38
  have HI := Lib.hid hi
  have HZ := Lib.hid hz
  have HSZ := Lib.hid hsz
  have HBY := Lib.hid hby
  have hN := new_calls a len cap zs w hr
  have HN := Lib.hid hN
  have HRA := Lib.hid ha
  have HRB := Lib.hid hb
  obtain ⟨pa, ca, rfl, la, -⟩ := ha
  obtain ⟨pb, cb, rfl, lb, -⟩ := hb
  clear hN hr hi hz hsz hby
  go_enter Try.func7, Try.ntmps7
  go_wp2_with fail
  refine HN.out.mono ?_
  rintro e w1 ⟨b, c, rfl, hbs, hcs, hb1⟩
  have HB1 := Lib.hid hb1
  have HC1 := Lib.hid hcs
  have HBS := Lib.hid hbs
  clear HN hb1 hcs hbs
  go_wp2_with fail
  refine (rows_calls b c _ HC1.out).mono ?_
  rintro e w2 ⟨v, rs, rfl, hrl, hsm, hown, hcs, hby⟩
  have hb2 : Below w.heap.size w w2 := HB1.out.grown hby HB1.out.size (fun k hk => by cases hk; exact HBS.out)
  obtain ⟨xs, hox, hix⟩ := hown
  have HOX := Lib.hid hox
  have HIX := Lib.hid hix
  have HB2 := Lib.hid hb2
  have hbase : w1.heap.size ≤ w2.heap.size := hby.size
  have HS2 := Lib.hid HB1.out.size
  clear hox hix hb2 hcs hby
  go_wp2_with (at_builtin; go_must (refine wpList_append_own _ rfl _ _ 39 rfl w1.heap.size 38 i (.slice none 0 0) 1 24 Try.underlying39 HI.out HZ.out HSZ.out HBY.out rfl (by decide) _ rs.length xs rfl (HOX.out.alloc _) ⟨w2.heap.size, 0, none⟩ 2 2 [.slice pa ra.length ca, .slice pb rb.length cb] rfl rfl ?c1 ?c2 ?c3 ?c4 ?c5 ?_))
  case c1 => exact cell_two_new _ _ _ _
  case c2 => intro x hx; simp at hx; rcases hx with rfl | rfl <;> rfl
  case c3 => unfold maxLen; omega
  case c4 => omega
  case c5 => simp; omega
  intro v' w3 hown' hgrow hnil
  have HOW' := Lib.hid hown'
  have HG3 := Lib.hid hgrow
  clear hown' hgrow hnil
  have hal := World.grownBy_alloc w2 (.cells #[.slice pa ra.length ca, .slice pb rb.length cb] 38)
  have hbel : Below w.heap.size w w3 := (HB2.out.alloc (HB2.out.size) _).grown HG3.out (Nat.le_trans HB2.out.size (by simp)) (fun k hk => Nat.le_trans HS2.out (HOX.out.lt k hk).1)
  have hra3 := HRA.out.later hbel
  have hrb3 := HRB.out.later hbel
  have hrow : ∃ vs : List (List V), vs.length = rs.length + 2 ∧ (∃ g cap, v' = .slice (some ⟨g, 0, none⟩) (rs.length + 2) cap ∧ RowsIn w3 g 0 vs) := by
    have ho := HOW'.out
    obtain ⟨hx, hv | ⟨g, cp, cur, hv, hg, hh, hcap, hm, hs, ht⟩⟩ := HOW'.out
    · omega
    · have hxl : xs.length = rs.length := by have := HOX.out.1; omega
      refine ⟨rs ++ [ra, rb], by simp, g, cp, hv, (Array.getElem?_eq_some_iff.1 hh).1, fun j hj => ?_⟩
      subst hv
      have hat : ∀ (u : Value) (r : List V), (xs ++ [.slice pa ra.length ca, .slice pb rb.length cb])[j]? = some u → RowAt w3 u r → ∃ u, w3.cell? ⟨g, 0 + j, none⟩ = some u ∧ RowAt w3 u r := fun u r h1 h2 =>
        ⟨u, by rw [Nat.zero_add, ho.cellAt j (by simp at hj; omega)]; exact h1, h2⟩
      by_cases h1 : j < rs.length
      · obtain ⟨u, k1, k2, k3⟩ := HIX.out j h1
        rw [List.getElem_append_left h1]
        refine hat u _ (by rw [List.getElem?_append, if_pos (by omega)]; exact k1) (.of_owned ((k2.alloc _).kept HG3.out ?_) k3)
        exact own_ne HOX.out k2
      · rw [List.getElem_append_right (by omega)]
        have hj2 : j < rs.length + 2 := by simpa using hj
        obtain h | h : j = rs.length ∨ j = rs.length + 1 := by omega
        · subst h
          refine hat _ _ (by rw [List.getElem?_append, if_neg (by omega)]; simp [hxl]; rfl) ?_
          simp only [Nat.sub_self, List.getElem_cons_zero]; exact hra3
        · subst h
          refine hat _ _ (by rw [List.getElem?_append, if_neg (by omega)]; simp [hxl]; rfl) ?_
          simp only [Nat.add_sub_cancel_left, List.getElem_cons_succ, List.getElem_cons_zero]; exact hrb3
  have HBW := Lib.hid hbel
  obtain ⟨vs, hvl, g, cap', rfl, hrows⟩ := hrow
  have HR := Lib.hid hrows
  have HL : Hid (vs.length ≤ 8) := by show _ ≤ _; omega
  rw [← hvl]
  generalize hN : vs.length = N at HL ⊢
  have HNN := Lib.hid hN
  have hn8 : N ≤ 8 := HL.out
  clear hN hra3 hrb3 hal hbel hrows hvl HG3 HOW' HB2 HS2 hbase HOX HIX hsm hrl HRA HRB la lb HC1 HB1 HBS HI HZ HSZ HBY
  obtain ⟨W, rfl⟩ : ∃ W : World, W = w3 := ⟨_, rfl⟩
  go_wp2_with fail
  go_loopw [26] (fun i wr => ∃ k : Nat, k ≤ N ∧ i = .int .i64 k ∧ Below W.heap.size W wr) (fun i _ => N - (intOf i).toNat)
  case atStart => exact ⟨0, by omega, rfl, Below.refl _ _⟩
  case round =>
    obtain ⟨k, hk, rfl, hbr⟩ := hrel
    have HB1 := Lib.hid hbr
    clear hbr
    have hwk := wrap_succ k N hk hn8
    by_cases hlt : k < N
    · have hkl : k < vs.length := by rw [HNN.out]; exact hlt
      obtain ⟨u, hu, hru⟩ := (HR.out.later HB1.out).at_ k hkl
      have hgl := (HR.out.later HB1.out).blk
      rw [Nat.zero_add] at hu
      generalize vs[k] = P at hru
      have HRU := Lib.hid hru
      clear hru
      have hlt' : decide ((k : Int) < (N : Int)) = true := by simp; omega
      obtain ⟨wo, rfl⟩ : ∃ wo : World, wo = wr := ⟨_, rfl⟩
      go_wp2_with fail
      clear hu hgl hlt hlt'
      go_loopw [32] (fun i wr => ∃ j : Nat, j ≤ N ∧ i = .int .i64 j ∧ Below wo.heap.size wo wr) (fun i _ => N - (intOf i).toNat)
      case atStart => exact ⟨0, by omega, rfl, Below.refl _ _⟩
      case round =>
        obtain ⟨j, hj, rfl, hbr⟩ := hrel
        have HB2 := Lib.hid hbr
        clear hbr
        have hwj := wrap_succ j N hj hn8
        by_cases hltj : j < N
        · have hjl : j < vs.length := by rw [HNN.out]; exact hltj
          obtain ⟨u2, hu2, hru2⟩ := ((HR.out.later HB1.out).later HB2.out).at_ j hjl
          have hgl := ((HR.out.later HB1.out).later HB2.out).blk
          rw [Nat.zero_add] at hu2
          generalize vs[j] = Q at hru2
          have HRU1 := Lib.hid (HRU.out.later HB2.out)
          have HRU2 := Lib.hid hru2
          clear hru2
          have hr1 := goodR.range P Q
          obtain ⟨d, hpq⟩ : ∃ d : Int, cmpR P Q = d := ⟨_, rfl⟩
          have hqp : cmpR Q P = -d := by rw [goodR.neg, hpq]
          rw [hpq] at hr1
          have hd1 : -1 ≤ d := by omega
          have hd2 : d ≤ 1 := by omega
          have hltj' : decide ((j : Int) < (N : Int)) = true := by simp; omega
          obtain ⟨wo2, rfl⟩ : ∃ wo2 : World, wo2 = wr := ⟨_, rfl⟩
          have hc1 : ∀ W', Below wo2.heap.size wo2 W' → Calls Try.prog 25 #[u, u2] W' fun e w' => e = .returned (.int .i64 d) ∧ Gro W' w' := fun W' h => by rw [← hpq]; exact compareRows_calls _ _ _ _ _ (HRU1.out.later h) (HRU2.out.later h)
          have hc2 : ∀ W', Below wo2.heap.size wo2 W' → Calls Try.prog 25 #[u2, u] W' fun e w' => e = .returned (.int .i64 (-d)) ∧ Gro W' w' := fun W' h => by rw [← hqp]; exact compareRows_calls _ _ _ _ _ (HRU2.out.later h) (HRU1.out.later h)
          have hc3 : ∀ W', Below wo2.heap.size wo2 W' → Calls Try.prog 26 #[u, u2] W' fun e w' => e = .returned (.int .i64 d) ∧ Gro W' w' := fun W' h => by rw [← hpq]; exact refCompareRows_calls _ _ _ _ _ (HRU1.out.later h) (HRU2.out.later h)
          have HCA := Lib.hid hc1
          have HCB := Lib.hid hc2
          have HCC := Lib.hid hc3
          clear hc1 hc2 hc3 hr1 hqp
          have HPQ := Lib.hid hpq
          clear hpq
          go_wp2_with (first
            | (go_at_call 25; first | (refine (wide (HCA.out _ (by first | exact Below.refl _ _ | exact ((Gro.refl _).grown _ _).below))).mono ?_; rintro e w' ⟨q, os, rfl, rfl⟩) | (refine (wide (HCB.out _ (by first | exact Below.refl _ _ | exact ((Gro.refl _).grown _ _).below))).mono ?_; rintro e w' ⟨q, os, rfl, rfl⟩))
            | (go_at_call 26; refine (wide (HCC.out _ (by first | exact Below.refl _ _ | exact ((Gro.refl _).grown _ _).below))).mono ?_; rintro e w' ⟨q, os, rfl, rfl⟩))
          clear hu2 hgl HCA HCB HCC
          go_loopw [54] (fun i wr => ∃ r : Nat, r ≤ N ∧ i = .int .i64 r ∧ Below wo2.heap.size wo2 wr) (fun i _ => N - (intOf i).toNat)
          case atStart => exact ⟨0, by omega, rfl, ((Gro.refl _).grown _ _).below⟩
          case round =>
            obtain ⟨r, hr, rfl, hbr⟩ := hrel
            have HB3 := Lib.hid hbr
            clear hbr
            have hwr := wrap_succ r N hr hn8
            by_cases hltr : r < N
            · have hrl : r < vs.length := by rw [HNN.out]; exact hltr
              obtain ⟨u3, hu3, hru3⟩ := (((HR.out.later HB1.out).later HB2.out).later HB3.out).at_ r hrl
              have hgl := (((HR.out.later HB1.out).later HB2.out).later HB3.out).blk
              rw [Nat.zero_add] at hu3
              generalize vs[r] = R at hru3
              have HRU3 := Lib.hid hru3
              clear hru3
              have htr := goodR.trans P Q R
              obtain ⟨d3, hd3⟩ : ∃ d : Int, cmpR Q R = d := ⟨_, rfl⟩
              obtain ⟨d4, hd4⟩ : ∃ d : Int, cmpR P R = d := ⟨_, rfl⟩
              rw [HPQ.out, hd3, hd4] at htr
              have hltr' : decide ((r : Int) < (N : Int)) = true := by simp; omega
              obtain ⟨wo3, rfl⟩ : ∃ wo3 : World, wo3 = wr := ⟨_, rfl⟩
              have hc1 : ∀ W', Below wo3.heap.size wo3 W' → Calls Try.prog 25 #[u2, u3] W' fun e w' => e = .returned (.int .i64 d3) ∧ Gro W' w' := fun W' h => by rw [← hd3]; exact compareRows_calls _ _ _ _ _ ((HRU2.out.later HB3.out).later h) (HRU3.out.later h)
              have hc2 : ∀ W', Below wo3.heap.size wo3 W' → Calls Try.prog 25 #[u, u3] W' fun e w' => e = .returned (.int .i64 d4) ∧ Gro W' w' := fun W' h => by rw [← hd4]; exact compareRows_calls _ _ _ _ _ ((HRU1.out.later HB3.out).later h) (HRU3.out.later h)
              have HCA := Lib.hid hc1
              have HCB := Lib.hid hc2
              clear hc1 hc2 hd3 hd4
              by_cases z1 : d ≤ 0
              · by_cases z3 : d3 ≤ 0
                · have z4 : ¬ 0 < d4 := by have := htr z1 z3; omega
                  clear htr
                  go_wp2_with (first
                    | (go_at_call 25; first | (refine (wide (HCA.out _ (by first | exact Below.refl _ _ | exact ((Gro.refl _).grown _ _).below))).mono ?_; rintro e w' ⟨q, os, rfl, rfl⟩) | (refine (wide (HCB.out _ (by first | exact Below.refl _ _ | exact ((Gro.refl _).grown _ _).below))).mono ?_; rintro e w' ⟨q, os, rfl, rfl⟩)))
                  exact ⟨⟨r + 1, by omega, by go_num, HB3.out.trans (((Gro.refl wo3).grown _ _).below.mono HB3.out.size)⟩, by simp [intOf]; omega⟩
                · clear htr
                  go_wp2_with (first
                    | (go_at_call 25; refine (wide (HCA.out _ (by first | exact Below.refl _ _ | exact ((Gro.refl _).grown _ _).below))).mono ?_; rintro e w' ⟨q, os, rfl, rfl⟩))
                  exact ⟨⟨r + 1, by omega, by go_num, HB3.out.trans (((Gro.refl wo3).grown _ _).below.mono HB3.out.size)⟩, by simp [intOf]; omega⟩
              · clear htr
                go_wp2
                exact ⟨⟨r + 1, by omega, by go_num, HB3.out⟩, by simp [intOf]; omega⟩
            · have hltr' : decide ((r : Int) < (N : Int)) = false := by simp; omega
              go_wp2
              have hlen := HNN.out
              exact ⟨⟨j + 1, by omega, by go_num, HB2.out.trans (HB3.out.mono HB2.out.size)⟩, by simp [intOf]; omega⟩
        · have hltj' : decide ((j : Int) < (N : Int)) = false := by simp; omega
          go_wp2
          have hlen := HNN.out
          exact ⟨⟨k + 1, by omega, by go_num, HB1.out.trans (HB2.out.mono HB1.out.size)⟩, by simp [intOf]; omega⟩
    · have hlt' : decide ((k : Int) < (N : Int)) = false := by simp; omega
      go_wp2_with fail
      refine (begun_calls _).mono ?_
      rintro e w9 ⟨rfl, hb9⟩
      have HB9 := Lib.hid hb9
      clear hb9
      go_wp2
      go_ret
      have g1 : Below w.heap.size w wr := HBW.out.trans (HB1.out.mono HBW.out.size)
      exact ⟨rfl, g1.trans (HB9.out.mono g1.size)⟩
set_option maxRecDepth 100000 in
theorem lifted (os : Os) (started : os.Started) (H : Type) (enc : TypeId × Value → H) :
    ReturnsInHanded {} Try.checked os 7 .any (Rows.valueRowsSpec.pre6 enc Try.prog Try.f7 Rows.valueRowsRow.domain false) (Rows.valueRowsSpec.post enc Try.prog Try.f7 false true false false) := by
  refine returnsInHanded_of_change_sized (C := Try.checked) own started (by kernel_rfl) Try.func7
    (ChangeSpec.witness6 (enc := enc) (C := Try.checked) false ⟨#[], #[.slice none 0 0, .slice none 0 0, .slice none 0 0], []⟩ 8 (by kernel_rfl) (by kernel_rfl) (by kernel_rfl) (by kernel_rfl)) ?_
  intro W base args ds gs before hval0 hW hcnd hsz0 hsizes
  have hval : ∀ (j : Nat) t v, Try.f7.params[j]? = some t → args[j]? = some v → Value.okWide Try.prog W .any base t v := hval0
  have hW' := hW
  obtain ⟨p, q, hA0, hV, rfl, hfz, hnd⟩ := hW
  have hA : DataW.TrodAll enc Try.prog W 0 (fun _ => true) true Try.f7.params.toList args.toList ds p := hA0
  have hsz : (DataW.weightsEach Try.prog (Try.f7.params.toList ++ Rows.valueRowsSpec.plain.varTypes Try.prog) (ds ++ gs)).all (· ≤ reachBytes) = true := hsz0
  rw [Try.params7] at hA hval hsz
  obtain ⟨v0, vs0, d0, ds0, p0, q0, hargs, rfl, rfl, h0, r0⟩ := trodAll_cons hA
  obtain ⟨v1, vs1, d1, ds1, p1, q1, rfl, rfl, rfl, h1, r1⟩ := trodAll_cons r0
  obtain ⟨v2, vs2, d2, ds2, p2, q2, rfl, rfl, rfl, h2, r2⟩ := trodAll_cons r1
  obtain ⟨rfl, rfl, rfl⟩ := trodAll_nil r2
  obtain rfl : args = #[v0, v1, v2] := by cases args; simp_all
  obtain ⟨rfl, rfl⟩ := trodVars_none hV
  have lt0 : ∀ x ∈ p0, x.block < W.heap.size := by obtain ⟨m, hm⟩ := h0; exact DataW.trod_lt m _ _ _ hm
  obtain ⟨a0, len0, cap0, z0, rfl, w0⟩ := open_codes (hval 0 22 v0 rfl rfl) h0
  have lt1 : ∀ x ∈ p1, x.block < W.heap.size := by obtain ⟨m, hm⟩ := h1; exact DataW.trod_lt m _ _ _ hm
  obtain ⟨x1, w1⟩ := open_Row (hval 1 38 v1 rfl rfl) h1 (fun es sp he => by have hq := sized_slice (j := 1) (e := 24) hsz rfl (by rw [he]; rfl) Try.underlying38; rwa [bytes24] at hq)
  have lt2 : ∀ x ∈ p2, x.block < W.heap.size := by obtain ⟨m, hm⟩ := h2; exact DataW.trod_lt m _ _ _ hm
  obtain ⟨x2, w2⟩ := open_Row (hval 2 38 v2 rfl rfl) h2 (fun es sp he => by have hq := sized_slice (j := 2) (e := 24) hsz rfl (by rw [he]; rfl) Try.underlying38; rwa [bytes24] at hq)
  clear hA0 hval0
  refine (walk a0 len0 cap0 z0 v1 x1 v2 x2 W w0 w1 w2).mono fun e W' ⟨he, bel⟩ => ?_
  subst he
  exact ⟨_, rfl, _, _, _, [], _, [], hW', trodAll_mk1 (shut_bool Try.underlying4 _), (trodAll_cons_mk (Below.trod laidOut (by kernel_rfl) (of_decide_eq_true (by kernel_rfl)) h0 bel lt0) (trodAll_cons_mk (Below.trod laidOut (by kernel_rfl) (of_decide_eq_true (by kernel_rfl)) h1 bel lt1) (trodAll_cons_mk (Below.trod laidOut (by kernel_rfl) (of_decide_eq_true (by kernel_rfl)) h2 bel lt2) trodAll_mk0))), rfl, bel.frame _, fun h => by cases h⟩

theorem over : Rows.valueRowsRow.holds Try.pinned (OpenSpec.ofChange Rows.valueRowsSpec) :=
  OpenClaim.holds_of_wide 7 Try.f7 rfl rfl rfl rfl rfl rfl rfl ⟨rfl, rfl, rfl, rfl, rfl⟩ rfl rfl rfl rfl rfl (by kernel_rfl) Try.func7 (by kernel_rfl)
    (of_decide_eq_true (by kernel_rfl)) (by unfold Func.isWrapper; first | (rw [if_pos (by decide +kernel)]; kernel_rfl) | (rw [if_neg (by decide +kernel)]; exact ⟨rfl, rfl⟩))
    (fun os started H enc _ => lifted os started H enc)
theorem proved : Rows.ValueRowsSaid := over
end Rows1
end Go.Proofs.Ythlhpjickkhjfaa
