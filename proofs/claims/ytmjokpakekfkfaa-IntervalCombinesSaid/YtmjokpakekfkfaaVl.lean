/- The contracts of interval.edgesOf and interval.intervals. -/
import Derived.Test.YtmjokpakekfkfaaVk
import Derived.Test.YtmjokpakekfkfaaVc
import Derived.Test.YtmjokpakekfkfaaKa
import Derived.Laws.MakeOwn
import Derived.Deep.RegionHeld3
import Derived.Deep.AppendLies
set_option linter.unusedSimpArgs false
set_option linter.unusedVariables false
namespace Go.Proofs.Ytmjokpakekfkfaa
open Go.RowKit

/-- A slice of values that the call owns. -/
abbrev OwnV (base : Nat) (w : World) (v : Value) (E : List V) : Prop := w.ownsRow base 25 3 v E.length (flat E)
theorem OwnV.cut {base : Nat} {w : World} {v : Value} {E : List V} (h : OwnV base w v E) (hl : E.length ≤ 4398046511104) : CutV w v E := by
  obtain ⟨a, cap, rfl, -, hin⟩ := RowAt.of_owned h hl
  obtain ⟨hx, hv | ⟨g, cp, cur, hv, hg, hh, hcap, hm, hs, ht⟩⟩ := h
  · obtain ⟨hv, hn⟩ := hv
    simp only [Value.slice.injEq] at hv
    obtain ⟨rfl, -, rfl⟩ := hv
    exact ⟨none, 0, rfl, by omega, by simp, hl, hin⟩
  · simp only [Value.slice.injEq, true_and] at hv
    obtain ⟨-, rfl⟩ := hv
    exact ⟨a, _, rfl, hcap, hm, hl, hin⟩
theorem own_later {base : Nat} {w w' : World} {v : Value} {n : Nat} {e : TypeId} {size : Nat} {xs : List Value} (h : w.ownsRow base e size v n xs) (hw : Below w.heap.size w w') : w'.ownsRow base e size v n xs :=
  h.kept (row := none) ⟨hw.os, hw.tape, hw.output, hw.size, fun k hk _ => hw.block k hk⟩ (by cases v.ownBlock <;> simp)
theorem edges_take {l : List I} {k : Nat} (hk : k < l.length) : edges (l.take (k + 1)) = edges (l.take k) ++ (if l[k].o = true then [l[k].f] else [l[k].f, l[k].t]) := by
  rw [List.take_succ_eq_append_getElem hk, edges_snoc]
  congr 1
theorem edges_take_len {l : List I} {k N : Nat} (hk : k ≤ N) : (edges (l.take k)).length ≤ 2 * N := by
  have := edges_len (l.take k)
  have h2 : (l.take k).length ≤ k := by simp; omega
  omega
theorem three_at (w : World) (x y z : Value) (t : TypeId) (g : Nat) (hg : g = w.heap.size) : ∀ j u, [x, y, z][j]? = some u → (w.alloc (.cells #[x, y, z] t)).cell? ((⟨g, 0, none⟩ : Addr).add j) = some u := by subst hg; exact cell_three_new w x y z t
theorem flat_app (r s : List V) : flat (r ++ s) = flat r ++ flat s := by
  induction r with
  | nil => rfl
  | cons a r ih => simp [flat, ih]
theorem own_one {base : Nat} {w : World} {v : Value} {E : List V} {x : V} (h : w.ownsRow base 25 3 v (E.length + 1) (flat E ++ [.int .i64 x.k, .int .i64 x.n, .string x.t])) : OwnV base w v (E ++ [x]) := by
  show World.ownsRow _ _ _ _ _ _ _
  rw [flat_snoc, List.length_append]; exact h
theorem own_two {base : Nat} {w : World} {v : Value} {E : List V} {x y : V} (h : w.ownsRow base 25 3 v (E.length + 1 + 1) (flat E ++ [.int .i64 x.k, .int .i64 x.n, .string x.t, .int .i64 y.k, .int .i64 y.n, .string y.t])) : OwnV base w v (E ++ [x, y]) := by
  show World.ownsRow _ _ _ _ _ _ _
  have e : E ++ [x, y] = (E ++ [x]) ++ [y] := by simp
  rw [e, flat_snoc, flat_snoc, List.length_append, List.length_append, List.append_assoc]; exact h
def OwnOut (E : List V) (w : World) (e : Ending) (w' : World) : Prop := ∃ v, e = .returned v ∧ OwnV w.heap.size w' v E ∧ Below w.heap.size w w'
set_option maxHeartbeats 2000000 in
set_option maxRecDepth 100000 in
theorem edgesOf_calls (v : Value) (l : List I) (w : World) (h : IvAt w v l) (hl : l.length ≤ 1000000) : Calls Try.prog 72 #[v] w (OwnOut (edges l) w) := by
  obtain ⟨i, hi, hz, hsz, hby⟩ := info_parts info24
  obtain ⟨pa, ca, rfl, la, ha⟩ := h
  have HI := Lib.hid hi
  have HZ := Lib.hid hz
  have HSZ := Lib.hid hsz
  have HBY := Lib.hid hby
  have HA := Lib.hid ha
  generalize hN : l.length = N at hl la
  have HN := Lib.hid hN
  obtain ⟨w4, hrun4, hown4, hg4⟩ := run_make_own (P := Try.prog) w w.heap.size 35 25 i _ 3 Try.underlying35 HI.out HZ.out HSZ.out .i64 .i64 (2 * N) (by rw [HBY.out]; omega) (by unfold maxLen; omega) (Nat.le_refl _)
  have hb4 : Below w.heap.size w w4 := (Below.refl _ _).grown hg4 (Nat.le_refl _) (fun k hk => by cases hk)
  have HO4 := Lib.hid hown4
  have HB4 := Lib.hid hb4
  have hc2 : ((2 * N : Nat) : Int) = 2 * (N : Int) := by omega
  rw [hc2] at hrun4
  have hwr : IntKind.i64.wrap (2 * (N : Int)) = 2 * (N : Int) := IntWalk.i64_in _ (by omega)
  have hwr2 : (2 * (N : Int)) ≤ 9223372036854775807 := by omega
  clear hi hz hsz hby ha hN hown4 hg4 hb4 hc2
  go_enter Try.func72, Try.ntmps72
  go_wp2_with fail
  clear hwr hwr2 hrun4
  go_loopw [3, 5, 12] (fun v _ c wr => ∃ k : Nat, k ≤ N ∧ c = .int .i64 k ∧ OwnV w.heap.size wr v (edges (l.take k)) ∧ Below w.heap.size w wr) (fun _ _ c _ => N - (intOf c).toNat)
  case atStart => exact ⟨0, by omega, rfl, HO4.out, HB4.out⟩
  case round =>
    obtain ⟨k, hk, rfl, ho, hb⟩ := hrel
    have HO := Lib.hid ho
    have HB := Lib.hid hb
    by_cases hlt : k < N
    · have hkl : k < l.length := by rw [HN.out]; exact hlt
      have hlt' : decide ((k : Int) < (N : Int)) = true := by simp; omega
      have hwk := step_int k (by omega)
      obtain ⟨b, off, rfl, hri⟩ := HA.out.resolve_left (by rintro rfl; simp at hkl)
      have hat := (hri.later hb).at_ k hkl
      have hbl := (hri.later hb).blk
      have HE := Lib.hid (edges_take hkl)
      generalize l[k] = x at hat HE
      obtain ⟨⟨xk, xn, xt⟩, ⟨yk, yn, yt⟩, xo⟩ := x
      obtain ⟨⟨e0, e1, e2⟩, e3, e4, e5, e6⟩ := hat
      simp only at e0 e1 e2 e3 e4 e5 e6
      have hne : some wr.heap.size ≠ u3.ownBlock := fun e => by have := (ho.lt _ e.symm).2; omega
      have hel : (edges (l.take k)).length ≤ 2000000 := by have := edges_take_len (l := l) hk; omega
      generalize edges (l.take k) = E at HO HE hel ho
      have HEL := Lib.hid hel
      have hsz : w.heap.size ≤ wr.heap.size := hb.size
      have HSIZ := Lib.hid hsz
      clear ho hb hri hel hsz
      cases xo
      · go_wp2_with (at_builtin; go_must (refine wpList_append_own _ rfl _ _ 35 rfl w.heap.size 25 i (V.val ⟨0, 0, ⟨#[]⟩⟩) 3 32 Try.underlying35 HI.out HZ.out HSZ.out HBY.out rfl (by decide) _ E.length (flat E) rfl ((HO.out.alloc _).alloc _) ⟨wr.heap.size + 1, 0, none⟩ 1 1 [.int .i64 xk, .int .i64 xn, .string xt] rfl rfl (three_at _ _ _ _ _ _ (by simp)) (by intro u hu; simp at hu; rcases hu with rfl | rfl | rfl <;> rfl) ?c3 ?c4 ?c5 ?_))
        case c3 => have := HEL.out; unfold maxLen; omega
        case c4 => have := HEL.out; omega
        case c5 => have := HSIZ.out; simp; omega
        intro v' w7 hown' hgrow hnil
        have g3 : w7.cell? ⟨wr.heap.size, 3, none⟩ = some (.int .i64 yk) := hgrow.cell (by go_simp) hne
        have g4 : w7.cell? ⟨wr.heap.size, 4, none⟩ = some (.int .i64 yn) := hgrow.cell (by go_simp) hne
        have g5 : w7.cell? ⟨wr.heap.size, 5, none⟩ = some (.string yt) := hgrow.cell (by go_simp) hne
        have g6 : w7.cell? ⟨wr.heap.size, 6, none⟩ = some (.bool false) := hgrow.cell (by go_simp) hne
        have lb7 : wr.heap.size < w7.heap.size := Nat.lt_of_lt_of_le (by simp; omega) hgrow.size
        have HO7 := Lib.hid hown'
        have HB7 : Hid (Below w.heap.size w w7) := ((HB.out.alloc HB.out.size _).alloc (by have := HSIZ.out; simp; omega) _).grown hgrow (by have := HSIZ.out; simp; omega) (fun k hk => (HO.out.lt k hk).1)
        clear hown' hgrow hnil e0 e1 e2 e3 e4 e5 e6
        generalize wr.heap.size = gB at *
        go_wp2_with (at_builtin; go_must (refine wpList_append_own _ rfl _ _ 35 rfl w.heap.size 25 i (V.val ⟨0, 0, ⟨#[]⟩⟩) 3 32 Try.underlying35 HI.out HZ.out HSZ.out HBY.out rfl (by decide) _ (E.length + 1) (flat E ++ [.int .i64 xk, .int .i64 xn, .string xt]) rfl (HO7.out.alloc _) ⟨w7.heap.size, 0, none⟩ 1 1 [.int .i64 yk, .int .i64 yn, .string yt] rfl rfl (three_at _ _ _ _ _ _ rfl) (by intro u hu; simp at hu; rcases hu with rfl | rfl | rfl <;> rfl) ?d3 ?d4 ?d5 ?_))
        case d3 => have := HEL.out; unfold maxLen; omega
        case d4 => have := HEL.out; omega
        case d5 => have := HB7.out.size; simp; omega
        intro v8 w8 hown8 hgrow8 hnil8
        have HO8 : Hid (OwnV w.heap.size w8 v8 (E ++ [⟨xk, xn, xt⟩, ⟨yk, yn, yt⟩])) := own_two hown8
        have HB8 : Hid (Below w.heap.size w w8) := (HB7.out.alloc HB7.out.size _).grown hgrow8 (by have := HB7.out.size; simp; omega) (fun k hk => (HO7.out.lt k hk).1)
        clear hown8 hgrow8 hnil8 g3 g4 g5 g6
        go_wp2
        go_roundw
        case rel => exact ⟨k + 1, by omega, by go_num, by rw [HE.out, if_neg (by simp)]; exact HO8.out, HB8.out⟩
        case measure => simp [intOf]; omega
      · go_wp2_with (at_builtin; go_must (refine wpList_append_own _ rfl _ _ 35 rfl w.heap.size 25 i (V.val ⟨0, 0, ⟨#[]⟩⟩) 3 32 Try.underlying35 HI.out HZ.out HSZ.out HBY.out rfl (by decide) _ E.length (flat E) rfl ((HO.out.alloc _).alloc _) ⟨wr.heap.size + 1, 0, none⟩ 1 1 [.int .i64 xk, .int .i64 xn, .string xt] rfl rfl (three_at _ _ _ _ _ _ (by simp)) (by intro u hu; simp at hu; rcases hu with rfl | rfl | rfl <;> rfl) ?b3 ?b4 ?b5 ?_))
        case b3 => have := HEL.out; unfold maxLen; omega
        case b4 => have := HEL.out; omega
        case b5 => have := HSIZ.out; simp; omega
        intro v' w7 hown' hgrow hnil
        have g6 : w7.cell? ⟨wr.heap.size, 6, none⟩ = some (.bool true) := hgrow.cell (by go_simp) hne
        have lb7 : wr.heap.size < w7.heap.size := Nat.lt_of_lt_of_le (by simp; omega) hgrow.size
        have HO7 : Hid (OwnV w.heap.size w7 v' (E ++ [⟨xk, xn, xt⟩])) := own_one hown'
        have HB7 : Hid (Below w.heap.size w w7) := ((HB.out.alloc HB.out.size _).alloc (by have := HSIZ.out; simp; omega) _).grown hgrow (by have := HSIZ.out; simp; omega) (fun k hk => (HO.out.lt k hk).1)
        clear hown' hgrow hnil e0 e1 e2 e3 e4 e5 e6
        generalize wr.heap.size = gB at *
        go_wp2
        go_roundw
        case rel => exact ⟨k + 1, by omega, by go_num, by rw [HE.out, if_pos trivial]; exact HO7.out, HB7.out⟩
        case measure => simp [intOf]; omega
    · have hlt' : decide ((k : Int) < (N : Int)) = false := by simp; omega
      have hall : edges (l.take k) = edges l := by rw [List.take_of_length_le (by have := HN.out; omega)]
      rw [hall] at ho
      have HOF := Lib.hid ho
      clear ho hb hall
      go_wp2
      go_ret
      exact ⟨_, rfl, HOF.out, HB.out⟩
end Go.Proofs.Ytmjokpakekfkfaa
