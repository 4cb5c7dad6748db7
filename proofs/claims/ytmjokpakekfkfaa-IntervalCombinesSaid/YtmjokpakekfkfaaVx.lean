import Derived.Test.YtmjokpakekfkfaaVm
import Derived.Test.YtmjokpakekfkfaaVv
set_option linter.unusedSimpArgs false
set_option linter.unusedVariables false
namespace Go.Proofs.Ytmjokpakekfkfaa
open Go.RowKit

def nxtI (P : List V) (k : Nat) : I := if k + 1 = P.length then ⟨P.getD k default, zV, true⟩ else ⟨P.getD k default, P.getD (k + 1) default, false⟩
def joinL (L : List I) (x : I) : List I :=
  match L.getLast? with
  | none => [x]
  | some y => if y.o = false ∧ cmpV y.t x.f = 0 then L.dropLast ++ [⟨y.f, x.t, x.o⟩] else L ++ [x]
theorem joinL_nil (x : I) : joinL [] x = [x] := rfl
theorem joinL_new {A : List I} {y x : I} (h : ¬ (y.o = false ∧ cmpV y.t x.f = 0)) : joinL (A ++ [y]) x = A ++ [y] ++ [x] := by unfold joinL; simp only [List.getLast?_append, List.getLast?_singleton, Option.some_or]; rw [if_neg h]
theorem joinL_old {A : List I} {y x : I} (h : y.o = false ∧ cmpV y.t x.f = 0) : joinL (A ++ [y]) x = A ++ [⟨y.f, x.t, x.o⟩] := by unfold joinL; simp only [List.getLast?_append, List.getLast?_singleton, Option.some_or]; rw [if_pos h]; simp
def JoinOut (base : Nat) (L : List I) (vl : Value) (w : World) (e : Ending) (w' : World) : Prop := ∃ v, e = .returned v ∧ OwnI base w' v L ∧ w.grownBy w' vl.ownBlock
theorem getDV_at {P : List V} {k : Nat} (h : k < P.length) : P.getD k default = P[k] := by simp [h]
theorem nxt_last {P : List V} {k : Nat} (h : k < P.length) (hl : k + 1 = P.length) : nxtI P k = ⟨P[k], zV, true⟩ := by unfold nxtI; rw [if_pos hl, getDV_at h]
theorem nxt_mid {P : List V} {k : Nat} (hl : k + 1 < P.length) : nxtI P k = ⟨P[k], P[k + 1], false⟩ := by unfold nxtI; rw [if_neg (by omega), getDV_at (by omega), getDV_at hl]
theorem mul_64' (n : Nat) (h : n ≤ 4398046511104) : wrap64 (n : Int) = n := by unfold wrap64; omega
set_option maxHeartbeats 4000000 in
set_option maxRecDepth 100000 in
theorem join_nil (base : Nat) (vl vp : Value) (P : List V) (k : Nat) (w : World) (hk : k < P.length) (hpl : P.length ≤ 100000) (hp : RowAt w vp P) (ho : OwnI base w vl []) (hbase : base ≤ w.heap.size) :
    Calls Try.prog 58 #[vl, vp, .int .i64 k] w (JoinOut base ([nxtI P k]) vl w) := by
  obtain ⟨i, hi, hz, hsz, hby⟩ := info_parts info72
  have HI := Lib.hid hi
  have HZ := Lib.hid hz
  have HSZ := Lib.hid hsz
  have HBY := Lib.hid hby
  have mx := mixed
  obtain ⟨ap, cp, rfl, hp1, hp2⟩ := hp
  obtain ⟨bp, fp, rfl, hp3⟩ := hp2.resolve_left (by rintro rfl; simp at hk)
  obtain ⟨e0, e1, e2⟩ := hp3.at_ k hk
  have hbl := hp3.blk
  have hwk := step_int k (by omega)
  have hO := Lib.hid ho
  obtain ⟨al, cl, rfl⟩ := ownsRow_slice ho
  obtain ⟨N, hNl⟩ : ∃ N, P.length = N := ⟨_, rfl⟩
  have hsub : wrap64 ((N : Int) - 1) = (N : Int) - 1 := by unfold wrap64; omega
  have HBASE := Lib.hid hbase

  by_cases hl : k + 1 = P.length
  · have hN := nxt_last hk hl
    generalize P[k] = x at hN e0 e1 e2
    obtain ⟨xk, xn, xt⟩ := x
    simp only at e0 e1 e2
    rw [hN]
    have hbeq : ((k : Int) == (N : Int) - 1) = true := by simp; omega
    rw [hNl] at hk ⊢
    have HX : Hid True := trivial
    clear hi hz hsz hby hN hp3 hp2 ho hl hbase
    go_enter Try.func58, Try.ntmps58
    go_wp2_with fail
    obtain ⟨W, hW⟩ : ∃ W, W = w.alloc (.cells #[.int .i64 xk, .int .i64 xn, .string xt, .int .i64 0, .int .i64 0, .string ⟨#[]⟩, .bool true] 57) := ⟨_, rfl⟩
    rw [← hW]
    have hgW : Gro w W := by rw [hW]; exact (Gro.refl _).alloc _
    have hX : IAt W w.heap.size 0 ⟨⟨xk, xn, xt⟩, ⟨0, 0, ⟨#[]⟩⟩, true⟩ := by rw [hW]; exact ⟨⟨by go_simp, by go_simp, by go_simp⟩, by go_simp, by go_simp, by go_simp, by go_simp⟩
    have hgl : w.heap.size < W.heap.size := by rw [hW]; simp
    have hsW : W.heap.size = w.heap.size + 1 := by rw [hW]; simp
    obtain ⟨⟨x0, x1, x2⟩, x3, x4, x5, x6⟩ := hX
    simp only [Nat.zero_add] at x0 x1 x2 x3 x4 x5 x6
    have HGW := Lib.hid hgW
    have HOW := Lib.hid (own_later hO.out hgW.below)
    generalize w.heap.size = gx at x0 x1 x2 x3 x4 x5 x6 hgl HBASE hsW
    have HSW := Lib.hid hsW
    have HGL := Lib.hid hgl
    clear hW hgW e0 e1 e2 hsW 
    refine wp_region_quiet_grown mx (by kernel_rfl) ?_
    repeat (go_big_quiet_step (fail))
    refine wpQuiet_nil ?_
    intro w5 hw5
    obtain ⟨⟨nq, osq⟩, hw6⟩ := hw5
    have hg5 : Gro W w5 := by rw [hw6]; exact (Gro.refl W).grown nq osq
    have y0 := (hg5.below.cell (p := ⟨gx, 0, none⟩) HGL.out).trans x0
    have y1 := (hg5.below.cell (p := ⟨gx, 1, none⟩) HGL.out).trans x1
    have y2 := (hg5.below.cell (p := ⟨gx, 2, none⟩) HGL.out).trans x2
    have y3 := (hg5.below.cell (p := ⟨gx, 3, none⟩) HGL.out).trans x3
    have y4 := (hg5.below.cell (p := ⟨gx, 4, none⟩) HGL.out).trans x4
    have y5 := (hg5.below.cell (p := ⟨gx, 5, none⟩) HGL.out).trans x5
    have y6 := (hg5.below.cell (p := ⟨gx, 6, none⟩) HGL.out).trans x6
    have yl := Nat.lt_of_lt_of_le HGL.out hg5.size
    have HG5 := Lib.hid hg5
    clear hw6 hg5
    go_wp2_with (at_builtin; go_must (refine wpList_append_own _ rfl _ _ 23 rfl base 57 i (I.val ⟨⟨0, 0, ⟨#[]⟩⟩, ⟨0, 0, ⟨#[]⟩⟩, false⟩) 7 72 Try.underlying23 HI.out HZ.out HSZ.out HBY.out rfl (by decide) _ 0 ([]) rfl (World.ownsRow.alloc (own_later HOW.out HG5.out.below) _) ⟨w5.heap.size, 0, none⟩ 1 1 [.int .i64 xk, .int .i64 xn, .string xt, .int .i64 0, .int .i64 0, .string ⟨#[]⟩, .bool true] rfl rfl (seven_at _ _ _ _ _ _ _ _ _ _ (by simp)) (by intro u hu; simp at hu; rcases hu with rfl | rfl | rfl | rfl | rfl | rfl | rfl <;> rfl) ?c3 ?c4 ?c5 ?_))
    case c3 => skip; unfold maxLen; omega
    case c4 => skip; omega
    case c5 => have := HBASE.out; have := HSW.out; have := HG5.out.size; simp; omega
    intro v9 w9 hown9 hgrow9 hnil9
    have HO9 := Lib.hid hown9
    have HG9 := Lib.hid hgrow9
    clear hown9 hgrow9 hnil9 y0 y1 y2 y3 y4 y5 y6
    go_wp2
    go_ret
    exact ⟨_, rfl, ownI_snoc (L := []) (x := ⟨⟨xk, xn, xt⟩, ⟨0, 0, ⟨#[]⟩⟩, true⟩) HO9.out, by_trans (gro_by (HGW.out.trans (HG5.out.alloc _)) _) HG9.out⟩
  · have hlt : k + 1 < P.length := by omega
    have hN := nxt_mid hlt
    obtain ⟨f0, f1, f2⟩ := hp3.at_ (k + 1) hlt
    generalize P[k] = x at hN e0 e1 e2
    generalize P[k + 1] = y at hN f0 f1 f2
    obtain ⟨xk, xn, xt⟩ := x
    obtain ⟨yk, yn, yt⟩ := y
    simp only at e0 e1 e2 f0 f1 f2
    rw [hN]
    have hbeq : ((k : Int) == (N : Int) - 1) = false := by simp; omega
    have hk1 : k + 1 < N := by omega
    rw [hNl] at hk ⊢
    clear hi hz hsz hby hN hp3 hp2 ho hl hlt hbase
    go_enter Try.func58, Try.ntmps58
    go_wp2_with fail
    obtain ⟨W, hW⟩ : ∃ W, W = w.alloc (.cells #[.int .i64 xk, .int .i64 xn, .string xt, .int .i64 yk, .int .i64 yn, .string yt, .bool false] 57) := ⟨_, rfl⟩
    rw [← hW]
    have hgW : Gro w W := by rw [hW]; exact (Gro.refl _).alloc _
    have hX : IAt W w.heap.size 0 ⟨⟨xk, xn, xt⟩, ⟨yk, yn, yt⟩, false⟩ := by rw [hW]; exact ⟨⟨by go_simp, by go_simp, by go_simp⟩, by go_simp, by go_simp, by go_simp, by go_simp⟩
    have hgl : w.heap.size < W.heap.size := by rw [hW]; simp
    have hsW : W.heap.size = w.heap.size + 1 := by rw [hW]; simp
    obtain ⟨⟨x0, x1, x2⟩, x3, x4, x5, x6⟩ := hX
    simp only [Nat.zero_add] at x0 x1 x2 x3 x4 x5 x6
    have HGW := Lib.hid hgW
    have HOW := Lib.hid (own_later hO.out hgW.below)
    generalize w.heap.size = gx at x0 x1 x2 x3 x4 x5 x6 hgl HBASE hsW
    have HSW := Lib.hid hsW
    have HGL := Lib.hid hgl
    clear hW hgW e0 e1 e2 hsW f0 f1 f2
    refine wp_region_quiet_grown mx (by kernel_rfl) ?_
    repeat (go_big_quiet_step (fail))
    refine wpQuiet_nil ?_
    intro w5 hw5
    obtain ⟨⟨nq, osq⟩, hw6⟩ := hw5
    have hg5 : Gro W w5 := by rw [hw6]; exact (Gro.refl W).grown nq osq
    have y0 := (hg5.below.cell (p := ⟨gx, 0, none⟩) HGL.out).trans x0
    have y1 := (hg5.below.cell (p := ⟨gx, 1, none⟩) HGL.out).trans x1
    have y2 := (hg5.below.cell (p := ⟨gx, 2, none⟩) HGL.out).trans x2
    have y3 := (hg5.below.cell (p := ⟨gx, 3, none⟩) HGL.out).trans x3
    have y4 := (hg5.below.cell (p := ⟨gx, 4, none⟩) HGL.out).trans x4
    have y5 := (hg5.below.cell (p := ⟨gx, 5, none⟩) HGL.out).trans x5
    have y6 := (hg5.below.cell (p := ⟨gx, 6, none⟩) HGL.out).trans x6
    have yl := Nat.lt_of_lt_of_le HGL.out hg5.size
    have HG5 := Lib.hid hg5
    clear hw6 hg5
    go_wp2_with (at_builtin; go_must (refine wpList_append_own _ rfl _ _ 23 rfl base 57 i (I.val ⟨⟨0, 0, ⟨#[]⟩⟩, ⟨0, 0, ⟨#[]⟩⟩, false⟩) 7 72 Try.underlying23 HI.out HZ.out HSZ.out HBY.out rfl (by decide) _ 0 ([]) rfl (World.ownsRow.alloc (own_later HOW.out HG5.out.below) _) ⟨w5.heap.size, 0, none⟩ 1 1 [.int .i64 xk, .int .i64 xn, .string xt, .int .i64 yk, .int .i64 yn, .string yt, .bool false] rfl rfl (seven_at _ _ _ _ _ _ _ _ _ _ (by simp)) (by intro u hu; simp at hu; rcases hu with rfl | rfl | rfl | rfl | rfl | rfl | rfl <;> rfl) ?c3 ?c4 ?c5 ?_))
    case c3 => skip; unfold maxLen; omega
    case c4 => skip; omega
    case c5 => have := HBASE.out; have := HSW.out; have := HG5.out.size; simp; omega
    intro v9 w9 hown9 hgrow9 hnil9
    have HO9 := Lib.hid hown9
    have HG9 := Lib.hid hgrow9
    clear hown9 hgrow9 hnil9 y0 y1 y2 y3 y4 y5 y6
    go_wp2
    go_ret
    exact ⟨_, rfl, ownI_snoc (L := []) (x := ⟨⟨xk, xn, xt⟩, ⟨yk, yn, yt⟩, false⟩) HO9.out, by_trans (gro_by (HGW.out.trans (HG5.out.alloc _)) _) HG9.out⟩
set_option maxHeartbeats 4000000 in
set_option maxRecDepth 100000 in
theorem join_open (base : Nat) (vl vp : Value) (P : List V) (k : Nat) (w : World) (hk : k < P.length) (hpl : P.length ≤ 100000) (hp : RowAt w vp P) (A : List I) (y : I) (ho : OwnI base w vl (A ++ [y])) (hlA : A.length ≤ 100000) (hyo : y.o = true) (hbase : base ≤ w.heap.size) :
    Calls Try.prog 58 #[vl, vp, .int .i64 k] w (JoinOut base (A ++ [y] ++ [nxtI P k]) vl w) := by
  obtain ⟨i, hi, hz, hsz, hby⟩ := info_parts info72
  have HI := Lib.hid hi
  have HZ := Lib.hid hz
  have HSZ := Lib.hid hsz
  have HBY := Lib.hid hby
  have mx := mixed
  obtain ⟨ap, cp, rfl, hp1, hp2⟩ := hp
  obtain ⟨bp, fp, rfl, hp3⟩ := hp2.resolve_left (by rintro rfl; simp at hk)
  obtain ⟨e0, e1, e2⟩ := hp3.at_ k hk
  have hbl := hp3.blk
  have hwk := step_int k (by omega)
  obtain ⟨al, cl, rfl⟩ := ownsRow_slice ho
  obtain ⟨N, hNl⟩ : ∃ N, P.length = N := ⟨_, rfl⟩
  have hsub : wrap64 ((N : Int) - 1) = (N : Int) - 1 := by unfold wrap64; omega
  have HBASE := Lib.hid hbase
  have hA : (A ++ [y]).length = A.length + 1 := by simp
  obtain ⟨g, cg, hv, hgb, hgl0⟩ := World.ownsRow.form ho (by simp)
  rw [hA] at hv
  simp only [Value.slice.injEq, true_and] at hv
  obtain ⟨rfl, rfl⟩ := hv
  obtain ⟨q0, q1, q2, q3, q4, q5, q6⟩ := flatI_at (A ++ [y]) A.length (by simp)
  have hy : (A ++ [y])[A.length]'(by simp) = y := by simp
  rw [hy] at q0 q1 q2 q3 q4 q5 q6
  have z3 := (ho.cellAt (A.length * 7 + 3) (by simp; omega)).trans q3
  have z4 := (ho.cellAt (A.length * 7 + 4) (by simp; omega)).trans q4
  have z5 := (ho.cellAt (A.length * 7 + 5) (by simp; omega)).trans q5
  have z6 := (ho.cellAt (A.length * 7 + 6) (by simp; omega)).trans q6
  have ho' : w.ownsRow base 57 7 (.slice (some ⟨g, 0, none⟩) (A.length + 1) cl) (A.length + 1) (flatI (A ++ [y])) := by have := ho; rw [← hA]; exact this
  have hO := Lib.hid ho'
  rw [hA]
  have hlA := hlA
  obtain ⟨⟨ak, an, at'⟩, ⟨bk, bn, bt⟩, yo⟩ := y
  simp only at z3 z4 z5 z6 hyo
  subst hyo
  clear hy q0 q1 q2 q3 q4 q5 q6 ho'
  generalize hm : A.length = m at z3 z4 z5 z6 hO hA hlA ⊢
  have HM : Hid ((A ++ [(⟨⟨ak, an, at'⟩, ⟨bk, bn, bt⟩, true⟩ : I)]).length = m + 1) := hA
  have HLM := Lib.hid hlA
  have i0 : (0 : Int) < (m : Int) + 1 := by omega
  have i1 : (0 : Int) ≤ (m : Int) := by omega
  have i2 : (m : Int) < (m : Int) + 1 := by omega
  have i5 : IntKind.i64.wrap ((m : Int) + 1 - 1) = (m : Int) := by rw [show (m : Int) + 1 - 1 = (m : Int) by omega]; exact IntWalk.i64_in _ (by omega)
  clear hA hm

  by_cases hl : k + 1 = P.length
  · have hN := nxt_last hk hl
    generalize P[k] = x at hN e0 e1 e2
    obtain ⟨xk, xn, xt⟩ := x
    simp only at e0 e1 e2
    rw [hN]
    have hbeq : ((k : Int) == (N : Int) - 1) = true := by simp; omega
    rw [hNl] at hk ⊢
    have HX : Hid True := trivial
    clear hi hz hsz hby hN hp3 hp2 ho hl hbase
    go_enter Try.func58, Try.ntmps58
    go_wp2_with fail
    obtain ⟨W, hW⟩ : ∃ W, W = w.alloc (.cells #[.int .i64 xk, .int .i64 xn, .string xt, .int .i64 0, .int .i64 0, .string ⟨#[]⟩, .bool true] 57) := ⟨_, rfl⟩
    rw [← hW]
    have hgW : Gro w W := by rw [hW]; exact (Gro.refl _).alloc _
    have hX : IAt W w.heap.size 0 ⟨⟨xk, xn, xt⟩, ⟨0, 0, ⟨#[]⟩⟩, true⟩ := by rw [hW]; exact ⟨⟨by go_simp, by go_simp, by go_simp⟩, by go_simp, by go_simp, by go_simp, by go_simp⟩
    have hgl : w.heap.size < W.heap.size := by rw [hW]; simp
    have hsW : W.heap.size = w.heap.size + 1 := by rw [hW]; simp
    obtain ⟨⟨x0, x1, x2⟩, x3, x4, x5, x6⟩ := hX
    simp only [Nat.zero_add] at x0 x1 x2 x3 x4 x5 x6
    have HGW := Lib.hid hgW
    have HOW := Lib.hid (own_later hO.out hgW.below)
    generalize w.heap.size = gx at x0 x1 x2 x3 x4 x5 x6 hgl HBASE hsW
    have HSW := Lib.hid hsW
    have HGL := Lib.hid hgl
    clear hW hgW e0 e1 e2 hsW 
    have z3 := (HGW.out.below.cell (p := ⟨g, m * 7 + 3, none⟩) hgl0).trans z3
    have z4 := (HGW.out.below.cell (p := ⟨g, m * 7 + 4, none⟩) hgl0).trans z4
    have z5 := (HGW.out.below.cell (p := ⟨g, m * 7 + 5, none⟩) hgl0).trans z5
    have z6 := (HGW.out.below.cell (p := ⟨g, m * 7 + 6, none⟩) hgl0).trans z6
    have hgl0 := Nat.lt_of_lt_of_le hgl0 HGW.out.size
    refine wp_region_quiet_grown mx (by kernel_rfl) ?_
    repeat (go_big_quiet_step (fail))
    refine wpQuiet_nil ?_
    intro w5 hw5
    obtain ⟨⟨nq, osq⟩, hw6⟩ := hw5
    have hg5 : Gro W w5 := by rw [hw6]; exact (Gro.refl W).grown nq osq
    have y0 := (hg5.below.cell (p := ⟨gx, 0, none⟩) HGL.out).trans x0
    have y1 := (hg5.below.cell (p := ⟨gx, 1, none⟩) HGL.out).trans x1
    have y2 := (hg5.below.cell (p := ⟨gx, 2, none⟩) HGL.out).trans x2
    have y3 := (hg5.below.cell (p := ⟨gx, 3, none⟩) HGL.out).trans x3
    have y4 := (hg5.below.cell (p := ⟨gx, 4, none⟩) HGL.out).trans x4
    have y5 := (hg5.below.cell (p := ⟨gx, 5, none⟩) HGL.out).trans x5
    have y6 := (hg5.below.cell (p := ⟨gx, 6, none⟩) HGL.out).trans x6
    have yl := Nat.lt_of_lt_of_le HGL.out hg5.size
    have HG5 := Lib.hid hg5
    clear hw6 hg5
    go_wp2_with (at_builtin; go_must (refine wpList_append_own _ rfl _ _ 23 rfl base 57 i (I.val ⟨⟨0, 0, ⟨#[]⟩⟩, ⟨0, 0, ⟨#[]⟩⟩, false⟩) 7 72 Try.underlying23 HI.out HZ.out HSZ.out HBY.out rfl (by decide) _ (m + 1) (flatI (A ++ [_])) rfl (World.ownsRow.alloc (own_later HOW.out HG5.out.below) _) ⟨w5.heap.size, 0, none⟩ 1 1 [.int .i64 xk, .int .i64 xn, .string xt, .int .i64 0, .int .i64 0, .string ⟨#[]⟩, .bool true] rfl rfl (seven_at _ _ _ _ _ _ _ _ _ _ (by simp)) (by intro u hu; simp at hu; rcases hu with rfl | rfl | rfl | rfl | rfl | rfl | rfl <;> rfl) ?c3 ?c4 ?c5 ?_))
    case c3 => have := HLM.out; unfold maxLen; omega
    case c4 => have := HLM.out; omega
    case c5 => have := HBASE.out; have := HSW.out; have := HG5.out.size; simp; omega
    intro v9 w9 hown9 hgrow9 hnil9
    have HO9 := Lib.hid hown9
    have HG9 := Lib.hid hgrow9
    clear hown9 hgrow9 hnil9 y0 y1 y2 y3 y4 y5 y6
    go_wp2
    go_ret
    exact ⟨_, rfl, ownI_snoc (L := A ++ [_]) (x := ⟨⟨xk, xn, xt⟩, ⟨0, 0, ⟨#[]⟩⟩, true⟩) (by rw [HM.out]; exact HO9.out), by_trans (gro_by (HGW.out.trans (HG5.out.alloc _)) _) HG9.out⟩
  · have hlt : k + 1 < P.length := by omega
    have hN := nxt_mid hlt
    obtain ⟨f0, f1, f2⟩ := hp3.at_ (k + 1) hlt
    generalize P[k] = x at hN e0 e1 e2
    generalize P[k + 1] = y at hN f0 f1 f2
    obtain ⟨xk, xn, xt⟩ := x
    obtain ⟨yk, yn, yt⟩ := y
    simp only at e0 e1 e2 f0 f1 f2
    rw [hN]
    have hbeq : ((k : Int) == (N : Int) - 1) = false := by simp; omega
    have hk1 : k + 1 < N := by omega
    rw [hNl] at hk ⊢
    clear hi hz hsz hby hN hp3 hp2 ho hl hlt hbase
    go_enter Try.func58, Try.ntmps58
    go_wp2_with fail
    obtain ⟨W, hW⟩ : ∃ W, W = w.alloc (.cells #[.int .i64 xk, .int .i64 xn, .string xt, .int .i64 yk, .int .i64 yn, .string yt, .bool false] 57) := ⟨_, rfl⟩
    rw [← hW]
    have hgW : Gro w W := by rw [hW]; exact (Gro.refl _).alloc _
    have hX : IAt W w.heap.size 0 ⟨⟨xk, xn, xt⟩, ⟨yk, yn, yt⟩, false⟩ := by rw [hW]; exact ⟨⟨by go_simp, by go_simp, by go_simp⟩, by go_simp, by go_simp, by go_simp, by go_simp⟩
    have hgl : w.heap.size < W.heap.size := by rw [hW]; simp
    have hsW : W.heap.size = w.heap.size + 1 := by rw [hW]; simp
    obtain ⟨⟨x0, x1, x2⟩, x3, x4, x5, x6⟩ := hX
    simp only [Nat.zero_add] at x0 x1 x2 x3 x4 x5 x6
    have HGW := Lib.hid hgW
    have HOW := Lib.hid (own_later hO.out hgW.below)
    generalize w.heap.size = gx at x0 x1 x2 x3 x4 x5 x6 hgl HBASE hsW
    have HSW := Lib.hid hsW
    have HGL := Lib.hid hgl
    clear hW hgW e0 e1 e2 hsW f0 f1 f2
    have z3 := (HGW.out.below.cell (p := ⟨g, m * 7 + 3, none⟩) hgl0).trans z3
    have z4 := (HGW.out.below.cell (p := ⟨g, m * 7 + 4, none⟩) hgl0).trans z4
    have z5 := (HGW.out.below.cell (p := ⟨g, m * 7 + 5, none⟩) hgl0).trans z5
    have z6 := (HGW.out.below.cell (p := ⟨g, m * 7 + 6, none⟩) hgl0).trans z6
    have hgl0 := Nat.lt_of_lt_of_le hgl0 HGW.out.size
    refine wp_region_quiet_grown mx (by kernel_rfl) ?_
    repeat (go_big_quiet_step (fail))
    refine wpQuiet_nil ?_
    intro w5 hw5
    obtain ⟨⟨nq, osq⟩, hw6⟩ := hw5
    have hg5 : Gro W w5 := by rw [hw6]; exact (Gro.refl W).grown nq osq
    have y0 := (hg5.below.cell (p := ⟨gx, 0, none⟩) HGL.out).trans x0
    have y1 := (hg5.below.cell (p := ⟨gx, 1, none⟩) HGL.out).trans x1
    have y2 := (hg5.below.cell (p := ⟨gx, 2, none⟩) HGL.out).trans x2
    have y3 := (hg5.below.cell (p := ⟨gx, 3, none⟩) HGL.out).trans x3
    have y4 := (hg5.below.cell (p := ⟨gx, 4, none⟩) HGL.out).trans x4
    have y5 := (hg5.below.cell (p := ⟨gx, 5, none⟩) HGL.out).trans x5
    have y6 := (hg5.below.cell (p := ⟨gx, 6, none⟩) HGL.out).trans x6
    have yl := Nat.lt_of_lt_of_le HGL.out hg5.size
    have HG5 := Lib.hid hg5
    clear hw6 hg5
    go_wp2_with (at_builtin; go_must (refine wpList_append_own _ rfl _ _ 23 rfl base 57 i (I.val ⟨⟨0, 0, ⟨#[]⟩⟩, ⟨0, 0, ⟨#[]⟩⟩, false⟩) 7 72 Try.underlying23 HI.out HZ.out HSZ.out HBY.out rfl (by decide) _ (m + 1) (flatI (A ++ [_])) rfl (World.ownsRow.alloc (own_later HOW.out HG5.out.below) _) ⟨w5.heap.size, 0, none⟩ 1 1 [.int .i64 xk, .int .i64 xn, .string xt, .int .i64 yk, .int .i64 yn, .string yt, .bool false] rfl rfl (seven_at _ _ _ _ _ _ _ _ _ _ (by simp)) (by intro u hu; simp at hu; rcases hu with rfl | rfl | rfl | rfl | rfl | rfl | rfl <;> rfl) ?c3 ?c4 ?c5 ?_))
    case c3 => have := HLM.out; unfold maxLen; omega
    case c4 => have := HLM.out; omega
    case c5 => have := HBASE.out; have := HSW.out; have := HG5.out.size; simp; omega
    intro v9 w9 hown9 hgrow9 hnil9
    have HO9 := Lib.hid hown9
    have HG9 := Lib.hid hgrow9
    clear hown9 hgrow9 hnil9 y0 y1 y2 y3 y4 y5 y6
    go_wp2
    go_ret
    exact ⟨_, rfl, ownI_snoc (L := A ++ [_]) (x := ⟨⟨xk, xn, xt⟩, ⟨yk, yn, yt⟩, false⟩) (by rw [HM.out]; exact HO9.out), by_trans (gro_by (HGW.out.trans (HG5.out.alloc _)) _) HG9.out⟩
set_option maxHeartbeats 4000000 in
set_option maxRecDepth 100000 in
theorem join_far (base : Nat) (vl vp : Value) (P : List V) (k : Nat) (w : World) (hk : k < P.length) (hpl : P.length ≤ 100000) (hp : RowAt w vp P) (A : List I) (y : I) (ho : OwnI base w vl (A ++ [y])) (hlA : A.length ≤ 100000) (hyo : y.o = false) (hcmp : cmpV y.t (nxtI P k).f ≠ 0) (hbase : base ≤ w.heap.size) :
    Calls Try.prog 58 #[vl, vp, .int .i64 k] w (JoinOut base (A ++ [y] ++ [nxtI P k]) vl w) := by
  obtain ⟨i, hi, hz, hsz, hby⟩ := info_parts info72
  have HI := Lib.hid hi
  have HZ := Lib.hid hz
  have HSZ := Lib.hid hsz
  have HBY := Lib.hid hby
  have mx := mixed
  obtain ⟨ap, cp, rfl, hp1, hp2⟩ := hp
  obtain ⟨bp, fp, rfl, hp3⟩ := hp2.resolve_left (by rintro rfl; simp at hk)
  obtain ⟨e0, e1, e2⟩ := hp3.at_ k hk
  have hbl := hp3.blk
  have hwk := step_int k (by omega)
  obtain ⟨al, cl, rfl⟩ := ownsRow_slice ho
  obtain ⟨N, hNl⟩ : ∃ N, P.length = N := ⟨_, rfl⟩
  have hsub : wrap64 ((N : Int) - 1) = (N : Int) - 1 := by unfold wrap64; omega
  have HBASE := Lib.hid hbase
  have hA : (A ++ [y]).length = A.length + 1 := by simp
  obtain ⟨g, cg, hv, hgb, hgl0⟩ := World.ownsRow.form ho (by simp)
  rw [hA] at hv
  simp only [Value.slice.injEq, true_and] at hv
  obtain ⟨rfl, rfl⟩ := hv
  obtain ⟨q0, q1, q2, q3, q4, q5, q6⟩ := flatI_at (A ++ [y]) A.length (by simp)
  have hy : (A ++ [y])[A.length]'(by simp) = y := by simp
  rw [hy] at q0 q1 q2 q3 q4 q5 q6
  have z3 := (ho.cellAt (A.length * 7 + 3) (by simp; omega)).trans q3
  have z4 := (ho.cellAt (A.length * 7 + 4) (by simp; omega)).trans q4
  have z5 := (ho.cellAt (A.length * 7 + 5) (by simp; omega)).trans q5
  have z6 := (ho.cellAt (A.length * 7 + 6) (by simp; omega)).trans q6
  have ho' : w.ownsRow base 57 7 (.slice (some ⟨g, 0, none⟩) (A.length + 1) cl) (A.length + 1) (flatI (A ++ [y])) := by have := ho; rw [← hA]; exact this
  have hO := Lib.hid ho'
  rw [hA]
  have hlA := hlA
  obtain ⟨⟨ak, an, at'⟩, ⟨bk, bn, bt⟩, yo⟩ := y
  simp only at z3 z4 z5 z6 hyo
  subst hyo
  clear hy q0 q1 q2 q3 q4 q5 q6 ho'
  generalize hm : A.length = m at z3 z4 z5 z6 hO hA hlA ⊢
  have HM : Hid ((A ++ [(⟨⟨ak, an, at'⟩, ⟨bk, bn, bt⟩, false⟩ : I)]).length = m + 1) := hA
  have HLM := Lib.hid hlA
  have i0 : (0 : Int) < (m : Int) + 1 := by omega
  have i1 : (0 : Int) ≤ (m : Int) := by omega
  have i2 : (m : Int) < (m : Int) + 1 := by omega
  have i5 : IntKind.i64.wrap ((m : Int) + 1 - 1) = (m : Int) := by rw [show (m : Int) + 1 - 1 = (m : Int) by omega]; exact IntWalk.i64_in _ (by omega)
  clear hA hm

  by_cases hl : k + 1 = P.length
  · have hN := nxt_last hk hl
    generalize P[k] = x at hN e0 e1 e2
    obtain ⟨xk, xn, xt⟩ := x
    simp only at e0 e1 e2
    rw [hN] at hcmp ⊢
    simp only at hcmp
    have hcm := fun w' => refCompare_calls ⟨bk, bn, bt⟩ ⟨xk, xn, xt⟩ w'
    generalize cmpV ⟨bk, bn, bt⟩ ⟨xk, xn, xt⟩ = d at hcm hcmp
    have HCM := Lib.hid hcm
    have hq : (d == 0) = false := by simpa using hcmp
    clear hcm hcmp
    have hbeq : ((k : Int) == (N : Int) - 1) = true := by simp; omega
    rw [hNl] at hk ⊢
    have HX : Hid True := trivial
    clear hi hz hsz hby hN hp3 hp2 ho hl hbase
    go_enter Try.func58, Try.ntmps58
    go_wp2_with fail
    obtain ⟨W, hW⟩ : ∃ W, W = w.alloc (.cells #[.int .i64 xk, .int .i64 xn, .string xt, .int .i64 0, .int .i64 0, .string ⟨#[]⟩, .bool true] 57) := ⟨_, rfl⟩
    rw [← hW]
    have hgW : Gro w W := by rw [hW]; exact (Gro.refl _).alloc _
    have hX : IAt W w.heap.size 0 ⟨⟨xk, xn, xt⟩, ⟨0, 0, ⟨#[]⟩⟩, true⟩ := by rw [hW]; exact ⟨⟨by go_simp, by go_simp, by go_simp⟩, by go_simp, by go_simp, by go_simp, by go_simp⟩
    have hgl : w.heap.size < W.heap.size := by rw [hW]; simp
    have hsW : W.heap.size = w.heap.size + 1 := by rw [hW]; simp
    obtain ⟨⟨x0, x1, x2⟩, x3, x4, x5, x6⟩ := hX
    simp only [Nat.zero_add] at x0 x1 x2 x3 x4 x5 x6
    have HGW := Lib.hid hgW
    have HOW := Lib.hid (own_later hO.out hgW.below)
    generalize w.heap.size = gx at x0 x1 x2 x3 x4 x5 x6 hgl HBASE hsW
    have HSW := Lib.hid hsW
    have HGL := Lib.hid hgl
    clear hW hgW e0 e1 e2 hsW 
    have z3 := (HGW.out.below.cell (p := ⟨g, m * 7 + 3, none⟩) hgl0).trans z3
    have z4 := (HGW.out.below.cell (p := ⟨g, m * 7 + 4, none⟩) hgl0).trans z4
    have z5 := (HGW.out.below.cell (p := ⟨g, m * 7 + 5, none⟩) hgl0).trans z5
    have z6 := (HGW.out.below.cell (p := ⟨g, m * 7 + 6, none⟩) hgl0).trans z6
    have hgl0 := Nat.lt_of_lt_of_le hgl0 HGW.out.size
    refine wp_region_quiet_grown mx (by kernel_rfl) ?_
    repeat (go_big_quiet_step ((first | (go_at_call 29; refine gro_calls (HCM.out _)) | fail)))
    refine wpQuiet_nil ?_
    intro w5 hw5
    obtain ⟨⟨nq, osq⟩, hw6⟩ := hw5
    have hg5 : Gro W w5 := by rw [hw6]; exact (Gro.refl W).grown nq osq
    have y0 := (hg5.below.cell (p := ⟨gx, 0, none⟩) HGL.out).trans x0
    have y1 := (hg5.below.cell (p := ⟨gx, 1, none⟩) HGL.out).trans x1
    have y2 := (hg5.below.cell (p := ⟨gx, 2, none⟩) HGL.out).trans x2
    have y3 := (hg5.below.cell (p := ⟨gx, 3, none⟩) HGL.out).trans x3
    have y4 := (hg5.below.cell (p := ⟨gx, 4, none⟩) HGL.out).trans x4
    have y5 := (hg5.below.cell (p := ⟨gx, 5, none⟩) HGL.out).trans x5
    have y6 := (hg5.below.cell (p := ⟨gx, 6, none⟩) HGL.out).trans x6
    have yl := Nat.lt_of_lt_of_le HGL.out hg5.size
    have HG5 := Lib.hid hg5
    clear hw6 hg5
    go_wp2_with (at_builtin; go_must (refine wpList_append_own _ rfl _ _ 23 rfl base 57 i (I.val ⟨⟨0, 0, ⟨#[]⟩⟩, ⟨0, 0, ⟨#[]⟩⟩, false⟩) 7 72 Try.underlying23 HI.out HZ.out HSZ.out HBY.out rfl (by decide) _ (m + 1) (flatI (A ++ [_])) rfl (World.ownsRow.alloc (own_later HOW.out HG5.out.below) _) ⟨w5.heap.size, 0, none⟩ 1 1 [.int .i64 xk, .int .i64 xn, .string xt, .int .i64 0, .int .i64 0, .string ⟨#[]⟩, .bool true] rfl rfl (seven_at _ _ _ _ _ _ _ _ _ _ (by simp)) (by intro u hu; simp at hu; rcases hu with rfl | rfl | rfl | rfl | rfl | rfl | rfl <;> rfl) ?c3 ?c4 ?c5 ?_))
    case c3 => have := HLM.out; unfold maxLen; omega
    case c4 => have := HLM.out; omega
    case c5 => have := HBASE.out; have := HSW.out; have := HG5.out.size; simp; omega
    intro v9 w9 hown9 hgrow9 hnil9
    have HO9 := Lib.hid hown9
    have HG9 := Lib.hid hgrow9
    clear hown9 hgrow9 hnil9 y0 y1 y2 y3 y4 y5 y6
    go_wp2
    go_ret
    exact ⟨_, rfl, ownI_snoc (L := A ++ [_]) (x := ⟨⟨xk, xn, xt⟩, ⟨0, 0, ⟨#[]⟩⟩, true⟩) (by rw [HM.out]; exact HO9.out), by_trans (gro_by (HGW.out.trans (HG5.out.alloc _)) _) HG9.out⟩
  · have hlt : k + 1 < P.length := by omega
    have hN := nxt_mid hlt
    obtain ⟨f0, f1, f2⟩ := hp3.at_ (k + 1) hlt
    generalize P[k] = x at hN e0 e1 e2
    generalize P[k + 1] = y at hN f0 f1 f2
    obtain ⟨xk, xn, xt⟩ := x
    obtain ⟨yk, yn, yt⟩ := y
    simp only at e0 e1 e2 f0 f1 f2
    rw [hN] at hcmp ⊢
    simp only at hcmp
    have hcm := fun w' => refCompare_calls ⟨bk, bn, bt⟩ ⟨xk, xn, xt⟩ w'
    generalize cmpV ⟨bk, bn, bt⟩ ⟨xk, xn, xt⟩ = d at hcm hcmp
    have HCM := Lib.hid hcm
    have hq : (d == 0) = false := by simpa using hcmp
    clear hcm hcmp
    have hbeq : ((k : Int) == (N : Int) - 1) = false := by simp; omega
    have hk1 : k + 1 < N := by omega
    rw [hNl] at hk ⊢
    clear hi hz hsz hby hN hp3 hp2 ho hl hlt hbase
    go_enter Try.func58, Try.ntmps58
    go_wp2_with fail
    obtain ⟨W, hW⟩ : ∃ W, W = w.alloc (.cells #[.int .i64 xk, .int .i64 xn, .string xt, .int .i64 yk, .int .i64 yn, .string yt, .bool false] 57) := ⟨_, rfl⟩
    rw [← hW]
    have hgW : Gro w W := by rw [hW]; exact (Gro.refl _).alloc _
    have hX : IAt W w.heap.size 0 ⟨⟨xk, xn, xt⟩, ⟨yk, yn, yt⟩, false⟩ := by rw [hW]; exact ⟨⟨by go_simp, by go_simp, by go_simp⟩, by go_simp, by go_simp, by go_simp, by go_simp⟩
    have hgl : w.heap.size < W.heap.size := by rw [hW]; simp
    have hsW : W.heap.size = w.heap.size + 1 := by rw [hW]; simp
    obtain ⟨⟨x0, x1, x2⟩, x3, x4, x5, x6⟩ := hX
    simp only [Nat.zero_add] at x0 x1 x2 x3 x4 x5 x6
    have HGW := Lib.hid hgW
    have HOW := Lib.hid (own_later hO.out hgW.below)
    generalize w.heap.size = gx at x0 x1 x2 x3 x4 x5 x6 hgl HBASE hsW
    have HSW := Lib.hid hsW
    have HGL := Lib.hid hgl
    clear hW hgW e0 e1 e2 hsW f0 f1 f2
    have z3 := (HGW.out.below.cell (p := ⟨g, m * 7 + 3, none⟩) hgl0).trans z3
    have z4 := (HGW.out.below.cell (p := ⟨g, m * 7 + 4, none⟩) hgl0).trans z4
    have z5 := (HGW.out.below.cell (p := ⟨g, m * 7 + 5, none⟩) hgl0).trans z5
    have z6 := (HGW.out.below.cell (p := ⟨g, m * 7 + 6, none⟩) hgl0).trans z6
    have hgl0 := Nat.lt_of_lt_of_le hgl0 HGW.out.size
    refine wp_region_quiet_grown mx (by kernel_rfl) ?_
    repeat (go_big_quiet_step ((first | (go_at_call 29; refine gro_calls (HCM.out _)) | fail)))
    refine wpQuiet_nil ?_
    intro w5 hw5
    obtain ⟨⟨nq, osq⟩, hw6⟩ := hw5
    have hg5 : Gro W w5 := by rw [hw6]; exact (Gro.refl W).grown nq osq
    have y0 := (hg5.below.cell (p := ⟨gx, 0, none⟩) HGL.out).trans x0
    have y1 := (hg5.below.cell (p := ⟨gx, 1, none⟩) HGL.out).trans x1
    have y2 := (hg5.below.cell (p := ⟨gx, 2, none⟩) HGL.out).trans x2
    have y3 := (hg5.below.cell (p := ⟨gx, 3, none⟩) HGL.out).trans x3
    have y4 := (hg5.below.cell (p := ⟨gx, 4, none⟩) HGL.out).trans x4
    have y5 := (hg5.below.cell (p := ⟨gx, 5, none⟩) HGL.out).trans x5
    have y6 := (hg5.below.cell (p := ⟨gx, 6, none⟩) HGL.out).trans x6
    have yl := Nat.lt_of_lt_of_le HGL.out hg5.size
    have HG5 := Lib.hid hg5
    clear hw6 hg5
    go_wp2_with (at_builtin; go_must (refine wpList_append_own _ rfl _ _ 23 rfl base 57 i (I.val ⟨⟨0, 0, ⟨#[]⟩⟩, ⟨0, 0, ⟨#[]⟩⟩, false⟩) 7 72 Try.underlying23 HI.out HZ.out HSZ.out HBY.out rfl (by decide) _ (m + 1) (flatI (A ++ [_])) rfl (World.ownsRow.alloc (own_later HOW.out HG5.out.below) _) ⟨w5.heap.size, 0, none⟩ 1 1 [.int .i64 xk, .int .i64 xn, .string xt, .int .i64 yk, .int .i64 yn, .string yt, .bool false] rfl rfl (seven_at _ _ _ _ _ _ _ _ _ _ (by simp)) (by intro u hu; simp at hu; rcases hu with rfl | rfl | rfl | rfl | rfl | rfl | rfl <;> rfl) ?c3 ?c4 ?c5 ?_))
    case c3 => have := HLM.out; unfold maxLen; omega
    case c4 => have := HLM.out; omega
    case c5 => have := HBASE.out; have := HSW.out; have := HG5.out.size; simp; omega
    intro v9 w9 hown9 hgrow9 hnil9
    have HO9 := Lib.hid hown9
    have HG9 := Lib.hid hgrow9
    clear hown9 hgrow9 hnil9 y0 y1 y2 y3 y4 y5 y6
    go_wp2
    go_ret
    exact ⟨_, rfl, ownI_snoc (L := A ++ [_]) (x := ⟨⟨xk, xn, xt⟩, ⟨yk, yn, yt⟩, false⟩) (by rw [HM.out]; exact HO9.out), by_trans (gro_by (HGW.out.trans (HG5.out.alloc _)) _) HG9.out⟩
end Go.Proofs.Ytmjokpakekfkfaa
set_option linter.unusedSimpArgs false
set_option linter.unusedVariables false
namespace Go.Proofs.Ytmjokpakekfkfaa
open Go.RowKit
theorem drew_by0 (w : World) : w.grownBy w.drew none := ⟨rfl, rfl, rfl, Nat.le_refl _, fun _ _ _ => rfl⟩
theorem set_in {F G : List Value} {m i : Nat} {u : Value} (h : F.length = m) : (F ++ G).set (m + i) u = F ++ G.set i u := by
  subst h
  rw [List.set_append_right _ _ (by omega)]
  congr 1
  congr 1
  omega
theorem flatI_set (A : List I) (y : I) (t : V) (o : Bool) (m : Nat) (hm : A.length = m) :
    ((((flatI (A ++ [y])).set (m * 7 + 3) (.int .i64 t.k)).set (m * 7 + 3 + 1) (.int .i64 t.n)).set (m * 7 + 3 + 2) (.string t.t)).set (m * 7 + 6) (.bool o) = flatI (A ++ [⟨y.f, t, o⟩]) := by
  have hl : (flatI A).length = m * 7 := by rw [flatI_length, hm]
  rw [flatI_snoc, flatI_snoc, Nat.add_assoc, Nat.add_assoc, set_in hl, set_in hl, set_in hl, set_in hl]
  rfl
theorem ownI_len {base : Nat} {w : World} {v : Value} {n : Nat} {L : List I} (h : w.ownsRow base 57 7 v n (flatI L)) (hn : L.length = n) : OwnI base w v L := by subst hn; exact h
set_option maxHeartbeats 4000000 in
set_option maxRecDepth 100000 in
theorem join_near (base : Nat) (vl vp : Value) (P : List V) (k : Nat) (w : World) (hk : k < P.length) (hpl : P.length ≤ 100000) (hp : RowAt w vp P) (A : List I) (y : I) (ho : OwnI base w vl (A ++ [y])) (hlA : A.length ≤ 100000) (hyo : y.o = false) (hcmp : cmpV y.t (nxtI P k).f = 0) (hbase : base ≤ w.heap.size) :
    Calls Try.prog 58 #[vl, vp, .int .i64 k] w (JoinOut base (A ++ [⟨y.f, (nxtI P k).t, (nxtI P k).o⟩]) vl w) := by
  obtain ⟨i, hi, hz, hsz, hby⟩ := info_parts info72
  have HI := Lib.hid hi
  have HZ := Lib.hid hz
  have HSZ := Lib.hid hsz
  have HBY := Lib.hid hby
  have mx := mixed
  obtain ⟨ap, cp, rfl, hp1, hp2⟩ := hp
  obtain ⟨bp, fp, rfl, hp3⟩ := hp2.resolve_left (by rintro rfl; simp at hk)
  obtain ⟨e0, e1, e2⟩ := hp3.at_ k hk
  have hbl := hp3.blk
  have hwk := step_int k (by omega)
  obtain ⟨al, cl, rfl⟩ := ownsRow_slice ho
  obtain ⟨N, hNl⟩ : ∃ N, P.length = N := ⟨_, rfl⟩
  have hsub : wrap64 ((N : Int) - 1) = (N : Int) - 1 := by unfold wrap64; omega
  have HBASE := Lib.hid hbase
  have hA : (A ++ [y]).length = A.length + 1 := by simp
  obtain ⟨g, cg, hv, hgb, hgl0⟩ := World.ownsRow.form ho (by simp)
  rw [hA] at hv
  simp only [Value.slice.injEq, true_and] at hv
  obtain ⟨rfl, rfl⟩ := hv
  obtain ⟨q0, q1, q2, q3, q4, q5, q6⟩ := flatI_at (A ++ [y]) A.length (by simp)
  have hy : (A ++ [y])[A.length]'(by simp) = y := by simp
  rw [hy] at q0 q1 q2 q3 q4 q5 q6
  have z3 := (ho.cellAt (A.length * 7 + 3) (by simp; omega)).trans q3
  have z4 := (ho.cellAt (A.length * 7 + 4) (by simp; omega)).trans q4
  have z5 := (ho.cellAt (A.length * 7 + 5) (by simp; omega)).trans q5
  have z6 := (ho.cellAt (A.length * 7 + 6) (by simp; omega)).trans q6
  have ho' : w.ownsRow base 57 7 (.slice (some ⟨g, 0, none⟩) (A.length + 1) cl) (A.length + 1) (flatI (A ++ [y])) := by have := ho; rw [← hA]; exact this
  have hO := Lib.hid ho'
  rw [hA]
  have hlA := hlA
  obtain ⟨⟨ak, an, at'⟩, ⟨bk, bn, bt⟩, yo⟩ := y
  simp only at z3 z4 z5 z6 hyo
  subst hyo
  clear hy q0 q1 q2 q3 q4 q5 q6 ho'
  generalize hm : A.length = m at z3 z4 z5 z6 hO hA hlA ⊢
  have HM : Hid ((A ++ [(⟨⟨ak, an, at'⟩, ⟨bk, bn, bt⟩, false⟩ : I)]).length = m + 1) := hA
  have HLM := Lib.hid hlA
  have i0 : (0 : Int) < (m : Int) + 1 := by omega
  have i1 : (0 : Int) ≤ (m : Int) := by omega
  have i2 : (m : Int) < (m : Int) + 1 := by omega
  have i5 : IntKind.i64.wrap ((m : Int) + 1 - 1) = (m : Int) := by rw [show (m : Int) + 1 - 1 = (m : Int) by omega]; exact IntWalk.i64_in _ (by omega)
  have HAM := Lib.hid hm
  clear hA hm

  by_cases hl : k + 1 = P.length
  · have hN := nxt_last hk hl
    generalize P[k] = x at hN e0 e1 e2
    obtain ⟨xk, xn, xt⟩ := x
    simp only at e0 e1 e2
    rw [hN] at hcmp ⊢
    simp only at hcmp
    have hcm := fun w' => refCompare_calls ⟨bk, bn, bt⟩ ⟨xk, xn, xt⟩ w'
    rw [hcmp] at hcm
    have HCM := Lib.hid hcm
    clear hcm hcmp
    have hbeq : ((k : Int) == (N : Int) - 1) = true := by simp; omega
    rw [hNl] at hk ⊢
    have HX : Hid True := trivial
    clear hi hz hsz hby hN hp3 hp2 ho hl hbase
    go_enter Try.func58, Try.ntmps58
    go_wp2_with fail
    obtain ⟨W, hW⟩ : ∃ W, W = w.alloc (.cells #[.int .i64 xk, .int .i64 xn, .string xt, .int .i64 0, .int .i64 0, .string ⟨#[]⟩, .bool true] 57) := ⟨_, rfl⟩
    rw [← hW]
    have hgW : Gro w W := by rw [hW]; exact (Gro.refl _).alloc _
    have hX : IAt W w.heap.size 0 ⟨⟨xk, xn, xt⟩, ⟨0, 0, ⟨#[]⟩⟩, true⟩ := by rw [hW]; exact ⟨⟨by go_simp, by go_simp, by go_simp⟩, by go_simp, by go_simp, by go_simp, by go_simp⟩
    have hgl : w.heap.size < W.heap.size := by rw [hW]; simp
    have hsW : W.heap.size = w.heap.size + 1 := by rw [hW]; simp
    obtain ⟨⟨x0, x1, x2⟩, x3, x4, x5, x6⟩ := hX
    simp only [Nat.zero_add] at x0 x1 x2 x3 x4 x5 x6
    have HGW := Lib.hid hgW
    have HOW := Lib.hid (own_later hO.out hgW.below)
    have hgxg : w.heap.size ≠ g := by omega
    generalize w.heap.size = gx at x0 x1 x2 x3 x4 x5 x6 hgl HBASE hsW hgxg
    have HSW := Lib.hid hsW
    have HGL := Lib.hid hgl
    clear hW hgW e0 e1 e2 hsW 
    have z3 := (HGW.out.below.cell (p := ⟨g, m * 7 + 3, none⟩) hgl0).trans z3
    have z4 := (HGW.out.below.cell (p := ⟨g, m * 7 + 4, none⟩) hgl0).trans z4
    have z5 := (HGW.out.below.cell (p := ⟨g, m * 7 + 5, none⟩) hgl0).trans z5
    have z6 := (HGW.out.below.cell (p := ⟨g, m * 7 + 6, none⟩) hgl0).trans z6
    have hgl0 := Nat.lt_of_lt_of_le hgl0 HGW.out.size
    refine wp_region_quiet_grown mx (by kernel_rfl) ?_
    repeat (go_big_quiet_step ((first | (go_at_call 29; refine gro_calls (HCM.out _)) | fail)))
    refine wpQuiet_nil ?_
    intro w5 hw5
    obtain ⟨⟨nq, osq⟩, hw6⟩ := hw5
    have hg5 : Gro W w5 := by rw [hw6]; exact (Gro.refl W).grown nq osq
    have y0 := (hg5.below.cell (p := ⟨gx, 0, none⟩) HGL.out).trans x0
    have y1 := (hg5.below.cell (p := ⟨gx, 1, none⟩) HGL.out).trans x1
    have y2 := (hg5.below.cell (p := ⟨gx, 2, none⟩) HGL.out).trans x2
    have y3 := (hg5.below.cell (p := ⟨gx, 3, none⟩) HGL.out).trans x3
    have y4 := (hg5.below.cell (p := ⟨gx, 4, none⟩) HGL.out).trans x4
    have y5 := (hg5.below.cell (p := ⟨gx, 5, none⟩) HGL.out).trans x5
    have y6 := (hg5.below.cell (p := ⟨gx, 6, none⟩) HGL.out).trans x6
    have yl := Nat.lt_of_lt_of_le HGL.out hg5.size
    have HG5 := Lib.hid hg5
    clear hw6 hg5
    have z3 := (HG5.out.below.cell (p := ⟨g, m * 7 + 3, none⟩) hgl0).trans z3
    have z4 := (HG5.out.below.cell (p := ⟨g, m * 7 + 4, none⟩) hgl0).trans z4
    have z5 := (HG5.out.below.cell (p := ⟨g, m * 7 + 5, none⟩) hgl0).trans z5
    have z6 := (HG5.out.below.cell (p := ⟨g, m * 7 + 6, none⟩) hgl0).trans z6
    have hgl0 := Nat.lt_of_lt_of_le hgl0 HG5.out.size
    have HO5 := Lib.hid (own_later HOW.out HG5.out.below)
    have hfz := fun j => (HO5.out.frozenAt j)
    have fz3 := hfz (m * 7 + 3)
    have fz4 := hfz (m * 7 + 4)
    have fz5 := hfz (m * 7 + 5)
    have fz6 := hfz (m * 7 + 6)
    have hgx : gx ≠ g := hgxg
    clear hfz
    go_wp2_with fail
    go_region
    have s1 := HO5.out.stored (m * 7 + 3) (.int .i64 0)
    have s2 := s1.1.stored (m * 7 + 3 + 1) (.int .i64 0)
    have s3 := s2.1.stored (m * 7 + 3 + 2) (.string ⟨#[]⟩)
    have s4 := s3.1.stored (m * 7 + 6) (.bool true)
    have hg6 := by_trans (by_trans (by_trans (by_trans s1.2 s2.2) s3.2) s4.2) (by_some (drew_by0 _) _)
    have hown := s4.1.drew
    rw [flatI_set A ⟨⟨ak, an, at'⟩, ⟨bk, bn, bt⟩, false⟩ ⟨0, 0, ⟨#[]⟩⟩ true m HAM.out] at hown
    clear s1 s2 s3 s4
    generalize World.drew _ = W6 at hown hg6 ⊢
    have HO6 := Lib.hid hown
    have HG6 := Lib.hid hg6
    clear hown hg6 z3 z4 z5 z6 y0 y1 y2 y3 y4 y5 y6 x0 x1 x2 x3 x4 x5 x6 fz3 fz4 fz5 fz6
    go_wp2
    go_ret
    exact ⟨_, rfl, ownI_len HO6.out (by simp [HAM.out]), by_trans (gro_by (HGW.out.trans HG5.out) _) HG6.out⟩
  · have hlt : k + 1 < P.length := by omega
    have hN := nxt_mid hlt
    obtain ⟨f0, f1, f2⟩ := hp3.at_ (k + 1) hlt
    generalize P[k] = x at hN e0 e1 e2
    generalize P[k + 1] = y at hN f0 f1 f2
    obtain ⟨xk, xn, xt⟩ := x
    obtain ⟨yk, yn, yt⟩ := y
    simp only at e0 e1 e2 f0 f1 f2
    rw [hN] at hcmp ⊢
    simp only at hcmp
    have hcm := fun w' => refCompare_calls ⟨bk, bn, bt⟩ ⟨xk, xn, xt⟩ w'
    rw [hcmp] at hcm
    have HCM := Lib.hid hcm
    clear hcm hcmp
    have hbeq : ((k : Int) == (N : Int) - 1) = false := by simp; omega
    have hk1 : k + 1 < N := by omega
    rw [hNl] at hk ⊢
    clear hi hz hsz hby hN hp3 hp2 ho hl hlt hbase
    go_enter Try.func58, Try.ntmps58
    go_wp2_with fail
    obtain ⟨W, hW⟩ : ∃ W, W = w.alloc (.cells #[.int .i64 xk, .int .i64 xn, .string xt, .int .i64 yk, .int .i64 yn, .string yt, .bool false] 57) := ⟨_, rfl⟩
    rw [← hW]
    have hgW : Gro w W := by rw [hW]; exact (Gro.refl _).alloc _
    have hX : IAt W w.heap.size 0 ⟨⟨xk, xn, xt⟩, ⟨yk, yn, yt⟩, false⟩ := by rw [hW]; exact ⟨⟨by go_simp, by go_simp, by go_simp⟩, by go_simp, by go_simp, by go_simp, by go_simp⟩
    have hgl : w.heap.size < W.heap.size := by rw [hW]; simp
    have hsW : W.heap.size = w.heap.size + 1 := by rw [hW]; simp
    obtain ⟨⟨x0, x1, x2⟩, x3, x4, x5, x6⟩ := hX
    simp only [Nat.zero_add] at x0 x1 x2 x3 x4 x5 x6
    have HGW := Lib.hid hgW
    have HOW := Lib.hid (own_later hO.out hgW.below)
    have hgxg : w.heap.size ≠ g := by omega
    generalize w.heap.size = gx at x0 x1 x2 x3 x4 x5 x6 hgl HBASE hsW hgxg
    have HSW := Lib.hid hsW
    have HGL := Lib.hid hgl
    clear hW hgW e0 e1 e2 hsW f0 f1 f2
    have z3 := (HGW.out.below.cell (p := ⟨g, m * 7 + 3, none⟩) hgl0).trans z3
    have z4 := (HGW.out.below.cell (p := ⟨g, m * 7 + 4, none⟩) hgl0).trans z4
    have z5 := (HGW.out.below.cell (p := ⟨g, m * 7 + 5, none⟩) hgl0).trans z5
    have z6 := (HGW.out.below.cell (p := ⟨g, m * 7 + 6, none⟩) hgl0).trans z6
    have hgl0 := Nat.lt_of_lt_of_le hgl0 HGW.out.size
    refine wp_region_quiet_grown mx (by kernel_rfl) ?_
    repeat (go_big_quiet_step ((first | (go_at_call 29; refine gro_calls (HCM.out _)) | fail)))
    refine wpQuiet_nil ?_
    intro w5 hw5
    obtain ⟨⟨nq, osq⟩, hw6⟩ := hw5
    have hg5 : Gro W w5 := by rw [hw6]; exact (Gro.refl W).grown nq osq
    have y0 := (hg5.below.cell (p := ⟨gx, 0, none⟩) HGL.out).trans x0
    have y1 := (hg5.below.cell (p := ⟨gx, 1, none⟩) HGL.out).trans x1
    have y2 := (hg5.below.cell (p := ⟨gx, 2, none⟩) HGL.out).trans x2
    have y3 := (hg5.below.cell (p := ⟨gx, 3, none⟩) HGL.out).trans x3
    have y4 := (hg5.below.cell (p := ⟨gx, 4, none⟩) HGL.out).trans x4
    have y5 := (hg5.below.cell (p := ⟨gx, 5, none⟩) HGL.out).trans x5
    have y6 := (hg5.below.cell (p := ⟨gx, 6, none⟩) HGL.out).trans x6
    have yl := Nat.lt_of_lt_of_le HGL.out hg5.size
    have HG5 := Lib.hid hg5
    clear hw6 hg5
    have z3 := (HG5.out.below.cell (p := ⟨g, m * 7 + 3, none⟩) hgl0).trans z3
    have z4 := (HG5.out.below.cell (p := ⟨g, m * 7 + 4, none⟩) hgl0).trans z4
    have z5 := (HG5.out.below.cell (p := ⟨g, m * 7 + 5, none⟩) hgl0).trans z5
    have z6 := (HG5.out.below.cell (p := ⟨g, m * 7 + 6, none⟩) hgl0).trans z6
    have hgl0 := Nat.lt_of_lt_of_le hgl0 HG5.out.size
    have HO5 := Lib.hid (own_later HOW.out HG5.out.below)
    have hfz := fun j => (HO5.out.frozenAt j)
    have fz3 := hfz (m * 7 + 3)
    have fz4 := hfz (m * 7 + 4)
    have fz5 := hfz (m * 7 + 5)
    have fz6 := hfz (m * 7 + 6)
    have hgx : gx ≠ g := hgxg
    clear hfz
    go_wp2_with fail
    go_region
    have s1 := HO5.out.stored (m * 7 + 3) (.int .i64 yk)
    have s2 := s1.1.stored (m * 7 + 3 + 1) (.int .i64 yn)
    have s3 := s2.1.stored (m * 7 + 3 + 2) (.string yt)
    have s4 := s3.1.stored (m * 7 + 6) (.bool false)
    have hg6 := by_trans (by_trans (by_trans (by_trans s1.2 s2.2) s3.2) s4.2) (by_some (drew_by0 _) _)
    have hown := s4.1.drew
    rw [flatI_set A ⟨⟨ak, an, at'⟩, ⟨bk, bn, bt⟩, false⟩ ⟨yk, yn, yt⟩ false m HAM.out] at hown
    clear s1 s2 s3 s4
    generalize World.drew _ = W6 at hown hg6 ⊢
    have HO6 := Lib.hid hown
    have HG6 := Lib.hid hg6
    clear hown hg6 z3 z4 z5 z6 y0 y1 y2 y3 y4 y5 y6 x0 x1 x2 x3 x4 x5 x6 fz3 fz4 fz5 fz6
    go_wp2
    go_ret
    exact ⟨_, rfl, ownI_len HO6.out (by simp [HAM.out]), by_trans (gro_by (HGW.out.trans HG5.out) _) HG6.out⟩
end Go.Proofs.Ytmjokpakekfkfaa
