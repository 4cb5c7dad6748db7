/- Contracts of the reference's Same and Copy, and of the law file's copies. -/
import Derived.Test.YthlhpjickkhjfaaK
set_option linter.unusedSimpArgs false
set_option linter.unusedVariables false
namespace Go.Proofs.Ythlhpjickkhjfaa
open Go.RowKit

theorem step_int (k : Nat) (h : k ≤ 4398046511104) : wrap64 ((k : Int) + 1) = (k : Int) + 1 := by
  unfold wrap64
  omega
/-- Equal lists are the same. -/
theorem same_calls (va vb : Value) (rs : List (List V)) (w : World) (ha : RowsAt w va rs) (hb : RowsAt w vb rs) :
    Calls Try.prog 28 #[va, vb] w fun e w' => e = .returned (.bool true) ∧ Gro w w' := by
  have mx := mixed
  obtain ⟨pa, ca, rfl, la, ha⟩ := ha
  obtain ⟨pb, cb, rfl, lb, hb⟩ := hb
  have HA := Lib.hid ha
  have HB := Lib.hid hb
  clear ha hb
  generalize hN : rs.length = N at la lb ⊢
  have HN := Lib.hid hN
  clear hN
  go_enter Try.func28, Try.ntmps28
  go_wp2_with fail
  obtain ⟨w0, hw0⟩ : ∃ w0, w0 = w := ⟨_, rfl⟩
  go_loopw [13] (fun i wr => ∃ k : Nat, k ≤ N ∧ i = .int .i64 k ∧ Gro w wr) (fun i _ => N - (intOf i).toNat)
  case atStart => exact ⟨0, by omega, rfl, Gro.refl _⟩
  case round =>
    obtain ⟨k, hk, rfl, hg⟩ := hrel
    have HG := Lib.hid hg
    clear hg
    have hwk := step_int k (by omega)
    by_cases hlt : k < N
    · have hlt' : decide ((k : Int) < (N : Int)) = true := by simp; omega
      have hkl : k < rs.length := by rw [HN.out]; exact hlt
      have hne : rs ≠ [] := by rintro rfl; simp at hkl
      obtain ⟨ba, oa, rfl, hra⟩ := HA.out.resolve_left hne
      obtain ⟨bb, ob, rfl, hrb⟩ := HB.out.resolve_left hne
      obtain ⟨u, hu, hru⟩ := (hra.later HG.out.below).at_ k hkl
      obtain ⟨v, hv, hrv⟩ := (hrb.later HG.out.below).at_ k hkl
      have la1 := (hra.later HG.out.below).blk
      have lb1 := (hrb.later HG.out.below).blk
      have hself : cmpR rs[k] rs[k] = 0 := goodR.self _
      have hC : ∀ n os', Calls Try.prog 26 #[u, v] (Sort.grow (wr.drewN n) os') fun e w' => e = .returned (.int .i64 0) ∧ Gro (Sort.grow (wr.drewN n) os') w' := fun n os' => by
        have hbg : Below wr.heap.size wr (Sort.grow (wr.drewN n) os') := ((Gro.refl wr).grown n os').below
        rw [← hself]
        exact refCompareRows_calls u v _ _ _ (hru.later hbg) (hrv.later hbg)
      have HC := Lib.hid hC
      clear hC hself hru hrv hra hrb hne
      go_wp2_with fail
      go_quiet_grown (first | (go_at_call 26; refine gro_calls (HC.out _ _)))
      go_wp2
      have hlen := HN.out
      exact ⟨⟨k + 1, by omega, by go_num, HG.out.grown _ _⟩, by simp [intOf]; omega⟩
    · have hlt' : decide ((k : Int) < (N : Int)) = false := by simp; omega
      go_wp2
      go_ret
      exact ⟨rfl, HG.out⟩

theorem run_append_nil {w : World} (t ty e : TypeId) (i : TypeInfo) (a : Option Addr) (c : Nat) (ht : Try.prog.underlying t = some (.slice e)) (hi : Try.prog.info? e = some i) :
    (Builtin.append_ #[t, t] ty #[.slice none 0 0, .slice a 0 c]).run Try.prog w = .ok (.slice none 0 0) w := by
  cases a <;> simp [Builtin.append_, run_underlying ht, sizeOf, typeInfo, hi, Builtin.lenOf, Builtin.firstCells, loadCells, loadCellsFrom]
theorem wpList_append_nil {w : World} {ops : Array Oper} {rest : List Oper} {o : Oper} {a : Act} {Q : Exit → Act → World → Prop} (hgd : o.guard = none) (s x : Operand) (t : TypeId)
    (ho : o.op = .call { callee := .builtin .append, args := #[s, x], argTypes := #[t, t] })
    (e : TypeId) (i : TypeInfo) (ht : Try.prog.underlying t = some (.slice e)) (hi : Try.prog.info? e = some i)
    (ad : Option Addr) (c : Nat) (hs : a.eval s = .slice none 0 0) (hx : a.eval x = .slice ad 0 c)
    (h : wpList Try.prog ops Q rest (a.put o.dst (.slice none 0 0)) w) : wpList Try.prog ops Q (o :: rest) a w := by
  refine wpList_plain hgd fun K hK => ?_
  have hrun := run_append_nil (w := w) t o.type e i ad c ht hi
  unfold Oper.wp
  simp [execOp, ho, resolve, invoke, builtin, hs, hx, hrun, Result.andThen]
  exact hK _ _ h

/-- A copy of a row. -/
theorem copy_calls (va : Value) (r : List V) (w : World) (ha : RowAt w va r) :
    Calls Try.prog 49 #[va] w fun e w' => ∃ v, e = .returned v ∧ w'.ownsRow w.heap.size 24 3 v r.length (flat r) ∧ Below w.heap.size w w' := by
  obtain ⟨i, hi, hz, hsz, hby⟩ := info_parts info24
  obtain ⟨pa, ca, rfl, la, ha⟩ := ha
  by_cases h0 : r = []
  · subst h0
    go_enter Try.func49, Try.ntmps49
    go_wp2_with (at_builtin; go_must (refine wpList_append_nil rfl _ _ 38 rfl 24 i Try.underlying38 hi pa ca rfl rfl ?_))
    go_wp2
    go_ret
    exact ⟨_, rfl, World.ownsRow_nil _ _ _ _, Below.refl _ _⟩
  · obtain ⟨b, off, rfl, hb⟩ := ha.resolve_left h0
    have hl := flat_length r
    have h1 := flat_one r
    have hc := flat_cells r off hb.at_
    have hn := World.ownsRow_nil w w.heap.size 24 3
    have HI := Lib.hid hi
    have HZ := Lib.hid hz
    have HSZ := Lib.hid hsz
    have HBY := Lib.hid hby
    have HL := Lib.hid hl
    have H1 := Lib.hid h1
    have HC := Lib.hid hc
    have HN := Lib.hid hn
    clear hi hz hsz hby hl h1 hc hn hb ha h0
    go_enter Try.func49, Try.ntmps49
    go_wp2_with (at_builtin; go_must (refine wpList_append_own _ rfl _ _ 38 rfl w.heap.size 24 i (V.val ⟨0, 0, ⟨#[]⟩⟩) 3 32 Try.underlying38 HI.out HZ.out HSZ.out HBY.out rfl (by decide) _ 0 [] rfl HN.out ⟨b, off, none⟩ r.length ca (flat r) rfl HL.out ?c1 H1.out ?c3 ?c4 ?c5 ?_))
    case c1 => intro j u hj; have := HC.out j u hj; unfold Addr.add; split <;> simp_all
    case c3 => unfold maxLen; omega
    case c4 => omega
    case c5 => omega
    intro v' w7 hown' hgrow hnil
    have HOW' := Lib.hid hown'
    have HG7 := Lib.hid hgrow
    clear hown' hgrow hnil
    go_wp2
    go_ret
    exact ⟨_, rfl, by have := HOW'.out; simpa using this, (Below.refl _ _).grown HG7.out (Nat.le_refl _) (fun k hk => by simp [Value.ownBlock] at hk)⟩

theorem step_pred (x : Int) (h0 : 0 ≤ x) (h : x ≤ 4398046511104) : wrap64 (x - 1) = x - 1 := by
  unfold wrap64
  omega
set_option maxHeartbeats 1000000 in
set_option maxRecDepth 100000 in
/-- Copies of rows, in reverse order. -/
theorem copies_calls (va : Value) (rs : List (List V)) (w : World) (ha : RowsAt w va rs) :
    Calls Try.prog 32 #[va] w fun e w' => ∃ v, e = .returned v ∧ Owned w.heap.size w' v rs.reverse ∧ Below w.heap.size w w' := by
  obtain ⟨i, hi, hz, hsz, hby⟩ := info_parts info38
  have HI := Lib.hid hi
  have HZ := Lib.hid hz
  have HSZ := Lib.hid hsz
  have HBY := Lib.hid hby
  obtain ⟨pa, ca, rfl, la, ha⟩ := ha
  have HA := Lib.hid ha
  clear ha hi hz hsz hby
  generalize hN : rs.length = N at la ⊢
  have HN := Lib.hid hN
  have hwn := step_pred N (by omega) (by omega)
  clear hN
  go_enter Try.func32, Try.ntmps32
  go_wp2_with fail
  go_loopw [3, 4] (fun v i wr => ∃ (k : Nat) (x : Int), k ≤ N ∧ x = (k : Int) - 1 ∧ i = .int .i64 x ∧ Owned w.heap.size wr v (rs.drop k).reverse ∧ Below w.heap.size w wr) (fun _ i _ => (intOf i + 1).toNat)
  case atStart => exact ⟨N, (N : Int) - 1, by omega, rfl, rfl, by rw [List.drop_eq_nil_of_le (by have := HN.out; omega)]; exact Owned.nil _ _, Below.refl _ _⟩
  case round =>
    obtain ⟨k, x, hk, hx, rfl, ho, hb⟩ := hrel
    have HO := Lib.hid ho
    have HB := Lib.hid hb
    clear ho hb
    by_cases h0 : 0 ≤ x
    · obtain ⟨j, rfl⟩ : ∃ j : Nat, x = j := ⟨x.toNat, by omega⟩
      obtain rfl : k = j + 1 := by omega
      have hjl : j < rs.length := by have := HN.out; omega
      have hjN : j < N := by omega
      have hne : rs ≠ [] := by rintro rfl; simp at hjl
      obtain ⟨ba, oa, rfl, hra⟩ := HA.out.resolve_left hne
      obtain ⟨u, hu, hru⟩ := (hra.later HB.out).at_ j hjl
      have hgl := (hra.later HB.out).blk
      have HRU := Lib.hid hru
      have hstep : (rs.drop j).reverse = (rs.drop (j + 1)).reverse ++ [rs[j]] := by rw [List.drop_eq_getElem_cons hjl, List.reverse_cons]
      have hlen : (rs.drop (j + 1)).reverse.length + 1 ≤ N := by simp; have := HN.out; omega
      have hrl : rs[j].length ≤ 4398046511104 := by obtain ⟨_, _, _, h, _⟩ := hru; exact h
      have hwj := step_pred j (by omega) (by omega)
      generalize (rs.drop (j + 1)).reverse = out at HO hstep hlen
      have HST := Lib.hid hstep
      have HLN := Lib.hid hlen
      have HRL := Lib.hid hrl
      have hd0 : decide ((0 : Int) ≤ (j : Int)) = true := by simp
      clear hstep hlen hrl hru hra hne hx h0
      generalize rs[j] = r at HRU HST HRL
      go_wp2_with fail
      refine (copy_calls u r _ HRU.out).mono ?_
      rintro e w6 ⟨cu, rfl, hou, hb6⟩
      obtain ⟨ua, ucap, rfl⟩ := ownsRow_slice hou
      obtain ⟨xs, hox, hix⟩ := HO.out.later hb6
      have HOX := Lib.hid hox
      have HIX := Lib.hid hix
      have HOU := Lib.hid hou
      have HB6 := Lib.hid hb6
      have hln : out.length + 1 ≤ 4398046511104 := by have := HLN.out; omega
      have hbase : w.heap.size ≤ w6.heap.size := Nat.le_trans HB.out.size hb6.size
      clear hox hix hou hb6 hu hgl
      go_wp2_with (at_builtin; go_must (refine wpList_append_own _ rfl _ _ 39 rfl w.heap.size 38 i (.slice none 0 0) 1 24 Try.underlying39 HI.out HZ.out HSZ.out HBY.out rfl (by decide) _ out.length xs rfl (HOX.out.alloc _) ⟨w6.heap.size, 0, none⟩ 1 1 [.slice ua r.length ucap] rfl rfl ?c1 ?c2 ?c3 ?c4 ?c5 ?_))
      case c1 => exact cell_one_new _ _ _
      case c2 => intro x hx; simp at hx; subst hx; rfl
      case c3 => unfold maxLen; omega
      case c4 => omega
      case c5 => simp; omega
      intro v' w7 hown' hgrow hnil
      have HOW' := Lib.hid hown'
      have HG7 := Lib.hid hgrow
      clear hown' hgrow hnil
      go_wp2
      go_roundw
      case rel =>
        refine ⟨j, (j : Int) - 1, by omega, rfl, rfl, ?_, ?_⟩
        · rw [HST.out]
          exact Owned.snoc (HOX.out.alloc _) (fun j hj => let ⟨u, a, b, c⟩ := HIX.out j hj; ⟨u, a, b.alloc _, c⟩) ((ownsRow_mono HOU.out HB.out.size).alloc _) HRL.out HOW'.out HG7.out
        · exact ((HB.out.trans (HB6.out.mono HB.out.size)).alloc hbase _).grown HG7.out (by simp; omega) (fun j hj => (HOX.out.lt j hj).1)
      case measure => simp only [intOf]; omega
    · have hd0 : decide ((0 : Int) ≤ x) = false := by simp; omega
      obtain rfl : k = 0 := by omega
      have HO' : Hid (Owned w.heap.size wr u3 rs.reverse) := by have := HO.out; rw [List.drop_zero] at this; exact this
      go_wp2
      go_ret
      exact ⟨_, rfl, HO'.out, HB.out⟩
end Go.Proofs.Ythlhpjickkhjfaa
