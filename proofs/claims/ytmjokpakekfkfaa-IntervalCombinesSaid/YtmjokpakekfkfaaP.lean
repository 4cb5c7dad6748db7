/- Contracts of the reference's Same and Copy, and of the law file's copies. -/
import Derived.Test.YtmjokpakekfkfaaK
set_option linter.unusedSimpArgs false
set_option linter.unusedVariables false
namespace Go.Proofs.Ytmjokpakekfkfaa
open Go.RowKit

theorem step_int (k : Nat) (h : k ≤ 4398046511104) : wrap64 ((k : Int) + 1) = (k : Int) + 1 := by
  unfold wrap64
  omega
theorem run_append_nil {w : World} (t ty e : TypeId) (i : TypeInfo) (a : Option Addr) (c : Nat) (ht : Try.prog.underlying t = some (.slice e)) (hi : Try.prog.info? e = some i) :
    (Builtin.append_ #[t, t] ty #[.slice none 0 0, .slice a 0 c]).run Try.prog w = .ok (.slice none 0 0) w := by
  cases a <;> simp [Builtin.append_, run_underlying ht, sizeOf, typeInfo, hi, Builtin.lenOf, Builtin.firstCells, loadCells, loadCellsFrom]
theorem wpList_append_nil {w : World} {ops : Array Oper} {rest : List Oper} {o : Oper} {a : Act} {Q : Exit → Act → World → Prop} (hgd : o.guard = none) (s x : Operand) (t : TypeId)
    (ho : o.op = .call { callee := .builtin .append, args := #[s, x], argTypes := #[t, t] })
    (e : TypeId) (i : TypeInfo) (ht : Try.prog.underlying t = some (.slice e)) (hi : Try.prog.info? e = some i)
    (ad : Option Addr) (c : Nat) (hs : a.eval s = .slice none 0 0) (hx : a.eval x = .slice ad 0 c)
    (h : wpList Try.prog ops Q rest (a.put o.dst (.slice none 0 0)) w) : wpList Try.prog ops Q (o :: rest) a w := by
  refine wpList_plain hgd fun K hK => ?_
  have hrun := run_append_nil (w := w) t o.type e i ad c ht hi
  unfold Oper.wp
  simp [execOp, ho, resolve, invoke, builtin, hs, hx, hrun, Result.andThen]
  exact hK _ _ h

/-- A copy of a row. -/
theorem copy_calls (va : Value) (r : List V) (w : World) (ha : RowAt w va r) :
    Calls Try.prog 83 #[va] w fun e w' => ∃ v, e = .returned v ∧ w'.ownsRow w.heap.size 25 3 v r.length (flat r) ∧ Below w.heap.size w w' := by
  obtain ⟨i, hi, hz, hsz, hby⟩ := info_parts info24
  obtain ⟨pa, ca, rfl, la, ha⟩ := ha
  by_cases h0 : r = []
  · subst h0
    go_enter Try.func83, Try.ntmps83
    go_wp2_with (at_builtin; go_must (refine wpList_append_nil rfl _ _ 88 rfl 25 i Try.underlying88 hi pa ca rfl rfl ?_))
    go_wp2
    go_ret
    exact ⟨_, rfl, World.ownsRow_nil _ _ _ _, Below.refl _ _⟩
  · obtain ⟨b, off, rfl, hb⟩ := ha.resolve_left h0
    have hl := flat_length r
    have h1 := flat_one r
    have hc := flat_cells r off hb.at_
    have hn := World.ownsRow_nil w w.heap.size 25 3
    have HI := Lib.hid hi
    have HZ := Lib.hid hz
    have HSZ := Lib.hid hsz
    have HBY := Lib.hid hby
    have HL := Lib.hid hl
    have H1 := Lib.hid h1
    have HC := Lib.hid hc
    have HN := Lib.hid hn
    clear hi hz hsz hby hl h1 hc hn hb ha h0
    go_enter Try.func83, Try.ntmps83
    go_wp2_with (at_builtin; go_must (refine wpList_append_own _ rfl _ _ 88 rfl w.heap.size 25 i (V.val ⟨0, 0, ⟨#[]⟩⟩) 3 32 Try.underlying88 HI.out HZ.out HSZ.out HBY.out rfl (by decide) _ 0 [] rfl HN.out ⟨b, off, none⟩ r.length ca (flat r) rfl HL.out ?c1 H1.out ?c3 ?c4 ?c5 ?_))
    case c1 => intro j u hj; have := HC.out j u hj; unfold Addr.add; split <;> simp_all
    case c3 => unfold maxLen; omega
    case c4 => omega
    case c5 => omega
    intro v' w7 hown' hgrow hnil
    have HOW' := Lib.hid hown'
    have HG7 := Lib.hid hgrow
    clear hown' hgrow hnil
    go_wp2
    go_ret
    exact ⟨_, rfl, by have := HOW'.out; simpa using this, (Below.refl _ _).grown HG7.out (Nat.le_refl _) (fun k hk => by simp [Value.ownBlock] at hk)⟩

theorem step_pred (x : Int) (h0 : 0 ≤ x) (h : x ≤ 4398046511104) : wrap64 (x - 1) = x - 1 := by
  unfold wrap64
  omega
end Go.Proofs.Ytmjokpakekfkfaa
