/- The contract of the reference's sorted. -/
import Derived.Test.YtmjokpakekfkfaaI
import Derived.Test.YtmjokpakekfkfaaJ
import Derived.Deep.RegionHeld3
import Derived.IntWalk
set_option linter.unusedSimpArgs false
set_option linter.unusedVariables false
namespace Go.Proofs.Ytmjokpakekfkfaa
open Go.RowKit

def Asc0 (l : List (List V)) : Prop := l.Pairwise (fun a b => cmpR a b ≤ 0)
theorem asc0_srt {l : List (List V)} (h : Asc0 l) : Srt l := fun i j hi hj hij => (List.pairwise_iff_getElem.1 h) i j hi hj hij
/-- The lower head goes behind what is done. -/
theorem merge_step {o a b : List (List V)} {x y : List V} (h1 : Asc0 (o ++ x :: a)) (h2 : Asc0 (o ++ y :: b)) (hxy : cmpR x y ≤ 0) : Asc0 ((o ++ [x]) ++ a) ∧ Asc0 ((o ++ [x]) ++ y :: b) := by
  refine ⟨by rw [List.append_assoc]; exact h1, ?_⟩
  obtain ⟨k1, k2, k3⟩ := List.pairwise_append.1 h1
  obtain ⟨m1, m2, m3⟩ := List.pairwise_append.1 h2
  refine List.pairwise_append.2 ⟨List.pairwise_append.2 ⟨k1, by simp, fun u hu v hv => ?_⟩, m2, fun u hu v hv => ?_⟩
  · rw [List.mem_singleton] at hv; subst hv; exact k3 u hu _ (by simp)
  · rcases List.mem_append.1 hu with h | h
    · exact m3 u h v hv
    · rw [List.mem_singleton] at h
      subst h
      rcases List.mem_cons.1 hv with e | e
      · subst e; exact hxy
      · exact goodR.trans _ _ _ hxy ((List.pairwise_cons.1 m2).1 v e)

/-- A slice of rows that may be cut. -/
def CutAt (w : World) (v : Value) (rs : List (List V)) : Prop :=
  ∃ (a : Option Addr) (cap : Nat), v = .slice a rs.length cap ∧ rs.length ≤ cap ∧ cap ≤ maxLen ∧ rs.length ≤ 4398046511104 ∧ (rs = [] ∨ ∃ b off, a = some ⟨b, off, none⟩ ∧ RowsIn w b off rs)
theorem RowsIn.cut {w : World} {b off : Nat} {rs : List (List V)} (h : RowsIn w b off rs) (k : Nat) : RowsIn w b (off + k) (rs.drop k) :=
  ⟨h.blk, fun i hi => by
    obtain ⟨u, h1, h2⟩ := h.at_ (k + i) (by simp at hi; omega)
    exact ⟨u, by rw [Nat.add_assoc]; exact h1, by rw [List.getElem_drop]; exact h2⟩⟩
theorem RowsIn.head {w : World} {b off : Nat} {rs : List (List V)} (h : RowsIn w b off rs) (k : Nat) : RowsIn w b off (rs.take k) :=
  ⟨h.blk, fun i hi => by
    obtain ⟨u, h1, h2⟩ := h.at_ i (by simp at hi; omega)
    exact ⟨u, h1, by rw [List.getElem_take]; exact h2⟩⟩
def Sorts (rs : List (List V)) (w : World) (e : Ending) (w' : World) : Prop :=
  ∃ (v : Value) (s : List (List V)), e = .returned v ∧ Asc0 s ∧ (∀ r, r ∈ s ↔ r ∈ rs) ∧ s.length = rs.length ∧ CutAt w' v s ∧ Below w.heap.size w w'

theorem cut_of_listed {base : Nat} {w : World} {v : Value} {L : List (List V)} {xs : List Value} (h : Listed base w v L xs) (hl : L.length ≤ 4398046511104) : CutAt w v L := by
  obtain ⟨a, cap, rfl, _, h3⟩ := h.at_ hl
  obtain ⟨hx, hv | ⟨g, cp, cur, hv, hg, hh, hcap, hm, hs, ht⟩⟩ := h.1
  · simp only [Value.slice.injEq] at hv
    exact ⟨a, cap, rfl, by omega, by unfold maxLen; omega, hl, h3⟩
  · simp only [Value.slice.injEq, true_and] at hv
    obtain ⟨-, rfl⟩ := hv
    exact ⟨a, _, rfl, hcap, hm, hl, h3⟩
set_option maxRecDepth 100000 in
theorem short_calls (va : Value) (rs : List (List V)) (w : World) (h2 : rs.length < 2) (hc : CutAt w va rs) : Calls Try.prog 81 #[va] w (Sorts rs w) := by
  obtain ⟨pa, ca, rfl, hcap, hcm, hl, ha⟩ := hc
  obtain ⟨i, hi, hz, hsz, hby⟩ := info_parts info38
  have hus : ∃ us : List Value, us.length = rs.length ∧ (∀ j (h : j < rs.length), ∃ u, us[j]? = some u ∧ RowAt w u rs[j]) ∧ (∀ u ∈ us, u.oneCell' = true) ∧ (pa = none → rs.length = 0) ∧ ∀ b, pa = some b → ∀ j u, us[j]? = some u → w.cell? (b.add j) = some u := by
    rcases rs with _ | ⟨r, _ | ⟨r', t⟩⟩
    · exact ⟨[], rfl, fun j h => absurd h (Nat.not_lt_zero _), by simp, by simp, by simp⟩
    · obtain ⟨b, off, rfl, hb⟩ := ha.resolve_left (by simp)
      obtain ⟨u, k1, k2⟩ := hb.at_ 0 (by simp)
      refine ⟨[u], rfl, fun j h => ?_, ?_, by simp, ?_⟩
      · obtain rfl : j = 0 := by simpa using h
        exact ⟨u, rfl, k2⟩
      · intro x hx
        rw [List.mem_singleton] at hx
        subst hx
        obtain ⟨_, _, k3, _⟩ := k2
        rw [k3]; rfl
      · intro b' hb' j x hj
        simp only [Option.some.injEq] at hb'
        subst hb'
        rcases j with _ | j
        · simp at hj; subst hj; simpa [Addr.add] using k1
        · simp at hj
    · simp at h2; omega
  obtain ⟨us, u1, u2, u3, u4, u5⟩ := hus
  have HI := Lib.hid hi
  have HZ := Lib.hid hz
  have HSZ := Lib.hid hsz
  have HBY := Lib.hid hby
  have U1 := Lib.hid u1
  have U2 := Lib.hid u2
  have U3 := Lib.hid u3
  have U4 := Lib.hid u4
  have U5 := Lib.hid u5
  have hn0 := World.ownsRow_nil w w.heap.size 88 1
  have HN0 := Lib.hid hn0
  generalize hN : rs.length = N at h2 hcap hl ⊢
  have HN := Lib.hid hN
  have hd : decide ((N : Int) < 2) = true := by simp; omega
  clear hi hz hsz hby u1 u2 u3 u4 u5 ha hn0 hN
  go_enter Try.func81, Try.ntmps81
  go_wp2_with (at_builtin; go_must (refine wpList_append_any rfl _ _ 87 rfl w.heap.size 88 i (.slice none 0 0) 1 24 Try.underlying87 HI.out HZ.out HSZ.out HBY.out rfl (by decide) _ 0 [] rfl HN0.out pa N ca us rfl ?c0 ?c1 ?c2 ?c3 ?c4 ?c5 ?c6 ?_))
  case c0 => intro h; have := U4.out h; have := HN.out; omega
  case c1 => have := U1.out; have := HN.out; omega
  case c2 => exact U5.out
  case c3 => exact U3.out
  case c4 => unfold maxLen; omega
  case c5 => omega
  case c6 => exact Nat.le_refl _
  intro v1 w2 ho1 hg2
  have hb : Below w.heap.size w w2 := (Below.refl _ _).grown hg2 (Nat.le_refl _) (fun k hk => by simp [Value.ownBlock] at hk)
  have hli : Listed w.heap.size w2 v1 rs us := ⟨by rw [HN.out]; simpa using ho1, fun j hj => let ⟨u, a, b⟩ := U2.out j hj; ⟨u, a, b.later hb⟩⟩
  have HLI := Lib.hid hli
  have HB := Lib.hid hb
  clear ho1 hg2 hli hb
  go_wp2
  go_ret
  refine ⟨_, rs, rfl, ?_, fun r => Iff.rfl, rfl, cut_of_listed HLI.out (by have := HN.out; omega), HB.out⟩
  have hlen := HN.out
  rcases rs with _ | ⟨r, _ | ⟨r', t⟩⟩
  · exact List.Pairwise.nil
  · simp [Asc0]
  · simp at hlen; omega
theorem below_drew (w : World) : Below w.heap.size w w.drew := ⟨rfl, rfl, rfl, Nat.le_refl _, fun _ _ => rfl⟩
def lenV : Value → Nat
  | .slice _ n _ => n
  | _ => 0
theorem own_keep {base : Nat} {w w' : World} {e : TypeId} {size n : Nat} {v : Value} {xs : List Value} (h : w.ownsRow base e size v n xs) (hw : Below w.heap.size w w') : w'.ownsRow base e size v n xs :=
  h.kept (row := none) ⟨hw.os, hw.tape, hw.output, hw.size, fun k hk _ => hw.block k hk⟩ (by cases v.ownBlock <;> simp)
theorem CutAt.later {w w' : World} {v : Value} {rs : List (List V)} (h : CutAt w v rs) (hw : Below w.heap.size w w') : CutAt w' v rs := by
  obtain ⟨a, cap, h1, h2, h3, h4, h5⟩ := h
  exact ⟨a, cap, h1, h2, h3, h4, h5.imp id fun ⟨b, off, k1, k2⟩ => ⟨b, off, k1, k2.later hw⟩⟩
/-- The cells of a slice of rows. -/
theorem CutAt.news {w : World} {v : Value} {rs : List (List V)} (h : CutAt w v rs) :
    ∃ (pa : Option Addr) (ca : Nat) (us : List Value), v = .slice pa rs.length ca ∧ us.length = rs.length ∧ (∀ j (h : j < rs.length), ∃ u, us[j]? = some u ∧ RowAt w u rs[j]) ∧ (∀ u ∈ us, u.oneCell' = true) ∧ (pa = none → rs.length = 0) ∧ ∀ b, pa = some b → ∀ j u, us[j]? = some u → w.cell? (b.add j) = some u := by
  obtain ⟨pa, ca, rfl, hcap, hcm, hl, ha⟩ := h
  rcases ha with rfl | ⟨b, off, rfl, hb⟩
  · exact ⟨pa, ca, [], rfl, rfl, fun j h => absurd h (Nat.not_lt_zero _), by simp, by simp, by simp⟩
  · have hin : Inhabited Value := ⟨.int .i64 0⟩
    obtain ⟨F, hF⟩ := Go.Deep.choose_lt (n := rs.length) (p := fun i u => w.cell? ⟨b, off + i, none⟩ = some u ∧ ∀ h : i < rs.length, RowAt w u rs[i]) (fun i hi => let ⟨u, k1, k2⟩ := hb.at_ i hi; ⟨u, k1, fun _ => k2⟩)
    refine ⟨_, ca, (List.range rs.length).map F, rfl, by simp, fun j hj => ⟨F j, by simp [hj], (hF j hj).2 hj⟩, ?_, by simp, ?_⟩
    · intro u hu
      obtain ⟨j, hj, rfl⟩ := List.mem_map.1 hu
      have hj' : j < rs.length := by simpa using hj
      obtain ⟨_, _, k3, _⟩ := (hF j hj').2 hj'
      rw [k3]; rfl
    · intro b' hb' j u hj
      simp only [Option.some.injEq] at hb'
      subst hb'
      have hj' : j < rs.length := by
        have := (List.getElem?_eq_some_iff.1 hj).1
        simpa using this
      have : u = F j := by simp [hj'] at hj; exact hj.symm
      subst this
      have := (hF j hj').1
      rw [← this]
      unfold Addr.add
      split <;> simp_all
/-- What is behind the first row. -/
theorem CutAt.tail {w : World} {v : Value} {x : List V} {A : List (List V)} (h : CutAt w v (x :: A)) :
    ∃ (b off ca : Nat) (u : Value) (a' : Option Addr) (c' : Nat), v = .slice (some ⟨b, off, none⟩) (A.length + 1) ca ∧ A.length + 1 ≤ ca ∧ ca ≤ maxLen ∧ w.cell? ⟨b, off, none⟩ = some u ∧ b < w.heap.size ∧ RowAt w u x ∧
      (∀ w' : World, (Instr.slice 87 (.slice (some ⟨b, off, none⟩) (A.length + 1) ca) (some (.int .i64 1)) none none).run Try.prog w' = .ok (.slice a' A.length c') w') ∧ CutAt w (.slice a' A.length c') A := by
  obtain ⟨pa, ca, rfl, hcap, hcm, hl, ha⟩ := h
  obtain ⟨b, off, rfl, hb⟩ := ha.resolve_left (by simp)
  obtain ⟨u, k1, k2⟩ := hb.at_ 0 (by simp)
  simp only [List.length_cons] at hcap hl
  have hm' : ca ≤ 9223372036854775807 := hcm
  by_cases he : ca = 1
  · subst he
    obtain rfl : A = [] := List.eq_nil_of_length_eq_zero (by omega)
    refine ⟨b, off, 1, u, some ⟨b, off, none⟩, 0, rfl, hcap, hcm, by simpa using k1, hb.blk, by simpa using k2, fun w' => ?_, ⟨_, 0, rfl, by simp, by simp, by simp, .inl rfl⟩⟩
    simp [Instr.slice, run_underlying Try.underlying87, Instr.sliceBounds, Instr.sliceBound, asIntOf, go_sem]
  · refine ⟨b, off, ca, u, some ⟨b, off + 1, none⟩, ca - 1, rfl, hcap, hcm, by simpa using k1, hb.blk, by simpa using k2, fun w' => ?_, ⟨_, ca - 1, rfl, by omega, by unfold maxLen at hcm ⊢; omega, by omega, ?_⟩⟩
    · have e1 : ¬ ca < 1 := by omega
      have e2 : ¬ ca = 1 := he
      have e3 : ¬ ca ≤ 1 := by omega
      simp [Instr.slice, run_underlying Try.underlying87, Instr.sliceBounds, Instr.sliceBound, asIntOf, go_sem, hcap]
      rw [if_pos (by omega), if_neg e2]
    · refine .inr ⟨b, off + 1, rfl, ?_⟩
      have := hb.cut 1
      simpa using this
end Go.Proofs.Ytmjokpakekfkfaa
