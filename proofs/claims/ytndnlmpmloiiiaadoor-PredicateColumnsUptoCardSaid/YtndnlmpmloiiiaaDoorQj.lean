/- The contract of the reference's Add. -/
import Derived.Test.YtndnlmpmloiiiaaDoorQx
import Derived.Test.YtndnlmpmloiiiaaDoorQw
import Derived.Deep.RegionHeld3
import Derived.Deep.CutRange
set_option linter.unusedSimpArgs false
set_option linter.unusedVariables false
namespace Go.Proofs.YtndnlmpmloiiiaaDoor
open Go.RowKit

/-- Appending whatever slice to an owned one, in a region that draws its order. -/
theorem step_append_all {w : World} {ops : Array Oper} {o : Oper} {a : Act} {K : Act → World → Prop} {Q : Exit → Act → World → Prop} {E : Prop} (hgd : o.guard = none) (s x : Operand) (t : TypeId)
    (ho : o.op = .call { callee := .builtin .append, args := #[s, x], argTypes := #[t, t] })
    (base : Nat) (e : TypeId) (i : TypeInfo) (z : Value) (size bytes : Nat) (ht : Tryd.prog.underlying t = some (.slice e)) (hi : Tryd.prog.info? e = some i) (hz : i.zero = some z)
    (hsize : i.size = size) (hby : i.bytes = bytes) (hzs : z.cells.size = size) (hsz : 0 < size)
    (v : Value) (n : Nat) (xs : List Value) (hs : a.eval s = v) (hown : w.ownsRow base e size v n xs)
    (ad : Option Addr) (m c : Nat) (news : List Value) (hx : a.eval x = .slice ad m c) (hnone : ad = none → m = 0) (hl : news.length = m * size) (hnews : ∀ b, ad = some b → ∀ j u, news[j]? = some u → w.cell? (b.add j) = some u) (h1 : ∀ u ∈ news, u.oneCell' = true)
    (h63 : n + m ≤ maxLen) (hbytes : (n + m) * bytes ≤ 140737488355328) (hbase : base ≤ w.heap.size)
    (h : ∀ v' w', w'.ownsRow base e size v' (n + m) (xs ++ news) → w.grownBy w' v.ownBlock → K (a.put o.dst v') w') :
    if Region.wanted o (yielded ops a.tmps) = true then Oper.wp Tryd.prog o a w K Q else E := by
  have hw : Region.wanted o (yielded ops a.tmps) = true := by simp [Region.wanted, hgd]
  rw [if_pos hw]
  cases ad with
  | none =>
    obtain rfl := hnone rfl
    obtain rfl : news = [] := List.eq_nil_of_length_eq_zero (by omega)
    have hrun := run_append_nothing (w := w) base t o.type e i size c ht hi v n xs hown
    unfold Oper.wp
    simp [execOp, ho, resolve, invoke, builtin, hs, hx, hrun, Result.andThen]
    exact h v w (by simpa using hown) ⟨rfl, rfl, rfl, Nat.le_refl _, fun _ _ _ => rfl⟩
  | some b => exact wp_append_own w s x t ho base e i z size bytes ht hi hz hsize hby hzs hsz v n xs hs hown b m c news hx hl (hnews b rfl) h1 h63 hbytes hbase fun v' w' h2 h3 _ => h v' w' h2 h3
/-- What Add answers. -/
def AddOut (S : Nat → Prop) (L : List Int) (w : World) (e : Ending) (w' : World) : Prop :=
  ∃ (a : Option Addr) (cap : Nat), e = .returned (.slice a L.length cap) ∧ L.length ≤ cap ∧ IntsAt (fun g => S g ∨ w.heap.size ≤ g) w' (.slice a L.length cap) L ∧ Below w.heap.size w w'
/-- The cells of a list of numbers, as appending asks for them. -/
theorem ints_cells {S : Nat → Prop} {w : World} {a : Option Addr} {n cap : Nat} {l : List Int} (h : IntsAt S w (.slice a n cap) l) : (a = none → l.length = 0) ∧ ∀ b, a = some b → ∀ j (hj : j < l.length), w.cell? (b.add j) = some (.int .i64 l[j]) := by
  obtain ⟨a1, cap1, hv, -, h3⟩ := h
  simp only [Value.slice.injEq] at hv
  obtain ⟨rfl, rfl, rfl⟩ := hv
  refine ⟨fun e => ?_, fun b hb j hj => ?_⟩
  · rcases h3 with rfl | ⟨b, off, h, -⟩
    · rfl
    · rw [e] at h; cases h
  · obtain ⟨b', off, he, -, -, hc⟩ := h3.resolve_left (by rintro rfl; simp at hj)
    rw [hb] at he
    cases he
    rw [show (⟨b', off, none⟩ : Addr).add j = ⟨b', off + j, none⟩ from by unfold Addr.add; split <;> simp_all]
    exact hc j hj
theorem ints_at {l : List Int} {j : Nat} {u : Value} (h : (Go.Proofs.YtndnlmpmloiiiaaDoor.ints l)[j]? = some u) : ∃ hj : j < l.length, u = .int .i64 l[j] := by
  have hj : j < l.length := by have := (List.getElem?_eq_some_iff.1 h).1; simpa [Go.Proofs.YtndnlmpmloiiiaaDoor.ints] using this
  refine ⟨hj, ?_⟩
  simp [Go.Proofs.YtndnlmpmloiiiaaDoor.ints, hj] at h
  exact h.symm
theorem addr_plus (b off j : Nat) : (⟨b, off, none⟩ : Addr).add j = ⟨b, off + j, none⟩ := by unfold Addr.add; split <;> simp_all
theorem one_new' (w : World) (x : Value) (T : TypeId) : ∀ j u, [x][j]? = some u → (w.alloc (.cells #[x] T)).cell? ((⟨w.heap.size, 0, none⟩ : Addr).add j) = some u := by
  intro j u hj
  rw [addr_plus]
  rcases j with _ | j
  · simp at hj; subst hj; show (w.alloc _).cell? ⟨w.heap.size, 0 + 0, none⟩ = _; go_simp
  · simp at hj
theorem add_done {S : Nat → Prop} {l : List Int} {n : Int} {i : Nat} {w w' : World} {v : Value} (hi : i ≤ l.length) (hl : l.length + 1 ≤ 4398046511104) (hA : addI l n = l.take i ++ n :: l.drop i)
    (ho : w'.ownsRow w.heap.size 3 1 v (i + 1 + (l.length - i)) (Go.Proofs.YtndnlmpmloiiiaaDoor.ints (l.take i) ++ [.int .i64 n] ++ Go.Proofs.YtndnlmpmloiiiaaDoor.ints (l.drop i))) (hb : Below w.heap.size w w') : AddOut S (addI l n) w (.returned v) w' := by
  have hlen : (addI l n).length = i + 1 + (l.length - i) := by rw [hA]; simp; omega
  have ho' : OwnN w' w.heap.size v (addI l n) := by
    show w'.ownsRow _ _ _ _ _ _
    rw [hlen, hA]
    have e : Go.Proofs.YtndnlmpmloiiiaaDoor.ints (l.take i ++ n :: l.drop i) = Go.Proofs.YtndnlmpmloiiiaaDoor.ints (l.take i) ++ [.int .i64 n] ++ Go.Proofs.YtndnlmpmloiiiaaDoor.ints (l.drop i) := by simp [Go.Proofs.YtndnlmpmloiiiaaDoor.ints]
    rw [e]; exact ho
  obtain ⟨a, cap, rfl⟩ := own_slice ho'
  exact ⟨a, cap, rfl, own_cap ho', ho'.ints (by omega) (fun g hg => .inr hg), hb⟩
set_option maxHeartbeats 4000000 in
set_option maxRecDepth 100000 in
theorem refAdd_calls (S : Nat → Prop) (a0 : Option Addr) (c0 : Nat) (l : List Int) (n : Int) (w : World) (hl : IntsAt S w (.slice a0 l.length c0) l) (hcap : l.length ≤ c0) (hlen : l.length + 1 ≤ 4398046511104) :
    Calls Tryd.prog 72 #[.slice a0 l.length c0, .int .i64 n] w (AddOut S (addI l n) w) := by
  have mx := mixed
  obtain ⟨W, rfl⟩ : ∃ W, W = w := ⟨_, rfl⟩
  obtain ⟨sa, rfl⟩ : ∃ sa, sa = a0 := ⟨_, rfl⟩
  obtain ⟨sc, rfl⟩ : ∃ sc, sc = c0 := ⟨_, rfl⟩
  have HLL := Lib.hid hlen
  obtain ⟨res, hres⟩ : ∃ res, addI l n = res := ⟨_, rfl⟩
  rw [hres]
  have HR := Lib.hid hres
  have HAT := Lib.hid (addI_at l n)
  obtain ⟨N, hN⟩ : ∃ N, l.length = N := ⟨_, rfl⟩
  rw [hN] at hl hcap ⊢
  have HN := Lib.hid hN
  have HL := Lib.hid hl
  have HCAP := Lib.hid hcap
  obtain ⟨ii, hii, hz, hsz, hby⟩ := info_parts infoI
  have HII := Lib.hid hii
  have HZ := Lib.hid hz
  have HSZ := Lib.hid hsz
  have HBY := Lib.hid hby
  clear hl hcap hlen hres hN hii hz hsz hby
  go_enter Tryd.func72, Tryd.ntmps72
  go_wp2_with fail
  go_loopw [5] (fun v wr => ∃ i : Nat, v = .int .i64 i ∧ i ≤ N ∧ (∀ j (h : j < l.length), j < i → l[j] < n) ∧ wr = W) (fun v _ => N - (intOf v).toNat)
  case atStart => exact ⟨0, rfl, by omega, fun j h hj => by omega, rfl⟩
  case round =>
    obtain ⟨i, rfl, hi, hbel, rfl⟩ := hrel
    have HI := Lib.hid hi
    have HBEL := Lib.hid hbel
    by_cases hiN : i < N
    · have hil : i < l.length := by rw [HN.out]; exact hiN
      obtain ⟨b, off, rfl, hb, -, hc⟩ := HL.out.get hil
      obtain ⟨x, hx⟩ : ∃ x, l[i] = x := ⟨_, rfl⟩
      rw [hx] at hc
      have HX : Hid (l[i] = x) := hx
      have d1 : decide ((i : Int) < (N : Int)) = true := by simp; omega
      have d2 : decide (i < N) = true := by simp; omega
      have hltI : (i : Int) < (N : Int) := by omega
      have h0I : (0 : Int) ≤ (i : Int) := by omega
      clear hx hbel hi
      by_cases hxn : x < n
      · have d3 : decide (x < n) = true := by simpa using hxn
        have hwk := step_i i (by have := HLL.out; have := HN.out; omega)
        have HB2 : Hid (∀ j (h : j < l.length), j < i + 1 → l[j] < n) := fun j h hj => by
          by_cases e : j = i
          · subst e; rw [HX.out]; exact hxn
          · exact HBEL.out j h (by omega)
        clear hb
        go_wp2_with fail
        generalize wrap64 ((i : Int) + 1) = zz at hwk ⊢
        subst hwk
        exact ⟨⟨i + 1, by push_cast; rfl, by omega, HB2.out, trivial⟩, by simp [intOf]; omega⟩
      · have d3 : decide (x < n) = false := by simpa using hxn
        have HA := Lib.hid (HAT.out i (by omega) HBEL.out (fun h => by rw [HX.out]; omega))
        by_cases hq : x = n
        · have d4 : (x == n) = true := by simpa using hq
          have HRL : Hid (res = l) := by show _ = _; rw [← HR.out, HA.out, dif_pos hil, if_pos (by rw [HX.out]; exact hq)]
          go_wp2
          go_ret
          rw [HRL.out]
          exact ⟨some ⟨b, off, none⟩, sc, by rw [HN.out]; rfl, by rw [HN.out]; exact HCAP.out, by rw [HN.out]; exact HL.out.mono fun g _ h => .inl h, Below.refl _ _⟩
        · have d4 : (x == n) = false := by simpa using hq
          have HAE : Hid (addI l n = l.take i ++ n :: l.drop i) := by show _ = _; rw [HA.out, dif_pos hil, if_neg (by rw [HX.out]; exact hq)]
          clear HA HAT
          obtain ⟨hn0, hcl⟩ := ints_cells HL.out
          have HN0 : Hid ((some (⟨b, off, none⟩ : Addr)) = none → N = 0) := fun e => by rw [← HN.out]; exact hn0 e
          have HCLW : Hid (∀ w', Below wr.heap.size wr w' → ∀ bb, (some (⟨b, off, none⟩ : Addr)) = some bb → ∀ j (hj : j < l.length), w'.cell? (bb.add j) = some (.int .i64 l[j])) := fun w' hb => (ints_cells (HL.out.later hb)).2
          have hiN' : i ≤ N := by have := HI.out; omega
          have hi0 : (0 : Int) ≤ (i : Int) := by omega
          have hi1 : (i : Int) ≤ (N : Int) := by omega
          have hi2 : (i : Int) ≤ (sc : Int) := by have := HCAP.out; omega
          have hi3 : (N : Int) ≤ (sc : Int) := by have := HCAP.out; omega
          have HIL : Hid (i ≤ l.length) := by rw [HN.out]; exact hiN'
          clear hn0 hcl
          go_wp2_with fail
          refine wp_region_noPanic ?_
          refine wp_region_held (S := fun w' => IntsAt S w' (.slice (some (⟨b, off, none⟩ : Addr)) N sc) l) mx ?_
          have hHeld : (fun w' : World => IntsAt S w' (.slice (some (⟨b, off, none⟩ : Addr)) N sc) l) wr.drew := HL.out.later ((Below.refl _ _).drew)
          have HBD : Hid (Below wr.heap.size wr wr.drew) := (Below.refl _ _).drew
          change wpAnyH _ _ _ _ (fun w' => IntsAt S w' (.slice (some (⟨b, off, none⟩ : Addr)) N sc) l) _ _ _ wr.drew
          try simp only [Act.put, List.getElem_toArray, List.getElem_cons_succ, List.getElem_cons_zero, List.setIfInBounds_toArray, List.set_cons_zero, List.set_cons_succ]
          refine wpAnyH_take (i := 0) (v := ?_) rfl (by kernel_rfl) (by kernel_rfl) (by kernel_rfl) (fun _ _ _ h => h) (Or.inl ⟨by rfl, ?_⟩) (by assumption) ?_
          rotate_left
          · intro w hSw; clear hSw; go_simp; try with_reducible rfl
          try simp only [Act.put, List.getElem_toArray, List.getElem_cons_succ, List.getElem_cons_zero, List.setIfInBounds_toArray, List.set_cons_zero, List.set_cons_succ]
          refine wpAnyH_take (i := 1) (v := ?_) rfl (by kernel_rfl) (by kernel_rfl) (by kernel_rfl) (fun _ _ _ h => h) (Or.inl ⟨by rfl, ?_⟩) (by assumption) ?_
          rotate_left
          · intro w hSw; clear hSw; go_simp; try with_reducible rfl
          try simp only [Act.put, List.getElem_toArray, List.getElem_cons_succ, List.getElem_cons_zero, List.setIfInBounds_toArray, List.set_cons_zero, List.set_cons_succ]
          refine wpAnyH_take (i := 2) (v := ?_) rfl (by kernel_rfl) (by kernel_rfl) (by kernel_rfl) (fun _ _ _ h => h) (Or.inl ⟨by rfl, ?_⟩) (by assumption) ?_
          rotate_left
          · intro w hSw; clear hSw; go_simp; try with_reducible rfl
          try simp only [Act.put, List.getElem_toArray, List.getElem_cons_succ, List.getElem_cons_zero, List.setIfInBounds_toArray, List.set_cons_zero, List.set_cons_succ]
          refine wpAnyH_take (i := 4) (v := ?_) rfl (by kernel_rfl) (by kernel_rfl) (by kernel_rfl) (fun _ _ _ h => h) (Or.inl ⟨by rfl, ?_⟩) (by assumption) ?_
          rotate_left
          · intro w hSw; clear hSw; go_simp; try with_reducible rfl
          try simp only [Act.put, List.getElem_toArray, List.getElem_cons_succ, List.getElem_cons_zero, List.setIfInBounds_toArray, List.set_cons_zero, List.set_cons_succ]
          refine wpAnyH_take (i := 7) (v := ?_) rfl (by kernel_rfl) (by kernel_rfl) (by kernel_rfl) (fun _ _ _ h => h) (Or.inl ⟨by rfl, ?_⟩) (by assumption) ?_
          rotate_left
          · intro w hSw; clear hSw; go_simp; try with_reducible rfl
          try simp only [Act.put, List.getElem_toArray, List.getElem_cons_succ, List.getElem_cons_zero, List.setIfInBounds_toArray, List.set_cons_zero, List.set_cons_succ]
          refine wpAnyH_take (i := 8) (v := ?_) rfl (by kernel_rfl) (by kernel_rfl) (by kernel_rfl) (fun _ _ _ h => h) (Or.inl ⟨by rfl, ?_⟩) (by assumption) ?_
          rotate_left
          · intro w hSw; clear hSw; go_simp; try with_reducible rfl
          try simp only [Act.put, List.getElem_toArray, List.getElem_cons_succ, List.getElem_cons_zero, List.setIfInBounds_toArray, List.set_cons_zero, List.set_cons_succ]
          refine wpAnyH_take (i := 9) (v := ?_) rfl (by kernel_rfl) (by kernel_rfl) (by kernel_rfl) (fun _ _ _ h => h) (Or.inl ⟨by rfl, ?_⟩) (by assumption) ?_
          rotate_left
          · intro w hSw; clear hSw; go_simp; try with_reducible rfl
          try simp only [Act.put, List.getElem_toArray, List.getElem_cons_succ, List.getElem_cons_zero, List.setIfInBounds_toArray, List.set_cons_zero, List.set_cons_succ]
          refine wpAnyH_ready (rs := [3, 5]) (by kernel_rfl) (by simp) ?_
          refine AllReadyH.cons rfl (fun K hK => ?_) (AllReadyH.cons rfl (fun K hK => ?_) AllReadyH.nil)
          · skip
            clear hHeld
            refine step_append_all rfl _ _ 30 rfl wr.heap.size 3 ii (.int .i64 0) 1 8 Tryd.underlying30 HII.out HZ.out HSZ.out HBY.out rfl (by decide) (.slice none 0 0) 0 [] rfl (World.ownsRow_nil _ _ _ _) (some (⟨b, off, none⟩ : Addr)) i sc (Go.Proofs.YtndnlmpmloiiiaaDoor.ints (l.take i)) rfl (fun e => by have := HN0.out e; omega) (by simp [Go.Proofs.YtndnlmpmloiiiaaDoor.ints]; have := HIL.out; omega) (fun bb hbb jj u hu => by obtain ⟨hj, rfl⟩ := ints_at hu; rw [List.getElem_take]; exact HCLW.out _ HBD.out bb hbb jj (by simp at hj; omega)) (ints_one _) (by have := HLL.out; have := HN.out; have := HIL.out; unfold maxLen; omega) (by have := HLL.out; have := HN.out; have := HIL.out; omega) (Nat.le_refl _) ?_
            intro v1 w1 how1 hgw1
            have HBw1 : Hid (Below wr.heap.size wr w1) := HBD.out.grown hgw1 HBD.out.size (fun g e => (by simp [Value.ownBlock] at e))
            have HOw1 := Lib.hid how1
            clear how1 hgw1
            refine hK.out _ _ (HL.out.later HBw1.out) (fun hHeld => ?_)
            clear hK K
            try simp only [Act.put, List.getElem_toArray, List.getElem_cons_succ, List.getElem_cons_zero, List.setIfInBounds_toArray, List.set_cons_zero, List.set_cons_succ]
            try simp only [Act.put, List.getElem_toArray, List.getElem_cons_succ, List.getElem_cons_zero, List.setIfInBounds_toArray, List.set_cons_zero, List.set_cons_succ]
            refine wpAnyH_ready (rs := [5]) (by kernel_rfl) (by simp) ?_
            refine AllReadyH.cons rfl (fun K hK => ?_) AllReadyH.nil
            clear hHeld
            go_simp
            have HB5 : Hid (Below wr.heap.size wr (w1.alloc (.cells #[.int .i64 n] 3))) := HBw1.out.alloc HBw1.out.size _
            refine hK.out _ _ (HL.out.later HB5.out) (fun hHeld => ?_)
            clear hK K
            try simp only [Act.put, List.getElem_toArray, List.getElem_cons_succ, List.getElem_cons_zero, List.setIfInBounds_toArray, List.set_cons_zero, List.set_cons_succ]
            try simp only [Act.put, List.getElem_toArray, List.getElem_cons_succ, List.getElem_cons_zero, List.setIfInBounds_toArray, List.set_cons_zero, List.set_cons_succ]
            refine wpAnyH_ready (rs := [6]) (by kernel_rfl) (by simp) ?_
            refine AllReadyH.cons rfl (fun K hK => ?_) AllReadyH.nil
            clear hHeld
            refine step_append_all rfl _ _ 30 rfl wr.heap.size 3 ii (.int .i64 0) 1 8 Tryd.underlying30 HII.out HZ.out HSZ.out HBY.out rfl (by decide) v1 (0 + i) ([] ++ Go.Proofs.YtndnlmpmloiiiaaDoor.ints (l.take i)) rfl (HOw1.out.alloc _) (some ⟨w1.heap.size, 0, none⟩) 1 1 [.int .i64 n] rfl (fun e => (by cases e)) (rfl) (fun bb hbb j u hu => by cases hbb; exact one_new' w1 _ _ j u hu) (by intro u hu; simp at hu; subst hu; rfl) (by have := HLL.out; have := HN.out; have := HIL.out; unfold maxLen; omega) (by have := HLL.out; have := HN.out; have := HIL.out; omega) (HB5.out.size) ?_
            intro v2 w2 how2 hgw2
            have HBw2 : Hid (Below wr.heap.size wr w2) := HB5.out.grown hgw2 HB5.out.size (fun g e => (HOw1.out).lt g e |>.1)
            have HOw2 := Lib.hid how2
            clear how2 hgw2
            refine hK.out _ _ (HL.out.later HBw2.out) (fun hHeld => ?_)
            clear hK K
            try simp only [Act.put, List.getElem_toArray, List.getElem_cons_succ, List.getElem_cons_zero, List.setIfInBounds_toArray, List.set_cons_zero, List.set_cons_succ]
            try simp only [Act.put, List.getElem_toArray, List.getElem_cons_succ, List.getElem_cons_zero, List.setIfInBounds_toArray, List.set_cons_zero, List.set_cons_succ]
            refine wpAnyH_ready (rs := [10]) (by kernel_rfl) (by simp) ?_
            refine AllReadyH.cons rfl (fun K hK => ?_) AllReadyH.nil
            clear hHeld
            refine step_append_all rfl _ _ 30 rfl wr.heap.size 3 ii (.int .i64 0) 1 8 Tryd.underlying30 HII.out HZ.out HSZ.out HBY.out rfl (by decide) v2 (0 + i + 1) ([] ++ Go.Proofs.YtndnlmpmloiiiaaDoor.ints (l.take i) ++ [.int .i64 n]) rfl (HOw2.out) _ (N - i) (sc - i) (Go.Proofs.YtndnlmpmloiiiaaDoor.ints (l.drop i)) rfl (fun e => by have := HN0.out; split at e <;> simp_all) (by simp [Go.Proofs.YtndnlmpmloiiiaaDoor.ints]; have := HN.out; omega) (fun bb hbb jj u hu => by
                obtain ⟨hj, rfl⟩ := ints_at hu
                have hjN : i + jj < l.length := by simp at hj; omega
                have hsc : ¬ sc = i := by have := HCAP.out; have := HN.out; omega
                simp only [hsc, if_false] at hbb
                cases hbb
                rw [List.getElem_drop]
                have h := HCLW.out _ HBw2.out _ rfl (i + jj) hjN
                rw [addr_plus] at h ⊢
                rw [Nat.add_assoc]; exact h) (ints_one _) (by have := HLL.out; have := HN.out; have := HIL.out; unfold maxLen; omega) (by have := HLL.out; have := HN.out; have := HIL.out; omega) (HBw2.out.size) ?_
            intro v3 w3 how3 hgw3
            have HBw3 : Hid (Below wr.heap.size wr w3) := HBw2.out.grown hgw3 HBw2.out.size (fun g e => (HOw2.out).lt g e |>.1)
            have HOw3 := Lib.hid how3
            clear how3 hgw3
            refine hK.out _ _ (HL.out.later HBw3.out) (fun hHeld => ?_)
            clear hK K
            try simp only [Act.put, List.getElem_toArray, List.getElem_cons_succ, List.getElem_cons_zero, List.setIfInBounds_toArray, List.set_cons_zero, List.set_cons_succ]
            try simp only [Act.put, List.getElem_toArray, List.getElem_cons_succ, List.getElem_cons_zero, List.setIfInBounds_toArray, List.set_cons_zero, List.set_cons_succ]
            refine wpAnyH_take (i := 11) (v := ?_) rfl (by kernel_rfl) (by kernel_rfl) (by kernel_rfl) (fun _ _ _ h => h) (Or.inl ⟨by rfl, ?_⟩) (by assumption) ?_
            rotate_left
            · intro w hSw; clear hSw; go_simp; try with_reducible rfl
            try simp only [Act.put, List.getElem_toArray, List.getElem_cons_succ, List.getElem_cons_zero, List.setIfInBounds_toArray, List.set_cons_zero, List.set_cons_succ]
            refine wpAnyH_done (by kernel_rfl) ?_ _
            refine NoPanic.normal ?_
            clear hHeld
            have HOE := HOw3.out
            simp only [Nat.zero_add, List.nil_append] at HOE
            have HFIN : Hid (AddOut S res wr (.returned v3) w3) := by
              show AddOut _ _ _ _ _
              rw [← HR.out]
              exact add_done HIL.out HLL.out HAE.out (by rw [HN.out]; exact HOE) HBw3.out
            clear HOE
            go_wp2
            go_ret
            exact HFIN.out
          · clear hHeld
            go_simp
            have HB5 : Hid (Below wr.heap.size wr (wr.drew.alloc (.cells #[.int .i64 n] 3))) := HBD.out.alloc HBD.out.size _
            refine hK.out _ _ (HL.out.later HB5.out) (fun hHeld => ?_)
            clear hK K
            try simp only [Act.put, List.getElem_toArray, List.getElem_cons_succ, List.getElem_cons_zero, List.setIfInBounds_toArray, List.set_cons_zero, List.set_cons_succ]
            try simp only [Act.put, List.getElem_toArray, List.getElem_cons_succ, List.getElem_cons_zero, List.setIfInBounds_toArray, List.set_cons_zero, List.set_cons_succ]
            refine wpAnyH_ready (rs := [3]) (by kernel_rfl) (by simp) ?_
            refine AllReadyH.cons rfl (fun K hK => ?_) AllReadyH.nil
            clear hHeld
            refine step_append_all rfl _ _ 30 rfl wr.heap.size 3 ii (.int .i64 0) 1 8 Tryd.underlying30 HII.out HZ.out HSZ.out HBY.out rfl (by decide) (.slice none 0 0) 0 [] rfl (World.ownsRow_nil _ _ _ _) (some (⟨b, off, none⟩ : Addr)) i sc (Go.Proofs.YtndnlmpmloiiiaaDoor.ints (l.take i)) rfl (fun e => by have := HN0.out e; omega) (by simp [Go.Proofs.YtndnlmpmloiiiaaDoor.ints]; have := HIL.out; omega) (fun bb hbb jj u hu => by obtain ⟨hj, rfl⟩ := ints_at hu; rw [List.getElem_take]; exact HCLW.out _ HB5.out bb hbb jj (by simp at hj; omega)) (ints_one _) (by have := HLL.out; have := HN.out; have := HIL.out; unfold maxLen; omega) (by have := HLL.out; have := HN.out; have := HIL.out; omega) (HB5.out.size) ?_
            intro v1 w1 how1 hgw1
            have HBw1 : Hid (Below wr.heap.size wr w1) := HB5.out.grown hgw1 HB5.out.size (fun g e => (by simp [Value.ownBlock] at e))
            have HOw1 := Lib.hid how1
            have HG1K : Hid (∀ j u, [Value.int .i64 n][j]? = some u → w1.cell? ((⟨wr.heap.size, 0, none⟩ : Addr).add j) = some u) := fun j u hu => hgw1.cell (one_new' wr.drew _ _ j u hu) (by simp [Value.ownBlock])
            clear how1 hgw1
            refine hK.out _ _ (HL.out.later HBw1.out) (fun hHeld => ?_)
            clear hK K
            try simp only [Act.put, List.getElem_toArray, List.getElem_cons_succ, List.getElem_cons_zero, List.setIfInBounds_toArray, List.set_cons_zero, List.set_cons_succ]
            have hkept : ∀ j u, [Value.int .i64 n][j]? = some u → w1.cell? ((⟨wr.heap.size, 0, none⟩ : Addr).add j) = some u := fun j u hu => HG1K.out j u hu
            try simp only [Act.put, List.getElem_toArray, List.getElem_cons_succ, List.getElem_cons_zero, List.setIfInBounds_toArray, List.set_cons_zero, List.set_cons_succ]
            refine wpAnyH_ready (rs := [6]) (by kernel_rfl) (by simp) ?_
            refine AllReadyH.cons rfl (fun K hK => ?_) AllReadyH.nil
            clear hHeld
            refine step_append_all rfl _ _ 30 rfl wr.heap.size 3 ii (.int .i64 0) 1 8 Tryd.underlying30 HII.out HZ.out HSZ.out HBY.out rfl (by decide) v1 (0 + i) ([] ++ Go.Proofs.YtndnlmpmloiiiaaDoor.ints (l.take i)) rfl (HOw1.out) (some ⟨wr.heap.size, 0, none⟩) 1 1 [.int .i64 n] rfl (fun e => (by cases e)) (rfl) (fun bb hbb j u hu => by cases hbb; exact hkept j u hu) (by intro u hu; simp at hu; subst hu; rfl) (by have := HLL.out; have := HN.out; have := HIL.out; unfold maxLen; omega) (by have := HLL.out; have := HN.out; have := HIL.out; omega) (HBw1.out.size) ?_
            intro v2 w2 how2 hgw2
            have HBw2 : Hid (Below wr.heap.size wr w2) := HBw1.out.grown hgw2 HBw1.out.size (fun g e => (HOw1.out).lt g e |>.1)
            have HOw2 := Lib.hid how2
            clear how2 hgw2
            refine hK.out _ _ (HL.out.later HBw2.out) (fun hHeld => ?_)
            clear hK K
            try simp only [Act.put, List.getElem_toArray, List.getElem_cons_succ, List.getElem_cons_zero, List.setIfInBounds_toArray, List.set_cons_zero, List.set_cons_succ]
            try simp only [Act.put, List.getElem_toArray, List.getElem_cons_succ, List.getElem_cons_zero, List.setIfInBounds_toArray, List.set_cons_zero, List.set_cons_succ]
            refine wpAnyH_ready (rs := [10]) (by kernel_rfl) (by simp) ?_
            refine AllReadyH.cons rfl (fun K hK => ?_) AllReadyH.nil
            clear hHeld
            refine step_append_all rfl _ _ 30 rfl wr.heap.size 3 ii (.int .i64 0) 1 8 Tryd.underlying30 HII.out HZ.out HSZ.out HBY.out rfl (by decide) v2 (0 + i + 1) ([] ++ Go.Proofs.YtndnlmpmloiiiaaDoor.ints (l.take i) ++ [.int .i64 n]) rfl (HOw2.out) _ (N - i) (sc - i) (Go.Proofs.YtndnlmpmloiiiaaDoor.ints (l.drop i)) rfl (fun e => by have := HN0.out; split at e <;> simp_all) (by simp [Go.Proofs.YtndnlmpmloiiiaaDoor.ints]; have := HN.out; omega) (fun bb hbb jj u hu => by
                obtain ⟨hj, rfl⟩ := ints_at hu
                have hjN : i + jj < l.length := by simp at hj; omega
                have hsc : ¬ sc = i := by have := HCAP.out; have := HN.out; omega
                simp only [hsc, if_false] at hbb
                cases hbb
                rw [List.getElem_drop]
                have h := HCLW.out _ HBw2.out _ rfl (i + jj) hjN
                rw [addr_plus] at h ⊢
                rw [Nat.add_assoc]; exact h) (ints_one _) (by have := HLL.out; have := HN.out; have := HIL.out; unfold maxLen; omega) (by have := HLL.out; have := HN.out; have := HIL.out; omega) (HBw2.out.size) ?_
            intro v3 w3 how3 hgw3
            have HBw3 : Hid (Below wr.heap.size wr w3) := HBw2.out.grown hgw3 HBw2.out.size (fun g e => (HOw2.out).lt g e |>.1)
            have HOw3 := Lib.hid how3
            clear how3 hgw3
            refine hK.out _ _ (HL.out.later HBw3.out) (fun hHeld => ?_)
            clear hK K
            try simp only [Act.put, List.getElem_toArray, List.getElem_cons_succ, List.getElem_cons_zero, List.setIfInBounds_toArray, List.set_cons_zero, List.set_cons_succ]
            try simp only [Act.put, List.getElem_toArray, List.getElem_cons_succ, List.getElem_cons_zero, List.setIfInBounds_toArray, List.set_cons_zero, List.set_cons_succ]
            refine wpAnyH_take (i := 11) (v := ?_) rfl (by kernel_rfl) (by kernel_rfl) (by kernel_rfl) (fun _ _ _ h => h) (Or.inl ⟨by rfl, ?_⟩) (by assumption) ?_
            rotate_left
            · intro w hSw; clear hSw; go_simp; try with_reducible rfl
            try simp only [Act.put, List.getElem_toArray, List.getElem_cons_succ, List.getElem_cons_zero, List.setIfInBounds_toArray, List.set_cons_zero, List.set_cons_succ]
            refine wpAnyH_done (by kernel_rfl) ?_ _
            refine NoPanic.normal ?_
            clear hHeld
            have HOE := HOw3.out
            simp only [Nat.zero_add, List.nil_append] at HOE
            have HFIN : Hid (AddOut S res wr (.returned v3) w3) := by
              show AddOut _ _ _ _ _
              rw [← HR.out]
              exact add_done HIL.out HLL.out HAE.out (by rw [HN.out]; exact HOE) HBw3.out
            clear HOE
            go_wp2
            go_ret
            exact HFIN.out
    · have d1 : decide ((i : Int) < (N : Int)) = false := by simp; omega
      have d2 : decide (i < N) = false := by simp; omega
      have HAE : Hid (addI l n = l.take i ++ n :: l.drop i) := by
        show _ = _
        rw [HAT.out i (by have := HN.out; omega) HBEL.out (fun h => by have := HN.out; omega), dif_neg (by have := HN.out; omega)]
      clear HAT hbel
      by_cases hsc : sc = i
      · obtain rfl : i = sc := hsc.symm
        clear hsc
        obtain ⟨hn0, hcl⟩ := ints_cells HL.out
        have HN0 : Hid (sa = none → N = 0) := fun e => by rw [← HN.out]; exact hn0 e
        have HCLW : Hid (∀ w', Below wr.heap.size wr w' → ∀ bb, sa = some bb → ∀ j (hj : j < l.length), w'.cell? (bb.add j) = some (.int .i64 l[j])) := fun w' hb => (ints_cells (HL.out.later hb)).2
        have hiN' : i ≤ N := by have := HI.out; omega
        have hi0 : (0 : Int) ≤ (i : Int) := by omega
        have hi1 : (i : Int) ≤ (N : Int) := by omega
        have hi2 : (i : Int) ≤ (i : Int) := by have := HCAP.out; omega
        have hi3 : (N : Int) ≤ (i : Int) := by have := HCAP.out; omega
        have HIL : Hid (i ≤ l.length) := by rw [HN.out]; exact hiN'
        clear hn0 hcl
        go_wp2_with fail
        refine wp_region_noPanic ?_
        refine wp_region_held (S := fun w' => IntsAt S w' (.slice sa N i) l) mx ?_
        have hHeld : (fun w' : World => IntsAt S w' (.slice sa N i) l) wr.drew := HL.out.later ((Below.refl _ _).drew)
        have HBD : Hid (Below wr.heap.size wr wr.drew) := (Below.refl _ _).drew
        change wpAnyH _ _ _ _ (fun w' => IntsAt S w' (.slice sa N i) l) _ _ _ wr.drew
        try simp only [Act.put, List.getElem_toArray, List.getElem_cons_succ, List.getElem_cons_zero, List.setIfInBounds_toArray, List.set_cons_zero, List.set_cons_succ]
        refine wpAnyH_take (i := 0) (v := ?_) rfl (by kernel_rfl) (by kernel_rfl) (by kernel_rfl) (fun _ _ _ h => h) (Or.inl ⟨by rfl, ?_⟩) (by assumption) ?_
        rotate_left
        · intro w hSw; clear hSw; go_simp; try with_reducible rfl
        try simp only [Act.put, List.getElem_toArray, List.getElem_cons_succ, List.getElem_cons_zero, List.setIfInBounds_toArray, List.set_cons_zero, List.set_cons_succ]
        refine wpAnyH_take (i := 1) (v := ?_) rfl (by kernel_rfl) (by kernel_rfl) (by kernel_rfl) (fun _ _ _ h => h) (Or.inl ⟨by rfl, ?_⟩) (by assumption) ?_
        rotate_left
        · intro w hSw; clear hSw; go_simp; try with_reducible rfl
        try simp only [Act.put, List.getElem_toArray, List.getElem_cons_succ, List.getElem_cons_zero, List.setIfInBounds_toArray, List.set_cons_zero, List.set_cons_succ]
        refine wpAnyH_take (i := 2) (v := ?_) rfl (by kernel_rfl) (by kernel_rfl) (by kernel_rfl) (fun _ _ _ h => h) (Or.inl ⟨by rfl, ?_⟩) (by assumption) ?_
        rotate_left
        · intro w hSw; clear hSw; go_simp; try with_reducible rfl
        try simp only [Act.put, List.getElem_toArray, List.getElem_cons_succ, List.getElem_cons_zero, List.setIfInBounds_toArray, List.set_cons_zero, List.set_cons_succ]
        refine wpAnyH_take (i := 4) (v := ?_) rfl (by kernel_rfl) (by kernel_rfl) (by kernel_rfl) (fun _ _ _ h => h) (Or.inl ⟨by rfl, ?_⟩) (by assumption) ?_
        rotate_left
        · intro w hSw; clear hSw; go_simp; try with_reducible rfl
        try simp only [Act.put, List.getElem_toArray, List.getElem_cons_succ, List.getElem_cons_zero, List.setIfInBounds_toArray, List.set_cons_zero, List.set_cons_succ]
        refine wpAnyH_take (i := 7) (v := ?_) rfl (by kernel_rfl) (by kernel_rfl) (by kernel_rfl) (fun _ _ _ h => h) (Or.inl ⟨by rfl, ?_⟩) (by assumption) ?_
        rotate_left
        · intro w hSw; clear hSw; go_simp; try with_reducible rfl
        try simp only [Act.put, List.getElem_toArray, List.getElem_cons_succ, List.getElem_cons_zero, List.setIfInBounds_toArray, List.set_cons_zero, List.set_cons_succ]
        refine wpAnyH_take (i := 8) (v := ?_) rfl (by kernel_rfl) (by kernel_rfl) (by kernel_rfl) (fun _ _ _ h => h) (Or.inl ⟨by rfl, ?_⟩) (by assumption) ?_
        rotate_left
        · intro w hSw; clear hSw; go_simp; try with_reducible rfl
        try simp only [Act.put, List.getElem_toArray, List.getElem_cons_succ, List.getElem_cons_zero, List.setIfInBounds_toArray, List.set_cons_zero, List.set_cons_succ]
        refine wpAnyH_take (i := 9) (v := ?_) rfl (by kernel_rfl) (by kernel_rfl) (by kernel_rfl) (fun _ _ _ h => h) (Or.inl ⟨by rfl, ?_⟩) (by assumption) ?_
        rotate_left
        · intro w hSw; clear hSw; go_simp; try with_reducible rfl
        try simp only [Act.put, List.getElem_toArray, List.getElem_cons_succ, List.getElem_cons_zero, List.setIfInBounds_toArray, List.set_cons_zero, List.set_cons_succ]
        refine wpAnyH_ready (rs := [3, 5]) (by kernel_rfl) (by simp) ?_
        refine AllReadyH.cons rfl (fun K hK => ?_) (AllReadyH.cons rfl (fun K hK => ?_) AllReadyH.nil)
        · skip
          clear hHeld
          refine step_append_all rfl _ _ 30 rfl wr.heap.size 3 ii (.int .i64 0) 1 8 Tryd.underlying30 HII.out HZ.out HSZ.out HBY.out rfl (by decide) (.slice none 0 0) 0 [] rfl (World.ownsRow_nil _ _ _ _) sa i i (Go.Proofs.YtndnlmpmloiiiaaDoor.ints (l.take i)) rfl (fun e => by have := HN0.out e; omega) (by simp [Go.Proofs.YtndnlmpmloiiiaaDoor.ints]; have := HIL.out; omega) (fun bb hbb jj u hu => by obtain ⟨hj, rfl⟩ := ints_at hu; rw [List.getElem_take]; exact HCLW.out _ HBD.out bb hbb jj (by simp at hj; omega)) (ints_one _) (by have := HLL.out; have := HN.out; have := HIL.out; unfold maxLen; omega) (by have := HLL.out; have := HN.out; have := HIL.out; omega) (Nat.le_refl _) ?_
          intro v1 w1 how1 hgw1
          have HBw1 : Hid (Below wr.heap.size wr w1) := HBD.out.grown hgw1 HBD.out.size (fun g e => (by simp [Value.ownBlock] at e))
          have HOw1 := Lib.hid how1
          clear how1 hgw1
          refine hK.out _ _ (HL.out.later HBw1.out) (fun hHeld => ?_)
          clear hK K
          try simp only [Act.put, List.getElem_toArray, List.getElem_cons_succ, List.getElem_cons_zero, List.setIfInBounds_toArray, List.set_cons_zero, List.set_cons_succ]
          try simp only [Act.put, List.getElem_toArray, List.getElem_cons_succ, List.getElem_cons_zero, List.setIfInBounds_toArray, List.set_cons_zero, List.set_cons_succ]
          refine wpAnyH_ready (rs := [5]) (by kernel_rfl) (by simp) ?_
          refine AllReadyH.cons rfl (fun K hK => ?_) AllReadyH.nil
          clear hHeld
          go_simp
          have HB5 : Hid (Below wr.heap.size wr (w1.alloc (.cells #[.int .i64 n] 3))) := HBw1.out.alloc HBw1.out.size _
          refine hK.out _ _ (HL.out.later HB5.out) (fun hHeld => ?_)
          clear hK K
          try simp only [Act.put, List.getElem_toArray, List.getElem_cons_succ, List.getElem_cons_zero, List.setIfInBounds_toArray, List.set_cons_zero, List.set_cons_succ]
          try simp only [Act.put, List.getElem_toArray, List.getElem_cons_succ, List.getElem_cons_zero, List.setIfInBounds_toArray, List.set_cons_zero, List.set_cons_succ]
          refine wpAnyH_ready (rs := [6]) (by kernel_rfl) (by simp) ?_
          refine AllReadyH.cons rfl (fun K hK => ?_) AllReadyH.nil
          clear hHeld
          refine step_append_all rfl _ _ 30 rfl wr.heap.size 3 ii (.int .i64 0) 1 8 Tryd.underlying30 HII.out HZ.out HSZ.out HBY.out rfl (by decide) v1 (0 + i) ([] ++ Go.Proofs.YtndnlmpmloiiiaaDoor.ints (l.take i)) rfl (HOw1.out.alloc _) (some ⟨w1.heap.size, 0, none⟩) 1 1 [.int .i64 n] rfl (fun e => (by cases e)) (rfl) (fun bb hbb j u hu => by cases hbb; exact one_new' w1 _ _ j u hu) (by intro u hu; simp at hu; subst hu; rfl) (by have := HLL.out; have := HN.out; have := HIL.out; unfold maxLen; omega) (by have := HLL.out; have := HN.out; have := HIL.out; omega) (HB5.out.size) ?_
          intro v2 w2 how2 hgw2
          have HBw2 : Hid (Below wr.heap.size wr w2) := HB5.out.grown hgw2 HB5.out.size (fun g e => (HOw1.out).lt g e |>.1)
          have HOw2 := Lib.hid how2
          clear how2 hgw2
          refine hK.out _ _ (HL.out.later HBw2.out) (fun hHeld => ?_)
          clear hK K
          try simp only [Act.put, List.getElem_toArray, List.getElem_cons_succ, List.getElem_cons_zero, List.setIfInBounds_toArray, List.set_cons_zero, List.set_cons_succ]
          try simp only [Act.put, List.getElem_toArray, List.getElem_cons_succ, List.getElem_cons_zero, List.setIfInBounds_toArray, List.set_cons_zero, List.set_cons_succ]
          refine wpAnyH_ready (rs := [10]) (by kernel_rfl) (by simp) ?_
          refine AllReadyH.cons rfl (fun K hK => ?_) AllReadyH.nil
          clear hHeld
          refine step_append_all rfl _ _ 30 rfl wr.heap.size 3 ii (.int .i64 0) 1 8 Tryd.underlying30 HII.out HZ.out HSZ.out HBY.out rfl (by decide) v2 (0 + i + 1) ([] ++ Go.Proofs.YtndnlmpmloiiiaaDoor.ints (l.take i) ++ [.int .i64 n]) rfl (HOw2.out) _ (N - i) 0 (Go.Proofs.YtndnlmpmloiiiaaDoor.ints (l.drop i)) rfl (fun e => by omega) (by simp [Go.Proofs.YtndnlmpmloiiiaaDoor.ints]; have := HN.out; omega) (fun bb hbb jj u hu => by obtain ⟨hj, rfl⟩ := ints_at hu; simp at hj; have := HN.out; omega) (ints_one _) (by have := HLL.out; have := HN.out; have := HIL.out; unfold maxLen; omega) (by have := HLL.out; have := HN.out; have := HIL.out; omega) (HBw2.out.size) ?_
          intro v3 w3 how3 hgw3
          have HBw3 : Hid (Below wr.heap.size wr w3) := HBw2.out.grown hgw3 HBw2.out.size (fun g e => (HOw2.out).lt g e |>.1)
          have HOw3 := Lib.hid how3
          clear how3 hgw3
          refine hK.out _ _ (HL.out.later HBw3.out) (fun hHeld => ?_)
          clear hK K
          try simp only [Act.put, List.getElem_toArray, List.getElem_cons_succ, List.getElem_cons_zero, List.setIfInBounds_toArray, List.set_cons_zero, List.set_cons_succ]
          try simp only [Act.put, List.getElem_toArray, List.getElem_cons_succ, List.getElem_cons_zero, List.setIfInBounds_toArray, List.set_cons_zero, List.set_cons_succ]
          refine wpAnyH_take (i := 11) (v := ?_) rfl (by kernel_rfl) (by kernel_rfl) (by kernel_rfl) (fun _ _ _ h => h) (Or.inl ⟨by rfl, ?_⟩) (by assumption) ?_
          rotate_left
          · intro w hSw; clear hSw; go_simp; try with_reducible rfl
          try simp only [Act.put, List.getElem_toArray, List.getElem_cons_succ, List.getElem_cons_zero, List.setIfInBounds_toArray, List.set_cons_zero, List.set_cons_succ]
          refine wpAnyH_done (by kernel_rfl) ?_ _
          refine NoPanic.normal ?_
          clear hHeld
          have HOE := HOw3.out
          simp only [Nat.zero_add, List.nil_append] at HOE
          have HFIN : Hid (AddOut S res wr (.returned v3) w3) := by
            show AddOut _ _ _ _ _
            rw [← HR.out]
            exact add_done HIL.out HLL.out HAE.out (by rw [HN.out]; exact HOE) HBw3.out
          clear HOE
          go_wp2
          go_ret
          exact HFIN.out
        · clear hHeld
          go_simp
          have HB5 : Hid (Below wr.heap.size wr (wr.drew.alloc (.cells #[.int .i64 n] 3))) := HBD.out.alloc HBD.out.size _
          refine hK.out _ _ (HL.out.later HB5.out) (fun hHeld => ?_)
          clear hK K
          try simp only [Act.put, List.getElem_toArray, List.getElem_cons_succ, List.getElem_cons_zero, List.setIfInBounds_toArray, List.set_cons_zero, List.set_cons_succ]
          try simp only [Act.put, List.getElem_toArray, List.getElem_cons_succ, List.getElem_cons_zero, List.setIfInBounds_toArray, List.set_cons_zero, List.set_cons_succ]
          refine wpAnyH_ready (rs := [3]) (by kernel_rfl) (by simp) ?_
          refine AllReadyH.cons rfl (fun K hK => ?_) AllReadyH.nil
          clear hHeld
          refine step_append_all rfl _ _ 30 rfl wr.heap.size 3 ii (.int .i64 0) 1 8 Tryd.underlying30 HII.out HZ.out HSZ.out HBY.out rfl (by decide) (.slice none 0 0) 0 [] rfl (World.ownsRow_nil _ _ _ _) sa i i (Go.Proofs.YtndnlmpmloiiiaaDoor.ints (l.take i)) rfl (fun e => by have := HN0.out e; omega) (by simp [Go.Proofs.YtndnlmpmloiiiaaDoor.ints]; have := HIL.out; omega) (fun bb hbb jj u hu => by obtain ⟨hj, rfl⟩ := ints_at hu; rw [List.getElem_take]; exact HCLW.out _ HB5.out bb hbb jj (by simp at hj; omega)) (ints_one _) (by have := HLL.out; have := HN.out; have := HIL.out; unfold maxLen; omega) (by have := HLL.out; have := HN.out; have := HIL.out; omega) (HB5.out.size) ?_
          intro v1 w1 how1 hgw1
          have HBw1 : Hid (Below wr.heap.size wr w1) := HB5.out.grown hgw1 HB5.out.size (fun g e => (by simp [Value.ownBlock] at e))
          have HOw1 := Lib.hid how1
          have HG1K : Hid (∀ j u, [Value.int .i64 n][j]? = some u → w1.cell? ((⟨wr.heap.size, 0, none⟩ : Addr).add j) = some u) := fun j u hu => hgw1.cell (one_new' wr.drew _ _ j u hu) (by simp [Value.ownBlock])
          clear how1 hgw1
          refine hK.out _ _ (HL.out.later HBw1.out) (fun hHeld => ?_)
          clear hK K
          try simp only [Act.put, List.getElem_toArray, List.getElem_cons_succ, List.getElem_cons_zero, List.setIfInBounds_toArray, List.set_cons_zero, List.set_cons_succ]
          have hkept : ∀ j u, [Value.int .i64 n][j]? = some u → w1.cell? ((⟨wr.heap.size, 0, none⟩ : Addr).add j) = some u := fun j u hu => HG1K.out j u hu
          try simp only [Act.put, List.getElem_toArray, List.getElem_cons_succ, List.getElem_cons_zero, List.setIfInBounds_toArray, List.set_cons_zero, List.set_cons_succ]
          refine wpAnyH_ready (rs := [6]) (by kernel_rfl) (by simp) ?_
          refine AllReadyH.cons rfl (fun K hK => ?_) AllReadyH.nil
          clear hHeld
          refine step_append_all rfl _ _ 30 rfl wr.heap.size 3 ii (.int .i64 0) 1 8 Tryd.underlying30 HII.out HZ.out HSZ.out HBY.out rfl (by decide) v1 (0 + i) ([] ++ Go.Proofs.YtndnlmpmloiiiaaDoor.ints (l.take i)) rfl (HOw1.out) (some ⟨wr.heap.size, 0, none⟩) 1 1 [.int .i64 n] rfl (fun e => (by cases e)) (rfl) (fun bb hbb j u hu => by cases hbb; exact hkept j u hu) (by intro u hu; simp at hu; subst hu; rfl) (by have := HLL.out; have := HN.out; have := HIL.out; unfold maxLen; omega) (by have := HLL.out; have := HN.out; have := HIL.out; omega) (HBw1.out.size) ?_
          intro v2 w2 how2 hgw2
          have HBw2 : Hid (Below wr.heap.size wr w2) := HBw1.out.grown hgw2 HBw1.out.size (fun g e => (HOw1.out).lt g e |>.1)
          have HOw2 := Lib.hid how2
          clear how2 hgw2
          refine hK.out _ _ (HL.out.later HBw2.out) (fun hHeld => ?_)
          clear hK K
          try simp only [Act.put, List.getElem_toArray, List.getElem_cons_succ, List.getElem_cons_zero, List.setIfInBounds_toArray, List.set_cons_zero, List.set_cons_succ]
          try simp only [Act.put, List.getElem_toArray, List.getElem_cons_succ, List.getElem_cons_zero, List.setIfInBounds_toArray, List.set_cons_zero, List.set_cons_succ]
          refine wpAnyH_ready (rs := [10]) (by kernel_rfl) (by simp) ?_
          refine AllReadyH.cons rfl (fun K hK => ?_) AllReadyH.nil
          clear hHeld
          refine step_append_all rfl _ _ 30 rfl wr.heap.size 3 ii (.int .i64 0) 1 8 Tryd.underlying30 HII.out HZ.out HSZ.out HBY.out rfl (by decide) v2 (0 + i + 1) ([] ++ Go.Proofs.YtndnlmpmloiiiaaDoor.ints (l.take i) ++ [.int .i64 n]) rfl (HOw2.out) _ (N - i) 0 (Go.Proofs.YtndnlmpmloiiiaaDoor.ints (l.drop i)) rfl (fun e => by omega) (by simp [Go.Proofs.YtndnlmpmloiiiaaDoor.ints]; have := HN.out; omega) (fun bb hbb jj u hu => by obtain ⟨hj, rfl⟩ := ints_at hu; simp at hj; have := HN.out; omega) (ints_one _) (by have := HLL.out; have := HN.out; have := HIL.out; unfold maxLen; omega) (by have := HLL.out; have := HN.out; have := HIL.out; omega) (HBw2.out.size) ?_
          intro v3 w3 how3 hgw3
          have HBw3 : Hid (Below wr.heap.size wr w3) := HBw2.out.grown hgw3 HBw2.out.size (fun g e => (HOw2.out).lt g e |>.1)
          have HOw3 := Lib.hid how3
          clear how3 hgw3
          refine hK.out _ _ (HL.out.later HBw3.out) (fun hHeld => ?_)
          clear hK K
          try simp only [Act.put, List.getElem_toArray, List.getElem_cons_succ, List.getElem_cons_zero, List.setIfInBounds_toArray, List.set_cons_zero, List.set_cons_succ]
          try simp only [Act.put, List.getElem_toArray, List.getElem_cons_succ, List.getElem_cons_zero, List.setIfInBounds_toArray, List.set_cons_zero, List.set_cons_succ]
          refine wpAnyH_take (i := 11) (v := ?_) rfl (by kernel_rfl) (by kernel_rfl) (by kernel_rfl) (fun _ _ _ h => h) (Or.inl ⟨by rfl, ?_⟩) (by assumption) ?_
          rotate_left
          · intro w hSw; clear hSw; go_simp; try with_reducible rfl
          try simp only [Act.put, List.getElem_toArray, List.getElem_cons_succ, List.getElem_cons_zero, List.setIfInBounds_toArray, List.set_cons_zero, List.set_cons_succ]
          refine wpAnyH_done (by kernel_rfl) ?_ _
          refine NoPanic.normal ?_
          clear hHeld
          have HOE := HOw3.out
          simp only [Nat.zero_add, List.nil_append] at HOE
          have HFIN : Hid (AddOut S res wr (.returned v3) w3) := by
            show AddOut _ _ _ _ _
            rw [← HR.out]
            exact add_done HIL.out HLL.out HAE.out (by rw [HN.out]; exact HOE) HBw3.out
          clear HOE
          go_wp2
          go_ret
          exact HFIN.out
      · skip
        obtain ⟨hn0, hcl⟩ := ints_cells HL.out
        have HN0 : Hid (sa = none → N = 0) := fun e => by rw [← HN.out]; exact hn0 e
        have HCLW : Hid (∀ w', Below wr.heap.size wr w' → ∀ bb, sa = some bb → ∀ j (hj : j < l.length), w'.cell? (bb.add j) = some (.int .i64 l[j])) := fun w' hb => (ints_cells (HL.out.later hb)).2
        have hiN' : i ≤ N := by have := HI.out; omega
        have hi0 : (0 : Int) ≤ (i : Int) := by omega
        have hi1 : (i : Int) ≤ (N : Int) := by omega
        have hi2 : (i : Int) ≤ (sc : Int) := by have := HCAP.out; omega
        have hi3 : (N : Int) ≤ (sc : Int) := by have := HCAP.out; omega
        have HIL : Hid (i ≤ l.length) := by rw [HN.out]; exact hiN'
        clear hn0 hcl
        go_wp2_with fail
        refine wp_region_noPanic ?_
        refine wp_region_held (S := fun w' => IntsAt S w' (.slice sa N sc) l) mx ?_
        have hHeld : (fun w' : World => IntsAt S w' (.slice sa N sc) l) wr.drew := HL.out.later ((Below.refl _ _).drew)
        have HBD : Hid (Below wr.heap.size wr wr.drew) := (Below.refl _ _).drew
        change wpAnyH _ _ _ _ (fun w' => IntsAt S w' (.slice sa N sc) l) _ _ _ wr.drew
        try simp only [Act.put, List.getElem_toArray, List.getElem_cons_succ, List.getElem_cons_zero, List.setIfInBounds_toArray, List.set_cons_zero, List.set_cons_succ]
        refine wpAnyH_take (i := 0) (v := ?_) rfl (by kernel_rfl) (by kernel_rfl) (by kernel_rfl) (fun _ _ _ h => h) (Or.inl ⟨by rfl, ?_⟩) (by assumption) ?_
        rotate_left
        · intro w hSw; clear hSw; go_simp; try with_reducible rfl
        try simp only [Act.put, List.getElem_toArray, List.getElem_cons_succ, List.getElem_cons_zero, List.setIfInBounds_toArray, List.set_cons_zero, List.set_cons_succ]
        refine wpAnyH_take (i := 1) (v := ?_) rfl (by kernel_rfl) (by kernel_rfl) (by kernel_rfl) (fun _ _ _ h => h) (Or.inl ⟨by rfl, ?_⟩) (by assumption) ?_
        rotate_left
        · intro w hSw; clear hSw; go_simp; try with_reducible rfl
        try simp only [Act.put, List.getElem_toArray, List.getElem_cons_succ, List.getElem_cons_zero, List.setIfInBounds_toArray, List.set_cons_zero, List.set_cons_succ]
        refine wpAnyH_take (i := 2) (v := ?_) rfl (by kernel_rfl) (by kernel_rfl) (by kernel_rfl) (fun _ _ _ h => h) (Or.inl ⟨by rfl, ?_⟩) (by assumption) ?_
        rotate_left
        · intro w hSw; clear hSw; go_simp; try with_reducible rfl
        try simp only [Act.put, List.getElem_toArray, List.getElem_cons_succ, List.getElem_cons_zero, List.setIfInBounds_toArray, List.set_cons_zero, List.set_cons_succ]
        refine wpAnyH_take (i := 4) (v := ?_) rfl (by kernel_rfl) (by kernel_rfl) (by kernel_rfl) (fun _ _ _ h => h) (Or.inl ⟨by rfl, ?_⟩) (by assumption) ?_
        rotate_left
        · intro w hSw; clear hSw; go_simp; try with_reducible rfl
        try simp only [Act.put, List.getElem_toArray, List.getElem_cons_succ, List.getElem_cons_zero, List.setIfInBounds_toArray, List.set_cons_zero, List.set_cons_succ]
        refine wpAnyH_take (i := 7) (v := ?_) rfl (by kernel_rfl) (by kernel_rfl) (by kernel_rfl) (fun _ _ _ h => h) (Or.inl ⟨by rfl, ?_⟩) (by assumption) ?_
        rotate_left
        · intro w hSw; clear hSw; go_simp; try with_reducible rfl
        try simp only [Act.put, List.getElem_toArray, List.getElem_cons_succ, List.getElem_cons_zero, List.setIfInBounds_toArray, List.set_cons_zero, List.set_cons_succ]
        refine wpAnyH_take (i := 8) (v := ?_) rfl (by kernel_rfl) (by kernel_rfl) (by kernel_rfl) (fun _ _ _ h => h) (Or.inl ⟨by rfl, ?_⟩) (by assumption) ?_
        rotate_left
        · intro w hSw; clear hSw; go_simp; try with_reducible rfl
        try simp only [Act.put, List.getElem_toArray, List.getElem_cons_succ, List.getElem_cons_zero, List.setIfInBounds_toArray, List.set_cons_zero, List.set_cons_succ]
        refine wpAnyH_take (i := 9) (v := ?_) rfl (by kernel_rfl) (by kernel_rfl) (by kernel_rfl) (fun _ _ _ h => h) (Or.inl ⟨by rfl, ?_⟩) (by assumption) ?_
        rotate_left
        · intro w hSw; clear hSw; go_simp; try with_reducible rfl
        try simp only [Act.put, List.getElem_toArray, List.getElem_cons_succ, List.getElem_cons_zero, List.setIfInBounds_toArray, List.set_cons_zero, List.set_cons_succ]
        refine wpAnyH_ready (rs := [3, 5]) (by kernel_rfl) (by simp) ?_
        refine AllReadyH.cons rfl (fun K hK => ?_) (AllReadyH.cons rfl (fun K hK => ?_) AllReadyH.nil)
        · skip
          clear hHeld
          refine step_append_all rfl _ _ 30 rfl wr.heap.size 3 ii (.int .i64 0) 1 8 Tryd.underlying30 HII.out HZ.out HSZ.out HBY.out rfl (by decide) (.slice none 0 0) 0 [] rfl (World.ownsRow_nil _ _ _ _) sa i sc (Go.Proofs.YtndnlmpmloiiiaaDoor.ints (l.take i)) rfl (fun e => by have := HN0.out e; omega) (by simp [Go.Proofs.YtndnlmpmloiiiaaDoor.ints]; have := HIL.out; omega) (fun bb hbb jj u hu => by obtain ⟨hj, rfl⟩ := ints_at hu; rw [List.getElem_take]; exact HCLW.out _ HBD.out bb hbb jj (by simp at hj; omega)) (ints_one _) (by have := HLL.out; have := HN.out; have := HIL.out; unfold maxLen; omega) (by have := HLL.out; have := HN.out; have := HIL.out; omega) (Nat.le_refl _) ?_
          intro v1 w1 how1 hgw1
          have HBw1 : Hid (Below wr.heap.size wr w1) := HBD.out.grown hgw1 HBD.out.size (fun g e => (by simp [Value.ownBlock] at e))
          have HOw1 := Lib.hid how1
          clear how1 hgw1
          refine hK.out _ _ (HL.out.later HBw1.out) (fun hHeld => ?_)
          clear hK K
          try simp only [Act.put, List.getElem_toArray, List.getElem_cons_succ, List.getElem_cons_zero, List.setIfInBounds_toArray, List.set_cons_zero, List.set_cons_succ]
          try simp only [Act.put, List.getElem_toArray, List.getElem_cons_succ, List.getElem_cons_zero, List.setIfInBounds_toArray, List.set_cons_zero, List.set_cons_succ]
          refine wpAnyH_ready (rs := [5]) (by kernel_rfl) (by simp) ?_
          refine AllReadyH.cons rfl (fun K hK => ?_) AllReadyH.nil
          clear hHeld
          go_simp
          have HB5 : Hid (Below wr.heap.size wr (w1.alloc (.cells #[.int .i64 n] 3))) := HBw1.out.alloc HBw1.out.size _
          refine hK.out _ _ (HL.out.later HB5.out) (fun hHeld => ?_)
          clear hK K
          try simp only [Act.put, List.getElem_toArray, List.getElem_cons_succ, List.getElem_cons_zero, List.setIfInBounds_toArray, List.set_cons_zero, List.set_cons_succ]
          try simp only [Act.put, List.getElem_toArray, List.getElem_cons_succ, List.getElem_cons_zero, List.setIfInBounds_toArray, List.set_cons_zero, List.set_cons_succ]
          refine wpAnyH_ready (rs := [6]) (by kernel_rfl) (by simp) ?_
          refine AllReadyH.cons rfl (fun K hK => ?_) AllReadyH.nil
          clear hHeld
          refine step_append_all rfl _ _ 30 rfl wr.heap.size 3 ii (.int .i64 0) 1 8 Tryd.underlying30 HII.out HZ.out HSZ.out HBY.out rfl (by decide) v1 (0 + i) ([] ++ Go.Proofs.YtndnlmpmloiiiaaDoor.ints (l.take i)) rfl (HOw1.out.alloc _) (some ⟨w1.heap.size, 0, none⟩) 1 1 [.int .i64 n] rfl (fun e => (by cases e)) (rfl) (fun bb hbb j u hu => by cases hbb; exact one_new' w1 _ _ j u hu) (by intro u hu; simp at hu; subst hu; rfl) (by have := HLL.out; have := HN.out; have := HIL.out; unfold maxLen; omega) (by have := HLL.out; have := HN.out; have := HIL.out; omega) (HB5.out.size) ?_
          intro v2 w2 how2 hgw2
          have HBw2 : Hid (Below wr.heap.size wr w2) := HB5.out.grown hgw2 HB5.out.size (fun g e => (HOw1.out).lt g e |>.1)
          have HOw2 := Lib.hid how2
          clear how2 hgw2
          refine hK.out _ _ (HL.out.later HBw2.out) (fun hHeld => ?_)
          clear hK K
          try simp only [Act.put, List.getElem_toArray, List.getElem_cons_succ, List.getElem_cons_zero, List.setIfInBounds_toArray, List.set_cons_zero, List.set_cons_succ]
          try simp only [Act.put, List.getElem_toArray, List.getElem_cons_succ, List.getElem_cons_zero, List.setIfInBounds_toArray, List.set_cons_zero, List.set_cons_succ]
          refine wpAnyH_ready (rs := [10]) (by kernel_rfl) (by simp) ?_
          refine AllReadyH.cons rfl (fun K hK => ?_) AllReadyH.nil
          clear hHeld
          refine step_append_all rfl _ _ 30 rfl wr.heap.size 3 ii (.int .i64 0) 1 8 Tryd.underlying30 HII.out HZ.out HSZ.out HBY.out rfl (by decide) v2 (0 + i + 1) ([] ++ Go.Proofs.YtndnlmpmloiiiaaDoor.ints (l.take i) ++ [.int .i64 n]) rfl (HOw2.out) _ (N - i) (sc - i) (Go.Proofs.YtndnlmpmloiiiaaDoor.ints (l.drop i)) rfl (fun e => by omega) (by simp [Go.Proofs.YtndnlmpmloiiiaaDoor.ints]; have := HN.out; omega) (fun bb hbb jj u hu => by obtain ⟨hj, rfl⟩ := ints_at hu; simp at hj; have := HN.out; omega) (ints_one _) (by have := HLL.out; have := HN.out; have := HIL.out; unfold maxLen; omega) (by have := HLL.out; have := HN.out; have := HIL.out; omega) (HBw2.out.size) ?_
          intro v3 w3 how3 hgw3
          have HBw3 : Hid (Below wr.heap.size wr w3) := HBw2.out.grown hgw3 HBw2.out.size (fun g e => (HOw2.out).lt g e |>.1)
          have HOw3 := Lib.hid how3
          clear how3 hgw3
          refine hK.out _ _ (HL.out.later HBw3.out) (fun hHeld => ?_)
          clear hK K
          try simp only [Act.put, List.getElem_toArray, List.getElem_cons_succ, List.getElem_cons_zero, List.setIfInBounds_toArray, List.set_cons_zero, List.set_cons_succ]
          try simp only [Act.put, List.getElem_toArray, List.getElem_cons_succ, List.getElem_cons_zero, List.setIfInBounds_toArray, List.set_cons_zero, List.set_cons_succ]
          refine wpAnyH_take (i := 11) (v := ?_) rfl (by kernel_rfl) (by kernel_rfl) (by kernel_rfl) (fun _ _ _ h => h) (Or.inl ⟨by rfl, ?_⟩) (by assumption) ?_
          rotate_left
          · intro w hSw; clear hSw; go_simp; try with_reducible rfl
          try simp only [Act.put, List.getElem_toArray, List.getElem_cons_succ, List.getElem_cons_zero, List.setIfInBounds_toArray, List.set_cons_zero, List.set_cons_succ]
          refine wpAnyH_done (by kernel_rfl) ?_ _
          refine NoPanic.normal ?_
          clear hHeld
          have HOE := HOw3.out
          simp only [Nat.zero_add, List.nil_append] at HOE
          have HFIN : Hid (AddOut S res wr (.returned v3) w3) := by
            show AddOut _ _ _ _ _
            rw [← HR.out]
            exact add_done HIL.out HLL.out HAE.out (by rw [HN.out]; exact HOE) HBw3.out
          clear HOE
          go_wp2
          go_ret
          exact HFIN.out
        · clear hHeld
          go_simp
          have HB5 : Hid (Below wr.heap.size wr (wr.drew.alloc (.cells #[.int .i64 n] 3))) := HBD.out.alloc HBD.out.size _
          refine hK.out _ _ (HL.out.later HB5.out) (fun hHeld => ?_)
          clear hK K
          try simp only [Act.put, List.getElem_toArray, List.getElem_cons_succ, List.getElem_cons_zero, List.setIfInBounds_toArray, List.set_cons_zero, List.set_cons_succ]
          try simp only [Act.put, List.getElem_toArray, List.getElem_cons_succ, List.getElem_cons_zero, List.setIfInBounds_toArray, List.set_cons_zero, List.set_cons_succ]
          refine wpAnyH_ready (rs := [3]) (by kernel_rfl) (by simp) ?_
          refine AllReadyH.cons rfl (fun K hK => ?_) AllReadyH.nil
          clear hHeld
          refine step_append_all rfl _ _ 30 rfl wr.heap.size 3 ii (.int .i64 0) 1 8 Tryd.underlying30 HII.out HZ.out HSZ.out HBY.out rfl (by decide) (.slice none 0 0) 0 [] rfl (World.ownsRow_nil _ _ _ _) sa i sc (Go.Proofs.YtndnlmpmloiiiaaDoor.ints (l.take i)) rfl (fun e => by have := HN0.out e; omega) (by simp [Go.Proofs.YtndnlmpmloiiiaaDoor.ints]; have := HIL.out; omega) (fun bb hbb jj u hu => by obtain ⟨hj, rfl⟩ := ints_at hu; rw [List.getElem_take]; exact HCLW.out _ HB5.out bb hbb jj (by simp at hj; omega)) (ints_one _) (by have := HLL.out; have := HN.out; have := HIL.out; unfold maxLen; omega) (by have := HLL.out; have := HN.out; have := HIL.out; omega) (HB5.out.size) ?_
          intro v1 w1 how1 hgw1
          have HBw1 : Hid (Below wr.heap.size wr w1) := HB5.out.grown hgw1 HB5.out.size (fun g e => (by simp [Value.ownBlock] at e))
          have HOw1 := Lib.hid how1
          have HG1K : Hid (∀ j u, [Value.int .i64 n][j]? = some u → w1.cell? ((⟨wr.heap.size, 0, none⟩ : Addr).add j) = some u) := fun j u hu => hgw1.cell (one_new' wr.drew _ _ j u hu) (by simp [Value.ownBlock])
          clear how1 hgw1
          refine hK.out _ _ (HL.out.later HBw1.out) (fun hHeld => ?_)
          clear hK K
          try simp only [Act.put, List.getElem_toArray, List.getElem_cons_succ, List.getElem_cons_zero, List.setIfInBounds_toArray, List.set_cons_zero, List.set_cons_succ]
          have hkept : ∀ j u, [Value.int .i64 n][j]? = some u → w1.cell? ((⟨wr.heap.size, 0, none⟩ : Addr).add j) = some u := fun j u hu => HG1K.out j u hu
          try simp only [Act.put, List.getElem_toArray, List.getElem_cons_succ, List.getElem_cons_zero, List.setIfInBounds_toArray, List.set_cons_zero, List.set_cons_succ]
          refine wpAnyH_ready (rs := [6]) (by kernel_rfl) (by simp) ?_
          refine AllReadyH.cons rfl (fun K hK => ?_) AllReadyH.nil
          clear hHeld
          refine step_append_all rfl _ _ 30 rfl wr.heap.size 3 ii (.int .i64 0) 1 8 Tryd.underlying30 HII.out HZ.out HSZ.out HBY.out rfl (by decide) v1 (0 + i) ([] ++ Go.Proofs.YtndnlmpmloiiiaaDoor.ints (l.take i)) rfl (HOw1.out) (some ⟨wr.heap.size, 0, none⟩) 1 1 [.int .i64 n] rfl (fun e => (by cases e)) (rfl) (fun bb hbb j u hu => by cases hbb; exact hkept j u hu) (by intro u hu; simp at hu; subst hu; rfl) (by have := HLL.out; have := HN.out; have := HIL.out; unfold maxLen; omega) (by have := HLL.out; have := HN.out; have := HIL.out; omega) (HBw1.out.size) ?_
          intro v2 w2 how2 hgw2
          have HBw2 : Hid (Below wr.heap.size wr w2) := HBw1.out.grown hgw2 HBw1.out.size (fun g e => (HOw1.out).lt g e |>.1)
          have HOw2 := Lib.hid how2
          clear how2 hgw2
          refine hK.out _ _ (HL.out.later HBw2.out) (fun hHeld => ?_)
          clear hK K
          try simp only [Act.put, List.getElem_toArray, List.getElem_cons_succ, List.getElem_cons_zero, List.setIfInBounds_toArray, List.set_cons_zero, List.set_cons_succ]
          try simp only [Act.put, List.getElem_toArray, List.getElem_cons_succ, List.getElem_cons_zero, List.setIfInBounds_toArray, List.set_cons_zero, List.set_cons_succ]
          refine wpAnyH_ready (rs := [10]) (by kernel_rfl) (by simp) ?_
          refine AllReadyH.cons rfl (fun K hK => ?_) AllReadyH.nil
          clear hHeld
          refine step_append_all rfl _ _ 30 rfl wr.heap.size 3 ii (.int .i64 0) 1 8 Tryd.underlying30 HII.out HZ.out HSZ.out HBY.out rfl (by decide) v2 (0 + i + 1) ([] ++ Go.Proofs.YtndnlmpmloiiiaaDoor.ints (l.take i) ++ [.int .i64 n]) rfl (HOw2.out) _ (N - i) (sc - i) (Go.Proofs.YtndnlmpmloiiiaaDoor.ints (l.drop i)) rfl (fun e => by omega) (by simp [Go.Proofs.YtndnlmpmloiiiaaDoor.ints]; have := HN.out; omega) (fun bb hbb jj u hu => by obtain ⟨hj, rfl⟩ := ints_at hu; simp at hj; have := HN.out; omega) (ints_one _) (by have := HLL.out; have := HN.out; have := HIL.out; unfold maxLen; omega) (by have := HLL.out; have := HN.out; have := HIL.out; omega) (HBw2.out.size) ?_
          intro v3 w3 how3 hgw3
          have HBw3 : Hid (Below wr.heap.size wr w3) := HBw2.out.grown hgw3 HBw2.out.size (fun g e => (HOw2.out).lt g e |>.1)
          have HOw3 := Lib.hid how3
          clear how3 hgw3
          refine hK.out _ _ (HL.out.later HBw3.out) (fun hHeld => ?_)
          clear hK K
          try simp only [Act.put, List.getElem_toArray, List.getElem_cons_succ, List.getElem_cons_zero, List.setIfInBounds_toArray, List.set_cons_zero, List.set_cons_succ]
          try simp only [Act.put, List.getElem_toArray, List.getElem_cons_succ, List.getElem_cons_zero, List.setIfInBounds_toArray, List.set_cons_zero, List.set_cons_succ]
          refine wpAnyH_take (i := 11) (v := ?_) rfl (by kernel_rfl) (by kernel_rfl) (by kernel_rfl) (fun _ _ _ h => h) (Or.inl ⟨by rfl, ?_⟩) (by assumption) ?_
          rotate_left
          · intro w hSw; clear hSw; go_simp; try with_reducible rfl
          try simp only [Act.put, List.getElem_toArray, List.getElem_cons_succ, List.getElem_cons_zero, List.setIfInBounds_toArray, List.set_cons_zero, List.set_cons_succ]
          refine wpAnyH_done (by kernel_rfl) ?_ _
          refine NoPanic.normal ?_
          clear hHeld
          have HOE := HOw3.out
          simp only [Nat.zero_add, List.nil_append] at HOE
          have HFIN : Hid (AddOut S res wr (.returned v3) w3) := by
            show AddOut _ _ _ _ _
            rw [← HR.out]
            exact add_done HIL.out HLL.out HAE.out (by rw [HN.out]; exact HOE) HBw3.out
          clear HOE
          go_wp2
          go_ret
          exact HFIN.out
end Go.Proofs.YtndnlmpmloiiiaaDoor
/- The contracts of the reference's gather and Columns. -/
set_option linter.unusedSimpArgs false
set_option linter.unusedVariables false
namespace Go.Proofs.YtndnlmpmloiiiaaDoor
open Go.RowKit

theorem foldl_length : ∀ (C l : List Int), (C.foldl addI l).length ≤ l.length + C.length
  | [], l => by simp
  | n :: C, l => by
    rw [List.foldl_cons]
    have h1 := foldl_length C (addI l n)
    have h2 := addI_length l n
    simp only [List.length_cons]; omega
/-- An ascending list at hand, and what the call has changed. -/
def LOut (L : List Int) (w : World) (v : Value) (w' : World) : Prop := ∃ (a : Option Addr) (cap : Nat), v = .slice a L.length cap ∧ L.length ≤ cap ∧ IntsAt (fun _ => True) w' (.slice a L.length cap) L ∧ Below w.heap.size w w'
def GOut (L : List Int) (w : World) (e : Ending) (w' : World) : Prop := ∃ v, e = .returned v ∧ LOut L w v w'
theorem AddOut.out {L : List Int} {w : World} {e : Ending} {w' : World} (h : AddOut (fun _ => True) L w e w') : GOut L w e w' := by
  obtain ⟨a, cap, rfl, h1, h2, h3⟩ := h
  exact ⟨_, rfl, a, cap, rfl, h1, h2.mono fun _ _ _ => trivial, h3⟩
def GatherAt (k : Nat) (p : Pr) : Prop :=
  ∀ (s : Value) (c : List Int) (v : Value) (w : World), PrIn (fun _ => True) w k s p.args → LOut c w v w → c.length + (colsP p).length + 3 ≤ 4398046511104 → Calls Tryd.prog 51 #[p.val s, v] w (GOut ((colsP p).foldl addI c) w)
theorem colsL_len {ps : List Pr} {j : Nat} (h : j < ps.length) : (colsL (ps.take j)).length + (colsP ps[j]).length ≤ (colsL ps).length := by
  have h1 := colsL_le ps (j + 1)
  rw [colsL_take h, List.length_append] at h1
  exact h1
set_option maxHeartbeats 8000000 in
set_option maxRecDepth 100000 in
theorem gather_step (k : Nat) (p : Pr) (ih : ∀ q ∈ p.args, GatherAt k q) : GatherAt (k + 1) p := by
  intro s c v0 w hp hc hlen
  have mx := mixed
  obtain ⟨ca, cc, rfl, hcc, hci, -⟩ := hc
  obtain ⟨sa, sc, rfl, hsl⟩ := hp.shape
  obtain ⟨W, hW⟩ : ∃ W, W = w.alloc (pBlock p (.slice sa p.args.length sc) 29) := ⟨_, rfl⟩
  have hg : Gro w W := by rw [hW]; exact (Gro.refl w).alloc _
  have HBX : Hid (PBox W w.heap.size p (.slice sa p.args.length sc)) := by show PBox _ _ _ _; rw [hW]; exact PBox.new w p _ _
  have HP := Lib.hid (hp.later hg.below)
  have HC : Hid (IntsAt (fun _ => True) W (.slice ca c.length cc) c) := hci.later hg.below
  have HCC : Hid (c.length ≤ cc) := hcc
  have HG := Lib.hid hg
  have HIH := Lib.hid ih
  have HW := Lib.hid hW
  clear hp hg ih hW hci hcc
  obtain ⟨op, cmp, ⟨lk, li, ⟨lvk, lvn, lvt⟩⟩, ⟨rk, ri, ⟨rvk, rvn, rvt⟩⟩, args⟩ := p
  replace HW : Hid (W = w.alloc (.cells #[.int .i64 op, .int .i64 cmp, .int .i64 lk, .int .i64 li, .int .i64 lvk, .int .i64 lvn, .string lvt, .int .i64 rk, .int .i64 ri, .int .i64 rvk, .int .i64 rvn, .string rvt, .slice sa args.length sc] 29)) := HW.out
  replace HP : Hid (PrIn (fun _ => True) W (k + 1) (.slice sa args.length sc) args) := HP.out
  replace hsl : args.length ≤ 4398046511104 := hsl
  replace HIH : Hid (∀ q ∈ args, GatherAt k q) := HIH.out
  replace HBX : Hid (PBox W w.heap.size (.mk op cmp ⟨lk, li, ⟨lvk, lvn, lvt⟩⟩ ⟨rk, ri, ⟨rvk, rvn, rvt⟩⟩ args) (.slice sa args.length sc)) := HBX.out
  rw [colsP_eq] at hlen ⊢
  rw [List.foldl_append]
  obtain ⟨HD, hHD⟩ : ∃ HD, (if op = 3 then opdCols ⟨lk, li, ⟨lvk, lvn, lvt⟩⟩ ++ opdCols ⟨rk, ri, ⟨rvk, rvn, rvt⟩⟩ else []) = HD := ⟨_, rfl⟩
  rw [hHD] at hlen ⊢
  obtain ⟨L1, hL1⟩ : ∃ L1, HD.foldl addI c = L1 := ⟨_, rfl⟩
  rw [hL1]
  have HLEN2 : Hid (c.length + 3 ≤ 4398046511104) := by show _ ≤ _; omega
  have HLEN : Hid (c.length + (HD.length + (colsL args).length) + 3 ≤ 4398046511104) := by show _ ≤ _; rw [List.length_append] at hlen; exact hlen
  have HL1 : Hid (L1.length ≤ c.length + HD.length) := by show _ ≤ _; rw [← hL1]; exact foldl_length _ _
  have HHD := Lib.hid hHD
  have HLL := Lib.hid hL1
  clear hlen hHD hL1
  show Calls _ _ #[.agg #[.int .i64 op, .int .i64 cmp, .int .i64 lk, .int .i64 li, .int .i64 lvk, .int .i64 lvn, .string lvt, .int .i64 rk, .int .i64 ri, .int .i64 rvk, .int .i64 rvn, .string rvt, .slice sa args.length sc], .slice ca c.length cc] _ _
  obtain ⟨N, hN⟩ : ∃ N, args.length = N := ⟨_, rfl⟩
  rw [hN] at HW HP HBX hsl ⊢
  have HN := Lib.hid hN
  clear hN
  go_enter Tryd.func51, Tryd.ntmps51
  go_upto_if 10 with fail
  rw [← HW.out]
  clear HW
  obtain ⟨l, b0, b1, b2, b3, b4, b5, b6, b7, b8, b9, b10, b11, b12⟩ := HBX.out
  simp only [Pr.op, Pr.cmp, Pr.l, Pr.r, Pr.args] at b0 b1 b2 b3 b4 b5 b6 b7 b8 b9 b10 b11 b12
  go_cut [1] from 11 to 33 (fun v wr => LOut L1 W v wr)
  case first =>
    by_cases h3 : op = 3
    · subst h3
      have HHE : Hid (HD = opdCols ⟨lk, li, ⟨lvk, lvn, lvt⟩⟩ ++ opdCols ⟨rk, ri, ⟨rvk, rvn, rvt⟩⟩) := by show _ = _; rw [← HHD.out, if_pos rfl]
      obtain ⟨W2, hW2⟩ : ∃ W2, W2 = W.alloc (.cells #[.int .i64 lk, .int .i64 li, .int .i64 lvk, .int .i64 lvn, .string lvt, .int .i64 rk, .int .i64 ri, .int .i64 rvk, .int .i64 rvn, .string rvt] 26) := ⟨_, rfl⟩
      have hal : Below W.heap.size W W2 := by rw [hW2]; exact (Below.refl _ _).alloc (Nat.le_refl _) _
      have HAL := Lib.hid hal
      have HO2 : Hid (∀ w', Below W2.heap.size W2 w' → W.heap.size < w'.heap.size ∧ w'.cell? ⟨W.heap.size, 0, none⟩ = some (.int .i64 lk) ∧ w'.cell? ⟨W.heap.size, 1, none⟩ = some (.int .i64 li) ∧ w'.cell? ⟨W.heap.size, 2, none⟩ = some (.int .i64 lvk) ∧ w'.cell? ⟨W.heap.size, 3, none⟩ = some (.int .i64 lvn) ∧ w'.cell? ⟨W.heap.size, 4, none⟩ = some (.string lvt) ∧ w'.cell? ⟨W.heap.size, 5, none⟩ = some (.int .i64 rk) ∧ w'.cell? ⟨W.heap.size, 6, none⟩ = some (.int .i64 ri) ∧ w'.cell? ⟨W.heap.size, 7, none⟩ = some (.int .i64 rvk) ∧ w'.cell? ⟨W.heap.size, 8, none⟩ = some (.int .i64 rvn) ∧ w'.cell? ⟨W.heap.size, 9, none⟩ = some (.string rvt)) := fun w' h => by
        have hs : W.heap.size < W2.heap.size := by rw [hW2]; simp
        refine ⟨Nat.lt_of_lt_of_le hs h.size, (h.cell (p := ⟨W.heap.size, 0, none⟩) hs).trans (by rw [hW2]; go_simp), (h.cell (p := ⟨W.heap.size, 1, none⟩) hs).trans (by rw [hW2]; go_simp), (h.cell (p := ⟨W.heap.size, 2, none⟩) hs).trans (by rw [hW2]; go_simp), (h.cell (p := ⟨W.heap.size, 3, none⟩) hs).trans (by rw [hW2]; go_simp), (h.cell (p := ⟨W.heap.size, 4, none⟩) hs).trans (by rw [hW2]; go_simp), (h.cell (p := ⟨W.heap.size, 5, none⟩) hs).trans (by rw [hW2]; go_simp), (h.cell (p := ⟨W.heap.size, 6, none⟩) hs).trans (by rw [hW2]; go_simp), (h.cell (p := ⟨W.heap.size, 7, none⟩) hs).trans (by rw [hW2]; go_simp), (h.cell (p := ⟨W.heap.size, 8, none⟩) hs).trans (by rw [hW2]; go_simp), (h.cell (p := ⟨W.heap.size, 9, none⟩) hs).trans (by rw [hW2]; go_simp)⟩
      have HC2 : Hid (LOut c W2 (.slice ca c.length cc) W2) := ⟨ca, cc, rfl, HCC.out, HC.out.later hal, Below.refl _ _⟩
      have HW2 := Lib.hid hW2
      clear hal hW2
      go_wp2_with fail
      rw [← HW2.out]
      clear HW2 HBX HP HIH b0 b1 b2 b3 b4 b5 b6 b7 b8 b9 b10 b11 b12 l
      generalize W.heap.size = gA at HO2 ⊢
      go_loopw [1, 17] (fun v1 v17 wr => ∃ j : Nat, v17 = .int .i64 j ∧ j ≤ 2 ∧ LOut ((opsCols ⟨lk, li, ⟨lvk, lvn, lvt⟩⟩ ⟨rk, ri, ⟨rvk, rvn, rvt⟩⟩ j).foldl addI c) W2 v1 wr) (fun _ v17 _ => 2 - (intOf v17).toNat)
      case atStart => exact ⟨0, rfl, by omega, HC2.out⟩
      case round =>
        obtain ⟨j, rfl, hj, hlo⟩ := hrel
        obtain ⟨wo, rfl⟩ : ∃ wo : World, wo = wr := ⟨_, rfl⟩
        obtain ⟨a, cap, rfl, hcap, hin, hbl⟩ := hlo
        have HCAP := Lib.hid hcap
        have HIN := Lib.hid hin
        have HBL := Lib.hid hbl
        clear hcap hin
        by_cases h2 : j = 2
        · subst h2
          have HE : Hid ((opsCols ⟨lk, li, ⟨lvk, lvn, lvt⟩⟩ ⟨rk, ri, ⟨rvk, rvn, rvt⟩⟩ 2).foldl addI c = L1) := by show _ = _; rw [← HLL.out, HHE.out]; rfl
          rw [HE.out] at HCAP HIN ⊢
          have HBW : Hid (Below W.heap.size W wo) := HAL.out.trans (hbl.mono HAL.out.size)
          clear hbl
          go_wp2_with fail
          go_meet
          case rel => exact ⟨a, cap, rfl, HCAP.out, HIN.out, HBW.out⟩
        · obtain ⟨hs, o0, o1, o2, o3, o4, o5, o6, o7, o8, o9⟩ := HO2.out wo hbl
          clear hbl
          have hlt2 : j < 2 := by omega
          have hwk := step_i j (by omega)
          obtain rfl | rfl : j = 0 ∨ j = 1 := by omega
          · obtain ⟨w5, hw5⟩ : ∃ w5, w5 = wo.alloc (.cells #[.int .i64 lk, .int .i64 li, .int .i64 lvk, .int .i64 lvn, .string lvt] 26) := ⟨_, rfl⟩
            have hb5 : Below wo.heap.size wo w5 := by rw [hw5]; exact (Below.refl _ _).alloc (Nat.le_refl _) _
            obtain ⟨LC, hLC⟩ : ∃ LC, (opsCols ⟨lk, li, ⟨lvk, lvn, lvt⟩⟩ ⟨rk, ri, ⟨rvk, rvn, rvt⟩⟩ 0).foldl addI c = LC := ⟨_, rfl⟩
            have HLC : Hid (LC.length ≤ c.length + 0) := by
              show _ ≤ _
              rw [← hLC]
              have h := foldl_length (opsCols ⟨lk, li, ⟨lvk, lvn, lvt⟩⟩ ⟨rk, ri, ⟨rvk, rvn, rvt⟩⟩ 0) c
              have h2 : (opsCols ⟨lk, li, ⟨lvk, lvn, lvt⟩⟩ ⟨rk, ri, ⟨rvk, rvn, rvt⟩⟩ 0).length ≤ 0 := by show ([] : List Int).length ≤ 0; simp
              omega
            have HLCE := Lib.hid hLC
            rw [hLC] at HCAP HIN ⊢
            have HIN5 : Hid (IntsAt (fun _ => True) w5 (.slice a LC.length cap) LC) := HIN.out.later hb5
            have HB5 : Hid (Below W2.heap.size W2 w5) := HBL.out.trans (hb5.mono HBL.out.size)
            have HW5 := Lib.hid hw5
            clear hb5 hw5 hLC
            by_cases hk : lk = 1
            · subst hk
              by_cases hi : 0 ≤ li
              · have d1 : decide (li ≥ 0) = true := by simpa using hi
                have d1' : decide (0 ≤ li) = true := by simpa using hi
                have HNX : Hid ((opsCols ⟨1, li, ⟨lvk, lvn, lvt⟩⟩ ⟨rk, ri, ⟨rvk, rvn, rvt⟩⟩ 1).foldl addI c = addI LC li) := by
                  show _ = _
                  rw [← HLCE.out]
                  rw [show (opsCols ⟨1, li, ⟨lvk, lvn, lvt⟩⟩ ⟨rk, ri, ⟨rvk, rvn, rvt⟩⟩ 1) = opsCols ⟨1, li, ⟨lvk, lvn, lvt⟩⟩ ⟨rk, ri, ⟨rvk, rvn, rvt⟩⟩ 0 ++ [li] from by simp [opsCols, opdCols, hi], List.foldl_append]; rfl
                have HADD : Hid (Calls Tryd.prog 72 #[.slice a LC.length cap, .int .i64 li] w5 (AddOut (fun _ => True) (addI LC li) w5)) := refAdd_calls (fun _ => True) a cap LC li w5 HIN5.out HCAP.out (by have := HLC.out; have := HLEN2.out; omega)
                go_wp2_with fail
                rw [← HW5.out]
                refine HADD.out.mono ?_
                rintro e w6 hao
                obtain ⟨v6, rfl, a6, cap6, rfl, hcap6, hin6, hbl6⟩ := AddOut.out hao
                have HB6 : Hid (Below W2.heap.size W2 w6) := HB5.out.trans (hbl6.mono HB5.out.size)
                have HLO : Hid (LOut ((opsCols ⟨1, li, ⟨lvk, lvn, lvt⟩⟩ ⟨rk, ri, ⟨rvk, rvn, rvt⟩⟩ 1).foldl addI c) W2 (.slice a6 (addI LC li).length cap6) w6) := by
                  show LOut _ _ _ _
                  rw [HNX.out]
                  exact ⟨a6, cap6, rfl, hcap6, hin6, HB6.out⟩
                clear hao hcap6 hin6 hbl6 HADD HW5
                go_wp2_with fail
                exact ⟨⟨1, rfl, by omega, HLO.out⟩, by simp [intOf]⟩
              · have d1 : decide (li ≥ 0) = false := by simpa using hi
                have d1' : decide (0 ≤ li) = false := by simpa using hi
                have HLO : Hid (LOut ((opsCols ⟨1, li, ⟨lvk, lvn, lvt⟩⟩ ⟨rk, ri, ⟨rvk, rvn, rvt⟩⟩ 1).foldl addI c) W2 (.slice a LC.length cap) w5) := by
                  show LOut _ _ _ _
                  rw [show (opsCols ⟨1, li, ⟨lvk, lvn, lvt⟩⟩ ⟨rk, ri, ⟨rvk, rvn, rvt⟩⟩ 1).foldl addI c = LC from by rw [← HLCE.out]; simp [opsCols, opdCols, hi]]
                  exact ⟨a, cap, rfl, HCAP.out, HIN5.out, HB5.out⟩
                go_wp2_with fail
                rw [← HW5.out]
                exact ⟨⟨1, rfl, by omega, HLO.out⟩, by simp [intOf]⟩
            · have hk' : (lk == 1) = false := by simpa using hk
              have HLO : Hid (LOut ((opsCols ⟨lk, li, ⟨lvk, lvn, lvt⟩⟩ ⟨rk, ri, ⟨rvk, rvn, rvt⟩⟩ 1).foldl addI c) W2 (.slice a LC.length cap) w5) := by
                show LOut _ _ _ _
                rw [show (opsCols ⟨lk, li, ⟨lvk, lvn, lvt⟩⟩ ⟨rk, ri, ⟨rvk, rvn, rvt⟩⟩ 1).foldl addI c = LC from by rw [← HLCE.out]; simp [opsCols, opdCols, hk]]
                exact ⟨a, cap, rfl, HCAP.out, HIN5.out, HB5.out⟩
              go_wp2_with fail
              rw [← HW5.out]
              exact ⟨⟨1, rfl, by omega, HLO.out⟩, by simp [intOf]⟩
          · obtain ⟨w5, hw5⟩ : ∃ w5, w5 = wo.alloc (.cells #[.int .i64 rk, .int .i64 ri, .int .i64 rvk, .int .i64 rvn, .string rvt] 26) := ⟨_, rfl⟩
            have hb5 : Below wo.heap.size wo w5 := by rw [hw5]; exact (Below.refl _ _).alloc (Nat.le_refl _) _
            obtain ⟨LC, hLC⟩ : ∃ LC, (opsCols ⟨lk, li, ⟨lvk, lvn, lvt⟩⟩ ⟨rk, ri, ⟨rvk, rvn, rvt⟩⟩ 1).foldl addI c = LC := ⟨_, rfl⟩
            have HLC : Hid (LC.length ≤ c.length + 1) := by
              show _ ≤ _
              rw [← hLC]
              have h := foldl_length (opsCols ⟨lk, li, ⟨lvk, lvn, lvt⟩⟩ ⟨rk, ri, ⟨rvk, rvn, rvt⟩⟩ 1) c
              have h2 : (opsCols ⟨lk, li, ⟨lvk, lvn, lvt⟩⟩ ⟨rk, ri, ⟨rvk, rvn, rvt⟩⟩ 1).length ≤ 1 := by show (opdCols _).length ≤ 1; unfold opdCols; split <;> simp
              omega
            have HLCE := Lib.hid hLC
            rw [hLC] at HCAP HIN ⊢
            have HIN5 : Hid (IntsAt (fun _ => True) w5 (.slice a LC.length cap) LC) := HIN.out.later hb5
            have HB5 : Hid (Below W2.heap.size W2 w5) := HBL.out.trans (hb5.mono HBL.out.size)
            have HW5 := Lib.hid hw5
            clear hb5 hw5 hLC
            by_cases hk : rk = 1
            · subst hk
              by_cases hi : 0 ≤ ri
              · have d1 : decide (ri ≥ 0) = true := by simpa using hi
                have d1' : decide (0 ≤ ri) = true := by simpa using hi
                have HNX : Hid ((opsCols ⟨lk, li, ⟨lvk, lvn, lvt⟩⟩ ⟨1, ri, ⟨rvk, rvn, rvt⟩⟩ 2).foldl addI c = addI LC ri) := by
                  show _ = _
                  rw [← HLCE.out]
                  rw [show (opsCols ⟨lk, li, ⟨lvk, lvn, lvt⟩⟩ ⟨1, ri, ⟨rvk, rvn, rvt⟩⟩ 2) = opsCols ⟨lk, li, ⟨lvk, lvn, lvt⟩⟩ ⟨1, ri, ⟨rvk, rvn, rvt⟩⟩ 1 ++ [ri] from by simp [opsCols, opdCols, hi], List.foldl_append]; rfl
                have HADD : Hid (Calls Tryd.prog 72 #[.slice a LC.length cap, .int .i64 ri] w5 (AddOut (fun _ => True) (addI LC ri) w5)) := refAdd_calls (fun _ => True) a cap LC ri w5 HIN5.out HCAP.out (by have := HLC.out; have := HLEN2.out; omega)
                go_wp2_with fail
                rw [← HW5.out]
                refine HADD.out.mono ?_
                rintro e w6 hao
                obtain ⟨v6, rfl, a6, cap6, rfl, hcap6, hin6, hbl6⟩ := AddOut.out hao
                have HB6 : Hid (Below W2.heap.size W2 w6) := HB5.out.trans (hbl6.mono HB5.out.size)
                have HLO : Hid (LOut ((opsCols ⟨lk, li, ⟨lvk, lvn, lvt⟩⟩ ⟨1, ri, ⟨rvk, rvn, rvt⟩⟩ 2).foldl addI c) W2 (.slice a6 (addI LC ri).length cap6) w6) := by
                  show LOut _ _ _ _
                  rw [HNX.out]
                  exact ⟨a6, cap6, rfl, hcap6, hin6, HB6.out⟩
                clear hao hcap6 hin6 hbl6 HADD HW5
                go_wp2_with fail
                exact ⟨⟨2, rfl, by omega, HLO.out⟩, by simp [intOf]⟩
              · have d1 : decide (ri ≥ 0) = false := by simpa using hi
                have d1' : decide (0 ≤ ri) = false := by simpa using hi
                have HLO : Hid (LOut ((opsCols ⟨lk, li, ⟨lvk, lvn, lvt⟩⟩ ⟨1, ri, ⟨rvk, rvn, rvt⟩⟩ 2).foldl addI c) W2 (.slice a LC.length cap) w5) := by
                  show LOut _ _ _ _
                  rw [show (opsCols ⟨lk, li, ⟨lvk, lvn, lvt⟩⟩ ⟨1, ri, ⟨rvk, rvn, rvt⟩⟩ 2).foldl addI c = LC from by rw [← HLCE.out]; simp [opsCols, opdCols, hi]]
                  exact ⟨a, cap, rfl, HCAP.out, HIN5.out, HB5.out⟩
                go_wp2_with fail
                rw [← HW5.out]
                exact ⟨⟨2, rfl, by omega, HLO.out⟩, by simp [intOf]⟩
            · have hk' : (rk == 1) = false := by simpa using hk
              have HLO : Hid (LOut ((opsCols ⟨lk, li, ⟨lvk, lvn, lvt⟩⟩ ⟨rk, ri, ⟨rvk, rvn, rvt⟩⟩ 2).foldl addI c) W2 (.slice a LC.length cap) w5) := by
                show LOut _ _ _ _
                rw [show (opsCols ⟨lk, li, ⟨lvk, lvn, lvt⟩⟩ ⟨rk, ri, ⟨rvk, rvn, rvt⟩⟩ 2).foldl addI c = LC from by rw [← HLCE.out]; simp [opsCols, opdCols, hk]]
                exact ⟨a, cap, rfl, HCAP.out, HIN5.out, HB5.out⟩
              go_wp2_with fail
              rw [← HW5.out]
              exact ⟨⟨2, rfl, by omega, HLO.out⟩, by simp [intOf]⟩
    · have h3' : (op == 3) = false := by simpa using h3
      have HE : Hid (L1 = c) := by show _ = _; rw [← HLL.out, ← HHD.out, if_neg h3]; rfl
      go_wp2_with fail
      go_meet
      case rel => rw [HE.out]; exact ⟨ca, cc, rfl, HCC.out, HC.out, Below.refl _ _⟩
  case rest =>
    obtain ⟨a1, cap1, rfl, hcap1, hin1, hbl1⟩ := hcut
    obtain ⟨wq, rfl⟩ : ∃ wq : World, wq = wc := ⟨_, rfl⟩
    have H1 : Hid (LOut L1 W (.slice a1 L1.length cap1) wq) := ⟨a1, cap1, rfl, hcap1, hin1, hbl1⟩
    clear b0 b1 b2 b3 b4 b5 b6 b7 b8 b9 b10 b11 b12 l
    obtain ⟨l, b0, b1, b2, b3, b4, b5, b6, b7, b8, b9, b10, b11, b12⟩ := HBX.out.later hbl1
    simp only [Pr.op, Pr.cmp, Pr.l, Pr.r, Pr.args] at b0 b1 b2 b3 b4 b5 b6 b7 b8 b9 b10 b11 b12
    clear hcap1 hin1 hbl1 b0 b1 b2 b3 b4 b5 b6 b7 b8 b9 b10 b11
    go_wp2_with fail
    clear b12 l
    go_loopw [1, 7, 37] (fun v1 _ v37 wr => ∃ j : Nat, v37 = .int .i64 j ∧ j ≤ N ∧ LOut ((colsL (args.take j)).foldl addI L1) W v1 wr) (fun _ _ v37 _ => N - (intOf v37).toNat)
    case atStart => exact ⟨0, rfl, by omega, by simpa [colsL] using H1.out⟩
    case round =>
      obtain ⟨j, rfl, hj, hlo⟩ := hrel
      obtain ⟨wo, rfl⟩ : ∃ wo : World, wo = wr := ⟨_, rfl⟩
      obtain ⟨a, cap, rfl, hcap, hin, hbl⟩ := hlo
      have HCAP := Lib.hid hcap
      have HIN := Lib.hid hin
      have HBL := Lib.hid hbl
      obtain ⟨l, b0, b1, b2, b3, b4, b5, b6, b7, b8, b9, b10, b11, b12⟩ := HBX.out.later hbl
      simp only [Pr.op, Pr.cmp, Pr.l, Pr.r, Pr.args] at b0 b1 b2 b3 b4 b5 b6 b7 b8 b9 b10 b11 b12
      clear hcap hin b0 b1 b2 b3 b4 b5 b6 b7 b8 b9 b10 b11
      by_cases hlt : j < N
      · have hkl : j < args.length := by rw [HN.out]; exact hlt
        have hlt' : decide ((j : Int) < (N : Int)) = true := by simp; omega
        have hltI : (j : Int) < (N : Int) := by omega
        have h0I : (0 : Int) ≤ (j : Int) := by omega
        obtain ⟨xb, xo, xs, rfl, hxb, -, hat, hr⟩ := (HP.out.later hbl).get hkl
        obtain ⟨x, hx⟩ : ∃ x, args[j] = x := ⟨_, rfl⟩
        have HLX : Hid ((colsL (args.take j)).length + (colsP x).length ≤ (colsL args).length) := by show _ ≤ _; rw [← hx]; exact colsL_len hkl
        have HTX : Hid (colsL (args.take (j + 1)) = colsL (args.take j) ++ colsP x) := by show _ = _; rw [colsL_take hkl, hx]
        have hih := HIH.out args[j] (List.getElem_mem hkl)
        rw [hx] at hat hr hih
        obtain ⟨LJ, hLJ⟩ : ∃ LJ, (colsL (args.take j)).foldl addI L1 = LJ := ⟨_, rfl⟩
        have HLJ : Hid (LJ.length ≤ L1.length + (colsL (args.take j)).length) := by show _ ≤ _; rw [← hLJ]; exact foldl_length _ _
        have HLJE := Lib.hid hLJ
        rw [hLJ] at HCAP HIN ⊢
        have hc := hih xs LJ (.slice a LJ.length cap) wo hr ⟨a, cap, rfl, HCAP.out, HIN.out, Below.refl _ _⟩ (by have := HLJ.out; have := HLX.out; have := HL1.out; have := HLEN.out; omega)
        have HCL := Lib.hid hc
        have hwk := step_i j (by omega)
        obtain ⟨d0, d1, d2, d3, d4, d5, d6, d7, d8, d9, d10, d11, d12⟩ := hat
        clear hbl hr hih hc hx hLJ
        go_wp2_with fail
        refine HCL.out.mono ?_
        rintro e w2 ⟨v2, rfl, a2, cap2, rfl, hcap2, hin2, hbl2⟩
        have HB2 : Hid (Below W.heap.size W w2) := HBL.out.trans (hbl2.mono HBL.out.size)
        have H2 : Hid (LOut ((colsL (args.take (j + 1))).foldl addI L1) W (.slice a2 ((colsP x).foldl addI LJ).length cap2) w2) := by
          show LOut _ _ _ _
          rw [HTX.out, List.foldl_append, HLJE.out]
          exact ⟨a2, cap2, rfl, hcap2, hin2, HB2.out⟩
        clear hcap2 hin2 hbl2 d0 d1 d2 d3 d4 d5 d6 d7 d8 d9 d10 d11 d12 HCL b12 l
        go_wp2_with fail
        generalize wrap64 ((j : Int) + 1) = zz at hwk ⊢
        subst hwk
        exact ⟨⟨j + 1, by push_cast; rfl, by omega, H2.out⟩, by simp [intOf]; omega⟩
      · have hlt' : decide ((j : Int) < (N : Int)) = false := by simp; omega
        have HE : Hid ((colsL (args.take j)).foldl addI L1 = (colsL args).foldl addI L1) := by show _ = _; rw [List.take_of_length_le (by have := HN.out; omega)]
        rw [HE.out] at HCAP HIN ⊢
        have HFB : Hid (Below w.heap.size w wo) := HG.out.below.trans (HBL.out.mono HG.out.size)
        clear hbl
        go_wp2
        go_ret
        exact ⟨_, rfl, a, cap, rfl, HCAP.out, HIN.out, HFB.out⟩
theorem gather_all : ∀ (k : Nat) (p : Pr), GatherAt k p
  | 0, p => fun s c v w hp hc hl => gather_step 0 p (fun q hq => by rw [hp.1] at hq; simp at hq) s c v w hp.deeper hc hl
  | k + 1, p => gather_step k p fun q _ => gather_all k q
end Go.Proofs.YtndnlmpmloiiiaaDoor
/- The contract of the reference's Columns; on which values of a row a predicate depends; a store into an owned row. -/
set_option linter.unusedSimpArgs false
set_option linter.unusedVariables false
namespace Go.Proofs.YtndnlmpmloiiiaaDoor
open Go.RowKit

theorem den_cols {a b par : List V} {o : Od} (h : ∀ i ∈ opdCols o, atV a i = atV b i) : denV a par o = denV b par o := by
  unfold denV
  by_cases hk : o.k = 1
  · rw [if_pos hk, if_pos hk]
    by_cases hi : 0 ≤ o.i
    · exact h _ (by unfold opdCols; rw [if_pos ⟨hk, hi⟩]; simp)
    · unfold atV; rw [if_neg hi, if_neg hi]
  · rw [if_neg hk, if_neg hk]
mutual
/-- Whether a predicate holds depends on its columns alone. -/
theorem holds_cols (a b par : List V) : ∀ p : Pr, (∀ i ∈ colsP p, atV a i = atV b i) → holdsP a par p = holdsP b par p
  | .mk op cmp l r args, h => by
    rw [colsP_eq] at h
    have hA : ∀ i ∈ colsL args, atV a i = atV b i := fun i hi => h i (List.mem_append.2 (.inr hi))
    rw [holdsP, holdsP, fails_cols a b par args hA, any_cols a b par args hA, head_cols a b par args hA]
    by_cases h3 : op = 3
    · subst h3
      rw [if_pos rfl] at h
      rw [den_cols (par := par) (o := l) fun i hi => h i (List.mem_append.2 (.inl (List.mem_append.2 (.inl hi)))), den_cols (par := par) (o := r) fun i hi => h i (List.mem_append.2 (.inl (List.mem_append.2 (.inr hi))))]
    · rw [if_neg h3, if_neg h3]
theorem fails_cols (a b par : List V) : ∀ ps : List Pr, (∀ i ∈ colsL ps, atV a i = atV b i) → failsAny a par ps = failsAny b par ps
  | [], _ => by rw [failsAny, failsAny]
  | p :: ps, h => by
    rw [colsL] at h
    rw [failsAny, failsAny, holds_cols a b par p fun i hi => h i (List.mem_append.2 (.inl hi)), fails_cols a b par ps fun i hi => h i (List.mem_append.2 (.inr hi))]
theorem any_cols (a b par : List V) : ∀ ps : List Pr, (∀ i ∈ colsL ps, atV a i = atV b i) → holdsAny a par ps = holdsAny b par ps
  | [], _ => by rw [holdsAny, holdsAny]
  | p :: ps, h => by
    rw [colsL] at h
    rw [holdsAny, holdsAny, holds_cols a b par p fun i hi => h i (List.mem_append.2 (.inl hi)), any_cols a b par ps fun i hi => h i (List.mem_append.2 (.inr hi))]
theorem head_cols (a b par : List V) : ∀ ps : List Pr, (∀ i ∈ colsL ps, atV a i = atV b i) → failsHead a par ps = failsHead b par ps
  | [], _ => by rw [failsHead, failsHead]
  | p :: ps, h => by
    rw [colsL] at h
    rw [failsHead, failsHead, holds_cols a b par p fun i hi => h i (List.mem_append.2 (.inl hi))]
end
theorem od_below {cols par : List Int} {o : Od} {i : Int} (hi : i ∈ opdCols o) (hk : kindO cols par o ≠ 0) : 0 ≤ i ∧ i < cols.length := by
  unfold opdCols at hi
  split at hi
  · rename_i h
    simp only [List.mem_singleton] at hi
    subst hi
    unfold kindO at hk
    rw [if_pos h.1] at hk
    unfold kAt at hk
    split at hk
    · rename_i h2
      exact ⟨h2.1, h2.2.1⟩
    · exact absurd rfl hk
  · simp at hi
mutual
/-- The columns of a valid predicate lie in the row. -/
theorem cols_below (cols par : List Int) : ∀ p : Pr, validR cols par p = true → ∀ i ∈ colsP p, 0 ≤ i ∧ i < cols.length
  | .mk op cmp l r args, h => by
    rw [validR, Bool.and_eq_true, Bool.not_eq_true'] at h
    intro i hi
    rw [colsP_eq, List.mem_append] at hi
    rcases hi with hi | hi
    · by_cases h3 : op = 3
      · subst h3
        rw [if_pos rfl, List.mem_append] at hi
        have h1 := h.1
        unfold rnodeB at h1
        rw [if_neg (by decide), if_pos rfl, Bool.and_eq_true] at h1
        have h2 := h1.2
        unfold comparesB at h2
        simp only [Bool.and_eq_true, decide_eq_true_eq, Bool.not_eq_true', decide_eq_false_iff_not] at h2
        rcases hi with hi | hi
        · exact od_below hi h2.1.2
        · exact od_below hi (h2.2 ▸ h2.1.2)
      · rw [if_neg h3] at hi; simp at hi
    · exact colsL_below cols par args h.2 i hi
theorem colsL_below (cols par : List Int) : ∀ ps : List Pr, rbadL cols par ps = false → ∀ i ∈ colsL ps, 0 ≤ i ∧ i < cols.length
  | [], _ => by intro i hi; rw [colsL] at hi; simp at hi
  | p :: ps, h => by
    rw [rbadL, Bool.or_eq_false_iff] at h
    intro i hi
    rw [colsL, List.mem_append] at hi
    rcases hi with hi | hi
    · exact cols_below cols par p (by simpa using h.1) i hi
    · exact colsL_below cols par ps h.2 i hi
end
theorem check_below {cols par : List Int} {p : Pr} (h : checkE cols par p = 0) : ∀ i ∈ colsV p, 0 ≤ i ∧ i < cols.length := by
  intro i hi
  rw [colsV_add, foldl_mem] at hi
  refine cols_below cols par p ?_ i (hi.resolve_left (by simp))
  unfold checkE at h
  split at h
  · exact absurd h (by decide)
  · split at h
    · exact absurd h (by decide)
    · split at h
      · exact absurd h (by decide)
      · rename_i h3; simpa using h3

theorem flat_set : ∀ (r : List V) (j : Nat) (v : V), j < r.length → (((flat r).set (j * 3) (.int .i64 v.k)).set (j * 3 + 1) (.int .i64 v.n)).set (j * 3 + 2) (.string v.t) = flat (r.set j v)
  | [], _, _, h => by simp at h
  | x :: r, 0, v, _ => by rfl
  | x :: r, j + 1, v, h => by
    have ih := flat_set r j v (by simpa using h)
    rw [List.set_cons_succ, flat, flat, ← ih, show (j + 1) * 3 = j * 3 + 1 + 1 + 1 by omega, show j * 3 + 1 + 1 + 1 + 1 = (j * 3 + 1) + 1 + 1 + 1 by omega, show j * 3 + 1 + 1 + 1 + 2 = (j * 3 + 2) + 1 + 1 + 1 by omega]
    simp only [List.set_cons_succ]
/-- A value stored into a row that the call owns. -/
theorem row_set {base : Nat} {w : World} {g cap : Nat} {r : List V} (h : w.ownsRow base 24 3 (.slice (some ⟨g, 0, none⟩) r.length cap) r.length (flat r)) (j : Nat) (hj : j < r.length) (v : V) :
    (((w.setCell ⟨g, j * 3, none⟩ (.int .i64 v.k)).setCell ⟨g, j * 3 + 1, none⟩ (.int .i64 v.n)).setCell ⟨g, j * 3 + 2, none⟩ (.string v.t)).ownsRow base 24 3 (.slice (some ⟨g, 0, none⟩) r.length cap) r.length (flat (r.set j v)) ∧
    w.grownBy (((w.setCell ⟨g, j * 3, none⟩ (.int .i64 v.k)).setCell ⟨g, j * 3 + 1, none⟩ (.int .i64 v.n)).setCell ⟨g, j * 3 + 2, none⟩ (.string v.t)) (some g) := by
  have s1 := h.stored (j * 3) (.int .i64 v.k)
  have s2 := s1.1.stored (j * 3 + 1) (.int .i64 v.n)
  have s3 := s2.1.stored (j * 3 + 2) (.string v.t)
  rw [← flat_set r j v hj]
  exact ⟨s3.1, by_trans (by_trans s1.2 s2.2) s3.2⟩

set_option maxHeartbeats 2000000 in
set_option maxRecDepth 100000 in
theorem refColumns_calls (k : Nat) (p : Pr) (s : Value) (w : World) (hp : PrIn (fun _ => True) w k s p.args) (hlen : (colsP p).length + 3 ≤ 4398046511104) : Calls Tryd.prog 24 #[p.val s] w (GOut (colsV p) w) := by
  have mx := mixed
  obtain ⟨sa, sc, rfl, hsl⟩ := hp.shape
  obtain ⟨W, hW⟩ : ∃ W, W = w.alloc (pBlock p (.slice sa p.args.length sc) 29) := ⟨_, rfl⟩
  have hg : Gro w W := by rw [hW]; exact (Gro.refl w).alloc _
  have HBX : Hid (PBox W w.heap.size p (.slice sa p.args.length sc)) := by show PBox _ _ _ _; rw [hW]; exact PBox.new w p _ _
  have HC := Lib.hid (gather_all k p (.slice sa p.args.length sc) [] (.slice none 0 0) W (hp.later hg.below) ⟨none, 0, rfl, Nat.le_refl _, IntsAt.nil _ _, Below.refl _ _⟩ (by simpa using hlen))
  rw [colsV_add]
  have HG := Lib.hid hg
  have HW := Lib.hid hW
  clear hp hg hW hlen
  obtain ⟨L, hL⟩ : ∃ L, (colsP p).foldl addI [] = L := ⟨_, rfl⟩
  rw [hL] at HC ⊢
  clear hL
  obtain ⟨op, cmp, ⟨lk, li, ⟨lvk, lvn, lvt⟩⟩, ⟨rk, ri, ⟨rvk, rvn, rvt⟩⟩, args⟩ := p
  replace HW : Hid (W = w.alloc (.cells #[.int .i64 op, .int .i64 cmp, .int .i64 lk, .int .i64 li, .int .i64 lvk, .int .i64 lvn, .string lvt, .int .i64 rk, .int .i64 ri, .int .i64 rvk, .int .i64 rvn, .string rvt, .slice sa args.length sc] 29)) := HW.out
  replace HC : Hid (Calls Tryd.prog 51 #[.agg #[.int .i64 op, .int .i64 cmp, .int .i64 lk, .int .i64 li, .int .i64 lvk, .int .i64 lvn, .string lvt, .int .i64 rk, .int .i64 ri, .int .i64 rvk, .int .i64 rvn, .string rvt, .slice sa args.length sc], .slice none 0 0] W (GOut L W)) := HC.out
  show Calls _ _ #[.agg #[.int .i64 op, .int .i64 cmp, .int .i64 lk, .int .i64 li, .int .i64 lvk, .int .i64 lvn, .string lvt, .int .i64 rk, .int .i64 ri, .int .i64 rvk, .int .i64 rvn, .string rvt, .slice sa args.length sc]] _ _
  go_enter Tryd.func24, Tryd.ntmps24
  go_wp2_with fail
  rw [← HW.out]
  refine HC.out.mono ?_
  rintro e w1 ⟨v1, rfl, hv1⟩
  have HV1 := Lib.hid hv1
  have HGB := Lib.hid HG.out.below
  clear hv1 HC HG HW HBX
  obtain ⟨a, cap, rfl, h1, h2, h3⟩ := HV1.out
  go_wp2
  go_ret
  exact ⟨_, rfl, a, cap, rfl, h1, h2, HGB.out.trans (h3.mono (HGB.out).size)⟩
end Go.Proofs.YtndnlmpmloiiiaaDoor
