/- The law ValueSets returns true for all codes, every list of rows and every row, without conditions. -/
import Derived.Test.YtllakifmflploaaB
import Derived.Test.YtllakifmflploaaI
import Derived.Test.YtllakifmflploaaJ
import Derived.Test.YtllakifmflploaaWu
import Derived.Deep.RegionHeld3
set_option linter.unusedSimpArgs false
set_option linter.unusedVariables false
namespace Go.Proofs.Ytllakifmflploaa
open Go.ChangeShapes Go.WideShapes Go.ChangeAt Go.RowKit Go.Joins

namespace Sets
theorem few {l : List (List V)} (hl : Asc l) : ∀ m : List (List V), (∀ r ∈ l, r ∈ m) → l.length ≤ m.length := by
  classical
  induction l with
  | nil => intro m _; simp
  | cons a l ih =>
    intro m hm
    have ha : a ∈ m := hm a (by simp)
    have hlt : ∀ r ∈ l, r ≠ a := by
      intro r hr e
      have := (List.pairwise_cons.1 hl).1 r hr
      rw [e, goodR.self] at this
      omega
    have := ih (List.pairwise_cons.1 hl).2 (m.erase a) (fun r hr => (List.mem_erase_of_ne (hlt r hr)).2 (hm r (by simp [hr])))
    rw [List.length_erase_of_mem ha] at this
    have h0 : 0 < m.length := List.length_pos_of_mem ha
    simp
    omega
/-- What lies above is kept. -/
theorem ownsRow_above {w w' : World} {base : Nat} {r : Option Nat} {e : TypeId} {size n : Nat} {v : Value} {xs : List Value} (h : w.ownsRow base e size v n xs) (hg : w.grownBy w' r) (hr : ∀ k, r = some k → k < base) : w'.ownsRow base e size v n xs := by
  refine h.kept hg ?_
  cases hv : v.ownBlock with
  | none => exact .inl rfl
  | some k => right; intro e; have := hr k e.symm; have := (h.lt k hv).1; omega
theorem own_some {w : World} {base : Nat} {e : TypeId} {size n : Nat} {a : Option Addr} {c : Nat} {xs : List Value} (h : w.ownsRow base e size (.slice a n c) n xs) : (a = none → n = 0) ∧ ∀ b, a = some b → ∀ j u, xs[j]? = some u → w.cell? (b.add j) = some u := by
  obtain ⟨hx, hv | ⟨g, cap, cur, hv, hg, hh, hcap, hm, hs, ht⟩⟩ := id h
  · exact ⟨fun _ => hv.2, fun b hb => by rw [hb] at hv; simp at hv⟩
  · simp only [Value.slice.injEq] at hv
    obtain ⟨rfl, -, -⟩ := hv
    exact ⟨fun h => by simp at h, fun b hb => by simp only [Option.some.injEq] at hb; subst hb; exact h.cells rfl⟩
theorem one_cells {base : Nat} {w : World} {v : Value} {L : List (List V)} {xs : List Value} (h : Listed base w v L xs) : ∀ u ∈ xs, u.oneCell' = true := by
  intro u hu
  obtain ⟨j, hj, rfl⟩ := List.mem_iff_getElem.1 hu
  have hl : xs.length = L.length := by have := h.1.1; omega
  obtain ⟨u, k1, _, _, k2, _⟩ := h.2 j (by omega)
  rw [List.getElem?_eq_getElem hj] at k1
  simp only [Option.some.injEq] at k1
  rw [k1, k2]; rfl
theorem listed_of_owned {base : Nat} {w : World} {v : Value} {L : List (List V)} (h : Owned base w v L) : ∃ xs, Listed base w v L xs ∧ ∀ j (h : j < L.length), ∃ u, xs[j]? = some u ∧ w.ownsRow base 35 3 u L[j].length (flat L[j]) ∧ L[j].length ≤ 4398046511104 := by
  obtain ⟨xs, h1, h2⟩ := h
  exact ⟨xs, ⟨h1, fun j hj => let ⟨u, a, b, c⟩ := h2 j hj; ⟨u, a, .of_owned b c⟩⟩, h2⟩
theorem Listed.later {base : Nat} {w w' : World} {v : Value} {L : List (List V)} {xs : List Value} (h : Listed base w v L xs) (hb : Below w.heap.size w w') : Listed base w' v L xs := by
  have hn : v.ownBlock = none ∨ v.ownBlock ≠ (none : Option Nat) := by cases v.ownBlock <;> simp
  exact ⟨h.1.kept (below_grown hb) hn, fun j hj => let ⟨u, a, b⟩ := h.2 j hj; ⟨u, a, b.later hb⟩⟩
theorem Listed.small {base : Nat} {w : World} {v : Value} {L : List (List V)} {xs : List Value} (h : Listed base w v L xs) : ∀ r ∈ L, r.length ≤ 4398046511104 := by
  intro r hr
  obtain ⟨j, hj, rfl⟩ := List.mem_iff_getElem.1 hr
  obtain ⟨u, _, _, _, _, k, _⟩ := h.2 j hj
  exact k
set_option maxHeartbeats 4000000 in
set_option maxRecDepth 100000 in
theorem walk (a : Option Addr) (len cap : Nat) (zs : List Int) (pa : Option Addr) (ll lc : Nat) (A : List (List V)) (vr : Value) (r : List V) (w : World) (hr : IsRow .u8 w a len cap zs)
    (h1 : ll ≤ lc) (h2 : lc ≤ maxLen) (h3 : pa = none → ll = 0 ∧ lc = 0) (h4 : A.length = min ll 8) (h5 : A = [] ∨ ∃ b off, pa = some ⟨b, off, none⟩ ∧ RowsIn w b off A) (hrow : RowAt w vr r) :
    Calls Try.prog 3 #[.slice a len cap, .slice pa ll lc, vr] w fun e w' => e = .returned (.bool true) ∧ Below w.heap.size w w' := by
  have mx := mixed
  obtain ⟨i, hi, hz, hsz, hby⟩ := info_parts info38
  have HROW := Lib.hid hrow
  clear hrow
  have HI := Lib.hid hi
  have HZ := Lib.hid hz
  have HSZ := Lib.hid hsz
  have HBY := Lib.hid hby
  have hN := new_calls a len cap zs w hr
  have HN := Lib.hid hN
  have hus : ∃ us : List Value, us.length = A.length ∧ (∀ j (h : j < A.length), ∃ u, us[j]? = some u ∧ RowAt w u A[j]) ∧ (∀ u ∈ us, u.oneCell' = true) ∧ ∀ b, pa = some b → ∀ w', Below w.heap.size w w' → ∀ j u, us[j]? = some u → w'.cell? (b.add j) = some u := by
    rcases h5 with rfl | ⟨b, off, rfl, hb⟩
    · exact ⟨[], rfl, fun j h => absurd h (Nat.not_lt_zero _), by simp, by simp⟩
    · refine ⟨(List.range A.length).map (fun i => (w.cell? ⟨b, off + i, none⟩).getD (.slice none 0 0)), by simp, fun j h => ?_, ?_, ?_⟩
      · obtain ⟨u, k1, k2⟩ := hb.at_ j h
        exact ⟨u, by simp [h, k1], k2⟩
      · intro u hu
        obtain ⟨j, hj, rfl⟩ := List.mem_map.1 hu
        obtain ⟨u, k1, _, _, k2, _⟩ := hb.at_ j (List.mem_range.1 hj)
        rw [k1, k2]; rfl
      · intro b' hb' w' hbw j u hj
        simp only [Option.some.injEq] at hb'
        subst hb'
        have hjl : j < A.length := by
          have := (List.getElem?_eq_some_iff.1 hj).1
          simpa using this
        obtain ⟨u', k1, k2⟩ := hb.at_ j hjl
        have he : u = u' := by simp [hjl, k1] at hj; exact hj.symm
        subst he
        have k3 := (hbw.cell (p := ⟨b, off + j, none⟩) hb.blk).trans k1
        rcases j with _ | j <;> simpa [Addr.add] using k3
  obtain ⟨us, hul, hus, hu1, huc⟩ := hus
  have HUL := Lib.hid hul
  have HUS := Lib.hid hus
  have HU1 := Lib.hid hu1
  have HUC := Lib.hid huc
  have hA8 : A.length ≤ 8 := by omega
  have HA8 := Lib.hid hA8
  have HPN : Hid (pa = none → A.length = 0) := by show _ → _; intro h; have := h3 h; omega
  clear hN hr hi hz hsz hby h3 h5 hul hus hu1 huc
  go_enter Try.func3, Try.ntmps3
  go_wp2_with fail
  refine HN.out.mono ?_
  rintro e w1 ⟨b, c, rfl, hbs, hcs, hb1⟩
  have HB1 := Lib.hid hb1
  have HC1 := Lib.hid hcs
  have HBS := Lib.hid hbs
  clear HN hb1 hcs hbs
  obtain ⟨M, hM⟩ : ∃ M, A.length = M := ⟨_, rfl⟩
  have hmin : min (ll : Int) 8 = (M : Int) := by omega
  have hMl : M ≤ ll := by omega
  have hMc : M ≤ lc := by omega
  have hM8 : M ≤ 8 := by omega
  have HM := Lib.hid hM
  have HLC := Lib.hid h2
  clear h4 hA8 hM h2
  go_wp2_with (at_builtin; go_must (refine wpList_append_any rfl _ _ 23 rfl w1.heap.size 25 i (.slice none 0 0) 1 24 Try.underlying23 HI.out HZ.out HSZ.out HBY.out rfl (by decide) _ 0 [] rfl (World.ownsRow_nil _ _ _ _) pa M lc us rfl ?c0 ?c1 ?c2 ?c3 ?c4 ?c5 ?c6 ?_))
  case c0 => intro h; have := HPN.out h; have := HM.out; omega
  case c1 => have := HUL.out; have := HM.out; omega
  case c2 => intro b hb; exact HUC.out b hb _ HB1.out
  case c3 => exact HU1.out
  case c4 => unfold maxLen; omega
  case c5 => omega
  case c6 => exact Nat.le_refl _
  intro v1 w2 ho1 hg2
  have hb12 : Below w1.heap.size w1 w2 := (Below.refl _ _).grown hg2 (Nat.le_refl _) (fun k hk => by simp [Value.ownBlock] at hk)
  have HC2 := Lib.hid (HC1.out.grown (below_grown hb12))
  have HO1 := Lib.hid ho1
  have HB12 := Lib.hid hb12
  clear ho1 hg2 hb12 hmin
  go_wp2_with fail
  refine (rows_calls b c _ HC2.out).mono ?_
  rintro e w3 ⟨v3, rs, rfl, hrl, hsm, hown, hcs, hby⟩
  have hbw1 : b < w1.heap.size := HC1.out.lt
  have ho13 := HO1.out.kept hby (own_far HO1.out hbw1)
  have hs12 := HB12.out.size
  have hbel3 : Below w.heap.size w w3 := (HB1.out.trans (HB12.out.mono HB1.out.size)).grown hby (Nat.le_trans HB1.out.size hs12) (fun k hk => by cases hk; exact HBS.out)
  obtain ⟨xs3, hli3, hi3⟩ := listed_of_owned hown
  obtain ⟨qa, qc, rfl⟩ := ownsRow_slice hli3.1
  have HO13 := Lib.hid ho13
  have HLI3 := Lib.hid hli3
  have HI3 := Lib.hid hi3
  have HBE3 := Lib.hid hbel3
  have HS23 := Lib.hid hby.size
  have HS12 := Lib.hid hs12
  clear hbw1 ho13 hs12 hbel3 hown hli3 hi3 hcs hby hsm
  go_wp2_with (at_builtin; go_must (refine wpList_append_any rfl _ _ 23 rfl w1.heap.size 25 i (.slice none 0 0) 1 24 Try.underlying23 HI.out HZ.out HSZ.out HBY.out rfl (by decide) _ M us rfl HO13.out qa rs.length qc xs3 rfl ?c0 ?c1 ?c2 ?c3 ?c4 ?c5 ?c6 ?_))
  case c0 => exact (own_some HLI3.out.1).1
  case c1 => exact HLI3.out.1.1
  case c2 => exact (own_some HLI3.out.1).2
  case c3 => exact one_cells HLI3.out
  case c4 => unfold maxLen; omega
  case c5 => omega
  case c6 => exact Nat.le_trans HS12.out HS23.out
  intro v4 w4 ho4 hg4
  have hbel4 : Below w.heap.size w w4 := HBE3.out.grown hg4 HBE3.out.size (fun k hk => Nat.le_trans HB1.out.size (HO13.out.lt k hk).1)
  have hli4 : Listed w1.heap.size w4 v4 (A ++ rs) (us ++ xs3) := listed_append (by rw [HM.out]; exact ho4) HUL.out
    (fun j hj => let ⟨u, a, b⟩ := HUS.out j hj; ⟨u, a, b.later hbel4⟩)
    (fun j hj => let ⟨u, a, b, c⟩ := HI3.out j hj; ⟨u, a, .of_owned (ownsRow_above b hg4 (fun k hk => (HO1.out.lt k hk).2)) c⟩)
  have hLl : (A ++ rs).length ≤ 14 := by simp; have := HM.out; omega
  generalize A ++ rs = L at hli4 hLl
  generalize us ++ xs3 = xs4 at hli4
  obtain ⟨la, lcap, rfl⟩ := ownsRow_slice hli4.1
  have HLI4 := Lib.hid hli4
  have HLL := Lib.hid hLl
  have HBE4 := Lib.hid hbel4
  generalize hLN : L.length = N at hli4 ⊢
  have HLN := Lib.hid hLN
  have hN14 : N ≤ 14 := by omega
  clear hli4 hLl hbel4 ho4 hg4 hrl hLN HS12 HS23 HBE3 HI3 HLI3 HO13 HC2 HO1 HB12 HLC HM HPN HA8 HUC HU1 HUS HUL HB1 HC1 HBS
  have hat4 : RowsAt w4 (.slice la N lcap) L := by rw [← HLN.out]; exact HLI4.out.at_ (by have := HLL.out; omega)
  have HAT4 := Lib.hid hat4
  clear hat4
  have HR4 := Lib.hid (HROW.out.later HBE4.out)
  clear HROW
  go_wp2_with fail
  refine (set_calls _ L _ HAT4.out (Listed.small HLI4.out)).mono ?_
  rintro e w5 ⟨v5, out, rfl, hset, ho5, hb5⟩
  have hol : out.length ≤ 14 := by
    have := few hset.1 L (fun r hr => (hset.2 r).1 hr)
    have := HLL.out
    omega
  have HAT5 := Lib.hid (ho5.at_ (by omega))
  have HSET := Lib.hid hset
  have HB5 := Lib.hid hb5
  have HOL := Lib.hid hol
  have hcut : CutAt w5 (.slice la N lcap) L := by rw [← HLN.out]; exact cut_of_listed (Listed.later HLI4.out hb5) (by have := HLL.out; omega)
  have HCUT := Lib.hid hcut
  clear hset ho5 hb5 hol hcut
  go_wp2_with fail
  refine (refSet_calls _ L _ (by have := HLL.out; omega) HCUT.out (Listed.small HLI4.out)).mono ?_
  rintro e w6 ⟨v6, out6, rfl, hset6, ho6, hb6⟩
  obtain rfl : out6 = out := SetOf.unique hset6 HSET.out (fun _ => Iff.rfl)
  have HAT6 := Lib.hid (ho6.at_ (by have := HOL.out; omega))
  have HAT56 := Lib.hid (HAT5.out.later hb6)
  have hb46 : Below w4.heap.size w4 w6 := HB5.out.trans (hb6.mono HB5.out.size)
  have HAT46 := Lib.hid (HAT4.out.later hb46)
  have HR6 := Lib.hid (HR4.out.later hb46)
  have HBE6 := Lib.hid (HBE4.out.trans (hb46.mono HBE4.out.size))
  have HMEM : Hid (∀ r, r ∈ out6 ↔ r ∈ L) := HSET.out.2
  obtain ⟨q, hq⟩ : ∃ q, decide (r ∈ L) = q := ⟨_, rfl⟩
  have hq2 : decide (r ∈ out6) = q := by rw [← hq]; exact decide_eq_decide.2 (HMEM.out r)
  have hh1 : ∀ w', Below w6.heap.size w6 w' → Calls Try.prog 17 #[.slice la N lcap, vr] w' fun e w'' => e = .returned (.bool q) ∧ Gro w' w'' := fun w' hb => by
    have := has_calls _ vr L r w' (HAT46.out.later hb) (HR6.out.later hb)
    rwa [hq] at this
  have hh2 : ∀ w', Below w6.heap.size w6 w' → Calls Try.prog 18 #[.slice la N lcap, vr] w' fun e w'' => e = .returned (.bool q) ∧ Gro w' w'' := fun w' hb => by
    have := refHas_calls _ vr L r w' (HAT46.out.later hb) (HR6.out.later hb)
    rwa [hq] at this
  have hh3 : ∀ w', Below w6.heap.size w6 w' → Calls Try.prog 17 #[v5, vr] w' fun e w'' => e = .returned (.bool q) ∧ Gro w' w'' := fun w' hb => by
    have := has_calls _ vr out6 r w' (HAT56.out.later hb) (HR6.out.later hb)
    rwa [hq2] at this
  have HH1 := Lib.hid hh1
  have HH2 := Lib.hid hh2
  have HH3 := Lib.hid hh3
  clear hset6 ho6 hb6 hb46 hq hq2 hh1 hh2 hh3
  go_wp2_with fail
  refine (same_calls _ _ out6 _ HAT56.out HAT6.out).mono ?_
  rintro e w7 ⟨rfl, hg7⟩
  have HB7 := Lib.hid hg7.below
  clear hg7
  go_wp2_with fail
  refine (HH1.out _ HB7.out).mono ?_
  rintro e w8 ⟨rfl, hg8⟩
  have HB8 := Lib.hid (HB7.out.trans (hg8.below.mono HB7.out.size))
  clear hg8
  go_wp2_with fail
  refine (HH2.out _ HB8.out).mono ?_
  rintro e w9 ⟨rfl, hg9⟩
  have HB9 := Lib.hid (HB8.out.trans (hg9.below.mono HB8.out.size))
  clear hg9
  have hqq : (q != q) = false := by simp
  have hqe : (q == q) = true := by simp
  go_wp2_with fail
  go_loopw [10, 40] (fun _ i wr => ∃ k : Nat, k ≤ N ∧ i = .int .i64 k ∧ Below w6.heap.size w6 wr) (fun _ i _ => N - (intOf i).toNat)
  case atStart => exact ⟨0, by omega, rfl, HB9.out⟩
  case round =>
    obtain ⟨k, hk, rfl, hbr⟩ := hrel
    have HB := Lib.hid hbr
    by_cases hlt : k < N
    · have hkl : k < L.length := by rw [HLN.out]; exact hlt
      have hlt' : decide ((k : Int) < (N : Int)) = true := by simp; omega
      obtain ⟨pla, plc, hple, hpl1, hrows⟩ := HAT46.out.later hbr
      simp only [Value.slice.injEq] at hple
      obtain ⟨rfl, -, rfl⟩ := hple
      obtain ⟨lb, lo, rfl, hri⟩ := hrows.resolve_left (by rintro rfl; simp at hkl)
      obtain ⟨u, hu, hru⟩ := hri.at_ k hkl
      have hblk := hri.blk
      have hs1 : ∀ w', Below wr.heap.size wr w' → Calls Try.prog 17 #[v5, u] w' fun e w'' => e = .returned (.bool true) ∧ Gro w' w'' := fun w' hb => by
        have := has_calls _ u out6 L[k] w' ((HAT56.out.later HB.out).later hb) (hru.later hb)
        rwa [decide_eq_true ((HMEM.out _).2 (List.getElem_mem hkl))] at this
      have hs2 : ∀ w', Below wr.heap.size wr w' → Calls Try.prog 17 #[.slice (some ⟨lb, lo, none⟩) N lcap, u] w' fun e w'' => e = .returned (.bool true) ∧ Gro w' w'' := fun w' hb => by
        have := has_calls _ u L L[k] w' ((HAT46.out.later HB.out).later hb) (hru.later hb)
        rwa [decide_eq_true (List.getElem_mem hkl)] at this
      have HS1 := Lib.hid hs1
      have HS2 := Lib.hid hs2
      clear hs1 hs2 hru hrows hri hbr hpl1
      go_wp2_with fail
      refine (HS1.out _ (Below.refl _ _)).mono ?_
      rintro e w10 ⟨rfl, hg10⟩
      have HB10 := Lib.hid hg10.below
      clear hg10
      go_wp2_with fail
      refine (HS2.out _ HB10.out).mono ?_
      rintro e w11 ⟨rfl, hg11⟩
      have HB11 := Lib.hid (HB10.out.trans (hg11.below.mono HB10.out.size))
      clear hg11
      go_wp2
      exact ⟨⟨k + 1, by omega, by go_num, HB.out.trans (HB11.out.mono HB.out.size)⟩, by simp [intOf]; omega⟩
    · have hlt' : decide ((k : Int) < (N : Int)) = false := by simp; omega
      clear hbr
      go_wp2_with fail
      refine (begun_calls _).mono ?_
      rintro e w10 ⟨rfl, hb10⟩
      have HB10 := Lib.hid (HB.out.trans (hb10.mono HB.out.size))
      clear hb10
      go_wp2_with fail
      refine (HH3.out _ HB10.out).mono ?_
      rintro e w11 ⟨rfl, hg11⟩
      have HB11 := Lib.hid (HB10.out.trans (hg11.below.mono HB10.out.size))
      clear hg11
      go_wp2_with fail
      refine (HH1.out _ HB11.out).mono ?_
      rintro e w12 ⟨rfl, hg12⟩
      have HB12 := Lib.hid (HB11.out.trans (hg12.below.mono HB11.out.size))
      clear hg12
      go_wp2
      go_ret
      exact ⟨by simp, HBE6.out.trans (HB12.out.mono HBE6.out.size)⟩
set_option maxRecDepth 100000 in
theorem lifted (os : Os) (started : os.Started) (H : Type) (enc : TypeId × Value → H) :
    ReturnsInHanded {} Try.checked os 3 .any (Rows.valueSetsSpec.pre6 enc Try.prog Try.f3 Rows.valueSetsRow.domain false) (Rows.valueSetsSpec.post enc Try.prog Try.f3 false true false false) := by
  refine returnsInHanded_of_change_sized (C := Try.checked) own started (by kernel_rfl) Try.func3
    (ChangeSpec.witness6 (enc := enc) (C := Try.checked) false ⟨#[], #[.slice none 0 0, .slice none 0 0, .slice none 0 0], []⟩ 8 (by kernel_rfl) (by kernel_rfl) (by kernel_rfl) (by kernel_rfl)) ?_
  intro W base args ds gs before hval0 hW hcnd hsz0 hsizes
  have hval : ∀ (j : Nat) t v, Try.f3.params[j]? = some t → args[j]? = some v → Value.okWide Try.prog W .any base t v := hval0
  have hW' := hW
  obtain ⟨p, q, hA0, hV, rfl, hfz, hnd⟩ := hW
  have hA : DataW.TrodAll enc Try.prog W 0 (fun _ => true) true Try.f3.params.toList args.toList ds p := hA0
  have hsz : (DataW.weightsEach Try.prog (Try.f3.params.toList ++ Rows.valueSetsSpec.plain.varTypes Try.prog) (ds ++ gs)).all (· ≤ reachBytes) = true := hsz0
  rw [Try.params3] at hA hval hsz
  obtain ⟨v0, vs0, d0, ds0, p0, q0, hargs, rfl, rfl, h0, r0⟩ := trodAll_cons hA
  obtain ⟨v1, vs1, d1, ds1, p1, q1, rfl, rfl, rfl, h1, r1⟩ := trodAll_cons r0
  obtain ⟨v2, vs2, d2, ds2, p2, q2, rfl, rfl, rfl, h2, r2⟩ := trodAll_cons r1
  obtain ⟨rfl, rfl, rfl⟩ := trodAll_nil r2
  obtain rfl : args = #[v0, v1, v2] := by cases args; simp_all
  obtain ⟨rfl, rfl⟩ := trodVars_none hV
  have lt0 : ∀ x ∈ p0, x.block < W.heap.size := by obtain ⟨m, hm⟩ := h0; exact DataW.trod_lt m _ _ _ hm
  obtain ⟨a0, len0, cap0, z0, rfl, w0⟩ := open_codes (hval 0 22 v0 rfl rfl) h0
  have lt1 : ∀ x ∈ p1, x.block < W.heap.size := by obtain ⟨m, hm⟩ := h1; exact DataW.trod_lt m _ _ _ hm
  obtain ⟨pa1, ll1, lc1, rfl, q11, q21, q31, A1, q41, q51⟩ := open_Rows (hval 1 23 v1 rfl rfl) h1 (fun n hn => by have hq := List.all_eq_true.1 hsz n (DataW.weights_mem_each (j := 1) (t := 23) rfl rfl n hn); simpa using hq)
  have lt2 : ∀ x ∈ p2, x.block < W.heap.size := by obtain ⟨m, hm⟩ := h2; exact DataW.trod_lt m _ _ _ hm
  obtain ⟨x2, w2⟩ := open_Row (hval 2 25 v2 rfl rfl) h2 (fun es sp he => by have hq := sized_slice (j := 2) (e := 35) hsz rfl (by rw [he]; rfl) Try.underlying25; rwa [bytes24] at hq)
  clear hA0 hval0
  refine (walk a0 len0 cap0 z0 pa1 ll1 lc1 A1 v2 x2 W w0 q11 q21 q31 q41 q51 w2).mono fun e W' ⟨he, bel⟩ => ?_
  subst he
  exact ⟨_, rfl, _, _, _, [], _, [], hW', trodAll_mk1 (shut_bool Try.underlying4 _), (trodAll_cons_mk (Below.trod laidOut (by kernel_rfl) (of_decide_eq_true (by kernel_rfl)) h0 bel lt0) (trodAll_cons_mk (Below.trod laidOut (by kernel_rfl) (of_decide_eq_true (by kernel_rfl)) h1 bel lt1) (trodAll_cons_mk (Below.trod laidOut (by kernel_rfl) (of_decide_eq_true (by kernel_rfl)) h2 bel lt2) trodAll_mk0))), rfl, bel.frame _, fun h => by cases h⟩

theorem over : Rows.valueSetsRow.holds Try.pinned (OpenSpec.ofChange Rows.valueSetsSpec) :=
  OpenClaim.holds_of_wide 3 Try.f3 rfl rfl rfl rfl rfl rfl rfl ⟨rfl, rfl, rfl, rfl, rfl⟩ rfl rfl rfl rfl rfl (by kernel_rfl) Try.func3 (by kernel_rfl)
    (of_decide_eq_true (by kernel_rfl)) (by unfold Func.isWrapper; first | (rw [if_pos (by decide +kernel)]; kernel_rfl) | (rw [if_neg (by decide +kernel)]; exact ⟨rfl, rfl⟩))
    (fun os started H enc _ => lifted os started H enc)
theorem proved : Rows.ValueSetsSaid := over
end Sets
end Go.Proofs.Ytllakifmflploaa
