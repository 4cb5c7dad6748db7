/- The law ValueOrders returns true for all codes and every list of rows, without conditions. -/
import Derived.Test.YthlhpjickkhjfaaI
import Derived.Deep.RegionHeld3
set_option linter.unusedSimpArgs false
set_option linter.unusedVariables false
namespace Go.Proofs.Ythlhpjickkhjfaa
open Go.ChangeShapes Go.WideShapes Go.ChangeAt Go.RowKit Go.Joins

namespace Orders
theorem few {l : List (List V)} (hl : Asc l) : ∀ m : List (List V), (∀ r ∈ l, r ∈ m) → l.length ≤ m.length := by
  classical
  induction l with
  | nil => intro m _; simp
  | cons a l ih =>
    intro m hm
    have ha : a ∈ m := hm a (by simp)
    have hlt : ∀ r ∈ l, r ≠ a := by
      intro r hr e
      have := (List.pairwise_cons.1 hl).1 r hr
      rw [e, goodR.self] at this
      omega
    have := ih (List.pairwise_cons.1 hl).2 (m.erase a) (fun r hr => (List.mem_erase_of_ne (hlt r hr)).2 (hm r (by simp [hr])))
    rw [List.length_erase_of_mem ha] at this
    have h0 : 0 < m.length := List.length_pos_of_mem ha
    simp
    omega
/-- What lies above is kept. -/
theorem ownsRow_above {w w' : World} {base : Nat} {r : Option Nat} {e : TypeId} {size n : Nat} {v : Value} {xs : List Value} (h : w.ownsRow base e size v n xs) (hg : w.grownBy w' r) (hr : ∀ k, r = some k → k < base) : w'.ownsRow base e size v n xs := by
  refine h.kept hg ?_
  cases hv : v.ownBlock with
  | none => exact .inl rfl
  | some k => right; intro e; have := hr k e.symm; have := (h.lt k hv).1; omega
theorem own_some {w : World} {base : Nat} {e : TypeId} {size n : Nat} {a : Option Addr} {c : Nat} {xs : List Value} (h : w.ownsRow base e size (.slice a n c) n xs) : (a = none → n = 0) ∧ ∀ b, a = some b → ∀ j u, xs[j]? = some u → w.cell? (b.add j) = some u := by
  obtain ⟨hx, hv | ⟨g, cap, cur, hv, hg, hh, hcap, hm, hs, ht⟩⟩ := id h
  · exact ⟨fun _ => hv.2, fun b hb => by rw [hb] at hv; simp at hv⟩
  · simp only [Value.slice.injEq] at hv
    obtain ⟨rfl, -, -⟩ := hv
    exact ⟨fun h => by simp at h, fun b hb => by simp only [Option.some.injEq] at hb; subst hb; exact h.cells rfl⟩
theorem one_cells {base : Nat} {w : World} {v : Value} {L : List (List V)} {xs : List Value} (h : Listed base w v L xs) : ∀ u ∈ xs, u.oneCell' = true := by
  intro u hu
  obtain ⟨j, hj, rfl⟩ := List.mem_iff_getElem.1 hu
  have hl : xs.length = L.length := by have := h.1.1; omega
  obtain ⟨u, k1, _, _, k2, _⟩ := h.2 j (by omega)
  rw [List.getElem?_eq_getElem hj] at k1
  simp only [Option.some.injEq] at k1
  rw [k1, k2]; rfl
theorem listed_of_owned {base : Nat} {w : World} {v : Value} {L : List (List V)} (h : Owned base w v L) : ∃ xs, Listed base w v L xs ∧ ∀ j (h : j < L.length), ∃ u, xs[j]? = some u ∧ w.ownsRow base 24 3 u L[j].length (flat L[j]) ∧ L[j].length ≤ 4398046511104 := by
  obtain ⟨xs, h1, h2⟩ := h
  exact ⟨xs, ⟨h1, fun j hj => let ⟨u, a, b, c⟩ := h2 j hj; ⟨u, a, .of_owned b c⟩⟩, h2⟩
theorem Listed.later {base : Nat} {w w' : World} {v : Value} {L : List (List V)} {xs : List Value} (h : Listed base w v L xs) (hb : Below w.heap.size w w') : Listed base w' v L xs := by
  have hn : v.ownBlock = none ∨ v.ownBlock ≠ (none : Option Nat) := by cases v.ownBlock <;> simp
  exact ⟨h.1.kept (below_grown hb) hn, fun j hj => let ⟨u, a, b⟩ := h.2 j hj; ⟨u, a, b.later hb⟩⟩
theorem Listed.small {base : Nat} {w : World} {v : Value} {L : List (List V)} {xs : List Value} (h : Listed base w v L xs) : ∀ r ∈ L, r.length ≤ 4398046511104 := by
  intro r hr
  obtain ⟨j, hj, rfl⟩ := List.mem_iff_getElem.1 hr
  obtain ⟨u, _, _, _, _, k, _⟩ := h.2 j hj
  exact k
set_option maxHeartbeats 4000000 in
set_option maxRecDepth 100000 in
theorem walk (a : Option Addr) (len cap : Nat) (zs : List Int) (pa : Option Addr) (ll lc : Nat) (A : List (List V)) (w : World) (hr : IsRow .u8 w a len cap zs)
    (h1 : ll ≤ lc) (h2 : lc ≤ maxLen) (h3 : pa = none → ll = 0 ∧ lc = 0) (h4 : A.length = min ll 8) (h5 : A = [] ∨ ∃ b off, pa = some ⟨b, off, none⟩ ∧ RowsIn w b off A) :
    Calls Try.prog 9 #[.slice a len cap, .slice pa ll lc] w fun e w' => e = .returned (.bool true) ∧ Below w.heap.size w w' := by
  have mx := mixed
  obtain ⟨i, hi, hz, hsz, hby⟩ := info_parts info38
  have HI := Lib.hid hi
  have HZ := Lib.hid hz
  have HSZ := Lib.hid hsz
  have HBY := Lib.hid hby
  have hN := new_calls a len cap zs w hr
  have HN := Lib.hid hN
  have hus : ∃ us : List Value, us.length = A.length ∧ (∀ j (h : j < A.length), ∃ u, us[j]? = some u ∧ RowAt w u A[j]) ∧ (∀ u ∈ us, u.oneCell' = true) ∧ ∀ b, pa = some b → ∀ w', Below w.heap.size w w' → ∀ j u, us[j]? = some u → w'.cell? (b.add j) = some u := by
    rcases h5 with rfl | ⟨b, off, rfl, hb⟩
    · exact ⟨[], rfl, fun j h => absurd h (Nat.not_lt_zero _), by simp, by simp⟩
    · refine ⟨(List.range A.length).map (fun i => (w.cell? ⟨b, off + i, none⟩).getD (.slice none 0 0)), by simp, fun j h => ?_, ?_, ?_⟩
      · obtain ⟨u, k1, k2⟩ := hb.at_ j h
        exact ⟨u, by simp [h, k1], k2⟩
      · intro u hu
        obtain ⟨j, hj, rfl⟩ := List.mem_map.1 hu
        obtain ⟨u, k1, _, _, k2, _⟩ := hb.at_ j (List.mem_range.1 hj)
        rw [k1, k2]; rfl
      · intro b' hb' w' hbw j u hj
        simp only [Option.some.injEq] at hb'
        subst hb'
        have hjl : j < A.length := by
          have := (List.getElem?_eq_some_iff.1 hj).1
          simpa using this
        obtain ⟨u', k1, k2⟩ := hb.at_ j hjl
        have he : u = u' := by simp [hjl, k1] at hj; exact hj.symm
        subst he
        have k3 := (hbw.cell (p := ⟨b, off + j, none⟩) hb.blk).trans k1
        rcases j with _ | j <;> simpa [Addr.add] using k3
  obtain ⟨us, hul, hus, hu1, huc⟩ := hus
  have HUL := Lib.hid hul
  have HUS := Lib.hid hus
  have HU1 := Lib.hid hu1
  have HUC := Lib.hid huc
  have hA8 : A.length ≤ 8 := by omega
  have HA8 := Lib.hid hA8
  have HPN : Hid (pa = none → A.length = 0) := by show _ → _; intro h; have := h3 h; omega
  clear hN hr hi hz hsz hby h3 h5 hul hus hu1 huc
  go_enter Try.func9, Try.ntmps9
  go_wp2_with fail
  refine HN.out.mono ?_
  rintro e w1 ⟨b, c, rfl, hbs, hcs, hb1⟩
  have HB1 := Lib.hid hb1
  have HC1 := Lib.hid hcs
  have HBS := Lib.hid hbs
  clear HN hb1 hcs hbs
  obtain ⟨M, hM⟩ : ∃ M, A.length = M := ⟨_, rfl⟩
  have hmin : min (ll : Int) 8 = (M : Int) := by omega
  have hMl : M ≤ ll := by omega
  have hMc : M ≤ lc := by omega
  have hM8 : M ≤ 8 := by omega
  have HM := Lib.hid hM
  have HLC := Lib.hid h2
  clear h4 hA8 hM h2
  go_wp2_with (at_builtin; go_must (refine wpList_append_any rfl _ _ 39 rfl w1.heap.size 38 i (.slice none 0 0) 1 24 Try.underlying39 HI.out HZ.out HSZ.out HBY.out rfl (by decide) _ 0 [] rfl (World.ownsRow_nil _ _ _ _) pa M lc us rfl ?c0 ?c1 ?c2 ?c3 ?c4 ?c5 ?c6 ?_))
  case c0 => intro h; have := HPN.out h; have := HM.out; omega
  case c1 => have := HUL.out; have := HM.out; omega
  case c2 => intro b hb; exact HUC.out b hb _ HB1.out
  case c3 => exact HU1.out
  case c4 => unfold maxLen; omega
  case c5 => omega
  case c6 => exact Nat.le_refl _
  intro v1 w2 ho1 hg2
  have hb12 : Below w1.heap.size w1 w2 := (Below.refl _ _).grown hg2 (Nat.le_refl _) (fun k hk => by simp [Value.ownBlock] at hk)
  have HC2 := Lib.hid (HC1.out.grown (below_grown hb12))
  have HO1 := Lib.hid ho1
  have HB12 := Lib.hid hb12
  clear ho1 hg2 hb12 hmin
  go_wp2_with fail
  refine (rows_calls b c _ HC2.out).mono ?_
  rintro e w3 ⟨v3, rs, rfl, hrl, hsm, hown, hcs, hby⟩
  have hbw1 : b < w1.heap.size := HC1.out.lt
  have ho13 := HO1.out.kept hby (own_far HO1.out hbw1)
  have hs12 := HB12.out.size
  have hbel3 : Below w.heap.size w w3 := (HB1.out.trans (HB12.out.mono HB1.out.size)).grown hby (Nat.le_trans HB1.out.size hs12) (fun k hk => by cases hk; exact HBS.out)
  obtain ⟨xs3, hli3, hi3⟩ := listed_of_owned hown
  obtain ⟨qa, qc, rfl⟩ := ownsRow_slice hli3.1
  have HO13 := Lib.hid ho13
  have HLI3 := Lib.hid hli3
  have HI3 := Lib.hid hi3
  have HBE3 := Lib.hid hbel3
  have HS23 := Lib.hid hby.size
  have HS12 := Lib.hid hs12
  clear hbw1 ho13 hs12 hbel3 hown hli3 hi3 hcs hby hsm
  go_wp2_with (at_builtin; go_must (refine wpList_append_any rfl _ _ 39 rfl w1.heap.size 38 i (.slice none 0 0) 1 24 Try.underlying39 HI.out HZ.out HSZ.out HBY.out rfl (by decide) _ M us rfl HO13.out qa rs.length qc xs3 rfl ?c0 ?c1 ?c2 ?c3 ?c4 ?c5 ?c6 ?_))
  case c0 => exact (own_some HLI3.out.1).1
  case c1 => exact HLI3.out.1.1
  case c2 => exact (own_some HLI3.out.1).2
  case c3 => exact one_cells HLI3.out
  case c4 => unfold maxLen; omega
  case c5 => omega
  case c6 => exact Nat.le_trans HS12.out HS23.out
  intro v4 w4 ho4 hg4
  have hbel4 : Below w.heap.size w w4 := HBE3.out.grown hg4 HBE3.out.size (fun k hk => Nat.le_trans HB1.out.size (HO13.out.lt k hk).1)
  have hli4 : Listed w1.heap.size w4 v4 (A ++ rs) (us ++ xs3) := listed_append (by rw [HM.out]; exact ho4) HUL.out
    (fun j hj => let ⟨u, a, b⟩ := HUS.out j hj; ⟨u, a, b.later hbel4⟩)
    (fun j hj => let ⟨u, a, b, c⟩ := HI3.out j hj; ⟨u, a, .of_owned (ownsRow_above b hg4 (fun k hk => (HO1.out.lt k hk).2)) c⟩)
  have hLl : (A ++ rs).length ≤ 14 := by simp; have := HM.out; omega
  generalize A ++ rs = L at hli4 hLl
  generalize us ++ xs3 = xs4 at hli4
  obtain ⟨la, lcap, rfl⟩ := ownsRow_slice hli4.1
  have HLI4 := Lib.hid hli4
  have HLL := Lib.hid hLl
  have HBE4 := Lib.hid hbel4
  generalize hLN : L.length = N at hli4 ⊢
  have HLN := Lib.hid hLN
  have hN14 : N ≤ 14 := by omega
  clear hli4 hLl hbel4 ho4 hg4 hrl hLN HS12 HS23 HBE3 HI3 HLI3 HO13 HC2 HO1 HB12 HLC HM HPN HA8 HUC HU1 HUS HUL HB1 HC1 HBS
  have hat4 : RowsAt w4 (.slice la N lcap) L := by rw [← HLN.out]; exact HLI4.out.at_ (by have := HLL.out; omega)
  have HAT4 := Lib.hid hat4
  clear hat4
  go_wp2_with fail
  refine (set_calls _ L _ HAT4.out (Listed.small HLI4.out)).mono ?_
  rintro e w5 ⟨v5, out, rfl, hset, ho5, hb5⟩
  have hol : out.length ≤ 14 := by
    have := few hset.1 L (fun r hr => (hset.2 r).1 hr)
    have := HLL.out
    omega
  have hos : ∀ r ∈ out, r.length ≤ 4398046511104 := fun r hr => (Listed.small HLI4.out) r ((hset.2 r).1 hr)
  have HAT5 := Lib.hid (ho5.at_ (by omega))
  have HSET := Lib.hid hset
  have HB5 := Lib.hid hb5
  have HOL := Lib.hid hol
  have HOS := Lib.hid hos
  clear hset ho5 hb5 hol hos
  go_wp2_with fail
  refine (copies_calls _ L _ (HAT4.out.later HB5.out)).mono ?_
  rintro e w6 ⟨v6, rfl, ho6, hb6⟩
  obtain ⟨xs6, hli6, hi6⟩ := listed_of_owned ho6
  have hli46 : Listed w1.heap.size w6 (.slice la N lcap) L xs4 := by rw [← HLN.out]; exact Listed.later HLI4.out (HB5.out.trans (hb6.mono HB5.out.size))
  have HLI6 := Lib.hid hli6
  have HI6 := Lib.hid hi6
  have HLI46 := Lib.hid hli46
  have HB6 := Lib.hid hb6
  have ho46 : w6.ownsRow w1.heap.size 38 1 (.slice la N lcap) N xs4 := by have := hli46.1; rw [HLN.out] at this; exact this
  have HO46 := Lib.hid ho46
  have ho66 : w6.ownsRow w5.heap.size 38 1 v6 N xs6 := by have := hli6.1; rw [List.length_reverse, HLN.out] at this; exact this
  have HO66 := Lib.hid ho66
  clear ho6 hb6 hli6 hi6 hli46 ho46 ho66
  go_wp2_with (at_builtin; go_must (refine wpList_append_any rfl _ _ 39 rfl w5.heap.size 38 i (.slice none 0 0) 1 24 Try.underlying39 HI.out HZ.out HSZ.out HBY.out rfl (by decide) _ N xs6 rfl HO66.out la N lcap xs4 rfl ?c0 ?c1 ?c2 ?c3 ?c4 ?c5 ?c6 ?_))
  case c0 => exact (own_some HO46.out).1
  case c1 => exact HO46.out.1
  case c2 => exact (own_some HO46.out).2
  case c3 => exact one_cells HLI46.out
  case c4 => unfold maxLen; omega
  case c5 => omega
  case c6 => exact HB6.out.size
  intro v7 w7 ho7 hg7
  have hb57 : Below w5.heap.size w5 w7 := HB6.out.grown hg7 HB6.out.size (fun k hk => (HO66.out.lt k hk).1)
  have hb47 : Below w4.heap.size w4 w7 := HB5.out.trans (hb57.mono HB5.out.size)
  have hli7 : Listed w5.heap.size w7 v7 (L.reverse ++ L) (xs6 ++ xs4) := listed_append (by rw [List.length_reverse, HLN.out]; exact ho7) (by have := HO66.out.1; rw [List.length_reverse, HLN.out]; omega)
    (fun j hj => let ⟨u, a, b, c⟩ := HI6.out j hj; ⟨u, a, .of_owned (b.kept hg7 (own_ne HO66.out b)) c⟩)
    (fun j hj => let ⟨u, a, b⟩ := HLI4.out.2 j hj; ⟨u, a, b.later hb47⟩)
  have HLI7 := Lib.hid hli7
  have HB57 := Lib.hid hb57
  have HB47 := Lib.hid hb47
  clear ho7 hg7 hb57 hb47 hli7
  have hmem : ∀ r, r ∈ L.reverse ++ L ↔ r ∈ L := fun r => by simp
  have HME := Lib.hid hmem
  have HL7 : Hid ((L.reverse ++ L).length ≤ 28) := by show _ ≤ _; simp; have := HLL.out; omega
  clear hmem
  go_wp2_with fail
  refine (begun_calls _).mono ?_
  rintro e w8 ⟨rfl, hb8⟩
  have HB8 := Lib.hid hb8
  clear hb8
  go_wp2_with fail
  refine (set_calls _ (L.reverse ++ L) _ ((HLI7.out.at_ (by have := HL7.out; omega)).later HB8.out) (Listed.small HLI7.out)).mono ?_
  rintro e w9 ⟨v9, out9, rfl, hset9, ho9, hb9⟩
  obtain rfl := hset9.unique HSET.out HME.out
  have HA9 := Lib.hid (ho9.at_ (by have := HOL.out; omega))
  have HB9 := Lib.hid hb9
  have h59 : RowsAt w9 v5 out9 := ((HAT5.out.later HB57.out).later HB8.out).later hb9
  have H59 := Lib.hid h59
  clear hset9 ho9 hb9 h59
  go_wp2_with fail
  refine (same_calls _ _ out9 _ HA9.out H59.out).mono ?_
  rintro e w10 ⟨rfl, hg10⟩
  have H510 := Lib.hid (H59.out.later hg10.below)
  have HG10 := Lib.hid hg10
  clear hg10
  go_wp2_with fail
  refine (copies_calls _ out9 _ H510.out).mono ?_
  rintro e w11 ⟨v11, rfl, ho11, hb11⟩
  have HB11 := Lib.hid hb11
  have HA11 := Lib.hid (ho11.at_ (by have := HOL.out; simp; omega))
  clear ho11 hb11
  go_wp2_with fail
  refine (set_calls _ out9.reverse _ HA11.out (fun r hr => HOS.out r (by simpa using hr))).mono ?_
  rintro e w12 ⟨v12, out12, rfl, hset12, ho12, hb12⟩
  obtain rfl : out12 = out9 := hset12.unique HSET.out (fun r => by rw [List.mem_reverse]; exact HSET.out.2 r)
  have HA12 := Lib.hid (ho12.at_ (by have := HOL.out; omega))
  have HB12 := Lib.hid hb12
  have H512 := Lib.hid ((H510.out.later HB11.out).later hb12)
  clear hset12 ho12 hb12
  go_wp2_with fail
  refine (same_calls _ _ out12 _ HA12.out H512.out).mono ?_
  rintro e w13 ⟨rfl, hg13⟩
  have HG13 := Lib.hid hg13
  have H513 := Lib.hid (H512.out.later hg13.below)
  clear hg13
  go_wp2_with fail
  refine (set_calls _ out12 _ H513.out HOS.out).mono ?_
  rintro e w14 ⟨v14, out14, rfl, hset14, ho14, hb14⟩
  obtain rfl : out14 = out12 := hset14.unique HSET.out (fun r => HSET.out.2 r)
  have HA14 := Lib.hid (ho14.at_ (by have := HOL.out; omega))
  have HB14 := Lib.hid hb14
  have H514 := Lib.hid (H513.out.later hb14)
  clear hset14 ho14 hb14
  go_wp2_with fail
  refine (same_calls _ _ out14 _ HA14.out H514.out).mono ?_
  rintro e w15 ⟨rfl, hg15⟩
  have HG15 := Lib.hid hg15
  clear hg15
  go_wp2
  go_ret
  have g7 := HBE4.out.trans (HB47.out.mono HBE4.out.size)
  have g8 := g7.trans (HB8.out.mono g7.size)
  have g9 := g8.trans (HB9.out.mono g8.size)
  have g10 := g9.trans (HG10.out.below.mono g9.size)
  have g11 := g10.trans (HB11.out.mono g10.size)
  have g12 := g11.trans (HB12.out.mono g11.size)
  have g13 := g12.trans (HG13.out.below.mono g12.size)
  have g14 := g13.trans (HB14.out.mono g13.size)
  exact ⟨rfl, g14.trans (HG15.out.below.mono g14.size)⟩
set_option maxRecDepth 100000 in
theorem lifted (os : Os) (started : os.Started) (H : Type) (enc : TypeId × Value → H) :
    ReturnsInHanded {} Try.checked os 9 .any (Rows.valueOrdersSpec.pre6 enc Try.prog Try.f9 Rows.valueOrdersRow.domain false) (Rows.valueOrdersSpec.post enc Try.prog Try.f9 false true false false) := by
  refine returnsInHanded_of_change_sized (C := Try.checked) own started (by kernel_rfl) Try.func9
    (ChangeSpec.witness6 (enc := enc) (C := Try.checked) false ⟨#[], #[.slice none 0 0, .slice none 0 0], []⟩ 8 (by kernel_rfl) (by kernel_rfl) (by kernel_rfl) (by kernel_rfl)) ?_
  intro W base args ds gs before hval0 hW hcnd hsz0 hsizes
  have hval : ∀ (j : Nat) t v, Try.f9.params[j]? = some t → args[j]? = some v → Value.okWide Try.prog W .any base t v := hval0
  have hW' := hW
  obtain ⟨p, q, hA0, hV, rfl, hfz, hnd⟩ := hW
  have hA : DataW.TrodAll enc Try.prog W 0 (fun _ => true) true Try.f9.params.toList args.toList ds p := hA0
  have hsz : (DataW.weightsEach Try.prog (Try.f9.params.toList ++ Rows.valueOrdersSpec.plain.varTypes Try.prog) (ds ++ gs)).all (· ≤ reachBytes) = true := hsz0
  rw [Try.params9] at hA hval hsz
  obtain ⟨v0, vs0, d0, ds0, p0, q0, hargs, rfl, rfl, h0, r0⟩ := trodAll_cons hA
  obtain ⟨v1, vs1, d1, ds1, p1, q1, rfl, rfl, rfl, h1, r1⟩ := trodAll_cons r0
  obtain ⟨rfl, rfl, rfl⟩ := trodAll_nil r1
  obtain rfl : args = #[v0, v1] := by cases args; simp_all
  obtain ⟨rfl, rfl⟩ := trodVars_none hV
  have lt0 : ∀ x ∈ p0, x.block < W.heap.size := by obtain ⟨m, hm⟩ := h0; exact DataW.trod_lt m _ _ _ hm
  obtain ⟨a0, len0, cap0, z0, rfl, w0⟩ := open_codes (hval 0 22 v0 rfl rfl) h0
  have lt1 : ∀ x ∈ p1, x.block < W.heap.size := by obtain ⟨m, hm⟩ := h1; exact DataW.trod_lt m _ _ _ hm
  obtain ⟨pa1, ll1, lc1, rfl, q11, q21, q31, A1, q41, q51⟩ := open_Rows (hval 1 39 v1 rfl rfl) h1 (fun n hn => by have hq := List.all_eq_true.1 hsz n (DataW.weights_mem_each (j := 1) (t := 39) rfl rfl n hn); simpa using hq)
  clear hA0 hval0
  refine (walk a0 len0 cap0 z0 pa1 ll1 lc1 A1 W w0 q11 q21 q31 q41 q51).mono fun e W' ⟨he, bel⟩ => ?_
  subst he
  exact ⟨_, rfl, _, _, _, [], _, [], hW', trodAll_mk1 (shut_bool Try.underlying4 _), (trodAll_cons_mk (Below.trod laidOut (by kernel_rfl) (of_decide_eq_true (by kernel_rfl)) h0 bel lt0) (trodAll_cons_mk (Below.trod laidOut (by kernel_rfl) (of_decide_eq_true (by kernel_rfl)) h1 bel lt1) trodAll_mk0)), rfl, bel.frame _, fun h => by cases h⟩

theorem over : Rows.valueOrdersRow.holds Try.pinned (OpenSpec.ofChange Rows.valueOrdersSpec) :=
  OpenClaim.holds_of_wide 9 Try.f9 rfl rfl rfl rfl rfl rfl rfl ⟨rfl, rfl, rfl, rfl, rfl⟩ rfl rfl rfl rfl rfl (by kernel_rfl) Try.func9 (by kernel_rfl)
    (of_decide_eq_true (by kernel_rfl)) (by unfold Func.isWrapper; first | (rw [if_pos (by decide +kernel)]; kernel_rfl) | (rw [if_neg (by decide +kernel)]; exact ⟨rfl, rfl⟩))
    (fun os started H enc _ => lifted os started H enc)
theorem proved : Rows.ValueOrdersSaid := over
end Orders
end Go.Proofs.Ythlhpjickkhjfaa
