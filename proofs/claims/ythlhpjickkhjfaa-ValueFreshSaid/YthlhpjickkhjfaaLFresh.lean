/- The law ValueFresh returns true for all codes, without conditions. -/
import Derived.Test.YthlhpjickkhjfaaF
import Derived.Deep.RegionHeld3
set_option linter.unusedSimpArgs false
set_option linter.unusedVariables false
namespace Go.Proofs.Ythlhpjickkhjfaa
open Go.ChangeShapes Go.WideShapes Go.ChangeAt Go.RowKit Go.Joins

namespace Fresh
theorem few {l : List (List V)} (hl : Asc l) : ∀ m : List (List V), (∀ r ∈ l, r ∈ m) → l.length ≤ m.length := by
  classical
  induction l with
  | nil => intro m _; simp
  | cons a l ih =>
    intro m hm
    have ha : a ∈ m := hm a (by simp)
    have hlt : ∀ r ∈ l, r ≠ a := by
      intro r hr e
      have := (List.pairwise_cons.1 hl).1 r hr
      rw [e, goodR.self] at this
      omega
    have := ih (List.pairwise_cons.1 hl).2 (m.erase a) (fun r hr => (List.mem_erase_of_ne (hlt r hr)).2 (hm r (by simp [hr])))
    rw [List.length_erase_of_mem ha] at this
    have h0 : 0 < m.length := List.length_pos_of_mem ha
    simp
    omega
theorem wrap_up (k N : Nat) (hk : k ≤ N) (hn : N ≤ 4398046511104) : wrap64 ((k : Int) + 1) = (k : Int) + 1 := by
  unfold wrap64
  omega
set_option maxHeartbeats 4000000 in
set_option maxRecDepth 100000 in
theorem walk (a : Option Addr) (len cap : Nat) (zs : List Int) (w : World) (hr : IsRow .u8 w a len cap zs) :
    Calls Try.prog 10 #[.slice a len cap] w fun e w' => e = .returned (.bool true) ∧ Below w.heap.size w w' := by
  have mx := mixed
  obtain ⟨i, hi, hz, hsz, hby⟩ := info_parts info38
  have HI := Lib.hid hi
  have HZ := Lib.hid hz
  have HSZ := Lib.hid hsz
  have HBY := Lib.hid hby
  have hN := new_calls a len cap zs w hr
  have HN := Lib.hid hN
  clear hN hr hi hz hsz hby
  go_enter Try.func10, Try.ntmps10
  go_wp2_with fail
  refine HN.out.mono ?_
  rintro e w1 ⟨b, c, rfl, hbs, hcs, hb1⟩
  have HB1 := Lib.hid hb1
  have HC1 := Lib.hid hcs
  have HBS := Lib.hid hbs
  clear HN hb1 hcs hbs
  go_wp2_with fail
  refine (rows_calls b c _ HC1.out).mono ?_
  rintro e w2 ⟨v, rs, rfl, hrl, hsm, hown, hcs, hby⟩
  have hb2 : Below w.heap.size w w2 := HB1.out.grown hby HB1.out.size (fun k hk => by cases hk; exact HBS.out)
  obtain ⟨xs, hox, hix⟩ := hown
  have HOX := Lib.hid hox
  have HIX := Lib.hid hix
  have HB2 := Lib.hid hb2
  have hbase : w1.heap.size ≤ w2.heap.size := hby.size
  have HS2 := Lib.hid HB1.out.size
  clear hox hix hb2 hcs hby
  go_wp2_with (at_builtin; go_must (refine wpList_append_own _ rfl _ _ 39 rfl w1.heap.size 38 i (.slice none 0 0) 1 24 Try.underlying39 HI.out HZ.out HSZ.out HBY.out rfl (by decide) _ rs.length xs rfl ((HOX.out.alloc _).alloc _) ⟨w2.heap.size + 1, 0, none⟩ 1 1 [.slice (some ⟨w2.heap.size, 0, none⟩) 1 1] rfl rfl ?c1 ?c2 ?c3 ?c4 ?c5 ?_))
  case c1 =>
    intro j u hj
    have h := cell_one_new (w2.alloc (.cells #[.int .i64 4, .int .i64 7, .string ⟨#[]⟩] 24)) _ 38 j u hj
    rw [show (w2.alloc (.cells #[.int .i64 4, .int .i64 7, .string ⟨#[]⟩] 24)).heap.size = w2.heap.size + 1 from by simp] at h
    exact h
  case c2 => intro x hx; simp at hx; subst hx; rfl
  case c3 => unfold maxLen; omega
  case c4 => omega
  case c5 => simp; omega
  intro v' w3 hown' hgrow hnil
  have hlit : (w2.alloc (.cells #[.int .i64 4, .int .i64 7, .string ⟨#[]⟩] 24)).ownsRow w1.heap.size 24 3 (.slice (some ⟨w2.heap.size, 0, none⟩) 1 1) [vI 7].length (flat [vI 7]) := World.ownsRow_lit (size := 3) w2 #[.int .i64 4, .int .i64 7, .string ⟨#[]⟩] 1 hbase (by unfold maxLen; omega) rfl
  have hl3 : Owned w1.heap.size w3 v' (rs ++ [[vI 7]]) := Owned.snoc ((HOX.out.alloc _).alloc _) (fun j hj => let ⟨u, a, b, c⟩ := HIX.out j hj; ⟨u, a, (b.alloc _).alloc _, c⟩) (hlit.alloc _) (by simp) hown' hgrow
  have hb3 : Below w.heap.size w w3 := ((HB2.out.alloc HB2.out.size _).alloc (Nat.le_trans HB2.out.size (by simp)) _).grown hgrow (Nat.le_trans HB2.out.size (by simp; omega)) (fun k hk => Nat.le_trans HS2.out (HOX.out.lt k hk).1)
  have hLl : (rs ++ [[vI 7]]).length ≤ 7 := by simp; omega
  have hLs : ∀ r ∈ rs ++ [[vI 7]], r.length ≤ 4398046511104 := by
    intro r hr
    rcases List.mem_append.1 hr with h | h
    · have := hsm r h; omega
    · rw [List.mem_singleton.1 h]; simp
  generalize rs ++ [[vI 7]] = L at hl3 hLl hLs
  have HL3 := Lib.hid hl3
  have HB3 := Lib.hid hb3
  have HLL := Lib.hid hLl
  have HLS := Lib.hid hLs
  clear hlit hl3 hb3 hown' hgrow hnil hLl hLs HIX HOX HB2 HS2 hbase hrl hsm HI HZ HSZ HBY HB1 HC1 HBS
  go_wp2_with fail
  have hat3 : RowsAt w3 v' L := HL3.out.at_ (by have := HLL.out; omega)
  have HAT3 := Lib.hid hat3
  refine (copies_calls v' L _ hat3).mono ?_
  rintro e w4 ⟨v4, rfl, ho4, hb4⟩
  have hat4 : RowsAt w4 v4 L.reverse := ho4.at_ (by have := HLL.out; simp; omega)
  have HB4 := Lib.hid hb4
  clear hat3 ho4 hb4
  go_wp2_with fail
  refine (copies_calls v4 L.reverse _ hat4).mono ?_
  rintro e w5 ⟨v5, rfl, ho5, hb5⟩
  rw [List.reverse_reverse] at ho5
  have HO5 := Lib.hid ho5
  have HB5 := Lib.hid (HB4.out.trans (hb5.mono HB4.out.size))
  clear hat4 ho5 hb5 HB4
  go_wp2_with fail
  refine (set_calls v' L _ (HAT3.out.later HB5.out) HLS.out).mono ?_
  rintro e w6 ⟨v6, out, rfl, hset, ho6, hb6⟩
  have hol : out.length ≤ 4398046511104 := by
    have := few hset.1 L (fun r hr => (hset.2 r).1 hr)
    have := HLL.out
    omega
  have hat6 : RowsAt w6 v6 out := ho6.at_ hol
  have HSET := Lib.hid hset
  have HO6 := Lib.hid ho6
  have HB6 := Lib.hid hb6
  have HOL := Lib.hid hol
  clear hset ho6 hb6 hol
  go_wp2_with fail
  refine (copies_calls v6 out _ hat6).mono ?_
  rintro e w7 ⟨v7, rfl, ho7, hb7⟩
  have hat7 : RowsAt w7 v7 out.reverse := ho7.at_ (by have := HOL.out; simp; omega)
  have HB7 := Lib.hid hb7
  clear hat6 ho7 hb7
  go_wp2_with fail
  refine (copies_calls v7 out.reverse _ hat7).mono ?_
  rintro e w8 ⟨v8, rfl, ho8, hb8⟩
  rw [List.reverse_reverse] at ho8
  have HO8 := Lib.hid ho8
  have HB8 := Lib.hid (HB7.out.trans (hb8.mono HB7.out.size))
  have hpl := (HO6.out.places).later HB8.out
  clear hat7 ho8 hb8
  obtain ⟨pa, pcap, rfl, hp⟩ := hpl.at_
  have HP := Lib.hid hp
  clear hp hpl
  generalize hN : out.length = N at HP ⊢
  have HN := Lib.hid hN
  have hNl : N ≤ 4398046511104 := by rw [← hN]; exact HOL.out
  clear hN
  go_wp2_with fail
  go_loopw [26] (fun i wr => ∃ k : Nat, k ≤ N ∧ i = .int .i64 k ∧ Mess w5.heap.size w6.heap.size w8 wr) (fun i _ => N - (intOf i).toNat)
  case atStart => exact ⟨0, by omega, rfl, Mess.refl _ _ _⟩
  case round =>
    obtain ⟨k, hk, rfl, hm⟩ := hrel
    have HM := Lib.hid hm
    clear hm
    have hwk := wrap_up k N hk hNl
    by_cases hlt : k < N
    · have hlt' : decide ((k : Int) < (N : Int)) = true := by simp; omega
      obtain ⟨g, qa, m, qc, rfl, hg1, hg2, hg3, hg4, hg5⟩ := HP.out k hlt
      have hgb := HM.out.block g hg1 (.inr (.inr hg2))
      have hgc : wr.cell? ⟨g, k, none⟩ = some (.slice qa m qc) := by rw [← hg3]; simp only [World.cell?, hgb]
      have hgl : g < wr.heap.size := Nat.lt_of_lt_of_le hg1 HM.out.size
      have HG5 := Lib.hid hg5
      have HG12 := Lib.hid (And.intro hg1 hg2)
      have HG3 := Lib.hid hg3
      have hk63 : (k : Int) < 9223372036854775808 := by omega
      clear hg1 hg2 hg3 hg5 hgb
      go_wp2_with fail
      clear hgc hgl
      go_loopw [34] (fun i wr => ∃ j : Nat, j ≤ m ∧ i = .int .i64 j ∧ Mess w5.heap.size w6.heap.size w8 wr) (fun i _ => m - (intOf i).toNat)
      case atStart => exact ⟨0, by omega, rfl, HM.out⟩
      case round =>
        obtain ⟨j, hj, rfl, hm⟩ := hrel
        have HM2 := Lib.hid hm
        clear hm
        have hwj := wrap_up j m hj hg4
        by_cases hltj : j < m
        · have hltj' : decide ((j : Int) < (m : Int)) = true := by simp; omega
          obtain ⟨hg1, hg2⟩ := HG12.out
          have hgb := HM2.out.block g hg1 (.inr (.inr hg2))
          have hgc : wr.cell? ⟨g, k, none⟩ = some (.slice qa m qc) := by rw [← HG3.out]; simp only [World.cell?, hgb]
          have hgl : g < wr.heap.size := Nat.lt_of_lt_of_le hg1 HM2.out.size
          obtain ⟨r, cur, rfl, hr1, hr2, hr3, hr4⟩ := HG5.out.resolve_left (by omega)
          obtain ⟨cur', hcs, hr5⟩ := HM2.out.shape r cur hr1 hr2 hr3
          obtain ⟨⟨x0, hx0⟩, hf0, hrl⟩ := cell_of_heap hr5 (o := j * 3) (by omega)
          obtain ⟨⟨x1, hx1⟩, hf1, -⟩ := cell_of_heap hr5 (o := j * 3 + 1) (by omega)
          obtain ⟨⟨x2, hx2⟩, hf2, -⟩ := cell_of_heap hr5 (o := j * 3 + 2) (by omega)
          have hst : ∀ a b c : Value, Mess w5.heap.size w6.heap.size w8 (((wr.setCell ⟨r, j * 3, none⟩ a).setCell ⟨r, j * 3 + 1, none⟩ b).setCell ⟨r, j * 3 + 2, none⟩ c) := fun a b c => ((HM2.out.store hr1 hr2 hr3 _ _).store hr1 hr2 hr3 _ _).store hr1 hr2 hr3 _ _
          have HST := Lib.hid hst
          clear hg1 hg2 hgb hr1 hr2 hr3 hr4 hcs hr5 hst
          go_wp2
          exact ⟨⟨j + 1, by omega, by go_num, HST.out _ _ _⟩, by simp [intOf]; omega⟩
        · have hltj' : decide ((j : Int) < (m : Int)) = false := by simp; omega
          go_wp2
          exact ⟨⟨k + 1, by omega, by go_num, HM2.out⟩, by simp [intOf]; omega⟩
    · have hlt' : decide ((k : Int) < (N : Int)) = false := by simp; omega
      have hn3 : w3.heap.size ≤ w5.heap.size := HB5.out.size
      have hn8 : w5.heap.size ≤ w8.heap.size := Nat.le_trans HB6.out.size HB8.out.size
      have hb38 : Below w3.heap.size w3 wr := (HB5.out.trans ((HB6.out.trans (HB8.out.mono HB6.out.size)).mono hn3)).trans (HM.out.below hn3 (Nat.le_trans hn3 hn8))
      have hb58 : Below w5.heap.size w5 wr := (HB6.out.trans (HB8.out.mono HB6.out.size)).trans (HM.out.below (Nat.le_refl _) hn8)
      have ho8 := HO8.out.mess HM.out HB7.out.size
      have HB38 := Lib.hid hb38
      have HB58 := Lib.hid hb58
      have HO8' := Lib.hid ho8
      clear hn3 hn8 hb38 hb58 ho8
      go_wp2_with fail
      refine (begun_calls _).mono ?_
      rintro e w9 ⟨rfl, hb9⟩
      have HB9 := Lib.hid hb9
      clear hb9
      go_wp2_with fail
      have hA9 : RowsAt w9 v' L := (HAT3.out.later HB38.out).later HB9.out
      have hB9 : RowsAt w9 v5 L := ((HO5.out.at_ (by have := HLL.out; omega)).later HB58.out).later HB9.out
      refine (same_calls v' v5 L _ hA9 hB9).mono ?_
      rintro e w10 ⟨rfl, hg10⟩
      have HG10 := Lib.hid hg10
      have HA10 := Lib.hid (hA9.later hg10.below)
      clear hg10 hA9 hB9
      go_wp2_with fail
      refine (set_calls v' L _ HA10.out HLS.out).mono ?_
      rintro e w11 ⟨v11, out2, rfl, hset2, ho11, hb11⟩
      obtain rfl := hset2.unique HSET.out (fun _ => Iff.rfl)
      have hC : RowsAt w11 v8 out2 := (((HO8'.out.at_ HOL.out).later HB9.out).later HG10.out.below).later hb11
      have hD : RowsAt w11 v11 out2 := ho11.at_ HOL.out
      have HC := Lib.hid hC
      have HD := Lib.hid hD
      have HB11 := Lib.hid hb11
      clear hset2 ho11 hb11 hC hD
      go_wp2_with fail
      refine (same_calls v11 v8 out2 _ HD.out HC.out).mono ?_
      rintro e w12 ⟨rfl, hg12⟩
      have HG12 := Lib.hid hg12
      clear hg12
      go_wp2
      go_ret
      have g1 : Below w.heap.size w wr := HB3.out.trans (HB38.out.mono HB3.out.size)
      have g2 := g1.trans (HB9.out.mono g1.size)
      have g3 := g2.trans (HG10.out.below.mono g2.size)
      have g4 := g3.trans (HB11.out.mono g3.size)
      exact ⟨rfl, g4.trans (HG12.out.below.mono g4.size)⟩
set_option maxRecDepth 100000 in
theorem lifted (os : Os) (started : os.Started) (H : Type) (enc : TypeId × Value → H) :
    ReturnsInHanded {} Try.checked os 10 .any (Rows.valueFreshSpec.pre6 enc Try.prog Try.f10 Rows.valueFreshRow.domain false) (Rows.valueFreshSpec.post enc Try.prog Try.f10 false true false false) := by
  refine returnsInHanded_of_change (C := Try.checked) own started (by kernel_rfl) Try.func10
    (ChangeSpec.witness6 (enc := enc) (C := Try.checked) false ⟨#[], #[.slice none 0 0], []⟩ 8 (by kernel_rfl) (by kernel_rfl) (by kernel_rfl) (by kernel_rfl)) ?_
  intro W base args ds gs before hval0 hW hcnd hsizes
  have hval : ∀ (j : Nat) t v, Try.f10.params[j]? = some t → args[j]? = some v → Value.okWide Try.prog W .any base t v := hval0
  have hW' := hW
  obtain ⟨p, q, hA0, hV, rfl, hfz, hnd⟩ := hW
  have hA : DataW.TrodAll enc Try.prog W 0 (fun _ => true) true Try.f10.params.toList args.toList ds p := hA0
  rw [Try.params10] at hA hval
  obtain ⟨v0, vs0, d0, ds0, p0, q0, hargs, rfl, rfl, h0, r0⟩ := trodAll_cons hA
  obtain ⟨rfl, rfl, rfl⟩ := trodAll_nil r0
  obtain rfl : args = #[v0] := by cases args; simp_all
  obtain ⟨rfl, rfl⟩ := trodVars_none hV
  have lt0 : ∀ x ∈ p0, x.block < W.heap.size := by obtain ⟨m, hm⟩ := h0; exact DataW.trod_lt m _ _ _ hm
  obtain ⟨a0, len0, cap0, z0, rfl, w0⟩ := open_codes (hval 0 22 v0 rfl rfl) h0
  clear hA0 hval0
  refine (walk a0 len0 cap0 z0 W w0).mono fun e W' ⟨he, bel⟩ => ?_
  subst he
  exact ⟨_, rfl, _, _, _, [], _, [], hW', trodAll_mk1 (shut_bool Try.underlying4 _), (trodAll_cons_mk (Below.trod laidOut (by kernel_rfl) (of_decide_eq_true (by kernel_rfl)) h0 bel lt0) trodAll_mk0), rfl, bel.frame _, fun h => by cases h⟩

theorem over : Rows.valueFreshRow.holds Try.pinned (OpenSpec.ofChange Rows.valueFreshSpec) :=
  OpenClaim.holds_of_wide 10 Try.f10 rfl rfl rfl rfl rfl rfl rfl ⟨rfl, rfl, rfl, rfl, rfl⟩ rfl rfl rfl rfl rfl (by kernel_rfl) Try.func10 (by kernel_rfl)
    (of_decide_eq_true (by kernel_rfl)) (by unfold Func.isWrapper; first | (rw [if_pos (by decide +kernel)]; kernel_rfl) | (rw [if_neg (by decide +kernel)]; exact ⟨rfl, rfl⟩))
    (fun os started H enc _ => lifted os started H enc)
theorem proved : Rows.ValueFreshSaid := over
end Fresh
end Go.Proofs.Ythlhpjickkhjfaa
