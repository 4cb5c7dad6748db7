import Derived.Test.YtmjokpakekfkfaaForms5
import Derived.SizedLaws
import Derived.Deep.Slices
import Derived.Deep.RegionHeld3
import Derived.IntWalk
/- The contract of interval.intervals; lists of intervals that a call owns. -/
set_option linter.unusedSimpArgs false
set_option linter.unusedVariables false
namespace Go.Proofs.Ytmjokpakekfkfaa
open Go.RowKit

/-- The cells of a list of intervals. -/
def flatI : List I → List Value
  | [] => []
  | x :: r => .int .i64 x.f.k :: .int .i64 x.f.n :: .string x.f.t :: .int .i64 x.t.k :: .int .i64 x.t.n :: .string x.t.t :: .bool x.o :: flatI r
theorem flatI_length (r : List I) : (flatI r).length = r.length * 7 := by
  induction r with
  | nil => rfl
  | cons v r ih => simp [flatI, ih]; omega
theorem flatI_snoc (r : List I) (x : I) : flatI (r ++ [x]) = flatI r ++ [.int .i64 x.f.k, .int .i64 x.f.n, .string x.f.t, .int .i64 x.t.k, .int .i64 x.t.n, .string x.t.t, .bool x.o] := by
  induction r with
  | nil => rfl
  | cons a r ih => simp [flatI, ih]
theorem flatI_at (r : List I) (i : Nat) (h : i < r.length) : (flatI r)[i * 7]? = some (.int .i64 r[i].f.k) ∧ (flatI r)[i * 7 + 1]? = some (.int .i64 r[i].f.n) ∧ (flatI r)[i * 7 + 2]? = some (.string r[i].f.t) ∧
    (flatI r)[i * 7 + 3]? = some (.int .i64 r[i].t.k) ∧ (flatI r)[i * 7 + 4]? = some (.int .i64 r[i].t.n) ∧ (flatI r)[i * 7 + 5]? = some (.string r[i].t.t) ∧ (flatI r)[i * 7 + 6]? = some (.bool r[i].o) := by
  induction r generalizing i with
  | nil => simp at h
  | cons v r ih =>
    rcases i with _ | i
    · simp [flatI]
    · have := ih i (by simpa using h)
      rw [show (i + 1) * 7 = i * 7 + 7 from by omega]
      simpa [flatI] using this
theorem info72 : (Try.prog.info? 57).map (fun i => (i.zero, i.size, i.bytes)) = some (some (I.val ⟨⟨0, 0, ⟨#[]⟩⟩, ⟨0, 0, ⟨#[]⟩⟩, false⟩), 7, 72) := by kernel_rfl
abbrev OwnI (base : Nat) (w : World) (v : Value) (L : List I) : Prop := w.ownsRow base 57 7 v L.length (flatI L)
theorem OwnI.at_ {base : Nat} {w : World} {v : Value} {L : List I} (h : OwnI base w v L) (hl : L.length ≤ 4398046511104) : IvAt w v L := by
  have h0 := h
  obtain ⟨hx, hv | ⟨g, cap, cur, hv, hg, hh, hcap, hm, hs, ht⟩⟩ := h
  · obtain ⟨rfl, hn⟩ := hv
    obtain rfl : L = [] := List.eq_nil_of_length_eq_zero hn
    exact ⟨none, 0, rfl, by simp, .inl rfl⟩
  · subst hv
    refine ⟨some ⟨g, 0, none⟩, cap, rfl, hl, ?_⟩
    by_cases hr : L = []
    · exact .inl hr
    · refine .inr ⟨g, 0, rfl, (Array.getElem?_eq_some_iff.1 hh).1, fun i hi => ?_⟩
      obtain ⟨f0, f1, f2, f3, f4, f5, f6⟩ := flatI_at L i hi
      have c0 := h0.cellAt (i * 7) (by omega)
      have c1 := h0.cellAt (i * 7 + 1) (by omega)
      have c2 := h0.cellAt (i * 7 + 2) (by omega)
      have c3 := h0.cellAt (i * 7 + 3) (by omega)
      have c4 := h0.cellAt (i * 7 + 4) (by omega)
      have c5 := h0.cellAt (i * 7 + 5) (by omega)
      have c6 := h0.cellAt (i * 7 + 6) (by omega)
      simp only [Nat.zero_add]
      exact ⟨⟨c0.trans f0, c1.trans f1, c2.trans f2⟩, c3.trans f3, c4.trans f4, c5.trans f5, c6.trans f6⟩
theorem ownI_snoc {base : Nat} {w : World} {v : Value} {L : List I} {x : I} (h : w.ownsRow base 57 7 v (L.length + 1) (flatI L ++ [.int .i64 x.f.k, .int .i64 x.f.n, .string x.f.t, .int .i64 x.t.k, .int .i64 x.t.n, .string x.t.t, .bool x.o])) : OwnI base w v (L ++ [x]) := by
  show World.ownsRow _ _ _ _ _ _ _
  rw [flatI_snoc, List.length_append]; exact h
theorem seven_at (w : World) (a b c d e f g : Value) (t : TypeId) (n : Nat) (hn : n = w.heap.size) : ∀ j u, [a, b, c, d, e, f, g][j]? = some u → (w.alloc (.cells #[a, b, c, d, e, f, g] t)).cell? ((⟨n, 0, none⟩ : Addr).add j) = some u := by
  subst hn
  intro j u hj
  rcases j with _ | _ | _ | _ | _ | _ | _ | j
  · simp at hj; subst hj; show (w.alloc _).cell? ⟨w.heap.size, 0 + 0, none⟩ = _; go_simp
  · simp at hj; subst hj; show (w.alloc _).cell? ⟨w.heap.size, 0 + 1, none⟩ = _; go_simp
  · simp at hj; subst hj; show (w.alloc _).cell? ⟨w.heap.size, 0 + 2, none⟩ = _; go_simp
  · simp at hj; subst hj; show (w.alloc _).cell? ⟨w.heap.size, 0 + 3, none⟩ = _; go_simp
  · simp at hj; subst hj; show (w.alloc _).cell? ⟨w.heap.size, 0 + 4, none⟩ = _; go_simp
  · simp at hj; subst hj; show (w.alloc _).cell? ⟨w.heap.size, 0 + 5, none⟩ = _; go_simp
  · simp at hj; subst hj; show (w.alloc _).cell? ⟨w.heap.size, 0 + 6, none⟩ = _; go_simp
  · simp at hj
def OwnIOut (L : List I) (w : World) (e : Ending) (w' : World) : Prop := ∃ v, e = .returned v ∧ OwnI w.heap.size w' v L ∧ Below w.heap.size w w'
theorem below_drew0 (w : World) : Below w.heap.size w w.drew := ⟨rfl, rfl, rfl, Nat.le_refl _, fun _ _ => rfl⟩
theorem cut_two {w : World} {g off n ca : Nat} {a b : V} {R : List V} (h : CutV w (.slice (some ⟨g, off, none⟩) (n + 1 + 1) ca) (a :: b :: R)) (hn : R.length = n) : CutV w (.slice (if ca = 2 then some ⟨g, off, none⟩ else some ⟨g, off + 6, none⟩) n (ca - 2)) R := by
  obtain ⟨pa, pc, hv, h1, h2, h3, h4⟩ := h
  simp only [Value.slice.injEq] at hv
  obtain ⟨rfl, -, rfl⟩ := hv
  obtain ⟨g', off', hg, hr⟩ := h4.resolve_left (by simp)
  simp only [Option.some.injEq, Addr.mk.injEq] at hg
  obtain ⟨rfl, rfl, -⟩ := hg
  simp only [List.length_cons] at h1 h3
  by_cases he : ca = 2
  · have : R = [] := List.eq_nil_of_length_eq_zero (by omega)
    subst this
    exact ⟨_, ca - 2, by rw [← hn], by simp, by unfold maxLen at h2 ⊢; omega, by simp, .inl rfl⟩
  · rw [if_neg he]
    exact ⟨_, ca - 2, by rw [hn], by omega, by unfold maxLen at h2 ⊢; omega, by omega, .inr ⟨g, off + 6, rfl, hr.cut 2⟩⟩
def lenV' : Value → Nat
  | .slice _ n _ => n
  | _ => 0
theorem ivs_total (E : List V) : (ivs E).length ≤ E.length := by rw [ivs_len]; omega
set_option maxHeartbeats 2000000 in
set_option maxRecDepth 100000 in
theorem intervals_calls (v : Value) (E : List V) (w : World) (h : CutV w v E) (hl : E.length ≤ 1000000) : Calls Try.prog 74 #[v] w (OwnIOut (ivs E) w) := by
  obtain ⟨i, hi, hz, hsz, hby⟩ := info_parts info72
  have HI := Lib.hid hi
  have HZ := Lib.hid hz
  have HSZ := Lib.hid hsz
  have HBY := Lib.hid hby
  have HC := Lib.hid h
  have mx := mixed
  clear hi hz hsz hby h
  go_enter Try.func74, Try.ntmps74
  go_wp2_with fail
  go_loopw [0, 3] (fun va vl wr => ∃ (R : List V) (L : List I), CutV w va R ∧ ivs E = L ++ ivs R ∧ OwnI w.heap.size wr vl L ∧ L.length + R.length ≤ E.length ∧ Below w.heap.size w wr) (fun va _ _ => lenV' va)
  case atStart => exact ⟨E, [], HC.out, rfl, World.ownsRow_nil _ _ _ _, by simp, Below.refl _ _⟩
  case round =>
    obtain ⟨R, L, hc, hE, ho, hlen, hb⟩ := hrel
    have HE := Lib.hid hE
    have HO := Lib.hid ho
    have HL := Lib.hid hlen
    have HB := Lib.hid hb
    have hLl : L.length ≤ 1000000 := by omega
    have HLL := Lib.hid hLl
    rcases R with _ | ⟨a, _ | ⟨b, R⟩⟩
    · obtain ⟨pa, ca, rfl, -, -, -, -⟩ := hc
      have HF : Hid (OwnI w.heap.size wr u3 (ivs E)) := by show OwnI _ _ _ _; rw [hE]; simpa [ivs] using ho
      clear hE ho hlen hb hLl
      have ho0 : oddB 0 = false := rfl
      go_wp2_with (go_at_call 73; refine (inside_calls _ _ _ (by simp) _).mono ?_; rintro e w' ⟨rfl, rfl⟩)
      go_ret
      exact ⟨_, rfl, HF.out, HB.out⟩
    · obtain ⟨pa, ca, rfl, hc1, hc2, -, hc3⟩ := hc
      obtain ⟨g, off, rfl, hr⟩ := hc3.resolve_left (by simp)
      have hat := (hr.at_ 0 (by simp)).later hr.blk hb
      have hgl := Nat.lt_of_lt_of_le hr.blk hb.size
      simp only [Nat.zero_mul, Nat.add_zero, List.getElem_cons_zero] at hat
      have HF : Hid (ivs E = L ++ [⟨a, zV, true⟩]) := by show _ = _; rw [hE]; rfl
      obtain ⟨ak, an, at'⟩ := a
      obtain ⟨a0, a1, a2⟩ := hat
      simp only at a0 a1 a2
      simp only [List.length_cons, List.length_nil, Nat.zero_add] at hc1 ⊢
      have ho1 : oddB 1 = true := rfl
      have hsz : w.heap.size ≤ wr.heap.size := hb.size
      have HSIZ := Lib.hid hsz
      clear hE ho hlen hb hLl hr hc3 hsz
      go_wp2_with (first | (go_at_call 73; refine (inside_calls _ _ _ (by simp) _).mono ?_; rintro e w' ⟨rfl, rfl⟩) | (at_builtin; go_must (refine wpList_append_own _ rfl _ _ 23 rfl w.heap.size 57 i (I.val ⟨⟨0, 0, ⟨#[]⟩⟩, ⟨0, 0, ⟨#[]⟩⟩, false⟩) 7 72 Try.underlying23 HI.out HZ.out HSZ.out HBY.out rfl (by decide) _ L.length (flatI L) rfl (HO.out.alloc _) ⟨wr.heap.size, 0, none⟩ 1 1 [.int .i64 ak, .int .i64 an, .string at', .int .i64 0, .int .i64 0, .string ⟨#[]⟩, .bool true] rfl rfl (seven_at _ _ _ _ _ _ _ _ _ _ rfl) (by intro u hu; simp at hu; rcases hu with rfl | rfl | rfl | rfl | rfl | rfl | rfl <;> rfl) ?c3 ?c4 ?c5 ?_)))
      case c3 => have := HLL.out; unfold maxLen; omega
      case c4 => have := HLL.out; omega
      case c5 => have := HSIZ.out; simp; omega
      intro v' w7 hown' hgrow hnil
      have HO7 : Hid (OwnI w.heap.size w7 v' (L ++ [⟨⟨ak, an, at'⟩, zV, true⟩])) := ownI_snoc (x := ⟨⟨ak, an, at'⟩, zV, true⟩) hown'
      have HB7 : Hid (Below w.heap.size w w7) := (HB.out.alloc HB.out.size _).grown hgrow (by have := HSIZ.out; simp; omega) (fun k hk => (HO.out.lt k hk).1)
      clear hown' hgrow hnil
      go_wp2
      go_ret
      exact ⟨_, rfl, by rw [HF.out]; exact HO7.out, HB7.out⟩
    · obtain ⟨a', c', hsl, hcut⟩ := hc.from_ 2 (by simp)
      have HCC := Lib.hid hc
      obtain ⟨pa, ca, rfl, hc1, hc2, hc4, hc3⟩ := hc
      obtain ⟨g, off, rfl, hr⟩ := hc3.resolve_left (by simp)
      have hat := (hr.at_ 0 (by simp)).later hr.blk hb
      have hat2 := (hr.at_ 1 (by simp)).later hr.blk hb
      have hgl := Nat.lt_of_lt_of_le hr.blk hb.size
      simp only [Nat.zero_mul, Nat.add_zero, List.getElem_cons_zero, Nat.one_mul, List.getElem_cons_succ] at hat hat2
      have HF : Hid (ivs E = (L ++ [⟨a, b, false⟩]) ++ ivs R) := by show _ = _; rw [hE]; simp [ivs]
      have e2 : (a :: b :: R).length - 2 = R.length := by simp
      rw [e2] at hsl hcut
      have hd2 : (a :: b :: R).drop 2 = R := rfl
      rw [hd2] at hcut
      have HCUT := Lib.hid hcut
      have HSL := Lib.hid hsl
      have hnb : g ≠ wr.heap.size := by omega
      have hno : some g ≠ u3.ownBlock := fun e => by have := (ho.lt g e.symm).1; have := hr.blk; omega
      obtain ⟨ak, an, at'⟩ := a
      obtain ⟨bk, bn, bt⟩ := b
      obtain ⟨a0, a1, a2⟩ := hat
      obtain ⟨b0, b1, b2⟩ := hat2
      simp only at a0 a1 a2 b0 b1 b2
      simp only [List.length_cons] at hc1 hc4 hsl hlen ⊢
      have HLE := Lib.hid hlen
      generalize hRl : R.length = n at hc1 hc4 hsl hlen HCUT ⊢
      have HCUT2 : Hid (CutV w (.slice (if ca = 2 then some ⟨g, off, none⟩ else some ⟨g, off + 6, none⟩) n (ca - 2)) R) := cut_two (by have := HCC.out; simp only [List.length_cons] at this; rw [hRl] at this; exact this) hRl
      have HRL := Lib.hid hRl
      have hsz : w.heap.size ≤ wr.heap.size := hb.size
      have HSIZ := Lib.hid hsz
      have i1 : (0 : Int) < (n : Int) + 1 + 1 := by omega
      have i2 : (1 : Int) < (n : Int) + 1 + 1 := by omega
      have HOA := Lib.hid (own_later HO.out (w' := (wr.alloc (iObj ⟨⟨ak, an, at'⟩, ⟨bk, bn, bt⟩, false⟩ 57)).drew) (((Below.refl _ _).alloc (Nat.le_refl _) _).drew))
      clear hE ho hlen hb hLl hr hc3 hsz hRl hcut e2 hd2 hsl
      go_wp2_with fail
      go_region_held3 (fun w' => w'.cell? ⟨g, off, none⟩ = some (.int .i64 ak) ∧ w'.cell? ⟨g, off + 1, none⟩ = some (.int .i64 an) ∧ w'.cell? ⟨g, off + 2, none⟩ = some (.string at') ∧ w'.cell? ⟨g, off + 3, none⟩ = some (.int .i64 bk) ∧ w'.cell? ⟨g, off + 3 + 1, none⟩ = some (.int .i64 bn) ∧ w'.cell? ⟨g, off + 3 + 2, none⟩ = some (.string bt)) (go_keep)
        (first
          | (refine step_append_lies _ rfl _ _ 23 rfl w.heap.size 57 i (I.val ⟨⟨0, 0, ⟨#[]⟩⟩, ⟨0, 0, ⟨#[]⟩⟩, false⟩) 7 72 Try.underlying23 HI.out HZ.out HSZ.out HBY.out rfl (by decide) u3 L.length (flatI L) rfl HOA.out ⟨wr.heap.size, 0, none⟩ 1 1 [.int .i64 ak, .int .i64 an, .string at', .int .i64 bk, .int .i64 bn, .string bt, .bool false] rfl rfl (seven_at wr.drew _ _ _ _ _ _ _ _ _ rfl) (by intro u hu; simp at hu; rcases hu with rfl | rfl | rfl | rfl | rfl | rfl | rfl <;> rfl) (by decide) (by have := HLL.out; unfold maxLen; omega) (by have := HLL.out; omega) (by have := HSIZ.out; simp; omega) (wr.heap.size + 1) (by simp) ?_; intro gn cp w6 hown6 hgrow hat6 hlt6; have d0 : w6.cell? ⟨g, off, none⟩ = some (.int .i64 ak) := hgrow.cell (by go_simp) hno; have d1 : w6.cell? ⟨g, off + 1, none⟩ = some (.int .i64 an) := hgrow.cell (by go_simp) hno; have d2 : w6.cell? ⟨g, off + 2, none⟩ = some (.string at') := hgrow.cell (by go_simp) hno; have d3 : w6.cell? ⟨g, off + 3, none⟩ = some (.int .i64 bk) := hgrow.cell (by go_simp) hno; have d4 : w6.cell? ⟨g, off + 3 + 1, none⟩ = some (.int .i64 bn) := hgrow.cell (by go_simp) hno; have d5 : w6.cell? ⟨g, off + 3 + 2, none⟩ = some (.string bt) := hgrow.cell (by go_simp) hno; have l6 : g < w6.heap.size := Nat.lt_of_lt_of_le hgl (Nat.le_trans (by simp) hgrow.size); have HO6 := Lib.hid hown6; have HG6 := Lib.hid hgrow; clear hown6 hgrow hat6 hlt6))
      have HB6 : Hid (Below w.heap.size w w6) := ((HB.out.alloc HB.out.size _).drew).grown HG6.out (by have := HSIZ.out; simp; omega) (fun k hk => (HO.out.lt k hk).1)
      have HON : Hid (OwnI w.heap.size w6 (.slice (some ⟨gn, 0, none⟩) (L.length + 1) cp) (L ++ [⟨⟨ak, an, at'⟩, ⟨bk, bn, bt⟩, false⟩])) := ownI_snoc (x := ⟨⟨ak, an, at'⟩, ⟨bk, bn, bt⟩, false⟩) HO6.out
      clear HO6 HG6 HOA d0 d1 d2 d3 d4 d5 a0 a1 a2 b0 b1 b2
      go_wp2
      go_roundw
      case rel => exact ⟨R, L ++ [⟨⟨ak, an, at'⟩, ⟨bk, bn, bt⟩, false⟩], HCUT2.out, HF.out, HON.out, by have := HLE.out; have := HRL.out; simp; omega, HB6.out⟩
      case measure =>
        show n < n + 1 + 1
        omega
end Go.Proofs.Ytmjokpakekfkfaa

/- How a law's rows are opened. -/
set_option linter.unusedSimpArgs false
set_option linter.unusedVariables false
namespace Go.Proofs.Ytmjokpakekfkfaa
open Go.ChangeShapes Go.WideShapes Go.ChangeAt Go.RowKit Go.Joins Go.Deep

theorem add_plain' {w : World} {a : Addr} {n : Nat} {v : Value} (h : w.cell? (a.add n) = some v) (hs : a.spot = none) : w.cell? ⟨a.block, a.off + n, none⟩ = some v := by
  rw [← h]
  congr 1
  unfold Addr.add
  split
  · obtain ⟨b, o, s⟩ := a
    simp only at hs
    subst hs
    simp_all
  · rfl
theorem cell_lt {w : World} {a : Addr} {v : Value} (h : w.cell? a = some v) : a.block < w.heap.size ∧ a.spot = none := by
  unfold World.cell? at h
  split at h
  · rename_i c _ _ hh
    refine ⟨(Array.getElem?_eq_some_iff.1 hh).1, ?_⟩
    split at h
    · simp at h
    · rename_i hs
      cases hh : a.spot with
      | none => rfl
      | some _ => rw [hh] at hs; simp at hs
  · simp at h

section
variable {H : Type} {enc : TypeId × Value → H} {w : World} {base : Nat} {spare : Nat → Bool} {held : Bool}
theorem bytes24 : Try.prog.bytesOf 25 = 32 := by kernel_rfl
theorem bytes38 : Try.prog.bytesOf 88 = 24 := by kernel_rfl
theorem open_three {P : Program} {t : TypeId} {f0 f1 f2 : Field} {n : Nat} {c0 c1 c2 : Value} {x : DataW H × List MemPlace} (hs : P.underlying t = some (.struct #[f0, f1, f2])) (hone : oneCellFields P #[f0, f1, f2] = true)
    (h : DataW.trod enc P w base spare held n t [c0, c1, c2] = some x) :
    ∃ (y0 y1 y2 : DataW H × List MemPlace) (m : Nat), DataW.trod enc P w base spare held m f0.type [c0] = some y0 ∧ DataW.trod enc P w base spare held m f1.type [c1] = some y1 ∧ DataW.trod enc P w base spare held m f2.type [c2] = some y2 := by
  obtain ⟨y0, y1, y2, m, hx, _, h0, h1, h2⟩ := trod_struct3 hs h
  obtain ⟨o0, k0⟩ := hone_of hone 0 f0 rfl
  obtain ⟨o1, k1⟩ := hone_of hone 1 f1 rfl
  obtain ⟨o2, k2⟩ := hone_of hone 2 f2 rfl
  exact ⟨y0, y1, y2, m, by simpa [o0, k0] using h0, by simpa [o1, k1] using h1, by simpa [o2, k2] using h2⟩
theorem open_cells3 {n : Nat} {c0 c1 c2 : Value} {x : DataW H × List MemPlace} (h : DataW.trod enc Try.prog w base spare held n 25 [c0, c1, c2] = some x) :
    ∃ v : V, c0 = .int .i64 v.k ∧ c1 = .int .i64 v.n ∧ c2 = .string v.t := by
  obtain ⟨y0, y1, y2, m, hy0, hy1, hy2⟩ := open_three Try.underlying25 (by kernel_rfl) h
  obtain ⟨a, e0, rfl, wa⟩ := DataW.trod_int Try.underlying3 hy0
  obtain ⟨b, e1, rfl, wb⟩ := DataW.trod_int Try.underlying2 hy1
  obtain ⟨s, e2, rfl, hsz⟩ := DataW.trod_string Try.underlying9 hy2
  simp at e0 e1 e2
  exact ⟨⟨a, b, s⟩, e0, e1, e2⟩

theorem open_row_cells {cs : List Value} {n : Nat} {x : DataW H × List MemPlace} (h : DataW.trod enc Try.prog w base (fun _ => true) held n 88 cs = some x)
    (hsz : ∀ es sp, x.1 = .slice es sp → (es.length + sp.length) * 32 ≤ reachBytes) : ∃ v r, cs = [v] ∧ RowAt w v r := by
  rcases open_slice Try.underlying88 h with ⟨rfl, _⟩ | ⟨a, len, cap, m, n', D, Pl, rfl, hb, hl, hm, hmm, rfl, hel⟩
  · exact ⟨_, [], rfl, none, 0, rfl, by simp, .inl rfl⟩
  · simp only [if_true] at hmm
    subst hmm
    have hz := hsz _ _ rfl
    simp only [List.length_map, List.length_range, reachBytes] at hz
    have hall : ∀ i, i < len → ∃ c0 c1 c2 : Value, ∃ v : V, c0 = .int .i64 v.k ∧ c1 = .int .i64 v.n ∧ c2 = .string v.t ∧ w.cell? (a.add (i * 3 + 0)) = some c0 ∧ w.cell? (a.add (i * 3 + 1)) = some c1 ∧ w.cell? (a.add (i * 3 + 2)) = some c2 := by
      intro i hi
      obtain ⟨cs', h1, h2⟩ := hel i (by omega)
      rw [cells24] at h1
      obtain ⟨_, hlen, hc⟩ := World.cells?_some h1
      match cs', hlen with
      | [c0, c1, c2], _ =>
        obtain ⟨v, e0, e1, e2⟩ := open_cells3 h2
        have k0 := hc 0 (by omega)
        have k1 := hc 1 (by omega)
        have k2 := hc 2 (by omega)
        rw [add_add] at k0 k1 k2
        exact ⟨c0, c1, c2, v, e0, e1, e2, by simpa using k0, by simpa using k1, by simpa using k2⟩
    have hsp : 0 < len → a.block < w.heap.size ∧ a.spot = none := by
      intro h0
      obtain ⟨c0, c1, c2, v, e0, e1, e2, k0, k1, k2⟩ := hall 0 h0
      have : a.add (0 * 3 + 0) = a := by simp [Addr.add]
      rw [this] at k0
      exact cell_lt k0
    have hex : ∀ i, i < len → ∃ v : V, At w a.block (a.off + i * 3) v := by
      intro i hi
      obtain ⟨c0, c1, c2, v, rfl, rfl, rfl, k0, k1, k2⟩ := hall i hi
      have hs := (hsp (by omega)).2
      exact ⟨v, ⟨add_plain' k0 hs, by rw [Nat.add_assoc]; exact add_plain' k1 hs, by rw [Nat.add_assoc]; exact add_plain' k2 hs⟩⟩
    have hin : Inhabited V := ⟨⟨0, 0, ByteArray.empty⟩⟩
    obtain ⟨F, hF⟩ := choose_lt hex
    refine ⟨_, (List.range len).map F, rfl, some a, _, by rw [List.length_map, List.length_range], by simp; omega, ?_⟩
    by_cases h0 : len = 0
    · left; simp [h0]
    · right
      obtain ⟨hlt, hs⟩ := hsp (by omega)
      obtain ⟨b, off, spot⟩ := a
      simp only at hs hlt
      subst hs
      exact ⟨b, off, rfl, hlt, fun i hi => by simpa using hF i (by simpa using hi)⟩

set_option maxRecDepth 100000 in
/-- A row that came in. -/
theorem open_Row {r : Reach} {b0 : Nat} {v : Value} {d : DataW H} {p : List MemPlace} (hv : Value.okWide Try.prog w r b0 88 v) (h : DataW.Trod enc Try.prog w base (fun _ => true) held 88 v d p)
    (hsz : ∀ es sp, d = .slice es sp → (es.length + sp.length) * 32 ≤ reachBytes) : ∃ r, RowAt w v r := by
  obtain ⟨a0, len0, cap0, rfl⟩ := okWide_slice Try.underlying88 hv
  obtain ⟨fuel, hf⟩ := h
  obtain ⟨v, r, hcs, hr⟩ := open_row_cells hf hsz
  simp [Value.cells] at hcs
  subst hcs
  exact ⟨r, hr⟩
end
end Go.Proofs.Ytmjokpakekfkfaa

/- How a law's list of rows is opened, and appending whatever slice. -/
set_option linter.unusedSimpArgs false
set_option linter.unusedVariables false
namespace Go.Proofs.Ytmjokpakekfkfaa
open Go.ChangeShapes Go.WideShapes Go.ChangeAt Go.RowKit Go.Joins Go.Deep

section
variable {H : Type} {enc : TypeId × Value → H} {w : World} {base : Nat} {spare : Nat → Bool} {held : Bool}

theorem weights_all {P : Program} {e : TypeId} {l : List (DataW H)} {d : DataW H} (hd : d ∈ l) {n : Nat} (hn : n ∈ d.weights P e) : n ∈ DataW.weightsAll P e l := by
  induction l with
  | nil => cases hd
  | cons x l ih =>
    rw [DataW.weightsAll, List.mem_append]
    rcases List.mem_cons.1 hd with h | h
    · subst h; exact .inl hn
    · exact .inr (ih h)
theorem cells38 : Try.prog.cellsOf 88 = 1 := by kernel_rfl
set_option maxRecDepth 100000 in
/-- The first rows of a list that came in. -/
theorem open_Rows {r : Reach} {b0 : Nat} {v : Value} {d : DataW H} {p : List MemPlace} (hv : Value.okWide Try.prog w r b0 87 v) (h : DataW.Trod enc Try.prog w base (fun _ => true) held 87 v d p)
    (hsz : ∀ n ∈ d.weights Try.prog 87, n ≤ reachBytes) :
    ∃ (a : Option Addr) (len cap : Nat), v = .slice a len cap ∧ len ≤ cap ∧ cap ≤ maxLen ∧ (a = none → len = 0 ∧ cap = 0) ∧
      ∃ rs : List (List V), rs.length = min len 8 ∧ (rs = [] ∨ ∃ b off, a = some ⟨b, off, none⟩ ∧ RowsIn w b off rs) := by
  obtain ⟨a0, len0, cap0, rfl⟩ := okWide_slice Try.underlying87 hv
  obtain ⟨fuel, hf⟩ := h
  rcases open_slice1 Try.underlying87 cells38 hf with ⟨hcs, _⟩ | ⟨a, len, cap, m, n', W, D, Pl, hcs, hb, hl, hm, hmm, hx, hel⟩
  · simp [Value.cells] at hcs
    obtain ⟨rfl, rfl, rfl⟩ := hcs
    exact ⟨_, _, _, rfl, by omega, by simp, fun _ => ⟨rfl, rfl⟩, [], by simp, .inl rfl⟩
  · simp [Value.cells] at hcs
    obtain ⟨rfl, rfl, rfl⟩ := hcs
    simp only [if_true] at hmm
    subst hmm
    simp only [Prod.mk.injEq] at hx
    obtain ⟨hd, -⟩ := hx
    refine ⟨_, _, _, rfl, hl, hm, by simp, ?_⟩
    have hex : ∀ i, i < len0 → ∃ r : List V, w.cell? (a.add i) = some (W i) ∧ RowAt w (W i) r := by
      intro i hi
      obtain ⟨h1, h2⟩ := hel i (by omega)
      obtain ⟨v, r, e, hr⟩ := open_row_cells h2 (fun es sp he => by
        have hmem : D i ∈ (List.range len0).map D := List.mem_map.2 ⟨i, List.mem_range.2 hi, rfl⟩
        have hw : (es.length + sp.length) * Try.prog.bytesOf 25 ∈ (D i).weights Try.prog 88 := by
          simp only at he
          rw [he]; simp [DataW.weights, Try.underlying88]
        have := hsz ((es.length + sp.length) * Try.prog.bytesOf 25) (by
          rw [hd]
          simp only [DataW.weights, Try.underlying87, List.mem_cons, List.mem_append]
          exact .inr (.inl (weights_all hmem hw)))
        rwa [bytes24] at this)
      simp at e
      subst e
      exact ⟨r, h1, hr⟩
    have hin : Inhabited (List V) := ⟨[]⟩
    obtain ⟨F, hF⟩ := choose_lt hex
    refine ⟨(List.range (min len0 8)).map F, by simp, ?_⟩
    by_cases h0 : len0 = 0
    · left; simp [h0]
    · right
      have hc0 := (hF 0 (by omega)).1
      have : a.add 0 = a := by simp [Addr.add]
      rw [this] at hc0
      obtain ⟨hlt, hs⟩ := cell_lt hc0
      obtain ⟨b, off, spot⟩ := a
      simp only at hs hlt
      subst hs
      refine ⟨b, off, rfl, hlt, fun i hi => ?_⟩
      have hi' : i < len0 := by simp at hi; omega
      obtain ⟨h1, h2⟩ := hF i hi'
      exact ⟨W i, add_plain' h1 rfl, by simpa using h2⟩
end

theorem run_append_none {w : World} (base : Nat) (t ty e : TypeId) (i : TypeInfo) (size : Nat) (c : Nat) (ht : Try.prog.underlying t = some (.slice e)) (hi : Try.prog.info? e = some i)
    (v : Value) (n : Nat) (xs : List Value) (hown : w.ownsRow base e size v n xs) :
    (Builtin.append_ #[t, t] ty #[v, .slice none 0 c]).run Try.prog w = .ok v w := by
  rcases hown.2 with ⟨rfl, rfl⟩ | ⟨g, cap, cur, rfl, _, _, hnc, _⟩
  · simp [Builtin.append_, run_underlying ht, sizeOf, typeInfo, hi, Builtin.lenOf, Builtin.firstCells]
  · simp [Builtin.append_, run_underlying ht, sizeOf, typeInfo, hi, Builtin.lenOf, Builtin.firstCells, hnc, storeCells]
theorem wpList_append_any {w : World} {ops : Array Oper} {rest : List Oper} {o : Oper} {a : Act} {Q : Exit → Act → World → Prop} (hgd : o.guard = none) (s x : Operand) (t : TypeId)
    (ho : o.op = .call { callee := .builtin .append, args := #[s, x], argTypes := #[t, t] })
    (base : Nat) (e : TypeId) (i : TypeInfo) (z : Value) (size bytes : Nat) (ht : Try.prog.underlying t = some (.slice e)) (hi : Try.prog.info? e = some i) (hz : i.zero = some z)
    (hsize : i.size = size) (hby : i.bytes = bytes) (hzs : z.cells.size = size) (hsz : 0 < size)
    (v : Value) (n : Nat) (xs : List Value) (hs : a.eval s = v) (hown : w.ownsRow base e size v n xs)
    (ad : Option Addr) (m c : Nat) (news : List Value) (hx : a.eval x = .slice ad m c) (hnone : ad = none → m = 0) (hl : news.length = m * size) (hnews : ∀ b, ad = some b → ∀ j u, news[j]? = some u → w.cell? (b.add j) = some u) (h1 : ∀ u ∈ news, u.oneCell' = true)
    (h63 : n + m ≤ maxLen) (hbytes : (n + m) * bytes ≤ 140737488355328) (hbase : base ≤ w.heap.size)
    (h : ∀ v' w', w'.ownsRow base e size v' (n + m) (xs ++ news) → w.grownBy w' v.ownBlock → wpList Try.prog ops Q rest (a.put o.dst v') w') : wpList Try.prog ops Q (o :: rest) a w := by
  cases ad with
  | none =>
    obtain rfl := hnone rfl
    obtain rfl : news = [] := List.eq_nil_of_length_eq_zero (by omega)
    refine wpList_plain hgd fun K hK => ?_
    have hrun := run_append_none (w := w) base t o.type e i size c ht hi v n xs hown
    unfold Oper.wp
    simp [execOp, ho, resolve, invoke, builtin, hs, hx, hrun, Result.andThen]
    exact hK _ _ (h v w (by simpa using hown) ⟨rfl, rfl, rfl, Nat.le_refl _, fun _ _ _ => rfl⟩)
  | some b => exact wpList_append_own _ hgd s x t ho base e i z size bytes ht hi hz hsize hby hzs hsz v n xs hs hown b m c news hx hl (hnews b rfl) h1 h63 hbytes hbase fun v' w' h2 h3 _ => h v' w' h2 h3

/-- A list of rows whose outer row the call owns. -/
def Listed (base : Nat) (w : World) (v : Value) (L : List (List V)) (xs : List Value) : Prop :=
  w.ownsRow base 88 1 v L.length xs ∧ ∀ j (h : j < L.length), ∃ u, xs[j]? = some u ∧ RowAt w u L[j]
theorem Listed.at_ {base : Nat} {w : World} {v : Value} {L : List (List V)} {xs : List Value} (h : Listed base w v L xs) (hl : L.length ≤ 4398046511104) : RowsAt w v L := by
  obtain ⟨ho, hi⟩ := h
  have h0 := ho
  obtain ⟨hx, hv | ⟨g, cap, cur, hv, hg, hh, hcap, hm, hs, ht⟩⟩ := ho
  · obtain ⟨rfl, hn⟩ := hv
    obtain rfl : L = [] := List.eq_nil_of_length_eq_zero hn
    exact ⟨none, 0, rfl, by simp, .inl rfl⟩
  · subst hv
    refine ⟨some ⟨g, 0, none⟩, cap, rfl, hl, .inr ⟨g, 0, rfl, (Array.getElem?_eq_some_iff.1 hh).1, fun i h => ?_⟩⟩
    obtain ⟨u, h1, h2⟩ := hi i h
    exact ⟨u, by rw [Nat.zero_add, h0.cellAt i (by omega), h1], h2⟩
/-- Rows behind rows. -/
theorem listed_append {base : Nat} {w2 : World} {v' : Value} {A B : List (List V)} {xs ys : List Value} (ho : w2.ownsRow base 88 1 v' (A.length + B.length) (xs ++ ys)) (hx : xs.length = A.length)
    (ha : ∀ j (h : j < A.length), ∃ u, xs[j]? = some u ∧ RowAt w2 u A[j]) (hb : ∀ j (h : j < B.length), ∃ u, ys[j]? = some u ∧ RowAt w2 u B[j]) : Listed base w2 v' (A ++ B) (xs ++ ys) := by
  refine ⟨by rw [List.length_append]; exact ho, fun j hj => ?_⟩
  by_cases h : j < A.length
  · obtain ⟨u, h1, h2⟩ := ha j h
    exact ⟨u, by rw [List.getElem?_append, if_pos (by omega)]; exact h1, by rw [List.getElem_append_left h]; exact h2⟩
  · have hj' : j - A.length < B.length := by simp at hj; omega
    obtain ⟨u, h1, h2⟩ := hb _ hj'
    exact ⟨u, by rw [List.getElem?_append, if_neg (by omega), hx]; exact h1, by rw [List.getElem_append_right (by omega)]; exact h2⟩
end Go.Proofs.Ytmjokpakekfkfaa

/- The contract of the reference's sorted. -/
set_option linter.unusedSimpArgs false
set_option linter.unusedVariables false
namespace Go.Proofs.Ytmjokpakekfkfaa
open Go.RowKit

def Asc0 (l : List (List V)) : Prop := l.Pairwise (fun a b => cmpR a b ≤ 0)
theorem asc0_srt {l : List (List V)} (h : Asc0 l) : Srt l := fun i j hi hj hij => (List.pairwise_iff_getElem.1 h) i j hi hj hij
/-- The lower head goes behind what is done. -/
theorem merge_step {o a b : List (List V)} {x y : List V} (h1 : Asc0 (o ++ x :: a)) (h2 : Asc0 (o ++ y :: b)) (hxy : cmpR x y ≤ 0) : Asc0 ((o ++ [x]) ++ a) ∧ Asc0 ((o ++ [x]) ++ y :: b) := by
  refine ⟨by rw [List.append_assoc]; exact h1, ?_⟩
  obtain ⟨k1, k2, k3⟩ := List.pairwise_append.1 h1
  obtain ⟨m1, m2, m3⟩ := List.pairwise_append.1 h2
  refine List.pairwise_append.2 ⟨List.pairwise_append.2 ⟨k1, by simp, fun u hu v hv => ?_⟩, m2, fun u hu v hv => ?_⟩
  · rw [List.mem_singleton] at hv; subst hv; exact k3 u hu _ (by simp)
  · rcases List.mem_append.1 hu with h | h
    · exact m3 u h v hv
    · rw [List.mem_singleton] at h
      subst h
      rcases List.mem_cons.1 hv with e | e
      · subst e; exact hxy
      · exact goodR.trans _ _ _ hxy ((List.pairwise_cons.1 m2).1 v e)

/-- A slice of rows that may be cut. -/
def CutAt (w : World) (v : Value) (rs : List (List V)) : Prop :=
  ∃ (a : Option Addr) (cap : Nat), v = .slice a rs.length cap ∧ rs.length ≤ cap ∧ cap ≤ maxLen ∧ rs.length ≤ 4398046511104 ∧ (rs = [] ∨ ∃ b off, a = some ⟨b, off, none⟩ ∧ RowsIn w b off rs)
theorem RowsIn.cut {w : World} {b off : Nat} {rs : List (List V)} (h : RowsIn w b off rs) (k : Nat) : RowsIn w b (off + k) (rs.drop k) :=
  ⟨h.blk, fun i hi => by
    obtain ⟨u, h1, h2⟩ := h.at_ (k + i) (by simp at hi; omega)
    exact ⟨u, by rw [Nat.add_assoc]; exact h1, by rw [List.getElem_drop]; exact h2⟩⟩
theorem RowsIn.head {w : World} {b off : Nat} {rs : List (List V)} (h : RowsIn w b off rs) (k : Nat) : RowsIn w b off (rs.take k) :=
  ⟨h.blk, fun i hi => by
    obtain ⟨u, h1, h2⟩ := h.at_ i (by simp at hi; omega)
    exact ⟨u, h1, by rw [List.getElem_take]; exact h2⟩⟩
def Sorts (rs : List (List V)) (w : World) (e : Ending) (w' : World) : Prop :=
  ∃ (v : Value) (s : List (List V)), e = .returned v ∧ Asc0 s ∧ (∀ r, r ∈ s ↔ r ∈ rs) ∧ s.length = rs.length ∧ CutAt w' v s ∧ Below w.heap.size w w'

theorem cut_of_listed {base : Nat} {w : World} {v : Value} {L : List (List V)} {xs : List Value} (h : Listed base w v L xs) (hl : L.length ≤ 4398046511104) : CutAt w v L := by
  obtain ⟨a, cap, rfl, _, h3⟩ := h.at_ hl
  obtain ⟨hx, hv | ⟨g, cp, cur, hv, hg, hh, hcap, hm, hs, ht⟩⟩ := h.1
  · simp only [Value.slice.injEq] at hv
    exact ⟨a, cap, rfl, by omega, by unfold maxLen; omega, hl, h3⟩
  · simp only [Value.slice.injEq, true_and] at hv
    obtain ⟨-, rfl⟩ := hv
    exact ⟨a, _, rfl, hcap, hm, hl, h3⟩
set_option maxRecDepth 100000 in
theorem short_calls (va : Value) (rs : List (List V)) (w : World) (h2 : rs.length < 2) (hc : CutAt w va rs) : Calls Try.prog 81 #[va] w (Sorts rs w) := by
  obtain ⟨pa, ca, rfl, hcap, hcm, hl, ha⟩ := hc
  obtain ⟨i, hi, hz, hsz, hby⟩ := info_parts info38
  have hus : ∃ us : List Value, us.length = rs.length ∧ (∀ j (h : j < rs.length), ∃ u, us[j]? = some u ∧ RowAt w u rs[j]) ∧ (∀ u ∈ us, u.oneCell' = true) ∧ (pa = none → rs.length = 0) ∧ ∀ b, pa = some b → ∀ j u, us[j]? = some u → w.cell? (b.add j) = some u := by
    rcases rs with _ | ⟨r, _ | ⟨r', t⟩⟩
    · exact ⟨[], rfl, fun j h => absurd h (Nat.not_lt_zero _), by simp, by simp, by simp⟩
    · obtain ⟨b, off, rfl, hb⟩ := ha.resolve_left (by simp)
      obtain ⟨u, k1, k2⟩ := hb.at_ 0 (by simp)
      refine ⟨[u], rfl, fun j h => ?_, ?_, by simp, ?_⟩
      · obtain rfl : j = 0 := by simpa using h
        exact ⟨u, rfl, k2⟩
      · intro x hx
        rw [List.mem_singleton] at hx
        subst hx
        obtain ⟨_, _, k3, _⟩ := k2
        rw [k3]; rfl
      · intro b' hb' j x hj
        simp only [Option.some.injEq] at hb'
        subst hb'
        rcases j with _ | j
        · simp at hj; subst hj; simpa [Addr.add] using k1
        · simp at hj
    · simp at h2; omega
  obtain ⟨us, u1, u2, u3, u4, u5⟩ := hus
  have HI := Lib.hid hi
  have HZ := Lib.hid hz
  have HSZ := Lib.hid hsz
  have HBY := Lib.hid hby
  have U1 := Lib.hid u1
  have U2 := Lib.hid u2
  have U3 := Lib.hid u3
  have U4 := Lib.hid u4
  have U5 := Lib.hid u5
  have hn0 := World.ownsRow_nil w w.heap.size 88 1
  have HN0 := Lib.hid hn0
  generalize hN : rs.length = N at h2 hcap hl ⊢
  have HN := Lib.hid hN
  have hd : decide ((N : Int) < 2) = true := by simp; omega
  clear hi hz hsz hby u1 u2 u3 u4 u5 ha hn0 hN
  go_enter Try.func81, Try.ntmps81
  go_wp2_with (at_builtin; go_must (refine wpList_append_any rfl _ _ 87 rfl w.heap.size 88 i (.slice none 0 0) 1 24 Try.underlying87 HI.out HZ.out HSZ.out HBY.out rfl (by decide) _ 0 [] rfl HN0.out pa N ca us rfl ?c0 ?c1 ?c2 ?c3 ?c4 ?c5 ?c6 ?_))
  case c0 => intro h; have := U4.out h; have := HN.out; omega
  case c1 => have := U1.out; have := HN.out; omega
  case c2 => exact U5.out
  case c3 => exact U3.out
  case c4 => unfold maxLen; omega
  case c5 => omega
  case c6 => exact Nat.le_refl _
  intro v1 w2 ho1 hg2
  have hb : Below w.heap.size w w2 := (Below.refl _ _).grown hg2 (Nat.le_refl _) (fun k hk => by simp [Value.ownBlock] at hk)
  have hli : Listed w.heap.size w2 v1 rs us := ⟨by rw [HN.out]; simpa using ho1, fun j hj => let ⟨u, a, b⟩ := U2.out j hj; ⟨u, a, b.later hb⟩⟩
  have HLI := Lib.hid hli
  have HB := Lib.hid hb
  clear ho1 hg2 hli hb
  go_wp2
  go_ret
  refine ⟨_, rs, rfl, ?_, fun r => Iff.rfl, rfl, cut_of_listed HLI.out (by have := HN.out; omega), HB.out⟩
  have hlen := HN.out
  rcases rs with _ | ⟨r, _ | ⟨r', t⟩⟩
  · exact List.Pairwise.nil
  · simp [Asc0]
  · simp at hlen; omega
theorem below_drew (w : World) : Below w.heap.size w w.drew := ⟨rfl, rfl, rfl, Nat.le_refl _, fun _ _ => rfl⟩
def lenV : Value → Nat
  | .slice _ n _ => n
  | _ => 0
theorem own_keep {base : Nat} {w w' : World} {e : TypeId} {size n : Nat} {v : Value} {xs : List Value} (h : w.ownsRow base e size v n xs) (hw : Below w.heap.size w w') : w'.ownsRow base e size v n xs :=
  h.kept (row := none) ⟨hw.os, hw.tape, hw.output, hw.size, fun k hk _ => hw.block k hk⟩ (by cases v.ownBlock <;> simp)
theorem CutAt.later {w w' : World} {v : Value} {rs : List (List V)} (h : CutAt w v rs) (hw : Below w.heap.size w w') : CutAt w' v rs := by
  obtain ⟨a, cap, h1, h2, h3, h4, h5⟩ := h
  exact ⟨a, cap, h1, h2, h3, h4, h5.imp id fun ⟨b, off, k1, k2⟩ => ⟨b, off, k1, k2.later hw⟩⟩
/-- The cells of a slice of rows. -/
theorem CutAt.news {w : World} {v : Value} {rs : List (List V)} (h : CutAt w v rs) :
    ∃ (pa : Option Addr) (ca : Nat) (us : List Value), v = .slice pa rs.length ca ∧ us.length = rs.length ∧ (∀ j (h : j < rs.length), ∃ u, us[j]? = some u ∧ RowAt w u rs[j]) ∧ (∀ u ∈ us, u.oneCell' = true) ∧ (pa = none → rs.length = 0) ∧ ∀ b, pa = some b → ∀ j u, us[j]? = some u → w.cell? (b.add j) = some u := by
  obtain ⟨pa, ca, rfl, hcap, hcm, hl, ha⟩ := h
  rcases ha with rfl | ⟨b, off, rfl, hb⟩
  · exact ⟨pa, ca, [], rfl, rfl, fun j h => absurd h (Nat.not_lt_zero _), by simp, by simp, by simp⟩
  · have hin : Inhabited Value := ⟨.int .i64 0⟩
    obtain ⟨F, hF⟩ := Go.Deep.choose_lt (n := rs.length) (p := fun i u => w.cell? ⟨b, off + i, none⟩ = some u ∧ ∀ h : i < rs.length, RowAt w u rs[i]) (fun i hi => let ⟨u, k1, k2⟩ := hb.at_ i hi; ⟨u, k1, fun _ => k2⟩)
    refine ⟨_, ca, (List.range rs.length).map F, rfl, by simp, fun j hj => ⟨F j, by simp [hj], (hF j hj).2 hj⟩, ?_, by simp, ?_⟩
    · intro u hu
      obtain ⟨j, hj, rfl⟩ := List.mem_map.1 hu
      have hj' : j < rs.length := by simpa using hj
      obtain ⟨_, _, k3, _⟩ := (hF j hj').2 hj'
      rw [k3]; rfl
    · intro b' hb' j u hj
      simp only [Option.some.injEq] at hb'
      subst hb'
      have hj' : j < rs.length := by
        have := (List.getElem?_eq_some_iff.1 hj).1
        simpa using this
      have : u = F j := by simp [hj'] at hj; exact hj.symm
      subst this
      have := (hF j hj').1
      rw [← this]
      unfold Addr.add
      split <;> simp_all
/-- What is behind the first row. -/
theorem CutAt.tail {w : World} {v : Value} {x : List V} {A : List (List V)} (h : CutAt w v (x :: A)) :
    ∃ (b off ca : Nat) (u : Value) (a' : Option Addr) (c' : Nat), v = .slice (some ⟨b, off, none⟩) (A.length + 1) ca ∧ A.length + 1 ≤ ca ∧ ca ≤ maxLen ∧ w.cell? ⟨b, off, none⟩ = some u ∧ b < w.heap.size ∧ RowAt w u x ∧
      (∀ w' : World, (Instr.slice 87 (.slice (some ⟨b, off, none⟩) (A.length + 1) ca) (some (.int .i64 1)) none none).run Try.prog w' = .ok (.slice a' A.length c') w') ∧ CutAt w (.slice a' A.length c') A := by
  obtain ⟨pa, ca, rfl, hcap, hcm, hl, ha⟩ := h
  obtain ⟨b, off, rfl, hb⟩ := ha.resolve_left (by simp)
  obtain ⟨u, k1, k2⟩ := hb.at_ 0 (by simp)
  simp only [List.length_cons] at hcap hl
  have hm' : ca ≤ 9223372036854775807 := hcm
  by_cases he : ca = 1
  · subst he
    obtain rfl : A = [] := List.eq_nil_of_length_eq_zero (by omega)
    refine ⟨b, off, 1, u, some ⟨b, off, none⟩, 0, rfl, hcap, hcm, by simpa using k1, hb.blk, by simpa using k2, fun w' => ?_, ⟨_, 0, rfl, by simp, by simp, by simp, .inl rfl⟩⟩
    simp [Instr.slice, run_underlying Try.underlying87, Instr.sliceBounds, Instr.sliceBound, asIntOf, go_sem]
  · refine ⟨b, off, ca, u, some ⟨b, off + 1, none⟩, ca - 1, rfl, hcap, hcm, by simpa using k1, hb.blk, by simpa using k2, fun w' => ?_, ⟨_, ca - 1, rfl, by omega, by unfold maxLen at hcm ⊢; omega, by omega, ?_⟩⟩
    · have e1 : ¬ ca < 1 := by omega
      have e2 : ¬ ca = 1 := he
      have e3 : ¬ ca ≤ 1 := by omega
      simp [Instr.slice, run_underlying Try.underlying87, Instr.sliceBounds, Instr.sliceBound, asIntOf, go_sem, hcap]
      rw [if_pos (by omega), if_neg e2]
    · refine .inr ⟨b, off + 1, rfl, ?_⟩
      have := hb.cut 1
      simpa using this
end Go.Proofs.Ytmjokpakekfkfaa
