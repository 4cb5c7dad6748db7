/- The contract of interval.intervals; lists of intervals that a call owns. -/
import Derived.Test.YtmjokpakekfkfaaVl
set_option linter.unusedSimpArgs false
set_option linter.unusedVariables false
namespace Go.Proofs.Ytmjokpakekfkfaa
open Go.RowKit

/-- The cells of a list of intervals. -/
def flatI : List I → List Value
  | [] => []
  | x :: r => .int .i64 x.f.k :: .int .i64 x.f.n :: .string x.f.t :: .int .i64 x.t.k :: .int .i64 x.t.n :: .string x.t.t :: .bool x.o :: flatI r
theorem flatI_length (r : List I) : (flatI r).length = r.length * 7 := by
  induction r with
  | nil => rfl
  | cons v r ih => simp [flatI, ih]; omega
theorem flatI_snoc (r : List I) (x : I) : flatI (r ++ [x]) = flatI r ++ [.int .i64 x.f.k, .int .i64 x.f.n, .string x.f.t, .int .i64 x.t.k, .int .i64 x.t.n, .string x.t.t, .bool x.o] := by
  induction r with
  | nil => rfl
  | cons a r ih => simp [flatI, ih]
theorem flatI_at (r : List I) (i : Nat) (h : i < r.length) : (flatI r)[i * 7]? = some (.int .i64 r[i].f.k) ∧ (flatI r)[i * 7 + 1]? = some (.int .i64 r[i].f.n) ∧ (flatI r)[i * 7 + 2]? = some (.string r[i].f.t) ∧
    (flatI r)[i * 7 + 3]? = some (.int .i64 r[i].t.k) ∧ (flatI r)[i * 7 + 4]? = some (.int .i64 r[i].t.n) ∧ (flatI r)[i * 7 + 5]? = some (.string r[i].t.t) ∧ (flatI r)[i * 7 + 6]? = some (.bool r[i].o) := by
  induction r generalizing i with
  | nil => simp at h
  | cons v r ih =>
    rcases i with _ | i
    · simp [flatI]
    · have := ih i (by simpa using h)
      rw [show (i + 1) * 7 = i * 7 + 7 from by omega]
      simpa [flatI] using this
theorem info72 : (Try.prog.info? 57).map (fun i => (i.zero, i.size, i.bytes)) = some (some (I.val ⟨⟨0, 0, ⟨#[]⟩⟩, ⟨0, 0, ⟨#[]⟩⟩, false⟩), 7, 72) := by kernel_rfl
abbrev OwnI (base : Nat) (w : World) (v : Value) (L : List I) : Prop := w.ownsRow base 57 7 v L.length (flatI L)
theorem OwnI.at_ {base : Nat} {w : World} {v : Value} {L : List I} (h : OwnI base w v L) (hl : L.length ≤ 4398046511104) : IvAt w v L := by
  have h0 := h
  obtain ⟨hx, hv | ⟨g, cap, cur, hv, hg, hh, hcap, hm, hs, ht⟩⟩ := h
  · obtain ⟨rfl, hn⟩ := hv
    obtain rfl : L = [] := List.eq_nil_of_length_eq_zero hn
    exact ⟨none, 0, rfl, by simp, .inl rfl⟩
  · subst hv
    refine ⟨some ⟨g, 0, none⟩, cap, rfl, hl, ?_⟩
    by_cases hr : L = []
    · exact .inl hr
    · refine .inr ⟨g, 0, rfl, (Array.getElem?_eq_some_iff.1 hh).1, fun i hi => ?_⟩
      obtain ⟨f0, f1, f2, f3, f4, f5, f6⟩ := flatI_at L i hi
      have c0 := h0.cellAt (i * 7) (by omega)
      have c1 := h0.cellAt (i * 7 + 1) (by omega)
      have c2 := h0.cellAt (i * 7 + 2) (by omega)
      have c3 := h0.cellAt (i * 7 + 3) (by omega)
      have c4 := h0.cellAt (i * 7 + 4) (by omega)
      have c5 := h0.cellAt (i * 7 + 5) (by omega)
      have c6 := h0.cellAt (i * 7 + 6) (by omega)
      simp only [Nat.zero_add]
      exact ⟨⟨c0.trans f0, c1.trans f1, c2.trans f2⟩, c3.trans f3, c4.trans f4, c5.trans f5, c6.trans f6⟩
theorem ownI_snoc {base : Nat} {w : World} {v : Value} {L : List I} {x : I} (h : w.ownsRow base 57 7 v (L.length + 1) (flatI L ++ [.int .i64 x.f.k, .int .i64 x.f.n, .string x.f.t, .int .i64 x.t.k, .int .i64 x.t.n, .string x.t.t, .bool x.o])) : OwnI base w v (L ++ [x]) := by
  show World.ownsRow _ _ _ _ _ _ _
  rw [flatI_snoc, List.length_append]; exact h
theorem seven_at (w : World) (a b c d e f g : Value) (t : TypeId) (n : Nat) (hn : n = w.heap.size) : ∀ j u, [a, b, c, d, e, f, g][j]? = some u → (w.alloc (.cells #[a, b, c, d, e, f, g] t)).cell? ((⟨n, 0, none⟩ : Addr).add j) = some u := by
  subst hn
  intro j u hj
  rcases j with _ | _ | _ | _ | _ | _ | _ | j
  · simp at hj; subst hj; show (w.alloc _).cell? ⟨w.heap.size, 0 + 0, none⟩ = _; go_simp
  · simp at hj; subst hj; show (w.alloc _).cell? ⟨w.heap.size, 0 + 1, none⟩ = _; go_simp
  · simp at hj; subst hj; show (w.alloc _).cell? ⟨w.heap.size, 0 + 2, none⟩ = _; go_simp
  · simp at hj; subst hj; show (w.alloc _).cell? ⟨w.heap.size, 0 + 3, none⟩ = _; go_simp
  · simp at hj; subst hj; show (w.alloc _).cell? ⟨w.heap.size, 0 + 4, none⟩ = _; go_simp
  · simp at hj; subst hj; show (w.alloc _).cell? ⟨w.heap.size, 0 + 5, none⟩ = _; go_simp
  · simp at hj; subst hj; show (w.alloc _).cell? ⟨w.heap.size, 0 + 6, none⟩ = _; go_simp
  · simp at hj
def OwnIOut (L : List I) (w : World) (e : Ending) (w' : World) : Prop := ∃ v, e = .returned v ∧ OwnI w.heap.size w' v L ∧ Below w.heap.size w w'
theorem below_drew0 (w : World) : Below w.heap.size w w.drew := ⟨rfl, rfl, rfl, Nat.le_refl _, fun _ _ => rfl⟩
theorem cut_two {w : World} {g off n ca : Nat} {a b : V} {R : List V} (h : CutV w (.slice (some ⟨g, off, none⟩) (n + 1 + 1) ca) (a :: b :: R)) (hn : R.length = n) : CutV w (.slice (if ca = 2 then some ⟨g, off, none⟩ else some ⟨g, off + 6, none⟩) n (ca - 2)) R := by
  obtain ⟨pa, pc, hv, h1, h2, h3, h4⟩ := h
  simp only [Value.slice.injEq] at hv
  obtain ⟨rfl, -, rfl⟩ := hv
  obtain ⟨g', off', hg, hr⟩ := h4.resolve_left (by simp)
  simp only [Option.some.injEq, Addr.mk.injEq] at hg
  obtain ⟨rfl, rfl, -⟩ := hg
  simp only [List.length_cons] at h1 h3
  by_cases he : ca = 2
  · have : R = [] := List.eq_nil_of_length_eq_zero (by omega)
    subst this
    exact ⟨_, ca - 2, by rw [← hn], by simp, by unfold maxLen at h2 ⊢; omega, by simp, .inl rfl⟩
  · rw [if_neg he]
    exact ⟨_, ca - 2, by rw [hn], by omega, by unfold maxLen at h2 ⊢; omega, by omega, .inr ⟨g, off + 6, rfl, hr.cut 2⟩⟩
def lenV' : Value → Nat
  | .slice _ n _ => n
  | _ => 0
theorem ivs_total (E : List V) : (ivs E).length ≤ E.length := by rw [ivs_len]; omega
set_option maxHeartbeats 2000000 in
set_option maxRecDepth 100000 in
theorem intervals_calls (v : Value) (E : List V) (w : World) (h : CutV w v E) (hl : E.length ≤ 1000000) : Calls Try.prog 74 #[v] w (OwnIOut (ivs E) w) := by
  obtain ⟨i, hi, hz, hsz, hby⟩ := info_parts info72
  have HI := Lib.hid hi
  have HZ := Lib.hid hz
  have HSZ := Lib.hid hsz
  have HBY := Lib.hid hby
  have HC := Lib.hid h
  have mx := mixed
  clear hi hz hsz hby h
  go_enter Try.func74, Try.ntmps74
  go_wp2_with fail
  go_loopw [0, 3] (fun va vl wr => ∃ (R : List V) (L : List I), CutV w va R ∧ ivs E = L ++ ivs R ∧ OwnI w.heap.size wr vl L ∧ L.length + R.length ≤ E.length ∧ Below w.heap.size w wr) (fun va _ _ => lenV' va)
  case atStart => exact ⟨E, [], HC.out, rfl, World.ownsRow_nil _ _ _ _, by simp, Below.refl _ _⟩
  case round =>
    obtain ⟨R, L, hc, hE, ho, hlen, hb⟩ := hrel
    have HE := Lib.hid hE
    have HO := Lib.hid ho
    have HL := Lib.hid hlen
    have HB := Lib.hid hb
    have hLl : L.length ≤ 1000000 := by omega
    have HLL := Lib.hid hLl
    rcases R with _ | ⟨a, _ | ⟨b, R⟩⟩
    · obtain ⟨pa, ca, rfl, -, -, -, -⟩ := hc
      have HF : Hid (OwnI w.heap.size wr u3 (ivs E)) := by show OwnI _ _ _ _; rw [hE]; simpa [ivs] using ho
      clear hE ho hlen hb hLl
      have ho0 : oddB 0 = false := rfl
      go_wp2_with (go_at_call 73; refine (inside_calls _ _ _ (by simp) _).mono ?_; rintro e w' ⟨rfl, rfl⟩)
      go_ret
      exact ⟨_, rfl, HF.out, HB.out⟩
    · obtain ⟨pa, ca, rfl, hc1, hc2, -, hc3⟩ := hc
      obtain ⟨g, off, rfl, hr⟩ := hc3.resolve_left (by simp)
      have hat := (hr.at_ 0 (by simp)).later hr.blk hb
      have hgl := Nat.lt_of_lt_of_le hr.blk hb.size
      simp only [Nat.zero_mul, Nat.add_zero, List.getElem_cons_zero] at hat
      have HF : Hid (ivs E = L ++ [⟨a, zV, true⟩]) := by show _ = _; rw [hE]; rfl
      obtain ⟨ak, an, at'⟩ := a
      obtain ⟨a0, a1, a2⟩ := hat
      simp only at a0 a1 a2
      simp only [List.length_cons, List.length_nil, Nat.zero_add] at hc1 ⊢
      have ho1 : oddB 1 = true := rfl
      have hsz : w.heap.size ≤ wr.heap.size := hb.size
      have HSIZ := Lib.hid hsz
      clear hE ho hlen hb hLl hr hc3 hsz
      go_wp2_with (first | (go_at_call 73; refine (inside_calls _ _ _ (by simp) _).mono ?_; rintro e w' ⟨rfl, rfl⟩) | (at_builtin; go_must (refine wpList_append_own _ rfl _ _ 23 rfl w.heap.size 57 i (I.val ⟨⟨0, 0, ⟨#[]⟩⟩, ⟨0, 0, ⟨#[]⟩⟩, false⟩) 7 72 Try.underlying23 HI.out HZ.out HSZ.out HBY.out rfl (by decide) _ L.length (flatI L) rfl (HO.out.alloc _) ⟨wr.heap.size, 0, none⟩ 1 1 [.int .i64 ak, .int .i64 an, .string at', .int .i64 0, .int .i64 0, .string ⟨#[]⟩, .bool true] rfl rfl (seven_at _ _ _ _ _ _ _ _ _ _ rfl) (by intro u hu; simp at hu; rcases hu with rfl | rfl | rfl | rfl | rfl | rfl | rfl <;> rfl) ?c3 ?c4 ?c5 ?_)))
      case c3 => have := HLL.out; unfold maxLen; omega
      case c4 => have := HLL.out; omega
      case c5 => have := HSIZ.out; simp; omega
      intro v' w7 hown' hgrow hnil
      have HO7 : Hid (OwnI w.heap.size w7 v' (L ++ [⟨⟨ak, an, at'⟩, zV, true⟩])) := ownI_snoc (x := ⟨⟨ak, an, at'⟩, zV, true⟩) hown'
      have HB7 : Hid (Below w.heap.size w w7) := (HB.out.alloc HB.out.size _).grown hgrow (by have := HSIZ.out; simp; omega) (fun k hk => (HO.out.lt k hk).1)
      clear hown' hgrow hnil
      go_wp2
      go_ret
      exact ⟨_, rfl, by rw [HF.out]; exact HO7.out, HB7.out⟩
    · obtain ⟨a', c', hsl, hcut⟩ := hc.from_ 2 (by simp)
      have HCC := Lib.hid hc
      obtain ⟨pa, ca, rfl, hc1, hc2, hc4, hc3⟩ := hc
      obtain ⟨g, off, rfl, hr⟩ := hc3.resolve_left (by simp)
      have hat := (hr.at_ 0 (by simp)).later hr.blk hb
      have hat2 := (hr.at_ 1 (by simp)).later hr.blk hb
      have hgl := Nat.lt_of_lt_of_le hr.blk hb.size
      simp only [Nat.zero_mul, Nat.add_zero, List.getElem_cons_zero, Nat.one_mul, List.getElem_cons_succ] at hat hat2
      have HF : Hid (ivs E = (L ++ [⟨a, b, false⟩]) ++ ivs R) := by show _ = _; rw [hE]; simp [ivs]
      have e2 : (a :: b :: R).length - 2 = R.length := by simp
      rw [e2] at hsl hcut
      have hd2 : (a :: b :: R).drop 2 = R := rfl
      rw [hd2] at hcut
      have HCUT := Lib.hid hcut
      have HSL := Lib.hid hsl
      have hnb : g ≠ wr.heap.size := by omega
      have hno : some g ≠ u3.ownBlock := fun e => by have := (ho.lt g e.symm).1; have := hr.blk; omega
      obtain ⟨ak, an, at'⟩ := a
      obtain ⟨bk, bn, bt⟩ := b
      obtain ⟨a0, a1, a2⟩ := hat
      obtain ⟨b0, b1, b2⟩ := hat2
      simp only at a0 a1 a2 b0 b1 b2
      simp only [List.length_cons] at hc1 hc4 hsl hlen ⊢
      have HLE := Lib.hid hlen
      generalize hRl : R.length = n at hc1 hc4 hsl hlen HCUT ⊢
      have HCUT2 : Hid (CutV w (.slice (if ca = 2 then some ⟨g, off, none⟩ else some ⟨g, off + 6, none⟩) n (ca - 2)) R) := cut_two (by have := HCC.out; simp only [List.length_cons] at this; rw [hRl] at this; exact this) hRl
      have HRL := Lib.hid hRl
      have hsz : w.heap.size ≤ wr.heap.size := hb.size
      have HSIZ := Lib.hid hsz
      have i1 : (0 : Int) < (n : Int) + 1 + 1 := by omega
      have i2 : (1 : Int) < (n : Int) + 1 + 1 := by omega
      have HOA := Lib.hid (own_later HO.out (w' := (wr.alloc (iObj ⟨⟨ak, an, at'⟩, ⟨bk, bn, bt⟩, false⟩ 57)).drew) (((Below.refl _ _).alloc (Nat.le_refl _) _).drew))
      clear hE ho hlen hb hLl hr hc3 hsz hRl hcut e2 hd2 hsl
      go_wp2_with fail
      go_region_held3 (fun w' => w'.cell? ⟨g, off, none⟩ = some (.int .i64 ak) ∧ w'.cell? ⟨g, off + 1, none⟩ = some (.int .i64 an) ∧ w'.cell? ⟨g, off + 2, none⟩ = some (.string at') ∧ w'.cell? ⟨g, off + 3, none⟩ = some (.int .i64 bk) ∧ w'.cell? ⟨g, off + 3 + 1, none⟩ = some (.int .i64 bn) ∧ w'.cell? ⟨g, off + 3 + 2, none⟩ = some (.string bt)) (go_keep)
        (first
          | (refine step_append_lies _ rfl _ _ 23 rfl w.heap.size 57 i (I.val ⟨⟨0, 0, ⟨#[]⟩⟩, ⟨0, 0, ⟨#[]⟩⟩, false⟩) 7 72 Try.underlying23 HI.out HZ.out HSZ.out HBY.out rfl (by decide) u3 L.length (flatI L) rfl HOA.out ⟨wr.heap.size, 0, none⟩ 1 1 [.int .i64 ak, .int .i64 an, .string at', .int .i64 bk, .int .i64 bn, .string bt, .bool false] rfl rfl (seven_at wr.drew _ _ _ _ _ _ _ _ _ rfl) (by intro u hu; simp at hu; rcases hu with rfl | rfl | rfl | rfl | rfl | rfl | rfl <;> rfl) (by decide) (by have := HLL.out; unfold maxLen; omega) (by have := HLL.out; omega) (by have := HSIZ.out; simp; omega) (wr.heap.size + 1) (by simp) ?_; intro gn cp w6 hown6 hgrow hat6 hlt6; have d0 : w6.cell? ⟨g, off, none⟩ = some (.int .i64 ak) := hgrow.cell (by go_simp) hno; have d1 : w6.cell? ⟨g, off + 1, none⟩ = some (.int .i64 an) := hgrow.cell (by go_simp) hno; have d2 : w6.cell? ⟨g, off + 2, none⟩ = some (.string at') := hgrow.cell (by go_simp) hno; have d3 : w6.cell? ⟨g, off + 3, none⟩ = some (.int .i64 bk) := hgrow.cell (by go_simp) hno; have d4 : w6.cell? ⟨g, off + 3 + 1, none⟩ = some (.int .i64 bn) := hgrow.cell (by go_simp) hno; have d5 : w6.cell? ⟨g, off + 3 + 2, none⟩ = some (.string bt) := hgrow.cell (by go_simp) hno; have l6 : g < w6.heap.size := Nat.lt_of_lt_of_le hgl (Nat.le_trans (by simp) hgrow.size); have HO6 := Lib.hid hown6; have HG6 := Lib.hid hgrow; clear hown6 hgrow hat6 hlt6))
      have HB6 : Hid (Below w.heap.size w w6) := ((HB.out.alloc HB.out.size _).drew).grown HG6.out (by have := HSIZ.out; simp; omega) (fun k hk => (HO.out.lt k hk).1)
      have HON : Hid (OwnI w.heap.size w6 (.slice (some ⟨gn, 0, none⟩) (L.length + 1) cp) (L ++ [⟨⟨ak, an, at'⟩, ⟨bk, bn, bt⟩, false⟩])) := ownI_snoc (x := ⟨⟨ak, an, at'⟩, ⟨bk, bn, bt⟩, false⟩) HO6.out
      clear HO6 HG6 HOA d0 d1 d2 d3 d4 d5 a0 a1 a2 b0 b1 b2
      go_wp2
      go_roundw
      case rel => exact ⟨R, L ++ [⟨⟨ak, an, at'⟩, ⟨bk, bn, bt⟩, false⟩], HCUT2.out, HF.out, HON.out, by have := HLE.out; have := HRL.out; simp; omega, HB6.out⟩
      case measure =>
        show n < n + 1 + 1
        omega
end Go.Proofs.Ytmjokpakekfkfaa
