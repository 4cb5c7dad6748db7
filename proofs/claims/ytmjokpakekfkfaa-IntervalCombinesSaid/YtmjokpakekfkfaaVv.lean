/- The contract of the reference's Points: the edges of two lists, ascending and each once. -/
import Derived.Test.YtmjokpakekfkfaaVl
import Derived.Test.YtmjokpakekfkfaaVg
import Derived.Test.YtmjokpakekfkfaaWu
set_option linter.unusedSimpArgs false
set_option linter.unusedVariables false
namespace Go.Proofs.Ytmjokpakekfkfaa
open Go.RowKit

def PtsOf (E P : List V) : Prop := AscV P ∧ ∀ x, x ∈ P ↔ x ∈ E
def sing (x : V) : List V := [x]
theorem cmp_sing (x y : V) : cmpR (sing x) (sing y) = cmpV x y := by
  show cmpL cmpV [x] [y] = _
  simp only [cmpL]
  split
  · rename_i h; exact h.symm
  · rfl
/-- A set of one-value rows. -/
theorem pts_of {E : List V} {out : List (List V)} (h : SetOf (E.map sing) out) : ∃ P, out = P.map sing ∧ PtsOf E P := by
  obtain ⟨h1, h2⟩ := h
  have h3 : ∀ r ∈ out, ∃ x, x ∈ E ∧ sing x = r := fun r hr => by
    obtain ⟨x, hx, hr⟩ := List.mem_map.1 ((h2 r).1 hr)
    exact ⟨x, hx, hr⟩
  have h4 : ∀ o : List (List V), (∀ r ∈ o, ∃ x, x ∈ E ∧ sing x = r) → ∃ P : List V, o = P.map sing := by
    intro o
    induction o with
    | nil => intro _; exact ⟨[], rfl⟩
    | cons r o ih =>
      intro h
      obtain ⟨P, hP⟩ := ih (fun r hr => h r (List.mem_cons_of_mem _ hr))
      obtain ⟨x, _, hx⟩ := h r (by simp)
      exact ⟨x :: P, by rw [hP, ← hx]; rfl⟩
  obtain ⟨P, rfl⟩ := h4 out h3
  refine ⟨P, rfl, ?_, fun x => ?_⟩
  · have := h1
    unfold Asc at this
    rw [List.pairwise_map] at this
    exact this.imp fun h => by rw [cmp_sing] at h; exact h
  · have := h2 (sing x)
    simp only [List.mem_map] at this
    constructor
    · intro hx
      obtain ⟨y, hy, e⟩ := this.1 ⟨x, hx, rfl⟩
      have : y = x := by simpa [sing] using e
      exact this ▸ hy
    · intro hx
      obtain ⟨y, hy, e⟩ := this.2 ⟨x, hx, rfl⟩
      have : y = x := by simpa [sing] using e
      exact this ▸ hy
def preL (a b : List I) : Nat → List I
  | 0 => []
  | 1 => a
  | _ => a ++ b
theorem edges_app (a b : List I) : edges (a ++ b) = edges a ++ edges b := by
  induction a with
  | nil => simp [edges]
  | cons x a ih => simp only [List.cons_append, edges, ih]; split <;> simp
theorem edges_next {p l : List I} {k : Nat} (hk : k < l.length) : (edges (p ++ l.take (k + 1))).map sing = (edges (p ++ l.take k)).map sing ++ (if l[k].o = true then [sing l[k].f] else [sing l[k].f, sing l[k].t]) := by
  rw [edges_app, edges_app, edges_take hk]
  split <;> simp
theorem next_len {p l : List I} {k N : Nat} (hp : p.length ≤ 10000) (hk : k ≤ N) (hN : N ≤ 10000) : ((edges (p ++ l.take k)).map sing).length ≤ 40000 := by
  have h1 := edges_len (p ++ l.take k)
  have h2 : (l.take k).length ≤ k := by simp; omega
  simp only [List.length_append, List.length_map] at h1 ⊢
  omega
theorem own_lit3 {base : Nat} (w : World) (g : Nat) (hg : g = w.heap.size) (k n : Int) (t : ByteArray) (hb : base ≤ w.heap.size) : (w.alloc (.cells #[.int .i64 k, .int .i64 n, .string t] 25)).ownsRow base 25 3 (.slice (some ⟨g, 0, none⟩) 1 1) (sing ⟨k, n, t⟩).length (flat (sing ⟨k, n, t⟩)) := by
  subst hg
  exact World.ownsRow_lit w #[.int .i64 k, .int .i64 n, .string t] 1 hb (by decide) rfl
theorem cut_of_owned {base : Nat} {w : World} {v : Value} {out : List (List V)} (h : Owned base w v out) (hl : out.length ≤ 4398046511104) : CutAt w v out := by
  obtain ⟨xs, ho, hi⟩ := h
  exact cut_of_listed (xs := xs) ⟨ho, fun j hj => let ⟨u, a, b, c⟩ := hi j hj; ⟨u, a, .of_owned b c⟩⟩ hl
theorem asc_sub : ∀ {P E : List V}, AscV P → (∀ x ∈ P, x ∈ E) → P.length ≤ E.length
  | [], _, _, _ => by simp
  | x :: P, E, h, hs => by
    obtain ⟨h1, h2⟩ := List.pairwise_cons.1 h
    have hx : x ∈ E := hs x (by simp)
    have := asc_sub (P := P) (E := E.erase x) h2 (fun y hy => by
      have hne : y ≠ x := fun e => by
        have := h1 y hy
        rw [e, goodV.self] at this
        omega
      exact (List.mem_erase_of_ne hne).2 (hs y (List.mem_cons_of_mem _ hy)))
    rw [List.length_erase_of_mem hx] at this
    have : 0 < E.length := List.length_pos_of_mem hx
    simp only [List.length_cons]
    omega
/-- One more row of one value. -/
theorem owned_next {base : Nat} {w w1 w2 : World} {v v' u : Value} {L : List (List V)} {xs : List Value} {r : List V}
    (ho : w.ownsRow base 88 1 v L.length xs) (hi : ∀ j (h : j < L.length), ∃ u, xs[j]? = some u ∧ w.ownsRow base 25 3 u L[j].length (flat L[j]) ∧ L[j].length ≤ 4398046511104)
    (hw : Below w.heap.size w w1) (hu : w1.ownsRow base 25 3 u r.length (flat r)) (hr : r.length ≤ 4398046511104)
    (ho' : w2.ownsRow base 88 1 v' (L.length + 1) (xs ++ [u])) (hg : w1.grownBy w2 v.ownBlock) : Owned base w2 v' (L ++ [r]) :=
  Owned.snoc (w := w1) (own_later ho hw) (fun j hj => let ⟨u, a, b, c⟩ := hi j hj; ⟨u, a, own_later b hw, c⟩) hu hr ho' hg
theorem one_at (w : World) (T : TypeId) (x : Value) (g : Nat) (hg : g = w.heap.size) : ∀ j u, [x][j]? = some u → (w.alloc (.cells #[x] T)).cell? ((⟨g, 0, none⟩ : Addr).add j) = some u := by subst hg; exact one_cell w T x
theorem owned_snoc2 {base : Nat} {w : World} {v : Value} {L : List (List V)} (x y : V) (h : Owned base w v (L ++ [sing x] ++ [sing y])) : Owned base w v (L ++ [sing x, sing y]) := by simpa using h
set_option maxHeartbeats 4000000 in
set_option maxRecDepth 100000 in
theorem refPoints_calls (va vb : Value) (a b : List I) (g : Nat) (w : World) (ha : IvAt w va a) (hb : IvAt w vb b) (hla : a.length ≤ 10000) (hlb : b.length ≤ 10000)
    (c0 : w.cell? ⟨g, 0, none⟩ = some va) (c1 : w.cell? ⟨g, 1, none⟩ = some vb) (hg : g < w.heap.size) :
    Calls Try.prog 56 #[.slice (some ⟨g, 0, none⟩) 2 2] w fun e w' => ∃ v P, e = .returned v ∧ PtsOf (edges (a ++ b)) P ∧ P.length ≤ 100000 ∧ OwnV w.heap.size w' v P ∧ Below w.heap.size w w' := by
  obtain ⟨i, hi, hz, hsz, hby⟩ := info_parts info38
  have HI := Lib.hid hi
  have HZ := Lib.hid hz
  have HSZ := Lib.hid hsz
  have HBY := Lib.hid hby
  obtain ⟨i2, hi2, hz2, hsz2, hby2⟩ := info_parts info24
  have HI2 := Lib.hid hi2
  have HZ2 := Lib.hid hz2
  have HSZ2 := Lib.hid hsz2
  have HBY2 := Lib.hid hby2
  have HA := Lib.hid ha
  have HB := Lib.hid hb
  have HLA := Lib.hid hla
  have HLB := Lib.hid hlb
  have HC0 := Lib.hid c0
  have HC1 := Lib.hid c1
  have HG := Lib.hid hg
  clear hi hz hsz hby hi2 hz2 hsz2 hby2 ha hb hla hlb c0 c1 hg
  go_enter Try.func56, Try.ntmps56
  go_wp2_with fail
  go_loopw [3, 13] (fun v c wr => ∃ k : Nat, k ≤ 2 ∧ c = .int .i64 k ∧ Owned w.heap.size wr v ((edges (preL a b k)).map sing) ∧ Below w.heap.size w wr) (fun _ c _ => 2 - (intOf c).toNat)
  case atStart => exact ⟨0, by omega, rfl, ⟨[], World.ownsRow_nil _ _ _ _, fun j h => by simp [preL, edges] at h⟩, Below.refl _ _⟩
  case round =>
    obtain ⟨k, hk, rfl, ho, hbw⟩ := hrel
    have HO := Lib.hid ho
    have HBW := Lib.hid hbw
    by_cases hlt : k < 2
    · have hlt' : decide ((k : Int) < 2) = true := by simp; omega
      obtain ⟨l, u, hpre, hu, hcell, hpl, hll⟩ : ∃ l u, preL a b (k + 1) = preL a b k ++ l ∧ IvAt w u l ∧ w.cell? ⟨g, k, none⟩ = some u ∧ (preL a b k).length ≤ 10000 ∧ l.length ≤ 10000 := by
        obtain rfl | rfl : k = 0 ∨ k = 1 := by omega
        · exact ⟨a, va, by simp [preL], HA.out, HC0.out, by simp [preL], HLA.out⟩
        · exact ⟨b, vb, by simp [preL], HB.out, HC1.out, by simpa [preL] using HLA.out, HLB.out⟩
      have e0 := (hbw.cell (p := ⟨g, k, none⟩) HG.out).trans hcell
      have hgl := Nat.lt_of_lt_of_le HG.out hbw.size
      obtain ⟨pa, ca, rfl, la, hin⟩ := hu
      have HIN := Lib.hid hin
      have HPRE := Lib.hid hpre
      have HPL := Lib.hid hpl
      generalize hN : l.length = N at la hll ⊢
      rw [hN] at e0
      have HN := Lib.hid hN
      have HLL := Lib.hid hll
      have HKK := Lib.hid hlt
      have hO' : Owned w.heap.size wr u3 ((edges (preL a b k ++ l.take 0)).map sing) := by simpa using ho
      have HO' := Lib.hid hO'
      generalize preL a b k = pre at HO' HPRE HPL
      clear ho hbw hin hpre hN hcell HO hO' hll hpl
      go_wp2_with fail
      clear hlt hlt'
      go_loopw [3, 19] (fun v c wr => ∃ j : Nat, j ≤ N ∧ c = .int .i64 j ∧ Owned w.heap.size wr v ((edges (pre ++ l.take j)).map sing) ∧ Below w.heap.size w wr) (fun _ c _ => N - (intOf c).toNat)
      case atStart => exact ⟨0, by omega, rfl, HO'.out, HBW.out⟩
      case round =>
        obtain ⟨j, hj, rfl, ho, hbw⟩ := hrel
        have HBJ := Lib.hid hbw
        by_cases hlt : j < N
        · have hjl : j < l.length := by rw [HN.out]; exact hlt
          have hlt2 : decide ((j : Int) < (N : Int)) = true := by simp; omega
          have hwk := step_int j (by have := HLL.out; omega)
          obtain ⟨bb, off, rfl, hri⟩ := HIN.out.resolve_left (by rintro rfl; simp at hjl)
          have hat := (hri.later hbw).at_ j hjl
          have hbl := (hri.later hbw).blk
          have HE := Lib.hid (edges_next (p := pre) hjl)
          have hel := next_len (l := l) (p := pre) (k := j) HPL.out hj HLL.out
          have HJ := Lib.hid hlt
          generalize l[j] = x at hat HE
          obtain ⟨⟨xk, xn, xt⟩, ⟨yk, yn, yt⟩, xo⟩ := x
          obtain ⟨⟨e0, e1, e2⟩, e3, e4, e5, e6⟩ := hat
          simp only at e0 e1 e2 e3 e4 e5 e6
          generalize (edges (pre ++ l.take j)).map sing = L at HE hel ho
          obtain ⟨xs, ho, hrows⟩ := ho
          have HO := Lib.hid ho
          have HRO := Lib.hid hrows
          have HEL := Lib.hid hel
          have hne : some wr.heap.size ≠ u3.ownBlock := fun e => by have := (ho.lt _ e.symm).2; omega
          have hsz : w.heap.size ≤ wr.heap.size := hbw.size
          have HSIZ := Lib.hid hsz
          clear ho hrows hbw hri hel hsz hj
          obtain ⟨wo, rfl⟩ : ∃ wo : World, wo = wr := ⟨_, rfl⟩
          go_wp2_with (at_builtin; go_must (refine wpList_append_own _ rfl _ _ 87 rfl w.heap.size 88 i (.slice none 0 0) 1 24 Try.underlying87 HI.out HZ.out HSZ.out HBY.out rfl (by decide) _ L.length xs rfl (((HO.out.alloc _).alloc _).alloc _) ⟨wo.heap.size + 1 + 1, 0, none⟩ 1 1 [.slice (some ⟨wo.heap.size + 1, 0, none⟩) 1 1] rfl rfl (one_at _ _ _ _ (by simp)) (by intro u hu; simp at hu; subst hu; rfl) ?c3 ?c4 ?c5 ?_))
          case c3 => have := HEL.out; unfold maxLen; omega
          case c4 => have := HEL.out; omega
          case c5 => have := HSIZ.out; simp; omega
          intro v' w7 hown' hgrow hnil
          have g3 : w7.cell? ⟨wo.heap.size, 3, none⟩ = some (.int .i64 yk) := hgrow.cell (by go_simp) hne
          have g4 : w7.cell? ⟨wo.heap.size, 4, none⟩ = some (.int .i64 yn) := hgrow.cell (by go_simp) hne
          have g5 : w7.cell? ⟨wo.heap.size, 5, none⟩ = some (.string yt) := hgrow.cell (by go_simp) hne
          have g6 : w7.cell? ⟨wo.heap.size, 6, none⟩ = some (.bool xo) := hgrow.cell (by go_simp) hne
          have lb7 : wo.heap.size < w7.heap.size := Nat.lt_of_lt_of_le (by simp; omega) hgrow.size
          have HO7 : Hid (Owned w.heap.size w7 v' (L ++ [sing ⟨xk, xn, xt⟩])) := owned_next HO.out HRO.out ((((Below.refl _ _).alloc (Nat.le_refl _) _).alloc (by simp) _).alloc (by simp; omega) _) (own_later (own_lit3 (base := w.heap.size) (wo.alloc (.cells #[.int .i64 xk, .int .i64 xn, .string xt, .int .i64 yk, .int .i64 yn, .string yt, .bool xo] 57)) (wo.heap.size + 1) (by simp) xk xn xt (by have := HSIZ.out; simp; omega)) ((Below.refl _ _).alloc (Nat.le_refl _) _)) (by simp [sing]) hown' hgrow
          have HB7 : Hid (Below w.heap.size w w7) := (((HBJ.out.alloc HBJ.out.size _).alloc (by have := HSIZ.out; simp; omega) _).alloc (by have := HSIZ.out; simp; omega) _).grown hgrow (by have := HSIZ.out; simp; omega) (fun k hk => (HO.out.lt k hk).1)
          clear hown' hgrow hnil e0 e1 e2 e3 e4 e5 e6 HO HRO
          generalize wo.heap.size = gB at g3 g4 g5 g6 lb7 ⊢
          cases xo
          · obtain ⟨xs7, ho7, hrows7⟩ := HO7.out
            have HO := Lib.hid ho7
            have HRO := Lib.hid hrows7
            have hel8 : (L ++ [sing ⟨xk, xn, xt⟩]).length ≤ 40001 := by have := HEL.out; simp; omega
            have HEL8 := Lib.hid hel8
            generalize hL7 : L ++ [sing ⟨xk, xn, xt⟩] = L7 at HO HRO HEL8
            have HL7 := Lib.hid hL7
            clear ho7 hrows7 hel8 HO7 hL7
            go_wp2_with (at_builtin; go_must (refine wpList_append_own _ rfl _ _ 87 rfl w.heap.size 88 i (.slice none 0 0) 1 24 Try.underlying87 HI.out HZ.out HSZ.out HBY.out rfl (by decide) _ L7.length xs7 rfl ((HO.out.alloc _).alloc _) ⟨w7.heap.size + 1, 0, none⟩ 1 1 [.slice (some ⟨w7.heap.size, 0, none⟩) 1 1] rfl rfl (one_at _ _ _ _ (by simp)) (by intro u hu; simp at hu; subst hu; rfl) ?d3 ?d4 ?d5 ?_))
            case d3 => have := HEL8.out; unfold maxLen; omega
            case d4 => have := HEL8.out; omega
            case d5 => have := HB7.out.size; simp; omega
            intro v8 w8 hown8 hgrow8 hnil8
            have HO8 : Hid (Owned w.heap.size w8 v8 (L7 ++ [sing ⟨yk, yn, yt⟩])) := owned_next HO.out HRO.out (((Below.refl _ _).alloc (Nat.le_refl _) _).alloc (by simp) _) (own_later (own_lit3 (base := w.heap.size) w7 w7.heap.size rfl yk yn yt HB7.out.size) ((Below.refl _ _).alloc (Nat.le_refl _) _)) (by simp [sing]) hown8 hgrow8
            have HB8 : Hid (Below w.heap.size w w8) := ((HB7.out.alloc HB7.out.size _).alloc (by have := HB7.out.size; simp; omega) _).grown hgrow8 (by have := HB7.out.size; simp; omega) (fun k hk => (HO.out.lt k hk).1)
            have HO9 : Hid (Owned w.heap.size w8 v8 (L ++ [sing ⟨xk, xn, xt⟩, sing ⟨yk, yn, yt⟩])) := owned_snoc2 _ _ (by rw [HL7.out]; exact HO8.out)
            clear hown8 hgrow8 hnil8 g3 g4 g5 g6 HO HRO HO8
            have hJ := HJ.out
            go_wp2
            generalize wrap64 ((j : Int) + 1) = z at hwk ⊢
            subst hwk
            exact ⟨⟨j + 1, by omega, by go_num, by rw [HE.out, if_neg (by simp)]; exact HO9.out, HB8.out⟩, by simp [intOf]; omega⟩
          · have hJ := HJ.out
            go_wp2
            generalize wrap64 ((j : Int) + 1) = z at hwk ⊢
            subst hwk
            exact ⟨⟨j + 1, by omega, by go_num, by rw [HE.out, if_pos rfl]; exact HO7.out, HB7.out⟩, by simp [intOf]; omega⟩
        · have hlt2 : decide ((j : Int) < (N : Int)) = false := by simp; omega
          have hall : Owned w.heap.size wr u3 ((edges (preL a b (k + 1))).map sing) := by
            rw [HPRE.out]
            rw [List.take_of_length_le (by have := HN.out; omega)] at ho
            exact ho
          have HALL := Lib.hid hall
          clear ho hall
          have hK := HKK.out
          have hwk := step_int k (by omega)
          go_wp2
          generalize wrap64 ((k : Int) + 1) = z at hwk ⊢
          subst hwk
          exact ⟨⟨k + 1, by omega, by go_num, HALL.out, HBJ.out⟩, by simp [intOf]; omega⟩
    · have hlt' : decide ((k : Int) < 2) = false := by simp; omega
      obtain rfl : k = 2 := by omega
      have hel : ((edges (a ++ b)).map sing).length ≤ 40000 := by
        have h1 := edges_len (a ++ b)
        have h2 := HLA.out
        have h3 := HLB.out
        simp only [List.length_append, List.length_map] at h1 ⊢
        omega
      have ho2 : Owned w.heap.size wr u3 ((edges (a ++ b)).map sing) := ho
      have hcut : CutAt wr u3 ((edges (a ++ b)).map sing) := cut_of_owned ho2 (by omega)
      have HS := Lib.hid (refSet_calls u3 _ wr (by omega) hcut (by intro r hr; obtain ⟨x, _, rfl⟩ := List.mem_map.1 hr; simp [sing]))
      clear ho ho2 hbw hcut hlt HO
      go_wp2_with fail
      refine HS.out.mono ?_
      rintro e w4 ⟨v4, out, rfl, hset, hown4, hb4⟩
      obtain ⟨P, rfl, hpts⟩ := pts_of hset
      have hlen : P.length ≤ 40000 := Nat.le_trans (asc_sub hpts.1 (fun x hx => (hpts.2 x).1 hx)) (by simpa using hel)
      obtain ⟨oa, oc, rfl, -, hin⟩ := hown4.at_ (by simp; omega)
      have HP := Lib.hid hpts
      have HIN4 := Lib.hid hin
      have HB4 := Lib.hid (HBW.out.trans (hb4.mono HBW.out.size))
      have hml : (P.map sing).length = P.length := by simp
      rw [hml]
      generalize hM : P.length = M at hlen ⊢
      have HM := Lib.hid hM
      have HLEN := Lib.hid hlen
      clear hin hb4 hown4 hset hpts hM hlen hml HS hel
      go_wp2_with fail
      go_loopw [8, 43] (fun v c wr => ∃ j : Nat, j ≤ M ∧ c = .int .i64 j ∧ OwnV w4.heap.size wr v (P.take j) ∧ Below w4.heap.size w4 wr) (fun _ c _ => M - (intOf c).toNat)
      case atStart => exact ⟨0, by omega, rfl, World.ownsRow_nil _ _ _ _, Below.refl _ _⟩
      case round =>
        obtain ⟨j, hj, rfl, ho, hb⟩ := hrel
        have HO := Lib.hid ho
        have HBJ := Lib.hid hb
        by_cases hlt : j < M
        · have hjl : j < P.length := by rw [HM.out]; exact hlt
          have hlt2 : decide ((j : Int) < (M : Int)) = true := by simp; omega
          have hwk := step_int j (by have := HLEN.out; omega)
          obtain ⟨bb, off, rfl, hri⟩ := HIN4.out.resolve_left (by intro e; have := congrArg List.length e; simp only [List.length_map, List.length_nil] at this; omega)
          obtain ⟨u, hu, hrow⟩ := (hri.later hb).at_ j (by simpa using hjl)
          have hbl := (hri.later hb).blk
          have hgj : (P.map sing)[j]'(by simpa using hjl) = sing P[j] := by simp
          rw [hgj] at hrow
          have HT := Lib.hid (List.take_succ_eq_append_getElem hjl)
          generalize P[j] = x at hrow HT
          obtain ⟨xk, xn, xt⟩ := x
          obtain ⟨ra, rc, rfl, -, hr1⟩ := hrow
          obtain ⟨rb, ro, rfl, hr2⟩ := hr1.resolve_left (by simp [sing])
          obtain ⟨e0, e1, e2⟩ := hr2.at_ 0 (by simp [sing])
          have hrb := hr2.blk
          simp only [sing, List.getElem_cons_zero, Nat.zero_mul, Nat.add_zero, List.length_singleton] at e0 e1 e2 hu
          have htl : (P.take j).length ≤ 40000 := by have := HLEN.out; simp; omega
          generalize P.take j = E at HO HT htl
          have HTL := Lib.hid htl
          have hsz : w4.heap.size ≤ wr.heap.size := hb.size
          have HSIZ := Lib.hid hsz
          have HJ := Lib.hid hlt
          clear ho hb hri hr1 hr2 hgj htl hsz hj
          obtain ⟨wo, rfl⟩ : ∃ wo : World, wo = wr := ⟨_, rfl⟩
          go_wp2_with (at_builtin; go_must (refine wpList_append_own _ rfl _ _ 35 rfl w4.heap.size 25 i2 (V.val ⟨0, 0, ⟨#[]⟩⟩) 3 32 Try.underlying35 HI2.out HZ2.out HSZ2.out HBY2.out rfl (by decide) _ E.length (flat E) rfl (HO.out.alloc _) ⟨wo.heap.size, 0, none⟩ 1 1 [.int .i64 xk, .int .i64 xn, .string xt] rfl rfl (three_at _ _ _ _ _ _ rfl) (by intro u hu; simp at hu; rcases hu with rfl | rfl | rfl <;> rfl) ?f3 ?f4 ?f5 ?_))
          case f3 => have := HTL.out; unfold maxLen; omega
          case f4 => have := HTL.out; omega
          case f5 => have := HSIZ.out; simp; omega
          intro v5 w5 hown5 hgrow5 hnil5
          have HO5 : Hid (OwnV w4.heap.size w5 v5 (E ++ [⟨xk, xn, xt⟩])) := own_one hown5
          have HB5 : Hid (Below w4.heap.size w4 w5) := (HBJ.out.alloc HBJ.out.size _).grown hgrow5 (by have := HSIZ.out; simp; omega) (fun k hk => (HO.out.lt k hk).1)
          clear hown5 hgrow5 hnil5 e0 e1 e2 hu hrb hbl
          have hJ := HJ.out
          go_wp2
          generalize wrap64 ((j : Int) + 1) = z at hwk ⊢
          subst hwk
          exact ⟨⟨j + 1, by omega, by go_num, by rw [HT.out]; exact HO5.out, HB5.out⟩, by simp [intOf]; omega⟩
        · have hlt2 : decide ((j : Int) < (M : Int)) = false := by simp; omega
          have hfin : OwnV w4.heap.size wr u8 P := by
            rw [List.take_of_length_le (by have := HM.out; omega)] at ho
            exact ho
          have HFIN : Hid (OwnV w.heap.size wr u8 P) := ownsRow_mono hfin HB4.out.size
          have HPL : Hid (P.length ≤ 100000) := by show _ ≤ _; have := HM.out; have := HLEN.out; omega
          clear ho hfin
          go_wp2
          go_ret
          exact ⟨_, P, rfl, HP.out, HPL.out, HFIN.out, HB4.out.trans (hb.mono HB4.out.size)⟩
end Go.Proofs.Ytmjokpakekfkfaa
