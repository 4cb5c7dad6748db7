/- The law SchemaFinds returns true for all codes, every schema, name, table's number and row that can be read as data, where predicate's table of shapes holds what start-up has laid. -/
import Derived.Test.YtpmlhgakbpfgmaaDoorZt
import Derived.Test.YtpmlhgakbpfgmaaDoorZw
import Derived.Test.YtpmlhgakbpfgmaaDoorZp
import Derived.Test.YtpmlhgakbpfgmaaDoorO
import Derived.Test.YtpmlhgakbpfgmaaDoorPfr
import Derived.Test.YtpmlhgakbpfgmaaDoorTie
import Derived.Test.YtpmlhgakbpfgmaaDoorCards
import Derived.SevenTiedAt
import Derived.Deep.RegionHeld3
set_option linter.unusedSimpArgs false
set_option linter.unusedVariables false
namespace Go.Proofs.YtpmlhgakbpfgmaaDoor
open Go.RowKit

open Go.ChangeShapes Go.WideShapes Go.ChangeAt Go.RowKit
namespace SFinds
set_option maxRecDepth 100000 in
theorem open_int7 {H : Type} {enc : TypeId × Value → H} {w : World} {base : Nat} {spare : Nat → Bool} {held : Bool} {r : Reach} {b0 : Nat} {v : Value} {d : DataW H} {p : List MemPlace} (hv : Value.okWide Tryd.prog w r b0 3 v) (h : DataW.Trod enc Tryd.prog w base spare held 3 v d p) :
    ∃ n : Int, v = .int .i64 n := by
  obtain ⟨n, rfl, -, -, hw⟩ := open_int Tryd.underlying3 hv h
  exact ⟨n, rfl⟩
set_option maxRecDepth 100000 in
theorem open_str7 {H : Type} {enc : TypeId × Value → H} {w : World} {base : Nat} {spare : Nat → Bool} {held : Bool} {r : Reach} {b0 : Nat} {v : Value} {d : DataW H} {p : List MemPlace} (hv : Value.okWide Tryd.prog w r b0 9 v) (h : DataW.Trod enc Tryd.prog w base spare held 9 v d p)
    (hsz : ∀ bs, d = .lit (.string bs) → bs.length ≤ reachBytes) : ∃ s : ByteArray, v = .string s ∧ s.size ≤ 140737488351232 := by
  obtain ⟨s, rfl, rfl, -, -⟩ := Go.ChangeMaps.open_string Tryd.underlying9 hv h
  have := hsz _ rfl
  exact ⟨s, rfl, by simpa [reachBytes] using this⟩
open Go.Joins Go.Deep in
set_option maxRecDepth 100000 in
/-- A slice that came in is no longer than its room. -/
theorem open_cap {H : Type} {enc : TypeId × Value → H} {w : World} {base : Nat} {held : Bool} {r : Reach} {b0 : Nat} {v : Value} {d : DataW H} {p : List MemPlace} (hv : Value.okWide Tryd.prog w r b0 27 v) (h : DataW.Trod enc Tryd.prog w base (fun _ => true) held 27 v d p) :
    ∃ a n c, v = .slice a n c ∧ n ≤ c := by
  obtain ⟨a0, len0, cap0, rfl⟩ := okWide_slice Tryd.underlying27 hv
  obtain ⟨fuel, hf⟩ := h
  rcases open_slice Tryd.underlying27 hf with ⟨e, _⟩ | ⟨a, len, cap, m, n', D, Pl, e, hb, hl, hm, hmm, -, hel⟩
  · simp [Value.cells] at e
    obtain ⟨rfl, rfl, rfl⟩ := e
    exact ⟨_, _, _, rfl, Nat.le_refl _⟩
  · simp only [if_true] at hmm
    subst hmm
    simp [Value.cells] at e
    obtain ⟨rfl, rfl, rfl⟩ := e
    exact ⟨_, _, _, rfl, by omega⟩
theorem tabs_any {k k' : Nat} {T S : Nat → Prop} {w : World} {v : Value} {l : List Tab} (h : TabsAt false k T S w v l) : TabsAt false k' T S w v l :=
  let ⟨a, cap, h1, h2, h3⟩ := h
  ⟨a, cap, h1, h2, h3.imp id fun ⟨b, off, k1, k2, k3, k4⟩ => ⟨b, off, k1, k2, k3, fun i hi => let ⟨ca, cc, ra, rn, rc, ka, kn, kc, c, v⟩ := k4 i hi; ⟨ca, cc, ra, rn, rc, ka, kn, kc, c, v.cols, (fun e => by cases e), (fun e => by cases e)⟩⟩⟩
/-- The k-th schema of a list of some. -/
def Sch3 (b : Nat) (w : World) (g k : Nat) : Prop := ∃ (ver : Int) (a : Option Addr) (n cap : Nat) (ts : List Tab), w.cell? ⟨g, k * 2, none⟩ = some (.int .i64 ver) ∧ w.cell? ⟨g, k * 2 + 1, none⟩ = some (.slice a n cap) ∧ TabsAt false 0 (fun x => x ≠ b) (fun x => x ≠ b) w (.slice a n cap) ts
theorem Sch3.by_ {b : Nat} {w w' : World} {g k : Nat} (h : Sch3 b w g k) (hg : w.grownBy w' (some b)) (hl : g < w.heap.size) (hb : g ≠ b) : Sch3 b w' g k := by
  obtain ⟨ver, a, n, cap, ts, c0, c1, ht⟩ := h
  have hc : ∀ o, w'.cell? ⟨g, o, none⟩ = w.cell? ⟨g, o, none⟩ := fun o => World.cell?_of_block (hg.block g hl (by simpa using hb))
  exact ⟨ver, a, n, cap, ts, (hc _).trans c0, (hc _).trans c1, ht.kept (kept_by hg fun x e hS => by cases e; rcases hS with h | h <;> exact h rfl)⟩
theorem tab_small {n : Nat} {id : Int} {R1 R2 R3 : List Rfc} {K1 : List Pr} (ok : SchemaOk n id R1 R2 R3 K1) : ∀ t ∈ tabs4 n id R1 R2 R3 K1, 1 ≤ t.cols.length ∧ t.cols.length ≤ 4 ∧ t.refs.length ≤ 4 ∧ t.checks.length ≤ 4 := by
  intro t ht
  obtain ⟨i, hi, rfl⟩ := List.getElem_of_mem ht
  rw [tabs4_get]
  rw [tabs4_length] at hi
  have h4 := ok.n4
  have hr1 : R1.length ≤ 4 := by rcases ok.r1 with h | h <;> rw [h] <;> simp
  have hr2 : R2.length ≤ 4 := by rcases ok.r2 with h | h <;> rw [h] <;> simp
  have hr3 : R3.length ≤ 4 := by rcases ok.r3 with h | h <;> rw [h] <;> simp
  have hk1 : K1.length ≤ 4 := by rcases ok.k1 with h | ⟨p, h, -⟩ <;> rw [h] <;> simp
  obtain rfl | rfl | rfl | rfl : i = 0 ∨ i = 1 ∨ i = 2 ∨ i = 3 := by omega
  all_goals
    refine ⟨by simp [tab4, cols0, cols1, cols2, cols3], by simp [tab4, cols0, cols1, cols2, cols3], ?_, ?_⟩ <;> first | exact hr1 | exact hr2 | exact hr3 | exact hk1 | simp [tab4]
set_option maxHeartbeats 40000000 in
set_option maxRecDepth 100000 in
theorem walk (a : Option Addr) (len cap : Nat) (zs : List Int) (rver : Int) (rs : Value) (RT : List Tab) (nm : ByteArray) (tt : Int) (va0 : Option Addr) (vc0 : Nat) (row : List V) (w : World) (hr : IsRow .u8 w a len cap zs) (hraw : TabsAt false 0 (fun _ => True) (fun _ => True) w rs RT) (hrow : RowAt w (.slice va0 row.length vc0) row) (hcap : row.length ≤ vc0) (hs : Shapes w) :
    Calls Tryd.prog 3 #[.slice a len cap, .agg #[.int .i64 rver, rs], .string nm, .int .i64 tt, .slice va0 row.length vc0] w fun e w' => e = .returned (.bool true) ∧ Below w.heap.size w w' := by
  have mx := mixed
  obtain ⟨ra0, rc0, rfl, -⟩ := hraw.slice
  generalize hRN : RT.length = RN at hraw ⊢
  clear hRN
  obtain ⟨W0, hW0⟩ : ∃ W0, W0 = w.alloc (.cells #[.int .i64 rver, .slice ra0 RN rc0] 25) := ⟨_, rfl⟩
  have hg0 : Below w.heap.size w W0 := by rw [hW0]; exact (Below.refl _ _).alloc (Nat.le_refl _) _
  have HX0 : Hid (SBox W0 w.heap.size rver ra0 RN rc0) := by rw [hW0]; exact SBox.new _ _ _ _ _ _
  have HZ0 : Hid (W0.heap.size = w.heap.size + 1) := by show _ = _; rw [hW0]; simp
  have HN := Lib.hid (new_calls a len cap zs W0 (hr.later hg0))
  have HS := Lib.hid (hs.later hg0)
  have HRAW : Hid (TabsAt false 0 (fun g => g < w.heap.size) (fun g => g < w.heap.size) W0 (.slice ra0 RN rc0) RT) := (hraw.mono (fun _ h _ => h) (fun _ h _ => h)).later hg0
  have HROW := Lib.hid (And.intro (hrow.later hg0) hcap)
  have HB0 := Lib.hid hg0
  have HW0 := Lib.hid hW0
  clear hr hs hrow hraw hg0 hW0 hcap
  generalize hrl : row.length = rl at HROW ⊢
  have HRL := Lib.hid hrl
  clear hrl
  go_enter Tryd.func3, Tryd.ntmps3
  go_wp2_with fail
  rw [← HW0.out]
  clear HW0
  obtain ⟨rb, hrb⟩ : ∃ rb, w.heap.size = rb := ⟨_, rfl⟩
  rw [hrb] at HX0 HZ0 HRAW ⊢
  have HRB := Lib.hid hrb
  clear hrb
  refine HN.out.mono ?_
  rintro e w1 ⟨b, c, rfl, hbs, hcs, hb1⟩
  have HBS := Lib.hid (And.intro hbs hb1)
  have HBL : Hid (b < w1.heap.size) := hcs.lt
  have HSC := Lib.hid (caseSchema_calls b c w1 hcs)
  clear hcs hb1 HN hbs
  go_wp2_with fail
  refine HSC.out.mono ?_
  rintro e w2 ⟨ver, tb, cp, n, id, R1, R2, R3, K1, rfl, -, hok, htb, hlaid, hc2, hby2⟩
  have HOK := Lib.hid hok
  obtain ⟨W2, hW2⟩ : ∃ W2, W2 = w2.alloc (.cells #[.int .i64 ver, .slice (some ⟨tb, 0, none⟩) n cp] 25) := ⟨_, rfl⟩
  have HMS : Hid (MS b c W0 W2 w2.heap.size tb n cp ver (tab4 id R1 R2 R3 K1)) := by
    show MS _ _ _ _ _ _ _ _ _ _
    rw [hW2]; exact MS.new HBS.out.1 HBL.out HBS.out.2 htb hlaid hc2 hby2 _
  have HW2 := Lib.hid hW2
  have hn2 := hok.n2
  have hn4 := hok.n4
  clear hok hlaid hc2 hby2 hW2 HSC htb
  obtain ⟨sb, hsb⟩ : ∃ sb, w2.heap.size = sb := ⟨_, rfl⟩
  rw [hsb] at HMS
  have HSB := Lib.hid hsb
  clear hsb
  go_upto_region 3 with fail
  rw [← HW2.out]
  rw [HSB.out]
  clear HW2
  refine wp_region_noPanic ?_
  refine wp_region_held (S := fun w' => MS b c W0 w' sb tb n cp ver (tab4 id R1 R2 R3 K1)) mx ?_
  have hHeld : (fun w' => MS b c W0 w' sb tb n cp ver (tab4 id R1 R2 R3 K1)) W2.drew := HMS.out.later ⟨rfl, rfl, rfl, Nat.le_refl _, fun _ _ => rfl⟩
  change wpAnyH _ _ _ _ (fun w' => MS b c W0 w' sb tb n cp ver (tab4 id R1 R2 R3 K1)) _ _ _ W2.drew
  try simp only [Act.put, List.getElem_toArray, List.getElem_cons_succ, List.getElem_cons_zero, List.setIfInBounds_toArray, List.set_cons_zero, List.set_cons_succ]
  refine wpAnyH_take (i := 0) (v := ?_) rfl (by kernel_rfl) (by kernel_rfl) (by kernel_rfl) (fun _ _ _ h => h) (Or.inl ⟨by rfl, ?_⟩) (by assumption) ?_
  rotate_left
  · intro w hSw; obtain ⟨l, c0, c1⟩ := hSw.s; clear hSw; go_simp; try with_reducible rfl
  try simp only [Act.put, List.getElem_toArray, List.getElem_cons_succ, List.getElem_cons_zero, List.setIfInBounds_toArray, List.set_cons_zero, List.set_cons_succ]
  refine wpAnyH_take (i := 1) (v := ?_) rfl (by kernel_rfl) (by kernel_rfl) (by kernel_rfl) (fun _ _ _ h => h) (Or.inl ⟨by rfl, ?_⟩) (by assumption) ?_
  rotate_left
  · intro w hSw; clear hSw; go_simp; try with_reducible rfl
  try simp only [Act.put, List.getElem_toArray, List.getElem_cons_succ, List.getElem_cons_zero, List.setIfInBounds_toArray, List.set_cons_zero, List.set_cons_succ]
  refine wpAnyH_take (i := 2) (v := ?_) rfl (by kernel_rfl) (by kernel_rfl) (by kernel_rfl) (fun _ _ _ h => h) (Or.inl ⟨by rfl, ?_⟩) (by assumption) ?_
  rotate_left
  · intro w hSw; obtain ⟨l, c0, c1⟩ := hSw.s; clear hSw; go_simp; try with_reducible rfl
  try simp only [Act.put, List.getElem_toArray, List.getElem_cons_succ, List.getElem_cons_zero, List.setIfInBounds_toArray, List.set_cons_zero, List.set_cons_succ]
  refine wpAnyH_take (i := 4) (v := ?_) rfl (by kernel_rfl) (by kernel_rfl) (by kernel_rfl) (fun _ _ _ h => h) (Or.inl ⟨by rfl, ?_⟩) (by assumption) ?_
  rotate_left
  · intro w hSw; obtain ⟨l, c0, c1⟩ := HX0.out.later hSw.g; clear hSw; go_simp; try with_reducible rfl
  try simp only [Act.put, List.getElem_toArray, List.getElem_cons_succ, List.getElem_cons_zero, List.setIfInBounds_toArray, List.set_cons_zero, List.set_cons_succ]
  refine wpAnyH_take (i := 7) (v := ?_) rfl (by kernel_rfl) (by kernel_rfl) (by kernel_rfl) (fun _ _ _ h => h) (Or.inl ⟨by rfl, ?_⟩) (by assumption) ?_
  rotate_left
  · intro w hSw; clear hSw; go_simp; try with_reducible rfl
  try simp only [Act.put, List.getElem_toArray, List.getElem_cons_succ, List.getElem_cons_zero, List.setIfInBounds_toArray, List.set_cons_zero, List.set_cons_succ]
  refine wpAnyH_ready (rs := [3]) (by kernel_rfl) (by simp) ?_
  refine AllReadyH.cons rfl (fun K hK => ?_) AllReadyH.nil
  have HM3 := Lib.hid hHeld
  clear hHeld
  go_simp
  go_at_call 6
  refine (caseSpoil7_calls b c ver tb n cp (tabs4 n id R1 R2 R3 K1) (by omega) hn4 (tabs4_length _ _ _ _ _ _) (tab_small HOK.out) _ HM3.out.c ((HM3.out.tabs hn4).mono (fun g _ h => by have := HM3.out.ht; omega) (fun g _ h => h.1))).mono ?_
  rintro e w3 ⟨ver2, v2, ts2, rfl, ht2, hc3, hby3⟩
  have HM4 := Lib.hid (HM3.out.case hc3 hby3)
  obtain ⟨a2, cap2, rfl, -⟩ := ht2.slice
  generalize hn2' : ts2.length = n2 at ht2 ⊢
  clear hn2'
  have HT2 := Lib.hid ht2
  clear hc3 hby3 ht2
  refine hK.out _ _ HM4.out (fun hHeld => ?_)
  clear hK K
  try simp only [Act.put, List.getElem_toArray, List.getElem_cons_succ, List.getElem_cons_zero, List.setIfInBounds_toArray, List.set_cons_zero, List.set_cons_succ]
  try simp only [Act.put, List.getElem_toArray, List.getElem_cons_succ, List.getElem_cons_zero, List.setIfInBounds_toArray, List.set_cons_zero, List.set_cons_succ]
  refine wpAnyH_ready (rs := [5]) (by kernel_rfl) (by simp) ?_
  refine AllReadyH.cons rfl (fun K hK => ?_) AllReadyH.nil
  clear hHeld
  go_simp
  obtain ⟨W4, hW4⟩ : ∃ W4, W4 = w3.alloc (.cells #[.int .i64 ver, .slice (some ⟨tb, 0, none⟩) n cp, .int .i64 ver2, .slice a2 n2 cap2, .int .i64 rver, .slice ra0 RN rc0] 25) := ⟨_, rfl⟩
  have hb4 : Below w3.heap.size w3 W4 := by rw [hW4]; exact (Below.refl _ _).alloc (Nat.le_refl _) _
  rw [← hW4]
  have HM5 := Lib.hid (HM4.out.later hb4)
  obtain ⟨lb, hlb⟩ : ∃ lb, w3.heap.size = lb := ⟨_, rfl⟩
  have HLB : Hid (lb < W4.heap.size ∧ b < lb) := ⟨by rw [hW4, ← hlb]; simp, by rw [← hlb]; exact HM4.out.c.lt⟩
  have H3 : Hid (∀ k, k < 3 → Sch3 b W4 lb k) := fun k hk => by
    have hbb := HBS.out.1
    have hz0 := HZ0.out
    obtain rfl | rfl | rfl : k = 0 ∨ k = 1 ∨ k = 2 := by omega
    · refine ⟨ver, some ⟨tb, 0, none⟩, n, cp, tabs4 n id R1 R2 R3 K1, by rw [hW4, ← hlb]; go_simp, by rw [hW4, ← hlb]; go_simp, ?_⟩
      exact (tabs_any (HM5.out.tabs hn4).part).mono (fun g _ h => by have := HM5.out.ht; omega) (fun g _ h => by omega)
    · refine ⟨ver2, a2, n2, cap2, ts2, by rw [hW4, ← hlb]; go_simp, by rw [hW4, ← hlb]; go_simp, ?_⟩
      exact (HT2.out.later hb4).mono (fun g _ h => by have h : b < g := h; omega) (fun g _ h => by have h : b < g := h; omega)
    · refine ⟨rver, ra0, RN, rc0, RT, by rw [hW4, ← hlb]; go_simp, by rw [hW4, ← hlb]; go_simp, ?_⟩
      exact (HRAW.out.later HM5.out.g).mono (fun g _ h => by have h : g < rb := h; omega) (fun g _ h => by have h : g < rb := h; omega)
  rw [hlb]
  clear hW4 hb4 hlb
  refine hK.out _ _ HM5.out (fun hHeld => ?_)
  clear hK K
  try simp only [Act.put, List.getElem_toArray, List.getElem_cons_succ, List.getElem_cons_zero, List.setIfInBounds_toArray, List.set_cons_zero, List.set_cons_succ]
  try simp only [Act.put, List.getElem_toArray, List.getElem_cons_succ, List.getElem_cons_zero, List.setIfInBounds_toArray, List.set_cons_zero, List.set_cons_succ]
  refine wpAnyH_take (i := 6) (v := ?_) rfl (by kernel_rfl) (by kernel_rfl) (by kernel_rfl) (fun _ _ _ h => h) (Or.inl ⟨by rfl, ?_⟩) (by assumption) ?_
  rotate_left
  · intro w hSw; clear hSw; go_simp; try with_reducible rfl
  try simp only [Act.put, List.getElem_toArray, List.getElem_cons_succ, List.getElem_cons_zero, List.setIfInBounds_toArray, List.set_cons_zero, List.set_cons_succ]
  refine wpAnyH_done (by kernel_rfl) ?_ _
  refine NoPanic.normal ?_
  clear hHeld HM3 HM4 HT2 HMS HRAW
  go_wp2_with fail
  go_loopw [28] (fun y wr => ∃ k : Nat, k ≤ 3 ∧ y = .int .i64 k ∧ CaseAt wr b c ∧ W4.grownBy wr (some b)) (fun y _ => 3 - (intOf y).toNat)
  case atStart => exact ⟨0, by omega, rfl, HM5.out.c, ⟨rfl, rfl, rfl, Nat.le_refl _, fun _ _ _ => rfl⟩⟩
  case round =>
    obtain ⟨k, hk, rfl, hcr, hgr⟩ := hrel
    have HC := Lib.hid hcr
    have HG := Lib.hid hgr
    have hwk := step_i k (by omega)
    clear hcr hgr
    by_cases hlt : k < 3
    · have hlt' : decide ((k : Int) < 3) = true := by simp; omega
      have hltI : (k : Int) < 3 := by omega
      have h3 := (H3.out k hlt).by_ HG.out HLB.out.1 (by have := HLB.out.2; omega)
      obtain ⟨kv, ka, kn, kc, ts, c0, c1, hts⟩ := h3
      have hll : lb < wr.heap.size := by have := HG.out.size; have := HLB.out.1; omega
      obtain ⟨W5, hW5⟩ : ∃ W5, W5 = wr.alloc (.cells #[.int .i64 kv, .slice ka kn kc] 25) := ⟨_, rfl⟩
      have hb5 : Below wr.heap.size wr W5 := by rw [hW5]; exact (Below.refl _ _).alloc (Nat.le_refl _) _
      have HBX : Hid (SBox W5 wr.heap.size kv ka kn kc) := by rw [hW5]; exact SBox.new _ _ _ _ _ _
      have HTS := Lib.hid (hts.later hb5)
      have HC5 := Lib.hid (HC.out.grown ⟨hb5.os, hb5.tape, hb5.output, hb5.size, fun k hk _ => hb5.block k hk⟩ : CaseAt W5 b c)
      have HG5 : Hid (W4.grownBy W5 (some b)) := by_trans HG.out ⟨hb5.os, hb5.tape, hb5.output, hb5.size, fun k hk _ => hb5.block k hk⟩
      have HBN : Hid (b < wr.heap.size) := HC.out.lt
      have HW5 := Lib.hid hW5
      clear hts hb5 hW5
      go_upto_region 6 with fail
      rw [← HW5.out]
      clear HW5 c0 c1
      generalize wr.heap.size = gb at HBX HBN ⊢
      have HI := Lib.hid (int_calls b c 5 (by omega) (by omega) W5 HC5.out)
      go_wp2_with fail
      refine HI.out.mono ?_
      rintro e w6 ⟨x, rfl, hx0, hx1, hc6, hby6⟩
      obtain ⟨W7, hW7⟩ : ∃ W7, W7 = w6.alloc (.cells #[.int .i64 tt, .int .i64 x] 3) := ⟨_, rfl⟩
      have hb7 : Below w6.heap.size w6 W7 := by rw [hW7]; exact (Below.refl _ _).alloc (Nat.le_refl _) _
      have hby7 : W5.grownBy W7 (some b) := by_trans hby6 ⟨hb7.os, hb7.tape, hb7.output, hb7.size, fun k hk _ => hb7.block k hk⟩
      have HIX : Hid (∀ j : Nat, j < 2 → ∃ z : Int, W7.cell? ⟨w6.heap.size, j, none⟩ = some (.int .i64 z)) := fun j hj => by
        rw [hW7]
        obtain rfl | rfl : j = 0 ∨ j = 1 := by omega
        all_goals exact ⟨_, by go_simp; rfl⟩
      have HIL : Hid (w6.heap.size < W7.heap.size) := by show _ < _; rw [hW7]; simp
      have HB7 : Hid (SBox W7 gb kv ka kn kc) := by
        have hcl : ∀ o, W7.cell? ⟨gb, o, none⟩ = W5.cell? ⟨gb, o, none⟩ := fun o => World.cell?_of_block (hby7.block gb HBX.out.l (by have := HBN.out; simp; omega))
        exact ⟨Nat.lt_of_lt_of_le HBX.out.l hby7.size, (hcl _).trans HBX.out.c0, (hcl _).trans HBX.out.c1⟩
      have HT7 : Hid (TabsAt false 0 (fun x => x ≠ b) (fun x => x ≠ b) W7 (.slice ka kn kc) ts) := HTS.out.kept (kept_by hby7 fun x e hS => by cases e; rcases hS with h | h <;> exact h rfl)
      have HC7 := Lib.hid (hc6.grown ⟨hb7.os, hb7.tape, hb7.output, hb7.size, fun k hk _ => hb7.block k hk⟩ : CaseAt W7 b c)
      have HG7 : Hid (W4.grownBy W7 (some b)) := by_trans HG5.out hby7
      have HRW7 : Hid (RowAt W7 (.slice va0 rl vc0) row) := HROW.out.1.later (HM5.out.g.trans ((show Below W0.heap.size W4 W7 from ⟨HG7.out.os, HG7.out.tape, HG7.out.output, HG7.out.size, fun k hk => HG7.out.block k (by have := HM5.out.g.size; omega) (by have := HBS.out.1; simp; omega)⟩)))
      have HW7 := Lib.hid hW7
      clear hc6 hby6 hb7 hby7 hW7 HI HC HG HC5 HG5 HTS HBX hx0 hx1
      go_wp2_with fail
      rw [← HW7.out]
      clear HW7
      generalize w6.heap.size = ib at HIX HIL ⊢
      go_loopw [37] (fun y wq => ∃ j : Nat, j ≤ 2 ∧ y = .int .i64 j ∧ Below W7.heap.size W7 wq) (fun y _ => 2 - (intOf y).toNat)
      case atStart => exact ⟨0, by omega, rfl, Below.refl _ _⟩
      case round =>
        obtain ⟨j, hj, rfl, hbj⟩ := hrel
        have HBJ := Lib.hid hbj
        have hwj := step_i j (by omega)
        clear hbj
        by_cases hltj : j < 2
        · have hlj' : decide ((j : Int) < 2) = true := by simp; omega
          have hljI : (j : Int) < 2 := by omega
          obtain ⟨z, hz⟩ := HIX.out j hltj
          have hz' := (HBJ.out.cell (p := ⟨ib, j, none⟩) HIL.out).trans hz
          have hil : ib < wr.heap.size := Nat.lt_of_lt_of_le HIL.out HBJ.out.size
          clear hz
          go_upto_region 9 with fail
          clear hz' hil
          obtain ⟨wq, rfl⟩ : ∃ wz : World, wz = wr := ⟨_, rfl⟩
          have HBQ : Hid (SBox wq gb kv ka kn kc) := HB7.out.later HBJ.out
          have HTQ := Lib.hid (HT7.out.later HBJ.out)
          have HRQ := Lib.hid (HRW7.out.later HBJ.out)
          refine wp_region_noPanic ?_
          refine wp_region_held (S := fun w' => Below wq.heap.size wq w') mx ?_
          have hHeld : (fun w' => Below wq.heap.size wq w') wq.drew := ⟨rfl, rfl, rfl, Nat.le_refl _, fun _ _ => rfl⟩
          change wpAnyH _ _ _ _ (fun w' => Below wq.heap.size wq w') _ _ _ wq.drew
          try simp only [Act.put, List.getElem_toArray, List.getElem_cons_succ, List.getElem_cons_zero, List.setIfInBounds_toArray, List.set_cons_zero, List.set_cons_succ]
          refine wpAnyH_take (i := 0) (v := ?_) rfl (by kernel_rfl) (by kernel_rfl) (by kernel_rfl) (fun _ _ _ h => h) (Or.inl ⟨by rfl, ?_⟩) (by assumption) ?_
          rotate_left
          · intro w hSw; obtain ⟨l, c0, c1⟩ := HBQ.out.later hSw; clear hSw; go_simp; try with_reducible rfl
          try simp only [Act.put, List.getElem_toArray, List.getElem_cons_succ, List.getElem_cons_zero, List.setIfInBounds_toArray, List.set_cons_zero, List.set_cons_succ]
          refine wpAnyH_take (i := 1) (v := ?_) rfl (by kernel_rfl) (by kernel_rfl) (by kernel_rfl) (fun _ _ _ h => h) (Or.inl ⟨by rfl, ?_⟩) (by assumption) ?_
          rotate_left
          · intro w hSw; clear hSw; go_simp; try with_reducible rfl
          try simp only [Act.put, List.getElem_toArray, List.getElem_cons_succ, List.getElem_cons_zero, List.setIfInBounds_toArray, List.set_cons_zero, List.set_cons_succ]
          refine wpAnyH_take (i := 3) (v := ?_) rfl (by kernel_rfl) (by kernel_rfl) (by kernel_rfl) (fun _ _ _ h => h) (Or.inl ⟨by rfl, ?_⟩) (by assumption) ?_
          rotate_left
          · intro w hSw; obtain ⟨l, c0, c1⟩ := HBQ.out.later hSw; clear hSw; go_simp; try with_reducible rfl
          try simp only [Act.put, List.getElem_toArray, List.getElem_cons_succ, List.getElem_cons_zero, List.setIfInBounds_toArray, List.set_cons_zero, List.set_cons_succ]
          refine wpAnyH_take (i := 4) (v := ?_) rfl (by kernel_rfl) (by kernel_rfl) (by kernel_rfl) (fun _ _ _ h => h) (Or.inl ⟨by rfl, ?_⟩) (by assumption) ?_
          rotate_left
          · intro w hSw; clear hSw; go_simp; try with_reducible rfl
          try simp only [Act.put, List.getElem_toArray, List.getElem_cons_succ, List.getElem_cons_zero, List.setIfInBounds_toArray, List.set_cons_zero, List.set_cons_succ]
          refine wpAnyH_ready (rs := [2]) (by kernel_rfl) (by simp) ?_
          refine AllReadyH.cons rfl (fun K hK => ?_) AllReadyH.nil
          have hcur := hHeld
          clear hHeld
          go_simp
          go_at_call 9
          refine (sKinds_new false 0 _ _ kv _ ts z _ (HTQ.out.later hcur)).mono ?_
          rintro e x1 ⟨v1, rfl, hi1, hg1⟩
          have HB1 : Hid (Below wq.heap.size wq x1) := hcur.trans (hg1.below.mono hcur.size)
          have HI1 := Lib.hid hi1
          clear hi1 hg1 hcur
          refine hK.out _ _ HB1.out (fun hHeld => ?_)
          clear hK K
          try simp only [Act.put, List.getElem_toArray, List.getElem_cons_succ, List.getElem_cons_zero, List.setIfInBounds_toArray, List.set_cons_zero, List.set_cons_succ]
          try simp only [Act.put, List.getElem_toArray, List.getElem_cons_succ, List.getElem_cons_zero, List.setIfInBounds_toArray, List.set_cons_zero, List.set_cons_succ]
          refine wpAnyH_ready (rs := [5]) (by kernel_rfl) (by simp) ?_
          refine AllReadyH.cons rfl (fun K hK => ?_) AllReadyH.nil
          have hcur := hHeld
          clear hHeld
          go_simp
          go_at_call 10
          refine (refKinds_new false 0 _ _ kv _ ts z _ (HTQ.out.later hcur)).mono ?_
          rintro e x2 ⟨v2, rfl, hi2, hg2⟩
          have HB2 : Hid (Below wq.heap.size wq x2) := hcur.trans (hg2.mono hcur.size)
          have HI2 := Lib.hid hi2
          have HI1b := Lib.hid (HI1.out.later hg2)
          clear hi2 hg2 hcur
          refine hK.out _ _ HB2.out (fun hHeld => ?_)
          clear hK K
          try simp only [Act.put, List.getElem_toArray, List.getElem_cons_succ, List.getElem_cons_zero, List.setIfInBounds_toArray, List.set_cons_zero, List.set_cons_succ]
          try simp only [Act.put, List.getElem_toArray, List.getElem_cons_succ, List.getElem_cons_zero, List.setIfInBounds_toArray, List.set_cons_zero, List.set_cons_succ]
          refine wpAnyH_ready (rs := [6]) (by kernel_rfl) (by simp) ?_
          refine AllReadyH.cons rfl (fun K hK => ?_) AllReadyH.nil
          have hcur := hHeld
          clear hHeld
          go_simp
          go_at_call 8
          refine (lsame_calls _ _ _ _ _ _ _ HI1b.out HI2.out).mono ?_
          rintro e x3 ⟨rfl, hg3⟩
          have HB3 : Hid (Below wq.heap.size wq x3) := hcur.trans (hg3.below.mono hcur.size)
          rw [decide_eq_true rfl]
          clear hg3 hcur HI1 HI2 HI1b
          refine hK.out _ _ HB3.out (fun hHeld => ?_)
          clear hK K
          try simp only [Act.put, List.getElem_toArray, List.getElem_cons_succ, List.getElem_cons_zero, List.setIfInBounds_toArray, List.set_cons_zero, List.set_cons_succ]
          try simp only [Act.put, List.getElem_toArray, List.getElem_cons_succ, List.getElem_cons_zero, List.setIfInBounds_toArray, List.set_cons_zero, List.set_cons_succ]
          refine wpAnyH_take (i := 7) (v := ?_) rfl (by kernel_rfl) (by kernel_rfl) (by kernel_rfl) (fun _ _ _ h => h) (Or.inl ⟨by rfl, ?_⟩) (by assumption) ?_
          rotate_left
          · intro w hSw; clear hSw; go_simp; try with_reducible rfl
          try simp only [Act.put, List.getElem_toArray, List.getElem_cons_succ, List.getElem_cons_zero, List.setIfInBounds_toArray, List.set_cons_zero, List.set_cons_succ]
          refine wpAnyH_take (i := 8) (v := ?_) rfl (by kernel_rfl) (by kernel_rfl) (by kernel_rfl) (fun _ _ _ h => h) (Or.inl ⟨by rfl, ?_⟩) (by assumption) ?_
          rotate_left
          · intro w hSw; clear hSw; go_simp; try with_reducible rfl
          try simp only [Act.put, List.getElem_toArray, List.getElem_cons_succ, List.getElem_cons_zero, List.setIfInBounds_toArray, List.set_cons_zero, List.set_cons_succ]
          refine wpAnyH_take (i := 9) (v := ?_) rfl (by kernel_rfl) (by kernel_rfl) (by kernel_rfl) (fun _ _ _ h => h) (Or.inl ⟨by rfl, ?_⟩) (by assumption) ?_
          rotate_left
          · intro w hSw; obtain ⟨l, c0, c1⟩ := HBQ.out.later hSw; clear hSw; go_simp; try with_reducible rfl
          try simp only [Act.put, List.getElem_toArray, List.getElem_cons_succ, List.getElem_cons_zero, List.setIfInBounds_toArray, List.set_cons_zero, List.set_cons_succ]
          refine wpAnyH_take (i := 10) (v := ?_) rfl (by kernel_rfl) (by kernel_rfl) (by kernel_rfl) (fun _ _ _ h => h) (Or.inl ⟨by rfl, ?_⟩) (by assumption) ?_
          rotate_left
          · intro w hSw; clear hSw; go_simp; try with_reducible rfl
          try simp only [Act.put, List.getElem_toArray, List.getElem_cons_succ, List.getElem_cons_zero, List.setIfInBounds_toArray, List.set_cons_zero, List.set_cons_succ]
          refine wpAnyH_take (i := 12) (v := ?_) rfl (by kernel_rfl) (by kernel_rfl) (by kernel_rfl) (fun _ _ _ h => h) (Or.inl ⟨by rfl, ?_⟩) (by assumption) ?_
          rotate_left
          · intro w hSw; obtain ⟨l, c0, c1⟩ := HBQ.out.later hSw; clear hSw; go_simp; try with_reducible rfl
          try simp only [Act.put, List.getElem_toArray, List.getElem_cons_succ, List.getElem_cons_zero, List.setIfInBounds_toArray, List.set_cons_zero, List.set_cons_succ]
          refine wpAnyH_take (i := 13) (v := ?_) rfl (by kernel_rfl) (by kernel_rfl) (by kernel_rfl) (fun _ _ _ h => h) (Or.inl ⟨by rfl, ?_⟩) (by assumption) ?_
          rotate_left
          · intro w hSw; clear hSw; go_simp; try with_reducible rfl
          try simp only [Act.put, List.getElem_toArray, List.getElem_cons_succ, List.getElem_cons_zero, List.setIfInBounds_toArray, List.set_cons_zero, List.set_cons_succ]
          refine wpAnyH_ready (rs := [11]) (by kernel_rfl) (by simp) ?_
          refine AllReadyH.cons rfl (fun K hK => ?_) AllReadyH.nil
          have hcur := hHeld
          clear hHeld
          go_simp
          go_at_call 11
          refine (sKeyKinds_new false 0 _ _ kv _ ts z _ (HTQ.out.later hcur)).mono ?_
          rintro e x4 ⟨v4, rfl, hi4, hg4⟩
          have HB4 : Hid (Below wq.heap.size wq x4) := hcur.trans (hg4.below.mono hcur.size)
          have HI4 := Lib.hid hi4
          clear hi4 hg4 hcur
          refine hK.out _ _ HB4.out (fun hHeld => ?_)
          clear hK K
          try simp only [Act.put, List.getElem_toArray, List.getElem_cons_succ, List.getElem_cons_zero, List.setIfInBounds_toArray, List.set_cons_zero, List.set_cons_succ]
          try simp only [Act.put, List.getElem_toArray, List.getElem_cons_succ, List.getElem_cons_zero, List.setIfInBounds_toArray, List.set_cons_zero, List.set_cons_succ]
          refine wpAnyH_ready (rs := [14]) (by kernel_rfl) (by simp) ?_
          refine AllReadyH.cons rfl (fun K hK => ?_) AllReadyH.nil
          have hcur := hHeld
          clear hHeld
          go_simp
          go_at_call 12
          refine (refKeyKinds_new false 0 _ _ kv _ ts z _ (HTQ.out.later hcur)).mono ?_
          rintro e x5 ⟨v5, rfl, hi5, hg5⟩
          have HB5 : Hid (Below wq.heap.size wq x5) := hcur.trans (hg5.mono hcur.size)
          have HI5 := Lib.hid hi5
          have HI4b := Lib.hid (HI4.out.later hg5)
          clear hi5 hg5 hcur
          refine hK.out _ _ HB5.out (fun hHeld => ?_)
          clear hK K
          try simp only [Act.put, List.getElem_toArray, List.getElem_cons_succ, List.getElem_cons_zero, List.setIfInBounds_toArray, List.set_cons_zero, List.set_cons_succ]
          try simp only [Act.put, List.getElem_toArray, List.getElem_cons_succ, List.getElem_cons_zero, List.setIfInBounds_toArray, List.set_cons_zero, List.set_cons_succ]
          refine wpAnyH_ready (rs := [15]) (by kernel_rfl) (by simp) ?_
          refine AllReadyH.cons rfl (fun K hK => ?_) AllReadyH.nil
          have hcur := hHeld
          clear hHeld
          go_simp
          go_at_call 8
          refine (lsame_calls _ _ _ _ _ _ _ HI4b.out HI5.out).mono ?_
          rintro e x6 ⟨rfl, hg6⟩
          have HB6 : Hid (Below wq.heap.size wq x6) := hcur.trans (hg6.below.mono hcur.size)
          rw [decide_eq_true rfl]
          clear hg6 hcur HI4 HI5 HI4b
          refine hK.out _ _ HB6.out (fun hHeld => ?_)
          clear hK K
          try simp only [Act.put, List.getElem_toArray, List.getElem_cons_succ, List.getElem_cons_zero, List.setIfInBounds_toArray, List.set_cons_zero, List.set_cons_succ]
          try simp only [Act.put, List.getElem_toArray, List.getElem_cons_succ, List.getElem_cons_zero, List.setIfInBounds_toArray, List.set_cons_zero, List.set_cons_succ]
          refine wpAnyH_take (i := 16) (v := ?_) rfl (by kernel_rfl) (by kernel_rfl) (by kernel_rfl) (fun _ _ _ h => h) (Or.inl ⟨by rfl, ?_⟩) (by assumption) ?_
          rotate_left
          · intro w hSw; clear hSw; go_simp; try with_reducible rfl
          try simp only [Act.put, List.getElem_toArray, List.getElem_cons_succ, List.getElem_cons_zero, List.setIfInBounds_toArray, List.set_cons_zero, List.set_cons_succ]
          refine wpAnyH_take (i := 17) (v := ?_) rfl (by kernel_rfl) (by kernel_rfl) (by kernel_rfl) (fun _ _ _ h => h) (Or.inl ⟨by rfl, ?_⟩) (by assumption) ?_
          rotate_left
          · intro w hSw; clear hSw; go_simp; try with_reducible rfl
          try simp only [Act.put, List.getElem_toArray, List.getElem_cons_succ, List.getElem_cons_zero, List.setIfInBounds_toArray, List.set_cons_zero, List.set_cons_succ]
          refine wpAnyH_take (i := 18) (v := ?_) rfl (by kernel_rfl) (by kernel_rfl) (by kernel_rfl) (fun _ _ _ h => h) (Or.inl ⟨by rfl, ?_⟩) (by assumption) ?_
          rotate_left
          · intro w hSw; clear hSw; go_simp; try with_reducible rfl
          try simp only [Act.put, List.getElem_toArray, List.getElem_cons_succ, List.getElem_cons_zero, List.setIfInBounds_toArray, List.set_cons_zero, List.set_cons_succ]
          refine wpAnyH_take (i := 19) (v := ?_) rfl (by kernel_rfl) (by kernel_rfl) (by kernel_rfl) (fun _ _ _ h => h) (Or.inl ⟨by rfl, ?_⟩) (by assumption) ?_
          rotate_left
          · intro w hSw; obtain ⟨l, c0, c1⟩ := HBQ.out.later hSw; clear hSw; go_simp; try with_reducible rfl
          try simp only [Act.put, List.getElem_toArray, List.getElem_cons_succ, List.getElem_cons_zero, List.setIfInBounds_toArray, List.set_cons_zero, List.set_cons_succ]
          refine wpAnyH_take (i := 20) (v := ?_) rfl (by kernel_rfl) (by kernel_rfl) (by kernel_rfl) (fun _ _ _ h => h) (Or.inl ⟨by rfl, ?_⟩) (by assumption) ?_
          rotate_left
          · intro w hSw; clear hSw; go_simp; try with_reducible rfl
          try simp only [Act.put, List.getElem_toArray, List.getElem_cons_succ, List.getElem_cons_zero, List.setIfInBounds_toArray, List.set_cons_zero, List.set_cons_succ]
          refine wpAnyH_take (i := 21) (v := ?_) rfl (by kernel_rfl) (by kernel_rfl) (by kernel_rfl) (fun _ _ _ h => h) (Or.inl ⟨by rfl, ?_⟩) (by assumption) ?_
          rotate_left
          · intro w hSw; clear hSw; go_simp; try with_reducible rfl
          try simp only [Act.put, List.getElem_toArray, List.getElem_cons_succ, List.getElem_cons_zero, List.setIfInBounds_toArray, List.set_cons_zero, List.set_cons_succ]
          refine wpAnyH_take (i := 23) (v := ?_) rfl (by kernel_rfl) (by kernel_rfl) (by kernel_rfl) (fun _ _ _ h => h) (Or.inl ⟨by rfl, ?_⟩) (by assumption) ?_
          rotate_left
          · intro w hSw; obtain ⟨l, c0, c1⟩ := HBQ.out.later hSw; clear hSw; go_simp; try with_reducible rfl
          try simp only [Act.put, List.getElem_toArray, List.getElem_cons_succ, List.getElem_cons_zero, List.setIfInBounds_toArray, List.set_cons_zero, List.set_cons_succ]
          refine wpAnyH_take (i := 24) (v := ?_) rfl (by kernel_rfl) (by kernel_rfl) (by kernel_rfl) (fun _ _ _ h => h) (Or.inl ⟨by rfl, ?_⟩) (by assumption) ?_
          rotate_left
          · intro w hSw; clear hSw; go_simp; try with_reducible rfl
          try simp only [Act.put, List.getElem_toArray, List.getElem_cons_succ, List.getElem_cons_zero, List.setIfInBounds_toArray, List.set_cons_zero, List.set_cons_succ]
          refine wpAnyH_take (i := 25) (v := ?_) rfl (by kernel_rfl) (by kernel_rfl) (by kernel_rfl) (fun _ _ _ h => h) (Or.inl ⟨by rfl, ?_⟩) (by assumption) ?_
          rotate_left
          · intro w hSw; clear hSw; go_simp; try with_reducible rfl
          try simp only [Act.put, List.getElem_toArray, List.getElem_cons_succ, List.getElem_cons_zero, List.setIfInBounds_toArray, List.set_cons_zero, List.set_cons_succ]
          refine wpAnyH_ready (rs := [22]) (by kernel_rfl) (by simp) ?_
          refine AllReadyH.cons rfl (fun K hK => ?_) AllReadyH.nil
          have hcur := hHeld
          clear hHeld
          go_simp
          go_at_call 14
          have hkc := sKey_calls false 0 _ _ kv _ ts z va0 vc0 row _ (HTQ.out.later hcur) (by rw [HRL.out]; exact HRQ.out.later hcur) (by rw [HRL.out]; exact HROW.out.2)
          rw [HRL.out] at hkc
          refine hkc.mono ?_
          rintro e x7 ⟨v7, rfl, hi7, hg7⟩
          have HB7 : Hid (Below wq.heap.size wq x7) := hcur.trans (hg7.mono hcur.size)
          have HI7 := Lib.hid hi7
          clear hi7 hg7 hcur hkc
          refine hK.out _ _ HB7.out (fun hHeld => ?_)
          clear hK K
          try simp only [Act.put, List.getElem_toArray, List.getElem_cons_succ, List.getElem_cons_zero, List.setIfInBounds_toArray, List.set_cons_zero, List.set_cons_succ]
          try simp only [Act.put, List.getElem_toArray, List.getElem_cons_succ, List.getElem_cons_zero, List.setIfInBounds_toArray, List.set_cons_zero, List.set_cons_succ]
          refine wpAnyH_ready (rs := [26]) (by kernel_rfl) (by simp) ?_
          refine AllReadyH.cons rfl (fun K hK => ?_) AllReadyH.nil
          have hcur := hHeld
          clear hHeld
          go_simp
          go_at_call 15
          have hkc := refKey_calls false 0 _ _ kv _ ts z va0 vc0 row _ (HTQ.out.later hcur) (by rw [HRL.out]; exact HRQ.out.later hcur) (by rw [HRL.out]; exact HROW.out.2)
          rw [HRL.out] at hkc
          refine hkc.mono ?_
          rintro e x8 ⟨v8, rfl, hi8, hg8⟩
          have HB8 : Hid (Below wq.heap.size wq x8) := hcur.trans (hg8.mono hcur.size)
          have HI8 := Lib.hid hi8
          have HI7b := Lib.hid (HI7.out.later hg8)
          clear hi8 hg8 hcur hkc
          refine hK.out _ _ HB8.out (fun hHeld => ?_)
          clear hK K
          try simp only [Act.put, List.getElem_toArray, List.getElem_cons_succ, List.getElem_cons_zero, List.setIfInBounds_toArray, List.set_cons_zero, List.set_cons_succ]
          try simp only [Act.put, List.getElem_toArray, List.getElem_cons_succ, List.getElem_cons_zero, List.setIfInBounds_toArray, List.set_cons_zero, List.set_cons_succ]
          refine wpAnyH_ready (rs := [27]) (by kernel_rfl) (by simp) ?_
          refine AllReadyH.cons rfl (fun K hK => ?_) AllReadyH.nil
          have hcur := hHeld
          clear hHeld
          go_simp
          go_at_call 13
          refine (refCompareRows_calls _ _ _ _ _ HI7b.out HI8.out).mono ?_
          rintro e x9 ⟨rfl, hg9⟩
          have HB9 : Hid (Below wq.heap.size wq x9) := hcur.trans (hg9.below.mono hcur.size)
          rw [goodR.self]
          clear hg9 hcur HI7 HI8 HI7b
          refine hK.out _ _ HB9.out (fun hHeld => ?_)
          clear hK K
          try simp only [Act.put, List.getElem_toArray, List.getElem_cons_succ, List.getElem_cons_zero, List.setIfInBounds_toArray, List.set_cons_zero, List.set_cons_succ]
          try simp only [Act.put, List.getElem_toArray, List.getElem_cons_succ, List.getElem_cons_zero, List.setIfInBounds_toArray, List.set_cons_zero, List.set_cons_succ]
          refine wpAnyH_take (i := 28) (v := ?_) rfl (by kernel_rfl) (by kernel_rfl) (by kernel_rfl) (fun _ _ _ h => h) (Or.inl ⟨by rfl, ?_⟩) (by assumption) ?_
          rotate_left
          · intro w hSw; clear hSw; go_simp; try with_reducible rfl
          try simp only [Act.put, List.getElem_toArray, List.getElem_cons_succ, List.getElem_cons_zero, List.setIfInBounds_toArray, List.set_cons_zero, List.set_cons_succ]
          refine wpAnyH_take (i := 29) (v := ?_) rfl (by kernel_rfl) (by kernel_rfl) (by kernel_rfl) (fun _ _ _ h => h) (Or.inl ⟨by rfl, ?_⟩) (by assumption) ?_
          rotate_left
          · intro w hSw; clear hSw; go_simp; try with_reducible rfl
          try simp only [Act.put, List.getElem_toArray, List.getElem_cons_succ, List.getElem_cons_zero, List.setIfInBounds_toArray, List.set_cons_zero, List.set_cons_succ]
          refine wpAnyH_done (by kernel_rfl) ?_ _
          refine NoPanic.normal ?_
          clear hHeld
          have HBE : Hid (Below W7.heap.size W7 x9) := HBJ.out.trans (HB9.out.mono HBJ.out.size)
          clear HB1 HB2 HB3 HB4 HB5 HB6 HB7 HB8 HB9 HBQ HTQ HRQ HBJ
          go_wp2_with fail
          generalize wrap64 ((j : Int) + 1) = y at hwj ⊢
          subst hwj
          go_roundw
          case rel => exact ⟨j + 1, by omega, by go_num, HBE.out⟩
          case measure => simp [intOf]; omega
        · have hlj' : decide ((j : Int) < 2) = false := by simp; omega
          clear hwj
          obtain ⟨wq, rfl⟩ : ∃ wz : World, wz = wr := ⟨_, rfl⟩
          have HBQ : Hid (SBox wq gb kv ka kn kc) := HB7.out.later HBJ.out
          have HTQ := Lib.hid (HT7.out.later HBJ.out)
          go_upto_region 12 with fail
          refine wp_region_noPanic ?_
          refine wp_region_held (S := fun w' => Below wq.heap.size wq w') mx ?_
          have hHeld : (fun w' => Below wq.heap.size wq w') wq.drew := ⟨rfl, rfl, rfl, Nat.le_refl _, fun _ _ => rfl⟩
          change wpAnyH _ _ _ _ (fun w' => Below wq.heap.size wq w') _ _ _ wq.drew
          try simp only [Act.put, List.getElem_toArray, List.getElem_cons_succ, List.getElem_cons_zero, List.setIfInBounds_toArray, List.set_cons_zero, List.set_cons_succ]
          refine wpAnyH_take (i := 0) (v := ?_) rfl (by kernel_rfl) (by kernel_rfl) (by kernel_rfl) (fun _ _ _ h => h) (Or.inl ⟨by rfl, ?_⟩) (by assumption) ?_
          rotate_left
          · intro w hSw; obtain ⟨l, c0, c1⟩ := HBQ.out.later hSw; clear hSw; go_simp; try with_reducible rfl
          try simp only [Act.put, List.getElem_toArray, List.getElem_cons_succ, List.getElem_cons_zero, List.setIfInBounds_toArray, List.set_cons_zero, List.set_cons_succ]
          refine wpAnyH_take (i := 1) (v := ?_) rfl (by kernel_rfl) (by kernel_rfl) (by kernel_rfl) (fun _ _ _ h => h) (Or.inl ⟨by rfl, ?_⟩) (by assumption) ?_
          rotate_left
          · intro w hSw; clear hSw; go_simp; try with_reducible rfl
          try simp only [Act.put, List.getElem_toArray, List.getElem_cons_succ, List.getElem_cons_zero, List.setIfInBounds_toArray, List.set_cons_zero, List.set_cons_succ]
          refine wpAnyH_take (i := 3) (v := ?_) rfl (by kernel_rfl) (by kernel_rfl) (by kernel_rfl) (fun _ _ _ h => h) (Or.inl ⟨by rfl, ?_⟩) (by assumption) ?_
          rotate_left
          · intro w hSw; obtain ⟨l, c0, c1⟩ := HBQ.out.later hSw; clear hSw; go_simp; try with_reducible rfl
          try simp only [Act.put, List.getElem_toArray, List.getElem_cons_succ, List.getElem_cons_zero, List.setIfInBounds_toArray, List.set_cons_zero, List.set_cons_succ]
          refine wpAnyH_take (i := 4) (v := ?_) rfl (by kernel_rfl) (by kernel_rfl) (by kernel_rfl) (fun _ _ _ h => h) (Or.inl ⟨by rfl, ?_⟩) (by assumption) ?_
          rotate_left
          · intro w hSw; clear hSw; go_simp; try with_reducible rfl
          obtain ⟨f1, hf1⟩ : ∃ f, findS ts nm = f := ⟨_, rfl⟩
          obtain ⟨f2, hf2⟩ : ∃ f, findS ts ⟨#[116, 97, 115, 107, 115]⟩ = f := ⟨_, rfl⟩
          try simp only [Act.put, List.getElem_toArray, List.getElem_cons_succ, List.getElem_cons_zero, List.setIfInBounds_toArray, List.set_cons_zero, List.set_cons_succ]
          refine wpAnyH_ready (rs := [2]) (by kernel_rfl) (by simp) ?_
          refine AllReadyH.cons rfl (fun K hK => ?_) AllReadyH.nil
          have hcur := hHeld
          clear hHeld
          go_simp
          go_at_call 16
          refine (sFind_calls false 0 _ _ kv _ ts nm _ (HTQ.out.later hcur)).mono ?_
          rintro e x1 ⟨rfl, hg1⟩
          rw [hf1]
          have HB1 : Hid (Below wq.heap.size wq x1) := hcur.trans (hg1.below.mono hcur.size)
          clear hg1 hcur
          refine hK.out _ _ HB1.out (fun hHeld => ?_)
          clear hK K
          try simp only [Act.put, List.getElem_toArray, List.getElem_cons_succ, List.getElem_cons_zero, List.setIfInBounds_toArray, List.set_cons_zero, List.set_cons_succ]
          try simp only [Act.put, List.getElem_toArray, List.getElem_cons_succ, List.getElem_cons_zero, List.setIfInBounds_toArray, List.set_cons_zero, List.set_cons_succ]
          refine wpAnyH_ready (rs := [5]) (by kernel_rfl) (by simp) ?_
          refine AllReadyH.cons rfl (fun K hK => ?_) AllReadyH.nil
          have hcur := hHeld
          clear hHeld
          go_simp
          go_at_call 17
          refine (refFind_calls false 0 _ _ kv _ ts nm _ (HTQ.out.later hcur)).mono ?_
          rintro e x2 ⟨rfl, hg2⟩
          rw [hf1]
          have HB2 : Hid (Below wq.heap.size wq x2) := hcur.trans (hg2.below.mono hcur.size)
          clear hg2 hcur
          refine hK.out _ _ HB2.out (fun hHeld => ?_)
          clear hK K
          try simp only [Act.put, List.getElem_toArray, List.getElem_cons_succ, List.getElem_cons_zero, List.setIfInBounds_toArray, List.set_cons_zero, List.set_cons_succ]
          have hne1 : (f1 != f1) = false := by simp
          have hne2 : (f2 != f2) = false := by simp
          try simp only [Act.put, List.getElem_toArray, List.getElem_cons_succ, List.getElem_cons_zero, List.setIfInBounds_toArray, List.set_cons_zero, List.set_cons_succ]
          refine wpAnyH_take (i := 6) (v := ?_) rfl (by kernel_rfl) (by kernel_rfl) (by kernel_rfl) (fun _ _ _ h => h) (Or.inl ⟨by rfl, ?_⟩) (by assumption) ?_
          rotate_left
          · intro w hSw; clear hSw; go_simp; try with_reducible rfl
          try simp only [Act.put, List.getElem_toArray, List.getElem_cons_succ, List.getElem_cons_zero, List.setIfInBounds_toArray, List.set_cons_zero, List.set_cons_succ]
          refine wpAnyH_take (i := 7) (v := ?_) rfl (by kernel_rfl) (by kernel_rfl) (by kernel_rfl) (fun _ _ _ h => h) (Or.inl ⟨by rfl, ?_⟩) (by assumption) ?_
          rotate_left
          · intro w hSw; clear hSw; go_simp; try with_reducible rfl
          try simp only [Act.put, List.getElem_toArray, List.getElem_cons_succ, List.getElem_cons_zero, List.setIfInBounds_toArray, List.set_cons_zero, List.set_cons_succ]
          refine wpAnyH_take (i := 8) (v := ?_) rfl (by kernel_rfl) (by kernel_rfl) (by kernel_rfl) (fun _ _ _ h => h) (Or.inl ⟨by rfl, ?_⟩) (by assumption) ?_
          rotate_left
          · intro w hSw; obtain ⟨l, c0, c1⟩ := HBQ.out.later hSw; clear hSw; go_simp; try with_reducible rfl
          try simp only [Act.put, List.getElem_toArray, List.getElem_cons_succ, List.getElem_cons_zero, List.setIfInBounds_toArray, List.set_cons_zero, List.set_cons_succ]
          refine wpAnyH_take (i := 10) (v := ?_) rfl (by kernel_rfl) (by kernel_rfl) (by kernel_rfl) (fun _ _ _ h => h) (Or.inl ⟨by rfl, ?_⟩) (by assumption) ?_
          rotate_left
          · intro w hSw; obtain ⟨l, c0, c1⟩ := HBQ.out.later hSw; clear hSw; go_simp; try with_reducible rfl
          try simp only [Act.put, List.getElem_toArray, List.getElem_cons_succ, List.getElem_cons_zero, List.setIfInBounds_toArray, List.set_cons_zero, List.set_cons_succ]
          refine wpAnyH_ready (rs := [9]) (by kernel_rfl) (by simp) ?_
          refine AllReadyH.cons rfl (fun K hK => ?_) AllReadyH.nil
          have hcur := hHeld
          clear hHeld
          go_simp
          go_at_call 16
          refine (sFind_calls false 0 _ _ kv _ ts ⟨#[116, 97, 115, 107, 115]⟩ _ (HTQ.out.later hcur)).mono ?_
          rintro e x3 ⟨rfl, hg3⟩
          rw [hf2]
          have HB3 : Hid (Below wq.heap.size wq x3) := hcur.trans (hg3.below.mono hcur.size)
          clear hg3 hcur
          refine hK.out _ _ HB3.out (fun hHeld => ?_)
          clear hK K
          try simp only [Act.put, List.getElem_toArray, List.getElem_cons_succ, List.getElem_cons_zero, List.setIfInBounds_toArray, List.set_cons_zero, List.set_cons_succ]
          try simp only [Act.put, List.getElem_toArray, List.getElem_cons_succ, List.getElem_cons_zero, List.setIfInBounds_toArray, List.set_cons_zero, List.set_cons_succ]
          refine wpAnyH_ready (rs := [11]) (by kernel_rfl) (by simp) ?_
          refine AllReadyH.cons rfl (fun K hK => ?_) AllReadyH.nil
          have hcur := hHeld
          clear hHeld
          go_simp
          go_at_call 17
          refine (refFind_calls false 0 _ _ kv _ ts ⟨#[116, 97, 115, 107, 115]⟩ _ (HTQ.out.later hcur)).mono ?_
          rintro e x4 ⟨rfl, hg4⟩
          rw [hf2]
          have HB4 : Hid (Below wq.heap.size wq x4) := hcur.trans (hg4.below.mono hcur.size)
          clear hg4 hcur
          refine hK.out _ _ HB4.out (fun hHeld => ?_)
          clear hK K
          try simp only [Act.put, List.getElem_toArray, List.getElem_cons_succ, List.getElem_cons_zero, List.setIfInBounds_toArray, List.set_cons_zero, List.set_cons_succ]
          try simp only [Act.put, List.getElem_toArray, List.getElem_cons_succ, List.getElem_cons_zero, List.setIfInBounds_toArray, List.set_cons_zero, List.set_cons_succ]
          refine wpAnyH_take (i := 12) (v := ?_) rfl (by kernel_rfl) (by kernel_rfl) (by kernel_rfl) (fun _ _ _ h => h) (Or.inl ⟨by rfl, ?_⟩) (by assumption) ?_
          rotate_left
          · intro w hSw; clear hSw; go_simp; try with_reducible rfl
          try simp only [Act.put, List.getElem_toArray, List.getElem_cons_succ, List.getElem_cons_zero, List.setIfInBounds_toArray, List.set_cons_zero, List.set_cons_succ]
          refine wpAnyH_take (i := 13) (v := ?_) rfl (by kernel_rfl) (by kernel_rfl) (by kernel_rfl) (fun _ _ _ h => h) (Or.inl ⟨by rfl, ?_⟩) (by assumption) ?_
          rotate_left
          · intro w hSw; clear hSw; go_simp; try with_reducible rfl
          try simp only [Act.put, List.getElem_toArray, List.getElem_cons_succ, List.getElem_cons_zero, List.setIfInBounds_toArray, List.set_cons_zero, List.set_cons_succ]
          refine wpAnyH_done (by kernel_rfl) ?_ _
          refine NoPanic.normal ?_
          clear hHeld
          have HBE : Hid (Below W7.heap.size W7 x4) := HBJ.out.trans (HB4.out.mono HBJ.out.size)
          have HCE : Hid (CaseAt x4 b c) := HC7.out.grown ⟨HBE.out.os, HBE.out.tape, HBE.out.output, HBE.out.size, fun k hk _ => HBE.out.block k hk⟩
          have HGE : Hid (W4.grownBy x4 (some b)) := by_trans HG7.out ⟨HBE.out.os, HBE.out.tape, HBE.out.output, HBE.out.size, fun k hk _ => HBE.out.block k hk⟩
          clear HB1 HB2 HB3 HB4 HBQ HTQ HBJ HBE
          go_wp2_with fail
          generalize wrap64 ((k : Int) + 1) = y at hwk ⊢
          subst hwk
          go_roundw
          case rel => exact ⟨k + 1, by omega, by go_num, HCE.out, HGE.out⟩
          case measure => simp [intOf]; omega
    · have hlt' : decide ((k : Int) < 3) = false := by simp; omega
      have hbw : Below W0.heap.size W0 wr := HM5.out.g.trans (show Below W0.heap.size W4 wr from ⟨HG.out.os, HG.out.tape, HG.out.output, HG.out.size, fun k hk => HG.out.block k (by have := HM5.out.g.size; omega) (by have := HBS.out.1; simp; omega)⟩)
      have HBE := Lib.hid (begun7_calls wr (HS.out.later hbw))
      have HBW := Lib.hid (HB0.out.trans (hbw.mono HB0.out.size))
      clear hbw hwk
      go_wp2_with fail
      refine HBE.out.mono ?_
      rintro e wz ⟨rfl, hgz⟩
      have HGZ : Hid (Below w.heap.size w wz) := HBW.out.trans (hgz.below.mono HBW.out.size)
      clear hgz
      go_wp2_with fail
      go_ret
      exact ⟨rfl, HGZ.out⟩
set_option maxRecDepth 100000 in
theorem lifted (os : Os) (started : os.Started) (H : Type) (enc : TypeId × Value → H) :
    ReturnsInHanded {} Tryd.checked os 3 .any (fun w args => (Rows.schemaFindsSpec.pre enc Tryd.prog Tryd.f3 [] false w args ∧ laidMetH Tryd.prog laid1 w) ∧ sizedMet enc Tryd.prog Tryd.f3 (OpenSpec.ofChange Rows.schemaFindsSpec) false w args) (Rows.schemaFindsSpec.post enc Tryd.prog Tryd.f3 false true false false) := by
  refine returnsInHanded_of_change_and (C := Tryd.checked) (X := fun w _ => laidMetH Tryd.prog laid1 w) (fun _ _ _ hh h => h.of_heap hh) own started (by kernel_rfl) Tryd.func3
    (ChangeSpec.witness_shaped (enc := enc) (C := Tryd.checked) (os := os) (X := fun w _ => laidMetH Tryd.prog laid1 w) false (World.doorLaid Tryd.prog 400 os) #[.slice none 0 0, .agg #[.int .i64 0, .slice none 0 0], .string ByteArray.empty, .int .i64 0, .slice none 0 0] 8 rfl (World.shaped_of_RefB (by kernel_rfl) (by kernel_rfl)) (by kernel_rfl) (by kernel_rfl) (by kernel_rfl) (door_met os _)) ?_
  intro W base args ds gs before hval0 hW hcnd hsz0 hL hlast
  have hS : Shapes W := shapes_of_laid hL
  have hval : ∀ (j : Nat) t v, Tryd.f3.params[j]? = some t → args[j]? = some v → Value.okWide Tryd.prog W .any base t v := hval0
  have hW' := hW
  obtain ⟨p, q, hA0, hV, rfl, hfz, hnd⟩ := hW
  have hA : DataW.TrodAll enc Tryd.prog W 0 (fun _ => true) true Tryd.f3.params.toList args.toList ds p := hA0
  have hsz : (DataW.weightsEach Tryd.prog (Tryd.f3.params.toList ++ Rows.schemaFindsSpec.plain.varTypes Tryd.prog) (ds ++ gs)).all (· ≤ reachBytes) = true := hsz0
  rw [Tryd.params3] at hA hval hsz
  obtain ⟨v0, vs0, d0, ds0, p0, q0, hargs, rfl, rfl, h0, r0⟩ := trodAll_cons hA
  obtain ⟨v1, vs1, d1, ds1, p1, q1, rfl, rfl, rfl, h1, r1⟩ := trodAll_cons r0
  obtain ⟨v2, vs2, d2, ds2, p2, q2, rfl, rfl, rfl, h2, r2⟩ := trodAll_cons r1
  obtain ⟨v3, vs3, d3, ds3, p3, q3, rfl, rfl, rfl, h3, r3⟩ := trodAll_cons r2
  obtain ⟨v4, vs4, d4, ds4, p4, q4, rfl, rfl, rfl, h4, r4⟩ := trodAll_cons r3
  obtain ⟨rfl, rfl, rfl⟩ := trodAll_nil r4
  obtain rfl : args = #[v0, v1, v2, v3, v4] := by cases args; simp_all
  obtain ⟨rfl, rfl⟩ := trodVars_none hV
  have lt0 : ∀ x ∈ p0, x.block < W.heap.size := by obtain ⟨m, hm⟩ := h0; exact DataW.trod_lt m _ _ _ hm
  obtain ⟨a0, len0, cap0, z0, rfl, w0⟩ := open_codes (hval 0 22 v0 rfl rfl) h0
  have lt1 : ∀ x ∈ p1, x.block < W.heap.size := by obtain ⟨m, hm⟩ := h1; exact DataW.trod_lt m _ _ _ hm
  obtain ⟨e1, s1, x1, rfl, w1⟩ := open_Schema (hval 1 25 v1 rfl rfl) h1 (fun n hn => by have hq := List.all_eq_true.1 hsz n (DataW.weights_mem_each (j := 1) (t := 25) rfl rfl n hn); simpa using hq)
  have lt2 : ∀ x ∈ p2, x.block < W.heap.size := by obtain ⟨m, hm⟩ := h2; exact DataW.trod_lt m _ _ _ hm
  obtain ⟨x2, rfl, w2⟩ := open_str7 (hval 2 9 v2 rfl rfl) h2 (fun bs he => sized_string (j := 2) (t := 9) hsz rfl (by rw [← he]; rfl))
  have lt3 : ∀ x ∈ p3, x.block < W.heap.size := by obtain ⟨m, hm⟩ := h3; exact DataW.trod_lt m _ _ _ hm
  obtain ⟨x3, rfl⟩ := open_int7 (hval 3 3 v3 rfl rfl) h3
  have lt4 : ∀ x ∈ p4, x.block < W.heap.size := by obtain ⟨m, hm⟩ := h4; exact DataW.trod_lt m _ _ _ hm
  obtain ⟨x4, w4⟩ := open_Row (hval 4 27 v4 rfl rfl) h4 (fun es sp he => by have hq := sized_slice (j := 4) (e := 56) hsz rfl (by rw [he]; rfl) Tryd.underlying27; rwa [bytes24] at hq)
  obtain ⟨ca4, cn4, cc4, rfl, cw4⟩ := open_cap (hval 4 27 v4 rfl rfl) h4
  obtain rfl : cn4 = x4.length := by obtain ⟨a1, c1, h, -⟩ := w4; simp only [Value.slice.injEq] at h; exact h.2.1
  clear hA0 hval0
  refine (walk a0 len0 cap0 z0 e1 s1 x1 x2 x3 ca4 cc4 x4 W w0 w1 w4 cw4 hS).mono fun e W' ⟨he, bel⟩ => ?_
  subst he
  exact ⟨_, rfl, _, _, _, [], _, [], hW', trodAll_mk1 (shut_bool Tryd.underlying4 _), (trodAll_cons_mk (Below.trod laidOut (by kernel_rfl) (of_decide_eq_true (by kernel_rfl)) h0 bel lt0) (trodAll_cons_mk (Below.trod laidOut (by kernel_rfl) (of_decide_eq_true (by kernel_rfl)) h1 bel lt1) (trodAll_cons_mk (Below.trod laidOut (by kernel_rfl) (of_decide_eq_true (by kernel_rfl)) h2 bel lt2) (trodAll_cons_mk (Below.trod laidOut (by kernel_rfl) (of_decide_eq_true (by kernel_rfl)) h3 bel lt3) (trodAll_cons_mk (Below.trod laidOut (by kernel_rfl) (of_decide_eq_true (by kernel_rfl)) h4 bel lt4) trodAll_mk0))))), rfl, bel.frame _, fun h => by cases h⟩

theorem over : Rows.schemaFindsRow.holds Tryd.pinned (OpenSpec.ofChange Rows.schemaFindsSpec) :=
  OpenClaim.holds_of_wide 3 Tryd.f3 rfl rfl rfl rfl rfl rfl rfl ⟨rfl, rfl, rfl, rfl, rfl⟩ rfl rfl rfl rfl rfl (by kernel_rfl) Tryd.func3 (by kernel_rfl)
    (of_decide_eq_true (by kernel_rfl)) (by unfold Func.isWrapper; first | (rw [if_pos (by decide +kernel)]; kernel_rfl) | (rw [if_neg (by decide +kernel)]; exact ⟨rfl, rfl⟩))
    (fun os started H enc _ => lifted os started H enc)
theorem proved : Rows.SchemaFindsCardSaid :=
  Claim7.holds_tied_plain_at .later [] [.data] true (true, "58c70702f87dcef02ee4b27bb5acd0ffa1712952037d141076439a46df690970") false
    over (fun _ h => by cases h) (by kernel_rfl) (fun _ h => by cases h) schemaFinds_row_tie rfl ⟨rfl, rfl⟩ (by kernel_rfl) rfl
    (fun f fn hf hfn => by
      obtain rfl : f = 3 := Option.some.inj ((show Tryd.prog.funcNamed "partsync/partsynclaw07.SchemaFinds" = some 3 by kernel_rfl).symm.trans hf) |>.symm
      obtain rfl : fn = Tryd.f3 := (Option.some.inj (Tryd.func3.symm.trans hfn)).symm
      exact ⟨by kernel_rfl, fun j t ht => by
        rw [Tryd.params3] at ht
        have hm : t ∈ [22, 25, 9, 3, 27] := by simpa using Array.mem_of_getElem? ht
        have hall : ([22, 25, 9, 3, 27].all fun u => !Tryd.prog.wantsStandIn u) = true := by kernel_rfl
        exact (show Tryd.prog.wantsStandIn t = false by simpa using List.all_eq_true.1 hall t hm)⟩)
    (by kernel_rfl)

end SFinds
end Go.Proofs.YtpmlhgakbpfgmaaDoor
