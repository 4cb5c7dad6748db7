/- The contract of partsynccase.New. -/
import Derived.Test.YtlchcakmcikjnaaDoorE
import Derived.OwnWalk
import Derived.Laws.OwnMore
set_option linter.unusedSimpArgs false
set_option linter.unusedVariables false
namespace Go.Proofs.YtlchcakmcikjnaaDoor
open Go.RowKit

/-- What the walk is told of a slice of numbers that came in. -/
def IsRow (k : IntKind) (w : World) (a : Option Addr) (len cap : Nat) (zs : List Int) : Prop :=
  (a = none ∧ len = 0 ∧ cap = 0 ∧ zs = []) ∨
  ∃ x, a = some x ∧ len ≤ cap ∧ cap ≤ maxLen ∧ zs.length = cap ∧ (∀ i, i < zs.length → w.cell? (x.add i) = some (.int k (zs.getD i 0))) ∧ ∀ n ∈ zs, (Lit.int k n).wf = true
theorem IsRow.later {k : IntKind} {w w' : World} {a : Option Addr} {len cap : Nat} {zs : List Int} (h : IsRow k w a len cap zs) (hw : Below w.heap.size w w') : IsRow k w' a len cap zs := by
  refine h.imp id fun ⟨x, h1, h2, h3, h4, h5, h6⟩ => ⟨x, h1, h2, h3, h4, fun i hi => ?_, h6⟩
  have hc := h5 i hi
  have hb : (x.add i).block < w.heap.size := by
    simp only [World.cell?] at hc
    by_cases h : (x.add i).block < w.heap.size
    · exact h
    · rw [Array.getElem?_eq_none (by omega)] at hc; simp at hc
  exact (hw.cell hb).trans hc

def NewPost (w : World) (e : Ending) (w' : World) : Prop := ∃ (b : Nat) (c : CaseId), e = .returned (.pointer (some ⟨b, 0, none⟩)) ∧ w.heap.size ≤ b ∧ CaseAt w' b c ∧ Below w.heap.size w w'

theorem info5 : (Tryd.prog.info? 5).map (fun i => (i.zero, i.size, i.bytes)) = some (some (.int .u8 0), 1, 1) := by kernel_rfl

/-- A case of no numbers. -/
theorem case_none (w : World) (T : TypeId) (a : Option Addr) (cap : Nat) : CaseAt (w.alloc (.cells #[.slice a 0 cap, .int .i64 0] T)) w.heap.size ⟨a, 0, cap⟩ :=
  ⟨0, by simp, by go_simp, by go_simp, by go_simp, by simp, by simp, .inl rfl⟩
/-- A case of numbers in a row that the call has just made. -/
theorem case_some {w : World} {base g m capg : Nat} {ns : List Int} (T : TypeId) (h : w.ownsRow base 5 1 (.slice (some ⟨g, 0, none⟩) m capg) m (ns.map (Value.int .u8))) (hg : g < w.heap.size) (hm : m ≤ 1000) (hns : ∀ n ∈ ns, 0 ≤ n ∧ n ≤ 255) :
    CaseAt (w.alloc (.cells #[.slice (some ⟨g, 0, none⟩) m capg, .int .i64 0] T)) w.heap.size ⟨some ⟨g, 0, none⟩, m, capg⟩ := by
  have hl : ns.length = m := by have := h.1; simpa using this
  refine ⟨0, by simp, by go_simp, by go_simp, by go_simp, by simp, hm, .inr ⟨g, 0, rfl, by simp; omega, by omega, fun i hi => ?_⟩⟩
  have hi' : i < ns.length := by simp only at hi; omega
  refine ⟨ns[i], ?_, hns _ (List.getElem_mem hi')⟩
  have hc := h.cellAt i (by simp only at hi; omega)
  rw [World.cell?_alloc_past _ _ _ (by omega), Nat.zero_add, hc]
  simp [hi']

set_option maxRecDepth 100000 in
theorem new_calls (a : Option Addr) (len cap : Nat) (zs : List Int) (w : World) (hr : IsRow .u8 w a len cap zs) : Calls Tryd.prog 7 #[.slice a len cap, .int .i64 90] w (NewPost w) := by
  rcases hr with ⟨rfl, rfl, rfl, rfl⟩ | ⟨x, rfl, hl, hm, hz, hcell, hwz⟩
  · go_enter Tryd.func7, Tryd.ntmps7
    go_wp2
    go_ret
    exact ⟨_, _, rfl, Nat.le_refl _, case_none w _ none 0, (Below.refl _ _).alloc (Nat.le_refl _) _⟩
  by_cases h0 : len = 0
  · subst h0
    go_enter Tryd.func7, Tryd.ntmps7
    go_wp2
    go_ret
    exact ⟨_, _, rfl, Nat.le_refl _, case_none w _ none 0, (Below.refl _ _).alloc (Nat.le_refl _) _⟩
  obtain ⟨b0, off, spot⟩ := x
  have hc0 := hcell 0 (by omega)
  have hspot : spot = none := by simpa [Addr.add] using World.cell?_spot hc0
  subst hspot
  obtain ⟨i, hi, hz0, hsz, hby⟩ := info_parts info5
  have hnum : ∀ n ∈ zs, 0 ≤ n ∧ n ≤ 255 := fun n hn => by
    have := hwz n hn
    simpa [Lit.wf, IntKind.min, IntKind.max, IntKind.bits, IntKind.signed] using this
  have hnews : ∀ m, m ≤ len → ∀ j u, ((zs.take m).map (Value.int .u8))[j]? = some u → w.cell? ((⟨b0, off, none⟩ : Addr).add j) = some u := fun m hml j u hj => by
    have hjl : j < m ∧ j < zs.length := by
      have := (List.getElem?_eq_some_iff.1 hj).1
      simp at this
      omega
    rw [hcell j hjl.2, ← hj]
    simp [hjl.1, hjl.2]
  have h1 : ∀ m, ∀ u ∈ (zs.take m).map (Value.int .u8), u.oneCell' = true := fun m u hu => by
    obtain ⟨n, _, rfl⟩ := List.mem_map.1 hu
    rfl
  have HNE := Lib.hid hnews
  have H1 := Lib.hid h1
  have HNU := Lib.hid hnum
  have HI := Lib.hid hi
  have HZ := Lib.hid hz0
  have HS := Lib.hid hsz
  have HB := Lib.hid hby
  have HL := Lib.hid hz
  clear hnews h1 hnum hi hz0 hsz hby hcell hwz hc0 hz
  by_cases h90 : len ≤ 90
  · obtain ⟨N, hN⟩ : ∃ N, N = (zs.take len).map (Value.int .u8) := ⟨_, rfl⟩
    have hNl : N.length = len * 1 := by rw [hN]; simp; have := HL.out; omega
    have HN := Lib.hid hN
    have HNL := Lib.hid hNl
    clear hN hNl
    go_enter Tryd.func7, Tryd.ntmps7
    go_wp2_with (at_builtin; refine wpList_append_own _ rfl _ _ 22 rfl w.heap.size 5 i (.int .u8 0) 1 1 Tryd.underlying22 HI.out HZ.out HS.out HB.out rfl (by decide) (.slice none 0 0) 0 [] rfl (World.ownsRow_nil _ _ _ _) ⟨b0, off, none⟩ len cap N rfl HNL.out ?c1 ?c2 ?c3 ?c4 ?c5 ?_)
    case c1 => rw [HN.out]; exact HNE.out len (Nat.le_refl _)
    case c2 => rw [HN.out]; exact H1.out len
    case c3 => unfold maxLen; omega
    case c4 => omega
    case c5 => simp
    intro v' w1 hown hgrow hnil
    have hown' := hown
    obtain ⟨hx, hv | ⟨g, capg, cur, rfl, hg, hh, hcap, hm', hs, ht⟩⟩ := hown
    · exfalso; omega
    rw [HN.out] at hown'
    have HO := Lib.hid hown'
    have HG := Lib.hid hgrow
    have HLT := Lib.hid (Array.getElem?_eq_some_iff.1 hh).1
    clear hown' hgrow hnil hx hh hcap hm' hs ht hg
    go_wp2
    go_ret
    exact ⟨_, _, rfl, HG.out.size, case_some _ HO.out HLT.out (by omega) (fun n hn => HNU.out n (List.mem_of_mem_take hn)), ((Below.refl _ _).grown HG.out (Nat.le_refl _) (fun k hk => by cases hk)).alloc HG.out.size _⟩
  · have h90' : 90 < len := by omega
    obtain ⟨N, hN⟩ : ∃ N, N = (zs.take 90).map (Value.int .u8) := ⟨_, rfl⟩
    have hNl : N.length = 90 * 1 := by rw [hN]; simp; have := HL.out; omega
    have HN := Lib.hid hN
    have HNL := Lib.hid hNl
    clear hN hNl
    go_enter Tryd.func7, Tryd.ntmps7
    go_wp2_with (at_builtin; refine wpList_append_own _ rfl _ _ 22 rfl w.heap.size 5 i (.int .u8 0) 1 1 Tryd.underlying22 HI.out HZ.out HS.out HB.out rfl (by decide) (.slice none 0 0) 0 [] rfl (World.ownsRow_nil _ _ _ _) ⟨b0, off, none⟩ 90 cap N rfl HNL.out ?c1 ?c2 ?c3 ?c4 ?c5 ?_)
    case c1 => rw [HN.out]; exact HNE.out 90 (by omega)
    case c2 => rw [HN.out]; exact H1.out 90
    case c3 => unfold maxLen; omega
    case c4 => omega
    case c5 => simp
    intro v' w1 hown hgrow hnil
    have hown' := hown
    obtain ⟨hx, hv | ⟨g, capg, cur, rfl, hg, hh, hcap, hm', hs, ht⟩⟩ := hown
    · exfalso; omega
    rw [HN.out] at hown'
    have HO := Lib.hid hown'
    have HG := Lib.hid hgrow
    have HLT := Lib.hid (Array.getElem?_eq_some_iff.1 hh).1
    clear hown' hgrow hnil hx hh hcap hm' hs ht hg
    go_wp2
    go_ret
    exact ⟨_, _, rfl, HG.out.size, case_some _ HO.out HLT.out (by omega) (fun n hn => HNU.out n (List.mem_of_mem_take hn)), ((Below.refl _ _).grown HG.out (Nat.le_refl _) (fun k hk => by cases hk)).alloc HG.out.size _⟩
end Go.Proofs.YtlchcakmcikjnaaDoor
