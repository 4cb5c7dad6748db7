/- The case's schema: its tables, and how they lie in memory while it is made. -/
import Derived.Test.YtpmlhgakbpfgmaaDoorZf
import Derived.Test.YtpmlhgakbpfgmaaDoorQf
set_option linter.unusedSimpArgs false
set_option linter.unusedVariables false
namespace Go.Proofs.YtpmlhgakbpfgmaaDoor
open Go.RowKit

def sProjects : ByteArray := ⟨#[112, 114, 111, 106, 101, 99, 116, 115]⟩
def sTasks : ByteArray := ⟨#[116, 97, 115, 107, 115]⟩
def sMembers : ByteArray := ⟨#[109, 101, 109, 98, 101, 114, 115]⟩
def sArchived : ByteArray := ⟨#[97, 114, 99, 104, 105, 118, 101, 100]⟩
def sId : ByteArray := ⟨#[105, 100]⟩
def sOwner : ByteArray := ⟨#[111, 119, 110, 101, 114]⟩
def sProject : ByteArray := ⟨#[112, 114, 111, 106, 101, 99, 116]⟩
def sTitle : ByteArray := ⟨#[116, 105, 116, 108, 101]⟩
def sDone : ByteArray := ⟨#[100, 111, 110, 101]⟩
def sPerson : ByteArray := ⟨#[112, 101, 114, 115, 111, 110]⟩
def sTask : ByteArray := ⟨#[116, 97, 115, 107]⟩
def cols0 : List Col := [⟨sId, 4⟩, ⟨sOwner, 4⟩]
def cols1 (id : Int) : List Col := [⟨sId, id⟩, ⟨sProject, 4⟩, ⟨sTitle, 5⟩, ⟨sDone, 3⟩]
def cols2 : List Col := [⟨sProject, 4⟩, ⟨sPerson, 4⟩]
def cols3 (id : Int) : List Col := [⟨sTask, id⟩]
/-- The four tables, with these references and checks. -/
def tab4 (id : Int) (R1 R2 R3 : List Rfc) (K1 : List Pr) : Nat → Tab
  | 0 => ⟨sProjects, 1, cols0, [], []⟩
  | 1 => ⟨sTasks, 1, cols1 id, R1, K1⟩
  | 2 => ⟨sMembers, 2, cols2, R2, []⟩
  | _ => ⟨sArchived, 1, cols3 id, R3, []⟩
/-- The first n of them. -/
def tabs4 (n : Nat) (id : Int) (R1 R2 R3 : List Rfc) (K1 : List Pr) : List Tab := (List.range n).map (tab4 id R1 R2 R3 K1)
theorem tabs4_length (n : Nat) (id : Int) (R1 R2 R3 : List Rfc) (K1 : List Pr) : (tabs4 n id R1 R2 R3 K1).length = n := by unfold tabs4; simp
theorem tabs4_get (n : Nat) (id : Int) (R1 R2 R3 : List Rfc) (K1 : List Pr) (i : Nat) (h : i < (tabs4 n id R1 R2 R3 K1).length) : (tabs4 n id R1 R2 R3 K1)[i] = tab4 id R1 R2 R3 K1 i := by simp only [tabs4, List.getElem_map, List.getElem_range]
/-- References and checks that the case may have made. -/
structure SchemaOk (n : Nat) (id : Int) (R1 R2 R3 : List Rfc) (K1 : List Pr) : Prop where
  n2 : 2 ≤ n
  n4 : n ≤ 4
  idk : id = 4 ∨ id = 5
  r1 : R1 = [] ∨ R1 = [⟨[1], 0⟩]
  r2 : R2 = [] ∨ R2 = [⟨[0], 0⟩]
  r3 : R3 = [] ∨ R3 = [⟨[0], 1⟩]
  n3 : n < 4 → R3 = []
  n3' : n < 3 → R2 = []
  k1 : K1 = [] ∨ ∃ p, K1 = [p] ∧ checkE [id, 4, 5, 3] [] p = 0
/-- The tables as they lie in block tb, and what they hold in blocks of S. -/
structure Laid4 (S : Nat → Prop) (w : World) (tb : Nat) (T : Nat → Tab) : Prop where
  lt : tb < w.heap.size
  fz : ∀ o, w.frozen? ⟨tb, o, none⟩ = false
  at_ : ∀ i, i < 4 → TabAt true 3 S w tb (0 + i * 5) (T i)
theorem frozen_of {w w' : World} {b o : Nat} (h : w'.heap[b]? = w.heap[b]?) : w'.frozen? ⟨b, o, none⟩ = w.frozen? ⟨b, o, none⟩ := World.frozen?_of_block (w := w) h
theorem Laid4.kept {S : Nat → Prop} {w w' : World} {tb : Nat} {T : Nat → Tab} (h : Laid4 S w tb T) (hw : Kept (fun g => g = tb ∨ S g) w w') : Laid4 S w' tb T :=
  ⟨Nat.lt_of_lt_of_le h.lt hw.size, fun o => (frozen_of (hw.block tb h.lt (.inl rfl))).trans (h.fz o), fun i hi => let ⟨ca, cc, ra, rn, rc, ka, kn, kc, c, v⟩ := h.at_ i hi; ⟨ca, cc, ra, rn, rc, ka, kn, kc, c.kept hw h.lt (.inl rfl), v.kept (hw.mono fun _ _ h => .inr h)⟩⟩
theorem Laid4.later {S : Nat → Prop} {w w' : World} {tb : Nat} {T : Nat → Tab} (h : Laid4 S w tb T) (hw : Below w.heap.size w w') : Laid4 S w' tb T := h.kept (kept_below hw)
theorem Laid4.mono {S S' : Nat → Prop} {w : World} {tb : Nat} {T : Nat → Tab} (h : Laid4 S w tb T) (hs : ∀ b, b < w.heap.size → S b → S' b) : Laid4 S' w tb T :=
  ⟨h.lt, h.fz, fun i hi => let ⟨ca, cc, ra, rn, rc, ka, kn, kc, c, v⟩ := h.at_ i hi; ⟨ca, cc, ra, rn, rc, ka, kn, kc, c, v.mono hs⟩⟩
/-- One slice of one table is stored anew. -/
theorem Laid4.refs {S : Nat → Prop} {w w' : World} {tb : Nat} {T T' : Nat → Tab} (h : Laid4 S w tb T) (j : Nat) {ra : Option Addr} {rn rc : Nat} (hk : Kept S w w') (hfz : ∀ o, w'.frozen? ⟨tb, o, none⟩ = false)
    (hc : ∀ o, o ≠ 0 + j * 5 + 3 → w'.cell? ⟨tb, o, none⟩ = w.cell? ⟨tb, o, none⟩) (hn : w'.cell? ⟨tb, 0 + j * 5 + 3, none⟩ = some (.slice ra rn rc)) (hr : RefsAt S w' (.slice ra rn rc) (T' j).refs)
    (h1 : ∀ i, i < 4 → i ≠ j → T' i = T i) (h2 : (T' j).name = (T j).name ∧ (T' j).cols = (T j).cols ∧ (T' j).key = (T j).key ∧ (T' j).checks = (T j).checks) : Laid4 S w' tb T' := by
  refine ⟨Nat.lt_of_lt_of_le h.lt hk.size, hfz, fun i hi => ?_⟩
  obtain ⟨ca, cc, ra0, rn0, rc0, ka, kn, kc, c, v⟩ := h.at_ i hi
  by_cases e : i = j
  · subst e
    refine ⟨ca, cc, ra, rn, rc, ka, kn, kc, ⟨?_, ?_, ?_, hn, ?_⟩, ?_, fun _ => hr, fun e => ?_⟩
    · rw [hc _ (by omega), h2.1]; exact c.name
    · rw [hc _ (by omega), h2.2.1]; exact c.cols
    · rw [hc _ (by omega), h2.2.2.1]; exact c.key
    · rw [hc _ (by omega)]; exact c.checks
    · rw [h2.2.1]; exact v.cols.kept hk
    · rw [h2.2.2.2]; exact (v.checks e).kept hk
  · rw [h1 i hi e]
    exact ⟨ca, cc, ra0, rn0, rc0, ka, kn, kc, ⟨(hc _ (by omega)).trans c.name, (hc _ (by omega)).trans c.cols, (hc _ (by omega)).trans c.key, (hc _ (by omega)).trans c.refs, (hc _ (by omega)).trans c.checks⟩, v.kept hk⟩
theorem Laid4.checks {S : Nat → Prop} {w w' : World} {tb : Nat} {T T' : Nat → Tab} (h : Laid4 S w tb T) (j : Nat) {ra : Option Addr} {rn rc : Nat} (hk : Kept S w w') (hfz : ∀ o, w'.frozen? ⟨tb, o, none⟩ = false)
    (hc : ∀ o, o ≠ 0 + j * 5 + 4 → w'.cell? ⟨tb, o, none⟩ = w.cell? ⟨tb, o, none⟩) (hn : w'.cell? ⟨tb, 0 + j * 5 + 4, none⟩ = some (.slice ra rn rc)) (hr : PrIn S w' 3 (.slice ra rn rc) (T' j).checks)
    (h1 : ∀ i, i < 4 → i ≠ j → T' i = T i) (h2 : (T' j).name = (T j).name ∧ (T' j).cols = (T j).cols ∧ (T' j).key = (T j).key ∧ (T' j).refs = (T j).refs) : Laid4 S w' tb T' := by
  refine ⟨Nat.lt_of_lt_of_le h.lt hk.size, hfz, fun i hi => ?_⟩
  obtain ⟨ca, cc, ra0, rn0, rc0, ka, kn, kc, c, v⟩ := h.at_ i hi
  by_cases e : i = j
  · subst e
    refine ⟨ca, cc, ra0, rn0, rc0, ra, rn, rc, ⟨?_, ?_, ?_, ?_, hn⟩, ?_, fun e => ?_, fun _ => hr⟩
    · rw [hc _ (by omega), h2.1]; exact c.name
    · rw [hc _ (by omega), h2.2.1]; exact c.cols
    · rw [hc _ (by omega), h2.2.2.1]; exact c.key
    · rw [hc _ (by omega)]; exact c.refs
    · rw [h2.2.1]; exact v.cols.kept hk
    · rw [h2.2.2.2]; exact (v.refs e).kept hk
  · rw [h1 i hi e]
    exact ⟨ca, cc, ra0, rn0, rc0, ka, kn, kc, ⟨(hc _ (by omega)).trans c.name, (hc _ (by omega)).trans c.cols, (hc _ (by omega)).trans c.key, (hc _ (by omega)).trans c.refs, (hc _ (by omega)).trans c.checks⟩, v.kept hk⟩
theorem Laid4.tabs {S : Nat → Prop} {w : World} {tb : Nat} {id : Int} {R1 R2 R3 : List Rfc} {K1 : List Pr} (h : Laid4 S w tb (tab4 id R1 R2 R3 K1)) (n : Nat) (hn : n ≤ 4) (cap : Nat) : TabsAt true 3 (fun g => g = tb) S w (.slice (some ⟨tb, 0, none⟩) n cap) (tabs4 n id R1 R2 R3 K1) := by
  refine ⟨_, cap, by rw [tabs4_length], by rw [tabs4_length]; omega, .inr ⟨tb, 0, rfl, h.lt, rfl, fun i hi => ?_⟩⟩
  rw [tabs4_get]
  rw [tabs4_length] at hi
  exact h.at_ i (by omega)
theorem column_calls (n : ByteArray) (k : Int) (w : World) : Calls Tryd.prog 20 #[.string n, .int .i64 k] w fun e w' => e = .returned (.agg #[.string n, .int .i64 k]) ∧ Gro w w' := by
  go_enter Tryd.func20, Tryd.ntmps20
  go_wp2
  exact bodyPost_ret (v := .agg #[.string n, .int .i64 k]) (by simp [results, Tryd.results20, go_sem]; try rfl) rfl ⟨rfl, by repeat (first | exact Gro.refl _ | refine Gro.setCell ?_ (by simp) _ | refine Gro.alloc ?_ _)⟩
end Go.Proofs.YtpmlhgakbpfgmaaDoor
