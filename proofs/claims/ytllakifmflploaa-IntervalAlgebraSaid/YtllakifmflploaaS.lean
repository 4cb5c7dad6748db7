/- The sort of rows by value.CompareRows. -/
import Derived.Test.YtllakifmflploaaC
import Derived.Test.YtllakifmflploaaD
import Derived.Test.YtllakifmflploaaShelf
import Derived.Laws.CopyOwn
set_option linter.unusedSimpArgs false
set_option linter.unusedVariables false
namespace Go.Proofs.Ytllakifmflploaa
open Go.RowKit

/-- A slice value that reads as a list of rows. -/
structure RowsIn (w : World) (b off : Nat) (rows : List (List V)) : Prop where
  blk : b < w.heap.size
  at_ : ∀ i (h : i < rows.length), ∃ u, w.cell? ⟨b, off + i, none⟩ = some u ∧ RowAt w u rows[i]
def RowsAt (w : World) (v : Value) (rows : List (List V)) : Prop :=
  ∃ (a : Option Addr) (cap : Nat), v = .slice a rows.length cap ∧ rows.length ≤ 4398046511104 ∧ (rows = [] ∨ ∃ b off, a = some ⟨b, off, none⟩ ∧ RowsIn w b off rows)
theorem RowsIn.later {w w' : World} {b off : Nat} {rows : List (List V)} (h : RowsIn w b off rows) (hw : Below w.heap.size w w') : RowsIn w' b off rows :=
  ⟨Nat.lt_of_lt_of_le h.blk hw.size, fun i hi => let ⟨u, h1, h2⟩ := h.at_ i hi; ⟨u, (hw.cell (p := ⟨b, off + i, none⟩) h.blk).trans h1, h2.later hw⟩⟩
theorem RowsAt.later {w w' : World} {v : Value} {rows : List (List V)} (h : RowsAt w v rows) (hw : Below w.heap.size w w') : RowsAt w' v rows := by
  obtain ⟨a, cap, h1, h2, h3⟩ := h
  exact ⟨a, cap, h1, h2, h3.imp id fun ⟨b, off, h4, h5⟩ => ⟨b, off, h4, h5.later hw⟩⟩

theorem below_sortWorld {α : Type} [Inhabited α] (enc : α → Value) (w : World) (g off m : Nat) (d : Array α) (os : Array Obj) (hg : g < w.heap.size) : Below g w (sortWorld enc w g off m d os) := by
  refine ⟨rfl, rfl, rfl, ?_, fun k hk => ?_⟩
  · simp [sortWorld, Sort.putRow, Sort.mapBlock, Sort.ahead, Sort.grow]
  · simp only [sortWorld, Sort.putRow, Sort.mapBlock, Sort.ahead, Sort.grow]
    rw [Array.getElem?_append]
    split
    · rw [Array.getElem?_modify, if_neg (by omega)]
    · rename_i h
      simp at h
      omega

def cfR (rows : List (List V)) (x y : Nat) : Int := cmpR (rows.getD x []) (rows.getD y [])
theorem swo_cfR (rows : List (List V)) : Sort.SWO (ltOf (cfR rows)) where
  irrefl x := by unfold ltOf cfR; rw [goodR.self]; rfl
  trans x y z h1 h2 := by
    have k1 : cmpR (rows.getD x []) (rows.getD y []) < 0 := of_decide_eq_true h1
    have k2 : cmpR (rows.getD y []) (rows.getD z []) < 0 := of_decide_eq_true h2
    exact decide_eq_true (goodR.lt_le k1 (Int.le_of_lt k2))
  ntrans x y z h1 h2 := by
    have k1 : ¬ cmpR (rows.getD x []) (rows.getD y []) < 0 := of_decide_eq_false h1
    have k2 : ¬ cmpR (rows.getD y []) (rows.getD z []) < 0 := of_decide_eq_false h2
    refine decide_eq_false (?_ : ¬ cmpR (rows.getD x []) (rows.getD z []) < 0)
    have n1 := goodR.neg (rows.getD x []) (rows.getD y [])
    have n2 := goodR.neg (rows.getD y []) (rows.getD z [])
    have n3 := goodR.neg (rows.getD x []) (rows.getD z [])
    have := goodR.trans (rows.getD z []) (rows.getD y []) (rows.getD x []) (by omega) (by omega)
    omega

theorem map_getD_range {α β : Type} (l : List α) (d : α) (f : α → β) : (List.range l.length).map (fun i => f (l.getD i d)) = l.map f := by
  apply List.ext_getElem
  · simp
  · intro i h1 h2
    simp at h1 h2
    simp [h2]

set_option maxHeartbeats 1000000 in
/-- The sort of rows: the slice holds them in ascending order. -/
theorem sort_calls (w W0 : World) (g : Nat) (us : List Value) (rows : List (List V)) (hl : us.length = rows.length) (hn : rows.length ≤ 4398046511104)
    (hh : W0.heap[g]? = some (.cells us.toArray 25 (0, 0))) (hg : w.heap.size ≤ g) (hb : Below w.heap.size w W0) (hr : ∀ i (h : i < rows.length), RowAt w (us.getD i (.slice none 0 0)) rows[i]) :
    Calls Try.prog 68 #[.slice (some ⟨g, 0, none⟩) us.length us.length, .func (.func 69) #[] #[]] W0 fun e w' =>
      e = .returned (.tuple #[]) ∧ ∃ s, s.length = rows.length ∧ Srt s ∧ (∀ r, r ∈ s ↔ r ∈ rows) ∧ RowsIn w' g 0 s ∧ Below w.heap.size w w' := by
  have hglt : g < W0.heap.size := (Array.getElem?_eq_some_iff.1 hh).1
  have hall : ∀ i, RowAt w (us.getD i (.slice none 0 0)) (rows.getD i []) := fun i => by
    by_cases hi : i < rows.length
    · rw [List.getD_eq_getElem?_getD (l := rows), List.getElem?_eq_getElem hi]; exact hr i hi
    · rw [List.getD_eq_getElem?_getD, List.getElem?_eq_none (by omega), List.getD_eq_getElem?_getD, List.getElem?_eq_none (by omega)]
      exact ⟨none, 0, rfl, by simp, .inl rfl⟩
  have h1 : OneCell (fun i : Nat => us.getD i (.slice none 0 0)) := fun i => by
    obtain ⟨a, cap, h, _⟩ := hall i
    simp only at h ⊢
    rw [h]; rfl
  have eg : ∀ args w, (callFunc 69 args).run Try.prog w = .ok (.enter 69 args) w := enters_of Try.func69 (by kernel_rfl) rfl
  have hsz : (Array.range us.length).size = us.length := by simp
  have hcmp : CmpLays1 Try.prog 69 #[] (fun i : Nat => us.getD i (.slice none 0 0)) (cfR rows) g 0 (Array.range us.length).size W0 := by
    intro m os dk hdk x y
    have hbw : Below w.heap.size w (sortWorld (fun i : Nat => us.getD i (.slice none 0 0)) W0 g 0 m dk os) := hb.trans ((below_sortWorld _ W0 g 0 m dk os hglt).mono hg)
    exact (compareRows_calls _ _ _ _ _ ((hall x).later hbw) ((hall y).later hbw)).mono fun _ _ ⟨he, hg'⟩ => ⟨he, hg'.grow⟩
  have hH : Sort.Holds (fun i : Nat => us.getD i (.slice none 0 0)) W0 g 0 (Array.range us.length) := by
    intro j hj
    simp at hj
    refine ⟨?_, by simp [World.frozen?, hh]⟩
    simp [World.cell?, hh, hj]
  have hcon := Any.slices_SortFunc Try.sortRow (fun i : Nat => us.getD i (.slice none 0 0)) h1 (cfR rows) (swo_cfR rows) 69 #[] g 0 us.length (Array.range us.length) W0 eg hcmp hH hglt (by rw [hsz]; omega)
  rw [hsz] at hcon
  refine Calls.mono (show Calls Try.prog 68 _ _ _ from hcon) ?_
  rintro e w' ⟨he, d', n, os, ⟨hps, _, hperm⟩, hsorted, hw⟩
  have hd' : d'.size = us.length := by rw [hps, hsz]
  have hpl : d'.toList.Perm (List.range us.length) := by
    have := hperm
    rw [Array.extract_eq_self_of_le (by omega), Array.extract_eq_self_of_le (by simp)] at this
    simpa using this
  refine ⟨he, d'.toList.map (fun i => rows.getD i []), ?_, ?_, ?_, ⟨?_, ?_⟩, ?_⟩
  · simp [hd', hl]
  · intro i j hi hj hij
    simp [hd'] at hi hj
    have := hsorted i j (Nat.zero_le _) hij hj
    rw [getElem!_pos d' j (by omega), getElem!_pos d' i (by omega)] at this
    have this : ¬ cmpR (rows.getD d'[j] []) (rows.getD d'[i] []) < 0 := of_decide_eq_false this
    have n1 := goodR.neg (rows.getD d'[i] []) (rows.getD d'[j] [])
    simp only [List.getElem_map, Array.getElem_toList]
    omega
  · intro r
    have h2 := (hpl.map (fun i => rows.getD i [])).mem_iff (a := r)
    rw [h2, hl]
    have := map_getD_range rows [] (fun x => x)
    simp only [List.map_id'] at this
    rw [this]
  · rw [hw]; simp [sortWorld, Sort.putRow, Sort.mapBlock, Sort.ahead]; omega
  · intro i hi
    simp [hd'] at hi
    have hc := (SW.c1 (W := w') (dk := d') (d0 := Array.range us.length) ⟨n, os, hw⟩ ⟨h1, hH, hglt⟩ (by rw [hd', hsz]) i (by omega))
    rw [getElem!_pos d' i (by omega)] at hc
    refine ⟨_, hc, ?_⟩
    simp only [List.getElem_map, Array.getElem_toList]
    refine (hall _).later ?_
    rw [hw]
    exact hb.trans ((below_sortWorld _ W0 g 0 n d' os hglt).mono hg)
  · rw [hw]
    exact hb.trans ((below_sortWorld _ W0 g 0 n d' os hglt).mono hg)
end Go.Proofs.Ytllakifmflploaa
