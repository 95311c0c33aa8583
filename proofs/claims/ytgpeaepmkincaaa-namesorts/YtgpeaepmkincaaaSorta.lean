/-
  The contract of Sort of package name, whatever the number of keys.
-/
import Derived.Test.YtgpeaepmkincaaaCompa
import Derived.Test.YtgpeaepmkincaaaRise
namespace Go.Proofs.Ytgpeaepmkincaaa
open Go.RowKit Go.Sort Go.Lib

theorem size_putCells (enc : Value → Value) (off : Nat) (d c : Array Value) : (putCells enc off d c).size = c.size := by
  unfold putCells; simp

theorem own_sorted {w1 : World} {base g cap n : Nat} {cur : Array Value} {os : Array Obj} (d d' : Array (ByteArray × ByteArray)) (hb : base ≤ g) (hg : g < w1.heap.size) (hheap : w1.heap[g]? = some (.cells cur 26 (0, 0)))
    (hcap : d.size ≤ cap) (hm : cap ≤ maxLen) (hsz : cur.size = cap * 2) (hH : HoldsK encKey 2 w1 g 0 d) (hd : d'.size = d.size) :
    Own (sortWorldK encKey 2 w1 g 0 n d' os) base (.slice (some ⟨g, 0, none⟩) d'.size cap) d'.toList := by
  have hH2 : HoldsK encKey 2 (sortWorldK encKey 2 w1 g 0 n d' os) g 0 d' :=
    holdsK_grow encKey 2 _ os g 0 _ (by simpa [putRowK] using hg) (holdsK_putRowK encKey 2 (Sort.ahead w1 n) g 0 _ _ (holdsK_ahead encKey 2 w1 n g 0 _ hH) hd)
  have hh : (sortWorldK encKey 2 w1 g 0 n d' os).heap[g]? = some (.cells (putCells id 0 (flatK encKey 2 d') cur) 26 (0, 0)) := by
    simp only [sortWorldK, grow, putRowK, putRow, mapBlock, Sort.ahead]
    rw [Array.getElem?_append_left (by simpa using hg), Array.getElem?_modify, if_pos rfl, hheap]
    rfl
  refine ⟨cellsL_length _, .inr ⟨g, cap, _, by simp, hb, hh, by simp; omega, hm, by rw [size_putCells, hsz], ?_⟩⟩
  apply List.ext_getElem?
  intro j
  by_cases hj : j < d'.size * 2
  · rw [List.getElem?_take_of_lt (by simpa using hj)]
    have h1 := (hH2 j (by simpa using hj)).1
    simp only [World.cell?, hh, Nat.zero_add] at h1
    rw [get_flatK _ _ _ _ hj] at h1
    have h2 := flat_get d'.toList j (by simpa using hj)
    have he : d'.toList[j / 2]! = d'[j / 2]! := by
      rw [getElem!_pos d' (j / 2) (by omega), getElem!_pos d'.toList (j / 2) (by simp; omega)]; simp
    rw [he] at h2
    have h3 : (putCells id 0 (flatK encKey 2 d') cur)[j]? = some (encKey d'[j / 2]!)[j % 2]! := h1
    rw [Array.getElem?_toList, h3]
    exact h2.symm
  · rw [List.getElem?_eq_none (by rw [List.length_take]; simp; omega), List.getElem?_eq_none (by rw [cellsL_length]; simp; omega)]

set_option maxHeartbeats 800000 in
theorem sort_any (b off c : Nat) (d : List (ByteArray × ByteArray)) (w : World) (hk : KeysAt w b off d) (hbytes : d.length * 32 ≤ 140737488355328) :
    Calls Try.prog 25 #[.slice (some ⟨b, off, none⟩) d.length c] w fun e w' =>
      ∃ v r, e = .returned v ∧ Rises r ∧ (∀ x, x ∈ r ↔ x ∈ d) ∧ r.length ≤ d.length ∧ Own w' w.heap.size v r ∧ v ≠ .slice none 0 0 ∧ Below w.heap.size w w' := by
  have hnews : ∀ j u, (cellsL d)[j]? = some u → w.cell? ⟨b, off + j, none⟩ = some u := by
    intro j u hu
    have hj : j < d.length * 2 := by
      rw [← cellsL_length]
      rcases Nat.lt_or_ge j (cellsL d).length with h | h
      · exact h
      · rw [List.getElem?_eq_none h] at hu; cases hu
    obtain ⟨h1, h2⟩ := hk (j / 2) (by omega)
    obtain ⟨e1, e2⟩ := cellsL_get d (j / 2) (by omega)
    rcases Nat.mod_two_eq_zero_or_one j with hm | hm
    · have ej : j / 2 * 2 = j := by omega
      rw [ej] at h1 e1
      rw [e1] at hu
      rw [h1, ← hu]
    · have ej : j / 2 * 2 + 1 = j := by omega
      rw [Nat.add_assoc, ej] at h2
      rw [ej] at e2
      rw [e2] at hu
      rw [h2, ← hu]
  have hcl := clone_any b off d.length c (cellsL d) w (cellsL_length d) (by unfold maxLen; omega) hbytes hnews (cellsL_one d)
  have H := hid hcl
  clear hnews hk hcl
  go_enter Try.func25, Try.ntmps25
  go_wp2_with fail
  refine H.out.mono ?_
  rintro e w1 ⟨v', rfl, ⟨hl, hor⟩, hne, hq1⟩
  rcases hor with ⟨h1, h2⟩ | ⟨g1, cap, cur, rfl, hbase, hheap, hcap, hcapm, hsz, htake⟩
  · exact absurd h1 hne
  have hg1 : g1 < w1.heap.size := by
    rcases Nat.lt_or_ge g1 w1.heap.size with h | h
    · exact h
    · rw [Array.getElem?_eq_none h] at hheap; cases hheap
  have hH : HoldsK encKey 2 w1 g1 0 d.toArray := holds_of_heap d.toArray hheap (by simpa [cellsK, cellsL] using htake)
  have hcon := sortfunc_any g1 0 cap d.toArray w1 hH hg1 (by simp; omega)
  rw [show d.toArray.size = d.length by simp] at hcon
  have HC := hid hcon
  have HH := hid (And.intro hH (And.intro hheap hsz))
  clear hcon hH hl hne hheap htake hsz
  go_wp2_with fail
  refine HC.out.mono ?_
  rintro e w2 ⟨rfl, d', n, os, hperm, hsorted, hw2⟩
  obtain ⟨hr, hmem, hds⟩ := sorted_compact d d' hperm hsorted
  have ho2 : Own w2 w.heap.size (.slice (some ⟨g1, 0, none⟩) d'.size cap) d'.toList := by
    rw [hw2]
    exact own_sorted d.toArray d' hbase hg1 HH.out.2.1 (by simpa using hcap) hcapm HH.out.2.2 HH.out.1 (by simpa using hds)
  have hq2 : Below w.heap.size w w2 := by
    rw [hw2]; exact below_sortWorld hq1 hq1.size g1 0 n _ os hbase
  have hcomp := compact_own g1 cap w.heap.size d'.toList w2 (by rw [Array.length_toList]; exact ho2) (by rw [Array.length_toList]; omega) hcapm
  rw [Array.length_toList, hds] at hcomp
  have HCC := hid hcomp
  have HR := hid (And.intro hr hmem)
  have hlen : (compact d'.toList).length ≤ d.length := by
    have h5 : (compact d'.toList).length ≤ d'.size := by
      unfold compact compactUpTo
      rw [List.length_map]
      exact Nat.le_trans (List.length_filter_le _ _) (by simp)
    exact Nat.le_trans h5 (Nat.le_of_eq hds)
  have HLEN := hid hlen
  clear hw2 hperm hsorted hcomp hr hmem ho2 hlen hds
  go_wp2_with fail
  refine HCC.out.mono ?_
  rintro e w3 ⟨rfl, ho3, hq3⟩
  go_wp2_with fail
  go_ret
  exact ⟨_, _, rfl, HR.out.1, HR.out.2, HLEN.out, ho3, by simp, hq2.trans (hq3.mono hbase)⟩

end Go.Proofs.Ytgpeaepmkincaaa
