/-
  The contract of isPlain: the table of plain bytes, read from the variable that the row lists.
-/
import Derived.Test.YtmjchokacmbkoabDoorTac
namespace Go.Proofs.YtmjchokacmbkoabDoor
open Go.RowKit

/-- The table's runs. -/
def plainRuns : List (Int × Int) := [(97, 122), (65, 90), (48, 57), (45, 45), (46, 46), (95, 95), (124, 124), (42, 42), (64, 64), (47, 47), (58, 58), (43, 43), (44, 44)]
def plainLo (i : Nat) : Int := (plainRuns.getD i (0, 0)).1
def plainHi (i : Nat) : Int := (plainRuns.getD i (0, 0)).2
def plainCells : Array Value := #[.int .u8 97, .int .u8 122, .int .u8 65, .int .u8 90, .int .u8 48, .int .u8 57, .int .u8 45, .int .u8 45, .int .u8 46, .int .u8 46, .int .u8 95, .int .u8 95, .int .u8 124, .int .u8 124,
  .int .u8 42, .int .u8 42, .int .u8 64, .int .u8 64, .int .u8 47, .int .u8 47, .int .u8 58, .int .u8 58, .int .u8 43, .int .u8 43, .int .u8 44, .int .u8 44]
def plainB (n : Int) : Bool := plainRuns.any fun r => decide (r.1 ≤ n) && decide (n ≤ r.2)

/-- The variable holds the table. -/
def PlainAt (w : World) : Prop := ∃ t fr, w.heap[0]? = some (.cells plainCells t fr)

theorem PlainAt.lt {w : World} (h : PlainAt w) : 0 < w.heap.size := by
  obtain ⟨t, fr, h⟩ := h
  exact (Array.getElem?_eq_some_iff.1 h).1

theorem PlainAt.kept {w w' : World} {n : Nat} (h : PlainAt w) (hn : 0 < n) (hb : Below n w w') : PlainAt w' := by
  obtain ⟨t, fr, h⟩ := h
  exact ⟨t, fr, (hb.block _ hn).trans h⟩

theorem PlainAt.on {w w' : World} (h : PlainAt w) (hb : Below w.heap.size w w') : PlainAt w' := h.kept h.lt hb

theorem plain_index (i : Nat) (hi : i < 13) (w : World) : Sem.run Tryd.prog (Instr.index 91 (.agg plainCells) (.int .i64 i)) w = .ok (.agg #[.int .u8 (plainLo i), .int .u8 (plainHi i)]) w := by
  have h : i = 0 ∨ i = 1 ∨ i = 2 ∨ i = 3 ∨ i = 4 ∨ i = 5 ∨ i = 6 ∨ i = 7 ∨ i = 8 ∨ i = 9 ∨ i = 10 ∨ i = 11 ∨ i = 12 := by omega
  have z : (Go.sizeOf 90).run Tryd.prog w = .ok 2 w := Tryd.sizeOf90 w
  rcases h with rfl | rfl | rfl | rfl | rfl | rfl | rfl | rfl | rfl | rfl | rfl | rfl | rfl <;>
    simp [Instr.index, run_underlying Tryd.underlying91, asIntOf, part, z, plainCells, plainLo, plainHi, plainRuns, go_sem]

theorem plain_at (n : Int) (i : Nat) (hi : i < 13) (h1 : plainLo i ≤ n) (h2 : n ≤ plainHi i) : plainB n = true := by
  unfold plainB
  rw [List.any_eq_true]
  refine ⟨plainRuns.getD i (0, 0), ?_, ?_⟩
  · rw [List.getD_eq_getElem?_getD, List.getElem?_eq_getElem (show i < plainRuns.length from hi)]
    exact List.getElem_mem _
  · unfold plainLo at h1
    unfold plainHi at h2
    rw [Bool.and_eq_true, decide_eq_true_eq, decide_eq_true_eq]
    exact ⟨h1, h2⟩

theorem plain_no (n : Int) (h : ∀ i, i < 13 → ¬ (plainLo i ≤ n ∧ n ≤ plainHi i)) : plainB n = false := by
  rw [Bool.eq_false_iff]
  intro ht
  unfold plainB at ht
  rw [List.any_eq_true] at ht
  obtain ⟨r, hr, h1⟩ := ht
  obtain ⟨i, hi, rfl⟩ := List.mem_iff_getElem.1 hr
  refine h i hi ?_
  unfold plainLo plainHi
  rw [List.getD_eq_getElem?_getD, List.getElem?_eq_getElem hi]
  simpa using h1

set_option maxHeartbeats 4000000 in
set_option maxRecDepth 100000 in
theorem isPlain_any (n : Int) (w : World) (hp : PlainAt w) : Calls Tryd.prog 41 #[.int .u8 n] w fun e w' => e = .returned (.bool (plainB n)) ∧ Below w.heap.size w w' := by
  obtain ⟨t, fr, hrow⟩ := hp
  have hin : (Tryd.prog.info? 91).map (·.size) = some plainCells.size := by kernel_rfl
  have HX : Hid (∀ i : Nat, i < 13 → ∀ w, Sem.run Tryd.prog (Instr.index 91 (.agg plainCells) (.int .i64 i)) w = .ok (.agg #[.int .u8 (plainLo i), .int .u8 (plainHi i)]) w) := plain_index
  generalize plainCells = tb at hrow hin HX
  have HR := hid hrow
  have HI := hid hin
  clear hrow hin
  go_enter Tryd.func41, Tryd.ntmps41
  go_wp2_with (refine wpList_load_row rfl 91 _ rfl 0 rfl _ _ _ _ HR.out Tryd.underlying91 rfl HI.out ?_)
  go_loopg [6] 13 (fun g vi wr => ∃ i : Nat, vi = .int .i64 i ∧ i ≤ 13 ∧ 13 - i ≤ g ∧ Below w.heap.size w wr ∧ Hid (∀ j, j < i → ¬ (plainLo j ≤ n ∧ n ≤ plainHi j)))
  case atStart => exact ⟨0, rfl, by omega, by omega, Below.refl _ _, fun j h => by omega⟩
  case round =>
    obtain ⟨i, rfl, hi, hg, hb, HJ⟩ := hrel
    by_cases hlt : i < 13
    · have hltz : (i : Int) < 13 := by omega
      have hx := HX.out i hlt
      go_wp2_with fail
      · go_ret
        exact ⟨ret_bool (plain_at n i hlt (by assumption) (by assumption)).symm, hb.alloc hb.size _⟩
      · go_roundg (13 - (i + 1))
        case measure => omega
        refine ⟨i + 1, by go_num, by omega, by omega, hb.alloc hb.size _, ?_⟩
        rename_i h1 h2
        intro j hj
        by_cases e : j = i
        · subst e; omega
        · exact HJ.out j (by omega)
      · go_roundg (13 - (i + 1))
        case measure => omega
        refine ⟨i + 1, by go_num, by omega, by omega, hb.alloc hb.size _, ?_⟩
        rename_i h1
        intro j hj
        by_cases e : j = i
        · subst e; omega
        · exact HJ.out j (by omega)
    · have hltz : ¬ (i : Int) < 13 := by omega
      go_wp2_with fail
      go_ret
      exact ⟨ret_bool (plain_no n fun j hj => HJ.out j (by omega)).symm, hb⟩

end Go.Proofs.YtmjchokacmbkoabDoor
