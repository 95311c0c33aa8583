/-
  The contracts of byName, and of slices.SortStableFunc over it where there are fewer than 20 fields.
-/
import Derived.Test.YtmjchokacmbkoabDoorStbb
import Derived.Test.YtmjchokacmbkoabDoorOrd
import Derived.Test.YtmjchokacmbkoabDoorDec2
import Derived.Shelf.SlSortCmp.KitK
namespace Go.Proofs.YtmjchokacmbkoabDoor
open Go.RowKit Go.Sort Go.Lib

def cmpF (x y : Fx) : Int := Lib.compareBytes x.name.data.toList y.name.data.toList
theorem ltF (x y : Fx) : ltOf cmpF x y = decide (Lib.compareBytes x.name.data.toList y.name.data.toList < 0) := rfl

theorem swoF : SWO (ltOf cmpF) where
  irrefl x := by rw [ltF, (cb_zero _ _).2 rfl]; rfl
  trans x y z h1 h2 := by
    rw [ltF, decide_eq_true_iff] at *
    exact cb_lt_trans _ _ _ h1 h2
  ntrans x y z h1 h2 := by
    rw [ltF, decide_eq_false_iff_not] at *
    intro h
    have n1 := cb_neg x.name.data.toList y.name.data.toList
    have n2 := cb_neg y.name.data.toList z.name.data.toList
    rcases cb_range y.name.data.toList x.name.data.toList with h3 | h3 | h3
    · have h4 := cb_lt_trans _ _ _ (show Lib.compareBytes y.name.data.toList x.name.data.toList < 0 by omega) h
      exact h2 h4
    · have e := (cb_zero _ _).1 h3
      rw [e] at h2
      exact h2 h
    · omega

theorem ltF_ne (x y : Fx) (h : ltOf cmpF x y = true) : x.name ≠ y.name := by
  rw [ltF, decide_eq_true_iff] at h
  intro e
  rw [e, cb_self] at h
  omega

set_option maxHeartbeats 1000000 in
theorem byName_any (x y : Fx) (w : World) : Calls Tryd.prog 46 #[x.val, y.val] w fun e w' => e = .returned (.int .i64 (cmpF x y)) ∧ Grown w w' := by
  obtain ⟨nm, p, cap, ts⟩ := x
  obtain ⟨nm', p', cap', ts'⟩ := y
  simp only [Fx.val, encX, Fx.sl]
  have HC : Hid (cmpF ⟨nm, p, cap, ts⟩ ⟨nm', p', cap', ts'⟩ = Lib.compareBytes nm.data.toList nm'.data.toList) := rfl
  go_enter Tryd.func46, Tryd.ntmps46
  go_wp2_with (first | (go_at_call 63; refine (Tryd.strings_Compare _ _ _).mono ?_; rintro e w1 ⟨rfl, rfl⟩))
  go_ret
  exact ⟨ret_int HC.out.symm, ((Grown.refl _).alloc _).alloc _⟩

theorem cmpLaysF (blk off size : Nat) (w : World) : CmpLays Tryd.prog 46 #[] encX 2 cmpF blk off size w :=
  fun _ _ _ _ x y => byName_any x y _

theorem enters_byName : ∀ args w, (callFunc 46 args).run Tryd.prog w = .ok (.enter 46 args) w := enters_of Tryd.func46 (by kernel_rfl) rfl

theorem encX_one (x : Fx) : ∀ v ∈ encX x, v.oneCell' = true := fun v hv => by simp [encX] at hv; rcases hv with rfl | rfl <;> rfl

theorem ins_any (blk off cap a b : Nat) (d : Array Fx) (w : World) (hH : HoldsK encX 2 w blk off d) (hblk : blk < w.heap.size) (hab : a ≤ b) (hb : b ≤ d.size) (hsz : d.size < 4611686018427387904) :
    Calls Tryd.prog 75 #[.slice (some ⟨blk, off, none⟩) d.size cap, .int .i64 a, .int .i64 b, .func (.func 46) #[] #[]] w fun e w' =>
      e = .returned (.tuple #[]) ∧ ∃ n os, w' = sortWorldK encX 2 w blk off n (Sort.insertionSort (ltOf cmpF) d a b) os :=
  AnyQ.insertionSortCmpFunc Tryd.insFld 2 Tryd.isAgg30 Tryd.sizeOf30 encX (fun _ => rfl) encX_one cmpF 46 #[] blk off cap a b d w enters_byName (cmpLaysF blk off d.size w) hH hblk hab hb hsz

/-- What a stable sort leaves. -/
def Sorts (w : World) (blk off : Nat) (d : Array Fx) (w' : World) : Prop :=
  ∃ d' n os, PermIn 0 d.size d d' ∧ SortedIn (ltOf cmpF) 0 d.size d' ∧ Stab Fx.name d d' ∧ w' = sortWorldK encX 2 w blk off n d' os

set_option maxHeartbeats 2000000 in
set_option maxRecDepth 100000 in
theorem stable_small (blk off cap : Nat) (d : Array Fx) (w : World) (hH : HoldsK encX 2 w blk off d) (hblk : blk < w.heap.size) (h20 : d.size < 20) :
    Calls Tryd.prog 62 #[.slice (some ⟨blk, off, none⟩) d.size cap, .int .i64 d.size, .func (.func 46) #[] #[]] w fun e w' => e = .returned (.tuple #[]) ∧ Sorts w blk off d w' := by
  have HI := hid (ins_any blk off cap 0 d.size d w hH hblk (Nat.zero_le _) (Nat.le_refl _) (by omega))
  have HP := hid (insertionSort_holds swoF d 0 d.size (Nat.zero_le _) (Nat.le_refl _))
  have HS := hid (insertionSort_stab (K := Fx.name) ltF_ne d 0 d.size (Nat.le_refl _))
  have hz1 : ¬ (20 : Int) ≤ (d.size : Int) := by omega
  have hz2 : ¬ (20 : Int) < (d.size : Int) := by omega
  clear hH
  go_enter Tryd.func62, Tryd.ntmps62
  go_wp2_with fail
  refine wp_loop_rounds 1 ?_
  rw [rounds_succ]
  go_wp2_with (first | (go_at_call 75; refine HI.out.mono ?_; rintro e w1 ⟨rfl, n, os, hw⟩; have HW := hid hw; clear hw))
  refine wp_loop_rounds 1 ?_
  rw [rounds_succ]
  go_wp2_with fail
  go_end0
  exact ⟨rfl, _, n, os, HP.out.1, HP.out.2, HS.out, HW.out⟩

set_option maxHeartbeats 2000000 in
set_option maxRecDepth 100000 in
theorem ins_none (p : Option Addr) (cap : Nat) (fv : Value) (w : World) :
    Calls Tryd.prog 75 #[.slice p 0 cap, .int .i64 0, .int .i64 0, fv] w fun e w' => e = .returned (.tuple #[]) ∧ w' = w := by
  go_enter Tryd.func75, Tryd.ntmps75
  go_wp2_with fail
  refine wp_loop_rounds 1 ?_
  rw [rounds_succ]
  go_wp2_with fail
  go_end0
  exact ⟨rfl, rfl⟩

set_option maxHeartbeats 2000000 in
set_option maxRecDepth 100000 in
theorem stable_none (p : Option Addr) (cap : Nat) (fv : Value) (w : World) :
    Calls Tryd.prog 62 #[.slice p 0 cap, .int .i64 0, fv] w fun e w' => e = .returned (.tuple #[]) ∧ w' = w := by
  go_enter Tryd.func62, Tryd.ntmps62
  go_wp2_with fail
  refine wp_loop_rounds 1 ?_
  rw [rounds_succ]
  go_wp2_with (first | (go_at_call 75; refine (ins_none _ _ _ _).mono ?_; rintro e w1 ⟨rfl, rfl⟩))
  refine wp_loop_rounds 1 ?_
  rw [rounds_succ]
  go_wp2_with fail
  go_end0
  exact ⟨rfl, rfl⟩

set_option maxHeartbeats 1000000 in
theorem sort_none (p : Option Addr) (cap : Nat) (fv : Value) (w : World) :
    Calls Tryd.prog 45 #[.slice p 0 cap, fv] w fun e w' => e = .returned (.tuple #[]) ∧ w' = w := by
  go_enter Tryd.func45, Tryd.ntmps45
  go_wp2_with (first | (go_at_call 62; refine (stable_none _ _ _ _).mono ?_; rintro e w1 ⟨rfl, rfl⟩))
  go_end0
  exact ⟨rfl, rfl⟩

set_option maxHeartbeats 1000000 in
theorem sort_small (blk off cap : Nat) (d : Array Fx) (w : World) (hH : HoldsK encX 2 w blk off d) (hblk : blk < w.heap.size) (h20 : d.size < 20) :
    Calls Tryd.prog 45 #[.slice (some ⟨blk, off, none⟩) d.size cap, .func (.func 46) #[] #[]] w fun e w' => e = .returned (.tuple #[]) ∧ Sorts w blk off d w' := by
  have HI := hid (stable_small blk off cap d w hH hblk h20)
  clear hH
  go_enter Tryd.func45, Tryd.ntmps45
  go_wp2_with (first | (go_at_call 62; refine HI.out.mono ?_; rintro e w1 ⟨rfl, hs⟩))
  go_end0
  exact ⟨rfl, hs⟩

end Go.Proofs.YtmjchokacmbkoabDoor
