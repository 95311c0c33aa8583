/-
  The contracts of slices.Clone of texts, and of Texts.
-/
import Derived.Test.YtmjchokacmbkoabDoorEqu
namespace Go.Proofs.YtmjchokacmbkoabDoor
open Go.RowKit

theorem cloneT_any (p : Option Addr) (cap : Nat) (ts : List ByteArray) (w : World) (h : TxtAt w p ts) (hs : ts.length * 16 ≤ 140737488355328) :
    Calls Tryd.prog 29 #[.slice p ts.length cap] w fun e w' => ∃ v, e = .returned v ∧ OwnT w.heap.size w' v ts ∧ Below w.heap.size w w' := by
  rcases h with rfl | ⟨b, off, rfl, hc⟩
  · cases p with
    | none =>
      refine (Tryd.slices_Clone_string_nil 0 cap w).mono ?_
      rintro e w' ⟨rfl, rfl⟩
      exact ⟨_, rfl, World.ownsRow_nil _ _ _ _, Below.refl _ _⟩
    | some a =>
      refine (Tryd.slices_Clone_string_zero a cap w).mono ?_
      rintro e w' ⟨v, rfl, ho, _, hb⟩
      exact ⟨_, rfl, ho, hb⟩
  · refine (Tryd.slices_Clone_string b off ts.length cap ts w (Nat.le_refl _) hs (fun j hj => ?_)).mono ?_
    · rw [hc j hj, List.getD_eq_getElem?_getD, List.getElem?_eq_getElem hj]; rfl
    · rintro e w' ⟨v, rfl, ho, _, hb⟩
      rw [List.take_length] at ho
      exact ⟨_, rfl, ho, hb⟩

/-- The texts of the first field of that name. -/
def textsOf (fs : List Fld) (n : ByteArray) : List ByteArray := ((fs.find? fun f => decide (f.1 = n)).map (·.2)).getD []

theorem textsOf_at (fs : List Fld) (n : ByteArray) (i : Nat) (hi : i < fs.length) (hn : ∀ j (h : j < i), (fs[j]'(by omega)).1 ≠ n) (he : fs[i].1 = n) : textsOf fs n = fs[i].2 := by
  unfold textsOf
  have : fs.find? (fun f => decide (f.1 = n)) = some fs[i] := by
    rw [List.find?_eq_some_iff_getElem]
    refine ⟨by simpa using he, i, hi, rfl, fun j hj => ?_⟩
    simpa using hn j hj
  rw [this]; rfl

theorem textsOf_no (fs : List Fld) (n : ByteArray) (hn : ∀ j (h : j < fs.length), fs[j].1 ≠ n) : textsOf fs n = [] := by
  unfold textsOf
  have : fs.find? (fun f => decide (f.1 = n)) = none := by
    rw [List.find?_eq_none]
    intro f hf
    obtain ⟨j, hj, rfl⟩ := List.mem_iff_getElem.1 hf
    simpa using hn j hj
  rw [this]; rfl

def TxPost (w : World) (ts : List ByteArray) (e : Ending) (w' : World) : Prop := (∃ v, e = .returned v ∧ OwnT w.heap.size w' v ts) ∧ Below w.heap.size w w'

set_option maxHeartbeats 4000000 in
set_option maxRecDepth 100000 in
theorem texts_any (v : Value) (nm : ByteArray) (d : List Fx) (w : World) (hv : IsXs w v d) (hf : FitX d) (h16 : ∀ x ∈ d, x.txt.length * 16 ≤ 140737488355328) :
    Calls Tryd.prog 10 #[v, .string nm] w fun e w' => TxPost w (textsOf (d.map Fx.fld) nm) e w' := by
  obtain ⟨p, cap, rfl, hd, ht⟩ := hv
  have HT := hid ht
  have HD := hid hd
  have H16 := hid h16
  have hl := hf.1
  unfold maxLen at hl
  clear ht hd hf h16
  go_enter Tryd.func10, Tryd.ntmps10
  go_wp2_with fail
  go_loopg [9] d.length (fun g vi wr => ∃ i : Nat, vi = .int .i64 i ∧ i ≤ d.length ∧ d.length - i ≤ g ∧ Grown w wr ∧ Hid (∀ j (h : j < d.length), j < i → d[j].name ≠ nm))
  case atStart => exact ⟨0, rfl, by omega, by omega, Grown.refl _, fun j _ h => by omega⟩
  case round =>
    obtain ⟨i, rfl, hi, hg, hb, HJ⟩ := hrel
    by_cases hlt : i < d.length
    · have hltz : (i : Int) < (d.length : Int) := by omega
      have hiz : (0 : Int) ≤ i := by omega
      obtain ⟨b, off, rfl, hxs⟩ : ∃ b off, p = some ⟨b, off, none⟩ ∧ XsAt w b off d := by
        rcases HD.out with h | h
        · subst h; simp at hlt
        · exact h
      obtain ⟨c0, c1⟩ := hxs.kept hb.below i hlt
      have hxi : (d[i]).at w := HT.out _ (List.getElem_mem hlt)
      have hs16 := H16.out _ (List.getElem_mem hlt)
      have hyes : d[i].name = nm → textsOf (d.map Fx.fld) nm = d[i].txt := fun e => by
        have := textsOf_at (d.map Fx.fld) nm i (by rw [List.length_map]; exact hlt) (fun j hj => by simp only [List.getElem_map]; exact HJ.out j (by omega) hj) (by simp only [List.getElem_map]; exact e)
        simpa [Fx.fld] using this
      have hnx : d[i].name ≠ nm → ∀ j (h : j < d.length), j < i + 1 → d[j].name ≠ nm := fun e j h hj => by
        by_cases ej : j = i
        · subst ej; exact e
        · exact HJ.out j h (by omega)
      obtain ⟨x, hx⟩ : ∃ x, d[i] = x := ⟨_, rfl⟩
      rw [hx] at c0 c1 hxi hs16 hyes hnx
      have HXI := hid hxi
      have HYES := hid hyes
      have HNX := hid hnx
      clear hxs hxi hx hyes hnx
      unfold Fx.sl at c1
      have hgW : Grown w (wr.alloc (.cells #[.string x.name, .slice x.p x.txt.length x.cap] 30)) := hb.alloc _
      have HGW := hid hgW
      have HCL := hid (cloneT_any x.p x.cap x.txt _ (HXI.out.kept hgW.below) hs16)
      clear hgW
      cases hq : (x.name.toList == nm.toList) with
      | true =>
        have hq2 : x.name = nm := by rw [toList_eq, decide_eq_true_eq] at hq; exact hq
        have HQ := hid (HYES.out hq2)
        clear hq2
        go_wp2_with (first | (go_at_call 29; refine HCL.out.mono ?_; rintro e w2 ⟨u, rfl, ho, hb2⟩))
        go_ret
        refine ⟨⟨_, rfl, ?_⟩, HGW.out.below.trans (hb2.mono HGW.out.below.size)⟩
        rw [HQ.out]
        exact own_weak ho HGW.out.below.size
      | false =>
        have hq2 : x.name ≠ nm := by rw [toList_eq, decide_eq_false_iff_not] at hq; exact hq
        have HQ := hid (HNX.out hq2)
        clear hq2
        go_wp2_with fail
        go_roundg (d.length - (i + 1))
        case measure => omega
        exact ⟨i + 1, by go_num, by omega, by omega, HGW.out, HQ.out⟩
    · have hltz : ¬ (i : Int) < (d.length : Int) := by omega
      have H0 : Hid (textsOf (d.map Fx.fld) nm = []) := textsOf_no _ _ (fun j hj => by
        rw [List.length_map] at hj
        simp only [List.getElem_map]
        exact HJ.out j hj (by omega))
      go_wp2_with fail
      go_ret
      refine ⟨⟨_, rfl, ?_⟩, hb.below⟩
      rw [H0.out]
      exact World.ownsRow_nil _ _ _ _

end Go.Proofs.YtmjchokacmbkoabDoor
