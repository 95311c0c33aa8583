/-
  Texts of this claim, one behind the other: Pc5 Ws9 Su0 Su1 Su2 Su3 Su4 Wsa.
-/
import Derived.Test.YtjehjjpdicimhaaPb
import Derived.Test.YtjehjjpdicimhaaPc
import Derived.Deep.RegionHeld3
import Derived.Test.YtjehjjpdicimhaaPa
import Derived.Shelf.SlSortCmp.KitK
import Derived.Sort.WalkB2
import Derived.Sort.WalkB12
import Derived.Deep.LoopGhost
import Derived.Deep.CutRange
/-
  The contracts of holds and Match.
-/
namespace Go.Proofs.Ytjehjjpdicimhaa
open Go.RowKit Go.Lib

/-- A term in a block of its own. -/
def BoxM (w : World) (g : Nat) (x : Tm) : Prop := w.heap[g]? = some (.cells #[.string x.1, .int .i64 x.2.1, .string x.2.2] 95 (0, 0))
theorem BoxM.cells {w : World} {g : Nat} {x : Tm} (h : BoxM w g x) : w.cell? ⟨g, 0, none⟩ = some (.string x.1) ∧ w.cell? ⟨g, 1, none⟩ = some (.int .i64 x.2.1) ∧ w.cell? ⟨g, 2, none⟩ = some (.string x.2.2) := by
  rw [Lib.cell_of_heap h, Lib.cell_of_heap h, Lib.cell_of_heap h]
  exact ⟨rfl, rfl, rfl⟩
theorem BoxM.lt {w : World} {g : Nat} {x : Tm} (h : BoxM w g x) : g < w.heap.size := (Array.getElem?_eq_some_iff.1 h).1
theorem BoxM.on {w w' : World} {g : Nat} {x : Tm} (h : BoxM w g x) (hb : Below w.heap.size w w') : BoxM w' g x := (hb.block g h.lt).trans h
theorem boxM_new (w : World) (x : Tm) : BoxM (w.alloc (.cells #[.string x.1, .int .i64 x.2.1, .string x.2.2] 95)) w.heap.size x := heap_alloc_new w _

/-- What a term asks of a text. -/
def meetsT (x : Tm) (t : ByteArray) : Bool :=
  if x.2.1 = 1 ∨ x.2.1 = 2 then tokenB x.2.2 t else if x.2.1 = 3 then beginsB t x.2.2 else if x.2.1 = 4 then ltB t x.2.2 else if x.2.1 = 5 then ltB x.2.2 t else true

theorem begins_prefix (s t : ByteArray) : Lib.hasPrefix s.data.toList t.data.toList = beginsB s t := by
  unfold beginsB
  rw [toList_eq]
  by_cases h : t.size ≤ s.size
  · rw [decide_eq_true h, Bool.true_and]
    rw [Bool.eq_iff_iff, decide_eq_true_iff]
    have e : (s.extract 0 t.size).data.toList = s.data.toList.take t.size := by simp
    constructor
    · intro hp
      refine ba_eq ?_
      rw [e]
      have := List.prefix_iff_eq_take.1 (List.isPrefixOf_iff_prefix.1 hp)
      simpa using this.symm
    · intro he
      refine List.isPrefixOf_iff_prefix.2 ?_
      have : t.data.toList = s.data.toList.take t.size := by rw [← e, he]
      rw [this]
      exact List.take_prefix _ _
  · rw [decide_eq_false h, Bool.false_and, Bool.eq_false_iff]
    intro hp
    have := (List.isPrefixOf_iff_prefix.1 hp).length_le
    simp at this
    exact h this

/-- A text that a machine can hold. -/
def Bt : Type := { t : ByteArray // t.size ≤ maxLen }

theorem hasT_any (f : ByteArray → Bool) (k : Nat) (lb : Array Value) (ent : ∀ args w, (callFunc k args).run Try.prog w = .ok (.enter k args) w) (p : Option Addr) (cap : Nat) (ts : List ByteArray) (w : World) (h : TxtAt w p ts) (hf : FitT ts)
    (hk : ∀ (W : World) (t : ByteArray), Below w.heap.size w W → t.size ≤ maxLen → Calls Try.prog k (#[.string t] ++ lb) W fun e w' => e = .returned (.bool (f t)) ∧ ∃ q, w' = W.drewN q) :
    Calls Try.prog 49 #[.slice p ts.length cap, .func (.func k) #[] lb] w fun e w' => e = .returned (.bool (ts.any f)) ∧ ∃ q, w' = w.drewN q := by
  rcases h with rfl | ⟨b, off, rfl, hc⟩
  · refine (Try.slices_ContainsFunc_empty (α := ByteArray) p cap _ w).mono ?_
    rintro e w' ⟨rfl, rfl⟩
    exact ⟨rfl, 0, rfl⟩
  · have hl := hf.1
    unfold maxLen at hl
    obtain ⟨zs, hzs⟩ : ∃ zs : List Bt, zs.map (·.1) = ts := ⟨ts.attachWith _ hf.2, List.attachWith_map_subtype_val ..⟩
    have hzl : zs.length = ts.length := by rw [← hzs, List.length_map]
    letI : Inhabited Bt := ⟨⟨⟨#[]⟩, Nat.zero_le _⟩⟩
    refine (Try.slices_ContainsFunc (fun t : Bt => Value.string t.1) (fun t => f t.1) k lb ent b off ts.length cap zs w (fun W x hb => hk W x.1 hb x.2) (by omega) (by omega) ?_).mono ?_
    · intro j hj
      rw [getElem!_pos zs j hj]
      have e : (zs[j]).1 = ts[j]'(by omega) := by subst hzs; simp
      rw [e]
      exact hc j (by omega)
    · rintro e w' ⟨rfl, hq⟩
      refine ⟨ret_bool ?_, hq⟩
      rw [List.take_of_length_le (by omega), ← hzs]
      simp [List.any_map, Function.comp_def]

theorem enters_h1 : ∀ args w, (callFunc 74 args).run Try.prog w = .ok (.enter 74 args) w := enters_of Try.func74 (by kernel_rfl) rfl
theorem enters_h2 : ∀ args w, (callFunc 76 args).run Try.prog w = .ok (.enter 76 args) w := enters_of Try.func76 (by kernel_rfl) rfl
theorem enters_h3 : ∀ args w, (callFunc 78 args).run Try.prog w = .ok (.enter 78 args) w := enters_of Try.func78 (by kernel_rfl) rfl
theorem enters_h4 : ∀ args w, (callFunc 79 args).run Try.prog w = .ok (.enter 79 args) w := enters_of Try.func79 (by kernel_rfl) rfl
theorem enters_h5 : ∀ args w, (callFunc 80 args).run Try.prog w = .ok (.enter 80 args) w := enters_of Try.func80 (by kernel_rfl) rfl

set_option maxHeartbeats 1000000 in
theorem h1_any (g : Nat) (x : Tm) (t : ByteArray) (W : World) (hb : BoxM W g x) (hx : x.2.2.size ≤ maxLen) (ht : t.size ≤ maxLen) :
    Calls Try.prog 74 #[.string t, .pointer (some ⟨g, 0, none⟩)] W fun e w' => e = .returned (.bool (tokenB x.2.2 t)) ∧ ∃ q, w' = W.drewN q := by
  obtain ⟨_, _, c2⟩ := hb.cells
  have HX := hid hx
  have HT := hid ht
  clear hb hx ht
  go_enter Try.func74, Try.ntmps74
  go_wp2_with (go_at_call 75; refine (Token_any _ _ _ HX.out HT.out).mono ?_; rintro e w1 ⟨rfl, n, rfl⟩)
  go_ret
  exact ⟨rfl, n, rfl⟩

set_option maxHeartbeats 1000000 in
theorem h2_any (g : Nat) (x : Tm) (t : ByteArray) (W : World) (hb : BoxM W g x) :
    Calls Try.prog 76 #[.string t, .pointer (some ⟨g, 0, none⟩)] W fun e w' => e = .returned (.bool (beginsB t x.2.2)) ∧ ∃ q, w' = W.drewN q := by
  obtain ⟨_, _, c2⟩ := hb.cells
  have HE := hid (begins_prefix t x.2.2)
  clear hb
  go_enter Try.func76, Try.ntmps76
  go_wp2_with (go_at_call 77; refine (Try.strings_HasPrefix _ _ _).mono ?_; rintro e w1 ⟨rfl, rfl⟩)
  go_ret
  exact ⟨ret_bool HE.out, 0, rfl⟩

set_option maxHeartbeats 1000000 in
theorem h3_any (g : Nat) (x : Tm) (t : ByteArray) (W : World) (hb : BoxM W g x) :
    Calls Try.prog 78 #[.string t, .pointer (some ⟨g, 0, none⟩)] W fun e w' => e = .returned (.bool (ltB t x.2.2)) ∧ ∃ q, w' = W.drewN q := by
  obtain ⟨_, _, c2⟩ := hb.cells
  have HE := hid (sless_of (rfl : ltB t x.2.2 = _))
  clear hb
  go_enter Try.func78, Try.ntmps78
  go_wp2_with fail
  go_ret
  exact ⟨ret_bool HE.out, 0, rfl⟩

set_option maxHeartbeats 1000000 in
theorem h4_any (g : Nat) (x : Tm) (t : ByteArray) (W : World) (hb : BoxM W g x) :
    Calls Try.prog 79 #[.string t, .pointer (some ⟨g, 0, none⟩)] W fun e w' => e = .returned (.bool (ltB x.2.2 t)) ∧ ∃ q, w' = W.drewN q := by
  obtain ⟨_, _, c2⟩ := hb.cells
  have HE := hid (gtr_of t x.2.2)
  have HL := hid (sless_of (rfl : ltB t x.2.2 = _))
  clear hb
  go_enter Try.func79, Try.ntmps79
  go_wp2_with fail
  go_ret
  refine ⟨ret_bool ?_, 0, rfl⟩
  rw [← HE.out, HL.out]

set_option maxHeartbeats 1000000 in
theorem h5_any (t : ByteArray) (W : World) :
    Calls Try.prog 80 #[.string t] W fun e w' => e = .returned (.bool true) ∧ ∃ q, w' = W.drewN q := by
  go_enter Try.func80, Try.ntmps80
  go_wp2_with fail
  go_ret
  exact ⟨rfl, 0, rfl⟩

theorem any_true (ts : List ByteArray) : ts.any (fun _ => true) = decide (0 < ts.length) := by
  cases ts <;> simp

set_option maxHeartbeats 4000000 in
set_option maxRecDepth 100000 in
theorem pholds_any (x : Tm) (p : Option Addr) (cap : Nat) (ts : List ByteArray) (w : World) (h : TxtAt w p ts) (hf : FitT ts) (hx : x.2.2.size ≤ maxLen) :
    Calls Try.prog 55 #[.agg #[.string x.1, .int .i64 x.2.1, .string x.2.2], .slice p ts.length cap] w fun e w' => e = .returned (.bool (holdsT x ts)) ∧ Grown w w' := by
  obtain ⟨W, hW⟩ : ∃ W, w.alloc (.cells #[.string x.1, .int .i64 x.2.1, .string x.2.2] 95) = W := ⟨_, rfl⟩
  have hbw : Below w.heap.size w W := by rw [← hW]; exact (Below.refl _ _).alloc (Nat.le_refl _) _
  have HG : Hid (Grown w W) := by rw [← hW]; exact (Grown.refl _).alloc _
  have hbox : BoxM W w.heap.size x := by rw [← hW]; exact boxM_new w x
  have hmf : ∀ (fn : Fn) (first cap : Array Value) (w : World), (Instr.makeFunc fn first cap).run Try.prog w = .ok (.func fn first cap) w := fun _ _ _ _ => rfl
  have H1 := hid (hasT_any (tokenB x.2.2) 74 #[.pointer (some ⟨w.heap.size, 0, none⟩)] enters_h1 p cap ts W (h.kept hbw) hf (fun V t hb ht => h1_any w.heap.size x t V (hbox.on hb) hx ht))
  have H2 := hid (hasT_any (fun t => beginsB t x.2.2) 76 #[.pointer (some ⟨w.heap.size, 0, none⟩)] enters_h2 p cap ts W (h.kept hbw) hf (fun V t hb ht => h2_any w.heap.size x t V (hbox.on hb)))
  have H3 := hid (hasT_any (fun t => ltB t x.2.2) 78 #[.pointer (some ⟨w.heap.size, 0, none⟩)] enters_h3 p cap ts W (h.kept hbw) hf (fun V t hb ht => h3_any w.heap.size x t V (hbox.on hb)))
  have H4 := hid (hasT_any (fun t => ltB x.2.2 t) 79 #[.pointer (some ⟨w.heap.size, 0, none⟩)] enters_h4 p cap ts W (h.kept hbw) hf (fun V t hb ht => h4_any w.heap.size x t V (hbox.on hb)))
  have H5 := hid (hasT_any (fun _ => true) 80 #[] enters_h5 p cap ts W (h.kept hbw) hf (fun V t hb ht => h5_any t V))
  obtain ⟨c0, c1, c2⟩ := hbox.cells
  obtain ⟨r, hr⟩ : ∃ r, holdsT x ts = r := ⟨_, rfl⟩
  rw [hr]
  have HR := hid hr
  obtain ⟨xf, xo, xt⟩ := x
  simp only at hW c0 c1 c2 H1 H2 H3 H4
  unfold holdsT at HR
  simp only at HR
  rw [any_true] at H5
  obtain ⟨B1, hB1⟩ : ∃ B, ts.any (tokenB xt) = B := ⟨_, rfl⟩
  rw [hB1] at H1 HR
  obtain ⟨B2, hB2⟩ : ∃ B, ts.any (fun t => beginsB t xt) = B := ⟨_, rfl⟩
  rw [hB2] at H2 HR
  obtain ⟨B3, hB3⟩ : ∃ B, ts.any (fun t => ltB t xt) = B := ⟨_, rfl⟩
  rw [hB3] at H3 HR
  obtain ⟨B4, hB4⟩ : ∃ B, ts.any (fun t => ltB xt t) = B := ⟨_, rfl⟩
  rw [hB4] at H4 HR
  have e7 : decide (ts.length = 0) = !decide (0 < ts.length) := by cases ts <;> simp
  rw [e7] at HR
  obtain ⟨B5, hB5⟩ : ∃ B, decide (0 < ts.length) = B := ⟨_, rfl⟩
  rw [hB5] at H5 HR
  clear hr h hf hx hbox hbw hB1 hB2 hB3 hB4 hB5 e7
  by_cases hr7 : 1 ≤ xo ∧ xo ≤ 7
  · rcases (show xo = 1 ∨ xo = 2 ∨ xo = 3 ∨ xo = 4 ∨ xo = 5 ∨ xo = 6 ∨ xo = 7 by omega) with rfl | rfl | rfl | rfl | rfl | rfl | rfl
    · have HV : Hid (B1 = r) := by have := HR.out; show B1 = r; simpa using this
      go_enter Try.func55, Try.ntmps55
      go_wp2_with (go_at_call 49; refine H1.out.mono ?_; rintro e w1 ⟨rfl, n, rfl⟩)
      go_ret
      refine ⟨ret_bool ?_, HG.out.drewN n⟩
      rw [← HV.out]
    · have HV : Hid ((!B1) = r) := by have := HR.out; show (!B1) = r; simpa using this
      go_enter Try.func55, Try.ntmps55
      go_wp2_with (go_at_call 49; refine H1.out.mono ?_; rintro e w1 ⟨rfl, n, rfl⟩)
      go_ret
      refine ⟨ret_bool ?_, HG.out.drewN n⟩
      rw [← HV.out]
    · have HV : Hid (B2 = r) := by have := HR.out; show B2 = r; simpa using this
      go_enter Try.func55, Try.ntmps55
      go_wp2_with (go_at_call 49; refine H2.out.mono ?_; rintro e w1 ⟨rfl, n, rfl⟩)
      go_ret
      refine ⟨ret_bool ?_, HG.out.drewN n⟩
      rw [← HV.out]
    · have HV : Hid (B3 = r) := by have := HR.out; show B3 = r; simpa using this
      go_enter Try.func55, Try.ntmps55
      go_wp2_with (go_at_call 49; refine H3.out.mono ?_; rintro e w1 ⟨rfl, n, rfl⟩)
      go_ret
      refine ⟨ret_bool ?_, HG.out.drewN n⟩
      rw [← HV.out]
    · have HV : Hid (B4 = r) := by have := HR.out; show B4 = r; simpa using this
      go_enter Try.func55, Try.ntmps55
      go_wp2_with (go_at_call 49; refine H4.out.mono ?_; rintro e w1 ⟨rfl, n, rfl⟩)
      go_ret
      refine ⟨ret_bool ?_, HG.out.drewN n⟩
      rw [← HV.out]
    · have HV : Hid (B5 = r) := by have := HR.out; show B5 = r; simpa using this
      go_enter Try.func55, Try.ntmps55
      go_wp2_with (go_at_call 49; refine H5.out.mono ?_; rintro e w1 ⟨rfl, n, rfl⟩)
      go_ret
      refine ⟨ret_bool ?_, HG.out.drewN n⟩
      rw [← HV.out]
    · have HV : Hid ((!B5) = r) := by have := HR.out; show (!B5) = r; simpa using this
      go_enter Try.func55, Try.ntmps55
      go_wp2_with (go_at_call 49; refine H5.out.mono ?_; rintro e w1 ⟨rfl, n, rfl⟩)
      go_ret
      refine ⟨ret_bool ?_, HG.out.drewN n⟩
      rw [← HV.out]
  · have HV : Hid (false = r) := by
      have := HR.out
      rw [if_neg (by omega), if_neg (by omega), if_neg (by omega), if_neg (by omega), if_neg (by omega), if_neg (by omega), if_neg (by omega)] at this
      exact this
    have n1 : (xo == 1) = false := by simp; omega
    have n2 : (xo == 2) = false := by simp; omega
    have n3 : (xo == 3) = false := by simp; omega
    have n4 : (xo == 4) = false := by simp; omega
    have n5 : (xo == 5) = false := by simp; omega
    have n6 : (xo == 6) = false := by simp; omega
    have n7 : (xo == 7) = false := by simp; omega
    clear hr7
    go_enter Try.func55, Try.ntmps55
    go_wp2_with fail
    go_ret
    exact ⟨ret_bool HV.out, HG.out⟩

set_option maxHeartbeats 8000000 in
set_option maxRecDepth 100000 in
theorem pmatch_any (u v : Value) (p : List Tm) (d : List Fx) (w : World) (hu : KM.Is w u p) (hp : FitM p) (hv : IsXs w v d) (hf : FitX d) (h16 : ∀ x ∈ d, x.txt.length * 16 ≤ 140737488355328) :
    Calls Try.prog 41 #[u, v] w fun e w' => e = .returned (.bool (matchM p (d.map Fx.fld))) ∧ Below w.heap.size w w' := by
  obtain ⟨q, cap, rfl, hd⟩ := hu
  have hl := hp.1
  unfold maxLen at hl
  have HD := hid hd
  have HV := hid hv
  have HF := hid hf
  have HP := hid hp
  have H16 := hid h16
  obtain ⟨r, hr⟩ : ∃ r, matchM p (d.map Fx.fld) = r := ⟨_, rfl⟩
  rw [hr]
  have HR := hid hr
  clear hd hv hf hp h16 hr
  go_enter Try.func41, Try.ntmps41
  go_wp2_with fail
  go_loopg [9] p.length (fun g vi wr => ∃ i : Nat, vi = .int .i64 i ∧ i ≤ p.length ∧ p.length - i ≤ g ∧ Below w.heap.size w wr ∧ Hid (∀ j (h : j < p.length), j < i → holdsM p[j] (d.map Fx.fld) = true))
  case atStart => exact ⟨0, rfl, by omega, by omega, Below.refl _ _, fun j _ h => by omega⟩
  case round =>
    obtain ⟨i, rfl, hi, hg, hb, HJ⟩ := hrel
    by_cases hlt : i < p.length
    · have hltz : (i : Int) < (p.length : Int) := by omega
      have hiz : (0 : Int) ≤ i := by omega
      obtain ⟨b, off, rfl, hat⟩ : ∃ b off, q = some ⟨b, off, none⟩ ∧ KM.At w b off p := by
        rcases HD.out with h | h
        · rw [h] at hlt; simp at hlt
        · exact h
      obtain ⟨c0, c1, c2⟩ := km_cells (Kind.at_kept hat hb) i hlt
      have hfx := HP.out.2 _ (List.getElem_mem hlt)
      have hno : holdsM p[i] (d.map Fx.fld) = false → r = false := fun h => by
        rw [← HR.out]
        unfold matchM
        rw [List.all_eq_false]
        exact ⟨_, List.getElem_mem hlt, by rw [h]; simp⟩
      have hyes : holdsM p[i] (d.map Fx.fld) = true → ∀ j (h : j < p.length), j < i + 1 → holdsM p[j] (d.map Fx.fld) = true := fun e j h hj => by
        by_cases ej : j = i
        · subst ej; exact e
        · exact HJ.out j h (by omega)
      obtain ⟨x, hx⟩ : ∃ x, p[i] = x := ⟨_, rfl⟩
      rw [hx] at c0 c1 c2 hfx hno hyes
      have HNO := hid hno
      have HYES := hid hyes
      have HB := hid hb
      have hsz := hb.size
      obtain ⟨xf, xo, xt⟩ := x
      simp only at c0 c1 c2 hfx
      clear hat hx hno hyes hb
      go_wp2_with fail
      obtain ⟨F, hF⟩ : ∃ F, wr.heap.size = F := ⟨_, rfl⟩
      obtain ⟨W, hW⟩ : ∃ W, wr.alloc (.cells #[.string xf, .int .i64 xo, .string xt] 95) = W := ⟨_, rfl⟩
      have hbox : BoxM W F (xf, xo, xt) := by rw [← hW, ← hF]; exact boxM_new wr (xf, xo, xt)
      have hbW : Below w.heap.size w W := by rw [← hW]; exact HB.out.alloc hsz _
      have HBW := hid hbW
      have HT := hid (texts_any v xf d W.drew (HV.out.kept hbW.drew) HF.out H16.out)
      have hFl : F < W.heap.size := hbox.lt
      have q0 : W.drew.cell? ⟨F, 0, none⟩ = some (.string xf) ∧ W.drew.cell? ⟨F, 1, none⟩ = some (.int .i64 xo) ∧ W.drew.cell? ⟨F, 2, none⟩ = some (.string xt) := hbox.cells
      have KS : Hid (∀ w' : World, Below W.drew.heap.size W.drew w' → w'.cell? ⟨F, 0, none⟩ = some (.string xf) ∧ w'.cell? ⟨F, 1, none⟩ = some (.int .i64 xo) ∧ w'.cell? ⟨F, 2, none⟩ = some (.string xt)) := fun w' h => (BoxM.on (w := W.drew) hbox h).cells
      have HTF : Hid (FitT (textsOf (d.map Fx.fld) xf)) := by
        show FitT _
        unfold textsOf
        cases hfd : (d.map Fx.fld).find? (fun f => decide (f.1 = xf)) with
        | none => exact ⟨Nat.zero_le _, fun t ht => by simp at ht⟩
        | some f =>
          obtain ⟨y, hy, rfl⟩ := List.mem_map.1 (List.mem_of_find?_eq_some hfd)
          exact (HF.out.2 y hy).2
      obtain ⟨ts, hts⟩ : ∃ ts, textsOf (d.map Fx.fld) xf = ts := ⟨_, rfl⟩
      rw [hts] at HT HTF
      have HXT : Hid (holdsM (xf, xo, xt) (d.map Fx.fld) = holdsT (xf, xo, xt) ts) := by show _ = _; unfold holdsM; rw [hts]
      clear hts hbox hbW
      rw [hF, hW]
      clear hF hW
      cases hB : holdsT (xf, xo, xt) ts with
      | true =>
        have HX : Hid (holdsM (xf, xo, xt) (d.map Fx.fld) = true) := by show _ = _; rw [HXT.out, hB]
        have HHD : Hid (∀ (W5 : World) p5 c5, TxtAt W5 p5 ts → Calls Try.prog 55 #[.agg #[.string xf, .int .i64 xo, .string xt], .slice p5 ts.length c5] W5 fun e w' => e = .returned (.bool true) ∧ Grown W5 w') := fun W5 p5 c5 h => by
          have := pholds_any (xf, xo, xt) p5 c5 ts W5 h HTF.out hfx.2.1
          rwa [hB] at this
        clear hB
        go_region_held3 (fun w' => w'.cell? ⟨F, 0, none⟩ = some (.string xf) ∧ w'.cell? ⟨F, 1, none⟩ = some (.int .i64 xo) ∧ w'.cell? ⟨F, 2, none⟩ = some (.string xt))
          (first | exact q0 | exact q5 | exact q6)
          (first
            | (go_at_call 56; refine HT.out.mono ?_; rintro e w5 ⟨⟨sv, rfl, hot5⟩, hb5⟩; obtain ⟨pc, capc, rfl⟩ := own_slice hot5; have q5 := KS.out w5 hb5; have htx5 := OwnT.txtAt hot5)
            | (go_at_call 55; refine (HHD.out _ _ _ htx5).mono ?_; rintro e w6 ⟨rfl, hg6⟩; have q6 := KS.out w6 (hb5.trans (hg6.below.mono hb5.size))))
        have hb6 : Below w.heap.size w w6 := (HBW.out.drew.trans (hb5.mono (by simpa using HBW.out.size))).trans (hg6.below.mono (Nat.le_trans (by simpa using HBW.out.size) hb5.size))
        have HB6 := hid hb6
        clear hb6 hg6 hb5 hot5 htx5 q5 q6 q0
        go_wp2_with fail
        go_roundg (p.length - (i + 1))
        case measure => omega
        exact ⟨i + 1, by go_num, by omega, by omega, HB6.out, HYES.out HX.out⟩
      | false =>
        have HX : Hid (holdsM (xf, xo, xt) (d.map Fx.fld) = false) := by show _ = _; rw [HXT.out, hB]
        have HHD : Hid (∀ (W5 : World) p5 c5, TxtAt W5 p5 ts → Calls Try.prog 55 #[.agg #[.string xf, .int .i64 xo, .string xt], .slice p5 ts.length c5] W5 fun e w' => e = .returned (.bool false) ∧ Grown W5 w') := fun W5 p5 c5 h => by
          have := pholds_any (xf, xo, xt) p5 c5 ts W5 h HTF.out hfx.2.1
          rwa [hB] at this
        clear hB
        go_region_held3 (fun w' => w'.cell? ⟨F, 0, none⟩ = some (.string xf) ∧ w'.cell? ⟨F, 1, none⟩ = some (.int .i64 xo) ∧ w'.cell? ⟨F, 2, none⟩ = some (.string xt))
          (first | exact q0 | exact q5 | exact q6)
          (first
            | (go_at_call 56; refine HT.out.mono ?_; rintro e w5 ⟨⟨sv, rfl, hot5⟩, hb5⟩; obtain ⟨pc, capc, rfl⟩ := own_slice hot5; have q5 := KS.out w5 hb5; have htx5 := OwnT.txtAt hot5)
            | (go_at_call 55; refine (HHD.out _ _ _ htx5).mono ?_; rintro e w6 ⟨rfl, hg6⟩; have q6 := KS.out w6 (hb5.trans (hg6.below.mono hb5.size))))
        have hb6 : Below w.heap.size w w6 := (HBW.out.drew.trans (hb5.mono (by simpa using HBW.out.size))).trans (hg6.below.mono (Nat.le_trans (by simpa using HBW.out.size) hb5.size))
        have HB6 := hid hb6
        clear hb6 hg6 hb5 hot5 htx5 q5 q6 q0
        go_wp2_with fail
        go_ret
        exact ⟨ret_bool (HNO.out HX.out).symm, HB6.out⟩
    · have hltz : ¬ (i : Int) < (p.length : Int) := by omega
      have H0 : Hid (r = true) := by
        show _ = _
        rw [← HR.out]
        unfold matchM
        rw [List.all_eq_true]
        intro x hx
        obtain ⟨j, hj, rfl⟩ := List.mem_iff_getElem.1 hx
        exact HJ.out j hj (by omega)
      go_wp2_with fail
      go_ret
      exact ⟨ret_bool H0.out.symm, hb⟩

end Go.Proofs.Ytjehjjpdicimhaa

/-
  What is written, live, of a type, and taken by a predicate (stage 11): the walk of taken.
-/
namespace Go.Proofs.Ytjehjjpdicimhaa
open Go.RowKit Go.Maps

/-! ## What is taken, key by key -/

def hitK (L : List RowW) (typ : ByteArray) (mt : List Fld → Bool) (k : Ky) : Option Fnd := (getW L k).bind fun r => hitW typ mt (k, r)

theorem hitW_key {typ : ByteArray} {mt : List Fld → Bool} {k : Ky} {r : Wr} {f : Fnd} (h : hitW typ mt (k, r) = some f) : f.1 = k := by
  unfold hitW at h
  split at h
  · split at h
    · injection h with h
      rw [← h]
    · cases h
  · cases h
theorem hitK_key {L : List RowW} {typ : ByteArray} {mt : List Fld → Bool} {k : Ky} {f : Fnd} (h : hitK L typ mt k = some f) : f.1 = k := by
  unfold hitK at h
  cases e : getW L k with
  | none => rw [e] at h; cases h
  | some r => rw [e] at h; exact hitW_key h

theorem filterMap_sameW {α β : Type} {f g : α → Option β} : ∀ {l : List α}, (∀ x ∈ l, f x = g x) → l.filterMap f = l.filterMap g
  | [], _ => rfl
  | x :: l, h => by rw [List.filterMap_cons, List.filterMap_cons, h x (by simp), filterMap_sameW (l := l) fun y hy => h y (List.mem_cons_of_mem _ hy)]

theorem hitsW_keys {L : List RowW} (h : OkW L) (typ : ByteArray) (mt : List Fld → Bool) : hitsW L typ mt = (keysW L).filterMap (hitK L typ mt) := by
  unfold hitsW keysW
  rw [List.filterMap_map]
  refine filterMap_sameW fun y hy => ?_
  show hitW typ mt y = (getW L y.1).bind fun r => hitW typ mt (y.1, r)
  rw [getW_of h.rise hy]
  rfl

/-- Of each key there is at most the one that it is taken with. -/
theorem hitsK_one {L : List RowW} {typ : ByteArray} {mt : List Fld → Bool} (k : Ky) : ∀ {ks : List Ky}, ks.Nodup → (k ∉ ks → hitK L typ mt k = none) → (ks.filterMap (hitK L typ mt)).filter (fun y => decide (y.1 = k)) = (hitK L typ mt k).toList
  | [], _, h => by rw [h (by simp)]; rfl
  | x :: ks, hn, h => by
    obtain ⟨h1, h2⟩ := List.nodup_cons.1 hn
    by_cases e : x = k
    · subst e
      have h3 : (ks.filterMap (hitK L typ mt)).filter (fun y => decide (y.1 = x)) = [] := List.filter_eq_nil_iff.2 fun y hy => by
        obtain ⟨z, hz, hy⟩ := List.mem_filterMap.1 hy
        rw [hitK_key hy]
        simp only [decide_eq_true_eq]
        rintro rfl
        exact h1 hz
      rw [List.filterMap_cons]
      cases hx : hitK L typ mt x with
      | none => exact h3
      | some f =>
        simp only [List.filter_cons, hitK_key hx, decide_true, if_true, h3]
        rfl
    · have ih := hitsK_one (L := L) (typ := typ) (mt := mt) k h2 fun hk => h (by simp only [List.mem_cons, not_or]; exact ⟨fun e' => e e'.symm, hk⟩)
      rw [List.filterMap_cons]
      cases hx : hitK L typ mt x with
      | none => exact ih
      | some f =>
        have hne : decide (f.1 = k) = false := decide_eq_false (by rw [hitK_key hx]; exact e)
        simp only [List.filter_cons, hne]
        exact ih

theorem hits_any {L : List RowW} (h : OkW L) {typ : ByteArray} {mt : List Fld → Bool} {ks : List Ky} (hn : ks.Nodup) (hall : ∀ k, (getW L k).isSome = true → k ∈ ks) (k : Ky) :
    (ks.filterMap (hitK L typ mt)).filter (fun y => decide (y.1 = k)) = (hitsW L typ mt).filter (fun y => decide (y.1 = k)) := by
  have hno : ∀ {l : List Ky}, (∀ j, (getW L j).isSome = true → j ∈ l) → k ∉ l → hitK L typ mt k = none := fun hl hk => by
    unfold hitK
    cases e : getW L k with
    | none => rfl
    | some r => exact absurd (hl k (by rw [e]; rfl)) hk
  have hkn : (keysW L).Nodup := by
    unfold keysW
    refine List.Pairwise.imp (R := fun a b => ltKy a b = true) (fun {a b} hab e => ?_) (List.pairwise_map.2 h.rise)
    rw [e, totK.irr] at hab
    cases hab
  rw [hitsK_one k hn (hno hall), hitsW_keys h, hitsK_one k hkn (hno fun j hj => (keys_there j).2 hj)]

/-! ## The walk -/

theorem txt_neW {a b : ByteArray} (h : a ≠ b) : (a.toList == b.toList) = false := by
  have := Z.eqK_iff (a, a) (b, a)
  unfold Z.eqK at this
  rw [decide_eq_false (by intro e; injection e with e _; exact h e)] at this
  simpa using this

theorem ownJ_ncG {N : Nat} {W W' : World} {u : Value} {o : List Fx} {row : Option Nat} (h : OwnJ N W u o) (hg : W.grownBy W' row) (hr : ∀ r, row = some r → ∃ ob : Obj, W.heap[r]? = some ob ∧ ob.isCells = false) : OwnJ N W' u o :=
  ownJ_fr h (fr_rowG hg) fun k hk e => by
    obtain ⟨ob, h2, h3⟩ := hr k e
    have : ∃ cs t, W.heap[k]? = some (.cells cs t (0, 0)) := by
      rcases hk with hk | ⟨f, hf, hk⟩
      · obtain ⟨cs, hc⟩ := own_type h.1.1 hk
        exact ⟨cs, _, hc⟩
      · obtain ⟨cs, hc⟩ := own_type (h.1.2 f hf) hk
        exact ⟨cs, _, hc⟩
    obtain ⟨cs, t, h1⟩ := this
    rw [h1] at h2
    injection h2 with h2
    rw [← h2] at h3
    cases h3
theorem TlSt.nc {N : Nat} {W : World} {v : Value} {fs : List Fd} {w w' : World} {r : Nat} (h : TlSt N W v fs w) (hg : w.grownBy w' (some r)) (hr : ∃ ob : Obj, w.heap[r]? = some ob ∧ ob.isCells = false) (hN : N ≤ r) : TlSt N W v fs w' := by
  have hr' : ∀ k, some r = some k → ∃ ob : Obj, w.heap[k]? = some ob ∧ ob.isCells = false := fun k e => by injection e with e; rw [← e]; exact hr
  exact ⟨⟨own_ncG h.row.own hg hr', below_grown h.row.bel hg (fun k e => by injection e with e; omega) h.row.base, Nat.le_trans h.row.base hg.size⟩, fun f hf => ⟨ownJ_ncG (h.val f hf).1 hg hr', (h.val f hf).2⟩, h.apart⟩

/-- What taken has told of the keys that it has seen. -/
structure TkSt (W : World) (m N : Nat) (F : Ky → We) (L : List RowW) (typ : ByteArray) (mt : List Fld → Bool) (seen : List Ky) (cnt : Nat) (v : Value) (fs : List Fd) (w : World) : Prop where
  rng : RangeG MW w m N L.length (fS L F) L.length seen cnt
  tl : TlSt W.heap.size W v fs w
  eq : fs.map Fd.fnd = seen.filterMap (hitK L typ mt)

section
variable {W : World} {m N : Nat} {F : Ky → We} {L : List RowW} {typ : ByteArray} {mt : List Fld → Bool} {seen : List Ky} {cnt : Nat} {v : Value} {fs : List Fd} {w : World}
theorem TkSt.len (h : TkSt W m N F L typ mt seen cnt v fs w) : fs.length ≤ seen.length ∧ seen.length + cnt ≤ L.length := by
  have := congrArg List.length h.eq
  rw [List.length_map] at this
  exact ⟨by rw [this]; exact List.length_filterMap_le _ _, h.rng.nodup.2.2⟩
theorem TkSt.on {w' : World} (h : TkSt W m N F L typ mt seen cnt v fs w) (hb : Below w.heap.size w w') : TkSt W m N F L typ mt seen cnt v fs w' :=
  ⟨h.rng.on (hb.block _ h.rng.map.lt) (hb.block _ h.rng.lt), h.tl.on hb, h.eq⟩
end

/-- What taken answers. -/
def TkPost (W : World) (L : List RowW) (typ : ByteArray) (mt : List Fld → Bool) (e : Ending) (w' : World) : Prop :=
  ∃ (v : Value) (fs : List Fd) (ks : List Ky), e = .returned v ∧ TlSt W.heap.size W v fs w' ∧ fs.map Fd.fnd = ks.filterMap (hitK L typ mt) ∧ ks.Nodup ∧ (∀ k, (getW L k).isSome = true → k ∈ ks) ∧ ks.length ≤ L.length

set_option maxHeartbeats 8000000 in
set_option maxRecDepth 100000 in
theorem taken_any {n0 : Nat} {W : World} {B : Nat → Prop} {g m : Nat} {F : Ky → We} {O : Ky → List Fx} {L : List RowW} (h : PrgU n0 W B g m F O L) (typ : ByteArray) (pa : Option Addr) (pc : Nat) (pt : List Tm) (hp : KM.Is W (.slice pa pt.length pc) pt) (hpf : FitM pt) (hl : L.length ≤ 100000000) :
    Calls Try.prog 27 #[.pointer (some ⟨g, 0, none⟩), .string typ, .slice pa pt.length pc] W fun e w' => TkPost W L typ (matchM pt) e w' := by
  obtain ⟨i0, hi0, hz0, hz1, hz2⟩ := info_parts Try.infoFdS
  have HI0 := hid hi0
  have HAL := hid (allW_is g m W h.cell)
  have HS := hid h
  have HP := hid hp
  have HPF := hid hpf
  obtain ⟨N, hN⟩ : ∃ N, W.heap.size = N := ⟨_, rfl⟩
  have hM := h.map
  have hmN : m < N := by rw [← hN]; exact hM.lt
  obtain ⟨mt, hmt⟩ : ∃ mt, matchM pt = mt := ⟨_, rfl⟩
  rw [hmt]
  have HMT := hid hmt
  clear h hp hpf hi0 hmt
  go_enter Try.func27, Try.ntmps27
  go_wp2_with fail
  refine HAL.out.mono ?_
  rintro e w0 ⟨rfl, rfl⟩
  go_wp2_with (at_range; refine wp_range_G (T := MW) _ rfl _ rfl m L.length (fS L F) L.length rfl hM ?_; intro w1 hr0 hg0 hs0)
  go_frame
  try rw [hN] at hr0
  try rw [hN]
  have HB0 : Below w0.heap.size w0 w1 := by
    have := Fr.of_grown (P := fun _ => False) hg0 fun k hk => by cases hk
    exact this.below (Nat.le_refl _) fun k hk => hk.elim
  have HST0 : Hid (TkSt w0 m N F L typ mt [] L.length (.slice none 0 0) [] w1) := ⟨hr0, TlSt.nil HB0 HB0.size, rfl⟩
  clear hr0 hg0 hs0 hM HB0
  go_loopg [7] L.length (fun gg v7 wr => ∃ (seen : List Ky) (cnt : Nat) (p' : Option Addr) (c' : Nat) (fs : List Fd), v7 = .slice p' fs.length c' ∧ cnt ≤ gg ∧ Hid (TkSt w0 m N F L typ mt seen cnt (.slice p' fs.length c') fs wr))
  case atStart => exact ⟨[], L.length, none, 0, [], rfl, Nat.le_refl _, HST0.out⟩
  case round =>
    clear HST0
    obtain ⟨seen, cnt, p', c', fs, rfl, hgk, HT⟩ := hrel
    have hr := HT.out.rng
    go_wp2_with (at_next; refine wp_next_G (T := MW) _ rfl _ rfl m N L.length (fS L F) L.length seen cnt rfl hr ?_ ?_)
    · intro hall
      have HE : Hid (TkPost w0 L typ mt (.returned (.slice p' fs.length c')) wr) := ⟨_, fs, seen, rfl, HT.out.tl, HT.out.eq, hr.nodup.1, fun k hk => by
        obtain ⟨r, hrr⟩ := Option.isSome_iff_exists.1 hk
        exact hall k.1 k.2 (keyB_fit (HS.out.ok.key _ (getW_mem hrr))) (by rw [fS_some]; exact hk), by have := hr.nodup.2.2; omega⟩
      clear hall hr
      go_wp2_with fail
      go_ret
      exact HE.out
    · intro ka kb e w2 cnt2 hkf hks hfb hr2 hlt hg2 hs2 hen
      have hfb' : fS L F (ka, kb) = some e := hfb
      have hsome : (getW L (ka, kb)).isSome = true := by rw [← fS_some (F := F), hfb']; rfl
      obtain ⟨r, hgr⟩ := Option.isSome_iff_exists.1 hsome
      have hee : e = F (ka, kb) := by
        unfold fS at hfb'
        rw [hgr] at hfb'
        injection hfb' with hfb'
        exact hfb'.symm
      subst hee
      obtain ⟨hlive, hJ, hval⟩ := HS.out.row (ka, kb) r hgr
      obtain ⟨vp, vc, hsl⟩ := ownJ_slice hJ
      have hmay : mayB ((O (ka, kb)).map Fx.fld) = true := by
        rw [hval]
        cases r with
        | none => exact may_nil
        | some v => exact HS.out.ok.may _ (getW_mem hgr) v rfl
      obtain ⟨si, sn, sc, hit⟩ := hr.iter
      have htl2 := HT.out.tl.nc hg2 ⟨_, hit, rfl⟩ (by omega)
      obtain ⟨lv, hlv⟩ : ∃ lv, (F (ka, kb)).live = lv := ⟨_, rfl⟩
      obtain ⟨o, ho⟩ : ∃ o, O (ka, kb) = o := ⟨_, rfl⟩
      rw [ho] at hsl hval hmay hJ
      rw [hlv] at hlive
      have ev : MW.val (F (ka, kb)) = .agg #[.bool lv, .slice vp o.length vc] := by
        show Value.agg #[.bool (F (ka, kb)).live, (F (ka, kb)).sl] = _
        rw [hlv, hsl]
      have ek : MW.key (ka, kb) = .agg #[.string ka, .string kb] := rfl
      rw [ek, ev] at hen ⊢
      have HNX : Hid (∀ W', Below w2.heap.size w2 W' → hitK L typ mt (ka, kb) = none → TkSt w0 m N F L typ mt (seen ++ [(ka, kb)]) cnt2 (.slice p' fs.length c') fs W') := fun W' hb hno => by
        refine ⟨hr2.on (hb.block _ hr2.map.lt) (hb.block _ hr2.lt), htl2.on hb, ?_⟩
        rw [List.filterMap_append, HT.out.eq]
        simp [hno]
      have HIT : Hid (hitK L typ mt (ka, kb) = if lv = true ∧ ka = typ ∧ mt (o.map Fx.fld) = true then some ((ka, kb), ⟨0, 0, 0, true, o.map Fx.fld⟩) else none) := by
        show hitK L typ mt (ka, kb) = _
        unfold hitK hitW
        rw [hgr]
        cases r with
        | none => rw [hlive]; simp
        | some v =>
          rw [hlive]
          have hv : o.map Fx.fld = v := hval
          rw [hv]
          simp
      clear ek ev hfb hfb' hkf hks hsome hgr hlive hval hlv ho hit hr
      obtain ⟨Q, hQ⟩ : ∃ Q, w2.heap.size = Q := ⟨_, rfl⟩
      clear hs2
      have hb3 : Below w2.heap.size w2 ((w2.alloc (.cells #[.string ka, .string kb] 27)).alloc (.cells #[.bool lv, .slice vp o.length vc] 63)) := ((Below.refl _ _).alloc (Nat.le_refl _) _).alloc (by simp) _
      obtain ⟨w3, hw3⟩ : ∃ w3, (w2.alloc (.cells #[.string ka, .string kb] 27)).alloc (.cells #[.bool lv, .slice vp o.length vc] 63) = w3 := ⟨_, rfl⟩
      have hx0 : w3.heap[Q]? = some (.cells #[.string ka, .string kb] 27 (0, 0)) := by rw [← hw3, ← hQ]; exact (Below.heap_alloc _ _ _ (by simp)).trans (heap_alloc_new w2 _)
      have hx1 : w3.heap[Q + 1]? = some (.cells #[.bool lv, .slice vp o.length vc] 63 (0, 0)) := by
        have := heap_alloc_new (w2.alloc (.cells #[.string ka, .string kb] 27)) (.cells #[.bool lv, .slice vp o.length vc] 63)
        rw [World.size_alloc, hQ, hw3] at this
        exact this
      have hs3 : w3.heap.size = Q + 2 := by rw [← hw3, ← hQ]; simp
      rw [hw3] at hb3
      have KB : Hid (∀ W' : World, Below w3.heap.size w3 W' → W'.cell? ⟨Q, 0, none⟩ = some (.string ka) ∧ W'.cell? ⟨Q, 1, none⟩ = some (.string kb) ∧ W'.cell? ⟨Q + 1, 1, none⟩ = some (.slice vp o.length vc) ∧ W'.cell? ⟨Q + 1, 0, none⟩ = some (.bool lv)) := fun W' hb => by
        have y0 := (hb.block Q (by omega)).trans hx0
        have y1 := (hb.block (Q + 1) (by omega)).trans hx1
        exact ⟨by rw [Lib.cell_of_heap y0]; rfl, by rw [Lib.cell_of_heap y0]; rfl, by rw [Lib.cell_of_heap y1]; rfl, by rw [Lib.cell_of_heap y1]; rfl⟩
      obtain ⟨k0, k1, k2, k3⟩ := KB.out w3 (Below.refl _ _)
      have hbw2 : Below w0.heap.size w0 w2 := htl2.row.bel
      have hbw3 : Below w0.heap.size w0 w3 := bel_then hbw2 hbw2.size hb3
      have HJ3 : Hid (IsXs w3 (.slice vp o.length vc) o) := by
        show IsXs w3 (.slice vp o.length vc) o
        rw [← hsl]
        exact IsXs.kept hJ.1.is hbw3
      have HPT := hid (Kind.is_kept HP.out hbw3)
      have HFX := hid (may_fit hmay)
      have HB3 := hid hb3
      have HTL2 := hid htl2
      have HR2 := hid hr2
      have HEQ := hid HT.out.eq
      have HLN := hid HT.out.len
      clear hb3 hbw2 hbw3 htl2 hr2 hx0 hx1 hJ hmay hsl HT hg2
      by_cases e1 : ka = typ
      · subst e1
        cases lv with
        | false =>
          go_wp2_with fail
          try rw [hw3]
          go_roundg cnt2
          case measure => omega
          exact ⟨seen ++ [(ka, kb)], cnt2, p', c', fs, rfl, Nat.le_refl _, HNX.out _ HB3.out (by rw [HIT.out, if_neg (by simp)])⟩
        | true =>
          have HM := hid (pmatch_any (.slice pa pt.length pc) (.slice vp o.length vc) pt o w3 HPT.out HPF.out HJ3.out HFX.out.1 HFX.out.2.2)
          rw [HMT.out] at HM
          obtain ⟨bm, hbm⟩ : ∃ b, mt (o.map Fx.fld) = b := ⟨_, rfl⟩
          rw [hbm] at HM
          have HBM := hid hbm
          clear hbm
          cases bm with
          | false =>
            have HH := hid (HIT.out.trans (if_neg (fun h => by rw [HBM.out] at h; cases h.2.2)))
            clear HIT
            go_wp2_with (go_at_call 41; (try rw [hw3]); refine HM.out.mono ?_; rintro e w4 ⟨rfl, hb4⟩; have HB4 := hid hb4; clear hb4)
            go_roundg cnt2
            case measure => omega
            exact ⟨seen ++ [(ka, kb)], cnt2, p', c', fs, rfl, Nat.le_refl _, HNX.out _ (bel_then HB3.out HB3.out.size HB4.out) HH.out⟩
          | true =>
            have HH := hid (HIT.out.trans (if_pos ⟨rfl, rfl, HBM.out⟩))
            clear HIT
            go_wp2_with (go_at_call 41; (try rw [hw3]); refine HM.out.mono ?_; rintro e w4 ⟨rfl, hb4⟩; have HB4 := hid hb4; clear hb4)
            have q4 := KB.out w4.drew HB4.out.drew
            have HC := hid (wcopied_any (.slice vp o.length vc) o w4.drew (IsXs.kept HJ3.out HB4.out.drew) HFX.out.1 HFX.out.2)
            have hs4 := HB4.out.size
            clear k0 k1 k2 k3 HM
            refine wp_region_held_drew (S := fun w' => w'.cell? ⟨Q, 0, none⟩ = some (.string ka) ∧ w'.cell? ⟨Q, 1, none⟩ = some (.string kb) ∧ w'.cell? ⟨Q + 1, 1, none⟩ = some (.slice vp o.length vc) ∧ w'.cell? ⟨Q + 1, 0, none⟩ = some (.bool true)) (by kernel_rfl) q4 (fun hHeld => ?_)
            refine take_val (i := 0) (.slice p' fs.length c') rfl (by kernel_rfl) (by kernel_rfl) (by kernel_rfl) (fun _ _ _ h => h) (by rfl) (fun w hSw => by go_simp) hHeld ?_
            simp only [Act.put, List.setIfInBounds_toArray, List.set_cons_zero, List.set_cons_succ]
            refine take_val (i := 1) (.agg #[.string ka, .string kb]) rfl (by kernel_rfl) (by kernel_rfl) (by kernel_rfl) (fun _ _ _ h => h) (by rfl) (fun w hSw => by go_simp) hHeld ?_
            simp only [Act.put, List.setIfInBounds_toArray, List.set_cons_zero, List.set_cons_succ]
            refine take_val (i := 2) (.pointer (some ⟨Q + 1, 1, none⟩)) rfl (by kernel_rfl) (by kernel_rfl) (by kernel_rfl) (fun _ _ _ h => h) (by rfl) (fun w hSw => by go_simp) hHeld ?_
            simp only [Act.put, List.setIfInBounds_toArray, List.set_cons_zero, List.set_cons_succ]
            refine take_val (i := 3) (.slice vp o.length vc) rfl (by kernel_rfl) (by kernel_rfl) (by kernel_rfl) (fun _ _ _ h => h) (by rfl) (fun w hSw => by go_simp) hHeld ?_
            simp only [Act.put, List.setIfInBounds_toArray, List.set_cons_zero, List.set_cons_succ]
            clear hHeld
            refine wpAnyH_ready (rs := [4]) (by kernel_rfl) (by simp) ?_
            refine AllReadyH.cons (at_drop0 rfl) (fun K hK => ?_) AllReadyH.nil
            rw [if_pos (by rfl)]
            go_simp
            refine HC.out.mono ?_
            rintro e w5 ⟨u, o5, rfl, hJ5, ho5, hb5⟩
            obtain ⟨p5, f5, rfl⟩ := ownJ_slice hJ5
            obtain ⟨V5, hV5⟩ : ∃ V5, w5.alloc (.cells (encFd ⟨ka, kb, ⟨0, 0, 0, true, p5, f5, o5⟩⟩).toArray 49) = V5 := ⟨_, rfl⟩
            obtain ⟨O5, hO5⟩ : ∃ O5, w5.heap.size = O5 := ⟨_, rfl⟩
            have hbV5 : Below w5.heap.size w5 V5 := by rw [← hV5]; exact (Below.refl _ _).alloc (Nat.le_refl _) _
            have hVo5 : V5.heap[O5]? = some (.cells (encFd ⟨ka, kb, ⟨0, 0, 0, true, p5, f5, o5⟩⟩).toArray 49 (0, 0)) := by rw [← hV5, ← hO5]; exact heap_alloc_new w5 _
            have hb45 : Below w4.heap.size w4 w5 := (bel_drewN (Below.refl _ _) 1).trans hb5
            have hb35 : Below w3.heap.size w3 w5 := bel_then HB4.out HB4.out.size hb45
            have hb2V : Below w2.heap.size w2 V5 := bel_then (bel_then HB3.out HB3.out.size hb35) (Nat.le_trans HB3.out.size hb35.size) hbV5
            have HROW := hid (HTL2.out.on hb2V).row
            have hJV : OwnJ w4.heap.size V5 (.slice p5 o5.length f5) o5 := OwnJ.on hJ5 hbV5
            have HPU : Hid (∀ g7 c7 w8, RowSt KFd w0.heap.size w0 (.slice (some ⟨g7, 0, none⟩) (fs.length + 1) c7) (fs ++ [⟨ka, kb, ⟨0, 0, 0, true, p5, f5, o5⟩⟩]) w8 → V5.grownBy w8 (Value.slice p' fs.length c').ownBlock →
                TkSt w0 m N F L ka mt (seen ++ [(ka, kb)]) cnt2 (.slice (some ⟨g7, 0, none⟩) (fs.length + 1) c7) (fs ++ [⟨ka, kb, ⟨0, 0, 0, true, p5, f5, o5⟩⟩]) w8 ∧ Below w0.heap.size w0 w8 ∧ w8.heap[Q]? = w3.heap[Q]? ∧ w8.heap[Q + 1]? = w3.heap[Q + 1]?) := fun g7 c7 w8 hst hg => by
              have hrV := HR2.out.on (hb2V.block _ HR2.out.map.lt) (hb2V.block _ HR2.out.lt)
              have hoff : ∀ b, (∀ cs t fz, V5.heap[b]? ≠ some (.cells cs t fz)) → some b ≠ (Value.slice p' fs.length c').ownBlock := fun b hn e => by
                obtain ⟨cs, hc⟩ := own_type (show V5.ownsRow w0.heap.size 49 7 _ fs.length (KFd.cells fs) from HROW.out.own) e.symm
                exact hn _ _ _ hc
              have hlow : ∀ b, (Value.slice p' fs.length c').ownBlock = some b → b < w2.heap.size := fun b hb => (World.ownsRow.lt HTL2.out.row.own b hb).2
              refine ⟨⟨?_, HTL2.out.push hb2V ⟨ka, kb, ⟨0, 0, 0, true, p5, f5, o5⟩⟩ hJV (Nat.le_trans HB3.out.size HB4.out.size) (fitX_same ho5 HFX.out.1) hst hg, ?_⟩, hst.bel, ?_, ?_⟩
              · obtain ⟨es, cl, hme⟩ := hrV.map.obj
                obtain ⟨si, sn, sc, hie⟩ := hrV.iter
                exact hrV.on (hg.block m hrV.map.lt (hoff m fun _ _ _ e => by rw [hme] at e; cases e)) (hg.block N hrV.lt (hoff N fun _ _ _ e => by rw [hie] at e; cases e))
              · rw [List.map_append, HEQ.out, List.filterMap_append]
                congr 1
                rw [List.filterMap_cons, HH.out, ← ho5]
                rfl
              · exact (hg.block Q (by have := hbV5.size; have := hb35.size; omega) fun e => by have := hlow Q e.symm; omega).trans ((hbV5.block Q (by have := hb35.size; omega)).trans (hb35.block Q (by omega)))
              · exact (hg.block (Q + 1) (by have := hbV5.size; have := hb35.size; omega) fun e => by have := hlow (Q + 1) e.symm; omega).trans ((hbV5.block (Q + 1) (by have := hb35.size; omega)).trans (hb35.block (Q + 1) (by omega)))
            have q5 := KB.out w5 hb35
            have qV := KB.out V5 (bel_then hb35 hb35.size hbV5)
            have HN5 := hid hVo5
            have HHB : Hid (∀ w8 : World, w8.heap[Q]? = w3.heap[Q]? → w8.heap[Q + 1]? = w3.heap[Q + 1]? → w8.cell? ⟨Q, 0, none⟩ = some (.string ka) ∧ w8.cell? ⟨Q, 1, none⟩ = some (.string kb) ∧ w8.cell? ⟨Q + 1, 1, none⟩ = some (.slice vp o.length vc) ∧ w8.cell? ⟨Q + 1, 0, none⟩ = some (.bool true)) := fun w8 h0 h1 => by
              obtain ⟨a0, a1, a2, a3⟩ := KB.out w3 (Below.refl _ _)
              exact ⟨(World.cell?_of_block h0).trans a0, (World.cell?_of_block h0).trans a1, (World.cell?_of_block h1).trans a2, (World.cell?_of_block h1).trans a3⟩
            simp only [encFd, encVx, Vx.sl] at *
            clear hJ5 ho5 hb5 hbV5 hVo5 hb45 hb35 hb2V hJV HC
            go_wp2_with fail
            refine hK.out _ _ q5 (fun hHeld => ?_)
            clear hK K
            try simp only [Act.put, List.setIfInBounds_toArray, List.set_cons_zero, List.set_cons_succ]
            refine take_val (i := 5) (.agg #[.int .i64 0, .int .u64 0, .int .i64 0, .bool true, .slice p5 o5.length f5]) rfl (by kernel_rfl) (by kernel_rfl) (by kernel_rfl) (fun _ _ _ h => h) (by rfl) (fun w hSw => by go_simp) hHeld ?_
            simp only [Act.put, List.setIfInBounds_toArray, List.set_cons_zero, List.set_cons_succ]
            refine take_val (i := 6) (.agg #[.string ka, .string kb, .int .i64 0, .int .u64 0, .int .i64 0, .bool true, .slice p5 o5.length f5]) rfl (by kernel_rfl) (by kernel_rfl) (by kernel_rfl) (fun _ _ _ h => h) (by rfl) (fun w hSw => by go_simp) hHeld ?_
            simp only [Act.put, List.setIfInBounds_toArray, List.set_cons_zero, List.set_cons_succ]
            clear hHeld
            refine wpAnyH_ready (rs := [7]) (by kernel_rfl) (by simp) ?_
            refine AllReadyH.cons (at_drop0 rfl) (fun K hK => ?_) AllReadyH.nil
            rw [if_pos (by rfl)]
            go_simp
            go_wp2_with fail
            try rw [hV5]
            try rw [hO5]
            refine hK.out _ _ qV (fun hHeld => ?_)
            clear hK K
            try simp only [Act.put, List.setIfInBounds_toArray, List.set_cons_zero, List.set_cons_succ]
            clear hHeld
            have hln := HLN.out
            refine wpAnyH_ready (rs := [8]) (by kernel_rfl) (by simp) ?_
            refine AllReadyH.cons (at_drop0 rfl) (fun K hK => ?_) AllReadyH.nil
            refine step_push KFd rfl _ _ 30 rfl i0 _ 88 Try.underlying30 HI0.out hz0 hz1 hz2 rfl w0.heap.size w0 _ fs rfl HROW.out ⟨ka, kb, ⟨0, 0, 0, true, p5, f5, o5⟩⟩ O5 _ _ rfl rfl _ _ HN5.out (by unfold maxLen; omega) (by omega) ?_
            intro g8 c8 w8 hst8 hg8 _
            obtain ⟨ht8, _, hq0, hq1⟩ := HPU.out g8 c8 w8 hst8 hg8
            have HT8 := hid ht8
            have q8 := HHB.out w8 hq0 hq1
            clear hst8 hg8 ht8 hq0 hq1 qV q5 hln
            refine hK.out _ _ q8 (fun hHeld => ?_)
            clear hK K
            try simp only [Act.put, List.setIfInBounds_toArray, List.set_cons_zero, List.set_cons_succ]
            refine take_val (i := 9) (.slice (some ⟨g8, 0, none⟩) (fs.length + 1) c8) rfl (by kernel_rfl) (by kernel_rfl) (by kernel_rfl) (fun _ _ _ h => h) (by rfl) (fun w hSw => by go_simp) hHeld ?_
            simp only [Act.put, List.setIfInBounds_toArray, List.set_cons_zero, List.set_cons_succ]
            refine wpAnyH_done (by kernel_rfl) ?_ _
            clear hHeld q8
            go_wp2_with fail
            go_roundg cnt2
            case measure => omega
            exact ⟨seen ++ [(ka, kb)], cnt2, some ⟨g8, 0, none⟩, c8, fs ++ [⟨ka, kb, ⟨0, 0, 0, true, p5, f5, o5⟩⟩], by rw [List.length_append]; rfl, Nat.le_refl _, by rw [List.length_append]; exact HT8.out⟩
      · have hne := txt_neW e1
        go_wp2_with fail
        try rw [hw3]
        go_roundg cnt2
        case measure => omega
        exact ⟨seen ++ [(ka, kb)], cnt2, p', c', fs, rfl, Nat.le_refl _, HNX.out _ HB3.out (by rw [HIT.out, if_neg (fun h => e1 h.2.1)])⟩

end Go.Proofs.Ytjehjjpdicimhaa

/-
  Finds in the order of their keys (stage 11): the closure that package writes hands to the stable sort, and the insertion sort at finds.
-/
namespace Go.Proofs.Ytjehjjpdicimhaa
open Go.RowKit Go.Sort Go.Lib Go.Shelf

/-- The cells of a find, held as a letter. -/
def kFd : Nat := 7
theorem size_fd : ∀ w, (Go.sizeOf 49).run Try.prog w = .ok kFd w := Try.sizeOf49

def Fd.key (x : Fd) : Ky := (x.a, x.b)
def cmpY (x y : Fd) : Int := Z.cmpI x.a x.b y.a y.b
theorem ltY (x y : Fd) : ltOf cmpY x y = ltOf Z.cmpK x.key y.key := rfl

theorem swoY : SWO (ltOf cmpY) where
  irrefl x := Z.swoK.irrefl x.key
  trans x y z h1 h2 := Z.swoK.trans x.key y.key z.key h1 h2
  ntrans x y z h1 h2 := Z.swoK.ntrans x.key y.key z.key h1 h2

theorem ltY_ne (x y : Fd) (h : ltOf cmpY x y = true) : x.key ≠ y.key := fun e => by
  rw [ltY, e, Z.swoK.irrefl] at h
  cases h
theorem ltY_true {x y : Fd} (h : ltOf cmpY x y = true) : cmpY x y < 0 := of_decide_eq_true h
theorem ltY_false {x y : Fd} (h : ltOf cmpY x y = false) : ¬ cmpY x y < 0 := of_decide_eq_false h

set_option maxHeartbeats 4000000 in
set_option maxRecDepth 100000 in
theorem overCmp_any (x y : Fd) (w : World) : Calls Try.prog 29 #[.agg (encFd x).toArray, .agg (encFd y).toArray] w fun e w' => e = .returned (.int .i64 (cmpY x y)) ∧ Grown w w' := by
  have H2 : Hid (∀ w, Calls Try.prog 25 #[.agg #[.string x.a, .string x.b], .agg #[.string y.a, .string y.b]] w fun e w' => e = .returned (.int .i64 (cmpY x y)) ∧ Grown w w') := fun w =>
    (Z.compare_eq x.a x.b y.a y.b w).mono fun e w' ⟨h1, h2⟩ => ⟨h1, by rw [h2]; exact ((((Grown.refl _).alloc _).alloc _).alloc _).drewN 1⟩
  generalize cmpY x y = p2 at H2 ⊢
  obtain ⟨xa, xb, xn, xs, xt, xl, xp, xc, xo⟩ := x
  obtain ⟨ya, yb, yn, ys, yt, yl, yp, yc, yo⟩ := y
  simp only [encFd, encVx, Vx.sl] at *
  have HG : Hid (Grown w ((w.alloc (.cells #[.string xa, .string xb, .int .i64 xn, .int .u64 xs, .int .i64 xt, .bool xl, .slice xp xo.length xc] 49)).alloc (.cells #[.string ya, .string yb, .int .i64 yn, .int .u64 ys, .int .i64 yt, .bool yl, .slice yp yo.length yc] 49))) := ((Grown.refl _).alloc _).alloc _
  go_enter Try.func29, Try.ntmps29
  go_wp2_with fail
  refine (H2.out _).mono ?_
  rintro e w6 ⟨rfl, hg6⟩
  have HG6 := hid (HG.out.trans hg6)
  clear hg6
  go_wp2_with fail
  go_ret
  exact ⟨rfl, HG6.out⟩

theorem cmpY_in (x y : Fd) (W : World) (n : Nat) (os : Array Obj) :
    Calls Try.prog 29 #[.agg (encFd x).toArray, .agg (encFd y).toArray] (grow (W.drewN n) os) fun e w' => e = .returned (.int .i64 (cmpY x y)) ∧ ∃ q os', w' = grow ((grow (W.drewN n) os).drewN q) os' := overCmp_any x y _

theorem cmpLaysY (blk off size : Nat) (w : World) : CmpLays Try.prog 29 #[] encFd kFd cmpY blk off size w :=
  fun _ _ _ _ x y => overCmp_any x y _

theorem enters_y : ∀ args w, (callFunc 29 args).run Try.prog w = .ok (.enter 29 args) w := enters_of Try.func29 (by kernel_rfl) rfl

theorem encFd_one (x : Fd) : ∀ v ∈ encFd x, v.oneCell' = true := KFd.one x

theorem ins_y (blk off cap a b : Nat) (d : Array Fd) (w : World) (hH : HoldsK encFd kFd w blk off d) (hblk : blk < w.heap.size) (hab : a ≤ b) (hb : b ≤ d.size) (hsz : d.size < 4611686018427387904) :
    Calls Try.prog 57 #[.slice (some ⟨blk, off, none⟩) d.size cap, .int .i64 a, .int .i64 b, .func (.func 29) #[] #[]] w fun e w' =>
      e = .returned (.tuple #[]) ∧ ∃ n os, w' = sortWorldK encFd kFd w blk off n (Sort.insertionSort (ltOf cmpY) d a b) os :=
  AnyQ.insertionSortCmpFunc Try.insFnd kFd Try.isAgg49 size_fd encFd (fun _ => rfl) encFd_one cmpY 29 #[] blk off cap a b d w enters_y (cmpLaysY blk off d.size w) hH hblk hab hb hsz

/-- What a stable sort leaves. -/
def SortsY (w : World) (blk off : Nat) (d : Array Fd) (w' : World) : Prop :=
  ∃ d' n os, PermIn 0 d.size d d' ∧ SortedIn (ltOf cmpY) 0 d.size d' ∧ Stab Fd.key d d' ∧ w' = sortWorldK encFd kFd w blk off n d' os

set_option maxHeartbeats 2000000 in
set_option maxRecDepth 100000 in
theorem ins_none_y (p : Option Addr) (cap : Nat) (fv : Value) (w : World) :
    Calls Try.prog 57 #[.slice p 0 cap, .int .i64 0, .int .i64 0, fv] w fun e w' => e = .returned (.tuple #[]) ∧ w' = w := by
  go_enter Try.func57, Try.ntmps57
  go_wp2_with fail
  refine wp_loop_rounds 1 ?_
  rw [rounds_succ]
  go_wp2_with fail
  go_end0
  exact ⟨rfl, rfl⟩

set_option maxHeartbeats 2000000 in
set_option maxRecDepth 100000 in
theorem stable_none_y (p : Option Addr) (cap : Nat) (fv : Value) (w : World) :
    Calls Try.prog 42 #[.slice p 0 cap, .int .i64 0, fv] w fun e w' => e = .returned (.tuple #[]) ∧ w' = w := by
  go_enter Try.func42, Try.ntmps42
  go_wp2_with fail
  refine wp_loop_rounds 1 ?_
  rw [rounds_succ]
  go_wp2_with (first | (go_at_call 57; refine (ins_none_y _ _ _ _).mono ?_; rintro e w1 ⟨rfl, rfl⟩))
  refine wp_loop_rounds 1 ?_
  rw [rounds_succ]
  go_wp2_with fail
  go_end0
  exact ⟨rfl, rfl⟩

set_option maxHeartbeats 1000000 in
theorem sort_none_y (p : Option Addr) (cap : Nat) (fv : Value) (w : World) :
    Calls Try.prog 28 #[.slice p 0 cap, fv] w fun e w' => e = .returned (.tuple #[]) ∧ w' = w := by
  go_enter Try.func28, Try.ntmps28
  go_wp2_with (first | (go_at_call 42; refine (stable_none_y _ _ _ _).mono ?_; rintro e w1 ⟨rfl, rfl⟩))
  go_end0
  exact ⟨rfl, rfl⟩

end Go.Proofs.Ytjehjjpdicimhaa

/-
  The contracts of swapRangeCmpFunc and rotateCmpFunc, of slices, over finds.
-/
namespace Go.Proofs.Ytjehjjpdicimhaa
open Go.RowKit Go.Sort Go.Lib Go.Shelf
attribute [local go_sem ↓] size_fd

/-- The runs of n from a on and from b on have changed places. -/
def SwapdY (a b n : Nat) (d dk : Array Fd) : Prop :=
  dk.size = d.size ∧ (∀ t, t < n → dk[a + t]! = d[b + t]!) ∧ (∀ t, t < n → dk[b + t]! = d[a + t]!) ∧ ∀ i, (i < a ∨ a + n ≤ i) → (i < b ∨ b + n ≤ i) → dk[i]! = d[i]!

theorem SwapdY.zero (a b : Nat) (d : Array Fd) : SwapdY a b 0 d d := ⟨rfl, fun t ht => by omega, fun t ht => by omega, fun _ _ _ => rfl⟩

theorem SwapdY.step {a b n : Nat} {d dk : Array Fd} (h : SwapdY a b n d dk) (hab : a + n < b) (hb : b + n < d.size) : SwapdY a b (n + 1) d (swp dk (a + n) (b + n)) := by
  obtain ⟨h1, h2, h3, h4⟩ := h
  refine ⟨by rw [size_swp, h1], fun t ht => ?_, fun t ht => ?_, fun i hi hj => ?_⟩
  · by_cases e : t = n
    · subst e
      rw [swp_left _ _ _ (by omega) (by omega)]
      exact h4 _ (by omega) (by omega)
    · rw [swp_other _ _ _ _ (by omega) (by omega)]; exact h2 t (by omega)
  · by_cases e : t = n
    · subst e
      rw [swp_right _ _ _ (by omega)]
      exact h4 _ (by omega) (by omega)
    · rw [swp_other _ _ _ _ (by omega) (by omega)]; exact h3 t (by omega)
  · rw [swp_other _ _ _ _ (by omega) (by omega)]
    exact h4 _ (by omega) (by omega)




set_option maxHeartbeats 4000000 in
set_option maxRecDepth 1000000 in
theorem swapR_y (blk off cap a b n : Nat) (fv : Value) (d0 d : Array Fd) (w0 w : World) (R : RowK encFd kFd w0 blk off d0) (hs : d0.size = d.size) (S : SWK encFd kFd w0 blk off d w) (hab : a + n ≤ b) (hb : b + n ≤ d.size) (hsz : d.size < 2305843009213693952) :
    Calls Try.prog 90 #[.slice (some ⟨blk, off, none⟩) d.size cap, .int .i64 a, .int .i64 b, .int .i64 n, fv] w fun e w' =>
      e = .returned (.tuple #[]) ∧ ∃ dk, SWK encFd kFd w0 blk off dk w' ∧ SwapdY a b n d dk := by
  have mixed := Try.mixed
  have aE := Try.isAgg49
  have zE := size_fd
  have S0 : Aside (SWK encFd kFd w0 blk off d w) := S
  have RR : Aside (RowK encFd kFd w0 blk off d0) := R
  clear S R
  go_enter Try.func90, Try.ntmps90
  go_wp2_with fail
  go_loopg [10] n (fun kx s8 wr => ∃ (i : Nat) (dk : Array Fd), s8 = .int .i64 i ∧ i ≤ n ∧ n - i ≤ kx ∧ Aside (SwapdY a b i d dk) ∧ Aside (SWK encFd kFd w0 blk off dk wr))
  case atStart => exact ⟨0, d, rfl, by omega, by omega, SwapdY.zero a b d, S0⟩
  case round =>
    clear S0
    obtain ⟨i, dk, rfl, hi, hkx, HS, S1⟩ := hrel
    by_cases hlt : i < n
    · have hltz : (i : Int) < (n : Int) := by omega
      have hds : dk.size = d.size := HS.out.1
      go_wp2_with fail
      have ea44 : ((a : Int) + (i : Int)).toNat = a + i := by omega
      have pa44 : (0 : Int) ≤ (a : Int) + (i : Int) := by omega
      have ba44 : (a : Int) + (i : Int) < (d.size : Int) := by omega
      have ra44 : IntKind.i64.wrap ((a : Int) + (i : Int)) = (a : Int) + (i : Int) := by rw [IntKind.wrap_i64]; omega
      have ec44 : ((b : Int) + (i : Int)).toNat = b + i := by omega
      have pc44 : (0 : Int) ≤ (b : Int) + (i : Int) := by omega
      have bc44 : (b : Int) + (i : Int) < (d.size : Int) := by omega
      have rc44 : IntKind.i64.wrap ((b : Int) + (i : Int)) = (b : Int) + (i : Int) := by rw [IntKind.wrap_i64]; omega
      have S2 : Aside (SWK encFd kFd w0 blk off (swp dk (a + i) (b + i)) ((wr.drew.setCells blk (off + (a + i) * kFd) (encFd dk[b + i]!)).setCells blk (off + (b + i) * kFd) (encFd dk[a + i]!))) := S1.out.swapped RR.out (a + i) (b + i) (by omega) (by omega)
      have l44a := S1.out.ld1 RR.out (by omega) Try.prog (a + i) (by omega)
      have l44b := S1.out.ld1 RR.out (by omega) Try.prog (b + i) (by omega)
      have s44a := S1.out.st1 RR.out (by omega) Try.prog (a + i) (by omega) dk[b + i]!
      have s44b := S1.out.st2 RR.out (by omega) Try.prog (a + i) (b + i) (by omega) (by omega) dk[b + i]! dk[a + i]!
      have n44a : (encFd dk[a + i]!).length = kFd := RR.out.hk _
      have n44b : (encFd dk[b + i]!).length = kFd := RR.out.hk _
      generalize encFd dk[a + i]! = cI44 at S2 l44a s44b n44a
      generalize encFd dk[b + i]! = cJ44 at S2 l44b s44a s44b n44b
      clear S1
      go_wp2_with fail
      go_big_region_o
      clear l44a l44b s44a s44b
      generalize (wr.drew.setCells blk (off + (a + i) * kFd) cJ44).setCells blk (off + (b + i) * kFd) cI44 = w2 at S2 ⊢
      go_wp2_with fail
      go_roundg (n - (i + 1))
      case measure => omega
      case rel => exact ⟨i + 1, swp dk (a + i) (b + i), by go_num, by omega, by omega, HS.out.step (by omega) (by omega), S2⟩
    · have hltz : ¬ (i : Int) < (n : Int) := by omega
      obtain rfl : i = n := by omega
      go_wp2_with fail
      go_end0
      exact ⟨rfl, dk, S1.out, HS.out⟩

set_option maxHeartbeats 4000000 in
set_option maxRecDepth 1000000 in
theorem rotate_y (blk off cap a m b : Nat) (fv : Value) (d0 d : Array Fd) (w0 w : World) (R : RowK encFd kFd w0 blk off d0) (hs : d0.size = d.size) (S : SWK encFd kFd w0 blk off d w) (ham : a < m) (hmb : m < b) (hb : b ≤ d.size) (hsz : d.size < 2305843009213693952) :
    Calls Try.prog 81 #[.slice (some ⟨blk, off, none⟩) d.size cap, .int .i64 a, .int .i64 m, .int .i64 b, fv] w fun e w' =>
      e = .returned (.tuple #[]) ∧ ∃ dk, SWK encFd kFd w0 blk off dk w' ∧ Rot a m b d dk := by
  have S0 : Aside (SWK encFd kFd w0 blk off d w) := S
  have RR : Aside (RowK encFd kFd w0 blk off d0) := R
  clear S R
  have ei : IntKind.i64.wrap ((m : Int) - (a : Int)) = ((m - a : Nat) : Int) := by rw [IntKind.wrap_i64]; omega
  have ej : IntKind.i64.wrap ((b : Int) - (m : Int)) = ((b - m : Nat) : Int) := by rw [IntKind.wrap_i64]; omega
  go_enter Try.func81, Try.ntmps81
  go_wp2_with fail
  go_loopg [10, 11] (b - a) (fun kx vi vj wr => ∃ (i j : Nat) (dk : Array Fd), vi = .int .i64 i ∧ vj = .int .i64 j ∧ 0 < i ∧ 0 < j ∧ a + i ≤ m ∧ m + j ≤ b ∧ i + j ≤ kx ∧ dk.size = d.size ∧ Aside (∀ d', Rot (m - i) m (m + j) dk d' → Rot a m b d d') ∧ Aside (SWK encFd kFd w0 blk off dk wr))
  case atStart => exact ⟨m - a, b - m, d, rfl, rfl, by omega, by omega, by omega, by omega, by omega, rfl, fun d' h => by rw [show m - (m - a) = a by omega, show m + (b - m) = b by omega] at h; exact h, S0⟩
  case round =>
    clear S0
    obtain ⟨i, j, dk, rfl, rfl, hi, hj, hai, hjb, hkx, hds, HR, S1⟩ := hrel
    have emi : IntKind.i64.wrap ((m : Int) - (i : Int)) = ((m - i : Nat) : Int) := by rw [IntKind.wrap_i64]; omega
    rcases Nat.lt_trichotomy i j with hij | hij | hij
    · have hc : ((i : Int) == (j : Int)) = false := beq_eq_false_iff_ne.2 (by omega)
      have hne : ¬ (i : Int) = (j : Int) := by omega
      have hg : ¬ (j : Int) < (i : Int) := by omega
      have e2 : IntKind.i64.wrap ((m : Int) + (j : Int)) = (m : Int) + (j : Int) := by rw [IntKind.wrap_i64]; omega
      have e3 : IntKind.i64.wrap ((m : Int) + (j : Int) - (i : Int)) = ((m + j - i : Nat) : Int) := by rw [IntKind.wrap_i64]; omega
      have e4 : IntKind.i64.wrap ((j : Int) - (i : Int)) = ((j - i : Nat) : Int) := by rw [IntKind.wrap_i64]; omega
      have hc := swapR_y blk off cap (m - i) (m + j - i) i fv d0 dk w0 wr RR.out (by omega) S1.out (by omega) (by omega) (by omega)
      rw [hds] at hc
      have HC := hid hc
      clear hc S1
      go_wp2_with (first | (go_at_call 90; refine HC.out.mono ?_; rintro e w1 ⟨rfl, dl, hsl, hsw⟩; have HSL : Aside _ := hsl; have HSW : Aside _ := hsw; clear hsl hsw))
      go_roundg j
      case measure => omega
      case rel =>
        refine ⟨i, j - i, dl, rfl, rfl, hi, by omega, hai, by omega, by omega, HSW.out.1.trans hds, fun d' h => HR.out d' ?_, HSL⟩
        obtain ⟨k1, k2, k3, k4⟩ := HSW.out
        refine Rot.right (i := i) (dk := dl) (by omega) (by omega) (by omega) (by omega) k1 k2 (fun t ht => ?_) (fun x h1 h2 => k4 x (by omega) (by omega)) (by rw [show m + j - i = m + (j - i) by omega]; exact h)
        exact k3 t ht
    · subst hij
      have hc := swapR_y blk off cap (m - i) m i fv d0 dk w0 wr RR.out (by omega) S1.out (by omega) (by omega) (by omega)
      rw [hds] at hc
      have HC := hid hc
      clear hc S1
      go_wp2_with (first | (go_at_call 90; refine HC.out.mono ?_; rintro e w1 ⟨rfl, dl, hsl, hsw⟩; have HSL : Aside _ := hsl; have HSW : Aside _ := hsw; clear hsl hsw))
      go_end0
      obtain ⟨k1, k2, k3, k4⟩ := HSW.out
      exact ⟨rfl, dl, HSL.out, HR.out dl (Rot.even (i := i) (by omega) (by omega) (by omega) (by omega) k1 k2 k3 k4)⟩
    · have hc0 : ((i : Int) == (j : Int)) = false := beq_eq_false_iff_ne.2 (by omega)
      have hne : ¬ (i : Int) = (j : Int) := by omega
      have hg : (j : Int) < (i : Int) := by omega
      have e4 : IntKind.i64.wrap ((i : Int) - (j : Int)) = ((i - j : Nat) : Int) := by rw [IntKind.wrap_i64]; omega
      have hc := swapR_y blk off cap (m - i) m j fv d0 dk w0 wr RR.out (by omega) S1.out (by omega) (by omega) (by omega)
      rw [hds] at hc
      have HC := hid hc
      clear hc S1
      go_wp2_with (first | (go_at_call 90; refine HC.out.mono ?_; rintro e w1 ⟨rfl, dl, hsl, hsw⟩; have HSL : Aside _ := hsl; have HSW : Aside _ := hsw; clear hsl hsw))
      go_roundg i
      case measure => omega
      case rel =>
        refine ⟨i - j, j, dl, rfl, rfl, by omega, hj, by omega, hjb, by omega, HSW.out.1.trans hds, fun d' h => HR.out d' ?_, HSL⟩
        obtain ⟨k1, k2, k3, k4⟩ := HSW.out
        exact Rot.left (j := j) (dk := dl) (by omega) (by omega) (by omega) (by omega) k1 k2 k3 (fun x h1 h2 => k4 x (by omega) (by omega)) (by rw [show m - i + j = m - (i - j) by omega]; exact h)

end Go.Proofs.Ytjehjjpdicimhaa

/-
  The contract of symMergeCmpFunc of slices, over finds.
-/
namespace Go.Proofs.Ytjehjjpdicimhaa
open Go.RowKit Go.Sort Go.Lib Go.Shelf
attribute [local go_sem ↓] size_fd




set_option maxHeartbeats 4000000 in
set_option maxRecDepth 1000000 in
theorem sym_left_y (blk off cap a m b : Nat) (d0 d : Array Fd) (w0 w : World) (R : RowK encFd kFd w0 blk off d0) (hs : d0.size = d.size) (S : SWK encFd kFd w0 blk off d w) (hm : m = a + 1) (hmb : m < b) (hb : b ≤ d.size) (hsz : d.size < 2305843009213693952) (hR : SortedIn (ltOf cmpY) m b d) :
    Calls Try.prog 58 #[.slice (some ⟨blk, off, none⟩) d.size cap, .int .i64 a, .int .i64 m, .int .i64 b, .func (.func 29) #[] #[]] w fun e w' =>
      e = .returned (.tuple #[]) ∧ ∃ dk, SWK encFd kFd w0 blk off dk w' ∧ Mrg (ltOf cmpY) Fd.key a b d dk := by
  have mixed := Try.mixed
  have aE := Try.isAgg49
  have zE := size_fd
  have eg := enters_y
  have S0 : Aside (SWK encFd kFd w0 blk off d w) := S
  have RR : Aside (RowK encFd kFd w0 blk off d0) := R
  have HR := hid hR
  have HM := hid hm
  have e0 : IntKind.i64.wrap ((m : Int) - (a : Int)) = 1 := by rw [IntKind.wrap_i64]; omega
  have ham : a < m := by omega
  clear S R hR hm
  go_enter Try.func58, Try.ntmps58
  go_wp2_with fail
  go_loopg [10, 11] (b - m) (fun kx vi vj wr => ∃ (i j : Nat), vi = .int .i64 i ∧ vj = .int .i64 j ∧ m ≤ i ∧ i ≤ j ∧ j ≤ b ∧ j - i ≤ kx ∧ Hid (m < i → ltOf cmpY d[i - 1]! d[a]! = true) ∧ Hid (j < b → ltOf cmpY d[j]! d[a]! = false) ∧ Aside (SWK encFd kFd w0 blk off d wr))
  case atStart => exact ⟨m, b, rfl, rfl, by omega, by omega, by omega, by omega, fun h => absurd h (Nat.lt_irrefl _), fun h => absurd h (Nat.lt_irrefl _), S0⟩
  case round =>
    clear S0
    obtain ⟨i, j, rfl, rfl, hmi, hij, hjb, hkx, HLO, HHI, S1⟩ := hrel
    by_cases hlt : i < j
    · have hltz : (i : Int) < (j : Int) := by omega
      obtain ⟨h, hh⟩ : ∃ h, (i + j) / 2 = h := ⟨_, rfl⟩
      have hz : ((i : Int) + (j : Int)) / 2 = (h : Int) := by omega
      have h1 : i ≤ h := by omega
      have h2 : h < j := by omega
      clear hh
      go_wp2_with fail
      cases hL : ltOf cmpY d[h]! d[a]! with
      | true =>
        have ea : ((h : Int)).toNat = h := by omega
        have pa : (0 : Int) ≤ (h : Int) := by omega
        have ba : (h : Int) < (d.size : Int) := by omega
        have ec : ((a : Int)).toNat = a := by omega
        have pc : (0 : Int) ≤ (a : Int) := by omega
        have bc : (a : Int) < (d.size : Int) := by omega
        have la := S1.out.ld RR.out (by omega) Try.prog (h) (by omega)
        have lb := S1.out.ld RR.out (by omega) Try.prog (a) (by omega)
        have hv := ltY_true hL
        have HL := hid hL
        clear hL
        generalize d[h]! = x at la hv
        generalize d[a]! = y at lb hv
        have hd : decide (cmpY x y < 0) = true := decide_eq_true hv
        have hc := cmpY_in x y wr
        go_wp2_with fail
        go_quiet_grown (first | (go_at_fn 29; refine Calls.grown_of (hc _ _)))
        have S2 : Aside (SWK encFd kFd w0 blk off d (grow (wr.drewN nq) osq)) := S1.out.grown nq osq
        clear la lb hc S1
        generalize grow (wr.drewN nq) osq = w2 at S2 ⊢
        clear nq osq
        go_wp2_with fail
        go_roundg (j - (h + 1))
        case measure => omega
        case rel => exact ⟨h + 1, j, by go_num, rfl, by omega, by omega, hjb, by omega, fun _ => HL.out, HHI, S2⟩
      | false =>
        have ea : ((h : Int)).toNat = h := by omega
        have pa : (0 : Int) ≤ (h : Int) := by omega
        have ba : (h : Int) < (d.size : Int) := by omega
        have ec : ((a : Int)).toNat = a := by omega
        have pc : (0 : Int) ≤ (a : Int) := by omega
        have bc : (a : Int) < (d.size : Int) := by omega
        have la := S1.out.ld RR.out (by omega) Try.prog (h) (by omega)
        have lb := S1.out.ld RR.out (by omega) Try.prog (a) (by omega)
        have hv := ltY_false hL
        have HL := hid hL
        clear hL
        generalize d[h]! = x at la hv
        generalize d[a]! = y at lb hv
        have hd : decide (cmpY x y < 0) = false := decide_eq_false hv
        have hc := cmpY_in x y wr
        go_wp2_with fail
        go_quiet_grown (first | (go_at_fn 29; refine Calls.grown_of (hc _ _)))
        have S2 : Aside (SWK encFd kFd w0 blk off d (grow (wr.drewN nq) osq)) := S1.out.grown nq osq
        clear la lb hc S1
        generalize grow (wr.drewN nq) osq = w2 at S2 ⊢
        clear nq osq
        go_wp2_with fail
        go_roundg (h - i)
        case measure => omega
        case rel => exact ⟨i, h, rfl, rfl, hmi, h1, by omega, by omega, HLO, fun _ => HL.out, S2⟩
    · have hltz : ¬ (i : Int) < (j : Int) := by omega
      obtain rfl : i = j := by omega
      have e1 : IntKind.i64.wrap ((i : Int) - 1) = ((i - 1 : Nat) : Int) := by rw [IntKind.wrap_i64]; omega
      clear hij hkx hlt
      have SA := S1
      go_wp2_with fail
      go_loopg [13] (b - a) (fun kx vk wr => ∃ (k : Nat) (dk : Array Fd), vk = .int .i64 k ∧ a ≤ k ∧ k ≤ i - 1 ∧ i - 1 - k ≤ kx ∧ dk.size = d.size ∧ Aside (Rot a (a + 1) (k + 1) d dk) ∧ Aside (SWK encFd kFd w0 blk off dk wr))
      case atStart => exact ⟨a, d, rfl, by omega, by omega, by omega, rfl, rot_none _ _ _, SA⟩
      case round =>
        clear SA S1
        obtain ⟨k, dk, rfl, hak, hki, hkx, hds, HT, S1⟩ := hrel
        by_cases hlt : k < i - 1
        · have hltz2 : (k : Int) < ((i - 1 : Nat) : Int) := by omega
          go_wp2_with fail
          have ea : ((k : Int)).toNat = k := by omega
          have pa : (0 : Int) ≤ (k : Int) := by omega
          have ba : (k : Int) < (d.size : Int) := by omega
          have ra : IntKind.i64.wrap ((k : Int)) = (k : Int) := by rw [IntKind.wrap_i64]; omega
          have ec : ((k : Int) + 1).toNat = k + 1 := by omega
          have pc : (0 : Int) ≤ (k : Int) + 1 := by omega
          have bc : (k : Int) + 1 < (d.size : Int) := by omega
          have rc : IntKind.i64.wrap ((k : Int) + 1) = (k : Int) + 1 := by rw [IntKind.wrap_i64]; omega
          have S2 : Aside (SWK encFd kFd w0 blk off (swp dk (k) (k + 1)) ((wr.drew.setCells blk (off + (k) * kFd) (encFd dk[k + 1]!)).setCells blk (off + (k + 1) * kFd) (encFd dk[k]!))) := S1.out.swapped RR.out (k) (k + 1) (by omega) (by omega)
          have l44a := S1.out.ld1 RR.out (by omega) Try.prog (k) (by omega)
          have l44b := S1.out.ld1 RR.out (by omega) Try.prog (k + 1) (by omega)
          have s44a := S1.out.st1 RR.out (by omega) Try.prog (k) (by omega) dk[k + 1]!
          have s44b := S1.out.st2 RR.out (by omega) Try.prog (k) (k + 1) (by omega) (by omega) dk[k + 1]! dk[k]!
          have n44a : (encFd dk[k]!).length = kFd := RR.out.hk _
          have n44b : (encFd dk[k + 1]!).length = kFd := RR.out.hk _
          generalize encFd dk[k]! = cI44 at S2 l44a s44b n44a
          generalize encFd dk[k + 1]! = cJ44 at S2 l44b s44a s44b n44b
          clear S1
          go_wp2_with fail
          go_big_region_o
          clear l44a l44b s44a s44b
          generalize (wr.drew.setCells blk (off + (k) * kFd) cJ44).setCells blk (off + (k + 1) * kFd) cI44 = w2 at S2 ⊢
          go_wp2_with fail
          go_roundg (i - 1 - (k + 1))
          case measure => omega
          case rel => exact ⟨k + 1, swp dk k (k + 1), by go_num, by omega, by omega, by omega, by rw [size_swp]; exact hds, HT.out.shift_up hak (by omega), S2⟩
        · have hltz2 : ¬ (k : Int) < ((i - 1 : Nat) : Int) := by omega
          go_wp2_with fail
          (try simp only [Exit.inBlock, Exit.then]); refine bodyPost_ret (results_none rfl _ _ _) rfl ?_
          have hk : k + 1 = i := by omega
          have ht := HT.out
          rw [hk] at ht
          have hlo := HLO.out
          have hhi := HHI.out
          have hr := HR.out
          rw [HM.out] at hlo hr
          exact ⟨rfl, dk, S1.out, Mrg.one_left swoY ltY_ne ht (by omega) hjb hb hr hlo hhi⟩

set_option maxHeartbeats 4000000 in
set_option maxRecDepth 1000000 in
theorem sym_right_y (blk off cap a m b : Nat) (d0 d : Array Fd) (w0 w : World) (R : RowK encFd kFd w0 blk off d0) (hs : d0.size = d.size) (S : SWK encFd kFd w0 blk off d w) (hm : a + 1 < m) (hmb : b = m + 1) (hb : b ≤ d.size) (hsz : d.size < 2305843009213693952) (hL : SortedIn (ltOf cmpY) a m d) :
    Calls Try.prog 58 #[.slice (some ⟨blk, off, none⟩) d.size cap, .int .i64 a, .int .i64 m, .int .i64 b, .func (.func 29) #[] #[]] w fun e w' =>
      e = .returned (.tuple #[]) ∧ ∃ dk, SWK encFd kFd w0 blk off dk w' ∧ Mrg (ltOf cmpY) Fd.key a b d dk := by
  have mixed := Try.mixed
  have aE := Try.isAgg49
  have zE := size_fd
  have eg := enters_y
  have S0 : Aside (SWK encFd kFd w0 blk off d w) := S
  have RR : Aside (RowK encFd kFd w0 blk off d0) := R
  have HR := hid hL
  have HM := hid hmb
  have e0 : IntKind.i64.wrap ((m : Int) - (a : Int)) = ((m - a : Nat) : Int) := by rw [IntKind.wrap_i64]; omega
  have e1 : (((m - a : Nat) : Int) == 1) = false := beq_eq_false_iff_ne.2 (by omega)
  have e2 : IntKind.i64.wrap ((b : Int) - (m : Int)) = 1 := by rw [IntKind.wrap_i64]; omega
  have hms : m < d.size := by omega
  clear S R hL hmb
  go_enter Try.func58, Try.ntmps58
  go_wp2_with fail
  go_loopg [14, 15] (m - a) (fun kx vi vj wr => ∃ (i j : Nat), vi = .int .i64 i ∧ vj = .int .i64 j ∧ a ≤ i ∧ i ≤ j ∧ j ≤ m ∧ j - i ≤ kx ∧ Hid (a < i → ltOf cmpY d[m]! d[i - 1]! = false) ∧ Hid (j < m → ltOf cmpY d[m]! d[j]! = true) ∧ Aside (SWK encFd kFd w0 blk off d wr))
  case atStart => exact ⟨a, m, rfl, rfl, by omega, by omega, by omega, by omega, fun h => absurd h (Nat.lt_irrefl _), fun h => absurd h (Nat.lt_irrefl _), S0⟩
  case round =>
    clear S0
    obtain ⟨i, j, rfl, rfl, hmi, hij, hjb, hkx, HLO, HHI, S1⟩ := hrel
    by_cases hlt : i < j
    · have hltz : (i : Int) < (j : Int) := by omega
      obtain ⟨h, hh⟩ : ∃ h, (i + j) / 2 = h := ⟨_, rfl⟩
      have hz : ((i : Int) + (j : Int)) / 2 = (h : Int) := by omega
      have h1 : i ≤ h := by omega
      have h2 : h < j := by omega
      clear hh
      go_wp2_with fail
      cases hL : ltOf cmpY d[m]! d[h]! with
      | false =>
        have ea : ((m : Int)).toNat = m := by omega
        have pa : (0 : Int) ≤ (m : Int) := by omega
        have ba : (m : Int) < (d.size : Int) := by omega
        have ec : ((h : Int)).toNat = h := by omega
        have pc : (0 : Int) ≤ (h : Int) := by omega
        have bc : (h : Int) < (d.size : Int) := by omega
        have la := S1.out.ld RR.out (by omega) Try.prog (m) (by omega)
        have lb := S1.out.ld RR.out (by omega) Try.prog (h) (by omega)
        have hv := ltY_false hL
        have HL := hid hL
        clear hL
        generalize d[m]! = x at la hv
        generalize d[h]! = y at lb hv
        have hd : decide (cmpY x y < 0) = false := decide_eq_false hv
        have hc := cmpY_in x y wr
        go_wp2_with fail
        go_quiet_grown (first | (go_at_fn 29; refine Calls.grown_of (hc _ _)))
        have S2 : Aside (SWK encFd kFd w0 blk off d (grow (wr.drewN nq) osq)) := S1.out.grown nq osq
        clear la lb hc S1
        generalize grow (wr.drewN nq) osq = w2 at S2 ⊢
        clear nq osq
        go_wp2_with fail
        go_roundg (j - (h + 1))
        case measure => omega
        case rel => exact ⟨h + 1, j, by go_num, rfl, by omega, by omega, hjb, by omega, fun _ => HL.out, HHI, S2⟩
      | true =>
        have ea : ((m : Int)).toNat = m := by omega
        have pa : (0 : Int) ≤ (m : Int) := by omega
        have ba : (m : Int) < (d.size : Int) := by omega
        have ec : ((h : Int)).toNat = h := by omega
        have pc : (0 : Int) ≤ (h : Int) := by omega
        have bc : (h : Int) < (d.size : Int) := by omega
        have la := S1.out.ld RR.out (by omega) Try.prog (m) (by omega)
        have lb := S1.out.ld RR.out (by omega) Try.prog (h) (by omega)
        have hv := ltY_true hL
        have HL := hid hL
        clear hL
        generalize d[m]! = x at la hv
        generalize d[h]! = y at lb hv
        have hd : decide (cmpY x y < 0) = true := decide_eq_true hv
        have hc := cmpY_in x y wr
        go_wp2_with fail
        go_quiet_grown (first | (go_at_fn 29; refine Calls.grown_of (hc _ _)))
        have S2 : Aside (SWK encFd kFd w0 blk off d (grow (wr.drewN nq) osq)) := S1.out.grown nq osq
        clear la lb hc S1
        generalize grow (wr.drewN nq) osq = w2 at S2 ⊢
        clear nq osq
        go_wp2_with fail
        go_roundg (h - i)
        case measure => omega
        case rel => exact ⟨i, h, rfl, rfl, hmi, h1, by omega, by omega, HLO, fun _ => HL.out, S2⟩
    · have hltz : ¬ (i : Int) < (j : Int) := by omega
      obtain rfl : i = j := by omega
      clear hij hkx hlt
      have SA := S1
      go_wp2_with fail
      go_loopg [17] (m - a) (fun kx vk wr => ∃ (k : Nat) (dk : Array Fd), vk = .int .i64 k ∧ i ≤ k ∧ k ≤ m ∧ k - i ≤ kx ∧ dk.size = d.size ∧ Aside (Rot k m (m + 1) d dk) ∧ Aside (SWK encFd kFd w0 blk off dk wr))
      case atStart => exact ⟨m, d, rfl, by omega, by omega, by omega, rfl, rot_none' _ _ _, SA⟩
      case round =>
        clear SA S1
        obtain ⟨k, dk, rfl, hak, hki, hkx, hds, HT, S1⟩ := hrel
        by_cases hlt : i < k
        · obtain ⟨kp, rfl⟩ : ∃ kp, k = kp + 1 := ⟨k - 1, by omega⟩
          have hltz2 : (i : Int) < (kp : Int) + 1 := by omega
          go_wp2_with fail
          have ea : ((kp : Int) + 1).toNat = kp + 1 := by omega
          have pa : (0 : Int) ≤ (kp : Int) + 1 := by omega
          have ba : (kp : Int) + 1 < (d.size : Int) := by omega
          have ra : IntKind.i64.wrap ((kp : Int) + 1) = (kp : Int) + 1 := by rw [IntKind.wrap_i64]; omega
          have ec : ((kp : Int)).toNat = kp := by omega
          have pc : (0 : Int) ≤ (kp : Int) := by omega
          have bc : (kp : Int) < (d.size : Int) := by omega
          have rc : IntKind.i64.wrap ((kp : Int)) = (kp : Int) := by rw [IntKind.wrap_i64]; omega
          have S2 : Aside (SWK encFd kFd w0 blk off (swp dk (kp + 1) (kp)) ((wr.drew.setCells blk (off + (kp + 1) * kFd) (encFd dk[kp]!)).setCells blk (off + (kp) * kFd) (encFd dk[kp + 1]!))) := S1.out.swapped RR.out (kp + 1) (kp) (by omega) (by omega)
          have l44a := S1.out.ld1 RR.out (by omega) Try.prog (kp + 1) (by omega)
          have l44b := S1.out.ld1 RR.out (by omega) Try.prog (kp) (by omega)
          have s44a := S1.out.st1 RR.out (by omega) Try.prog (kp + 1) (by omega) dk[kp]!
          have s44b := S1.out.st2 RR.out (by omega) Try.prog (kp + 1) (kp) (by omega) (by omega) dk[kp]! dk[kp + 1]!
          have n44a : (encFd dk[kp + 1]!).length = kFd := RR.out.hk _
          have n44b : (encFd dk[kp]!).length = kFd := RR.out.hk _
          generalize encFd dk[kp + 1]! = cI44 at S2 l44a s44b n44a
          generalize encFd dk[kp]! = cJ44 at S2 l44b s44a s44b n44b
          clear S1
          go_wp2_with fail
          go_big_region_o
          clear l44a l44b s44a s44b
          generalize (wr.drew.setCells blk (off + (kp + 1) * kFd) cJ44).setCells blk (off + (kp) * kFd) cI44 = w2 at S2 ⊢
          go_wp2_with fail
          go_roundg (kp - i)
          case measure => omega
          case rel => exact ⟨kp, swp dk (kp + 1) kp, by first | rfl | go_num, by omega, by omega, by omega, by rw [size_swp]; exact hds, HT.out.shift_down (by omega) (by omega), S2⟩
        · have hltz2 : ¬ (i : Int) < (k : Int) := by omega
          go_wp2_with fail
          (try simp only [Exit.inBlock, Exit.then]); refine bodyPost_ret (results_none rfl _ _ _) rfl ?_
          obtain rfl : k = i := by omega
          have hlo := HLO.out
          have hhi := HHI.out
          rw [HM.out]
          exact ⟨rfl, dk, S1.out, Mrg.one_right swoY ltY_ne HT.out (by omega) (by omega) (by omega) HR.out hlo hhi⟩

end Go.Proofs.Ytjehjjpdicimhaa

/-
  The contract of symMergeCmpFunc of slices, over finds: the general case, and the whole.
-/
namespace Go.Proofs.Ytjehjjpdicimhaa
open Go.RowKit Go.Sort Go.Lib Go.Shelf
attribute [local go_sem ↓] size_fd

/-- What a merge from a to b is asked. -/
def SymIsY (blk off cap : Nat) (d0 : Array Fd) (w0 : World) (a m b : Nat) : Prop :=
  ∀ (d : Array Fd) (w : World), d0.size = d.size → b ≤ d.size → SWK encFd kFd w0 blk off d w → SortedIn (ltOf cmpY) a m d → SortedIn (ltOf cmpY) m b d →
    Calls Try.prog 58 #[.slice (some ⟨blk, off, none⟩) d.size cap, .int .i64 a, .int .i64 m, .int .i64 b, .func (.func 29) #[] #[]] w fun e w' =>
      e = .returned (.tuple #[]) ∧ ∃ dk, SWK encFd kFd w0 blk off dk w' ∧ Mrg (ltOf cmpY) Fd.key a b d dk

set_option maxHeartbeats 8000000 in
set_option maxRecDepth 1000000 in
theorem sym_general_y (blk off cap a m b : Nat) (d0 : Array Fd) (w0 : World) (R : RowK encFd kFd w0 blk off d0) (hm : a + 1 < m) (hmb : m + 1 < b) (hsz : d0.size < 2305843009213693952)
    (IH : ∀ a' m' b', a' < m' → m' < b' → b' - a' < b - a → SymIsY blk off cap d0 w0 a' m' b') : SymIsY blk off cap d0 w0 a m b := by
  intro d w hs hb S hL hR
  have mixed := Try.mixed
  have aE := Try.isAgg49
  have zE := size_fd
  have eg := enters_y
  have S0 : Aside (SWK encFd kFd w0 blk off d w) := S
  have RR : Aside (RowK encFd kFd w0 blk off d0) := R
  have HIH := hid IH
  have HSL := hid hL
  have HSR := hid hR
  have e0 : IntKind.i64.wrap ((m : Int) - (a : Int)) = ((m - a : Nat) : Int) := by rw [IntKind.wrap_i64]; omega
  have e1 : (((m - a : Nat) : Int) == 1) = false := beq_eq_false_iff_ne.2 (by omega)
  have e2 : IntKind.i64.wrap ((b : Int) - (m : Int)) = ((b - m : Nat) : Int) := by rw [IntKind.wrap_i64]; omega
  have e3 : (((b - m : Nat) : Int) == 1) = false := beq_eq_false_iff_ne.2 (by omega)
  obtain ⟨mid, hmid⟩ : ∃ mid, (a + b) / 2 = mid := ⟨_, rfl⟩
  have hmz : ((a : Int) + (b : Int)) / 2 = (mid : Int) := by omega
  have hm1 : 2 * mid ≤ a + b := by omega
  have hm2 : a + b ≤ 2 * mid + 1 := by omega
  obtain ⟨nn, hnn⟩ : ∃ nn, mid + m = nn := ⟨_, rfl⟩
  have hnz : (mid : Int) + (m : Int) = (nn : Int) := by omega
  have e5 : IntKind.i64.wrap ((nn : Int) - 1) = ((nn - 1 : Nat) : Int) := by rw [IntKind.wrap_i64]; omega
  have HNN := hid hnn
  clear S R hL hR IH hmid hnn
  go_enter Try.func58, Try.ntmps58
  go_upto_if 140 with fail
  go_cut [20, 21] from 138 to 146 (fun vs vr wx => w = wx ∧ ∃ s0 r0 : Nat, vs = .int .i64 s0 ∧ vr = .int .i64 r0 ∧ s0 ≤ r0 ∧ ((mid < m ∧ s0 + b = nn ∧ r0 = mid) ∨ (m ≤ mid ∧ s0 = a ∧ r0 = m)))
  case first =>
    by_cases hc : mid < m
    · have hcz : (mid : Int) < (m : Int) := by omega
      have e4 : IntKind.i64.wrap ((nn : Int) - (b : Int)) = ((nn - b : Nat) : Int) := by rw [IntKind.wrap_i64]; omega
      go_wp2_with fail
      go_meet
      case rel => exact ⟨rfl, nn - b, mid, rfl, rfl, by have := HNN.out; omega, Or.inl ⟨hc, by have := HNN.out; omega, rfl⟩⟩
    · have hcz : ¬ (mid : Int) < (m : Int) := by omega
      go_wp2_with fail
      go_meet
      case rel => exact ⟨rfl, a, m, rfl, rfl, by omega, Or.inr ⟨by omega, rfl, rfl⟩⟩
  case rest =>
  obtain ⟨rfl, s0, r0, rfl, rfl, hsr, hcase⟩ := hcut
  have hlo : a ≤ s0 ∧ r0 ≤ m ∧ r0 ≤ mid ∧ nn - s0 ≤ b ∧ nn - r0 ≥ m ∧ r0 < nn := by have := HNN.out; omega
  have HCASE := hid hcase
  obtain ⟨k1, k2, k3, k4, k5, k6⟩ := hlo
  clear hcase
  go_wp2_with fail
  go_loopg [20, 21] (r0 - s0) (fun kx vs vr wr => ∃ (s r : Nat), vs = .int .i64 s ∧ vr = .int .i64 r ∧ s0 ≤ s ∧ s ≤ r ∧ r ≤ r0 ∧ r - s ≤ kx ∧ Hid (s0 < s → ltOf cmpY d[nn - s]! d[s - 1]! = false) ∧ Hid (r < r0 → ltOf cmpY d[nn - 1 - r]! d[r]! = true) ∧ Aside (SWK encFd kFd w0 blk off d wr))
  case atStart => exact ⟨s0, r0, rfl, rfl, by omega, by omega, by omega, by omega, fun h => absurd h (Nat.lt_irrefl _), fun h => absurd h (Nat.lt_irrefl _), S0⟩
  case round =>
  clear S0
  obtain ⟨s, r, rfl, rfl, hs0, hsr2, hr0, hkx, HLO, HHI, S1⟩ := hrel
  by_cases hlt : s < r
  · have hltz : (s : Int) < (r : Int) := by omega
    obtain ⟨c, hh⟩ : ∃ c, (s + r) / 2 = c := ⟨_, rfl⟩
    have hz : ((s : Int) + (r : Int)) / 2 = (c : Int) := by omega
    have h1 : s ≤ c := by omega
    have h2 : c < r := by omega
    have e6 : IntKind.i64.wrap (((nn - 1 : Nat) : Int) - (c : Int)) = ((nn - 1 - c : Nat) : Int) := by rw [IntKind.wrap_i64]; omega
    clear hh
    go_wp2_with fail
    cases hL : ltOf cmpY d[nn - 1 - c]! d[c]! with
    | false =>
      have ea : (((nn - 1 - c : Nat) : Int)).toNat = nn - 1 - c := by omega
      have pa : (0 : Int) ≤ ((nn - 1 - c : Nat) : Int) := by omega
      have ba : ((nn - 1 - c : Nat) : Int) < (d.size : Int) := by omega
      have ec : ((c : Int)).toNat = c := by omega
      have pc : (0 : Int) ≤ (c : Int) := by omega
      have bc : (c : Int) < (d.size : Int) := by omega
      have la := S1.out.ld RR.out (by omega) Try.prog (nn - 1 - c) (by omega)
      have lb := S1.out.ld RR.out (by omega) Try.prog (c) (by omega)
      have hv := ltY_false hL
      have HL := hid hL
      clear hL
      generalize d[nn - 1 - c]! = x at la hv
      generalize d[c]! = y at lb hv
      have hd : decide (cmpY x y < 0) = false := decide_eq_false hv
      have hc := cmpY_in x y wr
      go_wp2_with fail
      go_quiet_grown (first | (go_at_fn 29; refine Calls.grown_of (hc _ _)))
      have S2 : Aside (SWK encFd kFd w0 blk off d (grow (wr.drewN nq) osq)) := S1.out.grown nq osq
      clear la lb hc S1
      generalize grow (wr.drewN nq) osq = w2 at S2 ⊢
      clear nq osq
      go_wp2_with fail
      go_roundg (r - (c + 1))
      case measure => omega
      case rel => exact ⟨c + 1, r, by go_num, rfl, by omega, by omega, hr0, by omega, fun _ => by rw [show nn - (c + 1) = nn - 1 - c by omega]; exact HL.out, HHI, S2⟩
    | true =>
      have ea : (((nn - 1 - c : Nat) : Int)).toNat = nn - 1 - c := by omega
      have pa : (0 : Int) ≤ ((nn - 1 - c : Nat) : Int) := by omega
      have ba : ((nn - 1 - c : Nat) : Int) < (d.size : Int) := by omega
      have ec : ((c : Int)).toNat = c := by omega
      have pc : (0 : Int) ≤ (c : Int) := by omega
      have bc : (c : Int) < (d.size : Int) := by omega
      have la := S1.out.ld RR.out (by omega) Try.prog (nn - 1 - c) (by omega)
      have lb := S1.out.ld RR.out (by omega) Try.prog (c) (by omega)
      have hv := ltY_true hL
      have HL := hid hL
      clear hL
      generalize d[nn - 1 - c]! = x at la hv
      generalize d[c]! = y at lb hv
      have hd : decide (cmpY x y < 0) = true := decide_eq_true hv
      have hc := cmpY_in x y wr
      go_wp2_with fail
      go_quiet_grown (first | (go_at_fn 29; refine Calls.grown_of (hc _ _)))
      have S2 : Aside (SWK encFd kFd w0 blk off d (grow (wr.drewN nq) osq)) := S1.out.grown nq osq
      clear la lb hc S1
      generalize grow (wr.drewN nq) osq = w2 at S2 ⊢
      clear nq osq
      go_wp2_with fail
      go_roundg (c - s)
      case measure => omega
      case rel => exact ⟨s, c, rfl, rfl, hs0, h1, by omega, by omega, HLO, fun _ => HL.out, S2⟩
  have hltz : ¬ (s : Int) < (r : Int) := by omega
  obtain rfl : s = r := by omega
  obtain ⟨e, he⟩ : ∃ e, nn - s = e := ⟨_, rfl⟩
  have e7 : IntKind.i64.wrap ((nn : Int) - (s : Int)) = (e : Int) := by rw [IntKind.wrap_i64]; omega
  have hge : m ≤ e := by omega
  have heb : e ≤ b := by omega
  have hsm : s ≤ m := by omega
  have has : a ≤ s := by omega
  have hds : s + (e - m) = mid := by have := HNN.out; omega
  have hlow : a < s → e < b → ltOf cmpY d[e]! d[s - 1]! = false := fun h1 h2 => by
    have := HLO.out (by have := HCASE.out; have := HNN.out; omega)
    rw [he] at this; exact this
  have hhigh : s < m → m < e → ltOf cmpY d[e - 1]! d[s]! = true := fun h1 h2 => by
    have := HHI.out (by have := HCASE.out; have := HNN.out; omega)
    rw [show nn - 1 - s = e - 1 by omega] at this; exact this
  have HLOW := hid hlow
  have HHIGH := hid hhigh
  have ham : a < mid := by omega
  have hmb2 : mid < b := by omega
  clear hlow hhigh HLO HHI hsr2 hkx hlt he k4 k5
  go_upto_region 39 with fail
  go_cut [185] from 178 to 185 (fun v wx => wr = wx ∧ ∃ B : Bool, v = .bool B ∧ Hid (B = true ↔ (s < m ∧ m < e)))
  case first =>
    by_cases g1 : s < m
    · have g1z : (s : Int) < (m : Int) := by omega
      have g1d : decide ((s : Int) < (m : Int)) = true := decide_eq_true g1z
      by_cases g2 : m < e
      · have g2z : (m : Int) < (e : Int) := by omega
        have g2d : decide ((m : Int) < (e : Int)) = true := decide_eq_true g2z
        go_wp2_with fail
        go_meet
        case rel => exact ⟨rfl, true, rfl, ⟨fun _ => ⟨g1, g2⟩, fun _ => rfl⟩⟩
      · have g2z : ¬ (m : Int) < (e : Int) := by omega
        have g2d : decide ((m : Int) < (e : Int)) = false := decide_eq_false g2z
        go_wp2_with fail
        go_meet
        case rel => exact ⟨rfl, false, rfl, ⟨fun h => Bool.noConfusion h, fun h => absurd h.2 g2⟩⟩
    · have g1z : ¬ (s : Int) < (m : Int) := by omega
      have g1d : decide ((s : Int) < (m : Int)) = false := decide_eq_false g1z
      go_wp2_with fail
      go_meet
      case rel => exact ⟨rfl, false, rfl, ⟨fun h => Bool.noConfusion h, fun h => absurd h.1 g1⟩⟩
  case rest =>
  obtain ⟨rfl, B, rfl, HB⟩ := hcut
  go_upto_if 185 with fail
  go_cut [] from 185 to 191 (fun wx => ∃ d1, Aside (SWK encFd kFd w0 blk off d1 wx) ∧ d1.size = d.size ∧ Hid (Rot s m e d d1))
  case first =>
    cases B with
    | true =>
      have hc := HB.out.1 rfl
      have hr := rotate_y blk off cap s m e (.func (.func 29) #[] #[]) d0 d w0 wr RR.out hs S1.out hc.1 hc.2 (by omega) (by omega)
      have HRO := hid hr
      clear hr S1 hc
      go_wp2_with (first | (go_at_call 81; refine HRO.out.mono ?_; rintro _ w1 ⟨rfl, d1, hs1, hr1⟩; have HS1 : Aside _ := hs1; have HR1 := hid hr1; clear hs1 hr1))
      go_meet
      case rel => exact ⟨d1, HS1, HR1.out.1, HR1⟩
    | false =>
      have hc : ¬ (s < m ∧ m < e) := fun h => Bool.noConfusion (HB.out.2 h)
      have hrot : Rot s m e d d := by
        by_cases e1 : s < m
        · rw [show e = m by omega]; exact rot_none _ _ _
        · rw [show s = m by omega]; exact rot_none' _ _ _
      have HRT := hid hrot
      clear hrot hc
      go_wp2_with fail
      go_meet
      case rel => exact ⟨d, S1, rfl, HRT⟩
  case rest =>
  clear S1
  obtain ⟨d1, S1, hz1, HRT⟩ := hcut
  have hcut2 := merge_cut (K := Fd.key) swoY ltY_ne HRT.out has hsm hge heb hb hds HSL.out HSR.out HLOW.out HHIGH.out
  obtain ⟨t1, t2, t3, t4⟩ := hcut2
  have HT1 := hid t1
  have HT2 := hid t2
  have HT3 := hid t3
  have HT4 := hid t4
  clear t1 t2 t3 t4 HLOW HHIGH HRT
  go_upto_region 41 with fail
  go_cut [199] from 192 to 199 (fun v wx => wc = wx ∧ ∃ B : Bool, v = .bool B ∧ Hid (B = true ↔ (a < s ∧ s < mid)))
  case first =>
    by_cases g1 : a < s
    · have g1z : (a : Int) < (s : Int) := by omega
      have g1d : decide ((a : Int) < (s : Int)) = true := decide_eq_true g1z
      by_cases g2 : s < mid
      · have g2z : (s : Int) < (mid : Int) := by omega
        have g2d : decide ((s : Int) < (mid : Int)) = true := decide_eq_true g2z
        go_wp2_with fail
        go_meet
        case rel => exact ⟨rfl, true, rfl, ⟨fun _ => ⟨g1, g2⟩, fun _ => rfl⟩⟩
      · have g2z : ¬ (s : Int) < (mid : Int) := by omega
        have g2d : decide ((s : Int) < (mid : Int)) = false := decide_eq_false g2z
        go_wp2_with fail
        go_meet
        case rel => exact ⟨rfl, false, rfl, ⟨fun h => Bool.noConfusion h, fun h => absurd h.2 g2⟩⟩
    · have g1z : ¬ (a : Int) < (s : Int) := by omega
      have g1d : decide ((a : Int) < (s : Int)) = false := decide_eq_false g1z
      go_wp2_with fail
      go_meet
      case rel => exact ⟨rfl, false, rfl, ⟨fun h => Bool.noConfusion h, fun h => absurd h.1 g1⟩⟩
  case rest =>
  obtain ⟨rfl, B, rfl, HB⟩ := hcut
  go_upto_if 199 with fail
  go_cut [] from 199 to 205 (fun wx => ∃ d2, Aside (SWK encFd kFd w0 blk off d2 wx) ∧ Hid (Mrg (ltOf cmpY) Fd.key a mid d1 d2))
  case first =>
    cases B with
    | true =>
      have hc := HB.out.1 rfl
      have hr := HIH.out a s mid hc.1 hc.2 (by omega) d1 wc (by omega) (by omega) S1.out HT1.out HT2.out
      rw [hz1] at hr
      have HRO := hid hr
      clear hr S1 hc
      go_wp2_with (first | (go_at_call 58; refine HRO.out.mono ?_; rintro _ w1 ⟨rfl, d2, hs1, hr1⟩; have HS1 : Aside _ := hs1; have HR1 := hid hr1; clear hs1 hr1))
      go_meet
      case rel => exact ⟨d2, HS1, HR1⟩
    | false =>
      have hc : ¬ (a < s ∧ s < mid) := fun h => Bool.noConfusion (HB.out.2 h)
      have HRT := hid (HT3.out hc)
      clear hc
      go_wp2_with fail
      go_meet
      case rel => exact ⟨d1, S1, HRT⟩
  case rest =>
  clear S1
  obtain ⟨d2, S1, HM2⟩ := hcut
  obtain ⟨t1, t2, t3, t4⟩ := HT4.out d2 HM2.out
  have hz2 : d2.size = d1.size := HM2.out.1.1
  have HU1 := hid t1
  have HU2 := hid t2
  have HU3 := hid t3
  have HU4 := hid t4
  clear t1 t2 t3 t4 HT1 HT2 HT3 HT4 HM2
  go_upto_region 43 with fail
  go_cut [213] from 206 to 213 (fun v wx => wc = wx ∧ ∃ B : Bool, v = .bool B ∧ Hid (B = true ↔ (mid < e ∧ e < b)))
  case first =>
    by_cases g1 : mid < e
    · have g1z : (mid : Int) < (e : Int) := by omega
      have g1d : decide ((mid : Int) < (e : Int)) = true := decide_eq_true g1z
      by_cases g2 : e < b
      · have g2z : (e : Int) < (b : Int) := by omega
        have g2d : decide ((e : Int) < (b : Int)) = true := decide_eq_true g2z
        go_wp2_with fail
        go_meet
        case rel => exact ⟨rfl, true, rfl, ⟨fun _ => ⟨g1, g2⟩, fun _ => rfl⟩⟩
      · have g2z : ¬ (e : Int) < (b : Int) := by omega
        have g2d : decide ((e : Int) < (b : Int)) = false := decide_eq_false g2z
        go_wp2_with fail
        go_meet
        case rel => exact ⟨rfl, false, rfl, ⟨fun h => Bool.noConfusion h, fun h => absurd h.2 g2⟩⟩
    · have g1z : ¬ (mid : Int) < (e : Int) := by omega
      have g1d : decide ((mid : Int) < (e : Int)) = false := decide_eq_false g1z
      go_wp2_with fail
      go_meet
      case rel => exact ⟨rfl, false, rfl, ⟨fun h => Bool.noConfusion h, fun h => absurd h.1 g1⟩⟩
  case rest =>
  obtain ⟨rfl, B, rfl, HB⟩ := hcut
  cases B with
  | true =>
    have hc := HB.out.1 rfl
    have hr := HIH.out mid e b hc.1 hc.2 (by omega) d2 wc (by omega) (by omega) S1.out HU1.out HU2.out
    rw [hz2, hz1] at hr
    have HRO := hid hr
    clear hr S1 hc
    go_wp2_with (first | (go_at_call 58; refine HRO.out.mono ?_; rintro _ w1 ⟨rfl, d3, hs1, hr1⟩; have HS1 : Aside _ := hs1; have HR1 := hid hr1; clear hs1 hr1))
    go_end0
    exact ⟨rfl, d3, HS1.out, HU4.out d3 HR1.out⟩
  | false =>
    have hc : ¬ (mid < e ∧ e < b) := fun h => Bool.noConfusion (HB.out.2 h)
    have HRT := hid (HU4.out d2 (HU3.out hc))
    clear hc
    go_wp2_with fail
    go_end0
    exact ⟨rfl, d2, S1.out, HRT.out⟩

theorem sym_y (blk off cap : Nat) (d0 : Array Fd) (w0 : World) (R : RowK encFd kFd w0 blk off d0) (hsz : d0.size < 2305843009213693952) : ∀ (n a m b : Nat), b - a ≤ n → a < m → m < b → SymIsY blk off cap d0 w0 a m b
  | 0, a, m, b, hn, h1, h2 => by omega
  | n + 1, a, m, b, hn, h1, h2 => by
    by_cases c1 : m = a + 1
    · intro d w hs hb S hL hR
      exact sym_left_y blk off cap a m b d0 d w0 w R hs S c1 h2 hb (by omega) hR
    · by_cases c2 : b = m + 1
      · intro d w hs hb S hL hR
        exact sym_right_y blk off cap a m b d0 d w0 w R hs S (by omega) c2 hb (by omega) hL
      · exact sym_general_y blk off cap a m b d0 w0 R (by omega) (by omega) hsz (fun a' m' b' k1 k2 k3 => sym_y blk off cap d0 w0 R hsz n a' m' b' (by omega) k1 k2)

end Go.Proofs.Ytjehjjpdicimhaa

/-
  The contracts of stableCmpFunc and SortStableFunc of slices, over finds.
-/
namespace Go.Proofs.Ytjehjjpdicimhaa
open Go.RowKit Go.Sort Go.Lib Go.Shelf
attribute [local go_sem ↓] size_fd

theorem ins_swk_y (blk off cap a b : Nat) (d0 dk : Array Fd) (w0 W : World) (R : RowK encFd kFd w0 blk off d0) (hs : d0.size = dk.size) (S : SWK encFd kFd w0 blk off dk W) (hab : a ≤ b) (hb : b ≤ dk.size) (hsz : dk.size < 1152921504606846976) :
    Calls Try.prog 57 #[.slice (some ⟨blk, off, none⟩) dk.size cap, .int .i64 a, .int .i64 b, .func (.func 29) #[] #[]] W fun e w' =>
      e = .returned (.tuple #[]) ∧ ∃ dl, SWK encFd kFd w0 blk off dl w' ∧ PermIn a b dk dl ∧ SortedIn (ltOf cmpY) a b dl ∧ Stab Fd.key dk dl := by
  refine (ins_y blk off cap a b dk W (S.holds R.hblk R.hH hs.symm) (S.lt R.hblk) hab hb (by omega)).mono ?_
  rintro e w' ⟨rfl, n, os, rfl⟩
  obtain ⟨h1, h2⟩ := insertionSort_holds swoY dk a b hab hb
  exact ⟨rfl, _, S.on R.hblk n _ os h1.1, h1, h2, insertionSort_stab (K := Fd.key) ltY_ne dk a b hb⟩

set_option maxHeartbeats 4000000 in
set_option maxRecDepth 1000000 in
theorem stable_y (blk off cap : Nat) (d : Array Fd) (w : World) (hH : HoldsK encFd kFd w blk off d) (hblk : blk < w.heap.size) (hsz : d.size < 1152921504606846976) :
    Calls Try.prog 42 #[.slice (some ⟨blk, off, none⟩) d.size cap, .int .i64 d.size, .func (.func 29) #[] #[]] w fun e w' => e = .returned (.tuple #[]) ∧ SortsY w blk off d w' := by
  have RR : Aside (RowK encFd kFd w blk off d) := ⟨fun _ => rfl, encFd_one, hH, hblk⟩
  have S0 : Aside (SWK encFd kFd w blk off d w) := SWK.start hH
  clear hH hblk
  go_enter Try.func42, Try.ntmps42
  go_wp2_with fail
  go_loopg [7, 8] d.size (fun kx va vb wr => ∃ (A B q : Nat) (dk : Array Fd), va = .int .i64 A ∧ vb = .int .i64 B ∧ B = A + 20 ∧ Hid (A = q * 20) ∧ A ≤ d.size ∧ d.size - A ≤ kx ∧ Aside (Way Fd.key d dk) ∧ Aside (SegTo (ltOf cmpY) 20 q dk) ∧ Aside (SWK encFd kFd w blk off dk wr))
  case atStart => exact ⟨0, 20, 0, d, rfl, rfl, rfl, (show Hid _ from by simp [Hid]), by omega, by omega, Way.refl _ _, segTo_zero _ _ _, S0⟩
  case round =>
  clear S0
  obtain ⟨A, B, q, dk, rfl, rfl, hB, HA, hAn, hkx, HW, HG, S1⟩ := hrel
  have hdk : dk.size = d.size := HW.out.size
  by_cases hlt : B ≤ d.size
  · have hltz : (B : Int) ≤ (d.size : Int) := by omega
    have hc := ins_swk_y blk off cap A B d dk w wr RR.out hdk.symm S1.out (by omega) (by omega) (by omega)
    rw [hdk] at hc
    have HC := hid hc
    have HB := hid hB
    have hAB : A < B := by omega
    clear hc S1 hB
    go_wp2_with (first | (go_at_call 57; refine HC.out.mono ?_; rintro e w1 ⟨rfl, dl, hs1, hp1, ho1, ht1⟩; have HS1 : Aside _ := hs1; have HP1 := hid hp1; have HO1 := hid ho1; have HT1 := hid ht1; clear hs1 hp1 ho1 ht1))
    go_roundg (d.size - B)
    case measure => omega
    case rel =>
      have hb := HB.out
      have ha := HA.out
      have hp := HP1.out
      have ho := HO1.out
      rw [hb, ha] at hp ho
      exact ⟨B, B + 20, q + 1, dl, by first | rfl | go_num, by first | rfl | go_num, rfl, (show Hid _ from by show B = _; omega), hlt, by omega, HW.out.step HP1.out hlt HT1.out, HG.out.step hp ho, HS1⟩
  have hltz : ¬ (B : Int) ≤ (d.size : Int) := by omega
  have hc := ins_swk_y blk off cap A d.size d dk w wr RR.out hdk.symm S1.out hAn (by omega) (by omega)
  rw [hdk] at hc
  have HC := hid hc
  have hseg : ∀ dl, PermIn A d.size dk dl → SortedIn (ltOf cmpY) A d.size dl → SegFrom (ltOf cmpY) 20 0 d.size dl := fun dl h1 h2 => by
    have ha := HA.out
    refine HG.out.last (by omega) ?_ ?_
    · rw [← ha]; exact h1
    · rw [← ha]; exact h2
  have HSEG := hid hseg
  clear hc S1 hseg hB hkx
  go_wp2_with (first | (go_at_call 57; refine HC.out.mono ?_; rintro e w1 ⟨rfl, dl, hs1, hp1, ho1, ht1⟩; have HS1 : Aside _ := hs1; have HW1 : Aside (Way Fd.key d dl) := HW.out.step hp1 (Nat.le_refl _) ht1; have HF1 : Aside _ := HSEG.out dl hp1 ho1; clear hs1 hp1 ho1 ht1))
  clear HC HSEG HW HG HA hdk
  go_loopg [6] d.size (fun kx vc wr => ∃ (c : Nat) (dk : Array Fd), vc = .int .i64 c ∧ 0 < c ∧ d.size - c ≤ kx ∧ Aside (Way Fd.key d dk) ∧ Aside (SegFrom (ltOf cmpY) c 0 d.size dk) ∧ Aside (SWK encFd kFd w blk off dk wr))
  case atStart => exact ⟨20, dl, rfl, by omega, by omega, HW1, HF1, HS1⟩
  case round =>
  clear HW1 HF1 HS1
  obtain ⟨c, dk, rfl, hc0, hkx, HW, HF, S1⟩ := hrel
  by_cases hlt : c < d.size
  · have hltz2 : (c : Int) < (d.size : Int) := by omega
    go_wp2_with fail
    go_loopg [7, 8] d.size (fun kx va vb wr => ∃ (A B q : Nat) (dk : Array Fd), va = .int .i64 A ∧ vb = .int .i64 B ∧ B = A + 2 * c ∧ Hid (A = q * (2 * c)) ∧ A ≤ d.size ∧ d.size - A ≤ kx ∧ Aside (Way Fd.key d dk) ∧ Aside (SegTo (ltOf cmpY) (2 * c) q dk) ∧ Aside (SegFrom (ltOf cmpY) c A d.size dk) ∧ Aside (SWK encFd kFd w blk off dk wr))
    case atStart => exact ⟨0, 2 * c, 0, dk, rfl, by first | rfl | go_num, by omega, (show Hid _ from by simp [Hid]), by omega, by omega, HW, segTo_zero _ _ _, HF, S1⟩
    case round =>
    clear HW HF S1
    obtain ⟨A, B, q, dm, rfl, rfl, hB, HA, hAn, hkx2, HW, HG, HF, S1⟩ := hrel
    have hdm : dm.size = d.size := HW.out.size
    obtain ⟨M, hM⟩ : ∃ M, A + c = M := ⟨_, rfl⟩
    have hMz : (A : Int) + (c : Int) = (M : Int) := by omega
    by_cases hlt3 : B ≤ d.size
    · have hltz3 : (B : Int) ≤ (d.size : Int) := by omega
      have hc := sym_y blk off cap d w RR.out (by omega) (B - A) A M B (Nat.le_refl _) (by omega) (by omega) dm wr hdm.symm (by omega) S1.out (by rw [← hM]; exact HF.out.first (by omega)) (by rw [← hM]; exact HF.out.second (by omega) hlt3)
      rw [hdm] at hc
      have HC := hid hc
      have HB := hid hB
      have hAB : A < B := by omega
      have hBw : IntKind.i64.wrap ((B : Int) + 2 * (c : Int)) = (B : Int) + 2 * (c : Int) := by rw [IntKind.wrap_i64]; omega
      clear hc S1 hB hM
      go_wp2_with (first | (go_at_call 58; refine HC.out.mono ?_; rintro e w1 ⟨rfl, dl, hs1, hm1⟩; have HS1 : Aside _ := hs1; have HM1 := hid hm1; clear hs1 hm1))
      go_roundg (d.size - B)
      case measure => omega
      case rel =>
        obtain ⟨hp1, ho1, ht1⟩ := HM1.out
        have hb := HB.out
        have ha := HA.out
        have hp := hp1
        have ho := ho1
        have hp2 := hp1
        rw [hb] at hp2
        rw [hb, ha] at hp ho
        refine ⟨B, B + 2 * c, q + 1, dl, by first | rfl | go_num, by first | rfl | go_num, rfl, (show Hid _ from ?_), hlt3, by omega, HW.out.step hp1 hlt3 ht1, HG.out.step hp ho, ?_, HS1⟩
        · show B = (q + 1) * (2 * c)
          rw [Nat.add_mul, Nat.one_mul, ← ha]; exact hb
        · rw [hb]; exact HF.out.step hp2
    have hltz3 : ¬ (B : Int) ≤ (d.size : Int) := by omega
    have hcw : IntKind.i64.wrap ((c : Int) * 2) = (c : Int) * 2 := by rw [IntKind.wrap_i64]; omega
    have hseg : ∀ dl, PermIn A d.size dm dl → SortedIn (ltOf cmpY) A d.size dl → SegFrom (ltOf cmpY) (2 * c) 0 d.size dl := fun dl h1 h2 => by
      have ha := HA.out
      refine HG.out.last (by omega) ?_ ?_
      · rw [← ha]; exact h1
      · rw [← ha]; exact h2
    have HSEG := hid hseg
    clear hseg
    by_cases hlt4 : M < d.size
    · have hltz4 : (M : Int) < (d.size : Int) := by omega
      have hc := sym_y blk off cap d w RR.out (by omega) (d.size - A) A M d.size (Nat.le_refl _) (by omega) hlt4 dm wr hdm.symm (by omega) S1.out (by rw [← hM]; exact HF.out.first (by omega)) (by rw [← hM]; exact HF.out.second (by omega) (Nat.le_refl _))
      rw [hdm] at hc
      have HC := hid hc
      clear hc S1 hM hB
      go_wp2_with (first | (go_at_call 58; refine HC.out.mono ?_; rintro e w1 ⟨rfl, dl, hs1, hm1⟩; have HS1 : Aside _ := hs1; have HM1 := hid hm1; clear hs1 hm1))
      go_roundg (d.size - 2 * c)
      case measure => omega
      case rel =>
        obtain ⟨hp1, ho1, ht1⟩ := HM1.out
        exact ⟨2 * c, dl, by first | rfl | go_num, by omega, by omega, HW.out.step hp1 (Nat.le_refl _) ht1, HSEG.out dl hp1 ho1, HS1⟩
    · have hltz4 : ¬ (M : Int) < (d.size : Int) := by omega
      have HSO := hid (HF.out.short (show d.size ≤ A + c by omega))
      clear hM hB
      go_wp2_with fail
      go_roundg (d.size - 2 * c)
      case measure => omega
      case rel => exact ⟨2 * c, dm, by first | rfl | go_num, by omega, by omega, HW, HSEG.out dm (permIn_refl _ _ _) HSO.out, S1⟩
  · have hltz2 : ¬ (c : Int) < (d.size : Int) := by omega
    go_wp2_with fail
    go_end0
    obtain ⟨n, os, hw⟩ := S1.out
    exact ⟨rfl, dk, n, os, HW.out.1, HF.out.short (by omega), HW.out.2, hw⟩

set_option maxHeartbeats 1000000 in
theorem sort_y (blk off cap : Nat) (d : Array Fd) (w : World) (hH : HoldsK encFd kFd w blk off d) (hblk : blk < w.heap.size) (hsz : d.size < 1152921504606846976) :
    Calls Try.prog 28 #[.slice (some ⟨blk, off, none⟩) d.size cap, .func (.func 29) #[] #[]] w fun e w' => e = .returned (.tuple #[]) ∧ SortsY w blk off d w' := by
  have HI := hid (stable_y blk off cap d w hH hblk hsz)
  clear hH
  go_enter Try.func28, Try.ntmps28
  go_wp2_with (first | (go_at_call 42; refine HI.out.mono ?_; rintro e w1 ⟨rfl, hs⟩))
  go_end0
  exact ⟨rfl, hs⟩

end Go.Proofs.Ytjehjjpdicimhaa

/-
  What is written, laid over what was found (stage 11): taken of a nil set; Over.
-/
namespace Go.Proofs.Ytjehjjpdicimhaa
open Go.RowKit Go.Maps Go.Sort

set_option maxHeartbeats 4000000 in
set_option maxRecDepth 100000 in
theorem taken_nil (W : World) (typ : ByteArray) (pa : Option Addr) (pc n : Nat) (mt : List Fld → Bool) :
    Calls Try.prog 27 #[.pointer none, .string typ, .slice pa n pc] W fun e w' => TkPost W [] typ mt e w' := by
  have HAL := hid (allW_nil W)
  have hrg := run_range_nilMap (P := Try.prog) W 57 27 63 Try.underlying57
  have hnx : ∀ ty, (Instr.next (.pointer (some ⟨W.heap.size, 0, none⟩)) false ty).run Try.prog (W.alloc (.mapIter none 0 #[] 0)) = _ := fun ty => run_next_nilMap W ty 0 0 #[]
  have HE : Hid (TkPost W [] typ mt (.returned (.slice none 0 0)) (W.alloc (.mapIter none 0 #[] 0))) := by
    have hb : Below W.heap.size W (W.alloc (.mapIter none 0 #[] 0)) := (Below.refl _ _).alloc (Nat.le_refl _) _
    exact ⟨_, [], [], rfl, TlSt.nil hb hb.size, rfl, List.nodup_nil, fun k hk => (by cases hk), Nat.le_refl _⟩
  go_enter Try.func27, Try.ntmps27
  go_wp2_with fail
  refine HAL.out.mono ?_
  rintro e w0 ⟨rfl, rfl⟩
  go_wp2_with fail
  refine wp_loop_rounds 1 ?_
  rw [rounds_succ]
  go_wp2_with fail
  go_ret
  exact HE.out

/-! ## Laid behind each other, and sorted -/

theorem apart_perm {a b : List Fd} (h : ApartF a) (hp : a.Perm b) : ApartF b :=
  (hp.pairwise_iff (fun hxy k hy hx => hxy k hx hy)).1 h

theorem perm_of {d d' : Array Fd} (hp : PermIn 0 d.size d d') : d'.size = d.size ∧ d.toList.Perm d'.toList := by
  obtain ⟨h1, _, h3⟩ := hp
  have e1 : (d'.extract 0 d.size).toList = d'.toList := by rw [← h1]; simp
  have e2 : (d.extract 0 d.size).toList = d.toList := by simp
  rw [e1, e2] at h3
  exact ⟨h1, h3.symm⟩

theorem filter_fnd (l : List Fd) (c : Ky) : (l.map Fd.fnd).filter (fun y => decide (y.1 = c)) = (l.filter fun x => decide (x.key = c)).map Fd.fnd := by
  rw [List.filter_map]
  rfl

/-- A row of finds, sorted in place by their keys, equals as they stood. -/
theorem stabrow_any {W : World} {v : Value} {fs : List Fd} {w : World} (h : TlSt W.heap.size W v fs w) (hl : fs.length ≤ 2400000000000) :
    Calls Try.prog 28 #[v, .func (.func 29) #[] #[]] w fun e w' => e = .returned (.tuple #[]) ∧ ∃ l : List Fd, TlSt W.heap.size W v l w' ∧ l.map Fd.fnd = sortP (fs.map Fd.fnd) := by
  rcases h.row.own.2 with ⟨rfl, hz⟩ | ⟨g, cap, cur, rfl, _⟩
  · obtain rfl := List.length_eq_zero_iff.1 hz
    refine (sort_none_y none 0 _ w).mono ?_
    rintro e w' ⟨rfl, rfl⟩
    exact ⟨rfl, [], h, rfl⟩
  · have hge := Kind.own_ge h.row.own
    have hH : HoldsK encFd kFd w g 0 fs.toArray := Kind.own_holds h.row.own
    have := sort_y g 0 cap fs.toArray w hH hge.2.1 (by simp; omega)
    simp only [List.size_toArray] at this
    refine this.mono ?_
    rintro e w' ⟨rfl, d', n, os, hp, hs, ht, rfl⟩
    obtain ⟨hsz, hperm⟩ := perm_of hp
    have hsz' : d'.size = fs.length := by simpa using hsz
    have fr : Fr (fun b => b = g) w (sortWorldK encFd kFd w g 0 n d' os) := by
      have hb := below_sortK encFd kFd (B := g) (Below.refl _ w) (by have := hge.2.1; omega) g 0 n d' os (Nat.le_refl _)
      refine ⟨hb.os, hb.tape, hb.output, hb.size, fun k hk hn => ?_⟩
      simp only [sortWorldK, Sort.grow, putRowK, putRow, mapBlock, Sort.ahead]
      rw [Array.getElem?_append_left (by simpa using hk), Array.getElem?_modify, if_neg (fun e => hn e.symm)]
    have hmem : ∀ f, f ∈ d'.toList ↔ f ∈ fs := fun f => by
      have := hperm.mem_iff (a := f)
      simpa using this.symm
    refine ⟨rfl, d'.toList, ⟨⟨Kind.own_sorted h.row.own d' hsz' n os, h.row.bel.trans (fr.below h.row.base fun k hk => by rw [hk]; exact hge.1), Nat.le_trans h.row.base fr.size⟩, fun f hf => ?_, apart_perm h.apart (by simpa using hperm)⟩, ?_⟩
    · have hv := h.val f ((hmem f).1 hf)
      refine ⟨ownJ_fr hv.1 fr fun k hk e => ?_, hv.2⟩
      subst e
      exact fd_off h.row.own hv.1 k rfl hk
    · refine sortP_is ?_ fun c => ?_
      · refine List.pairwise_map.2 (List.pairwise_iff_getElem.2 fun i j hi hj hij => ?_)
        have hi' : i < d'.size := by simpa using hi
        have hj' : j < d'.size := by simpa using hj
        have := hs i j (Nat.zero_le _) hij (by omega)
        rw [getElem!_pos d' i hi', getElem!_pos d' j hj', ltY] at this
        have hk : ∀ a b : Ky, ltOf Z.cmpK a b = ltKy a b := fun a b => by
          rw [Bool.eq_iff_iff]
          exact (decide_eq_true_iff).trans (z_lt a b)
        rw [hk] at this
        have e1 : (d'.toList[i]) = d'[i] := by simp
        have e2 : (d'.toList[j]) = d'[j] := by simp
        rw [e1, e2]
        exact this
      · rw [filter_fnd, filter_fnd]
        have := ht c
        simp only at this
        rw [this]

/-- Both lists, one behind the other. -/
theorem TlSt.joined {W : World} {v1 v2 v3 : Value} {fs1 fs2 : List Fd} {w1 w2 w3 : World} (h1 : TlSt W.heap.size W v1 fs1 w1) (h2 : TlSt w1.heap.size w1 v2 fs2 w2) (hrow : w3.ownsRow W.heap.size 49 7 v3 (fs1.length + fs2.length) (KFd.cells fs1 ++ KFd.cells fs2)) (hg : w2.grownBy w3 v1.ownBlock) : TlSt W.heap.size W v3 (fs1 ++ fs2) w3 := by
  have hb12 : Below w1.heap.size w1 w2 := h2.row.bel
  have h1' := h1.on hb12
  have hk : ∀ {B : Nat} u o, OwnJ B w2 u o → OwnJ B w3 u o := fun u o hJ => ownJ_fr hJ (Fr.of_grown (P := fun k => v1.ownBlock = some k) hg fun k hk => hk) fun k hb hv => fd_off h1'.row.own hJ k hv hb
  refine ⟨⟨?_, below_grown h1'.row.bel hg (fun k hk => (World.ownsRow.lt h1'.row.own k hk).1) h1'.row.base, Nat.le_trans h1'.row.base hg.size⟩, fun f hf => ?_, List.pairwise_append.2 ⟨h1.apart, h2.apart, fun x hx y hy k hkx hky => ?_⟩⟩
  · show w3.ownsRow W.heap.size 49 7 v3 (fs1 ++ fs2).length (KFd.cells (fs1 ++ fs2))
    rw [List.length_append, KFd.cells_append]
    exact hrow
  · rcases List.mem_append.1 hf with hf | hf
    · exact ⟨hk _ _ (h1'.val f hf).1, (h1'.val f hf).2⟩
    · exact ⟨own_weakJ (hk _ _ (h2.val f hf).1) h1.row.base, (h2.val f hf).2⟩
  · have e1 := (ownJ_blk (h1.val x hx).1 k hkx).2
    have e2 := (ownJ_blk (h2.val y hy).1 k hky).1
    omega

theorem over_is {L : List RowW} (h : OkW L) {fs : List Fnd} {typ : ByteArray} {mt : List Fld → Bool} {ks : List Ky} (hn : ks.Nodup) (hall : ∀ k, (getW L k).isSome = true → k ∈ ks) : sortP (freeW L fs ++ ks.filterMap (hitK L typ mt)) = overW L fs typ mt := by
  unfold overW
  refine sortP_is (sortP_rise _) fun c => ?_
  rw [sortP_filter, List.filter_append, List.filter_append, hits_any h hn hall c]

set_option maxHeartbeats 4000000 in
set_option maxRecDepth 100000 in
theorem wover_gen {W : World} {r : Option Addr} {mp : Option Nat} {L : List RowW} (hok : OkW L) (h : SetAt W r mp L) (vf : Value) (fo : List Fd) (hfo : FoundIn W vf fo) (typ : ByteArray) (pa : Option Addr) (pc : Nat) (pt : List Tm) (hl : fo.length + L.length ≤ 100000000)
    (htk : ∀ w1, Below W.heap.size W w1 → Calls Try.prog 27 #[.pointer r, .string typ, .slice pa pt.length pc] w1 fun e w' => TkPost w1 L typ (matchM pt) e w') :
    Calls Try.prog 15 #[.pointer r, vf, .string typ, .slice pa pt.length pc] W fun e w' => FoPost W (overW L (fo.map Fd.fnd) typ (matchM pt)) e w' := by
  obtain ⟨i0, hi0, hz0, hz1, hz2⟩ := info_parts Try.infoFdS
  have HI0 := hid hi0
  have HSP := hid (spared_any h vf fo hfo (by omega))
  have HTK := hid htk
  have HOK := hid hok
  obtain ⟨pf, cf, rfl⟩ : ∃ p c, vf = .slice p fo.length c := by obtain ⟨p, c, h1, _⟩ := hfo.is; exact ⟨p, c, h1⟩
  obtain ⟨mt, hmt⟩ : ∃ mt, matchM pt = mt := ⟨_, rfl⟩
  rw [hmt] at HTK ⊢
  clear hi0 h hfo htk hok hmt
  go_enter Try.func15, Try.ntmps15
  go_wp2_with fail
  refine HSP.out.mono ?_
  rintro e w1 ⟨v1, fs1, rfl, ht1, hq1⟩
  obtain ⟨p1, c1, rfl⟩ := Kind.own_shape ht1.row.own
  have HTK1 := hid (HTK.out w1 ht1.row.bel)
  have HT1 := hid ht1
  have HQ1 := hid hq1
  clear ht1 hq1 HSP HTK
  go_wp2_with fail
  refine HTK1.out.mono ?_
  rintro e w2 ⟨v2, fs2, ks, rfl, ht2, hq2, hn, hall, hkl⟩
  obtain ⟨p2, c2, rfl⟩ := Kind.own_shape ht2.row.own
  have hlen1 : fs1.length ≤ fo.length := by
    have := congrArg List.length HQ1.out
    rw [List.length_map] at this
    rw [this]
    have := List.length_filter_le (fun f : Fnd => (getW L f.1).isNone) (fo.map Fd.fnd)
    rw [List.length_map] at this
    exact this
  have hlen2 : fs2.length ≤ L.length := by
    have := congrArg List.length hq2
    rw [List.length_map] at this
    rw [this]
    exact Nat.le_trans (List.length_filterMap_le _ _) hkl
  have hsrc := Kind.src (K := KFd) (w := w2) (p := p2) (d := fs2) (by
    obtain ⟨p, c, he, h⟩ := Kind.own_is ht2.row.own
    injection he with e1 _ _
    subst e1
    exact h)
  have HROW := hid (HT1.out.on ht2.row.bel).row.own
  have HBASE := hid (HT1.out.on ht2.row.bel).row.base
  have HSRC := hid hsrc
  have HJ : Hid (∀ v3 w3, w3.ownsRow W.heap.size 49 7 v3 (fs1.length + fs2.length) (KFd.cells fs1 ++ KFd.cells fs2) → w2.grownBy w3 (Value.slice p1 fs1.length c1).ownBlock → TlSt W.heap.size W v3 (fs1 ++ fs2) w3) := fun v3 w3 hr hg => HT1.out.joined ht2 hr hg
  have HEQ : Hid (sortP ((fs1 ++ fs2).map Fd.fnd) = overW L (fo.map Fd.fnd) typ mt) := by
    show sortP _ = _
    rw [List.map_append, HQ1.out, hq2]
    exact over_is HOK.out hn hall
  clear ht2 hq2 hn hall hkl hsrc HTK1 HT1 HQ1
  go_wp2_with (at_builtin; refine wpList_append_rows _ rfl _ _ 30 rfl W.heap.size 49 i0 _ 7 88 Try.underlying30 HI0.out hz0 hz1 hz2 rfl (by decide) _ fs1.length (KFd.cells fs1) rfl HROW.out p2 fs2.length c2 (KFd.cells fs2) rfl (KFd.cells_len fs2) HSRC.out (KFd.cells_ones _) (by unfold maxLen; omega) (by omega) HBASE.out ?_; intro v3 w3 hr3 hg3; have HT3 := hid (HJ.out v3 w3 hr3 hg3); clear hr3 hg3)
  obtain ⟨p3, c3, rfl⟩ := Kind.own_shape HT3.out.row.own
  have HSO := hid (stabrow_any HT3.out (by rw [List.length_append]; omega))
  go_wp2_with fail
  refine HSO.out.mono ?_
  rintro e w4 ⟨rfl, l, ht4, hq4⟩
  have HF : Hid (FoPost W (overW L (fo.map Fd.fnd) typ mt) (.returned (.slice p3 (fs1 ++ fs2).length c3)) w4) := ⟨_, l, rfl, ht4.row.own, ht4.val, ht4.apart, hq4.trans HEQ.out, ht4.row.bel⟩
  clear ht4 hq4 HSO
  go_wp2_with fail
  go_ret
  have hF := HF.out
  rw [List.length_append] at hF
  exact hF

theorem wover_any {n0 : Nat} {W : World} {B : Nat → Prop} {g : Nat} {L : List RowW} (h : PrgW n0 W B g L) (vf : Value) (fo : List Fd) (hfo : FoundIn W vf fo) (typ : ByteArray) (vp : Value) (pt : List Tm) (hp : KM.Is W vp pt) (hpf : FitM pt) (hl : fo.length + L.length ≤ 100000000) :
    Calls Try.prog 15 #[.pointer (some ⟨g, 0, none⟩), vf, .string typ, vp] W fun e w' => FoPost W (overW L (fo.map Fd.fnd) typ (matchM pt)) e w' := by
  obtain ⟨m, F, O, h⟩ := h
  obtain ⟨pa, pc, rfl⟩ : ∃ p c, vp = .slice p pt.length c := by obtain ⟨p, c, h1, _⟩ := hp; exact ⟨p, c, h1⟩
  exact wover_gen h.ok (SetAt.of h) vf fo hfo typ pa pc pt hl fun w1 hb => taken_any (h.on hb) typ pa pc pt (Kind.is_kept hp hb) hpf (by omega)
theorem wover_nil (W : World) (vf : Value) (fo : List Fd) (hfo : FoundIn W vf fo) (typ : ByteArray) (vp : Value) (pt : List Tm) (hp : KM.Is W vp pt) (hl : fo.length ≤ 100000000) :
    Calls Try.prog 15 #[.pointer none, vf, .string typ, vp] W fun e w' => FoPost W (overW [] (fo.map Fd.fnd) typ (matchM pt)) e w' := by
  obtain ⟨pa, pc, rfl⟩ : ∃ p c, vp = .slice p pt.length c := by obtain ⟨p, c, h1, _⟩ := hp; exact ⟨p, c, h1⟩
  exact wover_gen okW_nil (SetAt.nil W) vf fo hfo typ pa pc pt (by simpa using hl) fun w1 _ => taken_nil w1 typ pa pc pt.length (matchM pt)

/-- Package writes, as it landed. -/
def theSet : SetApi where
  Prg := PrgW
  blk h k hk := by obtain ⟨m, F, O, h⟩ := h; exact h.bounds k hk
  own h := by obtain ⟨m, F, O, h⟩ := h; exact (h.blk _).2 (Or.inl rfl)
  fr h f hP := by obtain ⟨m, F, O, h⟩ := h; exact ⟨m, F, O, h.fr f hP⟩
  ok h := by obtain ⟨m, F, O, h⟩ := h; exact h.ok
  new := wnew_any
  put h hn hl k hk v o val hv hf hval := wput_any h hn hl k hk v o val hv hf hval
  del h hn hl k hk := wdel_any h hn hl k hk
  forget h _ _ k hk := wforget_any h k hk
  get h _ k hk := wget_any h k hk
  keys h hl := wkeys_any h hl
  len h _ := wlen_any h
  over h vf fo hfo typ vp pt hp hpf hl := wover_any h vf fo hfo typ vp pt hp hpf hl
  put_nil := wput_nil
  del_nil := wdel_nil
  forget_nil := wforget_nil
  get_nil := wget_nil
  keys_nil := wkeys_nil
  len_nil := wlen_nil
  over_nil W vf fo hfo typ vp pt hp _ hl := wover_nil W vf fo hfo typ vp pt hp hl

end Go.Proofs.Ytjehjjpdicimhaa
