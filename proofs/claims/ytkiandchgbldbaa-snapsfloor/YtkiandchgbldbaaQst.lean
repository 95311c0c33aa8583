/-
  Registries along a run (stage 10): the program's alone, and the program's beside the reference's.
-/
import Derived.Test.YtkiandchgbldbaaQp1
import Derived.Test.YtkiandchgbldbaaQr1
namespace Go.Proofs.Ytkiandchgbldbaa
open Go.RowKit

/-- From V on only C's blocks and new ones have turned; the program's registry g has the snapshots os and the floor fl. -/
def OneV (n0 : Nat) (V : World) (C : Nat → Prop) (g : Nat) (os : Sn) (fl : Int) (W : World) : Prop := ∃ B, PrgQ n0 W B g os fl ∧ Fr C V W ∧ ∀ k, B k → C k ∨ V.heap.size ≤ k

theorem OneV.start {n0 : Nat} {V : World} {B : Nat → Prop} {g : Nat} {os : Sn} {fl : Int} (h : PrgQ n0 V B g os fl) : OneV n0 V B g os fl V := ⟨B, h, Fr.refl _ _, fun _ hk => Or.inl hk⟩
theorem OneV.turn {n0 : Nat} {V : World} {C B : Nat → Prop} {g : Nat} {os' : Sn} {fl' : Int} {W w' : World} (f : Fr C V W) (hB : ∀ k, B k → C k ∨ V.heap.size ≤ k) (h : PTurn n0 W B g os' fl' w') : OneV n0 V C g os' fl' w' := by
  obtain ⟨B', h1, h2, h3⟩ := h
  exact ⟨B', h1, f.then h2 hB, fun k hk => (h3 k hk).elim (hB k) fun h => Or.inr (Nat.le_trans f.size h)⟩
theorem OneV.draws {n0 : Nat} {V : World} {C : Nat → Prop} {g : Nat} {os : Sn} {fl : Int} {W : World} (h : OneV n0 V C g os fl W) (n : Nat) : OneV n0 V C g os fl (W.drewN n) := by
  obtain ⟨B, h1, h2, h3⟩ := h
  exact ⟨B, h1.on (bel_drewN (Below.refl _ _) n), h2.draws n, h3⟩
theorem OneV.below {n0 : Nat} {V : World} {C : Nat → Prop} {g : Nat} {os : Sn} {fl : Int} {W : World} (h : OneV n0 V C g os fl W) {N : Nat} (hN : N ≤ V.heap.size) (hC : ∀ k, C k → N ≤ k) : Below N V W := by
  obtain ⟨B, h1, h2, h3⟩ := h
  exact h2.below hN hC
theorem OneV.cell {n0 : Nat} {V : World} {C : Nat → Prop} {g : Nat} {os : Sn} {fl : Int} {W : World} (h : OneV n0 V C g os fl W) {b o : Nat} {v : Value} (hc : V.cell? ⟨b, o, none⟩ = some v) (hb : ¬ C b) : W.cell? ⟨b, o, none⟩ = some v := by
  obtain ⟨B, h1, h2, h3⟩ := h
  exact (World.cell?_of_block (a := ⟨b, o, none⟩) (h2.block b (cell_block hc) hb)).trans hc

section
variable {n0 : Nat} {V : World} {C : Nat → Prop} {g : Nat} {os : Sn} {fl : Int} {W : World} (h : OneV n0 V C g os fl W)
include h

theorem one_open (x : Int) (hf : os.length < 40000000000000) : Calls Try.prog 15 #[.pointer (some ⟨g, 0, none⟩), .int .u64 x] W fun e w' => e = .returned (.tuple #[.int .i64 (openQ os fl x).1.1, .int .i64 (openQ os fl x).1.2]) ∧ OneV n0 V C g (openQ os fl x).2 fl w' := by
  obtain ⟨B, h1, h2, h3⟩ := h
  exact (popenQ_any n0 g os fl x B W h1 hf).mono fun e w' q => ⟨q.1, OneV.turn h2 h3 q.2⟩
theorem one_close (id : Int) (hid : MU.fit id) : Calls Try.prog 16 #[.pointer (some ⟨g, 0, none⟩), .int .i64 id] W fun e w' => e = .returned (.bool (atQ os id).isSome) ∧ OneV n0 V C g (closeQ os id) fl w' := by
  obtain ⟨B, h1, h2, h3⟩ := h
  exact (pcloseQ_any n0 g os fl id B W h1 hid).mono fun e w' q => ⟨q.1, OneV.turn h2 h3 q.2⟩
theorem one_stamp (id : Int) (hid : MU.fit id) : Calls Try.prog 18 #[.pointer (some ⟨g, 0, none⟩), .int .i64 id] W fun e w' => e = .returned (.tuple #[.int .u64 ((atQ os id).getD 0), .bool (atQ os id).isSome]) ∧ OneV n0 V C g os fl w' := by
  obtain ⟨B, h1, h2, h3⟩ := h
  exact (pstampQ_any n0 g os fl id B W h1 hid).mono fun e w' q => ⟨q.1, by rw [q.2]; exact ⟨B, h1, h2, h3⟩⟩
theorem one_count : Calls Try.prog 11 #[.pointer (some ⟨g, 0, none⟩)] W fun e w' => e = .returned (.int .i64 (countQ os : Nat)) ∧ OneV n0 V C g os fl w' := by
  obtain ⟨B, h1, h2, h3⟩ := h
  exact (pcountQ_any n0 g os fl B W h1).mono fun e w' q => ⟨q.1, by rw [q.2]; exact ⟨B, h1, h2, h3⟩⟩
theorem one_floor : Calls Try.prog 10 #[.pointer (some ⟨g, 0, none⟩)] W fun e w' => e = .returned (.int .u64 fl) ∧ OneV n0 V C g os fl w' := by
  obtain ⟨B, h1, h2, h3⟩ := h
  exact (pfloorQ_any n0 g os fl B W h1).mono fun e w' q => ⟨q.1, by rw [q.2]; exact ⟨B, h1, h2, h3⟩⟩
theorem one_least (now : Int) (hf : os.length < 40000000000000) : Calls Try.prog 13 #[.pointer (some ⟨g, 0, none⟩), .int .u64 now] W fun e w' => e = .returned (.int .u64 (leastQ os now)) ∧ OneV n0 V C g os fl w' := by
  obtain ⟨B, h1, h2, h3⟩ := h
  exact (pleastQ_any n0 g os fl now B W h1 hf).mono fun e w' q => ⟨q.1, OneV.turn h2 h3 q.2.1⟩
theorem one_raise (f : Int) (hf : os.length < 40000000000000) : Calls Try.prog 17 #[.pointer (some ⟨g, 0, none⟩), .int .u64 f] W fun e w' => e = .returned (.int .i64 (raiseQ os fl f).1) ∧ OneV n0 V C g os (raiseQ os fl f).2 w' := by
  obtain ⟨B, h1, h2, h3⟩ := h
  exact (praiseQ_any n0 g os fl f B W h1 hf).mono fun e w' q => ⟨q.1, OneV.turn h2 h3 q.2⟩
end

theorem one_new (W : World) : Calls Try.prog 8 #[] W fun e w' => ∃ g, e = .returned (.pointer (some ⟨g, 0, none⟩)) ∧ OneV W.heap.size W (fun _ => False) g [] 0 w' :=
  (pnewQ_any W.heap.size W (Nat.le_refl _)).mono fun _ _ ⟨B, g, he, hp, hb, hB⟩ => ⟨g, he, B, hp, Fr.of_below hb, fun k hk => Or.inr (hB k hk)⟩

/-- Both registries. -/
def TwoV (n0 : Nat) (V : World) (C : Nat → Prop) (g h : Nat) (os : Sn) (fl : Int) (os' : Sn) (fl' : Int) (W : World) : Prop :=
  ∃ B vs vc, PrgQ n0 W B g os fl ∧ RefQ n0 W h os' fl' vs vc ∧ (∀ k, B k → ¬ BlkR h vs vc k) ∧ Fr C V W ∧ ∀ k, (B k ∨ BlkR h vs vc k) → C k ∨ V.heap.size ≤ k

theorem TwoV.turn_p {n0 : Nat} {V : World} {C B : Nat → Prop} {g h : Nat} {vs vc : Value} {os' os1 : Sn} {fl' fl1 : Int} {W w' : World} (hr : RefQ n0 W h os' fl' vs vc) (hd : ∀ k, B k → ¬ BlkR h vs vc k) (f : Fr C V W) (hB : ∀ k, (B k ∨ BlkR h vs vc k) → C k ∨ V.heap.size ≤ k) (ht : PTurn n0 W B g os1 fl1 w') : TwoV n0 V C g h os1 fl1 os' fl' w' := by
  obtain ⟨B', h1, h2, h3⟩ := ht
  refine ⟨B', vs, vc, h1, hr.fr h2 fun k hk hb => hd k hb hk, fun k hk hb => ?_, f.then h2 fun k hk => hB k (Or.inl hk), fun k hk => ?_⟩
  · rcases h3 k hk with h4 | h4
    · exact hd k h4 hb
    · have := (hr.blk k hb).2
      omega
  · rcases hk with hk | hk
    · exact (h3 k hk).elim (fun h => hB k (Or.inl h)) fun h => Or.inr (Nat.le_trans f.size h)
    · exact hB k (Or.inr hk)
theorem TwoV.turn_r {n0 : Nat} {V : World} {C B : Nat → Prop} {g h : Nat} {vs vc : Value} {os os1 : Sn} {fl fl1 : Int} {W w' : World} (hp : PrgQ n0 W B g os fl) (hd : ∀ k, B k → ¬ BlkR h vs vc k) (f : Fr C V W) (hB : ∀ k, (B k ∨ BlkR h vs vc k) → C k ∨ V.heap.size ≤ k) (ht : RTurn n0 W h vs vc os1 fl1 w') : TwoV n0 V C g h os fl os1 fl1 w' := by
  obtain ⟨vs', vc', h1, h2, h3⟩ := ht
  refine ⟨B, vs', vc', hp.fr h2 fun k hk => hd k hk, h1, fun k hk hb => ?_, f.then h2 fun k hk => hB k (Or.inr hk), fun k hk => ?_⟩
  · rcases h3 k hb with h4 | h4
    · exact hd k hk h4
    · have := (hp.blk k hk).2
      omega
  · rcases hk with hk | hk
    · exact hB k (Or.inl hk)
    · exact (h3 k hk).elim (fun h => hB k (Or.inr h)) fun h => Or.inr (Nat.le_trans f.size h)
theorem TwoV.draws {n0 : Nat} {V : World} {C : Nat → Prop} {g h : Nat} {os : Sn} {fl : Int} {os' : Sn} {fl' : Int} {W : World} (t : TwoV n0 V C g h os fl os' fl' W) (n : Nat) : TwoV n0 V C g h os fl os' fl' (W.drewN n) := by
  obtain ⟨B, vs, vc, h1, h2, h3, h4, h5⟩ := t
  exact ⟨B, vs, vc, h1.on (bel_drewN (Below.refl _ _) n), h2.on (bel_drewN (Below.refl _ _) n), h3, h4.draws n, h5⟩
theorem TwoV.drew {n0 : Nat} {V : World} {C : Nat → Prop} {g h : Nat} {os : Sn} {fl : Int} {os' : Sn} {fl' : Int} {W : World} (t : TwoV n0 V C g h os fl os' fl' W) : TwoV n0 V C g h os fl os' fl' W.drew := t.draws 1
theorem TwoV.cell {n0 : Nat} {V : World} {C : Nat → Prop} {g h : Nat} {os : Sn} {fl : Int} {os' : Sn} {fl' : Int} {W : World} (t : TwoV n0 V C g h os fl os' fl' W) {b o : Nat} {v : Value} (hc : V.cell? ⟨b, o, none⟩ = some v) (hb : ¬ C b) : W.cell? ⟨b, o, none⟩ = some v := by
  obtain ⟨B, vs, vc, h1, h2, h3, h4, h5⟩ := t
  exact (World.cell?_of_block (a := ⟨b, o, none⟩) (h4.block b (cell_block hc) hb)).trans hc
theorem TwoV.below {n0 : Nat} {V : World} {C : Nat → Prop} {g h : Nat} {os : Sn} {fl : Int} {os' : Sn} {fl' : Int} {W : World} (t : TwoV n0 V C g h os fl os' fl' W) {N : Nat} (hN : N ≤ V.heap.size) (hC : ∀ k, C k → N ≤ k) : Below N V W := by
  obtain ⟨B, vs, vc, h1, h2, h3, h4, h5⟩ := t
  exact h4.below hN hC
theorem TwoV.flr {n0 : Nat} {V : World} {C : Nat → Prop} {g h : Nat} {os : Sn} {fl : Int} {os' : Sn} {fl' : Int} {W : World} (t : TwoV n0 V C g h os fl os' fl' W) : W.cell? ⟨h, 2, none⟩ = some (.int .u64 fl') := by
  obtain ⟨B, vs, vc, h1, ⟨st, cl, h2, _⟩, h3, h4, h5⟩ := t
  exact h2.cells.2.2
theorem TwoV.one {n0 : Nat} {V : World} {C : Nat → Prop} {g h : Nat} {os : Sn} {fl : Int} {os' : Sn} {fl' : Int} {W : World} (t : TwoV n0 V C g h os fl os' fl' W) : ∃ C', TwoV n0 W C' g h os fl os' fl' W ∧ (∀ k, C' k → n0 ≤ k ∧ k < W.heap.size) := by
  obtain ⟨B, vs, vc, h1, h2, h3, h4, h5⟩ := t
  refine ⟨fun k => B k ∨ BlkR h vs vc k, ⟨B, vs, vc, h1, h2, h3, Fr.refl _ _, fun k hk => Or.inl hk⟩, fun k hk => ?_⟩
  rcases hk with hk | hk
  · exact h1.blk k hk
  · exact h2.blk k hk

section
variable {n0 : Nat} {V : World} {C : Nat → Prop} {g h : Nat} {os : Sn} {fl : Int} {os' : Sn} {fl' : Int} {W : World} (t : TwoV n0 V C g h os fl os' fl' W)
include t

theorem two_open (x : Int) (hf : os.length < 40000000000000) : Calls Try.prog 15 #[.pointer (some ⟨g, 0, none⟩), .int .u64 x] W fun e w' => e = .returned (.tuple #[.int .i64 (openQ os fl x).1.1, .int .i64 (openQ os fl x).1.2]) ∧ TwoV n0 V C g h (openQ os fl x).2 fl os' fl' w' := by
  obtain ⟨B, vs, vc, h1, h2, h3, h4, h5⟩ := t
  exact (popenQ_any n0 g os fl x B W h1 hf).mono fun e w' q => ⟨q.1, TwoV.turn_p h2 h3 h4 h5 q.2⟩
theorem two_close (id : Int) (hid : MU.fit id) : Calls Try.prog 16 #[.pointer (some ⟨g, 0, none⟩), .int .i64 id] W fun e w' => e = .returned (.bool (atQ os id).isSome) ∧ TwoV n0 V C g h (closeQ os id) fl os' fl' w' := by
  obtain ⟨B, vs, vc, h1, h2, h3, h4, h5⟩ := t
  exact (pcloseQ_any n0 g os fl id B W h1 hid).mono fun e w' q => ⟨q.1, TwoV.turn_p h2 h3 h4 h5 q.2⟩
theorem two_stamp (id : Int) (hid : MU.fit id) : Calls Try.prog 18 #[.pointer (some ⟨g, 0, none⟩), .int .i64 id] W fun e w' => e = .returned (.tuple #[.int .u64 ((atQ os id).getD 0), .bool (atQ os id).isSome]) ∧ TwoV n0 V C g h os fl os' fl' w' := by
  obtain ⟨B, vs, vc, h1, h2, h3, h4, h5⟩ := t
  exact (pstampQ_any n0 g os fl id B W h1 hid).mono fun e w' q => ⟨q.1, by rw [q.2]; exact ⟨B, vs, vc, h1, h2, h3, h4, h5⟩⟩
theorem two_count : Calls Try.prog 11 #[.pointer (some ⟨g, 0, none⟩)] W fun e w' => e = .returned (.int .i64 (countQ os : Nat)) ∧ TwoV n0 V C g h os fl os' fl' w' := by
  obtain ⟨B, vs, vc, h1, h2, h3, h4, h5⟩ := t
  exact (pcountQ_any n0 g os fl B W h1).mono fun e w' q => ⟨q.1, by rw [q.2]; exact ⟨B, vs, vc, h1, h2, h3, h4, h5⟩⟩
theorem two_floor : Calls Try.prog 10 #[.pointer (some ⟨g, 0, none⟩)] W fun e w' => e = .returned (.int .u64 fl) ∧ TwoV n0 V C g h os fl os' fl' w' := by
  obtain ⟨B, vs, vc, h1, h2, h3, h4, h5⟩ := t
  exact (pfloorQ_any n0 g os fl B W h1).mono fun e w' q => ⟨q.1, by rw [q.2]; exact ⟨B, vs, vc, h1, h2, h3, h4, h5⟩⟩
theorem two_least (now : Int) (hf : os.length < 40000000000000) : Calls Try.prog 13 #[.pointer (some ⟨g, 0, none⟩), .int .u64 now] W fun e w' => e = .returned (.int .u64 (leastQ os now)) ∧ TwoV n0 V C g h os fl os' fl' w' := by
  obtain ⟨B, vs, vc, h1, h2, h3, h4, h5⟩ := t
  exact (pleastQ_any n0 g os fl now B W h1 hf).mono fun e w' q => ⟨q.1, TwoV.turn_p h2 h3 h4 h5 q.2.1⟩
theorem two_raise (f : Int) (hf : os.length < 40000000000000) : Calls Try.prog 17 #[.pointer (some ⟨g, 0, none⟩), .int .u64 f] W fun e w' => e = .returned (.int .i64 (raiseQ os fl f).1) ∧ TwoV n0 V C g h os (raiseQ os fl f).2 os' fl' w' := by
  obtain ⟨B, vs, vc, h1, h2, h3, h4, h5⟩ := t
  exact (praiseQ_any n0 g os fl f B W h1 hf).mono fun e w' q => ⟨q.1, TwoV.turn_p h2 h3 h4 h5 q.2⟩

theorem two_ropen (x : Int) (hf : os'.length < 17000000000000) (hn : n0 ≤ W.heap.size) : Calls Try.prog 19 #[.pointer (some ⟨h, 0, none⟩), .int .u64 x] W fun e w' => e = .returned (.tuple #[.int .i64 (openQ os' fl' x).1.1, .int .i64 (openQ os' fl' x).1.2]) ∧ TwoV n0 V C g h os fl (openQ os' fl' x).2 fl' w' := by
  obtain ⟨B, vs, vc, h1, h2, h3, h4, h5⟩ := t
  exact (ropenQ_any n0 h os' fl' x vs vc W h2 hf hn).mono fun e w' q => ⟨q.1, TwoV.turn_r h1 h3 h4 h5 q.2⟩
theorem two_rclose (id : Int) (hf : os'.length ≤ 17000000000000) : Calls Try.prog 20 #[.pointer (some ⟨h, 0, none⟩), .int .i64 id] W fun e w' => e = .returned (.bool (atQ os' id).isSome) ∧ TwoV n0 V C g h os fl (closeQ os' id) fl' w' := by
  obtain ⟨B, vs, vc, h1, h2, h3, h4, h5⟩ := t
  exact (rcloseQ_any n0 h os' fl' id vs vc W h2 hf).mono fun e w' q => ⟨q.1, TwoV.turn_r h1 h3 h4 h5 q.2⟩
theorem two_rstamp (id : Int) (hf : os'.length ≤ 17000000000000) : Calls Try.prog 21 #[.pointer (some ⟨h, 0, none⟩), .int .i64 id] W fun e w' => e = .returned (.tuple #[.int .u64 ((atQ os' id).getD 0), .bool (atQ os' id).isSome]) ∧ TwoV n0 V C g h os fl os' fl' w' := by
  obtain ⟨B, vs, vc, h1, h2, h3, h4, h5⟩ := t
  exact (rstampQ_any n0 h os' fl' id vs vc W h2 hf).mono fun e w' q => ⟨q.1, by rw [q.2]; exact ⟨B, vs, vc, h1, h2, h3, h4, h5⟩⟩
theorem two_rcount (hf : os'.length ≤ 17000000000000) : Calls Try.prog 12 #[.pointer (some ⟨h, 0, none⟩)] W fun e w' => e = .returned (.int .i64 (countQ os' : Nat)) ∧ TwoV n0 V C g h os fl os' fl' w' := by
  obtain ⟨B, vs, vc, h1, h2, h3, h4, h5⟩ := t
  exact (rcountQ_any n0 h os' fl' vs vc W h2 hf).mono fun e w' q => ⟨q.1, by rw [q.2]; exact ⟨B, vs, vc, h1, h2, h3, h4, h5⟩⟩
theorem two_rleast (now : Int) (hf : os'.length ≤ 17000000000000) : Calls Try.prog 14 #[.pointer (some ⟨h, 0, none⟩), .int .u64 now] W fun e w' => e = .returned (.int .u64 (leastQ os' now)) ∧ TwoV n0 V C g h os fl os' fl' w' := by
  obtain ⟨B, vs, vc, h1, h2, h3, h4, h5⟩ := t
  exact (rleastQ_any n0 h os' fl' now vs vc W h2 hf).mono fun e w' q => ⟨q.1, by rw [q.2]; exact ⟨B, vs, vc, h1, h2, h3, h4, h5⟩⟩
theorem two_rraise (f : Int) (hf : os'.length ≤ 17000000000000) : Calls Try.prog 22 #[.pointer (some ⟨h, 0, none⟩), .int .u64 f] W fun e w' => e = .returned (.int .i64 (raiseQ os' fl' f).1) ∧ TwoV n0 V C g h os fl os' (raiseQ os' fl' f).2 w' := by
  obtain ⟨B, vs, vc, h1, h2, h3, h4, h5⟩ := t
  exact (rraiseQ_any n0 h os' fl' f vs vc W h2 hf).mono fun e w' q => ⟨q.1, TwoV.turn_r h1 h3 h4 h5 q.2⟩
end

end Go.Proofs.Ytkiandchgbldbaa
