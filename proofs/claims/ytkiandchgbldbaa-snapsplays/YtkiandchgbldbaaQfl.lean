/-
  SnapsFloor (stage 10): the floor never falls, and nothing that is open lies below it.
-/
import Derived.Test.YtkiandchgbldbaaQpl
import Derived.Test.YtkiandchgbldbaaKsu
namespace Go.Proofs.Ytkiandchgbldbaa
open Go.RowKit

/-- A row of ints. -/
def KJ : Kind Int := ⟨3, 1, fun x => [.int .i64 x], fun _ => rfl, by decide, fun x u hu => by simp at hu; subst hu; rfl⟩
theorem Try.infoIntq : (Try.prog.info? 3).map (fun i => (i.zero, i.size, i.bytes)) = some (some (.int .i64 0), 1, 8) := by kernel_rfl

theorem kj_rd {n0 : Nat} {W : World} {p : Option Addr} {n c : Nat} {d : List Int} (h : KJ.Own n0 W (.slice p n c) d) (i : Nat) (hi : i < d.length) : ∃ b, p = some ⟨b, 0, none⟩ ∧ W.cell? ⟨b, i, none⟩ = some (.int .i64 d[i]) ∧ W.frozen? ⟨b, i, none⟩ = false := by
  obtain ⟨b, rfl, _, _, hat, hz⟩ := Kind.own_form h (by omega)
  have := hat i hi 0 (.int .i64 d[i]) rfl
  have e : 0 + i * KJ.k + 0 = i := by show 0 + i * 1 + 0 = _; omega
  rw [e] at this
  exact ⟨b, rfl, this, hz i⟩

def idsQ (n : Nat) : List Int := (List.range n).map fun (i : Nat) => (i : Int) + 1
theorem idsQ_len (n : Nat) : (idsQ n).length = n := by simp [idsQ]
theorem idsQ_get (n i : Nat) (h : i < (idsQ n).length) : (idsQ n)[i] = (i : Int) + 1 := by simp [idsQ]
theorem idsQ_succ (n : Nat) : idsQ (n + 1) = idsQ n ++ [(n : Int) + 1] := by simp [idsQ, List.range_succ]

/-- The program's registry, and a row of all ids that were opened. -/
def FlS (n0 g : Nat) (os : Sn) (fl : Int) (v : Value) (W : World) : Prop :=
  n0 ≤ W.heap.size ∧ OkQ os fl ∧ ∃ C, OneV n0 W C g os fl W ∧ (∀ k, C k → n0 ≤ k ∧ k < W.heap.size) ∧ KJ.Own n0 W v (idsQ os.length) ∧ ∀ k, v.ownBlock = some k → ¬ C k

theorem OneV.rebase {n0 : Nat} {V : World} {C : Nat → Prop} {g : Nat} {os : Sn} {fl : Int} {W : World} (h : OneV n0 V C g os fl W) : ∃ C', OneV n0 W C' g os fl W ∧ (∀ k, C' k → n0 ≤ k ∧ k < W.heap.size) ∧ (∀ k, C' k → C k ∨ V.heap.size ≤ k) ∧ Fr C V W := by
  obtain ⟨B, h1, h2, h3⟩ := h
  exact ⟨B, OneV.start h1, h1.blk, h3, h2⟩

theorem OneV.alloc {n0 : Nat} {C : Nat → Prop} {g : Nat} {os : Sn} {fl : Int} {W : World} (t : OneV n0 W C g os fl W) (o : Obj) : OneV n0 (W.alloc o) C g os fl (W.alloc o) := by
  obtain ⟨B, h1, h4, h5⟩ := t
  have hb : Below W.heap.size W (W.alloc o) := (Below.refl _ _).alloc (Nat.le_refl _) _
  refine ⟨B, h1.on hb, Fr.refl _ _, fun k hk => ?_⟩
  rcases h5 k hk with h6 | h6
  · exact Or.inl h6
  · have := (h1.blk k hk).2
    omega

/-- Behind calls of the registry alone. -/
theorem FlS.of {n0 g : Nat} {V : World} {C : Nat → Prop} {os os' : Sn} {fl' : Int} {v : Value} {W : World} (t : OneV n0 V C g os' fl' W) (hn : n0 ≤ V.heap.size) (hok : OkQ os' fl') (ho : KJ.Own n0 V v (idsQ os.length)) (hl : os'.length = os.length) (hd : ∀ k, v.ownBlock = some k → ¬ C k) : FlS n0 g os' fl' v W := by
  obtain ⟨C', h1, h2, h3, h4⟩ := t.rebase
  refine ⟨Nat.le_trans hn h4.size, hok, C', h1, h2, by rw [hl]; exact h4.row ho hd, fun k hk hc => ?_⟩
  rcases h3 k hc with h5 | h5
  · exact hd k hk h5
  · have := (World.ownsRow.lt ho k hk).2
    omega

/-- One id more in the row. -/
theorem FlS.push {n0 g : Nat} {V : World} {C : Nat → Prop} {os os' : Sn} {fl' : Int} {v v' : Value} {W w2 : World} (t : OneV n0 V C g os' fl' W) (hn : n0 ≤ V.heap.size) (hok : OkQ os' fl') (hl : os'.length = os.length + 1) (hvo : KJ.Own n0 V v (idsQ os.length)) (hd : ∀ k, v.ownBlock = some k → ¬ C k)
    {o : Obj} (hg : (W.alloc o).grownBy w2 v.ownBlock) (ho : KJ.Own n0 w2 v' (idsQ os.length ++ [(os.length : Int) + 1])) (hat : v'.ownBlock = v.ownBlock ∨ ∃ k, v'.ownBlock = some k ∧ W.heap.size ≤ k) (hC : ∀ k, C k → n0 ≤ k) : FlS n0 g os' fl' v' w2 ∧ Below n0 V w2 := by
  obtain ⟨C', h1, h2, h3, h4⟩ := t.rebase
  have hb : Below W.heap.size W (W.alloc o) := (Below.refl _ _).alloc (Nat.le_refl _) _
  have hlv : ∀ k, v.ownBlock = some k → n0 ≤ k ∧ k < V.heap.size := fun k hk => World.ownsRow.lt hvo k hk
  have hdis : ∀ k, v.ownBlock = some k → ¬ C' k := fun k hk hc => by
    rcases h3 k hc with h5 | h5
    · exact hd k hk h5
    · have := (hlv k hk).2
      omega
  have f2 : Fr (fun k => v.ownBlock = some k) W w2 := (Fr.of_below (P := fun k => v.ownBlock = some k) hb).then (Fr.of_grown (P := fun k => v.ownBlock = some k) hg fun k hk => hk) fun k hk => Or.inl hk
  refine ⟨⟨Nat.le_trans hn (Nat.le_trans h4.size f2.size), hok, C', ?_, fun k hk => ?_, ?_, fun k hk hc => ?_⟩, ?_⟩
  · obtain ⟨B, q1, q2, q3⟩ := h1
    refine ⟨B, q1.fr f2 fun k hk hv => hdis k hv ?_, Fr.refl _ _, fun k hk => ?_⟩
    · rcases q3 k hk with h6 | h6
      · exact h6
      · have := (q1.blk k hk).2
        omega
    · rcases q3 k hk with h6 | h6
      · exact Or.inl h6
      · have := (q1.blk k hk).2
        omega
  · have := h2 k hk
    have := f2.size
    omega
  · rw [hl, idsQ_succ]
    exact ho
  · rcases hat with e | ⟨k', e, hk'⟩
    · exact hdis k (by rw [← e]; exact hk) hc
    · rw [hk] at e
      injection e with e
      have := (h2 k hc).2
      omega
  · have b1 := h4.below hn hC
    exact b1.trans (f2.below (Nat.le_trans hn h4.size) fun k hk => (hlv k hk).1)

theorem FlS.below {n0 g : Nat} {os : Sn} {fl : Int} {v : Value} {W : World} (h : FlS n0 g os fl v W) : n0 ≤ W.heap.size := h.1

end Go.Proofs.Ytkiandchgbldbaa
