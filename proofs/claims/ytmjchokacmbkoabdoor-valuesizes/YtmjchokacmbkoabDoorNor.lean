/-
  The contract of Norm.
-/
import Derived.Test.YtmjchokacmbkoabDoorJoc
namespace Go.Proofs.YtmjchokacmbkoabDoor
open Go.RowKit Go.Sort Go.Lib

theorem joinS_all {P : ByteArray → Prop} {Q : ByteArray → Prop} (fs : List Fld) (h : ∀ f ∈ fs, P f.1 ∧ ∀ t ∈ f.2, Q t) : ∀ f ∈ joinS fs, P f.1 ∧ ∀ t ∈ f.2, Q t := by
  have : ∀ (l o : List Fld), (∀ f ∈ l, P f.1 ∧ ∀ t ∈ f.2, Q t) → (∀ f ∈ o, P f.1 ∧ ∀ t ∈ f.2, Q t) → ∀ f ∈ l.foldl joinStep o, P f.1 ∧ ∀ t ∈ f.2, Q t := by
    intro l
    induction l with
    | nil => intro o _ ho; exact ho
    | cons g l ih =>
      intro o hl ho
      rw [List.foldl_cons]
      refine ih _ (fun f hf => hl f (by simp [hf])) ?_
      have hg := hl g (by simp)
      rcases List.eq_nil_or_concat o with rfl | ⟨o', x, rfl⟩
      · intro f hf; rw [joinStep_nil, List.mem_singleton] at hf; subst hf; exact hg
      · rw [List.concat_eq_append] at ho ⊢
        have hx := ho x (by simp)
        by_cases e : x.1 = g.1
        · rw [joinStep_same _ _ _ e]
          intro f hf
          rw [List.mem_append, List.mem_singleton] at hf
          rcases hf with hf | rfl
          · exact ho f (by simp [hf])
          · refine ⟨hx.1, fun t ht => ?_⟩
            rw [List.mem_append] at ht
            exact ht.elim (hx.2 t) (hg.2 t)
        · rw [joinStep_other _ _ _ e]
          intro f hf
          rw [List.mem_append, List.mem_singleton] at hf
          rcases hf with hf | rfl
          · exact ho f hf
          · exact hg
  exact this fs [] h (fun f hf => by simp at hf)

theorem enters_misnamed : ∀ args w, (callFunc 24 args).run Tryd.prog w = .ok (.enter 24 args) w := enters_of Tryd.func24 (by kernel_rfl) rfl
theorem enters_bare : ∀ args w, (callFunc 26 args).run Tryd.prog w = .ok (.enter 26 args) w := enters_of Tryd.func26 (by kernel_rfl) rfl

/-- A field whose name a machine can hold. -/
def Fy : Type := { x : Fx // x.name.size ≤ maxLen }
instance : Inhabited Fy := ⟨⟨⟨⟨#[]⟩, none, 0, []⟩, Nat.zero_le _⟩⟩

def misB (f : Fld) : Bool := !fieldB f.1.data.toList
def bareB (f : Fld) : Bool := f.2.isEmpty

set_option maxHeartbeats 1000000 in
theorem has_none (p : Option Addr) (c : Nat) (fv : Value) (w : World) :
    Calls Tryd.prog 23 #[.slice p 0 c, fv] w fun e w' => e = .returned (.bool false) ∧ w' = w := by
  have hix : Calls Tryd.prog 42 #[.slice p 0 c, fv] w fun e w' => e = .returned (.int .i64 (-1)) ∧ w' = w := by
    go_enter Tryd.func42, Tryd.ntmps42
    go_wp2_with fail
    refine wp_loop_rounds 1 ?_
    rw [rounds_succ]
    go_wp2_with fail
    go_ret
    exact ⟨rfl, rfl⟩
  have HX := hid hix
  clear hix
  go_enter Tryd.func23, Tryd.ntmps23
  go_wp2_with (first | (go_at_call 42; refine HX.out.mono ?_; rintro e w1 ⟨rfl, rfl⟩))
  go_ret
  exact ⟨rfl, rfl⟩

theorem xs_enc {w : World} {b off : Nat} {d : List Fx} (h : XsAt w b off d) (j : Nat) (hj : j < d.length) (i : Nat) (v : Value) (hv : (encX d[j])[i]? = some v) : w.cell? ⟨b, off + j * 2 + i, none⟩ = some v := by
  obtain ⟨c0, c1⟩ := h j hj
  match i, hv with
  | 0, hv => simp [encX] at hv; subst hv; exact c0
  | 1, hv => simp [encX] at hv; subst hv; exact c1

theorem hasMis_any (v : Value) (d : List Fx) (w : World) (hv : IsXs w v d) (hf : FitX d) :
    Calls Tryd.prog 23 #[v, .func (.func 24) #[] #[]] w fun e w' => e = .returned (.bool ((d.map Fx.fld).any misB)) ∧ Below w.heap.size w w' := by
  obtain ⟨p, cap, rfl, hd, _⟩ := hv
  rcases hd with rfl | ⟨b, off, rfl, hx⟩
  · refine (has_none p cap _ w).mono ?_
    rintro e w' ⟨rfl, rfl⟩
    exact ⟨rfl, Below.refl _ _⟩
  · by_cases h0 : d = []
    · subst h0
      refine (has_none _ cap _ w).mono ?_
      rintro e w' ⟨rfl, rfl⟩
      exact ⟨rfl, Below.refl _ _⟩
    · have hlen : 0 < d.length := List.length_pos_iff.2 h0
      have hfn : ∀ x ∈ d, x.name.size ≤ maxLen := fun x hx => (hf.2 x hx).1
      have hl := hf.1
      unfold maxLen at hl
      obtain ⟨zs, hzs⟩ : ∃ zs : List Fy, zs.map (·.1) = d := ⟨d.attachWith _ hfn, List.attachWith_map_subtype_val ..⟩
      have hzl : zs.length = d.length := by rw [← hzs, List.length_map]
      have hc := AnyQ.slices_ContainsFunc (α := Fy) Tryd.hasFld 2 Tryd.isAgg30 Tryd.sizeOf30 (fun x => encX x.1) (fun _ => rfl) (fun x => misB x.1.fld) 24 #[] enters_misnamed b off d.length cap zs w
        (fun W x hb => (misnamed_any x.1 W x.2).mono fun _ _ ⟨h1, h2⟩ => ⟨h1, hb.trans (h2.below.mono hb.size)⟩) (by omega) (by omega) (cell_block (hx 0 hlen).1)
        (fun j hj i u hu => by
          have hj' : j < d.length := by omega
          rw [getElem!_pos zs j hj] at hu
          have e : (zs[j]).1 = d[j] := by subst hzs; simp
          rw [e] at hu
          exact xs_enc hx j hj' i u hu)
      change Calls Tryd.prog 23 _ _ _ at hc
      refine hc.mono ?_
      rintro e w' ⟨rfl, hb⟩
      refine ⟨ret_bool ?_, hb⟩
      rw [List.take_of_length_le (by omega), ← hzs]
      simp [List.any_map, Function.comp_def]

theorem hasBare_any (v : Value) (d : List Fx) (w : World) (hv : IsXs w v d) (hl : d.length ≤ maxLen) :
    Calls Tryd.prog 23 #[v, .func (.func 26) #[] #[]] w fun e w' => e = .returned (.bool ((d.map Fx.fld).any bareB)) ∧ Below w.heap.size w w' := by
  obtain ⟨p, cap, rfl, hd, _⟩ := hv
  unfold maxLen at hl
  rcases hd with rfl | ⟨b, off, rfl, hx⟩
  · refine (has_none p cap _ w).mono ?_
    rintro e w' ⟨rfl, rfl⟩
    exact ⟨rfl, Below.refl _ _⟩
  · by_cases h0 : d = []
    · subst h0
      refine (has_none _ cap _ w).mono ?_
      rintro e w' ⟨rfl, rfl⟩
      exact ⟨rfl, Below.refl _ _⟩
    · have hlen : 0 < d.length := List.length_pos_iff.2 h0
      have hc := AnyQ.slices_ContainsFunc (α := Fx) Tryd.hasFld 2 Tryd.isAgg30 Tryd.sizeOf30 encX (fun _ => rfl) (fun x => bareB x.fld) 26 #[] enters_bare b off d.length cap d w
        (fun W x hb => (bare_any x W).mono fun _ _ ⟨h1, h2⟩ => ⟨h1, hb.trans (h2.below.mono hb.size)⟩) (by omega) (by omega) (cell_block (hx 0 hlen).1)
        (fun j hj i u hu => by
          rw [getElem!_pos d j hj] at hu
          exact xs_enc hx j hj i u hu)
      change Calls Tryd.prog 23 _ _ _ at hc
      refine hc.mono ?_
      rintro e w' ⟨rfl, hb⟩
      refine ⟨ret_bool ?_, hb⟩
      rw [List.take_length]
      simp [List.any_map, Function.comp_def]

/-- What Norm answers. -/
def NormPost (w : World) (d : List Fx) (e : Ending) (w' : World) : Prop :=
  (((d.map Fx.fld).any misB = true ∧ e = .returned (.tuple #[.slice none 0 0, .int .i64 2])) ∨
   ((d.map Fx.fld).any misB = false ∧ ∃ ds, SortOf d ds ∧
     (((joinS (ds.map Fx.fld)).any bareB = true ∧ e = .returned (.tuple #[.slice none 0 0, .int .i64 3])) ∨
      ((joinS (ds.map Fx.fld)).any bareB = false ∧ mayB (joinS (ds.map Fx.fld)) = false ∧ e = .returned (.tuple #[.slice none 0 0, .int .i64 5])) ∨
      ((joinS (ds.map Fx.fld)).any bareB = false ∧ mayB (joinS (ds.map Fx.fld)) = true ∧ ∃ u o, e = .returned (.tuple #[u, .int .i64 0]) ∧ OwnJ w.heap.size w' u o ∧ o.map Fx.fld = joinS (ds.map Fx.fld))))) ∧ Below w.heap.size w w'

theorem joined_fit {d ds o : List Fx} (hf : FitX d) (hso : SortOf d ds) (ho : o.map Fx.fld = joinS (ds.map Fx.fld)) (htot : totF (d.map Fx.fld) * 16 ≤ 140737488355328) : FitX o := by
  have hall : ∀ f ∈ ds.map Fx.fld, f.1.size ≤ maxLen ∧ ∀ t ∈ f.2, t.size ≤ maxLen := fun f hf' => by
    obtain ⟨x, hx, rfl⟩ := List.mem_map.1 hf'
    have := hf.2 x (hso.1.mem_iff.1 hx)
    exact ⟨this.1, this.2.2⟩
  have hj := joinS_all (P := fun n => n.size ≤ maxLen) (Q := fun t => t.size ≤ maxLen) _ hall
  have htt : totF (joinS (ds.map Fx.fld)) = totF (d.map Fx.fld) := by
    rw [totF_joinS]; exact ((hso.1.map Fx.fld).map _).sum_nat
  refine ⟨?_, fun x hx => ?_⟩
  · have h1 := joinS_len (ds.map Fx.fld)
    rw [← ho, List.length_map, List.length_map] at h1
    have := hso.1.length_eq
    have := hf.1
    omega
  · have hm : x.fld ∈ joinS (ds.map Fx.fld) := by rw [← ho]; exact List.mem_map.2 ⟨x, hx, rfl⟩
    obtain ⟨h1, h2⟩ := hj _ hm
    refine ⟨h1, ?_, h2⟩
    have := totF_mem hm
    rw [htt] at this
    unfold maxLen
    omega

set_option maxHeartbeats 2000000 in
set_option maxRecDepth 100000 in
theorem norm_any (v : Value) (d : List Fx) (w : World) (hv : IsXs w v d) (hf : FitX d) (hl : d.length * 40 ≤ 140737488355328) (htot : totF (d.map Fx.fld) * 16 ≤ 140737488355328) :
    Calls Tryd.prog 7 #[v] w fun e w' => NormPost w d e w' := by
  have HM := hid (hasMis_any v d w hv hf)
  cases hmis : (d.map Fx.fld).any misB with
  | true =>
    rw [hmis] at HM
    clear hv
    go_enter Tryd.func7, Tryd.ntmps7
    go_wp2_with (first | (go_at_call 23; refine HM.out.mono ?_; rintro e w1 ⟨rfl, hb1⟩))
    go_ret2
    exact ⟨Or.inl ⟨hmis, rfl⟩, hb1⟩
  | false =>
    rw [hmis] at HM
    have HV := hid hv
    have HF := hid hf
    clear hv hf
    go_enter Tryd.func7, Tryd.ntmps7
    go_wp2_with (first | (go_at_call 23; refine HM.out.mono ?_; rintro e w1 ⟨rfl, hb1⟩) | (go_at_call 25; refine (joined_any v d w1 (HV.out.kept hb1) hl htot).mono ?_; rintro e w2 ⟨u, ds, o, rfl, hso, hoj, hom, hb2⟩; have HSO := hid hso; have HOJ := hid hoj; have HOM := hid hom; clear hso hoj hom))
    have hfo := joined_fit HF.out HSO.out HOM.out htot
    have hbar := hasBare_any u o w2 HOJ.out.1.is hfo.1
    rw [HOM.out] at hbar
    have HBA := hid hbar
    have HFO := hid hfo
    clear hbar hfo
    have hbw : Below w.heap.size w w2 := hb1.trans (hb2.mono hb1.size)
    cases hbb : (joinS (ds.map Fx.fld)).any bareB with
    | true =>
      rw [hbb] at HBA
      go_wp2_with (first | (go_at_call 23; refine HBA.out.mono ?_; rintro e w3 ⟨rfl, hb3⟩))
      go_ret2
      exact ⟨Or.inr ⟨hmis, ds, HSO.out, Or.inl ⟨hbb, rfl⟩⟩, hbw.trans (hb3.mono hbw.size)⟩
    | false =>
      rw [hbb] at HBA
      cases hmm : mayB (joinS (ds.map Fx.fld)) with
      | false =>
        go_wp2_with (first | (go_at_call 23; refine HBA.out.mono ?_; rintro e w3 ⟨rfl, hb3⟩; have hmy := hid (may_any u o w3 (HOJ.out.1.is.kept hb3) HFO.out); rw [HOM.out, hmm] at hmy) | (go_at_call 16; refine hmy.out.mono ?_; rintro e w4 ⟨rfl, hg4⟩))
        go_ret2
        exact ⟨Or.inr ⟨hmis, ds, HSO.out, Or.inr (Or.inl ⟨hbb, hmm, rfl⟩)⟩, (hbw.trans (hb3.mono hbw.size)).trans (hg4.below.mono (hbw.trans (hb3.mono hbw.size)).size)⟩
      | true =>
        go_wp2_with (first | (go_at_call 23; refine HBA.out.mono ?_; rintro e w3 ⟨rfl, hb3⟩; have hmy := hid (may_any u o w3 (HOJ.out.1.is.kept hb3) HFO.out); rw [HOM.out, hmm] at hmy) | (go_at_call 16; refine hmy.out.mono ?_; rintro e w4 ⟨rfl, hg4⟩))
        go_ret2
        have hoj4 := (HOJ.out.on hb3).on hg4.below
        exact ⟨Or.inr ⟨hmis, ds, HSO.out, Or.inr (Or.inr ⟨hbb, hmm, u, o, rfl, ⟨⟨own_weak hoj4.1.1 hb1.size, fun x hx => own_weak (hoj4.1.2 x hx) hb1.size⟩, hoj4.2⟩, HOM.out⟩)⟩, (hbw.trans (hb3.mono hbw.size)).trans (hg4.below.mono (hbw.trans (hb3.mono hbw.size)).size)⟩

end Go.Proofs.YtmjchokacmbkoabDoor
