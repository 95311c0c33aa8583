/-
  fixed answers true.
-/
import Derived.Test.YtmjchokacmbkoabDoorFix0
namespace Go.Proofs.YtmjchokacmbkoabDoor
open Go.RowKit Go.Sort Go.Lib

theorem fitF_small (fs : List Fld) (h : fs.all (fun f => decide (f.1.size ≤ 100) && decide (f.2.length ≤ 100) && f.2.all fun t => decide (t.size ≤ 100)) = true) : ∀ f ∈ fs, FitF f := by
  intro f hf
  rw [List.all_eq_true] at h
  have := h f hf
  simp only [Bool.and_eq_true, decide_eq_true_eq, List.all_eq_true] at this
  exact ⟨Nat.le_trans this.1.1 (by decide), Nat.le_trans this.1.2 (by decide), fun t ht => Nat.le_trans (this.2 t ht) (by decide)⟩

theorem fitFx {d : List Fx} {fs : List Fld} (h : d.map Fx.fld = fs) (hl : fs.length ≤ 100) (hf : ∀ f ∈ fs, FitF f) : FitX d := by
  subst h
  rw [List.length_map] at hl
  exact ⟨Nat.le_trans hl (by decide), fun x hx => hf _ (List.mem_map.2 ⟨x, hx, rfl⟩)⟩

theorem fixA_fit : ∀ f ∈ fixA, FitF f := fitF_small _ (by decide)
theorem fixN_fit : ∀ f ∈ fixN, FitF f := fitF_small _ (by decide)
theorem fixE_fit : ∀ f ∈ fixE, FitF f := fitF_small _ (by decide)
theorem fixQ_fit : ∀ f ∈ fixQ, FitF f := fitF_small _ (by decide)

/-- What an answer of Norm or Parse is known by. -/
def OwnAns (w : World) (fs : List Fld) (n : Nat) (e : Ending) (w' : World) : Prop :=
  ∃ p c d, e = .returned (.tuple #[.slice p n c, .int .i64 0]) ∧ OwnXs w.heap.size w' (.slice p n c) d ∧ d.map Fx.fld = fs ∧ Below w.heap.size w w'

theorem own_len {n0 : Nat} {w : World} {u : Value} {d : List Fx} (h : OwnXs n0 w u d) : ∃ p c, u = .slice p d.length c := by
  rcases h.1.2 with ⟨rfl, h0⟩ | ⟨g, cap, cur, rfl, _⟩
  · exact ⟨none, 0, by rw [h0]⟩
  · exact ⟨_, _, rfl⟩

theorem ownAns_of {w w' : World} {u : Value} {d : List Fx} {fs : List Fld} {n : Nat} (hn : fs.length = n) (ho : OwnXs w.heap.size w' u d) (hm : d.map Fx.fld = fs) (hb : Below w.heap.size w w') : OwnAns w fs n (.returned (.tuple #[u, .int .i64 0])) w' := by
  obtain ⟨p, c, rfl⟩ := own_len ho
  have e : d.length = n := by rw [← hn, ← hm, List.length_map]
  rw [e] at ho ⊢
  exact ⟨p, c, d, rfl, ho, hm, hb⟩

theorem fix_norm (v : Value) (d : List Fx) (w : World) (hv : IsXs w v d) (hm : d.map Fx.fld = fixA) : Calls Tryd.prog 7 #[v] w fun e w' => OwnAns w fixN 2 e w' := by
  have hl : d.length = 3 := by have := congrArg List.length hm; simpa [fixA] using this
  refine (norm_any v d w hv (fitFx hm (by decide) fixA_fit) (by omega) (by rw [hm]; decide)).mono ?_
  intro e w' h
  have hp := h.ans.plain
  rw [hm, fixA_norm] at hp
  rcases hp with ⟨h1, _⟩ | ⟨_, ⟨h1, _⟩ | ⟨_, h1, _⟩ | ⟨_, _, u, o, rfl, ho, hom⟩⟩
  · rw [fixA_mis] at h1; cases h1
  · rw [fixN_bare] at h1; cases h1
  · rw [fixN_may] at h1; cases h1
  · exact ownAns_of rfl ho.1 hom h.2

theorem fix_print (v : Value) (d : List Fx) (w : World) (hp : PlainAt w) (hv : IsXs w v d) (hm : d.map Fx.fld = fixN) :
    Calls Tryd.prog 15 #[v] w fun e w' => e = .returned (.tuple #[.string ⟨#[97, 61, 121, 32, 98, 61, 120, 32, 98, 61, 122]⟩, .int .i64 0]) ∧ Below w.heap.size w w' := by
  have := print_yes v d w hp hv (fitFx hm (by decide) fixN_fit) (by rw [hm]; exact fixN_may)
  rw [hm, fixN_line] at this
  exact this

theorem fix_encode (v : Value) (d : List Fx) (w : World) (hv : IsXs w v d) (hm : d.map Fx.fld = fixE) :
    Calls Tryd.prog 18 #[v] w fun e w' => ∃ g c, e = .returned (.tuple #[.slice (some ⟨g, 0, none⟩) 7 c, .int .i64 0]) ∧ OwnB w.heap.size w' (.slice (some ⟨g, 0, none⟩) 7 c) [1, 1, 97, 2, 1, 120, 0] ∧ Below w.heap.size w w' := by
  have h := encode_yes v d w hv (fitFx hm (by decide) fixE_fit) (by rw [hm]; exact fixE_may)
  rw [hm, fixE_enc] at h
  refine h.mono ?_
  rintro e w' ⟨⟨u, rfl, hb⟩, hq⟩
  rcases hb.2 with ⟨_, h0⟩ | ⟨g, cap, cur, rfl, _⟩
  · simp at h0
  · exact ⟨g, cap, rfl, hb, hq⟩

theorem own_rest {n0 : Nat} {w : World} {g c : Nat} {l : List UInt8} (h : OwnB n0 w (.slice (some ⟨g, 0, none⟩) l.length c) l) : RestAt w.heap.size w (.slice (some ⟨g, 0, none⟩) l.length c) l := by
  rcases h.2 with ⟨hv, _⟩ | ⟨g', cap, cur, hv, _, hg, hc, hcm, hsz, htk⟩
  · cases hv
  · cases hv
    refine ⟨_, _, rfl, by omega, by omega, Or.inr ⟨g, 0, rfl, (Array.getElem?_eq_some_iff.1 hg).1, fun i hi => ?_⟩⟩
    rw [Nat.zero_add, cell_of_row w g i cur _ _ hg]
    have : (Lib.byteCells l)[i]? = cur.toList[i]? := by
      rw [← htk, List.getElem?_take, if_pos (by omega)]
    rw [← Array.getElem?_toList, ← this]
    simp [Lib.byteCells, hi]

theorem fix_decode (g c : Nat) (n0 : Nat) (w : World) (hb : OwnB n0 w (.slice (some ⟨g, 0, none⟩) 7 c) [1, 1, 97, 2, 1, 120, 0]) : Calls Tryd.prog 19 #[.slice (some ⟨g, 0, none⟩) 7 c] w fun e w' => OwnAns w fixE 1 e w' := by
  refine (decode_any _ [1, 1, 97, 2, 1, 120, 0] w (own_rest hb)).mono ?_
  rintro e w' ⟨h | ⟨fs, hd, u, d, rfl, ho, hm⟩, hq⟩
  · rw [fixE_dec] at h; cases h.1
  · rw [fixE_dec] at hd; cases hd
    exact ownAns_of rfl ho hm hq

theorem fix_parse (w : World) (hp : PlainAt w) : Calls Tryd.prog 20 #[.string ⟨#[98, 61, 49, 32, 97, 61, 50]⟩] w fun e w' => OwnAns w fixQ 2 e w' := by
  have hl : (⟨#[98, 61, 49, 32, 97, 61, 50]⟩ : ByteArray).data.toList = [98, 61, 49, 32, 97, 61, 50] := rfl
  refine (parse_any _ w hp (by decide)).mono ?_
  rintro e w' ⟨h, hq⟩
  rw [hl, fix_words] at h
  rcases h with ⟨h, _⟩ | ⟨_, h, _⟩ | ⟨_, fs, d, h, hm, ha⟩
  · cases h
  · cases h
  · cases h
    have hp := ha.plain
    rw [hm, fixP_norm] at hp
    rcases hp with ⟨h1, _⟩ | ⟨_, ⟨h1, _⟩ | ⟨_, h1, _⟩ | ⟨_, _, u, o, rfl, ho, hom⟩⟩
    · rw [fixP_mis] at h1; cases h1
    · rw [fixQ_bare] at h1; cases h1
    · rw [fixQ_may] at h1; cases h1
    · exact ownAns_of rfl ho.1 hom hq

theorem fix_readc (w : World) (hp : PlainAt w) : Calls Tryd.prog 21 #[.string ⟨#[97, 37, 50, 48, 98]⟩] w fun e w' => e = .returned (.tuple #[.string ⟨#[97, 32, 98]⟩, .int .i64 0]) ∧ Below w.heap.size w w' := by
  have := read_any ⟨#[97, 37, 50, 48, 98]⟩ w hp (by decide)
  rw [show (⟨#[97, 37, 50, 48, 98]⟩ : ByteArray).data.toList = [97, 37, 50, 48, 98] from rfl, fix_read] at this
  exact this

theorem fix_writec (w : World) (hp : PlainAt w) : Calls Tryd.prog 22 #[.string ⟨#[97, 32, 98]⟩] w fun e w' => e = .returned (.string ⟨#[97, 37, 50, 48, 98]⟩) ∧ Below w.heap.size w w' := by
  have := write_any ⟨#[97, 32, 98]⟩ w hp (by decide)
  rw [show (⟨#[97, 32, 98]⟩ : ByteArray).data.toList = [97, 32, 98] from rfl, fix_write] at this
  exact this

theorem fix_may (v : Value) (d : List Fx) (w : World) (hv : IsXs w v d) (hm : d.map Fx.fld = fixN) : Calls Tryd.prog 16 #[v] w fun e w' => e = .returned (.bool true) ∧ Below w.heap.size w w' := by
  have := may_any v d w hv (fitFx hm (by decide) fixN_fit)
  rw [hm, fixN_may] at this
  exact this.mono fun _ _ ⟨h1, h2⟩ => ⟨h1, h2.below⟩

theorem fix_size (v : Value) (d : List Fx) (w : World) (hv : IsXs w v d) (hm : d.map Fx.fld = fixE) : Calls Tryd.prog 17 #[v] w fun e w' => e = .returned (.int .i64 7) ∧ Below w.heap.size w w' := by
  have := size_any v d w hv (fitFx hm (by decide) fixE_fit)
  rw [hm, fixE_size] at this
  exact this

theorem fix_equal (v : Value) (d : List Fx) (w : World) (hv : IsXs w v d) (hm : d.map Fx.fld = fixQ) : Calls Tryd.prog 8 #[v, v] w fun e w' => e = .returned (.bool true) ∧ Below w.heap.size w w' := by
  have := equal_any v v d d w hv hv (fitFx hm (by decide) fixQ_fit) (fitFx hm (by decide) fixQ_fit)
  rw [show decide (d.map Fx.fld = d.map Fx.fld) = true from decide_eq_true rfl] at this
  exact this.mono fun _ _ ⟨h1, h2⟩ => ⟨h1, h2.below⟩

theorem fix_textsc (v : Value) (d : List Fx) (w : World) (hv : IsXs w v d) (hm : d.map Fx.fld = fixN) : Calls Tryd.prog 10 #[v, .string ⟨#[98]⟩] w fun e w' => (∃ p c, e = .returned (.slice p 2 c)) ∧ Below w.heap.size w w' := by
  have hft := fitFx hm (by decide) fixN_fit
  have := texts_any v ⟨#[98]⟩ d w hv hft (fun x hx => by
    have hx' : x.fld ∈ fixN := by rw [← hm]; exact List.mem_map.2 ⟨x, hx, rfl⟩
    have h2 : ∀ f ∈ fixN, f.2.length ≤ 2 := by decide
    have h3 : x.txt.length ≤ 2 := h2 _ hx'
    omega)
  rw [hm, fix_texts] at this
  refine this.mono ?_
  rintro e w' ⟨⟨u, rfl, ho⟩, hq⟩
  obtain ⟨p, c, rfl⟩ := own_slice ho
  exact ⟨⟨p, c, rfl⟩, hq⟩

theorem lit_row {w : World} {b : Nat} {cs : Array Value} {T : TypeId} {d : List Fx} {n cap : Nat} (h : w.heap[b]? = some (.cells cs T (0, 0))) (hcs : cs.toList = cellsX d) (hn : n = d.length) (ht : ∀ x ∈ d, x.at w) : IsXs w (.slice (some ⟨b, 0, none⟩) n cap) d := by
  subst hn
  refine ⟨_, _, rfl, Or.inr ⟨b, 0, rfl, fun i hi => ?_⟩, ht⟩
  obtain ⟨c0, c1⟩ := cellsX_get d i hi
  rw [Nat.zero_add, cell_of_row w b _ cs _ _ h, cell_of_row w b _ cs _ _ h, ← Array.getElem?_toList, ← Array.getElem?_toList, hcs]
  exact ⟨c0, c1⟩

theorem lit_txt {w : World} {b : Nat} {cs : Array Value} {T : TypeId} {ts : List ByteArray} (h : w.heap[b]? = some (.cells cs T (0, 0))) (hcs : cs.toList = ts.map Value.string) : TxtAt w (some ⟨b, 0, none⟩) ts := by
  refine Or.inr ⟨b, 0, rfl, fun i hi => ?_⟩
  rw [Nat.zero_add, cell_of_row w b i cs _ _ h, ← Array.getElem?_toList, hcs]
  simp [hi]

theorem fix_norm0 (w : World) : Calls Tryd.prog 7 #[.slice (some ⟨w.heap.size + 1 + 1 + 1, 0, none⟩) 3 3]
    ((((w.alloc (.cells #[.string ⟨#[120]⟩] 9)).alloc (.cells #[.string ⟨#[121]⟩] 9)).alloc (.cells #[.string ⟨#[122]⟩] 9)).alloc
      (.cells #[.string ⟨#[98]⟩, .slice (some ⟨w.heap.size, 0, none⟩) 1 1, .string ⟨#[97]⟩, .slice (some ⟨w.heap.size + 1, 0, none⟩) 1 1, .string ⟨#[98]⟩, .slice (some ⟨w.heap.size + 1 + 1, 0, none⟩) 1 1] 30))
    fun e w' => ∃ p c d n0, e = .returned (.tuple #[.slice p 2 c, .int .i64 0]) ∧ OwnXs n0 w' (.slice p 2 c) d ∧ d.map Fx.fld = fixN ∧ Below w.heap.size w w' := by
  obtain ⟨w1, h1⟩ : ∃ w1, w.alloc (.cells #[.string ⟨#[120]⟩] 9) = w1 := ⟨_, rfl⟩
  obtain ⟨w2, h2⟩ : ∃ w2, w1.alloc (.cells #[.string ⟨#[121]⟩] 9) = w2 := ⟨_, rfl⟩
  obtain ⟨w3, h3⟩ : ∃ w3, w2.alloc (.cells #[.string ⟨#[122]⟩] 9) = w3 := ⟨_, rfl⟩
  have s1 : w1.heap.size = w.heap.size + 1 := by rw [← h1]; simp
  have s2 : w2.heap.size = w.heap.size + 1 + 1 := by rw [← h2]; simp; omega
  have s3 : w3.heap.size = w.heap.size + 1 + 1 + 1 := by rw [← h3]; simp; omega
  rw [h1, h2, h3]
  obtain ⟨w4, h4⟩ : ∃ w4, w3.alloc (.cells #[.string ⟨#[98]⟩, .slice (some ⟨w.heap.size, 0, none⟩) 1 1, .string ⟨#[97]⟩, .slice (some ⟨w.heap.size + 1, 0, none⟩) 1 1, .string ⟨#[98]⟩, .slice (some ⟨w.heap.size + 1 + 1, 0, none⟩) 1 1] 30) = w4 := ⟨_, rfl⟩
  have k4 : w4.heap[w.heap.size + 1 + 1 + 1]? = some (.cells #[.string ⟨#[98]⟩, .slice (some ⟨w.heap.size, 0, none⟩) 1 1, .string ⟨#[97]⟩, .slice (some ⟨w.heap.size + 1, 0, none⟩) 1 1, .string ⟨#[98]⟩, .slice (some ⟨w.heap.size + 1 + 1, 0, none⟩) 1 1] 30 (0, 0)) := by
    rw [← h4, ← s3]; exact heap_alloc_new w3 _
  have k3 : w4.heap[w.heap.size + 1 + 1]? = some (.cells #[.string ⟨#[122]⟩] 9 (0, 0)) := by
    rw [← h4, Below.heap_alloc _ _ _ (by omega), ← h3, ← s2]; exact heap_alloc_new w2 _
  have k2 : w4.heap[w.heap.size + 1]? = some (.cells #[.string ⟨#[121]⟩] 9 (0, 0)) := by
    rw [← h4, Below.heap_alloc _ _ _ (by omega), ← h3, Below.heap_alloc _ _ _ (by omega), ← h2, ← s1]; exact heap_alloc_new w1 _
  have k1 : w4.heap[w.heap.size]? = some (.cells #[.string ⟨#[120]⟩] 9 (0, 0)) := by
    rw [← h4, Below.heap_alloc _ _ _ (by omega), ← h3, Below.heap_alloc _ _ _ (by omega), ← h2, Below.heap_alloc _ _ _ (by omega), ← h1]; exact heap_alloc_new w _
  have hb : Below w.heap.size w w4 := by
    rw [← h4, ← h3, ← h2, ← h1]
    exact ((((Below.refl _ w).alloc (Nat.le_refl _) _).alloc (by simp) _).alloc (by simp; omega) _).alloc (by simp; omega) _
  rw [h4]
  refine (fix_norm _ [⟨⟨#[98]⟩, some ⟨w.heap.size, 0, none⟩, 1, [⟨#[120]⟩]⟩, ⟨⟨#[97]⟩, some ⟨w.heap.size + 1, 0, none⟩, 1, [⟨#[121]⟩]⟩, ⟨⟨#[98]⟩, some ⟨w.heap.size + 1 + 1, 0, none⟩, 1, [⟨#[122]⟩]⟩] w4 (lit_row k4 rfl rfl ?_) rfl).mono ?_
  · intro x hx
    simp only [List.mem_cons, List.not_mem_nil, or_false] at hx
    rcases hx with rfl | rfl | rfl
    · exact lit_txt k1 rfl
    · exact lit_txt k2 rfl
    · exact lit_txt k3 rfl
  · rintro e w' ⟨p, c, d, he, ho, hm, hq⟩
    exact ⟨p, c, d, _, he, ho, hm, hb.trans (hq.mono hb.size)⟩

theorem fix_encode0 (w : World) : Calls Tryd.prog 18 #[.slice (some ⟨w.heap.size + 1, 0, none⟩) 1 1]
    ((w.alloc (.cells #[.string ⟨#[120]⟩, .string ⟨#[]⟩] 9)).alloc (.cells #[.string ⟨#[97]⟩, .slice (some ⟨w.heap.size, 0, none⟩) 2 2] 30))
    fun e w' => ∃ g c n0, e = .returned (.tuple #[.slice (some ⟨g, 0, none⟩) 7 c, .int .i64 0]) ∧ OwnB n0 w' (.slice (some ⟨g, 0, none⟩) 7 c) [1, 1, 97, 2, 1, 120, 0] ∧ Below w.heap.size w w' := by
  obtain ⟨w1, h1⟩ : ∃ w1, w.alloc (.cells #[.string ⟨#[120]⟩, .string ⟨#[]⟩] 9) = w1 := ⟨_, rfl⟩
  have s1 : w1.heap.size = w.heap.size + 1 := by rw [← h1]; simp
  rw [h1]
  obtain ⟨w4, h4⟩ : ∃ w4, w1.alloc (.cells #[.string ⟨#[97]⟩, .slice (some ⟨w.heap.size, 0, none⟩) 2 2] 30) = w4 := ⟨_, rfl⟩
  have k4 : w4.heap[w.heap.size + 1]? = some (.cells #[.string ⟨#[97]⟩, .slice (some ⟨w.heap.size, 0, none⟩) 2 2] 30 (0, 0)) := by
    rw [← h4, ← s1]; exact heap_alloc_new w1 _
  have k1 : w4.heap[w.heap.size]? = some (.cells #[.string ⟨#[120]⟩, .string ⟨#[]⟩] 9 (0, 0)) := by
    rw [← h4, Below.heap_alloc _ _ _ (by omega), ← h1]; exact heap_alloc_new w _
  have hb : Below w.heap.size w w4 := by
    rw [← h4, ← h1]
    exact ((Below.refl _ w).alloc (Nat.le_refl _) _).alloc (by simp) _
  rw [h4]
  refine (fix_encode _ [⟨⟨#[97]⟩, some ⟨w.heap.size, 0, none⟩, 2, [⟨#[120]⟩, ⟨#[]⟩]⟩] w4 (lit_row k4 rfl rfl ?_) rfl).mono ?_
  · intro x hx
    simp only [List.mem_cons, List.not_mem_nil, or_false] at hx
    rcases hx with rfl
    exact lit_txt k1 rfl
  · rintro e w' ⟨g, c, he, ho, hq⟩
    exact ⟨g, c, _, he, ho, hb.trans (hq.mono hb.size)⟩

theorem bel_then {B : Nat} {a b c : World} (h : Below B a b) (hB : B ≤ b.heap.size) (k : Below b.heap.size b c) : Below B a c := h.trans (k.mono hB)

set_option maxHeartbeats 4000000 in
set_option maxRecDepth 100000 in
theorem fixed_any (w : World) (hp : PlainAt w) : Calls Tryd.prog 6 #[] w fun e w' => e = .returned (.bool true) ∧ Below w.heap.size w w' := by
  have HP := hid hp
  clear hp
  go_enter Tryd.func6, Tryd.ntmps6
  go_wp2_with fail
  refine (fix_norm0 w).mono ?_
  rintro e w1 ⟨pN, cN, dN, nN, rfl, hoN, hmN, b1⟩
  have HON := hid hoN
  have HMN := hid hmN
  have HB1 := hid b1
  clear hoN hmN b1
  go_wp2_with fail
  refine (fix_print _ dN w1 (HP.out.on HB1.out) HON.out.is HMN.out).mono ?_
  rintro e w2 ⟨rfl, q2⟩
  have HQ2 := hid q2
  clear q2
  go_wp2_with fail
  refine (fix_encode0 w2).mono ?_
  rintro e w3 ⟨gE, cE, nE, rfl, hoE, q3⟩
  have HOE := hid hoE
  have HQ3 := hid q3
  clear hoE q3
  go_wp2_with fail
  refine (fix_decode gE cE nE w3 HOE.out).mono ?_
  rintro e w4 ⟨pD, cD, dD, rfl, hoD, hmD, q4⟩
  have HOD := hid hoD
  have HMD := hid hmD
  have HQ4 := hid q4
  clear hoD hmD q4
  have B4 : Hid (Below w.heap.size w w4) := by
    have h1 := HB1.out; have h2 := HQ2.out; have h3 := HQ3.out; have h4 := HQ4.out
    have g2 := bel_then h1 h1.size h2; have g3 := bel_then g2 g2.size h3; exact bel_then g3 g3.size h4
  have N4 : Hid (Below w1.heap.size w1 w4) := by
    have h2 := HQ2.out; have h3 := HQ3.out; have h4 := HQ4.out
    have g3 := bel_then h2 h2.size h3; exact bel_then g3 g3.size h4
  go_wp2_with fail
  refine (fix_parse w4 (HP.out.on B4.out)).mono ?_
  rintro e w5 ⟨pQ, cQ, dQ, rfl, hoQ, hmQ, q5⟩
  have HOQ := hid hoQ
  have HMQ := hid hmQ
  have HQ5 := hid q5
  clear hoQ hmQ q5
  have B5 : Hid (Below w.heap.size w w5) := bel_then B4.out B4.out.size HQ5.out
  have N5 : Hid (Below w1.heap.size w1 w5) := bel_then N4.out N4.out.size HQ5.out
  go_wp2_with fail
  refine (fix_readc w5 (HP.out.on B5.out)).mono ?_
  rintro e w6 ⟨rfl, q6⟩
  have HQ6 := hid q6
  clear q6
  go_wp2_with fail
  refine (fix_writec w6 (HP.out.on (bel_then B5.out B5.out.size HQ6.out))).mono ?_
  rintro e w7 ⟨rfl, q7⟩
  have S7 : Hid (Below w5.heap.size w5 w7) := bel_then HQ6.out HQ6.out.size q7
  clear q7
  have N7 : Hid (Below w1.heap.size w1 w7) := bel_then N5.out N5.out.size S7.out
  have HXN := hid (HON.out.on N7.out)
  go_wp2_with fail
  refine (fix_may _ dN w7 HXN.out.is HMN.out).mono ?_
  rintro e w8 ⟨rfl, q8⟩
  have S8 : Hid (Below w5.heap.size w5 w8) := bel_then S7.out S7.out.size q8
  clear q8
  have HXD := hid (HOD.out.on (bel_then HQ5.out HQ5.out.size S8.out))
  go_wp2_with fail
  refine (fix_size _ dD w8 HXD.out.is HMD.out).mono ?_
  rintro e w9 ⟨rfl, q9⟩
  have S9 : Hid (Below w5.heap.size w5 w9) := bel_then S8.out S8.out.size q9
  clear q9
  have HXQ := hid (HOQ.out.on S9.out)
  go_wp2_with fail
  refine (fix_equal _ dQ w9 HXQ.out.is HMQ.out).mono ?_
  rintro e w10 ⟨rfl, q10⟩
  have S10 : Hid (Below w5.heap.size w5 w10) := bel_then S9.out S9.out.size q10
  clear q10
  have HXM := hid (HON.out.on (bel_then N5.out N5.out.size S10.out))
  go_wp2_with fail
  refine (fix_textsc _ dN w10 HXM.out.is HMN.out).mono ?_
  rintro e w11 ⟨⟨pT, cT, rfl⟩, q11⟩
  have S11 : Hid (Below w5.heap.size w5 w11) := bel_then S10.out S10.out.size q11
  clear q11
  go_wp2_with fail
  go_ret
  exact ⟨rfl, bel_then B5.out B5.out.size S11.out⟩

end Go.Proofs.YtmjchokacmbkoabDoor
