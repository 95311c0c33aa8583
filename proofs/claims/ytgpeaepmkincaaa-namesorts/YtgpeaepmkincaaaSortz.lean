/-
  Sort of package name at two keys that are one.
-/
import Derived.Test.YtgpeaepmkincaaaFixb
import Derived.Test.YtgpeaepmkincaaaComp2
import Derived.Test.YtgpeaepmkincaaaSortl
import Derived.Test.YtgpeaepmkincaaaOrd
namespace Go.Proofs.Ytgpeaepmkincaaa
open Go.RowKit Go.Sort Go.Lib

def encKey (x : ByteArray × ByteArray) : List Value := [.string x.1, .string x.2]
def cmpK (x y : ByteArray × ByteArray) : Int := cmpI x.1 x.2 y.1 y.2

theorem cmpI_eq (a b c d : ByteArray) : cmpI a b c d = cmpL a.data.toList b.data.toList c.data.toList d.data.toList := rfl

theorem ltK (x y : ByteArray × ByteArray) : ltOf cmpK x y = decide (cmpL x.1.data.toList x.2.data.toList y.1.data.toList y.2.data.toList < 0) := rfl

theorem swoK : SWO (ltOf cmpK) where
  irrefl x := by rw [ltK, (cmpL_zero _ _ _ _).2 ⟨rfl, rfl⟩]; rfl
  trans x y z h1 h2 := by
    rw [ltK, decide_eq_true_iff] at *
    exact cmpL_lt_trans _ _ _ _ _ _ h1 h2
  ntrans x y z h1 h2 := by
    rw [ltK, decide_eq_false_iff_not] at *
    intro h
    have n1 := cmpL_neg x.1.data.toList x.2.data.toList y.1.data.toList y.2.data.toList
    have n2 := cmpL_neg y.1.data.toList y.2.data.toList z.1.data.toList z.2.data.toList
    have n3 := cmpL_neg x.1.data.toList x.2.data.toList z.1.data.toList z.2.data.toList
    have := cmpL_le_trans z.1.data.toList z.2.data.toList y.1.data.toList y.2.data.toList x.1.data.toList x.2.data.toList (by omega) (by omega)
    omega

theorem three_new (W : World) (o1 o2 o3 : Obj) : (((W.alloc o1).alloc o2).alloc o3).drew = grow (W.drewN 1) #[o1, o2, o3] := by
  rw [alloc_eq_grow, alloc_eq_grow, alloc_eq_grow, grow_grow, grow_grow]; rfl

theorem cmpLaysK (blk off size : Nat) (w : World) : CmpLays Try.prog 23 #[] encKey 2 cmpK blk off size w :=
  fun _ _ _ _ x y => (compare_eq x.1 x.2 y.1 y.2 _).mono fun _ _ ⟨h1, h2⟩ => ⟨h1, 1, _, h2.trans (three_new _ _ _ _)⟩

theorem enters23 : ∀ args w, (callFunc 23 args).run Try.prog w = .ok (.enter 23 args) w := enters_of Try.func23 (by kernel_rfl) rfl

theorem sortfunc_any (blk off cap : Nat) (d : Array (ByteArray × ByteArray)) (w : World) (hH : HoldsK encKey 2 w blk off d) (hblk : blk < w.heap.size) (hsz : d.size < 4611686018427387904) :
    Calls Try.prog 42 #[.slice (some ⟨blk, off, none⟩) d.size cap, .func (.func 23) #[] #[]] w fun e w' =>
      e = .returned (.tuple #[]) ∧ ∃ d' n os, PermIn 0 d.size d d' ∧ SortedIn (ltOf cmpK) 0 d.size d' ∧ w' = sortWorldK encKey 2 w blk off n d' os :=
  AnyQ.slices_SortFunc Try.sortKey 2 Try.isAgg26 Try.sizeOf26 encKey (fun _ => rfl) (fun x v hv => by simp [encKey] at hv; rcases hv with rfl | rfl <;> rfl) cmpK swoK 23 #[] blk off cap d w enters23 (cmpLaysK blk off d.size w) hH hblk hsz

theorem clone_any (b off n c : Nat) (news : List Value) (w : World) (hl : news.length = n * 2) (hn : n ≤ maxLen) (hbig : n * 32 ≤ 140737488355328)
    (hc : ∀ j u, news[j]? = some u → w.cell? ⟨b, off + j, none⟩ = some u) (h1 : ∀ u ∈ news, u.oneCell' = true) :
    Calls Try.prog 41 #[.slice (some ⟨b, off, none⟩) n c] w fun e w' => ∃ v', e = .returned v' ∧ w'.ownsRow w.heap.size 26 2 v' n news ∧ v' ≠ .slice none 0 0 ∧ Below w.heap.size w w' := by
  have hs : (Try.prog.info? 26).isSome = true := by kernel_rfl
  have hi : ∃ i0, Try.prog.info? 26 = some i0 ∧ i0.zero = some (.agg #[.string ⟨#[]⟩, .string ⟨#[]⟩]) ∧ i0.size = 2 ∧ i0.bytes = 32 :=
    ⟨(Try.prog.info? 26).get hs, (Option.some_get hs).symm, by kernel_rfl, by kernel_rfl, by kernel_rfl⟩
  obtain ⟨i0, e1, e2, e3, e4⟩ := hi
  exact AnyE.slices_Clone Try.cloneKey i0 _ 2 32 e1 e2 e3 e4 rfl (by omega) Try.sizeOf26 b off n c news w hl hn hbig hc h1

/-- The cells of a row of keys. -/
def cellsK (d : Array (ByteArray × ByteArray)) : List Value := d.toList.flatMap encKey

theorem below_sortWorld {B : Nat} {w0 w : World} (h : Below B w0 w) (hB : B ≤ w.heap.size) (blk off n : Nat) (d : Array (ByteArray × ByteArray)) (os : Array Obj) (hb : B ≤ blk) : Below B w0 (sortWorldK encKey 2 w blk off n d os) := by
  refine h.trans ⟨rfl, rfl, rfl, ?_, ?_⟩
  · simp [sortWorldK, putRowK]
  · intro k hk
    have hks : k < w.heap.size := by omega
    simp only [sortWorldK, grow, putRowK, putRow, mapBlock, Sort.ahead]
    rw [Array.getElem?_append_left (by simpa using hks), Array.getElem?_modify, if_neg (by omega)]

theorem flat_get (l : List (ByteArray × ByteArray)) (t : Nat) (h : t < l.length * 2) : (l.flatMap encKey)[t]? = some (encKey (l[t / 2]!))[t % 2]! := by
  induction l generalizing t with
  | nil => simp at h
  | cons x l ih =>
    rw [List.flatMap_cons]
    by_cases h2 : t < 2
    · rcases (show t = 0 ∨ t = 1 by omega) with rfl | rfl <;> simp [encKey]
    · obtain ⟨u, rfl⟩ : ∃ u, t = u + 2 := ⟨t - 2, by omega⟩
      have hl : (encKey x).length = 2 := rfl
      rw [List.getElem?_append_right (by omega), hl, show u + 2 - 2 = u by omega, ih u (by simp at h; omega), show (u + 2) / 2 = u / 2 + 1 by omega, show (u + 2) % 2 = u % 2 by omega]
      simp

theorem holds_of_heap {w : World} {g : Nat} {cur : Array Value} {e : TypeId} (d : Array (ByteArray × ByteArray)) (hheap : w.heap[g]? = some (.cells cur e (0, 0))) (htake : cur.toList.take (d.size * 2) = cellsK d) : HoldsK encKey 2 w g 0 d := by
  intro j hj
  rw [size_flatK] at hj
  have hg := flat_get d.toList j (by simpa using hj)
  have h1 : (cur.toList.take (d.size * 2))[j]? = some (encKey (d.toList[j / 2]!))[j % 2]! := by rw [htake]; exact hg
  rw [List.getElem?_take_of_lt hj] at h1
  rw [get_flatK _ _ _ _ hj]
  constructor
  · simp only [World.cell?, hheap, Nat.zero_add]
    have he : d.toList[j / 2]! = d[j / 2]! := by
      rw [getElem!_pos d (j / 2) (by omega), getElem!_pos d.toList (j / 2) (by simp; omega)]; simp
    rw [← Array.getElem?_toList, h1, he]
    rfl
  · simp [World.frozen?, hheap]

theorem perm_two {x : ByteArray × ByteArray} {d : Array (ByteArray × ByteArray)} (h : PermIn 0 2 #[x, x] d) : d = #[x, x] := by
  obtain ⟨h1, _, h3⟩ := h
  have hs : d.size = 2 := h1
  have e : (d.extract 0 2).toList = d.toList := by rw [← hs]; simp
  rw [e] at h3
  have h4 : d.toList.Perm [x, x] := h3
  have h5 : d.toList = [x, x] := by
    have : d.toList = List.replicate 2 x := List.eq_replicate_iff.2 ⟨h4.length_eq, fun y hy => by have := h4.mem_iff.1 hy; simpa using this⟩
    exact this
  exact Array.toList_inj.1 h5

set_option maxHeartbeats 400000 in
theorem fix_sort : FixSort := by
  intro a b g w hg c0 c1 c2 c3
  have hnews : ∀ j u, ([.string a, .string b, .string a, .string b] : List Value)[j]? = some u → w.cell? ⟨g, 0 + j, none⟩ = some u := by
    intro j u h
    match j with
    | 0 => simp at h; subst h; exact c0
    | 1 => simp at h; subst h; exact c1
    | 2 => simp at h; subst h; exact c2
    | 3 => simp at h; subst h; exact c3
    | j + 4 => simp at h
  have H := hid hnews
  clear hnews c0 c1 c2 c3
  go_enter Try.func25, Try.ntmps25
  go_wp2_with fail
  refine (clone_any g 0 2 2 [.string a, .string b, .string a, .string b] _ rfl (by decide) (by decide) H.out (by intro u hu; simp at hu; rcases hu with rfl | rfl | rfl | rfl <;> rfl)).mono ?_
  rintro e w1 ⟨v', rfl, ⟨hl, hor⟩, hne, hq1⟩
  rcases hor with ⟨h1, h2⟩ | ⟨g1, cap, cur, rfl, hbase, hheap, hcap, hcapm, hsz, htake⟩
  · exact absurd h1 hne
  have hg1 : g1 < w1.heap.size := by
    rcases Nat.lt_or_ge g1 w1.heap.size with h | h
    · exact h
    · rw [Array.getElem?_eq_none h] at hheap; cases hheap
  have hH : HoldsK encKey 2 w1 g1 0 #[(a, b), (a, b)] := holds_of_heap #[(a, b), (a, b)] hheap htake
  have hcon := sortfunc_any g1 0 cap #[(a, b), (a, b)] w1 hH hg1 (by simp)
  have HC := hid hcon
  have HH := hid hH
  clear hcon hH hl hne hheap htake hsz
  go_wp2_with fail
  refine HC.out.mono ?_
  rintro e w2 ⟨rfl, d', n, os, hperm, _, hw2⟩
  have hd := perm_two hperm
  subst hd
  have HH2 : HoldsK encKey 2 w2 g1 0 #[(a, b), (a, b)] := by
    rw [hw2]
    exact holdsK_grow encKey 2 _ os g1 0 _ (by simpa [putRowK] using hg1) (holdsK_putRowK encKey 2 (Sort.ahead w1 n) g1 0 _ _ (holdsK_ahead encKey 2 w1 n g1 0 _ HH.out) rfl)
  have k0 := HH2.cell (i := 0) (c := 0) (by simp) (by simp)
  have k1 := HH2.cell (i := 0) (c := 1) (by simp) (by simp)
  have k2 := HH2.cell (i := 1) (c := 0) (by simp) (by simp)
  have k3 := HH2.cell (i := 1) (c := 1) (by simp) (by simp)
  have hq2 : Below w.heap.size w w2 := by
    rw [hw2]; exact below_sortWorld hq1 hq1.size g1 0 n _ os hbase
  have HCC := hid (compact_two a b g1 cap w2 hcap hcapm k0.1 k1.1 k2.1 k3.1 k2.2 k3.2)
  clear hw2 hperm HH2 k0 k1 k2 k3
  go_wp2_with fail
  refine HCC.out.mono ?_
  rintro e w3 ⟨rfl, hq3⟩
  go_wp2_with fail
  go_ret
  exact ⟨⟨_, _, rfl⟩, hq2.trans (hq3.mono hbase)⟩

end Go.Proofs.Ytgpeaepmkincaaa
