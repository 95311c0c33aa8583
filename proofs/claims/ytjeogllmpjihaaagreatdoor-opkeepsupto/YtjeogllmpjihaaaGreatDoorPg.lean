/-
  Texts of this claim, one behind the other: Oqe Oqt Oqq.
-/
import Derived.Test.YtjeogllmpjihaaaGreatDoorPf
import Derived.Lib.SplitLaws
namespace Go.Proofs.YtjeogllmpjihaaaGreatDoor
section
open Go.RowKit Go.Lib
theorem WordsAt.drop {w:World} {b o c:Nat} {ws:List ByteArray} (h:WordsAt w (.slice (some ⟨b,o,none⟩) ws.length c) ws) (n:Nat) (hn:n≤ws.length):WordsAt w (.slice (some ⟨b,o+n,none⟩) (ws.drop n).length (c-n)) (ws.drop n):=by
 obtain ⟨b',o',c',h1,h2,h3,h4⟩:=h
 injection h1 with a1 a2 a3
 injection a1 with a1
 injection a1 with q1 q2
 subst q1 q2 a3
 refine ⟨b,o+n,c-n,rfl,by rw [List.length_drop];omega,h3,fun j x hx=>?_⟩
 rw [List.getElem?_drop] at hx
 have:=h4 (n+j) x hx
 rwa [←Nat.add_assoc] at this
theorem WordsAt.take {w:World} {b o c:Nat} {ws:List ByteArray} (h:WordsAt w (.slice (some ⟨b,o,none⟩) ws.length c) ws) (n:Nat) (hn:n≤ws.length):WordsAt w (.slice (some ⟨b,o,none⟩) n c) (ws.take n):=by
 obtain ⟨b',o',c',h1,h2,h3,h4⟩:=h
 injection h1 with a1 a2 a3
 injection a1 with a1
 injection a1 with q1 q2
 subst q1 q2 a3
 have hl:(ws.take n).length=n:=by rw [List.length_take];omega
 refine ⟨b,o,c,by rw [hl],by rw [hl];omega,h3,fun j x hx=>?_⟩
 have hj:j<n:=by have:=(List.getElem?_eq_some_iff.1 hx).1;omega
 rw [List.getElem?_take_of_lt hj] at hx
 exact h4 j x hx
theorem split_blank:∀(k:Nat) (l:List UInt8),l.length≤k→Lib.split l [32]=splitL l
 | k,l,hk=>by
  have h1:=index_one l 32
  rcases ix_cases l 32 with ⟨h,_⟩|⟨i,h,hi,_⟩
  ·rw [splitL_no h]
   rw [h] at h1
   unfold Lib.split
   rw [count_miss h1]
   rfl
  ·rw [splitL_yes h]
   rw [h] at h1
   unfold Lib.split
   rw [count_hit (by decide) h1,Nat.add_comm]
   have hne:¬ (Lib.index l [32] == -1)=true:=by rw [h1];simp
   rw [splitK,if_neg hne,h1]
   simp only [Int.toNat_natCast,Nat.add_zero,List.length_cons,List.length_nil,Nat.zero_add]
   cases k with
   | zero=>omega
   | succ k =>
    rw [←split_blank k (l.drop (i+1)) (by rw [List.length_drop];omega)]
    rfl
theorem split_len (l:List UInt8):(Lib.split l [32]).length≤l.length+1:=by
 rw [split_blank _ l (Nat.le_refl _)];exact splitL_len l
def textO (l:List UInt8):Option En:=if []∈splitL l then none else entryO (splitL l)
theorem textO_no {l:List UInt8} {y:En} (h:(∃x∈splitL l,x=[])∨entryO (splitL l)=none):textO l=if false=true then some y else none:=by
 unfold textO
 rcases h with ⟨x,hx,rfl⟩|h
 ·rw [if_pos hx];rfl
 ·rw [h];split<;>rfl
def EnPost (w:World) (text:ByteArray) (e:Ending) (w':World):Prop :=
 (∃(y:Ex) (ok:Bool),e=.returned (.tuple #[aggEx y,.bool ok])∧(ok=true→OwnQ w.heap.size y w')∧textO text.data.toList=if ok=true then some y.en else none)∧Below w.heap.size w w'
def zeroEx (k:Int):Ex:=⟨k,⟨#[]⟩,⟨#[]⟩,⟨#[]⟩,0,none,0,[],none,0,[],none,0,[],0,0⟩
theorem zero_own (n:Nat) (w:World) (k:Int) (h0:-9223372036854775808≤k) (h1:k≤9223372036854775807):OwnQ n (zeroEx k) w:=by
 have z:(0:Nat)≤maxLen:=Nat.zero_le _
 have fm:FitM []:=fitM_may (by decide)
 have fe:FitE []:=fitE_may (by decide)
 exact ⟨⟨⟨rfl,.inl ⟨rfl,rfl⟩⟩,fun x hx=>by cases hx⟩,⟨z,fun x hx=>by cases hx⟩,⟨rfl,.inl ⟨rfl,rfl⟩⟩,fe,⟨rfl,.inl ⟨rfl,rfl⟩⟩,fm,
  ⟨z,z,z,h0,h1,by show (-9223372036854775808:Int)≤0;omega,by show (0:Int)≤9223372036854775807;omega,by show (0:Int)≤0;omega,by show (0:Int)≤18446744073709551615;omega,by show (-9223372036854775808:Int)≤0;omega,by show (0:Int)≤9223372036854775807;omega⟩⟩
theorem out_ten {w WZ:World} {R:Nat} {T:TypeId} {c0 c1 c2 c3 c4 c5 c6 c7 c8 c9:Value} (hb:w.heap[R]? = some (.cells #[c0,c1,c2,c3,c4,c5,c6,c7,c8,c9] T (0,0))) (a0 a1 a2 a3 a4 a5 a6 a7 a8 a9:Value)
  (h:((((((((((w.setCell ⟨R,0,none⟩ a0).setCell ⟨R,1,none⟩ a1).setCell ⟨R,2,none⟩ a2).setCell ⟨R,3,none⟩ a3).setCell ⟨R,4,none⟩ a4).setCell ⟨R,5,none⟩ a5).setCell ⟨R,6,none⟩ a6).setCell ⟨R,7,none⟩ a7).setCell ⟨R,8,none⟩ a8).setCell ⟨R,9,none⟩ a9)=WZ) :
  WZ.heap[R]? = some (.cells #[a0,a1,a2,a3,a4,a5,a6,a7,a8,a9] T (0,0))∧Fr (fun b=>b=R) w WZ:=by
 subst h
 refine ⟨?_,?_⟩
 ·have b0:(w.setCell ⟨R,0,none⟩ a0).heap[R]? = some (.cells #[a0,c1,c2,c3,c4,c5,c6,c7,c8,c9] T (0,0)):=heap_setCell_same _ R 0 _ _ a0 hb
  have b1:((w.setCell ⟨R,0,none⟩ a0).setCell ⟨R,1,none⟩ a1).heap[R]? = some (.cells #[a0,a1,c2,c3,c4,c5,c6,c7,c8,c9] T (0,0)):=heap_setCell_same _ R 1 _ _ a1 b0
  have b2:(((w.setCell ⟨R,0,none⟩ a0).setCell ⟨R,1,none⟩ a1).setCell ⟨R,2,none⟩ a2).heap[R]? = some (.cells #[a0,a1,a2,c3,c4,c5,c6,c7,c8,c9] T (0,0)):=heap_setCell_same _ R 2 _ _ a2 b1
  have b3:((((w.setCell ⟨R,0,none⟩ a0).setCell ⟨R,1,none⟩ a1).setCell ⟨R,2,none⟩ a2).setCell ⟨R,3,none⟩ a3).heap[R]? = some (.cells #[a0,a1,a2,a3,c4,c5,c6,c7,c8,c9] T (0,0)):=heap_setCell_same _ R 3 _ _ a3 b2
  have b4:(((((w.setCell ⟨R,0,none⟩ a0).setCell ⟨R,1,none⟩ a1).setCell ⟨R,2,none⟩ a2).setCell ⟨R,3,none⟩ a3).setCell ⟨R,4,none⟩ a4).heap[R]? = some (.cells #[a0,a1,a2,a3,a4,c5,c6,c7,c8,c9] T (0,0)):=heap_setCell_same _ R 4 _ _ a4 b3
  have b5:((((((w.setCell ⟨R,0,none⟩ a0).setCell ⟨R,1,none⟩ a1).setCell ⟨R,2,none⟩ a2).setCell ⟨R,3,none⟩ a3).setCell ⟨R,4,none⟩ a4).setCell ⟨R,5,none⟩ a5).heap[R]? = some (.cells #[a0,a1,a2,a3,a4,a5,c6,c7,c8,c9] T (0,0)):=heap_setCell_same _ R 5 _ _ a5 b4
  have b6:(((((((w.setCell ⟨R,0,none⟩ a0).setCell ⟨R,1,none⟩ a1).setCell ⟨R,2,none⟩ a2).setCell ⟨R,3,none⟩ a3).setCell ⟨R,4,none⟩ a4).setCell ⟨R,5,none⟩ a5).setCell ⟨R,6,none⟩ a6).heap[R]? = some (.cells #[a0,a1,a2,a3,a4,a5,a6,c7,c8,c9] T (0,0)):=heap_setCell_same _ R 6 _ _ a6 b5
  have b7:((((((((w.setCell ⟨R,0,none⟩ a0).setCell ⟨R,1,none⟩ a1).setCell ⟨R,2,none⟩ a2).setCell ⟨R,3,none⟩ a3).setCell ⟨R,4,none⟩ a4).setCell ⟨R,5,none⟩ a5).setCell ⟨R,6,none⟩ a6).setCell ⟨R,7,none⟩ a7).heap[R]? = some (.cells #[a0,a1,a2,a3,a4,a5,a6,a7,c8,c9] T (0,0)):=heap_setCell_same _ R 7 _ _ a7 b6
  have b8:(((((((((w.setCell ⟨R,0,none⟩ a0).setCell ⟨R,1,none⟩ a1).setCell ⟨R,2,none⟩ a2).setCell ⟨R,3,none⟩ a3).setCell ⟨R,4,none⟩ a4).setCell ⟨R,5,none⟩ a5).setCell ⟨R,6,none⟩ a6).setCell ⟨R,7,none⟩ a7).setCell ⟨R,8,none⟩ a8).heap[R]? = some (.cells #[a0,a1,a2,a3,a4,a5,a6,a7,a8,c9] T (0,0)):=heap_setCell_same _ R 8 _ _ a8 b7
  have b9:((((((((((w.setCell ⟨R,0,none⟩ a0).setCell ⟨R,1,none⟩ a1).setCell ⟨R,2,none⟩ a2).setCell ⟨R,3,none⟩ a3).setCell ⟨R,4,none⟩ a4).setCell ⟨R,5,none⟩ a5).setCell ⟨R,6,none⟩ a6).setCell ⟨R,7,none⟩ a7).setCell ⟨R,8,none⟩ a8).setCell ⟨R,9,none⟩ a9).heap[R]? = some (.cells #[a0,a1,a2,a3,a4,a5,a6,a7,a8,a9] T (0,0)):=heap_setCell_same _ R 9 _ _ a9 b8
  exact b9
 ·have t:∀{u v z:World},Fr (fun b=>b=R) u v→Fr (fun b=>b=R) v z→Fr (fun b=>b=R) u z:=fun f g=>f.then g fun _ h=>Or.inl h
  exact t (t (t (t (t (t (t (t (t (fr_setE _ R 0 _) (fr_setE _ R 1 _)) (fr_setE _ R 2 _)) (fr_setE _ R 3 _)) (fr_setE _ R 4 _)) (fr_setE _ R 5 _)) (fr_setE _ R 6 _)) (fr_setE _ R 7 _)) (fr_setE _ R 8 _)) (fr_setE _ R 9 _)
theorem split_words (s:ByteArray) (w:World) (hs:s.size≤4294967000) (hv:OpVars w) :
  ∃ws:List ByteArray,ws.map (·.data.toList)=Lib.split s.data.toList [32]∧0<ws.length ∧
   Calls Tryz.prog 33 #[.string s,.string ⟨#[32]⟩] w fun e w'=>e=.returned (.slice (some ⟨w.heap.size,0,none⟩) ws.length ws.length)∧w'=w.alloc (.cells (ws.map Value.string).toArray 9):=by
 obtain ⟨m,hm⟩:=hv.max
 have hl:=splitB_all ⟨#[32]⟩ (by decide) 0 _ s rfl
 refine ⟨splitB ⟨#[32]⟩ 0 (countB s ⟨#[32]⟩) s,?_,by omega,?_⟩
 ·rw [splitB_data];rfl
 ·have h:=Tryz.strings_Split s ⟨#[32]⟩ m w (by omega) hm (by decide)
  rw [←hl] at h
  exact h
def zeroB:Array Value:=#[.int .i64 0,.string ⟨#[]⟩,.string ⟨#[]⟩,.string ⟨#[]⟩,.int .i64 0,.slice none 0 0,.slice none 0 0,.slice none 0 0,.int .u64 0,.int .i64 0]
structure SpSt (w:World) (ws:List ByteArray) (w1:World):Prop where
 low:Below w.heap.size w w1
 res:w1.heap[w.heap.size]? = some (.cells (encEx (zeroEx 0)).toArray 42 (0,0))
 words:WordsAt w1 (.slice (some ⟨w.heap.size+1,0,none⟩) ws.length ws.length) ws
 vars:OpVars w1
 room:w.heap.size+1<w1.heap.size
theorem split_st (s:ByteArray) (w:World) (hs:s.size≤4294967000) (hv:OpVars w) :
  ∃ws:List ByteArray,ws.map (·.data.toList)=Lib.split s.data.toList [32]∧0<ws.length ∧
   Calls Tryz.prog 33 #[.string s,.string ⟨#[32]⟩] (w.alloc (.cells zeroB 42)) fun e w'=>e=.returned (.slice (some ⟨w.heap.size+1,0,none⟩) ws.length ws.length)∧SpSt w ws w':=by
 have hb0:=(Below.refl w.heap.size w).alloc (Nat.le_refl _) (.cells zeroB 42)
 have hv0:=hv.on hb0
 obtain ⟨ws,hws,hpos,hsp⟩:=split_words s _ hs hv0
 have hsz:(w.alloc (.cells zeroB 42)).heap.size=w.heap.size+1:=Array.size_push ..
 refine ⟨ws,hws,hpos,hsp.mono ?_⟩
 rintro e w1 ⟨rfl,rfl⟩
 refine ⟨by rw [hsz],?_⟩
 have hb1:=(Below.refl (w.alloc (.cells zeroB 42)).heap.size (w.alloc (.cells zeroB 42))).alloc (Nat.le_refl _) (.cells (ws.map Value.string).toArray 9)
 have hsz2:((w.alloc (.cells zeroB 42)).alloc (.cells (ws.map Value.string).toArray 9)).heap.size=w.heap.size+2:=by rw [←Nat.add_assoc w.heap.size 1 1,←hsz];exact Array.size_push ..
 refine ⟨hb0.trans (hb1.mono (by rw [hsz];omega)),?_,?_,hv0.on hb1,by rw [hsz2];omega⟩
 ·rw [hb1.block w.heap.size (by rw [hsz];omega)]
  exact Array.getElem?_push_size
 ·refine ⟨_,_,_,rfl,Nat.le_refl _,by rw [hsz2];omega,fun j x hx=>?_⟩
  have hh:((w.alloc (.cells zeroB 42)).alloc (.cells (ws.map Value.string).toArray 9)).heap[w.heap.size+1]? = some (.cells (ws.map Value.string).toArray 9 (0,0)):=by rw [←hsz];exact Array.getElem?_push_size
  rw [cell_of_row _ _ _ _ _ _ hh]
  simp [hx]
theorem contains_any (w:World) (b o c:Nat) (ws:List ByteArray) (x:ByteArray) (hw:WordsAt w (.slice (some ⟨b,o,none⟩) ws.length c) ws) (hn:ws.length≤4294967001) :
  Calls Tryz.prog 34 #[.slice (some ⟨b,o,none⟩) ws.length c,.string x] w fun e w'=>e=.returned (.bool (containsS ws x))∧w'=w:=by
 obtain ⟨b',o',c',h1,h2,h3,h4⟩:=hw
 injection h1 with a1 a2 a3
 injection a1 with a1
 injection a1 with q1 q2
 subst q1 q2 a3
 have h:=Tryz.slices_Contains_string b o ws.length c ws x w (Nat.le_refl _) (by omega) (fun j hj=>by
  refine h4 j _ ?_
  simp [List.getD,hj])
 rw [List.take_length] at h
 exact h
theorem shape_any (k:Nat) (w:World) (h2:k≤12) :
  Calls Tryz.prog 36 #[.int .i64 k] w fun e w'=>(∃a n,e=.returned (.tuple #[.string ⟨(nameN k).toArray⟩,.slice a n n])∧n=(shapeN k).length ∧
   ∀(j p:Nat),(shapeN k)[j]? = some p→∃P,a=some ⟨P,0,none⟩∧w.heap.size≤P∧w'.cell? ⟨P,j,none⟩=some (.int .i64 p))∧Below w.heap.size w w':=by
 by_cases h0:k=0
 ·subst h0
  refine (shape_no 0 w (by omega)).mono ?_
  rintro e w' ⟨rfl,rfl⟩
  exact ⟨⟨none,0,rfl,rfl,fun j p h=>by cases h⟩,Below.refl _ _⟩
 ·refine (shape_yes k w (by omega) h2).mono ?_
  rintro e w' ⟨rfl,rfl⟩
  refine ⟨⟨_,_,rfl,rfl,fun j p h=>⟨_,rfl,Nat.le_refl _,?_⟩⟩,(Below.refl _ _).alloc (Nat.le_refl _) _⟩
  have hh:(w.alloc (.cells (partsC k) 77)).heap[w.heap.size]? = some (.cells (partsC k) 77 (0,0)):=Array.getElem?_push_size
  rw [cell_of_row _ _ _ _ _ _ hh]
  simp [partsC,h]
structure LpSt (w:World) (G:Nat) (y:Ex) (o1:Nat) (us:List ByteArray) (wx:World):Prop where
 low:Below w.heap.size w wx
 res:wx.heap[w.heap.size]? = some (.cells (encEx (zeroEx 0)).toArray 42 (0,0))
 words:WordsAt wx (.slice (some ⟨w.heap.size+1,o1,none⟩) us.length us.length) us
 box:BxQ w.heap.size G y wx
 gt:w.heap.size+1<G
theorem LpSt.on {w:World} {G:Nat} {y:Ex} {o1:Nat} {us:List ByteArray} {wx wy:World} (h:LpSt w G y o1 us wx) (hb:Below wx.heap.size wx wy):LpSt w G y o1 us wy :=
 ⟨h.low.trans (hb.mono h.low.size),(hb.block _ (by have:=h.box.lt;have:=h.gt;omega)).trans h.res,h.words.on hb,h.box.on hb,h.gt⟩
theorem WordsAt.fr {w W:World} {b o c:Nat} {ws:List ByteArray} {P:Nat→Prop} (h:WordsAt w (.slice (some ⟨b,o,none⟩) ws.length c) ws) (f:Fr P w W) (hb:¬ P b):WordsAt W (.slice (some ⟨b,o,none⟩) ws.length c) ws:=by
 obtain ⟨b',o',c',h1,h2,h3,h4⟩:=h
 injection h1 with a1 a2 a3
 injection a1 with a1
 injection a1 with q1 q2
 subst q1 q2 a3
 exact ⟨b,o,c,rfl,h2,Nat.lt_of_lt_of_le h3 f.size,fun j x hx=>f.cell (h4 j x hx) hb⟩
theorem LpSt.turn {w:World} {G:Nat} {y z:Ex} {o1:Nat} {us:List ByteArray} {wx wy:World} (h:LpSt w G y o1 us wx) (f:Fr (fun b=>b=G) wx wy) (hb:BxQ w.heap.size G z wy):LpSt w G z o1 us wy :=
 ⟨h.low.trans (f.below (by have:=h.low.size;exact this) fun k hk=>by have:=h.gt;omega),(f.block _ (by have:=h.box.lt;have:=h.gt;omega) (by have:=h.gt;omega)).trans h.res,h.words.fr f (by have:=h.gt;omega),hb,h.gt⟩
theorem words_at {w:World} {b o c:Nat} {ws:List ByteArray} (h:WordsAt w (.slice (some ⟨b,o,none⟩) ws.length c) ws) (j:Nat) (x:ByteArray) (hx:ws[j]? = some x):w.cell? ⟨b,o+j,none⟩=some (.string x):=by
 obtain ⟨b',o',c',h1,h2,h3,h4⟩:=h
 injection h1 with a1 a2 a3
 injection a1 with a1
 injection a1 with q1 q2
 subst q1 q2 a3
 exact h4 j x hx
theorem SpSt.next {w:World} {x0:ByteArray} {us:List ByteArray} {w1 w2:World} (h:SpSt w (x0::us) w1) (hb:Below w1.heap.size w1 w2) (k:Nat) (hk:k≤12) (o1:Nat) (ho:us=[]∨o1=1) :
  LpSt w w2.heap.size (zeroEx k) o1 us (w2.alloc (.cells #[.int .i64 (k:Int),.string ⟨#[]⟩,.string ⟨#[]⟩,.string ⟨#[]⟩,.int .i64 0,.slice none 0 0,.slice none 0 0,.slice none 0 0,.int .u64 0,.int .i64 0] 42)):=by
 have hal:=(Below.refl w2.heap.size w2).alloc (Nat.le_refl _) (.cells #[.int .i64 (k:Int),.string ⟨#[]⟩,.string ⟨#[]⟩,.string ⟨#[]⟩,.int .i64 0,.slice none 0 0,.slice none 0 0,.slice none 0 0,.int .u64 0,.int .i64 0] 42)
 have hl2:Below w.heap.size w w2:=h.low.trans (hb.mono h.low.size)
 have hr1:=h.room
 have hs2:=hb.size
 refine ⟨hl2.trans (hal.mono hl2.size),?_,?_,⟨Array.getElem?_push_size,hl2.size,zero_own _ _ _ (by omega) (by omega)⟩,by omega⟩
 ·rw [hal.block _ (by omega),hb.block _ (by omega)];exact h.res
 ·have hw:=(h.words.on hb).on hal
  rcases ho with rfl|rfl
  ·exact ⟨_,_,_,rfl,Nat.le_refl _,by have:=hal.size;omega,fun j x hx=>by cases hx⟩
  ·refine ⟨_,_,_,rfl,Nat.le_refl _,by have:=hal.size;omega,fun j x hx=>?_⟩
   have:=words_at hw (j+1) x (by simpa using hx)
   rwa [Nat.zero_add,Nat.add_comm j 1] at this
def PtSt (a:Option Addr) (G kw:Nat) (wr:World):Prop:=∀(j p:Nat),(shapeN kw)[j]? = some p→∃P,a=some ⟨P,0,none⟩∧P≠G∧wr.cell? ⟨P,j,none⟩=some (.int .i64 p)
theorem PtSt.on {a:Option Addr} {G kw:Nat} {wr wx:World} (h:PtSt a G kw wr) (hb:Below wr.heap.size wr wx):PtSt a G kw wx:=fun j p hp=>by
 obtain ⟨P,h1,h2,h3⟩:=h j p hp
 exact ⟨P,h1,h2,(hb.cell (p:=⟨P,j,none⟩) (cell_lt h3)).trans h3⟩
theorem PtSt.turn {a:Option Addr} {G kw:Nat} {wr wx:World} (h:PtSt a G kw wr) (f:Fr (fun b=>b=G) wr wx):PtSt a G kw wx:=fun j p hp=>by
 obtain ⟨P,h1,h2,h3⟩:=h j p hp
 exact ⟨P,h1,h2,f.cell h3 h2⟩
theorem shape_part (k i p:Nat) (h:(shapeN k)[i]? = some p):1≤p∧p≤10:=by
 have hm:=List.mem_of_getElem? h
 unfold shapeN at hm
 split at hm<;>simp at hm<;>omega
theorem shape_le (k:Nat):(shapeN k).length≤5:=by
 unfold shapeN
 split<;>simp
def tot (l:List (List UInt8)):Nat:=(l.map fun x=>x.length+1).sum
theorem tot_cons (x:List UInt8) (l:List (List UInt8)):tot (x::l)=x.length+1+tot l:=by simp [tot]
theorem tot_append (a b:List (List UInt8)):tot (a++b)=tot a+tot b:=by simp [tot]
theorem tot_len (l:List (List UInt8)):l.length≤tot l:=by
 induction l with
 | nil=>simp
 | cons x l ih=>rw [tot_cons,List.length_cons];omega
theorem tot_take (l:List (List UInt8)) (n:Nat):tot (l.take n)≤tot l:=by
 have h:=tot_append (l.take n) (l.drop n)
 rw [List.take_append_drop] at h;omega
theorem tot_drop (l:List (List UInt8)) (n:Nat):tot (l.drop n)≤tot l:=by
 have h:=tot_append (l.take n) (l.drop n)
 rw [List.take_append_drop] at h;omega
theorem join_tot:∀l:List (List UInt8),(joinW l).length≤tot l-1
 | []=>by simp [joinW,Lib.join,List.intercalate]
 | [x]=>by rw [joinW_one,tot_cons];omega
 | x::y::l=>by
  have ih:=join_tot (y::l)
  have e:joinW (x::y::l)=x++32::joinW (y::l):=by simp [joinW,Lib.join,List.intercalate]
  rw [e,List.length_append,List.length_cons,tot_cons]
  have:=tot_len (y::l)
  simp only [List.length_cons] at this
  omega
theorem tot_split:∀(k:Nat) (l:List UInt8),l.length≤k→tot (splitL l)=l.length+1
 | k,l,hk=>by
  rcases ix_cases l 32 with ⟨h,_⟩|⟨i,h,hi,_⟩
  ·rw [splitL_no h,tot_cons];simp [tot]
  ·rw [splitL_yes h,tot_cons]
   cases k with
   | zero=>omega
   | succ k =>
    rw [tot_split k (l.drop (i+1)) (by rw [List.length_drop];omega),List.length_take,List.length_drop]
    omega
theorem text_le (vs:List ByteArray) (q n:Nat) (h:tot (vs.map (·.data.toList))≤n) (hn:n≤4294967000):(textW (vs.take q)).size≤4294967000:=by
 have h1:=join_tot ((vs.take q).map (·.data.toList))
 have h2:=tot_take (vs.map (·.data.toList)) q
 rw [←List.map_take] at h2
 have h3:(textW (vs.take q)).size=(joinW ((vs.take q).map (·.data.toList))).length:=rfl
 omega
theorem empty_in {ws:List ByteArray} (h:containsS ws ⟨#[]⟩=true):∃x∈ws.map (·.data.toList),x=[] :=
 ⟨[],List.mem_map.2 ⟨⟨#[]⟩,(containsS_iff _ _).1 h,rfl⟩,rfl⟩
theorem en_no0 {w:World} {ws:List ByteArray} {w1 WZ:World} {s:ByteArray} (h:SpSt w ws w1) (f:Fr (fun b=>b=w.heap.size) w1 WZ) (he:∃x∈splitL s.data.toList,x=[]) :
  EnPost w s (.returned (.tuple #[.agg #[.int .i64 0,.string ⟨#[]⟩,.string ⟨#[]⟩,.string ⟨#[]⟩,.int .i64 0,.slice none 0 0,.slice none 0 0,.slice none 0 0,.int .u64 0,.int .i64 0],.bool false])) WZ :=
 ⟨⟨zeroEx 0,false,rfl,fun q=>(by cases q),textO_no (Or.inl he)⟩,h.low.trans (f.below h.low.size fun k hk=>by omega)⟩
theorem en_none {c:Option En} {kw:Nat} {o:Option (En × List (List UInt8))} (h:c=if kw=0 then none else o.bind fun r=>if r.2=[] then some r.1 else none) (ho:o=none):c=none:=by
 rw [h,ho];split<;>rfl
theorem en_no1 {w:World} {G:Nat} {y:Ex} {o:Nat} {us:List ByteArray} {w1 WZ:World} {s:ByteArray} (h:LpSt w G y o us w1) (f:Fr (fun b=>b=w.heap.size) w1 WZ) (he:entryO (splitL s.data.toList)=none) :
  EnPost w s (.returned (.tuple #[.agg #[.int .i64 0,.string ⟨#[]⟩,.string ⟨#[]⟩,.string ⟨#[]⟩,.int .i64 0,.slice none 0 0,.slice none 0 0,.slice none 0 0,.int .u64 0,.int .i64 0],.bool false])) WZ :=
 ⟨⟨zeroEx 0,false,rfl,fun q=>(by cases q),textO_no (Or.inr he)⟩,h.low.trans (f.below h.low.size fun k hk=>by omega)⟩
theorem en_no2 {w:World} {G:Nat} {y:Ex} {o:Nat} {us:List ByteArray} {w1 WZ:World} {s:ByteArray} (h:LpSt w G y o us w1) (f:Fr (fun b=>b=w.heap.size) w1 WZ) (he:entryO (splitL s.data.toList)=none) :
  EnPost w s (.returned (.tuple #[.agg #[.int .i64 y.kind,.string y.temp,.string y.ka,.string y.kb,.int .i64 y.iff,.slice y.vp y.vo.length y.vc,.slice y.ep y.eo.length y.ec,.slice y.pp y.po.length y.pc,.int .u64 y.stamp,.int .i64 y.num],.bool false])) WZ :=
 ⟨⟨y,false,rfl,fun q=>(by cases q),textO_no (Or.inr he)⟩,h.low.trans (f.below h.low.size fun k hk=>by omega)⟩
theorem en_yes {w:World} {G:Nat} {y:Ex} {o:Nat} {us:List ByteArray} {w1 WZ:World} {s:ByteArray} (h:LpSt w G y o us w1) (f:Fr (fun b=>b=w.heap.size) w1 WZ) (hne:[] ∉ splitL s.data.toList) (he:entryO (splitL s.data.toList)=some y.en) :
  EnPost w s (.returned (.tuple #[.agg #[.int .i64 y.kind,.string y.temp,.string y.ka,.string y.kb,.int .i64 y.iff,.slice y.vp y.vo.length y.vc,.slice y.ep y.eo.length y.ec,.slice y.pp y.po.length y.pc,.int .u64 y.stamp,.int .i64 y.num],.bool true])) WZ :=
 ⟨⟨y,true,rfl,fun _=>h.box.own.fr h.res f,by unfold textO;rw [if_neg hne,he];rfl⟩,h.low.trans (f.below h.low.size fun k hk=>by omega)⟩
theorem name_full (k:Nat) (h1:1≤k) (h2:k≤12):(nameN k).isEmpty=false:=by
 have:k=1∨k=2∨k=3∨k=4∨k=5∨k=6∨k=7∨k=8∨k=9∨k=10∨k=11∨k=12:=by omega
 rcases this with rfl|rfl|rfl|rfl|rfl|rfl|rfl|rfl|rfl|rfl|rfl|rfl<;>rfl
set_option maxHeartbeats 4000000 in
theorem opentry_any (s:ByteArray) (w:World) (hs:s.size≤4294967000) (hv:OpVars w) :
  Calls Tryz.prog 17 #[.string s] w fun e w'=>EnPost w s e w':=by
 obtain ⟨ws,hws,hpos,hsp⟩:=split_st s w hs hv
 have HSP:=hid hsp
 have HWS:=hid hws
 have hlen:ws.length≤4294967001:=by
  have h1:=congrArg List.length hws
  rw [List.length_map] at h1
  have h2:=split_len s.data.toList
  have e2:s.data.toList.length=s.size:=rfl
  omega
 have HV:=hid hv
 have HV:=hid hv
 clear hv hsp hws
 go_enter Tryz.func17,Tryz.ntmps17
 go_wp2_with fail
 refine HSP.out.mono ?_
 rintro e w1 ⟨rfl,hst⟩
 have HST:=hid hst
 clear hst
 go_wp2_with fail
 refine (contains_any w1 _ _ _ ws ⟨#[]⟩ HST.out.words hlen).mono ?_
 rintro e w1' ⟨rfl,he⟩
 subst he
 cases hct:containsS ws ⟨#[]⟩ with
 | true =>
  obtain ⟨WZ,hWZ⟩:∃WZ,((((((((((w1'.setCell ⟨w.heap.size,0,none⟩ (.int .i64 0)).setCell ⟨w.heap.size,1,none⟩ (.string ⟨#[]⟩)).setCell ⟨w.heap.size,2,none⟩ (.string ⟨#[]⟩)).setCell ⟨w.heap.size,3,none⟩ (.string ⟨#[]⟩)).setCell ⟨w.heap.size,4,none⟩ (.int .i64 0)).setCell ⟨w.heap.size,5,none⟩ (.slice none 0 0)).setCell ⟨w.heap.size,6,none⟩ (.slice none 0 0)).setCell ⟨w.heap.size,7,none⟩ (.slice none 0 0)).setCell ⟨w.heap.size,8,none⟩ (.int .u64 0)).setCell ⟨w.heap.size,9,none⟩ (.int .i64 0))=WZ:=⟨_,rfl⟩
  obtain ⟨hbz,fz⟩:=out_ten HST.out.res _ _ _ _ _ _ _ _ _ _ hWZ
  have HFIN:Hid (EnPost w s (.returned (.tuple #[.agg #[.int .i64 0,.string ⟨#[]⟩,.string ⟨#[]⟩,.string ⟨#[]⟩,.int .i64 0,.slice none 0 0,.slice none 0 0,.slice none 0 0,.int .u64 0,.int .i64 0],.bool false])) WZ):=hid (en_no0 HST.out fz (by rw [←split_blank _ _ (Nat.le_refl _),←HWS.out];exact empty_in hct))
  have y0:w1'.cell? ⟨w.heap.size,0,none⟩=some (.int .i64 0):=by rw [Lib.cell_of_heap HST.out.res];rfl
  have z0:w1'.frozen? ⟨w.heap.size,0,none⟩=false:=Lib.frozen_of_heap HST.out.res 0
  have y1:w1'.cell? ⟨w.heap.size,1,none⟩=some (.string ⟨#[]⟩):=by rw [Lib.cell_of_heap HST.out.res];rfl
  have z1:w1'.frozen? ⟨w.heap.size,1,none⟩=false:=Lib.frozen_of_heap HST.out.res 1
  have y2:w1'.cell? ⟨w.heap.size,2,none⟩=some (.string ⟨#[]⟩):=by rw [Lib.cell_of_heap HST.out.res];rfl
  have z2:w1'.frozen? ⟨w.heap.size,2,none⟩=false:=Lib.frozen_of_heap HST.out.res 2
  have y3:w1'.cell? ⟨w.heap.size,3,none⟩=some (.string ⟨#[]⟩):=by rw [Lib.cell_of_heap HST.out.res];rfl
  have z3:w1'.frozen? ⟨w.heap.size,3,none⟩=false:=Lib.frozen_of_heap HST.out.res 3
  have y4:w1'.cell? ⟨w.heap.size,4,none⟩=some (.int .i64 0):=by rw [Lib.cell_of_heap HST.out.res];rfl
  have z4:w1'.frozen? ⟨w.heap.size,4,none⟩=false:=Lib.frozen_of_heap HST.out.res 4
  have y5:w1'.cell? ⟨w.heap.size,5,none⟩=some (.slice none 0 0):=by rw [Lib.cell_of_heap HST.out.res];rfl
  have z5:w1'.frozen? ⟨w.heap.size,5,none⟩=false:=Lib.frozen_of_heap HST.out.res 5
  have y6:w1'.cell? ⟨w.heap.size,6,none⟩=some (.slice none 0 0):=by rw [Lib.cell_of_heap HST.out.res];rfl
  have z6:w1'.frozen? ⟨w.heap.size,6,none⟩=false:=Lib.frozen_of_heap HST.out.res 6
  have y7:w1'.cell? ⟨w.heap.size,7,none⟩=some (.slice none 0 0):=by rw [Lib.cell_of_heap HST.out.res];rfl
  have z7:w1'.frozen? ⟨w.heap.size,7,none⟩=false:=Lib.frozen_of_heap HST.out.res 7
  have y8:w1'.cell? ⟨w.heap.size,8,none⟩=some (.int .u64 0):=by rw [Lib.cell_of_heap HST.out.res];rfl
  have z8:w1'.frozen? ⟨w.heap.size,8,none⟩=false:=Lib.frozen_of_heap HST.out.res 8
  have y9:w1'.cell? ⟨w.heap.size,9,none⟩=some (.int .i64 0):=by rw [Lib.cell_of_heap HST.out.res];rfl
  have z9:w1'.frozen? ⟨w.heap.size,9,none⟩=false:=Lib.frozen_of_heap HST.out.res 9
  have g0:WZ.cell? ⟨w.heap.size,0,none⟩=some (.int .i64 0):=cz hbz
  have g1:WZ.cell? ⟨w.heap.size,1,none⟩=some (.string ⟨#[]⟩):=cz hbz
  have g2:WZ.cell? ⟨w.heap.size,2,none⟩=some (.string ⟨#[]⟩):=cz hbz
  have g3:WZ.cell? ⟨w.heap.size,3,none⟩=some (.string ⟨#[]⟩):=cz hbz
  have g4:WZ.cell? ⟨w.heap.size,4,none⟩=some (.int .i64 0):=cz hbz
  have g5:WZ.cell? ⟨w.heap.size,5,none⟩=some (.slice none 0 0):=cz hbz
  have g6:WZ.cell? ⟨w.heap.size,6,none⟩=some (.slice none 0 0):=cz hbz
  have g7:WZ.cell? ⟨w.heap.size,7,none⟩=some (.slice none 0 0):=cz hbz
  have g8:WZ.cell? ⟨w.heap.size,8,none⟩=some (.int .u64 0):=cz hbz
  have g9:WZ.cell? ⟨w.heap.size,9,none⟩=some (.int .i64 0):=cz hbz
  clear hbz fz
  go_wp2_with fail
  try rw [hWZ]
  exact bodyPost_ret (v:=.tuple #[.agg #[.int .i64 0,.string ⟨#[]⟩,.string ⟨#[]⟩,.string ⟨#[]⟩,.int .i64 0,.slice none 0 0,.slice none 0 0,.slice none 0 0,.int .u64 0,.int .i64 0],.bool false]) (by simp [results,Tryz.results17,go_sem,g0,g1,g2,g3,g4,g5,g6,g7,g8,g9]) rfl HFIN.out
 | false =>
  obtain ⟨x0,us,rfl⟩:∃x0 us,ws=x0::us:=by
   cases ws with
   | nil=>simp at hpos
   | cons a b=>exact ⟨a,b,rfl⟩
  have hx0:=words_at HST.out.words 0 x0 rfl
  rw [Nat.add_zero] at hx0
  have hl0:(0:Int)<((x0::us).length:Int):=by simp only [List.length_cons];omega
  have hl1:(1:Int)≤((x0::us).length:Int):=by simp only [List.length_cons];omega
  go_upto_region 5 with (first|(go_at_call 35;refine (kind_any x0 w1').mono ?_;rintro e w2 ⟨rfl,hb2⟩;have HB2:=hid hb2;clear hb2))
  have hk12:=kindW_le x0.data.toList
  generalize hkw:kindW x0.data.toList=kw at *
  have HEO:Hid (entryO (splitL s.data.toList)=if kw=0 then none else (partsR (shapeN kw) (zeroEn kw) (us.map (·.data.toList))).bind fun r=>if r.2=[] then some r.1 else none):=hid (by
   rw [←split_blank _ _ (Nat.le_refl _),←HWS.out,List.map_cons,entryO,hkw])
  have HNE:Hid ([] ∉ splitL s.data.toList):=hid (by
   rw [←split_blank _ _ (Nat.le_refl _),←HWS.out]
   intro h
   obtain ⟨x,hx,he⟩:=List.mem_map.1 h
   have hx2:x=⟨#[]⟩:=ba_nil he
   have:=(containsS_iff (x0::us) ⟨#[]⟩).2 (by rw [←hx2];exact hx)
   rw [hct] at this;cases this)
  have HTOT:Hid (tot (us.map (·.data.toList))≤s.size):=hid (by
   have h:=tot_split _ s.data.toList (Nat.le_refl _)
   rw [←split_blank _ _ (Nat.le_refl _),←HWS.out,List.map_cons,tot_cons] at h
   have e2:s.data.toList.length=s.size:=rfl
   omega)
  clear hkw
  go_cut [2,4,5] from 11 (fun v2 v4 v5 wx=>∃G o1,v2=.pointer (some ⟨w.heap.size,0,none⟩)∧v4=.slice (some ⟨w.heap.size+1,o1,none⟩) us.length us.length∧v5=.pointer (some ⟨G,0,none⟩)∧Hid (LpSt w G (zeroEx kw) o1 us wx))
  case first =>
   by_cases hu:us=[]
   ·have HS:=hid (HST.out.next HB2.out kw hk12 0 (Or.inl hu))
    subst hu
    go_wp2_with fail
    go_meet
    case rel=>exact ⟨_,_,rfl,rfl,rfl,HS.out⟩
   ·have HS:=hid (HST.out.next HB2.out kw hk12 1 (Or.inr rfl))
    have hun:¬ us.length=0:=fun q=>hu (List.eq_nil_of_length_eq_zero q)
    go_wp2_with fail
    go_meet
    case rel=>exact ⟨_,_,rfl,rfl,rfl,HS.out⟩
  case rest =>
  obtain ⟨G,o1,rfl,rfl,rfl,HS⟩:=hcut
  clear HB2 HST hx0 HSP
  have hc0:=HS.out.box.cell 0 _ rfl
  go_wp2_with fail
  refine (shape_any kw _ hk12).mono ?_
  rintro e w3 ⟨⟨a,n,rfl,hn,hpt⟩,hb3⟩
  have HN:=hid hn
  have HS3:=hid (HS.out.on hb3)
  have HPT:Hid (PtSt a G kw w3):=hid fun j p hp=>by
   obtain ⟨P,h1,h2,h3⟩:=hpt j p hp
   exact ⟨P,h1,by have:=HS.out.box.lt;omega,h3⟩
  clear hn hpt hb3 HS hc0
  go_wp2_with fail
  go_loopg [4,31] n (fun g v4 vi wr=>∃(i o:Nat) (vs:List ByteArray) (y:Ex),v4=.slice (some ⟨w.heap.size+1,o,none⟩) vs.length vs.length∧vi=.int .i64 i∧i≤n∧n-i≤g∧Hid (LpSt w G y o vs wr)∧Hid (PtSt a G kw wr)∧Hid (partsR (shapeN kw) (zeroEn kw) (us.map (·.data.toList))=partsR ((shapeN kw).drop i) y.en (vs.map (·.data.toList)))∧Hid (tot (vs.map (·.data.toList))≤s.size))
  case atStart=>exact ⟨0,o1,us,zeroEx kw,rfl,rfl,by omega,by omega,HS3,HPT,hid rfl,HTOT⟩
  case round =>
   obtain ⟨i,o,vs,y,rfl,rfl,hi,hig,HL,HP,HE,HT⟩:=hrel
   have hvl:vs.length≤4294967000:=by
    have h1:=tot_len (vs.map (·.data.toList))
    have h2:=HT.out
    rw [List.length_map] at h1
    omega
   have hn5:n≤5:=by rw [HN.out];exact shape_le kw
   by_cases hlt:i<n
   ·have HLT:=hid hlt
    have hltz:(i:Int)<(n:Int):=by omega
    have hiz:(0:Int)≤(i:Int):=by omega
    obtain ⟨p,hp⟩:∃p,(shapeN kw)[i]? = some p:=⟨_,List.getElem?_eq_getElem (by rw [←HN.out];exact hlt)⟩
    obtain ⟨P,hPa,hPG,hPc⟩:=HP.out i p hp
    subst hPa
    obtain ⟨hp1,hp10⟩:=shape_part kw i p hp
    have HDR:Hid ((shapeN kw).drop i=p::(shapeN kw).drop (i+1)):=hid (by
     obtain ⟨h1,h2⟩:=List.getElem?_eq_some_iff.1 hp
     rw [←h2];exact List.drop_eq_getElem_cons h1)
    clear hp
    go_wp2_with fail
    refine (opspan_any _ vs wr HL.out.words hvl p hp1 hp10).mono ?_
    rintro e w4 ⟨rfl,hb4⟩
    have HL4:=hid (HL.out.on hb4)
    have HP4:=hid (HP.out.on hb4)
    clear hb4 hPc
    obtain ⟨q,hq⟩:∃q,spanP (vs.map (·.data.toList)) p=q:=⟨_,rfl⟩
    have HQ:=hid hq
    rw [hq]
    clear hq
    by_cases hgt:vs.length<q
    ·have hgz:(vs.length:Int)<(q:Int):=by omega
     obtain ⟨WZ,hWZ⟩:∃WZ,((((((((((w4.setCell ⟨w.heap.size,0,none⟩ (.int .i64 0)).setCell ⟨w.heap.size,1,none⟩ (.string ⟨#[]⟩)).setCell ⟨w.heap.size,2,none⟩ (.string ⟨#[]⟩)).setCell ⟨w.heap.size,3,none⟩ (.string ⟨#[]⟩)).setCell ⟨w.heap.size,4,none⟩ (.int .i64 0)).setCell ⟨w.heap.size,5,none⟩ (.slice none 0 0)).setCell ⟨w.heap.size,6,none⟩ (.slice none 0 0)).setCell ⟨w.heap.size,7,none⟩ (.slice none 0 0)).setCell ⟨w.heap.size,8,none⟩ (.int .u64 0)).setCell ⟨w.heap.size,9,none⟩ (.int .i64 0))=WZ:=⟨_,rfl⟩
     obtain ⟨hbz,fz⟩:=out_ten HL4.out.res _ _ _ _ _ _ _ _ _ _ hWZ
     have HFIN:Hid (EnPost w s (.returned (.tuple #[.agg #[.int .i64 0,.string ⟨#[]⟩,.string ⟨#[]⟩,.string ⟨#[]⟩,.int .i64 0,.slice none 0 0,.slice none 0 0,.slice none 0 0,.int .u64 0,.int .i64 0],.bool false])) WZ):=hid (en_no1 HL4.out fz (en_none HEO.out (by rw [HE.out,HDR.out,partsR,if_pos (by rw [HQ.out,List.length_map];exact hgt)])))
     have y0:w4.cell? ⟨w.heap.size,0,none⟩=some (.int .i64 0):=by rw [Lib.cell_of_heap HL4.out.res];rfl
     have z0:=Lib.frozen_of_heap HL4.out.res 0
     have y1:w4.cell? ⟨w.heap.size,1,none⟩=some (.string ⟨#[]⟩):=by rw [Lib.cell_of_heap HL4.out.res];rfl
     have z1:=Lib.frozen_of_heap HL4.out.res 1
     have y2:w4.cell? ⟨w.heap.size,2,none⟩=some (.string ⟨#[]⟩):=by rw [Lib.cell_of_heap HL4.out.res];rfl
     have z2:=Lib.frozen_of_heap HL4.out.res 2
     have y3:w4.cell? ⟨w.heap.size,3,none⟩=some (.string ⟨#[]⟩):=by rw [Lib.cell_of_heap HL4.out.res];rfl
     have z3:=Lib.frozen_of_heap HL4.out.res 3
     have y4:w4.cell? ⟨w.heap.size,4,none⟩=some (.int .i64 0):=by rw [Lib.cell_of_heap HL4.out.res];rfl
     have z4:=Lib.frozen_of_heap HL4.out.res 4
     have y5:w4.cell? ⟨w.heap.size,5,none⟩=some (.slice none 0 0):=by rw [Lib.cell_of_heap HL4.out.res];rfl
     have z5:=Lib.frozen_of_heap HL4.out.res 5
     have y6:w4.cell? ⟨w.heap.size,6,none⟩=some (.slice none 0 0):=by rw [Lib.cell_of_heap HL4.out.res];rfl
     have z6:=Lib.frozen_of_heap HL4.out.res 6
     have y7:w4.cell? ⟨w.heap.size,7,none⟩=some (.slice none 0 0):=by rw [Lib.cell_of_heap HL4.out.res];rfl
     have z7:=Lib.frozen_of_heap HL4.out.res 7
     have y8:w4.cell? ⟨w.heap.size,8,none⟩=some (.int .u64 0):=by rw [Lib.cell_of_heap HL4.out.res];rfl
     have z8:=Lib.frozen_of_heap HL4.out.res 8
     have y9:w4.cell? ⟨w.heap.size,9,none⟩=some (.int .i64 0):=by rw [Lib.cell_of_heap HL4.out.res];rfl
     have z9:=Lib.frozen_of_heap HL4.out.res 9
     have g0:WZ.cell? ⟨w.heap.size,0,none⟩=some (.int .i64 0):=cz hbz
     have g1:WZ.cell? ⟨w.heap.size,1,none⟩=some (.string ⟨#[]⟩):=cz hbz
     have g2:WZ.cell? ⟨w.heap.size,2,none⟩=some (.string ⟨#[]⟩):=cz hbz
     have g3:WZ.cell? ⟨w.heap.size,3,none⟩=some (.string ⟨#[]⟩):=cz hbz
     have g4:WZ.cell? ⟨w.heap.size,4,none⟩=some (.int .i64 0):=cz hbz
     have g5:WZ.cell? ⟨w.heap.size,5,none⟩=some (.slice none 0 0):=cz hbz
     have g6:WZ.cell? ⟨w.heap.size,6,none⟩=some (.slice none 0 0):=cz hbz
     have g7:WZ.cell? ⟨w.heap.size,7,none⟩=some (.slice none 0 0):=cz hbz
     have g8:WZ.cell? ⟨w.heap.size,8,none⟩=some (.int .u64 0):=cz hbz
     have g9:WZ.cell? ⟨w.heap.size,9,none⟩=some (.int .i64 0):=cz hbz
     clear hbz fz
     go_wp2_with fail
     try rw [hWZ]
     exact bodyPost_ret (v:=.tuple #[.agg #[.int .i64 0,.string ⟨#[]⟩,.string ⟨#[]⟩,.string ⟨#[]⟩,.int .i64 0,.slice none 0 0,.slice none 0 0,.slice none 0 0,.int .u64 0,.int .i64 0],.bool false]) (by simp [results,Tryz.results17,go_sem,g0,g1,g2,g3,g4,g5,g6,g7,g8,g9]) rfl HFIN.out
    ·have hgz:¬ (vs.length:Int)<(q:Int):=by omega
     have hq0:(0:Int)≤(q:Int):=by omega
     have hqv:(q:Int)≤(vs.length:Int):=by omega
     have hwt:=HL4.out.words.take q (by omega)
     have hsz:(textW (vs.take q)).size≤4294967000:=text_le vs q s.size HT.out hs
     have HRD:Hid (∀V,V=Value.slice (some ⟨w.heap.size+1,o,none⟩) q vs.length→Calls Tryz.prog 38 #[.pointer (some ⟨G,0,none⟩),.int .i64 p,V] w4 fun e w'=>RdPost w.heap.size G y p (vs.take q) w4 e w'):=hid fun V hV=>by
      subst hV
      exact opread_any _ (vs.take q) G w.heap.size y w4 (HV.out.on HL4.out.low) hwt hsz (by rw [List.length_take];omega) HL4.out.box p hp1 hp10
     have HST2:Hid (partsR (shapeN kw) (zeroEn kw) (us.map (·.data.toList))=(readP y.en p (textW (vs.take q)).data.toList).bind fun f=>partsR ((shapeN kw).drop (i+1)) f ((vs.drop q).map (·.data.toList))):=hid (by
      rw [HE.out,HDR.out,partsR,HQ.out,if_neg (by rw [List.length_map];exact hgt),textW_data,List.map_take,List.map_drop])
     clear hwt
     go_wp2_with fail
     refine (HRD.out _ rfl).mono ?_
     rintro e w5 ⟨⟨ok,z,rfl,hbx,hrd⟩,hfr⟩
     have HL5:=hid (HL4.out.turn hfr hbx)
     have HP5:=hid (HP4.out.turn hfr)
     have HRD2:=hid hrd
     clear hfr hbx hrd HRD HL4 HP4 HL HP
     cases ok with
     | false =>
      obtain ⟨WZ,hWZ⟩:∃WZ,((((((((((w5.setCell ⟨w.heap.size,0,none⟩ (.int .i64 0)).setCell ⟨w.heap.size,1,none⟩ (.string ⟨#[]⟩)).setCell ⟨w.heap.size,2,none⟩ (.string ⟨#[]⟩)).setCell ⟨w.heap.size,3,none⟩ (.string ⟨#[]⟩)).setCell ⟨w.heap.size,4,none⟩ (.int .i64 0)).setCell ⟨w.heap.size,5,none⟩ (.slice none 0 0)).setCell ⟨w.heap.size,6,none⟩ (.slice none 0 0)).setCell ⟨w.heap.size,7,none⟩ (.slice none 0 0)).setCell ⟨w.heap.size,8,none⟩ (.int .u64 0)).setCell ⟨w.heap.size,9,none⟩ (.int .i64 0))=WZ:=⟨_,rfl⟩
      obtain ⟨hbz,fz⟩:=out_ten HL5.out.res _ _ _ _ _ _ _ _ _ _ hWZ
      have HFIN:Hid (EnPost w s (.returned (.tuple #[.agg #[.int .i64 0,.string ⟨#[]⟩,.string ⟨#[]⟩,.string ⟨#[]⟩,.int .i64 0,.slice none 0 0,.slice none 0 0,.slice none 0 0,.int .u64 0,.int .i64 0],.bool false])) WZ):=hid (en_no1 HL5.out fz (en_none HEO.out (by rw [HST2.out,HRD2.out];rfl)))
      have y0:w5.cell? ⟨w.heap.size,0,none⟩=some (.int .i64 0):=by rw [Lib.cell_of_heap HL5.out.res];rfl
      have z0:=Lib.frozen_of_heap HL5.out.res 0
      have y1:w5.cell? ⟨w.heap.size,1,none⟩=some (.string ⟨#[]⟩):=by rw [Lib.cell_of_heap HL5.out.res];rfl
      have z1:=Lib.frozen_of_heap HL5.out.res 1
      have y2:w5.cell? ⟨w.heap.size,2,none⟩=some (.string ⟨#[]⟩):=by rw [Lib.cell_of_heap HL5.out.res];rfl
      have z2:=Lib.frozen_of_heap HL5.out.res 2
      have y3:w5.cell? ⟨w.heap.size,3,none⟩=some (.string ⟨#[]⟩):=by rw [Lib.cell_of_heap HL5.out.res];rfl
      have z3:=Lib.frozen_of_heap HL5.out.res 3
      have y4:w5.cell? ⟨w.heap.size,4,none⟩=some (.int .i64 0):=by rw [Lib.cell_of_heap HL5.out.res];rfl
      have z4:=Lib.frozen_of_heap HL5.out.res 4
      have y5:w5.cell? ⟨w.heap.size,5,none⟩=some (.slice none 0 0):=by rw [Lib.cell_of_heap HL5.out.res];rfl
      have z5:=Lib.frozen_of_heap HL5.out.res 5
      have y6:w5.cell? ⟨w.heap.size,6,none⟩=some (.slice none 0 0):=by rw [Lib.cell_of_heap HL5.out.res];rfl
      have z6:=Lib.frozen_of_heap HL5.out.res 6
      have y7:w5.cell? ⟨w.heap.size,7,none⟩=some (.slice none 0 0):=by rw [Lib.cell_of_heap HL5.out.res];rfl
      have z7:=Lib.frozen_of_heap HL5.out.res 7
      have y8:w5.cell? ⟨w.heap.size,8,none⟩=some (.int .u64 0):=by rw [Lib.cell_of_heap HL5.out.res];rfl
      have z8:=Lib.frozen_of_heap HL5.out.res 8
      have y9:w5.cell? ⟨w.heap.size,9,none⟩=some (.int .i64 0):=by rw [Lib.cell_of_heap HL5.out.res];rfl
      have z9:=Lib.frozen_of_heap HL5.out.res 9
      have g0:WZ.cell? ⟨w.heap.size,0,none⟩=some (.int .i64 0):=cz hbz
      have g1:WZ.cell? ⟨w.heap.size,1,none⟩=some (.string ⟨#[]⟩):=cz hbz
      have g2:WZ.cell? ⟨w.heap.size,2,none⟩=some (.string ⟨#[]⟩):=cz hbz
      have g3:WZ.cell? ⟨w.heap.size,3,none⟩=some (.string ⟨#[]⟩):=cz hbz
      have g4:WZ.cell? ⟨w.heap.size,4,none⟩=some (.int .i64 0):=cz hbz
      have g5:WZ.cell? ⟨w.heap.size,5,none⟩=some (.slice none 0 0):=cz hbz
      have g6:WZ.cell? ⟨w.heap.size,6,none⟩=some (.slice none 0 0):=cz hbz
      have g7:WZ.cell? ⟨w.heap.size,7,none⟩=some (.slice none 0 0):=cz hbz
      have g8:WZ.cell? ⟨w.heap.size,8,none⟩=some (.int .u64 0):=cz hbz
      have g9:WZ.cell? ⟨w.heap.size,9,none⟩=some (.int .i64 0):=cz hbz
      clear hbz fz
      go_wp2_with fail
      try rw [hWZ]
      exact bodyPost_ret (v:=.tuple #[.agg #[.int .i64 0,.string ⟨#[]⟩,.string ⟨#[]⟩,.string ⟨#[]⟩,.int .i64 0,.slice none 0 0,.slice none 0 0,.slice none 0 0,.int .u64 0,.int .i64 0],.bool false]) (by simp [results,Tryz.results17,go_sem,g0,g1,g2,g3,g4,g5,g6,g7,g8,g9]) rfl HFIN.out
     | true =>
      have HE5:Hid (partsR (shapeN kw) (zeroEn kw) (us.map (·.data.toList))=partsR ((shapeN kw).drop (i+1)) z.en ((vs.drop q).map (·.data.toList))):=hid (by rw [HST2.out,HRD2.out];rfl)
      have HT5:Hid (tot ((vs.drop q).map (·.data.toList))≤s.size):=hid (by
       have h:=tot_drop (vs.map (·.data.toList)) q
       rw [←List.map_drop] at h
       exact Nat.le_trans h HT.out)
      have HLD:=hid (List.length_drop (i:=q) (l:=vs))
      by_cases hqe:q=vs.length
      ·have HW5:Hid (LpSt w G z o (vs.drop q) w5):=hid (by
        have e:vs.drop q=[]:=by rw [hqe];exact List.drop_length
        rw [e]
        exact ⟨HL5.out.low,HL5.out.res,⟨_,_,_,rfl,Nat.le_refl _,by have:=HL5.out.box.lt;have:=HL5.out.gt;omega,fun j x hx=>by cases hx⟩,HL5.out.box,HL5.out.gt⟩)
       subst hqe
       go_wp2_with fail
       go_roundg (n-(i+1))
       case measure=>omega
       exact ⟨i+1,o,vs.drop vs.length,z,by rw [HLD.out,Nat.sub_self],by go_num,HLT.out,Nat.le_refl _,HW5.out,HP5.out,HE5.out,HT5.out⟩
      ·have HW5:Hid (LpSt w G z (o+q) (vs.drop q) w5):=hid (by
        have h:=HL5.out.words.drop q (by omega)
        refine ⟨HL5.out.low,HL5.out.res,?_,HL5.out.box,HL5.out.gt⟩
        rw [←HLD.out] at h
        exact h)
       have hqe2:¬ vs.length=q:=fun h=>hqe h.symm
       go_wp2_with fail
       go_roundg (n-(i+1))
       case measure=>omega
       exact ⟨i+1,o+q,vs.drop q,z,by rw [HLD.out],by go_num,HLT.out,Nat.le_refl _,HW5.out,HP5.out,HE5.out,HT5.out⟩
   ·have hltz:¬ (i:Int)<(n:Int):=by omega
    have HE6:Hid (partsR (shapeN kw) (zeroEn kw) (us.map (·.data.toList))=some (y.en,vs.map (·.data.toList))):=hid (by
     rw [HE.out,List.drop_eq_nil_of_le (by rw [←HN.out];omega)];rfl)
    have c0:=HL.out.box.cell 0 _ rfl
    have c1:=HL.out.box.cell 1 _ rfl
    have c2:=HL.out.box.cell 2 _ rfl
    have c3:=HL.out.box.cell 3 _ rfl
    have c4:=HL.out.box.cell 4 _ rfl
    have c5:=HL.out.box.cell 5 _ rfl
    have c6:=HL.out.box.cell 6 _ rfl
    have c7:=HL.out.box.cell 7 _ rfl
    have c8:=HL.out.box.cell 8 _ rfl
    have c9:=HL.out.box.cell 9 _ rfl
    simp only [Ex.vs,Ex.es,Ex.ps] at c5 c6 c7
    by_cases hk0:kw=0
    ·subst hk0
     obtain ⟨WZ,hWZ⟩:∃WZ,((((((((((wr.setCell ⟨w.heap.size,0,none⟩ (.int .i64 y.kind)).setCell ⟨w.heap.size,1,none⟩ (.string y.temp)).setCell ⟨w.heap.size,2,none⟩ (.string y.ka)).setCell ⟨w.heap.size,3,none⟩ (.string y.kb)).setCell ⟨w.heap.size,4,none⟩ (.int .i64 y.iff)).setCell ⟨w.heap.size,5,none⟩ (.slice y.vp y.vo.length y.vc)).setCell ⟨w.heap.size,6,none⟩ (.slice y.ep y.eo.length y.ec)).setCell ⟨w.heap.size,7,none⟩ (.slice y.pp y.po.length y.pc)).setCell ⟨w.heap.size,8,none⟩ (.int .u64 y.stamp)).setCell ⟨w.heap.size,9,none⟩ (.int .i64 y.num))=WZ:=⟨_,rfl⟩
     obtain ⟨hbz,fz⟩:=out_ten HL.out.res _ _ _ _ _ _ _ _ _ _ hWZ
     have HFIN:Hid (EnPost w s (.returned (.tuple #[.agg #[.int .i64 y.kind,.string y.temp,.string y.ka,.string y.kb,.int .i64 y.iff,.slice y.vp y.vo.length y.vc,.slice y.ep y.eo.length y.ec,.slice y.pp y.po.length y.pc,.int .u64 y.stamp,.int .i64 y.num],.bool false])) WZ):=hid (en_no2 HL.out fz (by rw [HEO.out,if_pos rfl]))
     have y0:wr.cell? ⟨w.heap.size,0,none⟩=some (.int .i64 0):=by rw [Lib.cell_of_heap HL.out.res];rfl
     have z0:=Lib.frozen_of_heap HL.out.res 0
     have y1:wr.cell? ⟨w.heap.size,1,none⟩=some (.string ⟨#[]⟩):=by rw [Lib.cell_of_heap HL.out.res];rfl
     have z1:=Lib.frozen_of_heap HL.out.res 1
     have y2:wr.cell? ⟨w.heap.size,2,none⟩=some (.string ⟨#[]⟩):=by rw [Lib.cell_of_heap HL.out.res];rfl
     have z2:=Lib.frozen_of_heap HL.out.res 2
     have y3:wr.cell? ⟨w.heap.size,3,none⟩=some (.string ⟨#[]⟩):=by rw [Lib.cell_of_heap HL.out.res];rfl
     have z3:=Lib.frozen_of_heap HL.out.res 3
     have y4:wr.cell? ⟨w.heap.size,4,none⟩=some (.int .i64 0):=by rw [Lib.cell_of_heap HL.out.res];rfl
     have z4:=Lib.frozen_of_heap HL.out.res 4
     have y5:wr.cell? ⟨w.heap.size,5,none⟩=some (.slice none 0 0):=by rw [Lib.cell_of_heap HL.out.res];rfl
     have z5:=Lib.frozen_of_heap HL.out.res 5
     have y6:wr.cell? ⟨w.heap.size,6,none⟩=some (.slice none 0 0):=by rw [Lib.cell_of_heap HL.out.res];rfl
     have z6:=Lib.frozen_of_heap HL.out.res 6
     have y7:wr.cell? ⟨w.heap.size,7,none⟩=some (.slice none 0 0):=by rw [Lib.cell_of_heap HL.out.res];rfl
     have z7:=Lib.frozen_of_heap HL.out.res 7
     have y8:wr.cell? ⟨w.heap.size,8,none⟩=some (.int .u64 0):=by rw [Lib.cell_of_heap HL.out.res];rfl
     have z8:=Lib.frozen_of_heap HL.out.res 8
     have y9:wr.cell? ⟨w.heap.size,9,none⟩=some (.int .i64 0):=by rw [Lib.cell_of_heap HL.out.res];rfl
     have z9:=Lib.frozen_of_heap HL.out.res 9
     have g0:WZ.cell? ⟨w.heap.size,0,none⟩=some (.int .i64 y.kind):=cz hbz
     have g1:WZ.cell? ⟨w.heap.size,1,none⟩=some (.string y.temp):=cz hbz
     have g2:WZ.cell? ⟨w.heap.size,2,none⟩=some (.string y.ka):=cz hbz
     have g3:WZ.cell? ⟨w.heap.size,3,none⟩=some (.string y.kb):=cz hbz
     have g4:WZ.cell? ⟨w.heap.size,4,none⟩=some (.int .i64 y.iff):=cz hbz
     have g5:WZ.cell? ⟨w.heap.size,5,none⟩=some (.slice y.vp y.vo.length y.vc):=cz hbz
     have g6:WZ.cell? ⟨w.heap.size,6,none⟩=some (.slice y.ep y.eo.length y.ec):=cz hbz
     have g7:WZ.cell? ⟨w.heap.size,7,none⟩=some (.slice y.pp y.po.length y.pc):=cz hbz
     have g8:WZ.cell? ⟨w.heap.size,8,none⟩=some (.int .u64 y.stamp):=cz hbz
     have g9:WZ.cell? ⟨w.heap.size,9,none⟩=some (.int .i64 y.num):=cz hbz
     clear hbz fz
     go_wp2_with fail
     try rw [hWZ]
     exact bodyPost_ret (v:=.tuple #[.agg #[.int .i64 y.kind,.string y.temp,.string y.ka,.string y.kb,.int .i64 y.iff,.slice y.vp y.vo.length y.vc,.slice y.ep y.eo.length y.ec,.slice y.pp y.po.length y.pc,.int .u64 y.stamp,.int .i64 y.num],.bool false]) (by simp [results,Tryz.results17,go_sem,g0,g1,g2,g3,g4,g5,g6,g7,g8,g9]) rfl HFIN.out
    ·have hnm:(nameN kw).isEmpty=false:=name_full kw (by omega) hk12
     cases vs with
     | nil =>
      obtain ⟨WZ,hWZ⟩:∃WZ,((((((((((wr.setCell ⟨w.heap.size,0,none⟩ (.int .i64 y.kind)).setCell ⟨w.heap.size,1,none⟩ (.string y.temp)).setCell ⟨w.heap.size,2,none⟩ (.string y.ka)).setCell ⟨w.heap.size,3,none⟩ (.string y.kb)).setCell ⟨w.heap.size,4,none⟩ (.int .i64 y.iff)).setCell ⟨w.heap.size,5,none⟩ (.slice y.vp y.vo.length y.vc)).setCell ⟨w.heap.size,6,none⟩ (.slice y.ep y.eo.length y.ec)).setCell ⟨w.heap.size,7,none⟩ (.slice y.pp y.po.length y.pc)).setCell ⟨w.heap.size,8,none⟩ (.int .u64 y.stamp)).setCell ⟨w.heap.size,9,none⟩ (.int .i64 y.num))=WZ:=⟨_,rfl⟩
      obtain ⟨hbz,fz⟩:=out_ten HL.out.res _ _ _ _ _ _ _ _ _ _ hWZ
      have HFIN:Hid (EnPost w s (.returned (.tuple #[.agg #[.int .i64 y.kind,.string y.temp,.string y.ka,.string y.kb,.int .i64 y.iff,.slice y.vp y.vo.length y.vc,.slice y.ep y.eo.length y.ec,.slice y.pp y.po.length y.pc,.int .u64 y.stamp,.int .i64 y.num],.bool true])) WZ):=hid (en_yes HL.out fz HNE.out (by rw [HEO.out,if_neg hk0,HE6.out];rfl))
      have y0:wr.cell? ⟨w.heap.size,0,none⟩=some (.int .i64 0):=by rw [Lib.cell_of_heap HL.out.res];rfl
      have z0:=Lib.frozen_of_heap HL.out.res 0
      have y1:wr.cell? ⟨w.heap.size,1,none⟩=some (.string ⟨#[]⟩):=by rw [Lib.cell_of_heap HL.out.res];rfl
      have z1:=Lib.frozen_of_heap HL.out.res 1
      have y2:wr.cell? ⟨w.heap.size,2,none⟩=some (.string ⟨#[]⟩):=by rw [Lib.cell_of_heap HL.out.res];rfl
      have z2:=Lib.frozen_of_heap HL.out.res 2
      have y3:wr.cell? ⟨w.heap.size,3,none⟩=some (.string ⟨#[]⟩):=by rw [Lib.cell_of_heap HL.out.res];rfl
      have z3:=Lib.frozen_of_heap HL.out.res 3
      have y4:wr.cell? ⟨w.heap.size,4,none⟩=some (.int .i64 0):=by rw [Lib.cell_of_heap HL.out.res];rfl
      have z4:=Lib.frozen_of_heap HL.out.res 4
      have y5:wr.cell? ⟨w.heap.size,5,none⟩=some (.slice none 0 0):=by rw [Lib.cell_of_heap HL.out.res];rfl
      have z5:=Lib.frozen_of_heap HL.out.res 5
      have y6:wr.cell? ⟨w.heap.size,6,none⟩=some (.slice none 0 0):=by rw [Lib.cell_of_heap HL.out.res];rfl
      have z6:=Lib.frozen_of_heap HL.out.res 6
      have y7:wr.cell? ⟨w.heap.size,7,none⟩=some (.slice none 0 0):=by rw [Lib.cell_of_heap HL.out.res];rfl
      have z7:=Lib.frozen_of_heap HL.out.res 7
      have y8:wr.cell? ⟨w.heap.size,8,none⟩=some (.int .u64 0):=by rw [Lib.cell_of_heap HL.out.res];rfl
      have z8:=Lib.frozen_of_heap HL.out.res 8
      have y9:wr.cell? ⟨w.heap.size,9,none⟩=some (.int .i64 0):=by rw [Lib.cell_of_heap HL.out.res];rfl
      have z9:=Lib.frozen_of_heap HL.out.res 9
      have g0:WZ.cell? ⟨w.heap.size,0,none⟩=some (.int .i64 y.kind):=cz hbz
      have g1:WZ.cell? ⟨w.heap.size,1,none⟩=some (.string y.temp):=cz hbz
      have g2:WZ.cell? ⟨w.heap.size,2,none⟩=some (.string y.ka):=cz hbz
      have g3:WZ.cell? ⟨w.heap.size,3,none⟩=some (.string y.kb):=cz hbz
      have g4:WZ.cell? ⟨w.heap.size,4,none⟩=some (.int .i64 y.iff):=cz hbz
      have g5:WZ.cell? ⟨w.heap.size,5,none⟩=some (.slice y.vp y.vo.length y.vc):=cz hbz
      have g6:WZ.cell? ⟨w.heap.size,6,none⟩=some (.slice y.ep y.eo.length y.ec):=cz hbz
      have g7:WZ.cell? ⟨w.heap.size,7,none⟩=some (.slice y.pp y.po.length y.pc):=cz hbz
      have g8:WZ.cell? ⟨w.heap.size,8,none⟩=some (.int .u64 y.stamp):=cz hbz
      have g9:WZ.cell? ⟨w.heap.size,9,none⟩=some (.int .i64 y.num):=cz hbz
      clear hbz fz
      go_wp2_with fail
      try rw [hWZ]
      exact bodyPost_ret (v:=.tuple #[.agg #[.int .i64 y.kind,.string y.temp,.string y.ka,.string y.kb,.int .i64 y.iff,.slice y.vp y.vo.length y.vc,.slice y.ep y.eo.length y.ec,.slice y.pp y.po.length y.pc,.int .u64 y.stamp,.int .i64 y.num],.bool true]) (by simp [results,Tryz.results17,go_sem,g0,g1,g2,g3,g4,g5,g6,g7,g8,g9]) rfl HFIN.out
     | cons v0 vt =>
      have hv0:¬ ((v0::vt).length:Int)=0:=by simp only [List.length_cons];omega
      have hv1:¬ (vt.length:Int)+1=0:=by omega
      obtain ⟨WZ,hWZ⟩:∃WZ,((((((((((wr.setCell ⟨w.heap.size,0,none⟩ (.int .i64 y.kind)).setCell ⟨w.heap.size,1,none⟩ (.string y.temp)).setCell ⟨w.heap.size,2,none⟩ (.string y.ka)).setCell ⟨w.heap.size,3,none⟩ (.string y.kb)).setCell ⟨w.heap.size,4,none⟩ (.int .i64 y.iff)).setCell ⟨w.heap.size,5,none⟩ (.slice y.vp y.vo.length y.vc)).setCell ⟨w.heap.size,6,none⟩ (.slice y.ep y.eo.length y.ec)).setCell ⟨w.heap.size,7,none⟩ (.slice y.pp y.po.length y.pc)).setCell ⟨w.heap.size,8,none⟩ (.int .u64 y.stamp)).setCell ⟨w.heap.size,9,none⟩ (.int .i64 y.num))=WZ:=⟨_,rfl⟩
      obtain ⟨hbz,fz⟩:=out_ten HL.out.res _ _ _ _ _ _ _ _ _ _ hWZ
      have HFIN:Hid (EnPost w s (.returned (.tuple #[.agg #[.int .i64 y.kind,.string y.temp,.string y.ka,.string y.kb,.int .i64 y.iff,.slice y.vp y.vo.length y.vc,.slice y.ep y.eo.length y.ec,.slice y.pp y.po.length y.pc,.int .u64 y.stamp,.int .i64 y.num],.bool false])) WZ):=hid (en_no2 HL.out fz (by rw [HEO.out,if_neg hk0,HE6.out];rfl))
      have y0:wr.cell? ⟨w.heap.size,0,none⟩=some (.int .i64 0):=by rw [Lib.cell_of_heap HL.out.res];rfl
      have z0:=Lib.frozen_of_heap HL.out.res 0
      have y1:wr.cell? ⟨w.heap.size,1,none⟩=some (.string ⟨#[]⟩):=by rw [Lib.cell_of_heap HL.out.res];rfl
      have z1:=Lib.frozen_of_heap HL.out.res 1
      have y2:wr.cell? ⟨w.heap.size,2,none⟩=some (.string ⟨#[]⟩):=by rw [Lib.cell_of_heap HL.out.res];rfl
      have z2:=Lib.frozen_of_heap HL.out.res 2
      have y3:wr.cell? ⟨w.heap.size,3,none⟩=some (.string ⟨#[]⟩):=by rw [Lib.cell_of_heap HL.out.res];rfl
      have z3:=Lib.frozen_of_heap HL.out.res 3
      have y4:wr.cell? ⟨w.heap.size,4,none⟩=some (.int .i64 0):=by rw [Lib.cell_of_heap HL.out.res];rfl
      have z4:=Lib.frozen_of_heap HL.out.res 4
      have y5:wr.cell? ⟨w.heap.size,5,none⟩=some (.slice none 0 0):=by rw [Lib.cell_of_heap HL.out.res];rfl
      have z5:=Lib.frozen_of_heap HL.out.res 5
      have y6:wr.cell? ⟨w.heap.size,6,none⟩=some (.slice none 0 0):=by rw [Lib.cell_of_heap HL.out.res];rfl
      have z6:=Lib.frozen_of_heap HL.out.res 6
      have y7:wr.cell? ⟨w.heap.size,7,none⟩=some (.slice none 0 0):=by rw [Lib.cell_of_heap HL.out.res];rfl
      have z7:=Lib.frozen_of_heap HL.out.res 7
      have y8:wr.cell? ⟨w.heap.size,8,none⟩=some (.int .u64 0):=by rw [Lib.cell_of_heap HL.out.res];rfl
      have z8:=Lib.frozen_of_heap HL.out.res 8
      have y9:wr.cell? ⟨w.heap.size,9,none⟩=some (.int .i64 0):=by rw [Lib.cell_of_heap HL.out.res];rfl
      have z9:=Lib.frozen_of_heap HL.out.res 9
      have g0:WZ.cell? ⟨w.heap.size,0,none⟩=some (.int .i64 y.kind):=cz hbz
      have g1:WZ.cell? ⟨w.heap.size,1,none⟩=some (.string y.temp):=cz hbz
      have g2:WZ.cell? ⟨w.heap.size,2,none⟩=some (.string y.ka):=cz hbz
      have g3:WZ.cell? ⟨w.heap.size,3,none⟩=some (.string y.kb):=cz hbz
      have g4:WZ.cell? ⟨w.heap.size,4,none⟩=some (.int .i64 y.iff):=cz hbz
      have g5:WZ.cell? ⟨w.heap.size,5,none⟩=some (.slice y.vp y.vo.length y.vc):=cz hbz
      have g6:WZ.cell? ⟨w.heap.size,6,none⟩=some (.slice y.ep y.eo.length y.ec):=cz hbz
      have g7:WZ.cell? ⟨w.heap.size,7,none⟩=some (.slice y.pp y.po.length y.pc):=cz hbz
      have g8:WZ.cell? ⟨w.heap.size,8,none⟩=some (.int .u64 y.stamp):=cz hbz
      have g9:WZ.cell? ⟨w.heap.size,9,none⟩=some (.int .i64 y.num):=cz hbz
      clear hbz fz
      go_wp2_with fail
      try rw [hWZ]
      exact bodyPost_ret (v:=.tuple #[.agg #[.int .i64 y.kind,.string y.temp,.string y.ka,.string y.kb,.int .i64 y.iff,.slice y.vp y.vo.length y.vc,.slice y.ep y.eo.length y.ec,.slice y.pp y.po.length y.pc,.int .u64 y.stamp,.int .i64 y.num],.bool false]) (by simp [results,Tryz.results17,go_sem,g0,g1,g2,g3,g4,g5,g6,g7,g8,g9,hv1]) rfl HFIN.out
end
section
open Go.RowKit
def sep3:List UInt8:=[32,59,32]
def split3 (l:List UInt8):List (List UInt8):=Lib.split l sep3
theorem split3_no {l:List UInt8} (h:Lib.index l sep3=-1):split3 l=[l]:=by
 unfold split3 Lib.split
 rw [Lib.count_miss h];rfl
theorem split3_yes {l:List UInt8} {i:Nat} (h:Lib.index l sep3=(i:Int)):split3 l=l.take i::split3 (l.drop (i+3)):=by
 unfold split3 Lib.split
 rw [Lib.count_hit (by decide) h,Nat.add_comm]
 have hne:¬ (Lib.index l sep3 == -1)=true:=by rw [h];simp
 rw [Lib.splitK,if_neg hne,h]
 simp only [Int.toNat_natCast,Nat.add_zero]
 rfl
theorem ix3_cases (l:List UInt8):Lib.index l sep3=-1∨∃i:Nat,Lib.index l sep3=(i:Int)∧i+3≤l.length:=by
 rcases Lib.index_spec l sep3 with ⟨h,_⟩|⟨i,h,_⟩
 ·exact .inl h
 ·refine .inr ⟨i,h,?_⟩
  have:=Lib.index_room l sep3 (by rw [h];omega)
  rw [h] at this
  have e:sep3.length=3:=rfl
  omega
theorem split3_pos (l:List UInt8):0<(split3 l).length:=by
 rcases ix3_cases l with h|⟨i,h,_⟩
 ·rw [split3_no h];simp
 ·rw [split3_yes h];simp
def Box3 (b1 b2 b3:Nat) (t:ByteArray) (W:World):Prop :=
 W.heap[b1]? = some (.cells #[.string ⟨#[32,59,32]⟩] 9 (0,0))∧W.heap[b2]? = some (.cells #[.string t] 9 (0,0))∧W.heap[b3]? = some (.cells #[.int .i64 0] 3 (0,0))∧b1≠b2∧b3≠b2
def MaxIn (W:World):Prop:=∃m:Int,W.cell? ⟨2,0,none⟩=some (.int .i64 m)
theorem MaxIn.kept {W W':World} (h:MaxIn W) (hk:W'.heap[(2:Nat)]? = W.heap[(2:Nat)]?):MaxIn W':=by
 obtain ⟨m,hm⟩:=h
 refine ⟨m,?_⟩
 rw [←hm]
 unfold World.cell?
 rw [hk]
def Kp4 (b1 b2 b3:Nat) (W W':World):Prop:=Kp3 b1 b2 b3 W W'∧W'.heap[(2:Nat)]? = W.heap[(2:Nat)]?
def SplitSt3 {M:Nat} (b1 b2 b3:Nat) (s:ByteArray) (J:List (Wd M)→World→Prop) (wr:World):Prop :=
 ∃(pre:List (Wd M)) (t:ByteArray),Box3 b1 b2 b3 t wr∧MaxIn wr∧t.size≤M∧split3 s.data.toList=plainW pre++split3 t.data.toList∧J pre wr
theorem box3_cells {b1 b2 b3:Nat} {t:ByteArray} {W:World} (h:Box3 b1 b2 b3 t W):W.cell? ⟨b1,0,none⟩=some (.string ⟨#[32,59,32]⟩)∧W.cell? ⟨b2,0,none⟩=some (.string t)∧W.cell? ⟨b3,0,none⟩=some (.int .i64 0)∧W.frozen? ⟨b2,0,none⟩=false :=
 ⟨by rw [Lib.cell_of_heap h.1];rfl,by rw [Lib.cell_of_heap h.2.1];rfl,by rw [Lib.cell_of_heap h.2.2.1];rfl,Lib.frozen_of_heap h.2.1 0⟩
theorem Box3.kp {b1 b2 b3:Nat} {t:ByteArray} {W W':World} (h:Box3 b1 b2 b3 t W) (hk:Kp3 b1 b2 b3 W W'):Box3 b1 b2 b3 t W' :=
 ⟨hk.1.trans h.1,hk.2.1.trans h.2.1,hk.2.2.trans h.2.2.1,h.2.2.2⟩
theorem Box3.put {b1 b2 b3:Nat} {t u:ByteArray} {W:World} (h:Box3 b1 b2 b3 t W):Box3 b1 b2 b3 u (W.setCell ⟨b2,0,none⟩ (.string u)) :=
 ⟨(Below.heap_setCell W ⟨b2,0,none⟩ _ b1 h.2.2.2.1).trans h.1,heap_setCell_same W b2 0 _ _ _ h.2.1,(Below.heap_setCell W ⟨b2,0,none⟩ _ b3 h.2.2.2.2).trans h.2.2.1,h.2.2.2⟩
theorem left3_eq {b1 b2 b3:Nat} {t:ByteArray} {W:World} (h:Box3 b1 b2 b3 t W):leftOf b2 W=t.size:=by
 unfold leftOf
 rw [(box3_cells h).2.1]
set_option maxHeartbeats 4000000 in
set_option maxRecDepth 100000 in
theorem split3_in (n:Nat) (hn:1≤n) (M l b1 b2 b3:Nat) (s:ByteArray) (hs:s.size≤M) (hM:M≤4294967000) (J Jx:List (Wd M)→World→Prop)
  (hJ:∀s W v,J s W→J s (W.setCell ⟨b2,0,none⟩ v)) (hb2:(2:Nat)≠b2)
  (hY:∀pre x W,J pre W→pre.length<(split3 s.data.toList).length→YieldAt Fence.wide (n-1) Tryz.prog l (encW x) W fun e W' =>
   (e=.returned (.bool true)∧J (pre++[x]) W'∧Kp4 b1 b2 b3 W W')∨(e=.returned (.bool false)∧Jx (pre++[x]) W'))
  (W:World) (hB:Box3 b1 b2 b3 s W) (hMx:MaxIn W) (h0:J [] W) :
  CallsIn Fence.wide n Tryz.prog 61 #[.func (.yield l) #[] #[],.pointer (some ⟨b1,0,none⟩),.pointer (some ⟨b2,0,none⟩),.pointer (some ⟨b3,0,none⟩)] W fun e W'=>(∃v,e=.returned v) ∧
   ((∃ys,plainW ys=split3 s.data.toList∧J ys W')∨(∃pre,plainW pre <+: split3 s.data.toList∧Jx pre W')):=by
 refine callsIn_of_wp Tryz.func61 rfl trivial ?_ rfl
 simp only [Tryz.ntmps61,List.size_toArray,List.length_cons,List.length_nil,Nat.reduceAdd,Nat.reduceSub,Array.replicate_succ,Array.replicate_zero,List.push_toArray,List.append_toArray,List.nil_append,List.cons_append]
 have c1:W.cell? ⟨b1,0,none⟩=some (.string ⟨#[32,59,32]⟩):=by rw [Lib.cell_of_heap hB.1];rfl
 have HB:=hid hB
 clear hB
 gi_wp2
 clear c1
 have ST0:Hid (SplitSt3 b1 b2 b3 s J W):=⟨[],s,HB.out,hMx,hs,rfl,h0⟩
 gi_loopw [7] (fun _ wr=>SplitSt3 b1 b2 b3 s J wr) (fun _ wr=>leftOf b2 wr)
 case atStart=>exact ST0.out
 case round =>
  obtain ⟨pre,t,hB,hMr,ht,hsp,hJs⟩:=hrel
  obtain ⟨k1,k2,k3,k4⟩:=box3_cells hB
  have hlen:pre.length<(split3 s.data.toList).length:=by
   rw [hsp,List.length_append]
   have:=split3_pos t.data.toList
   have e:(plainW pre).length=pre.length:=by simp [plainW]
   omega
  have HMR:=hid hMr
  obtain ⟨m,hm⟩:=hMr
  have HIX:Hid (Calls Tryz.prog 63 #[.string t,.string ⟨#[32,59,32]⟩] wr fun e w'=>e=.returned (.int .i64 (Lib.index t.data.toList sep3))∧w'=wr):=hid (Tryz.strings_Index t ⟨#[32,59,32]⟩ m wr (by omega) hm)
  clear hm
  rcases ix3_cases t.data.toList with hix|⟨i,hix,hil⟩
  ·have HX:=hid hix
   have hsn:=split3_no hix
   have HF:Hid (plainW (pre++[⟨t,ht⟩])=split3 s.data.toList):=by
    show _=_
    rw [hsp,hsn];simp [plainW]
   obtain ⟨fn,tmps,assign,body,hy,hR⟩:=hY pre ⟨t,ht⟩ wr hJs hlen
   simp only [encW] at hy
   clear hix hsn hsp
   gi_wp2_with (refine ⟨trivial,?_⟩;gi_at_call 63;refine (callsIn_wide.2 HIX.out).mono ?_;rintro e w' ⟨rfl,rfl⟩;rw [HX.out])
   refine hR.mono ?_
   rintro e W3 (⟨rfl,hJ3,_⟩|⟨rfl,hJx3⟩)
   ·gi_wp2
    go_end0
    exact ⟨⟨_,rfl⟩,.inl ⟨_,HF.out,hJ3⟩⟩
   ·gi_wp2
    go_end0
    exact ⟨⟨_,rfl⟩,.inr ⟨_,⟨[],by rw [HF.out];simp⟩,hJx3⟩⟩
  ·have HX:=hid hix
   have hsn:=split3_yes hix
   have hil':i+3≤t.size:=by simpa using hil
   have hxs:(t.extract 0 i).size≤M:=by simp;omega
   have e1:(t.extract 0 i).data.toList=t.data.toList.take i:=by rw [Lib.extract_data];simp
   have e2:(t.extract (i+3) t.size).data.toList=t.data.toList.drop (i+3):=Lib.extract_to_end t (i+3)
   have HF:Hid (split3 s.data.toList=plainW (pre++[(⟨t.extract 0 i,hxs⟩:Wd M)])++split3 (t.extract (i+3) t.size).data.toList):=by
    show _=_
    rw [hsp,hsn,e2]
    simp only [plainW,List.map_append,List.map_cons,List.map_nil,e1,List.append_assoc,List.cons_append,List.nil_append]
   obtain ⟨fn,tmps,assign,body,hy,hR⟩:=hY pre ⟨t.extract 0 i,hxs⟩ wr hJs hlen
   simp only [encW] at hy
   have z0:(0:Int)≤(i:Int):=by omega
   have z1:(i:Int)≤(t.size:Int):=by omega
   have z2:(0:Int)≤(i:Int)+3:=by omega
   have z3:(i:Int)+3≤(t.size:Int):=by omega
   have HB2:=hid hB
   clear hix hsn hsp e1 e2 hil hB
   gi_wp2_with (refine ⟨trivial,?_⟩;gi_at_call 63;refine (callsIn_wide.2 HIX.out).mono ?_;rintro e w' ⟨rfl,rfl⟩;rw [HX.out])
   refine hR.mono ?_
   rintro e W3 (⟨rfl,hJ3,hk3⟩|⟨rfl,hJx3⟩)
   ·have hB3:=HB2.out.kp hk3.1
    have HM3:Hid (MaxIn (W3.setCell ⟨b2,0,none⟩ (.string (t.extract (i+3) t.size)))):=hid ((HMR.out.kept hk3.2).kept (Below.heap_setCell W3 ⟨b2,0,none⟩ _ _ hb2))
    obtain ⟨m1,m2,m3,m4⟩:=box3_cells hB3
    have HJ3:=hid (hJ _ W3 (.string (t.extract (i+3) t.size)) hJ3)
    have HB4:Hid (Box3 b1 b2 b3 (t.extract (i+3) t.size) (W3.setCell ⟨b2,0,none⟩ (.string (t.extract (i+3) t.size)))):=hB3.put
    have HM1:=hid (left3_eq HB2.out)
    have HM2:=hid (left3_eq HB4.out)
    clear hJ3 hB3 hk3
    gi_wp2
    go_roundw
    case rel=>exact ⟨_,_,HB4.out,HM3.out,by simp;omega,HF.out,HJ3.out⟩
    case measure=>rw [HM1.out,HM2.out];simp;omega
   ·gi_wp2
    refine bodyPost_ret (results_none rfl _ _ _) rfl ?_
    exact ⟨⟨_,rfl⟩,.inr ⟨_,⟨_,HF.out.symm⟩,hJx3⟩⟩
theorem cell_lt3 {w:World} {a:Addr} {v:Value} (h:w.cell? a=some v):a.block<w.heap.size:=by
 rcases Nat.lt_or_ge a.block w.heap.size with h'|h'
 ·exact h'
 ·simp [World.cell?,Array.getElem?_eq_none h'] at h
theorem split3_seq (n:Nat) (hn:1≤n) (M b1 b2 b3:Nat) (s:ByteArray) (hs:s.size≤M) (hM:M≤4294967000) (w:World) (hB:Box3 b1 b2 b3 s w) (hMx:MaxIn w) (hb2:(2:Nat)≠b2) :
  SeqB Fence.wide n Tryz.prog 61 #[.pointer (some ⟨b1,0,none⟩),.pointer (some ⟨b2,0,none⟩),.pointer (some ⟨b3,0,none⟩)] (encW (M:=M)) (Kp4 b1 b2 b3) (fun xs=>plainW xs=split3 s.data.toList) (fun pre=>plainW pre <+: split3 s.data.toList) (split3 s.data.toList).length b2 w:=by
 intro l J Jx W hb hJ hY h0
 have l1:b1<w.heap.size:=(Array.getElem?_eq_some_iff.1 hB.1).1
 have l2:b2<w.heap.size:=(Array.getElem?_eq_some_iff.1 hB.2.1).1
 have l3:b3<w.heap.size:=(Array.getElem?_eq_some_iff.1 hB.2.2.1).1
 have l0:(2:Nat)<w.heap.size:=by
  obtain ⟨m,hm⟩:=hMx
  exact cell_lt3 hm
 exact split3_in n hn M l b1 b2 b3 s hs hM J Jx hJ hb2 hY W (hB.kp ⟨hb.block _ l1,hb.block _ l2,hb.block _ l3⟩) (hMx.kept (hb.block _ l0)) h0
set_option maxHeartbeats 1000000 in
theorem splitSeq3_any (s:ByteArray) (w:World) :
  Calls Tryz.prog 16 #[.string s,.string ⟨#[32,59,32]⟩] w fun e w'=>e=.returned (.func (.func 61) #[] #[.pointer (some ⟨w.heap.size+1,0,none⟩),.pointer (some ⟨w.heap.size,0,none⟩),.pointer (some ⟨w.heap.size+2,0,none⟩)])∧Box3 (w.heap.size+1) w.heap.size (w.heap.size+2) s w'∧Below w.heap.size w w'∧w'.heap.size=w.heap.size+3:=by
 have hin:Calls Tryz.prog 32 #[.string s,.string ⟨#[32,59,32]⟩,.int .i64 0] w fun e w'=>e=.returned (.func (.func 61) #[] #[.pointer (some ⟨w.heap.size+1,0,none⟩),.pointer (some ⟨w.heap.size,0,none⟩),.pointer (some ⟨w.heap.size+2,0,none⟩)])∧w'=((w.alloc (.cells #[.string s] 9)).alloc (.cells #[.string ⟨#[32,59,32]⟩] 9)).alloc (.cells #[.int .i64 0] 3):=by
  go_enter Tryz.func32,Tryz.ntmps32
  go_wp2_with fail
  go_ret
  exact ⟨rfl,rfl⟩
 have HI:=hid hin
 clear hin
 go_enter Tryz.func16,Tryz.ntmps16
 go_wp2_with (first|(go_at_call 32;refine HI.out.mono ?_;rintro e w1 ⟨rfl,rfl⟩))
 go_ret
 refine ⟨rfl,⟨?_,?_,?_,by omega,by omega⟩,(((Below.refl _ w).alloc (Nat.le_refl _) _).alloc (by simp) _).alloc (by simp;omega) _,by simp⟩
 ·rw [Below.heap_alloc _ _ _ (by simp)]
  have:=heap_alloc_new (w.alloc (.cells #[.string s] 9)) (.cells #[.string ⟨#[32,59,32]⟩] 9)
  simpa using this
 ·rw [Below.heap_alloc _ _ _ (by simp;omega),Below.heap_alloc _ _ _ (by simp)]
  exact heap_alloc_new w _
 ·have:=heap_alloc_new ((w.alloc (.cells #[.string s] 9)).alloc (.cells #[.string ⟨#[32,59,32]⟩] 9)) (.cells #[.int .i64 0] 3)
  simpa using this
end
section
open Go.RowKit Go.Lib
attribute [local go_sem] Oper.semAt_some
def textsO:List (List UInt8)→Option (List En)
 | []=>some []
 | l::ls=>(textO l).bind fun e=>(textsO ls).map (e :: ·)
theorem textsO_append (a b:List (List UInt8)):textsO (a++b)=(textsO a).bind fun x=>(textsO b).map (x ++ ·):=by
 induction a with
 | nil=>simp [textsO]
 | cons l a ih =>
  simp only [List.cons_append,textsO]
  cases textO l with
  | none=>rfl
  | some o =>
   simp only [Option.bind_some,ih]
   cases textsO a with
   | none=>rfl
   | some x=>cases textsO b<;>simp
theorem textsO_len:∀{ls:List (List UInt8)} {es:List En},textsO ls=some es→es.length=ls.length
 | [],es,h=>by cases h;rfl
 | l::ls,es,h=>by
  simp only [textsO] at h
  cases ho:textO l with
  | none=>rw [ho] at h;cases h
  | some e =>
   rw [ho] at h
   cases hr:textsO ls with
   | none=>rw [hr] at h;cases h
   | some gs=>rw [hr] at h;cases h;simp [textsO_len hr]
def opP (l:List UInt8):Option (List En):=(textsO (split3 l)).bind fun es=>if es.length≤16 then some es else none
def onceB:List UInt8:=[111,110,99,101,32]
def opR (l:List UInt8):Option (Bool × List En):=(opP (trimPrefix l onceB)).map fun es=>(hasPrefix l onceB,es)
theorem opP_stop {l:List UInt8} {a:List (List UInt8)} (hp:a <+: split3 l) (h:textsO a=none∨16<a.length):opP l=none:=by
 obtain ⟨r,hr⟩:=hp
 unfold opP
 rw [←hr,textsO_append]
 rcases h with h|h
 ·rw [h];rfl
 ·cases ha:textsO a with
  | none=>rfl
  | some x =>
   have:=textsO_len ha
   cases hb:textsO r with
   | none=>rfl
   | some y =>
    simp only [Option.bind_some,Option.map_some]
    rw [if_neg]
    rw [List.length_append];omega
def RqPost (w:World) (l:List UInt8) (e:Ending) (w':World):Prop :=
 (∃(once:Bool) (v:Value) (d:List Ex) (c:Int),e=.returned (.tuple #[.agg #[.bool once,v],.int .i64 c])∧KEx.Own w.heap.size w' v d∧(∀x∈d,OwnQ w.heap.size x w') ∧
  ((c=0∧opR l=some (once,d.map Ex.en))∨(c=4∧once=false∧d=[]∧opR l=none)))∧Below w.heap.size w w'
def PqSt {M:Nat} (b:Bool) (w:World) (N:Nat) (pre:List (Wd M)) (W:World):Prop :=
 ∃v d,W.heap[w.heap.size+2]? = some (.cells #[.bool b,v] 25 (0,0))∧KEx.Own (N+2) W v d∧(∀x∈d,OwnQ (N+2) x W)∧textsO (plainW pre)=some (d.map Ex.en)∧d.length≤16 ∧
  W.heap[w.heap.size]? = some (.cells #[.bool false,.slice none 0 0] 25 (0,0))∧W.heap[w.heap.size+1]? = some (.cells #[.int .i64 0] 26 (0,0))∧Below w.heap.size w W∧N+2≤W.heap.size∧w.heap.size+6≤N
def PqStop {M:Nat} (w:World) (N:Nat) (c:Code) (pre:List (Wd M)) (W:World):Prop :=
 c=.ret∧(textsO (plainW pre)=none∨16<(plainW pre).length)∧W.heap[w.heap.size]? = some (.cells #[.bool false,.slice none 0 0] 25 (0,0))∧W.heap[w.heap.size+1]? = some (.cells #[.int .i64 4] 26 (0,0))∧Below w.heap.size w W∧w.heap.size+6≤N
theorem OwnQ.far {N R:Nat} {w w':World} {x:Ex} (h:OwnQ N x w) (hg:w.grownBy w' (some R)) (hR:R<N):OwnQ N x w' :=
 ⟨h.val.far hg hR,h.fit,Kind.own_farE h.eds hg hR,h.efit,Kind.own_farE h.prd hg hR,h.pfit,h.rng⟩
theorem OwnQ.weak {N M:Nat} {w:World} {x:Ex} (h:OwnQ N x w) (hM:M≤N):OwnQ M x w :=
 ⟨⟨own_weak h.val.1 hM,fun y hy=>own_weak (h.val.2 y hy) hM⟩,h.fit,Kind.own_weak h.eds hM,h.efit,Kind.own_weak h.prd hM,h.pfit,h.rng⟩
theorem OwnQ.grown {N M:Nat} {w w':World} {x:Ex} {v:Value} {d:List Ex} (h:OwnQ N x w) (hv:KEx.Own M w v d) (hg:w.grownBy w' v.ownBlock):OwnQ N x w' :=
 ⟨⟨own_else h.val.1 hv (by decide) hg,fun y hy=>own_else (h.val.2 y hy) hv (by decide) hg⟩,h.fit,own_else (show w.ownsRow N KE.T KE.k x.es x.eo.length (KE.cells x.eo) from h.eds) hv (by decide) hg,h.efit,
  own_else (show w.ownsRow N KM.T KM.k x.ps x.po.length (KM.cells x.po) from h.prd) hv (by decide) hg,h.pfit,h.rng⟩
theorem Tryz.infoEnt:(Tryz.prog.info? 42).map (fun i=>(i.zero,i.size,i.bytes))=some (some (.agg #[.int .i64 0,.string ⟨#[]⟩,.string ⟨#[]⟩,.string ⟨#[]⟩,.int .i64 0,.slice none 0 0,.slice none 0 0,.slice none 0 0,.int .u64 0,.int .i64 0]),10,152):=by kernel_rfl
theorem two_facts {w:World} {B:Nat} {u v:Value} {T:TypeId} (h:w.heap[B]? = some (.cells #[u,v] T (0,0))):w.cell? ⟨B,0,none⟩=some u∧w.cell? ⟨B,1,none⟩=some v∧w.frozen? ⟨B,0,none⟩=false∧w.frozen? ⟨B,1,none⟩=false :=
 ⟨by rw [Lib.cell_of_heap h];rfl,by rw [Lib.cell_of_heap h];rfl,Lib.frozen_of_heap h 0,Lib.frozen_of_heap h 1⟩
theorem box2_kept {W W':World} {R M:Nat} {u v:Value} {e:Value} {d:List Ex} (h:W.heap[R]? = some (.cells #[u,v] 25 (0,0))) (hg:W.grownBy W' e.ownBlock) (ho:KEx.Own M W e d) (ht:KEx.T≠25):W'.heap[R]? = some (.cells #[u,v] 25 (0,0)):=by
 refine (hg.block R (Array.getElem?_eq_some_iff.1 h).1 fun q=>?_).trans h
 exact row_box (show W.ownsRow M KEx.T KEx.k e d.length (KEx.cells d) from ho) h ht R q.symm rfl
theorem KEx.newsN2 (W:World) (y:Ex):∀j u,(KEx.cells [y])[j]? = some u→((W.alloc (.cells (KEx.enc y).toArray KEx.T)).alloc (.cells (KEx.enc y).toArray KEx.T)).cell? ((⟨W.heap.size+1,0,none⟩:Addr).add j)=some u:=by
 have h:=KEx.news (W.alloc (.cells (KEx.enc y).toArray KEx.T)) y
 rw [World.size_alloc] at h
 exact h
theorem req_out {W:World} {R:Nat} {u v k:Value} (h0:W.heap[R]? = some (.cells #[u,v] 25 (0,0))) (h1:W.heap[R+1]? = some (.cells #[k] 26 (0,0))) (a c n:Value) :
  (((W.setCell ⟨R,0,none⟩ a).setCell ⟨R,1,none⟩ c).setCell ⟨R+1,0,none⟩ n).heap[R]? = some (.cells #[a,c] 25 (0,0)) ∧
  (((W.setCell ⟨R,0,none⟩ a).setCell ⟨R,1,none⟩ c).setCell ⟨R+1,0,none⟩ n).heap[R+1]? = some (.cells #[n] 26 (0,0)) ∧
  ∀B,B≠R→B≠R+1→(((W.setCell ⟨R,0,none⟩ a).setCell ⟨R,1,none⟩ c).setCell ⟨R+1,0,none⟩ n).heap[B]? = W.heap[B]?:=by
 have b0:(W.setCell ⟨R,0,none⟩ a).heap[R]? = some (.cells #[a,v] 25 (0,0)):=heap_setCell_same _ R 0 _ _ a h0
 have b1:((W.setCell ⟨R,0,none⟩ a).setCell ⟨R,1,none⟩ c).heap[R]? = some (.cells #[a,c] 25 (0,0)):=heap_setCell_same _ R 1 _ _ c b0
 refine ⟨(Below.heap_setCell _ _ _ _ (by show R≠R+1;omega)).trans b1,?_,fun B h1 h2=>?_⟩
 ·refine heap_setCell_same _ (R+1) 0 #[k] _ n ?_
  exact ((Below.heap_setCell _ _ _ _ (by show R+1≠R;omega)).trans (Below.heap_setCell _ _ _ _ (by show R+1≠R;omega))).trans h1
 ·exact (Below.heap_setCell _ _ _ _ h2).trans ((Below.heap_setCell _ _ _ _ h1).trans (Below.heap_setCell _ _ _ _ h1))
set_option maxHeartbeats 4000000 in
set_option maxRecDepth 100000 in
theorem opparse_any (s:ByteArray) (w:World) (hv:OpVars w) (hs:s.size≤4294967000) :
  Calls Tryz.prog 6 #[.string s] w fun e w'=>RqPost w s.data.toList e w':=by
 refine (callsIn_wide (n:=3)).1 ?_
 refine callsIn_of_wp_marks Tryz.func6 rfl trivial ?_ rfl
 simp only [Tryz.ntmps6,List.size_toArray,List.length_cons,List.length_nil,Nat.reduceAdd,Nat.reduceSub,Array.replicate_succ,Array.replicate_zero,List.push_toArray,List.append_toArray,List.nil_append,List.cons_append]
 obtain ⟨t,ht⟩:∃t:ByteArray,t=⟨(trimPrefix s.data.toList onceB).toArray⟩:=⟨_,rfl⟩
 obtain ⟨b,hb⟩:∃b:Bool,b=hasPrefix s.data.toList onceB:=⟨_,rfl⟩
 have HCP:Hid (∀W:World,Calls Tryz.prog 15 #[.string s,.string ⟨#[111,110,99,101,32]⟩] W fun e w'=>e=.returned (.tuple #[.string t,.bool b])∧w'=W):=hid fun W=>by
  rw [ht,hb];exact Tryz.strings_CutPrefix s _ W
 have HOP:Hid (opR s.data.toList=(opP t.data.toList).map fun es=>(b,es)):=hid (by rw [ht,hb];rfl)
 have hts:t.size≤4294967000:=by
  have h1:=trim_len s.data.toList onceB
  have e1:t.size=(trimPrefix s.data.toList onceB).length:=by rw [ht];rfl
  have e2:s.data.toList.length=s.size:=rfl
  omega
 clear ht hb
 gi_wp2_with (first
  | (refine ⟨trivial,?_⟩;gi_at_call 15;refine (callsIn_wide.2 (HCP.out _)).mono ?_;rintro e w1 ⟨rfl,rfl⟩)
  | (refine ⟨trivial,?_⟩;gi_at_call 16;refine (callsIn_wide.2 (splitSeq3_any _ _)).mono ?_;rintro e w3 ⟨rfl,hbx,hb3,hs3⟩))
 simp only [World.size_alloc] at hbx hb3 hs3
 have hb30:Below w.heap.size w w3:=((((Below.refl _ w).alloc (Nat.le_refl _) _).alloc (by simp) _).alloc (by simp;omega) _).trans (hb3.mono (by omega))
 have g0:w3.heap[w.heap.size]? = some (.cells #[.bool false,.slice none 0 0] 25 (0,0)):=by
  rw [hb3.block _ (by omega),Below.heap_alloc _ _ _ (by simp;omega),Below.heap_alloc _ _ _ (by simp)];exact heap_alloc_new w _
 have g1:w3.heap[w.heap.size+1]? = some (.cells #[.int .i64 0] 26 (0,0)):=by
  rw [hb3.block _ (by omega),Below.heap_alloc _ _ _ (by simp)]
  have:=heap_alloc_new (w.alloc (.cells #[.bool false,.slice none 0 0] 25)) (.cells #[.int .i64 0] 26)
  simpa using this
 have g2:w3.heap[w.heap.size+2]? = some (.cells #[.bool b,.slice none 0 0] 25 (0,0)):=by
  rw [hb3.block _ (by omega)]
  have:=heap_alloc_new ((w.alloc (.cells #[.bool false,.slice none 0 0] 25)).alloc (.cells #[.int .i64 0] 26)) (.cells #[.bool b,.slice none 0 0] 25)
  simpa using this
 have hN6:w3.heap.size=w.heap.size+6:=by omega
 have ST0:Hid (∀o1 o2,PqSt (M:=t.size) b w w3.heap.size [] ((w3.alloc o1).alloc o2)):=fun o1 o2=>by
  have ha:∀k,k<w3.heap.size→((w3.alloc o1).alloc o2).heap[k]? = w3.heap[k]?:=fun k hk=>by
   rw [Below.heap_alloc _ _ _ (by simp;omega),Below.heap_alloc _ _ _ hk]
  exact ⟨.slice none 0 0,[],(ha _ (by omega)).trans g2,KEx.own_nil _ _,(fun x hx=>by cases hx),rfl,by simp,(ha _ (by omega)).trans g0,(ha _ (by omega)).trans g1,
   (hb30.alloc hb30.size _).alloc (by have:=hb30.size;simp;omega) _,by simp,by omega⟩
 have HMX:Hid (MaxIn w3):=hid (hv.on hb30).max
 have hgm:(2:Nat)<w.heap.size:=by
  obtain ⟨m,hm⟩:=hv.max
  exact cell_lt hm
 have HBX:=hid hbx
 have HV:=hid hv
 have hen:=enters_of (P:=Tryz.prog) Tryz.func61 (by kernel_rfl) rfl
 clear hbx hv g0 g1 g2 hb3 hs3
 refine wpIn_rangeFunc_box (w:=w3) rfl (by decide) (gf:=61) (lb:=#[.pointer (some ⟨w.heap.size+1+1+1+1,0,none⟩),.pointer (some ⟨w.heap.size+1+1+1,0,none⟩),.pointer (some ⟨w.heap.size+1+1+1+2,0,none⟩)]) rfl trivial hen (Bs:=w.heap.size+1+1+1) (by omega)
  (split3_seq 2 (by decide) t.size _ _ _ t (Nat.le_refl _) hts w3 HBX.out HMX.out (by omega)) ?hKt ?hKb (fun _=>rfl) (PqSt b w w3.heap.size) (PqStop w w3.heap.size) ?hIp ?hIb ?hXp ST0.out
  (fun x=>{ tmps:=#[.string s,undef,.pointer (some ⟨w.heap.size,0,none⟩),.pointer (some ⟨w.heap.size+1,0,none⟩),.string t,.bool b,.pointer (some ⟨w.heap.size+1+1,0,none⟩),.string x.1,undef,undef,.tuple #[.string t,.bool b],.string s,.tuple #[.string t,.bool b],
   .string t,.bool b,.bool b,.agg #[.bool b,.slice none 0 0],.string t,.func (.func 61) #[] #[.pointer (some ⟨w.heap.size+1+1+1+1,0,none⟩),.pointer (some ⟨w.heap.size+1+1+1,0,none⟩),.pointer (some ⟨w.heap.size+1+1+1+2,0,none⟩)],.string x.1,
   undef,undef,undef,undef,undef,undef,undef,undef,undef,undef,undef,undef,undef,undef,undef,undef,undef,undef,undef,undef,undef],defers:=[] }) ?assign ?body ?done ?stop
 case hKt=>exact fun h k=>⟨⟨k.1.1.trans h.1.1,k.1.2.1.trans h.1.2.1,k.1.2.2.trans h.1.2.2⟩,k.2.trans h.2⟩
 case hKb=>exact fun W l o' hl=>⟨⟨World.putObj_heap_other (by omega),World.putObj_heap_other (by omega),World.putObj_heap_other (by omega)⟩,World.putObj_heap_other (by omega)⟩
 case hIp =>
  rintro pre W o' ⟨v,d,k2,hox,hoq,hf,hd,k0,k1,hb,hz,h6⟩
  have hg:W.grownBy (W.putObj (w3.heap.size+1) o') (some (w3.heap.size+1)):=grownBy_putObj' W _ o'
  exact ⟨v,d,(World.putObj_heap_other (by omega)).trans k2,Kind.own_farE hox hg (by omega),fun x hx=>(hoq x hx).far hg (by omega),hf,hd,(World.putObj_heap_other (by omega)).trans k0,(World.putObj_heap_other (by omega)).trans k1,hb.grown hg (by omega) (fun k e=>by cases e;omega),Nat.le_trans hz hg.size,h6⟩
 case hIb =>
  rintro pre W u ⟨v,d,k2,hox,hoq,hf,hd,k0,k1,hb,hz,h6⟩
  have hg:W.grownBy (W.setCell ⟨w.heap.size+1+1+1,0,none⟩ u) (some (w.heap.size+1+1+1)):=grown_set W _ 0 u
  exact ⟨v,d,(hg.block _ (by omega) (by intro e;have:=Option.some.inj e;omega)).trans k2,Kind.own_farE hox hg (by omega),fun x hx=>(hoq x hx).far hg (by omega),hf,hd,(hg.block _ (by omega) (by intro e;have:=Option.some.inj e;omega)).trans k0,(hg.block _ (by omega) (by intro e;have:=Option.some.inj e;omega)).trans k1,hb.grown hg (by omega) (fun k e=>by cases e;omega),Nat.le_trans hz hg.size,h6⟩
 case hXp =>
  rintro c pre W o' ⟨hc,hf,k0,k1,hb,h6⟩
  have hg:W.grownBy (W.putObj (w3.heap.size+1) o') (some (w3.heap.size+1)):=grownBy_putObj' W _ o'
  exact ⟨hc,hf,(World.putObj_heap_other (by omega)).trans k0,(World.putObj_heap_other (by omega)).trans k1,⟨hg.os.trans hb.os,hg.tape.trans hb.tape,hg.output.trans hb.output,Nat.le_trans hb.size hg.size,fun k hk=>(World.putObj_heap_other (by omega)).trans (hb.block k hk)⟩,h6⟩
 case assign =>
  intro l x W K hK
  simp only [encW]
  gi_wp2
  exact hK
 case body =>
  rintro l pre x W hlW ⟨v,d,k2,hox,hoq,hf,hd16,k0,k1,hb,hz,h6⟩ _
  have hwp:=opentry_any x.1 W (Nat.le_trans x.2 hts) (HV.out.on hb)
  obtain ⟨i0,hi,hz0,hz1,hz2⟩:=info_parts Tryz.infoEnt
  have hpl:plainW (pre++[x])=plainW pre++[x.1.data.toList]:=by simp [plainW]
  have HPL:=hid hpl
  have HF:=hid hf
  have HB:=hid hb
  have HOX:=hid hox
  have HOQ:=hid hoq
  have HK0:=hid k0
  have HK1:=hid k1
  obtain ⟨pv,cv,rfl⟩:=Kind.own_shape hox
  have HK2:=hid k2
  clear hpl hf hb hox hoq k0 k1 k2
  cases hto:textO x.1.data.toList with
  | none =>
   have HW:Hid (Calls Tryz.prog 17 #[.string x.1] W fun e w'=>∃y:Ex,e=.returned (.tuple #[.agg #[.int .i64 y.kind,.string y.temp,.string y.ka,.string y.kb,.int .i64 y.iff,.slice y.vp y.vo.length y.vc,.slice y.ep y.eo.length y.ec,.slice y.pp y.po.length y.pc,.int .u64 y.stamp,.int .i64 y.num],.bool false])∧Below W.heap.size W w'):=hid (hwp.mono (by
    rintro e w' ⟨⟨y,ok,rfl,_,h⟩,hb'⟩
    rw [hto] at h
    cases ok with
    | true=>cases h
    | false=>exact ⟨y,rfl,hb'⟩))
   have HNO:Hid (textsO (plainW (pre++[x]))=none):=hid (by
    rw [HPL.out,textsO_append,HF.out]
    simp [textsO,hto])
   clear hwp
   have HN6:=hid hN6
   clear hN6
   gi_wp2_with (refine ⟨trivial,?_⟩;gi_at_call 17;refine (CallsIn.inRound l (callsIn_wide.2 HW.out)).mono ?_;rintro e W2 ⟨y,rfl,hb2⟩;have hs2:=hb2.size;have t0':=(Below.heap_alloc W2 (.cells #[.int .i64 y.kind,.string y.temp,.string y.ka,.string y.kb,.int .i64 y.iff,.slice y.vp y.vo.length y.vc,.slice y.ep y.eo.length y.ec,.slice y.pp y.po.length y.pc,.int .u64 y.stamp,.int .i64 y.num] 42) w.heap.size (by omega)).trans ((hb2.block w.heap.size (by omega)).trans HK0.out);have t1':=(Below.heap_alloc W2 (.cells #[.int .i64 y.kind,.string y.temp,.string y.ka,.string y.kb,.int .i64 y.iff,.slice y.vp y.vo.length y.vc,.slice y.ep y.eo.length y.ec,.slice y.pp y.po.length y.pc,.int .u64 y.stamp,.int .i64 y.num] 42) (w.heap.size+1) (by omega)).trans ((hb2.block (w.heap.size+1) (by omega)).trans HK1.out);have t2':=(Below.heap_alloc W2 (.cells #[.int .i64 y.kind,.string y.temp,.string y.ka,.string y.kb,.int .i64 y.iff,.slice y.vp y.vo.length y.vc,.slice y.ep y.eo.length y.ec,.slice y.pp y.po.length y.pc,.int .u64 y.stamp,.int .i64 y.num] 42) (w.heap.size+2) (by omega)).trans ((hb2.block (w.heap.size+2) (by omega)).trans HK2.out);obtain ⟨q0,q1,q2,q3⟩:=two_facts t0';obtain ⟨q4,q5⟩:=one_facts t1';obtain ⟨q6,q7,q8,q9⟩:=two_facts t2';have T0:=hid t0';have T1:=hid t1';have T2:=hid t2';clear t0' t1' t2')
   have hz4:=req_out T0.out T1.out (.bool false) (.slice none 0 0) (.int .i64 4)
   have hbb:=(HB.out.trans (hb2.mono HB.out.size)).alloc (Nat.le_trans HB.out.size hs2) (.cells #[.int .i64 y.kind,.string y.temp,.string y.ka,.string y.kb,.int .i64 y.iff,.slice y.vp y.vo.length y.vc,.slice y.ep y.eo.length y.ec,.slice y.pp y.po.length y.pc,.int .u64 y.stamp,.int .i64 y.num] 42)
   have hkf:KeepsFrom w3.heap.size W (W2.alloc (.cells #[.int .i64 y.kind,.string y.temp,.string y.ka,.string y.kb,.int .i64 y.iff,.slice y.vp y.vo.length y.vc,.slice y.ep y.eo.length y.ec,.slice y.pp y.po.length y.pc,.int .u64 y.stamp,.int .i64 y.num] 42)):=KeepsFrom.trans (keeps_below hb2) ((KeepsOthers.alloc _ _).from _)
   exact ⟨((hkf.trans ((KeepsOthers.setCell _ _ _).from _)).trans ((KeepsOthers.setCell _ _ _).from _)).trans ((KeepsOthers.setCell _ _ _).from _),rfl,Or.inl HNO.out,hz4.1,hz4.2.1,((hbb.setCell (p:=⟨w.heap.size,0,none⟩) (Nat.le_refl _) _).setCell (p:=⟨w.heap.size,1,none⟩) (Nat.le_refl _) _).setCell (p:=⟨w.heap.size+1,0,none⟩) (by show _≤w.heap.size+1;omega) _,h6⟩
  | some en =>
   have HW:Hid (Calls Tryz.prog 17 #[.string x.1] W fun e w'=>∃y:Ex,e=.returned (.tuple #[.agg #[.int .i64 y.kind,.string y.temp,.string y.ka,.string y.kb,.int .i64 y.iff,.slice y.vp y.vo.length y.vc,.slice y.ep y.eo.length y.ec,.slice y.pp y.po.length y.pc,.int .u64 y.stamp,.int .i64 y.num],.bool true])∧y.en=en∧OwnQ W.heap.size y w'∧Below W.heap.size W w'):=hid (hwp.mono (by
    rintro e w' ⟨⟨y,ok,rfl,ho,h⟩,hb'⟩
    rw [hto] at h
    cases ok with
    | true=>exact ⟨y,rfl,(Option.some.inj h).symm,ho rfl,hb'⟩
    | false=>cases h))
   have HNO:Hid (textsO (plainW (pre++[x]))=some (d.map Ex.en++[en])):=hid (by
    rw [HPL.out,textsO_append,HF.out]
    simp [textsO,hto])
   clear hwp
   by_cases h16:d.length=16
   ·have HLEN:Hid (16<(plainW (pre++[x])).length):=hid (by
     have h1:=textsO_len HNO.out
     rw [List.length_append,List.length_map] at h1
     simp only [List.length_cons,List.length_nil] at h1
     omega)
    have h16z:((d.length:Int)==16)=true:=by rw [h16];rfl
    have HN6:=hid hN6
    clear hN6
    gi_wp2_with (refine ⟨trivial,?_⟩;gi_at_call 17;refine (CallsIn.inRound l (callsIn_wide.2 HW.out)).mono ?_;rintro e W2 ⟨y,rfl,hye,hyo,hb2⟩;have hs2:=hb2.size;have t0':=(Below.heap_alloc W2 (.cells #[.int .i64 y.kind,.string y.temp,.string y.ka,.string y.kb,.int .i64 y.iff,.slice y.vp y.vo.length y.vc,.slice y.ep y.eo.length y.ec,.slice y.pp y.po.length y.pc,.int .u64 y.stamp,.int .i64 y.num] 42) w.heap.size (by omega)).trans ((hb2.block w.heap.size (by omega)).trans HK0.out);have t1':=(Below.heap_alloc W2 (.cells #[.int .i64 y.kind,.string y.temp,.string y.ka,.string y.kb,.int .i64 y.iff,.slice y.vp y.vo.length y.vc,.slice y.ep y.eo.length y.ec,.slice y.pp y.po.length y.pc,.int .u64 y.stamp,.int .i64 y.num] 42) (w.heap.size+1) (by omega)).trans ((hb2.block (w.heap.size+1) (by omega)).trans HK1.out);have t2':=(Below.heap_alloc W2 (.cells #[.int .i64 y.kind,.string y.temp,.string y.ka,.string y.kb,.int .i64 y.iff,.slice y.vp y.vo.length y.vc,.slice y.ep y.eo.length y.ec,.slice y.pp y.po.length y.pc,.int .u64 y.stamp,.int .i64 y.num] 42) (w.heap.size+2) (by omega)).trans ((hb2.block (w.heap.size+2) (by omega)).trans HK2.out);obtain ⟨q0,q1,q2,q3⟩:=two_facts t0';obtain ⟨q4,q5⟩:=one_facts t1';obtain ⟨q6,q7,q8,q9⟩:=two_facts t2';have T0:=hid t0';have T1:=hid t1';have T2:=hid t2';clear t0' t1' t2')
    have hz4:=req_out T0.out T1.out (.bool false) (.slice none 0 0) (.int .i64 4)
    have hbb:=(HB.out.trans (hb2.mono HB.out.size)).alloc (Nat.le_trans HB.out.size hs2) (.cells #[.int .i64 y.kind,.string y.temp,.string y.ka,.string y.kb,.int .i64 y.iff,.slice y.vp y.vo.length y.vc,.slice y.ep y.eo.length y.ec,.slice y.pp y.po.length y.pc,.int .u64 y.stamp,.int .i64 y.num] 42)
    have hkf:KeepsFrom w3.heap.size W (W2.alloc (.cells #[.int .i64 y.kind,.string y.temp,.string y.ka,.string y.kb,.int .i64 y.iff,.slice y.vp y.vo.length y.vc,.slice y.ep y.eo.length y.ec,.slice y.pp y.po.length y.pc,.int .u64 y.stamp,.int .i64 y.num] 42)):=KeepsFrom.trans (keeps_below hb2) ((KeepsOthers.alloc _ _).from _)
    exact ⟨((hkf.trans ((KeepsOthers.setCell _ _ _).from _)).trans ((KeepsOthers.setCell _ _ _).from _)).trans ((KeepsOthers.setCell _ _ _).from _),rfl,Or.inr HLEN.out,hz4.1,hz4.2.1,((hbb.setCell (p:=⟨w.heap.size,0,none⟩) (Nat.le_refl _) _).setCell (p:=⟨w.heap.size,1,none⟩) (Nat.le_refl _) _).setCell (p:=⟨w.heap.size+1,0,none⟩) (by show _≤w.heap.size+1;omega) _,h6⟩
   ·have h16z:((d.length:Int)==16)=false:=beq_eq_false_iff_ne.2 (by omega)
    have HN6:=hid hN6
    clear hN6
    gi_wp2_with (first|(gi_at_builtin;refine wpListIn_append_own _ rfl _ _ 23 rfl (w3.heap.size+2) 42 i0 (.agg #[.int .i64 0,.string ⟨#[]⟩,.string ⟨#[]⟩,.string ⟨#[]⟩,.int .i64 0,.slice none 0 0,.slice none 0 0,.slice none 0 0,.int .u64 0,.int .i64 0]) 10 152 Tryz.underlying23 hi hz0 hz1 hz2 rfl (by decide) _ _ _ rfl HX2.out ⟨W2.heap.size+1,0,none⟩ 1 1 (KEx.cells [y]) rfl rfl HC.out (KEx.cells_ones _) (by unfold maxLen;omega) (by omega) (by simp;omega) ?_;intro v' w1 hown' hgrow _;obtain ⟨g',cap',rfl⟩:=ownsRow_succ hown';have hv1:=box2_kept T3.out hgrow HX2.out (by decide);obtain ⟨r0,r1,r2,r3⟩:=two_facts hv1;have HV1:=hid hv1;have HO:=hid hown';have HG:=hid hgrow;clear hv1 hown' hgrow)|(refine ⟨trivial,?_⟩;gi_at_call 17;refine (CallsIn.inRound l (callsIn_wide.2 HW.out)).mono ?_;rintro e W2 ⟨y,rfl,hye,hyo,hb2⟩;have hs2:=hb2.size;have t0':=(Below.heap_alloc W2 (.cells #[.int .i64 y.kind,.string y.temp,.string y.ka,.string y.kb,.int .i64 y.iff,.slice y.vp y.vo.length y.vc,.slice y.ep y.eo.length y.ec,.slice y.pp y.po.length y.pc,.int .u64 y.stamp,.int .i64 y.num] 42) w.heap.size (by omega)).trans ((hb2.block w.heap.size (by omega)).trans HK0.out);have t1':=(Below.heap_alloc W2 (.cells #[.int .i64 y.kind,.string y.temp,.string y.ka,.string y.kb,.int .i64 y.iff,.slice y.vp y.vo.length y.vc,.slice y.ep y.eo.length y.ec,.slice y.pp y.po.length y.pc,.int .u64 y.stamp,.int .i64 y.num] 42) (w.heap.size+1) (by omega)).trans ((hb2.block (w.heap.size+1) (by omega)).trans HK1.out);have t2':=(Below.heap_alloc W2 (.cells #[.int .i64 y.kind,.string y.temp,.string y.ka,.string y.kb,.int .i64 y.iff,.slice y.vp y.vo.length y.vc,.slice y.ep y.eo.length y.ec,.slice y.pp y.po.length y.pc,.int .u64 y.stamp,.int .i64 y.num] 42) (w.heap.size+2) (by omega)).trans ((hb2.block (w.heap.size+2) (by omega)).trans HK2.out);obtain ⟨q0,q1,q2,q3⟩:=two_facts t0';obtain ⟨q4,q5⟩:=one_facts t1';obtain ⟨q6,q7,q8,q9⟩:=two_facts t2';have T0:=hid t0';have T1:=hid t1';have T2:=hid t2';clear t0' t1' t2';have HYE:=hid hye;have HYO:=hid hyo;clear hye hyo;have T3:Hid (((W2.alloc (.cells #[.int .i64 y.kind,.string y.temp,.string y.ka,.string y.kb,.int .i64 y.iff,.slice y.vp y.vo.length y.vc,.slice y.ep y.eo.length y.ec,.slice y.pp y.po.length y.pc,.int .u64 y.stamp,.int .i64 y.num] 42)).alloc (.cells #[.int .i64 y.kind,.string y.temp,.string y.ka,.string y.kb,.int .i64 y.iff,.slice y.vp y.vo.length y.vc,.slice y.ep y.eo.length y.ec,.slice y.pp y.po.length y.pc,.int .u64 y.stamp,.int .i64 y.num] 42)).heap[w.heap.size+2]? = some (.cells #[.bool b,.slice pv d.length cv] 25 (0,0))):=hid ((Below.heap_alloc _ _ _ (by simp;omega)).trans T2.out);have HB2:Hid (Below W.heap.size W ((W2.alloc (.cells #[.int .i64 y.kind,.string y.temp,.string y.ka,.string y.kb,.int .i64 y.iff,.slice y.vp y.vo.length y.vc,.slice y.ep y.eo.length y.ec,.slice y.pp y.po.length y.pc,.int .u64 y.stamp,.int .i64 y.num] 42)).alloc (.cells #[.int .i64 y.kind,.string y.temp,.string y.ka,.string y.kb,.int .i64 y.iff,.slice y.vp y.vo.length y.vc,.slice y.ep y.eo.length y.ec,.slice y.pp y.po.length y.pc,.int .u64 y.stamp,.int .i64 y.num] 42))):=hid ((hb2.alloc hs2 _).alloc (by simp;omega) _);have HX2:=hid (Kind.own_on HOX.out HB2.out);have HQ2:Hid (∀z∈d,OwnQ (w3.heap.size+2) z ((W2.alloc (.cells #[.int .i64 y.kind,.string y.temp,.string y.ka,.string y.kb,.int .i64 y.iff,.slice y.vp y.vo.length y.vc,.slice y.ep y.eo.length y.ec,.slice y.pp y.po.length y.pc,.int .u64 y.stamp,.int .i64 y.num] 42)).alloc (.cells #[.int .i64 y.kind,.string y.temp,.string y.ka,.string y.kb,.int .i64 y.iff,.slice y.vp y.vo.length y.vc,.slice y.ep y.eo.length y.ec,.slice y.pp y.po.length y.pc,.int .u64 y.stamp,.int .i64 y.num] 42))):=hid (fun z hz=>(HOQ.out z hz).on HB2.out);have HY2:Hid (OwnQ W.heap.size y ((W2.alloc (.cells #[.int .i64 y.kind,.string y.temp,.string y.ka,.string y.kb,.int .i64 y.iff,.slice y.vp y.vo.length y.vc,.slice y.ep y.eo.length y.ec,.slice y.pp y.po.length y.pc,.int .u64 y.stamp,.int .i64 y.num] 42)).alloc (.cells #[.int .i64 y.kind,.string y.temp,.string y.ka,.string y.kb,.int .i64 y.iff,.slice y.vp y.vo.length y.vc,.slice y.ep y.eo.length y.ec,.slice y.pp y.po.length y.pc,.int .u64 y.stamp,.int .i64 y.num] 42))):=hid (HYO.out.on (((Below.refl _ W2).alloc (Nat.le_refl _) _).alloc (by simp) _));have HC:Hid (∀j u,(KEx.cells [y])[j]? = some u→((W2.alloc (.cells #[.int .i64 y.kind,.string y.temp,.string y.ka,.string y.kb,.int .i64 y.iff,.slice y.vp y.vo.length y.vc,.slice y.ep y.eo.length y.ec,.slice y.pp y.po.length y.pc,.int .u64 y.stamp,.int .i64 y.num] 42)).alloc (.cells #[.int .i64 y.kind,.string y.temp,.string y.ka,.string y.kb,.int .i64 y.iff,.slice y.vp y.vo.length y.vc,.slice y.ep y.eo.length y.ec,.slice y.pp y.po.length y.pc,.int .u64 y.stamp,.int .i64 y.num] 42)).cell? ((⟨W2.heap.size+1,0,none⟩:Addr).add j)=some u):=hid (KEx.newsN2 W2 y)))
    have hb12:Below (w3.heap.size+2) W w1:=(HB2.out.mono hz).trans ((Below.refl _ _).grown HG.out (by simp;omega) (fun k hk=>(World.ownsRow.lt HX2.out k hk).1))
    have hsz1:=hb12.size
    have hox0:KEx.Own (w3.heap.size+2) w1 (.slice (some ⟨g',0,none⟩) (d.length+1) cap') (d++[y]):=Kind.own_snoc HO.out rfl rfl
    have hgs:=grown_set w1 (w.heap.size+2) 1 (.slice (some ⟨g',0,none⟩) (d.length+1) cap')
    have hox1:=Kind.own_farE hox0 hgs (by omega)
    have hoq1:∀z∈d++[y],OwnQ (w3.heap.size+2) z (w1.setCell ⟨w.heap.size+2,1,none⟩ (.slice (some ⟨g',0,none⟩) (d.length+1) cap')):=fun z hz'=>by
     rcases List.mem_append.1 hz' with h|h
     ·exact ((HQ2.out z h).grown HX2.out HG.out).far hgs (by omega)
     ·rw [List.mem_singleton] at h
      subst h
      exact ((HY2.out.weak hz).grown HX2.out HG.out).far hgs (by omega)
    have hkf:KeepsFrom w3.heap.size W w1:=(keeps_below HB2.out).trans ((KeepsOthers.of_grownBy HG.out (fun j o ej hj=>row_cells HX2.out ej hj)).from _)
    refine ⟨hkf.trans ((KeepsOthers.setCell _ _ _).from _),⟨⟨(Below.heap_setCell w1 _ _ _ (by show _≠w.heap.size+1+1;omega)).trans (hb12.block _ (by omega)),(Below.heap_setCell w1 _ _ _ (by show _≠w.heap.size+1+1;omega)).trans (hb12.block _ (by omega)),(Below.heap_setCell w1 _ _ _ (by show _≠w.heap.size+1+1;omega)).trans (hb12.block _ (by omega))⟩,(Below.heap_setCell w1 _ _ _ (by show _≠w.heap.size+1+1;omega)).trans (hb12.block _ (by omega))⟩,?_⟩
    exact ⟨_,d++[y],heap_setCell_same w1 (w.heap.size+2) 1 _ _ _ HV1.out,hox1,hoq1,by rw [HNO.out,List.map_append,←HYE.out];rfl,by rw [List.length_append];simp only [List.length_cons,List.length_nil];omega,
     (Below.heap_setCell w1 _ _ _ (by show _≠w.heap.size+1+1;omega)).trans ((hb12.block _ (by omega)).trans HK0.out),(Below.heap_setCell w1 _ _ _ (by show _≠w.heap.size+1+1;omega)).trans ((hb12.block _ (by omega)).trans HK1.out),
     (HB.out.trans (hb12.mono (by omega))).setCell (p:=⟨w.heap.size+1+1,1,none⟩) (by show _≤w.heap.size+1+1;omega) _,by simp [World.setCell];omega,h6⟩
 case done =>
  rintro xs W hS ⟨v,d,k2,hox,hoq,hf,hd16,k0,k1,hb,hz,h6⟩ hK
  have hfs:opP t.data.toList=some (d.map Ex.en):=by
   unfold opP
   rw [←hS,hf,Option.bind_some,if_pos (by rw [List.length_map];exact hd16)]
  obtain ⟨pv,cv,rfl⟩:=Kind.own_shape hox
  have HOX:=hid hox
  have HOQ:=hid hoq
  have HK0:=hid k0
  have HK1:=hid k1
  have HB:=hid hb
  have HK:=hid hK
  have HFS:=hid hfs
  have HN6:=hid hN6
  obtain ⟨c0,c1,_,_⟩:=two_facts k2
  obtain ⟨q0,q1,q2,q3⟩:=two_facts k0
  obtain ⟨q4,q5⟩:=one_facts k1
  clear hox hoq hf k0 k1 k2 hK hN6 hb hfs
  gi_wp2
  obtain ⟨W4,hW4⟩:∃W4,((W.setCell ⟨w.heap.size,0,none⟩ (.bool b)).setCell ⟨w.heap.size,1,none⟩ (.slice pv d.length cv)).setCell ⟨w.heap.size+1,0,none⟩ (.int .i64 0)=W4:=⟨_,rfl⟩
  obtain ⟨y0,y1,y2⟩:=req_out HK0.out HK1.out (.bool b) (.slice pv d.length cv) (.int .i64 0)
  have hb4:Below w.heap.size w W4:=by
   rw [←hW4]
   exact ((HB.out.setCell (p:=⟨w.heap.size,0,none⟩) (Nat.le_refl _) _).setCell (p:=⟨w.heap.size,1,none⟩) (Nat.le_refl _) _).setCell (p:=⟨w.heap.size+1,0,none⟩) (by show _≤w.heap.size+1;omega) _
  have ha4:KEx.Own (w3.heap.size+2) W4 (.slice pv d.length cv) d:=by
   rw [←hW4]
   exact Kind.own_farE (Kind.own_farE (Kind.own_farE HOX.out (grown_set W w.heap.size 0 _) (by omega)) (grown_set _ w.heap.size 1 _) (by omega)) (grown_set _ (w.heap.size+1) 0 _) (by omega)
  have hq4:∀z∈d,OwnQ (w3.heap.size+2) z W4:=fun z h=>by
   rw [←hW4]
   exact (((HOQ.out z h).far (grown_set W w.heap.size 0 _) (by omega)).far (grown_set _ w.heap.size 1 _) (by omega)).far (grown_set _ (w.heap.size+1) 0 _) (by omega)
  have hKD:W4.heap[w3.heap.size]? = some (.deferred (some [])):=by
   rw [←hW4,y2 _ (by omega) (by omega)];exact HK.out
  rw [hW4] at y0 y1 ⊢
  have hsz4:=hb4.size
  have hg5:W4.grownBy (W4.putObj w3.heap.size (.deferred none)) (some w3.heap.size):=grownBy_putObj' W4 _ _
  obtain ⟨z0,z1,_,_⟩:=two_facts ((World.putObj_heap_other (by omega)).trans y0:(W4.putObj w3.heap.size (.deferred none)).heap[w.heap.size]? = _)
  obtain ⟨z2,_⟩:=one_facts ((World.putObj_heap_other (by omega)).trans y1:(W4.putObj w3.heap.size (.deferred none)).heap[w.heap.size+1]? = _)
  refine ⟨by simp,.inl ⟨_,_,rfl,run_takeDeferred hKD,?_⟩⟩
  refine ⟨.tuple #[.agg #[.bool b,.slice pv d.length cv],.int .i64 0],by simp [results,Tryz.results6,go_sem,z0,z1,z2],⟨⟨b,.slice pv d.length cv,d,0,rfl,Kind.own_weak (Kind.own_farE ha4 hg5 (by omega)) (by omega),fun z h=>((hq4 z h).far hg5 (by omega)).weak (by omega),.inl ⟨rfl,by rw [HOP.out,HFS.out];rfl⟩⟩,hb4.grown hg5 (by omega) (fun k e=>by cases e;omega)⟩⟩
 case stop =>
  rintro c pre W hSp ⟨rfl,hf,k0,k1,hb,h6⟩ hK
  have HN6:=hid hN6
  clear hN6
  gi_wp2
  have hg5:W.grownBy (W.putObj w3.heap.size (.deferred none)) (some w3.heap.size):=grownBy_putObj' W _ _
  obtain ⟨z0,z1,_,_⟩:=two_facts ((World.putObj_heap_other (by omega)).trans k0:(W.putObj w3.heap.size (.deferred none)).heap[w.heap.size]? = _)
  obtain ⟨z2,_⟩:=one_facts ((World.putObj_heap_other (by omega)).trans k1:(W.putObj w3.heap.size (.deferred none)).heap[w.heap.size+1]? = _)
  have hno:=opP_stop hSp hf
  refine ⟨by simp,.inl ⟨_,_,rfl,run_takeDeferred hK,?_⟩⟩
  refine ⟨.tuple #[.agg #[.bool false,.slice none 0 0],.int .i64 4],by simp [results,Tryz.results6,go_sem,z0,z1,z2],⟨⟨false,.slice none 0 0,[],4,rfl,KEx.own_nil _ _,(fun z h=>by cases h),.inr ⟨rfl,rfl,rfl,by rw [HOP.out,hno];rfl⟩⟩,hb.grown hg5 hb.size (fun k e=>by cases e;omega)⟩⟩
end
end Go.Proofs.YtjeogllmpjihaaaGreatDoor
