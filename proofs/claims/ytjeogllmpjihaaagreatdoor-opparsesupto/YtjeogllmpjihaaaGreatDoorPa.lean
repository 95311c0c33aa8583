/-
  Texts of this claim, one behind the other: Plain Leaf Tac Pla Shelf Sh4 Oqv Opd Oqd Oqn Spell Fld Bld Dec0 Dec1 May0 May Dec2 Gen Ord Ltb Trm Rname Rp0 Rp1.
-/
import GoSem.Claim
import Derived.Test.YtjeogllmpjihaaaGreatDoorProg
import Derived.WalkKit
import Derived.WalkSpells
import Derived.WalkLawsBesides
import Derived.Laws.Rows
import Derived.Deep.LoopGhost
import Derived.Deep.QuietTactic
import Derived.Deep.DrawnRows
import Derived.Deep.RegionHeld3
import Derived.Deep.AppendLies
import Derived.BigQuiet
import Derived.BigRegion
import Derived.LoopN
import Derived.OwnWalk
import Derived.Laws.OwnMore
import Derived.Laws.MakeOwn
import Derived.Shelf.SlSortCmp.QuietGrown
import Derived.Shelf.Strings.Builder1
import Derived.Shelf.Strings.OnBuilder
import Derived.Shelf.Small.Utf8
import Derived.Shelf.Small.Bits
import Derived.Shelf.Small.Strs
import Derived.Shelf.Small.Wraps
import Derived.Shelf.Strconv.Itoa0
import Derived.Shelf.Strconv.Itoa1
import Derived.Shelf.Strconv.Itoa2
import Derived.Shelf.Strconv.Itoa3
import Derived.Ground.MpProg
import Derived.Shelf.Pu.ParseUintPublic10
import Derived.Shelf.Pu.ErrVarParseUint
import Derived.Shelf.Strings.Search1
import Derived.Shelf.Strings.Search2
import Derived.Shelf.Strings.Search3
import Derived.Shelf.Strings.Count
import Derived.Shelf.Strings.Prefix
import Derived.Shelf.Strings.Split
import Derived.Shelf.Strings.SplitShaped
import Derived.Shelf.Strings.Runes
import Derived.Shelf.Strings.IndexAny
import Derived.Shelf.Strings.AsciiSet
import Derived.Shelf.Strings.IndexAnyAll
import Derived.Shelf.Unicode.DecodeSlow
import Derived.Shelf.Slices.Equal
import Derived.Ground.Names2Prog
import Derived.Shelf.Slices.Clone
import Derived.Shelf.Slices.Empties2
import Derived.Ground.SlgnProg
import Derived.Shelf.SlicesE.Equal
import Derived.Shelf.SlicesE.Clone
import Derived.Ground.SlgfProg
import Derived.Shelf.SlicesE.IndexFunc
import Derived.Shelf.SlGeneric
import Derived.Shelf.SlicesQ.IndexFunc
import Derived.Shelf.SlSortCmp.InsertionK
import Derived.Ground.NamesProg
import Derived.Shelf.Lays
import Derived.Ground.SlgqProg
import Derived.Ground.SlsfProg
import Derived.Shelf.SlLaysE0
import Derived.Shelf.SlLaysF0
import Derived.Shelf.SlLaysH0
import Derived.Shelf.SlLaysQ
import Derived.Shelf.SlSortCmp.SmallK
import Derived.Shelf.SlicesQ.Equal
import Derived.Shelf.Slices.Turned
import Derived.Lib.LaidTab
import Derived.RowKit
import Derived.Lib.ParseIntB
import Derived.Lib.ItoaNum
import Derived.Lib.ItoaMem
import Derived.Lib.Bytealg
import Derived.Deep.CutRange
import Derived.Laws.StructEq
namespace Go.Proofs.YtjeogllmpjihaaaGreatDoor
theorem sz {α : Type} : (∀ (l : List α) (i : Nat) (y : α), l.toArray.setIfInBounds i y = (l.set i y).toArray) ∧ (∀ (x y : α) (l : List α), (x :: l).set 0 y = y :: l) ∧ ∀ (x y : α) (l : List α) (i : Nat), (x :: l).set (i + 1) y = x :: l.set i y :=
  ⟨fun l i y => List.setIfInBounds_toArray l i y, fun _ _ _ => rfl, fun _ _ _ _ => rfl⟩
theorem cz {w : World} {b j : Nat} {cs : Array Value} {T : TypeId} {fr : Nat × Nat} {v : Value} (hb : w.heap[b]? = some (.cells cs T fr)) (hv : cs[j]? = some v := by rfl) : w.cell? ⟨b, j, none⟩ = some v := by
  simp only [World.cell?, hb]; exact hv
section
def bigB (n:Int):Bool:=decide (65≤n)&&decide (n≤90)
def smallB (n:Int):Bool:=decide (97≤n)&&decide (n≤122)
def digB (n:Int):Bool:=decide (48≤n)&&decide (n≤57)
def letB (n:Int):Bool:=bigB n||smallB n
def lodB (n:Int):Bool:=letB n||digB n
def idB (n:Int):Bool:=lodB n||n==45||n==46
theorem bigB_true {n:Int}:bigB n=true↔65≤n∧n≤90:=by simp [bigB]
theorem smallB_true {n:Int}:smallB n=true↔97≤n∧n≤122:=by simp [smallB]
def spell (f g:Int→Bool) (l:List UInt8):Bool :=
 match l with
 | []=>false
 | c::r=>decide (r.length+1≤32)&&f (c.toNat:Int)&&r.all fun x=>g (x.toNat:Int)
def typeB (l:List UInt8):Bool:=spell bigB letB l
def idenB (l:List UInt8):Bool:=spell idB idB l
def fieldB (l:List UInt8):Bool:=spell smallB lodB l
def tempB (l:List UInt8):Bool:=spell lodB lodB l
theorem spell_unfold (f g:Int→Bool) (s:ByteArray) (h:0<s.size) :
  spell f g s.data.toList=(decide (s.size≤32)&&f (s[0].toNat:Int)&&(s.data.toList.drop 1).all fun x=>g (x.toNat:Int)):=by
 obtain ⟨⟨l⟩⟩:=s
 cases l with
 | nil=>exact absurd h (Nat.lt_irrefl 0)
 | cons c r=>rfl
theorem spell_empty (f g:Int→Bool) (s:ByteArray) (h:s.size=0):spell f g s.data.toList=false:=by
 obtain ⟨⟨l⟩⟩:=s
 cases l with
 | nil=>rfl
 | cons c r=>exact absurd h (Nat.succ_ne_zero _)
theorem spell_long (f g:Int→Bool) (s:ByteArray) (h:32<s.size):spell f g s.data.toList=false:=by
 rw [spell_unfold f g s (by omega)]
 have:¬ s.size≤32:=by omega
 simp [this]
theorem spell_first (f g:Int→Bool) (s:ByteArray) (h:0<s.size) (hf:f (s[0].toNat:Int)=false):spell f g s.data.toList=false:=by
 rw [spell_unfold f g s h]
 simp [hf]
theorem byte_at (s:ByteArray) (k:Nat) (h:k<s.size):s.data.toList[k]'(by simpa using h)=s[k]:=rfl
theorem spell_at (f g:Int→Bool) (s:ByteArray) (k:Nat) (h1:1≤k) (h:k<s.size) (hg:g (s[k].toNat:Int)=false):spell f g s.data.toList=false:=by
 rw [spell_unfold f g s (by omega)]
 have:((s.data.toList.drop 1).all fun x=>g (x.toNat:Int))=false:=by
  rw [Bool.eq_false_iff]
  intro hall
  rw [List.all_eq_true] at hall
  have hl:k<s.data.toList.length:=by simpa using h
  have hm:s[k]∈s.data.toList.drop 1:=by
   rw [←byte_at s k h,List.mem_iff_getElem]
   refine ⟨k-1,by simp at hl ⊢;omega,?_⟩
   rw [List.getElem_drop]
   congr 1
   omega
  have:=hall _ hm
  rw [hg] at this
  cases this
 rw [this];simp
theorem spell_true (f g:Int→Bool) (s:ByteArray) (h:0<s.size) (h32:s.size≤32) (hf:f (s[0].toNat:Int)=true)
  (hg:∀k,1≤k→(hk:k<s.size)→g (s[k].toNat:Int)=true):spell f g s.data.toList=true:=by
 rw [spell_unfold f g s h]
 have:((s.data.toList.drop 1).all fun x=>g (x.toNat:Int))=true:=by
  rw [List.all_eq_true]
  intro x hx
  rw [List.mem_iff_getElem] at hx
  obtain ⟨j,hj,rfl⟩:=hx
  rw [List.getElem_drop]
  have hj2:1+j<s.size:=by simp at hj;omega
  exact hg (1+j) (by omega) hj2
 rw [this];simp [h32,hf]
end
section
open Go.RowKit
theorem hid {p:Prop} (h:p):Hid p:=h
theorem ret_bool {a b:Bool} (h:a=b):Ending.returned (.bool a)=.returned (.bool b):=by rw [h]
theorem ret_int {k:IntKind} {a b:Int} (h:a=b):Ending.returned (.int k a)=.returned (.int k b):=by rw [h]
set_option maxHeartbeats 400000 in
theorem big_any (n:Int) (w:World):Calls Tryz.prog 112 #[.int .u8 n] w fun e w'=>e=.returned (.bool (bigB n))∧w'=w:=by
 go_enter Tryz.func112,Tryz.ntmps112
 go_wp2
 all_goals go_ret
 all_goals refine ⟨ret_bool ?_,rfl⟩
 all_goals (rw [Bool.eq_iff_iff];simp [bigB];try omega)
set_option maxHeartbeats 400000 in
theorem small_any (n:Int) (w:World):Calls Tryz.prog 152 #[.int .u8 n] w fun e w'=>e=.returned (.bool (smallB n))∧w'=w:=by
 go_enter Tryz.func152,Tryz.ntmps152
 go_wp2
 all_goals go_ret
 all_goals refine ⟨ret_bool ?_,rfl⟩
 all_goals (rw [Bool.eq_iff_iff];simp [smallB];try omega)
set_option maxHeartbeats 400000 in
theorem letter_any (n:Int) (w:World):Calls Tryz.prog 113 #[.int .u8 n] w fun e w'=>e=.returned (.bool (letB n))∧w'=w:=by
 go_enter Tryz.func113,Tryz.ntmps113
 go_wp2
 all_goals go_ret
 all_goals refine ⟨ret_bool ?_,rfl⟩
 all_goals (rw [Bool.eq_iff_iff];simp [letB,bigB,smallB];try omega)
set_option maxHeartbeats 400000 in
theorem lod_any (n:Int) (w:World):Calls Tryz.prog 110 #[.int .u8 n] w fun e w'=>e=.returned (.bool (lodB n))∧w'=w:=by
 go_enter Tryz.func110,Tryz.ntmps110
 go_wp2
 all_goals go_ret
 all_goals refine ⟨ret_bool ?_,rfl⟩
 all_goals (rw [Bool.eq_iff_iff];simp [lodB,digB,letB,bigB,smallB];try omega)
end
section
open Go.RowKit
theorem bel_drewN {B:Nat} {a w:World} (h:Below B a w) (n:Nat):Below B a (w.drewN n):=⟨h.os,h.tape,h.output,h.size,h.block⟩
theorem bel_then {B:Nat} {a b c:World} (h:Below B a b) (hB:B≤b.heap.size) (k:Below b.heap.size b c):Below B a c:=h.trans (k.mono hB)
theorem Tryz.mixed:Tryz.prog.follows .mixedOrders=true:=by kernel_rfl
def Grown (w w':World):Prop:=∃q os,w'=Sort.grow (w.drewN q) os
theorem Grown.refl (w:World):Grown w w:=⟨0,#[],by rw [Sort.grow_empty];rfl⟩
theorem Grown.draws (w:World) (n:Nat):Grown w (w.drewN n):=⟨n,#[],by rw [Sort.grow_empty]⟩
theorem Grown.trans {a b c:World} (h:Grown a b) (k:Grown b c):Grown a c:=by
 obtain ⟨q,os,rfl⟩:=h
 obtain ⟨q',os',rfl⟩:=k
 exact ⟨q+q',os++os',by show Sort.grow (Sort.grow ((a.drewN q).drewN q') os) os'=_;rw [Sort.grow_grow,World.drewN_drewN]⟩
theorem Grown.alloc {a w:World} (h:Grown a w) (o:Obj):Grown a (w.alloc o):=h.trans ⟨0,#[o],by rw [Sort.alloc_eq_grow];rfl⟩
theorem Grown.drewN {a w:World} (h:Grown a w) (n:Nat):Grown a (w.drewN n):=h.trans (Grown.draws w n)
theorem Grown.on {a w:World} {q:Nat} {os:Array Obj} (h:Grown a w):Grown a (Sort.grow (w.drewN q) os):=h.trans ⟨q,os,rfl⟩
theorem Grown.below {w w':World} (h:Grown w w'):Below w.heap.size w w':=by
 obtain ⟨q,os,rfl⟩:=h
 refine ⟨rfl,rfl,rfl,by simp [Sort.grow,World.drewN],fun k hk=>?_⟩
 show (w.heap++os)[k]? = w.heap[k]?
 rw [Array.getElem?_append_left hk]
end
section
open Go.RowKit
def plainRuns:List (Int × Int):=[(97,122),(65,90),(48,57),(45,45),(46,46),(95,95),(124,124),(42,42),(64,64),(47,47),(58,58),(43,43),(44,44)]
def plainLo (i:Nat):Int:=(plainRuns.getD i (0,0)).1
def plainHi (i:Nat):Int:=(plainRuns.getD i (0,0)).2
def plainCells:Array Value:=#[.int .u8 97,.int .u8 122,.int .u8 65,.int .u8 90,.int .u8 48,.int .u8 57,.int .u8 45,.int .u8 45,.int .u8 46,.int .u8 46,.int .u8 95,.int .u8 95,.int .u8 124,.int .u8 124,
 .int .u8 42,.int .u8 42,.int .u8 64,.int .u8 64,.int .u8 47,.int .u8 47,.int .u8 58,.int .u8 58,.int .u8 43,.int .u8 43,.int .u8 44,.int .u8 44]
def plainB (n:Int):Bool:=plainRuns.any fun r=>decide (r.1≤n)&&decide (n≤r.2)
def PlainAt (w:World):Prop:=∃t fr,w.heap[3]? = some (.cells plainCells t fr)
theorem PlainAt.lt {w:World} (h:PlainAt w):3<w.heap.size:=by
 obtain ⟨t,fr,h⟩:=h
 exact (Array.getElem?_eq_some_iff.1 h).1
theorem PlainAt.kept {w w':World} {n:Nat} (h:PlainAt w) (hn:3<n) (hb:Below n w w'):PlainAt w':=by
 obtain ⟨t,fr,h⟩:=h
 exact ⟨t,fr,(hb.block _ hn).trans h⟩
theorem PlainAt.on {w w':World} (h:PlainAt w) (hb:Below w.heap.size w w'):PlainAt w':=h.kept h.lt hb
theorem plain_index (i:Nat) (hi:i<13) (w:World):Sem.run Tryz.prog (Instr.index 209 (.agg plainCells) (.int .i64 i)) w=.ok (.agg #[.int .u8 (plainLo i),.int .u8 (plainHi i)]) w:=by
 have h:i=0∨i=1∨i=2∨i=3∨i=4∨i=5∨i=6∨i=7∨i=8∨i=9∨i=10∨i=11∨i=12:=by omega
 have z:(Go.sizeOf 208).run Tryz.prog w=.ok 2 w:=Tryz.sizeOf208 w
 rcases h with rfl|rfl|rfl|rfl|rfl|rfl|rfl|rfl|rfl|rfl|rfl|rfl|rfl <;>
  simp [Instr.index,run_underlying Tryz.underlying209,asIntOf,part,z,plainCells,plainLo,plainHi,plainRuns,go_sem]
theorem plain_at (n:Int) (i:Nat) (hi:i<13) (h1:plainLo i≤n) (h2:n≤plainHi i):plainB n=true:=by
 unfold plainB
 rw [List.any_eq_true]
 refine ⟨plainRuns.getD i (0,0),?_,?_⟩
 ·rw [List.getD_eq_getElem?_getD,List.getElem?_eq_getElem (show i<plainRuns.length from hi)]
  exact List.getElem_mem _
 ·unfold plainLo at h1
  unfold plainHi at h2
  rw [Bool.and_eq_true,decide_eq_true_eq,decide_eq_true_eq]
  exact ⟨h1,h2⟩
theorem plain_no (n:Int) (h:∀i,i<13→¬ (plainLo i≤n∧n≤plainHi i)):plainB n=false:=by
 rw [Bool.eq_false_iff]
 intro ht
 unfold plainB at ht
 rw [List.any_eq_true] at ht
 obtain ⟨r,hr,h1⟩:=ht
 obtain ⟨i,hi,rfl⟩:=List.mem_iff_getElem.1 hr
 refine h i hi ?_
 unfold plainLo plainHi
 rw [List.getD_eq_getElem?_getD,List.getElem?_eq_getElem hi]
 simpa using h1
set_option maxHeartbeats 4000000 in
set_option maxRecDepth 100000 in
theorem isPlain_any (n:Int) (w:World) (hp:PlainAt w):Calls Tryz.prog 170 #[.int .u8 n] w fun e w'=>e=.returned (.bool (plainB n))∧Below w.heap.size w w':=by
 obtain ⟨t,fr,hrow⟩:=hp
 have hin:(Tryz.prog.info? 209).map (·.size)=some plainCells.size:=by kernel_rfl
 have HX:Hid (∀i:Nat,i<13→∀w,Sem.run Tryz.prog (Instr.index 209 (.agg plainCells) (.int .i64 i)) w=.ok (.agg #[.int .u8 (plainLo i),.int .u8 (plainHi i)]) w):=plain_index
 generalize plainCells=tb at hrow hin HX
 have HR:=hid hrow
 have HI:=hid hin
 clear hrow hin
 go_enter Tryz.func170,Tryz.ntmps170
 go_wp2_with (refine wpList_load_row rfl 209 _ rfl 3 rfl _ _ _ _ HR.out Tryz.underlying209 rfl HI.out ?_)
 go_loopg [6] 13 (fun g vi wr=>∃i:Nat,vi=.int .i64 i∧i≤13∧13-i≤g∧Below w.heap.size w wr∧Hid (∀j,j<i→¬ (plainLo j≤n∧n≤plainHi j)))
 case atStart=>exact ⟨0,rfl,by omega,by omega,Below.refl _ _,fun j h=>by omega⟩
 case round =>
  obtain ⟨i,rfl,hi,hg,hb,HJ⟩:=hrel
  by_cases hlt:i<13
  ·have hltz:(i:Int)<13:=by omega
   have hx:=HX.out i hlt
   go_wp2_with fail
   ·go_ret
    exact ⟨ret_bool (plain_at n i hlt (by assumption) (by assumption)).symm,hb.alloc hb.size _⟩
   ·go_roundg (13-(i+1))
    case measure=>omega
    refine ⟨i+1,by go_num,by omega,by omega,hb.alloc hb.size _,?_⟩
    rename_i h1 h2
    intro j hj
    by_cases e:j=i
    ·subst e;omega
    ·exact HJ.out j (by omega)
   ·go_roundg (13-(i+1))
    case measure=>omega
    refine ⟨i+1,by go_num,by omega,by omega,hb.alloc hb.size _,?_⟩
    rename_i h1
    intro j hj
    by_cases e:j=i
    ·subst e;omega
    ·exact HJ.out j (by omega)
  ·have hltz:¬ (i:Int)<13:=by omega
   go_wp2_with fail
   go_ret
   exact ⟨ret_bool (plain_no n fun j hj=>HJ.out j (by omega)).symm,hb⟩
end
end Go.Proofs.YtjeogllmpjihaaaGreatDoor
namespace Go.Proofs
open Go.Shelf
def Tryz.lays169_ren:Go.Shelf.Ren:=⟨fun|169=>49|n=>n,fun|70=>88|9=>9|0=>0|72=>91|37=>89|127=>130|3=>3|5=>5|n=>n,fun|n=>n⟩
theorem Tryz.lays169:Go.Proofs.Lays.n169 Tryz.prog Tryz.lays169_ren:={
 mixed:=by kernel_rfl
 f169:=Tryz.func49.trans (congrArg some (by kernel_rfl))
 t0:=Tryz.underlying0
 a0:=Tryz.isAgg0
 z0:=Tryz.sizeOf0
 v0:=Tryz.zeroValue0
 t3:=Tryz.underlying3
 a3:=Tryz.isAgg3
 z3:=Tryz.sizeOf3
 v3:=Tryz.zeroValue3
 t9:=Tryz.underlying9
 a9:=Tryz.isAgg9
 z9:=Tryz.sizeOf9
 v9:=Tryz.zeroValue9
 t37:=Tryz.underlying89
 a37:=Tryz.isAgg89
 z37:=Tryz.sizeOf89
 v37:=Tryz.zeroValue89
 t70:=Tryz.underlying88
 a70:=Tryz.isAgg88
 z70:=Tryz.sizeOf88
 v70:=Tryz.zeroValue88
 t72:=Tryz.underlying91
 a72:=Tryz.isAgg91
 z72:=Tryz.sizeOf91
 v72:=Tryz.zeroValue91
 t127:=Tryz.underlying130
 a127:=Tryz.isAgg130
 z127:=Tryz.sizeOf130
 v127:=Tryz.zeroValue130 }
theorem Tryz.Builder_Extra_169:Builder.Extra Tryz.prog Tryz.lays169_ren:={
 sizeBuilder:=by kernel_rfl
 liesBuilder:=by kernel_rfl
 t5:=Tryz.underlying5
 a5:=Tryz.isAgg5
 z5:=Tryz.sizeOf5
 v5:=Tryz.zeroValue5
 infoByte:=by kernel_rfl
 cellsByte:=by kernel_rfl
 sizeByte:=by kernel_rfl
 neB5:=by decide }
open Go.RowKit in
theorem Tryz.Builder_String_any (B b:Nat) (l:List UInt8) (w:World) (h:Lib.IsBuilder 91 5 B b (Lib.byteCells l) w) (hBw:B≤w.heap.size) :
  Calls Tryz.prog 49 #[.pointer (some ⟨b,0,none⟩)] w fun e w'=>e=.returned (.string ⟨l.toArray⟩)∧Below B w w':=Any.Builder_String_any Tryz.lays169 Tryz.Builder_Extra_169 B b l w h hBw
def Tryz.lays106_ren:Go.Shelf.Ren:=⟨fun|106=>199|213=>225|265=>238|n=>n,fun|9=>9|3=>3|n=>n,fun|n=>n⟩
theorem Tryz.lays106:Go.Proofs.Lays.n106 Tryz.prog Tryz.lays106_ren:={
 mixed:=by kernel_rfl
 f106:=Tryz.func199.trans (congrArg some (by kernel_rfl))
 f213:=Tryz.func225.trans (congrArg some (by kernel_rfl))
 f265:=Tryz.func238.trans (congrArg some (by kernel_rfl))
 t3:=Tryz.underlying3
 a3:=Tryz.isAgg3
 z3:=Tryz.sizeOf3
 v3:=Tryz.zeroValue3
 t9:=Tryz.underlying9
 a9:=Tryz.isAgg9
 z9:=Tryz.sizeOf9
 v9:=Tryz.zeroValue9 }
open Go.RowKit in
theorem Tryz.strings_Compare (a b:ByteArray) (w:World) :
  Calls Tryz.prog 199 #[.string a,.string b] w fun e w'=>e=.returned (.int .i64 (Lib.compareBytes a.data.toList b.data.toList))∧w'=w:=Any.strings_Compare Tryz.lays106 a b w
def Tryz.lays137_ren:Go.Shelf.Ren:=⟨fun|137=>159|217=>145|266=>181|n=>n,fun|9=>9|5=>5|3=>3|n=>n,fun|n=>n⟩
theorem Tryz.lays137:Go.Proofs.Lays.n137 Tryz.prog Tryz.lays137_ren:={
 mixed:=by kernel_rfl
 f137:=Tryz.func159.trans (congrArg some (by kernel_rfl))
 f217:=Tryz.func145.trans (congrArg some (by kernel_rfl))
 f266:=Tryz.func181.trans (congrArg some (by kernel_rfl))
 t3:=Tryz.underlying3
 a3:=Tryz.isAgg3
 z3:=Tryz.sizeOf3
 v3:=Tryz.zeroValue3
 t5:=Tryz.underlying5
 a5:=Tryz.isAgg5
 z5:=Tryz.sizeOf5
 v5:=Tryz.zeroValue5
 t9:=Tryz.underlying9
 a9:=Tryz.isAgg9
 z9:=Tryz.sizeOf9
 v9:=Tryz.zeroValue9 }
open Go.RowKit in
theorem Tryz.strings_IndexByte (s:ByteArray) (c:Int) (w:World) :
  Calls Tryz.prog 159 #[.string s,.int .u8 c] w fun e w'=>e=.returned (.int .i64 (Lib.indexByte s.data.toList c.toNat.toUInt8))∧w'=w:=Any.strings_IndexByte Tryz.lays137 s c w
def Tryz.lays219_ren:Go.Shelf.Ren:=⟨fun|219=>105|217=>145|225=>146|224=>147|267=>148|266=>181|314=>182|n=>n,fun|9=>9|3=>3|4=>4|5=>5|46=>163|146=>185|51=>184|n=>n,fun|1=>2|n=>n⟩
theorem Tryz.lays219:Go.Proofs.Lays.n219 Tryz.prog Tryz.lays219_ren:={
 mixed:=by kernel_rfl
 f217:=Tryz.func145.trans (congrArg some (by kernel_rfl))
 f219:=Tryz.func105.trans (congrArg some (by kernel_rfl))
 f224:=Tryz.func147.trans (congrArg some (by kernel_rfl))
 f225:=Tryz.func146.trans (congrArg some (by kernel_rfl))
 f266:=Tryz.func181.trans (congrArg some (by kernel_rfl))
 f267:=Tryz.func148.trans (congrArg some (by kernel_rfl))
 f314:=Tryz.func182.trans (congrArg some (by kernel_rfl))
 t3:=Tryz.underlying3
 a3:=Tryz.isAgg3
 z3:=Tryz.sizeOf3
 v3:=Tryz.zeroValue3
 t4:=Tryz.underlying4
 a4:=Tryz.isAgg4
 z4:=Tryz.sizeOf4
 v4:=Tryz.zeroValue4
 t5:=Tryz.underlying5
 a5:=Tryz.isAgg5
 z5:=Tryz.sizeOf5
 v5:=Tryz.zeroValue5
 t9:=Tryz.underlying9
 a9:=Tryz.isAgg9
 z9:=Tryz.sizeOf9
 v9:=Tryz.zeroValue9
 t46:=Tryz.underlying163
 a46:=Tryz.isAgg163
 z46:=Tryz.sizeOf163
 v46:=Tryz.zeroValue163
 t51:=Tryz.underlying184
 a51:=Tryz.isAgg184
 z51:=Tryz.sizeOf184
 v51:=Tryz.zeroValue184
 t146:=Tryz.underlying185
 a146:=Tryz.isAgg185
 z146:=Tryz.sizeOf185
 v146:=Tryz.zeroValue185
 g1:=by kernel_rfl }
open Go.RowKit Go.Lib in
theorem Tryz.stringslite_Index_one (s:ByteArray) (c:UInt8) (w:World) :
  Calls Tryz.prog 105 #[.string s,.string ⟨#[c]⟩] w fun e w'=>e=.returned (.int .i64 (Lib.indexByte s.data.toList c))∧w'=w:=Any.stringslite_Index_one Tryz.lays219 s c w
def Tryz.lays143_ren:Go.Shelf.Ren:=⟨fun|143=>63|219=>105|217=>145|225=>146|224=>147|267=>148|266=>181|314=>182|n=>n,fun|9=>9|3=>3|4=>4|5=>5|46=>163|146=>185|51=>184|n=>n,fun|1=>2|n=>n⟩
theorem Tryz.lays143:Go.Proofs.Lays.n143 Tryz.prog Tryz.lays143_ren:={
 mixed:=by kernel_rfl
 f143:=Tryz.func63.trans (congrArg some (by kernel_rfl))
 f217:=Tryz.func145.trans (congrArg some (by kernel_rfl))
 f219:=Tryz.func105.trans (congrArg some (by kernel_rfl))
 f224:=Tryz.func147.trans (congrArg some (by kernel_rfl))
 f225:=Tryz.func146.trans (congrArg some (by kernel_rfl))
 f266:=Tryz.func181.trans (congrArg some (by kernel_rfl))
 f267:=Tryz.func148.trans (congrArg some (by kernel_rfl))
 f314:=Tryz.func182.trans (congrArg some (by kernel_rfl))
 t3:=Tryz.underlying3
 a3:=Tryz.isAgg3
 z3:=Tryz.sizeOf3
 v3:=Tryz.zeroValue3
 t4:=Tryz.underlying4
 a4:=Tryz.isAgg4
 z4:=Tryz.sizeOf4
 v4:=Tryz.zeroValue4
 t5:=Tryz.underlying5
 a5:=Tryz.isAgg5
 z5:=Tryz.sizeOf5
 v5:=Tryz.zeroValue5
 t9:=Tryz.underlying9
 a9:=Tryz.isAgg9
 z9:=Tryz.sizeOf9
 v9:=Tryz.zeroValue9
 t46:=Tryz.underlying163
 a46:=Tryz.isAgg163
 z46:=Tryz.sizeOf163
 v46:=Tryz.zeroValue163
 t51:=Tryz.underlying184
 a51:=Tryz.isAgg184
 z51:=Tryz.sizeOf184
 v51:=Tryz.zeroValue184
 t146:=Tryz.underlying185
 a146:=Tryz.isAgg185
 z146:=Tryz.sizeOf185
 v146:=Tryz.zeroValue185
 g1:=by kernel_rfl }
open Go.RowKit Go.Lib in
theorem Tryz.strings_Index_one (s:ByteArray) (c:UInt8) (w:World) :
  Calls Tryz.prog 63 #[.string s,.string ⟨#[c]⟩] w fun e w'=>e=.returned (.int .i64 (Lib.indexByte s.data.toList c))∧w'=w:=Any.strings_Index_one Tryz.lays143 s c w
def Tryz.lays156_ren:Go.Shelf.Ren:=⟨fun|156=>26|165=>47|166=>48|169=>49|240=>93|241=>94|276=>134|277=>135|n=>n,fun|31=>43|9=>9|3=>3|4=>4|0=>0|20=>20|72=>91|76=>95|70=>88|37=>89|75=>94|127=>130|164=>155|5=>5|80=>97|n=>n,fun|n=>n⟩
theorem Tryz.lays156:Go.Proofs.Lays.n156 Tryz.prog Tryz.lays156_ren:={
 mixed:=by kernel_rfl
 f156:=Tryz.func26.trans (congrArg some (by kernel_rfl))
 f165:=Tryz.func47.trans (congrArg some (by kernel_rfl))
 f166:=Tryz.func48.trans (congrArg some (by kernel_rfl))
 f169:=Tryz.func49.trans (congrArg some (by kernel_rfl))
 f240:=Tryz.func93.trans (congrArg some (by kernel_rfl))
 f241:=Tryz.func94.trans (congrArg some (by kernel_rfl))
 f276:=Tryz.func134.trans (congrArg some (by kernel_rfl))
 f277:=Tryz.func135.trans (congrArg some (by kernel_rfl))
 t0:=Tryz.underlying0
 a0:=Tryz.isAgg0
 z0:=Tryz.sizeOf0
 v0:=Tryz.zeroValue0
 t3:=Tryz.underlying3
 a3:=Tryz.isAgg3
 z3:=Tryz.sizeOf3
 v3:=Tryz.zeroValue3
 t4:=Tryz.underlying4
 a4:=Tryz.isAgg4
 z4:=Tryz.sizeOf4
 v4:=Tryz.zeroValue4
 t9:=Tryz.underlying9
 a9:=Tryz.isAgg9
 z9:=Tryz.sizeOf9
 v9:=Tryz.zeroValue9
 t20:=Tryz.underlying20
 a20:=Tryz.isAgg20
 z20:=Tryz.sizeOf20
 v20:=Tryz.zeroValue20
 t31:=Tryz.underlying43
 a31:=Tryz.isAgg43
 z31:=Tryz.sizeOf43
 v31:=Tryz.zeroValue43
 t37:=Tryz.underlying89
 a37:=Tryz.isAgg89
 z37:=Tryz.sizeOf89
 v37:=Tryz.zeroValue89
 t70:=Tryz.underlying88
 a70:=Tryz.isAgg88
 z70:=Tryz.sizeOf88
 v70:=Tryz.zeroValue88
 t72:=Tryz.underlying91
 a72:=Tryz.isAgg91
 z72:=Tryz.sizeOf91
 v72:=Tryz.zeroValue91
 t75:=Tryz.underlying94
 a75:=Tryz.isAgg94
 z75:=Tryz.sizeOf94
 v75:=Tryz.zeroValue94
 t76:=Tryz.underlying95
 a76:=Tryz.isAgg95
 z76:=Tryz.sizeOf95
 v76:=Tryz.zeroValue95
 t127:=Tryz.underlying130
 a127:=Tryz.isAgg130
 z127:=Tryz.sizeOf130
 v127:=Tryz.zeroValue130
 t164:=Tryz.underlying155
 a164:=Tryz.isAgg155
 z164:=Tryz.sizeOf155
 v164:=Tryz.zeroValue155 }
theorem Tryz.Builder_Extra_156:Builder.Extra Tryz.prog Tryz.lays156_ren:={
 sizeBuilder:=by kernel_rfl
 liesBuilder:=by kernel_rfl
 t5:=Tryz.underlying5
 a5:=Tryz.isAgg5
 z5:=Tryz.sizeOf5
 v5:=Tryz.zeroValue5
 infoByte:=by kernel_rfl
 cellsByte:=by kernel_rfl
 sizeByte:=by kernel_rfl
 neB5:=by decide }
open Go.RowKit in
theorem Tryz.strings_Join (bk o c:Nat) (xs:List ByteArray) (sep:ByteArray) (w:World) (hcells:∀(j:Nat) x,xs[j]? = some x→w.cell? ⟨bk,o+j,none⟩=some (.string x)) (hbk:bk<w.heap.size) (hN:xs.length≤140737488355328) (hcap:xs.length≤c) (hlen:(Lib.join (xs.map (·.data.toList)) sep.data.toList).length≤140737488355328) :
  Calls Tryz.prog 26 #[.slice (some ⟨bk,o,none⟩) xs.length c,.string sep] w fun e w'=>e=.returned (.string ⟨(Lib.join (xs.map (·.data.toList)) sep.data.toList).toArray⟩)∧Below w.heap.size w w':=Any.strings_Join Tryz.lays156 Tryz.Builder_Extra_156 bk o c xs sep w hcells hbk hN hcap hlen
open Go.RowKit in
theorem Tryz.strings_Join_none (a:Option Addr) (c:Nat) (sep:ByteArray) (w:World) :
  Calls Tryz.prog 26 #[.slice a 0 c,.string sep] w fun e w'=>e=.returned (.string ⟨#[]⟩)∧w'=w:=Any.strings_Join_none Tryz.lays156 Tryz.Builder_Extra_156 a c sep w
def Tryz.lays193_ren:Go.Shelf.Ren:=⟨fun|193=>144|n=>n,fun|31=>43|9=>9|4=>4|3=>3|0=>0|n=>n,fun|n=>n⟩
theorem Tryz.lays193:Go.Proofs.Lays.n193 Tryz.prog Tryz.lays193_ren:={
 mixed:=by kernel_rfl
 f193:=Tryz.func144.trans (congrArg some (by kernel_rfl))
 t0:=Tryz.underlying0
 a0:=Tryz.isAgg0
 z0:=Tryz.sizeOf0
 v0:=Tryz.zeroValue0
 t3:=Tryz.underlying3
 a3:=Tryz.isAgg3
 z3:=Tryz.sizeOf3
 v3:=Tryz.zeroValue3
 t4:=Tryz.underlying4
 a4:=Tryz.isAgg4
 z4:=Tryz.sizeOf4
 v4:=Tryz.zeroValue4
 t9:=Tryz.underlying9
 a9:=Tryz.isAgg9
 z9:=Tryz.sizeOf9
 v9:=Tryz.zeroValue9
 t31:=Tryz.underlying43
 a31:=Tryz.isAgg43
 z31:=Tryz.sizeOf43
 v31:=Tryz.zeroValue43 }
open Go.RowKit Go.Lib in
theorem Tryz.slices_Equal_string (b1 o1 n c b2 o2 m d:Nat) (xs ys:List ByteArray) (w:World) (hx:n≤xs.length) (hy:m≤ys.length) (hbig:n≤9223372036854775807) (hbig2:m≤9223372036854775807) (hc1:∀j,j<xs.length→w.cell? ⟨b1,o1+j,none⟩=some (.string (xs.getD j ByteArray.empty))) (hc2:∀j,j<ys.length→w.cell? ⟨b2,o2+j,none⟩=some (.string (ys.getD j ByteArray.empty))) :
  Calls Tryz.prog 144 #[.slice (some ⟨b1,o1,none⟩) n c,.slice (some ⟨b2,o2,none⟩) m d] w fun e w'=>e=.returned (.bool (decide (xs.take n=ys.take m)))∧∃q,w'=w.drewN q:=Any.slices_Equal_string Tryz.lays193 b1 o1 n c b2 o2 m d xs ys w hx hy hbig hbig2 hc1 hc2
open Go.RowKit Go.Lib in
theorem Tryz.slices_Equal_string_empty (a1 a2:Option Addr) (c m d:Nat) (w:World) (hbig2:m≤9223372036854775807) :
  Calls Tryz.prog 144 #[.slice a1 0 c,.slice a2 m d] w fun e w'=>e=.returned (.bool (decide (m=0)))∧w'=w:=Any.slices_Equal_string_empty Tryz.lays193 a1 a2 c m d w hbig2
open Go.RowKit Go.Lib in
theorem Tryz.slices_Equal_string_lens (a1 a2:Option Addr) (n c m d:Nat) (w:World) (hnm:n≠m) :
  Calls Tryz.prog 144 #[.slice a1 n c,.slice a2 m d] w fun e w'=>e=.returned (.bool false)∧w'=w:=Any.slices_Equal_string_lens Tryz.lays193 a1 a2 n c m d w hnm
def Tryz.laysNm216_ren:Go.Shelf.Ren:=⟨fun|16=>188|n=>n,fun|24=>43|9=>9|4=>4|n=>n,fun|n=>n⟩
theorem Tryz.laysNm216:Go.Proofs.Lays2.n16 Tryz.prog Tryz.laysNm216_ren:={
 mixed:=by kernel_rfl
 f16:=Tryz.func188.trans (congrArg some (by kernel_rfl))
 t4:=Tryz.underlying4
 a4:=Tryz.isAgg4
 z4:=Tryz.sizeOf4
 v4:=Tryz.zeroValue4
 t9:=Tryz.underlying9
 a9:=Tryz.isAgg9
 z9:=Tryz.sizeOf9
 v9:=Tryz.zeroValue9
 t24:=Tryz.underlying43
 a24:=Tryz.isAgg43
 z24:=Tryz.sizeOf43
 v24:=Tryz.zeroValue43
 i9:=by kernel_rfl }
open Go.RowKit Go.Lib in
theorem Tryz.slices_Clone_string (b off n c:Nat) (zs:List ByteArray) (w:World) (hz:n≤zs.length) (hbig:n * 16≤140737488355328) (hc:∀j,j<zs.length→w.cell? ⟨b,off+j,none⟩=some (.string (zs.getD j ByteArray.empty))) :
  Calls Tryz.prog 188 #[.slice (some ⟨b,off,none⟩) n c] w fun e w'=>∃v',e=.returned v'∧w'.ownsRow w.heap.size 9 1 v' n ((zs.take n).map (Value.string))∧v'≠.slice none 0 0∧Below w.heap.size w w':=Any.slices_Clone_string Tryz.laysNm216 b off n c zs w hz hbig hc
open Go.RowKit Go.Lib in
theorem Tryz.slices_Clone_string_nil (n c:Nat) (w:World) :
  Calls Tryz.prog 188 #[.slice none n c] w fun e w'=>e=.returned (.slice none 0 0)∧w'=w:=Any.slices_Clone_string_nil Tryz.laysNm216 n c w
open Go.RowKit Go.Lib in
theorem Tryz.slices_Clone_string_zero (a:Addr) (c:Nat) (w:World) :
  Calls Tryz.prog 188 #[.slice (some a) 0 c] w fun e w'=>∃v',e=.returned v'∧w'.ownsRow w.heap.size 9 1 v' 0 []∧v'≠.slice none 0 0∧Below w.heap.size w w':=Any.slices_Clone_string_zero Tryz.laysNm216 a c w
def Tryz.laysSlH8_f177_ren:Go.Shelf.Ren:=⟨fun|8=>177|6=>212|n=>n,fun|22=>43|23=>9|25=>30|4=>4|3=>3|0=>0|n=>n,fun|n=>n⟩
theorem Tryz.laysSlH8_f177:Go.Proofs.SlLaysH.n8 Tryz.prog Tryz.laysSlH8_f177_ren:={
 mixed:=by kernel_rfl
 f6:=⟨Tryz.f212.name,by decide,Tryz.func212.trans (congrArg some (by kernel_rfl))⟩
 f8:=⟨Tryz.f177.name,by decide,Tryz.func177.trans (congrArg some (by kernel_rfl))⟩
 t0:=Tryz.underlying0
 a0:=Tryz.isAgg0
 z0:=Tryz.sizeOf0
 v0:=Tryz.zeroValue0
 t3:=Tryz.underlying3
 a3:=Tryz.isAgg3
 z3:=Tryz.sizeOf3
 v3:=Tryz.zeroValue3
 t4:=Tryz.underlying4
 a4:=Tryz.isAgg4
 z4:=Tryz.sizeOf4
 v4:=Tryz.zeroValue4
 t22:=Tryz.underlying43
 a22:=Tryz.isAgg43
 z22:=Tryz.sizeOf43
 v22:=Tryz.zeroValue43
 a23:=Tryz.isAgg9
 z23:=Tryz.sizeOf9
 t25:=Tryz.underlying30
 a25:=Tryz.isAgg30
 z25:=Tryz.sizeOf30
 v25:=Tryz.zeroValue30 }
open Go.RowKit Go.Lib in
theorem Tryz.slices_ContainsFunc {α:Type} [Inhabited α] (enc:α→Value) (p:α→Bool) (g:Nat) (lb:Array Value) (eg:∀args w,(callFunc g args).run Tryz.prog w=.ok (.enter g args) w) (b off n c:Nat) (zs:List α) (w:World) (hp:PredAt Tryz.prog g lb enc p w) (hz:n≤zs.length) (hbig:n≤9223372036854775807) (hc:∀j,j<zs.length→w.cell? ⟨b,off+j,none⟩=some (enc zs[j]!)) :
  Calls Tryz.prog 177 #[.slice (some ⟨b,off,none⟩) n c,.func (.func g) #[] lb] w fun e w'=>e=.returned (.bool ((zs.take n).any p))∧∃q,w'=w.drewN q:=AnyE.slices_ContainsFunc Tryz.laysSlH8_f177 enc p g lb eg b off n c zs w hp hz hbig hc
open Go.RowKit Go.Lib in
theorem Tryz.slices_ContainsFunc_empty {α:Type} [Inhabited α] (a:Option Addr) (c:Nat) (fv:Value) (w:World) :
  Calls Tryz.prog 177 #[.slice a 0 c,fv] w fun e w'=>e=.returned (.bool false)∧w'=w:=AnyE.slices_ContainsFunc_empty Tryz.laysSlH8_f177 a c fv w
def Tryz.lays122_ren:Go.Shelf.Ren:=⟨fun|122=>200|215=>226|n=>n,fun|3=>3|4=>4|n=>n,fun|n=>n⟩
theorem Tryz.lays122:Go.Proofs.Lays.n122 Tryz.prog Tryz.lays122_ren:={
 mixed:=by kernel_rfl
 f122:=Tryz.func200.trans (congrArg some (by kernel_rfl))
 f215:=Tryz.func226.trans (congrArg some (by kernel_rfl))
 t3:=Tryz.underlying3
 a3:=Tryz.isAgg3
 z3:=Tryz.sizeOf3
 v3:=Tryz.zeroValue3
 t4:=Tryz.underlying4
 a4:=Tryz.isAgg4
 z4:=Tryz.sizeOf4
 v4:=Tryz.zeroValue4 }
open Go.RowKit in
theorem Tryz.cmp_Compare_int (x y:Int) (w:World) :
  Calls Tryz.prog 200 #[.int .i64 x,.int .i64 y] w fun e w'=>e=.returned (.int .i64 (Lib.compareInt x y))∧w'=w:=Any.cmp_Compare_int Tryz.lays122 x y w
def Tryz.lays99_ren:Go.Shelf.Ren:=⟨fun|99=>66|206=>60|n=>n,fun|9=>9|4=>4|3=>3|n=>n,fun|n=>n⟩
theorem Tryz.lays99:Go.Proofs.Lays.n99 Tryz.prog Tryz.lays99_ren:={
 mixed:=by kernel_rfl
 f99:=Tryz.func66.trans (congrArg some (by kernel_rfl))
 f206:=Tryz.func60.trans (congrArg some (by kernel_rfl))
 t3:=Tryz.underlying3
 a3:=Tryz.isAgg3
 z3:=Tryz.sizeOf3
 v3:=Tryz.zeroValue3
 t4:=Tryz.underlying4
 a4:=Tryz.isAgg4
 z4:=Tryz.sizeOf4
 v4:=Tryz.zeroValue4
 t9:=Tryz.underlying9
 a9:=Tryz.isAgg9
 z9:=Tryz.sizeOf9
 v9:=Tryz.zeroValue9 }
open Go.RowKit Go.Lib in
theorem Tryz.strings_HasPrefix (s p:ByteArray) (w:World) :
  Calls Tryz.prog 66 #[.string s,.string p] w fun e w'=>e=.returned (.bool (Lib.hasPrefix s.data.toList p.data.toList))∧w'=w:=Any.strings_HasPrefix Tryz.lays99 s p w
def Tryz.lays125_ren:Go.Shelf.Ren:=⟨fun|125=>197|128=>224|129=>208|n=>n,fun|46=>163|3=>3|51=>184|53=>40|4=>4|5=>5|9=>9|n=>n,fun|n=>n⟩
theorem Tryz.lays125:Go.Proofs.Lays.n125 Tryz.prog Tryz.lays125_ren:={
 mixed:=by kernel_rfl
 f125:=Tryz.func197.trans (congrArg some (by kernel_rfl))
 f128:=Tryz.func224.trans (congrArg some (by kernel_rfl))
 f129:=Tryz.func208.trans (congrArg some (by kernel_rfl))
 t3:=Tryz.underlying3
 a3:=Tryz.isAgg3
 z3:=Tryz.sizeOf3
 v3:=Tryz.zeroValue3
 t4:=Tryz.underlying4
 a4:=Tryz.isAgg4
 z4:=Tryz.sizeOf4
 v4:=Tryz.zeroValue4
 t5:=Tryz.underlying5
 a5:=Tryz.isAgg5
 z5:=Tryz.sizeOf5
 v5:=Tryz.zeroValue5
 t9:=Tryz.underlying9
 a9:=Tryz.isAgg9
 z9:=Tryz.sizeOf9
 v9:=Tryz.zeroValue9
 t46:=Tryz.underlying163
 a46:=Tryz.isAgg163
 z46:=Tryz.sizeOf163
 v46:=Tryz.zeroValue163
 t51:=Tryz.underlying184
 a51:=Tryz.isAgg184
 z51:=Tryz.sizeOf184
 v51:=Tryz.zeroValue184
 t53:=Tryz.underlying40
 a53:=Tryz.isAgg40
 z53:=Tryz.sizeOf40
 v53:=Tryz.zeroValue40 }
theorem Tryz.bits_Len (x:Int) (w:World) (h0:0≤x) (h1:x≤18446744073709551615) :
  Calls Tryz.prog 197 #[.int .u64 x] w fun e w'=>e=.returned (.int .i64 (Lib.bitLen x.toNat))∧w'=w:=Any.bits_Len Tryz.lays125 x w h0 h1
def Tryz.lays119_ren:Go.Shelf.Ren:=⟨fun|119=>214|n=>n,fun|21=>21|4=>4|n=>n,fun|n=>n⟩
theorem Tryz.lays119:Go.Proofs.Lays.n119 Tryz.prog Tryz.lays119_ren:={
 mixed:=by kernel_rfl
 f119:=Tryz.func214.trans (congrArg some (by kernel_rfl))
 t4:=Tryz.underlying4
 a4:=Tryz.isAgg4
 z4:=Tryz.sizeOf4
 v4:=Tryz.zeroValue4
 t21:=Tryz.underlying21
 a21:=Tryz.isAgg21
 z21:=Tryz.sizeOf21
 v21:=Tryz.zeroValue21 }
theorem Tryz.utf8_ValidRune (r:Int) (w:World) :
  Calls Tryz.prog 214 #[.int .i32 r] w fun e w'=>e=.returned (.bool (Lib.validRune r))∧w'=w:=Any.utf8_ValidRune Tryz.lays119 r w
def Tryz.lays152_ren:Go.Shelf.Ren:=⟨fun|152=>189|137=>159|119=>214|224=>147|225=>146|217=>145|266=>181|n=>n,fun|9=>9|21=>21|3=>3|4=>4|5=>5|0=>0|46=>163|n=>n,fun|n=>n⟩
theorem Tryz.lays152:Go.Proofs.Lays.n152 Tryz.prog Tryz.lays152_ren:={
 mixed:=by kernel_rfl
 f119:=Tryz.func214.trans (congrArg some (by kernel_rfl))
 f137:=Tryz.func159.trans (congrArg some (by kernel_rfl))
 f152:=Tryz.func189.trans (congrArg some (by kernel_rfl))
 f217:=Tryz.func145.trans (congrArg some (by kernel_rfl))
 f224:=Tryz.func147.trans (congrArg some (by kernel_rfl))
 f225:=Tryz.func146.trans (congrArg some (by kernel_rfl))
 f266:=Tryz.func181.trans (congrArg some (by kernel_rfl))
 t0:=Tryz.underlying0
 a0:=Tryz.isAgg0
 z0:=Tryz.sizeOf0
 v0:=Tryz.zeroValue0
 t3:=Tryz.underlying3
 a3:=Tryz.isAgg3
 z3:=Tryz.sizeOf3
 v3:=Tryz.zeroValue3
 t4:=Tryz.underlying4
 a4:=Tryz.isAgg4
 z4:=Tryz.sizeOf4
 v4:=Tryz.zeroValue4
 t5:=Tryz.underlying5
 a5:=Tryz.isAgg5
 z5:=Tryz.sizeOf5
 v5:=Tryz.zeroValue5
 t9:=Tryz.underlying9
 a9:=Tryz.isAgg9
 z9:=Tryz.sizeOf9
 v9:=Tryz.zeroValue9
 t21:=Tryz.underlying21
 a21:=Tryz.isAgg21
 z21:=Tryz.sizeOf21
 v21:=Tryz.zeroValue21
 t46:=Tryz.underlying163
 a46:=Tryz.isAgg163
 z46:=Tryz.sizeOf163
 v46:=Tryz.zeroValue163 }
open Go.RowKit Go.Lib in
theorem Tryz.strings_IndexRune_ascii (s:ByteArray) (r:Int) (w:World) (h0:0≤r) (h1:r<128) :
  Calls Tryz.prog 189 #[.string s,.int .i32 r] w fun e w'=>e=.returned (.int .i64 (Lib.indexByte s.data.toList r.toNat.toUInt8))∧w'=w:=Any.strings_IndexRune_ascii Tryz.lays152 s r w h0 h1
def Tryz.lays226_ren:Go.Shelf.Ren:=⟨fun|226=>190|n=>n,fun|3=>3|4=>4|n=>n,fun|n=>n⟩
theorem Tryz.lays226:Go.Proofs.Lays.n226 Tryz.prog Tryz.lays226_ren:={
 mixed:=by kernel_rfl
 f226:=Tryz.func190.trans (congrArg some (by kernel_rfl))
 t3:=Tryz.underlying3
 a3:=Tryz.isAgg3
 z3:=Tryz.sizeOf3
 v3:=Tryz.zeroValue3
 t4:=Tryz.underlying4
 a4:=Tryz.isAgg4
 z4:=Tryz.sizeOf4
 v4:=Tryz.zeroValue4 }
open Go.RowKit Go.Lib in
theorem Tryz.strings_shouldUseASCIISet (n:Int) (w:World) :
  Calls Tryz.prog 190 #[.int .i64 n] w fun e w'=>e=.returned (.bool (decide (8<n)))∧w'=w:=Any.strings_shouldUseASCIISet Tryz.lays226 n w
def Tryz.lays153_ren:Go.Shelf.Ren:=⟨fun|153=>158|152=>189|226=>190|227=>191|228=>192|137=>159|119=>214|224=>147|225=>146|217=>145|266=>181|n=>n,fun|9=>9|3=>3|4=>4|5=>5|21=>21|117=>197|116=>196|0=>0|46=>163|124=>216|n=>n,fun|n=>n⟩
theorem Tryz.lays153:Go.Proofs.Lays.n153 Tryz.prog Tryz.lays153_ren:={
 mixed:=by kernel_rfl
 f119:=Tryz.func214.trans (congrArg some (by kernel_rfl))
 f137:=Tryz.func159.trans (congrArg some (by kernel_rfl))
 f152:=Tryz.func189.trans (congrArg some (by kernel_rfl))
 f153:=Tryz.func158.trans (congrArg some (by kernel_rfl))
 f217:=Tryz.func145.trans (congrArg some (by kernel_rfl))
 f224:=Tryz.func147.trans (congrArg some (by kernel_rfl))
 f225:=Tryz.func146.trans (congrArg some (by kernel_rfl))
 f226:=Tryz.func190.trans (congrArg some (by kernel_rfl))
 f227:=Tryz.func191.trans (congrArg some (by kernel_rfl))
 f228:=Tryz.func192.trans (congrArg some (by kernel_rfl))
 f266:=Tryz.func181.trans (congrArg some (by kernel_rfl))
 t0:=Tryz.underlying0
 a0:=Tryz.isAgg0
 z0:=Tryz.sizeOf0
 v0:=Tryz.zeroValue0
 t3:=Tryz.underlying3
 a3:=Tryz.isAgg3
 z3:=Tryz.sizeOf3
 v3:=Tryz.zeroValue3
 t4:=Tryz.underlying4
 a4:=Tryz.isAgg4
 z4:=Tryz.sizeOf4
 v4:=Tryz.zeroValue4
 t5:=Tryz.underlying5
 a5:=Tryz.isAgg5
 z5:=Tryz.sizeOf5
 v5:=Tryz.zeroValue5
 t9:=Tryz.underlying9
 a9:=Tryz.isAgg9
 z9:=Tryz.sizeOf9
 v9:=Tryz.zeroValue9
 t21:=Tryz.underlying21
 a21:=Tryz.isAgg21
 z21:=Tryz.sizeOf21
 v21:=Tryz.zeroValue21
 t46:=Tryz.underlying163
 a46:=Tryz.isAgg163
 z46:=Tryz.sizeOf163
 v46:=Tryz.zeroValue163
 t116:=Tryz.underlying196
 a116:=Tryz.isAgg196
 z116:=Tryz.sizeOf196
 t117:=Tryz.underlying197
 a117:=Tryz.isAgg197
 z117:=Tryz.sizeOf197
 v117:=Tryz.zeroValue197
 t124:=Tryz.underlying216
 a124:=Tryz.isAgg216
 z124:=Tryz.sizeOf216
 v124:=Tryz.zeroValue216 }
open Go.RowKit Go.Lib in
theorem Tryz.strings_IndexAny_long (hv116:∀w,(zeroValue 196).run Tryz.prog w=.ok (.agg (Array.replicate 256 (.bool false))) w) (s chars:ByteArray) (w:World) (h2:2≤chars.size) (h8:8<s.size) (hs:s.size<4294967281) (hcs:chars.size<4294967281) (hascii:∀(j:Nat) b,chars.data.toList[j]? = some b→b.toNat<128) :
  Calls Tryz.prog 158 #[.string s,.string chars] w fun e w'=>e=.returned (.int .i64 (Lib.indexAny s.data.toList chars.data.toList))∧w'=((w.alloc (.cells (Lib.setCells chars.data.toList) 196)).alloc (.cells (Lib.setCells chars.data.toList) 196)):=Any.strings_IndexAny_long Tryz.lays153 hv116 (by kernel_rfl) s chars w h2 h8 hs hcs hascii
def Tryz.lays103_ren:Go.Shelf.Ren:=⟨fun|103=>15|210=>31|206=>60|n=>n,fun|9=>9|4=>4|24=>53|3=>3|n=>n,fun|n=>n⟩
theorem Tryz.lays103:Go.Proofs.Lays.n103 Tryz.prog Tryz.lays103_ren:={
 mixed:=by kernel_rfl
 f103:=Tryz.func15.trans (congrArg some (by kernel_rfl))
 f206:=Tryz.func60.trans (congrArg some (by kernel_rfl))
 f210:=Tryz.func31.trans (congrArg some (by kernel_rfl))
 t3:=Tryz.underlying3
 a3:=Tryz.isAgg3
 z3:=Tryz.sizeOf3
 v3:=Tryz.zeroValue3
 t4:=Tryz.underlying4
 a4:=Tryz.isAgg4
 z4:=Tryz.sizeOf4
 v4:=Tryz.zeroValue4
 t9:=Tryz.underlying9
 a9:=Tryz.isAgg9
 z9:=Tryz.sizeOf9
 v9:=Tryz.zeroValue9
 t24:=Tryz.underlying53
 a24:=Tryz.isAgg53
 z24:=Tryz.sizeOf53
 v24:=Tryz.zeroValue53 }
open Go.RowKit in
theorem Tryz.strings_CutPrefix (s p:ByteArray) (w:World) :
  Calls Tryz.prog 15 #[.string s,.string p] w fun e w'=>e=.returned (.tuple #[.string ⟨(Lib.trimPrefix s.data.toList p.data.toList).toArray⟩,.bool (Lib.hasPrefix s.data.toList p.data.toList)])∧w'=w:=Any.strings_CutPrefix Tryz.lays103 s p w
def Tryz.hasFld_ren:Go.Shelf.Ren:=⟨fun|8=>154|6=>184|n=>n,fun|22=>37|23=>45|25=>159|4=>4|3=>3|0=>0|n=>n,fun|n=>n⟩
theorem Tryz.hasFld:Go.Proofs.SlLaysH0.n8 Tryz.prog Tryz.hasFld_ren:={
 mixed:=by kernel_rfl
 f6:=⟨Tryz.f184.name,by decide,Tryz.func184.trans (congrArg some (by kernel_rfl))⟩
 f8:=⟨Tryz.f154.name,by decide,Tryz.func154.trans (congrArg some (by kernel_rfl))⟩
 t0:=Tryz.underlying0
 a0:=Tryz.isAgg0
 z0:=Tryz.sizeOf0
 v0:=Tryz.zeroValue0
 t3:=Tryz.underlying3
 a3:=Tryz.isAgg3
 z3:=Tryz.sizeOf3
 v3:=Tryz.zeroValue3
 t4:=Tryz.underlying4
 a4:=Tryz.isAgg4
 z4:=Tryz.sizeOf4
 v4:=Tryz.zeroValue4
 t22:=Tryz.underlying37
 a22:=Tryz.isAgg37
 z22:=Tryz.sizeOf37
 v22:=Tryz.zeroValue37
 t25:=Tryz.underlying159
 a25:=Tryz.isAgg159
 z25:=Tryz.sizeOf159
 v25:=Tryz.zeroValue159 }
def Tryz.insFld_ren:Go.Shelf.Ren:=⟨fun|20=>231|n=>n,fun|24=>45|22=>37|3=>3|25=>191|4=>4|0=>0|n=>n,fun|n=>n⟩
theorem Tryz.insFld:Go.Proofs.SlLaysF0.n20 Tryz.prog Tryz.insFld_ren:={
 mixed:=by kernel_rfl
 f20:=⟨Tryz.f231.name,by decide,Tryz.func231.trans (congrArg some (by kernel_rfl))⟩
 t0:=Tryz.underlying0
 a0:=Tryz.isAgg0
 z0:=Tryz.sizeOf0
 v0:=Tryz.zeroValue0
 t3:=Tryz.underlying3
 a3:=Tryz.isAgg3
 z3:=Tryz.sizeOf3
 v3:=Tryz.zeroValue3
 t4:=Tryz.underlying4
 a4:=Tryz.isAgg4
 z4:=Tryz.sizeOf4
 v4:=Tryz.zeroValue4
 t22:=Tryz.underlying37
 a22:=Tryz.isAgg37
 z22:=Tryz.sizeOf37
 v22:=Tryz.zeroValue37
 t25:=Tryz.underlying191
 a25:=Tryz.isAgg191
 z25:=Tryz.sizeOf191
 v25:=Tryz.zeroValue191 }
def Tryz.hasTrm_ren:Go.Shelf.Ren:=⟨fun|8=>193|6=>215|n=>n,fun|22=>39|23=>49|25=>170|4=>4|3=>3|0=>0|n=>n,fun|n=>n⟩
theorem Tryz.hasTrm:Go.Proofs.SlLaysH0.n8 Tryz.prog Tryz.hasTrm_ren:={
 mixed:=by kernel_rfl
 f6:=⟨Tryz.f215.name,by decide,Tryz.func215.trans (congrArg some (by kernel_rfl))⟩
 f8:=⟨Tryz.f193.name,by decide,Tryz.func193.trans (congrArg some (by kernel_rfl))⟩
 t0:=Tryz.underlying0
 a0:=Tryz.isAgg0
 z0:=Tryz.sizeOf0
 v0:=Tryz.zeroValue0
 t3:=Tryz.underlying3
 a3:=Tryz.isAgg3
 z3:=Tryz.sizeOf3
 v3:=Tryz.zeroValue3
 t4:=Tryz.underlying4
 a4:=Tryz.isAgg4
 z4:=Tryz.sizeOf4
 v4:=Tryz.zeroValue4
 t22:=Tryz.underlying39
 a22:=Tryz.isAgg39
 z22:=Tryz.sizeOf39
 v22:=Tryz.zeroValue39
 t25:=Tryz.underlying170
 a25:=Tryz.isAgg170
 z25:=Tryz.sizeOf170
 v25:=Tryz.zeroValue170 }
def Tryz.sortTrm_ren:Go.Shelf.Ren:=⟨fun|6=>163|15=>197|14=>196|28=>224|29=>208|20=>216|21=>217|22=>218|23=>219|24=>220|25=>221|26=>222|27=>223|46=>233|47=>234|48=>235|49=>236|50=>237|57=>240|n=>n,fun|22=>39|24=>49|25=>173|3=>3|39=>163|0=>0|53=>184|55=>40|4=>4|46=>220|45=>219|50=>111|5=>5|9=>9|66=>232|70=>236|76=>243|77=>244|n=>n,fun|n=>n⟩
theorem Tryz.sortTrm:Go.Proofs.SlLaysF0.n6 Tryz.prog Tryz.sortTrm_ren:={
 mixed:=by kernel_rfl
 f6:=⟨Tryz.f163.name,by decide,Tryz.func163.trans (congrArg some (by kernel_rfl))⟩
 f14:=⟨Tryz.f196.name,by decide,Tryz.func196.trans (congrArg some (by kernel_rfl))⟩
 f15:=Tryz.func197.trans (congrArg some (by kernel_rfl))
 f20:=⟨Tryz.f216.name,by decide,Tryz.func216.trans (congrArg some (by kernel_rfl))⟩
 f21:=⟨Tryz.f217.name,by decide,Tryz.func217.trans (congrArg some (by kernel_rfl))⟩
 f22:=⟨Tryz.f218.name,by decide,Tryz.func218.trans (congrArg some (by kernel_rfl))⟩
 f23:=⟨Tryz.f219.name,by decide,Tryz.func219.trans (congrArg some (by kernel_rfl))⟩
 f24:=⟨Tryz.f220.name,by decide,Tryz.func220.trans (congrArg some (by kernel_rfl))⟩
 f25:=⟨Tryz.f221.name,by decide,Tryz.func221.trans (congrArg some (by kernel_rfl))⟩
 f26:=⟨Tryz.f222.name,by decide,Tryz.func222.trans (congrArg some (by kernel_rfl))⟩
 f27:=⟨Tryz.f223.name,by decide,Tryz.func223.trans (congrArg some (by kernel_rfl))⟩
 f28:=Tryz.func224.trans (congrArg some (by kernel_rfl))
 f29:=Tryz.func208.trans (congrArg some (by kernel_rfl))
 f46:=⟨Tryz.f233.name,by decide,Tryz.func233.trans (congrArg some (by kernel_rfl))⟩
 f47:=Tryz.func234.trans (congrArg some (by kernel_rfl))
 f48:=Tryz.func235.trans (congrArg some (by kernel_rfl))
 f49:=⟨Tryz.f236.name,by decide,Tryz.func236.trans (congrArg some (by kernel_rfl))⟩
 f50:=⟨Tryz.f237.name,by decide,Tryz.func237.trans (congrArg some (by kernel_rfl))⟩
 f57:=⟨Tryz.f240.name,by decide,Tryz.func240.trans (congrArg some (by kernel_rfl))⟩
 t0:=Tryz.underlying0
 a0:=Tryz.isAgg0
 z0:=Tryz.sizeOf0
 v0:=Tryz.zeroValue0
 t3:=Tryz.underlying3
 a3:=Tryz.isAgg3
 z3:=Tryz.sizeOf3
 v3:=Tryz.zeroValue3
 t4:=Tryz.underlying4
 a4:=Tryz.isAgg4
 z4:=Tryz.sizeOf4
 v4:=Tryz.zeroValue4
 t5:=Tryz.underlying5
 a5:=Tryz.isAgg5
 z5:=Tryz.sizeOf5
 v5:=Tryz.zeroValue5
 t9:=Tryz.underlying9
 a9:=Tryz.isAgg9
 z9:=Tryz.sizeOf9
 v9:=Tryz.zeroValue9
 t22:=Tryz.underlying39
 a22:=Tryz.isAgg39
 z22:=Tryz.sizeOf39
 v22:=Tryz.zeroValue39
 t25:=Tryz.underlying173
 a25:=Tryz.isAgg173
 z25:=Tryz.sizeOf173
 v25:=Tryz.zeroValue173
 t39:=Tryz.underlying163
 a39:=Tryz.isAgg163
 z39:=Tryz.sizeOf163
 v39:=Tryz.zeroValue163
 t45:=Tryz.underlying219
 a45:=Tryz.isAgg219
 z45:=Tryz.sizeOf219
 v45:=Tryz.zeroValue219
 t46:=Tryz.underlying220
 a46:=Tryz.isAgg220
 z46:=Tryz.sizeOf220
 v46:=Tryz.zeroValue220
 t50:=Tryz.underlying111
 a50:=Tryz.isAgg111
 z50:=Tryz.sizeOf111
 v50:=Tryz.zeroValue111
 t53:=Tryz.underlying184
 a53:=Tryz.isAgg184
 z53:=Tryz.sizeOf184
 v53:=Tryz.zeroValue184
 t55:=Tryz.underlying40
 a55:=Tryz.isAgg40
 z55:=Tryz.sizeOf40
 v55:=Tryz.zeroValue40
 t66:=Tryz.underlying232
 a66:=Tryz.isAgg232
 z66:=Tryz.sizeOf232
 v66:=Tryz.zeroValue232
 t70:=Tryz.underlying236
 a70:=Tryz.isAgg236
 z70:=Tryz.sizeOf236
 v70:=Tryz.zeroValue236
 t76:=Tryz.underlying243
 a76:=Tryz.isAgg243
 z76:=Tryz.sizeOf243
 v76:=Tryz.zeroValue243
 t77:=Tryz.underlying244
 a77:=Tryz.isAgg244
 z77:=Tryz.sizeOf244
 v77:=Tryz.zeroValue244 }
def Tryz.hasEdt_ren:Go.Shelf.Ren:=⟨fun|8=>140|6=>179|n=>n,fun|22=>38|23=>47|25=>161|4=>4|3=>3|0=>0|n=>n,fun|n=>n⟩
theorem Tryz.hasEdt:Go.Proofs.SlLaysH0.n8 Tryz.prog Tryz.hasEdt_ren:={
 mixed:=by kernel_rfl
 f6:=⟨Tryz.f179.name,by decide,Tryz.func179.trans (congrArg some (by kernel_rfl))⟩
 f8:=⟨Tryz.f140.name,by decide,Tryz.func140.trans (congrArg some (by kernel_rfl))⟩
 t0:=Tryz.underlying0
 a0:=Tryz.isAgg0
 z0:=Tryz.sizeOf0
 v0:=Tryz.zeroValue0
 t3:=Tryz.underlying3
 a3:=Tryz.isAgg3
 z3:=Tryz.sizeOf3
 v3:=Tryz.zeroValue3
 t4:=Tryz.underlying4
 a4:=Tryz.isAgg4
 z4:=Tryz.sizeOf4
 v4:=Tryz.zeroValue4
 t22:=Tryz.underlying38
 a22:=Tryz.isAgg38
 z22:=Tryz.sizeOf38
 v22:=Tryz.zeroValue38
 t25:=Tryz.underlying161
 a25:=Tryz.isAgg161
 z25:=Tryz.sizeOf161
 v25:=Tryz.zeroValue161 }
def Tryz.eqTrm_ren:Go.Shelf.Ren:=⟨fun|8=>103|n=>n,fun|22=>39|24=>49|4=>4|3=>3|0=>0|n=>n,fun|n=>n⟩
theorem Tryz.eqTrm:Go.Proofs.SlLaysQ.n8 Tryz.prog Tryz.eqTrm_ren:={
 mixed:=by kernel_rfl
 f8:=⟨Tryz.f103.name,by decide,Tryz.func103.trans (congrArg some (by kernel_rfl))⟩
 t0:=Tryz.underlying0
 a0:=Tryz.isAgg0
 z0:=Tryz.sizeOf0
 v0:=Tryz.zeroValue0
 t3:=Tryz.underlying3
 a3:=Tryz.isAgg3
 z3:=Tryz.sizeOf3
 v3:=Tryz.zeroValue3
 t4:=Tryz.underlying4
 a4:=Tryz.isAgg4
 z4:=Tryz.sizeOf4
 v4:=Tryz.zeroValue4
 t22:=Tryz.underlying39
 a22:=Tryz.isAgg39
 z22:=Tryz.sizeOf39
 v22:=Tryz.zeroValue39 }
end Go.Proofs
namespace Go.Proofs.YtjeogllmpjihaaaGreatDoor
end Go.Proofs.YtjeogllmpjihaaaGreatDoor
namespace Go.Proofs
open Go.Shelf
open Go.RowKit Go.Lib in
theorem Tryz.strings_Index (s sub:ByteArray) (m:Int) (w:World) (hs:s.size<4294967281) (hm:w.cell? ⟨2,0,none⟩=some (.int .i64 m)) :
  Calls Tryz.prog 63 #[.string s,.string sub] w fun e w'=>e=.returned (.int .i64 (Lib.index s.data.toList sub.data.toList))∧w'=w:=Any.strings_Index Tryz.lays143 s sub m w hs hm
def Tryz.lays146_ren:Go.Shelf.Ren:=⟨fun|146=>33|221=>64|268=>106|138=>107|143=>63|195=>149|197=>62|218=>150|219=>105|260=>104|217=>145|225=>146|224=>147|267=>148|266=>181|314=>182|n=>n,fun|9=>9|31=>43|3=>3|4=>4|0=>0|105=>106|21=>21|5=>5|46=>163|119=>162|139=>166|138=>165|146=>185|51=>184|n=>n,fun|1=>2|3=>0|4=>1|n=>n⟩
theorem Tryz.lays146:Go.Proofs.Lays.n146 Tryz.prog Tryz.lays146_ren:={
 mixed:=by kernel_rfl
 f138:=Tryz.func107.trans (congrArg some (by kernel_rfl))
 f143:=Tryz.func63.trans (congrArg some (by kernel_rfl))
 f146:=Tryz.func33.trans (congrArg some (by kernel_rfl))
 f195:=Tryz.func149.trans (congrArg some (by kernel_rfl))
 f197:=Tryz.func62.trans (congrArg some (by kernel_rfl))
 f217:=Tryz.func145.trans (congrArg some (by kernel_rfl))
 f218:=Tryz.func150.trans (congrArg some (by kernel_rfl))
 f219:=Tryz.func105.trans (congrArg some (by kernel_rfl))
 f221:=Tryz.func64.trans (congrArg some (by kernel_rfl))
 f224:=Tryz.func147.trans (congrArg some (by kernel_rfl))
 f225:=Tryz.func146.trans (congrArg some (by kernel_rfl))
 f260:=Tryz.func104.trans (congrArg some (by kernel_rfl))
 f266:=Tryz.func181.trans (congrArg some (by kernel_rfl))
 f267:=Tryz.func148.trans (congrArg some (by kernel_rfl))
 f268:=Tryz.func106.trans (congrArg some (by kernel_rfl))
 f314:=Tryz.func182.trans (congrArg some (by kernel_rfl))
 t0:=Tryz.underlying0
 a0:=Tryz.isAgg0
 z0:=Tryz.sizeOf0
 v0:=Tryz.zeroValue0
 t3:=Tryz.underlying3
 a3:=Tryz.isAgg3
 z3:=Tryz.sizeOf3
 v3:=Tryz.zeroValue3
 t4:=Tryz.underlying4
 a4:=Tryz.isAgg4
 z4:=Tryz.sizeOf4
 v4:=Tryz.zeroValue4
 t5:=Tryz.underlying5
 a5:=Tryz.isAgg5
 z5:=Tryz.sizeOf5
 v5:=Tryz.zeroValue5
 t9:=Tryz.underlying9
 a9:=Tryz.isAgg9
 z9:=Tryz.sizeOf9
 v9:=Tryz.zeroValue9
 t21:=Tryz.underlying21
 a21:=Tryz.isAgg21
 z21:=Tryz.sizeOf21
 v21:=Tryz.zeroValue21
 t31:=Tryz.underlying43
 a31:=Tryz.isAgg43
 z31:=Tryz.sizeOf43
 v31:=Tryz.zeroValue43
 t46:=Tryz.underlying163
 a46:=Tryz.isAgg163
 z46:=Tryz.sizeOf163
 v46:=Tryz.zeroValue163
 t51:=Tryz.underlying184
 a51:=Tryz.isAgg184
 z51:=Tryz.sizeOf184
 v51:=Tryz.zeroValue184
 t105:=Tryz.underlying106
 a105:=Tryz.isAgg106
 z105:=Tryz.sizeOf106
 v105:=Tryz.zeroValue106
 t119:=Tryz.underlying162
 a119:=Tryz.isAgg162
 z119:=Tryz.sizeOf162
 t138:=Tryz.underlying165
 a138:=Tryz.isAgg165
 z138:=Tryz.sizeOf165
 v138:=Tryz.zeroValue165
 t139:=Tryz.underlying166
 a139:=Tryz.isAgg166
 z139:=Tryz.sizeOf166
 v139:=Tryz.zeroValue166
 t146:=Tryz.underlying185
 a146:=Tryz.isAgg185
 z146:=Tryz.sizeOf185
 v146:=Tryz.zeroValue185
 g1:=by kernel_rfl
 g3:=by kernel_rfl
 g4:=by kernel_rfl }
open Go.RowKit Go.Lib in
theorem Tryz.strings_Split (s sep:ByteArray) (m:Int) (w:World) (hs:s.size<4294967281) (hm:w.cell? ⟨2,0,none⟩=some (.int .i64 m)) (h1:1≤sep.size) :
  Calls Tryz.prog 33 #[.string s,.string sep] w fun e w' =>
   e=.returned (.slice (some ⟨w.heap.size,0,none⟩) (Lib.countB s sep+1) (Lib.countB s sep+1))∧w'=w.alloc (.cells ((Lib.splitB sep 0 (Lib.countB s sep) s).map Value.string).toArray 9):=Any.strings_Split Tryz.lays146 (by kernel_rfl) s sep m w hs hm h1
def Tryz.laysM171_ren:Go.Shelf.Ren:=⟨fun|171=>88|243=>129|246=>169|283=>172|284=>173|285=>174|286=>175|129=>208|317=>207|318=>209|319=>210|320=>211|337=>229|338=>230|n=>n,fun|3=>3|9=>9|2=>2|4=>4|171=>177|0=>0|53=>40|37=>89|5=>5|173=>180|212=>211|51=>184|20=>20|213=>212|46=>163|232=>241|233=>242|n=>n,fun|17=>4|18=>7|19=>8|n=>n⟩
theorem Tryz.laysM171:Go.Proofs.LaysM.n171 Tryz.prog Tryz.laysM171_ren:={
 mixed:=by kernel_rfl
 f129:=Tryz.func208.trans (congrArg some (by kernel_rfl))
 f171:=Tryz.func88.trans (congrArg some (by kernel_rfl))
 f243:=Tryz.func129.trans (congrArg some (by kernel_rfl))
 f246:=Tryz.func169.trans (congrArg some (by kernel_rfl))
 f283:=Tryz.func172.trans (congrArg some (by kernel_rfl))
 f284:=Tryz.func173.trans (congrArg some (by kernel_rfl))
 f285:=Tryz.func174.trans (congrArg some (by kernel_rfl))
 f286:=Tryz.func175.trans (congrArg some (by kernel_rfl))
 f317:=Tryz.func207.trans (congrArg some (by kernel_rfl))
 f318:=Tryz.func209.trans (congrArg some (by kernel_rfl))
 f319:=Tryz.func210.trans (congrArg some (by kernel_rfl))
 f320:=Tryz.func211.trans (congrArg some (by kernel_rfl))
 f337:=Tryz.func229.trans (congrArg some (by kernel_rfl))
 f338:=Tryz.func230.trans (congrArg some (by kernel_rfl))
 t0:=Tryz.underlying0
 a0:=Tryz.isAgg0
 z0:=Tryz.sizeOf0
 v0:=Tryz.zeroValue0
 t2:=Tryz.underlying2
 a2:=Tryz.isAgg2
 z2:=Tryz.sizeOf2
 v2:=Tryz.zeroValue2
 t3:=Tryz.underlying3
 a3:=Tryz.isAgg3
 z3:=Tryz.sizeOf3
 v3:=Tryz.zeroValue3
 t4:=Tryz.underlying4
 a4:=Tryz.isAgg4
 z4:=Tryz.sizeOf4
 v4:=Tryz.zeroValue4
 t5:=Tryz.underlying5
 a5:=Tryz.isAgg5
 z5:=Tryz.sizeOf5
 v5:=Tryz.zeroValue5
 t9:=Tryz.underlying9
 a9:=Tryz.isAgg9
 z9:=Tryz.sizeOf9
 v9:=Tryz.zeroValue9
 t20:=Tryz.underlying20
 a20:=Tryz.isAgg20
 z20:=Tryz.sizeOf20
 v20:=Tryz.zeroValue20
 t37:=Tryz.underlying89
 a37:=Tryz.isAgg89
 z37:=Tryz.sizeOf89
 v37:=Tryz.zeroValue89
 t46:=Tryz.underlying163
 a46:=Tryz.isAgg163
 z46:=Tryz.sizeOf163
 v46:=Tryz.zeroValue163
 t51:=Tryz.underlying184
 a51:=Tryz.isAgg184
 z51:=Tryz.sizeOf184
 v51:=Tryz.zeroValue184
 t53:=Tryz.underlying40
 a53:=Tryz.isAgg40
 z53:=Tryz.sizeOf40
 v53:=Tryz.zeroValue40
 t171:=Tryz.underlying177
 a171:=Tryz.isAgg177
 z171:=Tryz.sizeOf177
 v171:=Tryz.zeroValue177
 t173:=Tryz.underlying180
 a173:=Tryz.isAgg180
 z173:=Tryz.sizeOf180
 v173:=Tryz.zeroValue180
 t212:=Tryz.underlying211
 a212:=Tryz.isAgg211
 z212:=Tryz.sizeOf211
 v212:=Tryz.zeroValue211
 t213:=Tryz.underlying212
 a213:=Tryz.isAgg212
 z213:=Tryz.sizeOf212
 t232:=Tryz.underlying241
 a232:=Tryz.isAgg241
 z232:=Tryz.sizeOf241
 v232:=Tryz.zeroValue241
 t233:=Tryz.underlying242
 a233:=Tryz.isAgg242
 z233:=Tryz.sizeOf242
 v233:=Tryz.zeroValue242
 g17:=by kernel_rfl
 g18:=by kernel_rfl
 g19:=by kernel_rfl
 i0:=by kernel_rfl
 i2:=by kernel_rfl
 i3:=by kernel_rfl
 i4:=by kernel_rfl
 i5:=by kernel_rfl
 i9:=by kernel_rfl
 i20:=by kernel_rfl
 i37:=by kernel_rfl
 i46:=by kernel_rfl
 i51:=by kernel_rfl
 i53:=by kernel_rfl
 i171:=by kernel_rfl
 i173:=by kernel_rfl
 i212:=by kernel_rfl
 i232:=by kernel_rfl
 i233:=by kernel_rfl
 m17:=by kernel_rfl
 m18:=by kernel_rfl
 m19:=by kernel_rfl }
open Go.RowKit Go.Sort Go.Lib in
theorem Tryz.strconv_Itoa (n:Int) (h0:-9223372036854775808≤n) (h1:n≤9223372036854775807) (w:World) (htab:Lib.TabIs Tryz.prog w "internal/strconv.uint64pow10" .u64 Lib.pow10Tab) :
  Calls Tryz.prog 88 #[.int .i64 n] w fun e w'=>e=.returned (.string ⟨(Lib.itoa n).toArray⟩)∧∃k os,w'=grow (w.drewN k) os:=Any.strconv_Itoa Tryz.laysM171 n h0 h1 w htab
def Tryz.lays283_ren:Go.Shelf.Ren:=⟨fun|283=>172|n=>n,fun|3=>3|9=>9|4=>4|n=>n,fun|n=>n⟩
theorem Tryz.lays283:Go.Proofs.Lays.n283 Tryz.prog Tryz.lays283_ren:={
 mixed:=by kernel_rfl
 f283:=Tryz.func172.trans (congrArg some (by kernel_rfl))
 t3:=Tryz.underlying3
 a3:=Tryz.isAgg3
 z3:=Tryz.sizeOf3
 v3:=Tryz.zeroValue3
 t4:=Tryz.underlying4
 a4:=Tryz.isAgg4
 z4:=Tryz.sizeOf4
 v4:=Tryz.zeroValue4
 t9:=Tryz.underlying9
 a9:=Tryz.isAgg9
 z9:=Tryz.sizeOf9
 v9:=Tryz.zeroValue9 }
open Go.Lib in
theorem Tryz.internal_strconv_small (i:Nat) (h:i<100) (w:World) :
  Calls Tryz.prog 172 #[.int .i64 i] w fun e w'=>e=.returned (.string ⟨(Lib.decDigits i).toArray⟩)∧w'=w:=Any.internal_strconv_small Tryz.lays283 i h w
def Tryz.laysM284_ren:Go.Shelf.Ren:=⟨fun|284=>173|129=>208|317=>207|318=>209|n=>n,fun|53=>40|3=>3|212=>211|0=>0|4=>4|46=>163|5=>5|9=>9|n=>n,fun|17=>4|n=>n⟩
theorem Tryz.laysM284:Go.Proofs.LaysM.n284 Tryz.prog Tryz.laysM284_ren:={
 mixed:=by kernel_rfl
 f129:=Tryz.func208.trans (congrArg some (by kernel_rfl))
 f284:=Tryz.func173.trans (congrArg some (by kernel_rfl))
 f317:=Tryz.func207.trans (congrArg some (by kernel_rfl))
 f318:=Tryz.func209.trans (congrArg some (by kernel_rfl))
 t0:=Tryz.underlying0
 a0:=Tryz.isAgg0
 z0:=Tryz.sizeOf0
 v0:=Tryz.zeroValue0
 t3:=Tryz.underlying3
 a3:=Tryz.isAgg3
 z3:=Tryz.sizeOf3
 v3:=Tryz.zeroValue3
 t4:=Tryz.underlying4
 a4:=Tryz.isAgg4
 z4:=Tryz.sizeOf4
 v4:=Tryz.zeroValue4
 t5:=Tryz.underlying5
 a5:=Tryz.isAgg5
 z5:=Tryz.sizeOf5
 v5:=Tryz.zeroValue5
 t9:=Tryz.underlying9
 a9:=Tryz.isAgg9
 z9:=Tryz.sizeOf9
 v9:=Tryz.zeroValue9
 t46:=Tryz.underlying163
 a46:=Tryz.isAgg163
 z46:=Tryz.sizeOf163
 v46:=Tryz.zeroValue163
 t53:=Tryz.underlying40
 a53:=Tryz.isAgg40
 z53:=Tryz.sizeOf40
 v53:=Tryz.zeroValue40
 t212:=Tryz.underlying211
 a212:=Tryz.isAgg211
 z212:=Tryz.sizeOf211
 v212:=Tryz.zeroValue211
 g17:=by kernel_rfl
 i0:=by kernel_rfl
 i3:=by kernel_rfl
 i4:=by kernel_rfl
 i5:=by kernel_rfl
 i9:=by kernel_rfl
 i46:=by kernel_rfl
 i53:=by kernel_rfl
 i212:=by kernel_rfl
 m17:=by kernel_rfl }
open Go.Lib in
theorem Tryz.internal_strconv_numDigits (u:Nat) (h1:1≤u) (h2:u<18446744073709551616) (w:World) (htab:Lib.TabIs Tryz.prog w "internal/strconv.uint64pow10" .u64 Lib.pow10Tab) :
  Calls Tryz.prog 173 #[.int .u64 u] w fun e w'=>e=.returned (.int .i64 (Lib.nDigits u))∧w'=w:=Any.internal_strconv_numDigits Tryz.laysM284 u h1 h2 w htab
def Tryz.lays285_ren:Go.Shelf.Ren:=⟨fun|285=>174|n=>n,fun|37=>89|53=>40|3=>3|4=>4|51=>184|9=>9|5=>5|0=>0|n=>n,fun|n=>n⟩
theorem Tryz.lays285:Go.Proofs.Lays.n285 Tryz.prog Tryz.lays285_ren:={
 mixed:=by kernel_rfl
 f285:=Tryz.func174.trans (congrArg some (by kernel_rfl))
 t0:=Tryz.underlying0
 a0:=Tryz.isAgg0
 z0:=Tryz.sizeOf0
 v0:=Tryz.zeroValue0
 t3:=Tryz.underlying3
 a3:=Tryz.isAgg3
 z3:=Tryz.sizeOf3
 v3:=Tryz.zeroValue3
 t4:=Tryz.underlying4
 a4:=Tryz.isAgg4
 z4:=Tryz.sizeOf4
 v4:=Tryz.zeroValue4
 t5:=Tryz.underlying5
 a5:=Tryz.isAgg5
 z5:=Tryz.sizeOf5
 v5:=Tryz.zeroValue5
 t9:=Tryz.underlying9
 a9:=Tryz.isAgg9
 z9:=Tryz.sizeOf9
 v9:=Tryz.zeroValue9
 t37:=Tryz.underlying89
 a37:=Tryz.isAgg89
 z37:=Tryz.sizeOf89
 v37:=Tryz.zeroValue89
 t51:=Tryz.underlying184
 a51:=Tryz.isAgg184
 z51:=Tryz.sizeOf184
 v51:=Tryz.zeroValue184
 t53:=Tryz.underlying40
 a53:=Tryz.isAgg40
 z53:=Tryz.sizeOf40
 v53:=Tryz.zeroValue40 }
open Go.RowKit Go.Sort Go.Lib in
theorem Tryz.internal_strconv_formatBase10 (blk off cap:Nat) (u:Nat) (d:Array UInt8) (w:World) (hH:Holds (fun (b:UInt8)=>Value.int .u8 (b.toNat:Int)) w blk off d) (hu:u<10 ^ d.size) (hu64:u<18446744073709551616) (hsz:d.size<4611686018427387904) :
  Calls Tryz.prog 174 #[.slice (some ⟨blk,off,none⟩) d.size cap,.int .u64 u] w fun e w' =>
   e=.returned (.tuple #[])∧∃(n v':Nat) (dk:Array UInt8),w'=(putRow (fun (b:UInt8)=>Value.int .u8 (b.toNat:Int)) w blk off dk).drewN n∧FmtInv d.size u 0 v' dk:=Any.internal_strconv_formatBase10 Tryz.lays285 blk off cap u d w hH hu hu64 hsz
def Tryz.laysPu14_ren:Go.Shelf.Ren:=⟨fun|14=>119|16=>166|17=>167|19=>201|20=>202|21=>203|22=>204|23=>205|24=>206|25=>227|27=>88|26=>228|28=>129|29=>169|30=>172|31=>173|32=>174|33=>175|35=>208|34=>207|36=>209|37=>210|38=>211|39=>229|40=>230|n=>n,fun|9=>9|3=>3|22=>40|24=>94|25=>147|4=>4|34=>204|5=>5|36=>163|37=>89|0=>0|39=>205|21=>21|44=>228|47=>130|50=>240|48=>238|2=>2|52=>177|55=>180|59=>211|60=>184|20=>20|61=>212|65=>241|66=>242|67=>97|n=>n,fun|0=>5|1=>6|2=>4|3=>7|4=>8|n=>n⟩
theorem Tryz.laysPu14:Go.Proofs.LaysPu.n14 Tryz.prog Tryz.laysPu14_ren:={
 mixed:=by kernel_rfl
 f14:=Tryz.func119.trans (congrArg some (by kernel_rfl))
 f16:=Tryz.func166.trans (congrArg some (by kernel_rfl))
 f17:=Tryz.func167.trans (congrArg some (by kernel_rfl))
 f19:=Tryz.func201.trans (congrArg some (by kernel_rfl))
 f20:=Tryz.func202.trans (congrArg some (by kernel_rfl))
 f21:=Tryz.func203.trans (congrArg some (by kernel_rfl))
 f22:=Tryz.func204.trans (congrArg some (by kernel_rfl))
 f23:=Tryz.func205.trans (congrArg some (by kernel_rfl))
 f24:=Tryz.func206.trans (congrArg some (by kernel_rfl))
 f25:=Tryz.func227.trans (congrArg some (by kernel_rfl))
 f26:=Tryz.func228.trans (congrArg some (by kernel_rfl))
 f27:=Tryz.func88.trans (congrArg some (by kernel_rfl))
 f28:=Tryz.func129.trans (congrArg some (by kernel_rfl))
 f29:=Tryz.func169.trans (congrArg some (by kernel_rfl))
 f30:=Tryz.func172.trans (congrArg some (by kernel_rfl))
 f31:=Tryz.func173.trans (congrArg some (by kernel_rfl))
 f32:=Tryz.func174.trans (congrArg some (by kernel_rfl))
 f33:=Tryz.func175.trans (congrArg some (by kernel_rfl))
 f34:=Tryz.func207.trans (congrArg some (by kernel_rfl))
 f35:=Tryz.func208.trans (congrArg some (by kernel_rfl))
 f36:=Tryz.func209.trans (congrArg some (by kernel_rfl))
 f37:=Tryz.func210.trans (congrArg some (by kernel_rfl))
 f38:=Tryz.func211.trans (congrArg some (by kernel_rfl))
 f39:=Tryz.func229.trans (congrArg some (by kernel_rfl))
 f40:=Tryz.func230.trans (congrArg some (by kernel_rfl))
 t0:=Tryz.underlying0
 a0:=Tryz.isAgg0
 z0:=Tryz.sizeOf0
 v0:=Tryz.zeroValue0
 i0:=by kernel_rfl
 t2:=Tryz.underlying2
 a2:=Tryz.isAgg2
 z2:=Tryz.sizeOf2
 v2:=Tryz.zeroValue2
 i2:=by kernel_rfl
 t3:=Tryz.underlying3
 a3:=Tryz.isAgg3
 z3:=Tryz.sizeOf3
 v3:=Tryz.zeroValue3
 i3:=by kernel_rfl
 t4:=Tryz.underlying4
 a4:=Tryz.isAgg4
 z4:=Tryz.sizeOf4
 v4:=Tryz.zeroValue4
 i4:=by kernel_rfl
 t5:=Tryz.underlying5
 a5:=Tryz.isAgg5
 z5:=Tryz.sizeOf5
 v5:=Tryz.zeroValue5
 i5:=by kernel_rfl
 t9:=Tryz.underlying9
 a9:=Tryz.isAgg9
 z9:=Tryz.sizeOf9
 v9:=Tryz.zeroValue9
 i9:=by kernel_rfl
 t20:=Tryz.underlying20
 a20:=Tryz.isAgg20
 z20:=Tryz.sizeOf20
 v20:=Tryz.zeroValue20
 i20:=by kernel_rfl
 t21:=Tryz.underlying21
 a21:=Tryz.isAgg21
 z21:=Tryz.sizeOf21
 v21:=Tryz.zeroValue21
 i21:=by kernel_rfl
 t22:=Tryz.underlying40
 a22:=Tryz.isAgg40
 z22:=Tryz.sizeOf40
 v22:=Tryz.zeroValue40
 i22:=by kernel_rfl
 t24:=Tryz.underlying94
 a24:=Tryz.isAgg94
 z24:=Tryz.sizeOf94
 v24:=Tryz.zeroValue94
 i24:=by kernel_rfl
 t25:=Tryz.underlying147
 a25:=Tryz.isAgg147
 z25:=Tryz.sizeOf147
 v25:=Tryz.zeroValue147
 i25:=by kernel_rfl
 t34:=Tryz.underlying204
 a34:=Tryz.isAgg204
 z34:=Tryz.sizeOf204
 v34:=Tryz.zeroValue204
 i34:=by kernel_rfl
 c34:=by kernel_rfl
 t36:=Tryz.underlying163
 a36:=Tryz.isAgg163
 z36:=Tryz.sizeOf163
 v36:=Tryz.zeroValue163
 i36:=by kernel_rfl
 t37:=Tryz.underlying89
 a37:=Tryz.isAgg89
 z37:=Tryz.sizeOf89
 v37:=Tryz.zeroValue89
 i37:=by kernel_rfl
 t39:=Tryz.underlying205
 a39:=Tryz.isAgg205
 z39:=Tryz.sizeOf205
 v39:=Tryz.zeroValue205
 i39:=by kernel_rfl
 t44:=Tryz.underlying228
 a44:=Tryz.isAgg228
 z44:=Tryz.sizeOf228
 v44:=Tryz.zeroValue228
 i44:=by kernel_rfl
 t47:=Tryz.underlying130
 a47:=Tryz.isAgg130
 z47:=Tryz.sizeOf130
 v47:=Tryz.zeroValue130
 i47:=by kernel_rfl
 t48:=Tryz.underlying238
 a48:=Tryz.isAgg238
 z48:=Tryz.sizeOf238
 v48:=Tryz.zeroValue238
 i48:=by kernel_rfl
 t50:=Tryz.underlying240
 a50:=Tryz.isAgg240
 z50:=Tryz.sizeOf240
 v50:=Tryz.zeroValue240
 i50:=by kernel_rfl
 t52:=Tryz.underlying177
 a52:=Tryz.isAgg177
 z52:=Tryz.sizeOf177
 v52:=Tryz.zeroValue177
 i52:=by kernel_rfl
 t55:=Tryz.underlying180
 a55:=Tryz.isAgg180
 z55:=Tryz.sizeOf180
 v55:=Tryz.zeroValue180
 i55:=by kernel_rfl
 t59:=Tryz.underlying211
 a59:=Tryz.isAgg211
 z59:=Tryz.sizeOf211
 v59:=Tryz.zeroValue211
 i59:=by kernel_rfl
 t60:=Tryz.underlying184
 a60:=Tryz.isAgg184
 z60:=Tryz.sizeOf184
 v60:=Tryz.zeroValue184
 i60:=by kernel_rfl
 t61:=Tryz.underlying212
 a61:=Tryz.isAgg212
 z61:=Tryz.sizeOf212
 t65:=Tryz.underlying241
 a65:=Tryz.isAgg241
 z65:=Tryz.sizeOf241
 v65:=Tryz.zeroValue241
 i65:=by kernel_rfl
 t66:=Tryz.underlying242
 a66:=Tryz.isAgg242
 z66:=Tryz.sizeOf242
 v66:=Tryz.zeroValue242
 i66:=by kernel_rfl
 t67:=Tryz.underlying97
 a67:=Tryz.isAgg97
 z67:=Tryz.sizeOf97
 v67:=Tryz.zeroValue97
 i67:=by kernel_rfl
 g0:=by kernel_rfl
 m0:=by kernel_rfl
 g1:=by kernel_rfl
 m1:=by kernel_rfl
 g2:=by kernel_rfl
 m2:=by kernel_rfl
 g3:=by kernel_rfl
 m3:=by kernel_rfl
 g4:=by kernel_rfl
 m4:=by kernel_rfl }
open Go.RowKit in
theorem Tryz.strconv_ParseUint_10_at64_ok (s:ByteArray) (hmax:s.size≤9223372036854775806) (u:Nat) (h:Lib.parseUintB 64 s.data.toList=.ok u) (w:World) :
  Calls Tryz.prog 119 #[.string s,.int .i64 10,.int .i64 64] w fun e w'=>e=.returned (.tuple #[.int .u64 u,.nilIface])∧(w'=w∨w'=Lib.bytesWorld w 5 s):=Any.strconv_ParseUint_10_at64_ok Tryz.laysPu14 s hmax u h w
open Go.RowKit in
theorem Tryz.strconv_ParseUint_10_at64_syntax (s:ByteArray) (hlim:s.size≤281474976710656) (h:Lib.parseUintB 64 s.data.toList=.«syntax») (ev:Value) (w:World) (hv:w.cell? ⟨5,0,none⟩=some ev) (hev:ev=.nilIface∨∃te pe,ev=.iface te pe) :
  Calls Tryz.prog 119 #[.string s,.int .i64 10,.int .i64 64] w fun e w'=>∃N,e=.returned (.tuple #[.int .u64 0,.iface 205 (.pointer (some ⟨N,0,none⟩))])∧w.heap.size≤N∧w'.heap[N]? = some (.cells #[.string ⟨#[80,97,114,115,101,85,105,110,116]⟩,.string s,ev] 228 (0,0))∧Below w.heap.size w w':=Any.strconv_ParseUint_10_at64_syntax Tryz.laysPu14 s hlim h ev w hv hev
open Go.RowKit in
theorem Tryz.strconv_ParseUint_10_at64_range (s:ByteArray) (hlim:s.size≤281474976710656) (h:Lib.parseUintB 64 s.data.toList=.range) (ev:Value) (w:World) (hv:w.cell? ⟨6,0,none⟩=some ev) (hev:ev=.nilIface∨∃te pe,ev=.iface te pe) :
  Calls Tryz.prog 119 #[.string s,.int .i64 10,.int .i64 64] w fun e w'=>∃N,e=.returned (.tuple #[.int .u64 18446744073709551615,.iface 205 (.pointer (some ⟨N,0,none⟩))])∧w.heap.size≤N∧w'.heap[N]? = some (.cells #[.string ⟨#[80,97,114,115,101,85,105,110,116]⟩,.string s,ev] 228 (0,0))∧Below w.heap.size w w':=Any.strconv_ParseUint_10_at64_range Tryz.laysPu14 s hlim h ev w hv hev
def Tryz.lays101_ren:Go.Shelf.Ren:=⟨fun|101=>67|208=>108|206=>60|n=>n,fun|9=>9|4=>4|3=>3|n=>n,fun|n=>n⟩
theorem Tryz.lays101:Go.Proofs.Lays.n101 Tryz.prog Tryz.lays101_ren:={
 mixed:=by kernel_rfl
 f101:=Tryz.func67.trans (congrArg some (by kernel_rfl))
 f206:=Tryz.func60.trans (congrArg some (by kernel_rfl))
 f208:=Tryz.func108.trans (congrArg some (by kernel_rfl))
 t3:=Tryz.underlying3
 a3:=Tryz.isAgg3
 z3:=Tryz.sizeOf3
 v3:=Tryz.zeroValue3
 t4:=Tryz.underlying4
 a4:=Tryz.isAgg4
 z4:=Tryz.sizeOf4
 v4:=Tryz.zeroValue4
 t9:=Tryz.underlying9
 a9:=Tryz.isAgg9
 z9:=Tryz.sizeOf9
 v9:=Tryz.zeroValue9 }
open Go.RowKit Go.Lib in
theorem Tryz.strings_TrimPrefix (s p:ByteArray) (w:World) :
  Calls Tryz.prog 67 #[.string s,.string p] w fun e w'=>e=.returned (.string ⟨(Lib.trimPrefix s.data.toList p.data.toList).toArray⟩)∧w'=w:=Any.strings_TrimPrefix Tryz.lays101 s p w
def Tryz.eqEdt_ren:Go.Shelf.Ren:=⟨fun|8=>58|n=>n,fun|22=>38|24=>47|4=>4|3=>3|0=>0|n=>n,fun|n=>n⟩
theorem Tryz.eqEdt:Go.Proofs.SlLaysQ.n8 Tryz.prog Tryz.eqEdt_ren:={
 mixed:=by kernel_rfl
 f8:=⟨Tryz.f58.name,by decide,Tryz.func58.trans (congrArg some (by kernel_rfl))⟩
 t0:=Tryz.underlying0
 a0:=Tryz.isAgg0
 z0:=Tryz.sizeOf0
 v0:=Tryz.zeroValue0
 t3:=Tryz.underlying3
 a3:=Tryz.isAgg3
 z3:=Tryz.sizeOf3
 v3:=Tryz.zeroValue3
 t4:=Tryz.underlying4
 a4:=Tryz.isAgg4
 z4:=Tryz.sizeOf4
 v4:=Tryz.zeroValue4
 t22:=Tryz.underlying38
 a22:=Tryz.isAgg38
 z22:=Tryz.sizeOf38
 v22:=Tryz.zeroValue38 }
end Go.Proofs
namespace Go.Proofs.YtjeogllmpjihaaaGreatDoor
section
open Go.RowKit Go.Lib
def ErrIn (g:Nat) (w:World):Prop:=∃ev,w.cell? ⟨g,0,none⟩=some ev∧(ev=.nilIface∨∃te pe,ev=.iface te pe)
theorem ErrIn.on {g:Nat} {w w':World} (h:ErrIn g w) (hb:Below w.heap.size w w'):ErrIn g w':=by
 obtain ⟨ev,h1,h2⟩:=h
 have hlt:g<w.heap.size:=by
  rcases Nat.lt_or_ge g w.heap.size with h|h
  ·exact h
  ·unfold World.cell? at h1
   simp only [Array.getElem?_eq_none h] at h1
   cases h1
 exact ⟨ev,(hb.cell (p:=⟨g,0,none⟩) hlt).trans h1,h2⟩
theorem tab_on {w w':World} {name:String} {k:IntKind} {zs:List Int} (h:TabIs Tryz.prog w name k zs) (hb:Below w.heap.size w w'):TabIs Tryz.prog w' name k zs:=by
 unfold TabIs World.var? at *
 cases hg:Tryz.prog.globalNamed name with
 | none=>simp [hg] at h
 | some g =>
  simp only [hg,Option.bind_some] at h ⊢
  have hlt:g<w.heap.size:=by
   rcases Nat.lt_or_ge g w.heap.size with h'|h'
   ·exact h'
   ·rw [Array.getElem?_eq_none h'] at h;simp at h
  rw [hb.block g hlt]
  exact h
structure OpVars (w:World):Prop where
 plain:PlainAt w
 max:∃m:Int,w.cell? ⟨2,0,none⟩=some (.int .i64 m)
 pow:TabIs Tryz.prog w "internal/strconv.uint64pow10" .u64 pow10Tab
 syn:ErrIn 5 w
 ran:ErrIn 6 w
theorem OpVars.on {w w':World} (h:OpVars w) (hb:Below w.heap.size w w'):OpVars w':=by
 refine ⟨h.plain.on hb,?_,tab_on h.pow hb,h.syn.on hb,h.ran.on hb⟩
 obtain ⟨m,hm⟩:=h.max
 have hlt:(2:Nat)<w.heap.size:=by
  rcases Nat.lt_or_ge (2:Nat) w.heap.size with h|h
  ·exact h
  ·unfold World.cell? at hm
   simp only [Array.getElem?_eq_none h] at hm
   cases hm
 exact ⟨m,(hb.cell (p:=⟨2,0,none⟩) hlt).trans hm⟩
end
section
def decL (n:Nat):List UInt8:=if n<10 then [UInt8.ofNat (48+n)] else decL (n / 10)++[UInt8.ofNat (48+n % 10)]
 termination_by n
 decreasing_by omega
theorem decL_one {n:Nat} (h:n<10):decL n=[UInt8.ofNat (48+n % 10)]:=by
 unfold decL;rw [if_pos h,Nat.mod_eq_of_lt h]
theorem decL_more {n:Nat} (h:¬ n<10):decL n=decL (n / 10)++[UInt8.ofNat (48+n % 10)]:=by
 conv=>lhs;unfold decL
 rw [if_neg h]
theorem digit_nat {d:Nat} (h:d<10):(UInt8.ofNat (48+d)).toNat=48+d:=by
 rw [UInt8.toNat_ofNat'];exact Nat.mod_eq_of_lt (by omega)
theorem decL_ne (n:Nat):decL n≠[]:=by
 by_cases h:n<10
 ·rw [decL_one h];simp
 ·rw [decL_more h];simp
theorem decL_digit (n:Nat):∀c∈decL n,48≤c.toNat∧c.toNat≤57:=by
 induction n using Nat.strongRecOn with
 | ind n ih =>
  by_cases h:n<10
  ·rw [decL_one h]
   intro c hc
   rw [List.mem_singleton] at hc
   rw [hc,digit_nat (Nat.mod_lt _ (by omega))]
   omega
  ·rw [decL_more h]
   intro c hc
   rcases List.mem_append.1 hc with hc|hc
   ·exact ih (n / 10) (by omega) c hc
   ·rw [List.mem_singleton] at hc
    rw [hc,digit_nat (Nat.mod_lt _ (by omega))]
    omega
theorem decL_head (n:Nat) (h0:0<n):(decL n).head?≠some 48:=by
 induction n using Nat.strongRecOn with
 | ind n ih =>
  by_cases h:n<10
  ·rw [decL_one h]
   intro e
   have e1:UInt8.ofNat (48+n % 10)=48:=by simpa using e
   have e2:=congrArg UInt8.toNat e1
   rw [digit_nat (Nat.mod_lt _ (by omega))] at e2
   have e3:(48:UInt8).toNat=48:=rfl
   omega
  ·rw [decL_more h]
   have hi:=ih (n / 10) (by omega) (by omega)
   cases hd:decL (n / 10) with
   | nil=>exact absurd hd (decL_ne _)
   | cons x r=>rw [hd] at hi;simpa using hi
theorem decL_len (n k:Nat) (h:n<10 ^ (k+1)):(decL n).length≤k+1:=by
 induction k generalizing n with
 | zero=>rw [decL_one (by simpa using h)];simp
 | succ k ih =>
  by_cases h1:n<10
  ·rw [decL_one h1];simp
  ·rw [decL_more h1,List.length_append]
   have:=ih (n / 10) (by rw [Nat.pow_succ] at h;omega)
   simp only [List.length_cons,List.length_nil]
   omega
def numC (most:Nat) (n:Nat) (c:UInt8):Option Nat :=
 if c.toNat<48∨57<c.toNat then none
 else if most<c.toNat-48∨(most-(c.toNat-48)) / 10<n then none
 else some (n * 10+(c.toNat-48))
def numA (most:Nat):Nat→List UInt8→Option Nat
 | n,[]=>some n
 | n,c::l=>(numC most n c).bind fun m=>numA most m l
def numL (most:Nat) (l:List UInt8):Option Nat :=
 if l=[] then none else if 1<l.length∧l.head? = some 48 then none else numA most 0 l
theorem numA_append (most:Nat) (a b:List UInt8) (n:Nat):numA most n (a++b)=(numA most n a).bind fun m=>numA most m b:=by
 induction a generalizing n with
 | nil=>rfl
 | cons c a ih =>
  simp only [List.cons_append,numA]
  cases numC most n c with
  | none=>rfl
  | some m=>simp only [Option.bind_some];exact ih m
theorem numA_dec (most n:Nat) (h:n≤most):numA most 0 (decL n)=some n:=by
 induction n using Nat.strongRecOn with
 | ind n ih =>
  have hd:=digit_nat (Nat.mod_lt n (by omega:0<10))
  by_cases h1:n<10
  ·rw [decL_one h1]
   simp only [numA,numC,hd]
   rw [if_neg (by omega),if_neg (by omega)]
   simp only [Option.bind_some]
   congr 1;omega
  ·rw [decL_more h1,numA_append,ih (n / 10) (by omega) (by omega)]
   simp only [Option.bind_some,numA,numC,hd]
   rw [if_neg (by omega),if_neg (by omega)]
   simp only [Option.bind_some]
   congr 1;omega
theorem num_dec {most n:Nat} (h:n≤most):numL most (decL n)=some n:=by
 unfold numL
 rw [if_neg (decL_ne n),if_neg,numA_dec most n h]
 rintro ⟨h1,h2⟩
 by_cases h0:0<n
 ·exact decL_head n h0 h2
 ·rw [decL_one (by omega)] at h1;simp at h1
theorem numA_le {most n:Nat}:∀{l:List UInt8} {m:Nat},n≤most→numA most n l=some m→m≤most:=by
 intro l
 induction l generalizing n with
 | nil=>intro m h e;simp only [numA,Option.some.injEq] at e;omega
 | cons c l ih =>
  intro m h e
  simp only [numA] at e
  cases hc:numC most n c with
  | none=>rw [hc] at e;cases e
  | some k =>
   rw [hc] at e
   refine ih ?_ e
   unfold numC at hc
   split at hc
   ·cases hc
   ·split at hc
    ·cases hc
    ·simp only [Option.some.injEq] at hc;omega
theorem numL_le {most:Nat} {l:List UInt8} {m:Nat} (e:numL most l=some m):m≤most:=by
 unfold numL at e
 split at e
 ·cases e
 ·split at e
  ·cases e
  ·exact numA_le (Nat.zero_le _) e
theorem decL_noblank (n:Nat):(32:UInt8) ∉ decL n:=fun h=>by
 have:=(decL_digit n 32 h).1
 revert this;decide
end
section
open Go.Lib
theorem dec_lib (n:Nat):decDigits n=decL n:=by
 induction n using Nat.strongRecOn with
 | ind n ih =>
  by_cases h:n<10
  ·rw [decL,if_pos h,decDigits,dif_pos h]
  ·rw [decL,if_neg h,decDigits,dif_neg h,ih (n / 10) (by omega)]
theorem parseM_append (M:Nat) (b:List UInt8):∀(a:List UInt8) (acc m:Nat),parseUintM M acc a=.ok m→parseUintM M acc (a++b)=parseUintM M m b:=by
 intro a
 induction a with
 | nil=>intro acc m h;simp only [parseUintM,NumEnd.ok.injEq] at h;subst h;rfl
 | cons c a ih =>
  intro acc m h
  rw [parseUintM] at h
  rw [List.cons_append,parseUintM]
  split at h
  ·rename_i h1
   rw [if_pos h1]
   split at h
   ·cases h
   ·rename_i h2
    rw [if_neg h2]
    split at h
    ·cases h
    ·rename_i h3
     rw [if_neg h3]
     exact ih _ _ h
  ·cases h
theorem parseM_dec (n:Nat) (h:n≤18446744073709551615):parseUintM 18446744073709551615 0 (decL n)=.ok n:=by
 induction n using Nat.strongRecOn with
 | ind n ih =>
  have hd:=digit_nat (Nat.mod_lt n (by omega:0<10))
  by_cases h1:n<10
  ·rw [decL_one h1]
   simp only [parseUintM,hd]
   rw [if_pos (by omega),if_neg (by omega),if_neg (by omega)]
   congr 1;omega
  ·rw [decL_more h1,parseM_append _ _ _ _ _ (ih (n / 10) (by omega) (by omega))]
   simp only [parseUintM,hd]
   rw [if_pos (by omega),if_neg (by omega),if_neg (by omega)]
   congr 1;omega
theorem parseB_dec (n:Nat) (h:n≤18446744073709551615):parseUintB 64 (decL n)=.ok n:=by
 unfold parseUintB
 rw [if_neg (decL_ne n)]
 exact parseM_dec n h
theorem numC_is {most n m:Nat} {c:UInt8} (h:numC most n c=some m):48≤c.toNat∧c.toNat≤57∧m=n * 10+(c.toNat-48):=by
 unfold numC at h
 split at h
 ·cases h
 ·split at h
  ·cases h
  ·simp only [Option.some.injEq] at h;omega
theorem byte_digit {c:UInt8} (h1:48≤c.toNat):UInt8.ofNat (48+(c.toNat-48))=c:=by
 rw [Nat.add_sub_cancel' h1];simp
theorem decL_zero:decL 0=[48]:=by rw [decL_one (by omega)];rfl
theorem numA_back (most:Nat):∀(k:Nat) (l:List UInt8),l.length=k+1→¬ (1<l.length∧l.head? = some 48)→∀n,numA most 0 l=some n→decL n=l:=by
 intro k
 induction k with
 | zero =>
  intro l hl h n hn
  match l,hl with
  | [c],_ =>
   simp only [numA] at hn
   cases hc:numC most 0 c with
   | none=>rw [hc] at hn;cases hn
   | some m =>
    rw [hc] at hn
    simp only [Option.bind_some,Option.some.injEq] at hn
    obtain ⟨h1,h2,h3⟩:=numC_is hc
    subst hn
    rw [decL,if_pos (by omega)]
    have:m=c.toNat-48:=by omega
    rw [this,byte_digit h1]
 | succ k ih =>
  intro l hl h n hn
  have hne:l≠[]:=by intro e;rw [e] at hl;simp at hl
  obtain ⟨a,c,rfl⟩:∃a c,l=a++[c]:=⟨l.dropLast,l.getLast hne,(List.dropLast_concat_getLast hne).symm⟩
  have hla:a.length=k+1:=by simpa using hl
  have hda:a.head?≠some 48:=fun e=>h ⟨by simp;omega,by
   cases a with
   | nil=>simp at hla
   | cons x a=>simpa using e⟩
  rw [numA_append] at hn
  cases ha:numA most 0 a with
  | none=>rw [ha] at hn;cases hn
  | some m =>
   rw [ha] at hn
   have e1:=ih a hla (fun e=>hda e.2) m ha
   simp only [Option.bind_some,numA] at hn
   cases hc:numC most m c with
   | none=>rw [hc] at hn;cases hn
   | some q =>
    rw [hc] at hn
    simp only [Option.bind_some,Option.some.injEq] at hn
    subst hn
    obtain ⟨h1,h2,h3⟩:=numC_is hc
    have hm:0<m:=by
     apply Nat.pos_of_ne_zero
     intro e0
     rw [e0,decL_zero] at e1
     exact hda (by rw [←e1];rfl)
    rw [decL_more (by omega)]
    have eq1:q / 10=m:=by omega
    have eq2:q % 10=c.toNat-48:=by omega
    rw [eq1,eq2,e1,byte_digit h1]
theorem num_back {most n:Nat} {l:List UInt8} (h:numL most l=some n):decL n=l:=by
 unfold numL at h
 split at h
 ·cases h
 ·rename_i h0
  split at h
  ·cases h
  ·rename_i h1
   cases l with
   | nil=>exact absurd rfl h0
   | cons c l=>exact numA_back most l.length _ (by simp) h1 n h
def wholeL (l:List UInt8):Option Nat:=match parseUintB 64 l with
 | .ok u=>if decDigits u=l then some u else none
 | _=>none
theorem parseM_le (M:Nat):∀(l:List UInt8) (acc u:Nat),acc≤M→parseUintM M acc l=.ok u→u≤M:=by
 intro l
 induction l with
 | nil=>intro acc u h e;simp only [parseUintM,NumEnd.ok.injEq] at e;omega
 | cons c l ih =>
  intro acc u h e
  rw [parseUintM] at e
  split at e
  ·split at e
   ·cases e
   ·split at e
    ·cases e
    ·exact ih _ _ (by omega) e
  ·cases e
theorem parseB_le {l:List UInt8} {u:Nat} (h:parseUintB 64 l=.ok u):u≤18446744073709551615:=by
 unfold parseUintB at h
 split at h
 ·cases h
 ·exact parseM_le _ _ _ _ (by omega) h
theorem whole_num (l:List UInt8):wholeL l=numL 18446744073709551615 l:=by
 unfold wholeL
 cases hp:parseUintB 64 l with
 | ok u =>
  simp only
  have hu:=parseB_le hp
  by_cases hd:decDigits u=l
  ·rw [if_pos hd]
   rw [dec_lib] at hd
   rw [←hd,num_dec hu]
  ·rw [if_neg hd]
   cases hn:numL 18446744073709551615 l with
   | none=>rfl
   | some n =>
    exfalso
    have e:=num_back hn
    have e2:=parseB_dec n (numL_le hn)
    rw [e,hp] at e2
    simp only [NumEnd.ok.injEq] at e2
    exact hd (by rw [dec_lib,e2,e])
 | _ =>
  simp only
  cases hn:numL 18446744073709551615 l with
  | none=>rfl
  | some n =>
   exfalso
   have e2:=parseB_dec n (numL_le hn)
   rw [num_back hn,hp] at e2
   cases e2
theorem num_most {most:Nat} (hm:most≤18446744073709551615) (l:List UInt8) :
  numL most l=(numL 18446744073709551615 l).bind fun n=>if n≤most then some n else none:=by
 cases hn:numL most l with
 | none =>
  cases hb:numL 18446744073709551615 l with
  | none=>rfl
  | some n =>
   simp only [Option.bind_some]
   by_cases h:n≤most
   ·exfalso
    have:=num_dec h
    rw [num_back hb,hn] at this
    cases this
   ·rw [if_neg h]
 | some n =>
  have h:=numL_le hn
  have:=num_dec (most:=18446744073709551615) (n:=n) (by omega)
  rw [num_back hn] at this
  rw [this,Option.bind_some,if_pos h]
end
section
open Go.RowKit Go.Lib Go.Sort
theorem holds_zero0 (w:World) (T:TypeId) (nd:Nat) (hs:nd≤24):Holds (fun (b:UInt8)=>Value.int .u8 (b.toNat:Int)) (w.alloc (.cells zeros24 T)) w.heap.size 0 (Array.replicate nd (0:UInt8)):=fun j hj=>by
 have hj':j<nd:=by simpa using hj
 refine ⟨?_,World.frozen?_alloc_new _ _ _ _⟩
 rw [World.cell?_alloc_new,zeros24_at _ (by omega),getElem!_pos _ j hj]
 simp
set_option maxHeartbeats 6400000 in
set_option maxRecDepth 100000 in
theorem fmtu_in (u:Nat) (h1:u≤18446744073709551615) (w:World) (htab:TabIs Tryz.prog w "internal/strconv.uint64pow10" .u64 pow10Tab) :
  Calls Tryz.prog 133 #[.int .u64 u,.int .i64 10] w fun e w'=>e=.returned (.string ⟨(decDigits u).toArray⟩)∧Below w.heap.size w w':=by
 by_cases hs:u<100
 ·have hc:IntKind.i64.wrap (u:Int)=(u:Int):=by rw [IntKind.wrap_i64];omega
  have hlt:(u:Int)<100:=by omega
  go_enter Tryz.func133,Tryz.ntmps133
  go_wp2_with (go_at_call 172;refine (Tryz.internal_strconv_small u hs _).mono ?_;rintro e w' ⟨rfl,rfl⟩)
  go_ret
  exact ⟨rfl,Below.refl _ _⟩
 ·have hlt:¬ (u:Int)<100:=by omega
  have hu1:1≤u:=by omega
  have hu64:u<18446744073709551616:=by omega
  have hnd20:nDigits u≤20:=by have:=numDigits_eq u hu1 hu64;split at this<;>omega
  have hb3:nDigits u≤24:=by omega
  have hal:Tryz.prog.arrayLen 177=24:=by kernel_rfl
  have hsl1:∀W,(Instr.sliceAt 177 (.pointer (some ⟨w.heap.size,0,none⟩)) none (some (.int .i64 (nDigits u:Int))) none).run Tryz.prog W=.ok (.slice (some ⟨w.heap.size,0,none⟩) (nDigits u) 24) W:=fun W=>by
   rw [run_sliceAt_array_h W 177 ⟨w.heap.size,0,none⟩ (by kernel_rfl) .i64 (nDigits u:Int) (by omega) (by rw [hal];omega)]
   go_simp
  have hH0:=holds_zero0 w 177 (nDigits u) (by omega)
  have hfmt:=Tryz.internal_strconv_formatBase10 w.heap.size 0 24 u (Array.replicate (nDigits u) 0) (w.alloc (.cells zeros24 177)) hH0 (by rw [Array.size_replicate];exact lt_pow_nDigits u) hu64 (by rw [Array.size_replicate];omega)
  rw [Array.size_replicate] at hfmt
  have HH0:=hid hH0
  clear hH0 hal
  go_enter Tryz.func133,Tryz.ntmps133
  go_wp2_with (go_at_call 173;refine (Tryz.internal_strconv_numDigits u hu1 hu64 _ (tabIs_alloc htab _)).mono ?_;rintro e w' ⟨rfl,rfl⟩)
  go_at_call 174
  refine hfmt.mono ?_
  rintro e w' ⟨rfl,k,v',dk,rfl,hF⟩
  have hcv:(convert 89 9 (.slice (some ⟨w.heap.size,0,none⟩) (nDigits u) 24)).run Tryz.prog ((putRow (fun (b:UInt8)=>Value.int .u8 (b.toNat:Int)) (w.alloc (.cells zeros24 177)) w.heap.size 0 dk).drewN k)=.ok (.string ⟨(decDigits u).toArray⟩) ((putRow (fun (b:UInt8)=>Value.int .u8 (b.toNat:Int)) (w.alloc (.cells zeros24 177)) w.heap.size 0 dk).drewN k):=by
   have h:=run_convert_bytes_back (P:=Tryz.prog) ((putRow (fun (b:UInt8)=>Value.int .u8 (b.toNat:Int)) (w.alloc (.cells zeros24 177)) w.heap.size 0 dk).drewN k) 89 9 5 ⟨w.heap.size,0,none⟩ 24 (decDigits u) Tryz.underlying89 Tryz.underlying5 Tryz.underlying9 (fun j hj=>by
    rw [row_is_numeral hF j hj,add_plain,World.cell?_drewN]
    exact cell?_putRow (fun (b:UInt8)=>Value.int .u8 (b.toNat:Int)) _ w.heap.size 0 _ dk HH0.out (by rw [hF.size,Array.size_replicate]) j (by rw [hF.size];rw [decDigits_length] at hj;exact hj))
   rw [decDigits_length] at h
   exact h
  go_wp2
  go_ret
  refine ⟨rfl,?_⟩
  obtain ⟨os,eo⟩:∃os,(putRow (fun (b:UInt8)=>Value.int .u8 (b.toNat:Int)) (w.alloc (.cells zeros24 177)) w.heap.size 0 dk).drewN k=grow (w.drewN k) os:=by
   rw [alloc_eq_grow]
   obtain ⟨os',_,e⟩:=putRow_grow_new (fun (b:UInt8)=>Value.int .u8 (b.toNat:Int)) w #[.cells zeros24 177] w.heap.size 0 dk (Nat.le_refl _)
   exact ⟨os',by rw [e];rfl⟩
  rw [eo]
  exact ((Grown.refl w).on (q:=k) (os:=os)).below
theorem fmtu_any (u:Nat) (h1:u≤18446744073709551615) (w:World) (hv:OpVars w) :
  Calls Tryz.prog 92 #[.int .u64 u,.int .i64 10] w fun e w'=>e=.returned (.string ⟨(decL u).toArray⟩)∧Below w.heap.size w w':=by
 go_enter Tryz.func92,Tryz.ntmps92
 go_wp2_with (go_at_call 133;refine (fmtu_in u h1 _ hv.pow).mono ?_;rintro e w1 ⟨rfl,hb⟩)
 go_ret
 exact ⟨by rw [dec_lib];rfl,hb⟩
theorem itoa_any (n:Nat) (h1:n≤999999999) (w:World) (hv:OpVars w) :
  Calls Tryz.prog 88 #[.int .i64 n] w fun e w'=>e=.returned (.string ⟨(decL n).toArray⟩)∧Below w.heap.size w w' :=
 (Tryz.strconv_Itoa n (by omega) (by omega) w hv.pow).mono (by
  rintro e w' ⟨rfl,k,os,rfl⟩
  refine ⟨by rw [itoa_nonneg,dec_lib],((Grown.refl w).on (q:=k) (os:=os)).below⟩)
def numO (o:Option Nat):Int:=(o.getD 0:Nat)
theorem parseu_any (s:ByteArray) (w:World) (hs:s.size≤4294967000) (hv:OpVars w) :
  Calls Tryz.prog 119 #[.string s,.int .i64 10,.int .i64 64] w fun e w' =>
   (∃(n:Int) (ev:Value),e=.returned (.tuple #[.int .u64 n,ev])∧((∃u:Nat,parseUintB 64 s.data.toList=.ok u∧n=u∧ev=.nilIface)∨((∀u,parseUintB 64 s.data.toList≠.ok u)∧∃t p,ev=.iface t p)))∧Below w.heap.size w w':=by
 rcases hp:parseUintB 64 s.data.toList with u|_|_
 ·refine (Tryz.strconv_ParseUint_10_at64_ok s (by omega) u hp w).mono ?_
  rintro e w' ⟨rfl,hw⟩
  refine ⟨⟨_,_,rfl,.inl ⟨u,rfl,rfl,rfl⟩⟩,?_⟩
  rcases hw with rfl|rfl
  ·exact Below.refl _ _
  ·exact bytesWorld_below w _ s
 ·obtain ⟨ev,h1,h2⟩:=hv.syn
  refine (Tryz.strconv_ParseUint_10_at64_syntax s (by omega) hp ev w h1 h2).mono ?_
  rintro e w' ⟨N,rfl,_,_,hb⟩
  exact ⟨⟨_,_,rfl,.inr ⟨fun u h=>(by cases h),_,_,rfl⟩⟩,hb⟩
 ·obtain ⟨ev,h1,h2⟩:=hv.ran
  refine (Tryz.strconv_ParseUint_10_at64_range s (by omega) hp ev w h1 h2).mono ?_
  rintro e w' ⟨N,rfl,_,_,hb⟩
  exact ⟨⟨_,_,rfl,.inr ⟨fun u h=>(by cases h),_,_,rfl⟩⟩,hb⟩
set_option maxHeartbeats 1000000 in
theorem whole_any (s:ByteArray) (w:World) (hs:s.size≤4294967000) (hv:OpVars w) :
  Calls Tryz.prog 76 #[.string s] w fun e w' =>
   e=.returned (.tuple #[.int .u64 (numO (numL 18446744073709551615 s.data.toList)),.bool (numL 18446744073709551615 s.data.toList).isSome])∧Below w.heap.size w w':=by
 have HV:=hid hv
 have HW:=hid (whole_num s.data.toList)
 clear hv
 go_enter Tryz.func76,Tryz.ntmps76
 go_wp2_with fail
 refine (parseu_any s w hs HV.out).mono ?_
 rintro e w1 ⟨⟨n,ev,rfl,hc⟩,hb⟩
 have HB1:=hid hb
 clear hb
 rcases hc with ⟨u,hp,rfl,rfl⟩|⟨hp,t,p,rfl⟩
 ·have hu:=parseB_le hp
  have HP:=hid hp
  clear hp
  by_cases hd:(⟨(decL u).toArray⟩:ByteArray)=s
  ·have HE:numL 18446744073709551615 s.data.toList=some u:=by rw [←hd];exact num_dec hu
   go_wp2_with (go_at_call 92;refine (fmtu_any u hu _ (HV.out.on HB1.out)).mono ?_;rintro e w2 ⟨rfl,hb2⟩;have HB2:=hid hb2;clear hb2)
   go_ret2
   rw [HE]
   exact ⟨rfl,HB1.out.trans (HB2.out.mono HB1.out.size)⟩
  ·have HE:numL 18446744073709551615 s.data.toList=none:=by
    rw [←HW.out]
    unfold wholeL
    rw [HP.out]
    simp only
    rw [if_neg]
    intro q
    rw [dec_lib] at q
    exact hd (by rw [q])
   have hq:(decL u==s.toList)=false:=beq_eq_false_iff_ne.2 fun q=>hd (by rw [q,toList_data])
   go_wp2_with (go_at_call 92;refine (fmtu_any u hu _ (HV.out.on HB1.out)).mono ?_;rintro e w2 ⟨rfl,hb2⟩;have HB2:=hid hb2;clear hb2)
   go_ret2
   rw [HE]
   exact ⟨rfl,HB1.out.trans (HB2.out.mono HB1.out.size)⟩
 ·have HE:numL 18446744073709551615 s.data.toList=none:=by
   rw [←HW.out]
   unfold wholeL
   split
   ·rename_i u hu;exact absurd hu (hp u)
   ·rfl
  clear hp
  go_wp2_with fail
  go_ret2
  rw [HE]
  exact ⟨rfl,HB1.out⟩
set_option maxHeartbeats 1000000 in
theorem opcount_any (s:ByteArray) (w:World) (hs:s.size≤4294967000) (hv:OpVars w) :
  Calls Tryz.prog 75 #[.string s] w fun e w' =>
   e=.returned (.tuple #[.int .i64 (numO (numL 999999999 s.data.toList)),.bool (numL 999999999 s.data.toList).isSome])∧Below w.heap.size w w':=by
 have HM:=hid (num_most (most:=999999999) (by omega) s.data.toList)
 have HV:=hid hv
 clear hv
 go_enter Tryz.func75,Tryz.ntmps75
 go_wp2_with fail
 refine (whole_any s w hs HV.out).mono ?_
 rintro e w1 ⟨rfl,hb⟩
 have HB1:=hid hb
 clear hb
 cases hn:numL 18446744073709551615 s.data.toList with
 | none =>
  have HE:numL 999999999 s.data.toList=none:=by rw [HM.out,hn];rfl
  have h1:(none:Option Nat).isSome=false:=rfl
  rw [h1]
  go_wp2_with fail
  go_ret2
  rw [HE]
  exact ⟨rfl,HB1.out⟩
 | some n =>
  have hle:=numL_le hn
  have h1:(some n).isSome=true:=rfl
  have h2:numO (some n)=(n:Int):=rfl
  rw [h1,h2]
  by_cases h:n≤999999999
  ·have HE:numL 999999999 s.data.toList=some n:=by rw [HM.out,hn,Option.bind_some,if_pos h]
   have hc:IntKind.i64.wrap (n:Int)=(n:Int):=by rw [IntKind.wrap_i64];omega
   have hg:¬ (999999999:Int)<(n:Int):=by omega
   go_wp2_with fail
   go_ret2
   rw [HE]
   exact ⟨rfl,HB1.out⟩
  ·have HE:numL 999999999 s.data.toList=none:=by rw [HM.out,hn,Option.bind_some,if_neg h]
   have hg:(999999999:Int)<(n:Int):=by omega
   go_wp2_with fail
   go_ret2
   rw [HE]
   exact ⟨rfl,HB1.out⟩
theorem ba_nil {b:ByteArray} (h:b.data.toList=[]):b=⟨#[]⟩:=by
 cases b with|mk d=>cases d with|mk l=>simp only at h;rw [h]
def unifB (s:ByteArray):List UInt8:=trimPrefix s.data.toList [105,102,32]
def condO (s:ByteArray):Option Nat:=if s.data.toList=[] then some 0 else (numL 999999999 (unifB s)).bind fun n=>if 0<n then some n else none
theorem trim_len (a b:List UInt8):(trimPrefix a b).length≤a.length:=by
 unfold trimPrefix
 split
 ·simp
 ·exact Nat.le_refl _
set_option maxHeartbeats 1000000 in
theorem condition_any (s:ByteArray) (w:World) (hs:s.size≤4294967000) (hv:OpVars w) :
  Calls Tryz.prog 71 #[.string s] w fun e w' =>
   (∃n:Int,e=.returned (.tuple #[.int .i64 n,.bool (condO s).isSome])∧0≤n∧n≤999999999∧∀m,condO s=some m→n=m)∧Below w.heap.size w w':=by
 have HV:=hid hv
 clear hv
 by_cases h0:s=⟨#[]⟩
 ·subst h0
  go_enter Tryz.func71,Tryz.ntmps71
  go_wp2_with fail
  go_ret2
  exact ⟨⟨0,rfl,by omega,by omega,fun m hm=>by have:(0:Nat)=m:=Option.some.inj hm;omega⟩,Below.refl _ _⟩
 ·have hne:s.data.toList≠[]:=fun q=>h0 (ba_nil q)
  have HC:condO s=(numL 999999999 (unifB s)).bind fun n=>if 0<n then some n else none:=by unfold condO;rw [if_neg hne]
  have HC':=hid HC
  have hse:s.toList.isEmpty=false:=by
   rw [toList_data]
   cases hl:s.data.toList with
   | nil=>exact absurd hl hne
   | cons _ _=>rfl
  clear HC hne
  have hsz:(⟨(unifB s).toArray⟩:ByteArray).size≤4294967000:=by
   have:=trim_len s.data.toList [105,102,32]
   have e1:(⟨(unifB s).toArray⟩:ByteArray).size=(trimPrefix s.data.toList [105,102,32]).length:=rfl
   have e2:s.data.toList.length=s.size:=rfl
   omega
  go_enter Tryz.func71,Tryz.ntmps71
  go_wp2_with (go_at_call 67;refine (Tryz.strings_TrimPrefix _ _ _).mono ?_;rintro e w1 ⟨rfl,rfl⟩)
  refine (opcount_any ⟨(unifB s).toArray⟩ _ hsz HV.out).mono ?_
  rintro e w1 ⟨rfl,hb⟩
  have HB1:=hid hb
  clear hb
  have eu:(⟨(unifB s).toArray⟩:ByteArray).data.toList=unifB s:=rfl
  rw [eu]
  cases hn:numL 999999999 (unifB s) with
  | none =>
   have HE:condO s=none:=by rw [HC'.out,hn];rfl
   have h1:(none:Option Nat).isSome=false:=rfl
   rw [h1]
   go_wp2_with fail
   go_ret2
   rw [HE]
   exact ⟨⟨_,rfl,by decide,by decide,fun m hm=>by cases hm⟩,HB1.out⟩
  | some n =>
   have hle:=numL_le hn
   have h1:(some n).isSome=true:=rfl
   have h2:numO (some n)=(n:Int):=rfl
   rw [h1,h2]
   by_cases h:0<n
   ·have HE:condO s=some n:=by rw [HC'.out,hn,Option.bind_some,if_pos h]
    have hg:(0:Int)<(n:Int):=by omega
    go_wp2_with fail
    go_ret2
    rw [HE]
    exact ⟨⟨_,rfl,by omega,by omega,fun m hm=>by have:=Option.some.inj hm;omega⟩,HB1.out⟩
   ·have HE:condO s=none:=by rw [HC'.out,hn,Option.bind_some,if_neg h]
    have hg:¬ (0:Int)<(n:Int):=by omega
    go_wp2_with fail
    go_ret2
    rw [HE]
    exact ⟨⟨_,rfl,by omega,by omega,fun m hm=>by cases hm⟩,HB1.out⟩
end
section
open Go.RowKit
set_option maxHeartbeats 800000 in
theorem spelled_field (s:ByteArray) (w:World) (hs:s.size≤maxLen) :
  Calls Tryz.prog 109 #[.string s,.func (.func 152) #[] #[],.func (.func 110) #[] #[]] w fun e w'=>e=.returned (.bool (fieldB s.data.toList))∧w'=w:=by
 unfold maxLen at hs
 by_cases he:s.size=0
 ·have hb:=spell_empty smallB lodB s he
  have hlt:(s.size:Int)<1:=by omega
  have HB:Hid (spell smallB lodB s.data.toList=false):=hb
  clear he hb
  go_enter Tryz.func109,Tryz.ntmps109
  go_wp2_with fail
  go_ret
  exact ⟨ret_bool HB.out.symm,rfl⟩
 have hpos:0<s.size:=by omega
 have hnl:¬ (s.size:Int)<1:=by omega
 by_cases hl:32<s.size
 ·have hb:=spell_long smallB lodB s hl
  have HB:Hid (spell smallB lodB s.data.toList=false):=hb
  have hgt:(32:Int)<(s.size:Int):=by omega
  clear he hb
  go_enter Tryz.func109,Tryz.ntmps109
  go_wp2_with fail
  go_ret
  exact ⟨ret_bool HB.out.symm,rfl⟩
 have hle:¬ (32:Int)<(s.size:Int):=by omega
 clear he
 cases hc:smallB (s[0].toNat:Int) with
 | false =>
  have HB:Hid (spell smallB lodB s.data.toList=false):=spell_first smallB lodB s hpos hc
  go_enter Tryz.func109,Tryz.ntmps109
  go_wp2_with (go_at_call 152;refine (small_any _ _).mono ?_;rintro e w' ⟨rfl,rfl⟩)
  go_ret
  exact ⟨ret_bool HB.out.symm,rfl⟩
 | true =>
  have HT:Hid ((∀k,1≤k→(hk:k<s.size)→lodB (s[k].toNat:Int)=true)→spell smallB lodB s.data.toList=true):=spell_true smallB lodB s hpos (by omega) hc
  have HA:Hid (∀k,1≤k→(hk:k<s.size)→lodB (s[k].toNat:Int)=false→spell smallB lodB s.data.toList=false):=fun k h1 hk=>spell_at smallB lodB s k h1 hk
  go_enter Tryz.func109,Tryz.ntmps109
  go_wp2_with (go_at_call 152;refine (small_any _ _).mono ?_;rintro e w' ⟨rfl,rfl⟩)
  go_loop [7] (fun i=>∃k:Nat,1≤k∧k≤s.size∧i=.int .i64 k∧(∀j,1≤j→j<k→(hj:j<s.size)→lodB (s[j].toNat:Int)=true)) (fun i=>s.size-(intOf i).toNat)
  case atStart=>exact ⟨1,by omega,by omega,rfl,fun j h1 h2=>by omega⟩
  case round =>
   obtain ⟨k,hk1,hk,rfl,hall⟩:=hrel
   have HL:Hid (∀j,1≤j→j<k→(hj:j<s.size)→lodB (s[j].toNat:Int)=true):=hall
   clear hall
   by_cases hlt:k<s.size
   ·cases hd:lodB (s[k].toNat:Int) with
    | false =>
     go_wp2_with (go_at_call 110;refine (lod_any _ _).mono ?_;rintro e w' ⟨rfl,rfl⟩)
     go_ret
     exact ⟨ret_bool (HA.out k hk1 hlt hd).symm,rfl⟩
    | true =>
     go_wp2_with (go_at_call 110;refine (lod_any _ _).mono ?_;rintro e w' ⟨rfl,rfl⟩)
     go_round
     case rel =>
      refine ⟨k+1,by omega,by omega,by go_num,fun j h1 h2 hj=>?_⟩
      by_cases hjk:j=k
      ·subst hjk;exact hd
      ·exact HL.out j h1 (by omega) hj
     case measure=>simp [intOf];omega
   ·go_wp2_with fail
    go_ret
    exact ⟨ret_bool (HT.out fun j h1 hj=>HL.out j h1 (by omega) hj).symm,rfl⟩
set_option maxHeartbeats 400000 in
theorem field_any (s:ByteArray) (w:World) (hs:s.size≤maxLen) :
  Calls Tryz.prog 180 #[.string s] w fun e w'=>e=.returned (.bool (fieldB s.data.toList))∧w'=w:=by
 go_enter Tryz.func180,Tryz.ntmps180
 go_wp2_with (go_at_call 109;refine (spelled_field _ _ hs).mono ?_;rintro e w' ⟨rfl,rfl⟩)
 go_ret
 exact ⟨rfl,rfl⟩
end
section
open Go.RowKit
abbrev Fld:=ByteArray × List ByteArray
structure Fx where
 name:ByteArray
 p:Option Addr
 cap:Nat
 txt:List ByteArray
 deriving Inhabited
def Fx.sl (x:Fx):Value:=.slice x.p x.txt.length x.cap
def Fx.fld (x:Fx):Fld:=(x.name,x.txt)
def encX (x:Fx):List Value:=[.string x.name,x.sl]
def Fx.val (x:Fx):Value:=.agg (encX x).toArray
def TxtAt (w:World) (p:Option Addr) (ts:List ByteArray):Prop :=
 ts=[]∨∃b off,p=some ⟨b,off,none⟩∧∀i,(h:i<ts.length)→w.cell? ⟨b,off+i,none⟩=some (.string ts[i])
def Fx.at (w:World) (x:Fx):Prop:=TxtAt w x.p x.txt
def XsAt (w:World) (b off:Nat) (d:List Fx):Prop :=
 ∀i,(h:i<d.length)→w.cell? ⟨b,off+i * 2,none⟩=some (.string d[i].name)∧w.cell? ⟨b,off+i * 2+1,none⟩=some d[i].sl
def IsXs (w:World) (v:Value) (d:List Fx):Prop :=
 ∃p cap,v=.slice p d.length cap∧(d=[]∨∃b off,p=some ⟨b,off,none⟩∧XsAt w b off d)∧∀x∈d,x.at w
def FitT (ts:List ByteArray):Prop:=ts.length≤maxLen∧∀t∈ts,t.size≤maxLen
def FitF (f:Fld):Prop:=f.1.size≤maxLen∧FitT f.2
def FitX (d:List Fx):Prop:=d.length≤maxLen∧∀x∈d,FitF x.fld
theorem cell_block {w:World} {a:Addr} {v:Value} (h:w.cell? a=some v):a.block<w.heap.size:=by
 rcases Nat.lt_or_ge a.block w.heap.size with h'|h'
 ·exact h'
 ·simp [World.cell?,Array.getElem?_eq_none h'] at h
theorem TxtAt.kept {w w':World} {p:Option Addr} {ts:List ByteArray} (h:TxtAt w p ts) (hb:Below w.heap.size w w'):TxtAt w' p ts:=by
 rcases h with h|⟨b,off,hp,h⟩
 ·exact Or.inl h
 ·exact Or.inr ⟨b,off,hp,fun i hi=>(hb.cell (p:=⟨b,off+i,none⟩) (cell_block (h i hi))).trans (h i hi)⟩
theorem XsAt.kept {w w':World} {b off:Nat} {d:List Fx} (h:XsAt w b off d) (hb:Below w.heap.size w w'):XsAt w' b off d :=
 fun i hi=>⟨(hb.cell (p:=⟨b,off+i * 2,none⟩) (cell_block (h i hi).1)).trans (h i hi).1,(hb.cell (p:=⟨b,off+i * 2+1,none⟩) (cell_block (h i hi).2)).trans (h i hi).2⟩
theorem IsXs.at_all {w:World} {v:Value} {d:List Fx} (h:IsXs w v d):∀x∈d,x.at w:=by
 obtain ⟨_,_,_,_,h⟩:=h
 exact h
theorem IsXs.kept {w w':World} {v:Value} {d:List Fx} (h:IsXs w v d) (hb:Below w.heap.size w w'):IsXs w' v d:=by
 obtain ⟨p,cap,rfl,h,ht⟩:=h
 refine ⟨p,cap,rfl,?_,fun x hx=>(ht x hx).kept hb⟩
 rcases h with h|⟨b,off,hp,h⟩
 ·exact Or.inl h
 ·exact Or.inr ⟨b,off,hp,h.kept hb⟩
def longB (t:ByteArray):Bool:=decide (128<t.size)
def fitsB (f:Fld):Bool:=fieldB f.1.data.toList && !f.2.isEmpty&&decide (f.2.length≤8) && !f.2.any longB
set_option maxHeartbeats 1000000 in
theorem misnamed_any (x:Fx) (w:World) (hs:x.name.size≤maxLen):Calls Tryz.prog 155 #[x.val] w fun e w'=>e=.returned (.bool (!fieldB x.name.data.toList))∧Grown w w':=by
 obtain ⟨nm,p,cap,ts⟩:=x
 simp only [Fx.val,encX,Fx.sl] at hs ⊢
 go_enter Tryz.func155,Tryz.ntmps155
 go_wp2_with (go_at_call 180;refine (field_any _ _ hs).mono ?_;rintro e w' ⟨rfl,rfl⟩)
 go_ret
 exact ⟨rfl,(Grown.refl _).alloc _⟩
set_option maxHeartbeats 1000000 in
theorem bare_any (x:Fx) (w:World):Calls Tryz.prog 157 #[x.val] w fun e w'=>e=.returned (.bool x.txt.isEmpty)∧Grown w w':=by
 obtain ⟨nm,p,cap,ts⟩:=x
 simp only [Fx.val,encX,Fx.sl]
 have HE:Hid (decide ((ts.length:Int)=0)=ts.isEmpty):=by
  show _=_
  cases ts<;>simp
  omega
 go_enter Tryz.func157,Tryz.ntmps157
 go_wp2_with fail
 go_ret
 exact ⟨ret_bool HE.out,(Grown.refl _).alloc _⟩
set_option maxHeartbeats 1000000 in
theorem tooLong_any (t:ByteArray) (w:World):Calls Tryz.prog 178 #[.string t] w fun e w'=>e=.returned (.bool (longB t))∧w'=w:=by
 have HE:Hid (decide ((128:Int)<t.size)=longB t):=by
  show _=_
  unfold longB
  rw [Bool.eq_iff_iff];simp;omega
 go_enter Tryz.func178,Tryz.ntmps178
 go_wp2_with fail
 go_ret
 exact ⟨ret_bool HE.out,rfl⟩
end
section
open Go.RowKit Go.Shelf
theorem Tryz.infoByte:(Tryz.prog.info? 5).map (fun i=>(i.zero,i.size,i.bytes))=some (some (.int .u8 0),1,1):=by kernel_rfl
theorem Tryz.sizeBuilder:(Tryz.prog.info? 91).map (·.size)=some 2:=by kernel_rfl
theorem own_on {w w':World} {base:Nat} {e:TypeId} {size:Nat} {v:Value} {n:Nat} {xs:List Value} (h:w.ownsRow base e size v n xs) (hb:Below w.heap.size w w'):w'.ownsRow base e size v n xs :=
 h.kept (row:=none) ⟨hb.os,hb.tape,hb.output,hb.size,fun k hk _=>hb.block k hk⟩ (Classical.em _)
theorem bldAt_on {T e:TypeId} {B b:Nat} {p:Value} {bs:List Value} {w w':World} (h:Lib.BuilderAt T e B b p bs w) (hb:Below w.heap.size w w'):Lib.BuilderAt T e B b p bs w':=by
 have hlt:=h.lt
 obtain ⟨hB,v,hv,hown,hne⟩:=h
 exact ⟨hB,v,(hb.block b hlt).trans hv,own_on hown hb,hne⟩
theorem bld_on {T e:TypeId} {B b:Nat} {bs:List Value} {w w':World} (h:Lib.IsBuilder T e B b bs w) (hb:Below w.heap.size w w'):Lib.IsBuilder T e B b bs w' :=
 h.elim (fun x=>.inl (bldAt_on x hb)) (fun x=>.inr (bldAt_on x hb))
set_option maxHeartbeats 1000000 in
set_option maxRecDepth 100000 in
theorem check_used (b:Nat) (w:World) (h0:w.cell? ⟨b,0,none⟩=some (.pointer (some ⟨b,0,none⟩))) :
  Calls Tryz.prog 93 #[.pointer (some ⟨b,0,none⟩)] w fun e w'=>e=.returned (.tuple #[])∧w'=w:=by
 obtain ⟨j,hj,_⟩:=Option.map_eq_some_iff.1 Tryz.sizeBuilder
 go_enter Tryz.func93,Tryz.ntmps93
 go_wp2
 rw [Lib.run_neq_ptr_same w _ Tryz.underlying88 hj]
 go_wp2
 go_end0
 exact ⟨rfl,rfl⟩
set_option maxHeartbeats 1000000 in
set_option maxRecDepth 100000 in
theorem check_fresh (b:Nat) (w:World) (h0:w.cell? ⟨b,0,none⟩=some (.pointer none)) (hsh:w.shape? b=some (91,2)) (hfz:w.frozen? ⟨b,0,none⟩=false) :
  Calls Tryz.prog 93 #[.pointer (some ⟨b,0,none⟩)] w fun e w'=>e=.returned (.tuple #[])∧w'=w.setCell ⟨b,0,none⟩ (.pointer (some ⟨b,0,none⟩)):=by
 obtain ⟨j,hj,hjs⟩:=Option.map_eq_some_iff.1 Tryz.sizeBuilder
 go_enter Tryz.func93,Tryz.ntmps93
 go_wp2
 rw [Lib.run_to_unsafe w ⟨b,0,none⟩ Tryz.underlying88 Tryz.underlying155 hj (by rw [hjs];decide) hsh (Nat.zero_lt_succ 1)]
 simp only [Result.andThen]
 rw [Oper.upon_value]
 go_wp2
 rw [run_callFunc_extern Tryz.func134 (by kernel_rfl) (by kernel_rfl) (by kernel_rfl) (e:=Extern.AbiNoEscape.same) (by kernel_rfl)]
 rw [Lib.run_noEscape]
 simp only [Result.andThen]
 rw [Oper.upon_value]
 go_wp2
 rw [Lib.run_from_unsafe w ⟨b,0,none⟩ Tryz.underlying155 Tryz.underlying88 hj hsh Tryz.Builder_Extra_169.liesBuilder]
 simp only [Result.andThen]
 rw [Oper.upon_value]
 go_wp2
 go_end0
 exact ⟨rfl,rfl⟩
theorem check_any (B b:Nat) (bs:List Value) (w:World) (h:Lib.IsBuilder 91 5 B b bs w) :
  Calls Tryz.prog 93 #[.pointer (some ⟨b,0,none⟩)] w fun e w'=>e=.returned (.tuple #[])∧(Lib.BuilderAt 91 5 B b (.pointer (some ⟨b,0,none⟩)) bs w'∧Below B w w'):=by
 rcases h with h|h
 ·refine (check_fresh b w h.cell0 h.shape h.frozen0).mono ?_
  rintro e w' ⟨rfl,rfl⟩
  exact ⟨rfl,h.used _,(Below.refl B w).setCell (p:=⟨b,0,none⟩) h.1 _⟩
 ·refine (check_used b w h.cell0).mono ?_
  rintro e w' ⟨rfl,rfl⟩
  exact ⟨rfl,h,Below.refl B _⟩
set_option maxHeartbeats 2000000 in
set_option maxRecDepth 100000 in
theorem wbyte_any (B b:Nat) (bs:List Value) (c:Int) (w:World) (h:Lib.IsBuilder 91 5 B b bs w) (hlen:bs.length+1≤140737488355328) (hBw:B≤w.heap.size) :
  Calls Tryz.prog 171 #[.pointer (some ⟨b,0,none⟩),.int .u8 c] w fun e w'=>e=.returned .nilIface∧Lib.IsBuilder 91 5 B b (bs++[.int .u8 c]) w'∧Below B w w':=by
 obtain ⟨i0,hi,hz0,hz1,hz2⟩:=info_parts Tryz.infoByte
 go_enter Tryz.func171,Tryz.ntmps171
 go_wp2_with (go_at_call 93;refine (check_any B b bs _ h).mono ?_)
 rintro e w1 ⟨rfl,h1,hb1⟩
 obtain ⟨hB,v,hbk,hown,hne⟩:=h1
 have c0:w1.cell? ⟨b,0,none⟩=some (.pointer (some ⟨b,0,none⟩)):=cz hbk
 have c1:w1.cell? ⟨b,1,none⟩=some v:=cz hbk
 go_wp2_with (at_builtin;refine wpList_append_own _ rfl _ _ 89 rfl B 5 i0 (.int .u8 0) 1 1 Tryz.underlying89 hi hz0 hz1 hz2 rfl (by decide) _ _ _ rfl (hown.alloc _) ⟨w1.heap.size,0,none⟩ 1 1 [.int .u8 c] rfl rfl ?c1 ?c2 ?c3 ?c4 ?c5 ?_)
 case c1 =>
  intro j u hj
  match j,hj with
  | 0,hj=>simp at hj;subst hj;simp [Addr.add]
 case c2=>intro u hu;simp at hu;subst hu;rfl
 case c3=>unfold maxLen;omega
 case c4=>omega
 case c5=>have:=hb1.size;simp;omega
 intro v' w2 hown' hgrow _
 have hlt:b<w1.heap.size:=by
  rcases Nat.lt_or_ge b w1.heap.size with h'|h'
  ·exact h'
  ·simp [Array.getElem?_eq_none h'] at hbk
 have hb2:w2.heap[b]? = some (.cells #[.pointer (some ⟨b,0,none⟩),v] 91 (0,0)):=by
  rw [hgrow.block b (by simp;omega) (fun e=>hne e.symm),Lib.alloc_old w1 _ b hlt]
  exact hbk
 have d0:w2.cell? ⟨b,0,none⟩=some (.pointer (some ⟨b,0,none⟩)):=cz hb2
 have d1:w2.cell? ⟨b,1,none⟩=some v:=cz hb2
 have f1:=Lib.frozen_of_heap hb2 1
 obtain ⟨g,cap,rfl⟩:∃g cap,v'=.slice (some ⟨g,0,none⟩) (bs.length+1) cap:=by
  rcases hown'.2 with ⟨_,h0⟩|⟨g,cap,cur,hv,_⟩
  ·omega
  ·exact ⟨g,cap,hv⟩
 go_wp2
 go_ret
 refine ⟨rfl,Or.inr ?_,?_⟩
 ·exact Lib.BuilderAt.put (T:=91) (e:=5) hB hb2 (bs':=bs++[.int .u8 c]) (by simpa using hown') (by decide)
 ·exact ((hb1.alloc (by have:=hb1.size;omega) _).grown hgrow (by have:=hb1.size;simp;omega) (fun k hk=>(hown.lt k hk).1)).setCell (p:=⟨b,1,none⟩) hB _
end
section
open Go.RowKit
def RestAt (R:Nat) (w:World) (v:Value) (l:List UInt8):Prop :=
 ∃p cap,v=.slice p l.length cap∧l.length≤cap∧cap≤maxLen∧(l=[]∨∃b off,p=some ⟨b,off,none⟩∧b<R∧∀i,(h:i<l.length)→w.cell? ⟨b,off+i,none⟩=some (.int .u8 l[i].toNat))
theorem addr_add (b off i:Nat):(⟨b,off,none⟩:Addr).add i=⟨b,off+i,none⟩:=by
 unfold Addr.add
 split
 ·rename_i h;simp_all
 ·rfl
theorem grown_set (w:World) (R i:Nat) (v:Value):w.grownBy (w.setCell ⟨R,i,none⟩ v) (some R) :=
 ⟨rfl,rfl,rfl,by simp [World.setCell],fun k _ hne=>Below.heap_setCell w _ _ k (fun e=>hne (by rw [e]))⟩
theorem grown_trans {a b c:World} {R:Nat} (h:a.grownBy b (some R)) (k:b.grownBy c (some R)):a.grownBy c (some R) :=
 ⟨k.os.trans h.os,k.tape.trans h.tape,k.output.trans h.output,Nat.le_trans h.size k.size,fun i hi hn=>(k.block i (Nat.lt_of_lt_of_le hi h.size) hn).trans (h.block i hi hn)⟩
theorem conv_any {R:Nat} {w:World} {u:Value} {l:List UInt8} (h:RestAt R w u l):(convert 89 9 u).run Tryz.prog w=.ok (.string ⟨l.toArray⟩) w:=by
 obtain ⟨p,cap,rfl,_,_,h⟩:=h
 rcases h with rfl|⟨b,off,rfl,_,h⟩
 ·rw [run_convert_bytes_string w _ _ _ p _ cap Tryz.underlying89 Tryz.underlying5 Tryz.underlying9]
  cases p<;>simp [Conv.bytesToString,loadCells,loadCellsFrom,go_sem]<;>rfl
 ·exact run_convert_bytes_back w _ _ _ ⟨b,off,none⟩ cap l Tryz.underlying89 Tryz.underlying5 Tryz.underlying9 (fun j hj=>by rw [addr_add];exact h j hj)
end
section
open Go.RowKit
theorem Tryz.infoStr:(Tryz.prog.info? 9).map (fun i=>(i.zero,i.size,i.bytes))=some (some (.string ⟨#[]⟩),1,16):=by kernel_rfl
def OwnT (n0:Nat) (w:World) (v:Value) (ts:List ByteArray):Prop:=w.ownsRow n0 9 1 v ts.length (ts.map Value.string)
theorem own_weak {w:World} {base base':Nat} {e:TypeId} {size:Nat} {v:Value} {n:Nat} {xs:List Value} (h:w.ownsRow base e size v n xs) (hb:base'≤base):w.ownsRow base' e size v n xs:=by
 refine ⟨h.1,?_⟩
 rcases h.2 with h2|⟨g,cap,cur,h3,h4,h5⟩
 ·exact .inl h2
 ·exact .inr ⟨g,cap,cur,h3,by omega,h5⟩
theorem OwnT.on {n0:Nat} {w w':World} {v:Value} {ts:List ByteArray} (h:OwnT n0 w v ts) (hb:Below w.heap.size w w'):OwnT n0 w' v ts:=own_on h hb
theorem OwnT.grown {n0:Nat} {w w':World} {v:Value} {ts:List ByteArray} {R:Nat} (h:OwnT n0 w v ts) (hg:w.grownBy w' (some R)) (hR:R<n0):OwnT n0 w' v ts:=by
 refine World.ownsRow.kept h hg ?_
 rcases hv:v.ownBlock with _|k
 ·exact Or.inl rfl
 ·right
  intro e
  have:=(World.ownsRow.lt h k hv).1
  simp at e;omega
end
section
open Go.RowKit
theorem enters_tooLong:∀args w,(callFunc 178 args).run Tryz.prog w=.ok (.enter 178 args) w:=enters_of Tryz.func178 (by kernel_rfl) rfl
theorem hasLong_any (p:Option Addr) (cap:Nat) (ts:List ByteArray) (w:World) (h:TxtAt w p ts) (hs:ts.length≤maxLen) :
  Calls Tryz.prog 177 #[.slice p ts.length cap,.func (.func 178) #[] #[]] w fun e w'=>e=.returned (.bool (ts.any longB))∧∃q,w'=w.drewN q:=by
 unfold maxLen at hs
 rcases h with rfl|⟨b,off,rfl,hc⟩
 ·refine (Tryz.slices_ContainsFunc_empty (α:=ByteArray) p cap _ w).mono ?_
  rintro e w' ⟨rfl,rfl⟩
  exact ⟨rfl,0,rfl⟩
 ·refine (Tryz.slices_ContainsFunc (fun t:ByteArray=>Value.string t) longB 178 #[] enters_tooLong b off ts.length cap ts w (fun W x hb=>(tooLong_any x W).mono ?_) (Nat.le_refl _) (by omega) ?_).mono ?_
  ·rintro e w' ⟨rfl,rfl⟩
   exact ⟨rfl,0,rfl⟩
  ·intro j hj
   rw [getElem!_pos ts j hj]
   exact hc j hj
  ·rintro e w' ⟨rfl,hq⟩
   rw [List.take_length]
   exact ⟨rfl,hq⟩
set_option maxHeartbeats 1000000 in
theorem fits_any (x:Fx) (w:World) (hx:x.at w) (hf:FitF x.fld):Calls Tryz.prog 139 #[x.val] w fun e w'=>e=.returned (.bool (fitsB x.fld))∧Grown w w':=by
 obtain ⟨hs,hl,_⟩:=hf
 have HM:=hid (misnamed_any x)
 have HBA:=hid (bare_any x)
 obtain ⟨nm,p,cap,ts⟩:=x
 simp only [Fx.val,encX,Fx.sl,Fx.fld,Fx.at] at hs hl hx HM HBA ⊢
 have hb1:Grown w (w.alloc (.cells #[.string nm,.slice p ts.length cap] 45)):=(Grown.refl _).alloc _
 have HX:=hid (hx.kept hb1.below)
 have HS:=hid hs
 have HL:=hid hl
 clear hx hs hl
 obtain ⟨r,hr⟩:∃r,fitsB (nm,ts)=r:=⟨_,rfl⟩
 rw [hr]
 have HR:=hid hr
 clear hr
 have A0:∀w1,Below (w.alloc (.cells #[.string nm,.slice p ts.length cap] 45)).heap.size (w.alloc (.cells #[.string nm,.slice p ts.length cap] 45)) w1→w1.cell? ⟨w.heap.size,0,none⟩=some (.string nm)∧w1.cell? ⟨w.heap.size,1,none⟩=some (.slice p ts.length cap):=fun w1 hb=>by
  refine ⟨(hb.cell (p:=⟨w.heap.size,0,none⟩) (by simp)).trans (by simp [go_sem]),(hb.cell (p:=⟨w.heap.size,1,none⟩) (by simp)).trans (by simp [go_sem])⟩
 have A1:=hid A0
 clear A0
 cases h1:fieldB nm.data.toList with
 | false =>
  have H0:Hid (r=false):=by show r=false;rw [←HR.out];simp [fitsB,h1]
  go_enter Tryz.func139,Tryz.ntmps139
  go_wp2_with (first|(go_at_call 155;refine (HM.out _ HS.out).mono ?_;rintro e w1 ⟨rfl,hb2⟩;simp only [h1]))
  go_ret
  exact ⟨ret_bool H0.out.symm,hb1.trans hb2⟩
 | true =>
  cases h2:ts.isEmpty with
  | true =>
   have H0:Hid (r=false):=by show r=false;rw [←HR.out];simp [fitsB,h2]
   go_enter Tryz.func139,Tryz.ntmps139
   go_wp2_with (first|(go_at_call 155;refine (HM.out _ HS.out).mono ?_;rintro e w1 ⟨rfl,hb2⟩;obtain ⟨a0,a1⟩:=A1.out _ hb2.below;simp only [h1])|(go_at_call 157;refine (HBA.out _).mono ?_;rintro e w2 ⟨rfl,hb3⟩;simp only [h2]))
   go_ret
   exact ⟨ret_bool H0.out.symm,(hb1.trans hb2).trans hb3⟩
  | false =>
   by_cases h8:ts.length≤8
   ·have h8z:¬ (8:Int)<(ts.length:Int):=by omega
    have H0:Hid (r = !ts.any longB):=by show r=_;rw [←HR.out];unfold fitsB;rw [h1,h2,decide_eq_true h8];rfl
    go_enter Tryz.func139,Tryz.ntmps139
    go_wp2_with (first|(go_at_call 155;refine (HM.out _ HS.out).mono ?_;rintro e w1 ⟨rfl,hb2⟩;obtain ⟨a0,a1⟩:=A1.out _ hb2.below;simp only [h1])|(go_at_call 157;refine (HBA.out _).mono ?_;rintro e w2 ⟨rfl,hb3⟩;obtain ⟨b0,b1⟩:=A1.out _ (hb2.trans hb3).below;simp only [h2])|(go_at_call 177;refine (hasLong_any _ _ _ _ (HX.out.kept (hb2.trans hb3).below) HL.out).mono ?_;rintro e w3 ⟨rfl,q,rfl⟩))
    go_ret
    exact ⟨ret_bool H0.out.symm,((hb1.trans hb2).trans hb3).drewN _⟩
   ·have h8z:(8:Int)<(ts.length:Int):=by omega
    have H0:Hid (r=false):=by show r=_;rw [←HR.out];unfold fitsB;rw [decide_eq_false h8];simp
    go_enter Tryz.func139,Tryz.ntmps139
    go_wp2_with (first|(go_at_call 155;refine (HM.out _ HS.out).mono ?_;rintro e w1 ⟨rfl,hb2⟩;obtain ⟨a0,a1⟩:=A1.out _ hb2.below;simp only [h1])|(go_at_call 157;refine (HBA.out _).mono ?_;rintro e w2 ⟨rfl,hb3⟩;obtain ⟨b0,b1⟩:=A1.out _ (hb2.trans hb3).below;simp only [h2]))
    go_ret
    exact ⟨ret_bool H0.out.symm,(hb1.trans hb2).trans hb3⟩
end
section
open Go.RowKit
def ltN (a b:ByteArray):Bool:=Op.bytesLess a.toList b.toList
def stepOk (fs:List Fld) (i:Nat):Bool:=fitsB (fs.getD i default)&&(decide (i=0)||ltN (fs.getD (i-1) default).1 (fs.getD i default).1)
def mayB (fs:List Fld):Bool:=decide (fs.length≤16)&&(List.range fs.length).all (stepOk fs)
theorem flds_at {d:List Fx} {i:Nat} (h:i<d.length):(d.map Fx.fld).getD i default=d[i].fld:=by
 rw [List.getD_eq_getElem?_getD,List.getElem?_map,List.getElem?_eq_getElem h];rfl
theorem may_long {fs:List Fld} (h:16<fs.length):mayB fs=false:=by
 unfold mayB;rw [decide_eq_false (by omega)];rfl
theorem may_no {fs:List Fld} {i:Nat} (h:i<fs.length) (hs:stepOk fs i=false):mayB fs=false:=by
 unfold mayB
 have:(List.range fs.length).all (stepOk fs)=false:=by
  rw [Bool.eq_false_iff]
  intro ha
  rw [List.all_eq_true] at ha
  have:=ha i (List.mem_range.2 h)
  rw [hs] at this;cases this
 rw [this];simp
theorem may_yes {fs:List Fld} (h:fs.length≤16) (hs:∀i,i<fs.length→stepOk fs i=true):mayB fs=true:=by
 unfold mayB
 have:(List.range fs.length).all (stepOk fs)=true:=by
  rw [List.all_eq_true]
  exact fun i hi=>hs i (List.mem_range.1 hi)
 rw [this,decide_eq_true h];rfl
theorem x_new (w:World) (x:Fx) (w':World) (hb:Below (w.alloc (.cells #[.string x.name,.slice x.p x.txt.length x.cap] 45)).heap.size (w.alloc (.cells #[.string x.name,.slice x.p x.txt.length x.cap] 45)) w') :
  w'.cell? ⟨w.heap.size,0,none⟩=some (.string x.name)∧w'.cell? ⟨w.heap.size,1,none⟩=some (.slice x.p x.txt.length x.cap) :=
 ⟨(hb.cell (p:=⟨w.heap.size,0,none⟩) (by simp)).trans (by simp [go_sem]),(hb.cell (p:=⟨w.heap.size,1,none⟩) (by simp)).trans (by simp [go_sem])⟩
set_option maxHeartbeats 4000000 in
set_option maxRecDepth 100000 in
theorem may_any (v:Value) (d:List Fx) (w:World) (hv:IsXs w v d) (hf:FitX d):Calls Tryz.prog 98 #[v] w fun e w'=>e=.returned (.bool (mayB (d.map Fx.fld)))∧Grown w w':=by
 obtain ⟨p,cap,rfl,hd,ht⟩:=hv
 have HT:=hid ht
 have HF:=hid hf.2
 have hl:=hf.1
 unfold maxLen at hl
 have HD:=hid hd
 clear ht hf hd
 obtain ⟨r,hr⟩:∃r,mayB (d.map Fx.fld)=r:=⟨_,rfl⟩
 rw [hr]
 have HR:=hid hr
 clear hr
 by_cases h16:16<d.length
 ·have h16z:(16:Int)<d.length:=by omega
  have H0:Hid (r=false):=HR.out.symm.trans (may_long (by rw [List.length_map];exact h16))
  go_enter Tryz.func98,Tryz.ntmps98
  go_wp2_with fail
  go_ret
  exact ⟨ret_bool H0.out.symm,Grown.refl _⟩
 have h16z:¬ (16:Int)<d.length:=by omega
 go_enter Tryz.func98,Tryz.ntmps98
 go_wp2_with fail
 go_loopg [10] d.length (fun g vi wr=>∃i:Nat,vi=.int .i64 i∧i≤d.length∧d.length-i≤g∧Grown w wr∧Hid (∀j,j<i→stepOk (d.map Fx.fld) j=true))
 case atStart=>exact ⟨0,rfl,by omega,by omega,Grown.refl _,fun j h=>by omega⟩
 case round =>
  obtain ⟨i,rfl,hi,hg,hb,HJ⟩:=hrel
  by_cases hlt:i<d.length
  ·have hltz:(i:Int)<(d.length:Int):=by omega
   have hiz:(0:Int)≤i:=by omega
   obtain ⟨b,off,rfl,hxs⟩:∃b off,p=some ⟨b,off,none⟩∧XsAt w b off d:=by
    rcases HD.out with h|h
    ·subst h;simp at hlt
    ·exact h
   have hxr:=hxs.kept hb.below
   obtain ⟨c0,c1⟩:=hxr i hlt
   have hxi:(d[i]).at wr:=(HT.out _ (List.getElem_mem hlt)).kept hb.below
   have hfi:=HF.out _ (List.getElem_mem hlt)
   have hsx:=flds_at hlt
   obtain ⟨x,hx⟩:∃x,d[i]=x:=⟨_,rfl⟩
   rw [hx] at c0 c1 hxi hfi hsx
   have HXR:=hid hxr
   have HXI:=hid hxi
   have HFI:=hid hfi
   have HSX:=hid hsx
   clear hxr hxs hxi hfi hx hsx
   unfold Fx.sl at c1
   have FFX:Hid (∀W,x.at W→Calls Tryz.prog 139 #[.agg #[.string x.name,.slice x.p x.txt.length x.cap]] W fun e w'=>e=.returned (.bool (fitsB x.fld))∧∃q os',w'=Sort.grow (W.drewN q) os'):=fun W h=>fits_any x W h HFI.out
   have mixed:=Tryz.mixed
   by_cases h0:i=0
   ·have h0z:¬ (0:Int)<(i:Int):=by omega
    have H00:=hid h0
    clear h0
    go_wp2_with fail
    obtain ⟨W1,hW1⟩:∃W1,wr.alloc (.cells #[.string x.name,.slice x.p x.txt.length x.cap] 45)=W1:=⟨_,rfl⟩
    have full:∀n os,(Sort.grow (W1.drewN n) os).cell? ⟨wr.heap.size,0,none⟩=some (.string x.name)∧(Sort.grow (W1.drewN n) os).cell? ⟨wr.heap.size,1,none⟩=some (.slice x.p x.txt.length x.cap)∧x.at (Sort.grow (W1.drewN n) os):=fun n os=>by
     subst hW1
     have hgr:=(Grown.refl (wr.alloc (.cells #[.string x.name,.slice x.p x.txt.length x.cap] 45))).on (q:=n) (os:=os)
     obtain ⟨f0,f1⟩:=x_new wr x _ hgr.below
     have hbw:=(((Grown.refl wr).alloc (.cells #[.string x.name,.slice x.p x.txt.length x.cap] 45)).trans hgr).below
     exact ⟨f0,f1,HXI.out.kept hbw⟩
    have q0:∀n os,(Sort.grow (W1.drewN n) os).cell? ⟨wr.heap.size,0,none⟩=some (.string x.name):=fun n os=>(full n os).1
    have q1:∀n os,(Sort.grow (W1.drewN n) os).cell? ⟨wr.heap.size,1,none⟩=some (.slice x.p x.txt.length x.cap):=fun n os=>(full n os).2.1
    have Q3:Hid (∀n os,x.at (Sort.grow (W1.drewN n) os)):=fun n os=>(full n os).2.2
    have hbW:Grown w W1:=by subst hW1;exact hb.alloc _
    rw [hW1]
    clear full hW1 c0 c1
    cases hfx:fitsB x.fld with
    | false =>
     rw [hfx] at FFX
     have H0:Hid (r=false):=HR.out.symm.trans (may_no (i:=i) (by rw [List.length_map];exact hlt) (by unfold stepOk;rw [HSX.out,hfx];rfl))
     refine wp_region_quiet_grown mixed (by kernel_rfl) ?_
     repeat (go_big_quiet_step (first|(go_at_call 139;refine Calls.grown_of (FFX.out _ (Q3.out _ _)))))
     refine wpQuiet_nil ?_
     intro _ hw'
     obtain ⟨⟨nq,osq⟩,hw''⟩:=hw'
     subst hw''
     go_wp2_with fail
     go_ret
     exact ⟨ret_bool H0.out.symm,hbW.on⟩
    | true =>
     rw [hfx] at FFX
     have cb:decide (0<i)=false:=decide_eq_false (by have:=H00.out;omega)
     have H0:Hid (stepOk (d.map Fx.fld) i=true):=by show _=_;unfold stepOk;rw [HSX.out,hfx,decide_eq_true H00.out];rfl
     refine wp_region_quiet_grown mixed (by kernel_rfl) ?_
     repeat (go_big_quiet_step (first|(go_at_call 139;refine Calls.grown_of (FFX.out _ (Q3.out _ _)))))
     refine wpQuiet_nil ?_
     intro _ hw'
     obtain ⟨⟨nq,osq⟩,hw''⟩:=hw'
     subst hw''
     go_wp2_with fail
     go_roundg (d.length-(i+1))
     case measure=>omega
     refine ⟨i+1,by go_num,by omega,by omega,hbW.on,fun j hj=>?_⟩
     obtain rfl:j=i:=by have:=H00.out;omega
     exact H0.out
   ·obtain ⟨k,rfl⟩:∃k,i=k+1:=⟨i-1,by omega⟩
    obtain ⟨e0,e1⟩:=HXR.out k (by omega)
    have hsy:=flds_at (d:=d) (i:=k) (by omega)
    obtain ⟨y,hy⟩:∃y,d[k]=y:=⟨_,rfl⟩
    rw [hy] at e0 hsy
    have HSY:=hid hsy
    clear e1 hy hsy
    have k1:(0:Int)<(k:Int)+1:=by omega
    have k2:(0:Int)≤(k:Int):=by omega
    have k3:(k:Int)<(d.length:Int):=by omega
    go_wp2_with fail
    obtain ⟨W1,hW1⟩:∃W1,wr.alloc (.cells #[.string x.name,.slice x.p x.txt.length x.cap] 45)=W1:=⟨_,rfl⟩
    have full:∀n os,(Sort.grow (W1.drewN n) os).cell? ⟨wr.heap.size,0,none⟩=some (.string x.name)∧(Sort.grow (W1.drewN n) os).cell? ⟨wr.heap.size,1,none⟩=some (.slice x.p x.txt.length x.cap)∧(Sort.grow (W1.drewN n) os).cell? ⟨b,off+k * 2,none⟩=some (.string y.name)∧x.at (Sort.grow (W1.drewN n) os):=fun n os=>by
     subst hW1
     have hgr:=(Grown.refl (wr.alloc (.cells #[.string x.name,.slice x.p x.txt.length x.cap] 45))).on (q:=n) (os:=os)
     obtain ⟨f0,f1⟩:=x_new wr x _ hgr.below
     have hbw:=(((Grown.refl wr).alloc (.cells #[.string x.name,.slice x.p x.txt.length x.cap] 45)).trans hgr).below
     exact ⟨f0,f1,(hbw.cell (p:=⟨b,off+k * 2,none⟩) (cell_block e0)).trans e0,HXI.out.kept hbw⟩
    have q0:∀n os,(Sort.grow (W1.drewN n) os).cell? ⟨wr.heap.size,0,none⟩=some (.string x.name):=fun n os=>(full n os).1
    have q1:∀n os,(Sort.grow (W1.drewN n) os).cell? ⟨wr.heap.size,1,none⟩=some (.slice x.p x.txt.length x.cap):=fun n os=>(full n os).2.1
    have q2:∀n os,(Sort.grow (W1.drewN n) os).cell? ⟨b,off+k * 2,none⟩=some (.string y.name):=fun n os=>(full n os).2.2.1
    have Q3:Hid (∀n os,x.at (Sort.grow (W1.drewN n) os)):=fun n os=>(full n os).2.2.2
    have hbW:Grown w W1:=by subst hW1;exact hb.alloc _
    rw [hW1]
    clear full hW1 c0 c1 e0
    cases hfx:fitsB x.fld with
    | false =>
     rw [hfx] at FFX
     have H0:Hid (r=false):=HR.out.symm.trans (may_no (i:=k+1) (by rw [List.length_map];exact hlt) (by unfold stepOk;rw [HSX.out,hfx];rfl))
     refine wp_region_quiet_grown mixed (by kernel_rfl) ?_
     repeat (go_big_quiet_step (first|(go_at_call 139;refine Calls.grown_of (FFX.out _ (Q3.out _ _)))))
     refine wpQuiet_nil ?_
     intro _ hw'
     obtain ⟨⟨nq,osq⟩,hw''⟩:=hw'
     subst hw''
     go_wp2_with fail
     go_ret
     exact ⟨ret_bool H0.out.symm,hbW.on⟩
    | true =>
     rw [hfx] at FFX
     have H0:Hid (stepOk (d.map Fx.fld) (k+1)=ltN y.name x.name):=by
      show _=_
      unfold stepOk
      rw [HSX.out,hfx,Nat.add_sub_cancel,HSY.out,decide_eq_false (by omega)]
      rfl
     cases hlt2:Op.bytesLess y.name.toList x.name.toList with
     | false =>
      have H1:Hid (r=false):=HR.out.symm.trans (may_no (i:=k+1) (by rw [List.length_map];exact hlt) (H0.out.trans hlt2))
      refine wp_region_quiet_grown mixed (by kernel_rfl) ?_
      repeat (go_big_quiet_step (first|(go_at_call 139;refine Calls.grown_of (FFX.out _ (Q3.out _ _)))))
      refine wpQuiet_nil ?_
      intro _ hw'
      obtain ⟨⟨nq,osq⟩,hw''⟩:=hw'
      subst hw''
      go_wp2_with fail
      go_ret
      exact ⟨ret_bool H1.out.symm,hbW.on⟩
     | true =>
      have H1:Hid (stepOk (d.map Fx.fld) (k+1)=true):=H0.out.trans hlt2
      refine wp_region_quiet_grown mixed (by kernel_rfl) ?_
      repeat (go_big_quiet_step (first|(go_at_call 139;refine Calls.grown_of (FFX.out _ (Q3.out _ _)))))
      refine wpQuiet_nil ?_
      intro _ hw'
      obtain ⟨⟨nq,osq⟩,hw''⟩:=hw'
      subst hw''
      go_wp2_with fail
      go_roundg (d.length-(k+1+1))
      case measure=>omega
      refine ⟨k+1+1,by go_num,by omega,by omega,hbW.on,fun j hj=>?_⟩
      by_cases e:j=k+1
      ·subst e;exact H1.out
      ·exact HJ.out j (by omega)
  ·have hltz:¬ (i:Int)<(d.length:Int):=by omega
   have H0:Hid (r=true):=HR.out.symm.trans (may_yes (by rw [List.length_map];omega) (fun j hj=>HJ.out j (by rw [List.length_map] at hj;omega)))
   go_wp2_with fail
   go_ret
   exact ⟨ret_bool H0.out.symm,hb⟩
end
section
open Go.RowKit
theorem Tryz.infoFld:(Tryz.prog.info? 45).map (fun i=>(i.zero,i.size,i.bytes))=some (some (.agg #[.string ⟨#[]⟩,.slice none 0 0]),2,40):=by kernel_rfl
def cellsX (d:List Fx):List Value:=d.flatMap encX
theorem cellsX_append (d e:List Fx):cellsX (d++e)=cellsX d++cellsX e:=List.flatMap_append
theorem cellsX_len (d:List Fx):(cellsX d).length=d.length * 2:=by
 induction d with
 | nil=>rfl
 | cons x d ih=>simp [cellsX,encX] at ih ⊢;omega
theorem cellsX_get (d:List Fx) (i:Nat) (h:i<d.length):(cellsX d)[i * 2]? = some (.string d[i].name)∧(cellsX d)[i * 2+1]? = some d[i].sl:=by
 induction d generalizing i with
 | nil=>simp at h
 | cons x d ih =>
  have e:cellsX (x::d)=.string x.name::x.sl::cellsX d:=rfl
  rw [e]
  cases i with
  | zero=>simp
  | succ i =>
   have:=ih i (by simpa using h)
   rw [show (i+1) * 2=i * 2+1+1 by omega]
   simpa using this
def OwnXs (n0:Nat) (w:World) (v:Value) (d:List Fx):Prop:=w.ownsRow n0 45 2 v d.length (cellsX d)∧∀x∈d,OwnT n0 w x.sl x.txt
theorem OwnT.txtAt {n0:Nat} {w:World} {p:Option Addr} {cap:Nat} {ts:List ByteArray} (h:OwnT n0 w (.slice p ts.length cap) ts):TxtAt w p ts:=by
 rcases h.2 with ⟨_,h0⟩|⟨g,c,cur,hv,_,hg,_,_,hsz,htk⟩
 ·exact Or.inl (List.length_eq_zero_iff.1 h0)
 ·right
  injection hv with hp
  refine ⟨g,0,hp,fun i hi=>?_⟩
  rw [Nat.zero_add,cell_of_row w g i cur _ _ hg]
  have:(ts.map Value.string)[i]? = cur.toList[i]?:=by
   rw [←htk,List.getElem?_take,if_pos (by omega)]
  rw [←Array.getElem?_toList,←this]
  simp [hi]
theorem OwnXs.is {n0:Nat} {w:World} {v:Value} {d:List Fx} (h:OwnXs n0 w v d):IsXs w v d:=by
 obtain ⟨h1,h2⟩:=h
 rcases h1.2 with ⟨rfl,h0⟩|⟨g,c,cur,rfl,_,hg,_,_,hsz,htk⟩
 ·obtain rfl:=List.length_eq_zero_iff.1 h0
  exact ⟨none,0,rfl,Or.inl rfl,fun x hx=>by simp at hx⟩
 ·refine ⟨_,c,rfl,Or.inr ⟨g,0,rfl,fun i hi=>?_⟩,fun x hx=>OwnT.txtAt (h2 x hx)⟩
  obtain ⟨c0,c1⟩:=cellsX_get d i hi
  have e:∀j,j<d.length * 2→(cellsX d)[j]? = cur[j]?:=fun j hj=>by
   rw [←htk,List.getElem?_take,if_pos hj,Array.getElem?_toList]
  rw [Nat.zero_add,cell_of_row w g _ cur _ _ hg,cell_of_row w g _ cur _ _ hg,←e _ (by omega),←e _ (by omega)]
  exact ⟨c0,c1⟩
theorem OwnXs.on {n0:Nat} {w w':World} {v:Value} {d:List Fx} (h:OwnXs n0 w v d) (hb:Below w.heap.size w w'):OwnXs n0 w' v d:=⟨own_on h.1 hb,fun x hx=>(h.2 x hx).on hb⟩
theorem OwnXs.far {n0 R:Nat} {w w':World} {v:Value} {d:List Fx} (h:OwnXs n0 w v d) (hg:w.grownBy w' (some R)) (hR:R<n0):OwnXs n0 w' v d:=by
 refine ⟨World.ownsRow.kept h.1 hg ?_,fun x hx=>(h.2 x hx).grown hg hR⟩
 rcases hv:v.ownBlock with _|k
 ·exact Or.inl rfl
 ·right
  intro e
  have:=(World.ownsRow.lt h.1 k hv).1
  simp at e;omega
theorem OwnT.rowX {n0:Nat} {w w':World} {sv v:Value} {ts:List ByteArray} {n m:Nat} {xs:List Value} {m0:Nat} (h:OwnT n0 w sv ts) (hv:w.ownsRow m0 45 n v m xs) (hg:w.grownBy w' v.ownBlock):OwnT n0 w' sv ts:=by
 refine World.ownsRow.kept h hg ?_
 rcases h.2 with ⟨rfl,_⟩|⟨g,c,cur,rfl,_,hgb,_⟩
 ·exact Or.inl rfl
 ·right
  intro e
  rcases hv.2 with ⟨rfl,_⟩|⟨g',c',cur',rfl,_,hgb',_⟩
  ·cases e
  ·have:g=g':=by simpa [Value.ownBlock] using e
   subst this
   rw [hgb] at hgb'
   injection hgb' with hgb'
   injection hgb' with _ ht
   exact absurd ht (by decide)
theorem own_slice {n0:Nat} {w:World} {sv:Value} {ts:List ByteArray} (h:OwnT n0 w sv ts):∃p cap,sv=.slice p ts.length cap:=by
 rcases h.2 with ⟨hv,h0⟩|⟨g,cap,cur,hv,_⟩
 ·exact ⟨none,0,by rw [hv,h0]⟩
 ·exact ⟨_,_,hv⟩
theorem news_x (w:World) (x:Fx):∀j u,(cellsX [x])[j]? = some u→(w.alloc (.cells #[.string x.name,.slice x.p x.txt.length x.cap] 45)).cell? ((⟨w.heap.size,0,none⟩:Addr).add j)=some u:=by
 intro j u hj
 have e:cellsX [x]=[.string x.name,.slice x.p x.txt.length x.cap]:=rfl
 rw [e] at hj
 match j,hj with
 | 0,hj=>simp at hj;subst hj;simp [Addr.add]
 | 1,hj=>simp at hj;subst hj;rw [addr_add];simp
theorem cellsX_one (d:List Fx):∀u∈cellsX d,u.oneCell'=true:=by
 intro u hu
 obtain ⟨x,_,hx⟩:=List.mem_flatMap.1 hu
 simp [encX] at hx
 rcases hx with rfl|rfl<;>rfl
theorem OwnXs.put {n0:Nat} {w w':World} {v v':Value} {d:List Fx} {x:Fx} (h:OwnXs n0 w v d) (hx:OwnT n0 w x.sl x.txt) (hown:w'.ownsRow n0 45 2 v' (d.length+1) (cellsX d++cellsX [x])) (hg:w.grownBy w' v.ownBlock):OwnXs n0 w' v' (d++[x]):=by
 refine ⟨?_,fun y hy=>?_⟩
 ·rw [cellsX_append,List.length_append];exact hown
 ·rw [List.mem_append,List.mem_singleton] at hy
  rcases hy with hy|rfl
  ·exact (h.2 y hy).rowX h.1 hg
  ·exact hx.rowX h.1 hg
end
section
open Go.RowKit
structure Kind (α:Type) where
 T:TypeId
 k:Nat
 enc:α→List Value
 len:∀x,(enc x).length=k
 pos:0<k
 one:∀x,∀u∈enc x,u.oneCell'=true
def Kind.cells {α:Type} (K:Kind α) (d:List α):List Value:=d.flatMap K.enc
theorem Kind.cells_one {α:Type} (K:Kind α) (x:α):K.cells [x]=K.enc x:=by simp [Kind.cells]
theorem Kind.cells_append {α:Type} (K:Kind α) (a b:List α):K.cells (a++b)=K.cells a++K.cells b:=List.flatMap_append
theorem Kind.cells_len {α:Type} (K:Kind α) (d:List α):(K.cells d).length=d.length * K.k:=by
 induction d with
 | nil=>simp [Kind.cells]
 | cons x d ih =>
  have e:K.cells (x::d)=K.enc x++K.cells d:=rfl
  rw [e,List.length_append,K.len,ih,List.length_cons,Nat.add_mul,Nat.one_mul,Nat.add_comm]
theorem Kind.cells_get {α:Type} (K:Kind α) (d:List α) (i:Nat) (h:i<d.length) (j:Nat) (hj:j<K.k):(K.cells d)[i * K.k+j]? = (K.enc d[i])[j]?:=by
 induction d generalizing i with
 | nil=>simp at h
 | cons x d ih =>
  have e:K.cells (x::d)=K.enc x++K.cells d:=rfl
  rw [e]
  cases i with
  | zero=>rw [Nat.zero_mul,Nat.zero_add,List.getElem?_append_left (by rw [K.len];exact hj)];rfl
  | succ i =>
   have hl:(K.enc x).length≤(i+1) * K.k+j:=by rw [K.len,Nat.add_mul,Nat.one_mul];omega
   rw [List.getElem?_append_right hl,K.len]
   have e2:(i+1) * K.k+j-K.k=i * K.k+j:=by rw [Nat.add_mul,Nat.one_mul];omega
   rw [e2]
   exact ih i (by simpa using h)
theorem Kind.cells_ones {α:Type} (K:Kind α) (d:List α):∀u∈K.cells d,u.oneCell'=true:=by
 intro u hu
 obtain ⟨x,_,hx⟩:=List.mem_flatMap.1 hu
 exact K.one x u hx
def Kind.At {α:Type} (K:Kind α) (w:World) (b off:Nat) (d:List α):Prop :=
 ∀i,(h:i<d.length)→∀j u,(K.enc d[i])[j]? = some u→w.cell? ⟨b,off+i * K.k+j,none⟩=some u
def Kind.Is {α:Type} (K:Kind α) (w:World) (v:Value) (d:List α):Prop :=
 ∃p cap,v=.slice p d.length cap∧(d=[]∨∃b off,p=some ⟨b,off,none⟩∧K.At w b off d)
def Kind.Own {α:Type} (K:Kind α) (n0:Nat) (w:World) (v:Value) (d:List α):Prop:=w.ownsRow n0 K.T K.k v d.length (K.cells d)
theorem Kind.at_kept {α:Type} {K:Kind α} {w w':World} {b off:Nat} {d:List α} (h:K.At w b off d) (hb:Below w.heap.size w w'):K.At w' b off d :=
 fun i hi j u hu=>(hb.cell (p:=⟨b,off+i * K.k+j,none⟩) (cell_block (h i hi j u hu))).trans (h i hi j u hu)
theorem Kind.is_kept {α:Type} {K:Kind α} {w w':World} {v:Value} {d:List α} (h:K.Is w v d) (hb:Below w.heap.size w w'):K.Is w' v d:=by
 obtain ⟨p,cap,rfl,h⟩:=h
 refine ⟨p,cap,rfl,?_⟩
 rcases h with h|⟨b,off,hp,h⟩
 ·exact Or.inl h
 ·exact Or.inr ⟨b,off,hp,K.at_kept h hb⟩
theorem Kind.is_nil {α:Type} (K:Kind α) (w:World):K.Is w (.slice none 0 0) []:=⟨none,0,rfl,Or.inl rfl⟩
theorem Kind.own_nil {α:Type} (K:Kind α) (n0:Nat) (w:World):K.Own n0 w (.slice none 0 0) []:=World.ownsRow_nil _ _ _ _
theorem Kind.own_on {α:Type} {K:Kind α} {n0:Nat} {w w':World} {v:Value} {d:List α} (h:K.Own n0 w v d) (hb:Below w.heap.size w w'):K.Own n0 w' v d:=_root_.Go.Proofs.YtjeogllmpjihaaaGreatDoor.own_on h hb
theorem Kind.own_weak {α:Type} {K:Kind α} {n0 n1:Nat} {w:World} {v:Value} {d:List α} (h:K.Own n0 w v d) (hn:n1≤n0):K.Own n1 w v d:=_root_.Go.Proofs.YtjeogllmpjihaaaGreatDoor.own_weak h hn
theorem Kind.own_shape {α:Type} {K:Kind α} {n0:Nat} {w:World} {v:Value} {d:List α} (h:K.Own n0 w v d):∃p cap,v=.slice p d.length cap:=by
 rcases h.2 with ⟨hv,h0⟩|⟨g,cap,cur,hv,_⟩
 ·exact ⟨none,0,by rw [hv,h0]⟩
 ·exact ⟨_,_,hv⟩
theorem Kind.own_is {α:Type} {K:Kind α} {n0:Nat} {w:World} {v:Value} {d:List α} (h:K.Own n0 w v d):K.Is w v d:=by
 rcases h.2 with ⟨rfl,h0⟩|⟨g,c,cur,rfl,_,hg,_,_,hsz,htk⟩
 ·obtain rfl:=List.length_eq_zero_iff.1 h0
  exact K.is_nil w
 ·refine ⟨_,c,rfl,Or.inr ⟨g,0,rfl,fun i hi j u hu=>?_⟩⟩
  have hj:j<K.k:=by
   have:=(List.getElem?_eq_some_iff.1 hu).1
   rwa [K.len] at this
  have hlt:i * K.k+j<d.length * K.k:=by
   have h1:(i+1) * K.k≤d.length * K.k:=Nat.mul_le_mul_right _ hi
   rw [Nat.add_mul,Nat.one_mul] at h1
   omega
  rw [Nat.zero_add,cell_of_row w g _ cur _ _ hg,←Array.getElem?_toList]
  have:(K.cells d)[i * K.k+j]? = cur.toList[i * K.k+j]?:=by rw [←htk,List.getElem?_take,if_pos hlt]
  rw [←this,K.cells_get d i hi j hj,hu]
theorem Kind.src {α:Type} {K:Kind α} {w:World} {p:Option Addr} {d:List α} (h:d=[]∨∃b off,p=some ⟨b,off,none⟩∧K.At w b off d) :
  d.length=0∨∃ad,p=some ad∧∀j u,(K.cells d)[j]? = some u→w.cell? (ad.add j)=some u:=by
 rcases h with rfl|⟨b,off,rfl,hx⟩
 ·exact Or.inl rfl
 ·refine Or.inr ⟨_,rfl,fun j u hu=>?_⟩
  have hj:j<d.length * K.k:=by
   have:=(List.getElem?_eq_some_iff.1 hu).1
   rwa [K.cells_len] at this
  have hk:j / K.k<d.length:=(Nat.div_lt_iff_lt_mul K.pos).2 hj
  have hm:j % K.k<K.k:=Nat.mod_lt _ K.pos
  have e:j / K.k * K.k+j % K.k=j:=by rw [Nat.mul_comm];exact Nat.div_add_mod j K.k
  have hg:=K.cells_get d (j / K.k) hk (j % K.k) hm
  rw [e,hu] at hg
  have:=hx (j / K.k) hk (j % K.k) u hg.symm
  rw [addr_add]
  rw [Nat.add_assoc,e] at this
  exact this
theorem Kind.news {α:Type} (K:Kind α) (w:World) (x:α):∀j u,(K.cells [x])[j]? = some u→(w.alloc (.cells (K.enc x).toArray K.T)).cell? ((⟨w.heap.size,0,none⟩:Addr).add j)=some u:=by
 intro j u hu
 rw [K.cells_one] at hu
 rw [addr_add,Nat.zero_add,cell_of_row _ _ _ _ _ _ (heap_alloc_new w _)]
 simpa using hu
theorem Kind.own_snoc {α:Type} {K:Kind α} {n0:Nat} {w:World} {v:Value} {d:List α} {x:α} {n:Nat} {xs:List Value} (h:w.ownsRow n0 K.T K.k v n xs) (hn:n=d.length+1) (hx:xs=K.cells d++K.cells [x]):K.Own n0 w v (d++[x]):=by
 subst hn hx
 unfold Kind.Own
 rw [K.cells_append,List.length_append]
 exact h
end
section
theorem cb_self (a:List UInt8):Lib.compareBytes a a=0:=by
 induction a with
 | nil=>rfl
 | cons x a ih=>unfold Lib.compareBytes;simp [ih]
theorem cb_zero (a b:List UInt8):Lib.compareBytes a b=0↔a=b:=by
 constructor
 ·induction a generalizing b with
  | nil=>cases b with
   | nil=>intro _;rfl
   | cons y b=>intro h;simp [Lib.compareBytes] at h
  | cons x a ih=>cases b with
   | nil=>intro h;simp [Lib.compareBytes] at h
   | cons y b =>
    intro h
    unfold Lib.compareBytes at h
    split at h
    ·simp at h
    ·split at h
     ·simp at h
     ·rename_i h1 h2
      have:x=y:=by
       apply UInt8.toNat_inj.1
       rw [UInt8.lt_iff_toNat_lt] at h1 h2
       omega
      rw [this,ih b h]
 ·rintro rfl;exact cb_self a
theorem cb_neg (a b:List UInt8):Lib.compareBytes b a=- Lib.compareBytes a b:=by
 induction a generalizing b with
 | nil=>cases b<;>simp [Lib.compareBytes]
 | cons x a ih=>cases b with
  | nil=>simp [Lib.compareBytes]
  | cons y b =>
   unfold Lib.compareBytes
   by_cases h1:x<y
   ·have h2:¬ y<x:=by rw [UInt8.lt_iff_toNat_lt] at h1 ⊢;omega
    simp [h1,h2]
   ·by_cases h2:y<x
    ·simp [h1,h2]
    ·simp [h1,h2,ih b]
theorem cb_range (a b:List UInt8):Lib.compareBytes a b=-1∨Lib.compareBytes a b=0∨Lib.compareBytes a b=1:=by
 induction a generalizing b with
 | nil=>cases b<;>simp [Lib.compareBytes]
 | cons x a ih=>cases b with
  | nil=>simp [Lib.compareBytes]
  | cons y b =>
   unfold Lib.compareBytes
   by_cases h1:x<y
   ·simp [h1]
   ·by_cases h2:y<x
    ·simp [h1,h2]
    ·simpa [h1,h2] using ih b
theorem cb_lt_trans (a b c:List UInt8) (h1:Lib.compareBytes a b<0) (h2:Lib.compareBytes b c<0):Lib.compareBytes a c<0:=by
 induction a generalizing b c with
 | nil=>cases c with
  | nil=>cases b<;>simp [Lib.compareBytes] at h1 h2
  | cons z c=>simp [Lib.compareBytes]
 | cons x a ih=>cases b with
  | nil=>simp [Lib.compareBytes] at h1
  | cons y b=>cases c with
   | nil=>simp [Lib.compareBytes] at h2
   | cons z c =>
    unfold Lib.compareBytes at h1 h2 ⊢
    simp only [UInt8.lt_iff_toNat_lt] at h1 h2 ⊢
    by_cases p1:x.toNat<y.toNat
    ·by_cases q1:y.toNat<z.toNat
     ·rw [if_pos (by omega)];decide
     ·rw [if_neg q1] at h2
      by_cases q2:z.toNat<y.toNat
      ·rw [if_pos q2] at h2;simp at h2
      ·rw [if_pos (by omega)];decide
    ·rw [if_neg p1] at h1
     by_cases p2:y.toNat<x.toNat
     ·rw [if_pos p2] at h1;simp at h1
     ·rw [if_neg p2] at h1
      by_cases q1:y.toNat<z.toNat
      ·rw [if_pos (by omega)];decide
      ·rw [if_neg q1] at h2
       by_cases q2:z.toNat<y.toNat
       ·rw [if_pos q2] at h2;simp at h2
       ·rw [if_neg q2] at h2
        rw [if_neg (by omega),if_neg (by omega)]
        exact ih b c h1 h2
theorem cb_less (a b:List UInt8):decide (Lib.compareBytes a b<0)=Op.bytesLess a b:=by
 induction a generalizing b with
 | nil=>cases b<;>simp [Lib.compareBytes,Op.bytesLess]
 | cons x a ih=>cases b with
  | nil=>simp [Lib.compareBytes,Op.bytesLess]
  | cons y b =>
   unfold Lib.compareBytes Op.bytesLess
   rw [←ih b]
   by_cases h1:x<y
   ·simp [h1]
   ·by_cases h2:y<x
    ·have hne:(x==y)=false:=by
      rw [beq_eq_false_iff_ne];rintro rfl;exact h1 h2
     simp [h1,h2,hne]
    ·have he:x=y:=by
      apply UInt8.toNat_inj.1
      rw [UInt8.lt_iff_toNat_lt] at h1 h2
      omega
     simp [he]
def pairI (x y:Int):Int:=if x=0 then y else x
end
section
open Go.RowKit Go.Lib
def ltB (a b:ByteArray):Bool:=decide (Lib.compareBytes a.data.toList b.data.toList<0)
theorem ba_eq {a b:ByteArray} (h:a.data.toList=b.data.toList):a=b:=by
 obtain ⟨⟨a⟩⟩:=a
 obtain ⟨⟨b⟩⟩:=b
 cases h
 rfl
theorem ltB_anti {a b:ByteArray} (h:ltB a b=false) (k:ltB b a=false):a=b:=by
 unfold ltB at *
 rw [decide_eq_false_iff_not] at *
 refine ba_eq ((cb_zero _ _).1 ?_)
 have:=cb_neg a.data.toList b.data.toList
 omega
theorem ltB_irrefl (a:ByteArray):ltB a a=false:=by
 unfold ltB;rw [cb_self];rfl
theorem ltB_asymm {a b:ByteArray} (h:ltB a b=true):ltB b a=false:=by
 unfold ltB at *
 rw [decide_eq_true_iff] at h
 rw [decide_eq_false_iff_not]
 have:=cb_neg a.data.toList b.data.toList
 omega
theorem ltB_trans {a b c:ByteArray} (h:ltB a b=true) (k:ltB b c=true):ltB a c=true:=by
 unfold ltB at *
 rw [decide_eq_true_iff] at *
 exact cb_lt_trans _ _ _ h k
theorem ltB_cases (a b:ByteArray):ltB a b=true∨a=b∨ltB b a=true:=by
 cases h:ltB a b with
 | true=>exact Or.inl rfl
 | false =>
  cases k:ltB b a with
  | true=>exact Or.inr (Or.inr rfl)
  | false=>exact Or.inr (Or.inl (ltB_anti h k))
theorem sless_of {a b:ByteArray} {c:Bool} (h:ltB a b=c):Op.bytesLess a.toList b.toList=c:=by
 rw [←h]
 unfold ltB
 rw [Lib.toList_data,Lib.toList_data,cb_less]
theorem seq_false {a b:ByteArray} (h:a≠b):(a.toList==b.toList)=false:=by
 rw [Lib.toList_data,Lib.toList_data,beq_eq_false_iff_ne]
 exact fun e=>h (ba_eq e)
theorem seq_true {a b:ByteArray} (h:a=b):(a.toList==b.toList)=true:=by rw [h];simp
theorem sempty_of {a:ByteArray} (h:a.size=0):a.toList.isEmpty=true:=by
 rw [Lib.toList_data]
 have:a.data.toList=[]:=List.length_eq_zero_iff.1 (by simpa using h)
 rw [this];rfl
theorem sfull_of {a:ByteArray} (h:a.size≠0):a.toList.isEmpty=false:=by
 rw [Lib.toList_data]
 cases e:a.data.toList with
 | nil=>exact absurd (by simpa using congrArg List.length e) h
 | cons _ _=>rfl
end
section
open Go.RowKit
abbrev Tm:=ByteArray × Int × ByteArray
def encM (x:Tm):List Value:=[.string x.1,.int .i64 x.2.1,.string x.2.2]
def KM:Kind Tm:=⟨49,3,encM,fun _=>rfl,by decide,fun x u hu=>by simp [encM] at hu;rcases hu with rfl|rfl|rfl<;>rfl⟩
def FitM (p:List Tm):Prop:=p.length≤maxLen∧∀x∈p,x.1.size≤maxLen∧x.2.2.size≤maxLen∧-9223372036854775808≤x.2.1∧x.2.1≤9223372036854775807
def rightM (x:Tm):Bool:=decide (1≤x.2.1)&&decide (x.2.1≤7)&&(decide (x.2.1<6)||decide (x.2.2.size=0))
def namedM (x:Tm):Bool:=fieldB x.1.data.toList
def shortM (x:Tm):Bool:=decide (x.2.2.size≤128)
def mayM (p:List Tm):Int:=if 8<p.length then 5 else if p.all namedM=false then 2 else if p.all rightM=false then 1 else if p.all shortM=false then 5 else 0
def ltM (a b:Tm):Bool:=if a.1≠b.1 then ltB a.1 b.1 else if a.2.1≠b.2.1 then decide (a.2.1<b.2.1) else ltB a.2.2 b.2.2
theorem ltM_irrefl (a:Tm):ltM a a=false:=by simp [ltM,ltB_irrefl]
theorem ltB_eq_false {a b:ByteArray} (h:ltB a b=true):a≠b:=by
 rintro rfl
 rw [ltB_irrefl] at h
 cases h
theorem ltM_cases (a b:Tm):ltM a b=true∨a=b∨ltM b a=true:=by
 obtain ⟨a1,a2,a3⟩:=a
 obtain ⟨b1,b2,b3⟩:=b
 unfold ltM
 simp only
 by_cases h1:a1=b1
 ·subst h1
  by_cases h2:a2=b2
  ·subst h2
   rcases ltB_cases a3 b3 with h|h|h
   ·left;simpa using h
   ·right;left;rw [h]
   ·right;right;simpa using h
  ·have h2':b2≠a2:=fun e=>h2 e.symm
   rcases Int.lt_or_gt_of_ne h2 with h|h
   ·left;simp [h2,h]
   ·right;right;simp [h2',h]
 ·have h1':b1≠a1:=fun e=>h1 e.symm
  rcases ltB_cases a1 b1 with h|h|h
  ·left;simp [h1,h]
  ·exact absurd h h1
  ·right;right;simp [h1',h]
theorem ltM_trans {a b c:Tm} (h:ltM a b=true) (k:ltM b c=true):ltM a c=true:=by
 obtain ⟨a1,a2,a3⟩:=a
 obtain ⟨b1,b2,b3⟩:=b
 obtain ⟨c1,c2,c3⟩:=c
 unfold ltM at *
 simp only at *
 by_cases h1:a1=b1
 ·subst h1
  by_cases k1:a1=c1
  ·subst k1
   simp only [ne_eq,not_true_eq_false,if_false] at *
   by_cases h2:a2=b2
   ·subst h2
    by_cases k2:a2=c2
    ·subst k2
     simp only [not_true_eq_false,if_false] at *
     exact ltB_trans h k
    ·simp only [not_true_eq_false,if_false,k2,not_false_eq_true,if_true] at *
     exact k
   ·by_cases k2:b2=c2
    ·subst k2
     simp only [h2,not_false_eq_true,if_true] at *
     exact h
    ·simp only [h2,k2,not_false_eq_true,if_true,decide_eq_true_eq] at h k
     have h3:a2≠c2:=by omega
     simp only [h3,not_false_eq_true,if_true,decide_eq_true_eq]
     omega
  ·simp only [ne_eq,k1,not_false_eq_true,if_true] at *
   exact k
 ·by_cases k1:b1=c1
  ·subst k1
   simp only [ne_eq,h1,not_false_eq_true,if_true] at *
   exact h
  ·simp only [ne_eq,h1,k1,not_false_eq_true,if_true] at h k
   have h3:ltB a1 c1=true:=ltB_trans h k
   have h4:a1≠c1:=ltB_eq_false h3
   simp only [ne_eq,h4,not_false_eq_true,if_true]
   exact h3
theorem ltM_asymm {a b:Tm} (h:ltM a b=true):ltM b a=false:=by
 cases k:ltM b a with
 | false=>rfl
 | true =>
  have:=ltM_trans h k
  rw [ltM_irrefl] at this
  cases this
theorem ltM_ne {a b:Tm} (h:ltM a b=true):a≠b:=by
 rintro rfl
 rw [ltM_irrefl] at h
 cases h
def RisingM (l:List Tm):Prop:=l.Pairwise fun x y=>ltM x y=true
theorem rising_unique:∀(a b:List Tm),RisingM a→RisingM b→(∀x,x∈a↔x∈b)→a=b
 | [],[],_,_,_=>rfl
 | [],y::b,_,_,h=>by have:=(h y).2 (by simp);simp at this
 | x::a,[],_,_,h=>by have:=(h x).1 (by simp);simp at this
 | x::a,y::b,ha,hb,h=>by
  have ha':=List.pairwise_cons.1 ha
  have hb':=List.pairwise_cons.1 hb
  have hxy:x=y:=by
   rcases List.mem_cons.1 ((h x).1 (by simp)) with e|e
   ·exact e
   ·rcases List.mem_cons.1 ((h y).2 (by simp)) with e2|e2
    ·exact e2.symm
    ·have h1:=hb'.1 x e
     have h2:=ha'.1 y e2
     rw [ltM_asymm h1] at h2
     cases h2
  subst hxy
  congr 1
  refine rising_unique a b ha'.2 hb'.2 fun z=>⟨fun hz=>?_,fun hz=>?_⟩
  ·rcases List.mem_cons.1 ((h z).1 (by simp [hz])) with e|e
   ·exact absurd e.symm (ltM_ne (ha'.1 z hz))
   ·exact e
  ·rcases List.mem_cons.1 ((h z).2 (by simp [hz])) with e|e
   ·exact absurd e.symm (ltM_ne (hb'.1 z hz))
   ·exact e
def insM (x:Tm):List Tm→List Tm
 | []=>[x]
 | y::l=>if ltM x y then x::y::l else if x=y then y::l else y::insM x l
def sortM (p:List Tm):List Tm:=p.foldl (fun acc x=>insM x acc) []
theorem mem_insM (x z:Tm) (l:List Tm):z∈insM x l↔z=x∨z∈l:=by
 induction l with
 | nil=>simp [insM]
 | cons y l ih =>
  unfold insM
  split
  ·simp
  ·split
   ·rename_i h;subst h;simp
   ·simp [ih,or_left_comm]
theorem insM_rising (x:Tm) (l:List Tm) (h:RisingM l):RisingM (insM x l):=by
 induction l with
 | nil=>exact List.pairwise_singleton _ _
 | cons y l ih =>
  have h':=List.pairwise_cons.1 h
  unfold insM
  split
  ·rename_i hlt
   refine List.pairwise_cons.2 ⟨fun z hz=>?_,h⟩
   rcases List.mem_cons.1 hz with rfl|hz
   ·exact hlt
   ·exact ltM_trans hlt (h'.1 z hz)
  ·rename_i hlt
   split
   ·exact h
   ·rename_i hne
    refine List.pairwise_cons.2 ⟨fun z hz=>?_,ih h'.2⟩
    rcases (mem_insM x z l).1 hz with rfl|hz
    ·rcases ltM_cases z y with h1|h1|h1
     ·exact absurd h1 hlt
     ·exact absurd h1 hne
     ·exact h1
    ·exact h'.1 z hz
theorem sortM_spec (p:List Tm):RisingM (sortM p)∧∀x,x∈sortM p↔x∈p:=by
 have:∀(l acc:List Tm),RisingM acc→RisingM (l.foldl (fun acc x=>insM x acc) acc)∧∀x,x∈l.foldl (fun acc x=>insM x acc) acc↔x∈acc∨x∈l:=by
  intro l
  induction l with
  | nil=>intro acc h;exact ⟨h,fun x=>by simp⟩
  | cons y l ih =>
   intro acc h
   obtain ⟨h1,h2⟩:=ih (insM y acc) (insM_rising y acc h)
   refine ⟨h1,fun x=>?_⟩
   rw [List.foldl_cons,h2,mem_insM,List.mem_cons]
   constructor
   ·rintro ((h|h)|h)
    ·exact Or.inr (Or.inl h)
    ·exact Or.inl h
    ·exact Or.inr (Or.inr h)
   ·rintro (h|h|h)
    ·exact Or.inl (Or.inr h)
    ·exact Or.inl (Or.inl h)
    ·exact Or.inr h
 obtain ⟨h1,h2⟩:=this p [] List.Pairwise.nil
 exact ⟨h1,fun x=>by rw [sortM,h2];simp⟩
theorem sortM_unique {p l:List Tm} (h1:RisingM l) (h2:∀x,x∈l↔x∈p):l=sortM p :=
 rising_unique _ _ h1 (sortM_spec p).1 fun x=>(h2 x).trans ((sortM_spec p).2 x).symm
theorem sortM_len (p:List Tm):(sortM p).length≤p.length:=by
 have key:∀(x:Tm) (l:List Tm),(insM x l).length≤l.length+1:=by
  intro x l
  induction l with
  | nil=>simp [insM]
  | cons y l ih =>
   unfold insM
   split
   ·simp
   ·split
    ·simp
    ·simp;omega
 have:∀(l acc:List Tm),(l.foldl (fun acc x=>insM x acc) acc).length≤acc.length+l.length:=by
  intro l
  induction l with
  | nil=>intro acc;simp
  | cons y l ih =>
   intro acc
   have h1:=ih (insM y acc)
   have h2:=key y acc
   rw [List.foldl_cons,List.length_cons]
   omega
 simpa [sortM] using this p []
theorem mayM_perm {p q:List Tm} (h:∀x,x∈p↔x∈q) (hl:p.length≤8) (hm:q.length≤8):mayM p=mayM q:=by
 have key:∀f:Tm→Bool,p.all f=q.all f:=fun f=>by
  rw [Bool.eq_iff_iff,List.all_eq_true,List.all_eq_true]
  exact ⟨fun H x hx=>H x ((h x).2 hx),fun H x hx=>H x ((h x).1 hx)⟩
 unfold mayM
 rw [if_neg (show ¬ 8<p.length by omega),key namedM,key rightM,key shortM,if_neg (show ¬ 8<q.length by omega)]
def ansM (p:List Tm):List Tm:=if mayM p=0 then sortM p else []
theorem mayM_zero {p:List Tm} (h:mayM p=0):p.length≤8∧p.all namedM=true∧p.all rightM=true∧p.all shortM=true:=by
 unfold mayM at h
 split at h
 ·omega
 ·rename_i h1
  split at h
  ·omega
  ·rename_i h2
   split at h
   ·omega
   ·rename_i h3
    split at h
    ·omega
    ·rename_i h4
     exact ⟨by omega,by simpa using h2,by simpa using h3,by simpa using h4⟩
end
section
open Go.RowKit
def cls (n:Int):Int:=if bigB n then 1 else if smallB n then 2 else if digB n then 3 else if n=45∨n=46 then 4 else 0
theorem cls_cases (n:Int) :
  (cls n=1∧bigB n=true∧smallB n=false∧letB n=true∧lodB n=true∧idB n=true) ∨
  (cls n=2∧bigB n=false∧smallB n=true∧letB n=true∧lodB n=true∧idB n=true) ∨
  (cls n=3∧bigB n=false∧smallB n=false∧letB n=false∧lodB n=true∧idB n=true) ∨
  (cls n=4∧bigB n=false∧smallB n=false∧letB n=false∧lodB n=false∧idB n=true) ∨
  (cls n=0∧bigB n=false∧smallB n=false∧letB n=false∧lodB n=false∧idB n=false):=by
 cases h1:bigB n
 ·cases h2:smallB n
  ·cases h3:digB n
   ·by_cases h4:n=45∨n=46
    ·right;right;right;left
     refine ⟨by simp [cls,h1,h2,h3,h4],rfl,rfl,by simp [letB,h1,h2],by simp [lodB,letB,h1,h2,h3],?_⟩
     rcases h4 with rfl|rfl<;>decide
    ·right;right;right;right
     have h45:(n==45)=false:=beq_eq_false_iff_ne.2 fun e=>h4 (.inl e)
     have h46:(n==46)=false:=beq_eq_false_iff_ne.2 fun e=>h4 (.inr e)
     exact ⟨by simp [cls,h1,h2,h3,h4],rfl,rfl,by simp [letB,h1,h2],by simp [lodB,letB,h1,h2,h3],by simp [idB,lodB,letB,h1,h2,h3,h45,h46]⟩
   ·right;right;left
    exact ⟨by simp [cls,h1,h2,h3],rfl,rfl,by simp [letB,h1,h2],by simp [lodB,h3],by simp [idB,lodB,h3]⟩
  ·right;left
   exact ⟨by simp [cls,h1,h2],rfl,rfl,by simp [letB,h2],by simp [lodB,letB,h2],by simp [idB,lodB,letB,h2]⟩
 ·left
  have h2:smallB n=false:=by
   rw [bigB_true] at h1
   rw [Bool.eq_false_iff,Ne,smallB_true];omega
  exact ⟨by simp [cls,h1],rfl,h2,by simp [letB,h1],by simp [lodB,letB,h1],by simp [idB,lodB,letB,h1]⟩
set_option maxHeartbeats 400000 in
theorem class_any (n:Int) (w:World):Calls Tryz.prog 125 #[.int .u8 n] w fun e w'=>e=.returned (.int .i64 (cls n))∧w'=w:=by
 go_enter Tryz.func125,Tryz.ntmps125
 go_wp2
 all_goals go_ret
 all_goals refine ⟨ret_int ?_,rfl⟩
 all_goals (simp_all [cls,bigB,smallB,digB];try omega)
set_option maxHeartbeats 1000000 in
theorem rfield_any (s : ByteArray) (w : World) (hs : s.size ≤ maxLen) :
    Calls Tryz.prog 126 #[.string s] w fun e w' => e = .returned (.bool (fieldB s.data.toList)) ∧ w' = w := by
  unfold maxLen at hs
  have HE := hid (spell_empty smallB lodB s)
  have HG := hid (spell_long smallB lodB s)
  have HF := hid (spell_first smallB lodB s)
  have HA := hid (spell_at smallB lodB s)
  have HT := hid (spell_true smallB lodB s)
  have HB : Hid (fieldB s.data.toList = spell smallB lodB s.data.toList) := rfl
  go_enter Tryz.func126, Tryz.ntmps126
  go_wp2
  go_loop [3] (fun i => ∃ k : Nat, k ≤ s.size ∧ i = .int .i64 k ∧ (∀ j, j < k → (hj : j < s.size) → (j = 0 → smallB (s[j].toNat : Int) = true) ∧ (1 ≤ j → lodB (s[j].toNat : Int) = true))) (fun i => s.size - (intOf i).toNat)
  case atStart => exact ⟨0, by omega, rfl, fun j h => by omega⟩
  case round =>
    obtain ⟨k, hk, rfl, hall⟩ := hrel
    have HL := hid hall
    clear hall
    by_cases hlt : k < s.size
    · rcases Nat.eq_zero_or_pos k with h0 | h0
      · have HZ := hid h0
        have hz : ((k : Int) == 0) = true := by rw [h0]; rfl
        clear h0
        rcases cls_cases (s[k].toNat : Int) with h | h | h | h | h
        all_goals
          have HC := hid h
          clear h
          go_wp2_with (go_at_call 125; refine (class_any _ _).mono ?_; rintro e w' ⟨rfl, rfl⟩; rw [HC.out.1])
          first
          | (go_ret; exact ⟨ret_bool (by rw [HB.out]; have hz' := HZ.out; subst hz'; exact (HF.out hlt (by first | exact HC.out.2.1 | exact HC.out.2.2.1 | exact HC.out.2.2.2.2.1 | exact HC.out.2.2.2.2.2)).symm), rfl⟩)
          | (go_round
             case rel =>
               refine ⟨k + 1, by omega, by go_num, fun j h1 hj => ?_⟩
               have hz' := HZ.out
               have hj0 : j = k := by omega
               subst hj0
               exact ⟨fun _ => (by first | exact HC.out.2.1 | exact HC.out.2.2.1 | exact HC.out.2.2.2.2.1 | exact HC.out.2.2.2.2.2), fun _ => by omega⟩
             case measure => simp [intOf]; omega)
      · have HZ := hid h0
        have hz : ((k : Int) == 0) = false := by rw [beq_eq_false_iff_ne]; omega
        clear h0
        rcases cls_cases (s[k].toNat : Int) with h | h | h | h | h
        all_goals
          have HC := hid h
          clear h
          go_wp2_with (go_at_call 125; refine (class_any _ _).mono ?_; rintro e w' ⟨rfl, rfl⟩; rw [HC.out.1])
          first
          | (go_ret; exact ⟨ret_bool (by rw [HB.out]; exact (HA.out k HZ.out hlt (by first | exact HC.out.2.2.2.1 | exact HC.out.2.2.2.2.1 | exact HC.out.2.2.2.2.2)).symm), rfl⟩)
          | (go_round
             case rel =>
               refine ⟨k + 1, by omega, by go_num, fun j h1 hj => ?_⟩
               by_cases hjk : j = k
               · subst hjk
                 exact ⟨fun e => by have := HZ.out; omega, fun _ => (by first | exact HC.out.2.2.2.1 | exact HC.out.2.2.2.2.1 | exact HC.out.2.2.2.2.2)⟩
               · exact HL.out j (by omega) hj
             case measure => simp [intOf]; omega)
    · have hks : k = s.size := by omega
      rcases Nat.eq_zero_or_pos s.size with hz | hz
      · have hn : ¬ (0 : Int) < (s.size : Int) := by omega
        have HZ := hid hz
        clear hz hks
        go_wp2_with fail
        go_ret
        exact ⟨ret_bool (by rw [HB.out]; exact (HE.out HZ.out).symm), rfl⟩
      · have hn : (0 : Int) < (s.size : Int) := by omega
        by_cases hm : s.size ≤ 32
        · have hm' : (s.size : Int) ≤ 32 := by omega
          have HK := hid hks
          clear hks
          go_wp2_with fail
          go_ret
          refine ⟨ret_bool (by rw [HB.out]; exact (HT.out hz hm ((HL.out 0 (by have := HK.out; omega) hz).1 rfl) (fun j h1 hj => (HL.out j (by have := HK.out; omega) hj).2 h1)).symm), rfl⟩
        · have hm' : ¬ (s.size : Int) ≤ 32 := by omega
          clear hks
          go_wp2_with fail
          go_ret
          exact ⟨ret_bool (by rw [HB.out]; exact (HG.out (by omega)).symm), rfl⟩
end
section
open Go.RowKit
theorem km_cells {w:World} {b off:Nat} {p:List Tm} (h:KM.At w b off p) (i:Nat) (hi:i<p.length) :
  w.cell? ⟨b,off+i * 3,none⟩=some (.string (p[i]).1)∧w.cell? ⟨b,off+i * 3+1,none⟩=some (.int .i64 (p[i]).2.1)∧w.cell? ⟨b,off+i * 3+2,none⟩=some (.string (p[i]).2.2) :=
 ⟨h i hi 0 _ rfl,h i hi 1 _ rfl,h i hi 2 _ rfl⟩
set_option maxHeartbeats 1000000 in
theorem rless_any (a b:Tm) (w:World):Calls Tryz.prog 128 #[.agg #[.string a.1,.int .i64 a.2.1,.string a.2.2],.agg #[.string b.1,.int .i64 b.2.1,.string b.2.2]] w fun e w'=>e=.returned (.bool (ltM a b))∧Grown w w':=by
 obtain ⟨a1,a2,a3⟩:=a
 obtain ⟨b1,b2,b3⟩:=b
 simp only
 obtain ⟨r,hr⟩:∃r,ltM (a1,a2,a3) (b1,b2,b3)=r:=⟨_,rfl⟩
 rw [hr]
 unfold ltM at hr
 simp only at hr
 by_cases h1:a1=b1
 ·have f1:=seq_true h1
  by_cases h2:a2=b2
  ·have f2:(a2==b2)=true:=beq_iff_eq.2 h2
   have f2':(a2 != b2)=false:=by simp [h2]
   rw [if_neg (by simp [h1]),if_neg (by simp [h2])] at hr
   have f3:=sless_of hr
   clear h1 h2 hr
   go_enter Tryz.func128,Tryz.ntmps128
   go_wp2_with fail
   go_ret
   exact ⟨rfl,((Grown.refl _).alloc _).alloc _⟩
  ·have f2:(a2==b2)=false:=beq_eq_false_iff_ne.2 h2
   have f2':(a2 != b2)=true:=by simp [h2]
   rw [if_neg (by simp [h1]),if_pos h2] at hr
   have HR:=hid hr
   clear h1 h2 hr
   go_enter Tryz.func128,Tryz.ntmps128
   go_wp2_with fail
   go_ret
   exact ⟨ret_bool HR.out,((Grown.refl _).alloc _).alloc _⟩
 ·have f1:=seq_false h1
  rw [if_pos h1] at hr
  have f3:=sless_of hr
  clear h1 hr
  go_enter Tryz.func128,Tryz.ntmps128
  go_wp2_with fail
  go_ret
  exact ⟨rfl,((Grown.refl _).alloc _).alloc _⟩
theorem all_snoc {p:List Tm} {f:Tm→Bool} {i:Nat} (h:i<p.length):(p.take (i+1)).all f=((p.take i).all f&&f p[i]):=by
 rw [List.take_succ_eq_append_getElem h,List.all_append]
 simp
set_option maxHeartbeats 4000000 in
set_option maxRecDepth 100000 in
theorem rmayM_any (v:Value) (p:List Tm) (w:World) (hv:KM.Is w v p) (hf:FitM p) :
  Calls Tryz.prog 127 #[v] w fun e w'=>e=.returned (.int .i64 (mayM p))∧w'=w:=by
 obtain ⟨q,cap,rfl,hd⟩:=hv
 have hl:=hf.1
 unfold maxLen at hl
 have HD:=hid hd
 have HF:=hid hf.2
 obtain ⟨r,hr⟩:∃r,mayM p=r:=⟨_,rfl⟩
 rw [hr]
 have HR:=hid hr
 clear hd hf hr
 by_cases h8:8<p.length
 ·have h8z:(8:Int)<(p.length:Int):=by omega
  have H0:Hid (r=5):=by show _=_;rw [←HR.out];unfold mayM;rw [if_pos h8]
  clear h8
  go_enter Tryz.func127,Tryz.ntmps127
  go_wp2_with fail
  go_ret
  exact ⟨ret_int H0.out.symm,rfl⟩
 ·have h8z:¬ (8:Int)<(p.length:Int):=by omega
  have HR2:Hid (r=if p.all namedM=false then 2 else if p.all rightM=false then 1 else if p.all shortM=false then 5 else 0):=by show _=_;rw [←HR.out];unfold mayM;rw [if_neg h8]
  clear h8
  go_enter Tryz.func127,Tryz.ntmps127
  go_wp2_with fail
  go_loopg [3,4,5,6] p.length (fun g v3 v4 v5 vi wr=>∃i:Nat,vi=.int .i64 i∧i≤p.length∧p.length-i≤g∧v3=.bool ((p.take i).all namedM)∧v4=.bool ((p.take i).all rightM)∧v5=.bool ((p.take i).all shortM)∧w=wr)
  case atStart=>exact ⟨0,rfl,by omega,by omega,by simp,by simp,by simp,rfl⟩
  case round =>
  obtain ⟨i,rfl,hi,hgk,rfl,rfl,rfl,rfl⟩:=hrel
  by_cases hlt:i<p.length
  ·have hltz:(i:Int)<(p.length:Int):=by omega
   have hiz:(0:Int)≤(i:Int):=by omega
   obtain ⟨b,off,rfl,hat⟩:∃b off,q=some ⟨b,off,none⟩∧KM.At w b off p:=by
    rcases HD.out with h|h
    ·subst h;simp at hlt
    ·exact h
   obtain ⟨c0,c1,c2⟩:=km_cells hat i hlt
   have hfx:=HF.out _ (List.getElem_mem hlt)
   have HN:=hid (all_snoc (f:=namedM) hlt)
   have HG:=hid (all_snoc (f:=rightM) hlt)
   have HS:=hid (all_snoc (f:=shortM) hlt)
   obtain ⟨x,hx⟩:∃x,p[i]=x:=⟨_,rfl⟩
   rw [hx] at c0 c1 c2 hfx HN HG HS
   obtain ⟨xf,xo,xt⟩:=x
   simp only at c0 c1 c2
   obtain ⟨B1,hB1⟩:∃B,(p.take i).all namedM=B:=⟨_,rfl⟩
   obtain ⟨B2,hB2⟩:∃B,(p.take i).all rightM=B:=⟨_,rfl⟩
   obtain ⟨B3,hB3⟩:∃B,(p.take i).all shortM=B:=⟨_,rfl⟩
   rw [hB1] at HN ⊢
   rw [hB2] at HG ⊢
   rw [hB3] at HS ⊢
   obtain ⟨hs1,hs2,hs3,hs4⟩:=hfx
   simp only at hs1 hs2 hs3 hs4
   have HFC:Hid (∀W,Calls Tryz.prog 126 #[.string xf] W fun e w'=>e=.returned (.bool (fieldB xf.data.toList))∧w'=W):=fun W=>rfield_any xf W hs1
   unfold maxLen at hs2
   clear hat hx hB1 hB2 hB3 hs1
   go_upto_region 7 with fail
   go_cut [3] from 10 to 67 (fun v wx=>w=wx∧v=.bool (B1&&fieldB xf.data.toList))
   case first =>
    cases B1 with
    | false =>
     go_wp2_with fail
     go_meet
     case rel=>exact ⟨rfl,rfl⟩
    | true =>
     go_wp2_with (first|(go_at_call 126;refine (HFC.out _).mono ?_;rintro e w1 ⟨rfl,rfl⟩))
     go_meet
     case rel=>exact ⟨rfl,rfl⟩
   case rest =>
   obtain ⟨rfl,rfl⟩:=hcut
   go_upto_region 8 with fail
   go_cut [4] from 10 to 67 (fun v wx=>w=wx∧v=.bool (B2&&rightM (xf,xo,xt)))
   case first =>
    have HRM:Hid (rightM (xf,xo,xt)=(decide (1≤xo)&&decide (xo≤7)&&(decide (xo<6)||decide (xt.size=0)))):=rfl
    cases B2 with
    | false =>
     go_wp2_with fail
     go_meet
     case rel=>exact ⟨rfl,rfl⟩
    | true =>
     by_cases g1:1≤xo
     ·have d1:decide (1≤xo)=true:=decide_eq_true g1
      by_cases g2:xo≤7
      ·have d2:decide (xo≤7)=true:=decide_eq_true g2
       by_cases g3:xo<6
       ·have d3:decide (xo<6)=true:=decide_eq_true g3
        have HV:Hid (rightM (xf,xo,xt)=true):=by show _=_;rw [HRM.out,d1,d2,d3];rfl
        go_wp2_with fail
        go_meet
        case rel=>exact ⟨rfl,by rw [HV.out];rfl⟩
       ·have d3:decide (xo<6)=false:=decide_eq_false g3
        by_cases g4:xt.size=0
        ·have e4:=sempty_of g4
         have HV:Hid (rightM (xf,xo,xt)=true):=by show _=_;rw [HRM.out,d1,d2,d3,decide_eq_true g4];rfl
         clear g4
         go_wp2_with fail
         go_meet
         case rel=>exact ⟨rfl,by rw [HV.out];rfl⟩
        ·have e4:=sfull_of g4
         have HV:Hid (rightM (xf,xo,xt)=false):=by show _=_;rw [HRM.out,d1,d2,d3,decide_eq_false g4];rfl
         clear g4
         go_wp2_with fail
         go_meet
         case rel=>exact ⟨rfl,by rw [HV.out];rfl⟩
      ·have d2:decide (xo≤7)=false:=decide_eq_false g2
       have HV:Hid (rightM (xf,xo,xt)=false):=by show _=_;rw [HRM.out,d1,d2];rfl
       go_wp2_with fail
       go_meet
       case rel=>exact ⟨rfl,by rw [HV.out];rfl⟩
     ·have d1:decide (1≤xo)=false:=decide_eq_false g1
      have HV:Hid (rightM (xf,xo,xt)=false):=by show _=_;rw [HRM.out,d1];rfl
      go_wp2_with fail
      go_meet
      case rel=>exact ⟨rfl,by rw [HV.out];rfl⟩
   case rest =>
   obtain ⟨rfl,rfl⟩:=hcut
   have HSM:Hid (shortM (xf,xo,xt)=decide (xt.size≤128)):=rfl
   cases B3 with
   | false =>
    go_wp2_with fail
    go_roundg (p.length-(i+1))
    case measure=>omega
    case rel=>exact ⟨i+1,by go_num,by omega,by omega,by rw [HN.out];rfl,by rw [HG.out],by rw [HS.out];rfl,rfl⟩
   | true =>
    by_cases g1:xt.size≤128
    ·have g1z:(xt.size:Int)≤128:=by omega
     have HV:Hid (shortM (xf,xo,xt)=true):=by show _=_;rw [HSM.out];exact decide_eq_true g1
     go_wp2_with fail
     go_roundg (p.length-(i+1))
     case measure=>omega
     case rel=>exact ⟨i+1,by go_num,by omega,by omega,by rw [HN.out];rfl,by rw [HG.out],by rw [HS.out,HV.out];rfl,rfl⟩
    ·have g1z:¬ (xt.size:Int)≤128:=by omega
     have HV:Hid (shortM (xf,xo,xt)=false):=by show _=_;rw [HSM.out];exact decide_eq_false g1
     go_wp2_with fail
     go_roundg (p.length-(i+1))
     case measure=>omega
     case rel=>exact ⟨i+1,by go_num,by omega,by omega,by rw [HN.out];rfl,by rw [HG.out],by rw [HS.out,HV.out];rfl,rfl⟩
  ·have hltz:¬ (i:Int)<(p.length:Int):=by omega
   rw [List.take_of_length_le (by omega)]
   cases h1:p.all namedM with
   | false =>
    have H0:Hid (r=2):=by show _=_;rw [HR2.out,h1];rfl
    clear h1
    go_wp2_with fail
    go_ret
    exact ⟨ret_int H0.out.symm,rfl⟩
   | true =>
    cases h2:p.all rightM with
    | false =>
     have H0:Hid (r=1):=by show _=_;rw [HR2.out,h1,h2];rfl
     clear h1 h2
     go_wp2_with fail
     go_ret
     exact ⟨ret_int H0.out.symm,rfl⟩
    | true =>
     cases h3:p.all shortM with
     | false =>
      have H0:Hid (r=5):=by show _=_;rw [HR2.out,h1,h2,h3];rfl
      clear h1 h2 h3
      go_wp2_with fail
      go_ret
      exact ⟨ret_int H0.out.symm,rfl⟩
     | true =>
      have H0:Hid (r=0):=by show _=_;rw [HR2.out,h1,h2,h3];rfl
      clear h1 h2 h3
      go_wp2_with fail
      go_ret
      exact ⟨ret_int H0.out.symm,rfl⟩
end
section
open Go.RowKit
theorem Tryz.infoTrm:(Tryz.prog.info? 49).map (fun i=>(i.zero,i.size,i.bytes))=some (some (.agg #[.string ⟨#[]⟩,.int .i64 0,.string ⟨#[]⟩]),3,40):=by kernel_rfl
theorem neq_term (a b:Tm) (w:World):(binOp .neq 49 (.agg #[.string a.1,.int .i64 a.2.1,.string a.2.2]) (.agg #[.string b.1,.int .i64 b.2.1,.string b.2.2])).run Tryz.prog w=.ok (.bool (!decide (a=b))) w:=by
 obtain ⟨a1,a2,a3⟩:=a
 obtain ⟨b1,b2,b3⟩:=b
 have hS:Tryz.prog.underlying 49=some (.struct (Tryz.prog.fieldsOf 49)):=by kernel_rfl
 have hp:Tryz.prog.stoodInHeld 49=false:=by kernel_rfl
 have u9:=Tryz.underlying9
 have a9:=Tryz.isAgg9
 have z9:=Tryz.sizeOf9
 have u3:=Tryz.underlying3
 have a3':=Tryz.isAgg3
 have z3:=Tryz.sizeOf3
 rw [run_neq_struct,show (10000:Nat)=9999+1 from rfl,run_equalIn_agg w 9999 49 _ _ hS hp]
 simp only [Program.fieldsOf,Tryz.underlying49]
 go_simp
 by_cases h1:a1=b1
 ·subst h1
  by_cases h2:a2=b2
  ·subst h2
   by_cases h3:a3=b3
   ·subst h3;simp
   ·have e3:=beq_eq_false_iff_ne.1 (seq_false h3)
    simp [h3,e3]
  ·simp [h2]
 ·have e1:=beq_eq_false_iff_ne.1 (seq_false h1)
  simp [h1,e1]
set_option maxHeartbeats 2000000 in
set_option maxRecDepth 100000 in
theorem rsameM_any (v u:Value) (p q:List Tm) (w:World) (hv:KM.Is w v p) (hu:KM.Is w u q) (hl1:p.length≤maxLen) :
  Calls Tryz.prog 23 #[v,u] w fun e w'=>e=.returned (.bool (decide (p=q)))∧∃n,w'=w.drewN n:=by
 unfold maxLen at hl1
 obtain ⟨a1,k1,rfl,hd1⟩:=hv
 obtain ⟨a2,k2,rfl,hd2⟩:=hu
 obtain ⟨r,hr⟩:∃r,decide (p=q)=r:=⟨_,rfl⟩
 rw [hr]
 have HR:=hid hr
 have HD1:=hid hd1
 have HD2:=hid hd2
 clear hr hd1 hd2
 by_cases hl:p.length=q.length
 ·have hb:((p.length:Int) != (q.length:Int))=false:=by simp [hl]
  have HL:=hid hl
  clear hl
  go_enter Tryz.func23,Tryz.ntmps23
  go_wp2_with fail
  go_loopg [5] p.length (fun g vi wr=>∃i m:Nat,vi=.int .i64 i∧i≤p.length∧p.length-i≤g∧wr=w.drewN m∧Hid (∀j,j<i→p[j]? = q[j]?))
  case atStart=>exact ⟨0,0,rfl,by omega,by omega,rfl,fun j h=>by omega⟩
  case round =>
   obtain ⟨i,m,rfl,hi,hg,rfl,HJ⟩:=hrel
   by_cases hlt:i<p.length
   ·have hlt2:i<q.length:=by rw [←HL.out];exact hlt
    have i1:(0:Int)≤↑i:=by omega
    have i2:(↑i:Int) < ↑p.length:=by omega
    have i3:(↑i:Int) < ↑q.length:=by omega
    rcases HD1.out with hn|⟨b1,o1,rfl,k1⟩
    ·rw [hn] at hlt;simp at hlt
    rcases HD2.out with hn|⟨b2,o2,rfl,k2⟩
    ·rw [hn] at hlt2;simp at hlt2
    obtain ⟨x0,x1,x2⟩:=km_cells k1 i hlt
    obtain ⟨y0,y1,y2⟩:=km_cells k2 i hlt2
    have hne:=fun W=>neq_term p[i] q[i] W
    have G1:=hid (List.getElem?_eq_getElem hlt)
    have G2:=hid (List.getElem?_eq_getElem hlt2)
    obtain ⟨x,hx⟩:∃x,p[i]=x:=⟨_,rfl⟩
    obtain ⟨y,hy⟩:∃y,q[i]=y:=⟨_,rfl⟩
    rw [hx] at x0 x1 x2 hne G1
    rw [hy] at y0 y1 y2 hne G2
    clear k1 k2 hx hy
    by_cases hst:x=y
    ·have hd:=decide_eq_true hst
     rw [hd] at hne
     have HS:=hid hst
     clear hst hd
     go_wp2_with fail
     go_quiet (fail)
     go_wp2_with fail
     go_roundg (p.length-(i+1))
     case measure=>omega
     refine ⟨i+1,_,by go_num,by omega,by omega,rfl,fun j hj=>?_⟩
     by_cases e:j=i
     ·subst e;rw [G1.out,G2.out,HS.out]
     ·exact HJ.out j (by omega)
    ·have hd:=decide_eq_false hst
     rw [hd] at hne
     have H0:Hid (r=false):=HR.out.symm.trans (decide_eq_false fun e=>hst (by
      have:=G1.out
      rw [e,G2.out] at this
      exact (Option.some.inj this).symm))
     clear hst hd
     go_wp2_with fail
     go_quiet (fail)
     go_wp2_with fail
     go_ret
     exact ⟨ret_bool H0.out.symm,_,by rw [World.drewN_drewN]⟩
   ·have hltz:¬ (i:Int)<(p.length:Int):=by omega
    have H0:Hid (r=true):=HR.out.symm.trans (decide_eq_true (List.ext_getElem? fun j=>by
     by_cases hj:j<p.length
     ·exact HJ.out j (by omega)
     ·rw [List.getElem?_eq_none (by omega),List.getElem?_eq_none (by have:=HL.out;omega)]))
    go_wp2_with fail
    go_ret
    exact ⟨ret_bool H0.out.symm,_,rfl⟩
 ·have hb:((p.length:Int) != (q.length:Int))=true:=by simp;omega
  have H0:Hid (r=false):=HR.out.symm.trans (decide_eq_false fun e=>hl (by rw [e]))
  go_enter Tryz.func23,Tryz.ntmps23
  go_wp2_with fail
  go_ret
  exact ⟨ret_bool H0.out.symm,0,rfl⟩
def eligB (G:List Tm) (k:Nat) (x:Tm):Bool:=decide (k=0)||ltM (G.getD (k-1) default) x
def ScanM (G p:List Tm) (k i:Nat) (at_:Int):Prop :=
 (at_=-1∧∀j,(h:j<p.length)→j<i→eligB G k p[j]=false) ∨
 (∃m:Nat,at_=m∧m<i∧∃hm:m<p.length,eligB G k p[m]=true∧∀j,(h:j<p.length)→j<i→eligB G k p[j]=true→ltM p[j] p[m]=false)
theorem RisingM.get {o:List Tm} (h:RisingM o) {i j:Nat} (hij:i<j) (hj:j<o.length):ltM (o[i]'(by omega)) (o[j])=true :=
 List.pairwise_iff_getElem.1 h i j (by omega) hj hij
theorem elig_ge {G:List Tm} (h:RisingM G) {k m:Nat} (hk:k≤G.length) (hm:m<G.length):eligB G k G[m]=true↔k≤m:=by
 unfold eligB
 constructor
 ·intro he
  rw [Bool.or_eq_true] at he
  rcases he with he|he
  ·have:=of_decide_eq_true he;omega
  ·refine Nat.le_of_not_lt fun hlt=>?_
   rw [List.getD_eq_getElem?_getD,List.getElem?_eq_getElem (show k-1<G.length by omega)] at he
   by_cases e:m=k-1
   ·subst e
    rw [Option.getD_some,ltM_irrefl] at he
    cases he
   ·have:=h.get (show m<k-1 by omega) (by omega)
    rw [Option.getD_some] at he
    rw [ltM_asymm this] at he
    cases he
 ·intro hkm
  by_cases h0:k=0
  ·rw [decide_eq_true h0];rfl
  ·rw [Bool.or_eq_true]
   right
   rw [List.getD_eq_getElem?_getD,List.getElem?_eq_getElem (show k-1<G.length by omega),Option.getD_some]
   exact h.get (by omega) hm
theorem scan_end {G p:List Tm} (h1:RisingM G) (h2:∀x,x∈G↔x∈p) {k:Nat} (hk:k≤G.length) {at_:Int} (hs:ScanM G p k p.length at_) :
  (at_=-1∧k=G.length)∨(∃m:Nat,at_=m∧∃hm:m<p.length,∃hg:k<G.length,p[m]=G[k]):=by
 rcases hs with ⟨e,hn⟩|⟨m,e,_,hm,he,hl⟩
 ·left
  refine ⟨e,?_⟩
  by_cases hkl:k=G.length
  ·exact hkl
  ·exfalso
   have hlt:k<G.length:=by omega
   obtain ⟨j,hj,ej⟩:=List.mem_iff_getElem.1 ((h2 G[k]).1 (List.getElem_mem hlt))
   have:=hn j hj hj
   rw [ej,(elig_ge h1 hk hlt).2 (Nat.le_refl _)] at this
   cases this
 ·right
  obtain ⟨a,ha,ea⟩:=List.mem_iff_getElem.1 ((h2 p[m]).2 (List.getElem_mem hm))
  have hka:k≤a:=by
   rw [←ea] at he
   exact (elig_ge h1 hk ha).1 he
  refine ⟨m,e,hm,by omega,?_⟩
  by_cases hlt:k<a
  ·exfalso
   obtain ⟨j,hj,ej⟩:=List.mem_iff_getElem.1 ((h2 G[k]).1 (List.getElem_mem (by omega)))
   have:=hl j hj hj (by rw [ej];exact (elig_ge h1 hk (by omega)).2 (Nat.le_refl _))
   rw [ej,←ea,h1.get hlt ha] at this
   cases this
  ·obtain rfl:a=k:=by omega
   exact ea.symm
theorem scan_zero (G p:List Tm) (k:Nat):ScanM G p k 0 (-1):=Or.inl ⟨rfl,fun j _ h=>by omega⟩
theorem scan_skip {G p:List Tm} {k i:Nat} {a:Int} (h:ScanM G p k i a) (hi:i<p.length) (he:eligB G k p[i]=false):ScanM G p k (i+1) a:=by
 rcases h with ⟨e,hn⟩|⟨m,e,hm1,hm,hme,hl⟩
 ·refine Or.inl ⟨e,fun j hj hji=>?_⟩
  by_cases ej:j=i
  ·subst ej;exact he
  ·exact hn j hj (by omega)
 ·refine Or.inr ⟨m,e,by omega,hm,hme,fun j hj hji hje=>?_⟩
  by_cases ej:j=i
  ·subst ej;rw [he] at hje;cases hje
  ·exact hl j hj (by omega) hje
theorem scan_first {G p:List Tm} {k i:Nat} (h:ScanM G p k i (-1)) (hi:i<p.length) (he:eligB G k p[i]=true):ScanM G p k (i+1) (i:Int):=by
 rcases h with ⟨_,hn⟩|⟨m,e,_⟩
 ·refine Or.inr ⟨i,rfl,by omega,hi,he,fun j hj hji hje=>?_⟩
  by_cases ej:j=i
  ·subst ej;exact ltM_irrefl _
  ·rw [hn j hj (by omega)] at hje;cases hje
 ·omega
theorem scan_less {G p:List Tm} {k i m:Nat} (h:ScanM G p k i (m:Int)) (hi:i<p.length) (hm:m<p.length) (he:eligB G k p[i]=true) (hl:ltM p[i] p[m]=true):ScanM G p k (i+1) (i:Int):=by
 rcases h with ⟨e,_⟩|⟨m',e,_,_,_,hll⟩
 ·omega
 ·obtain rfl:m=m':=by omega
  refine Or.inr ⟨i,rfl,by omega,hi,he,fun j hj hji hje=>?_⟩
  by_cases ej:j=i
  ·subst ej;exact ltM_irrefl _
  ·have:=hll j hj (by omega) hje
   cases hc:ltM p[j] p[i] with
   | false=>rfl
   | true=>rw [ltM_trans hc hl] at this;cases this
theorem scan_keep {G p:List Tm} {k i m:Nat} (h:ScanM G p k i (m:Int)) (hi:i<p.length) (hm:m<p.length) (hl:ltM p[i] p[m]=false):ScanM G p k (i+1) (m:Int):=by
 rcases h with ⟨e,_⟩|⟨m',e,h1,h2,h3,hll⟩
 ·omega
 ·obtain rfl:m=m':=by omega
  refine Or.inr ⟨m,rfl,by omega,h2,h3,fun j hj hji hje=>?_⟩
  by_cases ej:j=i
  ·subst ej;exact hl
  ·exact hll j hj (by omega) hje
theorem scan_is {G p:List Tm} {k i:Nat} {a:Int} (h:ScanM G p k i a):a=-1∨∃m:Nat,a=m∧m<p.length:=by
 rcases h with ⟨e,_⟩|⟨m,e,_,hm,_⟩
 ·exact Or.inl e
 ·exact Or.inr ⟨m,e,hm⟩
end
end Go.Proofs.YtjeogllmpjihaaaGreatDoor
