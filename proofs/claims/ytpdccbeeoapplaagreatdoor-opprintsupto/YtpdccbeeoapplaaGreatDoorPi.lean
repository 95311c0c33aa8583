/-
  Texts of this claim, one behind the other: Oxe Ojo Oxa Oxb Ojw Opw Oxp Cob Coz Ozx Bal Hoe Ojz Oob Oxl Oxv.
-/
import Derived.Test.YtpdccbeeoapplaaGreatDoorPh
import Derived.Test.YtpdccbeeoapplaaGreatDoorRows
import Derived.MakeChecks
import Derived.ProofKit
import Derived.OpenShut
import Derived.Lay
import Derived.Stop.Joined
import Derived.SliceStrings
import Derived.Deep.SlicePairs
import Derived.Lib.LaidU8
import Derived.SizedLaws
import Derived.ChangeSlices
import Derived.JoinedCond
import Derived.Lib.SmallJoins
import Derived.ShutString
import Derived.Below
import Derived.Deep.DeepHandedRow
import Derived.Stop.LaidErr
import Derived.LaidLaws
import Derived.Shelf.Vars
namespace Go.Proofs.YtpdccbeeoapplaaGreatDoor
section
open Go.RowKit Go.Lib
theorem store_tenV {w:World} {B:Nat} {T:TypeId} {v0 v1 v2 v3 v4 v5 v6 v7 v8 v9 z0 z1 z2 z3 z4 z5 z6 z7 z8 z9:Value} (h:w.heap[B]? = some (.cells #[z0,z1,z2,z3,z4,z5,z6,z7,z8,z9] T (0,0))) (W:World) (hW:((((((((((w.setCell ⟨B,0,none⟩ v0).setCell ⟨B,1,none⟩ v1).setCell ⟨B,2,none⟩ v2).setCell ⟨B,3,none⟩ v3).setCell ⟨B,4,none⟩ v4).setCell ⟨B,5,none⟩ v5).setCell ⟨B,6,none⟩ v6).setCell ⟨B,7,none⟩ v7).setCell ⟨B,8,none⟩ v8).setCell ⟨B,9,none⟩ v9)=W) :
  W.heap[B]? = some (.cells #[v0,v1,v2,v3,v4,v5,v6,v7,v8,v9] T (0,0))∧Fr (fun k=>k=B) w W:=by
 have f:∀(W:World) (j:Nat) (v:Value),Fr (fun k=>k=B) W (W.setCell ⟨B,j,none⟩ v):=fun W j v=>⟨rfl,rfl,rfl,by simp,fun k _ hn=>heap_setCell_other _ _ k _ hn⟩
 have g:∀{u v t:World},Fr (fun k=>k=B) u v→Fr (fun k=>k=B) v t→Fr (fun k=>k=B) u t:=fun h1 h2=>h1.then h2 fun k hk=>Or.inl hk
 have f0:=Fr.refl (fun k=>k=B) w
 have h1:(w.setCell ⟨B,0,none⟩ v0).heap[B]? = some (.cells #[v0,z1,z2,z3,z4,z5,z6,z7,z8,z9] T (0,0)):=heap_setCell_same w B 0 _ _ _ h
 have f1:=g f0 (f w 0 v0)
 generalize w.setCell ⟨B,0,none⟩ v0=w1 at hW h1 f1
 have h2:(w1.setCell ⟨B,1,none⟩ v1).heap[B]? = some (.cells #[v0,v1,z2,z3,z4,z5,z6,z7,z8,z9] T (0,0)):=heap_setCell_same w1 B 1 _ _ _ h1
 have f2:=g f1 (f w1 1 v1)
 generalize w1.setCell ⟨B,1,none⟩ v1=w2 at hW h2 f2
 have h3:(w2.setCell ⟨B,2,none⟩ v2).heap[B]? = some (.cells #[v0,v1,v2,z3,z4,z5,z6,z7,z8,z9] T (0,0)):=heap_setCell_same w2 B 2 _ _ _ h2
 have f3:=g f2 (f w2 2 v2)
 generalize w2.setCell ⟨B,2,none⟩ v2=w3 at hW h3 f3
 have h4:(w3.setCell ⟨B,3,none⟩ v3).heap[B]? = some (.cells #[v0,v1,v2,v3,z4,z5,z6,z7,z8,z9] T (0,0)):=heap_setCell_same w3 B 3 _ _ _ h3
 have f4:=g f3 (f w3 3 v3)
 generalize w3.setCell ⟨B,3,none⟩ v3=w4 at hW h4 f4
 have h5:(w4.setCell ⟨B,4,none⟩ v4).heap[B]? = some (.cells #[v0,v1,v2,v3,v4,z5,z6,z7,z8,z9] T (0,0)):=heap_setCell_same w4 B 4 _ _ _ h4
 have f5:=g f4 (f w4 4 v4)
 generalize w4.setCell ⟨B,4,none⟩ v4=w5 at hW h5 f5
 have h6:(w5.setCell ⟨B,5,none⟩ v5).heap[B]? = some (.cells #[v0,v1,v2,v3,v4,v5,z6,z7,z8,z9] T (0,0)):=heap_setCell_same w5 B 5 _ _ _ h5
 have f6:=g f5 (f w5 5 v5)
 generalize w5.setCell ⟨B,5,none⟩ v5=w6 at hW h6 f6
 have h7:(w6.setCell ⟨B,6,none⟩ v6).heap[B]? = some (.cells #[v0,v1,v2,v3,v4,v5,v6,z7,z8,z9] T (0,0)):=heap_setCell_same w6 B 6 _ _ _ h6
 have f7:=g f6 (f w6 6 v6)
 generalize w6.setCell ⟨B,6,none⟩ v6=w7 at hW h7 f7
 have h8:(w7.setCell ⟨B,7,none⟩ v7).heap[B]? = some (.cells #[v0,v1,v2,v3,v4,v5,v6,v7,z8,z9] T (0,0)):=heap_setCell_same w7 B 7 _ _ _ h7
 have f8:=g f7 (f w7 7 v7)
 generalize w7.setCell ⟨B,7,none⟩ v7=w8 at hW h8 f8
 have h9:(w8.setCell ⟨B,8,none⟩ v8).heap[B]? = some (.cells #[v0,v1,v2,v3,v4,v5,v6,v7,v8,z9] T (0,0)):=heap_setCell_same w8 B 8 _ _ _ h8
 have f9:=g f8 (f w8 8 v8)
 generalize w8.setCell ⟨B,8,none⟩ v8=w9 at hW h9 f9
 have h10:(w9.setCell ⟨B,9,none⟩ v9).heap[B]? = some (.cells #[v0,v1,v2,v3,v4,v5,v6,v7,v8,v9] T (0,0)):=heap_setCell_same w9 B 9 _ _ _ h9
 have f10:=g f9 (f w9 9 v9)
 generalize w9.setCell ⟨B,9,none⟩ v9=w10 at hW h10 f10
 subst hW
 exact ⟨h10,f10⟩
theorem store_ten {w:World} {B:Nat} {T:TypeId} (x:Ex) {z0 z1 z2 z3 z4 z5 z6 z7 z8 z9:Value} (h:w.heap[B]? = some (.cells #[z0,z1,z2,z3,z4,z5,z6,z7,z8,z9] T (0,0))) (W:World) (hW:((((((((((w.setCell ⟨B,0,none⟩ (.int .i64 x.kind)).setCell ⟨B,1,none⟩ (.string x.temp)).setCell ⟨B,2,none⟩ (.string x.ka)).setCell ⟨B,3,none⟩ (.string x.kb)).setCell ⟨B,4,none⟩ (.int .i64 x.iff)).setCell ⟨B,5,none⟩ (.slice x.vp x.vo.length x.vc)).setCell ⟨B,6,none⟩ (.slice x.ep x.eo.length x.ec)).setCell ⟨B,7,none⟩ (.slice x.pp x.po.length x.pc)).setCell ⟨B,8,none⟩ (.int .u64 x.stamp)).setCell ⟨B,9,none⟩ (.int .i64 x.num))=W) :
  W.heap[B]? = some (.cells #[.int .i64 x.kind,.string x.temp,.string x.ka,.string x.kb,.int .i64 x.iff,.slice x.vp x.vo.length x.vc,.slice x.ep x.eo.length x.ec,.slice x.pp x.po.length x.pc,.int .u64 x.stamp,.int .i64 x.num] T (0,0))∧Fr (fun k=>k=B) w W:=store_tenV h W hW
theorem neq_keyQ (a b c d:ByteArray) (w:World):(binOp .neq 35 (.agg #[.string a,.string b]) (.agg #[.string c,.string d])).run Tryz.prog w=.ok (.bool (!decide (a=c∧b=d))) w:=by
 have hS:Tryz.prog.underlying 35=some (.struct (Tryz.prog.fieldsOf 35)):=by kernel_rfl
 have hp:Tryz.prog.stoodInHeld 35=false:=by kernel_rfl
 have u9:=Tryz.underlying9
 have a9:=Tryz.isAgg9
 have z9:=Tryz.sizeOf9
 rw [run_neq_struct,show (10000:Nat)=9999+1 from rfl,run_equalIn_agg w 9999 35 _ _ hS hp]
 simp only [Program.fieldsOf,Tryz.underlying35]
 go_simp
 by_cases h1:a=c
 ·subst h1
  by_cases h3:b=d
  ·subst h3;simp
  ·have e3:=beq_eq_false_iff_ne.1 (seq_false h3)
   simp [h3,e3]
 ·have e1:=beq_eq_false_iff_ne.1 (seq_false h1)
  simp [h1,e1]
set_option maxHeartbeats 8000000 in
set_option maxRecDepth 100000 in
theorem rEqual16_any (o o':Bool) (v v':Value) (d d':List Ex) (w:World) (hd:RqIn w v d) (hd':RqIn w v' d') :
  Calls Tryz.prog 15 #[.agg #[.bool o,v],.agg #[.bool o',v']] w fun e w'=>e=.returned (.bool (decide (o=o'∧d.map Ex.en=d'.map Ex.en)))∧Below w.heap.size w w':=by
 have HD:=hid hd
 have HD':=hid hd'
 obtain ⟨a,cap,rfl,hrow⟩:=hd.row
 obtain ⟨a',cap',rfl,hrow'⟩:=hd'.row
 have hlen:=hd.len
 have hlen':=hd'.len
 have HR:=hid hrow
 have HR':=hid hrow'
 clear hd hd' hrow hrow'
 have HB:Hid (Below w.heap.size w ((w.alloc (.cells #[.bool o,.slice a d.length cap] 24)).alloc (.cells #[.bool o',.slice a' d'.length cap'] 24))):=hid (((Below.refl _ _).alloc (Nat.le_refl _) _).alloc (by simp) _)
 by_cases ho:o=o'
 case neg =>
  have hq:(o==o')=false:=by cases o<;>cases o'<;>simp_all
  have HF:Hid (decide (o=o'∧d.map Ex.en=d'.map Ex.en)=false):=hid (decide_eq_false fun q=>ho q.1)
  clear ho
  go_enter Tryz.func15,Tryz.ntmps15
  go_wp2_with fail
  go_ret
  exact ⟨by rw [HF.out];rfl,HB.out⟩
 subst ho
 have hgoal:decide (o=o∧d.map Ex.en=d'.map Ex.en)=decide (d.map Ex.en=d'.map Ex.en):=by simp
 rw [hgoal]
 clear hgoal
 have hq:(o==o)=true:=by cases o<;>rfl
 by_cases hl:d.length=d'.length
 case neg =>
  have hne:((d.length:Int) != (d'.length:Int))=true:=by rw [bne_iff_ne];omega
  have HF:Hid (decide (d.map Ex.en=d'.map Ex.en)=false):=hid (decide_eq_false fun q=>hl (by have:=congrArg List.length q;simpa using this))
  clear hl
  go_enter Tryz.func15,Tryz.ntmps15
  go_wp2_with fail
  go_ret
  exact ⟨by rw [HF.out];rfl,HB.out⟩
 have hne:((d.length:Int) != (d'.length:Int))=false:=by simp;omega
 have HL:=hid hl
 clear hl
 go_enter Tryz.func15,Tryz.ntmps15
 go_wp2_with fail
 go_loopg [5] d.length (fun g vi wr=>∃(i:Nat),vi=.int .i64 i∧i≤d.length∧d.length-i≤g∧Hid (Below w.heap.size w wr)∧wr.heap[w.heap.size]? = some (.cells #[.bool o,.slice a d.length cap] 24 (0,0))∧wr.heap[w.heap.size+1]? = some (.cells #[.bool o,.slice a' d'.length cap'] 24 (0,0))∧Hid (∀(j:Nat) (x y:Ex),j<i→d[j]? = some x→d'[j]? = some y→x.en=y.en))
 case atStart =>
  refine ⟨0,rfl,by omega,by omega,HB,?_,?_,hid fun j x y h=>by omega⟩
  ·rw [Below.heap_alloc _ _ _ (by simp)];exact heap_alloc_new w _
  ·have:=heap_alloc_new (w.alloc (.cells #[.bool o,.slice a d.length cap] 24)) (.cells #[.bool o,.slice a' d'.length cap'] 24)
   simpa using this
 case round =>
  obtain ⟨i,rfl,hi,hig,HBR,hb1,hb2,HA⟩:=hrel
  have k1:wr.cell? ⟨w.heap.size,1,none⟩=some (.slice a d.length cap):=cz hb1
  have k2:wr.cell? ⟨w.heap.size+1,1,none⟩=some (.slice a' d'.length cap'):=cz hb2
  by_cases hlt:i<d.length
  ·have HLT:=hid hlt
   have hltz:(i:Int)<(d.length:Int):=by omega
   have hlt2:i<d'.length:=by have:=HL.out;omega
   have hltz2:(i:Int)<(d'.length:Int):=by omega
   have hiz:(0:Int)≤(i:Int):=by omega
   obtain ⟨b,off,rfl,hat⟩:∃b off,a=some ⟨b,off,none⟩∧KEx.At w b off d:=by
    rcases HR.out with h|⟨b,off,h1,h2⟩
    ·rw [h] at hlt;simp at hlt
    ·exact ⟨b,off,h1,h2⟩
   obtain ⟨b',off',rfl,hat'⟩:∃b off,a'=some ⟨b,off,none⟩∧KEx.At w b off d':=by
    rcases HR'.out with h|⟨b,off,h1,h2⟩
    ·rw [h] at hlt2;simp at hlt2
    ·exact ⟨b,off,h1,h2⟩
   obtain ⟨x,hx⟩:∃x,d[i]? = some x:=⟨_,List.getElem?_eq_getElem hlt⟩
   obtain ⟨y,hy⟩:∃y,d'[i]? = some y:=⟨_,List.getElem?_eq_getElem hlt2⟩
   obtain ⟨W0,hW0⟩:∃W0,wr.drew=W0:=⟨_,rfl⟩
   have HSS:Hid (∀w',Below W0.heap.size W0 w'→(w'.cell? ⟨w.heap.size,1,none⟩=some (.slice (some ⟨b,off,none⟩) d.length cap)∧w'.cell? ⟨w.heap.size+1,1,none⟩=some (.slice (some ⟨b',off',none⟩) d'.length cap')∧w'.cell? ⟨b,off+i * 10,none⟩=some (.int .i64 x.kind)∧w'.cell? ⟨b,off+i * 10+1,none⟩=some (.string x.temp)∧w'.cell? ⟨b,off+i * 10+2,none⟩=some (.string x.ka)∧w'.cell? ⟨b,off+i * 10+3,none⟩=some (.string x.kb)∧w'.cell? ⟨b,off+i * 10+4,none⟩=some (.int .i64 x.iff)∧w'.cell? ⟨b,off+i * 10+5,none⟩=some (.slice x.vp x.vo.length x.vc)∧w'.cell? ⟨b,off+i * 10+6,none⟩=some (.slice x.ep x.eo.length x.ec)∧w'.cell? ⟨b,off+i * 10+7,none⟩=some (.slice x.pp x.po.length x.pc)∧w'.cell? ⟨b,off+i * 10+8,none⟩=some (.int .u64 x.stamp)∧w'.cell? ⟨b,off+i * 10+9,none⟩=some (.int .i64 x.num)∧w'.cell? ⟨b',off'+i * 10,none⟩=some (.int .i64 y.kind)∧w'.cell? ⟨b',off'+i * 10+1,none⟩=some (.string y.temp)∧w'.cell? ⟨b',off'+i * 10+2,none⟩=some (.string y.ka)∧w'.cell? ⟨b',off'+i * 10+3,none⟩=some (.string y.kb)∧w'.cell? ⟨b',off'+i * 10+4,none⟩=some (.int .i64 y.iff)∧w'.cell? ⟨b',off'+i * 10+5,none⟩=some (.slice y.vp y.vo.length y.vc)∧w'.cell? ⟨b',off'+i * 10+6,none⟩=some (.slice y.ep y.eo.length y.ec)∧w'.cell? ⟨b',off'+i * 10+7,none⟩=some (.slice y.pp y.po.length y.pc)∧w'.cell? ⟨b',off'+i * 10+8,none⟩=some (.int .u64 y.stamp)∧w'.cell? ⟨b',off'+i * 10+9,none⟩=some (.int .i64 y.num))):=hid fun w' hb=>by
    have hbw:Below w.heap.size w W0:=by rw [←hW0];exact bel_drewN HBR.out 1
    have hq:=hbw.trans (hb.mono hbw.size)
    have q1:w'.heap[w.heap.size]? = some (.cells #[.bool o,.slice (some ⟨b,off,none⟩) d.length cap] 24 (0,0)):=(hb.block _ (by rw [←hW0];exact (Array.getElem?_eq_some_iff.1 hb1).1)).trans (by rw [←hW0];exact hb1)
    have q2:w'.heap[w.heap.size+1]? = some (.cells #[.bool o,.slice (some ⟨b',off',none⟩) d'.length cap'] 24 (0,0)):=(hb.block _ (by rw [←hW0];exact (Array.getElem?_eq_some_iff.1 hb2).1)).trans (by rw [←hW0];exact hb2)
    obtain ⟨c0,c1,c2,c3,c4,c5,c6,c7,c8,c9⟩:=row_cellsQ (Kind.at_kept hat hq) i x hx
    obtain ⟨f0,f1,f2,f3,f4,f5,f6,f7,f8,f9⟩:=row_cellsQ (Kind.at_kept hat' hq) i y hy
    exact ⟨by rw [Lib.cell_of_heap q1];rfl,by rw [Lib.cell_of_heap q2];rfl,c0,c1,c2,c3,c4,c5,c6,c7,c8,c9,f0,f1,f2,f3,f4,f5,f6,f7,f8,f9⟩
   have HB01:Hid (Below wr.heap.size wr W0):=hid (by rw [←hW0];exact bel_drewN (Below.refl _ _) 1)
   have HQ1:=hid hb1
   have HQ2:=hid hb2
   have HX0:=hid hx
   have HY0:=hid hy
   have HEX:=hid (HD.out.each x (List.mem_of_getElem? hx))
   have HEY:=hid (HD'.out.each y (List.mem_of_getElem? hy))
   clear hx hy hat hat' HD HD' HR HR'
   go_upto_region 6 with fail
   clear hb1 hb2 k1 k2
   go_cut [6,7] from 27 (fun v6 v7 wx=>∃X Y,v6=.pointer (some ⟨X,0,none⟩)∧v7=.pointer (some ⟨Y,0,none⟩)∧Hid (Below wr.heap.size wr wx∧wx.heap[X]? = some (.cells #[.int .i64 x.kind,.string x.temp,.string x.ka,.string x.kb,.int .i64 x.iff,.slice x.vp x.vo.length x.vc,.slice x.ep x.eo.length x.ec,.slice x.pp x.po.length x.pc,.int .u64 x.stamp,.int .i64 x.num] 41 (0,0))∧wx.heap[Y]? = some (.cells #[.int .i64 y.kind,.string y.temp,.string y.ka,.string y.kb,.int .i64 y.iff,.slice y.vp y.vo.length y.vc,.slice y.ep y.eo.length y.ec,.slice y.pp y.po.length y.pc,.int .u64 y.stamp,.int .i64 y.num] 41 (0,0))))
   case first =>
    refine wp_region_held_drew (S:=fun w'=>(w'.cell? ⟨w.heap.size,1,none⟩=some (.slice (some ⟨b,off,none⟩) d.length cap)∧w'.cell? ⟨w.heap.size+1,1,none⟩=some (.slice (some ⟨b',off',none⟩) d'.length cap')∧w'.cell? ⟨b,off+i * 10,none⟩=some (.int .i64 x.kind)∧w'.cell? ⟨b,off+i * 10+1,none⟩=some (.string x.temp)∧w'.cell? ⟨b,off+i * 10+2,none⟩=some (.string x.ka)∧w'.cell? ⟨b,off+i * 10+3,none⟩=some (.string x.kb)∧w'.cell? ⟨b,off+i * 10+4,none⟩=some (.int .i64 x.iff)∧w'.cell? ⟨b,off+i * 10+5,none⟩=some (.slice x.vp x.vo.length x.vc)∧w'.cell? ⟨b,off+i * 10+6,none⟩=some (.slice x.ep x.eo.length x.ec)∧w'.cell? ⟨b,off+i * 10+7,none⟩=some (.slice x.pp x.po.length x.pc)∧w'.cell? ⟨b,off+i * 10+8,none⟩=some (.int .u64 x.stamp)∧w'.cell? ⟨b,off+i * 10+9,none⟩=some (.int .i64 x.num)∧w'.cell? ⟨b',off'+i * 10,none⟩=some (.int .i64 y.kind)∧w'.cell? ⟨b',off'+i * 10+1,none⟩=some (.string y.temp)∧w'.cell? ⟨b',off'+i * 10+2,none⟩=some (.string y.ka)∧w'.cell? ⟨b',off'+i * 10+3,none⟩=some (.string y.kb)∧w'.cell? ⟨b',off'+i * 10+4,none⟩=some (.int .i64 y.iff)∧w'.cell? ⟨b',off'+i * 10+5,none⟩=some (.slice y.vp y.vo.length y.vc)∧w'.cell? ⟨b',off'+i * 10+6,none⟩=some (.slice y.ep y.eo.length y.ec)∧w'.cell? ⟨b',off'+i * 10+7,none⟩=some (.slice y.pp y.po.length y.pc)∧w'.cell? ⟨b',off'+i * 10+8,none⟩=some (.int .u64 y.stamp)∧w'.cell? ⟨b',off'+i * 10+9,none⟩=some (.int .i64 y.num))) (by kernel_rfl) (by rw [hW0];exact HSS.out _ (Below.refl _ _)) (fun hHeld=>?_)
    rw [hW0] at hHeld ⊢
    refine tkv 0 (.pointer (some ⟨w.heap.size,1,none⟩)) hHeld ?_
    simp only [Act.put,sz]
    refine tkv 1 (.slice (some ⟨b,off,none⟩) d.length cap) hHeld ?_
    simp only [Act.put,sz]
    refine tkv 2 (.int .i64 i) hHeld ?_
    simp only [Act.put,sz]
    refine tkv 3 (.pointer (some ⟨b,off+i * 10,none⟩)) hHeld ?_
    simp only [Act.put,sz]
    refine tkv 4 (.agg #[.int .i64 x.kind,.string x.temp,.string x.ka,.string x.kb,.int .i64 x.iff,.slice x.vp x.vo.length x.vc,.slice x.ep x.eo.length x.ec,.slice x.pp x.po.length x.pc,.int .u64 x.stamp,.int .i64 x.num]) hHeld ?_
    simp only [Act.put,sz]
    refine tkv 5 (.pointer (some ⟨w.heap.size+1,1,none⟩)) hHeld ?_
    simp only [Act.put,sz]
    refine tkv 6 (.slice (some ⟨b',off',none⟩) d'.length cap') hHeld ?_
    simp only [Act.put,sz]
    refine tkv 7 (.int .i64 i) hHeld ?_
    simp only [Act.put,sz]
    refine tkv 8 (.pointer (some ⟨b',off'+i * 10,none⟩)) hHeld ?_
    simp only [Act.put,sz]
    refine tkv 9 (.agg #[.int .i64 y.kind,.string y.temp,.string y.ka,.string y.kb,.int .i64 y.iff,.slice y.vp y.vo.length y.vc,.slice y.ep y.eo.length y.ec,.slice y.pp y.po.length y.pc,.int .u64 y.stamp,.int .i64 y.num]) hHeld ?_
    simp only [Act.put,sz]
    refine wpAnyH_ready (rs:=[10,11]) (by kernel_rfl) (by simp) ?_
    refine AllReadyH.cons (at_drop0 rfl) (fun K hK=>?_) (AllReadyH.cons (at_drop0 rfl) (fun K hK=>?_) AllReadyH.nil)
    ·rw [if_pos (by rfl)]
     go_simp
     obtain ⟨X,hX⟩:∃X,W0.heap.size=X:=⟨_,rfl⟩
     obtain ⟨W1,hW1⟩:∃W1,W0.alloc (.cells #[.int .i64 0,.string ⟨#[]⟩,.string ⟨#[]⟩,.string ⟨#[]⟩,.int .i64 0,.slice none 0 0,.slice none 0 0,.slice none 0 0,.int .u64 0,.int .i64 0] 41)=W1:=⟨_,rfl⟩
     have ha1:Below W0.heap.size W0 W1:=by rw [←hW1];exact (Below.refl _ _).alloc (Nat.le_refl _) _
     have HP1:Hid (W1.heap[X]? = some (.cells #[.int .i64 0,.string ⟨#[]⟩,.string ⟨#[]⟩,.string ⟨#[]⟩,.int .i64 0,.slice none 0 0,.slice none 0 0,.slice none 0 0,.int .u64 0,.int .i64 0] 41 (0,0))):=by show _=_;rw [←hW1,←hX];exact heap_alloc_new W0 _
     have hs1:=HSS.out W1 ha1
     have HA1:=hid ha1
     clear ha1
     go_wp2_with fail
     try rw [hX]
     try rw [hW1]
     refine hK.out _ _ hs1 (fun hHeld=>?_)
     clear hK K
     try simp only [Act.put,sz]
     clear hs1
     refine wpAnyH_ready (rs:=[11]) (by kernel_rfl) (by simp) ?_
     refine AllReadyH.cons (at_drop0 rfl) (fun K hK=>?_) AllReadyH.nil
     rw [if_pos (by rfl)]
     go_simp
     obtain ⟨Y,hY⟩:∃Y,W1.heap.size=Y:=⟨_,rfl⟩
     obtain ⟨W2,hW2⟩:∃W2,W1.alloc (.cells #[.int .i64 0,.string ⟨#[]⟩,.string ⟨#[]⟩,.string ⟨#[]⟩,.int .i64 0,.slice none 0 0,.slice none 0 0,.slice none 0 0,.int .u64 0,.int .i64 0] 41)=W2:=⟨_,rfl⟩
     have ha2:Below W1.heap.size W1 W2:=by rw [←hW2];exact (Below.refl _ _).alloc (Nat.le_refl _) _
     have hp2:W2.heap[Y]? = some (.cells #[.int .i64 0,.string ⟨#[]⟩,.string ⟨#[]⟩,.string ⟨#[]⟩,.int .i64 0,.slice none 0 0,.slice none 0 0,.slice none 0 0,.int .u64 0,.int .i64 0] 41 (0,0)):=by rw [←hW2,←hY];exact heap_alloc_new W1 _
     have hpl:X<W1.heap.size:=(Array.getElem?_eq_some_iff.1 HP1.out).1
     have hp1:W2.heap[X]? = some (.cells #[.int .i64 0,.string ⟨#[]⟩,.string ⟨#[]⟩,.string ⟨#[]⟩,.int .i64 0,.slice none 0 0,.slice none 0 0,.slice none 0 0,.int .u64 0,.int .i64 0] 41 (0,0)):=(ha2.block X hpl).trans HP1.out
     have HNE:Hid (X≠Y):=hid (by omega)
     have HLE:Hid (W0.heap.size≤X∧W0.heap.size≤Y):=hid (by have:=HA1.out.size;omega)
     have HA2:Hid (Below W0.heap.size W0 W2):=hid (bel_then HA1.out HA1.out.size ha2)
     have hs2:=HSS.out W2 HA2.out
     have HX:=hid hp1
     have HY:=hid hp2
     clear ha2 hp1 hp2 hpl HA1 HP1
     go_wp2_with fail
     try rw [hY]
     try rw [hW2]
     refine hK.out _ _ hs2 (fun hHeld=>?_)
     clear hK K
     try simp only [Act.put,sz]
     clear hs2 hX hY hW1 hW2
     obtain ⟨W3,hW3⟩:∃W3,((((((((((W2.setCell ⟨X,0,none⟩ (.int .i64 x.kind)).setCell ⟨X,1,none⟩ (.string x.temp)).setCell ⟨X,2,none⟩ (.string x.ka)).setCell ⟨X,3,none⟩ (.string x.kb)).setCell ⟨X,4,none⟩ (.int .i64 x.iff)).setCell ⟨X,5,none⟩ (.slice x.vp x.vo.length x.vc)).setCell ⟨X,6,none⟩ (.slice x.ep x.eo.length x.ec)).setCell ⟨X,7,none⟩ (.slice x.pp x.po.length x.pc)).setCell ⟨X,8,none⟩ (.int .u64 x.stamp)).setCell ⟨X,9,none⟩ (.int .i64 x.num))=W3:=⟨_,rfl⟩
     obtain ⟨hx3,fx3⟩:=store_ten x HX.out W3 hW3
     have zc0:W2.cell? ⟨X,0,none⟩=some (.int .i64 0):=by rw [Lib.cell_of_heap HX.out];rfl
     have zf0:=Lib.frozen_of_heap HX.out 0
     have zc1:W2.cell? ⟨X,1,none⟩=some (.string ⟨#[]⟩):=by rw [Lib.cell_of_heap HX.out];rfl
     have zf1:=Lib.frozen_of_heap HX.out 1
     have zc2:W2.cell? ⟨X,2,none⟩=some (.string ⟨#[]⟩):=by rw [Lib.cell_of_heap HX.out];rfl
     have zf2:=Lib.frozen_of_heap HX.out 2
     have zc3:W2.cell? ⟨X,3,none⟩=some (.string ⟨#[]⟩):=by rw [Lib.cell_of_heap HX.out];rfl
     have zf3:=Lib.frozen_of_heap HX.out 3
     have zc4:W2.cell? ⟨X,4,none⟩=some (.int .i64 0):=by rw [Lib.cell_of_heap HX.out];rfl
     have zf4:=Lib.frozen_of_heap HX.out 4
     have zc5:W2.cell? ⟨X,5,none⟩=some (.slice none 0 0):=by rw [Lib.cell_of_heap HX.out];rfl
     have zf5:=Lib.frozen_of_heap HX.out 5
     have zc6:W2.cell? ⟨X,6,none⟩=some (.slice none 0 0):=by rw [Lib.cell_of_heap HX.out];rfl
     have zf6:=Lib.frozen_of_heap HX.out 6
     have zc7:W2.cell? ⟨X,7,none⟩=some (.slice none 0 0):=by rw [Lib.cell_of_heap HX.out];rfl
     have zf7:=Lib.frozen_of_heap HX.out 7
     have zc8:W2.cell? ⟨X,8,none⟩=some (.int .u64 0):=by rw [Lib.cell_of_heap HX.out];rfl
     have zf8:=Lib.frozen_of_heap HX.out 8
     have zc9:W2.cell? ⟨X,9,none⟩=some (.int .i64 0):=by rw [Lib.cell_of_heap HX.out];rfl
     have zf9:=Lib.frozen_of_heap HX.out 9
     have HB3:Hid (Below W0.heap.size W0 W3):=hid (HA2.out.trans (fx3.below HA2.out.size fun k hk=>by rw [hk];exact HLE.out.1))
     have hy3:W3.heap[Y]? = some (.cells #[.int .i64 0,.string ⟨#[]⟩,.string ⟨#[]⟩,.string ⟨#[]⟩,.int .i64 0,.slice none 0 0,.slice none 0 0,.slice none 0 0,.int .u64 0,.int .i64 0] 41 (0,0)):=(fx3.block Y (Array.getElem?_eq_some_iff.1 HY.out).1 (fun e=>HNE.out e.symm)).trans HY.out
     have HX3:=hid hx3
     have HY3:=hid hy3
     have hs3:=HSS.out W3 HB3.out
     clear hx3 hy3 fx3
     refine wpAnyH_ready (rs:=[12]) (by kernel_rfl) (by simp) ?_
     refine AllReadyH.cons (at_drop0 rfl) (fun K hK=>?_) AllReadyH.nil
     rw [if_pos (by rfl)]
     go_simp
     go_wp2_with fail
     try rw [hW3]
     refine hK.out _ _ hs3 (fun hHeld=>?_)
     clear hK K
     try simp only [Act.put,sz]
     clear hs3 hW3 zc0 zf0 zc1 zf1 zc2 zf2 zc3 zf3 zc4 zf4 zc5 zf5 zc6 zf6 zc7 zf7 zc8 zf8 zc9 zf9
     obtain ⟨W4,hW4⟩:∃W4,((((((((((W3.setCell ⟨Y,0,none⟩ (.int .i64 y.kind)).setCell ⟨Y,1,none⟩ (.string y.temp)).setCell ⟨Y,2,none⟩ (.string y.ka)).setCell ⟨Y,3,none⟩ (.string y.kb)).setCell ⟨Y,4,none⟩ (.int .i64 y.iff)).setCell ⟨Y,5,none⟩ (.slice y.vp y.vo.length y.vc)).setCell ⟨Y,6,none⟩ (.slice y.ep y.eo.length y.ec)).setCell ⟨Y,7,none⟩ (.slice y.pp y.po.length y.pc)).setCell ⟨Y,8,none⟩ (.int .u64 y.stamp)).setCell ⟨Y,9,none⟩ (.int .i64 y.num))=W4:=⟨_,rfl⟩
     obtain ⟨hy4,fy4⟩:=store_ten y HY3.out W4 hW4
     have zc0:W3.cell? ⟨Y,0,none⟩=some (.int .i64 0):=by rw [Lib.cell_of_heap HY3.out];rfl
     have zf0:=Lib.frozen_of_heap HY3.out 0
     have zc1:W3.cell? ⟨Y,1,none⟩=some (.string ⟨#[]⟩):=by rw [Lib.cell_of_heap HY3.out];rfl
     have zf1:=Lib.frozen_of_heap HY3.out 1
     have zc2:W3.cell? ⟨Y,2,none⟩=some (.string ⟨#[]⟩):=by rw [Lib.cell_of_heap HY3.out];rfl
     have zf2:=Lib.frozen_of_heap HY3.out 2
     have zc3:W3.cell? ⟨Y,3,none⟩=some (.string ⟨#[]⟩):=by rw [Lib.cell_of_heap HY3.out];rfl
     have zf3:=Lib.frozen_of_heap HY3.out 3
     have zc4:W3.cell? ⟨Y,4,none⟩=some (.int .i64 0):=by rw [Lib.cell_of_heap HY3.out];rfl
     have zf4:=Lib.frozen_of_heap HY3.out 4
     have zc5:W3.cell? ⟨Y,5,none⟩=some (.slice none 0 0):=by rw [Lib.cell_of_heap HY3.out];rfl
     have zf5:=Lib.frozen_of_heap HY3.out 5
     have zc6:W3.cell? ⟨Y,6,none⟩=some (.slice none 0 0):=by rw [Lib.cell_of_heap HY3.out];rfl
     have zf6:=Lib.frozen_of_heap HY3.out 6
     have zc7:W3.cell? ⟨Y,7,none⟩=some (.slice none 0 0):=by rw [Lib.cell_of_heap HY3.out];rfl
     have zf7:=Lib.frozen_of_heap HY3.out 7
     have zc8:W3.cell? ⟨Y,8,none⟩=some (.int .u64 0):=by rw [Lib.cell_of_heap HY3.out];rfl
     have zf8:=Lib.frozen_of_heap HY3.out 8
     have zc9:W3.cell? ⟨Y,9,none⟩=some (.int .i64 0):=by rw [Lib.cell_of_heap HY3.out];rfl
     have zf9:=Lib.frozen_of_heap HY3.out 9
     have HB4:Hid (Below W0.heap.size W0 W4):=hid (HB3.out.trans (fy4.below HB3.out.size fun k hk=>by rw [hk];exact HLE.out.2))
     have hx4:W4.heap[X]? = some (.cells #[.int .i64 x.kind,.string x.temp,.string x.ka,.string x.kb,.int .i64 x.iff,.slice x.vp x.vo.length x.vc,.slice x.ep x.eo.length x.ec,.slice x.pp x.po.length x.pc,.int .u64 x.stamp,.int .i64 x.num] 41 (0,0)):=(fy4.block X (Array.getElem?_eq_some_iff.1 HX3.out).1 HNE.out).trans HX3.out
     have HX4:=hid hx4
     have HY4:=hid hy4
     have hs4:=HSS.out W4 HB4.out
     clear hx4 hy4 fy4
     refine wpAnyH_ready (rs:=[13]) (by kernel_rfl) (by simp) ?_
     refine AllReadyH.cons (at_drop0 rfl) (fun K hK=>?_) AllReadyH.nil
     rw [if_pos (by rfl)]
     go_simp
     go_wp2_with fail
     try rw [hW4]
     refine hK.out _ _ hs4 (fun hHeld=>?_)
     clear hK K
     try simp only [Act.put,sz]
     clear hs4 hW4 zc0 zf0 zc1 zf1 zc2 zf2 zc3 zf3 zc4 zf4 zc5 zf5 zc6 zf6 zc7 zf7 zc8 zf8 zc9 zf9
     refine wpAnyH_done (by kernel_rfl) ?_ _
     clear hHeld
     go_wp2_with fail
     go_meet
     exact ⟨X,Y,rfl,rfl,hid ⟨HB01.out.trans (HB4.out.mono HB01.out.size),HX4.out,HY4.out⟩⟩
    ·rw [if_pos (by rfl)]
     go_simp
     obtain ⟨Y,hY⟩:∃Y,W0.heap.size=Y:=⟨_,rfl⟩
     obtain ⟨W1,hW1⟩:∃W1,W0.alloc (.cells #[.int .i64 0,.string ⟨#[]⟩,.string ⟨#[]⟩,.string ⟨#[]⟩,.int .i64 0,.slice none 0 0,.slice none 0 0,.slice none 0 0,.int .u64 0,.int .i64 0] 41)=W1:=⟨_,rfl⟩
     have ha1:Below W0.heap.size W0 W1:=by rw [←hW1];exact (Below.refl _ _).alloc (Nat.le_refl _) _
     have HP1:Hid (W1.heap[Y]? = some (.cells #[.int .i64 0,.string ⟨#[]⟩,.string ⟨#[]⟩,.string ⟨#[]⟩,.int .i64 0,.slice none 0 0,.slice none 0 0,.slice none 0 0,.int .u64 0,.int .i64 0] 41 (0,0))):=by show _=_;rw [←hW1,←hY];exact heap_alloc_new W0 _
     have hs1:=HSS.out W1 ha1
     have HA1:=hid ha1
     clear ha1
     go_wp2_with fail
     try rw [hY]
     try rw [hW1]
     refine hK.out _ _ hs1 (fun hHeld=>?_)
     clear hK K
     try simp only [Act.put,sz]
     clear hs1
     refine wpAnyH_ready (rs:=[10]) (by kernel_rfl) (by simp) ?_
     refine AllReadyH.cons (at_drop0 rfl) (fun K hK=>?_) AllReadyH.nil
     rw [if_pos (by rfl)]
     go_simp
     obtain ⟨X,hX⟩:∃X,W1.heap.size=X:=⟨_,rfl⟩
     obtain ⟨W2,hW2⟩:∃W2,W1.alloc (.cells #[.int .i64 0,.string ⟨#[]⟩,.string ⟨#[]⟩,.string ⟨#[]⟩,.int .i64 0,.slice none 0 0,.slice none 0 0,.slice none 0 0,.int .u64 0,.int .i64 0] 41)=W2:=⟨_,rfl⟩
     have ha2:Below W1.heap.size W1 W2:=by rw [←hW2];exact (Below.refl _ _).alloc (Nat.le_refl _) _
     have hp2:W2.heap[X]? = some (.cells #[.int .i64 0,.string ⟨#[]⟩,.string ⟨#[]⟩,.string ⟨#[]⟩,.int .i64 0,.slice none 0 0,.slice none 0 0,.slice none 0 0,.int .u64 0,.int .i64 0] 41 (0,0)):=by rw [←hW2,←hX];exact heap_alloc_new W1 _
     have hpl:Y<W1.heap.size:=(Array.getElem?_eq_some_iff.1 HP1.out).1
     have hp1:W2.heap[Y]? = some (.cells #[.int .i64 0,.string ⟨#[]⟩,.string ⟨#[]⟩,.string ⟨#[]⟩,.int .i64 0,.slice none 0 0,.slice none 0 0,.slice none 0 0,.int .u64 0,.int .i64 0] 41 (0,0)):=(ha2.block Y hpl).trans HP1.out
     have HNE:Hid (X≠Y):=hid (by omega)
     have HLE:Hid (W0.heap.size≤X∧W0.heap.size≤Y):=hid (by have:=HA1.out.size;omega)
     have HA2:Hid (Below W0.heap.size W0 W2):=hid (bel_then HA1.out HA1.out.size ha2)
     have hs2:=HSS.out W2 HA2.out
     have HY:=hid hp1
     have HX:=hid hp2
     clear ha2 hp1 hp2 hpl HA1 HP1
     go_wp2_with fail
     try rw [hX]
     try rw [hW2]
     refine hK.out _ _ hs2 (fun hHeld=>?_)
     clear hK K
     try simp only [Act.put,sz]
     clear hs2 hX hY hW1 hW2
     obtain ⟨W3,hW3⟩:∃W3,((((((((((W2.setCell ⟨X,0,none⟩ (.int .i64 x.kind)).setCell ⟨X,1,none⟩ (.string x.temp)).setCell ⟨X,2,none⟩ (.string x.ka)).setCell ⟨X,3,none⟩ (.string x.kb)).setCell ⟨X,4,none⟩ (.int .i64 x.iff)).setCell ⟨X,5,none⟩ (.slice x.vp x.vo.length x.vc)).setCell ⟨X,6,none⟩ (.slice x.ep x.eo.length x.ec)).setCell ⟨X,7,none⟩ (.slice x.pp x.po.length x.pc)).setCell ⟨X,8,none⟩ (.int .u64 x.stamp)).setCell ⟨X,9,none⟩ (.int .i64 x.num))=W3:=⟨_,rfl⟩
     obtain ⟨hx3,fx3⟩:=store_ten x HX.out W3 hW3
     have zc0:W2.cell? ⟨X,0,none⟩=some (.int .i64 0):=by rw [Lib.cell_of_heap HX.out];rfl
     have zf0:=Lib.frozen_of_heap HX.out 0
     have zc1:W2.cell? ⟨X,1,none⟩=some (.string ⟨#[]⟩):=by rw [Lib.cell_of_heap HX.out];rfl
     have zf1:=Lib.frozen_of_heap HX.out 1
     have zc2:W2.cell? ⟨X,2,none⟩=some (.string ⟨#[]⟩):=by rw [Lib.cell_of_heap HX.out];rfl
     have zf2:=Lib.frozen_of_heap HX.out 2
     have zc3:W2.cell? ⟨X,3,none⟩=some (.string ⟨#[]⟩):=by rw [Lib.cell_of_heap HX.out];rfl
     have zf3:=Lib.frozen_of_heap HX.out 3
     have zc4:W2.cell? ⟨X,4,none⟩=some (.int .i64 0):=by rw [Lib.cell_of_heap HX.out];rfl
     have zf4:=Lib.frozen_of_heap HX.out 4
     have zc5:W2.cell? ⟨X,5,none⟩=some (.slice none 0 0):=by rw [Lib.cell_of_heap HX.out];rfl
     have zf5:=Lib.frozen_of_heap HX.out 5
     have zc6:W2.cell? ⟨X,6,none⟩=some (.slice none 0 0):=by rw [Lib.cell_of_heap HX.out];rfl
     have zf6:=Lib.frozen_of_heap HX.out 6
     have zc7:W2.cell? ⟨X,7,none⟩=some (.slice none 0 0):=by rw [Lib.cell_of_heap HX.out];rfl
     have zf7:=Lib.frozen_of_heap HX.out 7
     have zc8:W2.cell? ⟨X,8,none⟩=some (.int .u64 0):=by rw [Lib.cell_of_heap HX.out];rfl
     have zf8:=Lib.frozen_of_heap HX.out 8
     have zc9:W2.cell? ⟨X,9,none⟩=some (.int .i64 0):=by rw [Lib.cell_of_heap HX.out];rfl
     have zf9:=Lib.frozen_of_heap HX.out 9
     have HB3:Hid (Below W0.heap.size W0 W3):=hid (HA2.out.trans (fx3.below HA2.out.size fun k hk=>by rw [hk];exact HLE.out.1))
     have hy3:W3.heap[Y]? = some (.cells #[.int .i64 0,.string ⟨#[]⟩,.string ⟨#[]⟩,.string ⟨#[]⟩,.int .i64 0,.slice none 0 0,.slice none 0 0,.slice none 0 0,.int .u64 0,.int .i64 0] 41 (0,0)):=(fx3.block Y (Array.getElem?_eq_some_iff.1 HY.out).1 (fun e=>HNE.out e.symm)).trans HY.out
     have HX3:=hid hx3
     have HY3:=hid hy3
     have hs3:=HSS.out W3 HB3.out
     clear hx3 hy3 fx3
     refine wpAnyH_ready (rs:=[12]) (by kernel_rfl) (by simp) ?_
     refine AllReadyH.cons (at_drop0 rfl) (fun K hK=>?_) AllReadyH.nil
     rw [if_pos (by rfl)]
     go_simp
     go_wp2_with fail
     try rw [hW3]
     refine hK.out _ _ hs3 (fun hHeld=>?_)
     clear hK K
     try simp only [Act.put,sz]
     clear hs3 hW3 zc0 zf0 zc1 zf1 zc2 zf2 zc3 zf3 zc4 zf4 zc5 zf5 zc6 zf6 zc7 zf7 zc8 zf8 zc9 zf9
     obtain ⟨W4,hW4⟩:∃W4,((((((((((W3.setCell ⟨Y,0,none⟩ (.int .i64 y.kind)).setCell ⟨Y,1,none⟩ (.string y.temp)).setCell ⟨Y,2,none⟩ (.string y.ka)).setCell ⟨Y,3,none⟩ (.string y.kb)).setCell ⟨Y,4,none⟩ (.int .i64 y.iff)).setCell ⟨Y,5,none⟩ (.slice y.vp y.vo.length y.vc)).setCell ⟨Y,6,none⟩ (.slice y.ep y.eo.length y.ec)).setCell ⟨Y,7,none⟩ (.slice y.pp y.po.length y.pc)).setCell ⟨Y,8,none⟩ (.int .u64 y.stamp)).setCell ⟨Y,9,none⟩ (.int .i64 y.num))=W4:=⟨_,rfl⟩
     obtain ⟨hy4,fy4⟩:=store_ten y HY3.out W4 hW4
     have zc0:W3.cell? ⟨Y,0,none⟩=some (.int .i64 0):=by rw [Lib.cell_of_heap HY3.out];rfl
     have zf0:=Lib.frozen_of_heap HY3.out 0
     have zc1:W3.cell? ⟨Y,1,none⟩=some (.string ⟨#[]⟩):=by rw [Lib.cell_of_heap HY3.out];rfl
     have zf1:=Lib.frozen_of_heap HY3.out 1
     have zc2:W3.cell? ⟨Y,2,none⟩=some (.string ⟨#[]⟩):=by rw [Lib.cell_of_heap HY3.out];rfl
     have zf2:=Lib.frozen_of_heap HY3.out 2
     have zc3:W3.cell? ⟨Y,3,none⟩=some (.string ⟨#[]⟩):=by rw [Lib.cell_of_heap HY3.out];rfl
     have zf3:=Lib.frozen_of_heap HY3.out 3
     have zc4:W3.cell? ⟨Y,4,none⟩=some (.int .i64 0):=by rw [Lib.cell_of_heap HY3.out];rfl
     have zf4:=Lib.frozen_of_heap HY3.out 4
     have zc5:W3.cell? ⟨Y,5,none⟩=some (.slice none 0 0):=by rw [Lib.cell_of_heap HY3.out];rfl
     have zf5:=Lib.frozen_of_heap HY3.out 5
     have zc6:W3.cell? ⟨Y,6,none⟩=some (.slice none 0 0):=by rw [Lib.cell_of_heap HY3.out];rfl
     have zf6:=Lib.frozen_of_heap HY3.out 6
     have zc7:W3.cell? ⟨Y,7,none⟩=some (.slice none 0 0):=by rw [Lib.cell_of_heap HY3.out];rfl
     have zf7:=Lib.frozen_of_heap HY3.out 7
     have zc8:W3.cell? ⟨Y,8,none⟩=some (.int .u64 0):=by rw [Lib.cell_of_heap HY3.out];rfl
     have zf8:=Lib.frozen_of_heap HY3.out 8
     have zc9:W3.cell? ⟨Y,9,none⟩=some (.int .i64 0):=by rw [Lib.cell_of_heap HY3.out];rfl
     have zf9:=Lib.frozen_of_heap HY3.out 9
     have HB4:Hid (Below W0.heap.size W0 W4):=hid (HB3.out.trans (fy4.below HB3.out.size fun k hk=>by rw [hk];exact HLE.out.2))
     have hx4:W4.heap[X]? = some (.cells #[.int .i64 x.kind,.string x.temp,.string x.ka,.string x.kb,.int .i64 x.iff,.slice x.vp x.vo.length x.vc,.slice x.ep x.eo.length x.ec,.slice x.pp x.po.length x.pc,.int .u64 x.stamp,.int .i64 x.num] 41 (0,0)):=(fy4.block X (Array.getElem?_eq_some_iff.1 HX3.out).1 HNE.out).trans HX3.out
     have HX4:=hid hx4
     have HY4:=hid hy4
     have hs4:=HSS.out W4 HB4.out
     clear hx4 hy4 fy4
     refine wpAnyH_ready (rs:=[13]) (by kernel_rfl) (by simp) ?_
     refine AllReadyH.cons (at_drop0 rfl) (fun K hK=>?_) AllReadyH.nil
     rw [if_pos (by rfl)]
     go_simp
     go_wp2_with fail
     try rw [hW4]
     refine hK.out _ _ hs4 (fun hHeld=>?_)
     clear hK K
     try simp only [Act.put,sz]
     clear hs4 hW4 zc0 zf0 zc1 zf1 zc2 zf2 zc3 zf3 zc4 zf4 zc5 zf5 zc6 zf6 zc7 zf7 zc8 zf8 zc9 zf9
     refine wpAnyH_done (by kernel_rfl) ?_ _
     clear hHeld
     go_wp2_with fail
     go_meet
     exact ⟨X,Y,rfl,rfl,hid ⟨HB01.out.trans (HB4.out.mono HB01.out.size),HX4.out,HY4.out⟩⟩
   obtain ⟨X,Y,rfl,rfl,HCUT⟩:=hcut
   obtain ⟨hbc,hxc,hyc⟩:=HCUT.out
   have HBC:Hid (Below w.heap.size w wc):=hid (HBR.out.trans (hbc.mono HBR.out.size))
   have HC1:Hid (wc.heap[w.heap.size]? = some (.cells #[.bool o,.slice (some ⟨b,off,none⟩) d.length cap] 24 (0,0))):=hid ((hbc.block _ (Array.getElem?_eq_some_iff.1 HQ1.out).1).trans HQ1.out)
   have HC2:Hid (wc.heap[w.heap.size+1]? = some (.cells #[.bool o,.slice (some ⟨b',off',none⟩) d'.length cap'] 24 (0,0))):=hid ((hbc.block _ (Array.getElem?_eq_some_iff.1 HQ2.out).1).trans HQ2.out)
   have xc0:wc.cell? ⟨X,0,none⟩=some (.int .i64 x.kind):=cz hxc
   have xc1:wc.cell? ⟨X,1,none⟩=some (.string x.temp):=cz hxc
   have xc2:wc.cell? ⟨X,2,none⟩=some (.string x.ka):=cz hxc
   have xc3:wc.cell? ⟨X,3,none⟩=some (.string x.kb):=cz hxc
   have xc4:wc.cell? ⟨X,4,none⟩=some (.int .i64 x.iff):=cz hxc
   have xc5:wc.cell? ⟨X,5,none⟩=some (.slice x.vp x.vo.length x.vc):=cz hxc
   have xc6:wc.cell? ⟨X,6,none⟩=some (.slice x.ep x.eo.length x.ec):=cz hxc
   have xc7:wc.cell? ⟨X,7,none⟩=some (.slice x.pp x.po.length x.pc):=cz hxc
   have xc8:wc.cell? ⟨X,8,none⟩=some (.int .u64 x.stamp):=cz hxc
   have xc9:wc.cell? ⟨X,9,none⟩=some (.int .i64 x.num):=cz hxc
   have yc0:wc.cell? ⟨Y,0,none⟩=some (.int .i64 y.kind):=cz hyc
   have yc1:wc.cell? ⟨Y,1,none⟩=some (.string y.temp):=cz hyc
   have yc2:wc.cell? ⟨Y,2,none⟩=some (.string y.ka):=cz hyc
   have yc3:wc.cell? ⟨Y,3,none⟩=some (.string y.kb):=cz hyc
   have yc4:wc.cell? ⟨Y,4,none⟩=some (.int .i64 y.iff):=cz hyc
   have yc5:wc.cell? ⟨Y,5,none⟩=some (.slice y.vp y.vo.length y.vc):=cz hyc
   have yc6:wc.cell? ⟨Y,6,none⟩=some (.slice y.ep y.eo.length y.ec):=cz hyc
   have yc7:wc.cell? ⟨Y,7,none⟩=some (.slice y.pp y.po.length y.pc):=cz hyc
   have yc8:wc.cell? ⟨Y,8,none⟩=some (.int .u64 y.stamp):=cz hyc
   have yc9:wc.cell? ⟨Y,9,none⟩=some (.int .i64 y.num):=cz hyc
   clear hbc hxc hyc HCUT HSS HQ1 HQ2
   have HEX2:=hid (HEX.out.on HBC.out)
   have HEY2:=hid (HEY.out.on HBC.out)
   have HEN:Hid (decide (x.en=y.en)=decide (x.kind=y.kind∧x.temp=y.temp∧(x.ka=y.ka∧x.kb=y.kb)∧x.iff=y.iff∧x.stamp=y.stamp∧x.num=y.num∧x.vo.map Fx.fld=y.vo.map Fx.fld∧x.eo=y.eo∧x.po=y.po)):=hid (by rw [decide_eq_decide];exact en_eq x.en y.en)
   have HSF:Hid (Calls Tryz.prog 29 #[.slice x.vp x.vo.length x.vc,.slice y.vp y.vo.length y.vc] wc fun e w'=>e=.returned (.bool (decide (x.vo.map Fx.fld=y.vo.map Fx.fld)))∧∃m,w'=wc.drewN m):=hid (sameF_any _ _ x.vo y.vo _ HEX2.out.val HEY2.out.val HEX2.out.fit HEY2.out.fit)
   have HSE:Hid (∀n,Calls Tryz.prog 30 #[.slice x.ep x.eo.length x.ec,.slice y.ep y.eo.length y.ec] (wc.drewN n) fun e w'=>e=.returned (.bool (decide (x.eo=y.eo)))∧∃m,w'=(wc.drewN n).drewN m):=hid fun n=>rsameE_any _ _ x.eo y.eo _ (HEX2.out.on (bel_drewN (Below.refl _ _) n)).eds (HEY2.out.on (bel_drewN (Below.refl _ _) n)).eds HEX2.out.efit.1
   have HSP:Hid (∀n,Calls Tryz.prog 31 #[.slice x.pp x.po.length x.pc,.slice y.pp y.po.length y.pc] (wc.drewN n) fun e w'=>e=.returned (.bool (decide (x.po=y.po)))∧∃m,w'=(wc.drewN n).drewN m):=hid fun n=>rsameM_any _ _ x.po y.po _ (HEX2.out.on (bel_drewN (Below.refl _ _) n)).prd (HEY2.out.on (bel_drewN (Below.refl _ _) n)).prd HEX2.out.pfit.1
   have HKQ:=hid (neq_keyQ x.ka x.kb y.ka y.kb)
   go_upto_region 7 with fail
   go_cut [102] from 27 (fun c wx=>c=.bool (!decide (x.en=y.en))∧Hid (∃n,wx=wc.drewN n))
   case first =>
    by_cases h_kind:x.kind=y.kind
    case neg =>
     have q_kind:(x.kind != y.kind)=true:=bne_iff_ne.2 h_kind
     have HF:Hid (decide (x.kind=y.kind∧x.temp=y.temp∧(x.ka=y.ka∧x.kb=y.kb)∧x.iff=y.iff∧x.stamp=y.stamp∧x.num=y.num∧x.vo.map Fx.fld=y.vo.map Fx.fld∧x.eo=y.eo∧x.po=y.po)=false):=hid (decide_eq_false fun q=>h_kind q.1)
     clear h_kind
     go_wp2_with fail
     go_meet
     exact ⟨by rw [HEN.out,HF.out];rfl,hid ⟨0,rfl⟩⟩
    have q_kind:(x.kind != y.kind)=false:=by rw [h_kind];simp
    by_cases h_temp:x.temp=y.temp
    case neg =>
     have q_temp:(x.temp.toList==y.temp.toList)=false:=seq_false h_temp
     have HF:Hid (decide (x.kind=y.kind∧x.temp=y.temp∧(x.ka=y.ka∧x.kb=y.kb)∧x.iff=y.iff∧x.stamp=y.stamp∧x.num=y.num∧x.vo.map Fx.fld=y.vo.map Fx.fld∧x.eo=y.eo∧x.po=y.po)=false):=hid (decide_eq_false fun q=>h_temp q.2.1)
     clear h_kind h_temp
     go_wp2_with fail
     go_meet
     exact ⟨by rw [HEN.out,HF.out];rfl,hid ⟨0,rfl⟩⟩
    have q_temp:(x.temp.toList==y.temp.toList)=true:=seq_true h_temp
    by_cases h_key:(x.ka=y.ka∧x.kb=y.kb)
    case neg =>
     have q_key:∀V,(binOp .neq 35 (.agg #[.string x.ka,.string x.kb]) (.agg #[.string y.ka,.string y.kb])).run Tryz.prog V=.ok (.bool true) V:=fun V=>by rw [HKQ.out V,decide_eq_false h_key];rfl
     have HF:Hid (decide (x.kind=y.kind∧x.temp=y.temp∧(x.ka=y.ka∧x.kb=y.kb)∧x.iff=y.iff∧x.stamp=y.stamp∧x.num=y.num∧x.vo.map Fx.fld=y.vo.map Fx.fld∧x.eo=y.eo∧x.po=y.po)=false):=hid (decide_eq_false fun q=>h_key q.2.2.1)
     clear h_kind h_temp h_key
     go_wp2_with fail
     go_meet
     exact ⟨by rw [HEN.out,HF.out];rfl,hid ⟨0,rfl⟩⟩
    have q_key:∀V,(binOp .neq 35 (.agg #[.string x.ka,.string x.kb]) (.agg #[.string y.ka,.string y.kb])).run Tryz.prog V=.ok (.bool false) V:=fun V=>by rw [HKQ.out V,decide_eq_true h_key];rfl
    by_cases h_iff:x.iff=y.iff
    case neg =>
     have q_iff:(x.iff != y.iff)=true:=bne_iff_ne.2 h_iff
     have HF:Hid (decide (x.kind=y.kind∧x.temp=y.temp∧(x.ka=y.ka∧x.kb=y.kb)∧x.iff=y.iff∧x.stamp=y.stamp∧x.num=y.num∧x.vo.map Fx.fld=y.vo.map Fx.fld∧x.eo=y.eo∧x.po=y.po)=false):=hid (decide_eq_false fun q=>h_iff q.2.2.2.1)
     clear h_kind h_temp h_key h_iff
     go_wp2_with fail
     go_meet
     exact ⟨by rw [HEN.out,HF.out];rfl,hid ⟨0,rfl⟩⟩
    have q_iff:(x.iff != y.iff)=false:=by rw [h_iff];simp
    by_cases h_stamp:x.stamp=y.stamp
    case neg =>
     have q_stamp:(x.stamp != y.stamp)=true:=bne_iff_ne.2 h_stamp
     have HF:Hid (decide (x.kind=y.kind∧x.temp=y.temp∧(x.ka=y.ka∧x.kb=y.kb)∧x.iff=y.iff∧x.stamp=y.stamp∧x.num=y.num∧x.vo.map Fx.fld=y.vo.map Fx.fld∧x.eo=y.eo∧x.po=y.po)=false):=hid (decide_eq_false fun q=>h_stamp q.2.2.2.2.1)
     clear h_kind h_temp h_key h_iff h_stamp
     go_wp2_with fail
     go_meet
     exact ⟨by rw [HEN.out,HF.out];rfl,hid ⟨0,rfl⟩⟩
    have q_stamp:(x.stamp != y.stamp)=false:=by rw [h_stamp];simp
    by_cases h_num:x.num=y.num
    case neg =>
     have q_num:(x.num != y.num)=true:=bne_iff_ne.2 h_num
     have HF:Hid (decide (x.kind=y.kind∧x.temp=y.temp∧(x.ka=y.ka∧x.kb=y.kb)∧x.iff=y.iff∧x.stamp=y.stamp∧x.num=y.num∧x.vo.map Fx.fld=y.vo.map Fx.fld∧x.eo=y.eo∧x.po=y.po)=false):=hid (decide_eq_false fun q=>h_num q.2.2.2.2.2.1)
     clear h_kind h_temp h_key h_iff h_stamp h_num
     go_wp2_with fail
     go_meet
     exact ⟨by rw [HEN.out,HF.out];rfl,hid ⟨0,rfl⟩⟩
    have q_num:(x.num != y.num)=false:=by rw [h_num];simp
    by_cases h_val:x.vo.map Fx.fld=y.vo.map Fx.fld
    case neg =>
     have q_val:=decide_eq_false h_val
     have HF:Hid (decide (x.kind=y.kind∧x.temp=y.temp∧(x.ka=y.ka∧x.kb=y.kb)∧x.iff=y.iff∧x.stamp=y.stamp∧x.num=y.num∧x.vo.map Fx.fld=y.vo.map Fx.fld∧x.eo=y.eo∧x.po=y.po)=false):=hid (decide_eq_false fun q=>h_val q.2.2.2.2.2.2.1)
     clear h_kind h_temp h_key h_iff h_stamp h_num h_val
     go_wp2_with (first|(go_at_call 29;refine HSF.out.mono ?_;rintro e w1 ⟨rfl,n1,rfl⟩))
     go_meet
     exact ⟨by rw [HEN.out,HF.out];rfl,hid ⟨_,rfl⟩⟩
    have q_val:=decide_eq_true h_val
    by_cases h_eds:x.eo=y.eo
    case neg =>
     have q_eds:=decide_eq_false h_eds
     have HF:Hid (decide (x.kind=y.kind∧x.temp=y.temp∧(x.ka=y.ka∧x.kb=y.kb)∧x.iff=y.iff∧x.stamp=y.stamp∧x.num=y.num∧x.vo.map Fx.fld=y.vo.map Fx.fld∧x.eo=y.eo∧x.po=y.po)=false):=hid (decide_eq_false fun q=>h_eds q.2.2.2.2.2.2.2.1)
     clear h_kind h_temp h_key h_iff h_stamp h_num h_val h_eds
     go_wp2_with (first|(go_at_call 29;refine HSF.out.mono ?_;rintro e w1 ⟨rfl,n1,rfl⟩)|(go_at_call 30;refine (HSE.out n1).mono ?_;rintro e w2 ⟨rfl,n2,rfl⟩))
     go_meet
     exact ⟨by rw [HEN.out,HF.out];rfl,hid ⟨_,rfl⟩⟩
    have q_eds:=decide_eq_true h_eds
    by_cases h_prd:x.po=y.po
    case neg =>
     have q_prd:=decide_eq_false h_prd
     have HF:Hid (decide (x.kind=y.kind∧x.temp=y.temp∧(x.ka=y.ka∧x.kb=y.kb)∧x.iff=y.iff∧x.stamp=y.stamp∧x.num=y.num∧x.vo.map Fx.fld=y.vo.map Fx.fld∧x.eo=y.eo∧x.po=y.po)=false):=hid (decide_eq_false fun q=>h_prd q.2.2.2.2.2.2.2.2)
     clear h_kind h_temp h_key h_iff h_stamp h_num h_val h_eds h_prd
     go_wp2_with (first|(go_at_call 29;refine HSF.out.mono ?_;rintro e w1 ⟨rfl,n1,rfl⟩)|(go_at_call 30;refine (HSE.out n1).mono ?_;rintro e w2 ⟨rfl,n2,rfl⟩)|(go_at_call 31;refine (HSP.out _).mono ?_;rintro e w3 ⟨rfl,n3,rfl⟩))
     go_meet
     exact ⟨by rw [HEN.out,HF.out];rfl,hid ⟨_,rfl⟩⟩
    have q_prd:=decide_eq_true h_prd
    have HF:Hid (decide (x.kind=y.kind∧x.temp=y.temp∧(x.ka=y.ka∧x.kb=y.kb)∧x.iff=y.iff∧x.stamp=y.stamp∧x.num=y.num∧x.vo.map Fx.fld=y.vo.map Fx.fld∧x.eo=y.eo∧x.po=y.po)=true):=hid (decide_eq_true ⟨h_kind,h_temp,h_key,h_iff,h_stamp,h_num,h_val,h_eds,h_prd⟩)
    clear h_kind h_temp h_key h_iff h_stamp h_num h_val h_eds h_prd
    go_wp2_with (first|(go_at_call 29;refine HSF.out.mono ?_;rintro e w1 ⟨rfl,n1,rfl⟩)|(go_at_call 30;refine (HSE.out n1).mono ?_;rintro e w2 ⟨rfl,n2,rfl⟩)|(go_at_call 31;refine (HSP.out _).mono ?_;rintro e w3 ⟨rfl,n3,rfl⟩))
    go_meet
    exact ⟨by rw [HEN.out,HF.out];rfl,hid ⟨_,rfl⟩⟩
   obtain ⟨rfl,HW⟩:=hcut
   obtain ⟨n,rfl⟩:=HW.out
   have HBN:Hid (Below w.heap.size w (wc.drewN n)):=hid (bel_drewN HBC.out n)
   have HN1:Hid ((wc.drewN n).heap[w.heap.size]? = some (.cells #[.bool o,.slice (some ⟨b,off,none⟩) d.length cap] 24 (0,0))):=hid HC1.out
   have HN2:Hid ((wc.drewN n).heap[w.heap.size+1]? = some (.cells #[.bool o,.slice (some ⟨b',off',none⟩) d'.length cap'] 24 (0,0))):=hid HC2.out
   clear xc0 yc0 xc1 yc1 xc2 yc2 xc3 yc3 xc4 yc4 xc5 yc5 xc6 yc6 xc7 yc7 xc8 yc8 xc9 yc9 HW HEN HSF HSE HSP HKQ HEX HEY HEX2 HEY2 HC1 HC2 HBC
   by_cases hs:x.en=y.en
   ·have HA2:Hid (∀(j:Nat) (x y:Ex),j<i+1→d[j]? = some x→d'[j]? = some y→x.en=y.en):=hid fun j x' y' hj h1 h2=>by
     by_cases q:j=i
     ·subst q
      rw [HX0.out] at h1;rw [HY0.out] at h2
      cases h1;cases h2;exact hs
     ·exact HA.out j x' y' (by omega) h1 h2
    have hd:=decide_eq_true hs
    rw [hd]
    clear hs hd
    go_wp2_with fail
    go_roundg (d.length-(i+1))
    case measure=>omega
    exact ⟨i+1,by go_num,HLT.out,Nat.le_refl _,HBN,HN1.out,HN2.out,HA2⟩
   ·have HF:Hid (decide (d.map Ex.en=d'.map Ex.en)=false):=hid (decide_eq_false fun q=>hs (by
     have h:=congrArg (·[i]?) q
     simp only [List.getElem?_map,HX0.out,HY0.out,Option.map_some] at h
     exact Option.some.inj h))
    have hd:=decide_eq_false hs
    rw [hd]
    clear hs hd
    go_wp2_with fail
    go_ret
    exact ⟨by rw [HF.out];rfl,HBN.out⟩
  ·have hltz:¬ (i:Int)<(d.length:Int):=by omega
   have HF:Hid (decide (d.map Ex.en=d'.map Ex.en)=true):=hid (decide_eq_true (all_same HL.out fun j x y h1 h2=>HA.out j x y (by have:=(List.getElem?_eq_some_iff.1 h1).1;omega) h1 h2))
   go_wp2_with fail
   go_ret
   exact ⟨by rw [HF.out];rfl,HBR.out⟩
end
section
open Go.Lib
theorem join_snoc3 (s:List UInt8) (l:List (List UInt8)) (x:List UInt8):Lib.join (l++[x]) s=Lib.join l s++((if l=[] then [] else s)++x):=by
 cases l with
 | nil=>simp [Lib.join]
 | cons y r =>
  rw [List.cons_append,Lib.join_cons,Lib.join_cons]
  simp [Lib.joinTail]
def aloneJ (x:Ex):List UInt8:=if mayO x=true then (lineO x.en).data.toList else []
def wantJ (once:Bool) (d:List Ex):List UInt8:=(if once=true then [111,110,99,101,32] else [])++Lib.join (d.map aloneJ) [32,59,32]
theorem want_is {once:Bool} {d:List Ex} (h:∀x∈d,mayO x=true):wantJ once d=(printO once (d.map Ex.en)).data.toList:=by
 have e:d.map aloneJ=((d.map Ex.en).map lineO).map (·.data.toList):=by
  rw [List.map_map,List.map_map]
  exact List.map_congr_left fun x hx=>by simp [aloneJ,h x hx]
 unfold wantJ printO join3
 rw [e]
 cases once<;>simp
theorem want_snoc (once:Bool) (d:List Ex) (x:Ex):wantJ once (d++[x])=wantJ once d++((if d=[] then [] else [32,59,32])++aloneJ x):=by
 unfold wantJ
 rw [List.map_append,List.map_cons,List.map_nil,join_snoc3,List.append_assoc]
 simp
end
section
open Go.RowKit Go.Lib
def exT:ByteArray:=⟨#[111,110,99,101,32,117,112,100,97,116,101,32,80,97,116,105,101,110,116,47,112,49,32,105,102,32,50,32,110,97,109,101,61,66,111,32,59,32,115,101,97,114,99,104,32,80,97,116,105,101,110,116,32,110,97,109,101,94,65]⟩
def exU:En:=⟨3,⟨#[]⟩,⟨#[80,97,116,105,101,110,116]⟩,⟨#[112,49]⟩,2,[(⟨#[110,97,109,101]⟩,[⟨#[66,111]⟩])],[],[],0,0⟩
def exS:En:=⟨8,⟨#[]⟩,⟨#[80,97,116,105,101,110,116]⟩,⟨#[]⟩,0,[],[],[(⟨#[110,97,109,101]⟩,3,⟨#[65]⟩)],0,0⟩
theorem ex_may:mayRq [exU,exS]=true:=by kernel_rfl
theorem ex_dec:decL 2=[50]:=by rw [decL_one (by omega)];rfl
theorem ex_line:lineRq true [exU,exS]=exT.data.toList:=by
 have h1:wordsEn exU=[[117,112,100,97,116,101],[80,97,116,105,101,110,116,47,112,49],[105,102],[50],[110,97,109,101,61,66,111]]:=by
  have hr:wordsEn exU=nameN 3::(([]:List (List UInt8))++(([]:List (List UInt8))++keyWd exU::([[105,102],decL 2]++(bytesL (wordsL exU.val)++(bytesL (exU.eds.map wordE)++bytesL (exU.pred.map wordM)))))):=by rfl
  rw [hr,ex_dec]
  decide
 have h2:wordsEn exS=[[115,101,97,114,99,104],[80,97,116,105,101,110,116],[110,97,109,101,94,65]]:=by kernel_rfl
 unfold lineRq wordsRq
 simp only [entriesW,h1,h2]
 decide
theorem ex_print:(printO true [exU,exS])=exT:=ba_ext ((print_is ex_may).trans ex_line)
theorem ex_read:opR exT.data.toList=some (true,[exU,exS]):=by
 rw [←ex_print]
 exact op_back ex_may (fun e he=>by
  rcases List.mem_cons.1 he with rfl|he
  ·exact ⟨by decide,by decide⟩
  ·rw [List.mem_singleton] at he;subst he;exact ⟨by decide,by decide⟩)
theorem ex_none:opR []=none:=by rw [opR_is];rfl
theorem own_rq {n:Nat} {w:World} {v:Value} {d:List Ex} (h:KEx.Own n w v d) (hq:∀x∈d,OwnQ n x w) (hl:d.length≤4294967000):RqIn w v d :=
 ⟨Kind.own_is h,fun x hx=>(hq x hx).ex,hl⟩
set_option maxHeartbeats 8000000 in
set_option maxRecDepth 100000 in
theorem fixed16_any (w:World) (hv:OpVars w):Calls Tryz.prog 9 #[] w fun e w'=>e=.returned (.bool true)∧Below w.heap.size w w':=by
 have HV:=hid hv
 have HP1:Hid (Calls Tryz.prog 13 #[.string ⟨#[111,110,99,101,32,117,112,100,97,116,101,32,80,97,116,105,101,110,116,47,112,49,32,105,102,32,50,32,110,97,109,101,61,66,111,32,59,32,115,101,97,114,99,104,32,80,97,116,105,101,110,116,32,110,97,109,101,94,65]⟩] w fun e w'=>∃v d,e=.returned (.tuple #[.agg #[.bool true,v],.int .i64 0])∧RqIn w' v d∧d.map Ex.en=[exU,exS]∧Below w.heap.size w w'):=hid ((opparse_any exT w hv (by decide)).mono (by
  rintro e w' ⟨⟨once,v,d,c,rfl,ho,hq,hc⟩,hb⟩
  rcases hc with ⟨rfl,h⟩|⟨_,_,_,h⟩
  ·rw [ex_read] at h
   have h2:=Option.some.inj h
   have h3:true=once:=congrArg Prod.fst h2
   have h4:[exU,exS]=d.map Ex.en:=congrArg Prod.snd h2
   subst h3
   have hl:d.length=2:=by have:=congrArg List.length h4;simpa using this.symm
   exact ⟨v,d,rfl,own_rq ho hq (by omega),h4.symm,hb⟩
  ·rw [ex_read] at h;cases h))
 have HP0:Hid (∀W,Below w.heap.size w W→Calls Tryz.prog 13 #[.string ⟨#[]⟩] W fun e w'=>∃o pv nv cv,e=.returned (.tuple #[.agg #[.bool o,.slice pv nv cv],.int .i64 4])∧Below W.heap.size W w'):=hid fun W hW=>(opparse_any ⟨#[]⟩ W (HV.out.on hW) (by decide)).mono (by
  rintro e w' ⟨⟨once,v,d,c,rfl,ho,hq,hc⟩,hb⟩
  rcases hc with ⟨_,h⟩|⟨rfl,_,_,h⟩
  ·have h':opR []=some (once,d.map Ex.en):=h
   rw [ex_none] at h';cases h'
  ·obtain ⟨pv,cv,rfl⟩:=Kind.own_shape ho
   exact ⟨once,pv,_,cv,rfl,hb⟩)
 have HM0:Hid (∀W,Calls Tryz.prog 12 #[.agg #[.bool false,.slice none 0 0]] W fun e w'=>e=.returned (.bool false)∧Below W.heap.size W w'):=hid fun W=>(opMay_any false (.slice none 0 0) [] W ⟨⟨none,0,rfl,.inl rfl⟩,(fun x hx=>by cases hx),by decide⟩)
 clear hv
 go_enter Tryz.func9,Tryz.ntmps9
 go_wp2_with fail
 refine HP1.out.mono ?_
 rintro e w1 ⟨v,d,rfl,hd,hes,hb1⟩
 obtain ⟨x,y,rfl⟩:∃x y,d=[x,y]:=by
  have hl:d.length=2:=by have:=congrArg List.length hes;simpa using this
  match d,hl with
  | [x,y],_=>exact ⟨x,y,rfl⟩
 have hes2:[x.en,y.en]=[exU,exS]:=hes
 have hx:x.en=exU:=by injection hes2
 have hy:y.en=exS:=by injection hes2 with _ h2;injection h2
 clear hes2
 obtain ⟨a,cap,rfl,hrow⟩:=hd.row
 obtain ⟨b,off,rfl,hat⟩:∃b off,a=some ⟨b,off,none⟩∧KEx.At w1 b off [x,y]:=by
  rcases hrow with h|⟨b,off,h1,h2⟩
  ·cases h
  ·exact ⟨b,off,h1,h2⟩
 have hxi:x.iff=2:=congrArg En.iff hx
 have hxk:x.kind=3:=congrArg En.kind hx
 have hyk:y.kind=8:=congrArg En.kind hy
 have HIF:=hid hxi
 have HXK:=hid hxk
 have HYK:=hid hyk
 have HMR:Hid (mayRO [x,y]=true):=hid (by rw [mayRO_is,hes];exact ex_may)
 have HPT:Hid (printO true ([x,y].map Ex.en)=exT):=hid (by rw [hes];exact ex_print)
 have HD:=hid hd
 have HAT:=hid hat
 have HB1:=hid hb1
 have HB2:Hid (Below w1.heap.size w1 (w1.alloc (.cells #[.bool true,.slice (some ⟨b,off,none⟩) 2 cap] 24))):=hid ((Below.refl _ _).alloc (Nat.le_refl _) _)
 have HBX:Hid ((w1.alloc (.cells #[.bool true,.slice (some ⟨b,off,none⟩) 2 cap] 24)).heap[w1.heap.size]? = some (.cells #[.bool true,.slice (some ⟨b,off,none⟩) 2 cap] 24 (0,0))):=hid (heap_alloc_new w1 _)
 have HPR:Hid (∀W,Below w1.heap.size w1 W→Calls Tryz.prog 10 #[.agg #[.bool true,.slice (some ⟨b,off,none⟩) 2 cap]] W fun e w'=>e=.returned (.tuple #[.string exT,.int .i64 0])∧Below W.heap.size W w'):=hid fun W hW=>by
  have h:=opPrint_any true (.slice (some ⟨b,off,none⟩) 2 cap) [x,y] W (HD.out.on hW) (HV.out.on (HB1.out.trans (hW.mono HB1.out.size)))
  rw [HMR.out,if_pos rfl,if_pos rfl,HPT.out] at h
  exact h
 have HMY:Hid (∀W,Below w1.heap.size w1 W→Calls Tryz.prog 12 #[.agg #[.bool true,.slice (some ⟨b,off,none⟩) 2 cap]] W fun e w'=>e=.returned (.bool true)∧Below W.heap.size W w'):=hid fun W hW=>by
  have h:=opMay_any true (.slice (some ⟨b,off,none⟩) 2 cap) [x,y] W (HD.out.on hW)
  rw [HMR.out] at h
  exact h
 have HEQ:Hid (∀W,Below w1.heap.size w1 W→Calls Tryz.prog 14 #[.agg #[.bool true,.slice (some ⟨b,off,none⟩) 2 cap],.agg #[.bool true,.slice (some ⟨b,off,none⟩) 2 cap]] W fun e w'=>e=.returned (.bool true)∧Below W.heap.size W w'):=hid fun W hW=>by
  have h:=opEqual_any true true (.slice (some ⟨b,off,none⟩) 2 cap) (.slice (some ⟨b,off,none⟩) 2 cap) [x,y] [x,y] W (HD.out.on hW) (HD.out.on hW)
  rw [decide_eq_true (⟨rfl,rfl⟩:true=true∧[x,y].map Ex.en=[x,y].map Ex.en)] at h
  exact h
 have HW1:Hid (∀W,Calls Tryz.prog 17 #[.agg #[.int .i64 x.kind,.string x.temp,.string x.ka,.string x.kb,.int .i64 x.iff,.slice x.vp x.vo.length x.vc,.slice x.ep x.eo.length x.ec,.slice x.pp x.po.length x.pc,.int .u64 x.stamp,.int .i64 x.num]] W fun e w'=>e=.returned (.bool true)∧Below W.heap.size W w'):=hid fun W=>by
  have h:=opWrites_any x W
  rw [HXK.out] at h
  exact h
 have HW2:Hid (∀W,Calls Tryz.prog 17 #[.agg #[.int .i64 y.kind,.string y.temp,.string y.ka,.string y.kb,.int .i64 y.iff,.slice y.vp y.vo.length y.vc,.slice y.ep y.eo.length y.ec,.slice y.pp y.po.length y.pc,.int .u64 y.stamp,.int .i64 y.num]] W fun e w'=>e=.returned (.bool false)∧Below W.heap.size W w'):=hid fun W=>by
  have h:=opWrites_any y W
  rw [HYK.out] at h
  exact h
 have HCX:Hid (∀W,Below w1.heap.size w1 W→W.cell? ⟨b,off+0,none⟩=some (.int .i64 x.kind)∧W.cell? ⟨b,off+1,none⟩=some (.string x.temp)∧W.cell? ⟨b,off+2,none⟩=some (.string x.ka)∧W.cell? ⟨b,off+3,none⟩=some (.string x.kb)∧W.cell? ⟨b,off+4,none⟩=some (.int .i64 x.iff)∧W.cell? ⟨b,off+5,none⟩=some (.slice x.vp x.vo.length x.vc)∧W.cell? ⟨b,off+6,none⟩=some (.slice x.ep x.eo.length x.ec)∧W.cell? ⟨b,off+7,none⟩=some (.slice x.pp x.po.length x.pc)∧W.cell? ⟨b,off+8,none⟩=some (.int .u64 x.stamp)∧W.cell? ⟨b,off+9,none⟩=some (.int .i64 x.num)):=hid fun W hW=>by
  have h:=row_cellsQ (Kind.at_kept HAT.out hW) 0 x rfl
  simpa using h
 have HCY:Hid (∀W,Below w1.heap.size w1 W→W.cell? ⟨b,off+10+0,none⟩=some (.int .i64 y.kind)∧W.cell? ⟨b,off+10+1,none⟩=some (.string y.temp)∧W.cell? ⟨b,off+10+2,none⟩=some (.string y.ka)∧W.cell? ⟨b,off+10+3,none⟩=some (.string y.kb)∧W.cell? ⟨b,off+10+4,none⟩=some (.int .i64 y.iff)∧W.cell? ⟨b,off+10+5,none⟩=some (.slice y.vp y.vo.length y.vc)∧W.cell? ⟨b,off+10+6,none⟩=some (.slice y.ep y.eo.length y.ec)∧W.cell? ⟨b,off+10+7,none⟩=some (.slice y.pp y.po.length y.pc)∧W.cell? ⟨b,off+10+8,none⟩=some (.int .u64 y.stamp)∧W.cell? ⟨b,off+10+9,none⟩=some (.int .i64 y.num)):=hid fun W hW=>by
  have h:=row_cellsQ (Kind.at_kept HAT.out hW) 1 y rfl
  simpa using h
 clear hd hes hrow hat hx hy hxi hxk hyk hb1
 go_wp2_with fail
 refine (HPR.out _ HB2.out).mono ?_
 rintro e w2 ⟨rfl,hb2⟩
 have HB3:=hid (HB2.out.trans (hb2.mono HB2.out.size))
 have HX2:=hid ((hb2.block _ (by simp)).trans HBX.out)
 clear hb2
 go_wp2_with fail
 refine (HP0.out w2 (HB1.out.trans (HB3.out.mono HB1.out.size))).mono ?_
 rintro e w3 ⟨o0,pv,nv,cv,rfl,hb3⟩
 have hlt2:w1.heap.size<w2.heap.size:=(Array.getElem?_eq_some_iff.1 HX2.out).1
 have hal3:=(Below.refl w3.heap.size w3).alloc (Nat.le_refl _) (.cells #[.bool o0,.slice pv nv cv] 24)
 have HB4:Hid (Below w1.heap.size w1 (w3.alloc (.cells #[.bool o0,.slice pv nv cv] 24))):=hid ((HB3.out.trans (hb3.mono HB3.out.size)).trans (hal3.mono (HB3.out.trans (hb3.mono HB3.out.size)).size))
 have HX3:Hid ((w3.alloc (.cells #[.bool o0,.slice pv nv cv] 24)).heap[w1.heap.size]? = some (.cells #[.bool true,.slice (some ⟨b,off,none⟩) 2 cap] 24 (0,0))):=hid ((hal3.block _ (Nat.lt_of_lt_of_le hlt2 hb3.size)).trans ((hb3.block _ hlt2).trans HX2.out))
 clear hb3 hal3
 obtain ⟨WA,hWA⟩:∃WA,w3.alloc (.cells #[.bool o0,.slice pv nv cv] 24)=WA:=⟨_,rfl⟩
 rw [hWA] at HB4 HX3
 have HWA:=hid hWA
 obtain ⟨q0,q1,_,_⟩:=two_facts HX3.out
 obtain ⟨p0,p1,p2,p3,p4,p5,p6,p7,p8,p9⟩:=HCX.out WA HB4.out
 have p4':=p4
 rw [HIF.out] at p4'
 clear p4
 have hTq:(exT.toList==[111,110,99,101,32,117,112,100,97,116,101,32,80,97,116,105,101,110,116,47,112,49,32,105,102,32,50,32,110,97,109,101,61,66,111,32,59,32,115,101,97,114,99,104,32,80,97,116,105,101,110,116,32,110,97,109,101,94,65])=true:=by rw [toList_data];decide
 go_upto_region 4 with fail
 try rw [hWA]
 go_wp2_with fail
 refine (HMY.out WA HB4.out).mono ?_
 rintro e w5 ⟨rfl,hb5⟩
 have HB5:=hid (HB4.out.trans (hb5.mono HB4.out.size))
 have HX5:=hid ((hb5.block _ (Array.getElem?_eq_some_iff.1 HX3.out).1).trans HX3.out)
 clear hb5
 obtain ⟨r50,r51,_,_⟩:=two_facts HX5.out
 go_wp2_with fail
 refine (HM0.out w5).mono ?_
 rintro e w6 ⟨rfl,hb6⟩
 have HB6:=hid (HB5.out.trans (hb6.mono HB5.out.size))
 have HX6:=hid ((hb6.block _ (Array.getElem?_eq_some_iff.1 HX5.out).1).trans HX5.out)
 clear hb6
 obtain ⟨r60,r61,_,_⟩:=two_facts HX6.out
 go_wp2_with fail
 refine (HEQ.out w6 HB6.out).mono ?_
 rintro e w7 ⟨rfl,hb7⟩
 have HB7:=hid (HB6.out.trans (hb7.mono HB6.out.size))
 have HX7:=hid ((hb7.block _ (Array.getElem?_eq_some_iff.1 HX6.out).1).trans HX6.out)
 clear hb7
 obtain ⟨r70,r71,_,_⟩:=two_facts HX7.out
 obtain ⟨s0,s1,s2,s3,s4,s5,s6,s7,s8,s9⟩:=HCX.out w7 HB7.out
 simp only [Nat.add_zero] at s0
 go_wp2_with fail
 refine (HW1.out w7).mono ?_
 rintro e w8 ⟨rfl,hb8⟩
 have HB8:=hid (HB7.out.trans (hb8.mono HB7.out.size))
 have HX8:=hid ((hb8.block _ (Array.getElem?_eq_some_iff.1 HX7.out).1).trans HX7.out)
 clear hb8
 obtain ⟨r80,r81,_,_⟩:=two_facts HX8.out
 obtain ⟨t0,t1,t2,t3,t4,t5,t6,t7,t8,t9⟩:=HCY.out w8 HB8.out
 try simp only [Nat.add_zero] at t0
 go_wp2_with fail
 refine (HW2.out w8).mono ?_
 rintro e w9 ⟨rfl,hb9⟩
 have HB9:=hid (HB8.out.trans (hb9.mono HB8.out.size))
 clear hb9
 go_wp2_with fail
 go_ret
 exact ⟨rfl,HB1.out.trans (HB9.out.mono HB1.out.size)⟩
end
section
open Go.RowKit Go.Lib
theorem print_le (once:Bool) (es:List En) (h:mayRq es=true) (hs:∀e∈es,0≤e.stamp∧e.stamp≤18446744073709551615):(printO once es).size≤9700000:=by
 have h':=h
 unfold mayRq at h'
 simp only [Bool.and_eq_true,decide_eq_true_eq,List.all_eq_true] at h'
 have hj:=join3_size 600000 ((es.map lineO).map (·.data.toList)) (fun l hl=>by
  obtain ⟨s,hs',rfl⟩:=List.mem_map.1 hl
  obtain ⟨e,he,rfl⟩:=List.mem_map.1 hs'
  have hp:=mayEn_parts (h'.2 e he)
  refine line_le e ?_ (hs e he).1 (hs e he).2
  have hx:mayO ⟨e.kind,e.temp,e.ka,e.kb,e.iff,none,0,e.val.map fun f=>⟨f.1,none,0,f.2⟩,none,0,e.eds,none,0,e.pred,e.stamp,e.num⟩=true:=by
   rw [mayO_is]
   have:(⟨e.kind,e.temp,e.ka,e.kb,e.iff,none,0,e.val.map fun f=>⟨f.1,none,0,f.2⟩,none,0,e.eds,none,0,e.pred,e.stamp,e.num⟩:Ex).en=e:=by
    cases e
    simp [Ex.en,Fx.fld,Function.comp_def]
   rw [this];exact h'.2 e he
  have:=(mayO_parts hx).2.1
  have he2:(⟨e.kind,e.temp,e.ka,e.kb,e.iff,none,0,e.val.map fun f=>⟨f.1,none,0,f.2⟩,none,0,e.eds,none,0,e.pred,e.stamp,e.num⟩:Ex).en=e:=by
   cases e
   simp [Ex.en,Fx.fld,Function.comp_def]
  rw [he2] at this
  exact this)
 rw [List.length_map,List.length_map] at hj
 have h2:es.length * 600003≤16 * 600003:=Nat.mul_le_mul_right _ h'.1.2
 unfold printO
 rw [ByteArray.size_append]
 have e1:(join3 (es.map lineO)).size=(Lib.join ((es.map lineO).map (·.data.toList)) [32,59,32]).length:=rfl
 have e2:(if once=true then (⟨#[111,110,99,101,32]⟩:ByteArray) else ⟨#[]⟩).size≤5:=by split<;>decide
 omega
end
section
open Go.RowKit Go.Lib
theorem want_step (o:Bool) (d:List Ex) (i:Nat) (x:Ex) (hx:d[i]? = some x):wantJ o (d.take (i+1))=wantJ o (d.take i)++((if i=0 then [] else [32,59,32])++aloneJ x):=by
 rw [List.take_add_one,hx,Option.toList_some,want_snoc]
 have:d.take i=[]↔i=0:=by
  obtain ⟨hi,_⟩:=List.getElem?_eq_some_iff.1 hx
  rw [←List.length_eq_zero_iff,List.length_take]
  omega
 simp only [this]
end
section
open Go.RowKit Go.Lib
theorem want_le (o:Bool) (d:List Ex) (h:∀x∈d,mayO x=true) (hl:d.length≤16) (hs:∀x∈d,0≤x.stamp∧x.stamp≤18446744073709551615):(wantJ o d).length≤9700000:=by
 have hj:=join3_size 600000 (d.map aloneJ) (fun l hl=>by
  obtain ⟨x,hx,rfl⟩:=List.mem_map.1 hl
  unfold aloneJ
  rw [if_pos (h x hx)]
  exact line_le x.en (mayO_parts (h x hx)).2.1 (hs x hx).1 (hs x hx).2)
 rw [List.length_map] at hj
 have h2:d.length * 600003≤16 * 600003:=Nat.mul_le_mul_right _ hl
 unfold wantJ
 rw [List.length_append]
 have e2:(if o=true then ([111,110,99,101,32]:List UInt8) else []).length≤5:=by split<;>decide
 omega
set_option maxHeartbeats 8000000 in
set_option maxRecDepth 100000 in
theorem rPrint16_any (once:Bool) (v:Value) (d:List Ex) (w:World) (hd:RqIn w v d) :
  Calls Tryz.prog 11 #[.agg #[.bool once,v]] w fun e w' =>
   e=.returned (.tuple #[.string (if mayRO d=true then printO once (d.map Ex.en) else ⟨#[]⟩),.int .i64 (if mayRO d=true then 0 else 4)])∧Below w.heap.size w w':=by
 have HD:=hid hd
 obtain ⟨a,cap,rfl,hrow⟩:=hd.row
 have hlen:=hd.len
 have HR:=hid hrow
 have HAL:Hid (Below w.heap.size w (w.alloc (.cells #[.bool once,.slice a d.length cap] 24))):=hid ((Below.refl _ _).alloc (Nat.le_refl _) _)
 have HBX:Hid ((w.alloc (.cells #[.bool once,.slice a d.length cap] 24)).heap[w.heap.size]? = some (.cells #[.bool once,.slice a d.length cap] 24 (0,0))):=hid (heap_alloc_new w _)
 have HMY:=hid (rMay16_any once (.slice a d.length cap) d _ (hd.on HAL.out))
 rw [←mayRO_is] at HMY
 clear hd hrow
 cases hm:mayRO d with
 | false =>
  rw [hm] at HMY
  go_enter Tryz.func11,Tryz.ntmps11
  go_wp2_with (go_at_call 21;refine HMY.out.mono ?_;rintro e w1 ⟨rfl,hb1⟩;have HB1:=hid (HAL.out.trans (hb1.mono HAL.out.size));clear hb1)
  go_ret2
  exact ⟨rfl,HB1.out⟩
 | true =>
  rw [hm] at HMY
  have hm2:=hm
  unfold mayRO at hm2
  simp only [Bool.and_eq_true,decide_eq_true_eq,List.all_eq_true] at hm2
  obtain ⟨⟨hl0,hl16⟩,hall⟩:=hm2
  have HALL:=hid hall
  have HSZ:Hid (∀i,(wantJ once (d.take i)).length≤9700000):=hid fun i=>want_le once _ (fun x hx=>HALL.out x (List.mem_of_mem_take hx)) (by rw [List.length_take];omega) fun x hx=>⟨(HD.out.each x (List.mem_of_mem_take hx)).t0,(HD.out.each x (List.mem_of_mem_take hx)).t1⟩
  have HFI:Hid (⟨(wantJ once d).toArray⟩=printO once (d.map Ex.en)):=hid (by
   rw [want_is HALL.out])
  obtain ⟨b,off,rfl,hat⟩:∃b off,a=some ⟨b,off,none⟩∧KEx.At w b off d:=by
   rcases HR.out with h|⟨b,off,h1,h2⟩
   ·rw [h] at hl0;simp at hl0
   ·exact ⟨b,off,h1,h2⟩
  have HAT:=hid hat
  clear hat HR hall hm
  rw [if_pos rfl,if_pos rfl]
  go_enter Tryz.func11,Tryz.ntmps11
  go_wp2_with fail
  refine HMY.out.mono ?_
  rintro e w1 ⟨rfl,hb1⟩
  have HB1:=hid (HAL.out.trans (hb1.mono HAL.out.size))
  have HQ1:Hid (w1.heap[w.heap.size]? = some (.cells #[.bool once,.slice (some ⟨b,off,none⟩) d.length cap] 24 (0,0))):=hid ((hb1.block _ (by simp)).trans HBX.out)
  obtain ⟨e0,e1,_,_⟩:=two_facts HQ1.out
  clear hb1
  go_upto_if 10 with fail
  go_cut [4] from 6 (fun v4 wx=>v4=.string ⟨(wantJ once []).toArray⟩∧wx=w1)
  case first =>
   cases once
   ·go_wp2_with fail
    go_meet
    exact ⟨rfl,rfl⟩
   ·go_wp2_with fail
    go_meet
    exact ⟨rfl,rfl⟩
  obtain ⟨rfl,rfl⟩:=hcut
  go_wp2_with fail
  go_loopg [4,5] d.length (fun g v4 vi wr=>∃(i:Nat),vi=.int .i64 i∧v4=.string ⟨(wantJ once (d.take i)).toArray⟩∧i≤d.length∧d.length-i≤g∧Hid (Below w.heap.size w wr)∧Hid (wr.heap[w.heap.size]? = some (.cells #[.bool once,.slice (some ⟨b,off,none⟩) d.length cap] 24 (0,0))))
  case atStart=>exact ⟨0,rfl,rfl,by omega,by omega,HB1,HQ1⟩
  case round =>
   obtain ⟨i,rfl,rfl,hi,hig,HB,HQ⟩:=hrel
   have r2:wr.cell? ⟨w.heap.size,1,none⟩=some (.slice (some ⟨b,off,none⟩) d.length cap):=by rw [Lib.cell_of_heap HQ.out];rfl
   by_cases hlt:i<d.length
   ·have HLT:=hid hlt
    have hltz:(i:Int)<(d.length:Int):=by omega
    have hiz:(0:Int)≤(i:Int):=by omega
    obtain ⟨y,hy⟩:∃y,d[i]? = some y:=⟨_,List.getElem?_eq_getElem hlt⟩
    have HY:=hid (List.mem_of_getElem? hy)
    obtain ⟨c0,c1,c2,c3,c4,c5,c6,c7,c8,c9⟩:=row_cellsQ (Kind.at_kept HAT.out HB.out) i y hy
    simp only [Nat.add_zero] at c0
    have HLN:Hid (Calls Tryz.prog 22 #[.agg #[.int .i64 y.kind,.string y.temp,.string y.ka,.string y.kb,.int .i64 y.iff,.slice y.vp y.vo.length y.vc,.slice y.ep y.eo.length y.ec,.slice y.pp y.po.length y.pc,.int .u64 y.stamp,.int .i64 y.num]] wr fun e w'=>e=.returned (.string (lineO y.en))∧Below wr.heap.size wr w'):=hid (rline16_any y wr ((HD.out.each y HY.out).on HB.out) (mayEn_parts (by rw [←mayO_is];exact HALL.out y HY.out)))
    have HW1:=hid (want_step once d i y hy)
    have hle1:=HSZ.out (i+1)
    have hle0:=HSZ.out i
    rw [HW1.out] at hle1
    obtain ⟨s1,hs1⟩:∃s1:ByteArray,⟨(wantJ once (d.take i)).toArray⟩=s1:=⟨_,rfl⟩
    have z1:s1.size≤9700000:=by rw [←hs1];simpa [ByteArray.size] using hle0
    obtain ⟨L,hL⟩:∃L,lineO y.en=L:=⟨_,rfl⟩
    have hal:aloneJ y=L.data.toList:=by unfold aloneJ;rw [if_pos (HALL.out y HY.out),hL]
    rw [hal] at hle1 HW1
    have z2:L.size≤9700000:=by
     have e1:L.data.toList.length=L.size:=rfl
     simp only [List.length_append] at hle1
     omega
    rw [hL] at HLN
    have HA0:Hid (i=0→s1++L=⟨(wantJ once (d.take (i+1))).toArray⟩):=hid fun q=>by
     rw [HW1.out,if_pos q,←hs1]
     apply ByteArray.ext
     simp
    have HA1:Hid (¬ i=0→s1++⟨#[32,59,32]⟩++L=⟨(wantJ once (d.take (i+1))).toArray⟩):=hid fun q=>by
     rw [HW1.out,if_neg q,←hs1]
     apply ByteArray.ext
     simp
    rw [hs1]
    clear hs1 hL hal hle1 hle0 HW1 hy
    have three:(⟨#[32,59,32]⟩:ByteArray).size=3:=rfl
    by_cases h0:i=0
    ·have h0z:¬ (0:Int)<(i:Int):=by omega
     have E:=hid (HA0.out h0)
     clear h0
     go_wp2_with fail
     refine HLN.out.mono ?_
     rintro e w4 ⟨rfl,hb4⟩
     have HB4:=hid (HB.out.trans (hb4.mono HB.out.size))
     have HQ4:=hid ((hb4.block _ (Array.getElem?_eq_some_iff.1 HQ.out).1).trans HQ.out)
     clear hb4
     go_wp2_with fail
     go_roundg (d.length-(i+1))
     case measure=>omega
     exact ⟨i+1,by go_num,by rw [E.out],HLT.out,Nat.le_refl _,HB4,HQ4⟩
    ·have h0z:(0:Int)<(i:Int):=by omega
     have E:=hid (HA1.out h0)
     clear h0
     go_wp2_with fail
     refine HLN.out.mono ?_
     rintro e w4 ⟨rfl,hb4⟩
     have HB4:=hid (HB.out.trans (hb4.mono HB.out.size))
     have HQ4:=hid ((hb4.block _ (Array.getElem?_eq_some_iff.1 HQ.out).1).trans HQ.out)
     clear hb4
     go_wp2_with fail
     go_roundg (d.length-(i+1))
     case measure=>omega
     exact ⟨i+1,by go_num,by rw [E.out],HLT.out,Nat.le_refl _,HB4,HQ4⟩
   ·obtain rfl:i=d.length:=by omega
    have hltz:¬ (d.length:Int)<(d.length:Int):=by omega
    rw [List.take_length]
    go_wp2_with fail
    go_ret2
    exact ⟨by first|(rw [HFI.out];done)|(rw [HFI.out];rfl),HB.out⟩
end
section
open Go.RowKit Go.Lib
set_option maxHeartbeats 8000000 in
set_option maxRecDepth 100000 in
theorem prints16_any (o:Bool) (a:Option Addr) (cap:Nat) (d:List Ex) (w:World) (hd:RqIn w (.slice a d.length cap) d) (hv:OpVars w) :
  Calls Tryz.prog 3 #[.agg #[.bool o,.slice a d.length cap]] w fun e w'=>e=.returned (.bool true)∧Below w.heap.size w w':=by
 have HD:=hid hd
 have HV:=hid hv
 have HFX:=hid (fixed16_any _ (hv.on ((Below.refl w.heap.size w).alloc (Nat.le_refl _) (.cells #[.bool o,.slice a d.length cap] 24))))
 obtain ⟨W0,hW0⟩:∃W0,w.alloc (.cells #[.bool o,.slice a d.length cap] 24)=W0:=⟨_,rfl⟩
 have HB0:Hid (Below w.heap.size w W0):=hid (by rw [←hW0];exact (Below.refl _ _).alloc (Nat.le_refl _) _)
 have HQ0:Hid (W0.heap[w.heap.size]? = some (.cells #[.bool o,.slice a d.length cap] 24 (0,0))):=hid (by rw [←hW0];exact heap_alloc_new w _)
 rw [hW0] at HFX
 clear hd hv
 go_enter Tryz.func3,Tryz.ntmps3
 go_wp2_with fail
 try rw [hW0]
 clear hW0
 refine HFX.out.mono ?_
 rintro e w1 ⟨rfl,hb1⟩
 have HB1:=hid (HB0.out.trans (hb1.mono HB0.out.size))
 have HQ1:Hid (w1.heap[w.heap.size]? = some (.cells #[.bool o,.slice a d.length cap] 24 (0,0))):=hid ((hb1.block _ (Array.getElem?_eq_some_iff.1 HQ0.out).1).trans HQ0.out)
 obtain ⟨k1,k2,_,_⟩:=two_facts HQ1.out
 have HPR:=hid (opPrint_any o _ d w1 (HD.out.on HB1.out) (HV.out.on HB1.out))
 clear hb1 HFX HB0 HQ0 W0
 go_wp2_with fail
 refine HPR.out.mono ?_
 rintro e w2 ⟨rfl,hb2⟩
 have HB2:=hid (HB1.out.trans (hb2.mono HB1.out.size))
 have HQ2:Hid (w2.heap[w.heap.size]? = some (.cells #[.bool o,.slice a d.length cap] 24 (0,0))):=hid ((hb2.block _ (Array.getElem?_eq_some_iff.1 HQ1.out).1).trans HQ1.out)
 clear hb2 HPR k1 k2 HB1 HQ1
 obtain ⟨k1,k2,_,_⟩:=two_facts HQ2.out
 have HRP:=hid (rPrint16_any o _ d w2 (HD.out.on HB2.out))
 obtain ⟨S0,hS0⟩:∃S0:ByteArray,(if mayRO d=true then printO o (d.map Ex.en) else ⟨#[]⟩)=S0:=⟨_,rfl⟩
 obtain ⟨E0,hE0⟩:∃E0:Int,(if mayRO d=true then (0:Int) else 4)=E0:=⟨_,rfl⟩
 rw [hS0,hE0] at HRP ⊢
 have HS0:=hid hS0
 have HE0:=hid hE0
 clear hS0 hE0
 go_wp2_with fail
 refine HRP.out.mono ?_
 rintro e w3 ⟨rfl,hb3⟩
 have HB3:=hid (HB2.out.trans (hb3.mono HB2.out.size))
 have HQ3:Hid (w3.heap[w.heap.size]? = some (.cells #[.bool o,.slice a d.length cap] 24 (0,0))):=hid ((hb3.block _ (Array.getElem?_eq_some_iff.1 HQ2.out).1).trans HQ2.out)
 clear hb3 HRP k1 k2 HB2 HQ2
 obtain ⟨k1,k2,_,_⟩:=two_facts HQ3.out
 have HMY:=hid (opMay_any o _ d w3 (HD.out.on HB3.out))
 have hq:(S0.toList==S0.toList)=true:=seq_true rfl
 cases hm:mayRO d with
 | false =>
  have hE:E0=4:=by rw [←HE0.out,hm];rfl
  subst hE
  rw [hm] at HMY
  clear hm
  go_wp2_with (first|(go_at_call 12;refine HMY.out.mono ?_;rintro e w4 ⟨rfl,hb4⟩;have HB4:=hid (HB3.out.trans (hb4.mono HB3.out.size));clear hb4))
  go_ret
  exact ⟨rfl,HB4.out⟩
 | true =>
  have hE:E0=0:=by rw [←HE0.out,hm];rfl
  have hS:S0=printO o (d.map Ex.en):=by rw [←HS0.out,hm];rfl
  have hmr:mayRq (d.map Ex.en)=true:=by rw [←mayRO_is];exact hm
  have hst:∀e∈d.map Ex.en,0≤e.stamp∧e.stamp≤18446744073709551615:=fun e he=>by
   obtain ⟨x,hx,rfl⟩:=List.mem_map.1 he
   exact ⟨(HD.out.each x hx).t0,(HD.out.each x hx).t1⟩
  have hd16:d.length≤16:=by
   have h:=hmr
   unfold mayRq at h
   simp only [Bool.and_eq_true,decide_eq_true_eq,List.length_map] at h
   exact h.1.2
  have hsz:S0.size≤4294967000:=by
   have:=print_le o (d.map Ex.en) hmr hst
   rw [hS];omega
  have HOB:Hid (opR S0.data.toList=some (o,d.map Ex.en)):=hid (by rw [hS];exact op_back hmr hst)
  have HP:Hid (∀W,Below w.heap.size w W→Calls Tryz.prog 13 #[.string S0] W fun e w'=>∃(pv:Option Addr) (d':List Ex) (cv:Nat),e=.returned (.tuple #[.agg #[.bool o,.slice pv d'.length cv],.int .i64 0])∧d'.map Ex.en=d.map Ex.en∧RqIn w' (.slice pv d'.length cv) d'∧Below W.heap.size W w'):=hid fun W hW=>(opparse_any S0 W (HV.out.on hW) hsz).mono (by
   rintro e w' ⟨⟨once,v,d',c,rfl,ho,hq,hc⟩,hb⟩
   obtain ⟨pv,cv,rfl⟩:=Kind.own_shape ho
   rcases hc with ⟨rfl,hop⟩|⟨_,_,_,hop⟩
   ·rw [HOB.out] at hop
    have h3:=Option.some.inj hop
    obtain rfl:o=once:=congrArg Prod.fst h3
    have h4:d'.map Ex.en=d.map Ex.en:=(congrArg Prod.snd h3).symm
    have hl:d'.length≤4294967000:=by
     have:=congrArg List.length h4
     rw [List.length_map,List.length_map] at this
     omega
    exact ⟨pv,d',cv,rfl,h4,own_rq ho hq hl,hb⟩
   ·rw [HOB.out] at hop;cases hop)
  subst hE
  rw [hm] at HMY
  clear hm hS hmr hst hsz
  go_wp2_with (first|(go_at_call 12;refine HMY.out.mono ?_;rintro e w4 ⟨rfl,hb4⟩;have HB4:=hid (HB3.out.trans (hb4.mono HB3.out.size));have HQ4:=hid ((hb4.block _ (Array.getElem?_eq_some_iff.1 HQ3.out).1).trans HQ3.out);clear hb4))
  refine (HP.out _ HB4.out).mono ?_
  rintro e w5 ⟨pv,d',cv,rfl,hes,hrq,hb5⟩
  have HB5:=hid (HB4.out.trans (hb5.mono HB4.out.size))
  have HQ5:=hid ((hb5.block _ (Array.getElem?_eq_some_iff.1 HQ4.out).1).trans HQ4.out)
  have HES:=hid hes
  have HRQ:=hid hrq
  clear hb5 hes hrq k1 k2
  have HB6:Hid (Below w.heap.size w (w5.alloc (.cells #[.bool o,.slice pv d'.length cv] 24))):=hid (HB5.out.alloc HB5.out.size _)
  have hb65:Below w5.heap.size w5 (w5.alloc (.cells #[.bool o,.slice pv d'.length cv] 24)):=(Below.refl _ _).alloc (Nat.le_refl _) _
  have HQ6:Hid ((w5.alloc (.cells #[.bool o,.slice pv d'.length cv] 24)).heap[w.heap.size]? = some (.cells #[.bool o,.slice a d.length cap] 24 (0,0))):=hid ((hb65.block _ (Array.getElem?_eq_some_iff.1 HQ5.out).1).trans HQ5.out)
  have HY6:Hid ((w5.alloc (.cells #[.bool o,.slice pv d'.length cv] 24)).heap[w5.heap.size]? = some (.cells #[.bool o,.slice pv d'.length cv] 24 (0,0))):=hid (heap_alloc_new w5 _)
  obtain ⟨k1,k2,_,_⟩:=two_facts HQ6.out
  have HRQ6:=hid (HRQ.out.on hb65)
  have HEQ:=hid (opEqual_any o o (.slice pv d'.length cv) (.slice a d.length cap) d' d _ HRQ6.out (HD.out.on HB6.out))
  rw [decide_eq_true (⟨rfl,HES.out⟩:o=o∧d'.map Ex.en=d.map Ex.en)] at HEQ
  clear hb65
  go_wp2_with fail
  refine HEQ.out.mono ?_
  rintro e w7 ⟨rfl,hb7⟩
  have HB7:=hid (HB6.out.trans (hb7.mono HB6.out.size))
  have HQ7:=hid ((hb7.block _ (Array.getElem?_eq_some_iff.1 HQ6.out).1).trans HQ6.out)
  have HY7:=hid ((hb7.block _ (Array.getElem?_eq_some_iff.1 HY6.out).1).trans HY6.out)
  have HRQ7:=hid (HRQ6.out.on hb7)
  clear hb7 k1 k2
  obtain ⟨k1,k2,_,_⟩:=two_facts HQ7.out
  obtain ⟨l1,l2,_,_⟩:=two_facts HY7.out
  have HER:=hid (rEqual16_any o o (.slice pv d'.length cv) (.slice a d.length cap) d' d _ HRQ7.out (HD.out.on HB7.out))
  rw [decide_eq_true (⟨rfl,HES.out⟩:o=o∧d'.map Ex.en=d.map Ex.en)] at HER
  go_wp2_with fail
  refine HER.out.mono ?_
  rintro e w8 ⟨rfl,hb8⟩
  have HB8:=hid (HB7.out.trans (hb8.mono HB7.out.size))
  clear hb8
  go_wp2_with fail
  go_ret
  exact ⟨rfl,HB8.out⟩
end
section
open Go.ChangeShapes Go.WideShapes Go.ChangeAt Go.RowKit Go.Lib Go.Deep Go.Joins
theorem Tryz.own:ownKnob Tryz.prog.godebug=none:=by kernel_rfl
theorem Tryz.laidOut:laidOutB Tryz.prog=true:=by kernel_rfl
theorem Tryz.cellsFld:Tryz.prog.cellsOf 47=2:=by kernel_rfl
theorem Tryz.cellsStr:Tryz.prog.cellsOf 9=1:=by kernel_rfl
theorem Tryz.cellsStrs:Tryz.prog.cellsOf 45=1:=by kernel_rfl
end
section
open Go.ChangeShapes Go.WideShapes Go.ChangeAt Go.RowKit Go.Lib Go.Deep Go.Joins
theorem Tryz.bytesStr:Tryz.prog.bytesOf 9=16:=by kernel_rfl
theorem Tryz.bytesFld:Tryz.prog.bytesOf 47=40:=by kernel_rfl
theorem weights_all {H:Type} {P:Program} {e:TypeId} {d:DataW H} {n:Nat} (hn:n∈d.weights P e):∀{l:List (DataW H)},d∈l→n∈DataW.weightsAll P e l
 | x::r,h=>by
  simp only [DataW.weightsAll,List.mem_append]
  rcases List.mem_cons.1 h with rfl|h
  ·exact Or.inl hn
  ·exact Or.inr (weights_all hn h)
theorem open_txtZ {H:Type} {enc:TypeId × Value→H} {W:World} {f:Nat} {v:Value} {x:DataW H × List MemPlace} (h:DataW.trod enc Tryz.prog W 0 (fun _=>true) true f 45 [v]=some x) :
  ∃p cap,∃ts:List ByteArray,v=.slice p ts.length cap∧TxtAt W p ts∧FitT ts∧(ts.length=0∨∃n∈x.1.weights Tryz.prog 45,ts.length * 16≤n):=by
 rcases open_strings Tryz.underlying45 Tryz.underlying9 Tryz.cellsStr h with ⟨hcs,hx⟩|⟨a,l,c,ss,hcs,_,hl,hm,hz,hx,hcell,hws⟩
 ·simp at hcs
  exact ⟨none,0,[],hcs,Or.inl rfl,⟨by unfold maxLen;simp,fun t ht=>by simp at ht⟩,Or.inl rfl⟩
 ·simp at hcs
  have hz':ss.length=c:=by simpa using hz
  have hlen:(ss.take l).length=l:=by rw [List.length_take];omega
  refine ⟨some a,c,ss.take l,by rw [hlen];exact hcs,?_,⟨by omega,fun t ht=>hws t (List.mem_of_mem_take ht)⟩,Or.inr ?_⟩
  ·by_cases h0:l=0
   ·subst h0;exact Or.inl rfl
   ·right
    have hc0:=hcell 0 (by omega)
    obtain ⟨b,off,spot⟩:=a
    have hspot:spot=none:=by simpa [Addr.add] using World.cell?_spot hc0
    subst hspot
    refine ⟨b,off,rfl,fun i hi=>?_⟩
    rw [hlen] at hi
    have:=hcell i (by omega)
    rw [addr_add] at this
    rw [this,List.getElem_take,List.getD_eq_getElem?_getD,List.getElem?_eq_getElem (by omega)]
    rfl
  ·rw [hx,hlen]
   simp only [DataW.weights,Tryz.underlying45]
   refine ⟨_,List.mem_cons_self,?_⟩
   rw [Tryz.bytesStr]
   have hb2:(strs (ss.take l):List (DataW H)).length=l:=by rw [show (strs (ss.take l):List (DataW H)).length=(ss.take l).length by simp [strs],hlen]
   rw [hb2]
   exact Nat.mul_le_mul_right 16 (by omega)
set_option maxRecDepth 100000 in
theorem open_fldsZ {H:Type} {enc:TypeId × Value→H} {W:World} {fuel:Nat} {v:Value} {dd:DataW H} {p:List MemPlace}
  (hf:DataW.trod enc Tryz.prog W 0 (fun _=>true) true fuel 36 [v]=some (dd,p)) (hZ:∀n∈dd.weights Tryz.prog 36,n≤reachBytes):∃d:List Fx,IsXs W v d∧FitX d∧CopyX d:=by
 have hrb:=reachBytes_lt
 rcases open_slice_pairs Tryz.underlying36 Tryz.underlying47 Tryz.cellsFld rfl rfl Tryz.cellsStr Tryz.cellsStrs hf with ⟨hcs,_⟩|⟨a,len,cap,m,n,V0,V1,D0,D1,P0,P1,hcs,_,hl,hm,hmm,hdat,hall⟩
 ·simp at hcs
  subst hcs
  exact ⟨[],⟨none,0,rfl,Or.inl rfl,fun x hx=>by simp at hx⟩,⟨by unfold maxLen;simp,fun x hx=>by simp at hx⟩,by simp,fun x hx=>by simp at hx⟩
 ·simp at hcs
  subst hcs
  have hm':m=cap:=by simpa using hmm
  subst hm'
  have each:∀i,i<m→∃x:Fx,V0 i=.string x.name∧V1 i=x.sl∧TxtAt W x.p x.txt∧FitF x.fld∧(x.txt.length=0∨∃n∈(D1 i).weights Tryz.prog 45,x.txt.length * 16≤n):=by
   intro i hi
   obtain ⟨_,_,h3,h4⟩:=hall i hi
   obtain ⟨s,e0,_,hs⟩:=DataW.trod_string Tryz.underlying9 h3
   simp only [List.cons.injEq,and_true] at e0
   obtain ⟨q,cc,ts,e1,ht,hft,hbk⟩:=open_txtZ h4
   exact ⟨⟨s,q,cc,ts⟩,e0,e1,ht,⟨hs,hft⟩,hbk⟩
  have hdd:dd=.slice ((List.range len).map fun i=>.agg [D0 i,D1 i]) ((List.range (m-len)).map fun j=>.agg [D0 (len+j),D1 (len+j)]):=congrArg Prod.fst hdat
  have hwl:len * 40≤reachBytes:=by
   have:=hZ ((((List.range len).map fun i=>DataW.agg [D0 i,D1 i]).length+((List.range (m-len)).map fun j=>DataW.agg [D0 (len+j),D1 (len+j)]).length) * Tryz.prog.bytesOf 47) (by
    rw [hdd]
    simp only [DataW.weights,Tryz.underlying36]
    exact List.mem_cons_self)
   rw [Tryz.bytesFld] at this
   simp only [List.length_map,List.length_range] at this
   omega
  have hwi:∀i,i<len→∀n∈(D1 i).weights Tryz.prog 45,n≤reachBytes:=fun i hi n hn=>by
   refine hZ n ?_
   rw [hdd]
   simp only [DataW.weights,Tryz.underlying36]
   refine List.mem_cons_of_mem _ (List.mem_append.2 (Or.inl (weights_all (d:=.agg [D0 i,D1 i]) ?_ (List.mem_map.2 ⟨i,List.mem_range.2 hi,rfl⟩))))
   simp only [DataW.weights,Tryz.underlying47]
   exact List.mem_append.2 (Or.inr (List.mem_append.2 (Or.inl hn)))
  by_cases h0:len=0
  ·subst h0
   exact ⟨[],⟨_,_,rfl,Or.inl rfl,fun x hx=>by simp at hx⟩,⟨by unfold maxLen;simp,fun x hx=>by simp at hx⟩,by simp,fun x hx=>by simp at hx⟩
  ·have hc0:=(hall 0 (by omega)).1
   obtain ⟨b,off,spot⟩:=a
   have hspot:spot=none:=by simpa [Addr.add] using World.cell?_spot hc0
   subst hspot
   let f:Nat→Fx:=fun i=>if h:i<m then (each i h).choose else default
   have fs:∀i (h:i<m),V0 i=.string (f i).name∧V1 i=(f i).sl∧TxtAt W (f i).p (f i).txt∧FitF (f i).fld∧((f i).txt.length=0∨∃n∈(D1 i).weights Tryz.prog 45,(f i).txt.length * 16≤n):=fun i h=>by
    have e:f i=(each i h).choose:=dif_pos h
    rw [e]
    exact (each i h).choose_spec
   have hlen:((List.range len).map f).length=len:=by simp
   refine ⟨(List.range len).map f,⟨_,m,by rw [hlen],Or.inr ⟨b,off,rfl,fun i hi=>?_⟩,fun x hx=>?_⟩,⟨by rw [hlen];omega,fun x hx=>?_⟩,by rw [hlen];omega,fun x hx=>?_⟩
   ·have hi0:i<len:=by simpa using hi
    obtain ⟨h1,h2,_,_⟩:=hall i (by omega)
    obtain ⟨g1,g2,_⟩:=fs i (by omega)
    rw [addr_add] at h1 h2
    have ef:((List.range len).map f)[i]'hi=f i:=by simp
    rw [ef,h1,←g1]
    refine ⟨rfl,?_⟩
    rw [Nat.add_assoc,h2,g2]
   ·obtain ⟨i,hi,rfl⟩:=List.mem_map.1 hx
    exact (fs i (by have:=List.mem_range.1 hi;omega)).2.2.1
   ·obtain ⟨i,hi,rfl⟩:=List.mem_map.1 hx
    exact (fs i (by have:=List.mem_range.1 hi;omega)).2.2.2.1
   ·obtain ⟨i,hi,rfl⟩:=List.mem_map.1 hx
    have hil:=List.mem_range.1 hi
    rcases (fs i (by omega)).2.2.2.2 with h|⟨n,hn,h⟩
    ·omega
    ·have:=hwi i hil n hn
     omega
end
section
open Go.ChangeShapes Go.WideShapes Go.ChangeAt Go.RowKit Go.Lib Go.Deep Go.Joins
def FitKy (k:Ky):Prop:=k.1.size≤maxLen∧k.2.size≤maxLen
theorem Tryz.cellsWInt:Tryz.prog.cellsOf 3=1:=by kernel_rfl
theorem Tryz.cellsWStr:Tryz.prog.cellsOf 9=1:=by kernel_rfl
theorem Tryz.cellsWU64:Tryz.prog.cellsOf 39=1:=by kernel_rfl
theorem Tryz.cellsWBool:Tryz.prog.cellsOf 4=1:=by kernel_rfl
theorem Tryz.cellsWFs:Tryz.prog.cellsOf 36=1:=by kernel_rfl
theorem Tryz.cellsWTs:Tryz.prog.cellsOf 38=1:=by kernel_rfl
theorem Tryz.cellsWKey:Tryz.prog.cellsOf 35=2:=by kernel_rfl
theorem Tryz.cellsWTm:Tryz.prog.cellsOf 51=3:=by kernel_rfl
theorem Tryz.bytesWTm:Tryz.prog.bytesOf 51=40:=by kernel_rfl
theorem bulkW_pos {H:Type} (d:DataW H):1≤Rows.uptoBulk d:=by
 cases d with
 | lit l=>cases l<;>simp [Rows.uptoBulk]
 | nil=>simp [Rows.uptoBulk]
 | ptr d=>simp [Rows.uptoBulk]
 | slice elems spare=>simp [Rows.uptoBulk]
 | agg parts=>simp [Rows.uptoBulk]
 | iface t d=>simp [Rows.uptoBulk]
 | map entries=>simp [Rows.uptoBulk]
 | held h=>simp [Rows.uptoBulk]
theorem bulkW_mem {H:Type} {d:DataW H} {l:List (DataW H)} (h:d∈l):Rows.uptoBulk d≤Rows.uptoBulkAll l:=by
 induction l with
 | nil=>cases h
 | cons x r ih =>
  simp only [Rows.uptoBulkAll]
  rcases List.mem_cons.1 h with rfl|h
  ·omega
  ·have:=ih h;omega
theorem bulkW_len {H:Type} (l:List (DataW H)):l.length≤Rows.uptoBulkAll l:=by
 induction l with
 | nil=>simp [Rows.uptoBulkAll]
 | cons x r ih=>have:=bulkW_pos x;simp only [Rows.uptoBulkAll,List.length_cons];omega
set_option maxRecDepth 100000 in
theorem open_rowZ {α:Type} [Inhabited α] (K:Kind α) {S:TypeId} {bytes:Nat} (hS:Tryz.prog.underlying S=some (.slice K.T)) (hk:Tryz.prog.cellsOf K.T=K.k) (hby:Tryz.prog.bytesOf K.T=bytes)
  {H:Type} (Ok:α→DataW H→Prop) {enc:TypeId × Value→H} {W:World} {fuel:Nat} {v:Value} {dd:DataW H} {p:List MemPlace}
  (each1:∀(n:Nat) (cs:List Value) (x:DataW H × List MemPlace),DataW.trod enc Tryz.prog W 0 (fun _=>true) true n K.T cs=some x→(∀n∈x.1.weights Tryz.prog K.T,n≤reachBytes)→∃b:α,cs=K.enc b∧Ok b x.1)
  (hf:DataW.trod enc Tryz.prog W 0 (fun _=>true) true fuel S [v]=some (dd,p)) (hZ:∀n∈dd.weights Tryz.prog S,n≤reachBytes) :
  ∃q:List α,K.Is W v q∧(∀x∈q,∃d,Rows.uptoBulk d≤Rows.uptoBulk dd∧Ok x d)∧q.length * bytes≤reachBytes∧q.length≤maxLen∧q.length≤Rows.uptoBulk dd:=by
 rcases open_slice hS hf with ⟨hcs,_⟩|⟨a,len,cap,m,n,D,Pl,hcs,_,hl,hm,hmm,hdat,hall⟩
 ·simp at hcs
  subst hcs
  exact ⟨[],K.is_nil W,fun x hx=>by simp at hx,by simp,by simp,by simp⟩
 ·simp at hcs
  subst hcs
  have hm':m=cap:=by simpa using hmm
  subst hm'
  rw [hk] at hall
  have hdd:dd=.slice ((List.range len).map D) ((List.range (m-len)).map fun j=>D (len+j)):=congrArg Prod.fst hdat
  have hlb:len * bytes≤reachBytes:=by
   have:=hZ ((((List.range len).map D).length+((List.range (m-len)).map fun j=>D (len+j)).length) * Tryz.prog.bytesOf K.T) (by
    rw [hdd]
    simp only [DataW.weights,hS]
    exact List.mem_cons_self)
   rw [hby] at this
   simp only [List.length_map,List.length_range] at this
   exact Nat.le_trans (Nat.mul_le_mul_right _ (Nat.le_add_right _ _)) this
  have hbk:len≤Rows.uptoBulk dd:=by
   rw [hdd]
   simp only [Rows.uptoBulk]
   have:=bulkW_len ((List.range len).map D)
   simp only [List.length_map,List.length_range] at this
   omega
  have hbi:∀i,i<len→Rows.uptoBulk (D i)≤Rows.uptoBulk dd:=fun i hi=>by
   rw [hdd]
   simp only [Rows.uptoBulk]
   have:=bulkW_mem (d:=D i) (l:=(List.range len).map D) (List.mem_map.2 ⟨i,List.mem_range.2 hi,rfl⟩)
   omega
  have each:∀i,i<len→∃t:α,(∀j u,(K.enc t)[j]? = some u→W.cell? (a.add (i * K.k+j))=some u)∧Ok t (D i):=by
   intro i hi
   obtain ⟨cs',h1,h2⟩:=hall i (by omega)
   obtain ⟨_,hlen,hcell⟩:=World.cells?_some h1
   have hDi:∀n∈(D i).weights Tryz.prog K.T,n≤reachBytes:=fun n hn=>by
    refine hZ n ?_
    rw [hdd]
    simp only [DataW.weights,hS]
    exact List.mem_cons_of_mem _ (List.mem_append.2 (Or.inl (weights_all hn (List.mem_map.2 ⟨i,List.mem_range.2 hi,rfl⟩))))
   obtain ⟨t,rfl,hok⟩:=each1 _ _ (D i,Pl i) h2 hDi
   refine ⟨t,fun j u hu=>?_,hok⟩
   have hj:j<K.k:=by
    have:=(List.getElem?_eq_some_iff.1 hu).1
    rwa [K.len] at this
   have:=hcell j hj
   rw [add_add] at this
   rw [this];exact hu
  by_cases h0:len=0
  ·subst h0
   exact ⟨[],⟨_,_,rfl,Or.inl rfl⟩,fun x hx=>by simp at hx,by simp,by simp,by simp⟩
  ·obtain ⟨f,hff⟩:=choose_lt each
   have h1:0<(K.enc (f 0)).length:=by rw [K.len];exact K.pos
   have hc0:=(hff 0 (by omega)).1 0 _ (List.getElem?_eq_getElem h1)
   obtain ⟨b,off,spot⟩:=a
   have hspot:spot=none:=by simpa [Addr.add] using World.cell?_spot hc0
   subst hspot
   have hlen:((List.range len).map f).length=len:=by simp
   refine ⟨(List.range len).map f,⟨_,m,by rw [hlen],Or.inr ⟨b,off,rfl,fun i hi j u hu=>?_⟩⟩,fun x hx=>?_,by rw [hlen];exact hlb,by rw [hlen];omega,by rw [hlen];exact hbk⟩
   ·have hi0:i<len:=by simpa using hi
    have ef:((List.range len).map f)[i]'hi=f i:=by simp
    rw [ef] at hu
    have:=(hff i hi0).1 j u hu
    rw [_root_.Go.Proofs.YtpdccbeeoapplaaGreatDoor.addr_add] at this
    rw [Nat.add_assoc]
    exact this
   ·obtain ⟨i,hi,rfl⟩:=List.mem_map.1 hx
    exact ⟨D i,hbi i (List.mem_range.1 hi),(hff i (List.mem_range.1 hi)).2⟩
section
variable {H:Type} {enc:TypeId × Value→H} {W:World}
set_option maxRecDepth 100000 in
theorem open_kyW {n:Nat} {cs:List Value} {x:DataW H × List MemPlace} (h:DataW.trod enc Tryz.prog W 0 (fun _=>true) true n 35 cs=some x) :
  ∃k:Ky,cs=[.string k.1,.string k.2]∧FitKy k:=by
 obtain ⟨xs,k,_,_,hlen,hxl,hf⟩:=DataW.trod_struct Tryz.underlying35 h
 rw [Tryz.cellsWKey] at hlen
 match cs,hlen with
 | [v0,v1],_ =>
  match xs,hxl with
  | [y0,y1],_ =>
   have g0:=hf 0 _ rfl
   have g1:=hf 1 _ rfl
   simp [Tryz.cellsWStr] at g0 g1
   obtain ⟨a,ea,_,ha⟩:=DataW.trod_string Tryz.underlying9 g0
   obtain ⟨b,eb,_,hb⟩:=DataW.trod_string Tryz.underlying9 g1
   simp only [List.cons.injEq,and_true] at ea eb
   exact ⟨(a,b),by rw [ea,eb],ha,hb⟩
set_option maxRecDepth 100000 in
theorem open_termW {n:Nat} {cs:List Value} {x:DataW H × List MemPlace} (h:DataW.trod enc Tryz.prog W 0 (fun _=>true) true n 51 cs=some x) :
  ∃t:Tm,cs=encM t∧t.1.size≤maxLen∧t.2.2.size≤maxLen∧-9223372036854775808≤t.2.1∧t.2.1≤9223372036854775807:=by
 obtain ⟨xs,k,_,_,hlen,hxl,hf⟩:=DataW.trod_struct Tryz.underlying51 h
 rw [Tryz.cellsWTm] at hlen
 match cs,hlen with
 | [v0,v1,v2],_ =>
  match xs,hxl with
  | [y0,y1,y2],_ =>
   have g0:=hf 0 _ rfl
   have g1:=hf 1 _ rfl
   have g2:=hf 2 _ rfl
   simp [Tryz.cellsWStr,Tryz.cellsWInt] at g0 g1 g2
   obtain ⟨a,ea,_,ha⟩:=DataW.trod_string Tryz.underlying9 g0
   obtain ⟨o,eo,_,ho⟩:=DataW.trod_int Tryz.underlying3 g1
   obtain ⟨b,eb,_,hb⟩:=DataW.trod_string Tryz.underlying9 g2
   simp only [List.cons.injEq,and_true] at ea eo eb
   have hw:-9223372036854775808≤o∧o≤9223372036854775807:=by
    have:=ho
    simp [Lit.wf,IntKind.min,IntKind.max,IntKind.signed,IntKind.bits] at this
    omega
   exact ⟨(a,o,b),by rw [ea,eo,eb];rfl,ha,hb,hw.1,hw.2⟩
theorem open_termsW {fuel:Nat} {v:Value} {dd:DataW H} {p:List MemPlace}
  (hf:DataW.trod enc Tryz.prog W 0 (fun _=>true) true fuel 38 [v]=some (dd,p)) (hZ:∀n∈dd.weights Tryz.prog 38,n≤reachBytes):∃q:List Tm,KM.Is W v q∧FitM q:=by
 obtain ⟨q,h1,h2,_,h4,_⟩:=open_rowZ KM Tryz.underlying38 Tryz.cellsWTm Tryz.bytesWTm (fun t _=>t.1.size≤maxLen∧t.2.2.size≤maxLen∧-9223372036854775808≤t.2.1∧t.2.1≤9223372036854775807) (fun n cs x h _=>open_termW h) hf hZ
 exact ⟨q,h1,h4,fun x hx=>(h2 x hx).choose_spec.2⟩
end
end
section
open Go.ChangeShapes Go.WideShapes Go.ChangeAt Go.RowKit Go.Lib Go.Deep
theorem Tryz.cellsByte:Tryz.prog.cellsOf 5=1:=by kernel_rfl
theorem gPlain:Tryz.prog.globalNamed "folio/value.plain" = some 3:=by kernel_rfl
theorem tPlain:(Tryz.prog.globals[3]?).map (·.type)=some 185:=by kernel_rfl
theorem uPair:Tryz.prog.underlying 184=some (.array 2 5):=by kernel_rfl
theorem cPair:Tryz.prog.cellsOf 184=2:=by kernel_rfl
theorem cPlain:Tryz.prog.cellsOf 185=26:=by kernel_rfl
def plainLits:List (Int × Int):=[(97,122),(65,90),(48,57),(45,45),(46,46),(95,95),(124,124),(42,42),(64,64),(47,47),(58,58),(43,43),(44,44)]
theorem plain_data:(Rows.laid_folio_value_plain:DataW Unit)=.agg (plainLits.map fun p=>.agg [.lit (.int .u8 p.1),.lit (.int .u8 p.2)]):=rfl
theorem one_byte_read {W:World} {f:Nat} {cs:List Value} {k:Int} {q:List MemPlace} (h:DataW.trod (fun _=>()) Tryz.prog W 0 (fun _=>true) false f 5 cs=some (.lit (.int .u8 k),q)):cs=[.int .u8 k]:=by
 obtain ⟨n,rfl,e,_⟩:=DataW.trod_int Tryz.underlying5 h
 cases e
 rfl
theorem pair_cells {W:World} {f:Nat} {cs:List Value} {a b:Int} {q:List MemPlace} (hl:cs.length=2) (h:DataW.trod (fun _=>()) Tryz.prog W 0 (fun _=>true) false f 184 cs=some (.agg [.lit (.int .u8 a),.lit (.int .u8 b)],q)):cs=[.int .u8 a,.int .u8 b]:=by
 match cs,hl with
 | [x,y],_ =>
  obtain ⟨f0,d0,q0,e0,h0⟩:=array_elem uPair h 0 (by decide)
  obtain ⟨f1,d1,q1,e1,h1⟩:=array_elem uPair h 1 (by decide)
  rw [Tryz.cellsByte] at h0 h1
  simp only [List.getElem?_cons_zero,List.getElem?_cons_succ,Option.some.injEq] at e0 e1
  subst e0 e1
  have k0:=one_byte_read h0
  have k1:=one_byte_read h1
  simp at k0 k1
  rw [k0,k1]
theorem list_pairs:∀(n:Nat) (cs:List Value) (ps:List (Int × Int)),cs.length=n * 2→ps.length=n→(∀i (h:i<ps.length),(cs.drop (i * 2)).take 2=[.int .u8 ps[i].1,.int .u8 ps[i].2])→cs=ps.flatMap fun p=>[.int .u8 p.1,.int .u8 p.2]
 | 0,cs,ps,hc,hp,_=>by
  rw [List.length_eq_zero_iff.1 (by omega:cs.length=0),List.length_eq_zero_iff.1 hp]
  rfl
 | n+1,cs,ps,hc,hp,h=>by
  match ps,hp,cs,hc with
  | _::_,_,[],hc=>simp at hc
  | _::_,_,[_],hc=>simp at hc;omega
  | p::ps,hp,x::y::cs,hc =>
   have h0:=h 0 (by simp)
   simp at h0
   have:=list_pairs n cs ps (by simp at hc;omega) (by simpa using hp) (fun i hi=>by
    have:=h (i+1) (by simp;omega)
    rw [show (i+1) * 2=i * 2+1+1 by omega] at this
    simpa using this)
   rw [List.flatMap_cons,←this,h0.1,h0.2]
   rfl
end
section
open Go.ChangeShapes Go.WideShapes Go.ChangeAt Go.RowKit Go.Lib Go.Deep Go.Joins
theorem Tryz.cellsEd:Tryz.prog.cellsOf 49=3:=by kernel_rfl
theorem Tryz.cellsEdI:Tryz.prog.cellsOf 3=1:=by kernel_rfl
set_option maxRecDepth 100000 in
theorem open_edit {H:Type} {enc:TypeId × Value→H} {W:World} {n:Nat} {cs:List Value} {x:DataW H × List MemPlace} (h:DataW.trod enc Tryz.prog W 0 (fun _=>true) true n 49 cs=some x) :
  ∃t:Ed,cs=encE t∧t.2.1.size≤maxLen∧t.2.2.size≤maxLen∧-9223372036854775808≤t.1∧t.1≤9223372036854775807:=by
 obtain ⟨xs,k,_,_,hlen,hxl,hf⟩:=DataW.trod_struct Tryz.underlying49 h
 rw [Tryz.cellsEd] at hlen
 match cs,hlen with
 | [v0,v1,v2],_ =>
  match xs,hxl with
  | [y0,y1,y2],_ =>
   have g0:=hf 0 _ rfl
   have g1:=hf 1 _ rfl
   have g2:=hf 2 _ rfl
   simp [Tryz.cellsStr,Tryz.cellsEdI] at g0 g1 g2
   obtain ⟨o,eo,_,ho⟩:=DataW.trod_int Tryz.underlying3 g0
   obtain ⟨a,ea,_,ha⟩:=DataW.trod_string Tryz.underlying9 g1
   obtain ⟨b,eb,_,hb⟩:=DataW.trod_string Tryz.underlying9 g2
   simp only [List.cons.injEq,and_true] at ea eo eb
   have hw:-9223372036854775808≤o∧o≤9223372036854775807:=by
    have:=ho
    simp [Lit.wf,IntKind.min,IntKind.max,IntKind.signed,IntKind.bits] at this
    omega
   exact ⟨(o,a,b),by rw [ea,eo,eb];rfl,ha,hb,hw.1,hw.2⟩
end
section
open Go.RowKit Go.Lib
def wtJ (x:Ex):Nat:=x.vo.length+x.eo.length+x.po.length+6
end
section
open Go.ChangeShapes Go.WideShapes Go.ChangeAt Go.RowKit Go.Lib Go.Deep Go.Joins
theorem Tryz.cellsOEs:Tryz.prog.cellsOf 37=1:=by kernel_rfl
theorem Tryz.cellsOEn:Tryz.prog.cellsOf 41=10:=by kernel_rfl
theorem Tryz.cellsOEns:Tryz.prog.cellsOf 22=1:=by kernel_rfl
theorem Tryz.cellsORq:Tryz.prog.cellsOf 24=2:=by kernel_rfl
theorem Tryz.bytesOEd:Tryz.prog.bytesOf 49=40:=by kernel_rfl
theorem oi64_of {t:Int} (h:Lit.wf (.int .i64 t)=true):-9223372036854775808≤t∧t≤9223372036854775807:=by
 simp [Lit.wf,IntKind.min,IntKind.max,IntKind.signed,IntKind.bits] at h
 omega
theorem ou64_of {t:Int} (h:Lit.wf (.int .u64 t)=true):0≤t∧t≤18446744073709551615:=by
 simp [Lit.wf,IntKind.min,IntKind.max,IntKind.signed,IntKind.bits] at h
 omega
section
variable {H:Type} {enc:TypeId × Value→H} {W:World}
theorem slice_bulkO {S e:TypeId} (hS:Tryz.prog.underlying S=some (.slice e)) {fuel:Nat} {p:Option Addr} {n cap:Nat} {dd:DataW H} {pl:List MemPlace} (h:DataW.trod enc Tryz.prog W 0 (fun _=>true) true fuel S [.slice p n cap]=some (dd,pl)):n≤cap∧n≤Rows.uptoBulk dd:=by
 rcases open_slice hS h with ⟨hcs,_⟩|⟨a,len,c,m,k,D,Pl,hcs,_,hl,_,_,hdat,_⟩
 ·simp at hcs
  omega
 ·simp at hcs
  obtain ⟨_,rfl,rfl⟩:=hcs
  refine ⟨hl,?_⟩
  rw [show dd=_ from congrArg Prod.fst hdat]
  simp only [Rows.uptoBulk]
  have:=bulkW_len ((List.range n).map D)
  simp only [List.length_map,List.length_range] at this
  omega
set_option maxRecDepth 100000 in
theorem open_rowS {α:Type} [Inhabited α] (K:Kind α) {S:TypeId} (hS:Tryz.prog.underlying S=some (.slice K.T)) (hk:Tryz.prog.cellsOf K.T=K.k)
  (Ok:α→DataW H→Prop) (wt:α→Nat) (hwt:∀b d,Ok b d→wt b≤Rows.uptoBulk d) {fuel:Nat} {v:Value} {dd:DataW H} {p:List MemPlace}
  (each1:∀(n:Nat) (cs:List Value) (x:DataW H × List MemPlace),DataW.trod enc Tryz.prog W 0 (fun _=>true) true n K.T cs=some x→(∀n∈x.1.weights Tryz.prog K.T,n≤reachBytes)→∃b:α,cs=K.enc b∧Ok b x.1)
  (hf:DataW.trod enc Tryz.prog W 0 (fun _=>true) true fuel S [v]=some (dd,p)) (hZ:∀n∈dd.weights Tryz.prog S,n≤reachBytes) :
  ∃q:List α,K.Is W v q∧(∀x∈q,∃d,Rows.uptoBulk d≤Rows.uptoBulk dd∧Ok x d)∧(q.map wt).sum≤Rows.uptoBulk dd:=by
 rcases open_slice hS hf with ⟨hcs,_⟩|⟨a,len,cap,m,n,D,Pl,hcs,_,hl,hm,hmm,hdat,hall⟩
 ·simp at hcs
  subst hcs
  exact ⟨[],K.is_nil W,fun x hx=>by simp at hx,by simp⟩
 ·simp at hcs
  subst hcs
  have hm':m=cap:=by simpa using hmm
  subst hm'
  rw [hk] at hall
  have hdd:dd=.slice ((List.range len).map D) ((List.range (m-len)).map fun j=>D (len+j)):=congrArg Prod.fst hdat
  have hbi:∀i,i<len→Rows.uptoBulk (D i)≤Rows.uptoBulk dd:=fun i hi=>by
   rw [hdd]
   simp only [Rows.uptoBulk]
   have:=bulkW_mem (d:=D i) (l:=(List.range len).map D) (List.mem_map.2 ⟨i,List.mem_range.2 hi,rfl⟩)
   omega
  have each:∀i,i<len→∃t:α,(∀j u,(K.enc t)[j]? = some u→W.cell? (a.add (i * K.k+j))=some u)∧Ok t (D i):=by
   intro i hi
   obtain ⟨cs',h1,h2⟩:=hall i (by omega)
   obtain ⟨_,hlen,hcell⟩:=World.cells?_some h1
   have hDi:∀n∈(D i).weights Tryz.prog K.T,n≤reachBytes:=fun n hn=>by
    refine hZ n ?_
    rw [hdd]
    simp only [DataW.weights,hS]
    exact List.mem_cons_of_mem _ (List.mem_append.2 (Or.inl (weights_all hn (List.mem_map.2 ⟨i,List.mem_range.2 hi,rfl⟩))))
   obtain ⟨t,rfl,hok⟩:=each1 _ _ (D i,Pl i) h2 hDi
   refine ⟨t,fun j u hu=>?_,hok⟩
   have hj:j<K.k:=by
    have:=(List.getElem?_eq_some_iff.1 hu).1
    rwa [K.len] at this
   have:=hcell j hj
   rw [add_add] at this
   rw [this];exact hu
  by_cases h0:len=0
  ·subst h0
   exact ⟨[],⟨_,_,rfl,Or.inl rfl⟩,fun x hx=>by simp at hx,by simp⟩
  ·obtain ⟨f,hff⟩:=choose_lt each
   have h1:0<(K.enc (f 0)).length:=by rw [K.len];exact K.pos
   have hc0:=(hff 0 (by omega)).1 0 _ (List.getElem?_eq_getElem h1)
   obtain ⟨b,off,spot⟩:=a
   have hspot:spot=none:=by simpa [Addr.add] using World.cell?_spot hc0
   subst hspot
   have hlen:((List.range len).map f).length=len:=by simp
   refine ⟨(List.range len).map f,⟨_,m,by rw [hlen],Or.inr ⟨b,off,rfl,fun i hi j u hu=>?_⟩⟩,fun x hx=>?_,?_⟩
   ·have hi0:i<len:=by simpa using hi
    have ef:((List.range len).map f)[i]'hi=f i:=by simp
    rw [ef] at hu
    have:=(hff i hi0).1 j u hu
    rw [_root_.Go.Proofs.YtpdccbeeoapplaaGreatDoor.addr_add] at this
    rw [Nat.add_assoc]
    exact this
   ·obtain ⟨i,hi,rfl⟩:=List.mem_map.1 hx
    exact ⟨D i,hbi i (List.mem_range.1 hi),(hff i (List.mem_range.1 hi)).2⟩
   ·have key:∀l:List Nat,(∀i∈l,i<len)→((l.map f).map wt).sum≤Rows.uptoBulkAll (l.map D):=by
     intro l
     induction l with
     | nil=>intro _;simp
     | cons i l ih =>
      intro hl
      have h1:=ih fun j hj=>hl j (by simp [hj])
      have h2:=hwt _ _ (hff i (hl i (by simp))).2
      simp only [List.map_cons,List.sum_cons,Rows.uptoBulkAll]
      omega
    have:=key (List.range len) fun i hi=>List.mem_range.1 hi
    rw [hdd]
    simp only [Rows.uptoBulk]
    omega
set_option maxRecDepth 100000 in
theorem open_edsO {fuel:Nat} {v:Value} {dd:DataW H} {p:List MemPlace}
  (hf:DataW.trod enc Tryz.prog W 0 (fun _=>true) true fuel 37 [v]=some (dd,p)) (hZ:∀n∈dd.weights Tryz.prog 37,n≤reachBytes):∃q:List Ed,KE.Is W v q∧FitE q:=by
 obtain ⟨q,h1,h2,_,h4,_⟩:=open_rowZ KE Tryz.underlying37 Tryz.cellsEd Tryz.bytesOEd (fun t _=>t.2.1.size≤maxLen∧t.2.2.size≤maxLen∧-9223372036854775808≤t.1∧t.1≤9223372036854775807) (fun n cs x h _=>open_edit h) hf hZ
 exact ⟨q,h1,h4,fun x hx=>(h2 x hx).choose_spec.2⟩
set_option maxHeartbeats 1000000 in
set_option maxRecDepth 100000 in
theorem open_enO {n:Nat} {cs:List Value} {x:DataW H × List MemPlace} (h:DataW.trod enc Tryz.prog W 0 (fun _=>true) true n 41 cs=some x) (hZ:∀n∈x.1.weights Tryz.prog 41,n≤reachBytes) :
  ∃b:Ex,cs=encEx b∧(ExIn W b∧CopyX b.vo∧wtJ b≤Rows.uptoBulk x.1):=by
 obtain ⟨xs,k,_,hx,hlen,hxl,hf⟩:=DataW.trod_struct Tryz.underlying41 h
 rw [Tryz.cellsOEn] at hlen
 match cs,hlen with
 | [v0,v1,v2,v3,v4,v5,v6,v7,v8,v9],_ =>
  match xs,hxl with
  | [y0,y1,y2,y3,y4,y5,y6,y7,y8],_ =>
   have g0:=hf 0 _ rfl
   have g1:=hf 1 _ rfl
   have g2:=hf 2 _ rfl
   have g3:=hf 3 _ rfl
   have g4:=hf 4 _ rfl
   have g5:=hf 5 _ rfl
   have g6:=hf 6 _ rfl
   have g7:=hf 7 _ rfl
   have g8:=hf 8 _ rfl
   simp [Tryz.cellsWInt,Tryz.cellsWStr,Tryz.cellsWKey,Tryz.cellsWFs,Tryz.cellsOEs,Tryz.cellsWTs,Tryz.cellsWU64] at g0 g1 g2 g3 g4 g5 g6 g7 g8
   obtain ⟨kd,ekd,_,hkd⟩:=DataW.trod_int Tryz.underlying3 g0
   obtain ⟨tm,etm,_,htm⟩:=DataW.trod_string Tryz.underlying9 g1
   obtain ⟨ky,eky,hky⟩:=open_kyW g2
   obtain ⟨fi,efi,_,hfi⟩:=DataW.trod_int Tryz.underlying3 g3
   have hz4:∀n∈y4.1.weights Tryz.prog 36,n≤reachBytes:=fun n hn=>hZ n (by
    rw [hx]
    simp only [List.map_cons,List.map_nil,DataW.weights,Tryz.underlying41]
    exact List.mem_append.2 (Or.inr (List.mem_append.2 (Or.inr (List.mem_append.2 (Or.inr (List.mem_append.2 (Or.inr (List.mem_append.2 (Or.inl hn))))))))))
   have hz5:∀n∈y5.1.weights Tryz.prog 37,n≤reachBytes:=fun n hn=>hZ n (by
    rw [hx]
    simp only [List.map_cons,List.map_nil,DataW.weights,Tryz.underlying41]
    exact List.mem_append.2 (Or.inr (List.mem_append.2 (Or.inr (List.mem_append.2 (Or.inr (List.mem_append.2 (Or.inr (List.mem_append.2 (Or.inr (List.mem_append.2 (Or.inl hn))))))))))))
   have hz6:∀n∈y6.1.weights Tryz.prog 38,n≤reachBytes:=fun n hn=>hZ n (by
    rw [hx]
    simp only [List.map_cons,List.map_nil,DataW.weights,Tryz.underlying41]
    exact List.mem_append.2 (Or.inr (List.mem_append.2 (Or.inr (List.mem_append.2 (Or.inr (List.mem_append.2 (Or.inr (List.mem_append.2 (Or.inr (List.mem_append.2 (Or.inr (List.mem_append.2 (Or.inl hn))))))))))))))
   obtain ⟨d,hd,hfd,hdc⟩:=open_fldsZ (dd:=y4.1) (p:=y4.2) g4 hz4
   obtain ⟨l,hl,hfl⟩:=open_edsO (dd:=y5.1) (p:=y5.2) g5 hz5
   obtain ⟨t,ht,hft⟩:=open_termsW (dd:=y6.1) (p:=y6.2) g6 hz6
   obtain ⟨st,est,_,hst⟩:=DataW.trod_int Tryz.underlying39 g7
   obtain ⟨nn,enn,_,hnn⟩:=DataW.trod_int Tryz.underlying3 g8
   simp only [List.cons.injEq,and_true] at ekd etm eky efi est enn
   obtain ⟨vp,vc,rfl,_⟩:=id hd
   obtain ⟨ep,ec,rfl,_⟩:=id hl
   obtain ⟨pp,pc,rfl,_⟩:=id ht
   have b4:=(slice_bulkO Tryz.underlying36 (dd:=y4.1) (pl:=y4.2) g4).2
   have b5:=(slice_bulkO Tryz.underlying37 (dd:=y5.1) (pl:=y5.2) g5).2
   have b6:=(slice_bulkO Tryz.underlying38 (dd:=y6.1) (pl:=y6.2) g6).2
   refine ⟨⟨kd,tm,ky.1,ky.2,fi,vp,vc,d,ep,ec,l,pp,pc,t,st,nn⟩,?_,⟨hd,hfd,hl,hfl,ht,hft,htm,hky.1,hky.2,(oi64_of hkd).1,(oi64_of hkd).2,(oi64_of hfi).1,(oi64_of hfi).2,(ou64_of hst).1,(ou64_of hst).2,(oi64_of hnn).1,(oi64_of hnn).2⟩,hdc,?_⟩
   ·rw [ekd,etm,eky.1,eky.2,efi,est,enn]
    rfl
   ·rw [hx]
    have q0:=bulkW_pos y0.1
    have q1:=bulkW_pos y1.1
    have q2:=bulkW_pos y2.1
    have q3:=bulkW_pos y3.1
    have q7:=bulkW_pos y7.1
    have q8:=bulkW_pos y8.1
    simp only [List.map_cons,List.map_nil,Rows.uptoBulk,Rows.uptoBulkAll]
    show d.length+l.length+t.length+6≤_
    omega
structure RqOk (W:World) (v:Value) (d:List Ex) (n:Nat):Prop where
 rq:RqIn W v d
 cp:∀x∈d,CopyX x.vo∧x.eo.length≤1048576∧x.po.length≤1048576
 wt:(d.map wtJ).sum≤n
 few:d.length≤1048576
set_option maxRecDepth 100000 in
theorem open_rqO {b0:Nat} {v:Value} {dd:DataW H} {p:List MemPlace} (hv:Value.okWide Tryz.prog W .any b0 24 v) (h:DataW.Trod enc Tryz.prog W 0 (fun _=>true) true 24 v dd p) (hZ:∀n∈dd.weights Tryz.prog 24,n≤reachBytes) (hb:Rows.uptoBulk dd≤1048576) :
  ∃(o:Bool) (a:Option Addr) (cap:Nat) (d:List Ex),v=.agg #[.bool o,.slice a d.length cap]∧d.length≤cap∧RqOk W (.slice a d.length cap) d 1048576:=by
 obtain ⟨cs,rfl,hsz⟩:=okWide_struct Tryz.underlying24 hv
 obtain ⟨fuel,hf0⟩:=h
 have hf1:DataW.trod enc Tryz.prog W 0 (fun _=>true) true fuel 24 cs.toList=some (dd,p):=by simpa [Value.cells] using hf0
 obtain ⟨xs,k,_,hx,hlen,hxl,hf⟩:=DataW.trod_struct Tryz.underlying24 hf1
 rw [Tryz.cellsORq] at hlen
 obtain ⟨v0,v1,hcs⟩:∃v0 v1,cs.toList=[v0,v1]:=by
  match hc:cs.toList,hlen with
  | [v0,v1],_=>exact ⟨v0,v1,rfl⟩
 rw [hcs] at hf
 match xs,hxl with
 | [y0,y1],_ =>
  have g0:=hf 0 _ rfl
  have g1:=hf 1 _ rfl
  simp [Tryz.cellsWBool,Tryz.cellsOEns] at g0 g1
  have hdd:dd=.agg ([y0,y1].map Prod.fst):=congrArg Prod.fst hx
  obtain ⟨o,eo,_⟩:=DataW.trod_bool Tryz.underlying4 g0
  have hz1:∀n∈y1.1.weights Tryz.prog 22,n≤reachBytes:=fun n hn=>hZ n (by
   rw [hdd]
   simp only [List.map_cons,List.map_nil,DataW.weights,Tryz.underlying24]
   exact List.mem_append.2 (Or.inr (List.mem_append.2 (Or.inl hn))))
  have hb1:Rows.uptoBulk y1.1≤1048576:=by
   rw [hdd] at hb
   simp only [List.map_cons,List.map_nil,Rows.uptoBulk,Rows.uptoBulkAll] at hb
   omega
  haveI:Inhabited Ex:=⟨zeroEx 0⟩
  obtain ⟨d,hd1,hd2,hd3⟩:=open_rowS KEx Tryz.underlying22 Tryz.cellsOEn (fun b d=>ExIn W b∧CopyX b.vo∧wtJ b≤Rows.uptoBulk d) wtJ (fun b d h=>h.2.2) (fun n cs x h hz=>open_enO h hz) (dd:=y1.1) (p:=y1.2) g1 hz1
  obtain ⟨a,cap,rfl,_⟩:=id hd1
  obtain ⟨hcap,hfew⟩:=slice_bulkO Tryz.underlying22 (dd:=y1.1) (pl:=y1.2) g1
  simp only [List.cons.injEq,and_true] at eo
  refine ⟨o,a,cap,d,?_,hcap,⟨⟨hd1,fun x hx=>(hd2 x hx).choose_spec.2.1,by omega⟩,fun x hx=>?_,by omega,by omega⟩⟩
  ·have:cs=#[.bool o,.slice a d.length cap]:=Array.ext' (by rw [hcs,eo])
   rw [this]
  ·obtain ⟨q,hq1,_,hq2,hq3⟩:=hd2 x hx
   unfold wtJ at hq3
   exact ⟨hq2,by omega,by omega⟩
end
end
section
open Go.ChangeShapes Go.WideShapes Go.ChangeAt Go.RowKit Go.Lib
def seatLaid16:List (String × DataW Unit):=[("math/bits.deBruijn32tab",Rows.laid_math_bits_deBruijn32tab),("math/bits.deBruijn64tab",Rows.laid_math_bits_deBruijn64tab),("internal/strconv.uint64pow10",Rows.laid_internal_strconv_uint64pow10),("unicode/utf8.acceptRanges",Rows.laid_unicode_utf8_acceptRanges),("strconv.ErrRange",Rows.laid_strconv_ErrRange),("strconv.ErrSyntax",Rows.laid_strconv_ErrSyntax),("folio/value.plain",Rows.laid_folio_value_plain),("unicode/utf8.first",Rows.laid_unicode_utf8_first)]
theorem plain_of_laid16 {W:World} (h:laidMet Tryz.prog seatLaid16 W):PlainAt W:=by
 obtain ⟨g,t,cs,fuel,p,hg,ht,hv,hd⟩:=laidMet.reads h (n:= "folio/value.plain") (d:=Rows.laid_folio_value_plain) (.tail _ (.tail _ (.tail _ (.tail _ (.tail _ (.tail _ (.head _)))))))
 obtain rfl:=Option.some.inj (gPlain.symm.trans hg)
 obtain rfl:=Option.some.inj (tPlain.symm.trans ht)
 rw [plain_data] at hd
 obtain ⟨_,_,_,_,hlen,_,_⟩:=DataW.trod_array Tryz.underlying185 hd
 rw [cPlain] at hlen
 have hcs:=list_pairs 13 cs.toList plainLits (by simpa using hlen) rfl (fun i hi=>by
  have hi13:i<13:=hi
  obtain ⟨f,d,q,e,hx⟩:=array_elem Tryz.underlying185 hd i hi13
  rw [cPair] at hx
  rw [List.getElem?_map,List.getElem?_eq_getElem hi] at e
  simp only [Option.map_some,Option.some.injEq] at e
  subst e
  exact pair_cells (by rw [List.length_take,List.length_drop];rw [hlen];omega) hx)
 have hv':W.var? Tryz.prog "folio/value.plain" = some cs:=hv
 simp only [World.var?,hg,Option.bind_some] at hv'
 split at hv'
 ·rename_i c t' fr hh
  cases hv'
  refine ⟨t',fr,?_⟩
  rw [hh]
  have:cs=plainCells:=Array.toList_inj.1 (by rw [hcs];rfl)
  rw [this]
 ·cases hv'
theorem gPow:Tryz.prog.globalNamed "internal/strconv.uint64pow10" = some 4:=by kernel_rfl
theorem tPow:(Tryz.prog.globals[4]?).map (·.type)=some 192:=by kernel_rfl
theorem cPow:Tryz.prog.cellsOf 192=20:=by kernel_rfl
theorem cU64:Tryz.prog.cellsOf 39=1:=by kernel_rfl
theorem uPow:Tryz.prog.underlying 192=some (.array 20 39):=by kernel_rfl
theorem uU64:Tryz.prog.underlying 39=some (.int .u64):=by kernel_rfl
theorem pow_of_laid {W:World} (h:laidMet Tryz.prog seatLaid16 W):TabIs Tryz.prog W "internal/strconv.uint64pow10" .u64 pow10Tab :=
 tabIs_of_head gPow tPow uPow uU64 cU64 cPow (show laidMet Tryz.prog (("internal/strconv.uint64pow10",tabData .u64 pow10Tab)::_) W from h.tail.tail)
theorem gSyn:Tryz.prog.globalNamed "strconv.ErrSyntax" = some 5:=by kernel_rfl
theorem tSyn:(Tryz.prog.globals[5]?).map (·.type)=some 81:=by kernel_rfl
theorem gRan:Tryz.prog.globalNamed "strconv.ErrRange" = some 6:=by kernel_rfl
theorem tRan:(Tryz.prog.globals[6]?).map (·.type)=some 81:=by kernel_rfl
theorem cEs:Tryz.prog.cellsOf 242=1:=by kernel_rfl
theorem cSt:Tryz.prog.cellsOf 9=1:=by kernel_rfl
theorem starE : "*" ++ "errors.errorString" = "*errors.errorString":=by decide
theorem rowE (u:TypeId) (h:Tryz.prog.typeName? 3 u=some "*errors.errorString"):u=240 :=
 typeName_ptr_named (nm:= "errors.errorString") (by rw [starE];kernel_rfl) (by kernel_rfl) (by decide) u (by rw [starE];exact h)
theorem syn_of_laid {W:World} (h:laidMet Tryz.prog seatLaid16 W):ErrIn 5 W:=by
 obtain ⟨a,s,hv,_⟩:=laid_sentinel (h.tail.tail.tail.tail.tail) gSyn tSyn Tryz.underlying81 rowE Tryz.underlying240 Tryz.underlying242 rfl rfl Tryz.underlying9 cEs cSt
 exact ⟨_,by simpa using World.var?_cell gSyn hv 0,.inr ⟨_,_,rfl⟩⟩
theorem ran_of_laid {W:World} (h:laidMet Tryz.prog seatLaid16 W):ErrIn 6 W:=by
 obtain ⟨a,s,hv,_⟩:=laid_sentinel (h.tail.tail.tail.tail) gRan tRan Tryz.underlying81 rowE Tryz.underlying240 Tryz.underlying242 rfl rfl Tryz.underlying9 cEs cSt
 exact ⟨_,by simpa using World.var?_cell gRan hv 0,.inr ⟨_,_,rfl⟩⟩
end
section
open Go.ChangeShapes Go.WideShapes Go.ChangeAt Go.RowKit
theorem vars_of_laid16 {W:World} (h:laidMetH Tryz.prog seatLaid16 W) (hs:W.ShapedOpen Tryz.prog):OpVars W:=by
 rw [MakeChecks.laidMetH_plain _ _ _ (by kernel_rfl)] at h
 exact ⟨plain_of_laid16 h,cell_of_shapedOpen_int (zero:=#[.int .i64 0]) (t:=3) hs (of_decide_eq_true (by kernel_rfl)) (by kernel_rfl) rfl (by kernel_rfl) (by kernel_rfl) Tryz.underlying3,pow_of_laid h,syn_of_laid h,ran_of_laid h⟩
end
end Go.Proofs.YtpdccbeeoapplaaGreatDoor
