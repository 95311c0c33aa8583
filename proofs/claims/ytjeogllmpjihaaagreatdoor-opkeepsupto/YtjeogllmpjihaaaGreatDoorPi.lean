/-
  Texts of this claim, one behind the other: Oxe Psh Oxr Opp Oys Oyr Ozk Opq.
-/
import Derived.Test.YtjeogllmpjihaaaGreatDoorPh
import Derived.Deep.MidRow
namespace Go.Proofs.YtjeogllmpjihaaaGreatDoor
section
open Go.RowKit Go.Lib
theorem store_tenV {w:World} {B:Nat} {T:TypeId} {v0 v1 v2 v3 v4 v5 v6 v7 v8 v9 z0 z1 z2 z3 z4 z5 z6 z7 z8 z9:Value} (h:w.heap[B]? = some (.cells #[z0,z1,z2,z3,z4,z5,z6,z7,z8,z9] T (0,0))) (W:World) (hW:((((((((((w.setCell ⟨B,0,none⟩ v0).setCell ⟨B,1,none⟩ v1).setCell ⟨B,2,none⟩ v2).setCell ⟨B,3,none⟩ v3).setCell ⟨B,4,none⟩ v4).setCell ⟨B,5,none⟩ v5).setCell ⟨B,6,none⟩ v6).setCell ⟨B,7,none⟩ v7).setCell ⟨B,8,none⟩ v8).setCell ⟨B,9,none⟩ v9)=W) :
  W.heap[B]? = some (.cells #[v0,v1,v2,v3,v4,v5,v6,v7,v8,v9] T (0,0))∧Fr (fun k=>k=B) w W:=by
 have f:∀(W:World) (j:Nat) (v:Value),Fr (fun k=>k=B) W (W.setCell ⟨B,j,none⟩ v):=fun W j v=>⟨rfl,rfl,rfl,by simp,fun k _ hn=>heap_setCell_other _ _ k _ hn⟩
 have g:∀{u v t:World},Fr (fun k=>k=B) u v→Fr (fun k=>k=B) v t→Fr (fun k=>k=B) u t:=fun h1 h2=>h1.then h2 fun k hk=>Or.inl hk
 have f0:=Fr.refl (fun k=>k=B) w
 have h1:(w.setCell ⟨B,0,none⟩ v0).heap[B]? = some (.cells #[v0,z1,z2,z3,z4,z5,z6,z7,z8,z9] T (0,0)):=heap_setCell_same w B 0 _ _ _ h
 have f1:=g f0 (f w 0 v0)
 generalize w.setCell ⟨B,0,none⟩ v0=w1 at hW h1 f1
 have h2:(w1.setCell ⟨B,1,none⟩ v1).heap[B]? = some (.cells #[v0,v1,z2,z3,z4,z5,z6,z7,z8,z9] T (0,0)):=heap_setCell_same w1 B 1 _ _ _ h1
 have f2:=g f1 (f w1 1 v1)
 generalize w1.setCell ⟨B,1,none⟩ v1=w2 at hW h2 f2
 have h3:(w2.setCell ⟨B,2,none⟩ v2).heap[B]? = some (.cells #[v0,v1,v2,z3,z4,z5,z6,z7,z8,z9] T (0,0)):=heap_setCell_same w2 B 2 _ _ _ h2
 have f3:=g f2 (f w2 2 v2)
 generalize w2.setCell ⟨B,2,none⟩ v2=w3 at hW h3 f3
 have h4:(w3.setCell ⟨B,3,none⟩ v3).heap[B]? = some (.cells #[v0,v1,v2,v3,z4,z5,z6,z7,z8,z9] T (0,0)):=heap_setCell_same w3 B 3 _ _ _ h3
 have f4:=g f3 (f w3 3 v3)
 generalize w3.setCell ⟨B,3,none⟩ v3=w4 at hW h4 f4
 have h5:(w4.setCell ⟨B,4,none⟩ v4).heap[B]? = some (.cells #[v0,v1,v2,v3,v4,z5,z6,z7,z8,z9] T (0,0)):=heap_setCell_same w4 B 4 _ _ _ h4
 have f5:=g f4 (f w4 4 v4)
 generalize w4.setCell ⟨B,4,none⟩ v4=w5 at hW h5 f5
 have h6:(w5.setCell ⟨B,5,none⟩ v5).heap[B]? = some (.cells #[v0,v1,v2,v3,v4,v5,z6,z7,z8,z9] T (0,0)):=heap_setCell_same w5 B 5 _ _ _ h5
 have f6:=g f5 (f w5 5 v5)
 generalize w5.setCell ⟨B,5,none⟩ v5=w6 at hW h6 f6
 have h7:(w6.setCell ⟨B,6,none⟩ v6).heap[B]? = some (.cells #[v0,v1,v2,v3,v4,v5,v6,z7,z8,z9] T (0,0)):=heap_setCell_same w6 B 6 _ _ _ h6
 have f7:=g f6 (f w6 6 v6)
 generalize w6.setCell ⟨B,6,none⟩ v6=w7 at hW h7 f7
 have h8:(w7.setCell ⟨B,7,none⟩ v7).heap[B]? = some (.cells #[v0,v1,v2,v3,v4,v5,v6,v7,z8,z9] T (0,0)):=heap_setCell_same w7 B 7 _ _ _ h7
 have f8:=g f7 (f w7 7 v7)
 generalize w7.setCell ⟨B,7,none⟩ v7=w8 at hW h8 f8
 have h9:(w8.setCell ⟨B,8,none⟩ v8).heap[B]? = some (.cells #[v0,v1,v2,v3,v4,v5,v6,v7,v8,z9] T (0,0)):=heap_setCell_same w8 B 8 _ _ _ h8
 have f9:=g f8 (f w8 8 v8)
 generalize w8.setCell ⟨B,8,none⟩ v8=w9 at hW h9 f9
 have h10:(w9.setCell ⟨B,9,none⟩ v9).heap[B]? = some (.cells #[v0,v1,v2,v3,v4,v5,v6,v7,v8,v9] T (0,0)):=heap_setCell_same w9 B 9 _ _ _ h9
 have f10:=g f9 (f w9 9 v9)
 generalize w9.setCell ⟨B,9,none⟩ v9=w10 at hW h10 f10
 subst hW
 exact ⟨h10,f10⟩
theorem store_ten {w:World} {B:Nat} {T:TypeId} (x:Ex) {z0 z1 z2 z3 z4 z5 z6 z7 z8 z9:Value} (h:w.heap[B]? = some (.cells #[z0,z1,z2,z3,z4,z5,z6,z7,z8,z9] T (0,0))) (W:World) (hW:((((((((((w.setCell ⟨B,0,none⟩ (.int .i64 x.kind)).setCell ⟨B,1,none⟩ (.string x.temp)).setCell ⟨B,2,none⟩ (.string x.ka)).setCell ⟨B,3,none⟩ (.string x.kb)).setCell ⟨B,4,none⟩ (.int .i64 x.iff)).setCell ⟨B,5,none⟩ (.slice x.vp x.vo.length x.vc)).setCell ⟨B,6,none⟩ (.slice x.ep x.eo.length x.ec)).setCell ⟨B,7,none⟩ (.slice x.pp x.po.length x.pc)).setCell ⟨B,8,none⟩ (.int .u64 x.stamp)).setCell ⟨B,9,none⟩ (.int .i64 x.num))=W) :
  W.heap[B]? = some (.cells #[.int .i64 x.kind,.string x.temp,.string x.ka,.string x.kb,.int .i64 x.iff,.slice x.vp x.vo.length x.vc,.slice x.ep x.eo.length x.ec,.slice x.pp x.po.length x.pc,.int .u64 x.stamp,.int .i64 x.num] T (0,0))∧Fr (fun k=>k=B) w W:=store_tenV h W hW
theorem neq_keyQ (a b c d:ByteArray) (w:World):(binOp .neq 36 (.agg #[.string a,.string b]) (.agg #[.string c,.string d])).run Tryz.prog w=.ok (.bool (!decide (a=c∧b=d))) w:=by
 have hS:Tryz.prog.underlying 36=some (.struct (Tryz.prog.fieldsOf 36)):=by kernel_rfl
 have hp:Tryz.prog.stoodInHeld 36=false:=by kernel_rfl
 have u9:=Tryz.underlying9
 have a9:=Tryz.isAgg9
 have z9:=Tryz.sizeOf9
 rw [run_neq_struct,show (10000:Nat)=9999+1 from rfl,run_equalIn_agg w 9999 36 _ _ hS hp]
 simp only [Program.fieldsOf,Tryz.underlying36]
 go_simp
 by_cases h1:a=c
 ·subst h1
  by_cases h3:b=d
  ·subst h3;simp
  ·have e3:=beq_eq_false_iff_ne.1 (seq_false h3)
   simp [h3,e3]
 ·have e1:=beq_eq_false_iff_ne.1 (seq_false h1)
  simp [h1,e1]
set_option maxHeartbeats 8000000 in
set_option maxRecDepth 100000 in
theorem rEqual16_any (o o':Bool) (v v':Value) (d d':List Ex) (w:World) (hd:RqIn w v d) (hd':RqIn w v' d') :
  Calls Tryz.prog 8 #[.agg #[.bool o,v],.agg #[.bool o',v']] w fun e w'=>e=.returned (.bool (decide (o=o'∧d.map Ex.en=d'.map Ex.en)))∧Below w.heap.size w w':=by
 have HD:=hid hd
 have HD':=hid hd'
 obtain ⟨a,cap,rfl,hrow⟩:=hd.row
 obtain ⟨a',cap',rfl,hrow'⟩:=hd'.row
 have hlen:=hd.len
 have hlen':=hd'.len
 have HR:=hid hrow
 have HR':=hid hrow'
 clear hd hd' hrow hrow'
 have HB:Hid (Below w.heap.size w ((w.alloc (.cells #[.bool o,.slice a d.length cap] 25)).alloc (.cells #[.bool o',.slice a' d'.length cap'] 25))):=hid (((Below.refl _ _).alloc (Nat.le_refl _) _).alloc (by simp) _)
 by_cases ho:o=o'
 case neg =>
  have hq:(o==o')=false:=by cases o<;>cases o'<;>simp_all
  have HF:Hid (decide (o=o'∧d.map Ex.en=d'.map Ex.en)=false):=hid (decide_eq_false fun q=>ho q.1)
  clear ho
  go_enter Tryz.func8,Tryz.ntmps8
  go_wp2_with fail
  go_ret
  exact ⟨by rw [HF.out];rfl,HB.out⟩
 subst ho
 have hgoal:decide (o=o∧d.map Ex.en=d'.map Ex.en)=decide (d.map Ex.en=d'.map Ex.en):=by simp
 rw [hgoal]
 clear hgoal
 have hq:(o==o)=true:=by cases o<;>rfl
 by_cases hl:d.length=d'.length
 case neg =>
  have hne:((d.length:Int) != (d'.length:Int))=true:=by rw [bne_iff_ne];omega
  have HF:Hid (decide (d.map Ex.en=d'.map Ex.en)=false):=hid (decide_eq_false fun q=>hl (by have:=congrArg List.length q;simpa using this))
  clear hl
  go_enter Tryz.func8,Tryz.ntmps8
  go_wp2_with fail
  go_ret
  exact ⟨by rw [HF.out];rfl,HB.out⟩
 have hne:((d.length:Int) != (d'.length:Int))=false:=by simp;omega
 have HL:=hid hl
 clear hl
 go_enter Tryz.func8,Tryz.ntmps8
 go_wp2_with fail
 go_loopg [5] d.length (fun g vi wr=>∃(i:Nat),vi=.int .i64 i∧i≤d.length∧d.length-i≤g∧Hid (Below w.heap.size w wr)∧wr.heap[w.heap.size]? = some (.cells #[.bool o,.slice a d.length cap] 25 (0,0))∧wr.heap[w.heap.size+1]? = some (.cells #[.bool o,.slice a' d'.length cap'] 25 (0,0))∧Hid (∀(j:Nat) (x y:Ex),j<i→d[j]? = some x→d'[j]? = some y→x.en=y.en))
 case atStart =>
  refine ⟨0,rfl,by omega,by omega,HB,?_,?_,hid fun j x y h=>by omega⟩
  ·rw [Below.heap_alloc _ _ _ (by simp)];exact heap_alloc_new w _
  ·have:=heap_alloc_new (w.alloc (.cells #[.bool o,.slice a d.length cap] 25)) (.cells #[.bool o,.slice a' d'.length cap'] 25)
   simpa using this
 case round =>
  obtain ⟨i,rfl,hi,hig,HBR,hb1,hb2,HA⟩:=hrel
  have k1:wr.cell? ⟨w.heap.size,1,none⟩=some (.slice a d.length cap):=cz hb1
  have k2:wr.cell? ⟨w.heap.size+1,1,none⟩=some (.slice a' d'.length cap'):=cz hb2
  by_cases hlt:i<d.length
  ·have HLT:=hid hlt
   have hltz:(i:Int)<(d.length:Int):=by omega
   have hlt2:i<d'.length:=by have:=HL.out;omega
   have hltz2:(i:Int)<(d'.length:Int):=by omega
   have hiz:(0:Int)≤(i:Int):=by omega
   obtain ⟨b,off,rfl,hat⟩:∃b off,a=some ⟨b,off,none⟩∧KEx.At w b off d:=by
    rcases HR.out with h|⟨b,off,h1,h2⟩
    ·rw [h] at hlt;simp at hlt
    ·exact ⟨b,off,h1,h2⟩
   obtain ⟨b',off',rfl,hat'⟩:∃b off,a'=some ⟨b,off,none⟩∧KEx.At w b off d':=by
    rcases HR'.out with h|⟨b,off,h1,h2⟩
    ·rw [h] at hlt2;simp at hlt2
    ·exact ⟨b,off,h1,h2⟩
   obtain ⟨x,hx⟩:∃x,d[i]? = some x:=⟨_,List.getElem?_eq_getElem hlt⟩
   obtain ⟨y,hy⟩:∃y,d'[i]? = some y:=⟨_,List.getElem?_eq_getElem hlt2⟩
   obtain ⟨W0,hW0⟩:∃W0,wr.drew=W0:=⟨_,rfl⟩
   have HSS:Hid (∀w',Below W0.heap.size W0 w'→(w'.cell? ⟨w.heap.size,1,none⟩=some (.slice (some ⟨b,off,none⟩) d.length cap)∧w'.cell? ⟨w.heap.size+1,1,none⟩=some (.slice (some ⟨b',off',none⟩) d'.length cap')∧w'.cell? ⟨b,off+i * 10,none⟩=some (.int .i64 x.kind)∧w'.cell? ⟨b,off+i * 10+1,none⟩=some (.string x.temp)∧w'.cell? ⟨b,off+i * 10+2,none⟩=some (.string x.ka)∧w'.cell? ⟨b,off+i * 10+3,none⟩=some (.string x.kb)∧w'.cell? ⟨b,off+i * 10+4,none⟩=some (.int .i64 x.iff)∧w'.cell? ⟨b,off+i * 10+5,none⟩=some (.slice x.vp x.vo.length x.vc)∧w'.cell? ⟨b,off+i * 10+6,none⟩=some (.slice x.ep x.eo.length x.ec)∧w'.cell? ⟨b,off+i * 10+7,none⟩=some (.slice x.pp x.po.length x.pc)∧w'.cell? ⟨b,off+i * 10+8,none⟩=some (.int .u64 x.stamp)∧w'.cell? ⟨b,off+i * 10+9,none⟩=some (.int .i64 x.num)∧w'.cell? ⟨b',off'+i * 10,none⟩=some (.int .i64 y.kind)∧w'.cell? ⟨b',off'+i * 10+1,none⟩=some (.string y.temp)∧w'.cell? ⟨b',off'+i * 10+2,none⟩=some (.string y.ka)∧w'.cell? ⟨b',off'+i * 10+3,none⟩=some (.string y.kb)∧w'.cell? ⟨b',off'+i * 10+4,none⟩=some (.int .i64 y.iff)∧w'.cell? ⟨b',off'+i * 10+5,none⟩=some (.slice y.vp y.vo.length y.vc)∧w'.cell? ⟨b',off'+i * 10+6,none⟩=some (.slice y.ep y.eo.length y.ec)∧w'.cell? ⟨b',off'+i * 10+7,none⟩=some (.slice y.pp y.po.length y.pc)∧w'.cell? ⟨b',off'+i * 10+8,none⟩=some (.int .u64 y.stamp)∧w'.cell? ⟨b',off'+i * 10+9,none⟩=some (.int .i64 y.num))):=hid fun w' hb=>by
    have hbw:Below w.heap.size w W0:=by rw [←hW0];exact bel_drewN HBR.out 1
    have hq:=hbw.trans (hb.mono hbw.size)
    have q1:w'.heap[w.heap.size]? = some (.cells #[.bool o,.slice (some ⟨b,off,none⟩) d.length cap] 25 (0,0)):=(hb.block _ (by rw [←hW0];exact (Array.getElem?_eq_some_iff.1 hb1).1)).trans (by rw [←hW0];exact hb1)
    have q2:w'.heap[w.heap.size+1]? = some (.cells #[.bool o,.slice (some ⟨b',off',none⟩) d'.length cap'] 25 (0,0)):=(hb.block _ (by rw [←hW0];exact (Array.getElem?_eq_some_iff.1 hb2).1)).trans (by rw [←hW0];exact hb2)
    obtain ⟨c0,c1,c2,c3,c4,c5,c6,c7,c8,c9⟩:=row_cellsQ (Kind.at_kept hat hq) i x hx
    obtain ⟨f0,f1,f2,f3,f4,f5,f6,f7,f8,f9⟩:=row_cellsQ (Kind.at_kept hat' hq) i y hy
    exact ⟨by rw [Lib.cell_of_heap q1];rfl,by rw [Lib.cell_of_heap q2];rfl,c0,c1,c2,c3,c4,c5,c6,c7,c8,c9,f0,f1,f2,f3,f4,f5,f6,f7,f8,f9⟩
   have HB01:Hid (Below wr.heap.size wr W0):=hid (by rw [←hW0];exact bel_drewN (Below.refl _ _) 1)
   have HQ1:=hid hb1
   have HQ2:=hid hb2
   have HX0:=hid hx
   have HY0:=hid hy
   have HEX:=hid (HD.out.each x (List.mem_of_getElem? hx))
   have HEY:=hid (HD'.out.each y (List.mem_of_getElem? hy))
   clear hx hy hat hat' HD HD' HR HR'
   go_upto_region 6 with fail
   clear hb1 hb2 k1 k2
   go_cut [6,7] from 27 (fun v6 v7 wx=>∃X Y,v6=.pointer (some ⟨X,0,none⟩)∧v7=.pointer (some ⟨Y,0,none⟩)∧Hid (Below wr.heap.size wr wx∧wx.heap[X]? = some (.cells #[.int .i64 x.kind,.string x.temp,.string x.ka,.string x.kb,.int .i64 x.iff,.slice x.vp x.vo.length x.vc,.slice x.ep x.eo.length x.ec,.slice x.pp x.po.length x.pc,.int .u64 x.stamp,.int .i64 x.num] 42 (0,0))∧wx.heap[Y]? = some (.cells #[.int .i64 y.kind,.string y.temp,.string y.ka,.string y.kb,.int .i64 y.iff,.slice y.vp y.vo.length y.vc,.slice y.ep y.eo.length y.ec,.slice y.pp y.po.length y.pc,.int .u64 y.stamp,.int .i64 y.num] 42 (0,0))))
   case first =>
    refine wp_region_held_drew (S:=fun w'=>(w'.cell? ⟨w.heap.size,1,none⟩=some (.slice (some ⟨b,off,none⟩) d.length cap)∧w'.cell? ⟨w.heap.size+1,1,none⟩=some (.slice (some ⟨b',off',none⟩) d'.length cap')∧w'.cell? ⟨b,off+i * 10,none⟩=some (.int .i64 x.kind)∧w'.cell? ⟨b,off+i * 10+1,none⟩=some (.string x.temp)∧w'.cell? ⟨b,off+i * 10+2,none⟩=some (.string x.ka)∧w'.cell? ⟨b,off+i * 10+3,none⟩=some (.string x.kb)∧w'.cell? ⟨b,off+i * 10+4,none⟩=some (.int .i64 x.iff)∧w'.cell? ⟨b,off+i * 10+5,none⟩=some (.slice x.vp x.vo.length x.vc)∧w'.cell? ⟨b,off+i * 10+6,none⟩=some (.slice x.ep x.eo.length x.ec)∧w'.cell? ⟨b,off+i * 10+7,none⟩=some (.slice x.pp x.po.length x.pc)∧w'.cell? ⟨b,off+i * 10+8,none⟩=some (.int .u64 x.stamp)∧w'.cell? ⟨b,off+i * 10+9,none⟩=some (.int .i64 x.num)∧w'.cell? ⟨b',off'+i * 10,none⟩=some (.int .i64 y.kind)∧w'.cell? ⟨b',off'+i * 10+1,none⟩=some (.string y.temp)∧w'.cell? ⟨b',off'+i * 10+2,none⟩=some (.string y.ka)∧w'.cell? ⟨b',off'+i * 10+3,none⟩=some (.string y.kb)∧w'.cell? ⟨b',off'+i * 10+4,none⟩=some (.int .i64 y.iff)∧w'.cell? ⟨b',off'+i * 10+5,none⟩=some (.slice y.vp y.vo.length y.vc)∧w'.cell? ⟨b',off'+i * 10+6,none⟩=some (.slice y.ep y.eo.length y.ec)∧w'.cell? ⟨b',off'+i * 10+7,none⟩=some (.slice y.pp y.po.length y.pc)∧w'.cell? ⟨b',off'+i * 10+8,none⟩=some (.int .u64 y.stamp)∧w'.cell? ⟨b',off'+i * 10+9,none⟩=some (.int .i64 y.num))) (by kernel_rfl) (by rw [hW0];exact HSS.out _ (Below.refl _ _)) (fun hHeld=>?_)
    rw [hW0] at hHeld ⊢
    refine tkv 0 (.pointer (some ⟨w.heap.size,1,none⟩)) hHeld ?_
    simp only [Act.put,sz]
    refine tkv 1 (.slice (some ⟨b,off,none⟩) d.length cap) hHeld ?_
    simp only [Act.put,sz]
    refine tkv 2 (.int .i64 i) hHeld ?_
    simp only [Act.put,sz]
    refine tkv 3 (.pointer (some ⟨b,off+i * 10,none⟩)) hHeld ?_
    simp only [Act.put,sz]
    refine tkv 4 (.agg #[.int .i64 x.kind,.string x.temp,.string x.ka,.string x.kb,.int .i64 x.iff,.slice x.vp x.vo.length x.vc,.slice x.ep x.eo.length x.ec,.slice x.pp x.po.length x.pc,.int .u64 x.stamp,.int .i64 x.num]) hHeld ?_
    simp only [Act.put,sz]
    refine tkv 5 (.pointer (some ⟨w.heap.size+1,1,none⟩)) hHeld ?_
    simp only [Act.put,sz]
    refine tkv 6 (.slice (some ⟨b',off',none⟩) d'.length cap') hHeld ?_
    simp only [Act.put,sz]
    refine tkv 7 (.int .i64 i) hHeld ?_
    simp only [Act.put,sz]
    refine tkv 8 (.pointer (some ⟨b',off'+i * 10,none⟩)) hHeld ?_
    simp only [Act.put,sz]
    refine tkv 9 (.agg #[.int .i64 y.kind,.string y.temp,.string y.ka,.string y.kb,.int .i64 y.iff,.slice y.vp y.vo.length y.vc,.slice y.ep y.eo.length y.ec,.slice y.pp y.po.length y.pc,.int .u64 y.stamp,.int .i64 y.num]) hHeld ?_
    simp only [Act.put,sz]
    refine wpAnyH_ready (rs:=[10,11]) (by kernel_rfl) (by simp) ?_
    refine AllReadyH.cons (at_drop0 rfl) (fun K hK=>?_) (AllReadyH.cons (at_drop0 rfl) (fun K hK=>?_) AllReadyH.nil)
    ·rw [if_pos (by rfl)]
     go_simp
     obtain ⟨X,hX⟩:∃X,W0.heap.size=X:=⟨_,rfl⟩
     obtain ⟨W1,hW1⟩:∃W1,W0.alloc (.cells #[.int .i64 0,.string ⟨#[]⟩,.string ⟨#[]⟩,.string ⟨#[]⟩,.int .i64 0,.slice none 0 0,.slice none 0 0,.slice none 0 0,.int .u64 0,.int .i64 0] 42)=W1:=⟨_,rfl⟩
     have ha1:Below W0.heap.size W0 W1:=by rw [←hW1];exact (Below.refl _ _).alloc (Nat.le_refl _) _
     have HP1:Hid (W1.heap[X]? = some (.cells #[.int .i64 0,.string ⟨#[]⟩,.string ⟨#[]⟩,.string ⟨#[]⟩,.int .i64 0,.slice none 0 0,.slice none 0 0,.slice none 0 0,.int .u64 0,.int .i64 0] 42 (0,0))):=by show _=_;rw [←hW1,←hX];exact heap_alloc_new W0 _
     have hs1:=HSS.out W1 ha1
     have HA1:=hid ha1
     clear ha1
     go_wp2_with fail
     try rw [hX]
     try rw [hW1]
     refine hK.out _ _ hs1 (fun hHeld=>?_)
     clear hK K
     try simp only [Act.put,sz]
     clear hs1
     refine wpAnyH_ready (rs:=[11]) (by kernel_rfl) (by simp) ?_
     refine AllReadyH.cons (at_drop0 rfl) (fun K hK=>?_) AllReadyH.nil
     rw [if_pos (by rfl)]
     go_simp
     obtain ⟨Y,hY⟩:∃Y,W1.heap.size=Y:=⟨_,rfl⟩
     obtain ⟨W2,hW2⟩:∃W2,W1.alloc (.cells #[.int .i64 0,.string ⟨#[]⟩,.string ⟨#[]⟩,.string ⟨#[]⟩,.int .i64 0,.slice none 0 0,.slice none 0 0,.slice none 0 0,.int .u64 0,.int .i64 0] 42)=W2:=⟨_,rfl⟩
     have ha2:Below W1.heap.size W1 W2:=by rw [←hW2];exact (Below.refl _ _).alloc (Nat.le_refl _) _
     have hp2:W2.heap[Y]? = some (.cells #[.int .i64 0,.string ⟨#[]⟩,.string ⟨#[]⟩,.string ⟨#[]⟩,.int .i64 0,.slice none 0 0,.slice none 0 0,.slice none 0 0,.int .u64 0,.int .i64 0] 42 (0,0)):=by rw [←hW2,←hY];exact heap_alloc_new W1 _
     have hpl:X<W1.heap.size:=(Array.getElem?_eq_some_iff.1 HP1.out).1
     have hp1:W2.heap[X]? = some (.cells #[.int .i64 0,.string ⟨#[]⟩,.string ⟨#[]⟩,.string ⟨#[]⟩,.int .i64 0,.slice none 0 0,.slice none 0 0,.slice none 0 0,.int .u64 0,.int .i64 0] 42 (0,0)):=(ha2.block X hpl).trans HP1.out
     have HNE:Hid (X≠Y):=hid (by omega)
     have HLE:Hid (W0.heap.size≤X∧W0.heap.size≤Y):=hid (by have:=HA1.out.size;omega)
     have HA2:Hid (Below W0.heap.size W0 W2):=hid (bel_then HA1.out HA1.out.size ha2)
     have hs2:=HSS.out W2 HA2.out
     have HX:=hid hp1
     have HY:=hid hp2
     clear ha2 hp1 hp2 hpl HA1 HP1
     go_wp2_with fail
     try rw [hY]
     try rw [hW2]
     refine hK.out _ _ hs2 (fun hHeld=>?_)
     clear hK K
     try simp only [Act.put,sz]
     clear hs2 hX hY hW1 hW2
     obtain ⟨W3,hW3⟩:∃W3,((((((((((W2.setCell ⟨X,0,none⟩ (.int .i64 x.kind)).setCell ⟨X,1,none⟩ (.string x.temp)).setCell ⟨X,2,none⟩ (.string x.ka)).setCell ⟨X,3,none⟩ (.string x.kb)).setCell ⟨X,4,none⟩ (.int .i64 x.iff)).setCell ⟨X,5,none⟩ (.slice x.vp x.vo.length x.vc)).setCell ⟨X,6,none⟩ (.slice x.ep x.eo.length x.ec)).setCell ⟨X,7,none⟩ (.slice x.pp x.po.length x.pc)).setCell ⟨X,8,none⟩ (.int .u64 x.stamp)).setCell ⟨X,9,none⟩ (.int .i64 x.num))=W3:=⟨_,rfl⟩
     obtain ⟨hx3,fx3⟩:=store_ten x HX.out W3 hW3
     have zc0:W2.cell? ⟨X,0,none⟩=some (.int .i64 0):=by rw [Lib.cell_of_heap HX.out];rfl
     have zf0:=Lib.frozen_of_heap HX.out 0
     have zc1:W2.cell? ⟨X,1,none⟩=some (.string ⟨#[]⟩):=by rw [Lib.cell_of_heap HX.out];rfl
     have zf1:=Lib.frozen_of_heap HX.out 1
     have zc2:W2.cell? ⟨X,2,none⟩=some (.string ⟨#[]⟩):=by rw [Lib.cell_of_heap HX.out];rfl
     have zf2:=Lib.frozen_of_heap HX.out 2
     have zc3:W2.cell? ⟨X,3,none⟩=some (.string ⟨#[]⟩):=by rw [Lib.cell_of_heap HX.out];rfl
     have zf3:=Lib.frozen_of_heap HX.out 3
     have zc4:W2.cell? ⟨X,4,none⟩=some (.int .i64 0):=by rw [Lib.cell_of_heap HX.out];rfl
     have zf4:=Lib.frozen_of_heap HX.out 4
     have zc5:W2.cell? ⟨X,5,none⟩=some (.slice none 0 0):=by rw [Lib.cell_of_heap HX.out];rfl
     have zf5:=Lib.frozen_of_heap HX.out 5
     have zc6:W2.cell? ⟨X,6,none⟩=some (.slice none 0 0):=by rw [Lib.cell_of_heap HX.out];rfl
     have zf6:=Lib.frozen_of_heap HX.out 6
     have zc7:W2.cell? ⟨X,7,none⟩=some (.slice none 0 0):=by rw [Lib.cell_of_heap HX.out];rfl
     have zf7:=Lib.frozen_of_heap HX.out 7
     have zc8:W2.cell? ⟨X,8,none⟩=some (.int .u64 0):=by rw [Lib.cell_of_heap HX.out];rfl
     have zf8:=Lib.frozen_of_heap HX.out 8
     have zc9:W2.cell? ⟨X,9,none⟩=some (.int .i64 0):=by rw [Lib.cell_of_heap HX.out];rfl
     have zf9:=Lib.frozen_of_heap HX.out 9
     have HB3:Hid (Below W0.heap.size W0 W3):=hid (HA2.out.trans (fx3.below HA2.out.size fun k hk=>by rw [hk];exact HLE.out.1))
     have hy3:W3.heap[Y]? = some (.cells #[.int .i64 0,.string ⟨#[]⟩,.string ⟨#[]⟩,.string ⟨#[]⟩,.int .i64 0,.slice none 0 0,.slice none 0 0,.slice none 0 0,.int .u64 0,.int .i64 0] 42 (0,0)):=(fx3.block Y (Array.getElem?_eq_some_iff.1 HY.out).1 (fun e=>HNE.out e.symm)).trans HY.out
     have HX3:=hid hx3
     have HY3:=hid hy3
     have hs3:=HSS.out W3 HB3.out
     clear hx3 hy3 fx3
     refine wpAnyH_ready (rs:=[12]) (by kernel_rfl) (by simp) ?_
     refine AllReadyH.cons (at_drop0 rfl) (fun K hK=>?_) AllReadyH.nil
     rw [if_pos (by rfl)]
     go_simp
     go_wp2_with fail
     try rw [hW3]
     refine hK.out _ _ hs3 (fun hHeld=>?_)
     clear hK K
     try simp only [Act.put,sz]
     clear hs3 hW3 zc0 zf0 zc1 zf1 zc2 zf2 zc3 zf3 zc4 zf4 zc5 zf5 zc6 zf6 zc7 zf7 zc8 zf8 zc9 zf9
     obtain ⟨W4,hW4⟩:∃W4,((((((((((W3.setCell ⟨Y,0,none⟩ (.int .i64 y.kind)).setCell ⟨Y,1,none⟩ (.string y.temp)).setCell ⟨Y,2,none⟩ (.string y.ka)).setCell ⟨Y,3,none⟩ (.string y.kb)).setCell ⟨Y,4,none⟩ (.int .i64 y.iff)).setCell ⟨Y,5,none⟩ (.slice y.vp y.vo.length y.vc)).setCell ⟨Y,6,none⟩ (.slice y.ep y.eo.length y.ec)).setCell ⟨Y,7,none⟩ (.slice y.pp y.po.length y.pc)).setCell ⟨Y,8,none⟩ (.int .u64 y.stamp)).setCell ⟨Y,9,none⟩ (.int .i64 y.num))=W4:=⟨_,rfl⟩
     obtain ⟨hy4,fy4⟩:=store_ten y HY3.out W4 hW4
     have zc0:W3.cell? ⟨Y,0,none⟩=some (.int .i64 0):=by rw [Lib.cell_of_heap HY3.out];rfl
     have zf0:=Lib.frozen_of_heap HY3.out 0
     have zc1:W3.cell? ⟨Y,1,none⟩=some (.string ⟨#[]⟩):=by rw [Lib.cell_of_heap HY3.out];rfl
     have zf1:=Lib.frozen_of_heap HY3.out 1
     have zc2:W3.cell? ⟨Y,2,none⟩=some (.string ⟨#[]⟩):=by rw [Lib.cell_of_heap HY3.out];rfl
     have zf2:=Lib.frozen_of_heap HY3.out 2
     have zc3:W3.cell? ⟨Y,3,none⟩=some (.string ⟨#[]⟩):=by rw [Lib.cell_of_heap HY3.out];rfl
     have zf3:=Lib.frozen_of_heap HY3.out 3
     have zc4:W3.cell? ⟨Y,4,none⟩=some (.int .i64 0):=by rw [Lib.cell_of_heap HY3.out];rfl
     have zf4:=Lib.frozen_of_heap HY3.out 4
     have zc5:W3.cell? ⟨Y,5,none⟩=some (.slice none 0 0):=by rw [Lib.cell_of_heap HY3.out];rfl
     have zf5:=Lib.frozen_of_heap HY3.out 5
     have zc6:W3.cell? ⟨Y,6,none⟩=some (.slice none 0 0):=by rw [Lib.cell_of_heap HY3.out];rfl
     have zf6:=Lib.frozen_of_heap HY3.out 6
     have zc7:W3.cell? ⟨Y,7,none⟩=some (.slice none 0 0):=by rw [Lib.cell_of_heap HY3.out];rfl
     have zf7:=Lib.frozen_of_heap HY3.out 7
     have zc8:W3.cell? ⟨Y,8,none⟩=some (.int .u64 0):=by rw [Lib.cell_of_heap HY3.out];rfl
     have zf8:=Lib.frozen_of_heap HY3.out 8
     have zc9:W3.cell? ⟨Y,9,none⟩=some (.int .i64 0):=by rw [Lib.cell_of_heap HY3.out];rfl
     have zf9:=Lib.frozen_of_heap HY3.out 9
     have HB4:Hid (Below W0.heap.size W0 W4):=hid (HB3.out.trans (fy4.below HB3.out.size fun k hk=>by rw [hk];exact HLE.out.2))
     have hx4:W4.heap[X]? = some (.cells #[.int .i64 x.kind,.string x.temp,.string x.ka,.string x.kb,.int .i64 x.iff,.slice x.vp x.vo.length x.vc,.slice x.ep x.eo.length x.ec,.slice x.pp x.po.length x.pc,.int .u64 x.stamp,.int .i64 x.num] 42 (0,0)):=(fy4.block X (Array.getElem?_eq_some_iff.1 HX3.out).1 HNE.out).trans HX3.out
     have HX4:=hid hx4
     have HY4:=hid hy4
     have hs4:=HSS.out W4 HB4.out
     clear hx4 hy4 fy4
     refine wpAnyH_ready (rs:=[13]) (by kernel_rfl) (by simp) ?_
     refine AllReadyH.cons (at_drop0 rfl) (fun K hK=>?_) AllReadyH.nil
     rw [if_pos (by rfl)]
     go_simp
     go_wp2_with fail
     try rw [hW4]
     refine hK.out _ _ hs4 (fun hHeld=>?_)
     clear hK K
     try simp only [Act.put,sz]
     clear hs4 hW4 zc0 zf0 zc1 zf1 zc2 zf2 zc3 zf3 zc4 zf4 zc5 zf5 zc6 zf6 zc7 zf7 zc8 zf8 zc9 zf9
     refine wpAnyH_done (by kernel_rfl) ?_ _
     clear hHeld
     go_wp2_with fail
     go_meet
     exact ⟨X,Y,rfl,rfl,hid ⟨HB01.out.trans (HB4.out.mono HB01.out.size),HX4.out,HY4.out⟩⟩
    ·rw [if_pos (by rfl)]
     go_simp
     obtain ⟨Y,hY⟩:∃Y,W0.heap.size=Y:=⟨_,rfl⟩
     obtain ⟨W1,hW1⟩:∃W1,W0.alloc (.cells #[.int .i64 0,.string ⟨#[]⟩,.string ⟨#[]⟩,.string ⟨#[]⟩,.int .i64 0,.slice none 0 0,.slice none 0 0,.slice none 0 0,.int .u64 0,.int .i64 0] 42)=W1:=⟨_,rfl⟩
     have ha1:Below W0.heap.size W0 W1:=by rw [←hW1];exact (Below.refl _ _).alloc (Nat.le_refl _) _
     have HP1:Hid (W1.heap[Y]? = some (.cells #[.int .i64 0,.string ⟨#[]⟩,.string ⟨#[]⟩,.string ⟨#[]⟩,.int .i64 0,.slice none 0 0,.slice none 0 0,.slice none 0 0,.int .u64 0,.int .i64 0] 42 (0,0))):=by show _=_;rw [←hW1,←hY];exact heap_alloc_new W0 _
     have hs1:=HSS.out W1 ha1
     have HA1:=hid ha1
     clear ha1
     go_wp2_with fail
     try rw [hY]
     try rw [hW1]
     refine hK.out _ _ hs1 (fun hHeld=>?_)
     clear hK K
     try simp only [Act.put,sz]
     clear hs1
     refine wpAnyH_ready (rs:=[10]) (by kernel_rfl) (by simp) ?_
     refine AllReadyH.cons (at_drop0 rfl) (fun K hK=>?_) AllReadyH.nil
     rw [if_pos (by rfl)]
     go_simp
     obtain ⟨X,hX⟩:∃X,W1.heap.size=X:=⟨_,rfl⟩
     obtain ⟨W2,hW2⟩:∃W2,W1.alloc (.cells #[.int .i64 0,.string ⟨#[]⟩,.string ⟨#[]⟩,.string ⟨#[]⟩,.int .i64 0,.slice none 0 0,.slice none 0 0,.slice none 0 0,.int .u64 0,.int .i64 0] 42)=W2:=⟨_,rfl⟩
     have ha2:Below W1.heap.size W1 W2:=by rw [←hW2];exact (Below.refl _ _).alloc (Nat.le_refl _) _
     have hp2:W2.heap[X]? = some (.cells #[.int .i64 0,.string ⟨#[]⟩,.string ⟨#[]⟩,.string ⟨#[]⟩,.int .i64 0,.slice none 0 0,.slice none 0 0,.slice none 0 0,.int .u64 0,.int .i64 0] 42 (0,0)):=by rw [←hW2,←hX];exact heap_alloc_new W1 _
     have hpl:Y<W1.heap.size:=(Array.getElem?_eq_some_iff.1 HP1.out).1
     have hp1:W2.heap[Y]? = some (.cells #[.int .i64 0,.string ⟨#[]⟩,.string ⟨#[]⟩,.string ⟨#[]⟩,.int .i64 0,.slice none 0 0,.slice none 0 0,.slice none 0 0,.int .u64 0,.int .i64 0] 42 (0,0)):=(ha2.block Y hpl).trans HP1.out
     have HNE:Hid (X≠Y):=hid (by omega)
     have HLE:Hid (W0.heap.size≤X∧W0.heap.size≤Y):=hid (by have:=HA1.out.size;omega)
     have HA2:Hid (Below W0.heap.size W0 W2):=hid (bel_then HA1.out HA1.out.size ha2)
     have hs2:=HSS.out W2 HA2.out
     have HY:=hid hp1
     have HX:=hid hp2
     clear ha2 hp1 hp2 hpl HA1 HP1
     go_wp2_with fail
     try rw [hX]
     try rw [hW2]
     refine hK.out _ _ hs2 (fun hHeld=>?_)
     clear hK K
     try simp only [Act.put,sz]
     clear hs2 hX hY hW1 hW2
     obtain ⟨W3,hW3⟩:∃W3,((((((((((W2.setCell ⟨X,0,none⟩ (.int .i64 x.kind)).setCell ⟨X,1,none⟩ (.string x.temp)).setCell ⟨X,2,none⟩ (.string x.ka)).setCell ⟨X,3,none⟩ (.string x.kb)).setCell ⟨X,4,none⟩ (.int .i64 x.iff)).setCell ⟨X,5,none⟩ (.slice x.vp x.vo.length x.vc)).setCell ⟨X,6,none⟩ (.slice x.ep x.eo.length x.ec)).setCell ⟨X,7,none⟩ (.slice x.pp x.po.length x.pc)).setCell ⟨X,8,none⟩ (.int .u64 x.stamp)).setCell ⟨X,9,none⟩ (.int .i64 x.num))=W3:=⟨_,rfl⟩
     obtain ⟨hx3,fx3⟩:=store_ten x HX.out W3 hW3
     have zc0:W2.cell? ⟨X,0,none⟩=some (.int .i64 0):=by rw [Lib.cell_of_heap HX.out];rfl
     have zf0:=Lib.frozen_of_heap HX.out 0
     have zc1:W2.cell? ⟨X,1,none⟩=some (.string ⟨#[]⟩):=by rw [Lib.cell_of_heap HX.out];rfl
     have zf1:=Lib.frozen_of_heap HX.out 1
     have zc2:W2.cell? ⟨X,2,none⟩=some (.string ⟨#[]⟩):=by rw [Lib.cell_of_heap HX.out];rfl
     have zf2:=Lib.frozen_of_heap HX.out 2
     have zc3:W2.cell? ⟨X,3,none⟩=some (.string ⟨#[]⟩):=by rw [Lib.cell_of_heap HX.out];rfl
     have zf3:=Lib.frozen_of_heap HX.out 3
     have zc4:W2.cell? ⟨X,4,none⟩=some (.int .i64 0):=by rw [Lib.cell_of_heap HX.out];rfl
     have zf4:=Lib.frozen_of_heap HX.out 4
     have zc5:W2.cell? ⟨X,5,none⟩=some (.slice none 0 0):=by rw [Lib.cell_of_heap HX.out];rfl
     have zf5:=Lib.frozen_of_heap HX.out 5
     have zc6:W2.cell? ⟨X,6,none⟩=some (.slice none 0 0):=by rw [Lib.cell_of_heap HX.out];rfl
     have zf6:=Lib.frozen_of_heap HX.out 6
     have zc7:W2.cell? ⟨X,7,none⟩=some (.slice none 0 0):=by rw [Lib.cell_of_heap HX.out];rfl
     have zf7:=Lib.frozen_of_heap HX.out 7
     have zc8:W2.cell? ⟨X,8,none⟩=some (.int .u64 0):=by rw [Lib.cell_of_heap HX.out];rfl
     have zf8:=Lib.frozen_of_heap HX.out 8
     have zc9:W2.cell? ⟨X,9,none⟩=some (.int .i64 0):=by rw [Lib.cell_of_heap HX.out];rfl
     have zf9:=Lib.frozen_of_heap HX.out 9
     have HB3:Hid (Below W0.heap.size W0 W3):=hid (HA2.out.trans (fx3.below HA2.out.size fun k hk=>by rw [hk];exact HLE.out.1))
     have hy3:W3.heap[Y]? = some (.cells #[.int .i64 0,.string ⟨#[]⟩,.string ⟨#[]⟩,.string ⟨#[]⟩,.int .i64 0,.slice none 0 0,.slice none 0 0,.slice none 0 0,.int .u64 0,.int .i64 0] 42 (0,0)):=(fx3.block Y (Array.getElem?_eq_some_iff.1 HY.out).1 (fun e=>HNE.out e.symm)).trans HY.out
     have HX3:=hid hx3
     have HY3:=hid hy3
     have hs3:=HSS.out W3 HB3.out
     clear hx3 hy3 fx3
     refine wpAnyH_ready (rs:=[12]) (by kernel_rfl) (by simp) ?_
     refine AllReadyH.cons (at_drop0 rfl) (fun K hK=>?_) AllReadyH.nil
     rw [if_pos (by rfl)]
     go_simp
     go_wp2_with fail
     try rw [hW3]
     refine hK.out _ _ hs3 (fun hHeld=>?_)
     clear hK K
     try simp only [Act.put,sz]
     clear hs3 hW3 zc0 zf0 zc1 zf1 zc2 zf2 zc3 zf3 zc4 zf4 zc5 zf5 zc6 zf6 zc7 zf7 zc8 zf8 zc9 zf9
     obtain ⟨W4,hW4⟩:∃W4,((((((((((W3.setCell ⟨Y,0,none⟩ (.int .i64 y.kind)).setCell ⟨Y,1,none⟩ (.string y.temp)).setCell ⟨Y,2,none⟩ (.string y.ka)).setCell ⟨Y,3,none⟩ (.string y.kb)).setCell ⟨Y,4,none⟩ (.int .i64 y.iff)).setCell ⟨Y,5,none⟩ (.slice y.vp y.vo.length y.vc)).setCell ⟨Y,6,none⟩ (.slice y.ep y.eo.length y.ec)).setCell ⟨Y,7,none⟩ (.slice y.pp y.po.length y.pc)).setCell ⟨Y,8,none⟩ (.int .u64 y.stamp)).setCell ⟨Y,9,none⟩ (.int .i64 y.num))=W4:=⟨_,rfl⟩
     obtain ⟨hy4,fy4⟩:=store_ten y HY3.out W4 hW4
     have zc0:W3.cell? ⟨Y,0,none⟩=some (.int .i64 0):=by rw [Lib.cell_of_heap HY3.out];rfl
     have zf0:=Lib.frozen_of_heap HY3.out 0
     have zc1:W3.cell? ⟨Y,1,none⟩=some (.string ⟨#[]⟩):=by rw [Lib.cell_of_heap HY3.out];rfl
     have zf1:=Lib.frozen_of_heap HY3.out 1
     have zc2:W3.cell? ⟨Y,2,none⟩=some (.string ⟨#[]⟩):=by rw [Lib.cell_of_heap HY3.out];rfl
     have zf2:=Lib.frozen_of_heap HY3.out 2
     have zc3:W3.cell? ⟨Y,3,none⟩=some (.string ⟨#[]⟩):=by rw [Lib.cell_of_heap HY3.out];rfl
     have zf3:=Lib.frozen_of_heap HY3.out 3
     have zc4:W3.cell? ⟨Y,4,none⟩=some (.int .i64 0):=by rw [Lib.cell_of_heap HY3.out];rfl
     have zf4:=Lib.frozen_of_heap HY3.out 4
     have zc5:W3.cell? ⟨Y,5,none⟩=some (.slice none 0 0):=by rw [Lib.cell_of_heap HY3.out];rfl
     have zf5:=Lib.frozen_of_heap HY3.out 5
     have zc6:W3.cell? ⟨Y,6,none⟩=some (.slice none 0 0):=by rw [Lib.cell_of_heap HY3.out];rfl
     have zf6:=Lib.frozen_of_heap HY3.out 6
     have zc7:W3.cell? ⟨Y,7,none⟩=some (.slice none 0 0):=by rw [Lib.cell_of_heap HY3.out];rfl
     have zf7:=Lib.frozen_of_heap HY3.out 7
     have zc8:W3.cell? ⟨Y,8,none⟩=some (.int .u64 0):=by rw [Lib.cell_of_heap HY3.out];rfl
     have zf8:=Lib.frozen_of_heap HY3.out 8
     have zc9:W3.cell? ⟨Y,9,none⟩=some (.int .i64 0):=by rw [Lib.cell_of_heap HY3.out];rfl
     have zf9:=Lib.frozen_of_heap HY3.out 9
     have HB4:Hid (Below W0.heap.size W0 W4):=hid (HB3.out.trans (fy4.below HB3.out.size fun k hk=>by rw [hk];exact HLE.out.2))
     have hx4:W4.heap[X]? = some (.cells #[.int .i64 x.kind,.string x.temp,.string x.ka,.string x.kb,.int .i64 x.iff,.slice x.vp x.vo.length x.vc,.slice x.ep x.eo.length x.ec,.slice x.pp x.po.length x.pc,.int .u64 x.stamp,.int .i64 x.num] 42 (0,0)):=(fy4.block X (Array.getElem?_eq_some_iff.1 HX3.out).1 HNE.out).trans HX3.out
     have HX4:=hid hx4
     have HY4:=hid hy4
     have hs4:=HSS.out W4 HB4.out
     clear hx4 hy4 fy4
     refine wpAnyH_ready (rs:=[13]) (by kernel_rfl) (by simp) ?_
     refine AllReadyH.cons (at_drop0 rfl) (fun K hK=>?_) AllReadyH.nil
     rw [if_pos (by rfl)]
     go_simp
     go_wp2_with fail
     try rw [hW4]
     refine hK.out _ _ hs4 (fun hHeld=>?_)
     clear hK K
     try simp only [Act.put,sz]
     clear hs4 hW4 zc0 zf0 zc1 zf1 zc2 zf2 zc3 zf3 zc4 zf4 zc5 zf5 zc6 zf6 zc7 zf7 zc8 zf8 zc9 zf9
     refine wpAnyH_done (by kernel_rfl) ?_ _
     clear hHeld
     go_wp2_with fail
     go_meet
     exact ⟨X,Y,rfl,rfl,hid ⟨HB01.out.trans (HB4.out.mono HB01.out.size),HX4.out,HY4.out⟩⟩
   obtain ⟨X,Y,rfl,rfl,HCUT⟩:=hcut
   obtain ⟨hbc,hxc,hyc⟩:=HCUT.out
   have HBC:Hid (Below w.heap.size w wc):=hid (HBR.out.trans (hbc.mono HBR.out.size))
   have HC1:Hid (wc.heap[w.heap.size]? = some (.cells #[.bool o,.slice (some ⟨b,off,none⟩) d.length cap] 25 (0,0))):=hid ((hbc.block _ (Array.getElem?_eq_some_iff.1 HQ1.out).1).trans HQ1.out)
   have HC2:Hid (wc.heap[w.heap.size+1]? = some (.cells #[.bool o,.slice (some ⟨b',off',none⟩) d'.length cap'] 25 (0,0))):=hid ((hbc.block _ (Array.getElem?_eq_some_iff.1 HQ2.out).1).trans HQ2.out)
   have xc0:wc.cell? ⟨X,0,none⟩=some (.int .i64 x.kind):=cz hxc
   have xc1:wc.cell? ⟨X,1,none⟩=some (.string x.temp):=cz hxc
   have xc2:wc.cell? ⟨X,2,none⟩=some (.string x.ka):=cz hxc
   have xc3:wc.cell? ⟨X,3,none⟩=some (.string x.kb):=cz hxc
   have xc4:wc.cell? ⟨X,4,none⟩=some (.int .i64 x.iff):=cz hxc
   have xc5:wc.cell? ⟨X,5,none⟩=some (.slice x.vp x.vo.length x.vc):=cz hxc
   have xc6:wc.cell? ⟨X,6,none⟩=some (.slice x.ep x.eo.length x.ec):=cz hxc
   have xc7:wc.cell? ⟨X,7,none⟩=some (.slice x.pp x.po.length x.pc):=cz hxc
   have xc8:wc.cell? ⟨X,8,none⟩=some (.int .u64 x.stamp):=cz hxc
   have xc9:wc.cell? ⟨X,9,none⟩=some (.int .i64 x.num):=cz hxc
   have yc0:wc.cell? ⟨Y,0,none⟩=some (.int .i64 y.kind):=cz hyc
   have yc1:wc.cell? ⟨Y,1,none⟩=some (.string y.temp):=cz hyc
   have yc2:wc.cell? ⟨Y,2,none⟩=some (.string y.ka):=cz hyc
   have yc3:wc.cell? ⟨Y,3,none⟩=some (.string y.kb):=cz hyc
   have yc4:wc.cell? ⟨Y,4,none⟩=some (.int .i64 y.iff):=cz hyc
   have yc5:wc.cell? ⟨Y,5,none⟩=some (.slice y.vp y.vo.length y.vc):=cz hyc
   have yc6:wc.cell? ⟨Y,6,none⟩=some (.slice y.ep y.eo.length y.ec):=cz hyc
   have yc7:wc.cell? ⟨Y,7,none⟩=some (.slice y.pp y.po.length y.pc):=cz hyc
   have yc8:wc.cell? ⟨Y,8,none⟩=some (.int .u64 y.stamp):=cz hyc
   have yc9:wc.cell? ⟨Y,9,none⟩=some (.int .i64 y.num):=cz hyc
   clear hbc hxc hyc HCUT HSS HQ1 HQ2
   have HEX2:=hid (HEX.out.on HBC.out)
   have HEY2:=hid (HEY.out.on HBC.out)
   have HEN:Hid (decide (x.en=y.en)=decide (x.kind=y.kind∧x.temp=y.temp∧(x.ka=y.ka∧x.kb=y.kb)∧x.iff=y.iff∧x.stamp=y.stamp∧x.num=y.num∧x.vo.map Fx.fld=y.vo.map Fx.fld∧x.eo=y.eo∧x.po=y.po)):=hid (by rw [decide_eq_decide];exact en_eq x.en y.en)
   have HSF:Hid (Calls Tryz.prog 21 #[.slice x.vp x.vo.length x.vc,.slice y.vp y.vo.length y.vc] wc fun e w'=>e=.returned (.bool (decide (x.vo.map Fx.fld=y.vo.map Fx.fld)))∧∃m,w'=wc.drewN m):=hid (sameF_any _ _ x.vo y.vo _ HEX2.out.val HEY2.out.val HEX2.out.fit HEY2.out.fit)
   have HSE:Hid (∀n,Calls Tryz.prog 22 #[.slice x.ep x.eo.length x.ec,.slice y.ep y.eo.length y.ec] (wc.drewN n) fun e w'=>e=.returned (.bool (decide (x.eo=y.eo)))∧∃m,w'=(wc.drewN n).drewN m):=hid fun n=>rsameE_any _ _ x.eo y.eo _ (HEX2.out.on (bel_drewN (Below.refl _ _) n)).eds (HEY2.out.on (bel_drewN (Below.refl _ _) n)).eds HEX2.out.efit.1
   have HSP:Hid (∀n,Calls Tryz.prog 23 #[.slice x.pp x.po.length x.pc,.slice y.pp y.po.length y.pc] (wc.drewN n) fun e w'=>e=.returned (.bool (decide (x.po=y.po)))∧∃m,w'=(wc.drewN n).drewN m):=hid fun n=>rsameM_any _ _ x.po y.po _ (HEX2.out.on (bel_drewN (Below.refl _ _) n)).prd (HEY2.out.on (bel_drewN (Below.refl _ _) n)).prd HEX2.out.pfit.1
   have HKQ:=hid (neq_keyQ x.ka x.kb y.ka y.kb)
   go_upto_region 7 with fail
   go_cut [102] from 27 (fun c wx=>c=.bool (!decide (x.en=y.en))∧Hid (∃n,wx=wc.drewN n))
   case first =>
    by_cases h_kind:x.kind=y.kind
    case neg =>
     have q_kind:(x.kind != y.kind)=true:=bne_iff_ne.2 h_kind
     have HF:Hid (decide (x.kind=y.kind∧x.temp=y.temp∧(x.ka=y.ka∧x.kb=y.kb)∧x.iff=y.iff∧x.stamp=y.stamp∧x.num=y.num∧x.vo.map Fx.fld=y.vo.map Fx.fld∧x.eo=y.eo∧x.po=y.po)=false):=hid (decide_eq_false fun q=>h_kind q.1)
     clear h_kind
     go_wp2_with fail
     go_meet
     exact ⟨by rw [HEN.out,HF.out];rfl,hid ⟨0,rfl⟩⟩
    have q_kind:(x.kind != y.kind)=false:=by rw [h_kind];simp
    by_cases h_temp:x.temp=y.temp
    case neg =>
     have q_temp:(x.temp.toList==y.temp.toList)=false:=seq_false h_temp
     have HF:Hid (decide (x.kind=y.kind∧x.temp=y.temp∧(x.ka=y.ka∧x.kb=y.kb)∧x.iff=y.iff∧x.stamp=y.stamp∧x.num=y.num∧x.vo.map Fx.fld=y.vo.map Fx.fld∧x.eo=y.eo∧x.po=y.po)=false):=hid (decide_eq_false fun q=>h_temp q.2.1)
     clear h_kind h_temp
     go_wp2_with fail
     go_meet
     exact ⟨by rw [HEN.out,HF.out];rfl,hid ⟨0,rfl⟩⟩
    have q_temp:(x.temp.toList==y.temp.toList)=true:=seq_true h_temp
    by_cases h_key:(x.ka=y.ka∧x.kb=y.kb)
    case neg =>
     have q_key:∀V,(binOp .neq 36 (.agg #[.string x.ka,.string x.kb]) (.agg #[.string y.ka,.string y.kb])).run Tryz.prog V=.ok (.bool true) V:=fun V=>by rw [HKQ.out V,decide_eq_false h_key];rfl
     have HF:Hid (decide (x.kind=y.kind∧x.temp=y.temp∧(x.ka=y.ka∧x.kb=y.kb)∧x.iff=y.iff∧x.stamp=y.stamp∧x.num=y.num∧x.vo.map Fx.fld=y.vo.map Fx.fld∧x.eo=y.eo∧x.po=y.po)=false):=hid (decide_eq_false fun q=>h_key q.2.2.1)
     clear h_kind h_temp h_key
     go_wp2_with fail
     go_meet
     exact ⟨by rw [HEN.out,HF.out];rfl,hid ⟨0,rfl⟩⟩
    have q_key:∀V,(binOp .neq 36 (.agg #[.string x.ka,.string x.kb]) (.agg #[.string y.ka,.string y.kb])).run Tryz.prog V=.ok (.bool false) V:=fun V=>by rw [HKQ.out V,decide_eq_true h_key];rfl
    by_cases h_iff:x.iff=y.iff
    case neg =>
     have q_iff:(x.iff != y.iff)=true:=bne_iff_ne.2 h_iff
     have HF:Hid (decide (x.kind=y.kind∧x.temp=y.temp∧(x.ka=y.ka∧x.kb=y.kb)∧x.iff=y.iff∧x.stamp=y.stamp∧x.num=y.num∧x.vo.map Fx.fld=y.vo.map Fx.fld∧x.eo=y.eo∧x.po=y.po)=false):=hid (decide_eq_false fun q=>h_iff q.2.2.2.1)
     clear h_kind h_temp h_key h_iff
     go_wp2_with fail
     go_meet
     exact ⟨by rw [HEN.out,HF.out];rfl,hid ⟨0,rfl⟩⟩
    have q_iff:(x.iff != y.iff)=false:=by rw [h_iff];simp
    by_cases h_stamp:x.stamp=y.stamp
    case neg =>
     have q_stamp:(x.stamp != y.stamp)=true:=bne_iff_ne.2 h_stamp
     have HF:Hid (decide (x.kind=y.kind∧x.temp=y.temp∧(x.ka=y.ka∧x.kb=y.kb)∧x.iff=y.iff∧x.stamp=y.stamp∧x.num=y.num∧x.vo.map Fx.fld=y.vo.map Fx.fld∧x.eo=y.eo∧x.po=y.po)=false):=hid (decide_eq_false fun q=>h_stamp q.2.2.2.2.1)
     clear h_kind h_temp h_key h_iff h_stamp
     go_wp2_with fail
     go_meet
     exact ⟨by rw [HEN.out,HF.out];rfl,hid ⟨0,rfl⟩⟩
    have q_stamp:(x.stamp != y.stamp)=false:=by rw [h_stamp];simp
    by_cases h_num:x.num=y.num
    case neg =>
     have q_num:(x.num != y.num)=true:=bne_iff_ne.2 h_num
     have HF:Hid (decide (x.kind=y.kind∧x.temp=y.temp∧(x.ka=y.ka∧x.kb=y.kb)∧x.iff=y.iff∧x.stamp=y.stamp∧x.num=y.num∧x.vo.map Fx.fld=y.vo.map Fx.fld∧x.eo=y.eo∧x.po=y.po)=false):=hid (decide_eq_false fun q=>h_num q.2.2.2.2.2.1)
     clear h_kind h_temp h_key h_iff h_stamp h_num
     go_wp2_with fail
     go_meet
     exact ⟨by rw [HEN.out,HF.out];rfl,hid ⟨0,rfl⟩⟩
    have q_num:(x.num != y.num)=false:=by rw [h_num];simp
    by_cases h_val:x.vo.map Fx.fld=y.vo.map Fx.fld
    case neg =>
     have q_val:=decide_eq_false h_val
     have HF:Hid (decide (x.kind=y.kind∧x.temp=y.temp∧(x.ka=y.ka∧x.kb=y.kb)∧x.iff=y.iff∧x.stamp=y.stamp∧x.num=y.num∧x.vo.map Fx.fld=y.vo.map Fx.fld∧x.eo=y.eo∧x.po=y.po)=false):=hid (decide_eq_false fun q=>h_val q.2.2.2.2.2.2.1)
     clear h_kind h_temp h_key h_iff h_stamp h_num h_val
     go_wp2_with (first|(go_at_call 21;refine HSF.out.mono ?_;rintro e w1 ⟨rfl,n1,rfl⟩))
     go_meet
     exact ⟨by rw [HEN.out,HF.out];rfl,hid ⟨_,rfl⟩⟩
    have q_val:=decide_eq_true h_val
    by_cases h_eds:x.eo=y.eo
    case neg =>
     have q_eds:=decide_eq_false h_eds
     have HF:Hid (decide (x.kind=y.kind∧x.temp=y.temp∧(x.ka=y.ka∧x.kb=y.kb)∧x.iff=y.iff∧x.stamp=y.stamp∧x.num=y.num∧x.vo.map Fx.fld=y.vo.map Fx.fld∧x.eo=y.eo∧x.po=y.po)=false):=hid (decide_eq_false fun q=>h_eds q.2.2.2.2.2.2.2.1)
     clear h_kind h_temp h_key h_iff h_stamp h_num h_val h_eds
     go_wp2_with (first|(go_at_call 21;refine HSF.out.mono ?_;rintro e w1 ⟨rfl,n1,rfl⟩)|(go_at_call 22;refine (HSE.out n1).mono ?_;rintro e w2 ⟨rfl,n2,rfl⟩))
     go_meet
     exact ⟨by rw [HEN.out,HF.out];rfl,hid ⟨_,rfl⟩⟩
    have q_eds:=decide_eq_true h_eds
    by_cases h_prd:x.po=y.po
    case neg =>
     have q_prd:=decide_eq_false h_prd
     have HF:Hid (decide (x.kind=y.kind∧x.temp=y.temp∧(x.ka=y.ka∧x.kb=y.kb)∧x.iff=y.iff∧x.stamp=y.stamp∧x.num=y.num∧x.vo.map Fx.fld=y.vo.map Fx.fld∧x.eo=y.eo∧x.po=y.po)=false):=hid (decide_eq_false fun q=>h_prd q.2.2.2.2.2.2.2.2)
     clear h_kind h_temp h_key h_iff h_stamp h_num h_val h_eds h_prd
     go_wp2_with (first|(go_at_call 21;refine HSF.out.mono ?_;rintro e w1 ⟨rfl,n1,rfl⟩)|(go_at_call 22;refine (HSE.out n1).mono ?_;rintro e w2 ⟨rfl,n2,rfl⟩)|(go_at_call 23;refine (HSP.out _).mono ?_;rintro e w3 ⟨rfl,n3,rfl⟩))
     go_meet
     exact ⟨by rw [HEN.out,HF.out];rfl,hid ⟨_,rfl⟩⟩
    have q_prd:=decide_eq_true h_prd
    have HF:Hid (decide (x.kind=y.kind∧x.temp=y.temp∧(x.ka=y.ka∧x.kb=y.kb)∧x.iff=y.iff∧x.stamp=y.stamp∧x.num=y.num∧x.vo.map Fx.fld=y.vo.map Fx.fld∧x.eo=y.eo∧x.po=y.po)=true):=hid (decide_eq_true ⟨h_kind,h_temp,h_key,h_iff,h_stamp,h_num,h_val,h_eds,h_prd⟩)
    clear h_kind h_temp h_key h_iff h_stamp h_num h_val h_eds h_prd
    go_wp2_with (first|(go_at_call 21;refine HSF.out.mono ?_;rintro e w1 ⟨rfl,n1,rfl⟩)|(go_at_call 22;refine (HSE.out n1).mono ?_;rintro e w2 ⟨rfl,n2,rfl⟩)|(go_at_call 23;refine (HSP.out _).mono ?_;rintro e w3 ⟨rfl,n3,rfl⟩))
    go_meet
    exact ⟨by rw [HEN.out,HF.out];rfl,hid ⟨_,rfl⟩⟩
   obtain ⟨rfl,HW⟩:=hcut
   obtain ⟨n,rfl⟩:=HW.out
   have HBN:Hid (Below w.heap.size w (wc.drewN n)):=hid (bel_drewN HBC.out n)
   have HN1:Hid ((wc.drewN n).heap[w.heap.size]? = some (.cells #[.bool o,.slice (some ⟨b,off,none⟩) d.length cap] 25 (0,0))):=hid HC1.out
   have HN2:Hid ((wc.drewN n).heap[w.heap.size+1]? = some (.cells #[.bool o,.slice (some ⟨b',off',none⟩) d'.length cap'] 25 (0,0))):=hid HC2.out
   clear xc0 yc0 xc1 yc1 xc2 yc2 xc3 yc3 xc4 yc4 xc5 yc5 xc6 yc6 xc7 yc7 xc8 yc8 xc9 yc9 HW HEN HSF HSE HSP HKQ HEX HEY HEX2 HEY2 HC1 HC2 HBC
   by_cases hs:x.en=y.en
   ·have HA2:Hid (∀(j:Nat) (x y:Ex),j<i+1→d[j]? = some x→d'[j]? = some y→x.en=y.en):=hid fun j x' y' hj h1 h2=>by
     by_cases q:j=i
     ·subst q
      rw [HX0.out] at h1;rw [HY0.out] at h2
      cases h1;cases h2;exact hs
     ·exact HA.out j x' y' (by omega) h1 h2
    have hd:=decide_eq_true hs
    rw [hd]
    clear hs hd
    go_wp2_with fail
    go_roundg (d.length-(i+1))
    case measure=>omega
    exact ⟨i+1,by go_num,HLT.out,Nat.le_refl _,HBN,HN1.out,HN2.out,HA2⟩
   ·have HF:Hid (decide (d.map Ex.en=d'.map Ex.en)=false):=hid (decide_eq_false fun q=>hs (by
     have h:=congrArg (·[i]?) q
     simp only [List.getElem?_map,HX0.out,HY0.out,Option.map_some] at h
     exact Option.some.inj h))
    have hd:=decide_eq_false hs
    rw [hd]
    clear hs hd
    go_wp2_with fail
    go_ret
    exact ⟨by rw [HF.out];rfl,HBN.out⟩
  ·have hltz:¬ (i:Int)<(d.length:Int):=by omega
   have HF:Hid (decide (d.map Ex.en=d'.map Ex.en)=true):=hid (decide_eq_true (all_same HL.out fun j x y h1 h2=>HA.out j x y (by have:=(List.getElem?_eq_some_iff.1 h1).1;omega) h1 h2))
   go_wp2_with fail
   go_ret
   exact ⟨by rw [HF.out];rfl,HBR.out⟩
end
section
open Go.RowKit
structure RowSt {α:Type} (K:Kind α) (N:Nat) (W:World) (v:Value) (l:List α) (w:World):Prop where
 own:K.Own N w v l
 bel:Below N W w
 base:N≤w.heap.size
theorem below_grown {N:Nat} {W w w':World} {ob:Option Nat} (hb:Below N W w) (hg:w.grownBy w' ob) (ho:∀k,ob=some k→N≤k) (hN:N≤w.heap.size):Below N W w' :=
 hb.trans ⟨hg.os,hg.tape,hg.output,hg.size,fun k hk=>hg.block k (by omega) fun e=>by have:=ho k e.symm;omega⟩
section
variable {α:Type} {K:Kind α} {N:Nat} {W:World} {v:Value} {l:List α} {w:World}
theorem RowSt.nil (K:Kind α) (hb:Below N W w) (hN:N≤w.heap.size):RowSt K N W (.slice none 0 0) [] w:=⟨Kind.own_nil _ _ _,hb,hN⟩
theorem RowSt.on {w':World} (h:RowSt K N W v l w) (hb:Below w.heap.size w w'):RowSt K N W v l w':=⟨Kind.own_on h.own hb,h.bel.trans (hb.mono h.base),Nat.le_trans h.base hb.size⟩
theorem RowSt.push {g cap:Nat} {w':World} {x:α} (h:RowSt K N W v l w) (ho:w'.ownsRow N K.T K.k (.slice (some ⟨g,0,none⟩) (l.length+1) cap) (l.length+1) (K.cells l++K.cells [x])) (hg:w.grownBy w' v.ownBlock):RowSt K N W (.slice (some ⟨g,0,none⟩) (l.length+1) cap) (l++[x]) w' :=
 ⟨Kind.own_snoc ho rfl rfl,below_grown h.bel hg (fun k hk=>(World.ownsRow.lt h.own k hk).1) h.base,Nat.le_trans h.base hg.size⟩
end
theorem news_box {α:Type} (K:Kind α) {w:World} {B:Nat} {x:α} {t:TypeId} {fz:Nat × Nat} (h:w.heap[B]? = some (.cells (K.enc x).toArray t fz)):∀j u,(K.cells [x])[j]? = some u→w.cell? ((⟨B,0,none⟩:Addr).add j)=some u:=fun j u hu=>by
 rw [K.cells_one] at hu
 exact World.news_of_block h j u (by simpa using hu)
section
variable {P:Program} {α:Type} {w:World} {ops:Array Oper} {rest:List Oper} {o:Oper} {a:Act} {Q:Exit→Act→World→Prop}
theorem wpList_push (K:Kind α) (hgd:o.guard=none) (s x:Operand) (t:TypeId) (ho:o.op=.call { callee:=.builtin .append,args:=#[s,x],argTypes:=#[t,t] })
  (i:TypeInfo) (z:Value) (bytes:Nat) (ht:P.underlying t=some (.slice K.T)) (hi:P.info? K.T=some i) (hz:i.zero=some z) (hsize:i.size=K.k) (hby:i.bytes=bytes) (hzs:z.cells.size=K.k)
  (N:Nat) (W:World) (v:Value) (l:List α) (hs:a.eval s=v) (hst:RowSt K N W v l w) (y:α) (B m c:Nat) (hm:m=1) (hx:a.eval x=.slice (some ⟨B,0,none⟩) m c) (te:TypeId) (fz:Nat × Nat) (hB:w.heap[B]? = some (.cells (K.enc y).toArray te fz))
  (hlen:l.length+1≤maxLen) (hbytes:(l.length+1) * bytes≤140737488355328)
  (h:∀g cap w',RowSt K N W (.slice (some ⟨g,0,none⟩) (l.length+1) cap) (l++[y]) w'→w.grownBy w' v.ownBlock→(v.ownBlock=some g∨g=w.heap.size)→wpList P ops Q rest (a.put o.dst (.slice (some ⟨g,0,none⟩) (l.length+1) cap)) w'):wpList P ops Q (o::rest) a w:=by
 subst hm
 refine wpList_append_lies _ hgd s x t ho N K.T i z K.k bytes ht hi hz hsize hby hzs K.pos v l.length (K.cells l) hs hst.own ⟨B,0,none⟩ 1 c (K.cells [y]) hx ?_ (news_box K hB) (K.cells_ones _) (by decide) hlen hbytes hst.base _ rfl ?_
 ·rw [K.cells_len];rfl
 ·exact fun g cap w' h1 h2 h3 _=>h g cap w' (hst.push h1 h2) h2 h3
end
end
section
open Go.RowKit Go.Lib
theorem fit_same16 {o d:List Fx} (h:o.map Fx.fld=d.map Fx.fld) (hf:FitX d):FitX o:=by
 refine ⟨by have:=congrArg List.length h;simp at this;have h4:=hf.1;omega,fun x hx=>?_⟩
 have:x.fld∈o.map Fx.fld:=List.mem_map_of_mem hx
 rw [h] at this
 obtain ⟨y,hy,e⟩:=List.mem_map.1 this
 rw [←e];exact hf.2 y hy
theorem shapeX {n:Nat} {w:World} {v:Value} {d:List Fx} (h:OwnXs n w v d):∃p cap,v=.slice p d.length cap:=by
 rcases h.1.2 with ⟨hv,h0⟩|⟨g,cap,cur,hv,_⟩
 ·exact ⟨none,0,by rw [hv,h0]⟩
 ·exact ⟨_,_,hv⟩
theorem OwnQ.frT {n0 g:Nat} {x:Ex} {w W:World} {c:Array Value} {T:TypeId} {fr:Nat × Nat} (h:OwnQ n0 x w) (hO:w.heap[g]? = some (.cells c T fr)) (h1:45≠T) (h2:9≠T) (h3:KE.T≠T) (h4:KM.T≠T) (f:Fr (fun b=>b=g) w W):OwnQ n0 x W :=
 ⟨⟨f.row h.val.1 (row_box h.val.1 hO h1),fun y hy=>f.row (h.val.2 y hy) (row_box (h.val.2 y hy) hO h2)⟩,h.fit,
  f.row (show w.ownsRow n0 KE.T KE.k x.es x.eo.length (KE.cells x.eo) from h.eds) (row_box (show w.ownsRow n0 KE.T KE.k x.es x.eo.length (KE.cells x.eo) from h.eds) hO h3),h.efit,
  f.row (show w.ownsRow n0 KM.T KM.k x.ps x.po.length (KM.cells x.po) from h.prd) (row_box (show w.ownsRow n0 KM.T KM.k x.ps x.po.length (KM.cells x.po) from h.prd) hO h4),h.pfit,h.rng⟩
def CpPost (o:Bool) (d:List Ex) (w:World) (e:Ending) (w':World):Prop :=
 ∃(pv:Option Addr) (d':List Ex) (cv:Nat),e=.returned (.agg #[.bool o,.slice pv d'.length cv])∧d'.map Ex.en=d.map Ex.en∧KEx.Own w.heap.size w' (.slice pv d'.length cv) d'∧(∀x∈d',OwnQ w.heap.size x w')∧Below w.heap.size w w'
set_option maxHeartbeats 8000000 in
set_option maxRecDepth 100000 in
theorem rRequest16_any (o : Bool) (a : Option Addr) (cap : Nat) (d : List Ex) (w : World) (hd : RqIn w (.slice a d.length cap) d) (hc : ∀ x ∈ d, CopyX x.vo ∧ x.eo.length ≤ 1048576 ∧ x.po.length ≤ 1048576) (hf : d.length ≤ 1048576) :
    Calls Tryz.prog 9 #[.agg #[.bool o, .slice a d.length cap]] w (CpPost o d w) := by
  obtain ⟨i0, hi, hz0, hz1, hz2⟩ := info_parts Tryz.infoEnt
  obtain ⟨j0, hj0, hy0, hy1, hy2⟩ := info_parts Tryz.infoEd
  obtain ⟨m0, hm0, hx0, hx1, hx2⟩ := info_parts Tryz.infoTrm
  have HI := hid hi
  have HJ := hid hj0
  have HM := hid hm0
  have HD := hid hd
  have HCP := hid hc
  obtain ⟨a', cap', hq, hrow⟩ := hd.row
  cases hq
  have HR := hid hrow
  have hb0 : Below w.heap.size w ((w.alloc (.cells #[.bool o, .slice a d.length cap] 25)).alloc (.cells #[.bool false, .slice none 0 0] 25)) := ((Below.refl _ _).alloc (Nat.le_refl _) _).alloc (by simp) _
  have HB0 := hid hb0
  have HQ0 : Hid (((w.alloc (.cells #[.bool o, .slice a d.length cap] 25)).alloc (.cells #[.bool false, .slice none 0 0] 25)).heap[w.heap.size]? = some (.cells #[.bool o, .slice a d.length cap] 25 (0, 0))) := hid ((Below.heap_alloc _ _ _ (by simp)).trans (heap_alloc_new w _))
  have HP0 : Hid (((w.alloc (.cells #[.bool o, .slice a d.length cap] 25)).alloc (.cells #[.bool false, .slice none 0 0] 25)).heap[w.heap.size + 1]? = some (.cells #[.bool false, .slice none 0 0] 25 (0, 0))) := hid (by have := heap_alloc_new (w.alloc (.cells #[.bool o, .slice a d.length cap] 25)) (.cells #[.bool false, .slice none 0 0] 25); simpa using this)
  clear hd hc hrow hi hj0 hm0 hb0
  go_enter Tryz.func9, Tryz.ntmps9
  go_wp2_with fail
  go_loopg [3, 4] d.length (fun g vl vi wr => ∃ (i : Nat) (p : Option Addr) (c : Nat) (out : List Ex), vi = .int .i64 i ∧ vl = .slice p out.length c ∧ i ≤ d.length ∧ d.length - i ≤ g ∧ Hid (out.length = i) ∧ Hid (RowSt KEx w.heap.size w (.slice p out.length c) out wr) ∧ Hid (out.map Ex.en = (d.take i).map Ex.en) ∧ Hid (∀ x ∈ out, OwnQ w.heap.size x wr) ∧ Hid (wr.heap[w.heap.size]? = some (.cells #[.bool o, .slice a d.length cap] 25 (0, 0))) ∧ Hid (wr.heap[w.heap.size + 1]? = some (.cells #[.bool false, .slice none 0 0] 25 (0, 0))))
  case atStart => exact ⟨0, none, 0, [], rfl, rfl, by omega, by omega, hid rfl, hid (RowSt.nil KEx HB0.out HB0.out.size), hid rfl, hid (fun x hx => by simp at hx), HQ0, HP0⟩
  case round =>
    obtain ⟨i, p, c, out, rfl, rfl, hi, hig, HOL, HS, HE, HO, HQ, HP⟩ := hrel
    have hol : out.length ≤ 1048576 := by have := HOL.out; omega
    have r2 : wr.cell? ⟨w.heap.size, 1, none⟩ = some (.slice a d.length cap) := by rw [Lib.cell_of_heap HQ.out]; rfl
    by_cases hlt : i < d.length
    · have hltz : (i : Int) < (d.length : Int) := by omega
      have hiz : (0 : Int) ≤ (i : Int) := by omega
      obtain ⟨b, off, rfl, hat⟩ : ∃ b off, a = some ⟨b, off, none⟩ ∧ KEx.At w b off d := by
        rcases HR.out with h | ⟨b, off, h1, h2⟩
        · rw [h] at hlt; simp at hlt
        · exact ⟨b, off, h1, h2⟩
      obtain ⟨y, hy⟩ : ∃ y, d[i]? = some y := ⟨_, List.getElem?_eq_getElem hlt⟩
      obtain ⟨c0, c1, c2, c3, c4, c5, c6, c7, c8, c9⟩ := row_cellsQ (Kind.at_kept hat HS.out.bel) i y hy
      simp only [Nat.add_zero] at c0
      have hmem := List.mem_of_getElem? hy
      have HY := hid (HD.out.each y hmem)
      obtain ⟨hcx, hce, hcm⟩ := HCP.out y hmem
      have HTK : Hid ((d.take (i + 1)).map Ex.en = (d.take i).map Ex.en ++ [y.en]) := hid (by
        obtain ⟨h1, h2⟩ := List.getElem?_eq_some_iff.1 hy
        rw [← h2, List.take_succ_eq_append_getElem h1, List.map_append]; rfl)
      obtain ⟨G, hG⟩ : ∃ G, wr.heap.size = G := ⟨_, rfl⟩
      obtain ⟨W1, hW1⟩ : ∃ W1, wr.alloc (.cells #[.int .i64 y.kind, .string y.temp, .string y.ka, .string y.kb, .int .i64 y.iff, .slice y.vp y.vo.length y.vc, .slice y.ep y.eo.length y.ec, .slice y.pp y.po.length y.pc, .int .u64 y.stamp, .int .i64 y.num] 42) = W1 := ⟨_, rfl⟩
      have hb1 : Below wr.heap.size wr W1 := by rw [← hW1]; exact (Below.refl _ _).alloc (Nat.le_refl _) _
      have HX1 : Hid (W1.heap[G]? = some (.cells #[.int .i64 y.kind, .string y.temp, .string y.ka, .string y.kb, .int .i64 y.iff, .slice y.vp y.vo.length y.vc, .slice y.ep y.eo.length y.ec, .slice y.pp y.po.length y.pc, .int .u64 y.stamp, .int .i64 y.num] 42 (0, 0))) := hid (by rw [← hW1, ← hG]; exact heap_alloc_new wr _)
      have HB1 := hid hb1
      have HF := hid (fields_any (.slice y.vp y.vo.length y.vc) y.vo W1 ((HY.out.on (HS.out.bel.trans (hb1.mono HS.out.base))).val) HY.out.fit hcx)
      have s0 : W1.cell? ⟨G, 5, none⟩ = some (.slice y.vp y.vo.length y.vc) := by rw [Lib.cell_of_heap HX1.out]; rfl
      clear hat hy hmem hcx hb1
      go_wp2_with fail
      try rw [hW1]
      clear hW1 c0 c1 c2 c3 c4 c5 c6 c7 c8 c9
      refine HF.out.mono ?_
      rintro e w2 ⟨u, fo, rfl, hoj, hfl, hb2⟩
      obtain ⟨up, uc, rfl⟩ := shapeX hoj.1
      have hG1 : G < W1.heap.size := (Array.getElem?_eq_some_iff.1 HX1.out).1
      have HX2 : Hid (w2.heap[G]? = some (.cells #[.int .i64 y.kind, .string y.temp, .string y.ka, .string y.kb, .int .i64 y.iff, .slice y.vp y.vo.length y.vc, .slice y.ep y.eo.length y.ec, .slice y.pp y.po.length y.pc, .int .u64 y.stamp, .int .i64 y.num] 42 (0, 0))) := hid ((hb2.block G hG1).trans HX1.out)
      have f5 := Lib.frozen_of_heap HX2.out 5
      have s5 : w2.cell? ⟨G, 5, none⟩ = some (.slice y.vp y.vo.length y.vc) := by rw [Lib.cell_of_heap HX2.out]; rfl
      obtain ⟨W3, hW3⟩ : ∃ W3, w2.setCell ⟨G, 5, none⟩ (.slice up fo.length uc) = W3 := ⟨_, rfl⟩
      have hfr3 : Fr (fun k => k = G) w2 W3 := by rw [← hW3]; exact fr_setE w2 G 5 _
      have HX3 : Hid (W3.heap[G]? = some (.cells #[.int .i64 y.kind, .string y.temp, .string y.ka, .string y.kb, .int .i64 y.iff, .slice up fo.length uc, .slice y.ep y.eo.length y.ec, .slice y.pp y.po.length y.pc, .int .u64 y.stamp, .int .i64 y.num] 42 (0, 0))) := hid (by rw [← hW3]; exact heap_setCell_same _ G 5 _ _ _ HX2.out)
      have hown1 : OwnQ w.heap.size ⟨y.kind, y.temp, y.ka, y.kb, y.iff, up, uc, fo, none, 0, [], none, 0, [], y.stamp, y.num⟩ w2 :=
        ⟨⟨own_weak hoj.1.1 (by have := HS.out.base; have := HB1.out.size; omega), fun x hx => own_weak (hoj.1.2 x hx) (by have := HS.out.base; have := HB1.out.size; omega)⟩, fit_same16 hfl HY.out.fit, Kind.own_nil _ _ _, (show FitE [] from fitE_may (by decide)), Kind.own_nil _ _ _, (show FitM [] from fitM_may (by decide)), ⟨HY.out.temp, HY.out.ka, HY.out.kb, HY.out.k0, HY.out.k1, HY.out.i0, HY.out.i1, HY.out.t0, HY.out.t1, HY.out.n0, HY.out.n1⟩⟩
      have HOW3 := hid (hown1.fr HX2.out hfr3)
      have HB3 : Hid (Below wr.heap.size wr W3) := hid ((HB1.out.trans (hb2.mono HB1.out.size)).trans (hfr3.below (by have := HB1.out.size; have := hb2.size; omega) fun k hk => by omega))
      have HBXW3 : Hid (∀ V, Below W3.heap.size W3 V → V.heap[G]? = some (.cells #[.int .i64 y.kind, .string y.temp, .string y.ka, .string y.kb, .int .i64 y.iff, .slice up fo.length uc, .slice y.ep y.eo.length y.ec, .slice y.pp y.po.length y.pc, .int .u64 y.stamp, .int .i64 y.num] 42 (0, 0))) := hid fun V hV => (hV.block G (Array.getElem?_eq_some_iff.1 HX3.out).1).trans HX3.out
      have HBWW3 : Hid (∀ V, Below W3.heap.size W3 V → Below w.heap.size w V) := hid fun V hV => (HS.out.bel.trans (HB3.out.mono HS.out.base)).trans (hV.mono (by have := HS.out.base; have := HB3.out.size; omega))
      have HFL := hid hfl
      have HRSO : Hid (∀ V, Below G wr V → RowSt KEx w.heap.size w (.slice p out.length c) out V ∧ (∀ x ∈ out, OwnQ w.heap.size x V) ∧ V.heap[w.heap.size]? = some (.cells #[.bool o, .slice (some ⟨b, off, none⟩) d.length cap] 25 (0, 0)) ∧ V.heap[w.heap.size + 1]? = some (.cells #[.bool false, .slice none 0 0] 25 (0, 0))) := hid fun V hV => by
        rw [← hG] at hV
        exact ⟨HS.out.on hV, fun x hx => (HO.out x hx).on hV, (hV.block _ (Array.getElem?_eq_some_iff.1 HQ.out).1).trans HQ.out, (hV.block _ (Array.getElem?_eq_some_iff.1 HP.out).1).trans HP.out⟩
      have HBG : Hid (∀ V, Below W3.heap.size W3 V → Below G wr V) := hid fun V hV => by
        rw [← hG]
        exact HB3.out.trans (hV.mono HB3.out.size)
      have hbase := HS.out.base
      have hsz3 := HB3.out.size
      have hwG : w.heap.size ≤ G := by omega
      have hG3 : w.heap.size ≤ W3.heap.size := by omega
      clear hoj hfl hb2 hown1 hfr3
      go_wp2_with fail
      try rw [hW3]
      clear hW3 f5 s5
      go_loopg [6, 7] y.eo.length (fun g vr vj ws => ∃ (j : Nat) (p : Option Addr) (c : Nat), vj = .int .i64 j ∧ vr = .slice p (y.eo.take j).length c ∧ j ≤ y.eo.length ∧ y.eo.length - j ≤ g ∧ Hid (RowSt KE W3.heap.size W3 (.slice p (y.eo.take j).length c) (y.eo.take j) ws))
      case atStart => exact ⟨0, none, 0, rfl, rfl, by omega, by omega, hid (by simpa using RowSt.nil KE (Below.refl _ _) (Nat.le_refl _))⟩
      case round =>
        obtain ⟨j, p, c, rfl, rfl, hj, hjg, HS⟩ := hrel
        have hbx := HBXW3.out _ HS.out.bel
        have t6 : wr.cell? ⟨G, 6, none⟩ = some (.slice y.ep y.eo.length y.ec) := cz hbx
        clear hbx
        by_cases hlt : j < y.eo.length
        · have hltz : (j : Int) < (y.eo.length : Int) := by omega
          have hjz : (0 : Int) ≤ (j : Int) := by omega
          obtain ⟨b2, off2, hpe, hat2⟩ : ∃ b2 off2, y.ep = some ⟨b2, off2, none⟩ ∧ KE.At w b2 off2 y.eo := by
            obtain ⟨p', c', he, hh⟩ := HY.out.eds
            have he' : (Value.slice y.ep y.eo.length y.ec) = .slice p' y.eo.length c' := he
            injection he' with h1 h2 h3
            subst h1
            rcases hh with h | ⟨b, o', h1, h2⟩
            · rw [h] at hlt; simp at hlt
            · exact ⟨b, o', h1, h2⟩
          rw [hpe] at t6
          obtain ⟨g0, g1, g2⟩ := ke_cells (Kind.at_kept hat2 (HBWW3.out _ HS.out.bel)) j hlt
          obtain ⟨e, he⟩ : ∃ e, y.eo[j] = e := ⟨_, rfl⟩
          rw [he] at g0 g1 g2
          have HTK : Hid (y.eo.take (j + 1) = y.eo.take j ++ [e]) := hid (by rw [← he]; exact List.take_succ_eq_append_getElem hlt)
          have hlj : (y.eo.take j).length = j := by rw [List.length_take]; omega
          obtain ⟨e0, e1, e2⟩ := e
          clear he hat2 hpe
          have HN1 : Hid ((wr.alloc (.cells (KE.enc (e0, e1, e2)).toArray 47)).heap[wr.heap.size]? = some (.cells (KE.enc (e0, e1, e2)).toArray 47 (0, 0))) := hid (heap_alloc_new wr _)
          have HO1 := hid (HS.out.on ((Below.refl wr.heap.size wr).alloc (Nat.le_refl _) (.cells (KE.enc (e0, e1, e2)).toArray 47)))
          rw [hlj] at HO1 ⊢
          go_wp2_with (at_builtin; refine wpList_push KE rfl _ _ 38 rfl j0 _ 40 Tryz.underlying38 HJ.out hy0 hy1 hy2 rfl W3.heap.size W3 _ (y.eo.take j) rfl HO1.out (e0, e1, e2) _ _ _ rfl rfl _ _ HN1.out (by rw [hlj]; unfold maxLen; omega) (by rw [hlj]; omega) ?_
                       intro g3 c3 w3 hst3 _ _
                       have HS3 := hid hst3
                       clear hst3)
          go_roundg (y.eo.length - (j + 1))
          case measure => omega
          exact ⟨j + 1, some ⟨g3, 0, none⟩, c3, by go_num, by rw [HTK.out, List.length_append, hlj]; rfl, by omega, by omega, by rw [HTK.out, List.length_append]; exact HS3⟩
        · have hltz : ¬ (j : Int) < (y.eo.length : Int) := by omega
          obtain rfl : j = y.eo.length := by omega
          rw [List.take_length] at HS ⊢
          obtain ⟨pe, hnp⟩ : ∃ q, p = q := ⟨_, rfl⟩
          obtain ⟨ce, hnc⟩ : ∃ q, c = q := ⟨_, rfl⟩
          rw [hnp, hnc] at HS ⊢
          clear hnp hnc
          obtain ⟨W4, hW4⟩ : ∃ W4, wr = W4 := ⟨_, rfl⟩
          rw [hW4] at HS t6 ⊢
          have HSE := HS
          have HX4 : Hid (W4.heap[G]? = some (.cells #[.int .i64 y.kind, .string y.temp, .string y.ka, .string y.kb, .int .i64 y.iff, .slice up fo.length uc, .slice y.ep y.eo.length y.ec, .slice y.pp y.po.length y.pc, .int .u64 y.stamp, .int .i64 y.num] 42 (0, 0))) := hid (HBXW3.out _ HSE.out.bel)
          have HBXW4 : Hid (∀ V, Below W4.heap.size W4 V → V.heap[G]? = some (.cells #[.int .i64 y.kind, .string y.temp, .string y.ka, .string y.kb, .int .i64 y.iff, .slice up fo.length uc, .slice y.ep y.eo.length y.ec, .slice y.pp y.po.length y.pc, .int .u64 y.stamp, .int .i64 y.num] 42 (0, 0))) := hid fun V hV => (hV.block G (Array.getElem?_eq_some_iff.1 HX4.out).1).trans HX4.out
          have HBWW4 : Hid (∀ V, Below W4.heap.size W4 V → Below w.heap.size w V) := hid fun V hV => HBWW3.out V (HSE.out.bel.trans (hV.mono HSE.out.base))
          have hsz4 := HSE.out.base
          clear HS hW4
          go_wp2_with fail
          clear t6
          go_loopg [8, 9] y.po.length (fun g vr vj ws => ∃ (j : Nat) (p : Option Addr) (c : Nat), vj = .int .i64 j ∧ vr = .slice p (y.po.take j).length c ∧ j ≤ y.po.length ∧ y.po.length - j ≤ g ∧ Hid (RowSt KM W4.heap.size W4 (.slice p (y.po.take j).length c) (y.po.take j) ws))
          case atStart => exact ⟨0, none, 0, rfl, rfl, by omega, by omega, hid (by simpa using RowSt.nil KM (Below.refl _ _) (Nat.le_refl _))⟩
          case round =>
            obtain ⟨j, p, c, rfl, rfl, hj, hjg, HS⟩ := hrel
            have hbx := HBXW4.out _ HS.out.bel
            have t6 : wr.cell? ⟨G, 7, none⟩ = some (.slice y.pp y.po.length y.pc) := cz hbx
            clear hbx
            by_cases hlt : j < y.po.length
            · have hltz : (j : Int) < (y.po.length : Int) := by omega
              have hjz : (0 : Int) ≤ (j : Int) := by omega
              obtain ⟨b2, off2, hpe, hat2⟩ : ∃ b2 off2, y.pp = some ⟨b2, off2, none⟩ ∧ KM.At w b2 off2 y.po := by
                obtain ⟨p', c', he, hh⟩ := HY.out.prd
                have he' : (Value.slice y.pp y.po.length y.pc) = .slice p' y.po.length c' := he
                injection he' with h1 h2 h3
                subst h1
                rcases hh with h | ⟨b, o', h1, h2⟩
                · rw [h] at hlt; simp at hlt
                · exact ⟨b, o', h1, h2⟩
              rw [hpe] at t6
              obtain ⟨g0, g1, g2⟩ := km_cells (Kind.at_kept hat2 (HBWW4.out _ HS.out.bel)) j hlt
              obtain ⟨e, he⟩ : ∃ e, y.po[j] = e := ⟨_, rfl⟩
              rw [he] at g0 g1 g2
              have HTK : Hid (y.po.take (j + 1) = y.po.take j ++ [e]) := hid (by rw [← he]; exact List.take_succ_eq_append_getElem hlt)
              have hlj : (y.po.take j).length = j := by rw [List.length_take]; omega
              obtain ⟨e0, e1, e2⟩ := e
              clear he hat2 hpe
              have HN1 : Hid ((wr.alloc (.cells (KM.enc (e0, e1, e2)).toArray 49)).heap[wr.heap.size]? = some (.cells (KM.enc (e0, e1, e2)).toArray 49 (0, 0))) := hid (heap_alloc_new wr _)
              have HO1 := hid (HS.out.on ((Below.refl wr.heap.size wr).alloc (Nat.le_refl _) (.cells (KM.enc (e0, e1, e2)).toArray 49)))
              rw [hlj] at HO1 ⊢
              go_wp2_with (at_builtin; refine wpList_push KM rfl _ _ 39 rfl m0 _ 40 Tryz.underlying39 HM.out hx0 hx1 hx2 rfl W4.heap.size W4 _ (y.po.take j) rfl HO1.out (e0, e1, e2) _ _ _ rfl rfl _ _ HN1.out (by rw [hlj]; unfold maxLen; omega) (by rw [hlj]; omega) ?_
                           intro g3 c3 w3 hst3 _ _
                           have HS3 := hid hst3
                           clear hst3)
              go_roundg (y.po.length - (j + 1))
              case measure => omega
              exact ⟨j + 1, some ⟨g3, 0, none⟩, c3, by go_num, by rw [HTK.out, List.length_append, hlj]; rfl, by omega, by omega, by rw [HTK.out, List.length_append]; exact HS3⟩
            · have hltz : ¬ (j : Int) < (y.po.length : Int) := by omega
              obtain rfl : j = y.po.length := by omega
              rw [List.take_length] at HS ⊢
              obtain ⟨pm, hnp⟩ : ∃ q, p = q := ⟨_, rfl⟩
              obtain ⟨cm, hnc⟩ : ∃ q, c = q := ⟨_, rfl⟩
              rw [hnp, hnc] at HS ⊢
              clear hnp hnc
              obtain ⟨W5, hW5⟩ : ∃ W5, wr = W5 := ⟨_, rfl⟩
              rw [hW5] at HS ⊢
              have HST := HS
              clear HS hW5 t6
              have b35 : Below W3.heap.size W3 W5 := HSE.out.bel.trans (HST.out.bel.mono HSE.out.base)
              have hx5 := HBXW3.out _ b35
              have HX5 := hid hx5
              have g5 : ∀ k, W5.frozen? ⟨G, k, none⟩ = false := fun k => Lib.frozen_of_heap HX5.out k
              have f6 := g5 6
              have f7 := g5 7
              have s6 : W5.cell? ⟨G, 6, none⟩ = some (.slice y.ep y.eo.length y.ec) := by rw [Lib.cell_of_heap HX5.out]; rfl
              have s7 : W5.cell? ⟨G, 7, none⟩ = some (.slice y.pp y.po.length y.pc) := by rw [Lib.cell_of_heap HX5.out]; rfl
              obtain ⟨z, hz⟩ : ∃ z : Ex, z = ⟨y.kind, y.temp, y.ka, y.kb, y.iff, up, uc, fo, pe, ce, y.eo, pm, cm, y.po, y.stamp, y.num⟩ := ⟨_, rfl⟩
              have hown5 : OwnQ w.heap.size z W5 := by
                rw [hz]
                have h3 := HOW3.out.on b35
                exact ⟨h3.val, h3.fit, Kind.own_weak (Kind.own_on HSE.out.own HST.out.bel) hG3, HY.out.efit, Kind.own_weak HST.out.own (by omega), HY.out.pfit, ⟨h3.rng.temp, h3.rng.ka, h3.rng.kb, h3.rng.k0, h3.rng.k1, h3.rng.i0, h3.rng.i1, h3.rng.t0, h3.rng.t1, h3.rng.n0, h3.rng.n1⟩⟩
              obtain ⟨W6, hW6⟩ : ∃ W6, (W5.setCell ⟨G, 6, none⟩ (.slice pe y.eo.length ce)).setCell ⟨G, 7, none⟩ (.slice pm y.po.length cm) = W6 := ⟨_, rfl⟩
              have hfr6 : Fr (fun k => k = G) W5 W6 := by rw [← hW6]; exact (fr_setE W5 G 6 _).then (fr_setE _ G 7 _) fun k hk => Or.inl hk
              have HX6 : Hid (W6.heap[G]? = some (.cells #[.int .i64 y.kind, .string y.temp, .string y.ka, .string y.kb, .int .i64 y.iff, .slice up fo.length uc, .slice pe y.eo.length ce, .slice pm y.po.length cm, .int .u64 y.stamp, .int .i64 y.num] 42 (0, 0))) := hid (by
                rw [← hW6]
                exact heap_setCell_same _ G 7 _ _ _ (heap_setCell_same _ G 6 _ _ _ HX5.out))
              have HOW6 := hid (hown5.fr HX5.out hfr6)
              have hb6 : Below G _ W6 := (HBG.out _ b35).trans (hfr6.below (by have := b35.size; omega) fun k hk => by omega)
              have HR6 := hid (HRSO.out _ hb6)
              obtain ⟨d0, d1, d2, d3, d4, d5, d6, d7, d8, d9⟩ : W6.cell? ⟨G, 0, none⟩ = some (.int .i64 y.kind) ∧ W6.cell? ⟨G, 1, none⟩ = some (.string y.temp) ∧ W6.cell? ⟨G, 2, none⟩ = some (.string y.ka) ∧ W6.cell? ⟨G, 3, none⟩ = some (.string y.kb) ∧ W6.cell? ⟨G, 4, none⟩ = some (.int .i64 y.iff) ∧ W6.cell? ⟨G, 5, none⟩ = some (.slice up fo.length uc) ∧ W6.cell? ⟨G, 6, none⟩ = some (.slice pe y.eo.length ce) ∧ W6.cell? ⟨G, 7, none⟩ = some (.slice pm y.po.length cm) ∧ W6.cell? ⟨G, 8, none⟩ = some (.int .u64 y.stamp) ∧ W6.cell? ⟨G, 9, none⟩ = some (.int .i64 y.num) := by
                refine ⟨?_, ?_, ?_, ?_, ?_, ?_, ?_, ?_, ?_, ?_⟩ <;> (rw [Lib.cell_of_heap HX6.out]; rfl)
              have hzen : z.en = y.en := by
                rw [hz]
                show (⟨y.kind, y.temp, y.ka, y.kb, y.iff, fo.map Fx.fld, y.eo, y.po, y.stamp, y.num⟩ : En) = y.en
                rw [HFL.out]; rfl
              have HZE := hid hzen
              have henc : (KEx.enc z).toArray = #[.int .i64 y.kind, .string y.temp, .string y.ka, .string y.kb, .int .i64 y.iff, .slice up fo.length uc, .slice pe y.eo.length ce, .slice pm y.po.length cm, .int .u64 y.stamp, .int .i64 y.num] := by rw [hz]; rfl
              have HN7 : Hid ((W6.alloc (.cells #[.int .i64 y.kind, .string y.temp, .string y.ka, .string y.kb, .int .i64 y.iff, .slice up fo.length uc, .slice pe y.eo.length ce, .slice pm y.po.length cm, .int .u64 y.stamp, .int .i64 y.num] 42)).heap[W6.heap.size]? = some (.cells (KEx.enc z).toArray 42 (0, 0))) := hid (by rw [henc]; exact heap_alloc_new W6 _)
              have hb7 : Below W6.heap.size W6 (W6.alloc (.cells #[.int .i64 y.kind, .string y.temp, .string y.ka, .string y.kb, .int .i64 y.iff, .slice up fo.length uc, .slice pe y.eo.length ce, .slice pm y.po.length cm, .int .u64 y.stamp, .int .i64 y.num] 42)) := (Below.refl _ _).alloc (Nat.le_refl _) _
              have HR7 := hid (HR6.out.1.on hb7)
              have HO7 : Hid (∀ x ∈ out ++ [z], OwnQ w.heap.size x (W6.alloc (.cells #[.int .i64 y.kind, .string y.temp, .string y.ka, .string y.kb, .int .i64 y.iff, .slice up fo.length uc, .slice pe y.eo.length ce, .slice pm y.po.length cm, .int .u64 y.stamp, .int .i64 y.num] 42))) := hid fun x hx => by
                rcases List.mem_append.1 hx with h | h
                · exact (HR6.out.2.1 x h).on hb7
                · rw [List.mem_singleton] at h
                  subst h
                  exact HOW6.out.on hb7
              have HQ7 : Hid ((W6.alloc (.cells #[.int .i64 y.kind, .string y.temp, .string y.ka, .string y.kb, .int .i64 y.iff, .slice up fo.length uc, .slice pe y.eo.length ce, .slice pm y.po.length cm, .int .u64 y.stamp, .int .i64 y.num] 42)).heap[w.heap.size]? = some (.cells #[.bool o, .slice (some ⟨b, off, none⟩) d.length cap] 25 (0, 0))) := hid ((hb7.block _ (Array.getElem?_eq_some_iff.1 HR6.out.2.2.1).1).trans HR6.out.2.2.1)
              have HP7 : Hid ((W6.alloc (.cells #[.int .i64 y.kind, .string y.temp, .string y.ka, .string y.kb, .int .i64 y.iff, .slice up fo.length uc, .slice pe y.eo.length ce, .slice pm y.po.length cm, .int .u64 y.stamp, .int .i64 y.num] 42)).heap[w.heap.size + 1]? = some (.cells #[.bool false, .slice none 0 0] 25 (0, 0))) := hid ((hb7.block _ (Array.getElem?_eq_some_iff.1 HR6.out.2.2.2).1).trans HR6.out.2.2.2)
              clear hx5 g5 hown5 hfr6 hb6 hzen henc hb7 b35 hz
              go_upto_region 18 with fail
              try rw [hW6]
              clear hW6 f6 f7 s6 s7
              go_wp2_with (at_builtin; refine wpList_push KEx rfl _ _ 23 rfl i0 _ 152 Tryz.underlying23 HI.out hz0 hz1 hz2 rfl w.heap.size w _ out rfl HR7.out z _ _ _ rfl rfl _ _ HN7.out (by unfold maxLen; omega) (by omega) ?_
                           intro g3 c3 w3 hst3 hg3 _
                           have HS8 := hid hst3
                           have HG8 := hid hg3
                           clear hst3 hg3)
              go_roundg (d.length - (i + 1))
              case measure => omega
              refine ⟨i + 1, some ⟨g3, 0, none⟩, c3, out ++ [z], by go_num, by rw [List.length_append]; rfl, by omega, by omega, hid (by rw [List.length_append, HOL.out]; rfl), by rw [List.length_append]; exact HS8, hid ?_, hid fun x hx => (HO7.out x hx).grown HR7.out.own HG8.out, hid (box2_kept HQ7.out HG8.out HR7.out.own (by decide)), hid (box2_kept HP7.out HG8.out HR7.out.own (by decide))⟩
              rw [HTK.out, List.map_append, HE.out, List.map_cons, List.map_nil, HZE.out]
    · have hltz : ¬ (i : Int) < (d.length : Int) := by omega
      have HE2 : Hid (out.map Ex.en = d.map Ex.en) := hid (by have := HE.out; rw [List.take_of_length_le (by omega)] at this; exact this)
      have r1 : wr.cell? ⟨w.heap.size, 0, none⟩ = some (.bool o) := by rw [Lib.cell_of_heap HQ.out]; rfl
      obtain ⟨x0, x1, x2, x3⟩ := two_facts HP.out
      obtain ⟨W6, hW6⟩ : ∃ W6, (wr.setCell ⟨w.heap.size + 1, 0, none⟩ (.bool o)).setCell ⟨w.heap.size + 1, 1, none⟩ (.slice p out.length c) = W6 := ⟨_, rfl⟩
      have hfr6 : Fr (fun k => k = w.heap.size + 1) wr W6 := by rw [← hW6]; exact (fr_setE wr _ 0 _).then (fr_setE _ _ 1 _) fun k hk => Or.inl hk
      have HX6 : Hid (W6.heap[w.heap.size + 1]? = some (.cells #[.bool o, .slice p out.length c] 25 (0, 0))) := hid (by
        rw [← hW6]
        exact heap_setCell_same _ _ 1 _ _ _ (heap_setCell_same _ _ 0 _ _ _ HP.out))
      have HF6 : Hid (CpPost o d w (.returned (.agg #[.bool o, .slice p out.length c])) W6) := hid ⟨p, out, c, rfl, HE2.out, hfr6.row (show wr.ownsRow w.heap.size KEx.T KEx.k (.slice p out.length c) out.length (KEx.cells out) from HS.out.own) (row_box (show wr.ownsRow w.heap.size KEx.T KEx.k (.slice p out.length c) out.length (KEx.cells out) from HS.out.own) HP.out (by decide)), fun x hx => (HO.out x hx).frT HP.out (by decide) (by decide) (by decide) (by decide) hfr6, HS.out.bel.trans (hfr6.below HS.out.base fun k hk => by omega)⟩
      obtain ⟨v0, v1, _, _⟩ := two_facts HX6.out
      go_wp2_with fail
      try rw [hW6]
      clear hW6 hfr6
      exact bodyPost_ret (v := .agg #[.bool o, .slice p out.length c]) (by simp [results, Tryz.results9, go_sem, v0, v1]) rfl HF6.out
end
section
open Go.RowKit Go.Lib
theorem rstamp16_any (p:Option Addr) (cap:Nat) (ws:List ByteArray) (i:Nat) (w:World) (ht:TxtAt w p ws) (hs:∀x∈ws,x.size≤1000000000000) (hi:i≤1000000000001) :
  Calls Tryz.prog 40 #[.slice p ws.length cap,.int .i64 i] w fun e w'=>e=.returned (numV (stampR ((ws.map (·.data.toList))[i]?)))∧w'=w:=by
 by_cases h:i<ws.length
 ·have hltz:(i:Int)<(ws.length:Int):=by omega
  have hz:¬ (ws.length:Int)≤(i:Int):=by omega
  have hiz:(0:Int)≤(i:Int):=by omega
  have HR:Hid (stampR ((ws.map (·.data.toList))[i]?)=numL 18446744073709551615 (ws[i]).data.toList):=by
   show _=_
   rw [List.getElem?_map,List.getElem?_eq_getElem h]
   rfl
  rcases ht with hn|⟨b,off,rfl,hc⟩
  ·rw [hn] at h;simp at h
  have c0:=hc i h
  have HC:=hid (rnum16_any ws[i] 18446744073709551615 w (by omega) (by have:=hs _ (List.getElem_mem h);unfold maxLen;omega))
  clear hs hc
  obtain ⟨x,hx⟩:∃x,ws[i]=x:=⟨_,rfl⟩
  rw [hx] at c0 HR HC
  obtain ⟨o,ho⟩:∃o,numL 18446744073709551615 x.data.toList=o:=⟨_,rfl⟩
  rw [ho] at HR HC
  unfold numV at HC
  clear hx ho
  go_enter Tryz.func40,Tryz.ntmps40
  go_wp2_with (first|(go_at_call 77;refine HC.out.mono ?_;rintro e w1 ⟨rfl,rfl⟩))
  go_ret2
  rw [HR.out]
  exact ⟨rfl,rfl⟩
 ·have hz:(ws.length:Int)≤(i:Int):=by omega
  have HR:Hid (stampR ((ws.map (·.data.toList))[i]?)=none):=by
   show _=_
   rw [List.getElem?_eq_none (by rw [List.length_map];omega)]
   rfl
  clear hs ht h
  go_enter Tryz.func40,Tryz.ntmps40
  go_wp2_with fail
  go_ret2
  rw [HR.out]
  exact ⟨rfl,rfl⟩
theorem rsmall16_any (p:Option Addr) (cap:Nat) (ws:List ByteArray) (i:Nat) (w:World) (ht:TxtAt w p ws) (hs:∀x∈ws,x.size≤1000000000000) (hi:i≤1000000000001) :
  Calls Tryz.prog 42 #[.slice p ws.length cap,.int .i64 i] w fun e w'=>e=.returned (numV (smallR ((ws.map (·.data.toList))[i]?)))∧w'=w:=by
 by_cases h:i<ws.length
 ·have hltz:(i:Int)<(ws.length:Int):=by omega
  have hz:¬ (ws.length:Int)≤(i:Int):=by omega
  have hiz:(0:Int)≤(i:Int):=by omega
  have HR:Hid (smallR ((ws.map (·.data.toList))[i]?)=numL 999999999 (ws[i]).data.toList):=by
   show _=_
   rw [List.getElem?_map,List.getElem?_eq_getElem h]
   rfl
  rcases ht with hn|⟨b,off,rfl,hc⟩
  ·rw [hn] at h;simp at h
  have c0:=hc i h
  have HC:=hid (rnum16_any ws[i] 999999999 w (by omega) (by have:=hs _ (List.getElem_mem h);unfold maxLen;omega))
  clear hs hc
  obtain ⟨x,hx⟩:∃x,ws[i]=x:=⟨_,rfl⟩
  rw [hx] at c0 HR HC
  obtain ⟨o,ho⟩:∃o,numL 999999999 x.data.toList=o:=⟨_,rfl⟩
  rw [ho] at HR HC
  unfold numV at HC
  clear hx ho
  go_enter Tryz.func42,Tryz.ntmps42
  go_wp2_with (first|(go_at_call 77;refine HC.out.mono ?_;rintro e w1 ⟨rfl,rfl⟩))
  go_ret2
  rw [HR.out]
  exact ⟨rfl,rfl⟩
 ·have hz:(ws.length:Int)≤(i:Int):=by omega
  have HR:Hid (smallR ((ws.map (·.data.toList))[i]?)=none):=by
   show _=_
   rw [List.getElem?_eq_none (by rw [List.length_map];omega)]
   rfl
  clear hs ht h
  go_enter Tryz.func42,Tryz.ntmps42
  go_wp2_with fail
  go_ret2
  rw [HR.out]
  exact ⟨rfl,rfl⟩
end
section
open Go.RowKit Go.Lib
def bareX (k:Int) (tp ka kb:ByteArray) (fi st nm:Int):Ex:=⟨k,tp,ka,kb,fi,none,0,[],none,0,[],none,0,[],st,nm⟩
def EnR (w:World) (o:Option En) (e:Ending) (w':World):Prop :=
 (∃(y:Ex) (ok:Bool),e=.returned (.tuple #[aggEx y,.bool ok])∧(ok=true→OwnQ w.heap.size y w')∧o=if ok=true then some y.en else none)∧Below w.heap.size w w'
theorem pw_val {w w':World} {ls:List (List UInt8)} {e:Ending} (h:PwPost w ls e w'):∃(up:Option Addr) (uc:Nat) (fo:List Fx) (c:Int),e=.returned (.tuple #[.slice up fo.length uc,.int .i64 c])∧OwnXs w.heap.size w' (.slice up fo.length uc) fo∧FitX fo∧valR ls=(if c=0 then some (fo.map Fx.fld) else none)∧Below w.heap.size w w':=by
 obtain ⟨h|⟨fs,hfs,u,o,he,ho,hm⟩,hb⟩:=h
 ·exact ⟨none,0,[],4,h.2,(own_noneX _ _).1,⟨Nat.zero_le _,fun x hx=>by simp at hx⟩,by unfold valR;rw [h.1];rfl,hb⟩
 ·obtain ⟨up,uc,rfl⟩:=shapeX ho
  refine ⟨up,uc,o,codeF fs,he,ho,ans_fit hm,?_,hb⟩
  unfold valR
  rw [hfs,Option.bind_some,hm]
theorem tw_prd {w w':World} {ls:List (List UInt8)} {e:Ending} (h:TWPost w (termsW ls) e w'):∃(up:Option Addr) (uc:Nat) (po:List Tm) (c:Int),e=.returned (.tuple #[.slice up po.length uc,.int .i64 c])∧KM.Own w.heap.size w' (.slice up po.length uc) po∧FitM po∧prdR ls=(if c=0 then some po else none)∧Below w.heap.size w w':=by
 obtain ⟨⟨u,he,ho⟩,hb⟩:=h
 obtain ⟨up,uc,rfl⟩:=Kind.own_shape ho
 exact ⟨up,uc,_,_,he,ho,fitM_ans _,rfl,hb⟩
theorem ew_eds {w w':World} {ls:List (List UInt8)} {e:Ending} (h:EWPost w (editsW ls) e w'):∃(up:Option Addr) (uc:Nat) (eo:List Ed) (c:Int),e=.returned (.tuple #[.slice up eo.length uc,.int .i64 c])∧KE.Own w.heap.size w' (.slice up eo.length uc) eo∧FitE eo∧edsR ls=(if c=0 then some eo else none)∧Below w.heap.size w w':=by
 obtain ⟨⟨u,he,ho⟩,hb⟩:=h
 obtain ⟨up,uc,rfl⟩:=Kind.own_shape ho
 exact ⟨up,uc,_,_,he,ho,fitE_ans _,rfl,hb⟩
structure RsSt (w:World) (B R:Nat) (V:World) (y:Ex):Prop where
 box:V.heap[B]? = some (.cells #[.int .i64 y.kind,.string y.temp,.string y.ka,.string y.kb,.int .i64 y.iff,.slice y.vp y.vo.length y.vc,.slice y.ep y.eo.length y.ec,.slice y.pp y.po.length y.pc,.int .u64 y.stamp,.int .i64 y.num] 42 (0,0))
 res:V.heap[R]? = some (.cells #[.int .i64 0,.string ⟨#[]⟩,.string ⟨#[]⟩,.string ⟨#[]⟩,.int .i64 0,.slice none 0 0,.slice none 0 0,.slice none 0 0,.int .u64 0,.int .i64 0] 42 (0,0))
 own:OwnQ w.heap.size y V
 bel:Below w.heap.size w V
 hB:w.heap.size≤B
 hR:w.heap.size≤R
 hne:B≠R
section
variable {w V:World} {B R:Nat} {y z:Ex}
theorem RsSt.size (h:RsSt w B R V y):B<V.heap.size∧R<V.heap.size:=⟨(Array.getElem?_eq_some_iff.1 h.box).1,(Array.getElem?_eq_some_iff.1 h.res).1⟩
theorem RsSt.on {V1:World} (h:RsSt w B R V y) (hb:Below V.heap.size V V1):RsSt w B R V1 y :=
 ⟨(hb.block _ h.size.1).trans h.box,(hb.block _ h.size.2).trans h.res,h.own.on hb,h.bel.trans (hb.mono h.bel.size),h.hB,h.hR,h.hne⟩
theorem RsSt.turn (h:RsSt w B R V y) (i:Nat) (u:Value) (ho:OwnQ w.heap.size z V) (he:#[.int .i64 z.kind,.string z.temp,.string z.ka,.string z.kb,.int .i64 z.iff,.slice z.vp z.vo.length z.vc,.slice z.ep z.eo.length z.ec,.slice z.pp z.po.length z.pc,.int .u64 z.stamp,.int .i64 z.num]=(#[.int .i64 y.kind,.string y.temp,.string y.ka,.string y.kb,.int .i64 y.iff,.slice y.vp y.vo.length y.vc,.slice y.ep y.eo.length y.ec,.slice y.pp y.po.length y.pc,.int .u64 y.stamp,.int .i64 y.num]).setIfInBounds i u):RsSt w B R (V.setCell ⟨B,i,none⟩ u) z:=by
 have f:=fr_setE V B i u
 refine ⟨by rw [he];exact heap_setCell_same _ _ i _ _ _ h.box,(heap_setCell_other _ _ _ _ (by show R≠B;exact fun q=>h.hne q.symm)).trans h.res,ho.fr h.box f,h.bel.trans (f.below h.bel.size fun k hk=>by rw [hk];exact h.hB),h.hB,h.hR,h.hne⟩
theorem RsSt.cells (h:RsSt w B R V y):V.cell? ⟨B,0,none⟩=some (.int .i64 y.kind)∧V.cell? ⟨B,1,none⟩=some (.string y.temp)∧V.cell? ⟨B,2,none⟩=some (.string y.ka)∧V.cell? ⟨B,3,none⟩=some (.string y.kb)∧V.cell? ⟨B,4,none⟩=some (.int .i64 y.iff)∧V.cell? ⟨B,5,none⟩=some (.slice y.vp y.vo.length y.vc)∧V.cell? ⟨B,6,none⟩=some (.slice y.ep y.eo.length y.ec)∧V.cell? ⟨B,7,none⟩=some (.slice y.pp y.po.length y.pc)∧V.cell? ⟨B,8,none⟩=some (.int .u64 y.stamp)∧V.cell? ⟨B,9,none⟩=some (.int .i64 y.num):=by
 refine ⟨?_,?_,?_,?_,?_,?_,?_,?_,?_,?_⟩<;>(rw [Lib.cell_of_heap h.box];rfl)
theorem RsSt.outs (h:RsSt w B R V y):V.cell? ⟨R,0,none⟩=some (.int .i64 0)∧V.cell? ⟨R,1,none⟩=some (.string ⟨#[]⟩)∧V.cell? ⟨R,2,none⟩=some (.string ⟨#[]⟩)∧V.cell? ⟨R,3,none⟩=some (.string ⟨#[]⟩)∧V.cell? ⟨R,4,none⟩=some (.int .i64 0)∧V.cell? ⟨R,5,none⟩=some (.slice none 0 0)∧V.cell? ⟨R,6,none⟩=some (.slice none 0 0)∧V.cell? ⟨R,7,none⟩=some (.slice none 0 0)∧V.cell? ⟨R,8,none⟩=some (.int .u64 0)∧V.cell? ⟨R,9,none⟩=some (.int .i64 0):=by
 refine ⟨?_,?_,?_,?_,?_,?_,?_,?_,?_,?_⟩<;>(rw [Lib.cell_of_heap h.res];rfl)
theorem RsSt.free (h:RsSt w B R V y) (i:Nat):V.frozen? ⟨R,i,none⟩=false:=Lib.frozen_of_heap h.res i
theorem RsSt.open (h:RsSt w B R V y) (i:Nat):V.frozen? ⟨B,i,none⟩=false:=Lib.frozen_of_heap h.box i
theorem RsSt.fin (h:RsSt w B R V y) (W:World) (hW:((((((((((V.setCell ⟨R,0,none⟩ (.int .i64 y.kind)).setCell ⟨R,1,none⟩ (.string y.temp)).setCell ⟨R,2,none⟩ (.string y.ka)).setCell ⟨R,3,none⟩ (.string y.kb)).setCell ⟨R,4,none⟩ (.int .i64 y.iff)).setCell ⟨R,5,none⟩ (.slice y.vp y.vo.length y.vc)).setCell ⟨R,6,none⟩ (.slice y.ep y.eo.length y.ec)).setCell ⟨R,7,none⟩ (.slice y.pp y.po.length y.pc)).setCell ⟨R,8,none⟩ (.int .u64 y.stamp)).setCell ⟨R,9,none⟩ (.int .i64 y.num))=W):(W.cell? ⟨R,0,none⟩=some (.int .i64 y.kind)∧W.cell? ⟨R,1,none⟩=some (.string y.temp)∧W.cell? ⟨R,2,none⟩=some (.string y.ka)∧W.cell? ⟨R,3,none⟩=some (.string y.kb)∧W.cell? ⟨R,4,none⟩=some (.int .i64 y.iff)∧W.cell? ⟨R,5,none⟩=some (.slice y.vp y.vo.length y.vc)∧W.cell? ⟨R,6,none⟩=some (.slice y.ep y.eo.length y.ec)∧W.cell? ⟨R,7,none⟩=some (.slice y.pp y.po.length y.pc)∧W.cell? ⟨R,8,none⟩=some (.int .u64 y.stamp)∧W.cell? ⟨R,9,none⟩=some (.int .i64 y.num))∧OwnQ w.heap.size y W∧Below w.heap.size w W:=by
 obtain ⟨h1,f⟩:=store_tenV h.res W hW
 refine ⟨?_,h.own.fr h.res f,h.bel.trans (f.below h.bel.size fun k hk=>by rw [hk];exact h.hR)⟩
 refine ⟨?_,?_,?_,?_,?_,?_,?_,?_,?_,?_⟩<;>(rw [Lib.cell_of_heap h1];rfl)
end
section
variable {w V:World} {B R:Nat} {y:Ex}
theorem RsSt.range (h:RsSt w B R V y):V.rangeAt B 0 [.int .i64 y.kind,.string y.temp,.string y.ka,.string y.kb,.int .i64 y.iff,.slice y.vp y.vo.length y.vc,.slice y.ep y.eo.length y.ec,.slice y.pp y.po.length y.pc,.int .u64 y.stamp,.int .i64 y.num]:=fun j v hv=>by
 rw [Nat.zero_add,Lib.cell_of_heap h.box]
 simpa using hv
theorem RsSt.there (h:RsSt w B R V y):V.there R 0 10:=fun j hj=>by
 refine ⟨?_,by rw [Nat.zero_add];exact h.free j⟩
 rw [Nat.zero_add,Lib.cell_of_heap h.res]
 have:j=0∨j=1∨j=2∨j=3∨j=4∨j=5∨j=6∨j=7∨j=8∨j=9:=by omega
 rcases this with rfl|rfl|rfl|rfl|rfl|rfl|rfl|rfl|rfl|rfl<;>rfl
end
theorem RsSt.leave {w V:World} {B R:Nat} {y z:Ex} (h:RsSt w B R V y) (W:World) (hW:((((((((((V.setCell ⟨R,0,none⟩ (.int .i64 z.kind)).setCell ⟨R,1,none⟩ (.string z.temp)).setCell ⟨R,2,none⟩ (.string z.ka)).setCell ⟨R,3,none⟩ (.string z.kb)).setCell ⟨R,4,none⟩ (.int .i64 z.iff)).setCell ⟨R,5,none⟩ (.slice z.vp z.vo.length z.vc)).setCell ⟨R,6,none⟩ (.slice z.ep z.eo.length z.ec)).setCell ⟨R,7,none⟩ (.slice z.pp z.po.length z.pc)).setCell ⟨R,8,none⟩ (.int .u64 z.stamp)).setCell ⟨R,9,none⟩ (.int .i64 z.num))=W):(W.cell? ⟨R,0,none⟩=some (.int .i64 z.kind)∧W.cell? ⟨R,1,none⟩=some (.string z.temp)∧W.cell? ⟨R,2,none⟩=some (.string z.ka)∧W.cell? ⟨R,3,none⟩=some (.string z.kb)∧W.cell? ⟨R,4,none⟩=some (.int .i64 z.iff)∧W.cell? ⟨R,5,none⟩=some (.slice z.vp z.vo.length z.vc)∧W.cell? ⟨R,6,none⟩=some (.slice z.ep z.eo.length z.ec)∧W.cell? ⟨R,7,none⟩=some (.slice z.pp z.po.length z.pc)∧W.cell? ⟨R,8,none⟩=some (.int .u64 z.stamp)∧W.cell? ⟨R,9,none⟩=some (.int .i64 z.num))∧(OwnQ w.heap.size z V→OwnQ w.heap.size z W)∧Below w.heap.size w W∧(W.cell? ⟨B,0,none⟩=some (.int .i64 y.kind)∧W.cell? ⟨B,1,none⟩=some (.string y.temp)∧W.cell? ⟨B,2,none⟩=some (.string y.ka)∧W.cell? ⟨B,3,none⟩=some (.string y.kb)∧W.cell? ⟨B,4,none⟩=some (.int .i64 y.iff)∧W.cell? ⟨B,5,none⟩=some (.slice y.vp y.vo.length y.vc)∧W.cell? ⟨B,6,none⟩=some (.slice y.ep y.eo.length y.ec)∧W.cell? ⟨B,7,none⟩=some (.slice y.pp y.po.length y.pc)∧W.cell? ⟨B,8,none⟩=some (.int .u64 y.stamp)∧W.cell? ⟨B,9,none⟩=some (.int .i64 y.num)):=by
 obtain ⟨h1,f⟩:=store_tenV h.res W hW
 have hb:W.heap[B]? = _:=(f.block B h.size.1 h.hne).trans h.box
 refine ⟨?_,fun ho=>ho.fr h.res f,h.bel.trans (f.below h.bel.size fun k hk=>by rw [hk];exact h.hR),?_⟩
 ·refine ⟨?_,?_,?_,?_,?_,?_,?_,?_,?_,?_⟩<;>(rw [Lib.cell_of_heap h1];rfl)
 ·refine ⟨?_,?_,?_,?_,?_,?_,?_,?_,?_,?_⟩<;>(rw [Lib.cell_of_heap hb];rfl)
section
variable {P:Program} {ops:Array Oper} {rest:List Oper} {op:Oper} {a:Act} {w:World} {Q:Exit→Act→World→Prop}
theorem wpList_load_as (hgd:op.guard=none) (ty:TypeId) (x:Operand) (ho:op.op=.load ty x) (b o:Nat) (hx:a.eval x=.pointer (some ⟨b,o,none⟩)) (cs:List Value) (d:TypeDesc) (hc:w.rangeAt b o cs)
  (hu:P.underlying ty=some d) (hd:d.isRow=true) (hi:(P.info? ty).map (·.size)=some cs.length) (v:Value) (hv:v=.agg cs.toArray)
  (h:wpList P ops Q rest (a.put op.dst v) w):wpList P ops Q (op::rest) a w:=by
 subst hv;exact wpList_load_mid hgd ty x ho b o hx cs d hc hu hd hi h
theorem wpList_store_as (hgd:op.guard=none) (ty:TypeId) (x y:Operand) (ho:op.op=.store ty x y) (b o:Nat) (cells:Array Value) (hx:a.eval x=.pointer (some ⟨b,o,none⟩)) (hy:a.eval y=.agg cells)
  (ht:w.there b o cells.size) (hi:(P.info? ty).map (·.size)=some cells.size) (h1:cells.all (·.oneCell')=true) (W:World) (hW:w.setCells b o cells.toList=W)
  (h:wpList P ops Q rest (a.put op.dst undef) W):wpList P ops Q (op::rest) a w:=by
 subst hW;exact wpList_store_mid hgd ty x y ho b o cells hx hy ht hi h1 h
end
theorem Tryz.entSize:(Tryz.prog.info? 42).map (·.size)=some 10:=by kernel_rfl
theorem one_ex (y:Ex):(#[.int .i64 y.kind,.string y.temp,.string y.ka,.string y.kb,.int .i64 y.iff,.slice y.vp y.vo.length y.vc,.slice y.ep y.eo.length y.ec,.slice y.pp y.po.length y.pc,.int .u64 y.stamp,.int .i64 y.num]:Array Value).all (·.oneCell')=true:=by
 have h:(encEx y).toArray.all (·.oneCell')=true:=all_oneCell_toArray (KEx.one y)
 exact h
theorem rs_start {w:World} {y:Ex} (ho:OwnQ w.heap.size y w):RsSt w w.heap.size (w.heap.size+1) ((w.alloc (.cells #[.int .i64 y.kind,.string y.temp,.string y.ka,.string y.kb,.int .i64 y.iff,.slice y.vp y.vo.length y.vc,.slice y.ep y.eo.length y.ec,.slice y.pp y.po.length y.pc,.int .u64 y.stamp,.int .i64 y.num] 42)).alloc (.cells #[.int .i64 0,.string ⟨#[]⟩,.string ⟨#[]⟩,.string ⟨#[]⟩,.int .i64 0,.slice none 0 0,.slice none 0 0,.slice none 0 0,.int .u64 0,.int .i64 0] 42)) y:=by
 have hb:Below w.heap.size w ((w.alloc (.cells #[.int .i64 y.kind,.string y.temp,.string y.ka,.string y.kb,.int .i64 y.iff,.slice y.vp y.vo.length y.vc,.slice y.ep y.eo.length y.ec,.slice y.pp y.po.length y.pc,.int .u64 y.stamp,.int .i64 y.num] 42)).alloc (.cells #[.int .i64 0,.string ⟨#[]⟩,.string ⟨#[]⟩,.string ⟨#[]⟩,.int .i64 0,.slice none 0 0,.slice none 0 0,.slice none 0 0,.int .u64 0,.int .i64 0] 42)):=((Below.refl _ _).alloc (Nat.le_refl _) _).alloc (by simp) _
 exact ⟨(Below.heap_alloc _ _ _ (by simp)).trans (heap_alloc_new w _),by have:=heap_alloc_new (w.alloc (.cells #[.int .i64 y.kind,.string y.temp,.string y.ka,.string y.kb,.int .i64 y.iff,.slice y.vp y.vo.length y.vc,.slice y.ep y.eo.length y.ec,.slice y.pp y.po.length y.pc,.int .u64 y.stamp,.int .i64 y.num] 42)) (.cells #[.int .i64 0,.string ⟨#[]⟩,.string ⟨#[]⟩,.string ⟨#[]⟩,.int .i64 0,.slice none 0 0,.slice none 0 0,.slice none 0 0,.int .u64 0,.int .i64 0] 42);simpa using this,ho.on hb,hb,Nat.le_refl _,by omega,by omega⟩
theorem cut_while {q:List UInt8}:∀(i:Nat) (l:List (List UInt8)),(∀z∈l.take i,z≠q)→l[i]? = some q→(l.takeWhile fun x=>decide (x≠q))=l.take i∧(l.dropWhile fun x=>decide (x≠q)).drop 1=l.drop (i+1)∧q∈l
 | 0,[],_,h=>by simp at h
 | 0,x::l,_,h=>by
  have:x=q:=by simpa using h
  subst this
  simp
 | i+1,[],_,h=>by simp at h
 | i+1,x::l,h1,h2=>by
  have hx:x≠q:=h1 x (by simp)
  obtain ⟨a,b,c⟩:=cut_while i l (fun z hz=>h1 z (by simp [hz])) (by simpa using h2)
  refine ⟨?_,?_,by simp [c]⟩
  ·rw [List.takeWhile_cons_of_pos (by simpa using hx),List.take_succ_cons,a]
  ·rw [List.dropWhile_cons_of_pos (by simpa using hx),b,List.drop_succ_cons]
theorem txt_drop {w:World} {p:Option Addr} {ws:List ByteArray} (h:TxtAt w p ws) {b off:Nat} (hp:p=some ⟨b,off,none⟩) (n:Nat):TxtAt w (some ⟨b,off+n,none⟩) (ws.drop n):=by
 rcases h with h|⟨b',off',h1,h2⟩
 ·left;rw [h];simp
 ·rw [hp] at h1
  cases h1
  refine Or.inr ⟨_,_,rfl,fun i hi=>?_⟩
  rw [List.length_drop] at hi
  have q:=h2 (n+i) (by omega)
  rw [Nat.add_assoc,q]
  simp
theorem txt_take {w:World} {p:Option Addr} {ws:List ByteArray} (h:TxtAt w p ws) (n:Nat):TxtAt w p (ws.take n):=by
 rcases h with h|⟨b',off',h1,h2⟩
 ·left;rw [h];simp
 ·refine Or.inr ⟨_,_,h1,fun i hi=>?_⟩
  rw [List.length_take] at hi
  rw [h2 i (by omega)]
  simp
theorem txt_on {w w':World} {p:Option Addr} {ws:List ByteArray} (h:TxtAt w p ws) (hb:Below w.heap.size w w'):TxtAt w' p ws:=by
 rcases h with h|⟨b,off,h1,h2⟩
 ·exact Or.inl h
 ·exact Or.inr ⟨b,off,h1,fun i hi=>kept hb (h2 i hi)⟩
end
section
open Go.RowKit Go.Lib
set_option maxHeartbeats 8000000 in
set_option maxRecDepth 100000 in
theorem rrest16_any (y:Ex) (hy:∃k tp ka kb fi st nm,y=bareX k tp ka kb fi st nm) (p:Option Addr) (cap:Nat) (ws:List ByteArray) (w:World) (hr:RangeE y) (ht:TxtAt w p ws) (hl:ws.length≤1000000000) (hcap:ws.length≤cap) (hs:∀x∈ws,x.size≤1000000000000) :
  Calls Tryz.prog 43 #[aggEx y,.slice p ws.length cap] w fun e w'=>EnR w (restR y.en (bytesL ws)) e w':=by
 have ho:OwnQ w.heap.size y w:=by
  obtain ⟨k,tp,ka,kb,fi,st,nm,rfl⟩:=hy
  exact ⟨(own_noneX _ _).1,⟨Nat.zero_le _,fun x hx=>by cases hx⟩,Kind.own_nil _ _ _,(show FitE [] from fitE_may (by decide)),Kind.own_nil _ _ _,(show FitM [] from fitM_may (by decide)),hr⟩
 have R0:=hid (rs_start ho)
 obtain ⟨W0,hW0⟩:∃W0,((w.alloc (.cells #[.int .i64 y.kind,.string y.temp,.string y.ka,.string y.kb,.int .i64 y.iff,.slice y.vp y.vo.length y.vc,.slice y.ep y.eo.length y.ec,.slice y.pp y.po.length y.pc,.int .u64 y.stamp,.int .i64 y.num] 42)).alloc (.cells #[.int .i64 0,.string ⟨#[]⟩,.string ⟨#[]⟩,.string ⟨#[]⟩,.int .i64 0,.slice none 0 0,.slice none 0 0,.slice none 0 0,.int .u64 0,.int .i64 0] 42))=W0:=⟨_,rfl⟩
 rw [hW0] at R0
 have HT:=hid ht
 have HPW:Hid (∀V n,n≤ws.length→Below w.heap.size w V→Calls Tryz.prog 79 #[.slice p n cap] V fun e w'=>PwPost V (bytesL (ws.take n)) e w'):=hid fun V n hn hV=>by
  have h:=rpw_any p cap (ws.take n) V (txt_take (txt_on ht hV) n) (by rw [List.length_take];omega) fun x hx=>hs x (List.mem_of_mem_take hx)
  rw [List.length_take,Nat.min_eq_left hn] at h
  exact h
 have HPD:Hid (∀V n q c,TxtAt V q (ws.drop n)→Calls Tryz.prog 80 #[.slice q (ws.length-n:Nat) c] V fun e w'=>TWPost V (termsW (bytesL (ws.drop n))) e w'):=hid fun V n q c hq=>by
  have h:=rpwM_any q c (ws.drop n) V hq (by rw [List.length_drop];omega) fun x hx=>hs x (List.mem_of_mem_drop hx)
  rw [List.length_drop] at h
  exact h
 have HPT:Hid (∀V,Below w.heap.size w V→Calls Tryz.prog 80 #[.slice p ws.length cap] V fun e w'=>TWPost V (termsW (bytesL ws)) e w'):=hid fun V hV=>rpwM_any p cap ws V (txt_on ht hV) (by omega) hs
 have HPE:Hid (∀V,Below w.heap.size w V→Calls Tryz.prog 81 #[.slice p ws.length cap] V fun e w'=>EWPost V (editsW (bytesL ws)) e w'):=hid fun V hV=>rpwE_any p cap ws V (txt_on ht hV) (by omega) hs
 have HPV:Hid (∀V,Below w.heap.size w V→Calls Tryz.prog 79 #[.slice p ws.length cap] V fun e w'=>PwPost V (bytesL ws) e w'):=hid fun V hV=>rpw_any p cap ws V (txt_on ht hV) (by omega) hs
 have HR1:Hid (y.kind=1∨y.kind=3→restR y.en (bytesL ws)=(valR (bytesL ws)).map fun v=>{ y.en with val:=v }):=hid fun h=>by unfold restR;rw [if_pos (show y.en.kind=1∨y.en.kind=3 from h)]
 have HR4:Hid (y.kind=4→restR y.en (bytesL ws)=(edsR (bytesL ws)).map fun v=>{ y.en with eds:=v }):=hid fun h=>by
  have h':y.en.kind=4:=h
  unfold restR;rw [if_neg (by omega),if_neg (by omega),if_pos h']
 have HR5:Hid (y.kind=5→restR y.en (bytesL ws)=if bytesL ws=[] then some y.en else none):=hid fun h=>by
  have h':y.en.kind=5:=h
  unfold restR;rw [if_neg (by omega),if_neg (by omega),if_neg (by omega),if_pos h']
 have HRX:Hid (¬ y.kind=1→¬ y.kind=2→¬ y.kind=3→¬ y.kind=4→¬ y.kind=5→restR y.en (bytesL ws)=(prdR (bytesL ws)).map fun v=>{ y.en with pred:=v }):=hid fun h1 h2 h3 h4 h5=>by
  have e1:¬ y.en.kind=1:=h1
  have e2:¬ y.en.kind=2:=h2
  have e3:¬ y.en.kind=3:=h3
  have e4:¬ y.en.kind=4:=h4
  have e5:¬ y.en.kind=5:=h5
  unfold restR;rw [if_neg (by omega),if_neg e2,if_neg e4,if_neg e5]
 have HR2:Hid (y.kind=2→restR y.en (bytesL ws)=if [63]∈bytesL ws then (valR ((bytesL ws).takeWhile fun x=>decide (x≠[63]))).bind fun v=>(prdR (((bytesL ws).dropWhile fun x=>decide (x≠[63])).drop 1)).map fun p=>{ y.en with val:=v,pred:=p } else none):=hid fun h=>by
  have h':y.en.kind=2:=h
  unfold restR;rw [if_neg (by omega),if_pos h']
 obtain ⟨kd,hkd⟩:∃k,y.kind=k:=⟨_,rfl⟩
 have HKD:=hid hkd
 obtain ⟨c0,-⟩:=R0.out.cells
 unfold aggEx
 simp only [encEx,Ex.vs,Ex.es,Ex.ps]
 clear ho hy hr ht hs
 rw [hkd] at HR1 HR2 HR4 HR5 HRX
 by_cases k1:kd=1
 case pos =>
  have HRR:=hid (HR1.out (Or.inl k1))
  subst k1
  rw [hkd] at c0 hW0 ⊢
  go_enter Tryz.func43,Tryz.ntmps43
  go_wp2_with fail
  try rw [hW0]
  clear hW0 c0 hkd
  refine (HPV.out W0 R0.out.bel).mono ?_
  intro e w1 hp
  obtain ⟨up,uc,fo,c,rfl,hown,hfit,hval,hb1⟩:=pw_val hp
  have R1:=hid (R0.out.on hb1)
  have f5:=R1.out.open 5
  obtain ⟨c0,c1,c2,c3,c4,c5,c6,c7,c8,c9⟩:=R1.out.cells
  obtain ⟨z,hz⟩:∃zq:Ex,zq={ y with vp:=up,vc:=uc,vo:=fo }:=⟨_,rfl⟩
  obtain ⟨W2,hW2⟩:∃W',w1.setCell ⟨w.heap.size,5,none⟩ (.slice up fo.length uc)=W':=⟨_,rfl⟩
  have R2:Hid (RsSt w w.heap.size (w.heap.size+1) W2 z):=hid (by
   rw [←hW2]
   have hs:=R0.out.size
   have ho:OwnQ w.heap.size z w1:=by
    have q:=R1.out.own
    rw [hz]
    exact ⟨⟨own_weak hown.1 (by omega),fun x hx=>own_weak (hown.2 x hx) (by omega)⟩,hfit,q.eds,q.efit,q.prd,q.pfit,⟨q.rng.temp,q.rng.ka,q.rng.kb,q.rng.k0,q.rng.k1,q.rng.i0,q.rng.i1,q.rng.t0,q.rng.t1,q.rng.n0,q.rng.n1⟩⟩
   exact R1.out.turn 5 _ ho (by rw [hz];rfl))
  have HZ:=hid hz
  have HVL:=hid hval
  clear hown hfit hval hb1 hp hz
  go_upto_region 20 with fail
  try rw [hW2]
  clear hW2 f5 c0 c1 c2 c3 c4 c5 c6 c7 c8 c9
  by_cases hc:c=0
  ·subst hc
   obtain ⟨c0,c1,c2,c3,c4,c5,c6,c7,c8,c9⟩:=R2.out.cells
   obtain ⟨o0,o1,o2,o3,o4,o5,o6,o7,o8,o9⟩:=R2.out.outs
   have f0:=R2.out.free 0
   have f1:=R2.out.free 1
   have f2:=R2.out.free 2
   have f3:=R2.out.free 3
   have f4:=R2.out.free 4
   have f5:=R2.out.free 5
   have f6:=R2.out.free 6
   have f7:=R2.out.free 7
   have f8:=R2.out.free 8
   have f9:=R2.out.free 9
   obtain ⟨W4,hW4⟩:∃W4,((((((((((W2.setCell ⟨w.heap.size+1,0,none⟩ (.int .i64 z.kind)).setCell ⟨w.heap.size+1,1,none⟩ (.string z.temp)).setCell ⟨w.heap.size+1,2,none⟩ (.string z.ka)).setCell ⟨w.heap.size+1,3,none⟩ (.string z.kb)).setCell ⟨w.heap.size+1,4,none⟩ (.int .i64 z.iff)).setCell ⟨w.heap.size+1,5,none⟩ (.slice z.vp z.vo.length z.vc)).setCell ⟨w.heap.size+1,6,none⟩ (.slice z.ep z.eo.length z.ec)).setCell ⟨w.heap.size+1,7,none⟩ (.slice z.pp z.po.length z.pc)).setCell ⟨w.heap.size+1,8,none⟩ (.int .u64 z.stamp)).setCell ⟨w.heap.size+1,9,none⟩ (.int .i64 z.num))=W4:=⟨_,rfl⟩
   obtain ⟨⟨g0,g1,g2,g3,g4,g5,g6,g7,g8,g9⟩,hown4,hbel4⟩:=R2.out.fin W4 hW4
   have HOW:=hid hown4
   have HBE:=hid hbel4
   clear hown4 hbel4
   go_wp2_with fail
   try rw [hW4]
   clear hW4
   exact bodyPost_ret (v:=.tuple #[.agg #[.int .i64 z.kind,.string z.temp,.string z.ka,.string z.kb,.int .i64 z.iff,.slice z.vp z.vo.length z.vc,.slice z.ep z.eo.length z.ec,.slice z.pp z.po.length z.pc,.int .u64 z.stamp,.int .i64 z.num],.bool true]) (by simp [results,Tryz.results43,go_sem,g0,g1,g2,g3,g4,g5,g6,g7,g8,g9]) rfl ⟨⟨z,true,rfl,fun _=>HOW.out,by rw [HRR.out,HVL.out,HZ.out];rfl⟩,HBE.out⟩
  ·have bc:(c==0)=false:=by rw [beq_eq_false_iff_ne];exact hc
   have HVN:=hid (HVL.out.trans (if_neg hc))
   clear hc
   obtain ⟨c0,c1,c2,c3,c4,c5,c6,c7,c8,c9⟩:=R2.out.cells
   obtain ⟨o0,o1,o2,o3,o4,o5,o6,o7,o8,o9⟩:=R2.out.outs
   have f0:=R2.out.free 0
   have f1:=R2.out.free 1
   have f2:=R2.out.free 2
   have f3:=R2.out.free 3
   have f4:=R2.out.free 4
   have f5:=R2.out.free 5
   have f6:=R2.out.free 6
   have f7:=R2.out.free 7
   have f8:=R2.out.free 8
   have f9:=R2.out.free 9
   obtain ⟨W4,hW4⟩:∃W4,((((((((((W2.setCell ⟨w.heap.size+1,0,none⟩ (.int .i64 z.kind)).setCell ⟨w.heap.size+1,1,none⟩ (.string z.temp)).setCell ⟨w.heap.size+1,2,none⟩ (.string z.ka)).setCell ⟨w.heap.size+1,3,none⟩ (.string z.kb)).setCell ⟨w.heap.size+1,4,none⟩ (.int .i64 z.iff)).setCell ⟨w.heap.size+1,5,none⟩ (.slice z.vp z.vo.length z.vc)).setCell ⟨w.heap.size+1,6,none⟩ (.slice z.ep z.eo.length z.ec)).setCell ⟨w.heap.size+1,7,none⟩ (.slice z.pp z.po.length z.pc)).setCell ⟨w.heap.size+1,8,none⟩ (.int .u64 z.stamp)).setCell ⟨w.heap.size+1,9,none⟩ (.int .i64 z.num))=W4:=⟨_,rfl⟩
   obtain ⟨⟨g0,g1,g2,g3,g4,g5,g6,g7,g8,g9⟩,hown4,hbel4⟩:=R2.out.fin W4 hW4
   have HOW:=hid hown4
   have HBE:=hid hbel4
   clear hown4 hbel4
   go_wp2_with fail
   try rw [hW4]
   clear hW4
   exact bodyPost_ret (v:=.tuple #[.agg #[.int .i64 z.kind,.string z.temp,.string z.ka,.string z.kb,.int .i64 z.iff,.slice z.vp z.vo.length z.vc,.slice z.ep z.eo.length z.ec,.slice z.pp z.po.length z.pc,.int .u64 z.stamp,.int .i64 z.num],.bool false]) (by simp [results,Tryz.results43,go_sem,g0,g1,g2,g3,g4,g5,g6,g7,g8,g9]) rfl ⟨⟨z,false,rfl,fun _=>HOW.out,by rw [HRR.out,HVN.out];rfl⟩,HBE.out⟩
 by_cases k3:kd=3
 case pos =>
  have HRR:=hid (HR1.out (Or.inr k3))
  subst k3
  rw [hkd] at c0 hW0 ⊢
  go_enter Tryz.func43,Tryz.ntmps43
  go_wp2_with fail
  try rw [hW0]
  clear hW0 c0 hkd
  refine (HPV.out W0 R0.out.bel).mono ?_
  intro e w1 hp
  obtain ⟨up,uc,fo,c,rfl,hown,hfit,hval,hb1⟩:=pw_val hp
  have R1:=hid (R0.out.on hb1)
  have f5:=R1.out.open 5
  obtain ⟨c0,c1,c2,c3,c4,c5,c6,c7,c8,c9⟩:=R1.out.cells
  obtain ⟨z,hz⟩:∃zq:Ex,zq={ y with vp:=up,vc:=uc,vo:=fo }:=⟨_,rfl⟩
  obtain ⟨W2,hW2⟩:∃W',w1.setCell ⟨w.heap.size,5,none⟩ (.slice up fo.length uc)=W':=⟨_,rfl⟩
  have R2:Hid (RsSt w w.heap.size (w.heap.size+1) W2 z):=hid (by
   rw [←hW2]
   have hs:=R0.out.size
   have ho:OwnQ w.heap.size z w1:=by
    have q:=R1.out.own
    rw [hz]
    exact ⟨⟨own_weak hown.1 (by omega),fun x hx=>own_weak (hown.2 x hx) (by omega)⟩,hfit,q.eds,q.efit,q.prd,q.pfit,⟨q.rng.temp,q.rng.ka,q.rng.kb,q.rng.k0,q.rng.k1,q.rng.i0,q.rng.i1,q.rng.t0,q.rng.t1,q.rng.n0,q.rng.n1⟩⟩
   exact R1.out.turn 5 _ ho (by rw [hz];rfl))
  have HZ:=hid hz
  have HVL:=hid hval
  clear hown hfit hval hb1 hp hz
  go_upto_region 20 with fail
  try rw [hW2]
  clear hW2 f5 c0 c1 c2 c3 c4 c5 c6 c7 c8 c9
  by_cases hc:c=0
  ·subst hc
   obtain ⟨c0,c1,c2,c3,c4,c5,c6,c7,c8,c9⟩:=R2.out.cells
   obtain ⟨o0,o1,o2,o3,o4,o5,o6,o7,o8,o9⟩:=R2.out.outs
   have f0:=R2.out.free 0
   have f1:=R2.out.free 1
   have f2:=R2.out.free 2
   have f3:=R2.out.free 3
   have f4:=R2.out.free 4
   have f5:=R2.out.free 5
   have f6:=R2.out.free 6
   have f7:=R2.out.free 7
   have f8:=R2.out.free 8
   have f9:=R2.out.free 9
   obtain ⟨W4,hW4⟩:∃W4,((((((((((W2.setCell ⟨w.heap.size+1,0,none⟩ (.int .i64 z.kind)).setCell ⟨w.heap.size+1,1,none⟩ (.string z.temp)).setCell ⟨w.heap.size+1,2,none⟩ (.string z.ka)).setCell ⟨w.heap.size+1,3,none⟩ (.string z.kb)).setCell ⟨w.heap.size+1,4,none⟩ (.int .i64 z.iff)).setCell ⟨w.heap.size+1,5,none⟩ (.slice z.vp z.vo.length z.vc)).setCell ⟨w.heap.size+1,6,none⟩ (.slice z.ep z.eo.length z.ec)).setCell ⟨w.heap.size+1,7,none⟩ (.slice z.pp z.po.length z.pc)).setCell ⟨w.heap.size+1,8,none⟩ (.int .u64 z.stamp)).setCell ⟨w.heap.size+1,9,none⟩ (.int .i64 z.num))=W4:=⟨_,rfl⟩
   obtain ⟨⟨g0,g1,g2,g3,g4,g5,g6,g7,g8,g9⟩,hown4,hbel4⟩:=R2.out.fin W4 hW4
   have HOW:=hid hown4
   have HBE:=hid hbel4
   clear hown4 hbel4
   go_wp2_with fail
   try rw [hW4]
   clear hW4
   exact bodyPost_ret (v:=.tuple #[.agg #[.int .i64 z.kind,.string z.temp,.string z.ka,.string z.kb,.int .i64 z.iff,.slice z.vp z.vo.length z.vc,.slice z.ep z.eo.length z.ec,.slice z.pp z.po.length z.pc,.int .u64 z.stamp,.int .i64 z.num],.bool true]) (by simp [results,Tryz.results43,go_sem,g0,g1,g2,g3,g4,g5,g6,g7,g8,g9]) rfl ⟨⟨z,true,rfl,fun _=>HOW.out,by rw [HRR.out,HVL.out,HZ.out];rfl⟩,HBE.out⟩
  ·have bc:(c==0)=false:=by rw [beq_eq_false_iff_ne];exact hc
   have HVN:=hid (HVL.out.trans (if_neg hc))
   clear hc
   obtain ⟨c0,c1,c2,c3,c4,c5,c6,c7,c8,c9⟩:=R2.out.cells
   obtain ⟨o0,o1,o2,o3,o4,o5,o6,o7,o8,o9⟩:=R2.out.outs
   have f0:=R2.out.free 0
   have f1:=R2.out.free 1
   have f2:=R2.out.free 2
   have f3:=R2.out.free 3
   have f4:=R2.out.free 4
   have f5:=R2.out.free 5
   have f6:=R2.out.free 6
   have f7:=R2.out.free 7
   have f8:=R2.out.free 8
   have f9:=R2.out.free 9
   obtain ⟨W4,hW4⟩:∃W4,((((((((((W2.setCell ⟨w.heap.size+1,0,none⟩ (.int .i64 z.kind)).setCell ⟨w.heap.size+1,1,none⟩ (.string z.temp)).setCell ⟨w.heap.size+1,2,none⟩ (.string z.ka)).setCell ⟨w.heap.size+1,3,none⟩ (.string z.kb)).setCell ⟨w.heap.size+1,4,none⟩ (.int .i64 z.iff)).setCell ⟨w.heap.size+1,5,none⟩ (.slice z.vp z.vo.length z.vc)).setCell ⟨w.heap.size+1,6,none⟩ (.slice z.ep z.eo.length z.ec)).setCell ⟨w.heap.size+1,7,none⟩ (.slice z.pp z.po.length z.pc)).setCell ⟨w.heap.size+1,8,none⟩ (.int .u64 z.stamp)).setCell ⟨w.heap.size+1,9,none⟩ (.int .i64 z.num))=W4:=⟨_,rfl⟩
   obtain ⟨⟨g0,g1,g2,g3,g4,g5,g6,g7,g8,g9⟩,hown4,hbel4⟩:=R2.out.fin W4 hW4
   have HOW:=hid hown4
   have HBE:=hid hbel4
   clear hown4 hbel4
   go_wp2_with fail
   try rw [hW4]
   clear hW4
   exact bodyPost_ret (v:=.tuple #[.agg #[.int .i64 z.kind,.string z.temp,.string z.ka,.string z.kb,.int .i64 z.iff,.slice z.vp z.vo.length z.vc,.slice z.ep z.eo.length z.ec,.slice z.pp z.po.length z.pc,.int .u64 z.stamp,.int .i64 z.num],.bool false]) (by simp [results,Tryz.results43,go_sem,g0,g1,g2,g3,g4,g5,g6,g7,g8,g9]) rfl ⟨⟨z,false,rfl,fun _=>HOW.out,by rw [HRR.out,HVN.out];rfl⟩,HBE.out⟩
 by_cases k2:kd=2
 case pos =>
  have HRR:=hid (HR2.out k2)
  subst k2
  rw [hkd] at c0 hW0 ⊢
  go_enter Tryz.func43,Tryz.ntmps43
  go_wp2_with fail
  try rw [hW0]
  clear hW0 c0 hkd
  go_loopg [7] ws.length (fun g v7 wx=>∃(i:Nat),v7=.int .i64 i∧i≤ws.length∧ws.length-i≤g∧Hid (∀x∈(bytesL ws).take i,x≠[63])∧Hid (RsSt w w.heap.size (w.heap.size+1) wx y))
  case atStart=>exact ⟨0,rfl,by omega,by omega,hid (by simp),R0⟩
  case round =>
   clear R0
   obtain ⟨i,rfl,hi,hig,HNO,R0⟩:=hrel
   by_cases hlt:i<ws.length
   ·have hltz:(i:Int)<(ws.length:Int):=by omega
    have hiz:(0:Int)≤(i:Int):=by omega
    obtain ⟨b,off,hp,hcc⟩:∃b off,p=some ⟨b,off,none⟩∧∀i,(h:i<ws.length)→w.cell? ⟨b,off+i,none⟩=some (.string ws[i]):=by
     rcases HT.out with h|⟨b,off,h1,h2⟩
     ·rw [h] at hlt;simp at hlt
     ·exact ⟨b,off,h1,h2⟩
    have cx:=kept R0.out.bel (hcc i hlt)
    obtain ⟨x,hx⟩:∃x,ws[i]=x:=⟨_,rfl⟩
    rw [hx] at cx
    have HX:Hid ((bytesL ws)[i]? = some x.data.toList):=hid (by unfold bytesL;rw [List.getElem?_map,List.getElem?_eq_getElem hlt,hx];rfl)
    subst hp
    clear hcc hx
    by_cases hq:x.data.toList=[63]
    ·have hq2:(x.toList==[63])=true:=by rw [toList_data,hq];rfl
     have HX2:Hid ((bytesL ws)[i]? = some [63]):=hid (by rw [HX.out,hq])
     have HRW:Hid (restR y.en (bytesL ws)=(valR (bytesL (ws.take i))).bind fun v=>(prdR (bytesL (ws.drop (i+1)))).map fun p=>{ y.en with val:=v,pred:=p }):=hid (by
      obtain ⟨e1,e2,e3⟩:=cut_while i (bytesL ws) HNO.out HX2.out
      rw [HRR.out,if_pos e3,e1,e2]
      simp only [bytesL,List.map_take,List.map_drop])
     have hne:((i:Int)==(ws.length:Int))=false:=by rw [beq_eq_false_iff_ne];omega
     have hcz:(i:Int)+1≤(ws.length:Int):=by omega
     have hcz2:(ws.length:Int)≤(cap:Int):=by omega
     clear hq HRR HX HX2 HNO
     go_wp2_with fail
     refine (HPW.out _ i (by omega) R0.out.bel).mono ?_
     intro e w1 hp
     obtain ⟨up,uc,fo,c,rfl,hown,hfit,hval,hb1⟩:=pw_val hp
     have R1:=hid (R0.out.on hb1)
     have f5:=R1.out.open 5
     obtain ⟨c0,c1,c2,c3,c4,c5,c6,c7,c8,c9⟩:=R1.out.cells
     obtain ⟨z,hz⟩:∃zq:Ex,zq={ y with vp:=up,vc:=uc,vo:=fo }:=⟨_,rfl⟩
     obtain ⟨W2,hW2⟩:∃W',w1.setCell ⟨w.heap.size,5,none⟩ (.slice up fo.length uc)=W':=⟨_,rfl⟩
     have R2:Hid (RsSt w w.heap.size (w.heap.size+1) W2 z):=hid (by
      rw [←hW2]
      have hs:=R0.out.size
      have ho:OwnQ w.heap.size z w1:=by
       have q:=R1.out.own
       rw [hz]
       exact ⟨⟨own_weak hown.1 (by omega),fun x hx=>own_weak (hown.2 x hx) (by omega)⟩,hfit,q.eds,q.efit,q.prd,q.pfit,⟨q.rng.temp,q.rng.ka,q.rng.kb,q.rng.k0,q.rng.k1,q.rng.i0,q.rng.i1,q.rng.t0,q.rng.t1,q.rng.n0,q.rng.n1⟩⟩
      exact R1.out.turn 5 _ ho (by rw [hz];rfl))
     have HZ:=hid hz
     have HVL:=hid hval
     clear hown hfit hval hb1 hp hz
     have HZ1:=HZ
     have HVL1:=HVL
     clear HZ HVL
     by_cases hc:c=0
     ·subst hc
      have HV1:=hid (HVL1.out.trans (if_pos rfl))
      clear HVL1
      by_cases hcp:cap=i+1
      ·have hdn:ws.drop (i+1)=[]:=List.drop_eq_nil_of_le (by omega)
       have HDN:=hid hdn
       clear hdn
       go_wp2_with fail
       try rw [hW2]
       clear hW2 f5 c0 c1 c2 c3 c4 c5 c6 c7 c8 c9
       refine (HPD.out _ (i+1) _ _ (Or.inl HDN.out)).mono ?_
       intro e w1 hp
       obtain ⟨vp,vc,po,c2,rfl,hown,hfit,hval,hb1⟩:=tw_prd hp
       have R6:=hid (R2.out.on hb1)
       have f5:=R6.out.open 7
       obtain ⟨c0,c1,c2,c3,c4,c5,c6,c7,c8,c9⟩:=R6.out.cells
       obtain ⟨z2,hz⟩:∃zq:Ex,zq={ z with pp:=vp,pc:=vc,po:=po }:=⟨_,rfl⟩
       obtain ⟨W5,hW5⟩:∃W',w1.setCell ⟨w.heap.size,7,none⟩ (.slice vp po.length vc)=W':=⟨_,rfl⟩
       have R5:Hid (RsSt w w.heap.size (w.heap.size+1) W5 z2):=hid (by
        rw [←hW5]
        have hs:=R2.out.size
        have ho:OwnQ w.heap.size z2 w1:=by
         have q:=R6.out.own
         rw [hz]
         exact ⟨q.val,q.fit,q.eds,q.efit,Kind.own_weak hown (by omega),hfit,⟨q.rng.temp,q.rng.ka,q.rng.kb,q.rng.k0,q.rng.k1,q.rng.i0,q.rng.i1,q.rng.t0,q.rng.t1,q.rng.n0,q.rng.n1⟩⟩
        exact R6.out.turn 7 _ ho (by rw [hz];rfl))
       have HZ:=hid hz
       have HVL:=hid hval
       clear hown hfit hval hb1 hp hz
       go_upto_region 20 with fail
       try rw [hW5]
       clear hW5 f5 c0 c1 c2 c3 c4 c5 c6 c7 c8 c9
       by_cases hc:c2=0
       ·subst hc
        obtain ⟨c0,c1,c2,c3,c4,c5,c6,c7,c8,c9⟩:=R5.out.cells
        obtain ⟨o0,o1,o2,o3,o4,o5,o6,o7,o8,o9⟩:=R5.out.outs
        have f0:=R5.out.free 0
        have f1:=R5.out.free 1
        have f2:=R5.out.free 2
        have f3:=R5.out.free 3
        have f4:=R5.out.free 4
        have f5:=R5.out.free 5
        have f6:=R5.out.free 6
        have f7:=R5.out.free 7
        have f8:=R5.out.free 8
        have f9:=R5.out.free 9
        obtain ⟨W4,hW4⟩:∃W4,((((((((((W5.setCell ⟨w.heap.size+1,0,none⟩ (.int .i64 z2.kind)).setCell ⟨w.heap.size+1,1,none⟩ (.string z2.temp)).setCell ⟨w.heap.size+1,2,none⟩ (.string z2.ka)).setCell ⟨w.heap.size+1,3,none⟩ (.string z2.kb)).setCell ⟨w.heap.size+1,4,none⟩ (.int .i64 z2.iff)).setCell ⟨w.heap.size+1,5,none⟩ (.slice z2.vp z2.vo.length z2.vc)).setCell ⟨w.heap.size+1,6,none⟩ (.slice z2.ep z2.eo.length z2.ec)).setCell ⟨w.heap.size+1,7,none⟩ (.slice z2.pp z2.po.length z2.pc)).setCell ⟨w.heap.size+1,8,none⟩ (.int .u64 z2.stamp)).setCell ⟨w.heap.size+1,9,none⟩ (.int .i64 z2.num))=W4:=⟨_,rfl⟩
        obtain ⟨⟨g0,g1,g2,g3,g4,g5,g6,g7,g8,g9⟩,hown4,hbel4⟩:=R5.out.fin W4 hW4
        have HOW:=hid hown4
        have HBE:=hid hbel4
        clear hown4 hbel4
        go_wp2_with fail
        try rw [hW4]
        clear hW4
        exact bodyPost_ret (v:=.tuple #[.agg #[.int .i64 z2.kind,.string z2.temp,.string z2.ka,.string z2.kb,.int .i64 z2.iff,.slice z2.vp z2.vo.length z2.vc,.slice z2.ep z2.eo.length z2.ec,.slice z2.pp z2.po.length z2.pc,.int .u64 z2.stamp,.int .i64 z2.num],.bool true]) (by simp [results,Tryz.results43,go_sem,g0,g1,g2,g3,g4,g5,g6,g7,g8,g9]) rfl ⟨⟨z2,true,rfl,fun _=>HOW.out,by rw [HRW.out,HV1.out,Option.bind_some,HVL.out,HZ.out,HZ1.out];rfl⟩,HBE.out⟩
       ·have bc:(c2==0)=false:=by rw [beq_eq_false_iff_ne];exact hc
        have HVN:=hid (HVL.out.trans (if_neg hc))
        clear hc
        obtain ⟨c0,c1,c2,c3,c4,c5,c6,c7,c8,c9⟩:=R5.out.cells
        obtain ⟨o0,o1,o2,o3,o4,o5,o6,o7,o8,o9⟩:=R5.out.outs
        have f0:=R5.out.free 0
        have f1:=R5.out.free 1
        have f2:=R5.out.free 2
        have f3:=R5.out.free 3
        have f4:=R5.out.free 4
        have f5:=R5.out.free 5
        have f6:=R5.out.free 6
        have f7:=R5.out.free 7
        have f8:=R5.out.free 8
        have f9:=R5.out.free 9
        obtain ⟨W4,hW4⟩:∃W4,((((((((((W5.setCell ⟨w.heap.size+1,0,none⟩ (.int .i64 z2.kind)).setCell ⟨w.heap.size+1,1,none⟩ (.string z2.temp)).setCell ⟨w.heap.size+1,2,none⟩ (.string z2.ka)).setCell ⟨w.heap.size+1,3,none⟩ (.string z2.kb)).setCell ⟨w.heap.size+1,4,none⟩ (.int .i64 z2.iff)).setCell ⟨w.heap.size+1,5,none⟩ (.slice z2.vp z2.vo.length z2.vc)).setCell ⟨w.heap.size+1,6,none⟩ (.slice z2.ep z2.eo.length z2.ec)).setCell ⟨w.heap.size+1,7,none⟩ (.slice z2.pp z2.po.length z2.pc)).setCell ⟨w.heap.size+1,8,none⟩ (.int .u64 z2.stamp)).setCell ⟨w.heap.size+1,9,none⟩ (.int .i64 z2.num))=W4:=⟨_,rfl⟩
        obtain ⟨⟨g0,g1,g2,g3,g4,g5,g6,g7,g8,g9⟩,hown4,hbel4⟩:=R5.out.fin W4 hW4
        have HOW:=hid hown4
        have HBE:=hid hbel4
        clear hown4 hbel4
        go_wp2_with fail
        try rw [hW4]
        clear hW4
        exact bodyPost_ret (v:=.tuple #[.agg #[.int .i64 z2.kind,.string z2.temp,.string z2.ka,.string z2.kb,.int .i64 z2.iff,.slice z2.vp z2.vo.length z2.vc,.slice z2.ep z2.eo.length z2.ec,.slice z2.pp z2.po.length z2.pc,.int .u64 z2.stamp,.int .i64 z2.num],.bool false]) (by simp [results,Tryz.results43,go_sem,g0,g1,g2,g3,g4,g5,g6,g7,g8,g9]) rfl ⟨⟨z2,false,rfl,fun _=>HOW.out,by rw [HRW.out,HV1.out,Option.bind_some,HVN.out];rfl⟩,HBE.out⟩
      ·go_wp2_with fail
       try rw [hW2]
       clear hW2 f5 c0 c1 c2 c3 c4 c5 c6 c7 c8 c9
       refine (HPD.out _ (i+1) _ _ (txt_drop (txt_on HT.out R2.out.bel) rfl (i+1))).mono ?_
       intro e w1 hp
       obtain ⟨vp,vc,po,c2,rfl,hown,hfit,hval,hb1⟩:=tw_prd hp
       have R6:=hid (R2.out.on hb1)
       have f5:=R6.out.open 7
       obtain ⟨c0,c1,c2,c3,c4,c5,c6,c7,c8,c9⟩:=R6.out.cells
       obtain ⟨z2,hz⟩:∃zq:Ex,zq={ z with pp:=vp,pc:=vc,po:=po }:=⟨_,rfl⟩
       obtain ⟨W5,hW5⟩:∃W',w1.setCell ⟨w.heap.size,7,none⟩ (.slice vp po.length vc)=W':=⟨_,rfl⟩
       have R5:Hid (RsSt w w.heap.size (w.heap.size+1) W5 z2):=hid (by
        rw [←hW5]
        have hs:=R2.out.size
        have ho:OwnQ w.heap.size z2 w1:=by
         have q:=R6.out.own
         rw [hz]
         exact ⟨q.val,q.fit,q.eds,q.efit,Kind.own_weak hown (by omega),hfit,⟨q.rng.temp,q.rng.ka,q.rng.kb,q.rng.k0,q.rng.k1,q.rng.i0,q.rng.i1,q.rng.t0,q.rng.t1,q.rng.n0,q.rng.n1⟩⟩
        exact R6.out.turn 7 _ ho (by rw [hz];rfl))
       have HZ:=hid hz
       have HVL:=hid hval
       clear hown hfit hval hb1 hp hz
       go_upto_region 20 with fail
       try rw [hW5]
       clear hW5 f5 c0 c1 c2 c3 c4 c5 c6 c7 c8 c9
       by_cases hc:c2=0
       ·subst hc
        obtain ⟨c0,c1,c2,c3,c4,c5,c6,c7,c8,c9⟩:=R5.out.cells
        obtain ⟨o0,o1,o2,o3,o4,o5,o6,o7,o8,o9⟩:=R5.out.outs
        have f0:=R5.out.free 0
        have f1:=R5.out.free 1
        have f2:=R5.out.free 2
        have f3:=R5.out.free 3
        have f4:=R5.out.free 4
        have f5:=R5.out.free 5
        have f6:=R5.out.free 6
        have f7:=R5.out.free 7
        have f8:=R5.out.free 8
        have f9:=R5.out.free 9
        obtain ⟨W4,hW4⟩:∃W4,((((((((((W5.setCell ⟨w.heap.size+1,0,none⟩ (.int .i64 z2.kind)).setCell ⟨w.heap.size+1,1,none⟩ (.string z2.temp)).setCell ⟨w.heap.size+1,2,none⟩ (.string z2.ka)).setCell ⟨w.heap.size+1,3,none⟩ (.string z2.kb)).setCell ⟨w.heap.size+1,4,none⟩ (.int .i64 z2.iff)).setCell ⟨w.heap.size+1,5,none⟩ (.slice z2.vp z2.vo.length z2.vc)).setCell ⟨w.heap.size+1,6,none⟩ (.slice z2.ep z2.eo.length z2.ec)).setCell ⟨w.heap.size+1,7,none⟩ (.slice z2.pp z2.po.length z2.pc)).setCell ⟨w.heap.size+1,8,none⟩ (.int .u64 z2.stamp)).setCell ⟨w.heap.size+1,9,none⟩ (.int .i64 z2.num))=W4:=⟨_,rfl⟩
        obtain ⟨⟨g0,g1,g2,g3,g4,g5,g6,g7,g8,g9⟩,hown4,hbel4⟩:=R5.out.fin W4 hW4
        have HOW:=hid hown4
        have HBE:=hid hbel4
        clear hown4 hbel4
        go_wp2_with fail
        try rw [hW4]
        clear hW4
        exact bodyPost_ret (v:=.tuple #[.agg #[.int .i64 z2.kind,.string z2.temp,.string z2.ka,.string z2.kb,.int .i64 z2.iff,.slice z2.vp z2.vo.length z2.vc,.slice z2.ep z2.eo.length z2.ec,.slice z2.pp z2.po.length z2.pc,.int .u64 z2.stamp,.int .i64 z2.num],.bool true]) (by simp [results,Tryz.results43,go_sem,g0,g1,g2,g3,g4,g5,g6,g7,g8,g9]) rfl ⟨⟨z2,true,rfl,fun _=>HOW.out,by rw [HRW.out,HV1.out,Option.bind_some,HVL.out,HZ.out,HZ1.out];rfl⟩,HBE.out⟩
       ·have bc:(c2==0)=false:=by rw [beq_eq_false_iff_ne];exact hc
        have HVN:=hid (HVL.out.trans (if_neg hc))
        clear hc
        obtain ⟨c0,c1,c2,c3,c4,c5,c6,c7,c8,c9⟩:=R5.out.cells
        obtain ⟨o0,o1,o2,o3,o4,o5,o6,o7,o8,o9⟩:=R5.out.outs
        have f0:=R5.out.free 0
        have f1:=R5.out.free 1
        have f2:=R5.out.free 2
        have f3:=R5.out.free 3
        have f4:=R5.out.free 4
        have f5:=R5.out.free 5
        have f6:=R5.out.free 6
        have f7:=R5.out.free 7
        have f8:=R5.out.free 8
        have f9:=R5.out.free 9
        obtain ⟨W4,hW4⟩:∃W4,((((((((((W5.setCell ⟨w.heap.size+1,0,none⟩ (.int .i64 z2.kind)).setCell ⟨w.heap.size+1,1,none⟩ (.string z2.temp)).setCell ⟨w.heap.size+1,2,none⟩ (.string z2.ka)).setCell ⟨w.heap.size+1,3,none⟩ (.string z2.kb)).setCell ⟨w.heap.size+1,4,none⟩ (.int .i64 z2.iff)).setCell ⟨w.heap.size+1,5,none⟩ (.slice z2.vp z2.vo.length z2.vc)).setCell ⟨w.heap.size+1,6,none⟩ (.slice z2.ep z2.eo.length z2.ec)).setCell ⟨w.heap.size+1,7,none⟩ (.slice z2.pp z2.po.length z2.pc)).setCell ⟨w.heap.size+1,8,none⟩ (.int .u64 z2.stamp)).setCell ⟨w.heap.size+1,9,none⟩ (.int .i64 z2.num))=W4:=⟨_,rfl⟩
        obtain ⟨⟨g0,g1,g2,g3,g4,g5,g6,g7,g8,g9⟩,hown4,hbel4⟩:=R5.out.fin W4 hW4
        have HOW:=hid hown4
        have HBE:=hid hbel4
        clear hown4 hbel4
        go_wp2_with fail
        try rw [hW4]
        clear hW4
        exact bodyPost_ret (v:=.tuple #[.agg #[.int .i64 z2.kind,.string z2.temp,.string z2.ka,.string z2.kb,.int .i64 z2.iff,.slice z2.vp z2.vo.length z2.vc,.slice z2.ep z2.eo.length z2.ec,.slice z2.pp z2.po.length z2.pc,.int .u64 z2.stamp,.int .i64 z2.num],.bool false]) (by simp [results,Tryz.results43,go_sem,g0,g1,g2,g3,g4,g5,g6,g7,g8,g9]) rfl ⟨⟨z2,false,rfl,fun _=>HOW.out,by rw [HRW.out,HV1.out,Option.bind_some,HVN.out];rfl⟩,HBE.out⟩
     ·have bc:(c==0)=false:=by rw [beq_eq_false_iff_ne];exact hc
      have HVN:=hid (HVL1.out.trans (if_neg hc))
      clear hc
      go_upto_region 20 with fail
      try rw [hW2]
      clear hW2 f5 c0 c1 c2 c3 c4 c5 c6 c7 c8 c9
      obtain ⟨c0,c1,c2,c3,c4,c5,c6,c7,c8,c9⟩:=R2.out.cells
      obtain ⟨o0,o1,o2,o3,o4,o5,o6,o7,o8,o9⟩:=R2.out.outs
      have f0:=R2.out.free 0
      have f1:=R2.out.free 1
      have f2:=R2.out.free 2
      have f3:=R2.out.free 3
      have f4:=R2.out.free 4
      have f5:=R2.out.free 5
      have f6:=R2.out.free 6
      have f7:=R2.out.free 7
      have f8:=R2.out.free 8
      have f9:=R2.out.free 9
      obtain ⟨W4,hW4⟩:∃W4,((((((((((W2.setCell ⟨w.heap.size+1,0,none⟩ (.int .i64 z.kind)).setCell ⟨w.heap.size+1,1,none⟩ (.string z.temp)).setCell ⟨w.heap.size+1,2,none⟩ (.string z.ka)).setCell ⟨w.heap.size+1,3,none⟩ (.string z.kb)).setCell ⟨w.heap.size+1,4,none⟩ (.int .i64 z.iff)).setCell ⟨w.heap.size+1,5,none⟩ (.slice z.vp z.vo.length z.vc)).setCell ⟨w.heap.size+1,6,none⟩ (.slice z.ep z.eo.length z.ec)).setCell ⟨w.heap.size+1,7,none⟩ (.slice z.pp z.po.length z.pc)).setCell ⟨w.heap.size+1,8,none⟩ (.int .u64 z.stamp)).setCell ⟨w.heap.size+1,9,none⟩ (.int .i64 z.num))=W4:=⟨_,rfl⟩
      obtain ⟨⟨g0,g1,g2,g3,g4,g5,g6,g7,g8,g9⟩,hown4,hbel4⟩:=R2.out.fin W4 hW4
      have HOW:=hid hown4
      have HBE:=hid hbel4
      clear hown4 hbel4
      go_wp2_with fail
      try rw [hW4]
      clear hW4
      exact bodyPost_ret (v:=.tuple #[.agg #[.int .i64 z.kind,.string z.temp,.string z.ka,.string z.kb,.int .i64 z.iff,.slice z.vp z.vo.length z.vc,.slice z.ep z.eo.length z.ec,.slice z.pp z.po.length z.pc,.int .u64 z.stamp,.int .i64 z.num],.bool false]) (by simp [results,Tryz.results43,go_sem,g0,g1,g2,g3,g4,g5,g6,g7,g8,g9]) rfl ⟨⟨z,false,rfl,fun _=>HOW.out,by rw [HRW.out,HVN.out];rfl⟩,HBE.out⟩
    ·have hq2:(x.toList==[63])=false:=by rw [toList_data];exact beq_eq_false_iff_ne.2 hq
     have HNO2:Hid (∀z∈(bytesL ws).take (i+1),z≠[63]):=hid fun z hz=>by
      rw [List.take_add_one,HX.out] at hz
      rcases List.mem_append.1 hz with h|h
      ·exact HNO.out z h
      ·have:z=x.data.toList:=by simpa using h
       rw [this];exact hq
     clear hq
     go_wp2_with fail
     go_roundg (ws.length-(i+1))
     case measure=>omega
     exact ⟨i+1,by go_num,by omega,by omega,HNO2,R0⟩
   ·obtain rfl:i=ws.length:=by omega
    have hltz:¬ (ws.length:Int)<(ws.length:Int):=by omega
    have HNM:Hid (restR y.en (bytesL ws)=none):=hid (by
     rw [HRR.out,if_neg]
     intro q
     refine HNO.out [63] ?_ rfl
     rw [List.take_of_length_le (by unfold bytesL;rw [List.length_map];exact Nat.le_refl _)]
     exact q)
    go_upto_region 12 with fail
    obtain ⟨c0,c1,c2,c3,c4,c5,c6,c7,c8,c9⟩:=R0.out.cells
    obtain ⟨o0,o1,o2,o3,o4,o5,o6,o7,o8,o9⟩:=R0.out.outs
    have f0:=R0.out.free 0
    have f1:=R0.out.free 1
    have f2:=R0.out.free 2
    have f3:=R0.out.free 3
    have f4:=R0.out.free 4
    have f5:=R0.out.free 5
    have f6:=R0.out.free 6
    have f7:=R0.out.free 7
    have f8:=R0.out.free 8
    have f9:=R0.out.free 9
    obtain ⟨W4,hW4⟩:∃W4,((((((((((wr.setCell ⟨w.heap.size+1,0,none⟩ (.int .i64 y.kind)).setCell ⟨w.heap.size+1,1,none⟩ (.string y.temp)).setCell ⟨w.heap.size+1,2,none⟩ (.string y.ka)).setCell ⟨w.heap.size+1,3,none⟩ (.string y.kb)).setCell ⟨w.heap.size+1,4,none⟩ (.int .i64 y.iff)).setCell ⟨w.heap.size+1,5,none⟩ (.slice y.vp y.vo.length y.vc)).setCell ⟨w.heap.size+1,6,none⟩ (.slice y.ep y.eo.length y.ec)).setCell ⟨w.heap.size+1,7,none⟩ (.slice y.pp y.po.length y.pc)).setCell ⟨w.heap.size+1,8,none⟩ (.int .u64 y.stamp)).setCell ⟨w.heap.size+1,9,none⟩ (.int .i64 y.num))=W4:=⟨_,rfl⟩
    obtain ⟨⟨g0,g1,g2,g3,g4,g5,g6,g7,g8,g9⟩,hown4,hbel4⟩:=R0.out.fin W4 hW4
    have HOW:=hid hown4
    have HBE:=hid hbel4
    clear hown4 hbel4
    go_wp2_with fail
    try rw [hW4]
    clear hW4
    exact bodyPost_ret (v:=.tuple #[.agg #[.int .i64 y.kind,.string y.temp,.string y.ka,.string y.kb,.int .i64 y.iff,.slice y.vp y.vo.length y.vc,.slice y.ep y.eo.length y.ec,.slice y.pp y.po.length y.pc,.int .u64 y.stamp,.int .i64 y.num],.bool false]) (by simp [results,Tryz.results43,go_sem,g0,g1,g2,g3,g4,g5,g6,g7,g8,g9]) rfl ⟨⟨y,false,rfl,fun _=>HOW.out,by rw [HNM.out];rfl⟩,HBE.out⟩
 by_cases k4:kd=4
 case pos =>
  have HRR:=hid (HR4.out k4)
  subst k4
  rw [hkd] at c0 hW0 ⊢
  go_enter Tryz.func43,Tryz.ntmps43
  go_wp2_with fail
  try rw [hW0]
  clear hW0 c0 hkd
  refine (HPE.out W0 R0.out.bel).mono ?_
  intro e w1 hp
  obtain ⟨up,uc,eo,c,rfl,hown,hfit,hval,hb1⟩:=ew_eds hp
  have R1:=hid (R0.out.on hb1)
  have f5:=R1.out.open 6
  obtain ⟨c0,c1,c2,c3,c4,c5,c6,c7,c8,c9⟩:=R1.out.cells
  obtain ⟨z,hz⟩:∃zq:Ex,zq={ y with ep:=up,ec:=uc,eo:=eo }:=⟨_,rfl⟩
  obtain ⟨W2,hW2⟩:∃W',w1.setCell ⟨w.heap.size,6,none⟩ (.slice up eo.length uc)=W':=⟨_,rfl⟩
  have R2:Hid (RsSt w w.heap.size (w.heap.size+1) W2 z):=hid (by
   rw [←hW2]
   have hs:=R0.out.size
   have ho:OwnQ w.heap.size z w1:=by
    have q:=R1.out.own
    rw [hz]
    exact ⟨q.val,q.fit,Kind.own_weak hown (by omega),hfit,q.prd,q.pfit,⟨q.rng.temp,q.rng.ka,q.rng.kb,q.rng.k0,q.rng.k1,q.rng.i0,q.rng.i1,q.rng.t0,q.rng.t1,q.rng.n0,q.rng.n1⟩⟩
   exact R1.out.turn 6 _ ho (by rw [hz];rfl))
  have HZ:=hid hz
  have HVL:=hid hval
  clear hown hfit hval hb1 hp hz
  go_upto_region 20 with fail
  try rw [hW2]
  clear hW2 f5 c0 c1 c2 c3 c4 c5 c6 c7 c8 c9
  by_cases hc:c=0
  ·subst hc
   obtain ⟨c0,c1,c2,c3,c4,c5,c6,c7,c8,c9⟩:=R2.out.cells
   obtain ⟨o0,o1,o2,o3,o4,o5,o6,o7,o8,o9⟩:=R2.out.outs
   have f0:=R2.out.free 0
   have f1:=R2.out.free 1
   have f2:=R2.out.free 2
   have f3:=R2.out.free 3
   have f4:=R2.out.free 4
   have f5:=R2.out.free 5
   have f6:=R2.out.free 6
   have f7:=R2.out.free 7
   have f8:=R2.out.free 8
   have f9:=R2.out.free 9
   obtain ⟨W4,hW4⟩:∃W4,((((((((((W2.setCell ⟨w.heap.size+1,0,none⟩ (.int .i64 z.kind)).setCell ⟨w.heap.size+1,1,none⟩ (.string z.temp)).setCell ⟨w.heap.size+1,2,none⟩ (.string z.ka)).setCell ⟨w.heap.size+1,3,none⟩ (.string z.kb)).setCell ⟨w.heap.size+1,4,none⟩ (.int .i64 z.iff)).setCell ⟨w.heap.size+1,5,none⟩ (.slice z.vp z.vo.length z.vc)).setCell ⟨w.heap.size+1,6,none⟩ (.slice z.ep z.eo.length z.ec)).setCell ⟨w.heap.size+1,7,none⟩ (.slice z.pp z.po.length z.pc)).setCell ⟨w.heap.size+1,8,none⟩ (.int .u64 z.stamp)).setCell ⟨w.heap.size+1,9,none⟩ (.int .i64 z.num))=W4:=⟨_,rfl⟩
   obtain ⟨⟨g0,g1,g2,g3,g4,g5,g6,g7,g8,g9⟩,hown4,hbel4⟩:=R2.out.fin W4 hW4
   have HOW:=hid hown4
   have HBE:=hid hbel4
   clear hown4 hbel4
   go_wp2_with fail
   try rw [hW4]
   clear hW4
   exact bodyPost_ret (v:=.tuple #[.agg #[.int .i64 z.kind,.string z.temp,.string z.ka,.string z.kb,.int .i64 z.iff,.slice z.vp z.vo.length z.vc,.slice z.ep z.eo.length z.ec,.slice z.pp z.po.length z.pc,.int .u64 z.stamp,.int .i64 z.num],.bool true]) (by simp [results,Tryz.results43,go_sem,g0,g1,g2,g3,g4,g5,g6,g7,g8,g9]) rfl ⟨⟨z,true,rfl,fun _=>HOW.out,by rw [HRR.out,HVL.out,HZ.out];rfl⟩,HBE.out⟩
  ·have bc:(c==0)=false:=by rw [beq_eq_false_iff_ne];exact hc
   have HVN:=hid (HVL.out.trans (if_neg hc))
   clear hc
   obtain ⟨c0,c1,c2,c3,c4,c5,c6,c7,c8,c9⟩:=R2.out.cells
   obtain ⟨o0,o1,o2,o3,o4,o5,o6,o7,o8,o9⟩:=R2.out.outs
   have f0:=R2.out.free 0
   have f1:=R2.out.free 1
   have f2:=R2.out.free 2
   have f3:=R2.out.free 3
   have f4:=R2.out.free 4
   have f5:=R2.out.free 5
   have f6:=R2.out.free 6
   have f7:=R2.out.free 7
   have f8:=R2.out.free 8
   have f9:=R2.out.free 9
   obtain ⟨W4,hW4⟩:∃W4,((((((((((W2.setCell ⟨w.heap.size+1,0,none⟩ (.int .i64 z.kind)).setCell ⟨w.heap.size+1,1,none⟩ (.string z.temp)).setCell ⟨w.heap.size+1,2,none⟩ (.string z.ka)).setCell ⟨w.heap.size+1,3,none⟩ (.string z.kb)).setCell ⟨w.heap.size+1,4,none⟩ (.int .i64 z.iff)).setCell ⟨w.heap.size+1,5,none⟩ (.slice z.vp z.vo.length z.vc)).setCell ⟨w.heap.size+1,6,none⟩ (.slice z.ep z.eo.length z.ec)).setCell ⟨w.heap.size+1,7,none⟩ (.slice z.pp z.po.length z.pc)).setCell ⟨w.heap.size+1,8,none⟩ (.int .u64 z.stamp)).setCell ⟨w.heap.size+1,9,none⟩ (.int .i64 z.num))=W4:=⟨_,rfl⟩
   obtain ⟨⟨g0,g1,g2,g3,g4,g5,g6,g7,g8,g9⟩,hown4,hbel4⟩:=R2.out.fin W4 hW4
   have HOW:=hid hown4
   have HBE:=hid hbel4
   clear hown4 hbel4
   go_wp2_with fail
   try rw [hW4]
   clear hW4
   exact bodyPost_ret (v:=.tuple #[.agg #[.int .i64 z.kind,.string z.temp,.string z.ka,.string z.kb,.int .i64 z.iff,.slice z.vp z.vo.length z.vc,.slice z.ep z.eo.length z.ec,.slice z.pp z.po.length z.pc,.int .u64 z.stamp,.int .i64 z.num],.bool false]) (by simp [results,Tryz.results43,go_sem,g0,g1,g2,g3,g4,g5,g6,g7,g8,g9]) rfl ⟨⟨z,false,rfl,fun _=>HOW.out,by rw [HRR.out,HVN.out];rfl⟩,HBE.out⟩
 by_cases k5:kd=5
 case pos =>
  have HRR:=hid (HR5.out k5)
  subst k5
  rw [hkd] at c0 hW0 ⊢
  go_enter Tryz.func43,Tryz.ntmps43
  go_upto_region 19 with fail
  try rw [hW0]
  clear hW0 c0 hkd
  by_cases hn:ws.length=0
  ·obtain rfl:ws=[]:=List.length_eq_zero_iff.1 hn
   have HV0:Hid (bytesL ([]:List ByteArray)=[]):=hid rfl
   clear hn
   obtain ⟨c0,c1,c2,c3,c4,c5,c6,c7,c8,c9⟩:=R0.out.cells
   obtain ⟨o0,o1,o2,o3,o4,o5,o6,o7,o8,o9⟩:=R0.out.outs
   have f0:=R0.out.free 0
   have f1:=R0.out.free 1
   have f2:=R0.out.free 2
   have f3:=R0.out.free 3
   have f4:=R0.out.free 4
   have f5:=R0.out.free 5
   have f6:=R0.out.free 6
   have f7:=R0.out.free 7
   have f8:=R0.out.free 8
   have f9:=R0.out.free 9
   obtain ⟨W4,hW4⟩:∃W4,((((((((((W0.setCell ⟨w.heap.size+1,0,none⟩ (.int .i64 y.kind)).setCell ⟨w.heap.size+1,1,none⟩ (.string y.temp)).setCell ⟨w.heap.size+1,2,none⟩ (.string y.ka)).setCell ⟨w.heap.size+1,3,none⟩ (.string y.kb)).setCell ⟨w.heap.size+1,4,none⟩ (.int .i64 y.iff)).setCell ⟨w.heap.size+1,5,none⟩ (.slice y.vp y.vo.length y.vc)).setCell ⟨w.heap.size+1,6,none⟩ (.slice y.ep y.eo.length y.ec)).setCell ⟨w.heap.size+1,7,none⟩ (.slice y.pp y.po.length y.pc)).setCell ⟨w.heap.size+1,8,none⟩ (.int .u64 y.stamp)).setCell ⟨w.heap.size+1,9,none⟩ (.int .i64 y.num))=W4:=⟨_,rfl⟩
   obtain ⟨⟨g0,g1,g2,g3,g4,g5,g6,g7,g8,g9⟩,hown4,hbel4⟩:=R0.out.fin W4 hW4
   have HOW:=hid hown4
   have HBE:=hid hbel4
   clear hown4 hbel4
   go_wp2_with fail
   try rw [hW4]
   clear hW4
   exact bodyPost_ret (v:=.tuple #[.agg #[.int .i64 y.kind,.string y.temp,.string y.ka,.string y.kb,.int .i64 y.iff,.slice y.vp y.vo.length y.vc,.slice y.ep y.eo.length y.ec,.slice y.pp y.po.length y.pc,.int .u64 y.stamp,.int .i64 y.num],.bool true]) (by simp [results,Tryz.results43,go_sem,g0,g1,g2,g3,g4,g5,g6,g7,g8,g9]) rfl ⟨⟨y,true,rfl,fun _=>HOW.out,by rw [HRR.out,if_pos HV0.out];rfl⟩,HBE.out⟩
  ·have HV0:Hid (¬ bytesL ws=[]):=hid fun q=>hn (by have:=congrArg List.length q;simpa [bytesL] using this)
   have bn:((ws.length:Int)==0)=false:=by rw [beq_eq_false_iff_ne];omega
   clear hn
   obtain ⟨c0,c1,c2,c3,c4,c5,c6,c7,c8,c9⟩:=R0.out.cells
   obtain ⟨o0,o1,o2,o3,o4,o5,o6,o7,o8,o9⟩:=R0.out.outs
   have f0:=R0.out.free 0
   have f1:=R0.out.free 1
   have f2:=R0.out.free 2
   have f3:=R0.out.free 3
   have f4:=R0.out.free 4
   have f5:=R0.out.free 5
   have f6:=R0.out.free 6
   have f7:=R0.out.free 7
   have f8:=R0.out.free 8
   have f9:=R0.out.free 9
   obtain ⟨W4,hW4⟩:∃W4,((((((((((W0.setCell ⟨w.heap.size+1,0,none⟩ (.int .i64 y.kind)).setCell ⟨w.heap.size+1,1,none⟩ (.string y.temp)).setCell ⟨w.heap.size+1,2,none⟩ (.string y.ka)).setCell ⟨w.heap.size+1,3,none⟩ (.string y.kb)).setCell ⟨w.heap.size+1,4,none⟩ (.int .i64 y.iff)).setCell ⟨w.heap.size+1,5,none⟩ (.slice y.vp y.vo.length y.vc)).setCell ⟨w.heap.size+1,6,none⟩ (.slice y.ep y.eo.length y.ec)).setCell ⟨w.heap.size+1,7,none⟩ (.slice y.pp y.po.length y.pc)).setCell ⟨w.heap.size+1,8,none⟩ (.int .u64 y.stamp)).setCell ⟨w.heap.size+1,9,none⟩ (.int .i64 y.num))=W4:=⟨_,rfl⟩
   obtain ⟨⟨g0,g1,g2,g3,g4,g5,g6,g7,g8,g9⟩,hown4,hbel4⟩:=R0.out.fin W4 hW4
   have HOW:=hid hown4
   have HBE:=hid hbel4
   clear hown4 hbel4
   go_wp2_with fail
   try rw [hW4]
   clear hW4
   exact bodyPost_ret (v:=.tuple #[.agg #[.int .i64 y.kind,.string y.temp,.string y.ka,.string y.kb,.int .i64 y.iff,.slice y.vp y.vo.length y.vc,.slice y.ep y.eo.length y.ec,.slice y.pp y.po.length y.pc,.int .u64 y.stamp,.int .i64 y.num],.bool false]) (by simp [results,Tryz.results43,go_sem,g0,g1,g2,g3,g4,g5,g6,g7,g8,g9]) rfl ⟨⟨y,false,rfl,fun _=>HOW.out,by rw [HRR.out,if_neg HV0.out];rfl⟩,HBE.out⟩
 have HRR:=hid (HRX.out k1 k2 k3 k4 k5)
 have b1:(kd==1)=false:=by rw [beq_eq_false_iff_ne];exact k1
 have b2:(kd==2)=false:=by rw [beq_eq_false_iff_ne];exact k2
 have b3:(kd==3)=false:=by rw [beq_eq_false_iff_ne];exact k3
 have b4:(kd==4)=false:=by rw [beq_eq_false_iff_ne];exact k4
 have b5:(kd==5)=false:=by rw [beq_eq_false_iff_ne];exact k5
 clear k1 k2 k3 k4 k5
 rw [hkd] at c0 hW0 ⊢
 go_enter Tryz.func43,Tryz.ntmps43
 go_wp2_with fail
 try rw [hW0]
 clear hW0 c0 hkd
 refine (HPT.out W0 R0.out.bel).mono ?_
 intro e w1 hp
 obtain ⟨up,uc,po,c,rfl,hown,hfit,hval,hb1⟩:=tw_prd hp
 have R1:=hid (R0.out.on hb1)
 have f5:=R1.out.open 7
 obtain ⟨c0,c1,c2,c3,c4,c5,c6,c7,c8,c9⟩:=R1.out.cells
 obtain ⟨z,hz⟩:∃zq:Ex,zq={ y with pp:=up,pc:=uc,po:=po }:=⟨_,rfl⟩
 obtain ⟨W2,hW2⟩:∃W',w1.setCell ⟨w.heap.size,7,none⟩ (.slice up po.length uc)=W':=⟨_,rfl⟩
 have R2:Hid (RsSt w w.heap.size (w.heap.size+1) W2 z):=hid (by
  rw [←hW2]
  have hs:=R0.out.size
  have ho:OwnQ w.heap.size z w1:=by
   have q:=R1.out.own
   rw [hz]
   exact ⟨q.val,q.fit,q.eds,q.efit,Kind.own_weak hown (by omega),hfit,⟨q.rng.temp,q.rng.ka,q.rng.kb,q.rng.k0,q.rng.k1,q.rng.i0,q.rng.i1,q.rng.t0,q.rng.t1,q.rng.n0,q.rng.n1⟩⟩
  exact R1.out.turn 7 _ ho (by rw [hz];rfl))
 have HZ:=hid hz
 have HVL:=hid hval
 clear hown hfit hval hb1 hp hz
 go_upto_region 20 with fail
 try rw [hW2]
 clear hW2 f5 c0 c1 c2 c3 c4 c5 c6 c7 c8 c9
 by_cases hc:c=0
 ·subst hc
  obtain ⟨c0,c1,c2,c3,c4,c5,c6,c7,c8,c9⟩:=R2.out.cells
  obtain ⟨o0,o1,o2,o3,o4,o5,o6,o7,o8,o9⟩:=R2.out.outs
  have f0:=R2.out.free 0
  have f1:=R2.out.free 1
  have f2:=R2.out.free 2
  have f3:=R2.out.free 3
  have f4:=R2.out.free 4
  have f5:=R2.out.free 5
  have f6:=R2.out.free 6
  have f7:=R2.out.free 7
  have f8:=R2.out.free 8
  have f9:=R2.out.free 9
  obtain ⟨W4,hW4⟩:∃W4,((((((((((W2.setCell ⟨w.heap.size+1,0,none⟩ (.int .i64 z.kind)).setCell ⟨w.heap.size+1,1,none⟩ (.string z.temp)).setCell ⟨w.heap.size+1,2,none⟩ (.string z.ka)).setCell ⟨w.heap.size+1,3,none⟩ (.string z.kb)).setCell ⟨w.heap.size+1,4,none⟩ (.int .i64 z.iff)).setCell ⟨w.heap.size+1,5,none⟩ (.slice z.vp z.vo.length z.vc)).setCell ⟨w.heap.size+1,6,none⟩ (.slice z.ep z.eo.length z.ec)).setCell ⟨w.heap.size+1,7,none⟩ (.slice z.pp z.po.length z.pc)).setCell ⟨w.heap.size+1,8,none⟩ (.int .u64 z.stamp)).setCell ⟨w.heap.size+1,9,none⟩ (.int .i64 z.num))=W4:=⟨_,rfl⟩
  obtain ⟨⟨g0,g1,g2,g3,g4,g5,g6,g7,g8,g9⟩,hown4,hbel4⟩:=R2.out.fin W4 hW4
  have HOW:=hid hown4
  have HBE:=hid hbel4
  clear hown4 hbel4
  go_wp2_with fail
  try rw [hW4]
  clear hW4
  exact bodyPost_ret (v:=.tuple #[.agg #[.int .i64 z.kind,.string z.temp,.string z.ka,.string z.kb,.int .i64 z.iff,.slice z.vp z.vo.length z.vc,.slice z.ep z.eo.length z.ec,.slice z.pp z.po.length z.pc,.int .u64 z.stamp,.int .i64 z.num],.bool true]) (by simp [results,Tryz.results43,go_sem,g0,g1,g2,g3,g4,g5,g6,g7,g8,g9]) rfl ⟨⟨z,true,rfl,fun _=>HOW.out,by rw [HRR.out,HVL.out,HZ.out];rfl⟩,HBE.out⟩
 ·have bc:(c==0)=false:=by rw [beq_eq_false_iff_ne];exact hc
  have HVN:=hid (HVL.out.trans (if_neg hc))
  clear hc
  obtain ⟨c0,c1,c2,c3,c4,c5,c6,c7,c8,c9⟩:=R2.out.cells
  obtain ⟨o0,o1,o2,o3,o4,o5,o6,o7,o8,o9⟩:=R2.out.outs
  have f0:=R2.out.free 0
  have f1:=R2.out.free 1
  have f2:=R2.out.free 2
  have f3:=R2.out.free 3
  have f4:=R2.out.free 4
  have f5:=R2.out.free 5
  have f6:=R2.out.free 6
  have f7:=R2.out.free 7
  have f8:=R2.out.free 8
  have f9:=R2.out.free 9
  obtain ⟨W4,hW4⟩:∃W4,((((((((((W2.setCell ⟨w.heap.size+1,0,none⟩ (.int .i64 z.kind)).setCell ⟨w.heap.size+1,1,none⟩ (.string z.temp)).setCell ⟨w.heap.size+1,2,none⟩ (.string z.ka)).setCell ⟨w.heap.size+1,3,none⟩ (.string z.kb)).setCell ⟨w.heap.size+1,4,none⟩ (.int .i64 z.iff)).setCell ⟨w.heap.size+1,5,none⟩ (.slice z.vp z.vo.length z.vc)).setCell ⟨w.heap.size+1,6,none⟩ (.slice z.ep z.eo.length z.ec)).setCell ⟨w.heap.size+1,7,none⟩ (.slice z.pp z.po.length z.pc)).setCell ⟨w.heap.size+1,8,none⟩ (.int .u64 z.stamp)).setCell ⟨w.heap.size+1,9,none⟩ (.int .i64 z.num))=W4:=⟨_,rfl⟩
  obtain ⟨⟨g0,g1,g2,g3,g4,g5,g6,g7,g8,g9⟩,hown4,hbel4⟩:=R2.out.fin W4 hW4
  have HOW:=hid hown4
  have HBE:=hid hbel4
  clear hown4 hbel4
  go_wp2_with fail
  try rw [hW4]
  clear hW4
  exact bodyPost_ret (v:=.tuple #[.agg #[.int .i64 z.kind,.string z.temp,.string z.ka,.string z.kb,.int .i64 z.iff,.slice z.vp z.vo.length z.vc,.slice z.ep z.eo.length z.ec,.slice z.pp z.po.length z.pc,.int .u64 z.stamp,.int .i64 z.num],.bool false]) (by simp [results,Tryz.results43,go_sem,g0,g1,g2,g3,g4,g5,g6,g7,g8,g9]) rfl ⟨⟨z,false,rfl,fun _=>HOW.out,by rw [HRR.out,HVN.out];rfl⟩,HBE.out⟩
end
section
open Go.RowKit Go.Lib
theorem slash_at {s:ByteArray} {i k:Nat} (hl:s.data.toList[i]? = some 47) (hn:(47:UInt8) ∉ s.data.toList.take i) (hk:k<s.size) (hc:s[k]=47) (hb:keyB (s.extract 0 k) (s.extract (k+1) s.size)=true):k=i:=by
 have hkl:s.data.toList[k]? = some 47:=by
  rw [List.getElem?_eq_getElem (by simpa using hk)]
  exact congrArg some ((byte_list s k hk).trans hc)
 rcases Nat.lt_trichotomy k i with h|h|h
 ·refine absurd ?_ hn
  exact List.mem_of_getElem? (i:=k) (by rw [List.getElem?_take,if_pos h];exact hkl)
 ·exact h
 ·have ht:=typeB_slash (keyB_parts hb).1
  rw [ext_head] at ht
  refine absurd ?_ ht
  exact List.mem_of_getElem? (i:=i) (by rw [List.getElem?_take,if_pos h];exact hl)
theorem rkeyp16_any (s:ByteArray) (w:World) (hs:s.size≤maxLen) :
  Calls Tryz.prog 41 #[.string s] w fun e w'=>(∃(a b:ByteArray) (c:Int),e=.returned (.tuple #[.agg #[.string a,.string b],.int .i64 c]) ∧
   ((c=0∧keyR s.data.toList=some (a,b))∨(c=2∧keyR s.data.toList=none)))∧Below w.heap.size w w':=by
 rcases ix_cases s.data.toList 47 with ⟨h1,h2⟩|⟨i,h1,h2,h3,h4⟩
 ·refine (krparse_any s w hs ⟨#[]⟩ ⟨#[]⟩ 2 (fun k hk hc _=>?_) fun _=>⟨rfl,rfl,rfl⟩).mono ?_
  ·refine absurd ?_ h2
   rw [←hc,←byte_list s k hk]
   exact List.getElem_mem _
  ·rintro e w' ⟨rfl,hb⟩
   exact ⟨⟨_,_,2,rfl,.inr ⟨rfl,by unfold keyR;rw [if_pos h1]⟩⟩,hb⟩
 ·have hi:i<s.size:=by simpa using h2
  have e1:(s.extract 0 i)=⟨(s.data.toList.take i).toArray⟩:=ba_ext (by rw [ext_head])
  have e2:(s.extract (i+1) s.size)=⟨(s.data.toList.drop (i+1)).toArray⟩:=ba_ext (by rw [ext_tail])
  have hne:¬ Lib.indexByte s.data.toList 47=-1:=by rw [h1];omega
  have hto:(Lib.indexByte s.data.toList 47).toNat=i:=by rw [h1];rfl
  have hci:s[i]=47:=by
   have q:=h3
   rw [List.getElem?_eq_getElem h2] at q
   rw [←byte_list s i hi];exact Option.some.inj q
  cases hk:keyB (s.extract 0 i) (s.extract (i+1) s.size) with
  | false =>
   refine (krparse_any s w hs ⟨#[]⟩ ⟨#[]⟩ 2 (fun k hk' hc hb=>?_) fun _=>⟨rfl,rfl,rfl⟩).mono ?_
   ·obtain rfl:=slash_at h3 h4 hk' hc hb
    rw [hk] at hb;cases hb
   ·rintro e w' ⟨rfl,hb⟩
    refine ⟨⟨_,_,2,rfl,.inr ⟨rfl,?_⟩⟩,hb⟩
    unfold keyR
    rw [if_neg hne]
    simp only [hto]
    rw [←e1,←e2,hk];rfl
  | true =>
   refine (krparse_any s w hs (s.extract 0 i) (s.extract (i+1) s.size) 0 (fun k hk' hc hb=>?_) fun hall=>?_).mono ?_
   ·obtain rfl:=slash_at h3 h4 hk' hc hb
    exact ⟨rfl,rfl,rfl⟩
   ·rw [hall i hi hci] at hk;cases hk
   ·rintro e w' ⟨rfl,hb⟩
    refine ⟨⟨_,_,0,rfl,.inl ⟨rfl,?_⟩⟩,hb⟩
    unfold keyR
    rw [if_neg hne]
    simp only [hto]
    rw [←e1,←e2,hk];rfl
theorem kindW_is {l:List UInt8} {k:Nat} (h:kindW l=k) (hk:k≠0):nameN k=l:=by
 unfold kindW at h
 split at h
 ·exact absurd h.symm hk
 ·cases hf:(List.range 13).find? (fun k=>decide (nameN k=l)) with
  | none=>rw [hf] at h;exact absurd h.symm hk
  | some j =>
   rw [hf] at h
   obtain rfl:j=k:=h
   simpa using List.find?_some hf
def upK (l:List UInt8) (k:Nat):Nat:=if kindW l<k then kindW l else 0
theorem upK_yes {l:List UInt8} {k:Nat} (h1:1≤k) (h2:k≤12) (h:l=nameN k):upK l (k+1)=k:=by
 have:kindW l=k:=by rw [h];exact kind_name k h1 h2
 unfold upK;rw [this,if_pos (by omega)]
theorem upK_no {l:List UInt8} {k:Nat} (h1:1≤k) (h:¬ l=nameN k):upK l (k+1)=upK l k:=by
 have:kindW l≠k:=fun q=>h (kindW_is q (by omega)).symm
 unfold upK
 by_cases hl:kindW l<k
 ·rw [if_pos hl,if_pos (by omega)]
 ·rw [if_neg hl,if_neg (by omega)]
theorem upK_one (l:List UInt8):upK l 1=0:=by unfold upK;split<;>omega
theorem upK_all (l:List UInt8):upK l 13=kindW l:=by unfold upK;rw [if_pos (by have:=kindW_le l;omega)]
theorem bytes_drop {ws:List ByteArray} {n:Nat} {x:ByteArray} (h:ws[n]? = some x):bytesL (ws.drop n)=x.data.toList::bytesL (ws.drop (n+1)):=by
 obtain ⟨hn,rfl⟩:=List.getElem?_eq_some_iff.1 h
 rw [List.drop_eq_getElem_cons hn];rfl
theorem bytes_none {ws:List ByteArray} {n:Nat} (h:ws.length≤n):bytesL (ws.drop n)=[]:=by rw [List.drop_eq_nil_of_le h];rfl
theorem bytes_at (ws:List ByteArray) (n:Nat):(bytesL (ws.drop n))[0]? = (ws.map (·.data.toList))[n]?:=by unfold bytesL;simp
theorem bytes_at1 (ws:List ByteArray) (n:Nat):(bytesL (ws.drop n))[1]? = (ws.map (·.data.toList))[n+1]?:=by unfold bytesL;simp
theorem bytes_len (ws:List ByteArray) (n:Nat):(bytesL (ws.drop n)).length=ws.length-n:=by unfold bytesL;simp
theorem stampR_le {x:Option (List UInt8)} {n:Nat} (h:stampR x=some n):n≤18446744073709551615:=by
 cases x with
 | none=>cases h
 | some l=>exact numL_le h
theorem smallR_le {x:Option (List UInt8)} {n:Nat} (h:smallR x=some n):n≤999999999:=by
 cases x with
 | none=>cases h
 | some l=>exact numL_le h
theorem tlr_num {e:En} {w:List (List UInt8)} (h:e.kind=7):tailR e w=if w.length=1 then (smallR w[0]?).bind fun n=>some { e with num:=(n:Int) } else none:=by
 unfold tailR
 rw [if_pos h]
 split
 ·cases smallR w[0]?<;>rfl
 ·rfl
theorem tlr_stamp {e:En} {w:List (List UInt8)} (h:e.kind=9∨e.kind=10):tailR e w=if w.length=1 then (stampR w[0]?).bind fun n=>some { e with stamp:=(n:Int) } else none:=by
 unfold tailR
 rw [if_neg (by omega),if_pos h]
 split
 ·cases stampR w[0]?<;>rfl
 ·rfl
theorem tlr_plain {e:En} {w:List (List UInt8)} (h:e.kind=6∨e.kind=11):tailR e w=if w=[] then some e else none:=by
 unfold tailR
 rw [if_neg (by omega),if_neg (by omega),if_pos h]
theorem tlr_if {e:En} {w:List (List UInt8)} (h3:3≤e.kind) (h5:e.kind≤5) (hw:w[0]? = some [105,102]):tailR e w=(smallR w[1]?).bind fun n=>if n=0 then none else restR { e with iff:=(n:Int) } (w.drop 2):=by
 unfold tailR
 rw [if_neg (by omega),if_neg (by omega),if_neg (by omega),if_pos ⟨h3,h5,hw⟩]
theorem tlr_rest {e:En} {w:List (List UInt8)} (h7:e.kind≠7) (h9:e.kind≠9) (h10:e.kind≠10) (h6:e.kind≠6) (h11:e.kind≠11) (h:¬ (3≤e.kind∧e.kind≤5∧w[0]? = some [105,102])):tailR e w=restR e w:=by
 unfold tailR
 rw [if_neg h7,if_neg (by omega),if_neg (by omega),if_neg h]
theorem kyt_typed {e:En} {x:List UInt8} {w:List (List UInt8)} (h:typedK e.kind=true):keyT e (x::w)=tailR { e with ka:=⟨x.toArray⟩ } w:=by
 show (if typedK e.kind=true then _ else _)=_
 rw [if_pos h]
theorem kyt_plain {e:En} {x:List UInt8} {w:List (List UInt8)} (h:typedK e.kind=false):keyT e (x::w)=(keyR x).bind fun k=>tailR { e with ka:=k.1,kb:=k.2 } w:=by
 show (if typedK e.kind=true then _ else _)=_
 rw [if_neg (by rw [h];decide)]
end
section
open Go.RowKit Go.Lib
theorem ba_of (b:ByteArray):(⟨b.data.toList.toArray⟩:ByteArray)=b:=by obtain ⟨⟨l⟩⟩:=b;rfl
theorem conv_one (w:World) (v:Int) (c:UInt8) (h:v=((c.toNat:Nat):Int)) :
  (convert 89 9 (.slice (some ⟨w.heap.size,0,none⟩) 1 1)).run Tryz.prog (w.alloc (.cells #[.int .u8 v] 5))=.ok (.string ⟨#[c]⟩) (w.alloc (.cells #[.int .u8 v] 5)):=by
 subst h
 exact run_convert_bytes_back _ _ _ _ ⟨w.heap.size,0,none⟩ 1 [c] Tryz.underlying89 Tryz.underlying5 Tryz.underlying9 (fun j hj=>by
  obtain rfl:j=0:=by simpa using hj
  exact new_byte w _ 0 _ rfl)
set_option maxHeartbeats 4000000 in
theorem rdec16_any (m:Nat) (w:World) (hm:m≤18446744073709551615) :
  Calls Tryz.prog 53 #[.int .u64 (m:Nat)] w fun e w'=>e=.returned (.string ⟨(decL m).toArray⟩)∧Below w.heap.size w w':=by
 have HL:=hid (decL_len m 19 (by omega))
 go_enter Tryz.func53,Tryz.ntmps53
 go_wp2_with fail
 go_loopg [0,3] m (fun g v0 vs wr=>∃(n:Nat) (S:ByteArray),v0=.int .u64 (n:Nat)∧vs=.string S∧n≤m∧n≤g∧Below w.heap.size w wr∧Hid (decL m=decL n++S.data.toList))
 case atStart=>exact ⟨m,⟨#[]⟩,rfl,rfl,by omega,by omega,Below.refl _ _,by show _=_;exact (List.append_nil _).symm⟩
 case round =>
  obtain ⟨n,S,rfl,rfl,hn,hg,hb,HD⟩:=hrel
  have hsz:S.size≤20:=by
   have h1:=congrArg List.length HD.out
   have h2:=HL.out
   have h3:S.data.toList.length=S.size:=by simp
   rw [List.length_append] at h1
   omega
  have HD1:Hid (n<10→decL m=UInt8.ofNat (48+n % 10)::S.data.toList):=fun h=>by rw [HD.out,decL_one h];rfl
  have HD2:Hid (¬ n<10→decL m=decL (n / 10)++UInt8.ofNat (48+n % 10)::S.data.toList):=fun h=>by rw [HD.out,decL_more h,List.append_assoc];rfl
  have HB:=hid hb
  clear hb
  have kc:=conv_one wr (48+(n:Int) % 10) (UInt8.ofNat (48+n % 10)) (by rw [digit_nat (Nat.mod_lt _ (by omega))];omega)
  generalize UInt8.ofNat (48+n % 10)=c at *
  have HS:Hid (((⟨#[c]⟩:ByteArray)++S).data.toList=c::S.data.toList):=by
   show _=_
   rw [ByteArray.data_append]
   simp
  have HB2:Hid (Below w.heap.size w (wr.alloc (.cells #[.int .u8 (48+(n:Int) % 10)] 5))):=HB.out.alloc HB.out.size _
  by_cases h:n<10
  ·have hz:((n:Int) / 10==0)=true:=by rw [beq_iff_eq];omega
   have HF:=hid (HD1.out h)
   clear HD1 HD2
   go_wp2_with fail
   go_ret
   rw [HF.out,←HS.out,ba_of]
   exact ⟨rfl,HB2.out⟩
  ·have hz:((n:Int) / 10==0)=false:=by rw [beq_eq_false_iff_ne];omega
   have HF:=hid (HD2.out h)
   clear HD1 HD2
   go_wp2_with fail
   go_roundg (n / 10)
   case measure=>omega
   refine ⟨n / 10,⟨#[c]⟩++S,by go_num,rfl,by omega,by omega,HB2.out,?_⟩
   rw [HS.out]
   exact HF.out
end
end Go.Proofs.YtjeogllmpjihaaaGreatDoor
