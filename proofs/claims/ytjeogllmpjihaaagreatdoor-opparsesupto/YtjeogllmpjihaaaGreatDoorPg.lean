/-
  Texts of this claim, one behind the other: Oqt Oqq.
-/
import Derived.Test.YtjeogllmpjihaaaGreatDoorPf
namespace Go.Proofs.YtjeogllmpjihaaaGreatDoor
section
open Go.RowKit
def sep3:List UInt8:=[32,59,32]
def split3 (l:List UInt8):List (List UInt8):=Lib.split l sep3
theorem split3_no {l:List UInt8} (h:Lib.index l sep3=-1):split3 l=[l]:=by
 unfold split3 Lib.split
 rw [Lib.count_miss h];rfl
theorem split3_yes {l:List UInt8} {i:Nat} (h:Lib.index l sep3=(i:Int)):split3 l=l.take i::split3 (l.drop (i+3)):=by
 unfold split3 Lib.split
 rw [Lib.count_hit (by decide) h,Nat.add_comm]
 have hne:¬ (Lib.index l sep3 == -1)=true:=by rw [h];simp
 rw [Lib.splitK,if_neg hne,h]
 simp only [Int.toNat_natCast,Nat.add_zero]
 rfl
theorem ix3_cases (l:List UInt8):Lib.index l sep3=-1∨∃i:Nat,Lib.index l sep3=(i:Int)∧i+3≤l.length:=by
 rcases Lib.index_spec l sep3 with ⟨h,_⟩|⟨i,h,_⟩
 ·exact .inl h
 ·refine .inr ⟨i,h,?_⟩
  have:=Lib.index_room l sep3 (by rw [h];omega)
  rw [h] at this
  have e:sep3.length=3:=rfl
  omega
theorem split3_pos (l:List UInt8):0<(split3 l).length:=by
 rcases ix3_cases l with h|⟨i,h,_⟩
 ·rw [split3_no h];simp
 ·rw [split3_yes h];simp
def Box3 (b1 b2 b3:Nat) (t:ByteArray) (W:World):Prop :=
 W.heap[b1]? = some (.cells #[.string ⟨#[32,59,32]⟩] 9 (0,0))∧W.heap[b2]? = some (.cells #[.string t] 9 (0,0))∧W.heap[b3]? = some (.cells #[.int .i64 0] 3 (0,0))∧b1≠b2∧b3≠b2
def MaxIn (W:World):Prop:=∃m:Int,W.cell? ⟨2,0,none⟩=some (.int .i64 m)
theorem MaxIn.kept {W W':World} (h:MaxIn W) (hk:W'.heap[(2:Nat)]? = W.heap[(2:Nat)]?):MaxIn W':=by
 obtain ⟨m,hm⟩:=h
 refine ⟨m,?_⟩
 rw [←hm]
 unfold World.cell?
 rw [hk]
def Kp4 (b1 b2 b3:Nat) (W W':World):Prop:=Kp3 b1 b2 b3 W W'∧W'.heap[(2:Nat)]? = W.heap[(2:Nat)]?
def SplitSt3 {M:Nat} (b1 b2 b3:Nat) (s:ByteArray) (J:List (Wd M)→World→Prop) (wr:World):Prop :=
 ∃(pre:List (Wd M)) (t:ByteArray),Box3 b1 b2 b3 t wr∧MaxIn wr∧t.size≤M∧split3 s.data.toList=plainW pre++split3 t.data.toList∧J pre wr
theorem box3_cells {b1 b2 b3:Nat} {t:ByteArray} {W:World} (h:Box3 b1 b2 b3 t W):W.cell? ⟨b1,0,none⟩=some (.string ⟨#[32,59,32]⟩)∧W.cell? ⟨b2,0,none⟩=some (.string t)∧W.cell? ⟨b3,0,none⟩=some (.int .i64 0)∧W.frozen? ⟨b2,0,none⟩=false :=
 ⟨by rw [Lib.cell_of_heap h.1];rfl,by rw [Lib.cell_of_heap h.2.1];rfl,by rw [Lib.cell_of_heap h.2.2.1];rfl,Lib.frozen_of_heap h.2.1 0⟩
theorem Box3.kp {b1 b2 b3:Nat} {t:ByteArray} {W W':World} (h:Box3 b1 b2 b3 t W) (hk:Kp3 b1 b2 b3 W W'):Box3 b1 b2 b3 t W' :=
 ⟨hk.1.trans h.1,hk.2.1.trans h.2.1,hk.2.2.trans h.2.2.1,h.2.2.2⟩
theorem Box3.put {b1 b2 b3:Nat} {t u:ByteArray} {W:World} (h:Box3 b1 b2 b3 t W):Box3 b1 b2 b3 u (W.setCell ⟨b2,0,none⟩ (.string u)) :=
 ⟨(Below.heap_setCell W ⟨b2,0,none⟩ _ b1 h.2.2.2.1).trans h.1,heap_setCell_same W b2 0 _ _ _ h.2.1,(Below.heap_setCell W ⟨b2,0,none⟩ _ b3 h.2.2.2.2).trans h.2.2.1,h.2.2.2⟩
theorem left3_eq {b1 b2 b3:Nat} {t:ByteArray} {W:World} (h:Box3 b1 b2 b3 t W):leftOf b2 W=t.size:=by
 unfold leftOf
 rw [(box3_cells h).2.1]
set_option maxHeartbeats 4000000 in
set_option maxRecDepth 100000 in
theorem split3_in (n:Nat) (hn:1≤n) (M l b1 b2 b3:Nat) (s:ByteArray) (hs:s.size≤M) (hM:M≤4294967000) (J Jx:List (Wd M)→World→Prop)
  (hJ:∀s W v,J s W→J s (W.setCell ⟨b2,0,none⟩ v)) (hb2:(2:Nat)≠b2)
  (hY:∀pre x W,J pre W→pre.length<(split3 s.data.toList).length→YieldAt Fence.wide (n-1) Tryz.prog l (encW x) W fun e W' =>
   (e=.returned (.bool true)∧J (pre++[x]) W'∧Kp4 b1 b2 b3 W W')∨(e=.returned (.bool false)∧Jx (pre++[x]) W'))
  (W:World) (hB:Box3 b1 b2 b3 s W) (hMx:MaxIn W) (h0:J [] W) :
  CallsIn Fence.wide n Tryz.prog 61 #[.func (.yield l) #[] #[],.pointer (some ⟨b1,0,none⟩),.pointer (some ⟨b2,0,none⟩),.pointer (some ⟨b3,0,none⟩)] W fun e W'=>(∃v,e=.returned v) ∧
   ((∃ys,plainW ys=split3 s.data.toList∧J ys W')∨(∃pre,plainW pre <+: split3 s.data.toList∧Jx pre W')):=by
 refine callsIn_of_wp Tryz.func61 rfl trivial ?_ rfl
 simp only [Tryz.ntmps61,List.size_toArray,List.length_cons,List.length_nil,Nat.reduceAdd,Nat.reduceSub,Array.replicate_succ,Array.replicate_zero,List.push_toArray,List.append_toArray,List.nil_append,List.cons_append]
 have c1:W.cell? ⟨b1,0,none⟩=some (.string ⟨#[32,59,32]⟩):=by rw [Lib.cell_of_heap hB.1];rfl
 have HB:=hid hB
 clear hB
 gi_wp2
 clear c1
 have ST0:Hid (SplitSt3 b1 b2 b3 s J W):=⟨[],s,HB.out,hMx,hs,rfl,h0⟩
 gi_loopw [7] (fun _ wr=>SplitSt3 b1 b2 b3 s J wr) (fun _ wr=>leftOf b2 wr)
 case atStart=>exact ST0.out
 case round =>
  obtain ⟨pre,t,hB,hMr,ht,hsp,hJs⟩:=hrel
  obtain ⟨k1,k2,k3,k4⟩:=box3_cells hB
  have hlen:pre.length<(split3 s.data.toList).length:=by
   rw [hsp,List.length_append]
   have:=split3_pos t.data.toList
   have e:(plainW pre).length=pre.length:=by simp [plainW]
   omega
  have HMR:=hid hMr
  obtain ⟨m,hm⟩:=hMr
  have HIX:Hid (Calls Tryz.prog 63 #[.string t,.string ⟨#[32,59,32]⟩] wr fun e w'=>e=.returned (.int .i64 (Lib.index t.data.toList sep3))∧w'=wr):=hid (Tryz.strings_Index t ⟨#[32,59,32]⟩ m wr (by omega) hm)
  clear hm
  rcases ix3_cases t.data.toList with hix|⟨i,hix,hil⟩
  ·have HX:=hid hix
   have hsn:=split3_no hix
   have HF:Hid (plainW (pre++[⟨t,ht⟩])=split3 s.data.toList):=by
    show _=_
    rw [hsp,hsn];simp [plainW]
   obtain ⟨fn,tmps,assign,body,hy,hR⟩:=hY pre ⟨t,ht⟩ wr hJs hlen
   simp only [encW] at hy
   clear hix hsn hsp
   gi_wp2_with (refine ⟨trivial,?_⟩;gi_at_call 63;refine (callsIn_wide.2 HIX.out).mono ?_;rintro e w' ⟨rfl,rfl⟩;rw [HX.out])
   refine hR.mono ?_
   rintro e W3 (⟨rfl,hJ3,_⟩|⟨rfl,hJx3⟩)
   ·gi_wp2
    go_end0
    exact ⟨⟨_,rfl⟩,.inl ⟨_,HF.out,hJ3⟩⟩
   ·gi_wp2
    go_end0
    exact ⟨⟨_,rfl⟩,.inr ⟨_,⟨[],by rw [HF.out];simp⟩,hJx3⟩⟩
  ·have HX:=hid hix
   have hsn:=split3_yes hix
   have hil':i+3≤t.size:=by simpa using hil
   have hxs:(t.extract 0 i).size≤M:=by simp;omega
   have e1:(t.extract 0 i).data.toList=t.data.toList.take i:=by rw [Lib.extract_data];simp
   have e2:(t.extract (i+3) t.size).data.toList=t.data.toList.drop (i+3):=Lib.extract_to_end t (i+3)
   have HF:Hid (split3 s.data.toList=plainW (pre++[(⟨t.extract 0 i,hxs⟩:Wd M)])++split3 (t.extract (i+3) t.size).data.toList):=by
    show _=_
    rw [hsp,hsn,e2]
    simp only [plainW,List.map_append,List.map_cons,List.map_nil,e1,List.append_assoc,List.cons_append,List.nil_append]
   obtain ⟨fn,tmps,assign,body,hy,hR⟩:=hY pre ⟨t.extract 0 i,hxs⟩ wr hJs hlen
   simp only [encW] at hy
   have z0:(0:Int)≤(i:Int):=by omega
   have z1:(i:Int)≤(t.size:Int):=by omega
   have z2:(0:Int)≤(i:Int)+3:=by omega
   have z3:(i:Int)+3≤(t.size:Int):=by omega
   have HB2:=hid hB
   clear hix hsn hsp e1 e2 hil hB
   gi_wp2_with (refine ⟨trivial,?_⟩;gi_at_call 63;refine (callsIn_wide.2 HIX.out).mono ?_;rintro e w' ⟨rfl,rfl⟩;rw [HX.out])
   refine hR.mono ?_
   rintro e W3 (⟨rfl,hJ3,hk3⟩|⟨rfl,hJx3⟩)
   ·have hB3:=HB2.out.kp hk3.1
    have HM3:Hid (MaxIn (W3.setCell ⟨b2,0,none⟩ (.string (t.extract (i+3) t.size)))):=hid ((HMR.out.kept hk3.2).kept (Below.heap_setCell W3 ⟨b2,0,none⟩ _ _ hb2))
    obtain ⟨m1,m2,m3,m4⟩:=box3_cells hB3
    have HJ3:=hid (hJ _ W3 (.string (t.extract (i+3) t.size)) hJ3)
    have HB4:Hid (Box3 b1 b2 b3 (t.extract (i+3) t.size) (W3.setCell ⟨b2,0,none⟩ (.string (t.extract (i+3) t.size)))):=hB3.put
    have HM1:=hid (left3_eq HB2.out)
    have HM2:=hid (left3_eq HB4.out)
    clear hJ3 hB3 hk3
    gi_wp2
    go_roundw
    case rel=>exact ⟨_,_,HB4.out,HM3.out,by simp;omega,HF.out,HJ3.out⟩
    case measure=>rw [HM1.out,HM2.out];simp;omega
   ·gi_wp2
    refine bodyPost_ret (results_none rfl _ _ _) rfl ?_
    exact ⟨⟨_,rfl⟩,.inr ⟨_,⟨_,HF.out.symm⟩,hJx3⟩⟩
theorem cell_lt3 {w:World} {a:Addr} {v:Value} (h:w.cell? a=some v):a.block<w.heap.size:=by
 rcases Nat.lt_or_ge a.block w.heap.size with h'|h'
 ·exact h'
 ·simp [World.cell?,Array.getElem?_eq_none h'] at h
theorem split3_seq (n:Nat) (hn:1≤n) (M b1 b2 b3:Nat) (s:ByteArray) (hs:s.size≤M) (hM:M≤4294967000) (w:World) (hB:Box3 b1 b2 b3 s w) (hMx:MaxIn w) (hb2:(2:Nat)≠b2) :
  SeqB Fence.wide n Tryz.prog 61 #[.pointer (some ⟨b1,0,none⟩),.pointer (some ⟨b2,0,none⟩),.pointer (some ⟨b3,0,none⟩)] (encW (M:=M)) (Kp4 b1 b2 b3) (fun xs=>plainW xs=split3 s.data.toList) (fun pre=>plainW pre <+: split3 s.data.toList) (split3 s.data.toList).length b2 w:=by
 intro l J Jx W hb hJ hY h0
 have l1:b1<w.heap.size:=(Array.getElem?_eq_some_iff.1 hB.1).1
 have l2:b2<w.heap.size:=(Array.getElem?_eq_some_iff.1 hB.2.1).1
 have l3:b3<w.heap.size:=(Array.getElem?_eq_some_iff.1 hB.2.2.1).1
 have l0:(2:Nat)<w.heap.size:=by
  obtain ⟨m,hm⟩:=hMx
  exact cell_lt3 hm
 exact split3_in n hn M l b1 b2 b3 s hs hM J Jx hJ hb2 hY W (hB.kp ⟨hb.block _ l1,hb.block _ l2,hb.block _ l3⟩) (hMx.kept (hb.block _ l0)) h0
set_option maxHeartbeats 1000000 in
theorem splitSeq3_any (s:ByteArray) (w:World) :
  Calls Tryz.prog 16 #[.string s,.string ⟨#[32,59,32]⟩] w fun e w'=>e=.returned (.func (.func 61) #[] #[.pointer (some ⟨w.heap.size+1,0,none⟩),.pointer (some ⟨w.heap.size,0,none⟩),.pointer (some ⟨w.heap.size+2,0,none⟩)])∧Box3 (w.heap.size+1) w.heap.size (w.heap.size+2) s w'∧Below w.heap.size w w'∧w'.heap.size=w.heap.size+3:=by
 have hin:Calls Tryz.prog 32 #[.string s,.string ⟨#[32,59,32]⟩,.int .i64 0] w fun e w'=>e=.returned (.func (.func 61) #[] #[.pointer (some ⟨w.heap.size+1,0,none⟩),.pointer (some ⟨w.heap.size,0,none⟩),.pointer (some ⟨w.heap.size+2,0,none⟩)])∧w'=((w.alloc (.cells #[.string s] 9)).alloc (.cells #[.string ⟨#[32,59,32]⟩] 9)).alloc (.cells #[.int .i64 0] 3):=by
  go_enter Tryz.func32,Tryz.ntmps32
  go_wp2_with fail
  go_ret
  exact ⟨rfl,rfl⟩
 have HI:=hid hin
 clear hin
 go_enter Tryz.func16,Tryz.ntmps16
 go_wp2_with (first|(go_at_call 32;refine HI.out.mono ?_;rintro e w1 ⟨rfl,rfl⟩))
 go_ret
 refine ⟨rfl,⟨?_,?_,?_,by omega,by omega⟩,(((Below.refl _ w).alloc (Nat.le_refl _) _).alloc (by simp) _).alloc (by simp;omega) _,by simp⟩
 ·rw [Below.heap_alloc _ _ _ (by simp)]
  have:=heap_alloc_new (w.alloc (.cells #[.string s] 9)) (.cells #[.string ⟨#[32,59,32]⟩] 9)
  simpa using this
 ·rw [Below.heap_alloc _ _ _ (by simp;omega),Below.heap_alloc _ _ _ (by simp)]
  exact heap_alloc_new w _
 ·have:=heap_alloc_new ((w.alloc (.cells #[.string s] 9)).alloc (.cells #[.string ⟨#[32,59,32]⟩] 9)) (.cells #[.int .i64 0] 3)
  simpa using this
end
section
open Go.RowKit Go.Lib
attribute [local go_sem] Oper.semAt_some
def textsO:List (List UInt8)→Option (List En)
 | []=>some []
 | l::ls=>(textO l).bind fun e=>(textsO ls).map (e :: ·)
theorem textsO_append (a b:List (List UInt8)):textsO (a++b)=(textsO a).bind fun x=>(textsO b).map (x ++ ·):=by
 induction a with
 | nil=>simp [textsO]
 | cons l a ih =>
  simp only [List.cons_append,textsO]
  cases textO l with
  | none=>rfl
  | some o =>
   simp only [Option.bind_some,ih]
   cases textsO a with
   | none=>rfl
   | some x=>cases textsO b<;>simp
theorem textsO_len:∀{ls:List (List UInt8)} {es:List En},textsO ls=some es→es.length=ls.length
 | [],es,h=>by cases h;rfl
 | l::ls,es,h=>by
  simp only [textsO] at h
  cases ho:textO l with
  | none=>rw [ho] at h;cases h
  | some e =>
   rw [ho] at h
   cases hr:textsO ls with
   | none=>rw [hr] at h;cases h
   | some gs=>rw [hr] at h;cases h;simp [textsO_len hr]
def opP (l:List UInt8):Option (List En):=(textsO (split3 l)).bind fun es=>if es.length≤16 then some es else none
def onceB:List UInt8:=[111,110,99,101,32]
def opR (l:List UInt8):Option (Bool × List En):=(opP (trimPrefix l onceB)).map fun es=>(hasPrefix l onceB,es)
theorem opP_stop {l:List UInt8} {a:List (List UInt8)} (hp:a <+: split3 l) (h:textsO a=none∨16<a.length):opP l=none:=by
 obtain ⟨r,hr⟩:=hp
 unfold opP
 rw [←hr,textsO_append]
 rcases h with h|h
 ·rw [h];rfl
 ·cases ha:textsO a with
  | none=>rfl
  | some x =>
   have:=textsO_len ha
   cases hb:textsO r with
   | none=>rfl
   | some y =>
    simp only [Option.bind_some,Option.map_some]
    rw [if_neg]
    rw [List.length_append];omega
def RqPost (w:World) (l:List UInt8) (e:Ending) (w':World):Prop :=
 (∃(once:Bool) (v:Value) (d:List Ex) (c:Int),e=.returned (.tuple #[.agg #[.bool once,v],.int .i64 c])∧KEx.Own w.heap.size w' v d∧(∀x∈d,OwnQ w.heap.size x w') ∧
  ((c=0∧opR l=some (once,d.map Ex.en))∨(c=4∧once=false∧d=[]∧opR l=none)))∧Below w.heap.size w w'
def PqSt {M:Nat} (b:Bool) (w:World) (N:Nat) (pre:List (Wd M)) (W:World):Prop :=
 ∃v d,W.heap[w.heap.size+2]? = some (.cells #[.bool b,v] 25 (0,0))∧KEx.Own (N+2) W v d∧(∀x∈d,OwnQ (N+2) x W)∧textsO (plainW pre)=some (d.map Ex.en)∧d.length≤16 ∧
  W.heap[w.heap.size]? = some (.cells #[.bool false,.slice none 0 0] 25 (0,0))∧W.heap[w.heap.size+1]? = some (.cells #[.int .i64 0] 26 (0,0))∧Below w.heap.size w W∧N+2≤W.heap.size∧w.heap.size+6≤N
def PqStop {M:Nat} (w:World) (N:Nat) (c:Code) (pre:List (Wd M)) (W:World):Prop :=
 c=.ret∧(textsO (plainW pre)=none∨16<(plainW pre).length)∧W.heap[w.heap.size]? = some (.cells #[.bool false,.slice none 0 0] 25 (0,0))∧W.heap[w.heap.size+1]? = some (.cells #[.int .i64 4] 26 (0,0))∧Below w.heap.size w W∧w.heap.size+6≤N
theorem OwnQ.far {N R:Nat} {w w':World} {x:Ex} (h:OwnQ N x w) (hg:w.grownBy w' (some R)) (hR:R<N):OwnQ N x w' :=
 ⟨h.val.far hg hR,h.fit,Kind.own_farE h.eds hg hR,h.efit,Kind.own_farE h.prd hg hR,h.pfit,h.rng⟩
theorem OwnQ.weak {N M:Nat} {w:World} {x:Ex} (h:OwnQ N x w) (hM:M≤N):OwnQ M x w :=
 ⟨⟨own_weak h.val.1 hM,fun y hy=>own_weak (h.val.2 y hy) hM⟩,h.fit,Kind.own_weak h.eds hM,h.efit,Kind.own_weak h.prd hM,h.pfit,h.rng⟩
theorem OwnQ.grown {N M:Nat} {w w':World} {x:Ex} {v:Value} {d:List Ex} (h:OwnQ N x w) (hv:KEx.Own M w v d) (hg:w.grownBy w' v.ownBlock):OwnQ N x w' :=
 ⟨⟨own_else h.val.1 hv (by decide) hg,fun y hy=>own_else (h.val.2 y hy) hv (by decide) hg⟩,h.fit,own_else (show w.ownsRow N KE.T KE.k x.es x.eo.length (KE.cells x.eo) from h.eds) hv (by decide) hg,h.efit,
  own_else (show w.ownsRow N KM.T KM.k x.ps x.po.length (KM.cells x.po) from h.prd) hv (by decide) hg,h.pfit,h.rng⟩
theorem Tryz.infoEnt:(Tryz.prog.info? 42).map (fun i=>(i.zero,i.size,i.bytes))=some (some (.agg #[.int .i64 0,.string ⟨#[]⟩,.string ⟨#[]⟩,.string ⟨#[]⟩,.int .i64 0,.slice none 0 0,.slice none 0 0,.slice none 0 0,.int .u64 0,.int .i64 0]),10,152):=by kernel_rfl
theorem two_facts {w:World} {B:Nat} {u v:Value} {T:TypeId} (h:w.heap[B]? = some (.cells #[u,v] T (0,0))):w.cell? ⟨B,0,none⟩=some u∧w.cell? ⟨B,1,none⟩=some v∧w.frozen? ⟨B,0,none⟩=false∧w.frozen? ⟨B,1,none⟩=false :=
 ⟨by rw [Lib.cell_of_heap h];rfl,by rw [Lib.cell_of_heap h];rfl,Lib.frozen_of_heap h 0,Lib.frozen_of_heap h 1⟩
theorem box2_kept {W W':World} {R M:Nat} {u v:Value} {e:Value} {d:List Ex} (h:W.heap[R]? = some (.cells #[u,v] 25 (0,0))) (hg:W.grownBy W' e.ownBlock) (ho:KEx.Own M W e d) (ht:KEx.T≠25):W'.heap[R]? = some (.cells #[u,v] 25 (0,0)):=by
 refine (hg.block R (Array.getElem?_eq_some_iff.1 h).1 fun q=>?_).trans h
 exact row_box (show W.ownsRow M KEx.T KEx.k e d.length (KEx.cells d) from ho) h ht R q.symm rfl
theorem KEx.newsN2 (W:World) (y:Ex):∀j u,(KEx.cells [y])[j]? = some u→((W.alloc (.cells (KEx.enc y).toArray KEx.T)).alloc (.cells (KEx.enc y).toArray KEx.T)).cell? ((⟨W.heap.size+1,0,none⟩:Addr).add j)=some u:=by
 have h:=KEx.news (W.alloc (.cells (KEx.enc y).toArray KEx.T)) y
 rw [World.size_alloc] at h
 exact h
theorem req_out {W:World} {R:Nat} {u v k:Value} (h0:W.heap[R]? = some (.cells #[u,v] 25 (0,0))) (h1:W.heap[R+1]? = some (.cells #[k] 26 (0,0))) (a c n:Value) :
  (((W.setCell ⟨R,0,none⟩ a).setCell ⟨R,1,none⟩ c).setCell ⟨R+1,0,none⟩ n).heap[R]? = some (.cells #[a,c] 25 (0,0)) ∧
  (((W.setCell ⟨R,0,none⟩ a).setCell ⟨R,1,none⟩ c).setCell ⟨R+1,0,none⟩ n).heap[R+1]? = some (.cells #[n] 26 (0,0)) ∧
  ∀B,B≠R→B≠R+1→(((W.setCell ⟨R,0,none⟩ a).setCell ⟨R,1,none⟩ c).setCell ⟨R+1,0,none⟩ n).heap[B]? = W.heap[B]?:=by
 have b0:(W.setCell ⟨R,0,none⟩ a).heap[R]? = some (.cells #[a,v] 25 (0,0)):=heap_setCell_same _ R 0 _ _ a h0
 have b1:((W.setCell ⟨R,0,none⟩ a).setCell ⟨R,1,none⟩ c).heap[R]? = some (.cells #[a,c] 25 (0,0)):=heap_setCell_same _ R 1 _ _ c b0
 refine ⟨(Below.heap_setCell _ _ _ _ (by show R≠R+1;omega)).trans b1,?_,fun B h1 h2=>?_⟩
 ·refine heap_setCell_same _ (R+1) 0 #[k] _ n ?_
  exact ((Below.heap_setCell _ _ _ _ (by show R+1≠R;omega)).trans (Below.heap_setCell _ _ _ _ (by show R+1≠R;omega))).trans h1
 ·exact (Below.heap_setCell _ _ _ _ h2).trans ((Below.heap_setCell _ _ _ _ h1).trans (Below.heap_setCell _ _ _ _ h1))
set_option maxHeartbeats 4000000 in
set_option maxRecDepth 100000 in
theorem opparse_any (s:ByteArray) (w:World) (hv:OpVars w) (hs:s.size≤4294967000) :
  Calls Tryz.prog 6 #[.string s] w fun e w'=>RqPost w s.data.toList e w':=by
 refine (callsIn_wide (n:=3)).1 ?_
 refine callsIn_of_wp_marks Tryz.func6 rfl trivial ?_ rfl
 simp only [Tryz.ntmps6,List.size_toArray,List.length_cons,List.length_nil,Nat.reduceAdd,Nat.reduceSub,Array.replicate_succ,Array.replicate_zero,List.push_toArray,List.append_toArray,List.nil_append,List.cons_append]
 obtain ⟨t,ht⟩:∃t:ByteArray,t=⟨(trimPrefix s.data.toList onceB).toArray⟩:=⟨_,rfl⟩
 obtain ⟨b,hb⟩:∃b:Bool,b=hasPrefix s.data.toList onceB:=⟨_,rfl⟩
 have HCP:Hid (∀W:World,Calls Tryz.prog 15 #[.string s,.string ⟨#[111,110,99,101,32]⟩] W fun e w'=>e=.returned (.tuple #[.string t,.bool b])∧w'=W):=hid fun W=>by
  rw [ht,hb];exact Tryz.strings_CutPrefix s _ W
 have HOP:Hid (opR s.data.toList=(opP t.data.toList).map fun es=>(b,es)):=hid (by rw [ht,hb];rfl)
 have hts:t.size≤4294967000:=by
  have h1:=trim_len s.data.toList onceB
  have e1:t.size=(trimPrefix s.data.toList onceB).length:=by rw [ht];rfl
  have e2:s.data.toList.length=s.size:=rfl
  omega
 clear ht hb
 gi_wp2_with (first
  | (refine ⟨trivial,?_⟩;gi_at_call 15;refine (callsIn_wide.2 (HCP.out _)).mono ?_;rintro e w1 ⟨rfl,rfl⟩)
  | (refine ⟨trivial,?_⟩;gi_at_call 16;refine (callsIn_wide.2 (splitSeq3_any _ _)).mono ?_;rintro e w3 ⟨rfl,hbx,hb3,hs3⟩))
 simp only [World.size_alloc] at hbx hb3 hs3
 have hb30:Below w.heap.size w w3:=((((Below.refl _ w).alloc (Nat.le_refl _) _).alloc (by simp) _).alloc (by simp;omega) _).trans (hb3.mono (by omega))
 have g0:w3.heap[w.heap.size]? = some (.cells #[.bool false,.slice none 0 0] 25 (0,0)):=by
  rw [hb3.block _ (by omega),Below.heap_alloc _ _ _ (by simp;omega),Below.heap_alloc _ _ _ (by simp)];exact heap_alloc_new w _
 have g1:w3.heap[w.heap.size+1]? = some (.cells #[.int .i64 0] 26 (0,0)):=by
  rw [hb3.block _ (by omega),Below.heap_alloc _ _ _ (by simp)]
  have:=heap_alloc_new (w.alloc (.cells #[.bool false,.slice none 0 0] 25)) (.cells #[.int .i64 0] 26)
  simpa using this
 have g2:w3.heap[w.heap.size+2]? = some (.cells #[.bool b,.slice none 0 0] 25 (0,0)):=by
  rw [hb3.block _ (by omega)]
  have:=heap_alloc_new ((w.alloc (.cells #[.bool false,.slice none 0 0] 25)).alloc (.cells #[.int .i64 0] 26)) (.cells #[.bool b,.slice none 0 0] 25)
  simpa using this
 have hN6:w3.heap.size=w.heap.size+6:=by omega
 have ST0:Hid (∀o1 o2,PqSt (M:=t.size) b w w3.heap.size [] ((w3.alloc o1).alloc o2)):=fun o1 o2=>by
  have ha:∀k,k<w3.heap.size→((w3.alloc o1).alloc o2).heap[k]? = w3.heap[k]?:=fun k hk=>by
   rw [Below.heap_alloc _ _ _ (by simp;omega),Below.heap_alloc _ _ _ hk]
  exact ⟨.slice none 0 0,[],(ha _ (by omega)).trans g2,KEx.own_nil _ _,(fun x hx=>by cases hx),rfl,by simp,(ha _ (by omega)).trans g0,(ha _ (by omega)).trans g1,
   (hb30.alloc hb30.size _).alloc (by have:=hb30.size;simp;omega) _,by simp,by omega⟩
 have HMX:Hid (MaxIn w3):=hid (hv.on hb30).max
 have hgm:(2:Nat)<w.heap.size:=by
  obtain ⟨m,hm⟩:=hv.max
  exact cell_lt hm
 have HBX:=hid hbx
 have HV:=hid hv
 have hen:=enters_of (P:=Tryz.prog) Tryz.func61 (by kernel_rfl) rfl
 clear hbx hv g0 g1 g2 hb3 hs3
 refine wpIn_rangeFunc_box (w:=w3) rfl (by decide) (gf:=61) (lb:=#[.pointer (some ⟨w.heap.size+1+1+1+1,0,none⟩),.pointer (some ⟨w.heap.size+1+1+1,0,none⟩),.pointer (some ⟨w.heap.size+1+1+1+2,0,none⟩)]) rfl trivial hen (Bs:=w.heap.size+1+1+1) (by omega)
  (split3_seq 2 (by decide) t.size _ _ _ t (Nat.le_refl _) hts w3 HBX.out HMX.out (by omega)) ?hKt ?hKb (fun _=>rfl) (PqSt b w w3.heap.size) (PqStop w w3.heap.size) ?hIp ?hIb ?hXp ST0.out
  (fun x=>{ tmps:=#[.string s,undef,.pointer (some ⟨w.heap.size,0,none⟩),.pointer (some ⟨w.heap.size+1,0,none⟩),.string t,.bool b,.pointer (some ⟨w.heap.size+1+1,0,none⟩),.string x.1,undef,undef,.tuple #[.string t,.bool b],.string s,.tuple #[.string t,.bool b],
   .string t,.bool b,.bool b,.agg #[.bool b,.slice none 0 0],.string t,.func (.func 61) #[] #[.pointer (some ⟨w.heap.size+1+1+1+1,0,none⟩),.pointer (some ⟨w.heap.size+1+1+1,0,none⟩),.pointer (some ⟨w.heap.size+1+1+1+2,0,none⟩)],.string x.1,
   undef,undef,undef,undef,undef,undef,undef,undef,undef,undef,undef,undef,undef,undef,undef,undef,undef,undef,undef,undef,undef],defers:=[] }) ?assign ?body ?done ?stop
 case hKt=>exact fun h k=>⟨⟨k.1.1.trans h.1.1,k.1.2.1.trans h.1.2.1,k.1.2.2.trans h.1.2.2⟩,k.2.trans h.2⟩
 case hKb=>exact fun W l o' hl=>⟨⟨World.putObj_heap_other (by omega),World.putObj_heap_other (by omega),World.putObj_heap_other (by omega)⟩,World.putObj_heap_other (by omega)⟩
 case hIp =>
  rintro pre W o' ⟨v,d,k2,hox,hoq,hf,hd,k0,k1,hb,hz,h6⟩
  have hg:W.grownBy (W.putObj (w3.heap.size+1) o') (some (w3.heap.size+1)):=grownBy_putObj' W _ o'
  exact ⟨v,d,(World.putObj_heap_other (by omega)).trans k2,Kind.own_farE hox hg (by omega),fun x hx=>(hoq x hx).far hg (by omega),hf,hd,(World.putObj_heap_other (by omega)).trans k0,(World.putObj_heap_other (by omega)).trans k1,hb.grown hg (by omega) (fun k e=>by cases e;omega),Nat.le_trans hz hg.size,h6⟩
 case hIb =>
  rintro pre W u ⟨v,d,k2,hox,hoq,hf,hd,k0,k1,hb,hz,h6⟩
  have hg:W.grownBy (W.setCell ⟨w.heap.size+1+1+1,0,none⟩ u) (some (w.heap.size+1+1+1)):=grown_set W _ 0 u
  exact ⟨v,d,(hg.block _ (by omega) (by intro e;have:=Option.some.inj e;omega)).trans k2,Kind.own_farE hox hg (by omega),fun x hx=>(hoq x hx).far hg (by omega),hf,hd,(hg.block _ (by omega) (by intro e;have:=Option.some.inj e;omega)).trans k0,(hg.block _ (by omega) (by intro e;have:=Option.some.inj e;omega)).trans k1,hb.grown hg (by omega) (fun k e=>by cases e;omega),Nat.le_trans hz hg.size,h6⟩
 case hXp =>
  rintro c pre W o' ⟨hc,hf,k0,k1,hb,h6⟩
  have hg:W.grownBy (W.putObj (w3.heap.size+1) o') (some (w3.heap.size+1)):=grownBy_putObj' W _ o'
  exact ⟨hc,hf,(World.putObj_heap_other (by omega)).trans k0,(World.putObj_heap_other (by omega)).trans k1,⟨hg.os.trans hb.os,hg.tape.trans hb.tape,hg.output.trans hb.output,Nat.le_trans hb.size hg.size,fun k hk=>(World.putObj_heap_other (by omega)).trans (hb.block k hk)⟩,h6⟩
 case assign =>
  intro l x W K hK
  simp only [encW]
  gi_wp2
  exact hK
 case body =>
  rintro l pre x W hlW ⟨v,d,k2,hox,hoq,hf,hd16,k0,k1,hb,hz,h6⟩ _
  have hwp:=opentry_any x.1 W (Nat.le_trans x.2 hts) (HV.out.on hb)
  obtain ⟨i0,hi,hz0,hz1,hz2⟩:=info_parts Tryz.infoEnt
  have hpl:plainW (pre++[x])=plainW pre++[x.1.data.toList]:=by simp [plainW]
  have HPL:=hid hpl
  have HF:=hid hf
  have HB:=hid hb
  have HOX:=hid hox
  have HOQ:=hid hoq
  have HK0:=hid k0
  have HK1:=hid k1
  obtain ⟨pv,cv,rfl⟩:=Kind.own_shape hox
  have HK2:=hid k2
  clear hpl hf hb hox hoq k0 k1 k2
  cases hto:textO x.1.data.toList with
  | none =>
   have HW:Hid (Calls Tryz.prog 17 #[.string x.1] W fun e w'=>∃y:Ex,e=.returned (.tuple #[.agg #[.int .i64 y.kind,.string y.temp,.string y.ka,.string y.kb,.int .i64 y.iff,.slice y.vp y.vo.length y.vc,.slice y.ep y.eo.length y.ec,.slice y.pp y.po.length y.pc,.int .u64 y.stamp,.int .i64 y.num],.bool false])∧Below W.heap.size W w'):=hid (hwp.mono (by
    rintro e w' ⟨⟨y,ok,rfl,_,h⟩,hb'⟩
    rw [hto] at h
    cases ok with
    | true=>cases h
    | false=>exact ⟨y,rfl,hb'⟩))
   have HNO:Hid (textsO (plainW (pre++[x]))=none):=hid (by
    rw [HPL.out,textsO_append,HF.out]
    simp [textsO,hto])
   clear hwp
   have HN6:=hid hN6
   clear hN6
   gi_wp2_with (refine ⟨trivial,?_⟩;gi_at_call 17;refine (CallsIn.inRound l (callsIn_wide.2 HW.out)).mono ?_;rintro e W2 ⟨y,rfl,hb2⟩;have hs2:=hb2.size;have t0':=(Below.heap_alloc W2 (.cells #[.int .i64 y.kind,.string y.temp,.string y.ka,.string y.kb,.int .i64 y.iff,.slice y.vp y.vo.length y.vc,.slice y.ep y.eo.length y.ec,.slice y.pp y.po.length y.pc,.int .u64 y.stamp,.int .i64 y.num] 42) w.heap.size (by omega)).trans ((hb2.block w.heap.size (by omega)).trans HK0.out);have t1':=(Below.heap_alloc W2 (.cells #[.int .i64 y.kind,.string y.temp,.string y.ka,.string y.kb,.int .i64 y.iff,.slice y.vp y.vo.length y.vc,.slice y.ep y.eo.length y.ec,.slice y.pp y.po.length y.pc,.int .u64 y.stamp,.int .i64 y.num] 42) (w.heap.size+1) (by omega)).trans ((hb2.block (w.heap.size+1) (by omega)).trans HK1.out);have t2':=(Below.heap_alloc W2 (.cells #[.int .i64 y.kind,.string y.temp,.string y.ka,.string y.kb,.int .i64 y.iff,.slice y.vp y.vo.length y.vc,.slice y.ep y.eo.length y.ec,.slice y.pp y.po.length y.pc,.int .u64 y.stamp,.int .i64 y.num] 42) (w.heap.size+2) (by omega)).trans ((hb2.block (w.heap.size+2) (by omega)).trans HK2.out);obtain ⟨q0,q1,q2,q3⟩:=two_facts t0';obtain ⟨q4,q5⟩:=one_facts t1';obtain ⟨q6,q7,q8,q9⟩:=two_facts t2';have T0:=hid t0';have T1:=hid t1';have T2:=hid t2';clear t0' t1' t2')
   have hz4:=req_out T0.out T1.out (.bool false) (.slice none 0 0) (.int .i64 4)
   have hbb:=(HB.out.trans (hb2.mono HB.out.size)).alloc (Nat.le_trans HB.out.size hs2) (.cells #[.int .i64 y.kind,.string y.temp,.string y.ka,.string y.kb,.int .i64 y.iff,.slice y.vp y.vo.length y.vc,.slice y.ep y.eo.length y.ec,.slice y.pp y.po.length y.pc,.int .u64 y.stamp,.int .i64 y.num] 42)
   have hkf:KeepsFrom w3.heap.size W (W2.alloc (.cells #[.int .i64 y.kind,.string y.temp,.string y.ka,.string y.kb,.int .i64 y.iff,.slice y.vp y.vo.length y.vc,.slice y.ep y.eo.length y.ec,.slice y.pp y.po.length y.pc,.int .u64 y.stamp,.int .i64 y.num] 42)):=KeepsFrom.trans (keeps_below hb2) ((KeepsOthers.alloc _ _).from _)
   exact ⟨((hkf.trans ((KeepsOthers.setCell _ _ _).from _)).trans ((KeepsOthers.setCell _ _ _).from _)).trans ((KeepsOthers.setCell _ _ _).from _),rfl,Or.inl HNO.out,hz4.1,hz4.2.1,((hbb.setCell (p:=⟨w.heap.size,0,none⟩) (Nat.le_refl _) _).setCell (p:=⟨w.heap.size,1,none⟩) (Nat.le_refl _) _).setCell (p:=⟨w.heap.size+1,0,none⟩) (by show _≤w.heap.size+1;omega) _,h6⟩
  | some en =>
   have HW:Hid (Calls Tryz.prog 17 #[.string x.1] W fun e w'=>∃y:Ex,e=.returned (.tuple #[.agg #[.int .i64 y.kind,.string y.temp,.string y.ka,.string y.kb,.int .i64 y.iff,.slice y.vp y.vo.length y.vc,.slice y.ep y.eo.length y.ec,.slice y.pp y.po.length y.pc,.int .u64 y.stamp,.int .i64 y.num],.bool true])∧y.en=en∧OwnQ W.heap.size y w'∧Below W.heap.size W w'):=hid (hwp.mono (by
    rintro e w' ⟨⟨y,ok,rfl,ho,h⟩,hb'⟩
    rw [hto] at h
    cases ok with
    | true=>exact ⟨y,rfl,(Option.some.inj h).symm,ho rfl,hb'⟩
    | false=>cases h))
   have HNO:Hid (textsO (plainW (pre++[x]))=some (d.map Ex.en++[en])):=hid (by
    rw [HPL.out,textsO_append,HF.out]
    simp [textsO,hto])
   clear hwp
   by_cases h16:d.length=16
   ·have HLEN:Hid (16<(plainW (pre++[x])).length):=hid (by
     have h1:=textsO_len HNO.out
     rw [List.length_append,List.length_map] at h1
     simp only [List.length_cons,List.length_nil] at h1
     omega)
    have h16z:((d.length:Int)==16)=true:=by rw [h16];rfl
    have HN6:=hid hN6
    clear hN6
    gi_wp2_with (refine ⟨trivial,?_⟩;gi_at_call 17;refine (CallsIn.inRound l (callsIn_wide.2 HW.out)).mono ?_;rintro e W2 ⟨y,rfl,hye,hyo,hb2⟩;have hs2:=hb2.size;have t0':=(Below.heap_alloc W2 (.cells #[.int .i64 y.kind,.string y.temp,.string y.ka,.string y.kb,.int .i64 y.iff,.slice y.vp y.vo.length y.vc,.slice y.ep y.eo.length y.ec,.slice y.pp y.po.length y.pc,.int .u64 y.stamp,.int .i64 y.num] 42) w.heap.size (by omega)).trans ((hb2.block w.heap.size (by omega)).trans HK0.out);have t1':=(Below.heap_alloc W2 (.cells #[.int .i64 y.kind,.string y.temp,.string y.ka,.string y.kb,.int .i64 y.iff,.slice y.vp y.vo.length y.vc,.slice y.ep y.eo.length y.ec,.slice y.pp y.po.length y.pc,.int .u64 y.stamp,.int .i64 y.num] 42) (w.heap.size+1) (by omega)).trans ((hb2.block (w.heap.size+1) (by omega)).trans HK1.out);have t2':=(Below.heap_alloc W2 (.cells #[.int .i64 y.kind,.string y.temp,.string y.ka,.string y.kb,.int .i64 y.iff,.slice y.vp y.vo.length y.vc,.slice y.ep y.eo.length y.ec,.slice y.pp y.po.length y.pc,.int .u64 y.stamp,.int .i64 y.num] 42) (w.heap.size+2) (by omega)).trans ((hb2.block (w.heap.size+2) (by omega)).trans HK2.out);obtain ⟨q0,q1,q2,q3⟩:=two_facts t0';obtain ⟨q4,q5⟩:=one_facts t1';obtain ⟨q6,q7,q8,q9⟩:=two_facts t2';have T0:=hid t0';have T1:=hid t1';have T2:=hid t2';clear t0' t1' t2')
    have hz4:=req_out T0.out T1.out (.bool false) (.slice none 0 0) (.int .i64 4)
    have hbb:=(HB.out.trans (hb2.mono HB.out.size)).alloc (Nat.le_trans HB.out.size hs2) (.cells #[.int .i64 y.kind,.string y.temp,.string y.ka,.string y.kb,.int .i64 y.iff,.slice y.vp y.vo.length y.vc,.slice y.ep y.eo.length y.ec,.slice y.pp y.po.length y.pc,.int .u64 y.stamp,.int .i64 y.num] 42)
    have hkf:KeepsFrom w3.heap.size W (W2.alloc (.cells #[.int .i64 y.kind,.string y.temp,.string y.ka,.string y.kb,.int .i64 y.iff,.slice y.vp y.vo.length y.vc,.slice y.ep y.eo.length y.ec,.slice y.pp y.po.length y.pc,.int .u64 y.stamp,.int .i64 y.num] 42)):=KeepsFrom.trans (keeps_below hb2) ((KeepsOthers.alloc _ _).from _)
    exact ⟨((hkf.trans ((KeepsOthers.setCell _ _ _).from _)).trans ((KeepsOthers.setCell _ _ _).from _)).trans ((KeepsOthers.setCell _ _ _).from _),rfl,Or.inr HLEN.out,hz4.1,hz4.2.1,((hbb.setCell (p:=⟨w.heap.size,0,none⟩) (Nat.le_refl _) _).setCell (p:=⟨w.heap.size,1,none⟩) (Nat.le_refl _) _).setCell (p:=⟨w.heap.size+1,0,none⟩) (by show _≤w.heap.size+1;omega) _,h6⟩
   ·have h16z:((d.length:Int)==16)=false:=beq_eq_false_iff_ne.2 (by omega)
    have HN6:=hid hN6
    clear hN6
    gi_wp2_with (first|(gi_at_builtin;refine wpListIn_append_own _ rfl _ _ 23 rfl (w3.heap.size+2) 42 i0 (.agg #[.int .i64 0,.string ⟨#[]⟩,.string ⟨#[]⟩,.string ⟨#[]⟩,.int .i64 0,.slice none 0 0,.slice none 0 0,.slice none 0 0,.int .u64 0,.int .i64 0]) 10 152 Tryz.underlying23 hi hz0 hz1 hz2 rfl (by decide) _ _ _ rfl HX2.out ⟨W2.heap.size+1,0,none⟩ 1 1 (KEx.cells [y]) rfl rfl HC.out (KEx.cells_ones _) (by unfold maxLen;omega) (by omega) (by simp;omega) ?_;intro v' w1 hown' hgrow _;obtain ⟨g',cap',rfl⟩:=ownsRow_succ hown';have hv1:=box2_kept T3.out hgrow HX2.out (by decide);obtain ⟨r0,r1,r2,r3⟩:=two_facts hv1;have HV1:=hid hv1;have HO:=hid hown';have HG:=hid hgrow;clear hv1 hown' hgrow)|(refine ⟨trivial,?_⟩;gi_at_call 17;refine (CallsIn.inRound l (callsIn_wide.2 HW.out)).mono ?_;rintro e W2 ⟨y,rfl,hye,hyo,hb2⟩;have hs2:=hb2.size;have t0':=(Below.heap_alloc W2 (.cells #[.int .i64 y.kind,.string y.temp,.string y.ka,.string y.kb,.int .i64 y.iff,.slice y.vp y.vo.length y.vc,.slice y.ep y.eo.length y.ec,.slice y.pp y.po.length y.pc,.int .u64 y.stamp,.int .i64 y.num] 42) w.heap.size (by omega)).trans ((hb2.block w.heap.size (by omega)).trans HK0.out);have t1':=(Below.heap_alloc W2 (.cells #[.int .i64 y.kind,.string y.temp,.string y.ka,.string y.kb,.int .i64 y.iff,.slice y.vp y.vo.length y.vc,.slice y.ep y.eo.length y.ec,.slice y.pp y.po.length y.pc,.int .u64 y.stamp,.int .i64 y.num] 42) (w.heap.size+1) (by omega)).trans ((hb2.block (w.heap.size+1) (by omega)).trans HK1.out);have t2':=(Below.heap_alloc W2 (.cells #[.int .i64 y.kind,.string y.temp,.string y.ka,.string y.kb,.int .i64 y.iff,.slice y.vp y.vo.length y.vc,.slice y.ep y.eo.length y.ec,.slice y.pp y.po.length y.pc,.int .u64 y.stamp,.int .i64 y.num] 42) (w.heap.size+2) (by omega)).trans ((hb2.block (w.heap.size+2) (by omega)).trans HK2.out);obtain ⟨q0,q1,q2,q3⟩:=two_facts t0';obtain ⟨q4,q5⟩:=one_facts t1';obtain ⟨q6,q7,q8,q9⟩:=two_facts t2';have T0:=hid t0';have T1:=hid t1';have T2:=hid t2';clear t0' t1' t2';have HYE:=hid hye;have HYO:=hid hyo;clear hye hyo;have T3:Hid (((W2.alloc (.cells #[.int .i64 y.kind,.string y.temp,.string y.ka,.string y.kb,.int .i64 y.iff,.slice y.vp y.vo.length y.vc,.slice y.ep y.eo.length y.ec,.slice y.pp y.po.length y.pc,.int .u64 y.stamp,.int .i64 y.num] 42)).alloc (.cells #[.int .i64 y.kind,.string y.temp,.string y.ka,.string y.kb,.int .i64 y.iff,.slice y.vp y.vo.length y.vc,.slice y.ep y.eo.length y.ec,.slice y.pp y.po.length y.pc,.int .u64 y.stamp,.int .i64 y.num] 42)).heap[w.heap.size+2]? = some (.cells #[.bool b,.slice pv d.length cv] 25 (0,0))):=hid ((Below.heap_alloc _ _ _ (by simp;omega)).trans T2.out);have HB2:Hid (Below W.heap.size W ((W2.alloc (.cells #[.int .i64 y.kind,.string y.temp,.string y.ka,.string y.kb,.int .i64 y.iff,.slice y.vp y.vo.length y.vc,.slice y.ep y.eo.length y.ec,.slice y.pp y.po.length y.pc,.int .u64 y.stamp,.int .i64 y.num] 42)).alloc (.cells #[.int .i64 y.kind,.string y.temp,.string y.ka,.string y.kb,.int .i64 y.iff,.slice y.vp y.vo.length y.vc,.slice y.ep y.eo.length y.ec,.slice y.pp y.po.length y.pc,.int .u64 y.stamp,.int .i64 y.num] 42))):=hid ((hb2.alloc hs2 _).alloc (by simp;omega) _);have HX2:=hid (Kind.own_on HOX.out HB2.out);have HQ2:Hid (∀z∈d,OwnQ (w3.heap.size+2) z ((W2.alloc (.cells #[.int .i64 y.kind,.string y.temp,.string y.ka,.string y.kb,.int .i64 y.iff,.slice y.vp y.vo.length y.vc,.slice y.ep y.eo.length y.ec,.slice y.pp y.po.length y.pc,.int .u64 y.stamp,.int .i64 y.num] 42)).alloc (.cells #[.int .i64 y.kind,.string y.temp,.string y.ka,.string y.kb,.int .i64 y.iff,.slice y.vp y.vo.length y.vc,.slice y.ep y.eo.length y.ec,.slice y.pp y.po.length y.pc,.int .u64 y.stamp,.int .i64 y.num] 42))):=hid (fun z hz=>(HOQ.out z hz).on HB2.out);have HY2:Hid (OwnQ W.heap.size y ((W2.alloc (.cells #[.int .i64 y.kind,.string y.temp,.string y.ka,.string y.kb,.int .i64 y.iff,.slice y.vp y.vo.length y.vc,.slice y.ep y.eo.length y.ec,.slice y.pp y.po.length y.pc,.int .u64 y.stamp,.int .i64 y.num] 42)).alloc (.cells #[.int .i64 y.kind,.string y.temp,.string y.ka,.string y.kb,.int .i64 y.iff,.slice y.vp y.vo.length y.vc,.slice y.ep y.eo.length y.ec,.slice y.pp y.po.length y.pc,.int .u64 y.stamp,.int .i64 y.num] 42))):=hid (HYO.out.on (((Below.refl _ W2).alloc (Nat.le_refl _) _).alloc (by simp) _));have HC:Hid (∀j u,(KEx.cells [y])[j]? = some u→((W2.alloc (.cells #[.int .i64 y.kind,.string y.temp,.string y.ka,.string y.kb,.int .i64 y.iff,.slice y.vp y.vo.length y.vc,.slice y.ep y.eo.length y.ec,.slice y.pp y.po.length y.pc,.int .u64 y.stamp,.int .i64 y.num] 42)).alloc (.cells #[.int .i64 y.kind,.string y.temp,.string y.ka,.string y.kb,.int .i64 y.iff,.slice y.vp y.vo.length y.vc,.slice y.ep y.eo.length y.ec,.slice y.pp y.po.length y.pc,.int .u64 y.stamp,.int .i64 y.num] 42)).cell? ((⟨W2.heap.size+1,0,none⟩:Addr).add j)=some u):=hid (KEx.newsN2 W2 y)))
    have hb12:Below (w3.heap.size+2) W w1:=(HB2.out.mono hz).trans ((Below.refl _ _).grown HG.out (by simp;omega) (fun k hk=>(World.ownsRow.lt HX2.out k hk).1))
    have hsz1:=hb12.size
    have hox0:KEx.Own (w3.heap.size+2) w1 (.slice (some ⟨g',0,none⟩) (d.length+1) cap') (d++[y]):=Kind.own_snoc HO.out rfl rfl
    have hgs:=grown_set w1 (w.heap.size+2) 1 (.slice (some ⟨g',0,none⟩) (d.length+1) cap')
    have hox1:=Kind.own_farE hox0 hgs (by omega)
    have hoq1:∀z∈d++[y],OwnQ (w3.heap.size+2) z (w1.setCell ⟨w.heap.size+2,1,none⟩ (.slice (some ⟨g',0,none⟩) (d.length+1) cap')):=fun z hz'=>by
     rcases List.mem_append.1 hz' with h|h
     ·exact ((HQ2.out z h).grown HX2.out HG.out).far hgs (by omega)
     ·rw [List.mem_singleton] at h
      subst h
      exact ((HY2.out.weak hz).grown HX2.out HG.out).far hgs (by omega)
    have hkf:KeepsFrom w3.heap.size W w1:=(keeps_below HB2.out).trans ((KeepsOthers.of_grownBy HG.out (fun j o ej hj=>row_cells HX2.out ej hj)).from _)
    refine ⟨hkf.trans ((KeepsOthers.setCell _ _ _).from _),⟨⟨(Below.heap_setCell w1 _ _ _ (by show _≠w.heap.size+1+1;omega)).trans (hb12.block _ (by omega)),(Below.heap_setCell w1 _ _ _ (by show _≠w.heap.size+1+1;omega)).trans (hb12.block _ (by omega)),(Below.heap_setCell w1 _ _ _ (by show _≠w.heap.size+1+1;omega)).trans (hb12.block _ (by omega))⟩,(Below.heap_setCell w1 _ _ _ (by show _≠w.heap.size+1+1;omega)).trans (hb12.block _ (by omega))⟩,?_⟩
    exact ⟨_,d++[y],heap_setCell_same w1 (w.heap.size+2) 1 _ _ _ HV1.out,hox1,hoq1,by rw [HNO.out,List.map_append,←HYE.out];rfl,by rw [List.length_append];simp only [List.length_cons,List.length_nil];omega,
     (Below.heap_setCell w1 _ _ _ (by show _≠w.heap.size+1+1;omega)).trans ((hb12.block _ (by omega)).trans HK0.out),(Below.heap_setCell w1 _ _ _ (by show _≠w.heap.size+1+1;omega)).trans ((hb12.block _ (by omega)).trans HK1.out),
     (HB.out.trans (hb12.mono (by omega))).setCell (p:=⟨w.heap.size+1+1,1,none⟩) (by show _≤w.heap.size+1+1;omega) _,by simp [World.setCell];omega,h6⟩
 case done =>
  rintro xs W hS ⟨v,d,k2,hox,hoq,hf,hd16,k0,k1,hb,hz,h6⟩ hK
  have hfs:opP t.data.toList=some (d.map Ex.en):=by
   unfold opP
   rw [←hS,hf,Option.bind_some,if_pos (by rw [List.length_map];exact hd16)]
  obtain ⟨pv,cv,rfl⟩:=Kind.own_shape hox
  have HOX:=hid hox
  have HOQ:=hid hoq
  have HK0:=hid k0
  have HK1:=hid k1
  have HB:=hid hb
  have HK:=hid hK
  have HFS:=hid hfs
  have HN6:=hid hN6
  obtain ⟨c0,c1,_,_⟩:=two_facts k2
  obtain ⟨q0,q1,q2,q3⟩:=two_facts k0
  obtain ⟨q4,q5⟩:=one_facts k1
  clear hox hoq hf k0 k1 k2 hK hN6 hb hfs
  gi_wp2
  obtain ⟨W4,hW4⟩:∃W4,((W.setCell ⟨w.heap.size,0,none⟩ (.bool b)).setCell ⟨w.heap.size,1,none⟩ (.slice pv d.length cv)).setCell ⟨w.heap.size+1,0,none⟩ (.int .i64 0)=W4:=⟨_,rfl⟩
  obtain ⟨y0,y1,y2⟩:=req_out HK0.out HK1.out (.bool b) (.slice pv d.length cv) (.int .i64 0)
  have hb4:Below w.heap.size w W4:=by
   rw [←hW4]
   exact ((HB.out.setCell (p:=⟨w.heap.size,0,none⟩) (Nat.le_refl _) _).setCell (p:=⟨w.heap.size,1,none⟩) (Nat.le_refl _) _).setCell (p:=⟨w.heap.size+1,0,none⟩) (by show _≤w.heap.size+1;omega) _
  have ha4:KEx.Own (w3.heap.size+2) W4 (.slice pv d.length cv) d:=by
   rw [←hW4]
   exact Kind.own_farE (Kind.own_farE (Kind.own_farE HOX.out (grown_set W w.heap.size 0 _) (by omega)) (grown_set _ w.heap.size 1 _) (by omega)) (grown_set _ (w.heap.size+1) 0 _) (by omega)
  have hq4:∀z∈d,OwnQ (w3.heap.size+2) z W4:=fun z h=>by
   rw [←hW4]
   exact (((HOQ.out z h).far (grown_set W w.heap.size 0 _) (by omega)).far (grown_set _ w.heap.size 1 _) (by omega)).far (grown_set _ (w.heap.size+1) 0 _) (by omega)
  have hKD:W4.heap[w3.heap.size]? = some (.deferred (some [])):=by
   rw [←hW4,y2 _ (by omega) (by omega)];exact HK.out
  rw [hW4] at y0 y1 ⊢
  have hsz4:=hb4.size
  have hg5:W4.grownBy (W4.putObj w3.heap.size (.deferred none)) (some w3.heap.size):=grownBy_putObj' W4 _ _
  obtain ⟨z0,z1,_,_⟩:=two_facts ((World.putObj_heap_other (by omega)).trans y0:(W4.putObj w3.heap.size (.deferred none)).heap[w.heap.size]? = _)
  obtain ⟨z2,_⟩:=one_facts ((World.putObj_heap_other (by omega)).trans y1:(W4.putObj w3.heap.size (.deferred none)).heap[w.heap.size+1]? = _)
  refine ⟨by simp,.inl ⟨_,_,rfl,run_takeDeferred hKD,?_⟩⟩
  refine ⟨.tuple #[.agg #[.bool b,.slice pv d.length cv],.int .i64 0],by simp [results,Tryz.results6,go_sem,z0,z1,z2],⟨⟨b,.slice pv d.length cv,d,0,rfl,Kind.own_weak (Kind.own_farE ha4 hg5 (by omega)) (by omega),fun z h=>((hq4 z h).far hg5 (by omega)).weak (by omega),.inl ⟨rfl,by rw [HOP.out,HFS.out];rfl⟩⟩,hb4.grown hg5 (by omega) (fun k e=>by cases e;omega)⟩⟩
 case stop =>
  rintro c pre W hSp ⟨rfl,hf,k0,k1,hb,h6⟩ hK
  have HN6:=hid hN6
  clear hN6
  gi_wp2
  have hg5:W.grownBy (W.putObj w3.heap.size (.deferred none)) (some w3.heap.size):=grownBy_putObj' W _ _
  obtain ⟨z0,z1,_,_⟩:=two_facts ((World.putObj_heap_other (by omega)).trans k0:(W.putObj w3.heap.size (.deferred none)).heap[w.heap.size]? = _)
  obtain ⟨z2,_⟩:=one_facts ((World.putObj_heap_other (by omega)).trans k1:(W.putObj w3.heap.size (.deferred none)).heap[w.heap.size+1]? = _)
  have hno:=opP_stop hSp hf
  refine ⟨by simp,.inl ⟨_,_,rfl,run_takeDeferred hK,?_⟩⟩
  refine ⟨.tuple #[.agg #[.bool false,.slice none 0 0],.int .i64 4],by simp [results,Tryz.results6,go_sem,z0,z1,z2],⟨⟨false,.slice none 0 0,[],4,rfl,KEx.own_nil _ _,(fun z h=>by cases h),.inr ⟨rfl,rfl,rfl,by rw [HOP.out,hno];rfl⟩⟩,hb.grown hg5 hb.size (fun k e=>by cases e;omega)⟩⟩
end
end Go.Proofs.YtjeogllmpjihaaaGreatDoor
