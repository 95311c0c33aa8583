/-
  Texts of this claim, one behind the other: Pc7 Pc8 Cb0 Kp0 Pc9 Hp0 Hbx Hp7 Tak Ztk Tkm Hp8 Re1 Re2 Re7 Hp9 Oqb Oqr Sh5 Oqp Oqe Oqt.
-/
import Derived.Test.YtjeogllmpjihaaaGreatDoorPc
import Derived.Laws.RangeString
import Derived.Lib.IndexAny
import Derived.ChangeMaps5
import Derived.WalkMore
import Derived.Laws.CopyOwn
import Derived.Maps.AppendAt
import Derived.Lib.SplitLaws
set_option maxHeartbeats 20000000
set_option maxRecDepth 100000
namespace Go.Proofs.YtjeogllmpjihaaaGreatDoor
section
open Go.RowKit Go.Lib Go.ChangeMaps
def zDf:ByteArray:=⟨#[61,33,94,60,62,63,45]⟩
theorem zEq (c:UInt8):zDf.data.toList.contains c=uF c:=by
 rw [Bool.eq_iff_iff];constructor
 ·intro h;have:c∈zDf.L:=by simpa using h
  simp [zDf] at this
  rcases this with rfl|rfl|rfl|rfl|rfl|rfl|rfl<;>decide
 ·intro h
  rcases zAb h with rfl|rfl|rfl|rfl|rfl|rfl|rfl<;>decide
def pI (l:List UInt8) (k:Int):Prop:=(k=-1/\∀c∈l,uF c=false)∨∃i:Nat,k=i/\∃h:i<l.length,uF l[i]=true/\∀c∈l.take i,uF c=false
theorem nD:∀l:List UInt8,pI l (Lib.indexAny l zDf.data.toList)
 | []=>Or.inl ⟨rfl,fun c hc=>by simp at hc⟩
 | b::l=>by
  have ih:=nD l;unfold Lib.indexAny;rw [zEq]
  cases hb:uF b with
  | true =>
   rw [if_pos rfl];exact Or.inr ⟨0,rfl,by simp,hb,fun c hc=>by simp at hc⟩
  | false =>
   rw [if_neg (by simp)]
   rcases ih with ⟨h1,h2⟩|⟨i,h1,hi,h3,h4⟩
   ·rw [h1];refine Or.inl ⟨rfl,fun c hc=>?_⟩
    rcases List.mem_cons.1 hc with rfl|hc
    ·exact hb
    ·exact h2 c hc
   ·rw [h1];have:((i:Int) == -1)=false:=by simp
    rw [this,if_neg (by simp)];refine Or.inr ⟨i+1,rfl,by simpa using hi,by simpa using h3,fun c hc=>?_⟩;rw [List.take_succ_cons] at hc
    rcases List.mem_cons.1 hc with rfl|hc
    ·exact hb
    ·exact h4 c hc
theorem zH5 (s:ByteArray) (i:Nat) (h:i<s.size):s.get! i=s[i]'h:=by
 simp [ByteArray.get!,getElem!_pos,h]
 rfl
theorem zL6 (s:ByteArray) (pos:Nat) (h:pos<s.size) (hb:128<=(s[pos]'h).toNat) :
  128<=(Utf8.decode s pos).1/\(Utf8.decode s pos).1<=2097151/\1<=(Utf8.decode s pos).2/\pos+(Utf8.decode s pos).2<=s.size/\∀j,pos<=j->j<pos+(Utf8.decode s pos).2->128<=(s.get! j).toNat:=by
 have e0:(s.get! (pos+0)).toNat=(s[pos]'h).toNat:=by rw [Nat.add_zero,zH5 s pos h]
 have hlt:∀k,(s.get! (pos+k)).toNat<256:=fun k=>UInt8.toNat_lt _
 have hcont:∀k,(decide (pos+k<s.size)&&(s.get! (pos+k)).toNat / 64==2)=true->pos+k<s.size/\128<=(s.get! (pos+k)).toNat:=fun k hk=>by
  rw [Bool.and_eq_true] at hk;have h1:=of_decide_eq_true hk.1;have h2:=beq_iff_eq.1 hk.2;exact ⟨h1,by omega⟩
 have hp0:128<=(s.get! pos).toNat:=by rw [zH5 s pos h];exact hb
 have hone:∀j,pos<=j->j<pos+1->128<=(s.get! j).toNat:=fun j h1 h2=>by
  have:j=pos:=by omega
  subst this;exact hp0
 have herr:(128<=Utf8.runeError)/\Utf8.runeError<=2097151:=by decide
 unfold Utf8.decode;simp only [e0];have h80:¬ (s[pos]'h).toNat<128:=by omega
 rw [if_neg h80];have hbound:(s[pos]'h).toNat<256:=UInt8.toNat_lt _;have l1:=hlt 1;have l2:=hlt 2;have l3:=hlt 3
 split
 ·rename_i h1
  rw [Bool.and_eq_true] at h1;obtain ⟨c1,c2⟩:=hcont 1 h1.2
  split
  ·rename_i h2
   refine ⟨h2,by omega,by omega,by omega,fun j g1 g2=>?_⟩
   rcases (show j=pos∨j=pos+1 by omega) with rfl|rfl
   ·exact hp0
   ·exact c2
  ·exact ⟨herr.1,herr.2,by omega,by omega,hone⟩
 ·split
  ·rename_i h1
   rw [Bool.and_eq_true,Bool.and_eq_true] at h1;obtain ⟨c1,c2⟩:=hcont 1 h1.1.2;obtain ⟨d1,d2⟩:=hcont 2 h1.2
   split
   ·rename_i h2
    rw [Bool.and_eq_true] at h2;have h3:=of_decide_eq_true h2.1;refine ⟨by omega,by omega,by omega,by omega,fun j g1 g2=>?_⟩
    rcases (show j=pos∨j=pos+1∨j=pos+2 by omega) with rfl|rfl|rfl
    ·exact hp0
    ·exact c2
    ·exact d2
   ·exact ⟨herr.1,herr.2,by omega,by omega,hone⟩
  ·split
   ·rename_i h1
    rw [Bool.and_eq_true,Bool.and_eq_true,Bool.and_eq_true] at h1;obtain ⟨c1,c2⟩:=hcont 1 h1.1.1.2;obtain ⟨d1,d2⟩:=hcont 2 h1.1.2;obtain ⟨f1,f2⟩:=hcont 3 h1.2
    split
    ·rename_i h2
     rw [Bool.and_eq_true] at h2;have h3:=of_decide_eq_true h2.1;refine ⟨by omega,by omega,by omega,by omega,fun j g1 g2=>?_⟩
     rcases (show j=pos∨j=pos+1∨j=pos+2∨j=pos+3 by omega) with rfl|rfl|rfl|rfl
     ·exact hp0
     ·exact c2
     ·exact d2
     ·exact f2
    ·exact ⟨herr.1,herr.2,by omega,by omega,hone⟩
   ·exact ⟨herr.1,herr.2,by omega,by omega,hone⟩
theorem zLa (r:Int) (h:128<=r):∃m:Nat,1<=m/\m<=3/\∃hs:(Utf8.encode r).size=m+1,128<=((Utf8.encode r)[m]'(by omega)).toNat:=by
 have hof:∀n:Nat,128<=n->n<256->128<=(UInt8.ofNat n).toNat:=fun n h1 h2=>by
  rw [UInt8.toNat_ofNat_of_lt' (by simpa using h2)];exact h1
 unfold Utf8.encode;obtain ⟨c,hc⟩:∃c,(if Utf8.valid r=true then r.toNat else Utf8.runeError)=c:=⟨_,rfl⟩
 have hc128:128<=c:=by
  rw [<-hc]
  split
  ·omega
  ·decide
 simp only [hc];have h0:¬ c<128:=by omega
 simp only [if_neg h0]
 by_cases h1:c<2048
 ·simp only [if_pos h1];exact ⟨1,by omega,by omega,rfl,hof _ (by omega) (by omega)⟩
 ·simp only [if_neg h1]
  by_cases h2:c<65536
  ·simp only [if_pos h2];exact ⟨2,by omega,by omega,rfl,hof _ (by omega) (by omega)⟩
  ·simp only [if_neg h2];exact ⟨3,by omega,by omega,rfl,hof _ (by omega) (by omega)⟩
theorem zFm (W:World) (N:Nat) (s:ByteArray) (pos:Nat) (ty:TypeId) (hN:W.heap[N]? = some (.stringIter s pos)) (h:pos<s.size) :
  (Instr.next (.pointer (some ⟨N,0,none⟩)) true ty).run Tryz.prog W =
   .ok (.tuple #[.bool true,.int .i64 pos,.int .i32 (Utf8.decode s pos).1]) (setBlock W N (.stringIter s (pos+(Utf8.decode s pos).2))):=by
 have hlt:=(Array.getElem?_eq_some_iff.1 hN).1;simp [Instr.next,getObj,setObj,Sem.run,hN,h,goInt,Result.andThen,setBlock]
theorem zCY (W:World) (N:Nat) (s:ByteArray) (pos:Nat) (ty:TypeId) (hN:W.heap[N]? = some (.stringIter s pos)) (h:¬ pos<s.size) :
  (Instr.next (.pointer (some ⟨N,0,none⟩)) true ty).run Tryz.prog W=.ok (.tuple #[.bool false]) W:=by
 simp [Instr.next,getObj,Sem.run,hN,h,Result.andThen]
theorem bP (x:UInt8) (h:x∈(⟨#[61,33,94,60,62,63,45]⟩:ByteArray).data.toList):x.toNat<128:=by
 simp at h
 rcases h with rfl|rfl|rfl|rfl|rfl|rfl|rfl<;>decide
theorem zHF (w:World) :
  Calls Tryz.prog 189 #[.string ⟨#[61,33,94,60,62,63,45]⟩,.int .i32 65533] w fun e w'=>e=.returned (.int .i64 (-1))/\zK w w':=by
 obtain ⟨s,hs⟩:∃s:ByteArray,⟨#[61,33,94,60,62,63,45]⟩=s:=⟨_,rfl⟩;have h7:s.size=7:=by rw [<-hs];rfl
 have hlow:∀(i:Nat) (h:i<s.size),(s[i]'h).toNat<128:=by
  subst hs;intro i h;exact bP _ (List.getElem_mem (l:=(⟨#[61,33,94,60,62,63,45]⟩:ByteArray).data.toList) (n:=i) h)
 rw [hs];clear hs;go_enter Tryz.func189,Tryz.ntmps189;go_wp2_with fail
 go_loopg [5,6] 7 (fun g _ _ wx=>∃i:Nat,i+g=7/\wx=w.iter s i)
 case atStart=>exact ⟨0,by omega,rfl⟩
 case round =>
  obtain ⟨i,hig,rfl⟩:=hrel
  cases gk with
  | zero =>
   have hnx:=fun ty=>run_next_end (P:=Tryz.prog) w s i ty (by omega)
   go_wp2_with fail
   go_ret;exact ⟨rfl,(zK.refl _).alloc _⟩
  | succ g =>
   have hi:i<s.size:=by omega
   have hx:=hlow i hi;have hnx:=fun ty=>run_next_ascii (P:=Tryz.prog) w s i ty hi hx
   have hne:(((s[i]'hi).toNat:Int)==65533)=false:=by simp;omega
   clear hlow;go_wp2_with fail;go_roundg g
   case measure=>omega
   case rel=>exact ⟨i+1,by omega,rfl⟩
theorem zDn (r:Int) (h1:128<=r) (h2:r<=2097151) (hv:Lib.validRune r=true) (hne:r≠65533) (w:World) :
  Calls Tryz.prog 189 #[.string ⟨#[61,33,94,60,62,63,45]⟩,.int .i32 r] w fun e w'=>e=.returned (.int .i64 (-1))/\zK w w':=by
 obtain ⟨m,hm1,hm3,hs,hb⟩:=zLa r h1;obtain ⟨pat,hpat⟩:∃pat,Utf8.encode r=pat:=⟨_,rfl⟩;simp only [hpat] at hs hb;obtain ⟨b,hbe⟩:∃b,pat[m]'(by omega)=b:=⟨_,rfl⟩;rw [hbe] at hb;have hz:(0:Int)<=r:=by omega
 have h128:decide (r<128)=false:=decide_eq_false (by omega);have hne':(r==65533)=false:=by simpa using hne
 have HV:=hid hv;obtain ⟨s,hse⟩:∃s:ByteArray,⟨#[61,33,94,60,62,63,45]⟩=s:=⟨_,rfl⟩;have h7:s.size=7:=by rw [<-hse];rfl
 have hlow:∀x∈s.data.toList,x.toNat<128:=by subst hse;exact bP
 rw [hse];clear hv hne hse;have hback:((b.toNat:Int)).toNat.toUInt8=b:=by simp
 have HIX:Hid (∀W k,Calls Tryz.prog 159 #[tq (s.extract k s.size),.int .u8 b.toNat] W fun e w'=>e=.returned (ii (-1))/\w'=W):=fun W k=>by
  have:=Tryz.strings_IndexByte (s.extract k s.size) b.toNat W
  rw [hback,dP (fun hc=>by
   have hm:b∈s.data.toList:=by
    have e:(s.extract k s.size).data.toList=s.data.toList.drop k:=by
     have:=nM s k;exact this
    rw [e] at hc;exact List.mem_of_mem_drop hc
   have:=hlow b hm;omega)] at this
  exact this
 have hsm:m<s.size:=by omega
 obtain ⟨c,hce⟩:∃c,s[m]'hsm=c:=⟨_,rfl⟩
 have hc:c.toNat<128:=by
  rw [<-hce];exact hlow _ (List.getElem_mem (l:=s.data.toList) (n:=m) (by simpa using hsm))
 have hx:((c.toNat:Int) != (b.toNat:Int))=true:=by simp;omega
 have hmz:(0:Int)<=m:=by omega
 have hms:(m:Int)<(s.size:Int):=by omega
 have hmp:(m:Int)<(pat.size:Int):=by omega
 have hpz:(pat.size:Int)-1=(m:Int):=by omega
 have hww:IntKind.i64.wrap ((m:Int)+1)=(m:Int)+1:=wrap_i64 _ (by omega) (by omega);have hm1s:(m:Int)+1<=(s.size:Int):=by omega
 have hm0z:(0:Int)<=(m:Int)+1:=by omega
 have hmt:((m:Int)+1).toNat=m+1:=by omega
 have hmp2:m<pat.size:=by omega
 have hbe2:pat[m]'hmp2=b:=hbe;clear hbe;clear h7 hs;clear hlow;go_enter Tryz.func189,Tryz.ntmps189;go_wp2_with (first|(go_at_call 214;refine (Tryz.utf8_ValidRune _ _).mono ?_;rintro e w1 ⟨rfl,rfl⟩;rw [HV.out]))
 go_step3
 go_wp2_with fail
 refine wp_loop_rounds 1 ?_;rw [rounds_succ];go_wp2_with fail
 go_step3
 go_wp2_with fail
 go_quiet (fail)
 go_wp2_with fail
 have hG2:=zK.draws w1 nq
 generalize w1.drewN nq=W2 at hG2 ⊢
 go_quiet (first|(go_at_call 159;refine Calls.quiet_of_same (HIX.out _ _)))
 go_wp2_with fail
 repeat (first|rw [Exit.noGoto_ret]|simp only [Exit.inBlock,Exit.then])
 go_ret;exact ⟨rfl,hG2.drewN _⟩
theorem zFb (r:Int) (h1:128<=r) (h2:r<=2097151) (w:World) :
  Calls Tryz.prog 189 #[.string ⟨#[61,33,94,60,62,63,45]⟩,.int .i32 r] w fun e w'=>e=.returned (.int .i64 (-1))/\zK w w':=by
 by_cases hne:r=65533
 ·subst hne;exact zHF w
 ·cases hv:Lib.validRune r with
  | true=>exact zDn r h1 h2 hv hne w
  | false =>
   have h128:decide (r<128)=false:=decide_eq_false (by omega);have hz:(0:Int)<=r:=by omega
   have hne':(r==65533)=false:=by simpa using hne
   have HV:=hid hv;clear hv hne;go_enter Tryz.func189,Tryz.ntmps189;go_wp2_with (first|(go_at_call 214;refine (Tryz.utf8_ValidRune _ _).mono ?_;rintro e w1 ⟨rfl,rfl⟩;rw [HV.out]))
   repeat (first|rw [Exit.noGoto_ret]|simp only [Exit.inBlock,Exit.then])
   go_ret;exact ⟨rfl,zK.refl _⟩
def zMu (W:World) (N:Nat) (s:ByteArray) (pos:Nat):Prop:=W.heap[N]? = some (.stringIter s pos)
theorem zIB {w W:World} {s:ByteArray} {pos:Nat} (h:zMu W w.heap.size s pos) (hb:Below w.heap.size w W) (p':Nat) :
  zMu (setBlock W w.heap.size (.stringIter s p')) w.heap.size s p'/\Below w.heap.size w (setBlock W w.heap.size (.stringIter s p')):=by
 have hlt:=(Array.getElem?_eq_some_iff.1 h).1;refine ⟨by unfold zMu setBlock;simp [hlt],hb.os,hb.tape,hb.output,by simpa [setBlock] using hb.size,fun k hk=>?_⟩;refine Eq.trans ?_ (hb.block k hk);show (W.heap.setIfInBounds w.heap.size _)[k]? = _;rw [Array.getElem?_setIfInBounds,if_neg (by omega)]
theorem zE5 (s:ByteArray) (w:World) (h8:s.size<=8) :
  Calls Tryz.prog 158 #[.string s,.string ⟨#[61,33,94,60,62,63,45]⟩] w fun e w'=>(∃k,e=.returned (.int .i64 k)/\pI s.data.toList k)/\Below w.heap.size w w':=by
 have h8z:decide ((8:Int)<(s.size:Int))=false:=decide_eq_false (by omega);obtain ⟨cs,hcs⟩:∃cs:ByteArray,⟨#[61,33,94,60,62,63,45]⟩=cs:=⟨_,rfl⟩;have HCS:=hid hcs;have hemp:cs.toList.isEmpty=false:=mZ (by rw [<-hcs];decide);have hn1:((cs.size:Int)==1)=false:=by rw [<-hcs];rfl
 rw [hcs];clear hcs;go_enter Tryz.func158,Tryz.ntmps158;go_wp2_with (go_at_call 190;refine (Tryz.strings_shouldUseASCIISet _ _).mono ?_;rintro e w' ⟨rfl,hw⟩;rw [hw,h8z])
 go_loopg [9,10] s.size (fun g _ _ wx=>∃i:Nat,i<=s.size/\s.size-i<=g/\Hid (zMu wx w.heap.size s i)/\Hid (Below w.heap.size w wx)/\Hid (∀c∈s.data.toList.take i,uF c=false))
 case atStart=>exact ⟨0,by omega,by omega,World.iter_heap _ _ _,(Below.refl _ _).alloc (Nat.le_refl _) _,fun c hc=>by simp at hc⟩
 case round =>
  obtain ⟨i,hi,hg,HI,HB,HN⟩:=hrel
  by_cases hlt:i<s.size
  ·have hil:i<s.data.toList.length:=by simpa using hlt
   have hnx:=fun ty=>zFm wr w.heap.size s i ty HI.out hlt
   obtain ⟨x,hx⟩:∃x:UInt8,s[i]'hlt=x:=⟨_,rfl⟩;have hxl:s.data.toList[i]=x:=hx
   by_cases hx128:x.toNat<128
   ·have hdec:=decode_ascii s i hlt (by rw [hx];exact hx128);rw [hx] at hdec;rw [hdec] at hnx;obtain ⟨hi2,hb2⟩:=zIB HI.out HB.out (i+1);simp only at hnx;obtain ⟨W1,hW1⟩:∃W1,setBlock wr w.heap.size (.stringIter s (i+1))=W1:=⟨_,rfl⟩;rw [hW1] at hnx hi2 hb2;have HI2:=hid hi2;have HB2:=hid hb2;have HXL:=hid hxl;have hback:((x.toNat:Int)).toNat.toUInt8=x:=by simp
    have hcon:=Lib.contains_iff_indexByte cs.data.toList x;have e1:cs.data.toList.contains x=uF x:=by rw [<-HCS.out];exact zEq x
    rw [e1] at hcon
    cases hop:uF x with
    | true =>
     rw [hop] at hcon;have hge:(0:Int)<=Lib.indexByte cs.data.toList x:=of_decide_eq_true hcon.symm;have HF:Hid (pI s.data.toList (i:Int)):=Or.inr ⟨i,rfl,hil,by rw [hxl];exact hop,HN.out⟩;clear hcon e1 hxl hx hW1 hi2 hb2 hdec hop;go_wp2_with (go_at_call 189;refine (Tryz.strings_IndexRune_ascii _ _ _ (by omega) (by omega)).mono ?_;rintro e w' ⟨rfl,hw⟩;rw [hw,hback]);go_ret;exact ⟨⟨_,rfl,HF.out⟩,HB2.out⟩
    | false =>
     rw [hop] at hcon;have hge:¬ ((0:Int)<=Lib.indexByte cs.data.toList x):=of_decide_eq_false hcon.symm
     have HF:Hid (∀c∈s.data.toList.take (i+1),uF c=false):=fun c hc=>by
      rw [List.take_succ_eq_append_getElem hil,List.mem_append,List.mem_singleton] at hc
      rcases hc with hc|hc
      ·exact HN.out c hc
      ·rw [hc,hxl];exact hop
     clear hcon e1 hxl hx hW1 hi2 hb2 hdec hop;go_wp2_with (go_at_call 189;refine (Tryz.strings_IndexRune_ascii _ _ _ (by omega) (by omega)).mono ?_;rintro e w' ⟨rfl,hw⟩;rw [hw,hback]);go_roundg (s.size-(i+1))
     case measure=>omega
     case rel=>exact ⟨i+1,by omega,by omega,HI2,HB2,HF⟩
   ·obtain ⟨r1,r2,r3,r4,r5⟩:=zL6 s i hlt (by rw [hx];omega);obtain ⟨hi2,hb2⟩:=zIB HI.out HB.out (i+(Utf8.decode s i).2);obtain ⟨r,hr⟩:∃r,(Utf8.decode s i).1=r:=⟨_,rfl⟩;obtain ⟨k,hk⟩:∃k,(Utf8.decode s i).2=k:=⟨_,rfl⟩;rw [hr,hk] at hnx;rw [hr] at r1 r2;rw [hk] at r3 r4 r5 hi2 hb2;obtain ⟨W1,hW1⟩:∃W1,setBlock wr w.heap.size (.stringIter s (i+k))=W1:=⟨_,rfl⟩;rw [hW1] at hnx hi2 hb2
    have HF:Hid (∀c∈s.data.toList.take (i+k),uF c=false):=fun c hc=>by
     obtain ⟨j,hj,rfl⟩:=List.mem_iff_getElem.1 hc;rw [List.length_take] at hj;rw [List.getElem_take]
     by_cases hji:j<i
     ·exact HN.out _ (List.mem_iff_getElem.2 ⟨j,by rw [List.length_take];omega,by rw [List.getElem_take]⟩)
     ·have hjs:j<s.size:=by have:=hj;simp at this;omega
      have h128:=r5 j (by omega) (by omega);rw [zH5 s j hjs] at h128;have e:s.data.toList[j]'(by simpa using hjs)=s[j]'hjs:=rfl;rw [e]
      cases hop:uF (s[j]'hjs) with
      | false=>rfl
      | true=>rcases zAb hop with h|h|h|h|h|h|h<;>(rw [h] at h128;exact absurd h128 (by decide))
    have HIR:Hid (Calls Tryz.prog 189 #[tq cs,.int .i32 r] W1 fun e w'=>e=.returned (ii (-1))/\zK W1 w'):=by
     show Calls _ _ _ _ _
     rw [<-HCS.out];exact zFb r (by omega) (by omega) W1
    have HI2:=hid hi2;have HB2:=hid hb2;clear hxl hx hW1 hi2 hb2 hr hk r5;go_wp2_with (go_at_call 189;refine HIR.out.mono ?_;rintro e w2 ⟨rfl,hg2⟩);go_roundg (s.size-(i+k))
    case measure=>omega
    case rel=>exact ⟨i+k,by omega,by omega,(hg2.below.block _ (Array.getElem?_eq_some_iff.1 HI2.out).1).trans HI2.out,zQ HB2.out HB2.out.size hg2.below,HF⟩
  ·have hi':i=s.size:=by omega
   have hnx:=fun ty=>zCY wr w.heap.size s i ty HI.out hlt
   have HF:Hid (pI s.data.toList (-1)):=Or.inl ⟨rfl,fun c hc=>HN.out c (by rw [List.take_of_length_le (by simp;omega)];exact hc)⟩;go_wp2_with fail;go_ret;exact ⟨⟨_,rfl,HF.out⟩,HB.out⟩
theorem zI7 (s:ByteArray) (w:World) (hs:s.size<=4294967000) :
  Calls Tryz.prog 158 #[.string s,.string ⟨#[61,33,94,60,62,63,45]⟩] w fun e w'=>(∃k,e=.returned (.int .i64 k)/\pI s.data.toList k)/\Below w.heap.size w w':=by
 by_cases h8:s.size<=8
 ·exact zE5 s w h8
 ·refine (Tryz.strings_IndexAny_long (fun _=>by kernel_rfl) s ⟨#[61,33,94,60,62,63,45]⟩ w (by decide) (by omega) (by omega) (by decide) (fun j b hb=>bP b (List.mem_of_getElem? hb))).mono ?_;rintro e w' ⟨rfl,rfl⟩;exact ⟨⟨_,rfl,nD _⟩,((Below.refl _ _).alloc (Nat.le_refl _) _).alloc (by simp) _⟩
end
section
open Go.RowKit Go.Lib
theorem zAj {W:World} {R:Nat} {x:Tm} (h:kJ W R x) (y:Tm) :
  kJ (((W.setCell ⟨R,0,none⟩ (.string y.1)).setCell ⟨R,1,none⟩ (.int .i64 y.2.1)).setCell ⟨R,2,none⟩ (.string y.2.2)) R y :=
 heap_setCell_same _ R 2 _ _ _ (heap_setCell_same _ R 1 _ _ _ (heap_setCell_same W R 0 _ _ _ h))
theorem dT {W:World} {R:Nat} {x:Tm} (h:kJ W R x):W.frozen? ⟨R,0,none⟩=false/\W.frozen? ⟨R,1,none⟩=false/\W.frozen? ⟨R,2,none⟩=false :=
 ⟨Lib.frozen_of_heap h 0,Lib.frozen_of_heap h 1,Lib.frozen_of_heap h 2⟩
theorem zAo {B R:Nat} {w W:World} (h:Below B w W) (hR:B<=R) (y:Tm):Below B w (((W.setCell ⟨R,0,none⟩ (.string y.1)).setCell ⟨R,1,none⟩ (.int .i64 y.2.1)).setCell ⟨R,2,none⟩ (.string y.2.2)) :=
 ((h.setCell (p:=(aa R 0)) hR _).setCell (p:=(aa R 1)) hR _).setCell (p:=(aa R 2)) hR _
theorem zGT {c:UInt8} {r t:List UInt8} (h:yJ (c::r)=some t):t≠[]:=by
 cases hf:xK (c::r) with
 | none=>rw [jP (by simp) hf] at h;cases h
 | some o =>
  obtain ⟨c',n⟩:=o;rw [qH hf] at h
  cases hr:yJ ((c::r).drop n) with
  | none=>rw [hr] at h;cases h
  | some m =>
   rw [hr] at h;rintro rfl
   cases h
theorem zM2 {c:UInt8} (h:uF c=true):Lib.indexByte (⟨#[61,33,94,60,62,63,45]⟩:ByteArray).data.toList c=opN (c.toNat:Int)-1:=by
 rcases zAb h with rfl|rfl|rfl|rfl|rfl|rfl|rfl<;>decide
theorem zKf {c:UInt8} (h:uF c=true):1<=opN (c.toNat:Int)/\opN (c.toNat:Int)<=7:=by
 have h1:=bA (c.toNat:Int);have h2:opN (c.toNat:Int)≠0:=by unfold uF at h;exact bne_iff_ne.1 h
 omega
theorem zLl {l:List UInt8} {i:Nat} (hi:i<l.length) (h1:uF l[i]=true) (h2:∀c∈l.take i,uF c=false) :
  uL l=match yJ (l.drop (i+1)) with
   | none=>none
   | some t=>if yP (⟨(l.take i).toArray⟩,opN (l[i].toNat:Int),⟨t.toArray⟩)=true then some (⟨(l.take i).toArray⟩,opN (l[i].toNat:Int),⟨t.toArray⟩) else none:=by
 obtain ⟨e1,e2⟩:=zBU hi h2 h1;unfold uL;rw [e2];simp only
 cases hr:yJ (l.drop (i+1)) with
 | none=>rfl
 | some t =>
  simp only;rw [e1];obtain ⟨o1,o2⟩:=zKf h1
  have hz:(⟨t.toArray⟩:ByteArray).size=0↔t=[]:=by
   show t.toArray.size=0↔_
   simp
  have hne:l.drop (i+1)≠[]↔t≠[]:=by
   cases hd:l.drop (i+1) with
   | nil=>rw [hd,sB] at hr;cases hr;simp
   | cons c r=>rw [hd] at hr;exact ⟨fun _=>zGT hr,fun _=>by simp⟩
  by_cases h5:5<opN (l[i].toNat:Int)
  ·by_cases ht:t=[]
   ·have:yP (⟨(l.take i).toArray⟩,opN (l[i].toNat:Int),⟨t.toArray⟩)=true:=by
     unfold yP;simp only [decide_eq_true o1,decide_eq_true o2,decide_eq_true (hz.2 ht),Bool.true_and,Bool.or_true]
    rw [if_neg (fun h=>(hne.1 h.2) ht),if_pos this]
   ·have:yP (⟨(l.take i).toArray⟩,opN (l[i].toNat:Int),⟨t.toArray⟩)=false:=by
     unfold yP;have e3:decide (opN (l[i].toNat:Int)<6)=false:=decide_eq_false (by omega);have e4:decide ((⟨t.toArray⟩:ByteArray).size=0)=false:=decide_eq_false (fun h=>ht (hz.1 h));simp only [e3,e4,Bool.or_false,Bool.and_false]
    rw [if_pos ⟨h5,hne.2 ht⟩,if_neg (by rw [this];simp)]
  ·have:yP (⟨(l.take i).toArray⟩,opN (l[i].toNat:Int),⟨t.toArray⟩)=true:=by
    unfold yP;have e3:decide (opN (l[i].toNat:Int)<6)=true:=decide_eq_true (by omega);simp only [decide_eq_true o1,decide_eq_true o2,e3,Bool.true_and,Bool.true_or]
   rw [if_neg (fun h=>h5 h.1),if_pos this]
theorem pI.uniq {l:List UInt8} {a b:Int} (ha:pI l a) (hb:pI l b):a=b:=by
 rcases ha with ⟨rfl,h1⟩|⟨i,rfl,hi,h1,h2⟩
 ·rcases hb with ⟨rfl,_⟩|⟨j,rfl,hj,h3,_⟩
  ·rfl
  ·rw [h1 _ (List.getElem_mem hj)] at h3;cases h3
 ·rcases hb with ⟨rfl,h3⟩|⟨j,rfl,hj,h3,h4⟩
  ·rw [h3 _ (List.getElem_mem hi)] at h1;cases h1
  ·rcases Nat.lt_trichotomy i j with h|h|h
   ·rw [h4 _ (List.mem_iff_getElem.2 ⟨i,by rw [List.length_take];omega,by rw [List.getElem_take]⟩)] at h1;cases h1
   ·rw [h]
   ·rw [h2 _ (List.mem_iff_getElem.2 ⟨j,by rw [List.length_take];omega,by rw [List.getElem_take]⟩)] at h3;cases h3
theorem zEf {s:ByteArray} {k:Int} (h:pI s.data.toList k) (w:World) (hs:s.size<=4294967000) :
  Calls Tryz.prog 158 #[.string s,.string ⟨#[61,33,94,60,62,63,45]⟩] w fun e w'=>e=.returned (.int .i64 k)/\Below w.heap.size w w' :=
 (zI7 s w hs).mono fun _ _ ⟨⟨k',h1,h2⟩,h3⟩=>⟨by rw [h1,h.uniq h2],h3⟩
def zNP (o:Option Tm):Value:=match o with
 | none=>.tuple #[.agg #[.string ⟨#[]⟩,.int .i64 0,.string ⟨#[]⟩],.int .i64 4]
 | some x=>.tuple #[.agg #[.string x.1,.int .i64 x.2.1,.string x.2.2],.int .i64 0]
theorem zLy (s:ByteArray) (w:World) (hp:zY w) (hs:s.size<=4294967000) :
  Calls Tryz.prog 116 #[.string s] w fun e w'=>e=.returned (zNP (uL s.data.toList))/\Below w.heap.size w w':=by
 obtain ⟨W0,hW0⟩:∃W0,w.alloc (.cells #[tq ⟨#[]⟩,ii 0,tq ⟨#[]⟩] 49)=W0:=⟨_,rfl⟩;obtain ⟨R,hR⟩:∃R,w.heap.size=R:=⟨_,rfl⟩;have hb0:Below R w W0:=by rw [<-hW0,<-hR];exact (Below.refl _ _).alloc (Nat.le_refl _) _
 have hx0:kJ W0 R (⟨#[]⟩,0,⟨#[]⟩):=by rw [<-hW0,<-hR];exact zAz w (⟨#[]⟩,0,⟨#[]⟩)
 have hRl:R<W0.heap.size:=hx0.lt;have HP:=hid (show zY W0 from hp.on (by rw [hR];exact hb0));have HB0:=hid hb0;have HX0:=hid hx0;obtain ⟨V,hV⟩:∃V,zNP (uL s.data.toList)=V:=⟨_,rfl⟩;have HV:=hid hV;rw [hV,hR];clear hp hb0 hx0 hV;have KR:Hid (∀W,Below W0.heap.size W0 W->kJ W R (⟨#[]⟩,0,⟨#[]⟩)):=fun W h=>HX0.out.on h
 have KZ:Hid (∀W,Below W0.heap.size W0 W->Below R w W):=fun W h=>HB0.out.trans (h.mono (Nat.le_of_lt hRl))
 rcases nD s.data.toList with hk|⟨i,hki,hi,h1,h2⟩
 ·have HX:=hid (zEf (Or.inl ⟨rfl,hk.2⟩) W0 hs)
  have HO:Hid (V=.tuple #[.agg #[tq ⟨#[]⟩,ii 0,tq ⟨#[]⟩],ii 4]):=by
   show _=_
   rw [<-HV.out,zII hk.2];rfl
  clear hk;go_enter Tryz.func116,Tryz.ntmps116;go_wp2_with (first|(go_at_call 158;refine HX.out.mono ?_;rintro e w1 ⟨rfl,hb1⟩;have hx1:=KR.out _ hb1;obtain ⟨k0,k1,k2⟩:=hx1.cells;obtain ⟨f0,f1,f2⟩:=dT hx1;simp only at k0 k1 k2;have HX1:=hid hx1;clear hx1));obtain ⟨j0,j1,j2⟩:=(zAj HX1.out (⟨#[]⟩,0,⟨#[]⟩)).cells;simp only at j0 j1 j2;exact bodyPost_ret (v:=.tuple #[.agg #[tq ⟨#[]⟩,ii 0,tq ⟨#[]⟩],ii 4]) (by simp [results,Tryz.results116,go_sem,j0,j1,j2]) rfl ⟨by rw [HO.out],zAo (KZ.out _ hb1) (Nat.le_refl _) (⟨#[]⟩,0,⟨#[]⟩)⟩
 ·have HX:=hid (zEf (Or.inr ⟨i,rfl,hi,h1,h2⟩) W0 hs);have HT:=hid (zLl hi h1 h2);have his:i<s.size:=by simpa using hi
  obtain ⟨c,hc⟩:∃c,s[i]'his=c:=⟨_,rfl⟩;have hcl:s.data.toList[i]=c:=hc;rw [hcl] at HT h1;have hix:=zM2 h1;obtain ⟨o1,o2⟩:=zKf h1;obtain ⟨o,ho⟩:∃o,opN (c.toNat:Int)=o:=⟨_,rfl⟩;rw [ho] at hix o1 o2 HT;have hback:((c.toNat:Int)).toNat.toUInt8=c:=by simp
  have HIX:Hid (∀W,Calls Tryz.prog 159 #[tq ⟨#[61,33,94,60,62,63,45]⟩,.int .u8 c.toNat] W fun e w'=>e=.returned (ii (o-1))/\w'=W):=fun W=>by
   have:=Tryz.strings_IndexByte ⟨#[61,33,94,60,62,63,45]⟩ c.toNat W;rw [hback,hix] at this;exact this
  have hw1:IntKind.i64.wrap (1+(o-1))=o:=by rw [show 1+(o-1)=o by omega];exact wrap_i64 _ (by omega) (by omega)
  have hiz:(0:Int)<=i:=by omega
  have hiz2:(i:Int)<(s.size:Int):=by omega
  have hiz3:(i:Int)+1<=(s.size:Int):=by omega
  have hiz4:(0:Int)<=(i:Int)+1:=by omega
  have hit:((i:Int)+1).toNat=i+1:=by omega
  have hnn:¬ ((i:Int)<0):=by omega
  have HRD:Hid (∀W,zY W->Calls Tryz.prog 153 #[tq (s.extract (i+1) s.size)] W fun e w'=>e=.returned (nX (yJ (s.data.toList.drop (i+1))))/\Below W.heap.size W w'):=fun W h=>by
   have:=gD (s.extract (i+1) s.size) W h (by simp;omega)
   rwa [nM] at this
  have HE:=hid (jC s i);clear hcl hix ho hki hi h2 h1
  cases hrd:yJ (s.data.toList.drop (i+1)) with
  | none =>
   rw [hrd] at HRD HT
   have HO:Hid (V=.tuple #[.agg #[tq ⟨#[]⟩,ii 0,tq ⟨#[]⟩],ii 4]):=by
    show _=_
    rw [<-HV.out,HT.out];rfl
   simp only [nX] at HRD;go_enter Tryz.func116,Tryz.ntmps116
   go_wp2_with (first
    | (go_at_call 158;refine HX.out.mono ?_;rintro e w1 ⟨rfl,hb1⟩)
    | (go_at_call 159;refine (HIX.out _).mono ?_;rintro e w1' ⟨rfl,hw'⟩;rw [hw'])
    | (go_at_call 153;refine (HRD.out w1 (HP.out.on hb1)).mono ?_;rintro e w2 ⟨rfl,hb2⟩;have hb12:Below W0.heap.size W0 (w2.alloc (.cells #[tq (s.extract 0 i),ii o,tq ⟨#[]⟩] 49)):=(zQ hb1 hb1.size hb2).alloc (Nat.le_trans hb1.size hb2.size) _;have hx1:=KR.out _ hb12;obtain ⟨k0,k1,k2⟩:=hx1.cells;obtain ⟨f0,f1,f2⟩:=dT hx1;simp only at k0 k1 k2;have HX1:=hid hx1;clear hx1))
   obtain ⟨j0,j1,j2⟩:=(zAj HX1.out (⟨#[]⟩,0,⟨#[]⟩)).cells;simp only at j0 j1 j2;exact bodyPost_ret (v:=.tuple #[.agg #[tq ⟨#[]⟩,ii 0,tq ⟨#[]⟩],ii 4]) (by simp [results,Tryz.results116,go_sem,j0,j1,j2]) rfl ⟨by rw [HO.out],zAo (KZ.out _ hb12) (Nat.le_refl _) (⟨#[]⟩,0,⟨#[]⟩)⟩
  | some t =>
   rw [hrd] at HRD HT;simp only [nX] at HRD;rw [<-HE.out] at HT;have HU:Hid (∀W,Calls Tryz.prog 160 #[.agg #[tq (s.extract 0 i),ii o,tq ⟨t.toArray⟩]] W fun e w'=>e=.returned (.bool (!yP (s.extract 0 i,o,⟨t.toArray⟩)))/\zK W w'):=fun W=>zFr (s.extract 0 i,o,⟨t.toArray⟩) W
   have KF:Hid (∀w2 w4:World,Below W0.heap.size W0 w2->zK (w2.alloc (.cells #[tq (s.extract 0 i),ii o,tq ⟨t.toArray⟩] 49)) w4->kJ w4 w2.heap.size (s.extract 0 i,o,⟨t.toArray⟩)/\Below W0.heap.size W0 w4):=fun w2 w4 h hg =>
    ⟨(zAz w2 (s.extract 0 i,o,⟨t.toArray⟩)).on hg.below,zQ (h.alloc h.size _) (h.alloc h.size _).size hg.below⟩
   cases hrt:yP (s.extract 0 i,o,⟨t.toArray⟩) with
   | false =>
    rw [hrt] at HU
    have HO:Hid (V=.tuple #[.agg #[tq ⟨#[]⟩,ii 0,tq ⟨#[]⟩],ii 4]):=by
     show _=_
     rw [<-HV.out,HT.out];simp only [hrt];rfl
    go_enter Tryz.func116,Tryz.ntmps116
    go_wp2_with (first
     | (go_at_call 158;refine HX.out.mono ?_;rintro e w1 ⟨rfl,hb1⟩)
     | (go_at_call 159;refine (HIX.out _).mono ?_;rintro e w1' ⟨rfl,hw'⟩;rw [hw'])
     | (go_at_call 153;refine (HRD.out w1 (HP.out.on hb1)).mono ?_;rintro e w2 ⟨rfl,hb2⟩;have hb12:Below W0.heap.size W0 w2:=zQ hb1 hb1.size hb2)
     | (go_at_call 160;refine (HU.out _).mono ?_;rintro e w4 ⟨rfl,hg4⟩;obtain ⟨hbx,hb4⟩:=KF.out _ _ hb12 hg4;have hx1:=KR.out _ hb4;obtain ⟨k0,k1,k2⟩:=hx1.cells;obtain ⟨f0,f1,f2⟩:=dT hx1;simp only at k0 k1 k2;have HX1:=hid hx1;clear hx1 hbx))
    obtain ⟨j0,j1,j2⟩:=(zAj HX1.out (⟨#[]⟩,0,⟨#[]⟩)).cells;simp only at j0 j1 j2;exact bodyPost_ret (v:=.tuple #[.agg #[tq ⟨#[]⟩,ii 0,tq ⟨#[]⟩],ii 4]) (by simp [results,Tryz.results116,go_sem,j0,j1,j2]) rfl ⟨by rw [HO.out],zAo (KZ.out _ hb4) (Nat.le_refl _) (⟨#[]⟩,0,⟨#[]⟩)⟩
   | true =>
    rw [hrt] at HU
    have HO:Hid (V=.tuple #[.agg #[tq (s.extract 0 i),ii o,tq ⟨t.toArray⟩],ii 0]):=by
     show _=_
     rw [<-HV.out,HT.out];simp only [hrt];rfl
    go_enter Tryz.func116,Tryz.ntmps116
    go_wp2_with (first
     | (go_at_call 158;refine HX.out.mono ?_;rintro e w1 ⟨rfl,hb1⟩)
     | (go_at_call 159;refine (HIX.out _).mono ?_;rintro e w1' ⟨rfl,hw'⟩;rw [hw'])
     | (go_at_call 153;refine (HRD.out w1 (HP.out.on hb1)).mono ?_;rintro e w2 ⟨rfl,hb2⟩;have hb12:Below W0.heap.size W0 w2:=zQ hb1 hb1.size hb2)
     | (go_at_call 160;refine (HU.out _).mono ?_;rintro e w4 ⟨rfl,hg4⟩;obtain ⟨hbx,hb4⟩:=KF.out _ _ hb12 hg4;obtain ⟨g0,g1,g2⟩:=hbx.cells;have hx1:=KR.out _ hb4;obtain ⟨k0,k1,k2⟩:=hx1.cells;obtain ⟨f0,f1,f2⟩:=dT hx1;simp only at k0 k1 k2 g0 g1 g2;have HX1:=hid hx1;clear hx1 hbx))
    obtain ⟨j0,j1,j2⟩:=(zAj HX1.out (s.extract 0 i,o,⟨t.toArray⟩)).cells;simp only at j0 j1 j2;exact bodyPost_ret (v:=.tuple #[.agg #[tq (s.extract 0 i),ii o,tq ⟨t.toArray⟩],ii 0]) (by simp [results,Tryz.results116,go_sem,j0,j1,j2]) rfl ⟨by rw [HO.out],zAo (KZ.out _ hb4) (Nat.le_refl _) (s.extract 0 i,o,⟨t.toArray⟩)⟩
end
section
open Go.RowKit Go.Lib
def zNV (x:ByteArray):List Value:=[.string x]
def KT:zE ByteArray:=⟨9,1,zNV,fun _=>rfl,by decide,fun x u hu=>by simp [zNV] at hu;subst hu;rfl⟩
theorem gO (N:Nat) (w:World):uW N w (.slice none 0 0) []:=⟨⟨World.ownsRow_nil _ _ _ _,fun x hx=>by simp at hx⟩,List.Pairwise.nil⟩
def zCD (d:List Fx):Prop:=d.length * 40<=140737488355328/\∀x∈d,x.txt.length * 16<=140737488355328
theorem zHa (v:Value) (d:List Fx) (w:World) (hv:qZ w v d) (hf:sD d) (hc:zCD d) :
  Calls Tryz.prog 24 #[v] w fun e w'=>∃u o,e=.returned u/\uW w.heap.size w' u o/\o.map Fx.fld=d.map Fx.fld/\Below w.heap.size w w':=by
 obtain ⟨j0,hj0,hy0,hy1,hy2⟩:=info_parts Tryz.infoFld;obtain ⟨i0,hi0,hz0,hz1,hz2⟩:=info_parts Tryz.infoStr;have HJ:=hid hj0;have HI:=hid hi0;obtain ⟨p,cap,rfl,hd,ht⟩:=hv;have HD:=hid hd;have HX:=hid ht;have hl:=hf.1;unfold maxLen at hl;have h40:=hc.1;have H16:=hid hc.2;clear hd ht hf hj0 hi0 hc;go_enter Tryz.func24,Tryz.ntmps24;go_wp2_with fail
 go_loopg [3,4] d.length (fun g vs vi wr=>∃(i:Nat) (o:List Fx),vi=ii i/\i<=d.length/\d.length-i<=g/\Hid (o.map Fx.fld=(d.take i).map Fx.fld)/\Hid (uW w.heap.size wr vs o)/\Hid (Below w.heap.size w wr))
 case atStart=>exact ⟨0,[],rfl,by omega,by omega,by show _=_;simp,gO _ _,Below.refl _ _⟩
 case round =>
  obtain ⟨i,o,rfl,hi,hgk,HM,HO,HB⟩:=hrel;have hol:o.length=i:=by have:=congrArg List.length HM.out;simp at this;omega
  by_cases hlt:i<d.length
  ·have hltz:(i:Int)<(d.length:Int):=by omega
   have hiz:(0:Int)<=i:=by omega
   obtain ⟨b,off,rfl,hxs⟩:∃b off,p=some (aa b off)/\kL w b off d:=by
    rcases HD.out with h|h
    ·subst h;simp at hlt
    ·exact h
   have hxi:(d[i]).at w:=HX.out _ (List.getElem_mem hlt);have hx16:=H16.out _ (List.getElem_mem hlt);have hcl:=hxs i hlt
   have hnx:(d.take (i+1)).map Fx.fld=(d.take i).map Fx.fld++[(d[i]).fld]:=by
    rw [List.take_succ_eq_append_getElem hlt,List.map_append];simp
   obtain ⟨x,hx⟩:∃x,d[i]=x:=⟨_,rfl⟩;rw [hx] at hxi hx16 hcl hnx;obtain ⟨nm,p5,c5,ts⟩:=x;simp only [Fx.at,Fx.sl,Fx.fld] at hxi hx16 hcl hnx;have HNX:=hid hnx;have HXI:=hid hxi
   have HCL:Hid (∀W,Below w.heap.size w W->W.cell? (aa b (off+i * 2))=some (tq nm)/\W.cell? (aa b (off+i * 2+1))=some (sc p5 ts.length c5)):=fun W hW =>
    ⟨(hW.cell (p:=(aa b (off+i * 2))) (zJ hcl.1)).trans hcl.1,(hW.cell (p:=(aa b (off+i * 2+1))) (zJ hcl.2)).trans hcl.2⟩
   have HOB:Hid (∀y∈o,∀k,y.sl.ownBlock=some k->k<wr.heap.size):=fun y hy k hk=>(World.ownsRow.lt (show wr.ownsRow w.heap.size 9 1 y.sl y.txt.length (y.txt.map Value.string) from HO.out.1.2 y hy) k hk).2
   have hsz:=HB.out.size;obtain ⟨M,hM⟩:∃M,wr.heap.size=M:=⟨_,rfl⟩;obtain ⟨W0,hW0⟩:∃W0,wr=W0:=⟨_,rfl⟩
   have HBW:Hid (∀W,Below M W0 W->Below w.heap.size w W/\uW w.heap.size W u3 o):=fun W hW=>by
    rw [<-hW0,<-hM] at hW;exact ⟨zQ HB.out hsz hW,HO.out.on hW⟩
   have HM0:Hid (Below M W0 W0):=Below.refl _ _;have HMS:Hid (M=W0.heap.size):=by show _=_;rw [<-hW0];exact hM.symm
   rw [hM] at HOB hsz;have HE0:Hid (yV M W0 (sc none 0 0) (ts.take 0)):=by show yV _ _ _ _;rw [List.take_zero];exact World.ownsRow_nil _ _ _ _
   clear hxs hxi hx hcl hnx HO HB;go_wp2_with fail
   go_loopg [5,6] ts.length (fun g vs vj wr2=>∃j:Nat,vj=ii j/\j<=ts.length/\ts.length-j<=g/\Hid (yV M wr2 vs (ts.take j))/\Hid (Below M W0 wr2))
   case atStart=>exact ⟨0,rfl,by omega,by omega,HE0.out,HM0.out⟩
   case round =>
    clear HE0 hW0 hM;obtain ⟨j,rfl,hj,hgj,HT,HBJ⟩:=hrel;obtain ⟨hbw,hoj⟩:=HBW.out wr HBJ.out;obtain ⟨e0,e1⟩:=HCL.out wr hbw;have hszM:M<=wr.heap.size:=by have:=HBJ.out.size;have h2:=HMS.out;omega
    have htl:(ts.take j).length=j:=by rw [List.length_take];omega
    by_cases hlj:j<ts.length
    ·have hljz:(j:Int)<(ts.length:Int):=by omega
     have hjz:(0:Int)<=j:=by omega
     obtain ⟨b2,o2,rfl,ht2⟩:∃b o,p5=some (aa b o)/\∀i,(h:i<ts.length)->w.cell? (aa b (o+i))=some (tq ts[i]):=by
      rcases HXI.out with h|h
      ·rw [h] at hlj;simp at hlj
      ·exact h
     have t0:wr.cell? (aa b2 (o2+j))=some (tq ts[j]):=(hbw.cell (p:=(aa b2 (o2+j))) (zJ (ht2 j hlj))).trans (ht2 j hlj);have hst:ts.take (j+1)=ts.take j++[ts[j]]:=List.take_succ_eq_append_getElem hlj;obtain ⟨t,hte⟩:∃t,ts[j]=t:=⟨_,rfl⟩;rw [hte] at t0 hst;have HST:=hid hst;obtain ⟨acc,hacc⟩:∃acc,ts.take j=acc:=⟨_,rfl⟩;rw [hacc] at HT HST htl;clear ht2 hst hte hacc hoj hbw;go_wp2_with (at_builtin;refine wpList_append_own _ rfl _ _ 43 rfl M 9 i0 (tq ⟨#[]⟩) 1 16 Tryz.underlying43 HI.out hz0 hz1 hz2 rfl (by decide) _ _ _ rfl (World.ownsRow.alloc HT.out _) _ 1 1 [tq t] rfl rfl (fun j u hj=>KT.news wr t j u hj) (by intro u hu;simp at hu;subst hu;rfl) (by unfold maxLen;omega) (by omega) (by simp;omega) ?_;intro v4 w4 hown4 hg4 hnil4;have HO4:=hid hown4;have HG4:=hid hg4;clear hown4 hg4 hnil4);go_roundg (ts.length-(j+1))
     case measure=>omega
     refine ⟨j+1,by go_num,by omega,by omega,?_,?_⟩
     ·rw [HST.out];show yV _ _ _ _;unfold yV;rw [List.length_append,List.map_append];exact HO4.out
     ·exact (HBJ.out.alloc hszM _).grown HG4.out (by simp;omega) (fun k hk=>(World.ownsRow.lt HT.out k hk).1)
    ·have hljz:¬ (j:Int)<(ts.length:Int):=by omega
     have hjt:ts.take j=ts:=List.take_of_length_le (by omega);rw [hjt] at HT;obtain ⟨p6,c6,hsl⟩:=tF HT.out;subst hsl;have HOJ:=hid hoj;have HBWW:=hid hbw;have hbs:=hbw.size;clear hjt htl hoj hbw;go_wp2_with (at_builtin;refine wpList_append_own _ rfl _ _ 37 rfl w.heap.size 45 j0 (.agg #[tq ⟨#[]⟩,sc none 0 0]) 2 40 Tryz.underlying37 HJ.out hy0 hy1 hy2 rfl (by decide) _ _ _ rfl (World.ownsRow.alloc HOJ.out.1.1 _) (aa wr.heap.size 0) 1 1 (yN [⟨nm,p6,c6,ts⟩]) rfl rfl (zBe wr ⟨nm,p6,c6,ts⟩) (tS _) (by unfold maxLen;omega) (by omega) (by simp;omega) ?_;intro v4 w4 hown4 hg4 hnil4;have HO4:=hid hown4;have HG4:=hid hg4;clear hown4 hg4 hnil4);go_roundg (d.length-(i+1))
     case measure=>omega
     refine ⟨i+1,o++[⟨nm,p6,c6,ts⟩],by go_num,by omega,by omega,?_,?_,?_⟩
     ·show _=_
      rw [List.map_append,HM.out,HNX.out];rfl
     ·have hal:=(Below.refl wr.heap.size wr).alloc (Nat.le_refl _) (.cells #[tq nm,sc p6 ts.length c6] 45);exact fW (M:=M) (HOJ.out.on hal) (show yV M _ (Fx.sl ⟨nm,p6,c6,ts⟩) ts from yV.on HT.out hal) (fun y hy k hk=>HOB.out y hy k hk) hsz HO4.out HG4.out
     ·exact (HBWW.out.alloc hbs _).grown HG4.out (by simp;omega) (fun k hk=>(World.ownsRow.lt HOJ.out.1.1 k hk).1)
  ·have hltz:¬ (i:Int)<(d.length:Int):=by omega
   have hti:d.take i=d:=List.take_of_length_le (by omega);rw [hti] at HM;go_wp2_with fail;go_ret;exact ⟨_,rfl,o,HO.out,HM.out,HB.out⟩
end
section
open Go.RowKit
attribute [local go_sem] Oper.semAt_some
theorem zJ2 {l:List UInt8} {x:Tm} (h:uL l=some x):x.1.size<=l.length/\x.2.2.size<=l.length/\0<=x.2.1/\x.2.1<=7:=by
 unfold uL at h
 cases hd:l.dropWhile (fun c=>!uF c) with
 | nil=>rw [hd] at h;cases h
 | cons c r =>
  rw [hd] at h;simp only at h;have hl:(l.dropWhile (fun c=>!uF c)).length<=l.length:=(List.dropWhile_sublist _).length_le;rw [hd,List.length_cons] at hl
  cases hr:yJ r with
  | none=>rw [hr] at h;cases h
  | some t =>
   rw [hr] at h;simp only at h
   split at h
   ·cases h
   ·cases h;have h1:=pQ _ _ _ (Nat.le_refl _) hr;have h2:=bA (c.toNat:Int);refine ⟨?_,?_,h2.1,h2.2⟩
    ·show (l.takeWhile _).toArray.size<=_
     rw [List.size_toArray];exact (List.takeWhile_sublist _).length_le
    ·show t.toArray.size<=_
     rw [List.size_toArray];omega
theorem zGe {B:Nat} (ls:List (List UInt8)) (hB:∀l∈ls,l.length<=B):∀d,yA ls=some d->d.length=ls.length/\∀x∈d,x.1.size<=B/\x.2.2.size<=B/\0<=x.2.1/\x.2.1<=7:=by
 induction ls with
 | nil=>intro d h;cases h;exact ⟨rfl,fun x hx=>by simp at hx⟩
 | cons l ls ih =>
  intro d h;simp only [yA] at h
  cases ho:uL l with
  | none=>rw [ho] at h;cases h
  | some y =>
   rw [ho] at h
   cases hr:yA ls with
   | none=>rw [hr] at h;cases h
   | some gs =>
    rw [hr] at h
    cases h;obtain ⟨h1,h2⟩:=ih (fun l' hl'=>hB l' (by simp [hl'])) gs hr;refine ⟨by simp [h1],fun x hx=>?_⟩
    rcases List.mem_cons.1 hx with rfl|hx
    ·obtain ⟨f1,f2,f3,f4⟩:=zJ2 ho;have:=hB l (by simp);exact ⟨by omega,by omega,f3,f4⟩
    ·exact h2 x hx
theorem zE.own_far {α:Type} {K:zE α} {N R:Nat} {w w':World} {v:Value} {d:List α} (h:K.Own N w v d) (hg:w.grownBy w' (some R)) (hR:R<N):K.Own N w' v d :=
 zAs h fun k hk=>hg.block k (World.ownsRow.lt h k hk).2 (fun e=>by have:=(World.ownsRow.lt h k hk).1;have:=Option.some.inj e;omega)
def PSt {M:Nat} (w:World) (N:Nat) (pre:List (Wd M)) (W:World):Prop :=
 ∃v d,W.heap[w.heap.size+2]? = some (.cells #[v] 39 (0,0))/\KM.Own (N+2) W v d/\yA (zU pre)=some d/\d.length=pre.length /\
  W.heap[w.heap.size]? = some (.cells #[.slice none 0 0] 39 (0,0))/\W.heap[w.heap.size+1]? = some (.cells #[.int .i64 0] 26 (0,0))/\Below w.heap.size w W/\N+2<=W.heap.size/\w.heap.size+6<=N
def zO6 {M:Nat} (w:World) (N:Nat) (c:Code) (pre:List (Wd M)) (W:World):Prop :=
 c=.ret/\yA (zU pre)=none/\W.heap[w.heap.size]? = some (.cells #[.slice none 0 0] 39 (0,0))/\W.heap[w.heap.size+1]? = some (.cells #[.int .i64 4] 26 (0,0))/\Below w.heap.size w W/\w.heap.size+6<=N
theorem zDV (w:World):Calls Tryz.prog 73 #[.string ⟨#[]⟩] w fun e w'=>fX w (yA (zO [])) e w':=by
 refine (callsIn_wide (n:=3)).1 ?_;refine callsIn_of_wp_marks Tryz.func73 rfl trivial ?_ rfl;simp only [Tryz.ntmps73,List.size_toArray,List.length_cons,List.length_nil,Nat.reduceAdd,Nat.reduceSub,Array.replicate_succ,Array.replicate_zero,List.push_toArray,List.append_toArray,List.nil_append,List.cons_append]
 gi_wp2
 exact ⟨.tuple #[sc none 0 0,ii 0],by simp [results,Tryz.results73,go_sem],⟨⟨_,rfl,KM.own_nil _ _⟩,((Below.refl _ w).alloc (Nat.le_refl _) _).alloc (by simp) _⟩⟩
theorem zDJ (s:ByteArray) (w:World) (hp:zY w) (h0:s.data.toList≠[]) (hs:s.size<=4294967000) :
  Calls Tryz.prog 73 #[.string s] w fun e w'=>fX w (yA (zO s.data.toList)) e w':=by
 refine (callsIn_wide (n:=3)).1 ?_;refine callsIn_of_wp_marks Tryz.func73 rfl trivial ?_ rfl;simp only [Tryz.ntmps73,List.size_toArray,List.length_cons,List.length_nil,Nat.reduceAdd,Nat.reduceSub,Array.replicate_succ,Array.replicate_zero,List.push_toArray,List.append_toArray,List.nil_append,List.cons_append];have hsl:(zG s.data.toList).length<=s.size+1:=by simpa using jW s.data.toList
 have hne:s.toList.isEmpty=false:=by
  rw [Lib.toList_data]
  cases h:s.data.toList with
  | nil=>exact absurd h h0
  | cons _ _=>rfl
 gi_wp2_with (refine ⟨trivial,?_⟩;gi_at_call 16;refine (callsIn_wide.2 (jS _ _)).mono ?_;rintro e w3 ⟨rfl,hbx,hb3,hs3⟩)
 simp only [World.size_alloc] at hbx hb3 hs3;have hb30:Below w.heap.size w w3:=((((Below.refl _ w).alloc (Nat.le_refl _) _).alloc (by simp) _).alloc (by simp;omega) _).trans (hb3.mono (by omega))
 have g0:w3.heap[w.heap.size]? = some (.cells #[sc none 0 0] 39 (0,0)):=by
  rw [hb3.block _ (by omega),Below.heap_alloc _ _ _ (by simp;omega),Below.heap_alloc _ _ _ (by simp)];exact heap_alloc_new w _
 have g1:w3.heap[w.heap.size+1]? = some (.cells #[ii 0] 26 (0,0)):=by
  rw [hb3.block _ (by omega),Below.heap_alloc _ _ _ (by simp)];have:=heap_alloc_new (w.alloc (.cells #[sc none 0 0] 39)) (.cells #[ii 0] 26)
  simpa using this
 have g2:w3.heap[w.heap.size+2]? = some (.cells #[sc none 0 0] 39 (0,0)):=by
  rw [hb3.block _ (by omega)];have:=heap_alloc_new ((w.alloc (.cells #[sc none 0 0] 39)).alloc (.cells #[ii 0] 26)) (.cells #[sc none 0 0] 39)
  simpa using this
 have hN6:w3.heap.size=w.heap.size+6:=by omega
 have ST0:Hid (∀o1 o2,PSt (M:=s.size) w w3.heap.size [] ((w3.alloc o1).alloc o2)):=fun o1 o2=>by
  have ha:∀k,k<w3.heap.size->((w3.alloc o1).alloc o2).heap[k]? = w3.heap[k]?:=fun k hk=>by
   rw [Below.heap_alloc _ _ _ (by simp;omega),Below.heap_alloc _ _ _ hk]
  exact ⟨sc none 0 0,[],(ha _ (by omega)).trans g2,KM.own_nil _ _,rfl,rfl,(ha _ (by omega)).trans g0,(ha _ (by omega)).trans g1,
   (hb30.alloc hb30.size _).alloc (by have:=hb30.size;simp;omega) _,by simp,by omega⟩
 have HBX:=hid hbx;have HP:=hid hp;have hen:=enters_of (P:=Tryz.prog) Tryz.func61 (by kernel_rfl) rfl;clear hbx hp g0 g1 g2 hb3 hs3
 refine uA (w:=w3) rfl (by decide) (gf:=61) (lb:=#[.pointer (some (aa (w.heap.size+1+1+1+1) 0)),.pointer (some (aa (w.heap.size+1+1+1) 0)),.pointer (some (aa (w.heap.size+1+1+1+2) 0))]) rfl trivial hen (Bs:=w.heap.size+1+1+1) (by omega)
  (dI 2 (by decide) s.size _ _ _ s (Nat.le_refl _) (by unfold maxLen;omega) w3 HBX.out) ?hKt ?hKb (fun _=>rfl) (PSt w w3.heap.size) (zO6 w w3.heap.size) ?hIp ?hIb ?hXp ST0.out
  (fun x=>{ tmps:=#[tq s,undef,.pointer (some (aa w.heap.size 0)),.pointer (some (aa (w.heap.size+1) 0)),.pointer (some (aa (w.heap.size+1+1) 0)),tq x.1,undef,undef,tq s,.bool false,tq s,
   .func (.func 61) #[] #[.pointer (some (aa (w.heap.size+1+1+1+1) 0)),.pointer (some (aa (w.heap.size+1+1+1) 0)),.pointer (some (aa (w.heap.size+1+1+1+2) 0))],
   tq x.1,undef,undef,undef,undef,undef,undef,undef,undef,undef,undef,undef,undef,undef,undef,undef,undef],defers:=[] }) ?assign ?body ?done ?stop
 case hKt=>exact fun h k=>⟨k.1.trans h.1,k.2.1.trans h.2.1,k.2.2.trans h.2.2⟩
 case hKb=>exact fun W l o' hl=>⟨World.putObj_heap_other (by omega),World.putObj_heap_other (by omega),World.putObj_heap_other (by omega)⟩
 case hIp =>
  rintro pre W o' ⟨v,d,k2,hox,hf,hl,k0,k1,hb,hz,h6⟩;have hg:W.grownBy (W.putObj (w3.heap.size+1) o') (some (w3.heap.size+1)):=grownBy_putObj' W _ o';exact ⟨v,d,(World.putObj_heap_other (by omega)).trans k2,zE.own_far hox hg (by omega),hf,hl,(World.putObj_heap_other (by omega)).trans k0,(World.putObj_heap_other (by omega)).trans k1,hb.grown hg (by omega) (fun k e=>by cases e;omega),Nat.le_trans hz hg.size,h6⟩
 case hIb =>
  rintro pre W u ⟨v,d,k2,hox,hf,hl,k0,k1,hb,hz,h6⟩;have hg:W.grownBy (W.setCell (aa (w.heap.size+1+1+1) 0) u) (some (w.heap.size+1+1+1)):=zZ W _ 0 u;exact ⟨v,d,(hg.block _ (by omega) (by intro e;have:=Option.some.inj e;omega)).trans k2,zE.own_far hox hg (by omega),hf,hl,(hg.block _ (by omega) (by intro e;have:=Option.some.inj e;omega)).trans k0,(hg.block _ (by omega) (by intro e;have:=Option.some.inj e;omega)).trans k1,hb.grown hg (by omega) (fun k e=>by cases e;omega),Nat.le_trans hz hg.size,h6⟩
 case hXp =>
  rintro c pre W o' ⟨hc,hf,k0,k1,hb,h6⟩;have hg:W.grownBy (W.putObj (w3.heap.size+1) o') (some (w3.heap.size+1)):=grownBy_putObj' W _ o';exact ⟨hc,hf,(World.putObj_heap_other (by omega)).trans k0,(World.putObj_heap_other (by omega)).trans k1,⟨hg.os.trans hb.os,hg.tape.trans hb.tape,hg.output.trans hb.output,Nat.le_trans hb.size hg.size,fun k hk=>(World.putObj_heap_other (by omega)).trans (hb.block k hk)⟩,h6⟩
 case assign =>
  intro l x W K hK;simp only [zAa]
  gi_wp2
  exact hK
 case body =>
  rintro l pre x W hlW ⟨v,d,k2,hox,hf,hl,k0,k1,hb,hz,h6⟩ hlen;have hwp:=zLy x.1 W (HP.out.on hb) (Nat.le_trans x.2 hs);obtain ⟨i0,hi,hz0,hz1,hz2⟩:=info_parts Tryz.infoTrm;have hpl:zU (pre++[x])=zU pre++[x.1.data.toList]:=by simp [zU]
  have HPL:=hid hpl;have HF:=hid hf;have HB:=hid hb;have HOX:=hid hox;have HK0:=hid k0;have HK1:=hid k1;have HK2:=hid k2;have HLN:=hid hl;clear hpl hf hb hox hl
  cases hwo:uL x.1.data.toList with
  | none =>
   rw [hwo] at hwp;have HW:Hid (Calls Tryz.prog 116 #[tq x.1] W fun e w'=>e=.returned (.tuple #[.agg #[tq ⟨#[]⟩,ii 0,tq ⟨#[]⟩],ii 4])/\Below W.heap.size W w'):=hwp
   have HNO:Hid (yA (zU (pre++[x]))=none):=by
    show _=_
    rw [HPL.out];exact zDF hwo
   clear hwp k0 k1 k2;have HN6:=hid hN6;clear hN6
   gi_wp2_with (refine ⟨trivial,?_⟩;gi_at_call 116;refine (CallsIn.inRound l (callsIn_wide.2 HW.out)).mono ?_;rintro e W2 ⟨rfl,hb2⟩;have hs2:=hb2.size;have t0:=HK0.out;have t1:=HK1.out;have t0':=(Below.heap_alloc W2 (.cells #[tq ⟨#[]⟩,ii 0,tq ⟨#[]⟩] 49) w.heap.size (by omega)).trans ((hb2.block w.heap.size (by omega)).trans t0);have t1':=(Below.heap_alloc W2 (.cells #[tq ⟨#[]⟩,ii 0,tq ⟨#[]⟩] 49) (w.heap.size+1) (by omega)).trans ((hb2.block (w.heap.size+1) (by omega)).trans t1);obtain ⟨q0,q1⟩:=yD t0';obtain ⟨q2,q3⟩:=yD t1';have T0:=hid t0';have T1:=hid t1';clear t0 t1 t0' t1')
   have hbb:=((((HB.out.trans (hb2.mono HB.out.size)).alloc (Nat.le_trans HB.out.size hs2) (.cells #[tq ⟨#[]⟩,ii 0,tq ⟨#[]⟩] 49)).setCell (p:=(aa w.heap.size 0)) (Nat.le_refl _) (sc none 0 0)).setCell (p:=(aa (w.heap.size+1) 0)) (by show _<=w.heap.size+1;omega) (ii 4));have hkf:KeepsFrom w3.heap.size W (W2.alloc (.cells #[tq ⟨#[]⟩,ii 0,tq ⟨#[]⟩] 49)):=KeepsFrom.trans (wT hb2) ((KeepsOthers.alloc _ _).from _);exact ⟨(hkf.trans ((KeepsOthers.setCell _ _ _).from _)).trans ((KeepsOthers.setCell _ _ _).from _),rfl,HNO.out,Boxed.other (Boxed.set _ T0.out) (by omega) _,Boxed.set _ (Boxed.other T1.out (by omega) _),hbb,h6⟩
  | some y =>
   rw [hwo] at hwp;have HW:Hid (Calls Tryz.prog 116 #[tq x.1] W fun e w'=>e=.returned (.tuple #[.agg #[tq y.1,ii y.2.1,tq y.2.2],ii 0])/\Below W.heap.size W w'):=hwp
   have HNO:Hid (yA (zU (pre++[x]))=some (d++[y])):=by
    show _=_
    rw [HPL.out];exact zA3 HF.out hwo
   obtain ⟨yf,yo,yt⟩:=y;simp only at HW;clear hwp k0 k1 k2;have HN6:=hid hN6;clear hN6
   gi_wp2_with (first|(gi_at_builtin;refine wpListIn_append_own _ rfl _ _ 39 rfl (w3.heap.size+2) 49 i0 (.agg #[tq ⟨#[]⟩,ii 0,tq ⟨#[]⟩]) 3 40 Tryz.underlying39 hi hz0 hz1 hz2 rfl (by decide) _ _ _ rfl HX2.out (aa (W2.heap.size+1) 0) 1 1 (KM.cells [(yf,yo,yt)]) rfl rfl HC.out (KM.cells_ones _) (by rw [HLN.out];unfold maxLen;omega) (by rw [HLN.out];omega) (by simp;omega) ?_;intro v' w1 hown' hgrow _;obtain ⟨g',cap',rfl⟩:=ownsRow_succ hown';have hv1:=T2.out.kept hgrow (T2.out.not_row (by decide) HX2.out);have hc1:=hv1.cell;have hf1:=hv1.frozen;have HV1:=hid hv1;have HO:=hid hown';have HG:=hid hgrow;clear hv1 hown' hgrow)|(refine ⟨trivial,?_⟩;gi_at_call 116;refine (CallsIn.inRound l (callsIn_wide.2 HW.out)).mono ?_;rintro e W2 ⟨rfl,hb2⟩;have hs2:=hb2.size;have t2:=HK2.out;have t2':=(Below.heap_alloc W2 (.cells #[tq yf,ii yo,tq yt] 49) (w.heap.size+2) (by omega)).trans ((hb2.block (w.heap.size+2) (by omega)).trans t2);obtain ⟨q0,q1⟩:=yD t2';have T2:Hid (Boxed ((W2.alloc (.cells #[tq yf,ii yo,tq yt] 49)).alloc (.cells #[tq yf,ii yo,tq yt] 49)) (w.heap.size+2) 39 v):=hid (Boxed.alloc t2' _);have HB2:Hid (Below W.heap.size W ((W2.alloc (.cells #[tq yf,ii yo,tq yt] 49)).alloc (.cells #[tq yf,ii yo,tq yt] 49))):=hid ((hb2.alloc hs2 _).alloc (by simp;omega) _);have HX2:=hid (zE.own_on HOX.out HB2.out);have HC:=hid (KM.news (W2.alloc (.cells #[tq yf,ii yo,tq yt] 49)) (yf,yo,yt));rw [World.size_alloc] at HC;clear t2 t2'))
   have hb12:Below (w3.heap.size+2) W w1:=(HB2.out.mono hz).trans ((Below.refl _ _).grown HG.out (by simp;omega) (fun k hk=>(World.ownsRow.lt HX2.out k hk).1));have hsz1:=hb12.size;have hox0:KM.Own (w3.heap.size+2) w1 (sc (some (aa g' 0)) (d.length+1) cap') (d++[(yf,yo,yt)]):=zE.own_snoc HO.out rfl rfl;have hox1:=zE.own_far hox0 (zZ w1 (w.heap.size+2) 0 (sc (some (aa g' 0)) (d.length+1) cap')) (by omega);have hkf:KeepsFrom w3.heap.size W w1:=(wT HB2.out).trans ((KeepsOthers.of_grownBy HG.out (fun j o ej hj=>fA HX2.out ej hj)).from _);refine ⟨hkf.trans ((KeepsOthers.setCell _ _ _).from _),⟨(Below.heap_setCell w1 _ _ _ (by show _≠w.heap.size+1+1;omega)).trans (hb12.block _ (by omega)),(Below.heap_setCell w1 _ _ _ (by show _≠w.heap.size+1+1;omega)).trans (hb12.block _ (by omega)),(Below.heap_setCell w1 _ _ _ (by show _≠w.heap.size+1+1;omega)).trans (hb12.block _ (by omega))⟩,?_⟩
   exact ⟨_,d++[(yf,yo,yt)],Boxed.set _ HV1.out,hox1,HNO.out,by rw [List.length_append,List.length_append,HLN.out];rfl,
    Boxed.other ((hb12.block _ (by omega)).trans HK0.out) (by omega) _,Boxed.other ((hb12.block _ (by omega)).trans HK1.out) (by omega) _,
    (HB.out.trans (hb12.mono (by omega))).setCell (p:=(aa (w.heap.size+1+1) 0)) (by show _<=w.heap.size+1+1;omega) _,by simp [World.setCell];omega,h6⟩
 case done =>
  rintro xs W hS ⟨v,d,k2,hox,hf,hl,k0,k1,hb,hz,h6⟩ hK;have hfs:yA (zO s.data.toList)=some d:=by unfold zO;rw [if_neg h0,<-hS];exact hf
  have hln:d.length=(zG s.data.toList).length:=by rw [hl];have:=congrArg List.length hS;simpa [zU] using this
  obtain ⟨f1,f3⟩:=zGe (B:=s.size) (zU xs) (fun l hl=>by
   obtain ⟨x,_,rfl⟩:=List.mem_map.1 hl
   simpa using x.2) d hf
  have hfit:pY d:=⟨by unfold maxLen;omega,fun x hx=>by
   obtain ⟨a1,a2,a3,a4⟩:=f3 x hx;refine ⟨?_,?_,by omega,by omega⟩
   ·unfold maxLen;omega
   ·unfold maxLen;omega⟩
  have hnm:=bF v d W (zE.own_is hox) hfit
  have HNM:Hid (Calls Tryz.prog 117 #[v] W fun e w'=>∃p n c,e=.returned (.tuple #[sc p n c,ii (wA d)])/\KM.Own W.heap.size w' (sc p n c) (wB d)/\Below W.heap.size W w'):=hnm.mono (by
   rintro e w' ⟨⟨u,rfl,ho⟩,hb'⟩;obtain ⟨p,c,rfl⟩:=zE.own_shape ho;exact ⟨p,_,c,rfl,ho,hb'⟩)
  have HAN:Hid (zBN (some d)=wA d/\zG1 (some d)=wB d):=⟨rfl,rfl⟩;obtain ⟨k,hk⟩:∃k,wA d=k:=⟨_,rfl⟩;rw [hk] at HNM HAN;obtain ⟨c2,_⟩:=yD k2;have HK0:=hid k0;have HK1:=hid k1;have HB:=hid hb;have HK:=hid hK;have HFS:=hid hfs;have HN6:=hid hN6;clear hnm hfit hox hf k0 k1 k2 hK hN6 hb hfs hk
  gi_wp2_with (refine ⟨trivial,?_⟩;gi_at_call 117;refine (callsIn_wide.2 HNM.out).mono ?_;rintro e W2 ⟨p,n,c,rfl,hans,hb2⟩;obtain ⟨q0,q1⟩:=yD ((hb2.block w.heap.size (by omega)).trans HK0.out);obtain ⟨q2,q3⟩:=yD ((hb2.block (w.heap.size+1) (by omega)).trans HK1.out))
  have u0:Boxed W2 w.heap.size 39 (sc none 0 0):=(hb2.block w.heap.size (by omega)).trans HK0.out;have u1:Boxed W2 (w.heap.size+1) 26 (ii 0):=(hb2.block (w.heap.size+1) (by omega)).trans HK1.out;obtain ⟨W4,hW4⟩:∃W4,(W2.setCell (aa w.heap.size 0) (sc p n c)).setCell (aa (w.heap.size+1) 0) (ii k)=W4:=⟨_,rfl⟩;have y0:Boxed W4 w.heap.size 39 (sc p n c):=by rw [<-hW4];exact Boxed.other (Boxed.set _ u0) (by omega) _
  have y1:Boxed W4 (w.heap.size+1) 26 (ii k):=by rw [<-hW4];exact Boxed.set _ (Boxed.other u1 (by omega) _)
  have hKD:W4.heap[w3.heap.size]? = some (.deferred (some [])):=by
   rw [<-hW4];exact (Below.heap_setCell _ _ _ _ (by show _≠w.heap.size+1;omega)).trans ((Below.heap_setCell _ _ _ _ (by show _≠w.heap.size;omega)).trans ((hb2.block _ (by omega)).trans HK.out))
  have hb4:Below w.heap.size w W4:=by
   rw [<-hW4];exact ((HB.out.trans (hb2.mono HB.out.size)).setCell (p:=(aa w.heap.size 0)) (Nat.le_refl _) _).setCell (p:=(aa (w.heap.size+1) 0)) (by show _<=w.heap.size+1;omega) _
  have ha4:KM.Own W.heap.size W4 (sc p n c) (wB d):=by
   rw [<-hW4];exact zE.own_far (zE.own_far hans (zZ W2 w.heap.size 0 _) (by omega)) (zZ _ (w.heap.size+1) 0 _) (by omega)
  rw [hW4];have hsz4:=hb4.size;have hg5:W4.grownBy (W4.putObj w3.heap.size (.deferred none)) (some w3.heap.size):=grownBy_putObj' W4 _ _;have z0:Boxed (W4.putObj w3.heap.size (.deferred none)) w.heap.size 39 (sc p n c):=(World.putObj_heap_other (by omega)).trans y0;have z1:Boxed (W4.putObj w3.heap.size (.deferred none)) (w.heap.size+1) 26 (ii k):=(World.putObj_heap_other (by omega)).trans y1;have z0c:=z0.cell;have z1c:=z1.cell;refine ⟨by simp,.inl ⟨_,_,rfl,run_takeDeferred hKD,?_⟩⟩;refine ⟨.tuple #[sc p n c,ii k],by simp [results,Tryz.results73,go_sem,z0c,z1c],⟨sc p n c,?_,?_⟩,hb4.grown hg5 (by omega) (fun k e=>by cases e;omega)⟩
  ·rw [HFS.out,HAN.out.1]
  ·rw [HFS.out,HAN.out.2];exact zE.own_weak (zE.own_far ha4 hg5 (by omega)) (by omega)
 case stop =>
  rintro c pre W hSp ⟨rfl,hf,k0,k1,hb,h6⟩ hK;have HN6:=hid hN6;clear hN6
  gi_wp2
  have hg5:W.grownBy (W.putObj w3.heap.size (.deferred none)) (some w3.heap.size):=grownBy_putObj' W _ _;have z0:Boxed (W.putObj w3.heap.size (.deferred none)) w.heap.size 39 (sc none 0 0):=(World.putObj_heap_other (by omega)).trans k0;have z1:Boxed (W.putObj w3.heap.size (.deferred none)) (w.heap.size+1) 26 (ii 4):=(World.putObj_heap_other (by omega)).trans k1;have z0c:=z0.cell;have z1c:=z1.cell
  have hno:yA (zO s.data.toList)=none:=by
   obtain ⟨r,hr⟩:=hSp;unfold zO;rw [if_neg h0,<-hr,mJ,hf];rfl
  refine ⟨by simp,.inl ⟨_,_,rfl,run_takeDeferred hK,?_⟩⟩;refine ⟨.tuple #[sc none 0 0,ii 4],by simp [results,Tryz.results73,go_sem,z0c,z1c],⟨sc none 0 0,?_,?_⟩,hb.grown hg5 hb.size (fun k e=>by cases e;omega)⟩
  ·rw [hno];rfl
  ·rw [hno];exact KM.own_nil _ _
theorem zGW (s:ByteArray) (w:World) (hp:zY w) (hs:s.size<=4294967000) :
  Calls Tryz.prog 73 #[.string s] w fun e w'=>fX w (yA (zO s.data.toList)) e w':=by
 by_cases h0:s.L=[]
 ·have e:s=⟨#[]⟩:=by
   obtain ⟨⟨l⟩⟩:=s
   cases h0;rfl
  subst e;exact zDV w
 ·exact zDJ s w hp h0 hs
end
section
open Go.RowKit Go.Sort Go.Lib
theorem zKI (x:Ed) (w:World) (hs:x.2.1.size<=maxLen):Calls Tryz.prog 141 #[.agg (kV x).toArray] w fun e w'=>e=.returned (.bool (!tI x))/\zK w w':=by
 obtain ⟨o,a,t⟩:=x;simp only [kV,tI] at hs ⊢;go_enter Tryz.func141,Tryz.ntmps141;go_wp2_with (go_at_call 180;refine (bH _ _ hs).mono ?_;rintro e w' ⟨rfl,rfl⟩);go_ret;exact ⟨rfl,(zK.refl _).alloc _⟩
theorem zIt (x:Ed) (w:World):Calls Tryz.prog 143 #[.agg (kV x).toArray] w fun e w'=>e=.returned (.bool (!uH x))/\zK w w':=by
 obtain ⟨o,a,t⟩:=x;simp only [kV,uH]
 have HE:Hid (decide ((128:Int)<t.size) = !decide (t.size<=128)):=by
  show _=_
  rw [Bool.eq_iff_iff];simp;omega
 go_enter Tryz.func143,Tryz.ntmps143
 go_wp2_with fail
 go_ret;exact ⟨zA HE.out,(zK.refl _).alloc _⟩
theorem zK7 (x:Ed) (w:World):Calls Tryz.prog 142 #[.agg (kV x).toArray] w fun e w'=>e=.returned (.bool (!xN x))/\zK w w':=by
 obtain ⟨o,a,t⟩:=x;simp only [kV]
 by_cases h4:o=4
 ·have HE:Hid ((!t.toList.isEmpty) = !xN (o,a,t)):=by
   show _=_
   unfold xN;have e1:decide (1<=o)=true:=decide_eq_true (by omega);have e2:decide (o<=5)=true:=decide_eq_true (by omega);have e3:decide (o≠4)=false:=decide_eq_false (by omega);simp only [e1,e2,e3,Bool.true_and,Bool.false_or]
   congr 1
   by_cases hz:t.size=0
   ·rw [fB hz,decide_eq_true hz]
   ·rw [mZ hz,decide_eq_false hz]
  subst h4;go_enter Tryz.func142,Tryz.ntmps142;go_wp2_with fail;go_ret;exact ⟨zA HE.out,(zK.refl _).alloc _⟩
 ·by_cases h5:o=1∨o=2∨o=3∨o=5
  ·have HE:Hid (false = !xN (o,a,t)):=by
    show _=_
    unfold xN;have e1:decide (1<=o)=true:=decide_eq_true (by omega);have e2:decide (o<=5)=true:=decide_eq_true (by omega);have e3:decide (o≠4)=true:=decide_eq_true (by omega);simp only [e1,e2,e3,Bool.true_and,Bool.true_or,Bool.not_true]
   rcases h5 with rfl|rfl|rfl|rfl <;>
   ·go_enter Tryz.func142,Tryz.ntmps142
    go_wp2_with fail
    go_ret;exact ⟨zA HE.out,(zK.refl _).alloc _⟩
  ·have HE:Hid (true = !xN (o,a,t)):=by
    show _=_
    unfold xN
    by_cases e1:1<=o
    ·have e2:decide (o<=5)=false:=decide_eq_false (by omega);simp [e2]
    ·simp [e1]
   have n1:(o==1)=false:=by simp;omega
   have n2:(o==2)=false:=by simp;omega
   have n3:(o==3)=false:=by simp;omega
   have n4:(o==4)=false:=by simp;omega
   have n5:(o==5)=false:=by simp;omega
   clear h4 h5;go_enter Tryz.func142,Tryz.ntmps142;go_wp2_with fail;go_ret;exact ⟨zA HE.out,(zK.refl _).alloc _⟩
def Ef:Type:={ x:Ed // x.2.1.size<=maxLen/\x.2.2.size<=maxLen/\-9223372036854775808<=x.1/\x.1<=9223372036854775807 }
def zNz:Ef:=⟨(0,⟨#[]⟩,⟨#[]⟩),Nat.zero_le _,Nat.zero_le _,by decide,by decide⟩
theorem zJa (p:Option Addr) (c:Nat) (fv:Value) (w:World) :
  Calls Tryz.prog 140 #[.slice p 0 c,fv] w fun e w'=>e=.returned (.bool false)/\w'=w:=by
 have hix:Calls Tryz.prog 179 #[sc p 0 c,fv] w fun e w'=>e=.returned (ii (-1))/\w'=w:=by
  go_enter Tryz.func179,Tryz.ntmps179
  go_wp2_with fail
  refine wp_loop_rounds 1 ?_;rw [rounds_succ];go_wp2_with fail;go_ret;exact ⟨rfl,rfl⟩
 have HX:=hid hix;clear hix;go_enter Tryz.func140,Tryz.ntmps140;go_wp2_with (first|(go_at_call 179;refine HX.out.mono ?_;rintro e w1 ⟨rfl,rfl⟩));go_ret;exact ⟨rfl,rfl⟩
theorem zGu {w:World} {b off:Nat} {p:List Ed} (h:KE.At w b off p) (j:Nat) (hj:j<p.length) (i:Nat) (v:Value) (hv:(kV p[j])[i]? = some v):w.cell? ⟨b,off+j * 3+i,none⟩=some v:=h j hj i v hv
theorem zBa (f:Ed->Bool) (k:Nat) (lb:Array Value) (ent:∀args w,(callFunc k args).run Tryz.prog w=.ok (.enter k args) w) (v:Value) (p:List Ed) (w:World) (hv:KE.Is w v p) (hf:jF p)
  (hk:∀(W:World) (x:Ed),Below w.heap.size w W->x.2.1.size<=maxLen->x.2.2.size<=maxLen->(-9223372036854775808<=x.1/\x.1<=9223372036854775807)->Calls Tryz.prog k (#[.agg (kV x).toArray]++lb) W fun e w'=>e=.returned (.bool (f x))/\Below w.heap.size w w') :
  Calls Tryz.prog 140 #[v,.func (.func k) #[] lb] w fun e w'=>e=.returned (.bool (p.any f))/\Below w.heap.size w w':=by
 obtain ⟨q,cap,rfl,hd⟩:=hv
 by_cases h0:p=[]
 ·subst h0;refine (zJa q cap _ w).mono ?_;rintro e w' ⟨rfl,rfl⟩;exact ⟨rfl,Below.refl _ _⟩
 ·rcases hd with hd|⟨b,off,rfl,hx⟩
  ·exact absurd hd h0
  ·have hlen:0<p.length:=List.length_pos_iff.2 h0;have hl:=hf.1;unfold maxLen at hl;have hfn:∀x∈p,x.2.1.size<=maxLen/\x.2.2.size<=maxLen/\-9223372036854775808<=x.1/\x.1<=9223372036854775807:=hf.2;obtain ⟨zs,hzs⟩:∃zs:List Ef,zs.map (·.1)=p:=⟨p.attachWith _ hfn,List.attachWith_map_subtype_val ..⟩;have hzl:zs.length=p.length:=by rw [<-hzs,List.length_map]
   letI:Inhabited Ef:=⟨zNz⟩
   have hc:=AnyQ.slices_ContainsFunc (α:=Ef) Tryz.hasEdt 3 Tryz.isAgg47 Tryz.sizeOf47 (fun x=>kV x.1) (fun _=>rfl) (fun x=>f x.1) k lb ent b off p.length cap zs w
    (fun W x hb=>hk W x.1 hb x.2.1 x.2.2.1 x.2.2.2) (by omega) (by omega) (zJ (hx 0 hlen 0 _ rfl))
    (fun j hj i u hu=>by
     have hj':j<p.length:=by omega
     rw [getElem!_pos zs j hj] at hu;have e:(zs[j]).1=p[j]:=by subst hzs;simp
     rw [e] at hu;exact zGu hx j hj' i u hu)
   change Calls Tryz.prog 140 _ _ _ at hc
   refine hc.mono ?_;rintro e w' ⟨rfl,hb⟩;refine ⟨zA ?_,hb⟩;rw [List.take_of_length_le (by omega),<-hzs];simp [List.any_map,Function.comp_def]
theorem zFK:∀args w,(callFunc 141 args).run Tryz.prog w=.ok (.enter 141 args) w:=enters_of Tryz.func141 (by kernel_rfl) rfl
theorem zFs:∀args w,(callFunc 142 args).run Tryz.prog w=.ok (.enter 142 args) w:=enters_of Tryz.func142 (by kernel_rfl) rfl
theorem zDN:∀args w,(callFunc 143 args).run Tryz.prog w=.ok (.enter 143 args) w:=enters_of Tryz.func143 (by kernel_rfl) rfl
theorem zB4 (p:List Ed) (f:Ed->Bool):p.any (fun x=>!f x) = !p.all f:=by
 induction p with
 | nil=>rfl
 | cons x p ih=>simp only [List.any_cons,List.all_cons,ih,Bool.not_and]
theorem zMq (v:Value) (p:List Ed) (w:World) (hv:KE.Is w v p) (hf:jF p):Calls Tryz.prog 140 #[v,.func (.func 141) #[] #[]] w fun e w'=>e=.returned (.bool (!p.all tI))/\Below w.heap.size w w':=by
 have:=zBa (fun x=>!tI x) 141 #[] zFK v p w hv hf (fun W x hb h1 _ _=>(zKI x W h1).mono fun _ _ ⟨h2,h3⟩=>⟨h2,hb.trans (h3.below.mono hb.size)⟩)
 rwa [zB4] at this
theorem zMs (v:Value) (p:List Ed) (w:World) (hv:KE.Is w v p) (hf:jF p):Calls Tryz.prog 140 #[v,.func (.func 142) #[] #[]] w fun e w'=>e=.returned (.bool (!p.all xN))/\Below w.heap.size w w':=by
 have:=zBa (fun x=>!xN x) 142 #[] zFs v p w hv hf (fun W x hb _ _ _=>(zK7 x W).mono fun _ _ ⟨h2,h3⟩=>⟨h2,hb.trans (h3.below.mono hb.size)⟩)
 rwa [zB4] at this
theorem zMT (v:Value) (p:List Ed) (w:World) (hv:KE.Is w v p) (hf:jF p):Calls Tryz.prog 140 #[v,.func (.func 143) #[] #[]] w fun e w'=>e=.returned (.bool (!p.all uH))/\Below w.heap.size w w':=by
 have:=zBa (fun x=>!uH x) 143 #[] zDN v p w hv hf (fun W x hb _ _ _=>(zIt x W).mono fun _ _ ⟨h2,h3⟩=>⟨h2,hb.trans (h3.below.mono hb.size)⟩)
 rwa [zB4] at this
theorem bJ (v:Value) (p:List Ed) (w:World) (hv:KE.Is w v p) (hf:jF p) :
  Calls Tryz.prog 100 #[v] w fun e w'=>e=.returned (.int .i64 (wK p))/\Below w.heap.size w w':=by
 obtain ⟨q,cap,hvv⟩:∃q cap,v=sc q p.length cap:=by obtain ⟨q,cap,h,_⟩:=hv;exact ⟨q,cap,h⟩
 subst hvv;have HV:=hid hv;have HF:=hid hf;have H1:=hid (zMq _ p w hv hf);obtain ⟨m,hm⟩:∃m,wK p=m:=⟨_,rfl⟩;rw [hm];have HM:=hid hm;clear hm hv hf;unfold wK at HM
 by_cases h16:16<p.length
 ·have h16z:(16:Int)<(p.length:Int):=by omega
  have HR:Hid (5=m):=by have:=HM.out;rw [if_pos h16] at this;exact this
  go_enter Tryz.func100,Tryz.ntmps100
  go_wp2_with fail
  go_ret;exact ⟨yY HR.out,Below.refl _ _⟩
 ·have h16z:¬ (16:Int)<(p.length:Int):=by omega
  rw [if_neg h16] at HM
  cases a1:p.all tI with
  | false =>
   rw [a1] at H1;have HR:Hid (2=m):=by have:=HM.out;rw [if_pos a1] at this;exact this
   go_enter Tryz.func100,Tryz.ntmps100
   go_wp2_with (go_at_call 140;refine H1.out.mono ?_;rintro e w1 ⟨rfl,hb1⟩)
   go_ret;exact ⟨yY HR.out,hb1⟩
  | true =>
   rw [a1] at H1;rw [if_neg (by rw [a1];simp)] at HM;have H2:Hid (∀W,Below w.heap.size w W->Calls Tryz.prog 140 #[sc q p.length cap,.func (.func 142) #[] #[]] W fun e w'=>e=.returned (.bool (!p.all xN))/\Below W.heap.size W w'):=fun W hb=>zMs _ p W (zE.is_kept HV.out hb) HF.out
   have H3:Hid (∀W,Below w.heap.size w W->Calls Tryz.prog 140 #[sc q p.length cap,.func (.func 143) #[] #[]] W fun e w'=>e=.returned (.bool (!p.all uH))/\Below W.heap.size W w'):=fun W hb=>zMT _ p W (zE.is_kept HV.out hb) HF.out
   cases a2:p.all xN with
   | false =>
    rw [a2] at H2;have HR:Hid (1=m):=by have:=HM.out;rw [if_pos a2] at this;exact this
    go_enter Tryz.func100,Tryz.ntmps100
    go_wp2_with (first|(go_at_call 140;refine H1.out.mono ?_;rintro e w1 ⟨rfl,hb1⟩)|(go_at_call 140;refine (H2.out w1 hb1).mono ?_;rintro e w2 ⟨rfl,hb2⟩))
    go_ret;exact ⟨yY HR.out,zQ hb1 hb1.size hb2⟩
   | true =>
    rw [a2] at H2;rw [if_neg (by rw [a2];simp)] at HM;have h12:Hid (∀w1 w2,Below w.heap.size w w1->Below w1.heap.size w1 w2->Below w.heap.size w w2):=fun w1 w2 h k=>zQ h h.size k
    cases a3:p.all uH with
    | false =>
     rw [a3] at H3;have HR:Hid (5=m):=by have:=HM.out;rw [if_pos a3] at this;exact this
     go_enter Tryz.func100,Tryz.ntmps100
     go_wp2_with (first|(go_at_call 140;refine H1.out.mono ?_;rintro e w1 ⟨rfl,hb1⟩)|(go_at_call 140;refine (H2.out w1 hb1).mono ?_;rintro e w2 ⟨rfl,hb2⟩;have hb12:=h12.out _ _ hb1 hb2)|(go_at_call 140;refine (H3.out w2 hb12).mono ?_;rintro e w3 ⟨rfl,hb3⟩))
     go_ret;exact ⟨yY HR.out,zQ hb12 hb12.size hb3⟩
    | true =>
     rw [a3] at H3;have HR:Hid (0=m):=by have:=HM.out;rw [if_neg (by rw [a3];simp)] at this;exact this
     go_enter Tryz.func100,Tryz.ntmps100
     go_wp2_with (first|(go_at_call 140;refine H1.out.mono ?_;rintro e w1 ⟨rfl,hb1⟩)|(go_at_call 140;refine (H2.out w1 hb1).mono ?_;rintro e w2 ⟨rfl,hb2⟩;have hb12:=h12.out _ _ hb1 hb2)|(go_at_call 140;refine (H3.out w2 hb12).mono ?_;rintro e w3 ⟨rfl,hb3⟩))
     go_ret;exact ⟨yY HR.out,zQ hb12 hb12.size hb3⟩
end
section
open Go.RowKit Go.Lib
theorem bN {B:Nat} {a w:World} (h:Below B a w) (n:Nat):Below B a (w.drewN n):=⟨h.os,h.tape,h.output,h.size,h.block⟩
def mQ (w:World) (g:Nat) (x:Ed):Prop:=w.heap[g]? = some (.cells #[.int .i64 x.1,.string x.2.1,.string x.2.2] 47 (0,0))
theorem mQ.cells {w:World} {g:Nat} {x:Ed} (h:mQ w g x):w.cell? ⟨g,0,none⟩=some (.int .i64 x.1)/\w.cell? ⟨g,1,none⟩=some (.string x.2.1)/\w.cell? ⟨g,2,none⟩=some (.string x.2.2):=by
 rw [Lib.cell_of_heap h,Lib.cell_of_heap h,Lib.cell_of_heap h];exact ⟨rfl,rfl,rfl⟩
theorem mQ.lt {w:World} {g:Nat} {x:Ed} (h:mQ w g x):g<w.heap.size:=(Array.getElem?_eq_some_iff.1 h).1
theorem mQ.on {w w':World} {g:Nat} {x:Ed} (h:mQ w g x) (hb:Below w.heap.size w w'):mQ w' g x:=(hb.block g h.lt).trans h
theorem dN (w:World) (x:Ed):mQ (w.alloc (.cells #[.int .i64 x.1,.string x.2.1,.string x.2.2] 47)) w.heap.size x:=heap_alloc_new w _
theorem mU {W:World} {R:Nat} {x:Ed} (h:mQ W R x) (y:Ed) :
  mQ (((W.setCell ⟨R,0,none⟩ (.int .i64 y.1)).setCell ⟨R,1,none⟩ (.string y.2.1)).setCell ⟨R,2,none⟩ (.string y.2.2)) R y :=
 heap_setCell_same _ R 2 _ _ _ (heap_setCell_same _ R 1 _ _ _ (heap_setCell_same W R 0 _ _ _ h))
theorem zIn {W:World} {R:Nat} {x:Ed} (h:mQ W R x) (t:ByteArray):mQ (W.setCell ⟨R,2,none⟩ (.string t)) R (x.1,x.2.1,t):=heap_setCell_same W R 2 _ _ _ h
theorem sW {W:World} {R:Nat} {x:Ed} (h:mQ W R x):W.frozen? ⟨R,0,none⟩=false/\W.frozen? ⟨R,1,none⟩=false/\W.frozen? ⟨R,2,none⟩=false :=
 ⟨Lib.frozen_of_heap h 0,Lib.frozen_of_heap h 1,Lib.frozen_of_heap h 2⟩
theorem jJ {B R:Nat} {w W:World} (h:Below B w W) (hR:B<=R) (y:Ed):Below B w (((W.setCell ⟨R,0,none⟩ (.int .i64 y.1)).setCell ⟨R,1,none⟩ (.string y.2.1)).setCell ⟨R,2,none⟩ (.string y.2.2)) :=
 ((h.setCell (p:=(aa R 0)) hR _).setCell (p:=(aa R 1)) hR _).setCell (p:=(aa R 2)) hR _
end
section
open Go.RowKit Go.Lib Go.ChangeMaps
def zAp:ByteArray:=⟨#[58,43,45,126,61]⟩
theorem zIM (c:UInt8):zAp.data.toList.contains c=isK c:=by
 rw [Bool.eq_iff_iff];constructor
 ·intro h;have:c∈zAp.L:=by simpa using h
  simp [zAp] at this
  rcases this with rfl|rfl|rfl|rfl|rfl<;>decide
 ·intro h
  rcases pS h with rfl|rfl|rfl|rfl|rfl<;>decide
def kA (l:List UInt8) (k:Int):Prop:=(k=-1/\∀c∈l,isK c=false)∨∃i:Nat,k=i/\∃h:i<l.length,isK l[i]=true/\∀c∈l.take i,isK c=false
theorem pE:∀l:List UInt8,kA l (Lib.indexAny l zAp.data.toList)
 | []=>Or.inl ⟨rfl,fun c hc=>by simp at hc⟩
 | b::l=>by
  have ih:=pE l;unfold Lib.indexAny;rw [zIM]
  cases hb:isK b with
  | true =>
   rw [if_pos rfl];exact Or.inr ⟨0,rfl,by simp,hb,fun c hc=>by simp at hc⟩
  | false =>
   rw [if_neg (by simp)]
   rcases ih with ⟨h1,h2⟩|⟨i,h1,hi,h3,h4⟩
   ·rw [h1];refine Or.inl ⟨rfl,fun c hc=>?_⟩
    rcases List.mem_cons.1 hc with rfl|hc
    ·exact hb
    ·exact h2 c hc
   ·rw [h1];have:((i:Int) == -1)=false:=by simp
    rw [this,if_neg (by simp)];refine Or.inr ⟨i+1,rfl,by simpa using hi,by simpa using h3,fun c hc=>?_⟩;rw [List.take_succ_cons] at hc
    rcases List.mem_cons.1 hc with rfl|hc
    ·exact hb
    ·exact h4 c hc
theorem zDi (s:ByteArray) (i:Nat) (h:i<s.size):s.get! i=s[i]'h:=by
 simp [ByteArray.get!,getElem!_pos,h]
 rfl
theorem zJR (s:ByteArray) (pos:Nat) (h:pos<s.size) (hb:128<=(s[pos]'h).toNat) :
  128<=(Utf8.decode s pos).1/\(Utf8.decode s pos).1<=2097151/\1<=(Utf8.decode s pos).2/\pos+(Utf8.decode s pos).2<=s.size/\∀j,pos<=j->j<pos+(Utf8.decode s pos).2->128<=(s.get! j).toNat:=by
 have e0:(s.get! (pos+0)).toNat=(s[pos]'h).toNat:=by rw [Nat.add_zero,zDi s pos h]
 have hlt:∀k,(s.get! (pos+k)).toNat<256:=fun k=>UInt8.toNat_lt _
 have hcont:∀k,(decide (pos+k<s.size)&&(s.get! (pos+k)).toNat / 64==2)=true->pos+k<s.size/\128<=(s.get! (pos+k)).toNat:=fun k hk=>by
  rw [Bool.and_eq_true] at hk;have h1:=of_decide_eq_true hk.1;have h2:=beq_iff_eq.1 hk.2;exact ⟨h1,by omega⟩
 have hp0:128<=(s.get! pos).toNat:=by rw [zDi s pos h];exact hb
 have hone:∀j,pos<=j->j<pos+1->128<=(s.get! j).toNat:=fun j h1 h2=>by
  have:j=pos:=by omega
  subst this;exact hp0
 have herr:(128<=Utf8.runeError)/\Utf8.runeError<=2097151:=by decide
 unfold Utf8.decode;simp only [e0];have h80:¬ (s[pos]'h).toNat<128:=by omega
 rw [if_neg h80];have hbound:(s[pos]'h).toNat<256:=UInt8.toNat_lt _;have l1:=hlt 1;have l2:=hlt 2;have l3:=hlt 3
 split
 ·rename_i h1
  rw [Bool.and_eq_true] at h1;obtain ⟨c1,c2⟩:=hcont 1 h1.2
  split
  ·rename_i h2
   refine ⟨h2,by omega,by omega,by omega,fun j g1 g2=>?_⟩
   rcases (show j=pos∨j=pos+1 by omega) with rfl|rfl
   ·exact hp0
   ·exact c2
  ·exact ⟨herr.1,herr.2,by omega,by omega,hone⟩
 ·split
  ·rename_i h1
   rw [Bool.and_eq_true,Bool.and_eq_true] at h1;obtain ⟨c1,c2⟩:=hcont 1 h1.1.2;obtain ⟨d1,d2⟩:=hcont 2 h1.2
   split
   ·rename_i h2
    rw [Bool.and_eq_true] at h2;have h3:=of_decide_eq_true h2.1;refine ⟨by omega,by omega,by omega,by omega,fun j g1 g2=>?_⟩
    rcases (show j=pos∨j=pos+1∨j=pos+2 by omega) with rfl|rfl|rfl
    ·exact hp0
    ·exact c2
    ·exact d2
   ·exact ⟨herr.1,herr.2,by omega,by omega,hone⟩
  ·split
   ·rename_i h1
    rw [Bool.and_eq_true,Bool.and_eq_true,Bool.and_eq_true] at h1;obtain ⟨c1,c2⟩:=hcont 1 h1.1.1.2;obtain ⟨d1,d2⟩:=hcont 2 h1.1.2;obtain ⟨f1,f2⟩:=hcont 3 h1.2
    split
    ·rename_i h2
     rw [Bool.and_eq_true] at h2;have h3:=of_decide_eq_true h2.1;refine ⟨by omega,by omega,by omega,by omega,fun j g1 g2=>?_⟩
     rcases (show j=pos∨j=pos+1∨j=pos+2∨j=pos+3 by omega) with rfl|rfl|rfl|rfl
     ·exact hp0
     ·exact c2
     ·exact d2
     ·exact f2
    ·exact ⟨herr.1,herr.2,by omega,by omega,hone⟩
   ·exact ⟨herr.1,herr.2,by omega,by omega,hone⟩
theorem zJk (r:Int) (h:128<=r):∃m:Nat,1<=m/\m<=3/\∃hs:(Utf8.encode r).size=m+1,128<=((Utf8.encode r)[m]'(by omega)).toNat:=by
 have hof:∀n:Nat,128<=n->n<256->128<=(UInt8.ofNat n).toNat:=fun n h1 h2=>by
  rw [UInt8.toNat_ofNat_of_lt' (by simpa using h2)];exact h1
 unfold Utf8.encode;obtain ⟨c,hc⟩:∃c,(if Utf8.valid r=true then r.toNat else Utf8.runeError)=c:=⟨_,rfl⟩
 have hc128:128<=c:=by
  rw [<-hc]
  split
  ·omega
  ·decide
 simp only [hc];have h0:¬ c<128:=by omega
 simp only [if_neg h0]
 by_cases h1:c<2048
 ·simp only [if_pos h1];exact ⟨1,by omega,by omega,rfl,hof _ (by omega) (by omega)⟩
 ·simp only [if_neg h1]
  by_cases h2:c<65536
  ·simp only [if_pos h2];exact ⟨2,by omega,by omega,rfl,hof _ (by omega) (by omega)⟩
  ·simp only [if_neg h2];exact ⟨3,by omega,by omega,rfl,hof _ (by omega) (by omega)⟩
theorem zDt (W:World) (N:Nat) (s:ByteArray) (pos:Nat) (ty:TypeId) (hN:W.heap[N]? = some (.stringIter s pos)) (h:pos<s.size) :
  (Instr.next (.pointer (some ⟨N,0,none⟩)) true ty).run Tryz.prog W =
   .ok (.tuple #[.bool true,.int .i64 pos,.int .i32 (Utf8.decode s pos).1]) (setBlock W N (.stringIter s (pos+(Utf8.decode s pos).2))):=by
 have hlt:=(Array.getElem?_eq_some_iff.1 hN).1;simp [Instr.next,getObj,setObj,Sem.run,hN,h,goInt,Result.andThen,setBlock]
theorem zB0 (W:World) (N:Nat) (s:ByteArray) (pos:Nat) (ty:TypeId) (hN:W.heap[N]? = some (.stringIter s pos)) (h:¬ pos<s.size) :
  (Instr.next (.pointer (some ⟨N,0,none⟩)) true ty).run Tryz.prog W=.ok (.tuple #[.bool false]) W:=by
 simp [Instr.next,getObj,Sem.run,hN,h,Result.andThen]
theorem fU (x:UInt8) (h:x∈(⟨#[58,43,45,126,61]⟩:ByteArray).data.toList):x.toNat<128:=by
 simp at h
 rcases h with rfl|rfl|rfl|rfl|rfl<;>decide
theorem zFQ (w:World) :
  Calls Tryz.prog 189 #[.string ⟨#[58,43,45,126,61]⟩,.int .i32 65533] w fun e w'=>e=.returned (.int .i64 (-1))/\zK w w':=by
 obtain ⟨s,hs⟩:∃s:ByteArray,⟨#[58,43,45,126,61]⟩=s:=⟨_,rfl⟩;have h7:s.size=5:=by rw [<-hs];rfl
 have hlow:∀(i:Nat) (h:i<s.size),(s[i]'h).toNat<128:=by
  subst hs;intro i h;exact fU _ (List.getElem_mem (l:=(⟨#[58,43,45,126,61]⟩:ByteArray).data.toList) (n:=i) h)
 rw [hs];clear hs;go_enter Tryz.func189,Tryz.ntmps189;go_wp2_with fail
 go_loopg [5,6] 5 (fun g _ _ wx=>∃i:Nat,i+g=5/\wx=w.iter s i)
 case atStart=>exact ⟨0,by omega,rfl⟩
 case round =>
  obtain ⟨i,hig,rfl⟩:=hrel
  cases gk with
  | zero =>
   have hnx:=fun ty=>run_next_end (P:=Tryz.prog) w s i ty (by omega)
   go_wp2_with fail
   go_ret;exact ⟨rfl,(zK.refl _).alloc _⟩
  | succ g =>
   have hi:i<s.size:=by omega
   have hx:=hlow i hi;have hnx:=fun ty=>run_next_ascii (P:=Tryz.prog) w s i ty hi hx
   have hne:(((s[i]'hi).toNat:Int)==65533)=false:=by simp;omega
   clear hlow;go_wp2_with fail;go_roundg g
   case measure=>omega
   case rel=>exact ⟨i+1,by omega,rfl⟩
theorem zC0 (r:Int) (h1:128<=r) (h2:r<=2097151) (hv:Lib.validRune r=true) (hne:r≠65533) (w:World) :
  Calls Tryz.prog 189 #[.string ⟨#[58,43,45,126,61]⟩,.int .i32 r] w fun e w'=>e=.returned (.int .i64 (-1))/\zK w w':=by
 obtain ⟨m,hm1,hm3,hs,hb⟩:=zJk r h1;obtain ⟨pat,hpat⟩:∃pat,Utf8.encode r=pat:=⟨_,rfl⟩;simp only [hpat] at hs hb;obtain ⟨b,hbe⟩:∃b,pat[m]'(by omega)=b:=⟨_,rfl⟩;rw [hbe] at hb;have hz:(0:Int)<=r:=by omega
 have h128:decide (r<128)=false:=decide_eq_false (by omega);have hne':(r==65533)=false:=by simpa using hne
 have HV:=hid hv;obtain ⟨s,hse⟩:∃s:ByteArray,⟨#[58,43,45,126,61]⟩=s:=⟨_,rfl⟩;have h7:s.size=5:=by rw [<-hse];rfl
 have hlow:∀x∈s.data.toList,x.toNat<128:=by subst hse;exact fU
 rw [hse];clear hv hne hse;have hback:((b.toNat:Int)).toNat.toUInt8=b:=by simp
 have HIX:Hid (∀W k,Calls Tryz.prog 159 #[tq (s.extract k s.size),.int .u8 b.toNat] W fun e w'=>e=.returned (ii (-1))/\w'=W):=fun W k=>by
  have:=Tryz.strings_IndexByte (s.extract k s.size) b.toNat W
  rw [hback,dP (fun hc=>by
   have hm:b∈s.data.toList:=by
    have e:(s.extract k s.size).data.toList=s.data.toList.drop k:=by
     have:=nM s k;exact this
    rw [e] at hc;exact List.mem_of_mem_drop hc
   have:=hlow b hm;omega)] at this
  exact this
 have hsm:m<s.size:=by omega
 obtain ⟨c,hce⟩:∃c,s[m]'hsm=c:=⟨_,rfl⟩
 have hc:c.toNat<128:=by
  rw [<-hce];exact hlow _ (List.getElem_mem (l:=s.data.toList) (n:=m) (by simpa using hsm))
 have hx:((c.toNat:Int) != (b.toNat:Int))=true:=by simp;omega
 have hmz:(0:Int)<=m:=by omega
 have hms:(m:Int)<(s.size:Int):=by omega
 have hmp:(m:Int)<(pat.size:Int):=by omega
 have hpz:(pat.size:Int)-1=(m:Int):=by omega
 have hww:IntKind.i64.wrap ((m:Int)+1)=(m:Int)+1:=mR _ (by omega) (by omega);have hm1s:(m:Int)+1<=(s.size:Int):=by omega
 have hm0z:(0:Int)<=(m:Int)+1:=by omega
 have hmt:((m:Int)+1).toNat=m+1:=by omega
 have hmp2:m<pat.size:=by omega
 have hbe2:pat[m]'hmp2=b:=hbe;clear hbe;clear h7 hs;clear hlow;go_enter Tryz.func189,Tryz.ntmps189;go_wp2_with (first|(go_at_call 214;refine (Tryz.utf8_ValidRune _ _).mono ?_;rintro e w1 ⟨rfl,rfl⟩;rw [HV.out]))
 go_step3
 go_wp2_with fail
 refine wp_loop_rounds 1 ?_;rw [rounds_succ];go_wp2_with fail
 go_step3
 go_wp2_with fail
 go_quiet (fail)
 go_wp2_with fail
 have hG2:=zK.draws w1 nq
 generalize w1.drewN nq=W2 at hG2 ⊢
 go_quiet (first|(go_at_call 159;refine Calls.quiet_of_same (HIX.out _ _)))
 go_wp2_with fail
 repeat (first|rw [Exit.noGoto_ret]|simp only [Exit.inBlock,Exit.then])
 go_ret;exact ⟨rfl,hG2.drewN _⟩
theorem zDq (r:Int) (h1:128<=r) (h2:r<=2097151) (w:World) :
  Calls Tryz.prog 189 #[.string ⟨#[58,43,45,126,61]⟩,.int .i32 r] w fun e w'=>e=.returned (.int .i64 (-1))/\zK w w':=by
 by_cases hne:r=65533
 ·subst hne;exact zFQ w
 ·cases hv:Lib.validRune r with
  | true=>exact zC0 r h1 h2 hv hne w
  | false =>
   have h128:decide (r<128)=false:=decide_eq_false (by omega);have hz:(0:Int)<=r:=by omega
   have hne':(r==65533)=false:=by simpa using hne
   have HV:=hid hv;clear hv hne;go_enter Tryz.func189,Tryz.ntmps189;go_wp2_with (first|(go_at_call 214;refine (Tryz.utf8_ValidRune _ _).mono ?_;rintro e w1 ⟨rfl,rfl⟩;rw [HV.out]))
   repeat (first|rw [Exit.noGoto_ret]|simp only [Exit.inBlock,Exit.then])
   go_ret;exact ⟨rfl,zK.refl _⟩
def zHs (W:World) (N:Nat) (s:ByteArray) (pos:Nat):Prop:=W.heap[N]? = some (.stringIter s pos)
theorem zFi {w W:World} {s:ByteArray} {pos:Nat} (h:zHs W w.heap.size s pos) (hb:Below w.heap.size w W) (p':Nat) :
  zHs (setBlock W w.heap.size (.stringIter s p')) w.heap.size s p'/\Below w.heap.size w (setBlock W w.heap.size (.stringIter s p')):=by
 have hlt:=(Array.getElem?_eq_some_iff.1 h).1;refine ⟨by unfold zHs setBlock;simp [hlt],hb.os,hb.tape,hb.output,by simpa [setBlock] using hb.size,fun k hk=>?_⟩;refine Eq.trans ?_ (hb.block k hk);show (W.heap.setIfInBounds w.heap.size _)[k]? = _;rw [Array.getElem?_setIfInBounds,if_neg (by omega)]
theorem zD5 (s:ByteArray) (w:World) (h8:s.size<=8) :
  Calls Tryz.prog 158 #[.string s,.string ⟨#[58,43,45,126,61]⟩] w fun e w'=>(∃k,e=.returned (.int .i64 k)/\kA s.data.toList k)/\Below w.heap.size w w':=by
 have h8z:decide ((8:Int)<(s.size:Int))=false:=decide_eq_false (by omega);obtain ⟨cs,hcs⟩:∃cs:ByteArray,⟨#[58,43,45,126,61]⟩=cs:=⟨_,rfl⟩;have HCS:=hid hcs;have hemp:cs.toList.isEmpty=false:=mZ (by rw [<-hcs];decide);have hn1:((cs.size:Int)==1)=false:=by rw [<-hcs];rfl
 rw [hcs];clear hcs;go_enter Tryz.func158,Tryz.ntmps158;go_wp2_with (go_at_call 190;refine (Tryz.strings_shouldUseASCIISet _ _).mono ?_;rintro e w' ⟨rfl,hw⟩;rw [hw,h8z])
 go_loopg [9,10] s.size (fun g _ _ wx=>∃i:Nat,i<=s.size/\s.size-i<=g/\Hid (zHs wx w.heap.size s i)/\Hid (Below w.heap.size w wx)/\Hid (∀c∈s.data.toList.take i,isK c=false))
 case atStart=>exact ⟨0,by omega,by omega,World.iter_heap _ _ _,(Below.refl _ _).alloc (Nat.le_refl _) _,fun c hc=>by simp at hc⟩
 case round =>
  obtain ⟨i,hi,hg,HI,HB,HN⟩:=hrel
  by_cases hlt:i<s.size
  ·have hil:i<s.data.toList.length:=by simpa using hlt
   have hnx:=fun ty=>zDt wr w.heap.size s i ty HI.out hlt
   obtain ⟨x,hx⟩:∃x:UInt8,s[i]'hlt=x:=⟨_,rfl⟩;have hxl:s.data.toList[i]=x:=hx
   by_cases hx128:x.toNat<128
   ·have hdec:=decode_ascii s i hlt (by rw [hx];exact hx128);rw [hx] at hdec;rw [hdec] at hnx;obtain ⟨hi2,hb2⟩:=zFi HI.out HB.out (i+1);simp only at hnx;obtain ⟨W1,hW1⟩:∃W1,setBlock wr w.heap.size (.stringIter s (i+1))=W1:=⟨_,rfl⟩;rw [hW1] at hnx hi2 hb2;have HI2:=hid hi2;have HB2:=hid hb2;have HXL:=hid hxl;have hback:((x.toNat:Int)).toNat.toUInt8=x:=by simp
    have hcon:=Lib.contains_iff_indexByte cs.data.toList x;have e1:cs.data.toList.contains x=isK x:=by rw [<-HCS.out];exact zIM x
    rw [e1] at hcon
    cases hop:isK x with
    | true =>
     rw [hop] at hcon;have hge:(0:Int)<=Lib.indexByte cs.data.toList x:=of_decide_eq_true hcon.symm;have HF:Hid (kA s.data.toList (i:Int)):=Or.inr ⟨i,rfl,hil,by rw [hxl];exact hop,HN.out⟩;clear hcon e1 hxl hx hW1 hi2 hb2 hdec hop;go_wp2_with (go_at_call 189;refine (Tryz.strings_IndexRune_ascii _ _ _ (by omega) (by omega)).mono ?_;rintro e w' ⟨rfl,hw⟩;rw [hw,hback]);go_ret;exact ⟨⟨_,rfl,HF.out⟩,HB2.out⟩
    | false =>
     rw [hop] at hcon;have hge:¬ ((0:Int)<=Lib.indexByte cs.data.toList x):=of_decide_eq_false hcon.symm
     have HF:Hid (∀c∈s.data.toList.take (i+1),isK c=false):=fun c hc=>by
      rw [List.take_succ_eq_append_getElem hil,List.mem_append,List.mem_singleton] at hc
      rcases hc with hc|hc
      ·exact HN.out c hc
      ·rw [hc,hxl];exact hop
     clear hcon e1 hxl hx hW1 hi2 hb2 hdec hop;go_wp2_with (go_at_call 189;refine (Tryz.strings_IndexRune_ascii _ _ _ (by omega) (by omega)).mono ?_;rintro e w' ⟨rfl,hw⟩;rw [hw,hback]);go_roundg (s.size-(i+1))
     case measure=>omega
     case rel=>exact ⟨i+1,by omega,by omega,HI2,HB2,HF⟩
   ·obtain ⟨r1,r2,r3,r4,r5⟩:=zJR s i hlt (by rw [hx];omega);obtain ⟨hi2,hb2⟩:=zFi HI.out HB.out (i+(Utf8.decode s i).2);obtain ⟨r,hr⟩:∃r,(Utf8.decode s i).1=r:=⟨_,rfl⟩;obtain ⟨k,hk⟩:∃k,(Utf8.decode s i).2=k:=⟨_,rfl⟩;rw [hr,hk] at hnx;rw [hr] at r1 r2;rw [hk] at r3 r4 r5 hi2 hb2;obtain ⟨W1,hW1⟩:∃W1,setBlock wr w.heap.size (.stringIter s (i+k))=W1:=⟨_,rfl⟩;rw [hW1] at hnx hi2 hb2
    have HF:Hid (∀c∈s.data.toList.take (i+k),isK c=false):=fun c hc=>by
     obtain ⟨j,hj,rfl⟩:=List.mem_iff_getElem.1 hc;rw [List.length_take] at hj;rw [List.getElem_take]
     by_cases hji:j<i
     ·exact HN.out _ (List.mem_iff_getElem.2 ⟨j,by rw [List.length_take];omega,by rw [List.getElem_take]⟩)
     ·have hjs:j<s.size:=by have:=hj;simp at this;omega
      have h128:=r5 j (by omega) (by omega);rw [zDi s j hjs] at h128;have e:s.data.toList[j]'(by simpa using hjs)=s[j]'hjs:=rfl;rw [e]
      cases hop:isK (s[j]'hjs) with
      | false=>rfl
      | true=>rcases pS hop with h|h|h|h|h<;>(rw [h] at h128;exact absurd h128 (by decide))
    have HIR:Hid (Calls Tryz.prog 189 #[tq cs,.int .i32 r] W1 fun e w'=>e=.returned (ii (-1))/\zK W1 w'):=by
     show Calls _ _ _ _ _
     rw [<-HCS.out];exact zDq r (by omega) (by omega) W1
    have HI2:=hid hi2;have HB2:=hid hb2;clear hxl hx hW1 hi2 hb2 hr hk r5;go_wp2_with (go_at_call 189;refine HIR.out.mono ?_;rintro e w2 ⟨rfl,hg2⟩);go_roundg (s.size-(i+k))
    case measure=>omega
    case rel=>exact ⟨i+k,by omega,by omega,(hg2.below.block _ (Array.getElem?_eq_some_iff.1 HI2.out).1).trans HI2.out,zQ HB2.out HB2.out.size hg2.below,HF⟩
  ·have hi':i=s.size:=by omega
   have hnx:=fun ty=>zB0 wr w.heap.size s i ty HI.out hlt
   have HF:Hid (kA s.data.toList (-1)):=Or.inl ⟨rfl,fun c hc=>HN.out c (by rw [List.take_of_length_le (by simp;omega)];exact hc)⟩;go_wp2_with fail;go_ret;exact ⟨⟨_,rfl,HF.out⟩,HB.out⟩
theorem zHj (s:ByteArray) (w:World) (hs:s.size<=4294967000) :
  Calls Tryz.prog 158 #[.string s,.string ⟨#[58,43,45,126,61]⟩] w fun e w'=>(∃k,e=.returned (.int .i64 k)/\kA s.data.toList k)/\Below w.heap.size w w':=by
 by_cases h8:s.size<=8
 ·exact zD5 s w h8
 ·refine (Tryz.strings_IndexAny_long (fun _=>by kernel_rfl) s ⟨#[58,43,45,126,61]⟩ w (by decide) (by omega) (by omega) (by decide) (fun j b hb=>fU b (List.mem_of_getElem? hb))).mono ?_;rintro e w' ⟨rfl,rfl⟩;exact ⟨⟨_,rfl,pE _⟩,((Below.refl _ _).alloc (Nat.le_refl _) _).alloc (by simp) _⟩
end
section
theorem yT {ops:Array Oper} {i:Nat} {oi:Oper} {rest:List Oper} (h:ops.toList.drop i=oi::rest):ops[i]? = some oi:=by
 rw [<-Array.getElem?_toList,<-List.head?_drop,h];rfl
section
variable {P:Program} {ops:Array Oper} {Q:Exit→Act→World→Prop} {md:Region.Mode} {S:World→Prop}
theorem zLe {i fuel:Nat} {listed:Array Bool} {a:Act} {w:World} (v:Value) {oi:Oper} {rest:List Oper} (hd:ops.toList.drop i=oi::rest)
  (hs:Region.noSelect ops=true) (hf:Region.free md ops listed i=true) (hr:(Region.ready md ops listed).contains i=true)
  (hQ:∀c a w,Q (.panic c) (a.put oi.dst v) w->Q (.panic c) a w) (hw:Region.wanted oi (yielded ops a.tmps)=true) (hy:∀w,S w->(execOp a.eval oi).run P w=.ok (.value v) w) (hS:S w)
  (h:wpAnyH P md ops Q S fuel (listed.setIfInBounds i true) (a.put oi.dst v) w):wpAnyH P md ops Q S (fuel+1) listed a w :=
 wpAnyH_take (yT hd) hs hf hr hQ (Or.inl ⟨hw,hy⟩) hS h
theorem yG {i fuel:Nat} {listed:Array Bool} {a:Act} {w:World} {oi:Oper} {rest:List Oper} (hd:ops.toList.drop i=oi::rest)
  (hs:Region.noSelect ops=true) (hf:Region.free md ops listed i=true) (hr:(Region.ready md ops listed).contains i=true)
  (hQ:∀c a w,Q (.panic c) (a.put oi.dst undef) w->Q (.panic c) a w) (hw:Region.wanted oi (yielded ops a.tmps)=false) (hS:S w)
  (h:wpAnyH P md ops Q S fuel (listed.setIfInBounds i true) (a.put oi.dst undef) w):wpAnyH P md ops Q S (fuel+1) listed a w :=
 wpAnyH_take (yT hd) hs hf hr hQ (Or.inr ⟨hw,rfl⟩) hS h
end
end
section
section
variable {P:Program} {ops:Array Oper} {Q:Exit→Act→World→Prop} {md:Region.Mode} {S:World→Prop}
theorem tkv (i:Nat) {fuel:Nat} {listed:Array Bool} {a:Act} {w:World} (v:Value) {oi:Oper} {rest:List Oper} (hS:S w)
  (h:wpAnyH P md ops Q S fuel (listed.setIfInBounds i true) (a.put oi.dst v) w) (hd:ops.toList.drop i=oi::rest:=by rfl)
  (hs:Region.noSelect ops=true:=by kernel_rfl) (hf:Region.free md ops listed i=true:=by kernel_rfl) (hr:(Region.ready md ops listed).contains i=true:=by kernel_rfl)
  (hQ:∀c a w,Q (.panic c) (a.put oi.dst v) w→Q (.panic c) a w:=by exact fun _ _ _ h=>h) (hw:Region.wanted oi (yielded ops a.tmps)=true:=by rfl)
  (hy:∀w,S w→(execOp a.eval oi).run P w=.ok (.value v) w:=by exact fun w hSw=>by go_simp):wpAnyH P md ops Q S (fuel+1) listed a w :=
 wpAnyH_take (yT hd) hs hf hr hQ (Or.inl ⟨hw,hy⟩) hS h
end
end
section
open Go.RowKit Go.Lib
theorem zKz {c:UInt8} (h:isK c=true):Lib.indexByte (⟨#[58,43,45,126,61]⟩:ByteArray).data.toList c=wS (c.toNat:Int)-1:=by
 rcases pS h with rfl|rfl|rfl|rfl|rfl<;>decide
theorem zO1 {c:UInt8} (h:isK c=true):1<=wS (c.toNat:Int)/\wS (c.toNat:Int)<=5:=by
 rcases pS h with rfl|rfl|rfl|rfl|rfl<;>decide
theorem zKa {l:List UInt8} {i:Nat} (hi:i<l.length) (h1:isK l[i]=true) (h2:∀c∈l.take i,isK c=false) :
  vK l=if wS (l[i].toNat:Int)=4 then (if l.drop (i+1)=[] then some (4,⟨(l.take i).toArray⟩,⟨#[]⟩) else none)
   else if Lib.hasPrefix (l.drop (i+1)) [61]=true then (match yJ ((l.drop (i+1)).drop 1) with
    | none=>none
    | some t=>some (wS (l[i].toNat:Int),⟨(l.take i).toArray⟩,⟨t.toArray⟩)) else none:=by
 obtain ⟨e1,e2⟩:=zDI hi h2 h1;unfold vK;rw [e2];simp only;rw [e1]
 by_cases h4:wS (l[i].toNat:Int)=4
 ·rw [if_pos h4,if_pos h4]
 ·rw [if_neg h4,if_neg h4]
  cases l.drop (i+1) with
  | nil=>rfl
  | cons d r =>
   simp only [List.drop_succ_cons,List.drop_zero]
   by_cases hd:d=61
   ·subst hd;rw [if_pos rfl,if_pos (by rfl)]
    cases yJ r<;>rfl
   ·rw [if_neg hd,if_neg];intro h;simp [Lib.hasPrefix] at h;exact hd h.symm
theorem kA.uniq {l:List UInt8} {a b:Int} (ha:kA l a) (hb:kA l b):a=b:=by
 rcases ha with ⟨rfl,h1⟩|⟨i,rfl,hi,h1,h2⟩
 ·rcases hb with ⟨rfl,_⟩|⟨j,rfl,hj,h3,_⟩
  ·rfl
  ·rw [h1 _ (List.getElem_mem hj)] at h3;cases h3
 ·rcases hb with ⟨rfl,h3⟩|⟨j,rfl,hj,h3,h4⟩
  ·rw [h3 _ (List.getElem_mem hi)] at h1;cases h1
  ·rcases Nat.lt_trichotomy i j with h|h|h
   ·rw [h4 _ (List.mem_iff_getElem.2 ⟨i,by rw [List.length_take];omega,by rw [List.getElem_take]⟩)] at h1;cases h1
   ·rw [h]
   ·rw [h2 _ (List.mem_iff_getElem.2 ⟨j,by rw [List.length_take];omega,by rw [List.getElem_take]⟩)] at h3;cases h3
theorem zCh {s:ByteArray} {k:Int} (h:kA s.data.toList k) (w:World) (hs:s.size<=4294967000) :
  Calls Tryz.prog 158 #[.string s,.string ⟨#[58,43,45,126,61]⟩] w fun e w'=>e=.returned (.int .i64 k)/\Below w.heap.size w w' :=
 (zHj s w hs).mono fun _ _ ⟨⟨k',h1,h2⟩,h3⟩=>⟨by rw [h1,h.uniq h2],h3⟩
def zK4 (o:Option Ed):Value:=match o with
 | none=>.tuple #[.agg #[.int .i64 0,.string ⟨#[]⟩,.string ⟨#[]⟩],.int .i64 4]
 | some x=>.tuple #[.agg #[.int .i64 x.1,.string x.2.1,.string x.2.2],.int .i64 0]
theorem zJu (s:ByteArray) (w:World) (hs:s.size<=4294967000) (hk:∀c∈s.data.toList,isK c=false) :
  Calls Tryz.prog 118 #[.string s] w fun e w'=>e=.returned (.tuple #[.agg #[.int .i64 0,.string ⟨#[]⟩,.string ⟨#[]⟩],.int .i64 4])/\Below w.heap.size w w':=by
 obtain ⟨W0,hW0⟩:∃W0,w.alloc (.cells #[ii 0,tq ⟨#[]⟩,tq ⟨#[]⟩] 47)=W0:=⟨_,rfl⟩;obtain ⟨R,hR⟩:∃R,w.heap.size=R:=⟨_,rfl⟩;have hb0:Below R w W0:=by rw [<-hW0,<-hR];exact (Below.refl _ _).alloc (Nat.le_refl _) _
 have hx0:mQ W0 R (0,⟨#[]⟩,⟨#[]⟩):=by rw [<-hW0,<-hR];exact dN w (0,⟨#[]⟩,⟨#[]⟩)
 have hRl:R<W0.heap.size:=hx0.lt;have HB0:=hid hb0;have HX0:=hid hx0;rw [hR];have HX:=hid (zCh (Or.inl ⟨rfl,hk⟩) W0 hs);clear hb0 hx0 hk;go_enter Tryz.func118,Tryz.ntmps118;go_wp2_with fail;refine HX.out.mono ?_;rintro e w1 ⟨rfl,hb1⟩;have hx1:=HX0.out.on hb1;obtain ⟨k0,k1,k2⟩:=hx1.cells;obtain ⟨f0,f1,f2⟩:=sW hx1;simp only at k0 k1 k2;have HX1:=hid hx1;have HB1:=hid (show Below R w w1 from HB0.out.trans (hb1.mono (Nat.le_of_lt hRl)));clear hx1 hb1;go_wp2_with fail;obtain ⟨j0,j1,j2⟩:=(mU HX1.out (0,⟨#[]⟩,⟨#[]⟩)).cells;simp only at j0 j1 j2;exact bodyPost_ret (v:=.tuple #[.agg #[ii 0,tq ⟨#[]⟩,tq ⟨#[]⟩],ii 4]) (by simp [results,Tryz.results118,go_sem,j0,j1,j2]) rfl ⟨rfl,jJ HB1.out (Nat.le_refl _) (0,⟨#[]⟩,⟨#[]⟩)⟩
theorem zJn (s:ByteArray) (w:World) (hp:zY w) (hs:s.size<=4294967000) (i:Nat) (hi:i<s.data.toList.length) (h1:isK s.data.toList[i]=true) (h2:∀c∈s.data.toList.take i,isK c=false) :
  Calls Tryz.prog 118 #[.string s] w fun e w'=>e=.returned (zK4 (vK s.data.toList))/\Below w.heap.size w w':=by
 obtain ⟨W0,hW0⟩:∃W0,w.alloc (.cells #[ii 0,tq ⟨#[]⟩,tq ⟨#[]⟩] 47)=W0:=⟨_,rfl⟩;obtain ⟨R,hR⟩:∃R,w.heap.size=R:=⟨_,rfl⟩;have hb0:Below R w W0:=by rw [<-hW0,<-hR];exact (Below.refl _ _).alloc (Nat.le_refl _) _
 have hx0:mQ W0 R (0,⟨#[]⟩,⟨#[]⟩):=by rw [<-hW0,<-hR];exact dN w (0,⟨#[]⟩,⟨#[]⟩)
 have hRl:R<W0.heap.size:=hx0.lt;have HP:=hid (show zY W0 from hp.on (by rw [hR];exact hb0));have HB0:=hid hb0;have HX0:=hid hx0;obtain ⟨V,hV⟩:∃V,zK4 (vK s.data.toList)=V:=⟨_,rfl⟩;rw [hV];have HX:=hid (zCh (Or.inr ⟨i,rfl,hi,h1,h2⟩) W0 hs);rw [zKa hi h1 h2] at hV;have his:i<s.size:=by simpa using hi
 obtain ⟨c,hc⟩:∃c,s[i]'his=c:=⟨_,rfl⟩;have hcl:s.data.toList[i]=c:=hc;rw [hcl] at h1 hV;have hix:=zKz h1;obtain ⟨o1,o2⟩:=zO1 h1;obtain ⟨o,ho⟩:∃o,wS (c.toNat:Int)=o:=⟨_,rfl⟩;rw [ho] at hix o1 o2 hV;have hback:((c.toNat:Int)).toNat.toUInt8=c:=by simp
 have HIX:Hid (∀W,Calls Tryz.prog 159 #[tq ⟨#[58,43,45,126,61]⟩,.int .u8 c.toNat] W fun e w'=>e=.returned (ii (o-1))/\W=w'):=fun W=>by
  have:=Tryz.strings_IndexByte ⟨#[58,43,45,126,61]⟩ c.toNat W;rw [hback,hix] at this;exact this.mono fun e w' h=>⟨h.1,h.2.symm⟩
 have hw1:IntKind.i64.wrap (1+(o-1))=o:=by rw [show 1+(o-1)=o by omega];exact mR _ (by omega) (by omega)
 have hiz:(0:Int)<=i:=by omega
 have hiz2:(i:Int)<(s.size:Int):=by omega
 have hiz3:(i:Int)+1<=(s.size:Int):=by omega
 have hiz4:(0:Int)<=(i:Int)+1:=by omega
 have hiz5:(i:Int)<=(s.size:Int):=by omega
 have hit:((i:Int)+1).toNat=i+1:=by omega
 have hnn:¬ ((i:Int)<0):=by omega
 have HE:=hid (jC s i);have HV:=hid hV;rw [hR];clear hp hb0 hx0 hcl hix ho hi h2 h1 hV;go_enter Tryz.func118,Tryz.ntmps118;go_wp2_with fail;refine HX.out.mono ?_;rintro e w1 ⟨rfl,hb1⟩;have HB1:=hid hb1;clear hb1;go_wp2_with fail;refine wp_region_held_drew (S:=fun _=>True) (by kernel_rfl) trivial (fun hHeld=>?_);refine tkv 0 (tq s) hHeld ?_;simp only [Act.put,sz];refine tkv 1 (ii i) hHeld ?_;simp only [Act.put,sz];refine tkv 2 (.int .u8 c.toNat) hHeld ?_;simp only [Act.put,sz];refine tkv 5 (tq s) hHeld ?_;simp only [Act.put,sz];refine tkv 6 (ii i) hHeld ?_;simp only [Act.put,sz];refine tkv 7 (tq (s.extract 0 i)) hHeld ?_;simp only [Act.put,sz];refine wpAnyH_ready (rs:=[3,9]) (by kernel_rfl) (by simp) ?_;refine AllReadyH.cons (yT rfl) (fun K hK=>?_) (AllReadyH.cons (yT rfl) (fun K hK=>?_) AllReadyH.nil)
 case' refine_1 =>
  rw [if_pos (by rfl)]
  go_simp
  refine (HIX.out _).mono ?_;rintro e w2 ⟨rfl,rfl⟩;go_wp2_with fail;refine hK.out _ _ trivial (fun hHeld=>?_);clear hK K
  try simp only [Act.put,sz]
  refine tkv 4 (ii o) hHeld ?_;simp only [Act.put,sz];refine tkv 8 (.agg #[ii o,tq (s.extract 0 i),tq ⟨#[]⟩]) hHeld ?_;simp only [Act.put,sz];refine wpAnyH_ready (rs:=[9]) (by kernel_rfl) (by simp) ?_;refine AllReadyH.cons (yT rfl) (fun K hK=>?_) AllReadyH.nil;rw [if_pos (by rfl)]
  go_simp
  refine hK.out _ _ trivial (fun hHeld=>?_);clear hK K
  try simp only [Act.put,sz]
  refine wpAnyH_ready (rs:=[10]) (by kernel_rfl) (by simp) ?_;refine AllReadyH.cons (yT rfl) (fun K hK=>?_) AllReadyH.nil;rw [if_pos (by rfl)]
  go_simp
  refine hK.out _ _ trivial (fun hHeld=>?_);clear hK K
  try simp only [Act.put,sz]
  refine wpAnyH_done (by kernel_rfl) ?_ _
 case' refine_2 =>
  rw [if_pos (by rfl)]
  go_simp
  refine hK.out _ _ trivial (fun hHeld=>?_);clear hK K
  try simp only [Act.put,sz]
  refine wpAnyH_ready (rs:=[3]) (by kernel_rfl) (by simp) ?_;refine AllReadyH.cons (yT rfl) (fun K hK=>?_) AllReadyH.nil;rw [if_pos (by rfl)]
  go_simp
  refine (HIX.out _).mono ?_;rintro e w2 ⟨rfl,rfl⟩;go_wp2_with fail;refine hK.out _ _ trivial (fun hHeld=>?_);clear hK K
  try simp only [Act.put,sz]
  refine tkv 4 (ii o) hHeld ?_;simp only [Act.put,sz];refine tkv 8 (.agg #[ii o,tq (s.extract 0 i),tq ⟨#[]⟩]) hHeld ?_;simp only [Act.put,sz];refine wpAnyH_ready (rs:=[10]) (by kernel_rfl) (by simp) ?_;refine AllReadyH.cons (yT rfl) (fun K hK=>?_) AllReadyH.nil;rw [if_pos (by rfl)]
  go_simp
  refine hK.out _ _ trivial (fun hHeld=>?_);clear hK K
  try simp only [Act.put,sz]
  refine wpAnyH_done (by kernel_rfl) ?_ _
 all_goals
  clear HIX HX;obtain ⟨E,hE⟩:∃E,w1.heap.size=E:=⟨_,rfl⟩;have hsz1:=HB1.out.size;have hRE:R≠E:=by omega
  have hER:E≠R:=by omega
  have HBW:Hid (Below W0.heap.size W0 (w1.alloc (.cells #[ii o,tq (s.extract 0 i),tq ⟨#[]⟩] 47)).drew):=(HB1.out.alloc hsz1 _).drew;have HEB:Hid (mQ (w1.alloc (.cells #[ii o,tq (s.extract 0 i),tq ⟨#[]⟩] 47)).drew E (o,s.extract 0 i,⟨#[]⟩)):=by rw [<-hE];exact dN w1 (o,s.extract 0 i,⟨#[]⟩)
  obtain ⟨W,hW⟩:∃W,(w1.alloc (.cells #[ii o,tq (s.extract 0 i),tq ⟨#[]⟩] 47)).drew=W:=⟨_,rfl⟩;rw [hW] at HBW HEB;rw [hE];have hx1:=HX0.out.on HBW.out;obtain ⟨k0,k1,k2⟩:=hx1.cells;obtain ⟨f0,f1,f2⟩:=sW hx1;obtain ⟨y0,y1,y2⟩:=HEB.out.cells;obtain ⟨z0,z1,z2⟩:=sW HEB.out;simp only at k0 k1 k2 y0 y1 y2;have HX1:=hid hx1;have HRW:Hid (Below R w W):=HB0.out.trans (HBW.out.mono (Nat.le_of_lt hRl));clear hx1;have hcd:(s.extract (i+1) s.size).data.toList=s.data.toList.drop (i+1):=nM s (i+1)
  by_cases h4:o=4
  ·have hkb:(o==4)=true:=by rw [h4];rfl
   have hvv:=HV.out;rw [if_pos h4] at hvv
   by_cases hL:s.data.toList.drop (i+1)=[]
   ·have hbe:(s.extract (i+1) s.size).toList.isEmpty=true:=by rw [Lib.toList_data,hcd,hL];rfl
    have HO:Hid (V=.tuple #[.agg #[ii o,tq (s.extract 0 i),tq ⟨#[]⟩],ii 0]):=by
     show _=_
     rw [<-hvv,if_pos hL,h4,HE.out];rfl
    clear hvv hL hcd h4;go_wp2_with fail;obtain ⟨j0,j1,j2⟩:=(mU HX1.out (o,s.extract 0 i,⟨#[]⟩)).cells;simp only at j0 j1 j2;exact bodyPost_ret (v:=.tuple #[.agg #[ii o,tq (s.extract 0 i),tq ⟨#[]⟩],ii 0]) (by simp [results,Tryz.results118,go_sem,j0,j1,j2]) rfl ⟨by rw [HO.out],jJ HRW.out (Nat.le_refl _) (o,s.extract 0 i,⟨#[]⟩)⟩
   ·have hbe:(s.extract (i+1) s.size).toList.isEmpty=false:=by
     rw [Lib.toList_data,hcd]
     cases hq:s.data.toList.drop (i+1) with
     | nil=>exact absurd hq hL
     | cons _ _=>rfl
    have HO:Hid (V=.tuple #[.agg #[ii 0,tq ⟨#[]⟩,tq ⟨#[]⟩],ii 4]):=by
     show _=_
     rw [<-hvv,if_neg hL];rfl
    clear hvv hL hcd h4;go_wp2_with fail;obtain ⟨j0,j1,j2⟩:=(mU HX1.out (0,⟨#[]⟩,⟨#[]⟩)).cells;simp only at j0 j1 j2;exact bodyPost_ret (v:=.tuple #[.agg #[ii 0,tq ⟨#[]⟩,tq ⟨#[]⟩],ii 4]) (by simp [results,Tryz.results118,go_sem,j0,j1,j2]) rfl ⟨by rw [HO.out],jJ HRW.out (Nat.le_refl _) (0,⟨#[]⟩,⟨#[]⟩)⟩
  ·have hkb:(o==4)=false:=beq_eq_false_iff_ne.2 h4;have hvv:=HV.out;rw [if_neg h4] at hvv;have hcp:=Tryz.strings_CutPrefix (s.extract (i+1) s.size) ⟨#[61]⟩ W;rw [hcd] at hcp;obtain ⟨wr,hwr⟩:∃wr:ByteArray,⟨(Lib.trimPrefix (s.data.toList.drop (i+1)) [61]).toArray⟩=wr:=⟨_,rfl⟩;have hwrl:wr.data.toList=Lib.trimPrefix (s.data.toList.drop (i+1)) [61]:=by rw [<-hwr]
   have hwrs:wr.size<=s.size:=by
    have e1:wr.size=wr.data.toList.length:=by simp
    rw [e1,hwrl]
    have e2:(Lib.trimPrefix (s.data.toList.drop (i+1)) [61]).length<=(s.data.toList.drop (i+1)).length:=by
     unfold Lib.trimPrefix
     split
     ·rw [List.length_drop];exact Nat.sub_le _ _
     ·exact Nat.le_refl _
    have e3:(s.data.toList.drop (i+1)).length<=s.data.toList.length:=by simp
    have e4:s.data.toList.length=s.size:=by simp
    omega
   have hrd:=gD wr W (HP.out.on HBW.out) (by omega);have HKE:Hid (∀W2,Below W.heap.size W W2->(mQ W2 E (o,s.extract 0 i,⟨#[]⟩)/\mQ W2 R (0,⟨#[]⟩,⟨#[]⟩))/\Below R w W2):=fun W2 h=>⟨⟨HEB.out.on h,HX1.out.on h⟩,HRW.out.trans (h.mono (by have:=HBW.out.size;omega))⟩
   cases hpre:Lib.hasPrefix (s.data.toList.drop (i+1)) [61] with
   | false =>
    have HO:Hid (V=.tuple #[.agg #[ii 0,tq ⟨#[]⟩,tq ⟨#[]⟩],ii 4]):=by
     show _=_
     rw [<-hvv,if_neg (by rw [hpre];decide)];rfl
    have HCP:Hid (Calls Tryz.prog 15 #[tq (s.extract (i+1) s.size),tq ⟨#[61]⟩] W fun e w'=>e=.returned (.tuple #[tq wr,.bool false])/\W=w'):=hcp.mono fun e w' h=>⟨by rw [h.1,<-hwr,<-hpre],h.2.symm⟩
    have HRD:Hid (Calls Tryz.prog 153 #[tq wr] W fun e w'=>∃t k,e=.returned (.tuple #[tq t,ii k])/\Below W.heap.size W w'):=hrd.mono fun e w' h=>by
     cases hr:yJ wr.data.toList with
     | none=>rw [hr] at h;exact ⟨_,_,h.1,h.2⟩
     | some t=>rw [hr] at h;exact ⟨_,_,h.1,h.2⟩
    clear hvv hcd h4 hcp hwr hwrl hwrs hrd hpre k0 k1 k2 f0 f1 f2;go_wp2_with fail;refine HCP.out.mono ?_;rintro e w3 ⟨rfl,rfl⟩;go_wp2_with fail;refine HRD.out.mono ?_;rintro e w4 ⟨t,k,rfl,hb4⟩;obtain ⟨⟨hbE,hbR⟩,hbw⟩:=HKE.out _ hb4;obtain ⟨k0,k1,k2⟩:=hbR.cells;obtain ⟨f0,f1,f2⟩:=sW hbR;simp only at k0 k1 k2;have HXR:=hid hbR;have HBR:=hid hbw;clear hb4 hbE hbR hbw;go_wp2_with fail;obtain ⟨j0,j1,j2⟩:=(mU HXR.out (0,⟨#[]⟩,⟨#[]⟩)).cells;simp only at j0 j1 j2;exact bodyPost_ret (v:=.tuple #[.agg #[ii 0,tq ⟨#[]⟩,tq ⟨#[]⟩],ii 4]) (by simp [results,Tryz.results118,go_sem,j0,j1,j2]) rfl ⟨by rw [HO.out],jJ HBR.out (Nat.le_refl _) (0,⟨#[]⟩,⟨#[]⟩)⟩
   | true =>
    have HCP:Hid (Calls Tryz.prog 15 #[tq (s.extract (i+1) s.size),tq ⟨#[61]⟩] W fun e w'=>e=.returned (.tuple #[tq wr,.bool true])/\W=w'):=hcp.mono fun e w' h=>⟨by rw [h.1,<-hwr,<-hpre],h.2.symm⟩
    have hdr:wr.data.toList=(s.data.toList.drop (i+1)).drop 1:=by
     rw [hwrl];unfold Lib.trimPrefix;rw [if_pos hpre];rfl
    rw [if_pos hpre,<-hdr] at hvv
    cases hr:yJ wr.data.toList with
    | none =>
     rw [hr] at hrd hvv;have HO:Hid (V=.tuple #[.agg #[ii 0,tq ⟨#[]⟩,tq ⟨#[]⟩],ii 4]):=hvv.symm;have HRD:Hid (Calls Tryz.prog 153 #[tq wr] W fun e w'=>e=.returned (.tuple #[tq ⟨#[]⟩,ii 4])/\Below W.heap.size W w'):=hrd;clear hvv hcd h4 hcp hwr hwrl hwrs hrd hpre k0 k1 k2 f0 f1 f2 hdr hr;go_wp2_with fail;refine HCP.out.mono ?_;rintro e w3 ⟨rfl,rfl⟩;go_wp2_with fail;refine HRD.out.mono ?_;rintro e w4 ⟨rfl,hb4⟩;obtain ⟨⟨hbE,hbR⟩,hbw⟩:=HKE.out _ hb4;obtain ⟨k0,k1,k2⟩:=hbR.cells;obtain ⟨f0,f1,f2⟩:=sW hbR;simp only at k0 k1 k2;have HXR:=hid hbR;have HBR:=hid hbw;clear hb4 hbE hbR hbw;go_wp2_with fail;obtain ⟨j0,j1,j2⟩:=(mU HXR.out (0,⟨#[]⟩,⟨#[]⟩)).cells;simp only at j0 j1 j2;exact bodyPost_ret (v:=.tuple #[.agg #[ii 0,tq ⟨#[]⟩,tq ⟨#[]⟩],ii 4]) (by simp [results,Tryz.results118,go_sem,j0,j1,j2]) rfl ⟨by rw [HO.out],jJ HBR.out (Nat.le_refl _) (0,⟨#[]⟩,⟨#[]⟩)⟩
    | some t =>
     rw [hr] at hrd hvv
     have HO:Hid (V=.tuple #[.agg #[ii o,tq (s.extract 0 i),tq ⟨t.toArray⟩],ii 0]):=by
      show _=_
      rw [<-hvv,HE.out];rfl
     have HRD:Hid (Calls Tryz.prog 153 #[tq wr] W fun e w'=>e=.returned (.tuple #[tq ⟨t.toArray⟩,ii 0])/\Below W.heap.size W w'):=hrd;clear hvv hcd h4 hcp hwr hwrl hwrs hrd hpre k0 k1 k2 f0 f1 f2 hdr hr;go_wp2_with fail;refine HCP.out.mono ?_;rintro e w3 ⟨rfl,rfl⟩;go_wp2_with fail;refine HRD.out.mono ?_;rintro e w4 ⟨rfl,hb4⟩;obtain ⟨⟨hbE,hbR⟩,hbw⟩:=HKE.out _ hb4;have hbE2:=zIn hbE ⟨t.toArray⟩;have hbR2:mQ (w4.setCell (aa E 2) (tq ⟨t.toArray⟩)) R (0,⟨#[]⟩,⟨#[]⟩):=(Below.heap_setCell w4 _ _ _ hRE).trans hbR;obtain ⟨y0,y1,y2⟩:=hbE.cells;obtain ⟨z0,z1,z2⟩:=sW hbE;obtain ⟨x0,x1,x2⟩:=hbE2.cells;obtain ⟨k0,k1,k2⟩:=hbR2.cells;obtain ⟨f0,f1,f2⟩:=sW hbR2;simp only at k0 k1 k2 y0 y1 y2 x0 x1 x2;have HXR:=hid hbR2;have HBR:Hid (Below R w (w4.setCell (aa E 2) (tq ⟨t.toArray⟩))):=hbw.setCell (p:=(aa E 2)) (by show R<=E;omega) _;clear hb4 hbE hbE2 hbR hbR2 hbw;obtain ⟨W5,hW5⟩:∃W5,w4.setCell (aa E 2) (tq ⟨t.toArray⟩)=W5:=⟨_,rfl⟩;rw [hW5] at HXR HBR k0 k1 k2 f0 f1 f2 x0 x1 x2;go_wp2_with fail;obtain ⟨j0,j1,j2⟩:=(mU HXR.out (o,s.extract 0 i,⟨t.toArray⟩)).cells;simp only at j0 j1 j2;exact bodyPost_ret (v:=.tuple #[.agg #[ii o,tq (s.extract 0 i),tq ⟨t.toArray⟩],ii 0]) (by simp [results,Tryz.results118,go_sem,j0,j1,j2]) rfl ⟨by rw [HO.out],jJ HBR.out (Nat.le_refl _) (o,s.extract 0 i,⟨t.toArray⟩)⟩
theorem zIm (s:ByteArray) (w:World) (hp:zY w) (hs:s.size<=4294967000) :
  Calls Tryz.prog 118 #[.string s] w fun e w'=>e=.returned (zK4 (vK s.data.toList))/\Below w.heap.size w w':=by
 rcases pE s.L with ⟨_,h⟩|⟨i,_,hi,h1,h2⟩
 ·have:=zJu s w hs h;rw [zLH h];exact this
 ·exact zJn s w hp hs i hi h1 h2
end
section
open Go.RowKit
theorem zJF (c:Int) (w:World):Calls Tryz.prog 124 #[.int .u8 c] w fun e w'=>e=.returned (.int .i64 (wS c))/\w=w':=by
 have S1:Hid (∀W,Calls Tryz.prog 96 #[ii 1] W fun e w'=>e=.returned (tq ⟨#[58,61]⟩)/\W=w'):=fun W=>(qA 1 W).mono fun e w' h=>⟨h.1,h.2.symm⟩
 have S2:Hid (∀W,Calls Tryz.prog 96 #[ii 2] W fun e w'=>e=.returned (tq ⟨#[43,61]⟩)/\W=w'):=fun W=>(qA 2 W).mono fun e w' h=>⟨h.1,h.2.symm⟩
 have S3:Hid (∀W,Calls Tryz.prog 96 #[ii 3] W fun e w'=>e=.returned (tq ⟨#[45,61]⟩)/\W=w'):=fun W=>(qA 3 W).mono fun e w' h=>⟨h.1,h.2.symm⟩
 have S4:Hid (∀W,Calls Tryz.prog 96 #[ii 4] W fun e w'=>e=.returned (tq ⟨#[126]⟩)/\W=w'):=fun W=>(qA 4 W).mono fun e w' h=>⟨h.1,h.2.symm⟩
 have S5:Hid (∀W,Calls Tryz.prog 96 #[ii 5] W fun e w'=>e=.returned (tq ⟨#[61,61]⟩)/\W=w'):=fun W=>(qA 5 W).mono fun e w' h=>⟨h.1,h.2.symm⟩
 obtain ⟨r,hr⟩:∃r,wS c=r:=⟨_,rfl⟩;rw [hr];have HR:=hid hr;clear hr;go_enter Tryz.func124,Tryz.ntmps124;go_wp2_with fail
 go_loopg [3] 6 (fun g vi wr=>∃i:Nat,vi=ii i/\1<=i/\i<=6/\6-i<=g/\w=wr/\Hid ((1<i->c≠58)/\(2<i->c≠43)/\(3<i->c≠45)/\(4<i->c≠126)/\(5<i->c≠61)))
 case atStart=>exact ⟨1,rfl,by omega,by omega,by omega,rfl,⟨fun h=>by omega,fun h=>by omega,fun h=>by omega,fun h=>by omega,fun h=>by omega⟩⟩
 case round =>
 obtain ⟨i,rfl,hi1,hi6,hgk,rfl,HN⟩:=hrel;have hcs:i=1∨i=2∨i=3∨i=4∨i=5∨i=6:=by omega
 rcases hcs with rfl|rfl|rfl|rfl|rfl|rfl
 ·by_cases hc:c=58
  ·have hb:((((⟨#[58,61]⟩:ByteArray)[0]'(by decide)).toNat:Int)==c)=true:=by rw [hc];rfl
   have H0:Hid (r=1):=by show _=_;rw [<-HR.out,hc];rfl
   clear hc;go_wp2_with (first|(go_at_call 96;refine (S1.out _).mono ?_;rintro e w1 ⟨rfl,rfl⟩));go_ret;exact ⟨yY H0.out.symm,rfl⟩
  ·have hb:((((⟨#[58,61]⟩:ByteArray)[0]'(by decide)).toNat:Int)==c)=false:=beq_eq_false_iff_ne.2 fun e=>hc e.symm
   have HC:=hid hc;clear hc;go_wp2_with (first|(go_at_call 96;refine (S1.out _).mono ?_;rintro e w1 ⟨rfl,rfl⟩));go_roundg 4
   case measure=>omega
   case rel=>exact ⟨2,rfl,by omega,by omega,by omega,rfl,⟨fun _=>HC.out,fun h=>by omega,fun h=>by omega,fun h=>by omega,fun h=>by omega⟩⟩
 ·by_cases hc:c=43
  ·have hb:((((⟨#[43,61]⟩:ByteArray)[0]'(by decide)).toNat:Int)==c)=true:=by rw [hc];rfl
   have H0:Hid (r=2):=by show _=_;rw [<-HR.out,hc];rfl
   clear hc;go_wp2_with (first|(go_at_call 96;refine (S2.out _).mono ?_;rintro e w1 ⟨rfl,rfl⟩));go_ret;exact ⟨yY H0.out.symm,rfl⟩
  ·have hb:((((⟨#[43,61]⟩:ByteArray)[0]'(by decide)).toNat:Int)==c)=false:=beq_eq_false_iff_ne.2 fun e=>hc e.symm
   have HC:=hid hc;clear hc;go_wp2_with (first|(go_at_call 96;refine (S2.out _).mono ?_;rintro e w1 ⟨rfl,rfl⟩));go_roundg 3
   case measure=>omega
   case rel=>exact ⟨3,rfl,by omega,by omega,by omega,rfl,⟨fun _=>HN.out.1 (by omega),fun _=>HC.out,fun h=>by omega,fun h=>by omega,fun h=>by omega⟩⟩
 ·by_cases hc:c=45
  ·have hb:((((⟨#[45,61]⟩:ByteArray)[0]'(by decide)).toNat:Int)==c)=true:=by rw [hc];rfl
   have H0:Hid (r=3):=by show _=_;rw [<-HR.out,hc];rfl
   clear hc;go_wp2_with (first|(go_at_call 96;refine (S3.out _).mono ?_;rintro e w1 ⟨rfl,rfl⟩));go_ret;exact ⟨yY H0.out.symm,rfl⟩
  ·have hb:((((⟨#[45,61]⟩:ByteArray)[0]'(by decide)).toNat:Int)==c)=false:=beq_eq_false_iff_ne.2 fun e=>hc e.symm
   have HC:=hid hc;clear hc;go_wp2_with (first|(go_at_call 96;refine (S3.out _).mono ?_;rintro e w1 ⟨rfl,rfl⟩));go_roundg 2
   case measure=>omega
   case rel=>exact ⟨4,rfl,by omega,by omega,by omega,rfl,⟨fun _=>HN.out.1 (by omega),fun _=>HN.out.2.1 (by omega),fun _=>HC.out,fun h=>by omega,fun h=>by omega⟩⟩
 ·by_cases hc:c=126
  ·have hb:((((⟨#[126]⟩:ByteArray)[0]'(by decide)).toNat:Int)==c)=true:=by rw [hc];rfl
   have H0:Hid (r=4):=by show _=_;rw [<-HR.out,hc];rfl
   clear hc;go_wp2_with (first|(go_at_call 96;refine (S4.out _).mono ?_;rintro e w1 ⟨rfl,rfl⟩));go_ret;exact ⟨yY H0.out.symm,rfl⟩
  ·have hb:((((⟨#[126]⟩:ByteArray)[0]'(by decide)).toNat:Int)==c)=false:=beq_eq_false_iff_ne.2 fun e=>hc e.symm
   have HC:=hid hc;clear hc;go_wp2_with (first|(go_at_call 96;refine (S4.out _).mono ?_;rintro e w1 ⟨rfl,rfl⟩));go_roundg 1
   case measure=>omega
   case rel=>exact ⟨5,rfl,by omega,by omega,by omega,rfl,⟨fun _=>HN.out.1 (by omega),fun _=>HN.out.2.1 (by omega),fun _=>HN.out.2.2.1 (by omega),fun _=>HC.out,fun h=>by omega⟩⟩
 ·by_cases hc:c=61
  ·have hb:((((⟨#[61,61]⟩:ByteArray)[0]'(by decide)).toNat:Int)==c)=true:=by rw [hc];rfl
   have H0:Hid (r=5):=by show _=_;rw [<-HR.out,hc];rfl
   clear hc;go_wp2_with (first|(go_at_call 96;refine (S5.out _).mono ?_;rintro e w1 ⟨rfl,rfl⟩));go_ret;exact ⟨yY H0.out.symm,rfl⟩
  ·have hb:((((⟨#[61,61]⟩:ByteArray)[0]'(by decide)).toNat:Int)==c)=false:=beq_eq_false_iff_ne.2 fun e=>hc e.symm
   have HC:=hid hc;clear hc;go_wp2_with (first|(go_at_call 96;refine (S5.out _).mono ?_;rintro e w1 ⟨rfl,rfl⟩));go_roundg 0
   case measure=>omega
   case rel=>exact ⟨6,rfl,by omega,by omega,by omega,rfl,⟨fun _=>HN.out.1 (by omega),fun _=>HN.out.2.1 (by omega),fun _=>HN.out.2.2.1 (by omega),fun _=>HN.out.2.2.2.1 (by omega),fun _=>HC.out⟩⟩
 ·have H0:Hid (r=0):=by
   show _=_
   obtain ⟨n1,n2,n3,n4,n5⟩:=HN.out;rw [<-HR.out];unfold wS;rw [if_neg (n1 (by omega)),if_neg (n2 (by omega)),if_neg (n3 (by omega)),if_neg (n4 (by omega)),if_neg (n5 (by omega))]
  clear HN;go_wp2_with fail;go_ret;exact ⟨yY H0.out.symm,rfl⟩
end
section
open Go.RowKit Go.Lib
def zNQ (x:Ed):Prop:=x.2.1.size<=1000000000000/\x.2.2.size<=1000000000000/\0<=x.1/\x.1<=5
def gK (w:World) (o:Option (List Ed)) (e:Ending) (w':World):Prop :=
 (∃u,e=.returned (.tuple #[u,.int .i64 (zBh o)])/\KE.Own w.heap.size w' u (zDc o))/\Below w.heap.size w w'
def zOC (w:World) (ls:List (List UInt8)) (i:Nat) (v:Value) (wr:World):Prop :=
 ∃d,KE.Own w.heap.size wr v d/\yC (ls.take i)=some d/\d.length=i/\(∀x∈d,zNQ x)/\Below w.heap.size w wr
theorem zLE {w w':World} {o:Option (List Ed)} {e:Ending} (ho:o=none) (he:e=.returned (.tuple #[.slice none 0 0,.int .i64 4])) (hb:Below w.heap.size w w'):gK w o e w':=by
 subst ho;exact ⟨⟨_,he,KE.own_nil _ _⟩,hb⟩
theorem zNW {w w':World} {o:Option (List Ed)} {d:List Ed} {u:Value} {e:Ending} (ho:o=some d) (he:e=.returned (.tuple #[u,.int .i64 (wK d)])) (hw:KE.Own w.heap.size w' u (if wK d=0 then d else [])) (hb:Below w.heap.size w w'):gK w o e w':=by
 subst ho;exact ⟨⟨_,he,hw⟩,hb⟩
theorem zL1 (p:Option Addr) (cap:Nat) (ws:List ByteArray) (w:World) (ht:wJ w p ws) (hl:ws.length<=1000000000000) (hs:∀x∈ws,x.size<=1000000000000) :
  Calls Tryz.prog 81 #[.slice p ws.length cap] w fun e w'=>gK w (yC (ws.map (·.data.toList))) e w':=by
 obtain ⟨j0,hj0,hy0,hy1,hy2⟩:=info_parts Tryz.infoEd;have mixed:=Tryz.mixed;have HJ:=hid hj0;have HT:=hid ht;have HS:=hid hs;clear hj0 ht hs;have ST0:Hid (zOC w (ws.map (·.data.toList)) 0 (sc none 0 0) w):=⟨[],KE.own_nil _ _,by simp [yC],rfl,fun x hx=>by simp at hx,Below.refl _ _⟩;go_enter Tryz.func81,Tryz.ntmps81;go_wp2_with fail
 go_loopg [4,5] ws.length (fun g vv vi wr=>∃i:Nat,vi=ii i/\i<=ws.length/\ws.length-i<=g/\zOC w (ws.map (·.data.toList)) i vv wr)
 case atStart=>exact ⟨0,rfl,by omega,by omega,ST0.out⟩
 case round =>
 clear ST0;obtain ⟨i,rfl,hi,hgk,d,hox,hfw,hdl,hft,hb⟩:=hrel;have HOX:=hid hox;have HFW:=hid hfw;have HDL:=hid hdl;have HFT:=hid hft;have HB:=hid hb;have hsz:=hb.size;clear hox hfw hdl hft
 by_cases hlt:i<ws.length
 ·have hltz:(i:Int)<(ws.length:Int):=by omega
  have hiz:(0:Int)<=(i:Int):=by omega
  rcases HT.out with hn|⟨b,off,rfl,hc⟩
  ·rw [hn] at hlt;simp at hlt
  have c0:wr.cell? (aa b (off+i))=some (tq ws[i]):=(hb.cell (p:=(aa b (off+i))) (zJ (hc i hlt))).trans (hc i hlt);have hts:=HS.out _ (List.getElem_mem hlt)
  have hsplit:ws.map (·.data.toList)=(ws.map (·.data.toList)).take i++(ws[i]).data.toList::(ws.map (·.data.toList)).drop (i+1):=by
   have h1:i<(ws.map (·.data.toList)).length:=by simpa using hlt
   have h2:(ws.map (·.data.toList))[i]=(ws[i]).data.toList:=by simp
   rw [<-h2,<-List.drop_eq_getElem_cons h1,List.take_append_drop]
  have htk:(ws.map (·.data.toList)).take (i+1)=(ws.map (·.data.toList)).take i++[(ws[i]).data.toList]:=by
   rw [List.take_succ_eq_append_getElem (by simpa using hlt)];simp
  obtain ⟨x,hx⟩:∃x,ws[i]=x:=⟨_,rfl⟩;rw [hx] at c0 hts hsplit htk;have HSPL:=hid hsplit;have HTK:=hid htk;have hxl:x.data.toList.length=x.size:=by simp
  have HXL:=hid hxl;have HNO:Hid (vK x.data.toList=none->yC (ws.map (·.data.toList))=none):=fun h=>by rw [HSPL.out];exact zCz h
  clear hx hsplit htk hc hb hxl HSPL;go_wp2_with fail
  go_loopg [7] x.size (fun g vk ws=>∃k:Nat,vk=ii k/\k<=x.size/\x.size-k<=g/\wr=ws/\Hid (∀d∈x.data.toList.take k,isK d=false))
  case atStart=>exact ⟨0,rfl,by omega,by omega,rfl,(show Hid _ from by simp [Hid])⟩
  case round =>
  obtain ⟨A,rfl,hA,hgA,rfl,HNA⟩:=hrel
  by_cases hAl:A<x.size
  ·have hAz:(A:Int)<(x.size:Int):=by omega
   have hAd:decide ((A:Int)<(x.size:Int))=true:=decide_eq_true hAz;have hA0:(0:Int)<=(A:Int):=by omega
   have hAll:A<x.data.toList.length:=by rw [HXL.out];exact hAl
   have hby:x.data.toList[A]=x[A]:=rfl
   have HED:Hid (isK x[A]=true->vK x.data.toList=if okW x A (wS (x[A].toNat:Int)) then (match yJ (x.data.toList.drop (A+(xL (wS (x[A].toNat:Int))).size)) with
     | none=>none
     | some t=>some (wS (x[A].toNat:Int),⟨(x.data.toList.take A).toArray⟩,⟨t.toArray⟩)) else none):=fun h=>zM3 hAl HNA.out h
   obtain ⟨c,hc⟩:∃c,x[A]=c:=⟨_,rfl⟩;rw [hc] at hby HED;have HBY:=hid hby;clear hby;have hor:=zAR (c.toNat:Int);have HIS:Hid (isK c=(wS (c.toNat:Int) != 0)):=rfl;have HOC:Hid (∀W,Calls Tryz.prog 124 #[.int .u8 (c.toNat:Int)] W fun e w'=>e=.returned (ii (wS (c.toNat:Int)))/\W=w'):=fun W=>zJF (c.toNat:Int) W
   obtain ⟨o,ho⟩:∃o,wS (c.toNat:Int)=o:=⟨_,rfl⟩;rw [ho] at HIS HOC hor HED;clear ho;obtain ⟨ho0,ho5⟩:=hor
   by_cases hz:o=0
   ·have HN2:Hid (∀d∈x.data.toList.take (A+1),isK d=false):=by
     intro d hd;rw [List.take_succ_eq_append_getElem hAll,List.mem_append,List.mem_singleton,HBY.out] at hd
     rcases hd with h|h
     ·exact HNA.out d h
     ·rw [h,HIS.out,hz];rfl
    clear HED HIS;subst hz;go_wp2_with (first|(go_at_call 124;refine (HOC.out _).mono ?_;rintro e w2 ⟨rfl,rfl⟩));go_roundg (x.size-(A+1))
    case measure=>omega
    case rel=>exact ⟨A+1,by go_num,by omega,by omega,rfl,HN2⟩
   ·have HE2:=hid (HED.out (by rw [HIS.out,bne_iff_ne];exact hz));have hzb:(o==0)=false:=beq_eq_false_iff_ne.2 hz;have hne:((A:Int)==(x.size:Int))=false:=beq_eq_false_iff_ne.2 (by omega);have HG:Hid (∀W,Calls Tryz.prog 96 #[ii o] W fun e w'=>e=.returned (tq (xL o))/\W=w'):=fun W=>(qA o W).mono fun e w' h=>⟨h.1,h.2.symm⟩
    have hsg:=gU o;have HKW:Hid (okW x A o=(decide ((xL o).size<=x.size-A)&&decide (x.extract A (A+(xL o).size)=xL o)&&(decide (o≠4)||decide (x.size-A<=1)))):=rfl;obtain ⟨sg,hsg2⟩:∃sg,xL o=sg:=⟨_,rfl⟩;rw [hsg2] at hsg HG HE2 HKW;obtain ⟨hsg1,hsg0⟩:=hsg;obtain ⟨OK,hOK⟩:∃OK,okW x A o=OK:=⟨_,rfl⟩;rw [hOK] at HE2 HKW;obtain ⟨en,hen⟩:∃en,A+sg.size=en:=⟨_,rfl⟩;rw [hen] at HE2 HKW;obtain ⟨m,hm⟩:∃m,x.size-A=m:=⟨_,rfl⟩;rw [hm] at HKW;have HEN:=hid hen;have HM:=hid hm;have HW1:Hid (IntKind.i64.wrap ((x.size:Int)-(A:Int))=(m:Int)):=by show _=_;rw [show (x.size:Int)-(A:Int)=(m:Int) by omega];exact mR _ (by omega) (by omega)
    have HW2:Hid (IntKind.i64.wrap ((A:Int)+(sg.size:Int))=(en:Int)):=by show _=_;rw [show (A:Int)+(sg.size:Int)=(en:Int) by omega];exact mR _ (by omega) (by omega)
    have HW3:Hid ((A:Int)+(sg.size:Int)=(en:Int)):=by show _=_;omega
    have hen0:(0:Int)<=(en:Int):=by omega
    have hAen:(A:Int)<=(en:Int):=by omega
    clear HED HIS hz hOK hsg2 hen hm;go_upto_region 13 with (first|(go_at_call 124;refine (HOC.out _).mono ?_;rintro e w2 ⟨rfl,rfl⟩)|(go_at_call 96;refine (HG.out _).mono ?_;rintro e w2 ⟨rfl,rfl⟩))
    go_cut [74] from 13 to 94 (fun v wx=>v=.bool (!OK)/\∃n,wx=wr.drewN n)
    case first =>
     by_cases g1:sg.size<=m
     ·have dm:decide ((m:Int)<(sg.size:Int))=false:=decide_eq_false (by omega);have gn:¬ m<sg.size:=by omega
      have henx:(en:Int)<=(x.size:Int):=by have:=HEN.out;have:=HM.out;omega
      rw [decide_eq_true g1,Bool.true_and] at HKW
      by_cases g2:x.extract A en=sg
      ·have hse:=kT g2;rw [decide_eq_true g2,Bool.true_and] at HKW
       by_cases g3:o=4
       ·have hk4:(o==4)=true:=beq_iff_eq.2 g3
        by_cases g4:m<=1
        ·have dm1:decide ((1:Int)<(m:Int))=false:=decide_eq_false (by omega);have gm:¬ 1<m:=by omega
         have hOK:OK=true:=by rw [HKW.out,decide_eq_true g4,Bool.or_true]
         subst hOK;clear g1 g2 g3 g4 HKW;have hw1:=HW1.out;have hw2:=HW2.out;go_wp2_with fail;refine wp_region_held_drew (S:=fun _=>True) (by kernel_rfl) trivial (fun hHeld=>?_);refine tkv 0 (tq x) hHeld ?_;simp only [Act.put,sz];refine tkv 1 (ii x.size) hHeld ?_;simp only [Act.put,sz];refine tkv 2 (ii A) hHeld ?_;simp only [Act.put,sz];refine tkv 3 (ii m) hHeld ?_;simp only [Act.put,sz];refine tkv 4 (ii sg.size) hHeld ?_;simp only [Act.put,sz];refine tkv 5 (.bool false) hHeld ?_;simp only [Act.put,sz];refine tkv 6 (.bool false) hHeld ?_;simp only [Act.put,sz];refine tkv 7 (tq x) hHeld ?_;simp only [Act.put,sz];refine tkv 8 (ii A) hHeld ?_;simp only [Act.put,sz];refine tkv 9 (ii A) hHeld ?_;simp only [Act.put,sz];refine tkv 10 (ii sg.size) hHeld ?_;simp only [Act.put,sz];refine tkv 11 (ii en) hHeld ?_;simp only [Act.put,sz];refine tkv 12 (tq (x.extract A en)) hHeld ?_;simp only [Act.put,sz];refine tkv 13 (ii o) hHeld ?_;simp only [Act.put,sz];refine wpAnyH_ready (rs:=[14]) (by kernel_rfl) (by simp) ?_;refine AllReadyH.cons (yT rfl) (fun K hK=>?_) AllReadyH.nil;rw [if_pos (by rfl)]
         go_simp
         refine (HG.out _).mono ?_;rintro e w2 ⟨rfl,rfl⟩;go_wp2_with fail;refine hK.out _ _ trivial (fun hHeld=>?_);clear hK K
         try simp only [Act.put,sz]
         refine tkv 15 (.bool false) hHeld ?_;simp only [Act.put,sz];refine tkv 16 (.bool false) hHeld ?_;simp only [Act.put,sz];refine tkv 17 (.bool false) hHeld ?_;simp only [Act.put,sz];refine tkv 18 (ii o) hHeld ?_;simp only [Act.put,sz];refine tkv 19 (.bool true) hHeld ?_;simp only [Act.put,sz];refine tkv 20 (.bool true) hHeld ?_;simp only [Act.put,sz];refine tkv 21 (tq x) hHeld ?_;simp only [Act.put,sz];refine tkv 22 (ii x.size) hHeld ?_;simp only [Act.put,sz];refine tkv 23 (ii A) hHeld ?_;simp only [Act.put,sz];refine tkv 24 (ii m) hHeld ?_;simp only [Act.put,sz];refine tkv 25 (.bool false) hHeld ?_;simp only [Act.put,sz];refine tkv 26 (.bool false) hHeld ?_;simp only [Act.put,sz];refine tkv 27 (.bool false) hHeld ?_;simp only [Act.put,sz];refine wpAnyH_done (by kernel_rfl) ?_ _;go_wp2_with fail;go_meet
         case rel=>exact ⟨rfl,1,rfl⟩
        ·have dm1:decide ((1:Int)<(m:Int))=true:=decide_eq_true (by omega);have gm:1<m:=by omega
         have hOK:OK=false:=by rw [HKW.out,decide_eq_false g4,decide_eq_false (by simp [g3])];rfl
         subst hOK;clear g1 g2 g3 g4 HKW;have hw1:=HW1.out;have hw2:=HW2.out;go_wp2_with fail;refine wp_region_held_drew (S:=fun _=>True) (by kernel_rfl) trivial (fun hHeld=>?_);refine tkv 0 (tq x) hHeld ?_;simp only [Act.put,sz];refine tkv 1 (ii x.size) hHeld ?_;simp only [Act.put,sz];refine tkv 2 (ii A) hHeld ?_;simp only [Act.put,sz];refine tkv 3 (ii m) hHeld ?_;simp only [Act.put,sz];refine tkv 4 (ii sg.size) hHeld ?_;simp only [Act.put,sz];refine tkv 5 (.bool false) hHeld ?_;simp only [Act.put,sz];refine tkv 6 (.bool false) hHeld ?_;simp only [Act.put,sz];refine tkv 7 (tq x) hHeld ?_;simp only [Act.put,sz];refine tkv 8 (ii A) hHeld ?_;simp only [Act.put,sz];refine tkv 9 (ii A) hHeld ?_;simp only [Act.put,sz];refine tkv 10 (ii sg.size) hHeld ?_;simp only [Act.put,sz];refine tkv 11 (ii en) hHeld ?_;simp only [Act.put,sz];refine tkv 12 (tq (x.extract A en)) hHeld ?_;simp only [Act.put,sz];refine tkv 13 (ii o) hHeld ?_;simp only [Act.put,sz];refine wpAnyH_ready (rs:=[14]) (by kernel_rfl) (by simp) ?_;refine AllReadyH.cons (yT rfl) (fun K hK=>?_) AllReadyH.nil;rw [if_pos (by rfl)]
         go_simp
         refine (HG.out _).mono ?_;rintro e w2 ⟨rfl,rfl⟩;go_wp2_with fail;refine hK.out _ _ trivial (fun hHeld=>?_);clear hK K
         try simp only [Act.put,sz]
         refine tkv 15 (.bool false) hHeld ?_;simp only [Act.put,sz];refine tkv 16 (.bool false) hHeld ?_;simp only [Act.put,sz];refine tkv 17 (.bool false) hHeld ?_;simp only [Act.put,sz];refine tkv 18 (ii o) hHeld ?_;simp only [Act.put,sz];refine tkv 19 (.bool true) hHeld ?_;simp only [Act.put,sz];refine tkv 20 (.bool true) hHeld ?_;simp only [Act.put,sz];refine tkv 21 (tq x) hHeld ?_;simp only [Act.put,sz];refine tkv 22 (ii x.size) hHeld ?_;simp only [Act.put,sz];refine tkv 23 (ii A) hHeld ?_;simp only [Act.put,sz];refine tkv 24 (ii m) hHeld ?_;simp only [Act.put,sz];refine tkv 25 (.bool true) hHeld ?_;simp only [Act.put,sz];refine tkv 26 (.bool true) hHeld ?_;simp only [Act.put,sz];refine tkv 27 (.bool true) hHeld ?_;simp only [Act.put,sz];refine wpAnyH_done (by kernel_rfl) ?_ _;go_wp2_with fail;go_meet
         case rel=>exact ⟨rfl,1,rfl⟩
       ·have hk4:(o==4)=false:=beq_eq_false_iff_ne.2 g3;have hOK:OK=true:=by rw [HKW.out,decide_eq_true g3,Bool.true_or]
        subst hOK;clear g1 g2 g3 HKW;have hw1:=HW1.out;have hw2:=HW2.out;go_wp2_with fail;refine wp_region_held_drew (S:=fun _=>True) (by kernel_rfl) trivial (fun hHeld=>?_);refine tkv 0 (tq x) hHeld ?_;simp only [Act.put,sz];refine tkv 1 (ii x.size) hHeld ?_;simp only [Act.put,sz];refine tkv 2 (ii A) hHeld ?_;simp only [Act.put,sz];refine tkv 3 (ii m) hHeld ?_;simp only [Act.put,sz];refine tkv 4 (ii sg.size) hHeld ?_;simp only [Act.put,sz];refine tkv 5 (.bool false) hHeld ?_;simp only [Act.put,sz];refine tkv 6 (.bool false) hHeld ?_;simp only [Act.put,sz];refine tkv 7 (tq x) hHeld ?_;simp only [Act.put,sz];refine tkv 8 (ii A) hHeld ?_;simp only [Act.put,sz];refine tkv 9 (ii A) hHeld ?_;simp only [Act.put,sz];refine tkv 10 (ii sg.size) hHeld ?_;simp only [Act.put,sz];refine tkv 11 (ii en) hHeld ?_;simp only [Act.put,sz];refine tkv 12 (tq (x.extract A en)) hHeld ?_;simp only [Act.put,sz];refine tkv 13 (ii o) hHeld ?_;simp only [Act.put,sz];refine wpAnyH_ready (rs:=[14]) (by kernel_rfl) (by simp) ?_;refine AllReadyH.cons (yT rfl) (fun K hK=>?_) AllReadyH.nil;rw [if_pos (by rfl)]
        go_simp
        refine (HG.out _).mono ?_;rintro e w2 ⟨rfl,rfl⟩;go_wp2_with fail;refine hK.out _ _ trivial (fun hHeld=>?_);clear hK K
        try simp only [Act.put,sz]
        refine tkv 15 (.bool false) hHeld ?_;simp only [Act.put,sz];refine tkv 16 (.bool false) hHeld ?_;simp only [Act.put,sz];refine tkv 17 (.bool false) hHeld ?_;simp only [Act.put,sz];refine tkv 18 (ii o) hHeld ?_;simp only [Act.put,sz];refine tkv 19 (.bool false) hHeld ?_;simp only [Act.put,sz];refine tkv 20 (.bool false) hHeld ?_;simp only [Act.put,sz];refine yG (i:=21) rfl (by kernel_rfl) (by kernel_rfl) (by kernel_rfl) (fun _ _ _ h=>h) (by rfl) hHeld ?_;simp only [Act.put,sz];refine yG (i:=22) rfl (by kernel_rfl) (by kernel_rfl) (by kernel_rfl) (fun _ _ _ h=>h) (by rfl) hHeld ?_;simp only [Act.put,sz];refine yG (i:=23) rfl (by kernel_rfl) (by kernel_rfl) (by kernel_rfl) (fun _ _ _ h=>h) (by rfl) hHeld ?_;simp only [Act.put,sz];refine yG (i:=24) rfl (by kernel_rfl) (by kernel_rfl) (by kernel_rfl) (fun _ _ _ h=>h) (by rfl) hHeld ?_;simp only [Act.put,sz];refine yG (i:=25) rfl (by kernel_rfl) (by kernel_rfl) (by kernel_rfl) (fun _ _ _ h=>h) (by rfl) hHeld ?_;simp only [Act.put,sz];refine tkv 26 (.bool false) hHeld ?_;simp only [Act.put,sz];refine tkv 27 (.bool false) hHeld ?_;simp only [Act.put,sz];refine wpAnyH_done (by kernel_rfl) ?_ _;go_wp2_with fail;go_meet
        case rel=>exact ⟨rfl,1,rfl⟩
      ·have hse:=wI g2;have hOK:OK=false:=by rw [HKW.out,decide_eq_false g2,Bool.false_and]
       subst hOK;clear g1 g2 HKW;have hw1:=HW1.out;have hw2:=HW2.out;go_wp2_with fail;refine wp_region_held_drew (S:=fun _=>True) (by kernel_rfl) trivial (fun hHeld=>?_);refine tkv 0 (tq x) hHeld ?_;simp only [Act.put,sz];refine tkv 1 (ii x.size) hHeld ?_;simp only [Act.put,sz];refine tkv 2 (ii A) hHeld ?_;simp only [Act.put,sz];refine tkv 3 (ii m) hHeld ?_;simp only [Act.put,sz];refine tkv 4 (ii sg.size) hHeld ?_;simp only [Act.put,sz];refine tkv 5 (.bool false) hHeld ?_;simp only [Act.put,sz];refine tkv 6 (.bool false) hHeld ?_;simp only [Act.put,sz];refine tkv 7 (tq x) hHeld ?_;simp only [Act.put,sz];refine tkv 8 (ii A) hHeld ?_;simp only [Act.put,sz];refine tkv 9 (ii A) hHeld ?_;simp only [Act.put,sz];refine tkv 10 (ii sg.size) hHeld ?_;simp only [Act.put,sz];refine tkv 11 (ii en) hHeld ?_;simp only [Act.put,sz];refine tkv 12 (tq (x.extract A en)) hHeld ?_;simp only [Act.put,sz];refine tkv 13 (ii o) hHeld ?_;simp only [Act.put,sz];refine wpAnyH_ready (rs:=[14]) (by kernel_rfl) (by simp) ?_;refine AllReadyH.cons (yT rfl) (fun K hK=>?_) AllReadyH.nil;rw [if_pos (by rfl)]
       go_simp
       refine (HG.out _).mono ?_;rintro e w2 ⟨rfl,rfl⟩;go_wp2_with fail;refine hK.out _ _ trivial (fun hHeld=>?_);clear hK K
       try simp only [Act.put,sz]
       refine tkv 15 (.bool true) hHeld ?_;simp only [Act.put,sz];refine tkv 16 (.bool true) hHeld ?_;simp only [Act.put,sz];refine tkv 17 (.bool true) hHeld ?_;simp only [Act.put,sz];refine yG (i:=18) rfl (by kernel_rfl) (by kernel_rfl) (by kernel_rfl) (fun _ _ _ h=>h) (by rfl) hHeld ?_;simp only [Act.put,sz];refine yG (i:=19) rfl (by kernel_rfl) (by kernel_rfl) (by kernel_rfl) (fun _ _ _ h=>h) (by rfl) hHeld ?_;simp only [Act.put,sz];refine yG (i:=20) rfl (by kernel_rfl) (by kernel_rfl) (by kernel_rfl) (fun _ _ _ h=>h) (by rfl) hHeld ?_;simp only [Act.put,sz];refine yG (i:=21) rfl (by kernel_rfl) (by kernel_rfl) (by kernel_rfl) (fun _ _ _ h=>h) (by rfl) hHeld ?_;simp only [Act.put,sz];refine yG (i:=22) rfl (by kernel_rfl) (by kernel_rfl) (by kernel_rfl) (fun _ _ _ h=>h) (by rfl) hHeld ?_;simp only [Act.put,sz];refine yG (i:=23) rfl (by kernel_rfl) (by kernel_rfl) (by kernel_rfl) (fun _ _ _ h=>h) (by rfl) hHeld ?_;simp only [Act.put,sz];refine yG (i:=24) rfl (by kernel_rfl) (by kernel_rfl) (by kernel_rfl) (fun _ _ _ h=>h) (by rfl) hHeld ?_;simp only [Act.put,sz];refine yG (i:=25) rfl (by kernel_rfl) (by kernel_rfl) (by kernel_rfl) (fun _ _ _ h=>h) (by rfl) hHeld ?_;simp only [Act.put,sz];refine yG (i:=26) rfl (by kernel_rfl) (by kernel_rfl) (by kernel_rfl) (fun _ _ _ h=>h) (by rfl) hHeld ?_;simp only [Act.put,sz];refine tkv 27 (.bool true) hHeld ?_;simp only [Act.put,sz];refine wpAnyH_done (by kernel_rfl) ?_ _;go_wp2_with fail;go_meet
       case rel=>exact ⟨rfl,1,rfl⟩
     ·have dm:decide ((m:Int)<(sg.size:Int))=true:=decide_eq_true (by omega);have gn:m<sg.size:=by omega
      have hOK:OK=false:=by rw [HKW.out,decide_eq_false g1,Bool.false_and,Bool.false_and]
      subst hOK;clear g1 HKW;have hw1:=HW1.out;have hw2:=HW2.out;go_wp2_with fail;refine wp_region_held_drew (S:=fun _=>True) (by kernel_rfl) trivial (fun hHeld=>?_);refine tkv 0 (tq x) hHeld ?_;simp only [Act.put,sz];refine tkv 1 (ii x.size) hHeld ?_;simp only [Act.put,sz];refine tkv 2 (ii A) hHeld ?_;simp only [Act.put,sz];refine tkv 3 (ii m) hHeld ?_;simp only [Act.put,sz];refine tkv 4 (ii sg.size) hHeld ?_;simp only [Act.put,sz];refine tkv 5 (.bool true) hHeld ?_;simp only [Act.put,sz];refine tkv 6 (.bool true) hHeld ?_;simp only [Act.put,sz];refine yG (i:=7) rfl (by kernel_rfl) (by kernel_rfl) (by kernel_rfl) (fun _ _ _ h=>h) (by rfl) hHeld ?_;simp only [Act.put,sz];refine yG (i:=8) rfl (by kernel_rfl) (by kernel_rfl) (by kernel_rfl) (fun _ _ _ h=>h) (by rfl) hHeld ?_;simp only [Act.put,sz];refine yG (i:=9) rfl (by kernel_rfl) (by kernel_rfl) (by kernel_rfl) (fun _ _ _ h=>h) (by rfl) hHeld ?_;simp only [Act.put,sz];refine yG (i:=10) rfl (by kernel_rfl) (by kernel_rfl) (by kernel_rfl) (fun _ _ _ h=>h) (by rfl) hHeld ?_;simp only [Act.put,sz];refine yG (i:=11) rfl (by kernel_rfl) (by kernel_rfl) (by kernel_rfl) (fun _ _ _ h=>h) (by rfl) hHeld ?_;simp only [Act.put,sz];refine yG (i:=12) rfl (by kernel_rfl) (by kernel_rfl) (by kernel_rfl) (fun _ _ _ h=>h) (by rfl) hHeld ?_;simp only [Act.put,sz];refine yG (i:=13) rfl (by kernel_rfl) (by kernel_rfl) (by kernel_rfl) (fun _ _ _ h=>h) (by rfl) hHeld ?_;simp only [Act.put,sz];refine yG (i:=14) rfl (by kernel_rfl) (by kernel_rfl) (by kernel_rfl) (fun _ _ _ h=>h) (by rfl) hHeld ?_;simp only [Act.put,sz];refine yG (i:=15) rfl (by kernel_rfl) (by kernel_rfl) (by kernel_rfl) (fun _ _ _ h=>h) (by rfl) hHeld ?_;simp only [Act.put,sz];refine tkv 16 (.bool true) hHeld ?_;simp only [Act.put,sz];refine tkv 17 (.bool true) hHeld ?_;simp only [Act.put,sz];refine yG (i:=18) rfl (by kernel_rfl) (by kernel_rfl) (by kernel_rfl) (fun _ _ _ h=>h) (by rfl) hHeld ?_;simp only [Act.put,sz];refine yG (i:=19) rfl (by kernel_rfl) (by kernel_rfl) (by kernel_rfl) (fun _ _ _ h=>h) (by rfl) hHeld ?_;simp only [Act.put,sz];refine yG (i:=20) rfl (by kernel_rfl) (by kernel_rfl) (by kernel_rfl) (fun _ _ _ h=>h) (by rfl) hHeld ?_;simp only [Act.put,sz];refine yG (i:=21) rfl (by kernel_rfl) (by kernel_rfl) (by kernel_rfl) (fun _ _ _ h=>h) (by rfl) hHeld ?_;simp only [Act.put,sz];refine yG (i:=22) rfl (by kernel_rfl) (by kernel_rfl) (by kernel_rfl) (fun _ _ _ h=>h) (by rfl) hHeld ?_;simp only [Act.put,sz];refine yG (i:=23) rfl (by kernel_rfl) (by kernel_rfl) (by kernel_rfl) (fun _ _ _ h=>h) (by rfl) hHeld ?_;simp only [Act.put,sz];refine yG (i:=24) rfl (by kernel_rfl) (by kernel_rfl) (by kernel_rfl) (fun _ _ _ h=>h) (by rfl) hHeld ?_;simp only [Act.put,sz];refine yG (i:=25) rfl (by kernel_rfl) (by kernel_rfl) (by kernel_rfl) (fun _ _ _ h=>h) (by rfl) hHeld ?_;simp only [Act.put,sz];refine yG (i:=26) rfl (by kernel_rfl) (by kernel_rfl) (by kernel_rfl) (fun _ _ _ h=>h) (by rfl) hHeld ?_;simp only [Act.put,sz];refine tkv 27 (.bool true) hHeld ?_;simp only [Act.put,sz];refine wpAnyH_done (by kernel_rfl) ?_ _;go_wp2_with fail;go_meet
      case rel=>exact ⟨rfl,1,rfl⟩
    case rest =>
    obtain ⟨rfl,n1,rfl⟩:=hcut;have HOX1:Hid (KE.Own w.heap.size (wr.drewN n1) u4 d):=HOX.out;have HB1:=hid (zP HB.out n1);have hsz1:w.heap.size<=(wr.drewN n1).heap.size:=hsz;obtain ⟨W1,hW1⟩:∃W1,wr.drewN n1=W1:=⟨_,rfl⟩;rw [hW1] at HOX1 HB1 hsz1 ⊢;clear hW1
    cases OK with
    | false =>
     have HO:Hid (yC (ws.map (·.data.toList))=none):=HNO.out (by rw [HE2.out];rfl);go_wp2_with fail
     go_ret2
     exact zLE HO.out rfl HB1.out
    | true =>
    have henx:(en:Int)<=(x.size:Int):=by
     have h1:=HKW.out.symm;rw [Bool.and_eq_true,Bool.and_eq_true] at h1;have h2:=of_decide_eq_true h1.1.1;have:=HEN.out;have:=HM.out;omega
    have hrs:(x.extract en x.size).size<=140737488355327:=by simp;omega
    have HRR:=hid (fun W=>bV (x.extract en x.size) W hrs);rw [jH] at HRR;clear hrs HKW
    cases hrd:yJ (x.data.toList.drop en) with
    | none =>
     have HO:Hid (yC (ws.map (·.data.toList))=none):=HNO.out (by rw [HE2.out,hrd];rfl);simp only [hrd,nX] at HRR;clear hrd HE2;have hw3:=HW3.out;go_wp2_with fail;refine (HRR.out _).mono ?_;rintro e w2 ⟨rfl,hb2⟩;clear hw3;go_wp2_with fail
     go_ret2
     exact zLE HO.out rfl (zQ HB1.out HB1.out.size hb2)
    | some t =>
     have htl:t.length<=x.size:=by
      have h1:=pQ _ _ _ (Nat.le_refl _) hrd;rw [List.length_drop,HXL.out] at h1;omega
     simp only [hrd,nX] at HRR
     have HO:Hid (vK x.data.toList=some (o,x.extract 0 A,⟨t.toArray⟩)):=by
      show _=_
      rw [HE2.out,hrd,if_pos rfl,jC]
     have HF1:Hid (zNQ (o,x.extract 0 A,⟨t.toArray⟩)):=by
      refine ⟨?_,?_,ho0,ho5⟩
      ·simp;omega
      ·show t.toArray.size<=_
       rw [List.size_toArray];omega
     clear hrd HE2;obtain ⟨nm,hnm⟩:∃nm,x.extract 0 A=nm:=⟨_,rfl⟩;have HNM:=hid hnm;rw [hnm] at HO HF1;obtain ⟨tt,htt⟩:∃tt:ByteArray,⟨t.toArray⟩=tt:=⟨_,rfl⟩;rw [htt] at HO HF1 HRR;clear htt htl;have hdl2:d.length<=1000000000000:=by rw [HDL.out];omega
     have hw3:=HW3.out;go_wp2_with fail;refine (HRR.out _).mono ?_;rintro e w2 ⟨rfl,hb2⟩;clear hw3;have HO2:=hid (zE.own_on HOX1.out hb2);have hB2:=zQ HB1.out HB1.out.size hb2;have HB2:=hid hB2;have hszW:=hB2.size;clear hb2 hB2
     go_wp2_with (first
      | (at_builtin;refine wpList_append_own _ rfl _ _ 38 rfl w.heap.size 47 j0 (.agg #[ii 0,tq ⟨#[]⟩,tq ⟨#[]⟩]) 3 40 Tryz.underlying38 HJ.out hy0 hy1 hy2 rfl (by decide) _ _ _ rfl (World.ownsRow.alloc HO2.out _) (aa w2.heap.size 0) 1 1 (KE.cells [(o,nm,tt)]) rfl rfl (KE.news w2 (o,nm,tt)) (KE.cells_ones _) (by unfold maxLen;omega) (by omega) (by simp;omega) ?_;intro v4 w4 hown4 hg4 hnil4;have HO4:Hid (KE.Own w.heap.size w4 v4 (d++[(o,nm,tt)])):=zE.own_snoc hown4 rfl rfl;have HB4:Hid (Below w.heap.size w w4):=(HB2.out.alloc hszW _).grown hg4 (by simp;omega) (fun k hk=>(World.ownsRow.lt HO2.out k hk).1);clear hown4 hg4 hnil4))
     go_roundg (ws.length-(i+1))
     case measure=>omega
     case rel =>
      refine ⟨i+1,by go_num,by omega,by omega,_,HO4.out,by rw [HTK.out];exact zAP HFW.out HO.out,by rw [List.length_append,HDL.out];rfl,fun y hy=>?_,HB4.out⟩
      rcases List.mem_append.1 hy with h|h
      ·exact HFT.out y h
      ·rw [List.mem_singleton.1 h];exact HF1.out
  ·have hAz:¬ (A:Int)<(x.size:Int):=by omega
   have hAd:decide ((A:Int)<(x.size:Int))=false:=decide_eq_false hAz;have hAe:((A:Int)==(x.size:Int))=true:=beq_iff_eq.2 (by omega)
   have HO:Hid (yC (ws.map (·.data.toList))=none):=by
    refine HNO.out ?_;have h1:=HNA.out;rw [List.take_of_length_le (by rw [HXL.out];omega)] at h1;exact zLH h1
   go_wp2_with fail
   go_ret2
   exact zLE HO.out rfl HB.out
 have hltz:¬ (i:Int)<(ws.length:Int):=by omega
 have hfw2:yC (ws.map (·.data.toList))=some d:=by
  have h1:=HFW.out;rw [List.take_of_length_le (by rw [List.length_map];omega)] at h1;exact h1
 have hfit:jF d:=⟨by rw [HDL.out];unfold maxLen;omega,fun x hx=>by
  obtain ⟨a,b,c,d⟩:=HFT.out x hx;unfold maxLen;exact ⟨by omega,by omega,by omega,by omega⟩⟩
 have HMM:Hid (Calls Tryz.prog 85 #[u4] wr fun e w'=>e=.returned (ii (wK d))/\wr=w'):=(zAE u4 d wr (zE.own_is HOX.out) hfit).mono fun e w' h=>⟨h.1,h.2.symm⟩
 have HF2:=hid hfw2;clear hfit hfw2
 by_cases hme:wK d=0
 ·rw [hme] at HMM;have HME:=hid hme;clear hme;go_wp2_with (first|(go_at_call 85;refine HMM.out.mono ?_;rintro e w2 ⟨rfl,rfl⟩))
  go_ret2
  exact zNW HF2.out (by rw [HME.out];rfl) (by rw [if_pos HME.out];exact HOX.out) HB.out
 ·have hne:(wK d != 0)=true:=by rw [bne_iff_ne];exact hme
  obtain ⟨r,hr⟩:∃r,wK d=r:=⟨_,rfl⟩;rw [hr] at hne HMM;have HR:=hid hr;have HME:=hid hme;clear hme hr;go_wp2_with (first|(go_at_call 85;refine HMM.out.mono ?_;rintro e w2 ⟨rfl,rfl⟩))
  go_ret2
  exact zNW HF2.out (by rw [HR.out];rfl) (by rw [if_neg HME.out];exact KE.own_nil _ _) HB.out
end
section
open Go.RowKit
attribute [local go_sem] Oper.semAt_some
theorem zJE {l:List UInt8} {x:Ed} (h:vK l=some x):x.2.1.size<=l.length/\x.2.2.size<=l.length/\0<=x.1/\x.1<=5:=by
 unfold vK at h;have ht:(l.takeWhile (fun c=>!isK c)).length<=l.length:=(List.takeWhile_sublist _).length_le
 cases hd:l.dropWhile (fun c=>!isK c) with
 | nil=>rw [hd] at h;cases h
 | cons c r =>
  rw [hd] at h;simp only at h;have hl:(l.dropWhile (fun c=>!isK c)).length<=l.length:=(List.dropWhile_sublist _).length_le;rw [hd,List.length_cons] at hl;have hk:=zAR (c.toNat:Int)
  by_cases h4:wS (c.toNat:Int)=4
  ·rw [if_pos h4] at h
   split at h
   ·cases h;refine ⟨?_,Nat.zero_le _,(show (0:Int)<=4 by decide),(show (4:Int)<=5 by decide)⟩;show (l.takeWhile _).toArray.size<=_;rw [List.size_toArray];exact ht
   ·cases h
  ·rw [if_neg h4] at h
   cases r with
   | nil=>cases h
   | cons d r2 =>
    simp only at h
    split at h
    ·cases hr:yJ r2 with
     | none=>rw [hr] at h;cases h
     | some t =>
      rw [hr] at h
      cases h;have h1:=pQ _ _ _ (Nat.le_refl _) hr;rw [List.length_cons] at hl;refine ⟨?_,?_,hk.1,hk.2⟩
      ·show (l.takeWhile _).toArray.size<=_
       rw [List.size_toArray];exact ht
      ·show t.toArray.size<=_
       rw [List.size_toArray];omega
    ·cases h
theorem zGS {B:Nat} (ls:List (List UInt8)) (hB:∀l∈ls,l.length<=B):∀d,yC ls=some d->d.length=ls.length/\∀x∈d,x.2.1.size<=B/\x.2.2.size<=B/\0<=x.1/\x.1<=5:=by
 induction ls with
 | nil=>intro d h;cases h;exact ⟨rfl,fun x hx=>by simp at hx⟩
 | cons l ls ih =>
  intro d h;simp only [yC] at h
  cases ho:vK l with
  | none=>rw [ho] at h;cases h
  | some y =>
   rw [ho] at h
   cases hr:yC ls with
   | none=>rw [hr] at h;cases h
   | some gs =>
    rw [hr] at h
    cases h;obtain ⟨h1,h2⟩:=ih (fun l' hl'=>hB l' (by simp [hl'])) gs hr;refine ⟨by simp [h1],fun x hx=>?_⟩
    rcases List.mem_cons.1 hx with rfl|hx
    ·obtain ⟨f1,f2,f3,f4⟩:=zJE ho;have:=hB l (by simp);exact ⟨by omega,by omega,f3,f4⟩
    ·exact h2 x hx
theorem zKD (D:List Ed):wK (D.take 17)=wK D:=by
 by_cases h:D.length<=17
 ·rw [List.take_of_length_le h]
 ·have e:(D.take 17).length=17:=by rw [List.length_take];omega
  unfold wK;rw [if_pos (by omega),if_pos (by omega)]
theorem zG2 {D:List Ed} (h:wK D=0):D.take 17=D:=List.take_of_length_le (by have:=(sV h).1;omega)
theorem zE.own_farE {α:Type} {K:zE α} {N R:Nat} {w w':World} {v:Value} {d:List α} (h:K.Own N w v d) (hg:w.grownBy w' (some R)) (hR:R<N):K.Own N w' v d :=
 zAs h fun k hk=>hg.block k (World.ownsRow.lt h k hk).2 (fun e=>by have:=(World.ownsRow.lt h k hk).1;have:=Option.some.inj e;omega)
def ESt {M:Nat} (w:World) (N:Nat) (pre:List (Wd M)) (W:World):Prop :=
 ∃v d,W.heap[w.heap.size+2]? = some (.cells #[v] 38 (0,0))/\KE.Own (N+2) W v d/\(∃D,yC (zU pre)=some D/\D.length=pre.length/\d=D.take 17) /\
  W.heap[w.heap.size]? = some (.cells #[.slice none 0 0] 38 (0,0))/\W.heap[w.heap.size+1]? = some (.cells #[.int .i64 0] 26 (0,0))/\Below w.heap.size w W/\N+2<=W.heap.size/\w.heap.size+6<=N
def zOA {M:Nat} (w:World) (N:Nat) (c:Code) (pre:List (Wd M)) (W:World):Prop :=
 c=.ret/\yC (zU pre)=none/\W.heap[w.heap.size]? = some (.cells #[.slice none 0 0] 38 (0,0))/\W.heap[w.heap.size+1]? = some (.cells #[.int .i64 4] 26 (0,0))/\Below w.heap.size w W/\w.heap.size+6<=N
theorem zCO (w:World):Calls Tryz.prog 74 #[.string ⟨#[]⟩] w fun e w'=>gK w (yC (zO [])) e w':=by
 refine (callsIn_wide (n:=3)).1 ?_;refine callsIn_of_wp_marks Tryz.func74 rfl trivial ?_ rfl;simp only [Tryz.ntmps74,List.size_toArray,List.length_cons,List.length_nil,Nat.reduceAdd,Nat.reduceSub,Array.replicate_succ,Array.replicate_zero,List.push_toArray,List.append_toArray,List.nil_append,List.cons_append]
 gi_wp2
 exact ⟨.tuple #[sc none 0 0,ii 0],by simp [results,Tryz.results74,go_sem],⟨⟨_,rfl,KE.own_nil _ _⟩,((Below.refl _ w).alloc (Nat.le_refl _) _).alloc (by simp) _⟩⟩
theorem zCW (s:ByteArray) (w:World) (hp:zY w) (h0:s.data.toList≠[]) (hs:s.size<=4294967000) :
  Calls Tryz.prog 74 #[.string s] w fun e w'=>gK w (yC (zO s.data.toList)) e w':=by
 refine (callsIn_wide (n:=3)).1 ?_;refine callsIn_of_wp_marks Tryz.func74 rfl trivial ?_ rfl;simp only [Tryz.ntmps74,List.size_toArray,List.length_cons,List.length_nil,Nat.reduceAdd,Nat.reduceSub,Array.replicate_succ,Array.replicate_zero,List.push_toArray,List.append_toArray,List.nil_append,List.cons_append];have hsl:(zG s.data.toList).length<=s.size+1:=by simpa using jW s.data.toList
 have hne:s.toList.isEmpty=false:=by
  rw [Lib.toList_data]
  cases h:s.data.toList with
  | nil=>exact absurd h h0
  | cons _ _=>rfl
 gi_wp2_with (refine ⟨trivial,?_⟩;gi_at_call 16;refine (callsIn_wide.2 (jS _ _)).mono ?_;rintro e w3 ⟨rfl,hbx,hb3,hs3⟩)
 simp only [World.size_alloc] at hbx hb3 hs3;have hb30:Below w.heap.size w w3:=((((Below.refl _ w).alloc (Nat.le_refl _) _).alloc (by simp) _).alloc (by simp;omega) _).trans (hb3.mono (by omega))
 have g0:w3.heap[w.heap.size]? = some (.cells #[sc none 0 0] 38 (0,0)):=by
  rw [hb3.block _ (by omega),Below.heap_alloc _ _ _ (by simp;omega),Below.heap_alloc _ _ _ (by simp)];exact heap_alloc_new w _
 have g1:w3.heap[w.heap.size+1]? = some (.cells #[ii 0] 26 (0,0)):=by
  rw [hb3.block _ (by omega),Below.heap_alloc _ _ _ (by simp)];have:=heap_alloc_new (w.alloc (.cells #[sc none 0 0] 38)) (.cells #[ii 0] 26)
  simpa using this
 have g2:w3.heap[w.heap.size+2]? = some (.cells #[sc none 0 0] 38 (0,0)):=by
  rw [hb3.block _ (by omega)];have:=heap_alloc_new ((w.alloc (.cells #[sc none 0 0] 38)).alloc (.cells #[ii 0] 26)) (.cells #[sc none 0 0] 38)
  simpa using this
 have hN6:w3.heap.size=w.heap.size+6:=by omega
 have ST0:Hid (∀o1 o2,ESt (M:=s.size) w w3.heap.size [] ((w3.alloc o1).alloc o2)):=fun o1 o2=>by
  have ha:∀k,k<w3.heap.size->((w3.alloc o1).alloc o2).heap[k]? = w3.heap[k]?:=fun k hk=>by
   rw [Below.heap_alloc _ _ _ (by simp;omega),Below.heap_alloc _ _ _ hk]
  exact ⟨sc none 0 0,[],(ha _ (by omega)).trans g2,KE.own_nil _ _,⟨[],rfl,rfl,rfl⟩,(ha _ (by omega)).trans g0,(ha _ (by omega)).trans g1,
   (hb30.alloc hb30.size _).alloc (by have:=hb30.size;simp;omega) _,by simp,by omega⟩
 have HBX:=hid hbx;have HP:=hid hp;have hen:=enters_of (P:=Tryz.prog) Tryz.func61 (by kernel_rfl) rfl;clear hbx hp g0 g1 g2 hb3 hs3
 refine uA (w:=w3) rfl (by decide) (gf:=61) (lb:=#[.pointer (some (aa (w.heap.size+1+1+1+1) 0)),.pointer (some (aa (w.heap.size+1+1+1) 0)),.pointer (some (aa (w.heap.size+1+1+1+2) 0))]) rfl trivial hen (Bs:=w.heap.size+1+1+1) (by omega)
  (dI 2 (by decide) s.size _ _ _ s (Nat.le_refl _) (by unfold maxLen;omega) w3 HBX.out) ?hKt ?hKb (fun _=>rfl) (ESt w w3.heap.size) (zOA w w3.heap.size) ?hIp ?hIb ?hXp ST0.out
  (fun x=>{ tmps:=#[tq s,undef,.pointer (some (aa w.heap.size 0)),.pointer (some (aa (w.heap.size+1) 0)),.pointer (some (aa (w.heap.size+1+1) 0)),tq x.1,undef,undef,undef,tq s,.bool false,tq s,
   .func (.func 61) #[] #[.pointer (some (aa (w.heap.size+1+1+1+1) 0)),.pointer (some (aa (w.heap.size+1+1+1) 0)),.pointer (some (aa (w.heap.size+1+1+1+2) 0))],
   tq x.1,undef,undef,undef,undef,undef,undef,undef,undef,undef,undef,undef,undef,undef,undef,undef,undef,undef,undef,undef,undef,undef],defers:=[] }) ?assign ?body ?done ?stop
 case hKt=>exact fun h k=>⟨k.1.trans h.1,k.2.1.trans h.2.1,k.2.2.trans h.2.2⟩
 case hKb=>exact fun W l o' hl=>⟨World.putObj_heap_other (by omega),World.putObj_heap_other (by omega),World.putObj_heap_other (by omega)⟩
 case hIp =>
  rintro pre W o' ⟨v,d,k2,hox,hf,k0,k1,hb,hz,h6⟩;have hg:W.grownBy (W.putObj (w3.heap.size+1) o') (some (w3.heap.size+1)):=grownBy_putObj' W _ o';exact ⟨v,d,(World.putObj_heap_other (by omega)).trans k2,zE.own_farE hox hg (by omega),hf,(World.putObj_heap_other (by omega)).trans k0,(World.putObj_heap_other (by omega)).trans k1,hb.grown hg (by omega) (fun k e=>by cases e;omega),Nat.le_trans hz hg.size,h6⟩
 case hIb =>
  rintro pre W u ⟨v,d,k2,hox,hf,k0,k1,hb,hz,h6⟩;have hg:W.grownBy (W.setCell (aa (w.heap.size+1+1+1) 0) u) (some (w.heap.size+1+1+1)):=zZ W _ 0 u;exact ⟨v,d,(hg.block _ (by omega) (by intro e;have:=Option.some.inj e;omega)).trans k2,zE.own_farE hox hg (by omega),hf,(hg.block _ (by omega) (by intro e;have:=Option.some.inj e;omega)).trans k0,(hg.block _ (by omega) (by intro e;have:=Option.some.inj e;omega)).trans k1,hb.grown hg (by omega) (fun k e=>by cases e;omega),Nat.le_trans hz hg.size,h6⟩
 case hXp =>
  rintro c pre W o' ⟨hc,hf,k0,k1,hb,h6⟩;have hg:W.grownBy (W.putObj (w3.heap.size+1) o') (some (w3.heap.size+1)):=grownBy_putObj' W _ o';exact ⟨hc,hf,(World.putObj_heap_other (by omega)).trans k0,(World.putObj_heap_other (by omega)).trans k1,⟨hg.os.trans hb.os,hg.tape.trans hb.tape,hg.output.trans hb.output,Nat.le_trans hb.size hg.size,fun k hk=>(World.putObj_heap_other (by omega)).trans (hb.block k hk)⟩,h6⟩
 case assign =>
  intro l x W K hK;simp only [zAa]
  gi_wp2
  exact hK
 case body =>
  rintro l pre x W hlW ⟨v,d,k2,hox,⟨D,hf,hl,hdD⟩,k0,k1,hb,hz,h6⟩ _;have hwp:=zIm x.1 W (HP.out.on hb) (Nat.le_trans x.2 hs);obtain ⟨i0,hi,hz0,hz1,hz2⟩:=info_parts Tryz.infoEd;have hpl:zU (pre++[x])=zU pre++[x.1.data.toList]:=by simp [zU]
  have HPL:=hid hpl;have HF:=hid hf;have HB:=hid hb;have HOX:=hid hox;have HK0:=hid k0;have HK1:=hid k1;have HK2:=hid k2;have HLN:=hid hl;have HDD:=hid hdD;clear hpl hf hb hox hl hdD
  cases hwo:vK x.1.data.toList with
  | none =>
   rw [hwo] at hwp;have HW:Hid (Calls Tryz.prog 118 #[tq x.1] W fun e w'=>e=.returned (.tuple #[.agg #[ii 0,tq ⟨#[]⟩,tq ⟨#[]⟩],ii 4])/\Below W.heap.size W w'):=hwp
   have HNO:Hid (yC (zU (pre++[x]))=none):=by
    show _=_
    rw [HPL.out];exact zCz hwo
   clear hwp k0 k1 k2;have HN6:=hid hN6;clear hN6
   gi_wp2_with (refine ⟨trivial,?_⟩;gi_at_call 118;refine (CallsIn.inRound l (callsIn_wide.2 HW.out)).mono ?_;rintro e W2 ⟨rfl,hb2⟩;have hs2:=hb2.size;have t0:=HK0.out;have t1:=HK1.out;have t0':=(Below.heap_alloc W2 (.cells #[ii 0,tq ⟨#[]⟩,tq ⟨#[]⟩] 47) w.heap.size (by omega)).trans ((hb2.block w.heap.size (by omega)).trans t0);have t1':=(Below.heap_alloc W2 (.cells #[ii 0,tq ⟨#[]⟩,tq ⟨#[]⟩] 47) (w.heap.size+1) (by omega)).trans ((hb2.block (w.heap.size+1) (by omega)).trans t1);obtain ⟨q0,q1⟩:=yD t0';obtain ⟨q2,q3⟩:=yD t1';have T0:=hid t0';have T1:=hid t1';clear t0 t1 t0' t1')
   have hbb:=((((HB.out.trans (hb2.mono HB.out.size)).alloc (Nat.le_trans HB.out.size hs2) (.cells #[ii 0,tq ⟨#[]⟩,tq ⟨#[]⟩] 47)).setCell (p:=(aa w.heap.size 0)) (Nat.le_refl _) (sc none 0 0)).setCell (p:=(aa (w.heap.size+1) 0)) (by show _<=w.heap.size+1;omega) (ii 4));have hkf:KeepsFrom w3.heap.size W (W2.alloc (.cells #[ii 0,tq ⟨#[]⟩,tq ⟨#[]⟩] 47)):=KeepsFrom.trans (wT hb2) ((KeepsOthers.alloc _ _).from _);exact ⟨(hkf.trans ((KeepsOthers.setCell _ _ _).from _)).trans ((KeepsOthers.setCell _ _ _).from _),rfl,HNO.out,Boxed.other (Boxed.set _ T0.out) (by omega) _,Boxed.set _ (Boxed.other T1.out (by omega) _),hbb,h6⟩
  | some y =>
   rw [hwo] at hwp;have HW:Hid (Calls Tryz.prog 118 #[tq x.1] W fun e w'=>e=.returned (.tuple #[.agg #[ii y.1,tq y.2.1,tq y.2.2],ii 0])/\Below W.heap.size W w'):=hwp
   have HNO:Hid (yC (zU (pre++[x]))=some (D++[y])):=by
    show _=_
    rw [HPL.out];exact zAP HF.out hwo
   obtain ⟨yo,yf,yt⟩:=y;simp only at HW;clear hwp k0 k1 k2;obtain ⟨pv,cv,rfl⟩:=zE.own_shape HOX.out
   by_cases h17:d.length<=16
   ·have h17z:(d.length:Int)<=16:=by omega
    have HDT:Hid (d++[(yo,yf,yt)]=(D++[(yo,yf,yt)]).take 17):=by
     show _=_
     have hD:D.length<=16:=by rw [HDD.out,List.length_take] at h17;omega
     rw [List.take_of_length_le (by simp;omega),HDD.out,List.take_of_length_le (by omega)]
    have HN6:=hid hN6;clear hN6
    gi_wp2_with (first|(gi_at_builtin;refine wpListIn_append_own _ rfl _ _ 38 rfl (w3.heap.size+2) 47 i0 (.agg #[ii 0,tq ⟨#[]⟩,tq ⟨#[]⟩]) 3 40 Tryz.underlying38 hi hz0 hz1 hz2 rfl (by decide) _ _ _ rfl HX2.out (aa (W2.heap.size+1) 0) 1 1 (KE.cells [(yo,yf,yt)]) rfl rfl HC.out (KE.cells_ones _) (by unfold maxLen;omega) (by omega) (by simp;omega) ?_;intro v' w1 hown' hgrow _;obtain ⟨g',cap',rfl⟩:=ownsRow_succ hown';have hv1:=T2.out.kept hgrow (T2.out.not_row (by decide) HX2.out);have hc1:=hv1.cell;have hf1:=hv1.frozen;have HV1:=hid hv1;have HO:=hid hown';have HG:=hid hgrow;clear hv1 hown' hgrow)|(refine ⟨trivial,?_⟩;gi_at_call 118;refine (CallsIn.inRound l (callsIn_wide.2 HW.out)).mono ?_;rintro e W2 ⟨rfl,hb2⟩;have hs2:=hb2.size;have t2:=HK2.out;have t2':=(Below.heap_alloc W2 (.cells #[ii yo,tq yf,tq yt] 47) (w.heap.size+2) (by omega)).trans ((hb2.block (w.heap.size+2) (by omega)).trans t2);obtain ⟨q0,q1⟩:=yD t2';have T2:Hid (Boxed ((W2.alloc (.cells #[ii yo,tq yf,tq yt] 47)).alloc (.cells #[ii yo,tq yf,tq yt] 47)) (w.heap.size+2) 38 (sc pv d.length cv)):=hid (Boxed.alloc t2' _);have HB2:Hid (Below W.heap.size W ((W2.alloc (.cells #[ii yo,tq yf,tq yt] 47)).alloc (.cells #[ii yo,tq yf,tq yt] 47))):=hid ((hb2.alloc hs2 _).alloc (by simp;omega) _);have HX2:=hid (zE.own_on HOX.out HB2.out);have HC:=hid (KE.news (W2.alloc (.cells #[ii yo,tq yf,tq yt] 47)) (yo,yf,yt));rw [World.size_alloc] at HC;clear t2 t2'))
    have hb12:Below (w3.heap.size+2) W w1:=(HB2.out.mono hz).trans ((Below.refl _ _).grown HG.out (by simp;omega) (fun k hk=>(World.ownsRow.lt HX2.out k hk).1));have hsz1:=hb12.size;have hox0:KE.Own (w3.heap.size+2) w1 (sc (some (aa g' 0)) (d.length+1) cap') (d++[(yo,yf,yt)]):=zE.own_snoc HO.out rfl rfl;have hox1:=zE.own_farE hox0 (zZ w1 (w.heap.size+2) 0 (sc (some (aa g' 0)) (d.length+1) cap')) (by omega);have hkf:KeepsFrom w3.heap.size W w1:=(wT HB2.out).trans ((KeepsOthers.of_grownBy HG.out (fun j o ej hj=>fA HX2.out ej hj)).from _);refine ⟨hkf.trans ((KeepsOthers.setCell _ _ _).from _),⟨(Below.heap_setCell w1 _ _ _ (by show _≠w.heap.size+1+1;omega)).trans (hb12.block _ (by omega)),(Below.heap_setCell w1 _ _ _ (by show _≠w.heap.size+1+1;omega)).trans (hb12.block _ (by omega)),(Below.heap_setCell w1 _ _ _ (by show _≠w.heap.size+1+1;omega)).trans (hb12.block _ (by omega))⟩,?_⟩
    exact ⟨_,d++[(yo,yf,yt)],Boxed.set _ HV1.out,hox1,⟨D++[(yo,yf,yt)],HNO.out,by rw [List.length_append,List.length_append,HLN.out];rfl,HDT.out⟩,
     Boxed.other ((hb12.block _ (by omega)).trans HK0.out) (by omega) _,Boxed.other ((hb12.block _ (by omega)).trans HK1.out) (by omega) _,
     (HB.out.trans (hb12.mono (by omega))).setCell (p:=(aa (w.heap.size+1+1) 0)) (by show _<=w.heap.size+1+1;omega) _,by simp [World.setCell];omega,h6⟩
   ·have h17z:¬ ((d.length:Int)<=16):=by omega
    have HDT:Hid (d=(D++[(yo,yf,yt)]).take 17):=by
     show _=_
     have hD:17<=D.length:=by rw [HDD.out,List.length_take] at h17;omega
     rw [List.take_append_of_le_length hD];exact HDD.out
    have HN6:=hid hN6;clear hN6
    gi_wp2_with (refine ⟨trivial,?_⟩;gi_at_call 118;refine (CallsIn.inRound l (callsIn_wide.2 HW.out)).mono ?_;rintro e W2 ⟨rfl,hb2⟩;have hs2:=hb2.size;have t2:=HK2.out;have t2':=(Below.heap_alloc W2 (.cells #[ii yo,tq yf,tq yt] 47) (w.heap.size+2) (by omega)).trans ((hb2.block (w.heap.size+2) (by omega)).trans t2);obtain ⟨q0,q1⟩:=yD t2';have T2:=hid t2';have HB2:Hid (Below W.heap.size W (W2.alloc (.cells #[ii yo,tq yf,tq yt] 47))):=hid (hb2.alloc hs2 _);clear t2 t2')
    refine ⟨wT HB2.out,⟨HB2.out.block _ (by omega),HB2.out.block _ (by omega),HB2.out.block _ (by omega)⟩,?_⟩
    exact ⟨_,d,T2.out,zE.own_on HOX.out HB2.out,⟨D++[(yo,yf,yt)],HNO.out,by rw [List.length_append,List.length_append,HLN.out];rfl,HDT.out⟩,
     (HB2.out.block _ (by omega)).trans HK0.out,(HB2.out.block _ (by omega)).trans HK1.out,HB.out.trans (HB2.out.mono HB.out.size),Nat.le_trans hz HB2.out.size,h6⟩
 case done =>
  rintro xs W hS ⟨v,d,k2,hox,⟨D,hf,hl,hdD⟩,k0,k1,hb,hz,h6⟩ hK;have hfs:yC (zO s.data.toList)=some D:=by unfold zO;rw [if_neg h0,<-hS];exact hf
  obtain ⟨f1,f3⟩:=zGS (B:=s.size) (zU xs) (fun l hl=>by
   obtain ⟨x,_,rfl⟩:=List.mem_map.1 hl
   simpa using x.2) D hf
  have hdl:d.length<=17:=by rw [hdD,List.length_take];omega
  have hfit:jF d:=⟨by unfold maxLen;omega,fun x hx=>by
   obtain ⟨a1,a2,a3,a4⟩:=f3 x (by rw [hdD] at hx;exact List.mem_of_mem_take hx);refine ⟨?_,?_,by omega,by omega⟩
   ·unfold maxLen;omega
   ·unfold maxLen;omega⟩
  have hmy:=bJ v d W (zE.own_is hox) hfit;have hmt:=zKD D;rw [<-hdD] at hmt;rw [hmt] at hmy;obtain ⟨pv,cv,rfl⟩:=zE.own_shape hox;obtain ⟨k,hk⟩:∃k,wK D=k:=⟨_,rfl⟩;have HDD:Hid (k=0->D=d):=fun e=>by rw [hdD];exact (zG2 (by rw [hk];exact e)).symm
  have HCD:Hid (zBh (some D)=k):=hk;have HAN:Hid (zDc (some D)=if k=0 then D else []):=by show _=_;rw [<-hk];rfl
  rw [hk] at hmy;have HMY:=hid hmy;have HOX:=hid hox;have HK0:=hid k0;have HK1:=hid k1;have HK2:=hid k2;have HB:=hid hb;have HK:=hid hK;have HFS:=hid hfs;have HN6:=hid hN6;obtain ⟨c2,_⟩:=yD k2;clear hmy hmt hfit hox hf hl hdD k0 k1 k2 hK hN6 hb hfs hk f1 f3
  by_cases hm:k=0
  ·have HZ:=hid hm;subst hm
   gi_wp2_with (refine ⟨trivial,?_⟩;gi_at_call 100;refine (callsIn_wide.2 HMY.out).mono ?_;rintro e W2 ⟨rfl,hb2⟩;obtain ⟨q0,q1⟩:=yD ((hb2.block w.heap.size (by omega)).trans HK0.out);obtain ⟨q2,q3⟩:=yD ((hb2.block (w.heap.size+1) (by omega)).trans HK1.out);obtain ⟨q4,q5⟩:=yD ((hb2.block (w.heap.size+2) (by omega)).trans HK2.out))
   have u0:Boxed W2 w.heap.size 38 (sc none 0 0):=(hb2.block w.heap.size (by omega)).trans HK0.out;have u1:Boxed W2 (w.heap.size+1) 26 (ii 0):=(hb2.block (w.heap.size+1) (by omega)).trans HK1.out;obtain ⟨W4,hW4⟩:∃W4,(W2.setCell (aa w.heap.size 0) (sc pv d.length cv)).setCell (aa (w.heap.size+1) 0) (ii 0)=W4:=⟨_,rfl⟩;have y0:Boxed W4 w.heap.size 38 (sc pv d.length cv):=by rw [<-hW4];exact Boxed.other (Boxed.set _ u0) (by omega) _
   have y1:Boxed W4 (w.heap.size+1) 26 (ii 0):=by rw [<-hW4];exact Boxed.set _ (Boxed.other u1 (by omega) _)
   have hKD:W4.heap[w3.heap.size]? = some (.deferred (some [])):=by
    rw [<-hW4];exact (Below.heap_setCell _ _ _ _ (by show _≠w.heap.size+1;omega)).trans ((Below.heap_setCell _ _ _ _ (by show _≠w.heap.size;omega)).trans ((hb2.block _ (by omega)).trans HK.out))
   have hb4:Below w.heap.size w W4:=by
    rw [<-hW4];exact ((HB.out.trans (hb2.mono HB.out.size)).setCell (p:=(aa w.heap.size 0)) (Nat.le_refl _) _).setCell (p:=(aa (w.heap.size+1) 0)) (by show _<=w.heap.size+1;omega) _
   have ha4:KE.Own (w3.heap.size+2) W4 (sc pv d.length cv) d:=by
    rw [<-hW4];exact zE.own_farE (zE.own_farE (zE.own_on HOX.out hb2) (zZ W2 w.heap.size 0 _) (by omega)) (zZ _ (w.heap.size+1) 0 _) (by omega)
   rw [hW4];have hsz4:=hb4.size;have hg5:W4.grownBy (W4.putObj w3.heap.size (.deferred none)) (some w3.heap.size):=grownBy_putObj' W4 _ _;have z0:Boxed (W4.putObj w3.heap.size (.deferred none)) w.heap.size 38 (sc pv d.length cv):=(World.putObj_heap_other (by omega)).trans y0;have z1:Boxed (W4.putObj w3.heap.size (.deferred none)) (w.heap.size+1) 26 (ii 0):=(World.putObj_heap_other (by omega)).trans y1;have z0c:=z0.cell;have z1c:=z1.cell;refine ⟨by simp,.inl ⟨_,_,rfl,run_takeDeferred hKD,?_⟩⟩;refine ⟨.tuple #[sc pv d.length cv,ii 0],by simp [results,Tryz.results74,go_sem,z0c,z1c],⟨sc pv d.length cv,?_,?_⟩,hb4.grown hg5 (by omega) (fun k e=>by cases e;omega)⟩
   ·rw [HFS.out,HCD.out]
   ·rw [HFS.out,HAN.out];simp only [if_true];rw [HDD.out (by trivial)];exact zE.own_weak (zE.own_farE ha4 hg5 (by omega)) (by omega)
  ·have hne:(k != 0)=true:=by rw [bne_iff_ne];exact hm
   have HNZ:=hid hm
   gi_wp2_with (refine ⟨trivial,?_⟩;gi_at_call 100;refine (callsIn_wide.2 HMY.out).mono ?_;rintro e W2 ⟨rfl,hb2⟩;obtain ⟨q0,q1⟩:=yD ((hb2.block w.heap.size (by omega)).trans HK0.out);obtain ⟨q2,q3⟩:=yD ((hb2.block (w.heap.size+1) (by omega)).trans HK1.out))
   have u0:Boxed W2 w.heap.size 38 (sc none 0 0):=(hb2.block w.heap.size (by omega)).trans HK0.out;have u1:Boxed W2 (w.heap.size+1) 26 (ii 0):=(hb2.block (w.heap.size+1) (by omega)).trans HK1.out;obtain ⟨W4,hW4⟩:∃W4,(W2.setCell (aa w.heap.size 0) (sc none 0 0)).setCell (aa (w.heap.size+1) 0) (ii k)=W4:=⟨_,rfl⟩;have y0:Boxed W4 w.heap.size 38 (sc none 0 0):=by rw [<-hW4];exact Boxed.other (Boxed.set _ u0) (by omega) _
   have y1:Boxed W4 (w.heap.size+1) 26 (ii k):=by rw [<-hW4];exact Boxed.set _ (Boxed.other u1 (by omega) _)
   have hKD:W4.heap[w3.heap.size]? = some (.deferred (some [])):=by
    rw [<-hW4];exact (Below.heap_setCell _ _ _ _ (by show _≠w.heap.size+1;omega)).trans ((Below.heap_setCell _ _ _ _ (by show _≠w.heap.size;omega)).trans ((hb2.block _ (by omega)).trans HK.out))
   have hb4:Below w.heap.size w W4:=by
    rw [<-hW4];exact ((HB.out.trans (hb2.mono HB.out.size)).setCell (p:=(aa w.heap.size 0)) (Nat.le_refl _) _).setCell (p:=(aa (w.heap.size+1) 0)) (by show _<=w.heap.size+1;omega) _
   rw [hW4];have hsz4:=hb4.size;have hg5:W4.grownBy (W4.putObj w3.heap.size (.deferred none)) (some w3.heap.size):=grownBy_putObj' W4 _ _;have z0:Boxed (W4.putObj w3.heap.size (.deferred none)) w.heap.size 38 (sc none 0 0):=(World.putObj_heap_other (by omega)).trans y0;have z1:Boxed (W4.putObj w3.heap.size (.deferred none)) (w.heap.size+1) 26 (ii k):=(World.putObj_heap_other (by omega)).trans y1;have z0c:=z0.cell;have z1c:=z1.cell;refine ⟨by simp,.inl ⟨_,_,rfl,run_takeDeferred hKD,?_⟩⟩;refine ⟨.tuple #[sc none 0 0,ii k],by simp [results,Tryz.results74,go_sem,z0c,z1c],⟨sc none 0 0,?_,?_⟩,hb4.grown hg5 (by omega) (fun k e=>by cases e;omega)⟩
   ·rw [HFS.out,HCD.out]
   ·rw [HFS.out,HAN.out,if_neg HNZ.out];exact KE.own_nil _ _
 case stop =>
  rintro c pre W hSp ⟨rfl,hf,k0,k1,hb,h6⟩ hK;have HN6:=hid hN6;clear hN6
  gi_wp2
  have hg5:W.grownBy (W.putObj w3.heap.size (.deferred none)) (some w3.heap.size):=grownBy_putObj' W _ _;have z0:Boxed (W.putObj w3.heap.size (.deferred none)) w.heap.size 38 (sc none 0 0):=(World.putObj_heap_other (by omega)).trans k0;have z1:Boxed (W.putObj w3.heap.size (.deferred none)) (w.heap.size+1) 26 (ii 4):=(World.putObj_heap_other (by omega)).trans k1;have z0c:=z0.cell;have z1c:=z1.cell
  have hno:yC (zO s.data.toList)=none:=by
   obtain ⟨r,hr⟩:=hSp;unfold zO;rw [if_neg h0,<-hr,mK,hf];rfl
  refine ⟨by simp,.inl ⟨_,_,rfl,run_takeDeferred hK,?_⟩⟩;refine ⟨.tuple #[sc none 0 0,ii 4],by simp [results,Tryz.results74,go_sem,z0c,z1c],⟨sc none 0 0,?_,?_⟩,hb.grown hg5 hb.size (fun k e=>by cases e;omega)⟩
  ·rw [hno];rfl
  ·rw [hno];exact KE.own_nil _ _
theorem zC2 (s:ByteArray) (w:World) (hp:zY w) (hs:s.size<=4294967000) :
  Calls Tryz.prog 74 #[.string s] w fun e w'=>gK w (yC (zO s.data.toList)) e w':=by
 by_cases h0:s.L=[]
 ·have e:s=⟨#[]⟩:=by
   obtain ⟨⟨l⟩⟩:=s
   cases h0;rfl
  subst e;exact zCO w
 ·exact zCW s w hp h0 hs
end
section
open Go.RowKit Go.Lib
structure zHR (x:Ex):Prop where
 temp:x.temp.size<=maxLen
 ka:x.ka.size<=maxLen
 kb:x.kb.size<=maxLen
 k0:-9223372036854775808<=x.kind
 k1:x.kind<=9223372036854775807
 i0:-9223372036854775808<=x.iff
 i1:x.iff<=9223372036854775807
 t0:0<=x.stamp
 t1:x.stamp<=18446744073709551615
 n0:-9223372036854775808<=x.num
 n1:x.num<=9223372036854775807
structure xI (n0:Nat) (x:Ex) (w:World):Prop where
 val:vQ n0 w x.vs x.vo
 fit:sD x.vo
 eds:KE.Own n0 w x.es x.eo
 efit:jF x.eo
 prd:KM.Own n0 w x.ps x.po
 pfit:pY x.po
 rng:zHR x
structure BxQ (n0 g:Nat) (x:Ex) (w:World):Prop where
 box:w.heap[g]? = some (.cells (yZ x).toArray 42 (0,0))
 low:n0<=g
 own:xI n0 x w
theorem qN {w:World} {n0 n size g:Nat} {e T:TypeId} {v:Value} {xs:List Value} {c:Array Value} {fr:Nat × Nat} (h:w.ownsRow n0 e size v n xs) (hO:w.heap[g]? = some (.cells c T fr)) (ht:e≠T) (b:Nat) (hb:v.ownBlock=some b):b≠g:=fun q=>by
 rcases h.2 with ⟨rfl,_⟩|⟨k,cap,cur,hv,_,hg,_⟩
 ·cases hb
 ·rw [hv] at hb;have:k=b:=Option.some.inj hb;rw [this,q,hO] at hg;injection hg with hg
  injection hg with _ h2
  exact ht h2.symm
theorem xI.fr {n0 g:Nat} {x:Ex} {w W:World} {c:Array Value} {fr:Nat × Nat} (h:xI n0 x w) (hO:w.heap[g]? = some (.cells c 42 fr)) (f:Fr (fun b=>b=g) w W):xI n0 x W :=
 ⟨⟨f.row h.val.1 (qN h.val.1 hO (by decide)),fun y hy=>f.row (h.val.2 y hy) (qN (h.val.2 y hy) hO (by decide))⟩,h.fit,
  f.row (show w.ownsRow n0 KE.T KE.k x.es x.eo.length (KE.cells x.eo) from h.eds) (qN (show w.ownsRow n0 KE.T KE.k x.es x.eo.length (KE.cells x.eo) from h.eds) hO (by decide)),h.efit,
  f.row (show w.ownsRow n0 KM.T KM.k x.ps x.po.length (KM.cells x.po) from h.prd) (qN (show w.ownsRow n0 KM.T KM.k x.ps x.po.length (KM.cells x.po) from h.prd) hO (by decide)),h.pfit,h.rng⟩
theorem xI.on {n0:Nat} {x:Ex} {w W:World} (h:xI n0 x w) (hb:Below w.heap.size w W):xI n0 x W :=
 have f:Fr (fun _=>False) w W:=Fr.of_below hb
 ⟨⟨f.row h.val.1 fun _ _ q=>q,fun y hy=>f.row (h.val.2 y hy) fun _ _ q=>q⟩,h.fit,
  f.row (show w.ownsRow n0 KE.T KE.k x.es x.eo.length (KE.cells x.eo) from h.eds) (fun _ _ q=>q),h.efit,
  f.row (show w.ownsRow n0 KM.T KM.k x.ps x.po.length (KM.cells x.po) from h.prd) (fun _ _ q=>q),h.pfit,h.rng⟩
theorem BxQ.lt {n0 g:Nat} {x:Ex} {w:World} (h:BxQ n0 g x w):g<w.heap.size:=(Array.getElem?_eq_some_iff.1 h.box).1
theorem BxQ.on {n0 g:Nat} {x:Ex} {w W:World} (h:BxQ n0 g x w) (hb:Below w.heap.size w W):BxQ n0 g x W :=
 ⟨(hb.block g h.lt).trans h.box,h.low,h.own.on hb⟩
theorem BxQ.cell {n0 g:Nat} {x:Ex} {w:World} (h:BxQ n0 g x w) (i:Nat) (u:Value) (hu:(yZ x)[i]? = some u):w.cell? ⟨g,i,none⟩=some u:=by
 rw [cell_of_row w g i _ _ _ h.box]
 simpa using hu
theorem BxQ.free {n0 g:Nat} {x:Ex} {w:World} (h:BxQ n0 g x w) (i:Nat):w.frozen? ⟨g,i,none⟩=false:=by
 simp [World.frozen?,h.box]
theorem yE (w:World) (G j:Nat) (u:Value):Fr (fun b=>b=G) w (w.setCell ⟨G,j,none⟩ u):=by
 have hb:Below G w (w.setCell (aa G j) u):=(Below.refl G w).setCell (Nat.le_refl _) _;exact ⟨hb.os,hb.tape,hb.output,hb.size,fun k _ hn=>heap_setCell_other _ _ k _ hn⟩
theorem BxQ.set {n0 g:Nat} {x y:Ex} {w:World} (h:BxQ n0 g x w) (i:Nat) (u:Value) (hy:(yZ y).toArray=(yZ x).toArray.setIfInBounds i u) (ho:xI n0 y w) :
  BxQ n0 g y (w.setCell ⟨g,i,none⟩ u) :=
 ⟨by rw [hy];exact heap_setCell_same _ g _ _ _ _ h.box,h.low,ho.fr h.box (yE w g i u)⟩
def wM (w:World) (v:Value) (ws:List ByteArray):Prop :=
 ∃b o c,v=.slice (some ⟨b,o,none⟩) ws.length c/\ws.length<=c/\b<w.heap.size/\∀(j:Nat) x,ws[j]? = some x->w.cell? ⟨b,o+j,none⟩=some (.string x)
theorem wM.on {w W:World} {v:Value} {ws:List ByteArray} (h:wM w v ws) (hb:Below w.heap.size w W):wM W v ws:=by
 obtain ⟨b,o,c,h1,h2,h3,h4⟩:=h;exact ⟨b,o,c,h1,h2,Nat.lt_of_lt_of_le h3 hb.size,fun j x hx=>(hb.cell (p:=(aa b (o+j))) h3).trans (h4 j x hx)⟩
def zR (ws:List ByteArray):ByteArray:=⟨(yB (ws.map (·.data.toList))).toArray⟩
theorem zHf (ws:List ByteArray):(zR ws).data.toList=yB (ws.map (·.data.toList)):=rfl
theorem vA (w:World) (v:Value) (ws:List ByteArray) (hw:wM w v ws) (hl:(zR ws).size<=4294967000) (hn:ws.length<=4294967000) :
  Calls Tryz.prog 26 #[v,.string ⟨#[32]⟩] w fun e w'=>e=.returned (.string (zR ws))/\Below w.heap.size w w':=by
 obtain ⟨b,o,c,rfl,h2,h3,h4⟩:=hw
 exact Tryz.strings_Join b o c ws ⟨#[32]⟩ w h4 h3 (by omega) h2 (by
  have:(Lib.join (ws.map (·.L)) [32]).length=(zR ws).size:=rfl;show (Lib.join (ws.map (·.L)) [32]).length<=_;omega)
theorem nJ {p:List Tm} (h:wA p=0):pY p:=by
 obtain ⟨h1,h2,h3,h4⟩:=tE h;refine ⟨by unfold maxLen;omega,fun x hx=>?_⟩;have a1:=vY (List.all_eq_true.1 h2 x hx);have a2:=List.all_eq_true.1 h3 x hx;have a3:=List.all_eq_true.1 h4 x hx;unfold yP at a2;unfold vR at a3;simp only [Bool.and_eq_true,decide_eq_true_eq] at a2 a3;have e1:x.1.data.toList.length=x.1.size:=rfl;unfold maxLen;refine ⟨by omega,by omega,by omega,by omega⟩
theorem pZ {p:List Ed} (h:wK p=0):jF p:=by
 obtain ⟨h1,h2,h3,h4⟩:=sV h;refine ⟨by unfold maxLen;omega,fun x hx=>?_⟩;have a1:=vY (h2 x hx);have a2:=h3 x hx;have a3:=h4 x hx;unfold xN at a2;unfold uH at a3;simp only [Bool.and_eq_true,decide_eq_true_eq] at a2 a3;have e1:x.2.1.data.toList.length=x.2.1.size:=rfl;unfold maxLen;refine ⟨by omega,by omega,by omega,by omega⟩
theorem zGF (o:Option (List Tm)):pY (zG1 o):=by
 cases o with
 | none=>exact nJ (by decide)
 | some p =>
  by_cases h:wA p=0
  ·exact nJ (zBv h).1
  ·have:zG1 (some p)=[]:=by show wB p=[];unfold wB;rw [if_neg h]
   rw [this];exact nJ (by decide)
theorem zE2 (o:Option (List Ed)):jF (zDc o):=by
 cases o with
 | none=>exact pZ (by decide)
 | some p =>
  by_cases h:wK p=0
  ·have:zDc (some p)=p:=by show (if wK p=0 then p else [])=p;rw [if_pos h]
   rw [this];exact pZ h
  ·have:zDc (some p)=[]:=by show (if wK p=0 then p else [])=[];rw [if_neg h]
   rw [this];exact pZ (by decide)
end
section
open Go.RowKit Go.Lib
def pB (n0 g:Nat) (x:Ex) (p:Nat) (ws:List ByteArray) (w:World) (e:Ending) (w':World):Prop :=
 (∃ok y,e=.returned (.bool ok)/\BxQ n0 g y w'/\xJ x.en p (zR ws).data.toList=if ok=true then some y.en else none)/\Fr (fun b=>b=g) w w'
theorem zM7 (e:En) (x:List UInt8):xJ e 1 x=if x=[]∨vI (sK x)=true then some { e with temp:=⟨(sK x).toArray⟩ } else none:=by unfold xJ;simp
theorem zMU (e:En) (x:List UInt8):xJ e 2 x=(tJ x).map fun k=>{ e with ka:=k.1,kb:=k.2 }:=by unfold xJ;simp
theorem zMW (e:En) (x:List UInt8):xJ e 3 x=if xM x=true then some { e with ka:=⟨x.toArray⟩ } else none:=by unfold xJ;simp
theorem zMm (e:En) (x:List UInt8):xJ e 4 x=(zCi x).map fun (n:Nat)=>{ e with iff:=(n:Int) }:=by unfold xJ;simp
theorem zMf (e:En) (x:List UInt8):xJ e 5 x=(uY (zO x)).map fun v=>{ e with val:=v }:=by unfold xJ;simp
theorem zMC (e:En) (x:List UInt8):xJ e 6 x=if x=[63] then some e else none:=by unfold xJ;simp
theorem zMM (e:En) (x:List UInt8):xJ e 7 x=(pC (zO x)).map fun v=>{ e with pred:=v }:=by unfold xJ;simp
theorem zMk (e:En) (x:List UInt8):xJ e 8 x=(kI (zO x)).bind fun v=>if v=[] then none else some { e with eds:=v }:=by unfold xJ;simp
theorem zMe (e:En) (x:List UInt8):xJ e 9 x=(xH 999999999 x).map fun (n:Nat)=>{ e with num:=(n:Int) }:=by unfold xJ;simp
theorem zK1 (e:En) (x:List UInt8):xJ e 10 x=(xH 18446744073709551615 x).map fun (n:Nat)=>{ e with stamp:=(n:Int) }:=by unfold xJ;simp
theorem xR {g:Nat} {w w1 w2 w3:World} (h1:Below w.heap.size w w1) (h2:Below w1.heap.size w1 w2) (h3:Fr (fun b=>b=g) w2 w3):Fr (fun b=>b=g) w w3 :=
 ((Fr.of_below (P:=fun b=>b=g) h1).then (Fr.of_below h2) fun _ h=>Or.inl h).then h3 fun _ h=>Or.inl h
theorem zNv (l:List UInt8):uY (zO l)=if zAS l=0 then some (zDW l) else none:=by
 unfold uY zAS zDW;rw [zCV]
 cases tO l with
 | none=>rfl
 | some fs=>rfl
theorem zKy (l:List UInt8):trimPrefix l [64]=sK l:=by
 unfold trimPrefix sK hasPrefix
 cases l with
 | nil=>rfl
 | cons c l =>
  by_cases h:c=64
  ·subst h;rfl
  ·have h1:([64]:List UInt8).isPrefixOf (c::l)=false:=by simp [List.isPrefixOf,Ne.symm h]
   rw [if_neg (by rw [h1];simp),if_neg (by simpa using h)]
theorem zKE (s:ByteArray) (w:World) (hs:s.size<=maxLen) :
  Calls Tryz.prog 69 #[.string s] w fun e w'=>(∃(a b:ByteArray) (c:Int),e=.returned (.tuple #[.agg #[.string a,.string b],.int .i64 c]) /\
   ((c=0/\tJ s.data.toList=some (a,b)/\tR a b=true)∨(c=2/\tJ s.data.toList=none/\a=⟨#[]⟩/\b=⟨#[]⟩)))/\Below w.heap.size w w':=by
 rcases vL s.L 47 with ⟨h1,_⟩|⟨i,h1,h2,h3,_⟩
 ·refine (zGc s w hs h1).mono ?_;rintro e w' ⟨rfl,hb⟩;exact ⟨⟨_,_,2,rfl,.inr ⟨rfl,by unfold tJ;rw [if_pos h1],rfl,rfl⟩⟩,hb⟩
 ·have hi:i<s.size:=by simpa using h2
  have e1:(s.extract 0 i)=⟨(s.L.take i).toArray⟩:=jY (by rw [zBq]);have e2:(s.extract (i+1) s.size)=⟨(s.L.drop (i+1)).toArray⟩:=jY (by rw [jH]);have hne:¬ Lib.indexByte s.L 47=-1:=by rw [h1];omega
  have hto:(Lib.indexByte s.L 47).toNat=i:=by rw [h1];rfl
  cases hk:tR (s.extract 0 i) (s.extract (i+1) s.size) with
  | false =>
   refine (zLJ s w hs i h1 hi hk).mono ?_;rintro e w' ⟨rfl,hb⟩;refine ⟨⟨_,_,2,rfl,.inr ⟨rfl,?_,rfl,rfl⟩⟩,hb⟩;unfold tJ;rw [if_neg hne];simp only [hto];rw [<-e1,<-e2,hk];rfl
  | true =>
   refine (zJG s w hs i h1 hi hk).mono ?_;rintro e w' ⟨rfl,hb⟩;refine ⟨⟨_,_,0,rfl,.inl ⟨rfl,?_,hk⟩⟩,hb⟩;unfold tJ;rw [if_neg hne];simp only [hto];rw [<-e1,<-e2,hk];rfl
section
variable (v:Value) (ws:List ByteArray) (g n0:Nat) (x:Ex) (w:World) (hv:wQ w) (hw:wM w v ws) (hl:(zR ws).size≤4294967000) (hn:ws.length≤4294967000) (hx:BxQ n0 g x w)
include hv hw hl hn hx
theorem zOL:Calls Tryz.prog 38 #[.pointer (some ⟨g,0,none⟩),.int .i64 9,v] w fun e w'=>pB n0 g x 9 ws w e w':=by
 have HV:=hid hv;have HX:=hid hx;have HJ:=hid (vA w v ws hw hl hn);have HR:=hid (zMe x.en (zR ws).L);clear hv hx hw;go_enter Tryz.func38,Tryz.ntmps38;go_wp2_with fail;refine HJ.out.mono ?_;rintro e w1 ⟨rfl,hb1⟩;have HB1:=hid hb1;clear hb1;go_wp2_with fail;refine (zAZ (zR ws) w1 hl (HV.out.on HB1.out)).mono ?_;rintro e w2 ⟨rfl,hb2⟩;have HB2:=hid hb2;have HX2:=hid ((HX.out.on HB1.out).on hb2);clear hb2;have hc:=HX2.out.cell 9 _ rfl;have hf:=HX2.out.free 9
 cases hn:xH 999999999 (zR ws).L with
 | none =>
  have h1:(none:Option Nat).isSome=false:=rfl;rw [h1];go_wp2_with fail;go_ret;refine ⟨⟨false,{ x with num:=0 },rfl,HX2.out.set 9 _ rfl ⟨HX2.out.own.val,HX2.out.own.fit,HX2.out.own.eds,HX2.out.own.efit,HX2.out.own.prd,HX2.out.own.pfit,{ HX2.out.own.rng with n0:=by show (-9223372036854775808:Int)<=0;omega,n1:=by show (0:Int)<=9223372036854775807;omega }⟩,?_⟩,xR HB1.out HB2.out (yE _ _ _ _)⟩;rw [HR.out,hn];rfl
 | some n =>
  have hle:=sO hn;have h1:(some n).isSome=true:=rfl;rw [h1];go_wp2_with fail;go_ret;refine ⟨⟨true,{ x with num:=n },rfl,HX2.out.set 9 _ rfl ⟨HX2.out.own.val,HX2.out.own.fit,HX2.out.own.eds,HX2.out.own.efit,HX2.out.own.prd,HX2.out.own.pfit,{ HX2.out.own.rng with n0:=by show (-9223372036854775808:Int)<=n;omega,n1:=by show (n:Int)<=9223372036854775807;omega }⟩,?_⟩,xR HB1.out HB2.out (yE _ _ _ _)⟩;rw [HR.out,hn];rfl
theorem zNl:Calls Tryz.prog 38 #[.pointer (some ⟨g,0,none⟩),.int .i64 10,v] w fun e w'=>pB n0 g x 10 ws w e w':=by
 have HV:=hid hv;have HX:=hid hx;have HJ:=hid (vA w v ws hw hl hn);have HR:=hid (zK1 x.en (zR ws).L);clear hv hx hw;go_enter Tryz.func38,Tryz.ntmps38;go_wp2_with fail;refine HJ.out.mono ?_;rintro e w1 ⟨rfl,hb1⟩;have HB1:=hid hb1;clear hb1;go_wp2_with fail;refine (zCk (zR ws) w1 hl (HV.out.on HB1.out)).mono ?_;rintro e w2 ⟨rfl,hb2⟩;have HB2:=hid hb2;have HX2:=hid ((HX.out.on HB1.out).on hb2);clear hb2;have hc:=HX2.out.cell 8 _ rfl;have hf:=HX2.out.free 8
 cases hn:xH 18446744073709551615 (zR ws).L with
 | none =>
  have h1:(none:Option Nat).isSome=false:=rfl;rw [h1];go_wp2_with fail;go_ret;refine ⟨⟨false,{ x with stamp:=0 },rfl,HX2.out.set 8 _ rfl ⟨HX2.out.own.val,HX2.out.own.fit,HX2.out.own.eds,HX2.out.own.efit,HX2.out.own.prd,HX2.out.own.pfit,{ HX2.out.own.rng with t0:=by show (0:Int)<=0;omega,t1:=by show (0:Int)<=18446744073709551615;omega }⟩,?_⟩,xR HB1.out HB2.out (yE _ _ _ _)⟩;rw [HR.out,hn];rfl
 | some n =>
  have hle:=sO hn;have h1:(some n).isSome=true:=rfl;rw [h1];go_wp2_with fail;go_ret;refine ⟨⟨true,{ x with stamp:=n },rfl,HX2.out.set 8 _ rfl ⟨HX2.out.own.val,HX2.out.own.fit,HX2.out.own.eds,HX2.out.own.efit,HX2.out.own.prd,HX2.out.own.pfit,{ HX2.out.own.rng with t0:=by show (0:Int)<=n;omega,t1:=by show (n:Int)<=18446744073709551615;omega }⟩,?_⟩,xR HB1.out HB2.out (yE _ _ _ _)⟩;rw [HR.out,hn];rfl
theorem zOO:Calls Tryz.prog 38 #[.pointer (some ⟨g,0,none⟩),.int .i64 4,v] w fun e w'=>pB n0 g x 4 ws w e w':=by
 have HV:=hid hv;have HX:=hid hx;have HJ:=hid (vA w v ws hw hl hn);have HR:=hid (zMm x.en (zR ws).L);clear hv hx hw;go_enter Tryz.func38,Tryz.ntmps38;go_wp2_with fail;refine HJ.out.mono ?_;rintro e w1 ⟨rfl,hb1⟩;have HB1:=hid hb1;clear hb1;go_wp2_with fail;refine (zCP (zR ws) w1 hl (HV.out.on HB1.out)).mono ?_;rintro e w2 ⟨⟨m,rfl,hm0,hm1,hm⟩,hb2⟩;have HM:=hid hm;clear hm;have HB2:=hid hb2;have HX2:=hid ((HX.out.on HB1.out).on hb2);clear hb2;have hc:=HX2.out.cell 4 _ rfl;have hf:=HX2.out.free 4;have HC:Hid (cE (zR ws)=zCi (zR ws).L):=hid rfl
 cases hn:cE (zR ws) with
 | none =>
  have h1:(none:Option Nat).isSome=false:=rfl;rw [h1];go_wp2_with fail;go_ret;refine ⟨⟨false,{ x with iff:=m },rfl,HX2.out.set 4 _ rfl ⟨HX2.out.own.val,HX2.out.own.fit,HX2.out.own.eds,HX2.out.own.efit,HX2.out.own.prd,HX2.out.own.pfit,{ HX2.out.own.rng with i0:=by show (-9223372036854775808:Int)<=m;omega,i1:=by show m<=9223372036854775807;omega }⟩,?_⟩,xR HB1.out HB2.out (yE _ _ _ _)⟩;rw [HR.out,<-HC.out,hn];rfl
 | some n =>
  have h1:(some n).isSome=true:=rfl;rw [h1];have hmn:=HM.out n hn;subst hmn;go_wp2_with fail;go_ret;refine ⟨⟨true,{ x with iff:=n },rfl,HX2.out.set 4 _ rfl ⟨HX2.out.own.val,HX2.out.own.fit,HX2.out.own.eds,HX2.out.own.efit,HX2.out.own.prd,HX2.out.own.pfit,{ HX2.out.own.rng with i0:=by show (-9223372036854775808:Int)<=n;omega,i1:=by show (n:Int)<=9223372036854775807;omega }⟩,?_⟩,xR HB1.out HB2.out (yE _ _ _ _)⟩;rw [HR.out,<-HC.out,hn];rfl
theorem zOR:Calls Tryz.prog 38 #[.pointer (some ⟨g,0,none⟩),.int .i64 3,v] w fun e w'=>pB n0 g x 3 ws w e w':=by
 have HV:=hid hv;have HX:=hid hx;have HJ:=hid (vA w v ws hw hl hn);have HR:=hid (zMW x.en (zR ws).L);clear hv hx hw;go_enter Tryz.func38,Tryz.ntmps38;go_wp2_with fail;refine HJ.out.mono ?_;rintro e w1 ⟨rfl,hb1⟩;have HB1:=hid hb1;clear hb1;have hc:=(HX.out.on HB1.out).cell 2 _ rfl;have hf:=(HX.out.on HB1.out).free 2;have hm:(zR ws).size<=maxLen:=by unfold maxLen;omega
 have HX2:=hid (HX.out.on HB1.out)
 cases ht:xM (zR ws).L with
 | false =>
  go_wp2_with (go_at_call 70;refine (gC (zR ws) _ hm).mono ?_;rintro e w2 ⟨rfl,rfl⟩;rw [ht])
  go_ret;refine ⟨⟨false,{ x with ka:=zR ws },rfl,HX2.out.set 2 _ rfl ⟨HX2.out.own.val,HX2.out.own.fit,HX2.out.own.eds,HX2.out.own.efit,HX2.out.own.prd,HX2.out.own.pfit,{ HX2.out.own.rng with ka:=hm }⟩,?_⟩,xR HB1.out (Below.refl _ _) (yE _ _ _ _)⟩;rw [HR.out,ht];rfl
 | true =>
  go_wp2_with (go_at_call 70;refine (gC (zR ws) _ hm).mono ?_;rintro e w2 ⟨rfl,rfl⟩;rw [ht])
  go_ret;refine ⟨⟨true,{ x with ka:=zR ws },rfl,HX2.out.set 2 _ rfl ⟨HX2.out.own.val,HX2.out.own.fit,HX2.out.own.eds,HX2.out.own.efit,HX2.out.own.prd,HX2.out.own.pfit,{ HX2.out.own.rng with ka:=hm }⟩,?_⟩,xR HB1.out (Below.refl _ _) (yE _ _ _ _)⟩;rw [HR.out,ht];rfl
theorem zOU:Calls Tryz.prog 38 #[.pointer (some ⟨g,0,none⟩),.int .i64 6,v] w fun e w'=>pB n0 g x 6 ws w e w':=by
 have HV:=hid hv;have HX:=hid hx;have HJ:=hid (vA w v ws hw hl hn);have HR:=hid (zMC x.en (zR ws).data.toList);clear hv hx hw;go_enter Tryz.func38,Tryz.ntmps38;go_wp2_with fail;refine HJ.out.mono ?_;rintro e w1 ⟨rfl,hb1⟩;have HB1:=hid hb1;clear hb1;have HX2:=hid (HX.out.on HB1.out)
 by_cases ht:(zR ws).data.toList=[63]
 ·have hq:((zR ws).toList==[63])=true:=by rw [toList_data,ht];rfl
  have HT:=hid ht;clear ht;go_wp2_with fail;go_ret;refine ⟨⟨true,x,rfl,HX2.out,?_⟩,Fr.of_below HB1.out⟩;rw [HR.out,if_pos HT.out];rfl
 ·have hq:((zR ws).toList==[63])=false:=by rw [toList_data];exact beq_eq_false_iff_ne.2 ht
  have HT:=hid ht;clear ht;go_wp2_with fail;go_ret;refine ⟨⟨false,x,rfl,HX2.out,?_⟩,Fr.of_below HB1.out⟩;rw [HR.out,if_neg HT.out];rfl
theorem zOP:Calls Tryz.prog 38 #[.pointer (some ⟨g,0,none⟩),.int .i64 7,v] w fun e w'=>pB n0 g x 7 ws w e w':=by
 have HV:=hid hv;have HX:=hid hx;have HJ:=hid (vA w v ws hw hl hn);have HR:=hid (zMM x.en (zR ws).L);clear hv hx hw;go_enter Tryz.func38,Tryz.ntmps38;go_wp2_with fail;refine HJ.out.mono ?_;rintro e w1 ⟨rfl,hb1⟩;have HB1:=hid hb1;clear hb1;go_wp2_with fail;refine (zGW (zR ws) w1 (HV.out.on HB1.out).plain hl).mono ?_;rintro e w2 ⟨⟨u,rfl,ho⟩,hb2⟩;obtain ⟨up,uc,hu⟩:=zE.own_shape ho;subst hu;have HO:=hid (zE.own_weak ho (Nat.le_trans (Nat.le_of_lt (Nat.lt_of_le_of_lt HX.out.low HX.out.lt)) HB1.out.size));clear ho;have HB2:=hid hb2;have HX2:=hid ((HX.out.on HB1.out).on hb2);clear hb2;have hc:=HX2.out.cell 7 _ rfl;have hf:=HX2.out.free 7;have HF:=hid (zGF (yA (zO (zR ws).L)));have HP:Hid (pC (zO (zR ws).L)=if zBN (yA (zO (zR ws).L))=0 then some (zG1 (yA (zO (zR ws).L))) else none):=hid rfl
 generalize hcw:zBN (yA (zO (zR ws).L))=cw at *
 generalize haw:zG1 (yA (zO (zR ws).L))=aw at *
 clear hcw haw
 by_cases hz:cw=0
 ·subst hz;go_wp2_with fail;go_ret;refine ⟨⟨true,{ x with pp:=up,pc:=uc,po:=aw },rfl,HX2.out.set 7 _ rfl ⟨HX2.out.own.val,HX2.out.own.fit,HX2.out.own.eds,HX2.out.own.efit,HO.out,HF.out,{ HX2.out.own.rng with }⟩,?_⟩,xR HB1.out HB2.out (yE _ _ _ _)⟩;rw [HR.out,HP.out];rfl
 ·have hq:(cw==0)=false:=beq_eq_false_iff_ne.2 hz;go_wp2_with fail;go_ret;refine ⟨⟨false,{ x with pp:=up,pc:=uc,po:=aw },rfl,HX2.out.set 7 _ rfl ⟨HX2.out.own.val,HX2.out.own.fit,HX2.out.own.eds,HX2.out.own.efit,HO.out,HF.out,{ HX2.out.own.rng with }⟩,?_⟩,xR HB1.out HB2.out (yE _ _ _ _)⟩;rw [HR.out,HP.out,if_neg hz];rfl
theorem zOK:Calls Tryz.prog 38 #[.pointer (some ⟨g,0,none⟩),.int .i64 5,v] w fun e w'=>pB n0 g x 5 ws w e w':=by
 have HV:=hid hv;have HX:=hid hx;have HJ:=hid (vA w v ws hw hl hn);have HR:=hid (zMf x.en (zR ws).L);clear hv hx hw;go_enter Tryz.func38,Tryz.ntmps38;go_wp2_with fail;refine HJ.out.mono ?_;rintro e w1 ⟨rfl,hb1⟩;have HB1:=hid hb1;clear hb1;go_wp2_with fail;refine (zFW (zR ws) w1 (HV.out.on HB1.out).plain (by omega)).mono ?_;rintro e w2 ⟨⟨u,o,rfl,ho,ha⟩,hb2⟩;obtain ⟨up,uc,hu⟩:=zMG ho;subst hu;have HF:=hid (zLN ha);have hle:n0<=w1.z:=Nat.le_trans (Nat.le_of_lt (Nat.lt_of_le_of_lt HX.out.low HX.out.lt)) HB1.out.size;have HO:Hid (vQ n0 w2 (sc up o.length uc) o):=hid ⟨own_weak ho.1 hle,fun y hy=>own_weak (ho.2 y hy) hle⟩;have HA:=hid ha;clear ho ha hle;have HB2:=hid hb2;have HX2:=hid ((HX.out.on HB1.out).on hb2);clear hb2;have hc:=HX2.out.cell 5 _ rfl;have hf:=HX2.out.free 5;have HP:Hid (uY (zO (zR ws).L)=if zAS (zR ws).L=0 then some (zDW (zR ws).L) else none):=hid (zNv _)
 generalize hcw:zAS (zR ws).L=cw at *
 clear hcw
 by_cases hz:cw=0
 ·subst hz;go_wp2_with fail;go_ret;refine ⟨⟨true,{ x with vp:=up,vc:=uc,vo:=o },rfl,HX2.out.set 5 _ rfl ⟨HO.out,HF.out,HX2.out.own.eds,HX2.out.own.efit,HX2.out.own.prd,HX2.out.own.pfit,{ HX2.out.own.rng with }⟩,?_⟩,xR HB1.out HB2.out (yE _ _ _ _)⟩;rw [HR.out,HP.out];simp only [if_true,Option.map_some,<-HA.out];rfl
 ·have hq:(cw==0)=false:=beq_eq_false_iff_ne.2 hz;go_wp2_with fail;go_ret;refine ⟨⟨false,{ x with vp:=up,vc:=uc,vo:=o },rfl,HX2.out.set 5 _ rfl ⟨HO.out,HF.out,HX2.out.own.eds,HX2.out.own.efit,HX2.out.own.prd,HX2.out.own.pfit,{ HX2.out.own.rng with }⟩,?_⟩,xR HB1.out HB2.out (yE _ _ _ _)⟩;rw [HR.out,HP.out,if_neg hz];rfl
theorem zOX:Calls Tryz.prog 38 #[.pointer (some ⟨g,0,none⟩),.int .i64 8,v] w fun e w'=>pB n0 g x 8 ws w e w':=by
 have HV:=hid hv;have HX:=hid hx;have HJ:=hid (vA w v ws hw hl hn);have HR:=hid (zMk x.en (zR ws).L);clear hv hx hw;go_enter Tryz.func38,Tryz.ntmps38;go_wp2_with fail;refine HJ.out.mono ?_;rintro e w1 ⟨rfl,hb1⟩;have HB1:=hid hb1;clear hb1;go_wp2_with fail;refine (zC2 (zR ws) w1 (HV.out.on HB1.out).plain hl).mono ?_;rintro e w2 ⟨⟨u,rfl,ho⟩,hb2⟩;obtain ⟨up,uc,hu⟩:=zE.own_shape ho;subst hu;have HO:=hid (zE.own_weak ho (Nat.le_trans (Nat.le_of_lt (Nat.lt_of_le_of_lt HX.out.low HX.out.lt)) HB1.out.size));clear ho;have HB2:=hid hb2;have HX2:=hid ((HX.out.on HB1.out).on hb2);clear hb2;have hc:=HX2.out.cell 6 _ rfl;have hf:=HX2.out.free 6;have HF:=hid (zE2 (yC (zO (zR ws).L)));have HP:Hid (kI (zO (zR ws).L)=if zBh (yC (zO (zR ws).L))=0 then some (zDc (yC (zO (zR ws).L))) else none):=hid rfl
 generalize hcw:zBh (yC (zO (zR ws).L))=cw at *
 generalize haw:zDc (yC (zO (zR ws).L))=aw at *
 clear hcw haw
 by_cases hne:aw=[]
 ·subst hne;have h0:¬ (0:Int)<(([]:List Ed).length:Int):=by simp
  go_wp2_with fail
  go_ret;refine ⟨⟨false,{ x with ep:=up,ec:=uc,eo:=[] },rfl,HX2.out.set 6 _ rfl ⟨HX2.out.own.val,HX2.out.own.fit,HO.out,HF.out,HX2.out.own.prd,HX2.out.own.pfit,{ HX2.out.own.rng with }⟩,?_⟩,xR HB1.out HB2.out (yE _ _ _ _)⟩;rw [HR.out,HP.out]
  split<;>rfl
 ·have h0:(0:Int)<(aw.length:Int):=by have:=List.length_pos_iff.2 hne;omega
  by_cases hz:cw=0
  ·subst hz;go_wp2_with fail;go_ret;refine ⟨⟨true,{ x with ep:=up,ec:=uc,eo:=aw },rfl,HX2.out.set 6 _ rfl ⟨HX2.out.own.val,HX2.out.own.fit,HO.out,HF.out,HX2.out.own.prd,HX2.out.own.pfit,{ HX2.out.own.rng with }⟩,?_⟩,xR HB1.out HB2.out (yE _ _ _ _)⟩;rw [HR.out,HP.out];simp only [if_true,Option.bind_some];rw [if_neg hne];rfl
  ·have hq:(cw==0)=false:=beq_eq_false_iff_ne.2 hz;go_wp2_with fail;go_ret;refine ⟨⟨false,{ x with ep:=up,ec:=uc,eo:=aw },rfl,HX2.out.set 6 _ rfl ⟨HX2.out.own.val,HX2.out.own.fit,HO.out,HF.out,HX2.out.own.prd,HX2.out.own.pfit,{ HX2.out.own.rng with }⟩,?_⟩,xR HB1.out HB2.out (yE _ _ _ _)⟩;rw [HR.out,HP.out,if_neg hz];rfl
theorem zO4:Calls Tryz.prog 38 #[.pointer (some ⟨g,0,none⟩),.int .i64 2,v] w fun e w'=>pB n0 g x 2 ws w e w':=by
 have HV:=hid hv;have HX:=hid hx;have HJ:=hid (vA w v ws hw hl hn);have HR:=hid (zMU x.en (zR ws).L);clear hv hx hw;go_enter Tryz.func38,Tryz.ntmps38;go_wp2_with fail;refine HJ.out.mono ?_;rintro e w1 ⟨rfl,hb1⟩;have HB1:=hid hb1;clear hb1;go_wp2_with fail;refine (zKE (zR ws) w1 (by unfold maxLen;omega)).mono ?_;rintro e w2 ⟨⟨ka,kb,c,rfl,hk⟩,hb2⟩;have HK:=hid hk;clear hk;have HB2:=hid hb2;have HX2:=hid ((HX.out.on HB1.out).on hb2);clear hb2;have hc:=HX2.out.cell 2 _ rfl;have hf:=HX2.out.free 2;have hc3:=HX2.out.cell 3 _ rfl;have hf3:=HX2.out.free 3
 have HS:Hid (ka.size<=maxLen/\kb.size<=maxLen):=hid (by
  rcases HK.out with ⟨_,_,h⟩|⟨_,_,rfl,rfl⟩
  ·have:=nF h;unfold maxLen;omega
  ·unfold maxLen;exact ⟨by decide,by decide⟩)
 by_cases hz:c=0
 ·subst hz
  have HK2:Hid (tJ (zR ws).L=some (ka,kb)):=hid (by
   rcases HK.out with ⟨_,h,_⟩|⟨h,_⟩
   ·exact h
   ·cases h)
  go_wp2_with fail
  go_ret;have HY:=hid (HX2.out.set (y:={ x with ka:=ka }) 2 (tq ka) rfl ⟨HX2.out.own.val,HX2.out.own.fit,HX2.out.own.eds,HX2.out.own.efit,HX2.out.own.prd,HX2.out.own.pfit,{ HX2.out.own.rng with ka:=HS.out.1 }⟩);refine ⟨⟨true,{ x with ka:=ka,kb:=kb },rfl,HY.out.set 3 _ rfl ⟨HY.out.own.val,HY.out.own.fit,HY.out.own.eds,HY.out.own.efit,HY.out.own.prd,HY.out.own.pfit,{ HY.out.own.rng with kb:=HS.out.2 }⟩,?_⟩,xR HB1.out HB2.out ((yE _ _ _ _).then (yE _ _ _ _) fun _ h=>Or.inl h)⟩;rw [HR.out,HK2.out];rfl
 ·have hq:(c==0)=false:=beq_eq_false_iff_ne.2 hz
  have HK2:Hid (tJ (zR ws).L=none):=hid (by
   rcases HK.out with ⟨h,_⟩|⟨_,h,_⟩
   ·exact absurd h hz
   ·exact h)
  go_wp2_with fail
  go_ret;have HY:=hid (HX2.out.set (y:={ x with ka:=ka }) 2 (tq ka) rfl ⟨HX2.out.own.val,HX2.out.own.fit,HX2.out.own.eds,HX2.out.own.efit,HX2.out.own.prd,HX2.out.own.pfit,{ HX2.out.own.rng with ka:=HS.out.1 }⟩);refine ⟨⟨false,{ x with ka:=ka,kb:=kb },rfl,HY.out.set 3 _ rfl ⟨HY.out.own.val,HY.out.own.fit,HY.out.own.eds,HY.out.own.efit,HY.out.own.prd,HY.out.own.pfit,{ HY.out.own.rng with kb:=HS.out.2 }⟩,?_⟩,xR HB1.out HB2.out ((yE _ _ _ _).then (yE _ _ _ _) fun _ h=>Or.inl h)⟩;rw [HR.out,HK2.out];rfl
theorem zON:Calls Tryz.prog 38 #[.pointer (some ⟨g,0,none⟩),.int .i64 1,v] w fun e w'=>pB n0 g x 1 ws w e w':=by
 have HV:=hid hv;have HX:=hid hx;have HJ:=hid (vA w v ws hw hl hn);have HR:=hid (zM7 x.en (zR ws).data.toList);clear hv hx hw;go_enter Tryz.func38,Tryz.ntmps38;go_wp2_with fail;refine HJ.out.mono ?_;rintro e w1 ⟨rfl,hb1⟩;have HB1:=hid hb1;clear hb1;have hc:=(HX.out.on HB1.out).cell 1 _ rfl;have hf:=(HX.out.on HB1.out).free 1;have HX2:=hid (HX.out.on HB1.out);have HU:Hid (trimPrefix (zR ws).data.toList [64]=sK (zR ws).data.toList):=hid (zKy _)
 have hm:(⟨(sK (zR ws).data.toList).toArray⟩:ByteArray).size<=maxLen:=by
  have:=zBp (zR ws).data.toList [64];rw [HU.out] at this;have e1:(⟨(sK (zR ws).data.toList).toArray⟩:ByteArray).size=(sK (zR ws).data.toList).length:=rfl;have e2:(zR ws).data.toList.length=(zR ws).size:=rfl;unfold maxLen;omega
 by_cases h0:(zR ws).data.toList=[]
 ·have hse:(zR ws).toList.isEmpty=true:=by rw [toList_data,h0];rfl
  have H0:=hid h0;clear h0;go_wp2_with (go_at_call 67;refine (Tryz.strings_TrimPrefix _ _ _).mono ?_;rintro e w2 ⟨rfl,rfl⟩;rw [HU.out]);go_ret;refine ⟨⟨true,{ x with temp:=⟨(sK (zR ws).data.toList).toArray⟩ },rfl,HX2.out.set 1 _ rfl ⟨HX2.out.own.val,HX2.out.own.fit,HX2.out.own.eds,HX2.out.own.efit,HX2.out.own.prd,HX2.out.own.pfit,{ HX2.out.own.rng with temp:=hm }⟩,?_⟩,xR HB1.out (Below.refl _ _) (yE _ _ _ _)⟩;rw [HR.out,if_pos (Or.inl H0.out)];rfl
 ·have hse:(zR ws).toList.isEmpty=false:=by
   rw [toList_data]
   cases hl:(zR ws).data.toList with
   | nil=>exact absurd hl h0
   | cons _ _=>rfl
  have H0:=hid h0;clear h0
  cases ht:vI (sK (zR ws).data.toList) with
  | false =>
   go_wp2_with (first
    | (go_at_call 67;refine (Tryz.strings_TrimPrefix _ _ _).mono ?_;rintro e w2 ⟨rfl,rfl⟩;rw [HU.out])
    | (go_at_call 68;refine (zBk ⟨(sK (zR ws).data.toList).toArray⟩ _ hm).mono ?_;rintro e w2 ⟨rfl,rfl⟩;rw [ht]))
   go_ret;refine ⟨⟨false,{ x with temp:=⟨(sK (zR ws).data.toList).toArray⟩ },rfl,HX2.out.set 1 _ rfl ⟨HX2.out.own.val,HX2.out.own.fit,HX2.out.own.eds,HX2.out.own.efit,HX2.out.own.prd,HX2.out.own.pfit,{ HX2.out.own.rng with temp:=hm }⟩,?_⟩,xR HB1.out (Below.refl _ _) (yE _ _ _ _)⟩;rw [HR.out,if_neg]
   ·rfl
   ·rintro (h|h)
    ·exact H0.out h
    ·rw [ht] at h;cases h
  | true =>
   go_wp2_with (first
    | (go_at_call 67;refine (Tryz.strings_TrimPrefix _ _ _).mono ?_;rintro e w2 ⟨rfl,rfl⟩;rw [HU.out])
    | (go_at_call 68;refine (zBk ⟨(sK (zR ws).data.toList).toArray⟩ _ hm).mono ?_;rintro e w2 ⟨rfl,rfl⟩;rw [ht]))
   go_ret;refine ⟨⟨true,{ x with temp:=⟨(sK (zR ws).data.toList).toArray⟩ },rfl,HX2.out.set 1 _ rfl ⟨HX2.out.own.val,HX2.out.own.fit,HX2.out.own.eds,HX2.out.own.efit,HX2.out.own.prd,HX2.out.own.pfit,{ HX2.out.own.rng with temp:=hm }⟩,?_⟩,xR HB1.out (Below.refl _ _) (yE _ _ _ _)⟩;rw [HR.out,if_pos (Or.inr ht)];rfl
theorem zHb (p:Nat) (h1:1<=p) (h2:p<=10):Calls Tryz.prog 38 #[.pointer (some ⟨g,0,none⟩),.int .i64 p,v] w fun e w'=>pB n0 g x p ws w e w':=by
 have:p=1∨p=2∨p=3∨p=4∨p=5∨p=6∨p=7∨p=8∨p=9∨p=10:=by omega
 rcases this with rfl|rfl|rfl|rfl|rfl|rfl|rfl|rfl|rfl|rfl
 ·exact zON v ws g n0 x w hv hw hl hn hx
 ·exact zO4 v ws g n0 x w hv hw hl hn hx
 ·exact zOR v ws g n0 x w hv hw hl hn hx
 ·exact zOO v ws g n0 x w hv hw hl hn hx
 ·exact zOK v ws g n0 x w hv hw hl hn hx
 ·exact zOU v ws g n0 x w hv hw hl hn hx
 ·exact zOP v ws g n0 x w hv hw hl hn hx
 ·exact zOX v ws g n0 x w hv hw hl hn hx
 ·exact zOL v ws g n0 x w hv hw hl hn hx
 ·exact zNl v ws g n0 x w hv hw hl hn hx
end
end
section
open Go.RowKit Go.Lib
theorem zOD {z:ByteArray} {l:List UInt8}:z=⟨l.toArray⟩↔z.data.toList=l:=by
 constructor
 ·rintro rfl;rfl
 ·intro h;exact jY h
theorem zKC (ws:List ByteArray):∀i:Nat,idxFromS ws ⟨#[63]⟩ i=if [63]∈ws.map (·.data.toList) then ((i+((ws.map (·.data.toList)).takeWhile fun x=>decide (x≠[63])).length:Nat):Int) else -1:=by
 induction ws with
 | nil=>intro i;simp [idxFromS]
 | cons z ws ih =>
  intro i
  by_cases hz:z.data.toList=[63]
  ·have hz':z=⟨#[63]⟩:=zOD.2 hz;rw [idxFromS,if_pos hz',if_pos (by simp [hz]),List.map_cons,List.takeWhile_cons,if_neg (by simp [hz])];rfl
  ·have hz':¬ z=⟨#[63]⟩:=fun q=>hz (by rw [q])
   have ht:decide (z.data.toList≠[63])=true:=by simpa using hz
   rw [idxFromS,if_neg hz',ih (i+1),List.map_cons,List.takeWhile_cons];simp only [ht,if_true]
   by_cases hm:[63]∈ws.map (·.data.toList)
   ·rw [if_pos hm,if_pos (List.mem_cons_of_mem _ hm),List.length_cons]
    congr 1;omega
   ·rw [if_neg hm,if_neg];rw [List.mem_cons];rintro (q|q)
    ·exact hz q.symm
    ·exact hm q
theorem zLo (ws:List ByteArray):idxOfS ws ⟨#[63]⟩=if [63]∈ws.map (·.data.toList) then (uM (ws.map (·.data.toList)) 5:Int) else -1:=by
 unfold idxOfS;rw [zKC ws 0,Nat.zero_add];rfl
theorem zDH (x:ByteArray) (ws:List ByteArray):uM ((x::ws).map (·.data.toList)) 1=if hasPrefix x.data.toList [64]=true then 1 else 0:=by
 show (if (some x.data.toList).bind List.head? = some 64 then 1 else 0)=_
 unfold hasPrefix;rw [Option.bind_some]
 cases x.data.toList with
 | nil=>rfl
 | cons c l =>
  by_cases h:c=64
  ·subst h;simp [List.isPrefixOf]
  ·rw [if_neg (by simpa using h),if_neg];simp [List.isPrefixOf,Ne.symm h]
section
variable (v:Value) (ws:List ByteArray) (w:World) (hw:wM w v ws) (hn:ws.length≤4294967000)
include hw hn
theorem zGQ (p:Nat) (h1:1<=p) (h2:p<=10):Calls Tryz.prog 37 #[v,.int .i64 p] w fun e w'=>e=.returned (.int .i64 (uM (ws.map (·.data.toList)) p))/\Below w.heap.size w w':=by
 have HW:=hid hw;obtain ⟨b,o,c,rfl,hc,hb,hcells⟩:=hw;have HC:=hid hcells;have hp:p=2∨p=3∨p=6∨p=9∨p=10∨p=7∨p=8∨p=1∨p=4∨p=5:=by omega
 rcases hp with rfl|rfl|rfl|rfl|rfl|rfl|rfl|rfl|rfl|rfl
 ·go_enter Tryz.func37,Tryz.ntmps37
  go_wp2_with fail
  go_ret;exact ⟨rfl,Below.refl _ _⟩
 ·go_enter Tryz.func37,Tryz.ntmps37
  go_wp2_with fail
  go_ret;exact ⟨rfl,Below.refl _ _⟩
 ·go_enter Tryz.func37,Tryz.ntmps37
  go_wp2_with fail
  go_ret;exact ⟨rfl,Below.refl _ _⟩
 ·go_enter Tryz.func37,Tryz.ntmps37
  go_wp2_with fail
  go_ret;exact ⟨rfl,Below.refl _ _⟩
 ·go_enter Tryz.func37,Tryz.ntmps37
  go_wp2_with fail
  go_ret;exact ⟨rfl,Below.refl _ _⟩
 ·go_enter Tryz.func37,Tryz.ntmps37
  go_wp2_with fail
  go_ret;exact ⟨by show _=Ending.returned (ii ((ws.map (·.data.toList)).length:Nat));rw [List.length_map];rfl,Below.refl _ _⟩
 ·go_enter Tryz.func37,Tryz.ntmps37
  go_wp2_with fail
  go_ret;exact ⟨by show _=Ending.returned (ii ((ws.map (·.data.toList)).length:Nat));rw [List.length_map];rfl,Below.refl _ _⟩
 ·cases ws with
  | nil =>
   go_enter Tryz.func37,Tryz.ntmps37
   go_wp2_with fail
   go_ret;exact ⟨rfl,Below.refl _ _⟩
  | cons x ws =>
   have hx:=HC.out 0 x rfl;rw [Nat.add_zero] at hx;have hl:¬ ((x::ws).length:Int)=0:=by simp only [List.length_cons];omega
   have hl0:(0:Int)<((x::ws).length:Int):=by simp only [List.length_cons];omega
   cases hq:hasPrefix x.data.toList [64] with
   | true =>
    go_enter Tryz.func37,Tryz.ntmps37
    go_wp2_with (go_at_call 66;refine (Tryz.strings_HasPrefix _ _ _).mono ?_;rintro e w1 ⟨rfl,rfl⟩;rw [hq])
    go_ret;exact ⟨by rw [zDH,hq];rfl,Below.refl _ _⟩
   | false =>
    go_enter Tryz.func37,Tryz.ntmps37
    go_wp2_with (go_at_call 66;refine (Tryz.strings_HasPrefix _ _ _).mono ?_;rintro e w1 ⟨rfl,rfl⟩;rw [hq])
    go_ret;exact ⟨by rw [zDH,hq];rfl,Below.refl _ _⟩
 ·cases ws with
  | nil =>
   go_enter Tryz.func37,Tryz.ntmps37
   go_wp2_with fail
   go_ret;exact ⟨rfl,Below.refl _ _⟩
  | cons x ws =>
   have hx:=HC.out 0 x rfl;rw [Nat.add_zero] at hx;have hl:¬ ((x::ws).length:Int)=0:=by simp only [List.length_cons];omega
   have hl0:(0:Int)<((x::ws).length:Int):=by simp only [List.length_cons];omega
   by_cases hq:x.data.toList=[105,102]
   ·have hq2:(x.toList==[105,102])=true:=by rw [toList_data,hq];rfl
    have HQ:=hid hq;clear hq;go_enter Tryz.func37,Tryz.ntmps37;go_wp2_with fail;go_ret;refine ⟨?_,Below.refl _ _⟩
    have e:uM ((x::ws).map (·.data.toList)) 4=2:=by
     show (if (some x.data.toList)=some [105,102] then 2 else 0)=2
     rw [HQ.out,if_pos rfl]
    rw [e];rfl
   ·have hq2:(x.toList==[105,102])=false:=by rw [toList_data];exact beq_eq_false_iff_ne.2 hq
    have HQ:=hid hq;clear hq;go_enter Tryz.func37,Tryz.ntmps37;go_wp2_with fail;go_ret;refine ⟨?_,Below.refl _ _⟩
    have e:uM ((x::ws).map (·.data.toList)) 4=0:=by
     show (if (some x.data.toList)=some [105,102] then 2 else 0)=0
     rw [if_neg];intro q;exact HQ.out (Option.some.inj q)
    rw [e];rfl
 ·have HI:=hid (zLo ws)
  have HS:Hid (Calls Tryz.prog 65 #[sc (some (aa b o)) ws.length c,tq ⟨#[63]⟩] w fun e w'=>e=.returned (ii (idxOfS ws ⟨#[63]⟩))/\w'=w):=hid (by
   have h:=Tryz.slices_Index_string b o ws.length c ws ⟨#[63]⟩ w (Nat.le_refl _) (by omega) (fun j hj=>by
    refine HC.out j _ ?_;simp [List.getD,hj])
   rw [List.take_length] at h;exact h)
  by_cases hm:[63]∈ws.map (·.data.toList)
  ·have hi:=HI.out;rw [if_pos hm] at hi;have HI2:=hid hi;have hge:(0:Int)<=(uM (ws.map (·.data.toList)) 5:Int):=by omega
   clear hi hm;go_enter Tryz.func37,Tryz.ntmps37;go_wp2_with (go_at_call 65;refine HS.out.mono ?_;rintro e w1 ⟨rfl,rfl⟩;rw [HI2.out]);go_ret;exact ⟨rfl,Below.refl _ _⟩
  ·have hi:=HI.out;rw [if_neg hm] at hi;have HI2:=hid hi;have HM:=hid (bO hm);clear hi hm;go_enter Tryz.func37,Tryz.ntmps37;go_wp2_with (go_at_call 65;refine HS.out.mono ?_;rintro e w1 ⟨rfl,rfl⟩;rw [HI2.out]);go_ret;refine ⟨?_,Below.refl _ _⟩
   have e:uM (ws.map (·.data.toList)) 5=ws.length:=by
    show ((ws.map (·.data.toList)).takeWhile fun x=>decide (x≠[63])).length=_
    rw [HM.out,List.length_map]
   rw [e];rfl
end
end
section
open Go.RowKit Go.Lib
theorem wM.drop {w:World} {b o c:Nat} {ws:List ByteArray} (h:wM w (.slice (some ⟨b,o,none⟩) ws.length c) ws) (n:Nat) (hn:n<=ws.length):wM w (.slice (some ⟨b,o+n,none⟩) (ws.drop n).length (c-n)) (ws.drop n):=by
 obtain ⟨b',o',c',h1,h2,h3,h4⟩:=h;injection h1 with a1 a2 a3
 injection a1 with a1
 injection a1 with q1 q2
 subst q1 q2 a3;refine ⟨b,o+n,c-n,rfl,by rw [List.length_drop];omega,h3,fun j x hx=>?_⟩;rw [List.getElem?_drop] at hx;have:=h4 (n+j) x hx
 rwa [<-Nat.add_assoc] at this
theorem wM.take {w:World} {b o c:Nat} {ws:List ByteArray} (h:wM w (.slice (some ⟨b,o,none⟩) ws.length c) ws) (n:Nat) (hn:n<=ws.length):wM w (.slice (some ⟨b,o,none⟩) n c) (ws.take n):=by
 obtain ⟨b',o',c',h1,h2,h3,h4⟩:=h;injection h1 with a1 a2 a3
 injection a1 with a1
 injection a1 with q1 q2
 subst q1 q2 a3;have hl:(ws.take n).length=n:=by rw [List.length_take];omega
 refine ⟨b,o,c,by rw [hl],by rw [hl];omega,h3,fun j x hx=>?_⟩;have hj:j<n:=by have:=(List.getElem?_eq_some_iff.1 hx).1;omega
 rw [List.getElem?_take_of_lt hj] at hx;exact h4 j x hx
theorem sC:∀(k:Nat) (l:List UInt8),l.length<=k->Lib.split l [32]=zG l
 | k,l,hk=>by
  have h1:=index_one l 32
  rcases vL l 32 with ⟨h,_⟩|⟨i,h,hi,_⟩
  ·rw [wG h];rw [h] at h1;unfold Lib.split;rw [count_miss h1];rfl
  ·rw [wO h];rw [h] at h1;unfold Lib.split;rw [count_hit (by decide) h1,Nat.add_comm];have hne:¬ (Lib.index l [32] == -1)=true:=by rw [h1];simp
   rw [splitK,if_neg hne,h1];simp only [Int.toNat_natCast,Nat.add_zero,List.length_cons,List.length_nil,Nat.zero_add]
   cases k with
   | zero=>omega
   | succ k =>
    rw [<-sC k (l.drop (i+1)) (by rw [List.length_drop];omega)];rfl
theorem zJd (l:List UInt8):(Lib.split l [32]).length<=l.length+1:=by
 rw [sC _ l (Nat.le_refl _)];exact jW l
def kQ (l:List UInt8):Option En:=if []∈zG l then none else gE (zG l)
theorem zAx {l:List UInt8} {y:En} (h:(∃x∈zG l,x=[])∨gE (zG l)=none):kQ l=if false=true then some y else none:=by
 unfold kQ
 rcases h with ⟨x,hx,rfl⟩|h
 ·rw [if_pos hx];rfl
 ·rw [h];split<;>rfl
def nI (w:World) (text:ByteArray) (e:Ending) (w':World):Prop :=
 (∃(y:Ex) (ok:Bool),e=.returned (.tuple #[wR y,.bool ok])/\(ok=true->xI w.heap.size y w')/\kQ text.data.toList=if ok=true then some y.en else none)/\Below w.heap.size w w'
def vG (k:Int):Ex:=⟨k,⟨#[]⟩,⟨#[]⟩,⟨#[]⟩,0,none,0,[],none,0,[],none,0,[],0,0⟩
theorem dM (n:Nat) (w:World) (k:Int) (h0:-9223372036854775808<=k) (h1:k<=9223372036854775807):xI n (vG k) w:=by
 have z:(0:Nat)<=maxLen:=Nat.zero_le _;have fm:pY []:=nJ (by decide);have fe:jF []:=pZ (by decide)
 exact ⟨⟨⟨rfl,.inl ⟨rfl,rfl⟩⟩,fun x hx=>by cases hx⟩,⟨z,fun x hx=>by cases hx⟩,⟨rfl,.inl ⟨rfl,rfl⟩⟩,fe,⟨rfl,.inl ⟨rfl,rfl⟩⟩,fm,
  ⟨z,z,z,h0,h1,by show (-9223372036854775808:Int)<=0;omega,by show (0:Int)<=9223372036854775807;omega,by show (0:Int)<=0;omega,by show (0:Int)<=18446744073709551615;omega,by show (-9223372036854775808:Int)<=0;omega,by show (0:Int)<=9223372036854775807;omega⟩⟩
theorem mD {w WZ:World} {R:Nat} {T:TypeId} {c0 c1 c2 c3 c4 c5 c6 c7 c8 c9:Value} (hb:w.heap[R]? = some (.cells #[c0,c1,c2,c3,c4,c5,c6,c7,c8,c9] T (0,0))) (a0 a1 a2 a3 a4 a5 a6 a7 a8 a9:Value)
  (h:((((((((((w.setCell ⟨R,0,none⟩ a0).setCell ⟨R,1,none⟩ a1).setCell ⟨R,2,none⟩ a2).setCell ⟨R,3,none⟩ a3).setCell ⟨R,4,none⟩ a4).setCell ⟨R,5,none⟩ a5).setCell ⟨R,6,none⟩ a6).setCell ⟨R,7,none⟩ a7).setCell ⟨R,8,none⟩ a8).setCell ⟨R,9,none⟩ a9)=WZ) :
  WZ.heap[R]? = some (.cells #[a0,a1,a2,a3,a4,a5,a6,a7,a8,a9] T (0,0))/\Fr (fun b=>b=R) w WZ:=by
 subst h;refine ⟨?_,?_⟩
 ·have b0:(w.setCell (aa R 0) a0).heap[R]? = some (.cells #[a0,c1,c2,c3,c4,c5,c6,c7,c8,c9] T (0,0)):=heap_setCell_same _ R 0 _ _ a0 hb;have b1:((w.setCell (aa R 0) a0).setCell (aa R 1) a1).heap[R]? = some (.cells #[a0,a1,c2,c3,c4,c5,c6,c7,c8,c9] T (0,0)):=heap_setCell_same _ R 1 _ _ a1 b0;have b2:(((w.setCell (aa R 0) a0).setCell (aa R 1) a1).setCell (aa R 2) a2).heap[R]? = some (.cells #[a0,a1,a2,c3,c4,c5,c6,c7,c8,c9] T (0,0)):=heap_setCell_same _ R 2 _ _ a2 b1;have b3:((((w.setCell (aa R 0) a0).setCell (aa R 1) a1).setCell (aa R 2) a2).setCell (aa R 3) a3).heap[R]? = some (.cells #[a0,a1,a2,a3,c4,c5,c6,c7,c8,c9] T (0,0)):=heap_setCell_same _ R 3 _ _ a3 b2;have b4:(((((w.setCell (aa R 0) a0).setCell (aa R 1) a1).setCell (aa R 2) a2).setCell (aa R 3) a3).setCell (aa R 4) a4).heap[R]? = some (.cells #[a0,a1,a2,a3,a4,c5,c6,c7,c8,c9] T (0,0)):=heap_setCell_same _ R 4 _ _ a4 b3;have b5:((((((w.setCell (aa R 0) a0).setCell (aa R 1) a1).setCell (aa R 2) a2).setCell (aa R 3) a3).setCell (aa R 4) a4).setCell (aa R 5) a5).heap[R]? = some (.cells #[a0,a1,a2,a3,a4,a5,c6,c7,c8,c9] T (0,0)):=heap_setCell_same _ R 5 _ _ a5 b4;have b6:(((((((w.setCell (aa R 0) a0).setCell (aa R 1) a1).setCell (aa R 2) a2).setCell (aa R 3) a3).setCell (aa R 4) a4).setCell (aa R 5) a5).setCell (aa R 6) a6).heap[R]? = some (.cells #[a0,a1,a2,a3,a4,a5,a6,c7,c8,c9] T (0,0)):=heap_setCell_same _ R 6 _ _ a6 b5;have b7:((((((((w.setCell (aa R 0) a0).setCell (aa R 1) a1).setCell (aa R 2) a2).setCell (aa R 3) a3).setCell (aa R 4) a4).setCell (aa R 5) a5).setCell (aa R 6) a6).setCell (aa R 7) a7).heap[R]? = some (.cells #[a0,a1,a2,a3,a4,a5,a6,a7,c8,c9] T (0,0)):=heap_setCell_same _ R 7 _ _ a7 b6;have b8:(((((((((w.setCell (aa R 0) a0).setCell (aa R 1) a1).setCell (aa R 2) a2).setCell (aa R 3) a3).setCell (aa R 4) a4).setCell (aa R 5) a5).setCell (aa R 6) a6).setCell (aa R 7) a7).setCell (aa R 8) a8).heap[R]? = some (.cells #[a0,a1,a2,a3,a4,a5,a6,a7,a8,c9] T (0,0)):=heap_setCell_same _ R 8 _ _ a8 b7;have b9:((((((((((w.setCell (aa R 0) a0).setCell (aa R 1) a1).setCell (aa R 2) a2).setCell (aa R 3) a3).setCell (aa R 4) a4).setCell (aa R 5) a5).setCell (aa R 6) a6).setCell (aa R 7) a7).setCell (aa R 8) a8).setCell (aa R 9) a9).heap[R]? = some (.cells #[a0,a1,a2,a3,a4,a5,a6,a7,a8,a9] T (0,0)):=heap_setCell_same _ R 9 _ _ a9 b8;exact b9
 ·have t:∀{u v z:World},Fr (fun b=>b=R) u v->Fr (fun b=>b=R) v z->Fr (fun b=>b=R) u z:=fun f g=>f.then g fun _ h=>Or.inl h
  exact t (t (t (t (t (t (t (t (t (yE _ R 0 _) (yE _ R 1 _)) (yE _ R 2 _)) (yE _ R 3 _)) (yE _ R 4 _)) (yE _ R 5 _)) (yE _ R 6 _)) (yE _ R 7 _)) (yE _ R 8 _)) (yE _ R 9 _)
theorem zFx (s:ByteArray) (w:World) (hs:s.size<=4294967000) (hv:wQ w) :
  ∃ws:List ByteArray,ws.map (·.data.toList)=Lib.split s.data.toList [32]/\0<ws.length /\
   Calls Tryz.prog 33 #[.string s,.string ⟨#[32]⟩] w fun e w'=>e=.returned (.slice (some ⟨w.heap.size,0,none⟩) ws.length ws.length)/\w'=w.alloc (.cells (ws.map Value.string).toArray 9):=by
 obtain ⟨m,hm⟩:=hv.max;have hl:=splitB_all ⟨#[32]⟩ (by decide) 0 _ s rfl;refine ⟨splitB ⟨#[32]⟩ 0 (countB s ⟨#[32]⟩) s,?_,by omega,?_⟩
 ·rw [splitB_data];rfl
 ·have h:=Tryz.strings_Split s ⟨#[32]⟩ m w (by omega) hm (by decide);rw [<-hl] at h;exact h
def zBo:Array Value:=#[.int .i64 0,.string ⟨#[]⟩,.string ⟨#[]⟩,.string ⟨#[]⟩,.int .i64 0,.slice none 0 0,.slice none 0 0,.slice none 0 0,.int .u64 0,.int .i64 0]
structure zNI (w:World) (ws:List ByteArray) (w1:World):Prop where
 low:Below w.heap.size w w1
 res:w1.heap[w.heap.size]? = some (.cells (yZ (vG 0)).toArray 42 (0,0))
 words:wM w1 (.slice (some ⟨w.heap.size+1,0,none⟩) ws.length ws.length) ws
 vars:wQ w1
 room:w.heap.size+1<w1.heap.size
theorem zLd (s:ByteArray) (w:World) (hs:s.size<=4294967000) (hv:wQ w) :
  ∃ws:List ByteArray,ws.map (·.data.toList)=Lib.split s.data.toList [32]/\0<ws.length /\
   Calls Tryz.prog 33 #[.string s,.string ⟨#[32]⟩] (w.alloc (.cells zBo 42)) fun e w'=>e=.returned (.slice (some ⟨w.heap.size+1,0,none⟩) ws.length ws.length)/\zNI w ws w':=by
 have hb0:=(Below.refl w.heap.size w).alloc (Nat.le_refl _) (.cells zBo 42);have hv0:=hv.on hb0;obtain ⟨ws,hws,hpos,hsp⟩:=zFx s _ hs hv0;have hsz:(w.alloc (.cells zBo 42)).heap.size=w.heap.size+1:=Array.size_push ..;refine ⟨ws,hws,hpos,hsp.mono ?_⟩;rintro e w1 ⟨rfl,rfl⟩;refine ⟨by rw [hsz],?_⟩;have hb1:=(Below.refl (w.alloc (.cells zBo 42)).heap.size (w.alloc (.cells zBo 42))).alloc (Nat.le_refl _) (.cells (ws.map Value.string).toArray 9);have hsz2:((w.alloc (.cells zBo 42)).alloc (.cells (ws.map Value.string).toArray 9)).heap.size=w.heap.size+2:=by rw [<-Nat.add_assoc w.heap.size 1 1,<-hsz];exact Array.size_push ..
 refine ⟨hb0.trans (hb1.mono (by rw [hsz];omega)),?_,?_,hv0.on hb1,by rw [hsz2];omega⟩
 ·rw [hb1.block w.heap.size (by rw [hsz];omega)];exact Array.getElem?_push_size
 ·refine ⟨_,_,_,rfl,Nat.le_refl _,by rw [hsz2];omega,fun j x hx=>?_⟩;have hh:((w.alloc (.cells zBo 42)).alloc (.cells (ws.map Value.string).toArray 9)).heap[w.heap.size+1]? = some (.cells (ws.map Value.string).toArray 9 (0,0)):=by rw [<-hsz];exact Array.getElem?_push_size
  rw [cell_of_row _ _ _ _ _ _ hh];simp [hx]
theorem zDr (w:World) (b o c:Nat) (ws:List ByteArray) (x:ByteArray) (hw:wM w (.slice (some ⟨b,o,none⟩) ws.length c) ws) (hn:ws.length<=4294967001) :
  Calls Tryz.prog 34 #[.slice (some ⟨b,o,none⟩) ws.length c,.string x] w fun e w'=>e=.returned (.bool (containsS ws x))/\w'=w:=by
 obtain ⟨b',o',c',h1,h2,h3,h4⟩:=hw;injection h1 with a1 a2 a3
 injection a1 with a1
 injection a1 with q1 q2
 subst q1 q2 a3
 have h:=Tryz.slices_Contains_string b o ws.length c ws x w (Nat.le_refl _) (by omega) (fun j hj=>by
  refine h4 j _ ?_;simp [List.getD,hj])
 rw [List.take_length] at h;exact h
theorem cX (k:Nat) (w:World) (h2:k<=12) :
  Calls Tryz.prog 36 #[.int .i64 k] w fun e w'=>(∃a n,e=.returned (.tuple #[.string ⟨(xP k).toArray⟩,.slice a n n])/\n=(zN k).length /\
   ∀(j p:Nat),(zN k)[j]? = some p->∃P,a=some ⟨P,0,none⟩/\w.heap.size<=P/\w'.cell? ⟨P,j,none⟩=some (.int .i64 p))/\Below w.heap.size w w':=by
 by_cases h0:k=0
 ·subst h0;refine (zES 0 w (by omega)).mono ?_;rintro e w' ⟨rfl,rfl⟩;exact ⟨⟨none,0,rfl,rfl,fun j p h=>by cases h⟩,Below.refl _ _⟩
 ·refine (bG k w (by omega) h2).mono ?_;rintro e w' ⟨rfl,rfl⟩;refine ⟨⟨_,_,rfl,rfl,fun j p h=>⟨_,rfl,Nat.le_refl _,?_⟩⟩,(Below.refl _ _).alloc (Nat.le_refl _) _⟩;have hh:(w.alloc (.cells (zDp k) 77)).heap[w.heap.size]? = some (.cells (zDp k) 77 (0,0)):=Array.getElem?_push_size;rw [cell_of_row _ _ _ _ _ _ hh];simp [zDp,h]
structure cJ (w:World) (G:Nat) (y:Ex) (o1:Nat) (us:List ByteArray) (wx:World):Prop where
 low:Below w.heap.size w wx
 res:wx.heap[w.heap.size]? = some (.cells (yZ (vG 0)).toArray 42 (0,0))
 words:wM wx (.slice (some ⟨w.heap.size+1,o1,none⟩) us.length us.length) us
 box:BxQ w.heap.size G y wx
 gt:w.heap.size+1<G
theorem cJ.on {w:World} {G:Nat} {y:Ex} {o1:Nat} {us:List ByteArray} {wx wy:World} (h:cJ w G y o1 us wx) (hb:Below wx.heap.size wx wy):cJ w G y o1 us wy :=
 ⟨h.low.trans (hb.mono h.low.size),(hb.block _ (by have:=h.box.lt;have:=h.gt;omega)).trans h.res,h.words.on hb,h.box.on hb,h.gt⟩
theorem wM.fr {w W:World} {b o c:Nat} {ws:List ByteArray} {P:Nat->Prop} (h:wM w (.slice (some ⟨b,o,none⟩) ws.length c) ws) (f:Fr P w W) (hb:¬ P b):wM W (.slice (some ⟨b,o,none⟩) ws.length c) ws:=by
 obtain ⟨b',o',c',h1,h2,h3,h4⟩:=h;injection h1 with a1 a2 a3
 injection a1 with a1
 injection a1 with q1 q2
 subst q1 q2 a3;exact ⟨b,o,c,rfl,h2,Nat.lt_of_lt_of_le h3 f.size,fun j x hx=>f.cell (h4 j x hx) hb⟩
theorem cJ.turn {w:World} {G:Nat} {y z:Ex} {o1:Nat} {us:List ByteArray} {wx wy:World} (h:cJ w G y o1 us wx) (f:Fr (fun b=>b=G) wx wy) (hb:BxQ w.heap.size G z wy):cJ w G z o1 us wy :=
 ⟨h.low.trans (f.below (by have:=h.low.size;exact this) fun k hk=>by have:=h.gt;omega),(f.block _ (by have:=h.box.lt;have:=h.gt;omega) (by have:=h.gt;omega)).trans h.res,h.words.fr f (by have:=h.gt;omega),hb,h.gt⟩
theorem zF3 {w:World} {b o c:Nat} {ws:List ByteArray} (h:wM w (.slice (some ⟨b,o,none⟩) ws.length c) ws) (j:Nat) (x:ByteArray) (hx:ws[j]? = some x):w.cell? ⟨b,o+j,none⟩=some (.string x):=by
 obtain ⟨b',o',c',h1,h2,h3,h4⟩:=h;injection h1 with a1 a2 a3
 injection a1 with a1
 injection a1 with q1 q2
 subst q1 q2 a3;exact h4 j x hx
theorem zNI.next {w:World} {x0:ByteArray} {us:List ByteArray} {w1 w2:World} (h:zNI w (x0::us) w1) (hb:Below w1.heap.size w1 w2) (k:Nat) (hk:k<=12) (o1:Nat) (ho:us=[]∨o1=1) :
  cJ w w2.heap.size (vG k) o1 us (w2.alloc (.cells #[.int .i64 (k:Int),.string ⟨#[]⟩,.string ⟨#[]⟩,.string ⟨#[]⟩,.int .i64 0,.slice none 0 0,.slice none 0 0,.slice none 0 0,.int .u64 0,.int .i64 0] 42)):=by
 have hal:=(Below.refl w2.heap.size w2).alloc (Nat.le_refl _) (.cells #[.int .i64 (k:Int),.string ⟨#[]⟩,.string ⟨#[]⟩,.string ⟨#[]⟩,.int .i64 0,.slice none 0 0,.slice none 0 0,.slice none 0 0,.int .u64 0,.int .i64 0] 42);have hl2:Below w.heap.size w w2:=h.low.trans (hb.mono h.low.size);have hr1:=h.room;have hs2:=hb.size;refine ⟨hl2.trans (hal.mono hl2.size),?_,?_,⟨Array.getElem?_push_size,hl2.size,dM _ _ _ (by omega) (by omega)⟩,by omega⟩
 ·rw [hal.block _ (by omega),hb.block _ (by omega)];exact h.res
 ·have hw:=(h.words.on hb).on hal
  rcases ho with rfl|rfl
  ·exact ⟨_,_,_,rfl,Nat.le_refl _,by have:=hal.size;omega,fun j x hx=>by cases hx⟩
  ·refine ⟨_,_,_,rfl,Nat.le_refl _,by have:=hal.size;omega,fun j x hx=>?_⟩;have:=zF3 hw (j+1) x (by simpa using hx)
   rwa [Nat.zero_add,Nat.add_comm j 1] at this
def zBP (a:Option Addr) (G kw:Nat) (wr:World):Prop:=∀(j p:Nat),(zN kw)[j]? = some p->∃P,a=some ⟨P,0,none⟩/\P≠G/\wr.cell? ⟨P,j,none⟩=some (.int .i64 p)
theorem zBP.on {a:Option Addr} {G kw:Nat} {wr wx:World} (h:zBP a G kw wr) (hb:Below wr.heap.size wr wx):zBP a G kw wx:=fun j p hp=>by
 obtain ⟨P,h1,h2,h3⟩:=h j p hp;exact ⟨P,h1,h2,(hb.cell (p:=(aa P j)) (gP h3)).trans h3⟩
theorem zBP.turn {a:Option Addr} {G kw:Nat} {wr wx:World} (h:zBP a G kw wr) (f:Fr (fun b=>b=G) wr wx):zBP a G kw wx:=fun j p hp=>by
 obtain ⟨P,h1,h2,h3⟩:=h j p hp;exact ⟨P,h1,h2,f.cell h3 h2⟩
theorem nA (k i p:Nat) (h:(zN k)[i]? = some p):1<=p/\p<=10:=by
 have hm:=List.mem_of_getElem? h;unfold zN at hm
 split at hm<;>simp at hm<;>omega
theorem cL (k:Nat):(zN k).length<=5:=by
 unfold zN
 split<;>simp
def tot (l:List (List UInt8)):Nat:=(l.map fun x=>x.length+1).sum
theorem jE (x:List UInt8) (l:List (List UInt8)):tot (x::l)=x.length+1+tot l:=by simp [tot]
theorem zBF (a b:List (List UInt8)):tot (a++b)=tot a+tot b:=by simp [tot]
theorem zIG (l:List (List UInt8)):l.length<=tot l:=by
 induction l with
 | nil=>simp
 | cons x l ih=>rw [jE,List.length_cons];omega
theorem zL5 (l:List (List UInt8)) (n:Nat):tot (l.take n)<=tot l:=by
 have h:=zBF (l.take n) (l.drop n);rw [List.take_append_drop] at h;omega
theorem zLs (l:List (List UInt8)) (n:Nat):tot (l.drop n)<=tot l:=by
 have h:=zBF (l.take n) (l.drop n);rw [List.take_append_drop] at h;omega
theorem zEO:∀l:List (List UInt8),(yB l).length<=tot l-1
 | []=>by simp [yB,Lib.join,List.intercalate]
 | [x]=>by rw [xC,jE];omega
 | x::y::l=>by
  have ih:=zEO (y::l);have e:yB (x::y::l)=x++32::yB (y::l):=by simp [yB,Lib.join,List.intercalate]
  rw [e,List.length_append,List.length_cons,jE];have:=zIG (y::l);simp only [List.length_cons] at this;omega
theorem zC9:∀(k:Nat) (l:List UInt8),l.length<=k->tot (zG l)=l.length+1
 | k,l,hk=>by
  rcases vL l 32 with ⟨h,_⟩|⟨i,h,hi,_⟩
  ·rw [wG h,jE];simp [tot]
  ·rw [wO h,jE]
   cases k with
   | zero=>omega
   | succ k =>
    rw [zC9 k (l.drop (i+1)) (by rw [List.length_drop];omega),List.length_take,List.length_drop];omega
theorem zMd (vs:List ByteArray) (q n:Nat) (h:tot (vs.map (·.data.toList))<=n) (hn:n<=4294967000):(zR (vs.take q)).size<=4294967000:=by
 have h1:=zEO ((vs.take q).map (·.data.toList));have h2:=zL5 (vs.map (·.data.toList)) q;rw [<-List.map_take] at h2;have h3:(zR (vs.take q)).size=(yB ((vs.take q).map (·.data.toList))).length:=rfl;omega
theorem zLX {ws:List ByteArray} (h:containsS ws ⟨#[]⟩=true):∃x∈ws.map (·.data.toList),x=[] :=
 ⟨[],List.mem_map.2 ⟨⟨#[]⟩,(containsS_iff _ _).1 h,rfl⟩,rfl⟩
theorem zNc {w:World} {ws:List ByteArray} {w1 WZ:World} {s:ByteArray} (h:zNI w ws w1) (f:Fr (fun b=>b=w.heap.size) w1 WZ) (he:∃x∈zG s.data.toList,x=[]) :
  nI w s (.returned (.tuple #[.agg #[.int .i64 0,.string ⟨#[]⟩,.string ⟨#[]⟩,.string ⟨#[]⟩,.int .i64 0,.slice none 0 0,.slice none 0 0,.slice none 0 0,.int .u64 0,.int .i64 0],.bool false])) WZ :=
 ⟨⟨vG 0,false,rfl,fun q=>(by cases q),zAx (Or.inl he)⟩,h.low.trans (f.below h.low.size fun k hk=>by omega)⟩
theorem zIK {c:Option En} {kw:Nat} {o:Option (En × List (List UInt8))} (h:c=if kw=0 then none else o.bind fun r=>if r.2=[] then some r.1 else none) (ho:o=none):c=none:=by
 rw [h,ho];split<;>rfl
theorem zLM {w:World} {G:Nat} {y:Ex} {o:Nat} {us:List ByteArray} {w1 WZ:World} {s:ByteArray} (h:cJ w G y o us w1) (f:Fr (fun b=>b=w.heap.size) w1 WZ) (he:gE (zG s.data.toList)=none) :
  nI w s (.returned (.tuple #[.agg #[.int .i64 0,.string ⟨#[]⟩,.string ⟨#[]⟩,.string ⟨#[]⟩,.int .i64 0,.slice none 0 0,.slice none 0 0,.slice none 0 0,.int .u64 0,.int .i64 0],.bool false])) WZ :=
 ⟨⟨vG 0,false,rfl,fun q=>(by cases q),zAx (Or.inr he)⟩,h.low.trans (f.below h.low.size fun k hk=>by omega)⟩
theorem zLz {w:World} {G:Nat} {y:Ex} {o:Nat} {us:List ByteArray} {w1 WZ:World} {s:ByteArray} (h:cJ w G y o us w1) (f:Fr (fun b=>b=w.heap.size) w1 WZ) (he:gE (zG s.data.toList)=none) :
  nI w s (.returned (.tuple #[.agg #[.int .i64 y.kind,.string y.temp,.string y.ka,.string y.kb,.int .i64 y.iff,.slice y.vp y.vo.length y.vc,.slice y.ep y.eo.length y.ec,.slice y.pp y.po.length y.pc,.int .u64 y.stamp,.int .i64 y.num],.bool false])) WZ :=
 ⟨⟨y,false,rfl,fun q=>(by cases q),zAx (Or.inr he)⟩,h.low.trans (f.below h.low.size fun k hk=>by omega)⟩
theorem zNY {w:World} {G:Nat} {y:Ex} {o:Nat} {us:List ByteArray} {w1 WZ:World} {s:ByteArray} (h:cJ w G y o us w1) (f:Fr (fun b=>b=w.heap.size) w1 WZ) (hne:[] ∉ zG s.data.toList) (he:gE (zG s.data.toList)=some y.en) :
  nI w s (.returned (.tuple #[.agg #[.int .i64 y.kind,.string y.temp,.string y.ka,.string y.kb,.int .i64 y.iff,.slice y.vp y.vo.length y.vc,.slice y.ep y.eo.length y.ec,.slice y.pp y.po.length y.pc,.int .u64 y.stamp,.int .i64 y.num],.bool true])) WZ :=
 ⟨⟨y,true,rfl,fun _=>h.box.own.fr h.res f,by unfold kQ;rw [if_neg hne,he];rfl⟩,h.low.trans (f.below h.low.size fun k hk=>by omega)⟩
theorem zCx (k:Nat) (h1:1<=k) (h2:k<=12):(xP k).isEmpty=false:=by
 have:k=1∨k=2∨k=3∨k=4∨k=5∨k=6∨k=7∨k=8∨k=9∨k=10∨k=11∨k=12:=by omega
 rcases this with rfl|rfl|rfl|rfl|rfl|rfl|rfl|rfl|rfl|rfl|rfl|rfl<;>rfl
theorem zFf (s:ByteArray) (w:World) (hs:s.size<=4294967000) (hv:wQ w) :
  Calls Tryz.prog 17 #[.string s] w fun e w'=>nI w s e w':=by
 obtain ⟨ws,hws,hpos,hsp⟩:=zLd s w hs hv
 have HSP:=hid hsp
 have HWS:=hid hws
 have hlen:ws.length<=4294967001:=by
  have h1:=congrArg List.length hws
  rw [List.length_map] at h1
  have h2:=zJd s.data.toList
  have e2:s.data.toList.length=s.size:=rfl
  omega
 have HV:=hid hv
 have HV:=hid hv
 clear hv hsp hws
 go_enter Tryz.func17,Tryz.ntmps17
 go_wp2_with fail
 refine HSP.out.mono ?_
 rintro e w1 ⟨rfl,hst⟩
 have HST:=hid hst
 clear hst
 go_wp2_with fail
 refine (zDr w1 _ _ _ ws ⟨#[]⟩ HST.out.words hlen).mono ?_
 rintro e w1' ⟨rfl,he⟩
 subst he
 cases hct:containsS ws ⟨#[]⟩ with
 | true =>
  obtain ⟨WZ,hWZ⟩:∃WZ,((((((((((w1'.setCell (aa w.heap.size 0) (ii 0)).setCell (aa w.heap.size 1) (tq ⟨#[]⟩)).setCell (aa w.heap.size 2) (tq ⟨#[]⟩)).setCell (aa w.heap.size 3) (tq ⟨#[]⟩)).setCell (aa w.heap.size 4) (ii 0)).setCell (aa w.heap.size 5) (sc none 0 0)).setCell (aa w.heap.size 6) (sc none 0 0)).setCell (aa w.heap.size 7) (sc none 0 0)).setCell (aa w.heap.size 8) (iu 0)).setCell (aa w.heap.size 9) (ii 0))=WZ:=⟨_,rfl⟩
  obtain ⟨hbz,fz⟩:=mD HST.out.res _ _ _ _ _ _ _ _ _ _ hWZ
  have HFIN:Hid (nI w s (.returned (.tuple #[.agg vZ,.bool false])) WZ):=hid (zNc HST.out fz (by rw [<-sC _ _ (Nat.le_refl _),<-HWS.out];exact zLX hct))
  obtain ⟨y0,y1,y2,y3,y4,y5,y6,y7,y8,y9⟩:=sJ HST.out.res
  have z0:=Lib.frozen_of_heap HST.out.res
  obtain ⟨g0,g1,g2,g3,g4,g5,g6,g7,g8,g9⟩:=sJ hbz
  clear hbz fz
  go_wp2_with fail
  try rw [hWZ]
  exact bodyPost_ret (v:=.tuple #[.agg vZ,.bool false]) (by simp [results,Tryz.results17,go_sem,g0,g1,g2,g3,g4,g5,g6,g7,g8,g9]) rfl HFIN.out
 | false =>
  obtain ⟨x0,us,rfl⟩:∃x0 us,ws=x0::us:=by
   cases ws with
   | nil=>simp at hpos
   | cons a b=>exact ⟨a,b,rfl⟩
  have hx0:=zF3 HST.out.words 0 x0 rfl
  rw [Nat.add_zero] at hx0
  have hl0:(0:Int)<((x0::us).length:Int):=by simp only [List.length_cons];omega
  have hl1:(1:Int)<=((x0::us).length:Int):=by simp only [List.length_cons];omega
  go_upto_region 5 with (first|(go_at_call 35;refine (zLg x0 w1').mono ?_;rintro e w2 ⟨rfl,hb2⟩;have HB2:=hid hb2;clear hb2))
  have hk12:=cG x0.data.toList
  generalize hkw:yX x0.data.toList=kw at *
  have HEO:Hid (gE (zG s.data.toList)=if kw=0 then none else (zH (zN kw) (zC kw) (us.map (·.data.toList))).bind fun r=>if r.2=[] then some r.1 else none):=hid (by
   rw [<-sC _ _ (Nat.le_refl _),<-HWS.out,List.map_cons,gE,hkw])
  have HNE:Hid ([] ∉ zG s.data.toList):=hid (by
   rw [<-sC _ _ (Nat.le_refl _),<-HWS.out]
   intro h
   obtain ⟨x,hx,he⟩:=List.mem_map.1 h
   have hx2:x=⟨#[]⟩:=fY he
   have:=(containsS_iff (x0::us) ⟨#[]⟩).2 (by rw [<-hx2];exact hx)
   rw [hct] at this;cases this)
  have HTOT:Hid (tot (us.map (·.data.toList))<=s.size):=hid (by
   have h:=zC9 _ s.data.toList (Nat.le_refl _)
   rw [<-sC _ _ (Nat.le_refl _),<-HWS.out,List.map_cons,jE] at h
   have e2:s.data.toList.length=s.size:=rfl
   omega)
  clear hkw
  go_cut [2,4,5] from 11 (fun v2 v4 v5 wx=>∃G o1,v2=.pointer (some (aa w.heap.size 0))/\v4=sc (some (aa (w.heap.size+1) o1)) us.length us.length/\v5=.pointer (some (aa G 0))/\Hid (cJ w G (vG kw) o1 us wx))
  case first =>
   by_cases hu:us=[]
   ·have HS:=hid (HST.out.next HB2.out kw hk12 0 (Or.inl hu))
    subst hu
    go_wp2_with fail
    go_meet
    case rel=>exact ⟨_,_,rfl,rfl,rfl,HS.out⟩
   ·have HS:=hid (HST.out.next HB2.out kw hk12 1 (Or.inr rfl))
    have hun:¬ us.length=0:=fun q=>hu (List.eq_nil_of_length_eq_zero q)
    go_wp2_with fail
    go_meet
    case rel=>exact ⟨_,_,rfl,rfl,rfl,HS.out⟩
  case rest =>
  obtain ⟨G,o1,rfl,rfl,rfl,HS⟩:=hcut
  clear HB2 HST hx0 HSP
  have hc0:=HS.out.box.cell 0 _ rfl
  go_wp2_with fail
  refine (cX kw _ hk12).mono ?_
  rintro e w3 ⟨⟨a,n,rfl,hn,hpt⟩,hb3⟩
  have HN:=hid hn
  have HS3:=hid (HS.out.on hb3)
  have HPT:Hid (zBP a G kw w3):=hid fun j p hp=>by
   obtain ⟨P,h1,h2,h3⟩:=hpt j p hp
   exact ⟨P,h1,by have:=HS.out.box.lt;omega,h3⟩
  clear hn hpt hb3 HS hc0
  go_wp2_with fail
  go_loopg [4,31] n (fun g v4 vi wr=>∃(i o:Nat) (vs:List ByteArray) (y:Ex),v4=sc (some (aa (w.heap.size+1) o)) vs.length vs.length/\vi=ii i/\i<=n/\n-i<=g/\Hid (cJ w G y o vs wr)/\Hid (zBP a G kw wr)/\Hid (zH (zN kw) (zC kw) (us.map (·.data.toList))=zH ((zN kw).drop i) y.en (vs.map (·.data.toList)))/\Hid (tot (vs.map (·.data.toList))<=s.size))
  case atStart=>exact ⟨0,o1,us,vG kw,rfl,rfl,by omega,by omega,HS3,HPT,hid rfl,HTOT⟩
  case round =>
   obtain ⟨i,o,vs,y,rfl,rfl,hi,hig,HL,HP,HE,HT⟩:=hrel
   have hvl:vs.length<=4294967000:=by
    have h1:=zIG (vs.map (·.data.toList))
    have h2:=HT.out
    rw [List.length_map] at h1
    omega
   have hn5:n<=5:=by rw [HN.out];exact cL kw
   by_cases hlt:i<n
   ·have HLT:=hid hlt
    have hltz:(i:Int)<(n:Int):=by omega
    have hiz:(0:Int)<=(i:Int):=by omega
    obtain ⟨p,hp⟩:∃p,(zN kw)[i]? = some p:=⟨_,List.getElem?_eq_getElem (by rw [<-HN.out];exact hlt)⟩
    obtain ⟨P,hPa,hPG,hPc⟩:=HP.out i p hp
    subst hPa
    obtain ⟨hp1,hp10⟩:=nA kw i p hp
    have HDR:Hid ((zN kw).drop i=p::(zN kw).drop (i+1)):=hid (by
     obtain ⟨h1,h2⟩:=List.getElem?_eq_some_iff.1 hp
     rw [<-h2];exact List.drop_eq_getElem_cons h1)
    clear hp
    go_wp2_with fail
    refine (zGQ _ vs wr HL.out.words hvl p hp1 hp10).mono ?_
    rintro e w4 ⟨rfl,hb4⟩
    have HL4:=hid (HL.out.on hb4)
    have HP4:=hid (HP.out.on hb4)
    clear hb4 hPc
    obtain ⟨q,hq⟩:∃q,uM (vs.map (·.data.toList)) p=q:=⟨_,rfl⟩
    have HQ:=hid hq
    rw [hq]
    clear hq
    by_cases hgt:vs.length<q
    ·have hgz:(vs.length:Int)<(q:Int):=by omega
     obtain ⟨WZ,hWZ⟩:∃WZ,((((((((((w4.setCell (aa w.heap.size 0) (ii 0)).setCell (aa w.heap.size 1) (tq ⟨#[]⟩)).setCell (aa w.heap.size 2) (tq ⟨#[]⟩)).setCell (aa w.heap.size 3) (tq ⟨#[]⟩)).setCell (aa w.heap.size 4) (ii 0)).setCell (aa w.heap.size 5) (sc none 0 0)).setCell (aa w.heap.size 6) (sc none 0 0)).setCell (aa w.heap.size 7) (sc none 0 0)).setCell (aa w.heap.size 8) (iu 0)).setCell (aa w.heap.size 9) (ii 0))=WZ:=⟨_,rfl⟩
     obtain ⟨hbz,fz⟩:=mD HL4.out.res _ _ _ _ _ _ _ _ _ _ hWZ
     have HFIN:Hid (nI w s (.returned (.tuple #[.agg vZ,.bool false])) WZ):=hid (zLM HL4.out fz (zIK HEO.out (by rw [HE.out,HDR.out,zH,if_pos (by rw [HQ.out,List.length_map];exact hgt)])))
     obtain ⟨y0,y1,y2,y3,y4,y5,y6,y7,y8,y9⟩:=sJ HL4.out.res
     have z0:=Lib.frozen_of_heap HL4.out.res
     obtain ⟨g0,g1,g2,g3,g4,g5,g6,g7,g8,g9⟩:=sJ hbz
     clear hbz fz
     go_wp2_with fail
     try rw [hWZ]
     exact bodyPost_ret (v:=.tuple #[.agg vZ,.bool false]) (by simp [results,Tryz.results17,go_sem,g0,g1,g2,g3,g4,g5,g6,g7,g8,g9]) rfl HFIN.out
    ·have hgz:¬ (vs.length:Int)<(q:Int):=by omega
     have hq0:(0:Int)<=(q:Int):=by omega
     have hqv:(q:Int)<=(vs.length:Int):=by omega
     have hwt:=HL4.out.words.take q (by omega)
     have hsz:(zR (vs.take q)).size<=4294967000:=zMd vs q s.size HT.out hs
     have HRD:Hid (∀V,V=Value.slice (some (aa (w.heap.size+1) o)) q vs.length->Calls Tryz.prog 38 #[.pointer (some (aa G 0)),ii p,V] w4 fun e w'=>pB w.heap.size G y p (vs.take q) w4 e w'):=hid fun V hV=>by
      subst hV
      exact zHb _ (vs.take q) G w.heap.size y w4 (HV.out.on HL4.out.low) hwt hsz (by rw [List.length_take];omega) HL4.out.box p hp1 hp10
     have HST2:Hid (zH (zN kw) (zC kw) (us.map (·.data.toList))=(xJ y.en p (zR (vs.take q)).data.toList).bind fun f=>zH ((zN kw).drop (i+1)) f ((vs.drop q).map (·.data.toList))):=hid (by
      rw [HE.out,HDR.out,zH,HQ.out,if_neg (by rw [List.length_map];exact hgt),zHf,List.map_take,List.map_drop])
     clear hwt
     go_wp2_with fail
     refine (HRD.out _ rfl).mono ?_
     rintro e w5 ⟨⟨ok,z,rfl,hbx,hrd⟩,hfr⟩
     have HL5:=hid (HL4.out.turn hfr hbx)
     have HP5:=hid (HP4.out.turn hfr)
     have HRD2:=hid hrd
     clear hfr hbx hrd HRD HL4 HP4 HL HP
     cases ok with
     | false =>
      obtain ⟨WZ,hWZ⟩:∃WZ,((((((((((w5.setCell (aa w.heap.size 0) (ii 0)).setCell (aa w.heap.size 1) (tq ⟨#[]⟩)).setCell (aa w.heap.size 2) (tq ⟨#[]⟩)).setCell (aa w.heap.size 3) (tq ⟨#[]⟩)).setCell (aa w.heap.size 4) (ii 0)).setCell (aa w.heap.size 5) (sc none 0 0)).setCell (aa w.heap.size 6) (sc none 0 0)).setCell (aa w.heap.size 7) (sc none 0 0)).setCell (aa w.heap.size 8) (iu 0)).setCell (aa w.heap.size 9) (ii 0))=WZ:=⟨_,rfl⟩
      obtain ⟨hbz,fz⟩:=mD HL5.out.res _ _ _ _ _ _ _ _ _ _ hWZ
      have HFIN:Hid (nI w s (.returned (.tuple #[.agg vZ,.bool false])) WZ):=hid (zLM HL5.out fz (zIK HEO.out (by rw [HST2.out,HRD2.out];rfl)))
      obtain ⟨y0,y1,y2,y3,y4,y5,y6,y7,y8,y9⟩:=sJ HL5.out.res
      have z0:=Lib.frozen_of_heap HL5.out.res
      obtain ⟨g0,g1,g2,g3,g4,g5,g6,g7,g8,g9⟩:=sJ hbz
      clear hbz fz
      go_wp2_with fail
      try rw [hWZ]
      exact bodyPost_ret (v:=.tuple #[.agg vZ,.bool false]) (by simp [results,Tryz.results17,go_sem,g0,g1,g2,g3,g4,g5,g6,g7,g8,g9]) rfl HFIN.out
     | true =>
      have HE5:Hid (zH (zN kw) (zC kw) (us.map (·.data.toList))=zH ((zN kw).drop (i+1)) z.en ((vs.drop q).map (·.data.toList))):=hid (by rw [HST2.out,HRD2.out];rfl)
      have HT5:Hid (tot ((vs.drop q).map (·.data.toList))<=s.size):=hid (by
       have h:=zLs (vs.map (·.data.toList)) q
       rw [<-List.map_drop] at h
       exact Nat.le_trans h HT.out)
      have HLD:=hid (List.length_drop (i:=q) (l:=vs))
      by_cases hqe:q=vs.length
      ·have HW5:Hid (cJ w G z o (vs.drop q) w5):=hid (by
        have e:vs.drop q=[]:=by rw [hqe];exact List.drop_length
        rw [e]
        exact ⟨HL5.out.low,HL5.out.res,⟨_,_,_,rfl,Nat.le_refl _,by have:=HL5.out.box.lt;have:=HL5.out.gt;omega,fun j x hx=>by cases hx⟩,HL5.out.box,HL5.out.gt⟩)
       subst hqe
       go_wp2_with fail
       go_roundg (n-(i+1))
       case measure=>omega
       exact ⟨i+1,o,vs.drop vs.length,z,by rw [HLD.out,Nat.sub_self],by go_num,HLT.out,Nat.le_refl _,HW5.out,HP5.out,HE5.out,HT5.out⟩
      ·have HW5:Hid (cJ w G z (o+q) (vs.drop q) w5):=hid (by
        have h:=HL5.out.words.drop q (by omega)
        refine ⟨HL5.out.low,HL5.out.res,?_,HL5.out.box,HL5.out.gt⟩
        rw [<-HLD.out] at h
        exact h)
       have hqe2:¬ vs.length=q:=fun h=>hqe h.symm
       go_wp2_with fail
       go_roundg (n-(i+1))
       case measure=>omega
       exact ⟨i+1,o+q,vs.drop q,z,by rw [HLD.out],by go_num,HLT.out,Nat.le_refl _,HW5.out,HP5.out,HE5.out,HT5.out⟩
   ·have hltz:¬ (i:Int)<(n:Int):=by omega
    have HE6:Hid (zH (zN kw) (zC kw) (us.map (·.data.toList))=some (y.en,vs.map (·.data.toList))):=hid (by
     rw [HE.out,List.drop_eq_nil_of_le (by rw [<-HN.out];omega)];rfl)
    have c0:=HL.out.box.cell 0 _ rfl
    have c1:=HL.out.box.cell 1 _ rfl
    have c2:=HL.out.box.cell 2 _ rfl
    have c3:=HL.out.box.cell 3 _ rfl
    have c4:=HL.out.box.cell 4 _ rfl
    have c5:=HL.out.box.cell 5 _ rfl
    have c6:=HL.out.box.cell 6 _ rfl
    have c7:=HL.out.box.cell 7 _ rfl
    have c8:=HL.out.box.cell 8 _ rfl
    have c9:=HL.out.box.cell 9 _ rfl
    simp only [Ex.vs,Ex.es,Ex.ps] at c5 c6 c7
    by_cases hk0:kw=0
    ·subst hk0
     obtain ⟨WZ,hWZ⟩:∃WZ,((((((((((wr.setCell (aa w.heap.size 0) (ii y.kind)).setCell (aa w.heap.size 1) (tq y.temp)).setCell (aa w.heap.size 2) (tq y.ka)).setCell (aa w.heap.size 3) (tq y.kb)).setCell (aa w.heap.size 4) (ii y.iff)).setCell (aa w.heap.size 5) (sc y.vp y.vo.length y.vc)).setCell (aa w.heap.size 6) (sc y.ep y.eo.length y.ec)).setCell (aa w.heap.size 7) (sc y.pp y.po.length y.pc)).setCell (aa w.heap.size 8) (iu y.stamp)).setCell (aa w.heap.size 9) (ii y.num))=WZ:=⟨_,rfl⟩
     obtain ⟨hbz,fz⟩:=mD HL.out.res _ _ _ _ _ _ _ _ _ _ hWZ
     have HFIN:Hid (nI w s (.returned (.tuple #[.agg (vE y),.bool false])) WZ):=hid (zLz HL.out fz (by rw [HEO.out,if_pos rfl]))
     obtain ⟨y0,y1,y2,y3,y4,y5,y6,y7,y8,y9⟩:=sJ HL.out.res
     have z0:=Lib.frozen_of_heap HL.out.res
     obtain ⟨g0,g1,g2,g3,g4,g5,g6,g7,g8,g9⟩:=sJ hbz
     clear hbz fz
     go_wp2_with fail
     try rw [hWZ]
     exact bodyPost_ret (v:=.tuple #[.agg (vE y),.bool false]) (by simp [results,Tryz.results17,go_sem,g0,g1,g2,g3,g4,g5,g6,g7,g8,g9]) rfl HFIN.out
    ·have hnm:(xP kw).isEmpty=false:=zCx kw (by omega) hk12
     cases vs with
     | nil =>
      obtain ⟨WZ,hWZ⟩:∃WZ,((((((((((wr.setCell (aa w.heap.size 0) (ii y.kind)).setCell (aa w.heap.size 1) (tq y.temp)).setCell (aa w.heap.size 2) (tq y.ka)).setCell (aa w.heap.size 3) (tq y.kb)).setCell (aa w.heap.size 4) (ii y.iff)).setCell (aa w.heap.size 5) (sc y.vp y.vo.length y.vc)).setCell (aa w.heap.size 6) (sc y.ep y.eo.length y.ec)).setCell (aa w.heap.size 7) (sc y.pp y.po.length y.pc)).setCell (aa w.heap.size 8) (iu y.stamp)).setCell (aa w.heap.size 9) (ii y.num))=WZ:=⟨_,rfl⟩
      obtain ⟨hbz,fz⟩:=mD HL.out.res _ _ _ _ _ _ _ _ _ _ hWZ
      have HFIN:Hid (nI w s (.returned (.tuple #[.agg (vE y),.bool true])) WZ):=hid (zNY HL.out fz HNE.out (by rw [HEO.out,if_neg hk0,HE6.out];rfl))
      obtain ⟨y0,y1,y2,y3,y4,y5,y6,y7,y8,y9⟩:=sJ HL.out.res
      have z0:=Lib.frozen_of_heap HL.out.res
      obtain ⟨g0,g1,g2,g3,g4,g5,g6,g7,g8,g9⟩:=sJ hbz
      clear hbz fz
      go_wp2_with fail
      try rw [hWZ]
      exact bodyPost_ret (v:=.tuple #[.agg (vE y),.bool true]) (by simp [results,Tryz.results17,go_sem,g0,g1,g2,g3,g4,g5,g6,g7,g8,g9]) rfl HFIN.out
     | cons v0 vt =>
      have hv0:¬ ((v0::vt).length:Int)=0:=by simp only [List.length_cons];omega
      have hv1:¬ (vt.length:Int)+1=0:=by omega
      obtain ⟨WZ,hWZ⟩:∃WZ,((((((((((wr.setCell (aa w.heap.size 0) (ii y.kind)).setCell (aa w.heap.size 1) (tq y.temp)).setCell (aa w.heap.size 2) (tq y.ka)).setCell (aa w.heap.size 3) (tq y.kb)).setCell (aa w.heap.size 4) (ii y.iff)).setCell (aa w.heap.size 5) (sc y.vp y.vo.length y.vc)).setCell (aa w.heap.size 6) (sc y.ep y.eo.length y.ec)).setCell (aa w.heap.size 7) (sc y.pp y.po.length y.pc)).setCell (aa w.heap.size 8) (iu y.stamp)).setCell (aa w.heap.size 9) (ii y.num))=WZ:=⟨_,rfl⟩
      obtain ⟨hbz,fz⟩:=mD HL.out.res _ _ _ _ _ _ _ _ _ _ hWZ
      have HFIN:Hid (nI w s (.returned (.tuple #[.agg (vE y),.bool false])) WZ):=hid (zLz HL.out fz (by rw [HEO.out,if_neg hk0,HE6.out];rfl))
      obtain ⟨y0,y1,y2,y3,y4,y5,y6,y7,y8,y9⟩:=sJ HL.out.res
      have z0:=Lib.frozen_of_heap HL.out.res
      obtain ⟨g0,g1,g2,g3,g4,g5,g6,g7,g8,g9⟩:=sJ hbz
      clear hbz fz
      go_wp2_with fail
      try rw [hWZ]
      exact bodyPost_ret (v:=.tuple #[.agg (vE y),.bool false]) (by simp [results,Tryz.results17,go_sem,g0,g1,g2,g3,g4,g5,g6,g7,g8,g9,hv1]) rfl HFIN.out
end
section
open Go.RowKit
def jX:List UInt8:=[32,59,32]
def wY (l:List UInt8):List (List UInt8):=Lib.split l jX
theorem bT {l:List UInt8} (h:Lib.index l jX=-1):wY l=[l]:=by
 unfold wY Lib.split;rw [Lib.count_miss h];rfl
theorem fP {l:List UInt8} {i:Nat} (h:Lib.index l jX=(i:Int)):wY l=l.take i::wY (l.drop (i+3)):=by
 unfold wY Lib.split;rw [Lib.count_hit (by decide) h,Nat.add_comm];have hne:¬ (Lib.index l jX == -1)=true:=by rw [h];simp
 rw [Lib.splitK,if_neg hne,h];simp only [Int.toNat_natCast,Nat.add_zero];rfl
theorem zCv (l:List UInt8):Lib.index l jX=-1∨∃i:Nat,Lib.index l jX=(i:Int)/\i+3<=l.length:=by
 rcases Lib.index_spec l jX with ⟨h,_⟩|⟨i,h,_⟩
 ·exact .inl h
 ·refine .inr ⟨i,h,?_⟩;have:=Lib.index_room l jX (by rw [h];omega);rw [h] at this;have e:jX.length=3:=rfl;omega
theorem zHT (l:List UInt8):0<(wY l).length:=by
 rcases zCv l with h|⟨i,h,_⟩
 ·rw [bT h];simp
 ·rw [fP h];simp
def bE (b1 b2 b3:Nat) (t:ByteArray) (W:World):Prop :=
 W.heap[b1]? = some (.cells #[.string ⟨#[32,59,32]⟩] 9 (0,0))/\W.heap[b2]? = some (.cells #[.string t] 9 (0,0))/\W.heap[b3]? = some (.cells #[.int .i64 0] 3 (0,0))/\b1≠b2/\b3≠b2
def zA0 (W:World):Prop:=∃m:Int,W.cell? ⟨2,0,none⟩=some (.int .i64 m)
theorem zA0.kept {W W':World} (h:zA0 W) (hk:W'.heap[(2:Nat)]? = W.heap[(2:Nat)]?):zA0 W':=by
 obtain ⟨m,hm⟩:=h;refine ⟨m,?_⟩;rw [<-hm];unfold World.cell?;rw [hk]
def Kp4 (b1 b2 b3:Nat) (W W':World):Prop:=Kp3 b1 b2 b3 W W'/\W'.heap[(2:Nat)]? = W.heap[(2:Nat)]?
def zFR {M:Nat} (b1 b2 b3:Nat) (s:ByteArray) (J:List (Wd M)->World->Prop) (wr:World):Prop :=
 ∃(pre:List (Wd M)) (t:ByteArray),bE b1 b2 b3 t wr/\zA0 wr/\t.size<=M/\wY s.data.toList=zU pre++wY t.data.toList/\J pre wr
theorem fM {b1 b2 b3:Nat} {t:ByteArray} {W:World} (h:bE b1 b2 b3 t W):W.cell? ⟨b1,0,none⟩=some (.string ⟨#[32,59,32]⟩)/\W.cell? ⟨b2,0,none⟩=some (.string t)/\W.cell? ⟨b3,0,none⟩=some (.int .i64 0)/\W.frozen? ⟨b2,0,none⟩=false :=
 ⟨by rw [Lib.cell_of_heap h.1];rfl,by rw [Lib.cell_of_heap h.2.1];rfl,by rw [Lib.cell_of_heap h.2.2.1];rfl,Lib.frozen_of_heap h.2.1 0⟩
theorem bE.kp {b1 b2 b3:Nat} {t:ByteArray} {W W':World} (h:bE b1 b2 b3 t W) (hk:Kp3 b1 b2 b3 W W'):bE b1 b2 b3 t W' :=
 ⟨hk.1.trans h.1,hk.2.1.trans h.2.1,hk.2.2.trans h.2.2.1,h.2.2.2⟩
theorem bE.put {b1 b2 b3:Nat} {t u:ByteArray} {W:World} (h:bE b1 b2 b3 t W):bE b1 b2 b3 u (W.setCell ⟨b2,0,none⟩ (.string u)) :=
 ⟨(Below.heap_setCell W (aa b2 0) _ b1 h.2.2.2.1).trans h.1,heap_setCell_same W b2 0 _ _ _ h.2.1,(Below.heap_setCell W (aa b2 0) _ b3 h.2.2.2.2).trans h.2.2.1,h.2.2.2⟩
theorem zEn {b1 b2 b3:Nat} {t:ByteArray} {W:World} (h:bE b1 b2 b3 t W):bC b2 W=t.size:=by
 unfold bC;rw [(fM h).2.1]
theorem zIb (n:Nat) (hn:1<=n) (M l b1 b2 b3:Nat) (s:ByteArray) (hs:s.size<=M) (hM:M<=4294967000) (J Jx:List (Wd M)->World->Prop)
  (hJ:∀s W v,J s W->J s (W.setCell ⟨b2,0,none⟩ v)) (hb2:(2:Nat)≠b2)
  (hY:∀pre x W,J pre W->pre.length<(wY s.data.toList).length->YieldAt Fence.wide (n-1) Tryz.prog l (zAa x) W fun e W' =>
   (e=.returned (.bool true)/\J (pre++[x]) W'/\Kp4 b1 b2 b3 W W')∨(e=.returned (.bool false)/\Jx (pre++[x]) W'))
  (W:World) (hB:bE b1 b2 b3 s W) (hMx:zA0 W) (h0:J [] W) :
  CallsIn Fence.wide n Tryz.prog 61 #[.func (.yield l) #[] #[],.pointer (some ⟨b1,0,none⟩),.pointer (some ⟨b2,0,none⟩),.pointer (some ⟨b3,0,none⟩)] W fun e W'=>(∃v,e=.returned v) /\
   ((∃ys,zU ys=wY s.data.toList/\J ys W')∨(∃pre,zU pre <+: wY s.data.toList/\Jx pre W')):=by
 refine callsIn_of_wp Tryz.func61 rfl trivial ?_ rfl;simp only [Tryz.ntmps61,List.size_toArray,List.length_cons,List.length_nil,Nat.reduceAdd,Nat.reduceSub,Array.replicate_succ,Array.replicate_zero,List.push_toArray,List.append_toArray,List.nil_append,List.cons_append];have c1:W.cell? (aa b1 0)=some (tq ⟨#[32,59,32]⟩):=by rw [Lib.cell_of_heap hB.1];rfl
 have HB:=hid hB;clear hB
 gi_wp2
 clear c1;have ST0:Hid (zFR b1 b2 b3 s J W):=⟨[],s,HB.out,hMx,hs,rfl,h0⟩
 gi_loopw [7] (fun _ wr=>zFR b1 b2 b3 s J wr) (fun _ wr=>bC b2 wr)
 case atStart=>exact ST0.out
 case round =>
  obtain ⟨pre,t,hB,hMr,ht,hsp,hJs⟩:=hrel;obtain ⟨k1,k2,k3,k4⟩:=fM hB
  have hlen:pre.length<(wY s.data.toList).length:=by
   rw [hsp,List.length_append];have:=zHT t.data.toList;have e:(zU pre).length=pre.length:=by simp [zU]
   omega
  have HMR:=hid hMr;obtain ⟨m,hm⟩:=hMr;have HIX:Hid (Calls Tryz.prog 63 #[tq t,tq ⟨#[32,59,32]⟩] wr fun e w'=>e=.returned (ii (Lib.index t.data.toList jX))/\w'=wr):=hid (Tryz.strings_Index t ⟨#[32,59,32]⟩ m wr (by omega) hm);clear hm
  rcases zCv t.data.toList with hix|⟨i,hix,hil⟩
  ·have HX:=hid hix;have hsn:=bT hix
   have HF:Hid (zU (pre++[⟨t,ht⟩])=wY s.data.toList):=by
    show _=_
    rw [hsp,hsn];simp [zU]
   obtain ⟨fn,tmps,assign,body,hy,hR⟩:=hY pre ⟨t,ht⟩ wr hJs hlen;simp only [zAa] at hy;clear hix hsn hsp
   gi_wp2_with (refine ⟨trivial,?_⟩;gi_at_call 63;refine (callsIn_wide.2 HIX.out).mono ?_;rintro e w' ⟨rfl,rfl⟩;rw [HX.out])
   refine hR.mono ?_;rintro e W3 (⟨rfl,hJ3,_⟩|⟨rfl,hJx3⟩)
   ·gi_wp2
    go_end0
    exact ⟨⟨_,rfl⟩,.inl ⟨_,HF.out,hJ3⟩⟩
   ·gi_wp2
    go_end0
    exact ⟨⟨_,rfl⟩,.inr ⟨_,⟨[],by rw [HF.out];simp⟩,hJx3⟩⟩
  ·have HX:=hid hix;have hsn:=fP hix;have hil':i+3<=t.size:=by simpa using hil
   have hxs:(t.extract 0 i).size<=M:=by simp;omega
   have e1:(t.extract 0 i).data.toList=t.data.toList.take i:=by rw [Lib.extract_data];simp
   have e2:(t.extract (i+3) t.size).data.toList=t.data.toList.drop (i+3):=Lib.extract_to_end t (i+3)
   have HF:Hid (wY s.data.toList=zU (pre++[(⟨t.extract 0 i,hxs⟩:Wd M)])++wY (t.extract (i+3) t.size).data.toList):=by
    show _=_
    rw [hsp,hsn,e2];simp only [zU,List.map_append,List.map_cons,List.map_nil,e1,List.append_assoc,List.cons_append,List.nil_append]
   obtain ⟨fn,tmps,assign,body,hy,hR⟩:=hY pre ⟨t.extract 0 i,hxs⟩ wr hJs hlen;simp only [zAa] at hy;have z0:(0:Int)<=(i:Int):=by omega
   have z1:(i:Int)<=(t.size:Int):=by omega
   have z2:(0:Int)<=(i:Int)+3:=by omega
   have z3:(i:Int)+3<=(t.size:Int):=by omega
   have HB2:=hid hB;clear hix hsn hsp e1 e2 hil hB
   gi_wp2_with (refine ⟨trivial,?_⟩;gi_at_call 63;refine (callsIn_wide.2 HIX.out).mono ?_;rintro e w' ⟨rfl,rfl⟩;rw [HX.out])
   refine hR.mono ?_;rintro e W3 (⟨rfl,hJ3,hk3⟩|⟨rfl,hJx3⟩)
   ·have hB3:=HB2.out.kp hk3.1;have HM3:Hid (zA0 (W3.setCell (aa b2 0) (tq (t.extract (i+3) t.size)))):=hid ((HMR.out.kept hk3.2).kept (Below.heap_setCell W3 (aa b2 0) _ _ hb2));obtain ⟨m1,m2,m3,m4⟩:=fM hB3;have HJ3:=hid (hJ _ W3 (tq (t.extract (i+3) t.size)) hJ3);have HB4:Hid (bE b1 b2 b3 (t.extract (i+3) t.size) (W3.setCell (aa b2 0) (tq (t.extract (i+3) t.size)))):=hB3.put;have HM1:=hid (zEn HB2.out);have HM2:=hid (zEn HB4.out);clear hJ3 hB3 hk3
    gi_wp2
    go_roundw
    case rel=>exact ⟨_,_,HB4.out,HM3.out,by simp;omega,HF.out,HJ3.out⟩
    case measure=>rw [HM1.out,HM2.out];simp;omega
   ·gi_wp2
    refine bodyPost_ret (results_none rfl _ _ _) rfl ?_;exact ⟨⟨_,rfl⟩,.inr ⟨_,⟨_,HF.out.symm⟩,hJx3⟩⟩
theorem zLD {w:World} {a:Addr} {v:Value} (h:w.cell? a=some v):a.block<w.heap.size:=by
 rcases Nat.lt_or_ge a.block w.z with h'|h'
 ·exact h'
 ·simp [World.cell?,Array.getElem?_eq_none h'] at h
theorem zHJ (n:Nat) (hn:1<=n) (M b1 b2 b3:Nat) (s:ByteArray) (hs:s.size<=M) (hM:M<=4294967000) (w:World) (hB:bE b1 b2 b3 s w) (hMx:zA0 w) (hb2:(2:Nat)≠b2) :
  zN9 Fence.wide n Tryz.prog 61 #[.pointer (some ⟨b1,0,none⟩),.pointer (some ⟨b2,0,none⟩),.pointer (some ⟨b3,0,none⟩)] (zAa (M:=M)) (Kp4 b1 b2 b3) (fun xs=>zU xs=wY s.data.toList) (fun pre=>zU pre <+: wY s.data.toList) (wY s.data.toList).length b2 w:=by
 intro l J Jx W hb hJ hY h0;have l1:b1<w.z:=(Array.getElem?_eq_some_iff.1 hB.1).1;have l2:b2<w.z:=(Array.getElem?_eq_some_iff.1 hB.2.1).1;have l3:b3<w.z:=(Array.getElem?_eq_some_iff.1 hB.2.2.1).1
 have l0:(2:Nat)<w.z:=by
  obtain ⟨m,hm⟩:=hMx;exact zLD hm
 exact zIb n hn M l b1 b2 b3 s hs hM J Jx hJ hb2 hY W (hB.kp ⟨hb.block _ l1,hb.block _ l2,hb.block _ l3⟩) (hMx.kept (hb.block _ l0)) h0
theorem zCZ (s:ByteArray) (w:World) :
  Calls Tryz.prog 16 #[.string s,.string ⟨#[32,59,32]⟩] w fun e w'=>e=.returned (.func (.func 61) #[] #[.pointer (some ⟨w.heap.size+1,0,none⟩),.pointer (some ⟨w.heap.size,0,none⟩),.pointer (some ⟨w.heap.size+2,0,none⟩)])/\bE (w.heap.size+1) w.heap.size (w.heap.size+2) s w'/\Below w.heap.size w w'/\w'.heap.size=w.heap.size+3:=by
 have hin:Calls Tryz.prog 32 #[tq s,tq ⟨#[32,59,32]⟩,ii 0] w fun e w'=>e=.returned (.func (.func 61) #[] #[.pointer (some (aa (w.heap.size+1) 0)),.pointer (some (aa w.heap.size 0)),.pointer (some (aa (w.heap.size+2) 0))])/\w'=((w.alloc (.cells #[tq s] 9)).alloc (.cells #[tq ⟨#[32,59,32]⟩] 9)).alloc (.cells #[ii 0] 3):=by
  go_enter Tryz.func32,Tryz.ntmps32
  go_wp2_with fail
  go_ret;exact ⟨rfl,rfl⟩
 have HI:=hid hin;clear hin;go_enter Tryz.func16,Tryz.ntmps16;go_wp2_with (first|(go_at_call 32;refine HI.out.mono ?_;rintro e w1 ⟨rfl,rfl⟩));go_ret;refine ⟨rfl,⟨?_,?_,?_,by omega,by omega⟩,(((Below.refl _ w).alloc (Nat.le_refl _) _).alloc (by simp) _).alloc (by simp;omega) _,by simp⟩
 ·rw [Below.heap_alloc _ _ _ (by simp)];have:=heap_alloc_new (w.alloc (.cells #[tq s] 9)) (.cells #[tq ⟨#[32,59,32]⟩] 9)
  simpa using this
 ·rw [Below.heap_alloc _ _ _ (by simp;omega),Below.heap_alloc _ _ _ (by simp)];exact heap_alloc_new w _
 ·have:=heap_alloc_new ((w.alloc (.cells #[tq s] 9)).alloc (.cells #[tq ⟨#[32,59,32]⟩] 9)) (.cells #[ii 0] 3)
  simpa using this
end
end Go.Proofs.YtjeogllmpjihaaaGreatDoor
