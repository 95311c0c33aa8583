/-
  Texts of this claim, one behind the other: Ste Stf Joc Nor Par Uni Wri Pri Fix0 Fix Byt Rwr Sze0 Rpr Rp6 Grp Rnm Rnn Sam Ncd Nms.
-/
import Derived.Test.YtjeogllmpjihaaaGreatDoorPb
import Derived.Lib.Join
import Derived.Laws.Runes
namespace Go.Proofs.YtjeogllmpjihaaaGreatDoor
section
open Go.RowKit Go.Sort Go.Lib Go.Shelf
def SymIs (blk off cap:Nat) (d0:Array Fx) (w0:World) (a m b:Nat):Prop :=
 ∀(d:Array Fx) (w:World),d0.size=d.size→b≤d.size→SWK encX 2 w0 blk off d w→SortedIn (ltOf cmpF) a m d→SortedIn (ltOf cmpF) m b d →
  Calls Tryz.prog 232 #[.slice (some ⟨blk,off,none⟩) d.size cap,.int .i64 a,.int .i64 m,.int .i64 b,.func (.func 187) #[] #[]] w fun e w' =>
   e=.returned (.tuple #[])∧∃dk,SWK encX 2 w0 blk off dk w'∧Mrg (ltOf cmpF) Fx.name a b d dk
set_option maxHeartbeats 8000000 in
set_option maxRecDepth 1000000 in
theorem sym_general (blk off cap a m b:Nat) (d0:Array Fx) (w0:World) (R:RowK encX 2 w0 blk off d0) (hm:a+1<m) (hmb:m+1<b) (hsz:d0.size<2305843009213693952)
  (IH:∀a' m' b',a'<m'→m'<b'→b'-a'<b-a→SymIs blk off cap d0 w0 a' m' b'):SymIs blk off cap d0 w0 a m b:=by
 intro d w hs hb S hL hR
 have mixed:=Tryz.mixed
 have eg:=enters_byName
 have S0:Aside (SWK encX 2 w0 blk off d w):=S
 have RR:Aside (RowK encX 2 w0 blk off d0):=R
 have HIH:=hid IH
 have HSL:=hid hL
 have HSR:=hid hR
 have e0:IntKind.i64.wrap ((m:Int)-(a:Int))=((m-a:Nat):Int):=by rw [IntKind.wrap_i64];omega
 have e1:(((m-a:Nat):Int)==1)=false:=beq_eq_false_iff_ne.2 (by omega)
 have e2:IntKind.i64.wrap ((b:Int)-(m:Int))=((b-m:Nat):Int):=by rw [IntKind.wrap_i64];omega
 have e3:(((b-m:Nat):Int)==1)=false:=beq_eq_false_iff_ne.2 (by omega)
 obtain ⟨mid,hmid⟩:∃mid,(a+b) / 2=mid:=⟨_,rfl⟩
 have hmz:((a:Int)+(b:Int)) / 2=(mid:Int):=by omega
 have hm1:2 * mid≤a+b:=by omega
 have hm2:a+b≤2 * mid+1:=by omega
 obtain ⟨nn,hnn⟩:∃nn,mid+m=nn:=⟨_,rfl⟩
 have hnz:(mid:Int)+(m:Int)=(nn:Int):=by omega
 have e5:IntKind.i64.wrap ((nn:Int)-1)=((nn-1:Nat):Int):=by rw [IntKind.wrap_i64];omega
 have HNN:=hid hnn
 clear S R hL hR IH hmid hnn
 go_enter Tryz.func232,Tryz.ntmps232
 go_upto_if 140 with fail
 go_cut [20,21] from 138 to 146 (fun vs vr wx=>w=wx∧∃s0 r0:Nat,vs=.int .i64 s0∧vr=.int .i64 r0∧s0≤r0∧((mid<m∧s0+b=nn∧r0=mid)∨(m≤mid∧s0=a∧r0=m)))
 case first =>
  by_cases hc:mid<m
  ·have hcz:(mid:Int)<(m:Int):=by omega
   have e4:IntKind.i64.wrap ((nn:Int)-(b:Int))=((nn-b:Nat):Int):=by rw [IntKind.wrap_i64];omega
   go_wp2_with fail
   go_meet
   case rel=>exact ⟨rfl,nn-b,mid,rfl,rfl,by have:=HNN.out;omega,Or.inl ⟨hc,by have:=HNN.out;omega,rfl⟩⟩
  ·have hcz:¬ (mid:Int)<(m:Int):=by omega
   go_wp2_with fail
   go_meet
   case rel=>exact ⟨rfl,a,m,rfl,rfl,by omega,Or.inr ⟨by omega,rfl,rfl⟩⟩
 case rest =>
 obtain ⟨rfl,s0,r0,rfl,rfl,hsr,hcase⟩:=hcut
 have hlo:a≤s0∧r0≤m∧r0≤mid∧nn-s0≤b∧nn-r0≥m∧r0<nn:=by have:=HNN.out;omega
 have HCASE:=hid hcase
 obtain ⟨k1,k2,k3,k4,k5,k6⟩:=hlo
 clear hcase
 go_wp2_with fail
 go_loopg [20,21] (r0-s0) (fun kx vs vr wr=>∃(s r:Nat),vs=.int .i64 s∧vr=.int .i64 r∧s0≤s∧s≤r∧r≤r0∧r-s≤kx∧Hid (s0<s→ltOf cmpF d[nn-s]! d[s-1]! = false)∧Hid (r<r0→ltOf cmpF d[nn-1-r]! d[r]! = true)∧Aside (SWK encX 2 w0 blk off d wr))
 case atStart=>exact ⟨s0,r0,rfl,rfl,by omega,by omega,by omega,by omega,fun h=>absurd h (Nat.lt_irrefl _),fun h=>absurd h (Nat.lt_irrefl _),S0⟩
 case round =>
 clear S0
 obtain ⟨s,r,rfl,rfl,hs0,hsr2,hr0,hkx,HLO,HHI,S1⟩:=hrel
 by_cases hlt:s<r
 ·have hltz:(s:Int)<(r:Int):=by omega
  obtain ⟨c,hh⟩:∃c,(s+r) / 2=c:=⟨_,rfl⟩
  have hz:((s:Int)+(r:Int)) / 2=(c:Int):=by omega
  have h1:s≤c:=by omega
  have h2:c<r:=by omega
  have e6:IntKind.i64.wrap (((nn-1:Nat):Int)-(c:Int))=((nn-1-c:Nat):Int):=by rw [IntKind.wrap_i64];omega
  clear hh
  go_wp2_with fail
  cases hL:ltOf cmpF d[nn-1-c]! d[c]! with
  | false =>
   have ea:(((nn-1-c:Nat):Int)).toNat=nn-1-c:=by omega
   have pa:(0:Int)≤((nn-1-c:Nat):Int):=by omega
   have ba:((nn-1-c:Nat):Int)<(d.size:Int):=by omega
   have ec:((c:Int)).toNat=c:=by omega
   have pc:(0:Int)≤(c:Int):=by omega
   have bc:(c:Int)<(d.size:Int):=by omega
   have la:=swk_in S1.out RR.out (by omega) (nn-1-c) (by omega)
   have lb:=swk_in S1.out RR.out (by omega) (c) (by omega)
   have hv:=ltF_false hL
   have HL:=hid hL
   clear hL
   generalize d[nn-1-c]! = x at la hv
   generalize d[c]! = y at lb hv
   have la0:=fun n os=>(la n os).1
   have la1:=fun n os=>(la n os).2
   have lb0:=fun n os=>(lb n os).1
   have lb1:=fun n os=>(lb n os).2
   clear la lb
   have hd:decide (cmpF x y<0)=false:=decide_eq_false hv
   have hc:=cmp_in x y wr
   go_wp2_with fail
   go_quiet_grown (first|(go_at_fn 187;refine Calls.grown_of (hc _ _)))
   have S2:Aside (SWK encX 2 w0 blk off d (grow (wr.drewN nq) osq)):=S1.out.grown nq osq
   clear la0 la1 lb0 lb1 hc S1
   generalize grow (wr.drewN nq) osq=w2 at S2 ⊢
   clear nq osq
   go_wp2_with fail
   go_roundg (r-(c+1))
   case measure=>omega
   case rel=>exact ⟨c+1,r,by go_num,rfl,by omega,by omega,hr0,by omega,fun _=>by rw [show nn-(c+1)=nn-1-c by omega];exact HL.out,HHI,S2⟩
  | true =>
   have ea:(((nn-1-c:Nat):Int)).toNat=nn-1-c:=by omega
   have pa:(0:Int)≤((nn-1-c:Nat):Int):=by omega
   have ba:((nn-1-c:Nat):Int)<(d.size:Int):=by omega
   have ec:((c:Int)).toNat=c:=by omega
   have pc:(0:Int)≤(c:Int):=by omega
   have bc:(c:Int)<(d.size:Int):=by omega
   have la:=swk_in S1.out RR.out (by omega) (nn-1-c) (by omega)
   have lb:=swk_in S1.out RR.out (by omega) (c) (by omega)
   have hv:=ltF_true hL
   have HL:=hid hL
   clear hL
   generalize d[nn-1-c]! = x at la hv
   generalize d[c]! = y at lb hv
   have la0:=fun n os=>(la n os).1
   have la1:=fun n os=>(la n os).2
   have lb0:=fun n os=>(lb n os).1
   have lb1:=fun n os=>(lb n os).2
   clear la lb
   have hd:decide (cmpF x y<0)=true:=decide_eq_true hv
   have hc:=cmp_in x y wr
   go_wp2_with fail
   go_quiet_grown (first|(go_at_fn 187;refine Calls.grown_of (hc _ _)))
   have S2:Aside (SWK encX 2 w0 blk off d (grow (wr.drewN nq) osq)):=S1.out.grown nq osq
   clear la0 la1 lb0 lb1 hc S1
   generalize grow (wr.drewN nq) osq=w2 at S2 ⊢
   clear nq osq
   go_wp2_with fail
   go_roundg (c-s)
   case measure=>omega
   case rel=>exact ⟨s,c,rfl,rfl,hs0,h1,by omega,by omega,HLO,fun _=>HL.out,S2⟩
 have hltz:¬ (s:Int)<(r:Int):=by omega
 obtain rfl:s=r:=by omega
 obtain ⟨e,he⟩:∃e,nn-s=e:=⟨_,rfl⟩
 have e7:IntKind.i64.wrap ((nn:Int)-(s:Int))=(e:Int):=by rw [IntKind.wrap_i64];omega
 have hge:m≤e:=by omega
 have heb:e≤b:=by omega
 have hsm:s≤m:=by omega
 have has:a≤s:=by omega
 have hds:s+(e-m)=mid:=by have:=HNN.out;omega
 have hlow:a<s→e<b→ltOf cmpF d[e]! d[s-1]! = false:=fun h1 h2=>by
  have:=HLO.out (by have:=HCASE.out;have:=HNN.out;omega)
  rw [he] at this;exact this
 have hhigh:s<m→m<e→ltOf cmpF d[e-1]! d[s]! = true:=fun h1 h2=>by
  have:=HHI.out (by have:=HCASE.out;have:=HNN.out;omega)
  rw [show nn-1-s=e-1 by omega] at this;exact this
 have HLOW:=hid hlow
 have HHIGH:=hid hhigh
 have ham:a<mid:=by omega
 have hmb2:mid<b:=by omega
 clear hlow hhigh HLO HHI hsr2 hkx hlt he k4 k5
 go_upto_region 39 with fail
 go_cut [185] from 178 to 185 (fun v wx=>wr=wx∧∃B:Bool,v=.bool B∧Hid (B=true↔(s<m∧m<e)))
 case first =>
  by_cases g1:s<m
  ·have g1z:(s:Int)<(m:Int):=by omega
   have g1d:decide ((s:Int)<(m:Int))=true:=decide_eq_true g1z
   by_cases g2:m<e
   ·have g2z:(m:Int)<(e:Int):=by omega
    have g2d:decide ((m:Int)<(e:Int))=true:=decide_eq_true g2z
    go_wp2_with fail
    go_meet
    case rel=>exact ⟨rfl,true,rfl,⟨fun _=>⟨g1,g2⟩,fun _=>rfl⟩⟩
   ·have g2z:¬ (m:Int)<(e:Int):=by omega
    have g2d:decide ((m:Int)<(e:Int))=false:=decide_eq_false g2z
    go_wp2_with fail
    go_meet
    case rel=>exact ⟨rfl,false,rfl,⟨fun h=>Bool.noConfusion h,fun h=>absurd h.2 g2⟩⟩
  ·have g1z:¬ (s:Int)<(m:Int):=by omega
   have g1d:decide ((s:Int)<(m:Int))=false:=decide_eq_false g1z
   go_wp2_with fail
   go_meet
   case rel=>exact ⟨rfl,false,rfl,⟨fun h=>Bool.noConfusion h,fun h=>absurd h.1 g1⟩⟩
 case rest =>
 obtain ⟨rfl,B,rfl,HB⟩:=hcut
 go_upto_if 185 with fail
 go_cut [] from 185 to 191 (fun wx=>∃d1,Aside (SWK encX 2 w0 blk off d1 wx)∧d1.size=d.size∧Hid (Rot s m e d d1))
 case first =>
  cases B with
  | true =>
   have hc:=HB.out.1 rfl
   have hr:=rotate_any blk off cap s m e (.func (.func 187) #[] #[]) d0 d w0 wr RR.out hs S1.out hc.1 hc.2 (by omega) (by omega)
   have HRO:=hid hr
   clear hr S1 hc
   go_wp2_with (first|(go_at_call 239;refine HRO.out.mono ?_;rintro _ w1 ⟨rfl,d1,hs1,hr1⟩;have HS1:Aside _:=hs1;have HR1:=hid hr1;clear hs1 hr1))
   go_meet
   case rel=>exact ⟨d1,HS1,HR1.out.1,HR1⟩
  | false =>
   have hc:¬ (s<m∧m<e):=fun h=>Bool.noConfusion (HB.out.2 h)
   have hrot:Rot s m e d d:=by
    by_cases e1:s<m
    ·rw [show e=m by omega];exact rot_none _ _ _
    ·rw [show s=m by omega];exact rot_none' _ _ _
   have HRT:=hid hrot
   clear hrot hc
   go_wp2_with fail
   go_meet
   case rel=>exact ⟨d,S1,rfl,HRT⟩
 case rest =>
 clear S1
 obtain ⟨d1,S1,hz1,HRT⟩:=hcut
 have hcut2:=merge_cut (K:=Fx.name) swoF ltF_ne HRT.out has hsm hge heb hb hds HSL.out HSR.out HLOW.out HHIGH.out
 obtain ⟨t1,t2,t3,t4⟩:=hcut2
 have HT1:=hid t1
 have HT2:=hid t2
 have HT3:=hid t3
 have HT4:=hid t4
 clear t1 t2 t3 t4 HLOW HHIGH HRT
 go_upto_region 41 with fail
 go_cut [199] from 192 to 199 (fun v wx=>wc=wx∧∃B:Bool,v=.bool B∧Hid (B=true↔(a<s∧s<mid)))
 case first =>
  by_cases g1:a<s
  ·have g1z:(a:Int)<(s:Int):=by omega
   have g1d:decide ((a:Int)<(s:Int))=true:=decide_eq_true g1z
   by_cases g2:s<mid
   ·have g2z:(s:Int)<(mid:Int):=by omega
    have g2d:decide ((s:Int)<(mid:Int))=true:=decide_eq_true g2z
    go_wp2_with fail
    go_meet
    case rel=>exact ⟨rfl,true,rfl,⟨fun _=>⟨g1,g2⟩,fun _=>rfl⟩⟩
   ·have g2z:¬ (s:Int)<(mid:Int):=by omega
    have g2d:decide ((s:Int)<(mid:Int))=false:=decide_eq_false g2z
    go_wp2_with fail
    go_meet
    case rel=>exact ⟨rfl,false,rfl,⟨fun h=>Bool.noConfusion h,fun h=>absurd h.2 g2⟩⟩
  ·have g1z:¬ (a:Int)<(s:Int):=by omega
   have g1d:decide ((a:Int)<(s:Int))=false:=decide_eq_false g1z
   go_wp2_with fail
   go_meet
   case rel=>exact ⟨rfl,false,rfl,⟨fun h=>Bool.noConfusion h,fun h=>absurd h.1 g1⟩⟩
 case rest =>
 obtain ⟨rfl,B,rfl,HB⟩:=hcut
 go_upto_if 199 with fail
 go_cut [] from 199 to 205 (fun wx=>∃d2,Aside (SWK encX 2 w0 blk off d2 wx)∧Hid (Mrg (ltOf cmpF) Fx.name a mid d1 d2))
 case first =>
  cases B with
  | true =>
   have hc:=HB.out.1 rfl
   have hr:=HIH.out a s mid hc.1 hc.2 (by omega) d1 wc (by omega) (by omega) S1.out HT1.out HT2.out
   rw [hz1] at hr
   have HRO:=hid hr
   clear hr S1 hc
   go_wp2_with (first|(go_at_call 232;refine HRO.out.mono ?_;rintro _ w1 ⟨rfl,d2,hs1,hr1⟩;have HS1:Aside _:=hs1;have HR1:=hid hr1;clear hs1 hr1))
   go_meet
   case rel=>exact ⟨d2,HS1,HR1⟩
  | false =>
   have hc:¬ (a<s∧s<mid):=fun h=>Bool.noConfusion (HB.out.2 h)
   have HRT:=hid (HT3.out hc)
   clear hc
   go_wp2_with fail
   go_meet
   case rel=>exact ⟨d1,S1,HRT⟩
 case rest =>
 clear S1
 obtain ⟨d2,S1,HM2⟩:=hcut
 obtain ⟨t1,t2,t3,t4⟩:=HT4.out d2 HM2.out
 have hz2:d2.size=d1.size:=HM2.out.1.1
 have HU1:=hid t1
 have HU2:=hid t2
 have HU3:=hid t3
 have HU4:=hid t4
 clear t1 t2 t3 t4 HT1 HT2 HT3 HT4 HM2
 go_upto_region 43 with fail
 go_cut [213] from 206 to 213 (fun v wx=>wc=wx∧∃B:Bool,v=.bool B∧Hid (B=true↔(mid<e∧e<b)))
 case first =>
  by_cases g1:mid<e
  ·have g1z:(mid:Int)<(e:Int):=by omega
   have g1d:decide ((mid:Int)<(e:Int))=true:=decide_eq_true g1z
   by_cases g2:e<b
   ·have g2z:(e:Int)<(b:Int):=by omega
    have g2d:decide ((e:Int)<(b:Int))=true:=decide_eq_true g2z
    go_wp2_with fail
    go_meet
    case rel=>exact ⟨rfl,true,rfl,⟨fun _=>⟨g1,g2⟩,fun _=>rfl⟩⟩
   ·have g2z:¬ (e:Int)<(b:Int):=by omega
    have g2d:decide ((e:Int)<(b:Int))=false:=decide_eq_false g2z
    go_wp2_with fail
    go_meet
    case rel=>exact ⟨rfl,false,rfl,⟨fun h=>Bool.noConfusion h,fun h=>absurd h.2 g2⟩⟩
  ·have g1z:¬ (mid:Int)<(e:Int):=by omega
   have g1d:decide ((mid:Int)<(e:Int))=false:=decide_eq_false g1z
   go_wp2_with fail
   go_meet
   case rel=>exact ⟨rfl,false,rfl,⟨fun h=>Bool.noConfusion h,fun h=>absurd h.1 g1⟩⟩
 case rest =>
 obtain ⟨rfl,B,rfl,HB⟩:=hcut
 cases B with
 | true =>
  have hc:=HB.out.1 rfl
  have hr:=HIH.out mid e b hc.1 hc.2 (by omega) d2 wc (by omega) (by omega) S1.out HU1.out HU2.out
  rw [hz2,hz1] at hr
  have HRO:=hid hr
  clear hr S1 hc
  go_wp2_with (first|(go_at_call 232;refine HRO.out.mono ?_;rintro _ w1 ⟨rfl,d3,hs1,hr1⟩;have HS1:Aside _:=hs1;have HR1:=hid hr1;clear hs1 hr1))
  go_end0
  exact ⟨rfl,d3,HS1.out,HU4.out d3 HR1.out⟩
 | false =>
  have hc:¬ (mid<e∧e<b):=fun h=>Bool.noConfusion (HB.out.2 h)
  have HRT:=hid (HU4.out d2 (HU3.out hc))
  clear hc
  go_wp2_with fail
  go_end0
  exact ⟨rfl,d2,S1.out,HRT.out⟩
theorem sym_any (blk off cap:Nat) (d0:Array Fx) (w0:World) (R:RowK encX 2 w0 blk off d0) (hsz:d0.size<2305843009213693952):∀(n a m b:Nat),b-a≤n→a<m→m<b→SymIs blk off cap d0 w0 a m b
 | 0,a,m,b,hn,h1,h2=>by omega
 | n+1,a,m,b,hn,h1,h2=>by
  by_cases c1:m=a+1
  ·intro d w hs hb S hL hR
   exact sym_left blk off cap a m b d0 d w0 w R hs S c1 h2 hb (by omega) hR
  ·by_cases c2:b=m+1
   ·intro d w hs hb S hL hR
    exact sym_right blk off cap a m b d0 d w0 w R hs S (by omega) c2 hb (by omega) hL
   ·exact sym_general blk off cap a m b d0 w0 R (by omega) (by omega) hsz (fun a' m' b' k1 k2 k3=>sym_any blk off cap d0 w0 R hsz n a' m' b' (by omega) k1 k2)
end
section
open Go.RowKit Go.Sort Go.Lib Go.Shelf
theorem ins_swk (blk off cap a b:Nat) (d0 dk:Array Fx) (w0 W:World) (R:RowK encX 2 w0 blk off d0) (hs:d0.size=dk.size) (S:SWK encX 2 w0 blk off dk W) (hab:a≤b) (hb:b≤dk.size) (hsz:dk.size<1152921504606846976) :
  Calls Tryz.prog 231 #[.slice (some ⟨blk,off,none⟩) dk.size cap,.int .i64 a,.int .i64 b,.func (.func 187) #[] #[]] W fun e w' =>
   e=.returned (.tuple #[])∧∃dl,SWK encX 2 w0 blk off dl w'∧PermIn a b dk dl∧SortedIn (ltOf cmpF) a b dl∧Stab Fx.name dk dl:=by
 refine (ins_any blk off cap a b dk W (S.holds R.hblk R.hH hs.symm) (S.lt R.hblk) hab hb (by omega)).mono ?_
 rintro e w' ⟨rfl,n,os,rfl⟩
 obtain ⟨h1,h2⟩:=insertionSort_holds swoF dk a b hab hb
 exact ⟨rfl,_,S.on R.hblk n _ os h1.1,h1,h2,insertionSort_stab (K:=Fx.name) ltF_ne dk a b hb⟩
set_option maxHeartbeats 4000000 in
set_option maxRecDepth 1000000 in
theorem stable_any (blk off cap:Nat) (d:Array Fx) (w:World) (hH:HoldsK encX 2 w blk off d) (hblk:blk<w.heap.size) (hsz:d.size<1152921504606846976) :
  Calls Tryz.prog 213 #[.slice (some ⟨blk,off,none⟩) d.size cap,.int .i64 d.size,.func (.func 187) #[] #[]] w fun e w'=>e=.returned (.tuple #[])∧Sorts w blk off d w':=by
 have RR:Aside (RowK encX 2 w blk off d):=⟨fun _=>rfl,encX_one,hH,hblk⟩
 have S0:Aside (SWK encX 2 w blk off d w):=SWK.start hH
 clear hH hblk
 go_enter Tryz.func213,Tryz.ntmps213
 go_wp2_with fail
 go_loopg [7,8] d.size (fun kx va vb wr=>∃(A B q:Nat) (dk:Array Fx),va=.int .i64 A∧vb=.int .i64 B∧B=A+20∧Hid (A=q * 20)∧A≤d.size∧d.size-A≤kx∧Aside (Way Fx.name d dk)∧Aside (SegTo (ltOf cmpF) 20 q dk)∧Aside (SWK encX 2 w blk off dk wr))
 case atStart=>exact ⟨0,20,0,d,rfl,rfl,rfl,(show Hid _ from by simp [Hid]),by omega,by omega,Way.refl _ _,segTo_zero _ _ _,S0⟩
 case round =>
 clear S0
 obtain ⟨A,B,q,dk,rfl,rfl,hB,HA,hAn,hkx,HW,HG,S1⟩:=hrel
 have hdk:dk.size=d.size:=HW.out.size
 by_cases hlt:B≤d.size
 ·have hltz:(B:Int)≤(d.size:Int):=by omega
  have hc:=ins_swk blk off cap A B d dk w wr RR.out hdk.symm S1.out (by omega) (by omega) (by omega)
  rw [hdk] at hc
  have HC:=hid hc
  have HB:=hid hB
  have hAB:A<B:=by omega
  clear hc S1 hB
  go_wp2_with (first|(go_at_call 231;refine HC.out.mono ?_;rintro e w1 ⟨rfl,dl,hs1,hp1,ho1,ht1⟩;have HS1:Aside _:=hs1;have HP1:=hid hp1;have HO1:=hid ho1;have HT1:=hid ht1;clear hs1 hp1 ho1 ht1))
  go_roundg (d.size-B)
  case measure=>omega
  case rel =>
   have hb:=HB.out
   have ha:=HA.out
   have hp:=HP1.out
   have ho:=HO1.out
   rw [hb,ha] at hp ho
   exact ⟨B,B+20,q+1,dl,by first|rfl|go_num,by first|rfl|go_num,rfl,(show Hid _ from by show B=_;omega),hlt,by omega,HW.out.step HP1.out hlt HT1.out,HG.out.step hp ho,HS1⟩
 have hltz:¬ (B:Int)≤(d.size:Int):=by omega
 have hc:=ins_swk blk off cap A d.size d dk w wr RR.out hdk.symm S1.out hAn (by omega) (by omega)
 rw [hdk] at hc
 have HC:=hid hc
 have hseg:∀dl,PermIn A d.size dk dl→SortedIn (ltOf cmpF) A d.size dl→SegFrom (ltOf cmpF) 20 0 d.size dl:=fun dl h1 h2=>by
  have ha:=HA.out
  refine HG.out.last (by omega) ?_ ?_
  ·rw [←ha];exact h1
  ·rw [←ha];exact h2
 have HSEG:=hid hseg
 clear hc S1 hseg hB hkx
 go_wp2_with (first|(go_at_call 231;refine HC.out.mono ?_;rintro e w1 ⟨rfl,dl,hs1,hp1,ho1,ht1⟩;have HS1:Aside _:=hs1;have HW1:Aside (Way Fx.name d dl):=HW.out.step hp1 (Nat.le_refl _) ht1;have HF1:Aside _:=HSEG.out dl hp1 ho1;clear hs1 hp1 ho1 ht1))
 clear HC HSEG HW HG HA hdk
 go_loopg [6] d.size (fun kx vc wr=>∃(c:Nat) (dk:Array Fx),vc=.int .i64 c∧0<c∧d.size-c≤kx∧Aside (Way Fx.name d dk)∧Aside (SegFrom (ltOf cmpF) c 0 d.size dk)∧Aside (SWK encX 2 w blk off dk wr))
 case atStart=>exact ⟨20,dl,rfl,by omega,by omega,HW1,HF1,HS1⟩
 case round =>
 clear HW1 HF1 HS1
 obtain ⟨c,dk,rfl,hc0,hkx,HW,HF,S1⟩:=hrel
 by_cases hlt:c<d.size
 ·have hltz2:(c:Int)<(d.size:Int):=by omega
  go_wp2_with fail
  go_loopg [7,8] d.size (fun kx va vb wr=>∃(A B q:Nat) (dk:Array Fx),va=.int .i64 A∧vb=.int .i64 B∧B=A+2 * c∧Hid (A=q * (2 * c))∧A≤d.size∧d.size-A≤kx∧Aside (Way Fx.name d dk)∧Aside (SegTo (ltOf cmpF) (2 * c) q dk)∧Aside (SegFrom (ltOf cmpF) c A d.size dk)∧Aside (SWK encX 2 w blk off dk wr))
  case atStart=>exact ⟨0,2 * c,0,dk,rfl,by first|rfl|go_num,by omega,(show Hid _ from by simp [Hid]),by omega,by omega,HW,segTo_zero _ _ _,HF,S1⟩
  case round =>
  clear HW HF S1
  obtain ⟨A,B,q,dm,rfl,rfl,hB,HA,hAn,hkx2,HW,HG,HF,S1⟩:=hrel
  have hdm:dm.size=d.size:=HW.out.size
  obtain ⟨M,hM⟩:∃M,A+c=M:=⟨_,rfl⟩
  have hMz:(A:Int)+(c:Int)=(M:Int):=by omega
  by_cases hlt3:B≤d.size
  ·have hltz3:(B:Int)≤(d.size:Int):=by omega
   have hc:=sym_any blk off cap d w RR.out (by omega) (B-A) A M B (Nat.le_refl _) (by omega) (by omega) dm wr hdm.symm (by omega) S1.out (by rw [←hM];exact HF.out.first (by omega)) (by rw [←hM];exact HF.out.second (by omega) hlt3)
   rw [hdm] at hc
   have HC:=hid hc
   have HB:=hid hB
   have hAB:A<B:=by omega
   have hBw:IntKind.i64.wrap ((B:Int)+2 * (c:Int))=(B:Int)+2 * (c:Int):=by rw [IntKind.wrap_i64];omega
   clear hc S1 hB hM
   go_wp2_with (first|(go_at_call 232;refine HC.out.mono ?_;rintro e w1 ⟨rfl,dl,hs1,hm1⟩;have HS1:Aside _:=hs1;have HM1:=hid hm1;clear hs1 hm1))
   go_roundg (d.size-B)
   case measure=>omega
   case rel =>
    obtain ⟨hp1,ho1,ht1⟩:=HM1.out
    have hb:=HB.out
    have ha:=HA.out
    have hp:=hp1
    have ho:=ho1
    have hp2:=hp1
    rw [hb] at hp2
    rw [hb,ha] at hp ho
    refine ⟨B,B+2 * c,q+1,dl,by first|rfl|go_num,by first|rfl|go_num,rfl,(show Hid _ from ?_),hlt3,by omega,HW.out.step hp1 hlt3 ht1,HG.out.step hp ho,?_,HS1⟩
    ·show B=(q+1) * (2 * c)
     rw [Nat.add_mul,Nat.one_mul,←ha];exact hb
    ·rw [hb];exact HF.out.step hp2
  have hltz3:¬ (B:Int)≤(d.size:Int):=by omega
  have hcw:IntKind.i64.wrap ((c:Int) * 2)=(c:Int) * 2:=by rw [IntKind.wrap_i64];omega
  have hseg:∀dl,PermIn A d.size dm dl→SortedIn (ltOf cmpF) A d.size dl→SegFrom (ltOf cmpF) (2 * c) 0 d.size dl:=fun dl h1 h2=>by
   have ha:=HA.out
   refine HG.out.last (by omega) ?_ ?_
   ·rw [←ha];exact h1
   ·rw [←ha];exact h2
  have HSEG:=hid hseg
  clear hseg
  by_cases hlt4:M<d.size
  ·have hltz4:(M:Int)<(d.size:Int):=by omega
   have hc:=sym_any blk off cap d w RR.out (by omega) (d.size-A) A M d.size (Nat.le_refl _) (by omega) hlt4 dm wr hdm.symm (by omega) S1.out (by rw [←hM];exact HF.out.first (by omega)) (by rw [←hM];exact HF.out.second (by omega) (Nat.le_refl _))
   rw [hdm] at hc
   have HC:=hid hc
   clear hc S1 hM hB
   go_wp2_with (first|(go_at_call 232;refine HC.out.mono ?_;rintro e w1 ⟨rfl,dl,hs1,hm1⟩;have HS1:Aside _:=hs1;have HM1:=hid hm1;clear hs1 hm1))
   go_roundg (d.size-2 * c)
   case measure=>omega
   case rel =>
    obtain ⟨hp1,ho1,ht1⟩:=HM1.out
    exact ⟨2 * c,dl,by first|rfl|go_num,by omega,by omega,HW.out.step hp1 (Nat.le_refl _) ht1,HSEG.out dl hp1 ho1,HS1⟩
  ·have hltz4:¬ (M:Int)<(d.size:Int):=by omega
   have HSO:=hid (HF.out.short (show d.size≤A+c by omega))
   clear hM hB
   go_wp2_with fail
   go_roundg (d.size-2 * c)
   case measure=>omega
   case rel=>exact ⟨2 * c,dm,by first|rfl|go_num,by omega,by omega,HW,HSEG.out dm (permIn_refl _ _ _) HSO.out,S1⟩
 ·have hltz2:¬ (c:Int)<(d.size:Int):=by omega
  go_wp2_with fail
  go_end0
  obtain ⟨n,os,hw⟩:=S1.out
  exact ⟨rfl,dk,n,os,HW.out.1,HF.out.short (by omega),HW.out.2,hw⟩
set_option maxHeartbeats 1000000 in
theorem sort_any (blk off cap:Nat) (d:Array Fx) (w:World) (hH:HoldsK encX 2 w blk off d) (hblk:blk<w.heap.size) (hsz:d.size<1152921504606846976) :
  Calls Tryz.prog 186 #[.slice (some ⟨blk,off,none⟩) d.size cap,.func (.func 187) #[] #[]] w fun e w'=>e=.returned (.tuple #[])∧Sorts w blk off d w':=by
 have HI:=hid (stable_any blk off cap d w hH hblk hsz)
 clear hH
 go_enter Tryz.func186,Tryz.ntmps186
 go_wp2_with (first|(go_at_call 213;refine HI.out.mono ?_;rintro e w1 ⟨rfl,hs⟩))
 go_end0
 exact ⟨rfl,hs⟩
end
section
open Go.RowKit Go.Sort Go.Lib
theorem step_txt0 {ops:Array Oper} {o:Oper} {a:Act} {K:Act→World→Prop} {Q:Exit→Act→World→Prop} {E:Prop} (w:World) (hgd:o.guard=none) (s x:Operand)
  (ho:o.op=.call { callee:=.builtin .append,args:=#[s,x],argTypes:=#[43,43] }) (q:Option Addr) (n cap:Nat) (p:Option Addr) (c:Nat)
  (hs:a.eval s=.slice q n cap) (hcap:n≤cap) (hx:a.eval x=.slice p 0 c) (hq:q=none→n=0∧cap=0)
  (h:K (a.put o.dst (.slice q n cap)) w) :
  if Region.wanted o (yielded ops a.tmps)=true then Oper.wp Tryz.prog o a w K Q else E:=by
 have hw:Region.wanted o (yielded ops a.tmps)=true:=by simp [Region.wanted,hgd]
 rw [if_pos hw]
 obtain ⟨i0,hi0,_,_,_⟩:=info_parts Tryz.infoStr
 have hrun:(Builtin.append_ #[43,43] o.type #[.slice q n cap,.slice p 0 c]).run Tryz.prog w=.ok (.slice q n cap) w:=by
  cases q with
  | none =>
   obtain ⟨rfl,rfl⟩:=hq rfl
   cases p<;>simp [Builtin.append_,run_underlying Tryz.underlying43,Builtin.lenOf,Builtin.firstCells,sizeOf,typeInfo,hi0,loadCells,loadCellsFrom]
  | some q =>
   cases p<;>simp [Builtin.append_,run_underlying Tryz.underlying43,Builtin.lenOf,Builtin.firstCells,sizeOf,typeInfo,hi0,storeCells,loadCells,loadCellsFrom,hcap]
 unfold Oper.wp
 simp [execOp,ho,resolve,invoke,builtin,hs,hx,hrun,Result.andThen]
 exact h
theorem joined_kept {N:Nat} {w:World} {o:List Fx} {x:Fx} {go cp:Nat} (h:OwnJ N w (.slice (some ⟨go,0,none⟩) (o.length+1) cp) (o++[x])) :
  OwnJ N (w.setCell ⟨go,o.length * 2+1,none⟩ x.sl) (.slice (some ⟨go,0,none⟩) (o.length+1) cp) (o++[x]):=by
 obtain ⟨⟨hrow,htx⟩,hap⟩:=h
 have hlen:(o++[x]).length=o.length+1:=by simp
 rw [hlen] at hrow
 have hst:=hrow.stored (o.length * 2+1) x.sl
 have hget:=(cellsX_get (o++[x]) o.length (by simp)).2
 simp only [List.getElem_concat_length] at hget
 have e1:(cellsX (o++[x])).set (o.length * 2+1) x.sl=cellsX (o++[x]):=by
  apply List.ext_getElem?
  intro j
  rw [List.getElem?_set]
  split
  ·rename_i hj
   subst hj
   rw [if_pos (by rw [cellsX_len];simp;omega)]
   exact hget.symm
  ·rfl
 rw [e1] at hst
 refine ⟨⟨by rw [hlen];exact hst.1,fun y hy=>own_else (htx y hy) hrow (by decide) (grown_set w go _ _)⟩,hap⟩
theorem joined_put {N:Nat} {w w4:World} {v v':Value} {o:List Fx} {x:Fx} {M:Nat} (h:OwnJ N w v o) (hx:OwnT M w x.sl x.txt) (hM:∀y∈o,∀k,y.sl.ownBlock=some k→k<M) (hNM:N≤M)
  (hown:w4.ownsRow N 45 2 v' (o.length+1) (cellsX o++cellsX [x])) (hg:w.grownBy w4 v.ownBlock):OwnJ N w4 v' (o++[x]):=by
 refine ⟨h.1.put (own_weak hx hNM) hown hg,apart_snoc h.2 fun y hy=>?_⟩
 rcases hb:y.sl.ownBlock with _|k
 ·exact Or.inl rfl
 ·right
  intro e
  have h1:=hM y hy k hb
  have h2:=(World.ownsRow.lt hx k e.symm).1
  omega
def NewX (w:World) (B:Nat) (f:Fx):Prop:=w.heap[B]? = some (.cells #[.string f.name,.slice f.p f.txt.length f.cap] 45 (0,0))
theorem step_putX {ops:Array Oper} {o:Oper} {a:Act} {K:Act→World→Prop} {Q:Exit→Act→World→Prop} {E:Prop} (w:World) (hgd:o.guard=none) (s x:Operand)
  (ho:o.op=.call { callee:=.builtin .append,args:=#[s,x],argTypes:=#[37,37] }) (N:Nat) (v:Value) (os:List Fx) (n:Nat) (hs:a.eval s=v) (hoj:OwnJ N w v os) (hn:os.length=n) (B:Nat) (f:Fx)
  (hx:a.eval x=.slice (some ⟨B,0,none⟩) 1 1) (hB:NewX w B f) (hl:(n+1) * 40≤140737488355328) (hN:N≤w.heap.size)
  (h:∀g cap w',w'.ownsRow N 45 2 (.slice (some ⟨g,0,none⟩) (n+1) cap) (n+1) (cellsX os++cellsX [f])→w.grownBy w' v.ownBlock→K (a.put o.dst (.slice (some ⟨g,0,none⟩) (n+1) cap)) w') :
  if Region.wanted o (yielded ops a.tmps)=true then Oper.wp Tryz.prog o a w K Q else E:=by
 subst hn
 obtain ⟨j0,hj,hj0,hj1,hj2⟩:=info_parts Tryz.infoFld
 refine step_append_lies w hgd s x 37 ho N 45 j0 (.agg #[.string ⟨#[]⟩,.slice none 0 0]) 2 40 Tryz.underlying37 hj hj0 hj1 hj2 rfl (by decide) v os.length (cellsX os) hs hoj.1.1 ⟨B,0,none⟩ 1 1 (cellsX [f]) hx rfl (fun j u hju=>?_) (cellsX_one _) (by decide) (by unfold maxLen;omega) hl hN _ rfl (fun g cap w' h1 h2 _ _=>h g cap w' h1 h2)
 exact World.news_of_block hB j u hju
def JoinSt (w2:World) (ds:List Fx) (i:Nat) (v:Value) (wr:World):Prop :=
 ∃o:List Fx,OwnJ w2.heap.size wr v o∧o.map Fx.fld=joinS ((ds.map Fx.fld).take i)∧Below w2.heap.size w2 wr
theorem sl_shape {n0:Nat} {w:World} {x:Fx} (h:OwnT n0 w x.sl x.txt):x.txt.length≤x.cap∧(x.p=none→x.txt.length=0∧x.cap=0):=by
 rcases h.2 with ⟨hv,h0⟩|⟨g,cap,cur,hv,_,_,h1,_⟩
 ·unfold Fx.sl at hv
  injection hv with h1 h2 h3
  rw [h0,h3]
  exact ⟨Nat.le_refl _,fun _=>⟨rfl,rfl⟩⟩
 ·unfold Fx.sl at hv
  injection hv with h3 h4 h5
  rw [h5]
  exact ⟨h1,fun h=>by rw [h3] at h;cases h⟩
def SortOf (d ds:List Fx):Prop:=ds.Perm d∧(ds.Pairwise fun x y=>ltOf cmpF y x=false)∧∀c,ds.filter (fun x=>decide (x.name=c))=d.filter fun x=>decide (x.name=c)
theorem sortX_any (u:Value) (d:List Fx) (n0:Nat) (w:World) (hn:n0≤w.heap.size) (ho:w.ownsRow n0 45 2 u d.length (cellsX d)) (h20:d.length<1152921504606846976) :
  Calls Tryz.prog 186 #[u,.func (.func 187) #[] #[]] w fun e w' =>
   e=.returned (.tuple #[])∧∃(ds:List Fx) (p:Option Addr) (cap:Nat),u=.slice p ds.length cap∧(ds=[]∨∃g,p=some ⟨g,0,none⟩∧XsAt w' g 0 ds)∧SortOf d ds∧Below n0 w w':=by
 rcases ho.2 with ⟨rfl,h0⟩|⟨g,cap,cur,rfl,hN,hg,_,_,hsz,htk⟩
 ·obtain rfl:=List.length_eq_zero_iff.1 h0
  refine (sort_none none 0 _ w).mono ?_
  rintro e w' ⟨rfl,rfl⟩
  exact ⟨rfl,[],none,0,rfl,Or.inl rfl,⟨List.Perm.refl _,List.Pairwise.nil,fun _=>rfl⟩,Below.refl _ _⟩
 ·have hgl:=(Array.getElem?_eq_some_iff.1 hg).1
  have hH:HoldsK encX 2 w g 0 d.toArray:=holds_of_heap d.toArray hg (by simpa using htk)
  have hs:d.toArray.size=d.length:=by simp
  have hc:=sort_any g 0 cap d.toArray w hH hgl (by rw [hs];exact h20)
  rw [hs] at hc
  refine hc.mono ?_
  rintro e w' ⟨rfl,hso⟩
  obtain ⟨ds,h1,h2,h3,h4,h5⟩:=sorted_xs hH hgl hso
  obtain ⟨d',n,os,_,_,_,hw⟩:=hso
  refine ⟨rfl,ds,_,cap,by rw [h1,hs],Or.inr ⟨g,rfl,h2⟩,⟨by simpa using h3,h4,by simpa using h5⟩,?_⟩
  rw [hw]
  exact below_sortWorld (Below.refl _ _) hn g 0 n d' os hN
def JoinPost (w:World) (d:List Fx) (e:Ending) (w':World):Prop :=
 ∃(u:Value) (ds o:List Fx),e=.returned u∧SortOf d ds∧OwnJ w.heap.size w' u o∧o.map Fx.fld=joinS (ds.map Fx.fld)∧Below w.heap.size w w'
set_option maxHeartbeats 8000000 in
set_option maxRecDepth 100000 in
theorem joined_any (v:Value) (d:List Fx) (w:World) (hv:IsXs w v d) (hl:d.length * 40≤140737488355328) (htot:totF (d.map Fx.fld) * 16≤140737488355328) :
  Calls Tryz.prog 156 #[v] w fun e w'=>JoinPost w d e w':=by
 obtain ⟨i0,hi,hz0,hz1,hz2⟩:=info_parts Tryz.infoStr
 obtain ⟨j0,hj,hj0,hj1,hj2⟩:=info_parts Tryz.infoFld
 have HI:=hid hi
 have HJ:=hid hj
 have HC:=hid (cloneX_any v d w hv hl)
 have HTX:=hid hv.at_all
 have HTOT:=hid htot
 have HL:=hid hl
 have h20:d.length<1152921504606846976:=by omega
 clear hv hi hj htot hl
 go_enter Tryz.func156,Tryz.ntmps156
 go_wp2_with (first|(go_at_call 185;refine HC.out.mono ?_;rintro e w1 ⟨u1,rfl,ho1,hb1⟩)|(go_at_call 186;refine (sortX_any _ d w.heap.size _ hb1.size ho1 h20).mono ?_;rintro e w2 ⟨rfl,ds,p,cap,rfl,hds,hso,hb2⟩;have HDS:=hid hds;have HSO:=hid hso;clear hds hso))
 have hbw2:Below w.heap.size w w2:=hb1.trans hb2
 have hlen:ds.length=d.length:=HSO.out.1.length_eq
 have hlz:ds.length≤9223372036854775807:=by omega
 have HTD:Hid (∀x∈ds,x.at w2):=fun x hx=>(HTX.out x (HSO.out.1.mem_iff.1 hx)).kept hbw2
 have HTT:Hid (totF (ds.map Fx.fld) * 16≤140737488355328):=by
  have:totF (ds.map Fx.fld)=totF (d.map Fx.fld):=((HSO.out.1.map Fx.fld).map _).sum_nat
  show _≤_
  rw [this];exact HTOT.out
 have HB2:=hid hbw2
 have HL2:Hid (ds.length * 40≤140737488355328):=by show _≤_;rw [hlen];exact HL.out
 clear ho1 hb1 hb2 hbw2 hlen
 have ST0:Hid (JoinSt w2 ds 0 (.slice none 0 0) w2):=⟨[],⟨⟨World.ownsRow_nil _ _ _ _,fun x hx=>by simp at hx⟩,List.Pairwise.nil⟩,rfl,Below.refl _ _⟩
 go_loopg [4,14] ds.length (fun g v4 vi wr=>∃i:Nat,vi=.int .i64 i∧i≤ds.length∧ds.length-i≤g∧JoinSt w2 ds i v4 wr)
 case atStart=>exact ⟨0,rfl,by omega,by omega,ST0.out⟩
 case round =>
  obtain ⟨i,rfl,hi,hgk,o,hoj,hmap,hb⟩:=hrel
  by_cases hlt:i<ds.length
  ·have hltz:(i:Int)<(ds.length:Int):=by omega
   have hiz:(0:Int)≤i:=by omega
   obtain ⟨g,rfl,hxs⟩:∃g,p=some ⟨g,0,none⟩∧XsAt w2 g 0 ds:=by
    rcases HDS.out with h|h
    ·rw [h] at hlt;simp at hlt
    ·exact h
   have hcs:=hxs i hlt
   have c0:wr.cell? ⟨g,i * 2,none⟩=some (.string ds[i].name):=by
    have:=(hb.cell (p:=⟨g,0+i * 2,none⟩) (cell_block hcs.1)).trans hcs.1
    simpa using this
   have c1:wr.cell? ⟨g,i * 2+1,none⟩=some ds[i].sl:=by
    have:=(hb.cell (p:=⟨g,0+i * 2+1,none⟩) (cell_block hcs.2)).trans hcs.2
    simpa using this
   have hfi:(ds[i]).at w2:=HTD.out _ (List.getElem_mem hlt)
   have htk:(ds.map Fx.fld).take (i+1)=(ds.map Fx.fld).take i++[ds[i].fld]:=by
    rw [List.take_succ_eq_append_getElem (by rw [List.length_map];exact hlt)];simp
   obtain ⟨f,hf⟩:∃f,ds[i]=f:=⟨_,rfl⟩
   rw [hf] at c0 c1 hfi htk
   have hbound:(totF (o.map Fx.fld)+f.txt.length) * 16≤140737488355328:=by
    have h1:totF ((ds.map Fx.fld).take (i+1))≤totF (ds.map Fx.fld):=by
     conv=>rhs;rw [←List.take_append_drop (i+1) (ds.map Fx.fld),totF_append]
     omega
    rw [htk,totF_append,totF_one,←totF_joinS,←hmap] at h1
    have h2:=HTT.out
    have h3:(f.fld).2.length=f.txt.length:=rfl
    omega
   have holen:o.length≤i:=by
    have h1:=joinS_len ((ds.map Fx.fld).take i)
    rw [←hmap,List.length_map,List.length_take] at h1
    omega
   have HBND:=hid hbound
   have HFI:=hid (hfi.kept hb)
   have HNX:Hid (joinS ((ds.map Fx.fld).take (i+1))=joinStep (o.map Fx.fld) f.fld):=by show _=_;rw [htk,joinS_snoc,hmap]
   have HB:=hid hb
   have hsz:=hb.size
   clear hxs hcs hfi htk hf hmap hb hbound
   unfold Fx.sl at c1
   rcases List.eq_nil_or_concat o with rfl|⟨o',x,rfl⟩
   ·obtain ⟨p4,cp4,rfl⟩:∃p cp,u4=.slice p 0 cp:=by
     rcases hoj.1.1.2 with ⟨hv,_⟩|⟨g4,cap4,cur,hv,_⟩
     ·exact ⟨none,0,hv⟩
     ·exact ⟨_,_,hv⟩
    have HUL:Hid (∀k,(Value.slice p4 0 cp4).ownBlock=some k→k<wr.heap.size):=fun k hk=>(World.ownsRow.lt hoj.1.1 k hk).2
    have cb:decide ((0:Int)≤-1)=false:=by decide
    have HOJ:=hid hoj
    clear hoj
    go_wp2_with fail
    obtain ⟨W1,hW1⟩:∃W1,wr.alloc (.cells #[.string f.name,.slice f.p f.txt.length f.cap] 45)=W1:=⟨_,rfl⟩
    have hgr1:Below wr.heap.size wr W1:=by rw [←hW1];exact (Below.refl _ _).alloc (Nat.le_refl _) _
    have b0:W1.cell? ⟨wr.heap.size,0,none⟩=some (.string f.name):=by rw [←hW1];simp
    have b1:W1.cell? ⟨wr.heap.size,1,none⟩=some (.slice f.p f.txt.length f.cap):=by rw [←hW1];simp
    have HOJ1:=hid (HOJ.out.on hgr1)
    have HFI1:=hid (HFI.out.kept hgr1)
    have HB1:=hid (HB.out.trans (hgr1.mono hsz))
    have HJS:Hid (joinStep (([]:List Fx).map Fx.fld) f.fld=(([]:List Fx).map Fx.fld)++[f.fld]):=rfl
    rw [hW1]
    clear c0 c1 hgr1 hW1
    ·go_quiet (fail)
     go_wp2_with fail
     have b0':(W1.drewN nq).cell? ⟨wr.heap.size,0,none⟩=some (.string f.name):=b0
     have b1':(W1.drewN nq).cell? ⟨wr.heap.size,1,none⟩=some (.slice f.p f.txt.length f.cap):=b1
     have HOJ2:Hid (OwnJ w2.heap.size (W1.drewN nq).drew (.slice p4 0 cp4) []):=HOJ1.out
     have HFI2:Hid (f.at (W1.drewN nq)):=HFI1.out
     have HB3:Hid (Below w2.heap.size w2 (W1.drewN nq).drew):=(bel_drewN HB1.out nq).drew
     clear b0 b1
     generalize W1.drewN nq=W2 at b0' b1' HOJ2 HFI2 HB3 ⊢
     have F0:Hid (∀w':World,Below W2.drew.heap.size W2.drew w'→w'.cell? ⟨wr.heap.size,0,none⟩=some (.string f.name)∧w'.cell? ⟨wr.heap.size,1,none⟩=some (.slice f.p f.txt.length f.cap)):=fun w' hb=>⟨(hb.cell (p:=⟨wr.heap.size,0,none⟩) (cell_block (w:=W2.drew) b0')).trans b0',(hb.cell (p:=⟨wr.heap.size,1,none⟩) (cell_block (w:=W2.drew) b1')).trans b1'⟩
     have HCT:=hid (cloneT_any f.p f.cap f.txt W2.drew HFI2.out (by have:=HBND.out;omega))
     have hFl:wr.heap.size<W2.heap.size:=cell_block b0'
     have FA:Hid (∀w3 w4:World,(w3.cell? ⟨wr.heap.size,0,none⟩=some (.string f.name)∧w3.cell? ⟨wr.heap.size,1,none⟩=some (.slice f.p f.txt.length f.cap))→w3.grownBy w4 (Value.slice p4 0 cp4).ownBlock→w4.cell? ⟨wr.heap.size,0,none⟩=some (.string f.name)∧w4.cell? ⟨wr.heap.size,1,none⟩=some (.slice f.p f.txt.length f.cap)):=fun w3 w4 h hg =>
      ⟨(hg.cell_far ⟨wr.heap.size,0,none⟩ (cell_block h.1) (fun e=>Nat.lt_irrefl _ (HUL.out _ e.symm))).trans h.1,(hg.cell_far ⟨wr.heap.size,1,none⟩ (cell_block h.2) (fun e=>Nat.lt_irrefl _ (HUL.out _ e.symm))).trans h.2⟩
     go_region_held3 (fun w'=>w'.cell? ⟨wr.heap.size,0,none⟩=some (.string f.name)∧w'.cell? ⟨wr.heap.size,1,none⟩=some (.slice f.p f.txt.length f.cap))
      (first|exact ⟨b0',b1'⟩|exact q5|exact q6|exact q7)
      (first
       | (go_at_call 188;refine HCT.out.mono ?_;rintro e w5 ⟨sv,rfl,hot5,hb5⟩;obtain ⟨pc,capc,rfl⟩:=own_slice hot5;have q5:=F0.out w5 hb5;have hb6:Below W2.drew.heap.size W2.drew (w5.alloc (.cells #[.string f.name,.slice pc f.txt.length capc] 45)):=Below.alloc hb5 hb5.size _;have q6:=F0.out _ hb6;have hoj6:OwnJ w2.heap.size (w5.alloc (.cells #[.string f.name,.slice pc f.txt.length capc] 45)) (Value.slice p4 0 cp4) ([]:List Fx):=OwnJ.on (w:=W2.drew) HOJ2.out hb6;have hnew6:NewX (w5.alloc (.cells #[.string f.name,.slice pc f.txt.length capc] 45)) w5.heap.size ⟨f.name,pc,capc,f.txt⟩:=heap_alloc_new w5 _;have hbase6:w2.heap.size≤(w5.alloc (.cells #[.string f.name,.slice pc f.txt.length capc] 45)).heap.size:=Nat.le_trans HB3.out.size hb6.size)
       | (refine step_putX _ (by rfl) (.tmp 45) (.tmp 52) (by rfl) w2.heap.size (Value.slice p4 0 cp4) ([]:List Fx) 0 (by rfl) (by assumption) (by simp) _ _ (by rfl) (by assumption) (by have:=HL2.out;omega) (by assumption) ?_;intro g7 cap7 w7 hown7 hg7;have q7:=FA.out _ _ (by assumption) hg7))
     have hoj7:=joined_put (x:=⟨f.name,pc,capc,f.txt⟩) (M:=W2.drew.heap.size) hoj6 (OwnT.on hot5 ((Below.refl _ _).alloc (Nat.le_refl _) _)) (fun y hy k hk=>(World.ownsRow.lt (HOJ2.out.1.2 y hy) k hk).2) HB3.out.size hown7 hg7
     have HB7:Hid (Below w2.heap.size w2 w7):=(HB3.out.trans (hb6.mono HB3.out.size)).grown hg7 hbase6 (fun k hk=>(World.ownsRow.lt hoj6.1.1 k hk).1)
     have HOJ7:=hid hoj7
     clear hoj7 hown7 hg7 hoj6 hnew6 hot5 hb5 hb6 q5 q6 q7
     go_wp2_with fail
     go_roundg (ds.length-(i+1))
     case measure=>omega
     refine ⟨i+1,by go_num,by omega,by omega,_,HOJ7.out,?_,HB7.out⟩
     rw [HNX.out,HJS.out,List.map_append]
     rfl
   ·rw [List.concat_eq_append] at *
    obtain ⟨go,cp,rfl,hNgo,hgol⟩:=hoj.1.1.form (by simp)
    have hol:(o'++[x]).length=o'.length+1:=by simp
    rw [hol] at hoj ⊢ holen
    have hgo0:wr.cell? ⟨go,o'.length * 2,none⟩=some (.string x.name):=by
     have h1:=hoj.1.1
     rw [hol] at h1
     have h2:=cellsX_get (o'++[x]) o'.length (by simp)
     simp only [List.getElem_concat_length] at h2
     rw [h1.cellAt _ (by omega)];exact h2.1
    have hgo1:wr.cell? ⟨go,o'.length * 2+1,none⟩=some (.slice x.p x.txt.length x.cap):=by
     have h1:=hoj.1.1
     rw [hol] at h1
     have h2:=cellsX_get (o'++[x]) o'.length (by simp)
     simp only [List.getElem_concat_length] at h2
     rw [h1.cellAt _ (by omega)];exact h2.2
    have hz:(o'.length:Int)+1-1=(o'.length:Int):=by omega
    have z1:(0:Int)≤(o'.length:Int):=by omega
    have z2:(o'.length:Int)<(o'.length:Int)+1:=by omega
    have z3:o'.length≤9223372036854775806:=by omega
    have HOJ:=hid hoj
    clear hoj
    go_wp2_with fail
    obtain ⟨W1,hW1⟩:∃W1,wr.alloc (.cells #[.string f.name,.slice f.p f.txt.length f.cap] 45)=W1:=⟨_,rfl⟩
    have hgr1:Below wr.heap.size wr W1:=by rw [←hW1];exact (Below.refl _ _).alloc (Nat.le_refl _) _
    have b0:W1.cell? ⟨wr.heap.size,0,none⟩=some (.string f.name):=by rw [←hW1];simp
    have b1:W1.cell? ⟨wr.heap.size,1,none⟩=some (.slice f.p f.txt.length f.cap):=by rw [←hW1];simp
    have r0:W1.cell? ⟨go,o'.length * 2,none⟩=some (.string x.name):=(hgr1.cell (p:=⟨go,o'.length * 2,none⟩) hgol).trans hgo0
    have r1:W1.cell? ⟨go,o'.length * 2+1,none⟩=some (.slice x.p x.txt.length x.cap):=(hgr1.cell (p:=⟨go,o'.length * 2+1,none⟩) hgol).trans hgo1
    have HOJ1:=hid (HOJ.out.on hgr1)
    have HFI1:=hid (HFI.out.kept hgr1)
    have HB1:=hid (HB.out.trans (hgr1.mono hsz))
    rw [hW1]
    clear c0 c1 hgo0 hgo1 hgr1 hW1
    cases hq:(x.name.toList==f.name.toList) with
    | true =>
     have hnm:x.name=f.name:=by rw [toList_eq,decide_eq_true_eq] at hq;exact hq
     have HJS:Hid (joinStep ((o'++[x]).map Fx.fld) f.fld=(o'.map Fx.fld)++[(x.name,x.txt++f.txt)]):=by
      show _=_
      rw [List.map_append]
      exact joinStep_same _ _ _ hnm
     have hxt:x.txt.length+f.txt.length≤totF ((o'++[x]).map Fx.fld)+f.txt.length:=by
      have:=totF_mem (fs:=(o'++[x]).map Fx.fld) (f:=x.fld) (List.mem_map.2 ⟨x,by simp,rfl⟩)
      simp only [Fx.fld] at this;omega
     have hxb:(x.txt.length+f.txt.length) * 16≤140737488355328:=by have:=HBND.out;omega
     clear hxt hnm
     go_quiet (fail)
     go_wp2_with fail
     have b1':(W1.drewN nq).cell? ⟨wr.heap.size,1,none⟩=some (.slice f.p f.txt.length f.cap):=b1
     have r1':(W1.drewN nq).cell? ⟨go,o'.length * 2+1,none⟩=some (.slice x.p x.txt.length x.cap):=r1
     have HOJ2:Hid (OwnJ w2.heap.size (W1.drewN nq).drew (.slice (some ⟨go,0,none⟩) (o'.length+1) cp) (o'++[x])):=HOJ1.out
     have HFI2:Hid (f.at (W1.drewN nq)):=HFI1.out
     have HB3:Hid (Below w2.heap.size w2 (W1.drewN nq).drew):=(bel_drewN HB1.out nq).drew
     clear b0 b1 r0 r1
     generalize W1.drewN nq=W2 at b1' r1' HOJ2 HFI2 HB3 ⊢
     have fz:W2.frozen? ⟨go,o'.length * 2+1,none⟩=false:=by
      have h1:=HOJ2.out.1.1
      rw [hol] at h1
      exact h1.frozenAt _
     by_cases hf0:f.txt=[]
     ·have hf0l:f.txt.length=0:=by rw [hf0];rfl
      have HSH:=hid (sl_shape (HOJ2.out.1.2 x (by simp)))
      have HOK:=hid (joined_kept HOJ2.out)
      rw [hf0l] at b1' ⊢
      go_region_law (first
       | (refine step_txt0 _ (by rfl) (.tmp 39) (.tmp 41) (by rfl) x.p x.txt.length x.cap f.p f.cap (by rfl) HSH.out.1 (by rfl) HSH.out.2 ?_))
      all_goals
       go_wp2_with fail
       go_roundg (ds.length-(i+1))
       case measure=>omega
       refine ⟨i+1,by go_num,by omega,by omega,o'++[x],HOK.out,?_,HB3.out.setCell (p:=⟨go,o'.length * 2+1,none⟩) hNgo _⟩
       rw [HNX.out,HJS.out,hf0,List.append_nil,List.map_append]
       rfl
     ·obtain ⟨b,off,hfp,hcl⟩:∃b off,f.p=some ⟨b,off,none⟩∧∀i,(h:i<f.txt.length)→W2.cell? ⟨b,off+i,none⟩=some (.string f.txt[i]):=by
       rcases HFI2.out with h|h
       ·exact absurd h hf0
       ·exact h
      have hpos:0<f.txt.length:=List.length_pos_iff.2 hf0
      rw [hfp] at b1' ⊢
      have HOT:Hid (OwnT w2.heap.size W2.drew x.sl x.txt):=HOJ2.out.1.2 x (by simp)
      have HCL:Hid (∀j u,(f.txt.map Value.string)[j]? = some u→W2.drew.cell? ((⟨b,off,none⟩:Addr).add j)=some u):=fun j u hj=>by
       rw [addr_add]
       have hjl:j<f.txt.length:=by have:=(List.getElem?_eq_some_iff.1 hj).1;simpa using this
       rw [List.getElem?_map,List.getElem?_eq_getElem hjl] at hj
       rw [←Option.some.inj hj]
       exact hcl j hjl
      have HNB:Hid (w2.heap.size≤W2.drew.heap.size):=HB3.out.size
      clear hcl
      go_region_law (first
       | (refine step_append_lies _ (by rfl) (.tmp 39) (.tmp 41) 43 (by rfl) w2.heap.size 9 i0 (.string ⟨#[]⟩) 1 16 Tryz.underlying43 HI.out hz0 hz1 hz2 rfl (by decide) x.sl x.txt.length (x.txt.map Value.string) (by rfl) HOT.out ⟨b,off,none⟩ f.txt.length f.cap (f.txt.map Value.string) (by rfl) (by simp) HCL.out (by intro u hu;obtain ⟨t,_,rfl⟩:=List.mem_map.1 hu;rfl) hpos (by unfold maxLen;omega) hxb HNB.out _ rfl ?_;intro g4 cap4 w4 hown4 hg4 hat4 hlt4;obtain ⟨k1,k2,hoj4⟩:=joined_grown HOJ2.out hown4 hg4 hat4))
      all_goals
       have HOJ4:=hid hoj4
       have HB4:Hid (Below w2.heap.size w2 w4):=HB3.out.grown hg4 HNB.out (fun k hk=>(World.ownsRow.lt HOT.out k hk).1)
       clear hoj4 hown4 hg4 hat4
       go_wp2_with fail
       go_roundg (ds.length-(i+1))
       case measure=>omega
       refine ⟨i+1,by go_num,by omega,by omega,_,HOJ4.out,?_,HB4.out.setCell (p:=⟨go,o'.length * 2+1,none⟩) hNgo _⟩
       rw [HNX.out,HJS.out,List.map_append]
       rfl
    | false =>
     have hnm:x.name≠f.name:=by rw [toList_eq,decide_eq_false_iff_not] at hq;exact hq
     have HJS:Hid (joinStep ((o'++[x]).map Fx.fld) f.fld=((o'++[x]).map Fx.fld)++[f.fld]):=by
      show _=_
      rw [List.map_append]
      exact joinStep_other _ _ _ hnm
     clear hnm
     go_quiet (fail)
     go_wp2_with fail
     have b0':(W1.drewN nq).cell? ⟨wr.heap.size,0,none⟩=some (.string f.name):=b0
     have b1':(W1.drewN nq).cell? ⟨wr.heap.size,1,none⟩=some (.slice f.p f.txt.length f.cap):=b1
     have HOJ2:Hid (OwnJ w2.heap.size (W1.drewN nq).drew (.slice (some ⟨go,0,none⟩) (o'.length+1) cp) (o'++[x])):=HOJ1.out
     have HFI2:Hid (f.at (W1.drewN nq)):=HFI1.out
     have HB3:Hid (Below w2.heap.size w2 (W1.drewN nq).drew):=(bel_drewN HB1.out nq).drew
     clear b0 b1 r0 r1
     generalize W1.drewN nq=W2 at b0' b1' HOJ2 HFI2 HB3 ⊢
     have F0:Hid (∀w':World,Below W2.drew.heap.size W2.drew w'→w'.cell? ⟨wr.heap.size,0,none⟩=some (.string f.name)∧w'.cell? ⟨wr.heap.size,1,none⟩=some (.slice f.p f.txt.length f.cap)):=fun w' hb=>⟨(hb.cell (p:=⟨wr.heap.size,0,none⟩) (cell_block (w:=W2.drew) b0')).trans b0',(hb.cell (p:=⟨wr.heap.size,1,none⟩) (cell_block (w:=W2.drew) b1')).trans b1'⟩
     have HCT:=hid (cloneT_any f.p f.cap f.txt W2.drew HFI2.out (by have:=HBND.out;omega))
     have hFl:wr.heap.size<W2.heap.size:=cell_block b0'
     have FA:Hid (∀w3 w4:World,(w3.cell? ⟨wr.heap.size,0,none⟩=some (.string f.name)∧w3.cell? ⟨wr.heap.size,1,none⟩=some (.slice f.p f.txt.length f.cap))→w3.grownBy w4 (Value.slice (some ⟨go,0,none⟩) (o'.length+1) cp).ownBlock→w4.cell? ⟨wr.heap.size,0,none⟩=some (.string f.name)∧w4.cell? ⟨wr.heap.size,1,none⟩=some (.slice f.p f.txt.length f.cap)):=fun w3 w4 h hg =>
      ⟨(hg.cell_far ⟨wr.heap.size,0,none⟩ (cell_block h.1) (fun e=>by have:wr.heap.size=go:=(by simpa [Value.ownBlock] using e);omega)).trans h.1,(hg.cell_far ⟨wr.heap.size,1,none⟩ (cell_block h.2) (fun e=>by have:wr.heap.size=go:=(by simpa [Value.ownBlock] using e);omega)).trans h.2⟩
     go_region_held3 (fun w'=>w'.cell? ⟨wr.heap.size,0,none⟩=some (.string f.name)∧w'.cell? ⟨wr.heap.size,1,none⟩=some (.slice f.p f.txt.length f.cap))
      (first|exact ⟨b0',b1'⟩|exact q5|exact q6|exact q7)
      (first
       | (go_at_call 188;refine HCT.out.mono ?_;rintro e w5 ⟨sv,rfl,hot5,hb5⟩;obtain ⟨pc,capc,rfl⟩:=own_slice hot5;have q5:=F0.out w5 hb5;have hb6:Below W2.drew.heap.size W2.drew (w5.alloc (.cells #[.string f.name,.slice pc f.txt.length capc] 45)):=Below.alloc hb5 hb5.size _;have q6:=F0.out _ hb6;have hoj6:OwnJ w2.heap.size (w5.alloc (.cells #[.string f.name,.slice pc f.txt.length capc] 45)) (Value.slice (some ⟨go,0,none⟩) (o'.length+1) cp) (o'++[x]):=OwnJ.on (w:=W2.drew) HOJ2.out hb6;have hnew6:NewX (w5.alloc (.cells #[.string f.name,.slice pc f.txt.length capc] 45)) w5.heap.size ⟨f.name,pc,capc,f.txt⟩:=heap_alloc_new w5 _;have hbase6:w2.heap.size≤(w5.alloc (.cells #[.string f.name,.slice pc f.txt.length capc] 45)).heap.size:=Nat.le_trans HB3.out.size hb6.size)
       | (refine step_putX _ (by rfl) (.tmp 45) (.tmp 52) (by rfl) w2.heap.size (Value.slice (some ⟨go,0,none⟩) (o'.length+1) cp) (o'++[x]) (o'.length+1) (by rfl) (by assumption) (by simp) _ _ (by rfl) (by assumption) (by have:=HL2.out;omega) (by assumption) ?_;intro g7 cap7 w7 hown7 hg7;have q7:=FA.out _ _ (by assumption) hg7))
     have hoj7:=joined_put (x:=⟨f.name,pc,capc,f.txt⟩) (M:=W2.drew.heap.size) hoj6 (OwnT.on hot5 ((Below.refl _ _).alloc (Nat.le_refl _) _)) (fun y hy k hk=>(World.ownsRow.lt (HOJ2.out.1.2 y hy) k hk).2) HB3.out.size (by rw [hol];exact hown7) hg7
     have HB7:Hid (Below w2.heap.size w2 w7):=(HB3.out.trans (hb6.mono HB3.out.size)).grown hg7 hbase6 (fun k hk=>(World.ownsRow.lt hoj6.1.1 k hk).1)
     have HOJ7:=hid hoj7
     clear hoj7 hown7 hg7 hoj6 hnew6 hot5 hb5 hb6 q5 q6 q7
     go_wp2_with fail
     go_roundg (ds.length-(i+1))
     case measure=>omega
     refine ⟨i+1,by go_num,by omega,by omega,_,HOJ7.out,?_,HB7.out⟩
     rw [HNX.out,HJS.out,List.map_append]
     rfl
  ·have hltz:¬ (i:Int)<(ds.length:Int):=by omega
   obtain rfl:i=ds.length:=by omega
   have HP:Hid (OwnJ w2.heap.size wr u4 o∧o.map Fx.fld=joinS (ds.map Fx.fld)∧Below w2.heap.size w2 wr):=by
    rw [List.take_of_length_le (by simp)] at hmap
    exact ⟨hoj,hmap,hb⟩
   clear hoj hmap hb
   go_wp2_with fail
   go_ret
   obtain ⟨h1,h2,h3⟩:=HP.out
   have hsz:=HB2.out.size
   exact ⟨_,ds,o,rfl,HSO.out,⟨⟨own_weak h1.1.1 hsz,fun x hx=>own_weak (h1.1.2 x hx) hsz⟩,h1.2⟩,h2,HB2.out.trans (h3.mono hsz)⟩
end
section
open Go.RowKit Go.Sort Go.Lib
theorem joinS_all {P:ByteArray→Prop} {Q:ByteArray→Prop} (fs:List Fld) (h:∀f∈fs,P f.1∧∀t∈f.2,Q t):∀f∈joinS fs,P f.1∧∀t∈f.2,Q t:=by
 have:∀(l o:List Fld),(∀f∈l,P f.1∧∀t∈f.2,Q t)→(∀f∈o,P f.1∧∀t∈f.2,Q t)→∀f∈l.foldl joinStep o,P f.1∧∀t∈f.2,Q t:=by
  intro l
  induction l with
  | nil=>intro o _ ho;exact ho
  | cons g l ih =>
   intro o hl ho
   rw [List.foldl_cons]
   refine ih _ (fun f hf=>hl f (by simp [hf])) ?_
   have hg:=hl g (by simp)
   rcases List.eq_nil_or_concat o with rfl|⟨o',x,rfl⟩
   ·intro f hf;rw [joinStep_nil,List.mem_singleton] at hf;subst hf;exact hg
   ·rw [List.concat_eq_append] at ho ⊢
    have hx:=ho x (by simp)
    by_cases e:x.1=g.1
    ·rw [joinStep_same _ _ _ e]
     intro f hf
     rw [List.mem_append,List.mem_singleton] at hf
     rcases hf with hf|rfl
     ·exact ho f (by simp [hf])
     ·refine ⟨hx.1,fun t ht=>?_⟩
      rw [List.mem_append] at ht
      exact ht.elim (hx.2 t) (hg.2 t)
    ·rw [joinStep_other _ _ _ e]
     intro f hf
     rw [List.mem_append,List.mem_singleton] at hf
     rcases hf with hf|rfl
     ·exact ho f hf
     ·exact hg
 exact this fs [] h (fun f hf=>by simp at hf)
theorem enters_misnamed:∀args w,(callFunc 155 args).run Tryz.prog w=.ok (.enter 155 args) w:=enters_of Tryz.func155 (by kernel_rfl) rfl
theorem enters_bare:∀args w,(callFunc 157 args).run Tryz.prog w=.ok (.enter 157 args) w:=enters_of Tryz.func157 (by kernel_rfl) rfl
def Fy:Type:={ x:Fx // x.name.size≤maxLen }
def fyNone:Fy:=⟨⟨⟨#[]⟩,none,0,[]⟩,Nat.zero_le _⟩
def misB (f:Fld):Bool:=!fieldB f.1.data.toList
def bareB (f:Fld):Bool:=f.2.isEmpty
set_option maxHeartbeats 1000000 in
theorem has_none (p:Option Addr) (c:Nat) (fv:Value) (w:World) :
  Calls Tryz.prog 154 #[.slice p 0 c,fv] w fun e w'=>e=.returned (.bool false)∧w'=w:=by
 have hix:Calls Tryz.prog 184 #[.slice p 0 c,fv] w fun e w'=>e=.returned (.int .i64 (-1))∧w'=w:=by
  go_enter Tryz.func184,Tryz.ntmps184
  go_wp2_with fail
  refine wp_loop_rounds 1 ?_
  rw [rounds_succ]
  go_wp2_with fail
  go_ret
  exact ⟨rfl,rfl⟩
 have HX:=hid hix
 clear hix
 go_enter Tryz.func154,Tryz.ntmps154
 go_wp2_with (first|(go_at_call 184;refine HX.out.mono ?_;rintro e w1 ⟨rfl,rfl⟩))
 go_ret
 exact ⟨rfl,rfl⟩
theorem xs_enc {w:World} {b off:Nat} {d:List Fx} (h:XsAt w b off d) (j:Nat) (hj:j<d.length) (i:Nat) (v:Value) (hv:(encX d[j])[i]? = some v):w.cell? ⟨b,off+j * 2+i,none⟩=some v:=by
 obtain ⟨c0,c1⟩:=h j hj
 match i,hv with
 | 0,hv=>simp [encX] at hv;subst hv;exact c0
 | 1,hv=>simp [encX] at hv;subst hv;exact c1
theorem hasMis_any (v:Value) (d:List Fx) (w:World) (hv:IsXs w v d) (hf:FitX d) :
  Calls Tryz.prog 154 #[v,.func (.func 155) #[] #[]] w fun e w'=>e=.returned (.bool ((d.map Fx.fld).any misB))∧Below w.heap.size w w':=by
 obtain ⟨p,cap,rfl,hd,_⟩:=hv
 rcases hd with rfl|⟨b,off,rfl,hx⟩
 ·refine (has_none p cap _ w).mono ?_
  rintro e w' ⟨rfl,rfl⟩
  exact ⟨rfl,Below.refl _ _⟩
 ·by_cases h0:d=[]
  ·subst h0
   refine (has_none _ cap _ w).mono ?_
   rintro e w' ⟨rfl,rfl⟩
   exact ⟨rfl,Below.refl _ _⟩
  ·have hlen:0<d.length:=List.length_pos_iff.2 h0
   have hfn:∀x∈d,x.name.size≤maxLen:=fun x hx=>(hf.2 x hx).1
   have hl:=hf.1
   unfold maxLen at hl
   obtain ⟨zs,hzs⟩:∃zs:List Fy,zs.map (·.1)=d:=⟨d.attachWith _ hfn,List.attachWith_map_subtype_val ..⟩
   have hzl:zs.length=d.length:=by rw [←hzs,List.length_map]
   letI:Inhabited Fy:=⟨fyNone⟩
   have hc:=AnyQ.slices_ContainsFunc (α:=Fy) Tryz.hasFld 2 Tryz.isAgg45 Tryz.sizeOf45 (fun x=>encX x.1) (fun _=>rfl) (fun x=>misB x.1.fld) 155 #[] enters_misnamed b off d.length cap zs w
    (fun W x hb=>(misnamed_any x.1 W x.2).mono fun _ _ ⟨h1,h2⟩=>⟨h1,hb.trans (h2.below.mono hb.size)⟩) (by omega) (by omega) (cell_block (hx 0 hlen).1)
    (fun j hj i u hu=>by
     have hj':j<d.length:=by omega
     rw [getElem!_pos zs j hj] at hu
     have e:(zs[j]).1=d[j]:=by subst hzs;simp
     rw [e] at hu
     exact xs_enc hx j hj' i u hu)
   change Calls Tryz.prog 154 _ _ _ at hc
   refine hc.mono ?_
   rintro e w' ⟨rfl,hb⟩
   refine ⟨ret_bool ?_,hb⟩
   rw [List.take_of_length_le (by omega),←hzs]
   simp [List.any_map,Function.comp_def]
theorem hasBare_any (v:Value) (d:List Fx) (w:World) (hv:IsXs w v d) (hl:d.length≤maxLen) :
  Calls Tryz.prog 154 #[v,.func (.func 157) #[] #[]] w fun e w'=>e=.returned (.bool ((d.map Fx.fld).any bareB))∧Below w.heap.size w w':=by
 obtain ⟨p,cap,rfl,hd,_⟩:=hv
 unfold maxLen at hl
 rcases hd with rfl|⟨b,off,rfl,hx⟩
 ·refine (has_none p cap _ w).mono ?_
  rintro e w' ⟨rfl,rfl⟩
  exact ⟨rfl,Below.refl _ _⟩
 ·by_cases h0:d=[]
  ·subst h0
   refine (has_none _ cap _ w).mono ?_
   rintro e w' ⟨rfl,rfl⟩
   exact ⟨rfl,Below.refl _ _⟩
  ·have hlen:0<d.length:=List.length_pos_iff.2 h0
   have hc:=AnyQ.slices_ContainsFunc (α:=Fx) Tryz.hasFld 2 Tryz.isAgg45 Tryz.sizeOf45 encX (fun _=>rfl) (fun x=>bareB x.fld) 157 #[] enters_bare b off d.length cap d w
    (fun W x hb=>(bare_any x W).mono fun _ _ ⟨h1,h2⟩=>⟨h1,hb.trans (h2.below.mono hb.size)⟩) (by omega) (by omega) (cell_block (hx 0 hlen).1)
    (fun j hj i u hu=>by
     rw [getElem!_pos d j hj] at hu
     exact xs_enc hx j hj i u hu)
   change Calls Tryz.prog 154 _ _ _ at hc
   refine hc.mono ?_
   rintro e w' ⟨rfl,hb⟩
   refine ⟨ret_bool ?_,hb⟩
   rw [List.take_length]
   simp [List.any_map,Function.comp_def]
def NormPost (w : World) (d : List Fx) (e : Ending) (w' : World) : Prop :=
  (((d.map Fx.fld).any misB = true ∧ e = .returned (.tuple #[.slice none 0 0, .int .i64 2])) ∨
   ((d.map Fx.fld).any misB = false ∧ ∃ ds, SortOf d ds ∧
     (((joinS (ds.map Fx.fld)).any bareB = true ∧ e = .returned (.tuple #[.slice none 0 0, .int .i64 3])) ∨
      ((joinS (ds.map Fx.fld)).any bareB = false ∧ mayB (joinS (ds.map Fx.fld)) = false ∧ e = .returned (.tuple #[.slice none 0 0, .int .i64 5])) ∨
      ((joinS (ds.map Fx.fld)).any bareB = false ∧ mayB (joinS (ds.map Fx.fld)) = true ∧ ∃ u o, e = .returned (.tuple #[u, .int .i64 0]) ∧ OwnJ w.heap.size w' u o ∧ o.map Fx.fld = joinS (ds.map Fx.fld))))) ∧ Below w.heap.size w w'
theorem joined_fit {d ds o:List Fx} (hf:FitX d) (hso:SortOf d ds) (ho:o.map Fx.fld=joinS (ds.map Fx.fld)) (htot:totF (d.map Fx.fld) * 16≤140737488355328):FitX o:=by
 have hall:∀f∈ds.map Fx.fld,f.1.size≤maxLen∧∀t∈f.2,t.size≤maxLen:=fun f hf'=>by
  obtain ⟨x,hx,rfl⟩:=List.mem_map.1 hf'
  have:=hf.2 x (hso.1.mem_iff.1 hx)
  exact ⟨this.1,this.2.2⟩
 have hj:=joinS_all (P:=fun n=>n.size≤maxLen) (Q:=fun t=>t.size≤maxLen) _ hall
 have htt:totF (joinS (ds.map Fx.fld))=totF (d.map Fx.fld):=by
  rw [totF_joinS];exact ((hso.1.map Fx.fld).map _).sum_nat
 refine ⟨?_,fun x hx=>?_⟩
 ·have h1:=joinS_len (ds.map Fx.fld)
  rw [←ho,List.length_map,List.length_map] at h1
  have:=hso.1.length_eq
  have:=hf.1
  omega
 ·have hm:x.fld∈joinS (ds.map Fx.fld):=by rw [←ho];exact List.mem_map.2 ⟨x,hx,rfl⟩
  obtain ⟨h1,h2⟩:=hj _ hm
  refine ⟨h1,?_,h2⟩
  have:=totF_mem hm
  rw [htt] at this
  unfold maxLen
  omega
set_option maxHeartbeats 2000000 in
set_option maxRecDepth 100000 in
theorem norm_any (v:Value) (d:List Fx) (w:World) (hv:IsXs w v d) (hf:FitX d) (hl:d.length * 40≤140737488355328) (htot:totF (d.map Fx.fld) * 16≤140737488355328) :
  Calls Tryz.prog 115 #[v] w fun e w'=>NormPost w d e w':=by
 have HM:=hid (hasMis_any v d w hv hf)
 cases hmis:(d.map Fx.fld).any misB with
 | true =>
  rw [hmis] at HM
  clear hv
  go_enter Tryz.func115,Tryz.ntmps115
  go_wp2_with (first|(go_at_call 154;refine HM.out.mono ?_;rintro e w1 ⟨rfl,hb1⟩))
  go_ret2
  exact ⟨Or.inl ⟨hmis,rfl⟩,hb1⟩
 | false =>
  rw [hmis] at HM
  have HV:=hid hv
  have HF:=hid hf
  clear hv hf
  go_enter Tryz.func115,Tryz.ntmps115
  go_wp2_with (first|(go_at_call 154;refine HM.out.mono ?_;rintro e w1 ⟨rfl,hb1⟩)|(go_at_call 156;refine (joined_any v d w1 (HV.out.kept hb1) hl htot).mono ?_;rintro e w2 ⟨u,ds,o,rfl,hso,hoj,hom,hb2⟩;have HSO:=hid hso;have HOJ:=hid hoj;have HOM:=hid hom;clear hso hoj hom))
  have hfo:=joined_fit HF.out HSO.out HOM.out htot
  have hbar:=hasBare_any u o w2 HOJ.out.1.is hfo.1
  rw [HOM.out] at hbar
  have HBA:=hid hbar
  have HFO:=hid hfo
  clear hbar hfo
  have hbw:Below w.heap.size w w2:=hb1.trans (hb2.mono hb1.size)
  cases hbb:(joinS (ds.map Fx.fld)).any bareB with
  | true =>
   rw [hbb] at HBA
   go_wp2_with (first|(go_at_call 154;refine HBA.out.mono ?_;rintro e w3 ⟨rfl,hb3⟩))
   go_ret2
   exact ⟨Or.inr ⟨hmis,ds,HSO.out,Or.inl ⟨hbb,rfl⟩⟩,hbw.trans (hb3.mono hbw.size)⟩
  | false =>
   rw [hbb] at HBA
   cases hmm:mayB (joinS (ds.map Fx.fld)) with
   | false =>
    go_wp2_with (first|(go_at_call 154;refine HBA.out.mono ?_;rintro e w3 ⟨rfl,hb3⟩;have hmy:=hid (may_any u o w3 (HOJ.out.1.is.kept hb3) HFO.out);rw [HOM.out,hmm] at hmy)|(go_at_call 98;refine hmy.out.mono ?_;rintro e w4 ⟨rfl,hg4⟩))
    go_ret2
    exact ⟨Or.inr ⟨hmis,ds,HSO.out,Or.inr (Or.inl ⟨hbb,hmm,rfl⟩)⟩,(hbw.trans (hb3.mono hbw.size)).trans (hg4.below.mono (hbw.trans (hb3.mono hbw.size)).size)⟩
   | true =>
    go_wp2_with (first|(go_at_call 154;refine HBA.out.mono ?_;rintro e w3 ⟨rfl,hb3⟩;have hmy:=hid (may_any u o w3 (HOJ.out.1.is.kept hb3) HFO.out);rw [HOM.out,hmm] at hmy)|(go_at_call 98;refine hmy.out.mono ?_;rintro e w4 ⟨rfl,hg4⟩))
    go_ret2
    have hoj4:=(HOJ.out.on hb3).on hg4.below
    exact ⟨Or.inr ⟨hmis,ds,HSO.out,Or.inr (Or.inr ⟨hbb,hmm,u,o,rfl,⟨⟨own_weak hoj4.1.1 hb1.size,fun x hx=>own_weak (hoj4.1.2 x hx) hb1.size⟩,hoj4.2⟩,HOM.out⟩)⟩,(hbw.trans (hb3.mono hbw.size)).trans (hg4.below.mono (hbw.trans (hb3.mono hbw.size)).size)⟩
end
section
open Go.RowKit
attribute [local go_sem] Oper.semAt_some
def fieldsW:List (List UInt8)→Option (List Fld)
 | []=>some []
 | l::r=>match wordO l with
  | none=>none
  | some (n,t)=>(fieldsW r).map ((⟨n.toArray⟩,[⟨t.toArray⟩]) :: ·)
theorem fieldsW_append (a b:List (List UInt8)):fieldsW (a++b)=(fieldsW a).bind fun x=>(fieldsW b).map (x ++ ·):=by
 induction a with
 | nil=>simp [fieldsW]
 | cons l a ih =>
  simp only [List.cons_append,fieldsW]
  cases wordO l with
  | none=>rfl
  | some o =>
   obtain ⟨n,t⟩:=o
   simp only [ih]
   cases fieldsW a with
   | none=>rfl
   | some x=>cases fieldsW b<;>simp
def ParseSt {M:Nat} (w:World) (N:Nat) (pre:List (Wd M)) (W:World):Prop :=
 ∃v d fs,W.heap[w.heap.size+2]? = some (.cells #[v] 37 (0,0))∧OwnXs (N+2) W v d∧fieldsW (plainW pre)=some fs∧d.map Fx.fld=fs∧d.length=pre.length ∧
  W.heap[w.heap.size]? = some (.cells #[.slice none 0 0] 37 (0,0))∧W.heap[w.heap.size+1]? = some (.cells #[.int .i64 0] 26 (0,0))∧Below w.heap.size w W∧N+2≤W.heap.size∧w.heap.size+6≤N
def ParseStop {M:Nat} (w:World) (N:Nat) (c:Code) (pre:List (Wd M)) (W:World):Prop :=
 c=.ret∧fieldsW (plainW pre)=none∧W.heap[w.heap.size]? = some (.cells #[.slice none 0 0] 37 (0,0))∧W.heap[w.heap.size+1]? = some (.cells #[.int .i64 4] 26 (0,0))∧Below w.heap.size w W∧w.heap.size+6≤N
def NormAns (N : Nat) (d : List Fx) (e : Ending) (w' : World) : Prop :=
  ((d.map Fx.fld).any misB = true ∧ e = .returned (.tuple #[.slice none 0 0, .int .i64 2])) ∨
   ((d.map Fx.fld).any misB = false ∧ ∃ ds, SortOf d ds ∧
     (((joinS (ds.map Fx.fld)).any bareB = true ∧ e = .returned (.tuple #[.slice none 0 0, .int .i64 3])) ∨
      ((joinS (ds.map Fx.fld)).any bareB = false ∧ mayB (joinS (ds.map Fx.fld)) = false ∧ e = .returned (.tuple #[.slice none 0 0, .int .i64 5])) ∨
      ((joinS (ds.map Fx.fld)).any bareB = false ∧ mayB (joinS (ds.map Fx.fld)) = true ∧ ∃ u o, e = .returned (.tuple #[u, .int .i64 0]) ∧ OwnJ N w' u o ∧ o.map Fx.fld = joinS (ds.map Fx.fld))))
theorem NormPost.ans {w w':World} {d:List Fx} {e:Ending} (h:NormPost w d e w'):NormAns w.heap.size d e w':=h.1
theorem OwnJ.far {N R:Nat} {w w':World} {v:Value} {o:List Fx} (h:OwnJ N w v o) (hg:w.grownBy w' (some R)) (hR:R<N):OwnJ N w' v o:=⟨h.1.far hg hR,h.2⟩
theorem OwnJ.weak {N N':Nat} {w:World} {v:Value} {o:List Fx} (h:OwnJ N w v o) (hN:N'≤N):OwnJ N' w v o:=⟨⟨own_weak h.1.1 hN,fun x hx=>own_weak (h.1.2 x hx) hN⟩,h.2⟩
theorem NormAns.map {N N':Nat} {d:List Fx} {e:Ending} {w w':World} (h:NormAns N d e w) (f:∀u o,OwnJ N w u o→OwnJ N' w' u o):NormAns N' d e w':=by
 rcases h with h|⟨h1,ds,h2,h3⟩
 ·exact Or.inl h
 ·refine Or.inr ⟨h1,ds,h2,?_⟩
  rcases h3 with h3|h3|⟨h3,h4,u,o,h5,h6,h7⟩
  ·exact Or.inl h3
  ·exact Or.inr (Or.inl h3)
  ·exact Or.inr (Or.inr ⟨h3,h4,u,o,h5,f _ _ h6,h7⟩)
theorem NormAns.shape {N:Nat} {d:List Fx} {e:Ending} {w:World} (h:NormAns N d e w):∃p n c k,e=.returned (.tuple #[.slice p n c,.int .i64 k]):=by
 rcases h with ⟨_,h⟩|⟨_,ds,_,⟨_,h⟩|⟨_,_,h⟩|⟨_,_,u,o,h,ho,_⟩⟩
 ·exact ⟨_,_,_,_,h⟩
 ·exact ⟨_,_,_,_,h⟩
 ·exact ⟨_,_,_,_,h⟩
 ·rcases ho.1.1.2 with ⟨rfl,_⟩|⟨g,cap,cur,rfl,_⟩
  ·exact ⟨_,_,_,_,h⟩
  ·exact ⟨_,_,_,_,h⟩
def ParsePost (w : World) (l : List UInt8) (e : Ending) (w' : World) : Prop :=
  ((l = [] ∧ e = .returned (.tuple #[.slice none 0 0, .int .i64 0])) ∨
   (l ≠ [] ∧ fieldsW (splitL l) = none ∧ e = .returned (.tuple #[.slice none 0 0, .int .i64 4])) ∨
   (l ≠ [] ∧ ∃ fs d, fieldsW (splitL l) = some fs ∧ d.map Fx.fld = fs ∧ NormAns w.heap.size d e w')) ∧ Below w.heap.size w w'
theorem splitL_len (l:List UInt8):(splitL l).length≤l.length+1:=by
 induction h:l.length using Nat.strongRecOn generalizing l with
 | _ k ih =>
  subst h
  rcases ix_cases l 32 with ⟨h,_⟩|⟨i,h,hi,_⟩
  ·rw [splitL_no h];simp
  ·rw [splitL_yes h,List.length_cons]
   have:=ih (l.drop (i+1)).length (by simp;omega) _ rfl
   simp at this ⊢
   omega
theorem wordO_len {l n t:List UInt8} (h:wordO l=some (n,t)):n.length≤l.length∧t.length≤l.length:=by
 unfold wordO at h
 split at h
 ·cases h
 ·cases hr:readL (l.drop ((Lib.indexByte l 61).toNat+1)) with
  | none=>rw [hr] at h;cases h
  | some m =>
   rw [hr] at h
   simp only [Option.map_some,Option.some.injEq,Prod.mk.injEq] at h
   obtain ⟨rfl,rfl⟩:=h
   have:=readL_len _ _ _ (Nat.le_refl _) hr
   simp at this ⊢
   omega
theorem fieldsW_len {B:Nat} (ls:List (List UInt8)) (hB:∀l∈ls,l.length≤B):∀fs,fieldsW ls=some fs→fs.length=ls.length∧totF fs=ls.length∧∀f∈fs,f.1.size≤B∧f.2.length=1∧∀t∈f.2,t.size≤B:=by
 induction ls with
 | nil=>intro fs h;cases h;exact ⟨rfl,rfl,fun f hf=>by simp at hf⟩
 | cons l ls ih =>
  intro fs h
  simp only [fieldsW] at h
  cases ho:wordO l with
  | none=>rw [ho] at h;cases h
  | some o =>
   obtain ⟨n,t⟩:=o
   rw [ho] at h
   cases hr:fieldsW ls with
   | none=>rw [hr] at h;cases h
   | some gs =>
    rw [hr] at h
    cases h
    obtain ⟨h1,h2,h3⟩:=ih (fun l' hl'=>hB l' (by simp [hl'])) gs hr
    obtain ⟨hn,ht⟩:=wordO_len ho
    have hl:=hB l (by simp)
    refine ⟨by simp [h1],?_,fun f hf=>?_⟩
    ·simp only [totF,List.map_cons,List.sum_cons,List.length_cons,List.length_nil] at h2 ⊢
     omega
    ·rw [List.mem_cons] at hf
     rcases hf with rfl|hf
     ·refine ⟨?_,rfl,fun u hu=>?_⟩
      ·show (ByteArray.mk _).size≤B
       simp [ByteArray.size];omega
      ·simp at hu;subst hu;simp [ByteArray.size];omega
     ·exact h3 f hf
theorem one_facts {w:World} {B:Nat} {u:Value} {T:TypeId} (h:w.heap[B]? = some (.cells #[u] T (0,0))):w.cell? ⟨B,0,none⟩=some u∧w.frozen? ⟨B,0,none⟩=false :=
 ⟨by rw [Lib.cell_of_heap h];rfl,Lib.frozen_of_heap h 0⟩
theorem keeps_below {B:Nat} {W W':World} (h:Below W.heap.size W W'):KeepsFrom B W W' :=
 ⟨h.size,fun k _ _ hk _=>(h.block k (Array.getElem?_eq_some_iff.1 hk).1).trans hk⟩
theorem row_cells {w:World} {base n k:Nat} {e:TypeId} {v:Value} {xs:List Value} {j:Nat} {o:Obj} (h:w.ownsRow base e n v k xs) (ej:v.ownBlock=some j) (hj:w.heap[j]? = some o):o.isCells=true:=by
 rcases h.2 with ⟨rfl,_⟩|⟨g,cap,cur,rfl,_,hgb,_⟩
 ·simp [Value.ownBlock] at ej
 ·obtain rfl:g=j:=by simpa [Value.ownBlock] using ej
  rw [hgb] at hj;cases hj;rfl
set_option maxHeartbeats 1000000 in
theorem parse_empty (w:World):Calls Tryz.prog 72 #[.string ⟨#[]⟩] w fun e w'=>ParsePost w [] e w':=by
 refine (callsIn_wide (n:=3)).1 ?_
 refine callsIn_of_wp_marks Tryz.func72 rfl trivial ?_ rfl
 simp only [Tryz.ntmps72,List.size_toArray,List.length_cons,List.length_nil,Nat.reduceAdd,Nat.reduceSub,Array.replicate_succ,Array.replicate_zero,List.push_toArray,List.append_toArray,List.nil_append,List.cons_append]
 gi_wp2
 exact ⟨.tuple #[.slice none 0 0,.int .i64 0],by simp [results,Tryz.results72,go_sem],⟨Or.inl ⟨rfl,rfl⟩,((Below.refl _ w).alloc (Nat.le_refl _) _).alloc (by simp) _⟩⟩
set_option maxHeartbeats 4000000 in
set_option maxRecDepth 100000 in
theorem parse_words (s:ByteArray) (w:World) (hp:PlainAt w) (h0:s.data.toList≠[]) (hs:s.size≤3000000000000) :
  Calls Tryz.prog 72 #[.string s] w fun e w'=>ParsePost w s.data.toList e w':=by
 refine (callsIn_wide (n:=3)).1 ?_
 refine callsIn_of_wp_marks Tryz.func72 rfl trivial ?_ rfl
 simp only [Tryz.ntmps72,List.size_toArray,List.length_cons,List.length_nil,Nat.reduceAdd,Nat.reduceSub,Array.replicate_succ,Array.replicate_zero,List.push_toArray,List.append_toArray,List.nil_append,List.cons_append]
 have hsl:(splitL s.data.toList).length≤s.size+1:=by simpa using splitL_len s.data.toList
 have hne:s.toList.isEmpty=false:=by
  rw [Lib.toList_data]
  cases h:s.data.toList with
  | nil=>exact absurd h h0
  | cons _ _=>rfl
 gi_wp2_with (refine ⟨trivial,?_⟩;gi_at_call 16;refine (callsIn_wide.2 (splitSeq_any _ _)).mono ?_;rintro e w3 ⟨rfl,hbx,hb3,hs3⟩)
 simp only [World.size_alloc] at hbx hb3 hs3
 have hb30:Below w.heap.size w w3:=((((Below.refl _ w).alloc (Nat.le_refl _) _).alloc (by simp) _).alloc (by simp;omega) _).trans (hb3.mono (by omega))
 have g0:w3.heap[w.heap.size]? = some (.cells #[.slice none 0 0] 37 (0,0)):=by
  rw [hb3.block _ (by omega),Below.heap_alloc _ _ _ (by simp;omega),Below.heap_alloc _ _ _ (by simp)];exact heap_alloc_new w _
 have g1:w3.heap[w.heap.size+1]? = some (.cells #[.int .i64 0] 26 (0,0)):=by
  rw [hb3.block _ (by omega),Below.heap_alloc _ _ _ (by simp)]
  have:=heap_alloc_new (w.alloc (.cells #[.slice none 0 0] 37)) (.cells #[.int .i64 0] 26)
  simpa using this
 have g2:w3.heap[w.heap.size+2]? = some (.cells #[.slice none 0 0] 37 (0,0)):=by
  rw [hb3.block _ (by omega)]
  have:=heap_alloc_new ((w.alloc (.cells #[.slice none 0 0] 37)).alloc (.cells #[.int .i64 0] 26)) (.cells #[.slice none 0 0] 37)
  simpa using this
 have hN6:w3.heap.size=w.heap.size+6:=by omega
 have ST0:Hid (∀o1 o2,ParseSt (M:=s.size) w w3.heap.size [] ((w3.alloc o1).alloc o2)):=fun o1 o2=>by
  have ha:∀k,k<w3.heap.size→((w3.alloc o1).alloc o2).heap[k]? = w3.heap[k]?:=fun k hk=>by
   rw [Below.heap_alloc _ _ _ (by simp;omega),Below.heap_alloc _ _ _ hk]
  exact ⟨.slice none 0 0,[],[],(ha _ (by omega)).trans g2,⟨World.ownsRow_nil _ _ _ _,fun x hx=>by simp at hx⟩,rfl,rfl,rfl,(ha _ (by omega)).trans g0,(ha _ (by omega)).trans g1,
   (hb30.alloc hb30.size _).alloc (by have:=hb30.size;simp;omega) _,by simp,by omega⟩
 have HBX:=hid hbx
 have HP:=hid hp
 have hen:=enters_of (P:=Tryz.prog) Tryz.func61 (by kernel_rfl) rfl
 clear hbx hp g0 g1 g2 hb3 hs3
 refine wpIn_rangeFunc_box (w:=w3) rfl (by decide) (gf:=61) (lb:=#[.pointer (some ⟨w.heap.size+1+1+1+1,0,none⟩),.pointer (some ⟨w.heap.size+1+1+1,0,none⟩),.pointer (some ⟨w.heap.size+1+1+1+2,0,none⟩)]) rfl trivial hen (Bs:=w.heap.size+1+1+1) (by omega)
  (split1_seq 2 (by decide) s.size _ _ _ s (Nat.le_refl _) (by unfold maxLen;omega) w3 HBX.out) ?hKt ?hKb (fun _=>rfl) (ParseSt w w3.heap.size) (ParseStop w w3.heap.size) ?hIp ?hIb ?hXp ST0.out
  (fun x=>{ tmps:=#[.string s,undef,.pointer (some ⟨w.heap.size,0,none⟩),.pointer (some ⟨w.heap.size+1,0,none⟩),.pointer (some ⟨w.heap.size+1+1,0,none⟩),.string x.1,undef,undef,.string s,.bool false,.string s,
   .func (.func 61) #[] #[.pointer (some ⟨w.heap.size+1+1+1+1,0,none⟩),.pointer (some ⟨w.heap.size+1+1+1,0,none⟩),.pointer (some ⟨w.heap.size+1+1+1+2,0,none⟩)],
   .string x.1,undef,undef,undef,undef,undef,undef,undef,undef,undef,undef,undef,undef,undef,undef,undef,undef],defers:=[] }) ?assign ?body ?done ?stop
 case hKt=>exact fun h k=>⟨k.1.trans h.1,k.2.1.trans h.2.1,k.2.2.trans h.2.2⟩
 case hKb=>exact fun W l o' hl=>⟨World.putObj_heap_other (by omega),World.putObj_heap_other (by omega),World.putObj_heap_other (by omega)⟩
 case hIp =>
  rintro pre W o' ⟨v,d,fs,k2,hox,hf,hm,hl,k0,k1,hb,hz,h6⟩
  have hg:W.grownBy (W.putObj (w3.heap.size+1) o') (some (w3.heap.size+1)):=grownBy_putObj' W _ o'
  exact ⟨v,d,fs,(World.putObj_heap_other (by omega)).trans k2,hox.far hg (by omega),hf,hm,hl,(World.putObj_heap_other (by omega)).trans k0,(World.putObj_heap_other (by omega)).trans k1,hb.grown hg (by omega) (fun k e=>by cases e;omega),Nat.le_trans hz hg.size,h6⟩
 case hIb =>
  rintro pre W u ⟨v,d,fs,k2,hox,hf,hm,hl,k0,k1,hb,hz,h6⟩
  have hg:W.grownBy (W.setCell ⟨w.heap.size+1+1+1,0,none⟩ u) (some (w.heap.size+1+1+1)):=grown_set W _ 0 u
  exact ⟨v,d,fs,(hg.block _ (by omega) (by intro e;have:=Option.some.inj e;omega)).trans k2,hox.far hg (by omega),hf,hm,hl,(hg.block _ (by omega) (by intro e;have:=Option.some.inj e;omega)).trans k0,(hg.block _ (by omega) (by intro e;have:=Option.some.inj e;omega)).trans k1,hb.grown hg (by omega) (fun k e=>by cases e;omega),Nat.le_trans hz hg.size,h6⟩
 case hXp =>
  rintro c pre W o' ⟨hc,hf,k0,k1,hb,h6⟩
  have hg:W.grownBy (W.putObj (w3.heap.size+1) o') (some (w3.heap.size+1)):=grownBy_putObj' W _ o'
  exact ⟨hc,hf,(World.putObj_heap_other (by omega)).trans k0,(World.putObj_heap_other (by omega)).trans k1,⟨hg.os.trans hb.os,hg.tape.trans hb.tape,hg.output.trans hb.output,Nat.le_trans hb.size hg.size,fun k hk=>(World.putObj_heap_other (by omega)).trans (hb.block k hk)⟩,h6⟩
 case assign =>
  intro l x W K hK
  simp only [encW]
  gi_wp2
  exact hK
 case body =>
  rintro l pre x W hlW ⟨v,d,fs,k2,hox,hf,hm,hl,k0,k1,hb,hz,h6⟩ hlen
  have hxs:x.1.size≤140737488355327:=Nat.le_trans x.2 (by omega)
  have hwp:=word_any x.1 W (HP.out.on hb) hxs
  obtain ⟨i0,hi,hz0,hz1,hz2⟩:=info_parts Tryz.infoFld
  have hpl:plainW (pre++[x])=plainW pre++[x.1.data.toList]:=by simp [plainW]
  have HPL:=hid hpl
  have HF:=hid hf
  have HB:=hid hb
  have HOX:=hid hox
  have HK0:=hid k0
  have HK1:=hid k1
  have HK2:=hid k2
  have HM:=hid hm
  have HLN:=hid hl
  clear hpl hf hb hox hm hl
  cases hwo:wordO x.1.data.toList with
  | none =>
   have HW:Hid (Calls Tryz.prog 114 #[.string x.1] W fun e w'=>e=.returned (.tuple #[.agg #[.string ⟨#[]⟩,.slice none 0 0],.int .i64 4])∧Below W.heap.size W w'):=hwp.mono (by
    rintro e w' ⟨h|⟨n,t,h,_⟩,hb'⟩
    ·exact ⟨h.2,hb'⟩
    ·rw [hwo] at h;cases h)
   have HNO:Hid (fieldsW (plainW (pre++[x]))=none):=by
    show _=_
    rw [HPL.out,fieldsW_append,HF.out]
    simp [fieldsW,hwo]
   clear hwp k0 k1 k2
   have HN6:=hid hN6
   clear hN6
   gi_wp2_with (refine ⟨trivial,?_⟩;gi_at_call 114;refine (CallsIn.inRound l (callsIn_wide.2 HW.out)).mono ?_;rintro e W2 ⟨rfl,hb2⟩;have hs2:=hb2.size;have t0:=HK0.out;have t1:=HK1.out;have t0':=(Below.heap_alloc W2 (.cells #[.string ⟨#[]⟩,.slice none 0 0] 45) w.heap.size (by omega)).trans ((hb2.block w.heap.size (by omega)).trans t0);have t1':=(Below.heap_alloc W2 (.cells #[.string ⟨#[]⟩,.slice none 0 0] 45) (w.heap.size+1) (by omega)).trans ((hb2.block (w.heap.size+1) (by omega)).trans t1);obtain ⟨q0,q1⟩:=one_facts t0';obtain ⟨q2,q3⟩:=one_facts t1';have T0:=hid t0';have T1:=hid t1';clear t0 t1 t0' t1')
   have hbb:=((((HB.out.trans (hb2.mono HB.out.size)).alloc (Nat.le_trans HB.out.size hs2) (.cells #[.string ⟨#[]⟩,.slice none 0 0] 45)).setCell (p:=⟨w.heap.size,0,none⟩) (Nat.le_refl _) (.slice none 0 0)).setCell (p:=⟨w.heap.size+1,0,none⟩) (by show _≤w.heap.size+1;omega) (.int .i64 4))
   have hkf:KeepsFrom w3.heap.size W (W2.alloc (.cells #[.string ⟨#[]⟩,.slice none 0 0] 45)):=KeepsFrom.trans (keeps_below hb2) ((KeepsOthers.alloc _ _).from _)
   exact ⟨(hkf.trans ((KeepsOthers.setCell _ _ _).from _)).trans ((KeepsOthers.setCell _ _ _).from _),rfl,HNO.out,Boxed.other (Boxed.set _ T0.out) (by omega) _,Boxed.set _ (Boxed.other T1.out (by omega) _),hbb,h6⟩
  | some o =>
   obtain ⟨n,t⟩:=o
   have HW:Hid (Calls Tryz.prog 114 #[.string x.1] W fun e w'=>∃p,e=.returned (.tuple #[.agg #[.string ⟨n.toArray⟩,.slice p 1 1],.int .i64 0])∧OwnT W.heap.size w' (.slice p 1 1) [⟨t.toArray⟩]∧Below W.heap.size W w'):=hwp.mono (by
    rintro e w' ⟨h|⟨n',t',h,p,h1,h2⟩,hb'⟩
    ·rw [hwo] at h;cases h.1
    ·rw [hwo] at h;cases h;exact ⟨p,h1,h2,hb'⟩)
   have HNO:Hid (fieldsW (plainW (pre++[x]))=some (fs++[(⟨n.toArray⟩,[⟨t.toArray⟩])])):=by
    show _=_
    rw [HPL.out,fieldsW_append,HF.out]
    simp [fieldsW,hwo]
   clear hwp k0 k1 k2
   have HN6:=hid hN6
   clear hN6
   gi_wp2_with (first|(gi_at_builtin;refine wpListIn_append_own _ rfl _ _ 37 rfl (w3.heap.size+2) 45 i0 (.agg #[.string ⟨#[]⟩,.slice none 0 0]) 2 40 Tryz.underlying37 hi hz0 hz1 hz2 rfl (by decide) _ _ _ rfl HX2.out.1 ⟨W2.heap.size+1,0,none⟩ 1 1 (cellsX [⟨⟨n.toArray⟩,p,1,[⟨t.toArray⟩]⟩]) rfl rfl HC.out (cellsX_one _) (by rw [HLN.out];unfold maxLen;omega) (by rw [HLN.out];omega) (by simp;omega) ?_;intro v' w1 hown' hgrow _;obtain ⟨g',cap',rfl⟩:=ownsRow_succ hown';have hv1:=T2.out.kept hgrow (T2.out.not_row (by decide) HX2.out.1);have hc1:=hv1.cell;have hf1:=hv1.frozen;have HV1:=hid hv1;have HO:=hid hown';have HG:=hid hgrow;clear hv1 hown' hgrow)|(refine ⟨trivial,?_⟩;gi_at_call 114;refine (CallsIn.inRound l (callsIn_wide.2 HW.out)).mono ?_;rintro e W2 ⟨p,rfl,hot,hb2⟩;have HOT:=hid hot;clear hot;have hs2:=hb2.size;have t2:=HK2.out;have t2':=(Below.heap_alloc W2 (.cells #[.string ⟨n.toArray⟩,.slice p 1 1] 45) (w.heap.size+2) (by omega)).trans ((hb2.block (w.heap.size+2) (by omega)).trans t2);obtain ⟨q0,q1⟩:=one_facts t2';have T2:Hid (Boxed ((W2.alloc (.cells #[.string ⟨n.toArray⟩,.slice p 1 1] 45)).alloc (.cells #[.string ⟨n.toArray⟩,.slice p 1 1] 45)) (w.heap.size+2) 37 v):=hid (Boxed.alloc t2' _);have HB2:Hid (Below W.heap.size W ((W2.alloc (.cells #[.string ⟨n.toArray⟩,.slice p 1 1] 45)).alloc (.cells #[.string ⟨n.toArray⟩,.slice p 1 1] 45))):=hid ((hb2.alloc hs2 _).alloc (by simp;omega) _);have HX2:=hid (HOX.out.on HB2.out);have HC:=hid (news_x (W2.alloc (.cells #[.string ⟨n.toArray⟩,.slice p 1 1] 45)) ⟨⟨n.toArray⟩,p,1,[⟨t.toArray⟩]⟩);rw [World.size_alloc] at HC;clear t2 t2'))
   have hb12:Below (w3.heap.size+2) W w1:=(HB2.out.mono hz).trans ((Below.refl _ _).grown HG.out (by simp;omega) (fun k hk=>(World.ownsRow.lt HX2.out.1 k hk).1))
   have hsz1:=hb12.size
   have hot2:OwnT (w3.heap.size+2) ((W2.alloc (.cells #[.string ⟨n.toArray⟩,.slice p 1 1] 45)).alloc (.cells #[.string ⟨n.toArray⟩,.slice p 1 1] 45)) (.slice p 1 1) [⟨t.toArray⟩]:=own_weak (OwnT.on HOT.out (((Below.refl _ W2).alloc (Nat.le_refl _) _).alloc (by simp) _)) hz
   have hox1:=(HX2.out.put (x:=⟨⟨n.toArray⟩,p,1,[⟨t.toArray⟩]⟩) hot2 HO.out HG.out).far (grown_set w1 (w.heap.size+2) 0 (.slice (some ⟨g',0,none⟩) (d.length+1) cap')) (by omega)
   have hkf:KeepsFrom w3.heap.size W w1:=(keeps_below HB2.out).trans ((KeepsOthers.of_grownBy HG.out (fun j o ej hj=>row_cells HX2.out.1 ej hj)).from _)
   refine ⟨hkf.trans ((KeepsOthers.setCell _ _ _).from _),⟨(Below.heap_setCell w1 _ _ _ (by show _≠w.heap.size+1+1;omega)).trans (hb12.block _ (by omega)),(Below.heap_setCell w1 _ _ _ (by show _≠w.heap.size+1+1;omega)).trans (hb12.block _ (by omega)),(Below.heap_setCell w1 _ _ _ (by show _≠w.heap.size+1+1;omega)).trans (hb12.block _ (by omega))⟩,?_⟩
   exact ⟨_,d++[⟨⟨n.toArray⟩,p,1,[⟨t.toArray⟩]⟩],_,Boxed.set _ HV1.out,hox1,HNO.out,by rw [List.map_append,HM.out];rfl,by rw [List.length_append,List.length_append,HLN.out];rfl,
    Boxed.other ((hb12.block _ (by omega)).trans HK0.out) (by omega) _,Boxed.other ((hb12.block _ (by omega)).trans HK1.out) (by omega) _,
    (HB.out.trans (hb12.mono (by omega))).setCell (p:=⟨w.heap.size+1+1,0,none⟩) (by show _≤w.heap.size+1+1;omega) _,by simp [World.setCell];omega,h6⟩
 case done =>
  rintro xs W hS ⟨v,d,fs,k2,hox,hf,hm,hl,k0,k1,hb,hz,h6⟩ hK
  have hfs:fieldsW (splitL s.data.toList)=some fs:=by rw [←hS];exact hf
  have hln:d.length=(splitL s.data.toList).length:=by rw [hl];have:=congrArg List.length hS;simpa [plainW] using this
  obtain ⟨f1,f2,f3⟩:=fieldsW_len (B:=s.size) (plainW xs) (fun l hl=>by
   obtain ⟨x,_,rfl⟩:=List.mem_map.1 hl
   simpa using x.2) fs hf
  rw [hS] at f1 f2
  have hfit:FitX d:=⟨by unfold maxLen;omega,fun x hx=>by
   have:=f3 x.fld (by rw [←hm];exact List.mem_map.2 ⟨x,hx,rfl⟩)
   refine ⟨?_,?_,fun t ht=>?_⟩
   ·unfold maxLen;omega
   ·rw [this.2.1];unfold maxLen;omega
   ·have:=this.2.2 t ht;unfold maxLen;omega⟩
  have hnm:=norm_any v d W hox.is hfit (by omega) (by rw [hm,f2];omega)
  have HNM:Hid (Calls Tryz.prog 115 #[v] W fun e w'=>∃p n c k,e=.returned (.tuple #[.slice p n c,.int .i64 k])∧NormAns W.heap.size d (.returned (.tuple #[.slice p n c,.int .i64 k])) w'∧Below W.heap.size W w'):=hnm.mono (by
   intro e w' h
   obtain ⟨p,n,c,k,rfl⟩:=h.ans.shape
   exact ⟨p,n,c,k,rfl,h.ans,h.2⟩)
  obtain ⟨c2,_⟩:=one_facts k2
  have HK0:=hid k0
  have HK1:=hid k1
  have HB:=hid hb
  have HK:=hid hK
  have HN6:=hid hN6
  clear hnm hfit hox hf k0 k1 k2 hK hN6 hb
  gi_wp2_with (refine ⟨trivial,?_⟩;gi_at_call 115;refine (callsIn_wide.2 HNM.out).mono ?_;rintro e W2 ⟨p,n,c,k,rfl,hans,hb2⟩;obtain ⟨q0,q1⟩:=one_facts ((hb2.block w.heap.size (by omega)).trans HK0.out);obtain ⟨q2,q3⟩:=one_facts ((hb2.block (w.heap.size+1) (by omega)).trans HK1.out))
  have u0:Boxed W2 w.heap.size 37 (.slice none 0 0):=(hb2.block w.heap.size (by omega)).trans HK0.out
  have u1:Boxed W2 (w.heap.size+1) 26 (.int .i64 0):=(hb2.block (w.heap.size+1) (by omega)).trans HK1.out
  obtain ⟨W4,hW4⟩:∃W4,(W2.setCell ⟨w.heap.size,0,none⟩ (.slice p n c)).setCell ⟨w.heap.size+1,0,none⟩ (.int .i64 k)=W4:=⟨_,rfl⟩
  have y0:Boxed W4 w.heap.size 37 (.slice p n c):=by rw [←hW4];exact Boxed.other (Boxed.set _ u0) (by omega) _
  have y1:Boxed W4 (w.heap.size+1) 26 (.int .i64 k):=by rw [←hW4];exact Boxed.set _ (Boxed.other u1 (by omega) _)
  have hKD:W4.heap[w3.heap.size]? = some (.deferred (some [])):=by
   rw [←hW4]
   exact (Below.heap_setCell _ _ _ _ (by show _≠w.heap.size+1;omega)).trans ((Below.heap_setCell _ _ _ _ (by show _≠w.heap.size;omega)).trans ((hb2.block _ (by omega)).trans HK.out))
  have hb4:Below w.heap.size w W4:=by
   rw [←hW4]
   exact ((HB.out.trans (hb2.mono HB.out.size)).setCell (p:=⟨w.heap.size,0,none⟩) (Nat.le_refl _) _).setCell (p:=⟨w.heap.size+1,0,none⟩) (by show _≤w.heap.size+1;omega) _
  have ha4:NormAns W.heap.size d (.returned (.tuple #[.slice p n c,.int .i64 k])) W4:=by
   rw [←hW4]
   exact hans.map fun u o ho=>(ho.far (grown_set W2 w.heap.size 0 _) (by omega)).far (grown_set _ (w.heap.size+1) 0 _) (by omega)
  rw [hW4]
  have hsz4:=hb4.size
  have hg5:W4.grownBy (W4.putObj w3.heap.size (.deferred none)) (some w3.heap.size):=grownBy_putObj' W4 _ _
  have z0:Boxed (W4.putObj w3.heap.size (.deferred none)) w.heap.size 37 (.slice p n c):=(World.putObj_heap_other (by omega)).trans y0
  have z1:Boxed (W4.putObj w3.heap.size (.deferred none)) (w.heap.size+1) 26 (.int .i64 k):=(World.putObj_heap_other (by omega)).trans y1
  have z0c:=z0.cell
  have z1c:=z1.cell
  refine ⟨by simp,.inl ⟨_,_,rfl,run_takeDeferred hKD,?_⟩⟩
  exact ⟨.tuple #[.slice p n c,.int .i64 k],by simp [results,Tryz.results72,go_sem,z0c,z1c],⟨Or.inr (Or.inr ⟨h0,fs,d,hfs,hm,ha4.map fun u o ho=>(ho.far hg5 (by omega)).weak (by omega)⟩),hb4.grown hg5 (by omega) (fun k e=>by cases e;omega)⟩⟩
 case stop =>
  rintro c pre W hSp ⟨rfl,hf,k0,k1,hb,h6⟩ hK
  have HN6:=hid hN6
  clear hN6
  gi_wp2
  have hg5:W.grownBy (W.putObj w3.heap.size (.deferred none)) (some w3.heap.size):=grownBy_putObj' W _ _
  have z0:Boxed (W.putObj w3.heap.size (.deferred none)) w.heap.size 37 (.slice none 0 0):=(World.putObj_heap_other (by omega)).trans k0
  have z1:Boxed (W.putObj w3.heap.size (.deferred none)) (w.heap.size+1) 26 (.int .i64 4):=(World.putObj_heap_other (by omega)).trans k1
  have z0c:=z0.cell
  have z1c:=z1.cell
  have hno:fieldsW (splitL s.data.toList)=none:=by
   obtain ⟨r,hr⟩:=hSp
   rw [←hr,fieldsW_append,hf];rfl
  refine ⟨by simp,.inl ⟨_,_,rfl,run_takeDeferred hK,?_⟩⟩
  exact ⟨.tuple #[.slice none 0 0,.int .i64 4],by simp [results,Tryz.results72,go_sem,z0c,z1c],⟨Or.inr (Or.inl ⟨h0,hno,rfl⟩),hb.grown hg5 hb.size (fun k e=>by cases e;omega)⟩⟩
theorem parse_any (s:ByteArray) (w:World) (hp:PlainAt w) (hs:s.size≤3000000000000) :
  Calls Tryz.prog 72 #[.string s] w fun e w'=>ParsePost w s.data.toList e w':=by
 by_cases h0:s.data.toList=[]
 ·have e:s=⟨#[]⟩:=by
   obtain ⟨⟨l⟩⟩:=s
   cases h0
   rfl
  subst e
  exact parse_empty w
 ·exact parse_words s w hp h0 hs
end
section
open Go.RowKit Go.Sort Go.Lib
def InOrder (l:List Fld):Prop:=l.Pairwise fun x y=>ltB y.1 x.1=false
theorem order_unique:∀(a b:List Fld),InOrder a→InOrder b→(∀c,a.filter (fun x=>decide (x.1=c))=b.filter fun x=>decide (x.1=c))→a=b
 | [],[],_,_,_=>rfl
 | [],y::b,_,_,h=>by have:=h y.1;simp at this
 | x::a,[],_,_,h=>by have:=h x.1;simp at this
 | x::a,y::b,ha,hb,h=>by
  have ha':=List.pairwise_cons.1 ha
  have hb':=List.pairwise_cons.1 hb
  have hn:x.1=y.1:=by
   have hx:x∈(y::b).filter (fun z=>decide (z.1=x.1)):=by rw [←h];simp
   have hy:y∈(x::a).filter (fun z=>decide (z.1=y.1)):=by rw [h];simp
   rw [List.mem_filter] at hx hy
   have h1:ltB x.1 y.1=false:=by
    rcases List.mem_cons.1 hx.1 with e|e
    ·rw [e];exact ltB_irrefl _
    ·exact hb'.1 x e
   have h2:ltB y.1 x.1=false:=by
    rcases List.mem_cons.1 hy.1 with e|e
    ·rw [e];exact ltB_irrefl _
    ·exact ha'.1 y e
   exact ltB_anti h1 h2
  have hxy:x=y:=by
   have:=h x.1
   rw [List.filter_cons_of_pos (by simp),List.filter_cons_of_pos (by simp [hn])] at this
   exact (List.cons.inj this).1
  subst hxy
  congr 1
  refine order_unique a b ha'.2 hb'.2 fun c=>?_
  have:=h c
  by_cases e:x.1=c
  ·rw [List.filter_cons_of_pos (by simp [e]),List.filter_cons_of_pos (by simp [e])] at this
   exact (List.cons.inj this).2
  ·rwa [List.filter_cons_of_neg (by simp [e]),List.filter_cons_of_neg (by simp [e])] at this
def insF (f:Fld):List Fld→List Fld
 | []=>[f]
 | g::l=>if ltB f.1 g.1 then f::g::l else g::insF f l
def sortS (l:List Fld):List Fld:=l.foldl (fun acc f=>insF f acc) []
theorem mem_insF (f x:Fld) (l:List Fld):x∈insF f l↔x=f∨x∈l:=by
 induction l with
 | nil=>simp [insF]
 | cons g l ih =>
  unfold insF
  split
  ·simp
  ·simp [ih,or_left_comm]
theorem insF_order (f:Fld) (l:List Fld) (h:InOrder l):InOrder (insF f l):=by
 induction l with
 | nil=>simp [insF,InOrder]
 | cons g l ih =>
  have h':=List.pairwise_cons.1 h
  unfold insF
  split
  ·rename_i hlt
   refine List.pairwise_cons.2 ⟨fun x hx=>?_,h⟩
   rcases List.mem_cons.1 hx with rfl|hx
   ·exact ltB_asymm hlt
   ·have h1:=h'.1 x hx
    refine ltB_asymm ?_
    rcases ltB_cases g.1 x.1 with h2|h2|h2
    ·exact ltB_trans hlt h2
    ·rw [←h2];exact hlt
    ·rw [h1] at h2;cases h2
  ·rename_i hlt
   refine List.pairwise_cons.2 ⟨fun x hx=>?_,ih h'.2⟩
   rcases (mem_insF f x l).1 hx with rfl|hx
   ·simpa using hlt
   ·exact h'.1 x hx
theorem insF_filter (f:Fld) (l:List Fld) (h:InOrder l) (c:ByteArray):(insF f l).filter (fun x=>decide (x.1=c))=(l++[f]).filter fun x=>decide (x.1=c):=by
 induction l with
 | nil=>rfl
 | cons g l ih =>
  have h':=List.pairwise_cons.1 h
  unfold insF
  split
  ·rename_i hlt
   by_cases e:f.1=c
   ·have hno:(g::l).filter (fun x=>decide (x.1=c))=[]:=by
     rw [List.filter_eq_nil_iff]
     intro x hx hxc
     have hxc:x.1=c:=by simpa using hxc
     have hlx:ltB f.1 x.1=true:=by
      rcases List.mem_cons.1 hx with rfl|hx
      ·exact hlt
      ·have h1:=h'.1 x hx
       rcases ltB_cases g.1 x.1 with h2|h2|h2
       ·exact ltB_trans hlt h2
       ·rw [←h2];exact hlt
       ·rw [h1] at h2;cases h2
     rw [hxc,←e,ltB_irrefl] at hlx
     cases hlx
    rw [List.filter_append,hno,List.filter_cons_of_pos (by simp [e]),hno,List.filter_cons_of_pos (by simp [e])]
    rfl
   ·rw [List.filter_cons_of_neg (by simp [e]),List.filter_append,List.filter_cons_of_neg (p:=fun x=>decide (x.1=c)) (a:=f) (by simp [e])]
    simp
  ·rw [List.cons_append,List.filter_cons,List.filter_cons,ih h'.2]
theorem sortS_spec (l:List Fld):InOrder (sortS l)∧∀c,(sortS l).filter (fun x=>decide (x.1=c))=l.filter fun x=>decide (x.1=c):=by
 have:∀(l acc:List Fld),InOrder acc→InOrder (l.foldl (fun acc f=>insF f acc) acc)∧∀c,(l.foldl (fun acc f=>insF f acc) acc).filter (fun x=>decide (x.1=c))=(acc++l).filter fun x=>decide (x.1=c):=by
  intro l
  induction l with
  | nil=>intro acc h;exact ⟨h,fun c=>by simp⟩
  | cons f l ih =>
   intro acc h
   obtain ⟨h1,h2⟩:=ih (insF f acc) (insF_order f acc h)
   refine ⟨h1,fun c=>?_⟩
   rw [List.foldl_cons,h2 c,List.filter_append,insF_filter f acc h c,←List.filter_append]
   simp
 have h:=this l [] List.Pairwise.nil
 exact ⟨h.1,fun c=>by simpa [sortS] using h.2 c⟩
theorem sortOf_flds {d ds:List Fx} (h:SortOf d ds):ds.map Fx.fld=sortS (d.map Fx.fld):=by
 obtain ⟨h1,h2⟩:=sortS_spec (d.map Fx.fld)
 refine order_unique _ _ ?_ h1 fun c=>?_
 ·refine List.Pairwise.map _ (fun x y hxy=>?_) h.2.1
  exact hxy
 ·rw [h2 c,List.filter_map,List.filter_map]
  exact congrArg (List.map Fx.fld) (h.2.2 c)
def normF (fs:List Fld):List Fld:=joinS (sortS fs)
theorem NormAns.plain {N : Nat} {d : List Fx} {e : Ending} {w' : World} (h : NormAns N d e w') :
    ((d.map Fx.fld).any misB = true ∧ e = .returned (.tuple #[.slice none 0 0, .int .i64 2])) ∨
    ((d.map Fx.fld).any misB = false ∧
     (((normF (d.map Fx.fld)).any bareB = true ∧ e = .returned (.tuple #[.slice none 0 0, .int .i64 3])) ∨
      ((normF (d.map Fx.fld)).any bareB = false ∧ mayB (normF (d.map Fx.fld)) = false ∧ e = .returned (.tuple #[.slice none 0 0, .int .i64 5])) ∨
      ((normF (d.map Fx.fld)).any bareB = false ∧ mayB (normF (d.map Fx.fld)) = true ∧ ∃ u o, e = .returned (.tuple #[u, .int .i64 0]) ∧ OwnJ N w' u o ∧ o.map Fx.fld = normF (d.map Fx.fld)))) := by
  rcases h with h | ⟨h1, ds, h2, h3⟩
  · exact Or.inl h
  · have e := sortOf_flds h2
    rw [e] at h3
    exact Or.inr ⟨h1, h3⟩
end
section
open Go.RowKit
theorem room1 {l:List Value} {a:Value} {n:Nat} (h:l.length+3≤n):(l++[a]).length+1≤n:=by rw [List.length_append];simp;omega
theorem room2 {l:List Value} {a b:Value} {n:Nat} (h:l.length+3≤n):(l++[a]++[b]).length+1≤n:=by rw [List.length_append,List.length_append];simp;omega
set_option maxHeartbeats 4000000 in
set_option maxRecDepth 100000 in
theorem write_any (s:ByteArray) (w:World) (hp:PlainAt w) (hs:s.size≤46912496118442) :
  Calls Tryz.prog 130 #[.string s] w fun e w'=>e=.returned (.string ⟨(writeL s.data.toList).toArray⟩)∧Below w.heap.size w w':=by
 have HP:=hid hp
 clear hp
 go_enter Tryz.func130,Tryz.ntmps130
 go_wp2_with fail
 go_loopg [4] s.size (fun g vi wr=>∃i:Nat,vi=.int .i64 i∧i≤s.size∧s.size-i≤g∧Below w.heap.size w wr∧Lib.IsBuilder 91 5 w.heap.size w.heap.size (Lib.byteCells (writeL (s.data.toList.take i))) wr)
 case atStart=>exact ⟨0,rfl,by omega,by omega,(Below.refl _ _).alloc (Nat.le_refl _) _,Lib.fresh_isBuilder _ _ _⟩
 case round =>
  obtain ⟨i,rfl,hi,hg,hb,hbu⟩:=hrel
  have HB:=hid hbu
  clear hbu
  by_cases hlt:i<s.size
  ·have hltz:(i:Int)<(s.size:Int):=by omega
   obtain ⟨c,hc⟩:∃c,s[i]=c:=⟨_,rfl⟩
   have HPr:PlainAt wr:=HP.out.on hb
   have hsz:(Lib.byteCells (writeL (s.data.toList.take i))).length+3≤140737488355328:=by
    rw [Lib.byteCells_length]
    have:=writeL_len (s.data.toList.take i)
    rw [List.length_take] at this
    omega
   have HS:=hid hsz
   clear hsz
   have HW:=hid (write_step s i hlt)
   rw [hc] at HW
   have HC:=hid hc
   clear hc
   cases hpl:plainB (c.toNat:Int) with
   | true =>
    have HE:Hid (writeC c=[c]):=by show writeC c=[c];unfold writeC;rw [if_pos hpl]
    go_wp2_with (first|(go_at_call 170;rw [HC.out];refine (isPlain_any _ _ HPr).mono ?_;rintro e w1 ⟨rfl,hb1⟩)|(go_at_call 171;refine (wbyte_any w.heap.size w.heap.size _ _ _ (bld_on HB.out hb1) (Nat.le_trans (Nat.add_le_add_left (by decide) _) HS.out) (Nat.le_trans hb.size hb1.size)).mono ?_;rintro e w2 ⟨rfl,hbu2,hb2⟩))
    go_roundg (s.size-(i+1))
    case measure=>omega
    refine ⟨i+1,by go_num,by omega,by omega,(hb.trans (hb1.mono hb.size)).trans hb2,?_⟩
    rw [HW.out,HE.out]
    simpa [Lib.byteCells,HC.out] using hbu2
   | false =>
    have HE:Hid (writeC c=[37,hexd (c.toNat / 16),hexd (c.toNat % 16)]):=by show writeC c=_;unfold writeC;rw [if_neg (by rw [hpl];simp)]
    have hc1:(0:Int)≤↑c.toNat / 16∧(↑c.toNat:Int) / 16<16:=by have:=c.toNat_lt;omega
    have hc2:(0:Int)≤↑c.toNat % 16∧(↑c.toNat:Int) % 16<16:=by omega
    go_wp2_with (first|(go_at_call 170;rw [HC.out];refine (isPlain_any _ _ HPr).mono ?_;rintro e w1 ⟨rfl,hb1⟩)|(go_at_call 171;refine (wbyte_any w.heap.size w.heap.size _ _ _ (bld_on HB.out hb1) (Nat.le_trans (Nat.add_le_add_left (by decide) _) HS.out) (Nat.le_trans hb.size hb1.size)).mono ?_;rintro e w2 ⟨rfl,hbu2,hb2⟩))
    go_wp2_with (go_at_call 171;refine (wbyte_any w.heap.size w.heap.size _ _ _ hbu2 (room1 HS.out) (Nat.le_trans hb.size (Nat.le_trans hb1.size hb2.size))).mono ?_;rintro e w3 ⟨rfl,hbu3,hb3⟩)
    go_wp2_with (go_at_call 171;refine (wbyte_any w.heap.size w.heap.size _ _ _ hbu3 (room2 HS.out) (Nat.le_trans hb.size (Nat.le_trans hb1.size (Nat.le_trans hb2.size hb3.size)))).mono ?_;rintro e w4 ⟨rfl,hbu4,hb4⟩)
    go_roundg (s.size-(i+1))
    case measure=>omega
    refine ⟨i+1,by go_num,by omega,by omega,(((hb.trans (hb1.mono hb.size)).trans hb2).trans hb3).trans hb4,?_⟩
    rw [HW.out,HE.out]
    rw [digit_at,digit_at] at hbu4
    simpa [Lib.byteCells] using hbu4
  ·have hltz:¬ (i:Int)<(s.size:Int):=by omega
   have he:s.data.toList.take i=s.data.toList:=List.take_of_length_le (by simp;omega)
   have HB2:=HB.out
   rw [he] at HB2
   have HB3:=hid HB2
   clear HB2 he
   go_wp2_with (go_at_call 49;refine (Tryz.Builder_String_any _ _ _ _ HB3.out hb.size).mono ?_;rintro e w1 ⟨rfl,hb1⟩)
   go_ret
   exact ⟨rfl,hb.trans hb1⟩
end
section
open Go.RowKit
def wordOf (n t:ByteArray):ByteArray:=n++⟨#[61]⟩++⟨(writeL t.data.toList).toArray⟩
def wordsF (f:Fld):List ByteArray:=f.2.map (wordOf f.1)
def wordsL (fs:List Fld):List ByteArray:=fs.flatMap wordsF
def lineOf (fs:List Fld):ByteArray:=⟨(Lib.join ((wordsL fs).map (·.data.toList)) [32]).toArray⟩
theorem wordsL_len {fs:List Fld} (h:∀f∈fs,fitsB f=true) (hl:fs.length≤16):(wordsL fs).length≤128:=by
 have:∀l:List Fld,(∀f∈l,fitsB f=true)→(wordsL l).length≤l.length * 8:=by
  intro l
  induction l with
  | nil=>intro _;simp [wordsL]
  | cons f l ih =>
   intro hf
   have h1:=ih fun g hg=>hf g (by simp [hg])
   have h2:=(fits_parts (hf f (by simp))).2.2.1
   have e:wordsL (f::l)=wordsF f++wordsL l:=rfl
   rw [e,List.length_append,List.length_cons,Nat.add_mul]
   have e2:(wordsF f).length=f.2.length:=by simp [wordsF]
   omega
 have:=this fs h
 omega
theorem word_len {f:Fld} {t:ByteArray} (h:fitsB f=true) (ht:t∈f.2):(wordOf f.1 t).size≤417:=by
 obtain ⟨h1,_,_,h4,_⟩:=fits_parts h
 have h5:=h4 t ht
 have h6:=writeL_len t.data.toList
 have e:t.data.toList.length=t.size:=by simp
 have e2:(wordOf f.1 t).size=f.1.size+1+(writeL t.data.toList).length:=by
  unfold wordOf
  rw [ByteArray.size_append,ByteArray.size_append]
  rfl
 omega
theorem words_len {fs:List Fld} (h:∀f∈fs,fitsB f=true):∀x∈wordsL fs,x.size≤417:=by
 intro x hx
 obtain ⟨f,hf,hx⟩:=List.mem_flatMap.1 hx
 obtain ⟨t,ht,rfl⟩:=List.mem_map.1 hx
 exact word_len (h f hf) ht
theorem join_two (l m:List UInt8) (ls:List (List UInt8)):Lib.join (l::m::ls) [32]=l++32::Lib.join (m::ls) [32]:=by simp [Lib.join,List.intercalate]
theorem join_len (ls:List (List UInt8)) (c:Nat) (h:∀l∈ls,l.length≤c):(Lib.join ls [32]).length≤ls.length * (c+1):=by
 induction ls with
 | nil=>simp [Lib.join]
 | cons l ls ih =>
  have h1:=h l (by simp)
  have h2:=ih fun m hm=>h m (by simp [hm])
  cases ls with
  | nil=>simp [Lib.join];omega
  | cons m ls =>
   rw [join_two,List.length_append,List.length_cons,List.length_cons,Nat.add_mul]
   omega
theorem join_any (ws:List ByteArray) (p:Option Addr) (cap:Nat) (w:World) {n0:Nat} (h:OwnT n0 w (.slice p ws.length cap) ws) (hn:ws.length≤128) (hs:∀x∈ws,x.size≤417) :
  Calls Tryz.prog 26 #[.slice p ws.length cap,.string ⟨#[32]⟩] w fun e w'=>e=.returned (.string ⟨(Lib.join (ws.map (·.data.toList)) [32]).toArray⟩)∧Below w.heap.size w w':=by
 rcases h.2 with ⟨_,h0⟩|⟨g,c,cur,hv,_,hg,hcap,_,hsz,htk⟩
 ·obtain rfl:=List.length_eq_zero_iff.1 h0
  refine (Tryz.strings_Join_none p cap _ w).mono ?_
  rintro e w' ⟨rfl,rfl⟩
  exact ⟨rfl,Below.refl _ _⟩
 ·injection hv with hp hl hc
  subst hp
  subst hc
  refine (Tryz.strings_Join g 0 cap ws ⟨#[32]⟩ w (fun j x hj=>?_) (Array.getElem?_eq_some_iff.1 hg).1 (by omega) (by omega) ?_).mono ?_
  ·have hjl:=(List.getElem?_eq_some_iff.1 hj).1
   rw [Nat.zero_add,cell_of_row w g j cur _ _ hg,←Array.getElem?_toList]
   have:(ws.map Value.string)[j]? = cur.toList[j]?:=by rw [←htk,List.getElem?_take,if_pos (by omega)]
   rw [←this,List.getElem?_map,hj];rfl
  ·have h1:=join_len (ws.map (·.data.toList)) 417 (fun l hl=>by
    obtain ⟨x,hx,rfl⟩:=List.mem_map.1 hl
    have:=hs x hx
    simpa using this)
   rw [List.length_map] at h1
   have h2:ws.length * 418≤128 * 418:=Nat.mul_le_mul_right _ hn
   show (Lib.join (ws.map (·.data.toList)) [32]).length≤_
   omega
  ·rintro e w' ⟨rfl,hb⟩
   exact ⟨rfl,hb⟩
set_option maxHeartbeats 4000000 in
set_option maxRecDepth 100000 in
theorem print_yes (v:Value) (d:List Fx) (w:World) (hp:PlainAt w) (hv:IsXs w v d) (hf:FitX d) (hm:mayB (d.map Fx.fld)=true) :
  Calls Tryz.prog 89 #[v] w fun e w'=>e=.returned (.tuple #[.string (lineOf (d.map Fx.fld)),.int .i64 0])∧Below w.heap.size w w':=by
 have HM:=hid (may_any v d w hv hf)
 rw [hm] at HM
 have HP:=hid hp
 obtain ⟨i0,hi,hz0,hz1,hz2⟩:=info_parts Tryz.infoStr
 have HI:=hid hi
 obtain ⟨p,cap,rfl,hd,ht⟩:=hv
 have HT:=hid ht
 have hl:=hf.1
 unfold maxLen at hl
 have HD:=hid hd
 have HMM:=hid hm
 clear ht hf hd hm hi hp
 go_enter Tryz.func89,Tryz.ntmps89
 go_wp2_with (first|(go_at_call 98;refine HM.out.mono ?_;rintro e w1 ⟨rfl,hg⟩))
 go_loopg [4,14] d.length (fun g vb vi wr=>∃i:Nat,vi=.int .i64 i∧i≤d.length∧d.length-i≤g∧Below w.heap.size w wr∧OwnT w.heap.size wr vb (wordsL ((d.map Fx.fld).take i)))
 case atStart=>exact ⟨0,rfl,by omega,by omega,hg.below,World.ownsRow_nil _ _ _ _⟩
 case round =>
  obtain ⟨i,rfl,hi,hgk,hb,hob⟩:=hrel
  by_cases hlt:i<d.length
  ·have hltz:(i:Int)<(d.length:Int):=by omega
   have hiz:(0:Int)≤i:=by omega
   obtain ⟨b,off,rfl,hxs⟩:∃b off,p=some ⟨b,off,none⟩∧XsAt w b off d:=by
    rcases HD.out with h|h
    ·subst h;simp at hlt
    ·exact h
   obtain ⟨c0,c1⟩:=hxs.kept hb i hlt
   have hxi:(d[i]).at w:=HT.out _ (List.getElem_mem hlt)
   have hfi:fitsB (d[i]).fld=true:=may_fits HMM.out _ (List.mem_map.2 ⟨_,List.getElem_mem hlt,rfl⟩)
   have htk:wordsL ((d.map Fx.fld).take (i+1))=wordsL ((d.map Fx.fld).take i)++wordsF (d[i]).fld:=by
    unfold wordsL
    rw [List.take_succ_eq_append_getElem (by rw [List.length_map];exact hlt),List.flatMap_append]
    simp
   obtain ⟨x,hx⟩:∃x,d[i]=x:=⟨_,rfl⟩
   rw [hx] at c0 c1 hxi hfi htk
   obtain ⟨b2,off2,hp2,ht2⟩:∃b off,x.p=some ⟨b,off,none⟩∧∀i,(h:i<x.txt.length)→w.cell? ⟨b,off+i,none⟩=some (.string x.txt[i]):=by
    rcases hxi with h|h
    ·have:=(fits_parts hfi).2.1
     simp only [Fx.fld] at this
     rw [h] at this;simp at this
    ·exact h
   have hal:(wordsL ((d.map Fx.fld).take i)).length≤128:=wordsL_len (fun f hf=>may_fits HMM.out f (List.mem_of_mem_take hf)) (by rw [List.length_take];have:=(may_parts HMM.out).1;omega)
   obtain ⟨acc,hacc⟩:∃acc,wordsL ((d.map Fx.fld).take i)=acc:=⟨_,rfl⟩
   rw [hacc] at hob htk hal
   obtain ⟨hn32,_,hn8,_⟩:=fits_parts hfi
   have HT2:=hid ht2
   have HFI:=hid hfi
   have HTK:=hid htk
   have HOB:=hid hob
   have HB:=hid hb
   have hsz:=hb.size
   clear hxs hxi hx htk hacc hob hfi ht2
   unfold Fx.sl at c1
   rw [hp2] at c1
   clear hp2
   simp only [Fx.fld] at hn32 hn8
   go_wp2_with fail
   obtain ⟨F,hF⟩:∃F,wr.heap.size=F:=⟨_,rfl⟩
   have hbox:(wr.alloc (.cells #[.string x.name,.slice (some ⟨b2,off2,none⟩) x.txt.length x.cap] 45)).heap[F]? = some (.cells #[.string x.name,.slice (some ⟨b2,off2,none⟩) x.txt.length x.cap] 45 (0,0)):=by rw [←hF];exact heap_alloc_new wr _
   have hbb:Below w.heap.size w (wr.alloc (.cells #[.string x.name,.slice (some ⟨b2,off2,none⟩) x.txt.length x.cap] 45)):=HB.out.alloc hsz _
   have hoo:OwnT w.heap.size (wr.alloc (.cells #[.string x.name,.slice (some ⟨b2,off2,none⟩) x.txt.length x.cap] 45)) u4 acc:=HOB.out.on ((Below.refl _ _).alloc (Nat.le_refl _) _)
   have hwF:w.heap.size≤F:=by omega
   rw [hF]
   go_loopg [4,21] x.txt.length (fun g vb vj wr2=>∃j:Nat,vj=.int .i64 j∧j≤x.txt.length∧x.txt.length-j≤g∧Below w.heap.size w wr2∧wr2.heap[F]? = some (.cells #[.string x.name,.slice (some ⟨b2,off2,none⟩) x.txt.length x.cap] 45 (0,0))∧OwnT w.heap.size wr2 vb (acc++(x.txt.take j).map (wordOf x.name)))
   case atStart=>exact ⟨0,rfl,by omega,by omega,hbb,hbox,by simpa using hoo⟩
   case round =>
    obtain ⟨j,rfl,hj,hgj,hbj,hbxj,hobj⟩:=hrel
    by_cases hlj:j<x.txt.length
    ·have hljz:(j:Int)<(x.txt.length:Int):=by omega
     have hjz:(0:Int)≤j:=by omega
     have t0:wr.cell? ⟨b2,off2+j,none⟩=some (.string x.txt[j]):=(hbj.cell (p:=⟨b2,off2+j,none⟩) (cell_block (HT2.out j hlj))).trans (HT2.out j hlj)
     have hts:x.txt[j].size≤128:=(fits_parts HFI.out).2.2.2.1 _ (List.getElem_mem hlj)
     have hstep:(x.txt.take (j+1)).map (wordOf x.name)=(x.txt.take j).map (wordOf x.name)++[wordOf x.name x.txt[j]]:=by
      rw [List.take_succ_eq_append_getElem hlj,List.map_append];simp
     obtain ⟨t,hte⟩:∃t,x.txt[j]=t:=⟨_,rfl⟩
     rw [hte] at t0 hts hstep
     have q0:wr.cell? ⟨F,0,none⟩=some (.string x.name):=cz hbxj
     have hFl:F<wr.heap.size:=(Array.getElem?_eq_some_iff.1 hbxj).1
     obtain ⟨ac2,hac2⟩:∃ac2,acc++(x.txt.take j).map (wordOf x.name)=ac2:=⟨_,rfl⟩
     have hal2:ac2.length≤200:=by rw [←hac2];simp;omega
     rw [hac2] at hobj
     have HW:=hid (write_any t wr.drew (HP.out.on hbj.drew) (by omega))
     have HST:=hid hstep
     have HOJ:=hid hobj
     have HBJ:=hid hbj
     have HBX:=hid hbxj
     have HAC2:=hid hac2
     have hszj:=hbj.size
     clear hte hstep hobj hbj hbxj hac2
     have hwl2:=writeL_len t.data.toList
     have hwl3:t.data.toList.length=t.size:=by simp
     obtain ⟨wt,hwt⟩:∃wt:ByteArray,⟨(writeL t.data.toList).toArray⟩=wt:=⟨_,rfl⟩
     have hwts:wt.size≤384:=by rw [←hwt];show (writeL t.data.toList).toArray.size≤384;rw [List.size_toArray];omega
     rw [hwt] at HW
     obtain ⟨nq,hnq⟩:∃nq:ByteArray,x.name++⟨#[61]⟩=nq:=⟨_,rfl⟩
     have hnqs:nq.size≤33:=by rw [←hnq,ByteArray.size_append];show x.name.size+1≤33;omega
     obtain ⟨wd,hwd⟩:∃wd:ByteArray,nq++wt=wd:=⟨_,rfl⟩
     have HWD:Hid (wordOf x.name t=wd):=by show _=_;rw [←hwd,←hnq,←hwt];rfl
     have hA:∀w,Sem.run Tryz.prog (Op.stringOp .add x.name ⟨#[61]⟩) w=.ok (.string nq) w:=fun w=>by rw [←hnq];exact run_string_add_sum _ _ _ (by show x.name.size+1≤_;omega)
     have hB:∀w,Sem.run Tryz.prog (Op.stringOp .add nq wt) w=.ok (.string wd) w:=fun w=>by rw [←hwd];exact run_string_add_sum _ _ _ (by omega)
     clear hwl2 hwl3 hwt hnq hwd hwts hnqs
     have KS:Hid (∀w':World,w'.heap[F]? = wr.heap[F]?→w'.cell? ⟨F,0,none⟩=some (.string x.name)):=fun w' e=>by
      rw [Lib.cell_of_heap (e.trans HBX.out)];rfl
     have KA:Hid (∀w3 w4:World,w3.heap[F]? = wr.heap[F]?→OwnT w.heap.size w3 u4 ac2→w3.grownBy w4 u4.ownBlock→w4.heap[F]? = wr.heap[F]?):=fun w3 w4 e ho hg=>by
      refine (hg.block F (Array.getElem?_eq_some_iff.1 (e.trans HBX.out)).1 fun e'=>?_).trans e
      rcases ho.2 with ⟨hv,_⟩|⟨g,c,cur,hv,_,hgb,_⟩
      ·rw [hv] at e';cases e'
      ·rw [hv] at e'
       have:F=g:=by simpa [Value.ownBlock] using e'
       subst this
       rw [e,HBX.out] at hgb
       injection hgb with hgb
       injection hgb with _ hgb
       exact absurd hgb (by decide)
     go_wp2_with fail
     go_region_held3 (fun w'=>w'.cell? ⟨F,0,none⟩=some (.string x.name))
      (first|exact q0|exact q2|exact q3|exact q4)
      (first|(go_at_call 130;refine HW.out.mono ?_;rintro o w2 ⟨rfl,hb2⟩;have e2:=hb2.block F hFl;have q2:=KS.out _ e2;have e3:=fun o=>(Below.heap_alloc w2 o F (Nat.lt_of_lt_of_le hFl hb2.size)).trans e2;have e3w:=e3 (.cells #[.string wd] 9);have q3:=KS.out _ e3w;have hbase3:w.heap.size≤(w2.alloc (.cells #[.string wd] 9)).heap.size:=(by have:=hb2.size;simp at this ⊢;omega);have hown3:OwnT w.heap.size (w2.alloc (.cells #[.string wd] 9)) u4 ac2:=(OwnT.on (w:=wr.drew) HOJ.out hb2).on ((Below.refl _ _).alloc (Nat.le_refl _) _))|(refine step_append_lies _ (by rfl) (.tmp 25) (.tmp 32) 43 (by rfl) w.heap.size 9 i0 (.string ⟨#[]⟩) 1 16 Tryz.underlying43 HI.out hz0 hz1 hz2 rfl (by decide) u4 ac2.length (ac2.map Value.string) (by rfl) (by assumption) _ 1 1 [.string wd] (by rfl) rfl (by intro j u hj;match j,hj with|0,hj=>simp at hj;subst hj;simp [Addr.add]) (by intro u hu;simp at hu;subst hu;rfl) (by decide) (by unfold maxLen;omega) (by omega) (by assumption) _ rfl ?_;intro g cap w4 hown4 hg4 hat4 hlt4;have e4:=KA.out _ _ (by assumption) (by assumption) hg4;have q4:=KS.out _ e4))
     have hbw:Below w.heap.size w w4:=(((HBJ.out.drew.trans (hb2.mono (by simpa using hszj))).alloc (by have:=hb2.size;simp at this ⊢;omega) _).grown hg4 hbase3 (fun k hk=>(World.ownsRow.lt hown3 k hk).1))
     have HF4:Hid (Below w.heap.size w w4∧w4.heap[F]? = some (.cells #[.string x.name,.slice (some ⟨b2,off2,none⟩) x.txt.length x.cap] 45 (0,0))∧OwnT w.heap.size w4 (.slice (some ⟨g,0,none⟩) (ac2.length+1) cap) (acc++(x.txt.take (j+1)).map (wordOf x.name))):=by
      refine ⟨hbw,e4.trans HBX.out,?_⟩
      have e5:acc++(x.txt.take (j+1)).map (wordOf x.name)=ac2++[wd]:=by rw [HST.out,←List.append_assoc,HAC2.out,HWD.out]
      rw [e5]
      unfold OwnT
      rw [List.length_append,List.map_append]
      exact hown4
     clear hbw hown4 hg4 hown3 e4 e3w e3 e2 hb2 q4 q3 q2 hat4 hlt4
     go_wp2_with fail
     go_roundg (x.txt.length-(j+1))
     case measure=>omega
     exact ⟨j+1,by go_num,by omega,by omega,HF4.out⟩
    ·have hljz:¬ (j:Int)<(x.txt.length:Int):=by omega
     have htk2:x.txt.take j=x.txt:=List.take_of_length_le (by omega)
     rw [htk2] at hobj
     have HOJ:=hid hobj
     have HBJ:=hid hbj
     clear hobj hbj htk2 hbxj
     go_wp2_with fail
     go_roundg (d.length-(i+1))
     case measure=>omega
     refine ⟨i+1,by go_num,by omega,by omega,HBJ.out,?_⟩
     rw [HTK.out]
     exact HOJ.out
  ·have hltz:¬ (i:Int)<(d.length:Int):=by omega
   have htk2:(d.map Fx.fld).take i=d.map Fx.fld:=List.take_of_length_le (by rw [List.length_map];omega)
   rw [htk2] at hob
   have hwn:(wordsL (d.map Fx.fld)).length≤128:=wordsL_len (may_fits HMM.out) (may_parts HMM.out).1
   have hws:=words_len (may_fits HMM.out)
   have HLN:Hid (lineOf (d.map Fx.fld)=⟨(Lib.join ((wordsL (d.map Fx.fld)).map (·.data.toList)) [32]).toArray⟩):=rfl
   obtain ⟨ws,hwe⟩:∃ws,wordsL (d.map Fx.fld)=ws:=⟨_,rfl⟩
   rw [hwe] at hob hwn hws HLN
   clear htk2 hwe
   obtain ⟨p4,cap4,rfl⟩:∃p cap,u4=.slice p ws.length cap:=by
    rcases hob.2 with ⟨hv,h0⟩|⟨g,cap,cur,hv,_⟩
    ·exact ⟨none,0,by rw [hv,h0]⟩
    ·exact ⟨_,_,hv⟩
   have HJ:=hid (join_any ws p4 cap4 wr hob hwn hws)
   clear hob hws hwn
   go_wp2_with (first|(go_at_call 26;refine HJ.out.mono ?_;rintro e w2 ⟨rfl,hb2⟩))
   go_ret2
   rw [HLN.out]
   exact ⟨rfl,hb.trans (hb2.mono hb.size)⟩
end
section
open Go.RowKit Go.Sort Go.Lib
theorem ltN_eq (a b:ByteArray):ltN a b=ltB a b:=by
 unfold ltN ltB
 rw [Lib.toList_data,Lib.toList_data,cb_less]
end
section
open Go.RowKit Go.Sort Go.Lib
theorem own_len {n0:Nat} {w:World} {u:Value} {d:List Fx} (h:OwnXs n0 w u d):∃p c,u=.slice p d.length c:=by
 rcases h.1.2 with ⟨rfl,h0⟩|⟨g,cap,cur,rfl,_⟩
 ·exact ⟨none,0,by rw [h0]⟩
 ·exact ⟨_,_,rfl⟩
theorem own_rest {n0:Nat} {w:World} {g c:Nat} {l:List UInt8} (h:OwnB n0 w (.slice (some ⟨g,0,none⟩) l.length c) l):RestAt w.heap.size w (.slice (some ⟨g,0,none⟩) l.length c) l:=by
 rcases h.2 with ⟨hv,_⟩|⟨g',cap,cur,hv,_,hg,hc,hcm,hsz,htk⟩
 ·cases hv
 ·cases hv
  refine ⟨_,_,rfl,by omega,by omega,Or.inr ⟨g,0,rfl,(Array.getElem?_eq_some_iff.1 hg).1,fun i hi=>?_⟩⟩
  rw [Nat.zero_add,cell_of_row w g i cur _ _ hg]
  have:(Lib.byteCells l)[i]? = cur.toList[i]?:=by
   rw [←htk,List.getElem?_take,if_pos (by omega)]
  rw [←Array.getElem?_toList,←this]
  simp [Lib.byteCells,hi]
end
section
open Go.RowKit
theorem ownB_rest {n0:Nat} {w:World} {u:Value} {l:List UInt8} (h:OwnB n0 w u l):RestAt w.heap.size w u l:=by
 rcases h.2 with ⟨rfl,h0⟩|⟨g',cap,cur,rfl,_⟩
 ·obtain rfl:=List.length_eq_zero_iff.1 h0
  exact ⟨none,0,rfl,by simp,by unfold maxLen;omega,Or.inl rfl⟩
 ·exact own_rest h
end
section
open Go.RowKit
theorem wrap_byte (n:Int) (h:0≤n∧n<256):IntKind.u8.wrap n=n:=by
 simp [IntKind.wrap,IntKind.signed,IntKind.bits];omega
end
section
open Go.RowKit Go.Lib
def blanks (l:List UInt8):Nat:=l.countP fun c=>c==32
theorem blanks_append (a b:List UInt8):blanks (a++b)=blanks a+blanks b:=List.countP_append ..
theorem field_noblank {l:List UInt8} (h:fieldB l=true):blanks l=0:=by
 unfold blanks
 rw [List.countP_eq_zero]
 intro c hc
 unfold fieldB spell at h
 cases l with
 | nil=>simp at hc
 | cons x r =>
  simp only [Bool.and_eq_true,List.all_eq_true] at h
  have key:lodB (c.toNat:Int)=true∨smallB (c.toNat:Int)=true:=by
   rcases List.mem_cons.1 hc with rfl|hc
   ·exact Or.inr h.1.2
   ·exact Or.inl (h.2 c hc)
  intro e
  have e:c=32:=by simpa using e
  subst e
  rcases key with k|k
  ·revert k;decide
  ·revert k;decide
theorem hexd_noblank (k:Nat) (h:k<16):(hexd k==32)=false:=by
 have t:((List.range 16).all fun k=>!(hexd k==32))=true:=by decide
 have:=List.all_eq_true.1 t k (List.mem_range.2 h)
 simpa using this
theorem write_noblank (l:List UInt8):blanks (writeL l)=0:=by
 induction l with
 | nil=>rfl
 | cons c l ih =>
  rw [writeL_cons,blanks_append,ih]
  unfold writeC
  cases hp:plainB (c.toNat:Int) with
  | true =>
   have:(c==32)=false:=by
    rw [beq_eq_false_iff_ne]
    intro e
    subst e
    revert hp;decide
   simp [blanks,this]
  | false =>
   have hc:=c.toNat_lt
   simp [blanks,hexd_noblank (c.toNat / 16) (by omega),hexd_noblank (c.toNat % 16) (by omega)]
theorem word_data (n t:ByteArray):(wordOf n t).data.toList=n.data.toList++[61]++writeL t.data.toList:=by
 unfold wordOf
 obtain ⟨⟨n⟩⟩:=n
 simp
theorem word_noblank {n t:ByteArray} (h:fieldB n.data.toList=true):blanks (wordOf n t).data.toList=0:=by
 rw [word_data,blanks_append,blanks_append,field_noblank h,write_noblank]
 rfl
theorem join_size (c:Nat):∀ws:List (List UInt8),(∀w∈ws,w.length≤c)→(Lib.join ws [32]).length≤ws.length * (c+1)
 | [],_=>by simp [Lib.join,List.intercalate]
 | [w],h=>by
  have:=h w (by simp)
  rw [Lib.join_one]
  simp
  omega
 | w::v::ws,h=>by
  have h1:=h w (by simp)
  have ih:=join_size c (v::ws) (fun x hx=>h x (by simp [hx]))
  have e:Lib.join (w::v::ws) [32]=w++[32]++Lib.join (v::ws) [32]:=by simp [Lib.join]
  have e2:(w::v::ws).length * (c+1)=(v::ws).length * (c+1)+(c+1):=by rw [List.length_cons,Nat.add_mul,Nat.one_mul]
  have e3:([32]:List UInt8).length=1:=rfl
  rw [e,List.length_append,List.length_append,e2,e3]
  omega
theorem line_size {fs:List Fld} (h:mayB fs=true):(lineOf fs).size≤53504:=by
 have e:(lineOf fs).size=(Lib.join ((wordsL fs).map (·.data.toList)) [32]).length:=by
  show (Lib.join ((wordsL fs).map (·.data.toList)) [32]).toArray.size=_
  simp
 have h1:=join_size 417 ((wordsL fs).map (·.data.toList)) (fun w hw=>by
  obtain ⟨x,hx,rfl⟩:=List.mem_map.1 hw
  obtain ⟨f,hf,hx⟩:=List.mem_flatMap.1 hx
  obtain ⟨t,ht,rfl⟩:=List.mem_map.1 hx
  simpa using word_len (may_fits h f hf) ht)
 have h2:=wordsL_len (fun f hf=>may_fits h f hf) (may_parts h).1
 rw [List.length_map] at h1
 have h3:(wordsL fs).length * (417+1)≤128 * (417+1):=Nat.mul_le_mul_right _ h2
 omega
end
section
open Go.RowKit Go.Lib
def lineB (ws:List ByteArray):ByteArray:=⟨(Lib.join (ws.map (·.data.toList)) [32]).toArray⟩
theorem lineB_data (ws:List ByteArray):(lineB ws).data.toList=Lib.join (ws.map (·.data.toList)) [32]:=by
 unfold lineB
 rw [List.toList_toArray]
theorem data_append (a b:ByteArray):(a++b).data.toList=a.data.toList++b.data.toList:=by
 simp
theorem lineB_size {ws:List ByteArray} (hn:ws.length≤200) (hs:∀x∈ws,x.size≤417):(lineB ws).size≤83600:=by
 have e:(lineB ws).size=(Lib.join (ws.map (·.data.toList)) [32]).length:=by rw [←lineB_data];simp
 have h1:=join_size 417 (ws.map (·.data.toList)) (fun w hw=>by
  obtain ⟨x,hx,rfl⟩:=List.mem_map.1 hw
  simpa using hs x hx)
 rw [List.length_map] at h1
 have h3:ws.length * (417+1)≤200 * (417+1):=Nat.mul_le_mul_right _ hn
 omega
end
section
open Go.RowKit Go.Lib
def wordM (x:Tm):ByteArray:=x.1++⟨#[opC x.2.1]⟩++⟨(writeL x.2.2.data.toList).toArray⟩
def lineM (p:List Tm):ByteArray:=lineB (p.map wordM)
theorem wordM_data (x:Tm):(wordM x).data.toList=x.1.data.toList++opC x.2.1::writeL x.2.2.data.toList:=by
 unfold wordM
 simp only [data_append]
 simp
theorem wordM_len {x:Tm} (h1:namedM x=true) (h2:shortM x=true):(wordM x).size≤417:=by
 have e:(wordM x).size=(wordM x).data.toList.length:=by simp
 have h3:=fieldB_len h1
 have h4:=writeL_len x.2.2.data.toList
 have h5:x.2.2.data.toList.length=x.2.2.size:=by simp
 have h6:=of_decide_eq_true h2
 rw [e,wordM_data,List.length_append,List.length_cons]
 omega
theorem ansM_all {p:List Tm} (x:Tm) (h:x∈ansM p):namedM x=true∧rightM x=true∧shortM x=true:=by
 unfold ansM at h
 by_cases hm:mayM p=0
 ·rw [if_pos hm] at h
  obtain ⟨_,h1,h2,h3⟩:=mayM_zero hm
  have hx:=((sortM_spec p).2 x).1 h
  exact ⟨List.all_eq_true.1 h1 x hx,List.all_eq_true.1 h2 x hx,List.all_eq_true.1 h3 x hx⟩
 ·rw [if_neg hm] at h;simp at h
theorem ansM_len (p:List Tm):(ansM p).length≤8:=by
 unfold ansM
 by_cases hm:mayM p=0
 ·rw [if_pos hm]
  have:=sortM_len p
  have:=(mayM_zero hm).1
  omega
 ·rw [if_neg hm];simp
theorem rightM_range {x:Tm} (h:rightM x=true):1≤x.2.1∧x.2.1≤7:=by
 unfold rightM at h
 rw [Bool.and_eq_true,Bool.and_eq_true] at h
 exact ⟨of_decide_eq_true h.1.1,of_decide_eq_true h.1.2⟩
theorem sign_at (m:Nat) (h:m<7):Utf8.encode (((⟨#[61,33,94,60,62,63,45]⟩:ByteArray)[m]'h).toNat:Int)=⟨#[opC ((m:Int)+1)]⟩:=by
 have:m=0∨m=1∨m=2∨m=3∨m=4∨m=5∨m=6:=by omega
 rcases this with rfl|rfl|rfl|rfl|rfl|rfl|rfl<;>decide +revert
theorem wrap_i64 (n:Int) (h1:-9223372036854775808≤n) (h2:n≤9223372036854775807):IntKind.i64.wrap n=n:=by
 simp [IntKind.wrap,IntKind.signed,IntKind.bits];omega
end
section
open Go.RowKit Go.Sort Go.Lib
def txtOf (fs:List Fld) (c:ByteArray):List ByteArray:=(fs.filter fun x=>decide (x.1=c)).flatMap (·.2)
def Rising (l:List Fld):Prop:=l.Pairwise fun x y=>ltB x.1 y.1=true
theorem txtOf_snoc (l:List Fld) (f:Fld) (c:ByteArray):txtOf (l++[f]) c=txtOf l c++if f.1=c then f.2 else []:=by
 unfold txtOf
 rw [List.filter_append,List.flatMap_append]
 by_cases e:f.1=c
 ·rw [if_pos e,List.filter_cons_of_pos (by simp [e])];simp
 ·rw [if_neg e,List.filter_cons_of_neg (by simp [e])];simp
theorem txtOf_none {l:List Fld} {c:ByteArray} (h:∀f∈l,f.1≠c):txtOf l c=[]:=by
 unfold txtOf
 rw [List.filter_eq_nil_iff.2 (fun x hx=>by simpa using h x hx)]
 rfl
structure Groups (l o:List Fld):Prop where
 rising:Rising o
 names:∀c,(∃f∈o,f.1=c)↔∃f∈l,f.1=c
 texts:∀f∈o,f.2=txtOf l f.1
theorem ltB_ne {a b:ByteArray} (h:ltB a b=true):a≠b:=by
 rintro rfl
 rw [ltB_irrefl] at h
 cases h
theorem Groups.step {l o:List Fld} {f:Fld} (h:Groups l o) (hf:∀x∈l,ltB f.1 x.1=false):Groups (l++[f]) (joinStep o f):=by
 obtain ⟨h1,h2,h3⟩:=h
 have hfo:∀x∈o,ltB f.1 x.1=false:=fun x hx=>by
  obtain ⟨y,hy,e⟩:=(h2 x.1).1 ⟨x,hx,rfl⟩
  rw [←e];exact hf y hy
 rcases List.eq_nil_or_concat o with rfl|⟨o',g,rfl⟩
 ·have hl:l=[]:=by
   cases l with
   | nil=>rfl
   | cons y l =>
    obtain ⟨z,hz,_⟩:=(h2 y.1).2 ⟨y,by simp,rfl⟩
    simp at hz
  subst hl
  rw [joinStep_nil]
  refine ⟨List.pairwise_singleton _ _,fun c=>by simp,fun x hx=>?_⟩
  rw [List.mem_singleton] at hx
  subst hx
  simp [txtOf]
 ·rw [List.concat_eq_append] at *
  have hr:=List.pairwise_append.1 h1
  have ho':∀x∈o',ltB x.1 g.1=true:=fun x hx=>hr.2.2 x hx g (by simp)
  have hgf:=hfo g (by simp)
  by_cases e:g.1=f.1
  ·rw [joinStep_same _ _ _ e]
   refine ⟨?_,fun c=>?_,fun x hx=>?_⟩
   ·refine List.pairwise_append.2 ⟨hr.1,List.pairwise_singleton _ _,fun a ha b hb=>?_⟩
    rw [List.mem_singleton] at hb
    subst hb
    exact ho' a ha
   ·have:=h2 c
    constructor
    ·rintro ⟨x,hx,rfl⟩
     rw [List.mem_append,List.mem_singleton] at hx
     rcases hx with hx|rfl
     ·obtain ⟨y,hy,ey⟩:=(h2 x.1).1 ⟨x,by simp [hx],rfl⟩
      exact ⟨y,by simp [hy],ey⟩
     ·exact ⟨f,by simp,e.symm⟩
    ·rintro ⟨y,hy,rfl⟩
     rw [List.mem_append,List.mem_singleton] at hy
     rcases hy with hy|rfl
     ·obtain ⟨x,hx,ex⟩:=this.2 ⟨y,hy,rfl⟩
      rw [List.mem_append,List.mem_singleton] at hx
      rcases hx with hx|rfl
      ·exact ⟨x,by simp [hx],ex⟩
      ·exact ⟨_,List.mem_append_right _ (List.mem_singleton.2 rfl),ex⟩
     ·exact ⟨_,List.mem_append_right _ (List.mem_singleton.2 rfl),e⟩
   ·rw [List.mem_append,List.mem_singleton] at hx
    rcases hx with hx|rfl
    ·rw [txtOf_snoc,if_neg (fun k=>ltB_ne (ho' x hx) (k.symm.trans e.symm)),List.append_nil]
     exact h3 x (by simp [hx])
    ·show g.2++f.2=txtOf (l++[f]) g.1
     rw [txtOf_snoc,if_pos e.symm,←h3 g (by simp)]
  ·rw [joinStep_other _ _ _ e]
   have hgf':ltB g.1 f.1=true:=by
    rcases ltB_cases g.1 f.1 with k|k|k
    ·exact k
    ·exact absurd k e
    ·rw [hgf] at k;cases k
   have hlt:∀x∈o'++[g],ltB x.1 f.1=true:=fun x hx=>by
    rw [List.mem_append,List.mem_singleton] at hx
    rcases hx with hx|rfl
    ·exact ltB_trans (ho' x hx) hgf'
    ·exact hgf'
   refine ⟨?_,fun c=>?_,fun x hx=>?_⟩
   ·refine List.pairwise_append.2 ⟨h1,List.pairwise_singleton _ _,fun a ha b hb=>?_⟩
    rw [List.mem_singleton] at hb
    subst hb
    exact hlt a ha
   ·constructor
    ·rintro ⟨x,hx,rfl⟩
     rw [List.mem_append,List.mem_singleton] at hx
     rcases hx with hx|rfl
     ·obtain ⟨y,hy,ey⟩:=(h2 x.1).1 ⟨x,hx,rfl⟩
      exact ⟨y,List.mem_append_left _ hy,ey⟩
     ·exact ⟨x,by simp,rfl⟩
    ·rintro ⟨y,hy,rfl⟩
     rw [List.mem_append,List.mem_singleton] at hy
     rcases hy with hy|rfl
     ·obtain ⟨x,hx,ex⟩:=(h2 y.1).2 ⟨y,hy,rfl⟩
      exact ⟨x,List.mem_append_left _ hx,ex⟩
     ·exact ⟨y,by simp,rfl⟩
   ·rw [List.mem_append,List.mem_singleton] at hx
    rcases hx with hx|rfl
    ·rw [txtOf_snoc,if_neg (fun k=>ltB_ne (hlt x hx) k.symm),List.append_nil]
     exact h3 x hx
    ·rw [txtOf_snoc,if_pos rfl,txtOf_none,List.nil_append]
     intro y hy k
     obtain ⟨z,hz,ez⟩:=(h2 y.1).2 ⟨y,hy,rfl⟩
     exact ltB_ne (hlt z hz) (ez.trans k)
theorem joinS_groups (l:List Fld) (h:InOrder l):Groups l (joinS l):=by
 have:∀k,k≤l.length→Groups (l.take k) (joinS (l.take k)):=by
  intro k
  induction k with
  | zero=>intro _;exact ⟨List.Pairwise.nil,fun c=>by simp [joinS],fun f hf=>by simp [joinS] at hf⟩
  | succ k ih =>
   intro hk
   rw [List.take_succ_eq_append_getElem hk,joinS_snoc]
   refine (ih (by omega)).step fun x hx=>?_
   have h1:InOrder (l.take (k+1)):=h.sublist (List.take_sublist _ _)
   rw [List.take_succ_eq_append_getElem hk] at h1
   exact (List.pairwise_append.1 h1).2.2 x hx _ (by simp)
 have:=this l.length (Nat.le_refl _)
 rwa [List.take_length] at this
theorem normF_groups (fs:List Fld):Groups fs (normF fs):=by
 obtain ⟨h1,h2⟩:=sortS_spec fs
 obtain ⟨g1,g2,g3⟩:=joinS_groups _ h1
 have hm:∀c,(∃f∈sortS fs,f.1=c)↔∃f∈fs,f.1=c:=fun c=>by
  have e:=h2 c
  constructor
  ·rintro ⟨f,hf,rfl⟩
   have:f∈fs.filter (fun x=>decide (x.1=f.1)):=by rw [←e];exact List.mem_filter.2 ⟨hf,by simp⟩
   exact ⟨f,(List.mem_filter.1 this).1,rfl⟩
  ·rintro ⟨f,hf,rfl⟩
   have:f∈(sortS fs).filter (fun x=>decide (x.1=f.1)):=by rw [e];exact List.mem_filter.2 ⟨hf,by simp⟩
   exact ⟨f,(List.mem_filter.1 this).1,rfl⟩
 refine ⟨g1,fun c=>(g2 c).trans (hm c),fun f hf=>?_⟩
 rw [g3 f hf]
 unfold txtOf
 rw [h2]
theorem groups_unique {l o p:List Fld} (h:Groups l o) (k:Groups l p):o=p:=by
 refine order_unique o p (h.rising.imp fun hxy=>ltB_asymm hxy) (k.rising.imp fun hxy=>ltB_asymm hxy) fun c=>?_
 have one:∀{q:List Fld},Groups l q→q.filter (fun x=>decide (x.1=c))=if ∃f∈l,f.1=c then [(c,txtOf l c)] else []:=by
  intro q hq
  split
  ·rename_i hex
   obtain ⟨f,hf,rfl⟩:=(hq.names c).2 hex
   obtain ⟨a,b,rfl⟩:=List.append_of_mem hf
   have hr:=List.pairwise_append.1 hq.rising
   have hr2:=List.pairwise_cons.1 hr.2.1
   have ha:a.filter (fun x=>decide (x.1=f.1))=[]:=List.filter_eq_nil_iff.2 fun x hx e=>ltB_ne (hr.2.2 x hx f (by simp)) (by simpa using e)
   have hb:b.filter (fun x=>decide (x.1=f.1))=[]:=List.filter_eq_nil_iff.2 fun x hx e=>ltB_ne (hr2.1 x hx) (Eq.symm (of_decide_eq_true e))
   rw [List.filter_append,ha,List.filter_cons_of_pos (by simp),hb,List.nil_append,←hq.texts f (by simp)]
  ·rename_i hex
   refine List.filter_eq_nil_iff.2 fun x hx e=>hex ((hq.names c).1 ⟨x,hx,by simpa using e⟩)
 rw [one h,one k]
def scanStep (last nx:ByteArray) (f:Fld):ByteArray:=if ltB last f.1&&(decide (nx.size=0)||ltB f.1 nx) then f.1 else nx
def scanN (last:ByteArray) (fs:List Fld):ByteArray:=fs.foldl (scanStep last) ⟨#[]⟩
theorem scanN_snoc (last:ByteArray) (l:List Fld) (f:Fld):scanN last (l++[f])=scanStep last (scanN last l) f:=by simp [scanN]
theorem scan_spec (last:ByteArray) (fs:List Fld) (hne:∀f∈fs,f.1.size≠0) :
  (scanN last fs=⟨#[]⟩∧∀f∈fs,ltB last f.1=false)∨((scanN last fs).size≠0∧(∃f∈fs,f.1=scanN last fs)∧ltB last (scanN last fs)=true∧∀g∈fs,ltB last g.1=true→ltB g.1 (scanN last fs)=false):=by
 have:∀k,k≤fs.length→(scanN last (fs.take k)=⟨#[]⟩∧∀f∈fs.take k,ltB last f.1=false)∨((scanN last (fs.take k)).size≠0∧(∃f∈fs.take k,f.1=scanN last (fs.take k))∧ltB last (scanN last (fs.take k))=true∧∀g∈fs.take k,ltB last g.1=true→ltB g.1 (scanN last (fs.take k))=false):=by
  intro k
  induction k with
  | zero=>intro _;left;exact ⟨rfl,fun f hf=>by simp at hf⟩
  | succ k ih =>
   intro hk
   have ih:=ih (by omega)
   rw [List.take_succ_eq_append_getElem hk,scanN_snoc]
   have hnf:(fs[k]).1.size≠0:=hne _ (List.getElem_mem hk)
   generalize fs[k]=f at hnf ⊢
   generalize fs.take k=l at ih ⊢
   generalize scanN last l=r at ih ⊢
   unfold scanStep
   cases c1:ltB last f.1 with
   | false =>
    rw [Bool.false_and,if_neg (by simp)]
    rcases ih with ⟨i1,i2⟩|⟨i1,⟨x,hx,ex⟩,i3,i4⟩
    ·left
     refine ⟨i1,fun x hx=>?_⟩
     rw [List.mem_append,List.mem_singleton] at hx
     rcases hx with hx|rfl
     ·exact i2 x hx
     ·exact c1
    ·right
     refine ⟨i1,⟨x,by simp [hx],ex⟩,i3,fun g hg hl=>?_⟩
     rw [List.mem_append,List.mem_singleton] at hg
     rcases hg with hg|rfl
     ·exact i4 g hg hl
     ·rw [c1] at hl;cases hl
   | true =>
    rcases ih with ⟨i1,i2⟩|⟨i1,⟨x,hx,ex⟩,i3,i4⟩
    ·have:decide (r.size=0)=true:=by rw [i1];rfl
     rw [this,if_pos (by simp)]
     right
     refine ⟨hnf,⟨f,by simp,rfl⟩,c1,fun g hg hl=>?_⟩
     rw [List.mem_append,List.mem_singleton] at hg
     rcases hg with hg|rfl
     ·rw [i2 g hg] at hl;cases hl
     ·exact ltB_irrefl _
    ·rw [decide_eq_false i1,Bool.false_or,Bool.true_and]
     right
     cases c2:ltB f.1 r with
     | true =>
      rw [if_pos rfl]
      refine ⟨hnf,⟨f,by simp,rfl⟩,c1,fun g hg hl=>?_⟩
      rw [List.mem_append,List.mem_singleton] at hg
      rcases hg with hg|rfl
      ·have:=i4 g hg hl
       cases c3:ltB g.1 f.1 with
       | false=>rfl
       | true=>rw [ltB_trans c3 c2] at this;cases this
      ·exact ltB_irrefl _
     | false =>
      rw [if_neg (by simp)]
      refine ⟨i1,⟨x,by simp [hx],ex⟩,i3,fun g hg hl=>?_⟩
      rw [List.mem_append,List.mem_singleton] at hg
      rcases hg with hg|rfl
      ·exact i4 g hg hl
      ·exact c2
 have h:=this fs.length (Nat.le_refl _)
 rwa [List.take_length] at h
theorem ltB_nil {c:ByteArray} (h:c.size≠0):ltB ⟨#[]⟩ c=true:=by
 rcases ltB_cases ⟨#[]⟩ c with k|k|k
 ·exact k
 ·rw [←k] at h;exact absurd rfl h
 ·unfold ltB at k
  rw [decide_eq_true_iff] at k
  exfalso
  have e:(ByteArray.mk #[]).data.toList=[]:=rfl
  rw [e] at k
  cases hc:c.data.toList with
  | nil=>rw [hc] at k;simp [Lib.compareBytes] at k
  | cons x l=>rw [hc] at k;simp [Lib.compareBytes] at k
def lastOf (o:List Fld) (k:Nat):ByteArray:=if k=0 then ⟨#[]⟩ else (o.getD (k-1) default).1
theorem Rising.get {o:List Fld} (h:Rising o) {i j:Nat} (hij:i<j) (hj:j<o.length):ltB (o[i]'(by omega)).1 (o[j]).1=true:=by
 exact List.pairwise_iff_getElem.1 h i j (by omega) hj hij
theorem scan_next {fs o:List Fld} (h:Groups fs o) (hne:∀f∈fs,f.1.size≠0) (k:Nat) (hk:k≤o.length):scanN (lastOf o k) fs=if hlt:k<o.length then (o[k]).1 else ⟨#[]⟩:=by
 have hno:∀f∈o,f.1.size≠0:=fun f hf=>by
  obtain ⟨g,hg,e⟩:=(h.names f.1).1 ⟨f,hf,rfl⟩
  rw [←e];exact hne g hg
 have hge:∀j,(hj:j<o.length)→k≤j→ltB (lastOf o k) (o[j]).1=true:=fun j hj hkj=>by
  unfold lastOf
  split
  ·exact ltB_nil (hno _ (List.getElem_mem hj))
  ·rw [List.getD_eq_getElem?_getD,List.getElem?_eq_getElem (show k-1<o.length by omega)]
   exact h.rising.get (by omega) hj
 have hlt:∀j,(hj:j<o.length)→j<k→ltB (lastOf o k) (o[j]).1=false:=fun j hj hkj=>by
  unfold lastOf
  rw [if_neg (by omega),List.getD_eq_getElem?_getD,List.getElem?_eq_getElem (show k-1<o.length by omega)]
  show ltB (o[k-1]).1 (o[j]).1=false
  by_cases e:j=k-1
  ·subst e;exact ltB_irrefl _
  ·exact ltB_asymm (h.rising.get (show j<k-1 by omega) (by omega))
 rcases scan_spec (lastOf o k) fs hne with ⟨s1,s2⟩|⟨s1,⟨x,hx,ex⟩,s3,s4⟩
 ·rw [s1,dif_neg]
  intro hk'
  obtain ⟨y,hy,ey⟩:=(h.names (o[k]).1).1 ⟨_,List.getElem_mem hk',rfl⟩
  have h1:=s2 y hy
  rw [ey,hge k hk' (Nat.le_refl _)] at h1
  cases h1
 ·obtain ⟨z,hz,ez⟩:=(h.names x.1).2 ⟨x,hx,rfl⟩
  obtain ⟨j,hj,rfl⟩:=List.mem_iff_getElem.1 hz
  have hjk:k≤j:=by
   refine Nat.le_of_not_lt fun hjk=>?_
   have h1:=hlt j hj hjk
   rw [ez,ex,s3] at h1
   cases h1
  have hk':k<o.length:=by omega
  rw [dif_pos hk',←ex,←ez]
  have h2:¬ k<j:=fun hkj=>by
   obtain ⟨y,hy,ey⟩:=(h.names (o[k]).1).1 ⟨_,List.getElem_mem hk',rfl⟩
   have h1:=s4 y hy (by rw [ey];exact hge k hk' (Nat.le_refl _))
   rw [ey,←ex,←ez,h.rising.get hkj hj] at h1
   cases h1
  obtain rfl:k=j:=by omega
  rfl
theorem scan_size {fs o:List Fld} (h:Groups fs o) (hne:∀f∈fs,f.1.size≠0) {k:Nat} (hk:k<o.length):(o[k]).1.size≠0:=by
 obtain ⟨g,hg,e⟩:=(h.names (o[k]).1).1 ⟨_,List.getElem_mem hk,rfl⟩
 rw [←e];exact hne g hg
def capF (f:Fld):Fld:=(f.1,f.2.take 9)
theorem cap_id {f:Fld} (h:f.2.length≤8):capF f=f:=by
 unfold capF
 rw [List.take_of_length_le (by omega)]
theorem cap_map {o:List Fld} (h:∀f∈o,f.2.length≤8):o.map capF=o:=by
 induction o with
 | nil=>rfl
 | cons f o ih=>rw [List.map_cons,cap_id (h f (by simp)),ih (fun g hg=>h g (by simp [hg]))]
theorem cap_may (o:List Fld):mayB (o.map capF)=mayB o:=by
 by_cases hs:∀f∈o,f.2.length≤8
 ·rw [cap_map hs]
 ·have hno:∃f∈o,¬ f.2.length≤8:=by
   refine Classical.byContradiction fun hc=>hs fun f hf=>Classical.byContradiction fun hl=>hc ⟨f,hf,hl⟩
  obtain ⟨f,hf,hl⟩:=hno
  have e1:mayB o=false:=by
   cases hm:mayB o with
   | false=>rfl
   | true=>have:=(fits_parts (may_fits hm f hf)).2.2.1;omega
  have e2:mayB (o.map capF)=false:=by
   cases hm:mayB (o.map capF) with
   | false=>rfl
   | true =>
    have:=(fits_parts (may_fits hm (capF f) (List.mem_map.2 ⟨f,hf,rfl⟩))).2.2.1
    simp only [capF,List.length_take] at this
    omega
  rw [e1,e2]
end
section
open Go.RowKit Go.Lib
def RnSt (w:World) (G:List Fld) (k:Nat) (v:Value) (wr:World):Prop :=
 ∃dr,OwnXs w.heap.size wr v dr∧dr.map Fx.fld=(G.take (min k 17)).map capF∧Below w.heap.size w wr
def RnAns (N : Nat) (fs : List Fld) (e : Ending) (w' : World) : Prop :=
  (fs.any misB = true ∧ e = .returned (.tuple #[.slice none 0 0, .int .i64 2])) ∨
    (fs.any misB = false ∧
     (((normF fs).any bareB = true ∧ e = .returned (.tuple #[.slice none 0 0, .int .i64 3])) ∨
      ((normF fs).any bareB = false ∧ mayB (normF fs) = false ∧ e = .returned (.tuple #[.slice none 0 0, .int .i64 5])) ∨
      ((normF fs).any bareB = false ∧ mayB (normF fs) = true ∧ ∃ u o, e = .returned (.tuple #[u, .int .i64 0]) ∧ OwnXs N w' u o ∧ o.map Fx.fld = normF fs)))
def RnPost (w:World) (fs:List Fld) (e:Ending) (w':World):Prop:=RnAns w.heap.size fs e w'∧Below w.heap.size w w'
theorem mem_txtOf {fs:List Fld} {c t:ByteArray} (h:t∈txtOf fs c):∃f∈fs,t∈f.2:=by
 unfold txtOf at h
 obtain ⟨f,hf,ht⟩:=List.mem_flatMap.1 h
 exact ⟨f,(List.mem_filter.1 hf).1,ht⟩
theorem txtOf_len (fs:List Fld) (c:ByteArray):(txtOf fs c).length≤totF fs:=by
 unfold txtOf totF
 induction fs with
 | nil=>simp
 | cons f fs ih =>
  rw [List.map_cons,List.sum_cons]
  by_cases e:f.1=c
  ·rw [List.filter_cons_of_pos (by simp [e]),List.flatMap_cons,List.length_append];omega
  ·rw [List.filter_cons_of_neg (by simp [e])];omega
theorem totF_take (fs:List Fld) (i:Nat):totF (fs.take i)≤totF fs:=by
 conv=>rhs;rw [←List.take_append_drop i fs,totF_append]
 omega
theorem txtOf_step {d:List Fx} {i:Nat} (h:i<d.length) (c:ByteArray):txtOf ((d.map Fx.fld).take (i+1)) c=txtOf ((d.map Fx.fld).take i) c++if (d[i]).name=c then (d[i]).txt else []:=by
 rw [List.take_succ_eq_append_getElem (by simpa using h),txtOf_snoc]
 simp [Fx.fld]
theorem scanN_step {d:List Fx} {i:Nat} (h:i<d.length) (last:ByteArray):scanN last ((d.map Fx.fld).take (i+1)) =
  if ltB last (d[i]).name&&(decide ((scanN last ((d.map Fx.fld).take i)).size=0)||ltB (d[i]).name (scanN last ((d.map Fx.fld).take i))) then (d[i]).name else scanN last ((d.map Fx.fld).take i):=by
 rw [List.take_succ_eq_append_getElem (by simpa using h),scanN_snoc]
 simp [scanStep,Fx.fld]
theorem mis_all {d:List Fx} (h:∀j,(h:j<d.length)→fieldB (d[j]).name.data.toList=true):(d.map Fx.fld).any misB=false:=by
 rw [List.any_eq_false]
 intro f hf
 obtain ⟨x,hx,rfl⟩:=List.mem_map.1 hf
 obtain ⟨j,hj,rfl⟩:=List.mem_iff_getElem.1 hx
 have:=h j hj
 simp [misB,Fx.fld,this]
theorem field_ne {l:ByteArray} (h:fieldB l.data.toList=true):l.size≠0:=by
 intro e
 have:l.data.toList=[]:=List.length_eq_zero_iff.1 (by simpa using e)
 rw [this] at h
 revert h
 decide
theorem take9_more {T a b:List ByteArray} (h:9≤(T++a).length):(T++(a++b)).take 9=(T++a).take 9:=by
 rw [←List.append_assoc,List.take_append_of_le_length h]
theorem any_snoc {G:List Fld} {k:Nat} (h:k<G.length):(G.take (k+1)).any bareB=((G.take k).any bareB||bareB G[k]):=by
 rw [List.take_succ_eq_append_getElem h,List.any_append]
 simp
theorem cap_snoc {G:List Fld} {k:Nat} (h:k<G.length) (hk:k<17):(G.take (min (k+1) 17)).map capF=(G.take (min k 17)).map capF++[capF G[k]]:=by
 rw [Nat.min_eq_left (by omega),Nat.min_eq_left (by omega),List.take_succ_eq_append_getElem h,List.map_append]
 rfl
theorem lastOf_succ {G:List Fld} {k:Nat} (h:k<G.length):lastOf G (k+1)=(G[k]).1:=by
 unfold lastOf
 rw [if_neg (by omega),Nat.add_sub_cancel,List.getD_eq_getElem?_getD,List.getElem?_eq_getElem h]
 rfl
theorem rn_fit {d dr:List Fx} {k:Nat} (hf:FitX d) (h:dr.map Fx.fld=((normF (d.map Fx.fld)).take (min k 17)).map capF):FitX dr:=by
 have hg:=normF_groups (d.map Fx.fld)
 have hl:dr.length≤17:=by
  have:=congrArg List.length h
  rw [List.length_map,List.length_map,List.length_take] at this
  omega
 refine ⟨by unfold maxLen;omega,fun x hx=>?_⟩
 have hm:x.fld∈((normF (d.map Fx.fld)).take (min k 17)).map capF:=by rw [←h];exact List.mem_map.2 ⟨x,hx,rfl⟩
 obtain ⟨g,hgm,e⟩:=List.mem_map.1 hm
 have hgm:=List.mem_of_mem_take hgm
 have e1:x.name=g.1:=(congrArg Prod.fst e).symm
 have e2:x.txt=g.2.take 9:=(congrArg Prod.snd e).symm
 obtain ⟨f,hfm,ef⟩:=(hg.names g.1).1 ⟨g,hgm,rfl⟩
 obtain ⟨y,hy,rfl⟩:=List.mem_map.1 hfm
 refine ⟨?_,?_,fun t ht=>?_⟩
 ·show x.name.size≤maxLen
  rw [e1,←ef];exact (hf.2 y hy).1
 ·show x.txt.length≤maxLen
  rw [e2,List.length_take];unfold maxLen;omega
 ·have ht:t∈x.txt:=ht
  rw [e2] at ht
  have ht:=List.mem_of_mem_take ht
  rw [hg.texts g hgm] at ht
  obtain ⟨f',hf',ht'⟩:=mem_txtOf ht
  obtain ⟨z,hz,rfl⟩:=List.mem_map.1 hf'
  exact (hf.2 z hz).2.2 t ht'
end
section
open Go.RowKit Go.Lib
theorem less_of {a b:ByteArray} {c:Bool} (h:ltB a b=c):Op.bytesLess a.toList b.toList=c:=by
 rw [←h,←ltN_eq];rfl
theorem eq_false {a b:ByteArray} (h:a≠b):(a.toList==b.toList)=false:=by
 rw [Lib.toList_data,Lib.toList_data,beq_eq_false_iff_ne]
 exact fun e=>h (ba_eq e)
theorem eq_true {a b:ByteArray} (h:a=b):(a.toList==b.toList)=true:=by rw [h];simp
theorem empty_of {a:ByteArray} (h:a.size=0):a.toList.isEmpty=true:=by
 rw [Lib.toList_data]
 have:a.data.toList=[]:=List.length_eq_zero_iff.1 (by simpa using h)
 rw [this];rfl
theorem nonempty_of {a:ByteArray} (h:a.size≠0):a.toList.isEmpty=false:=by
 rw [Lib.toList_data]
 cases e:a.data.toList with
 | nil=>exact absurd (by simpa using congrArg List.length e) h
 | cons _ _=>rfl
set_option maxHeartbeats 8000000 in
set_option maxRecDepth 100000 in
theorem rnorm_any (v:Value) (d:List Fx) (w:World) (hv:IsXs w v d) (hf:FitX d) (hl:d.length * 40≤140737488355328) (htot:totF (d.map Fx.fld) * 16≤140737488355328) :
  Calls Tryz.prog 122 #[v] w fun e w'=>RnPost w (d.map Fx.fld) e w':=by
 obtain ⟨i0,hi0,hz0,hz1,hz2⟩:=info_parts Tryz.infoStr
 obtain ⟨j0,hj0,hy0,hy1,hy2⟩:=info_parts Tryz.infoFld
 have HI:=hid hi0
 have HJ:=hid hj0
 obtain ⟨p,cap,rfl,hd,ht⟩:=hv
 have HD:=hid hd
 have HT:=hid ht
 have HF:=hid hf
 have hll:d.length≤3600000000000:=by omega
 have HTOT:=hid htot
 clear hi0 hj0 hd ht hf htot hl
 go_enter Tryz.func122,Tryz.ntmps122
 go_wp2_with fail
 go_loopg [4] d.length (fun g vi wr=>∃i:Nat,vi=.int .i64 i∧i≤d.length∧d.length-i≤g∧w=wr∧Hid (∀j,(h:j<d.length)→j<i→fieldB (d[j]).name.data.toList=true))
 case atStart=>exact ⟨0,rfl,by omega,by omega,rfl,fun j _ h=>by omega⟩
 case round =>
 obtain ⟨i,rfl,hi,hgk,rfl,HOK⟩:=hrel
 by_cases hlt:i<d.length
 ·have hltz:(i:Int)<(d.length:Int):=by omega
  have hiz:(0:Int)≤i:=by omega
  obtain ⟨b,off,rfl,hxs⟩:∃b off,p=some ⟨b,off,none⟩∧XsAt w b off d:=by
   rcases HD.out with h|h
   ·subst h;simp at hlt
   ·exact h
  have c0:=(hxs i hlt).1
  have HFX:Hid (∀W,Calls Tryz.prog 126 #[.string (d[i]).name] W fun e w'=>e=.returned (.bool (fieldB (d[i]).name.data.toList))∧w'=W):=fun W=>rfield_any _ W (HF.out.2 _ (List.getElem_mem hlt)).1
  have HM:Hid (fieldB (d[i]).name.data.toList=false→(d.map Fx.fld).any misB=true):=fun h=>by
   rw [List.any_eq_true]
   exact ⟨(d[i]).fld,List.mem_map.2 ⟨_,List.getElem_mem hlt,rfl⟩,by simp [misB,Fx.fld,h]⟩
  have HS:Hid (fieldB (d[i]).name.data.toList=true→∀j,(h:j<d.length)→j<i+1→fieldB (d[j]).name.data.toList=true):=fun h j hj h2=>by
   by_cases e:j=i
   ·subst e;exact h
   ·exact HOK.out j hj (by omega)
  generalize (d[i]).name=nm at c0 HFX HM HS
  clear hxs HOK
  cases hfx:fieldB nm.data.toList with
  | false =>
   rw [hfx] at HFX
   have H0:=hid (HM.out hfx)
   clear hfx HM HS
   go_wp2_with (first|(go_at_call 126;refine (HFX.out _).mono ?_;rintro e w1 ⟨rfl,rfl⟩))
   go_ret2
   exact ⟨Or.inl ⟨H0.out,rfl⟩,Below.refl _ _⟩
  | true =>
   rw [hfx] at HFX
   have H0:=hid (HS.out hfx)
   clear hfx HM HS
   go_wp2_with (first|(go_at_call 126;refine (HFX.out _).mono ?_;rintro e w1 ⟨rfl,rfl⟩))
   go_roundg (d.length-(i+1))
   case measure=>omega
   case rel=>exact ⟨i+1,by go_num,by omega,by omega,rfl,H0⟩
 have hltz:¬ (i:Int)<(d.length:Int):=by omega
 have HMIS:=hid (mis_all fun j hj=>HOK.out j hj (by omega))
 have hne:∀f∈d.map Fx.fld,f.1.size≠0:=fun f hf=>by
  obtain ⟨x,hx,rfl⟩:=List.mem_map.1 hf
  obtain ⟨j,hj,rfl⟩:=List.mem_iff_getElem.1 hx
  exact field_ne (HOK.out j hj (by omega))
 have hgr:=normF_groups (d.map Fx.fld)
 obtain ⟨G,hG⟩:∃G,normF (d.map Fx.fld)=G:=⟨_,rfl⟩
 rw [hG] at hgr
 have HGR:=hid hgr
 have HNE:=hid hne
 have HGE:=hid hG
 clear hgr hne hG HOK hgk hi hlt
 have ST0:Hid (RnSt w G 0 (.slice none 0 0) w):=⟨[],⟨World.ownsRow_nil _ _ _ _,fun x hx=>by simp at hx⟩,by simp,Below.refl _ _⟩
 go_wp2_with fail
 go_loopg [5,6,7,8] G.length (fun g v5 v6 v7 v8 ws=>∃k:Nat,k≤G.length∧G.length-k≤g∧v6=.bool ((G.take k).any bareB)∧v7=.bool (decide (16<k))∧v8=.string (lastOf G k)∧RnSt w G k v5 ws)
 case atStart=>exact ⟨0,by omega,by omega,by simp,rfl,rfl,ST0.out⟩
 case round =>
 clear ST0
 obtain ⟨k,hk,hgk,rfl,rfl,rfl,dr,hox,hdm,hbw⟩:=hrel
 have HSN:=hid (scan_next HGR.out HNE.out k hk)
 have hkeep:∀j,(h:j<d.length)→∃b off,p=some ⟨b,off,none⟩∧(∀W,Below w.heap.size w W→W.cell? ⟨b,off+j * 2,none⟩=some (.string (d[j]).name)∧W.cell? ⟨b,off+j * 2+1,none⟩=some (.slice (d[j]).p (d[j]).txt.length (d[j]).cap)):=fun j hj=>by
  rcases HD.out with h|⟨b,off,rfl,hxs⟩
  ·subst h;simp at hj
  ·exact ⟨b,off,rfl,fun W hW=>hxs.kept hW j hj⟩
 have HKP:=hid hkeep
 have HOX:=hid hox
 have HDM:=hid hdm
 have HBW:=hid hbw
 have hszw:=hbw.size
 clear hox hdm hbw hkeep
 obtain ⟨B6,hB6⟩:∃B,(G.take k).any bareB=B:=⟨_,rfl⟩
 obtain ⟨last,hlast⟩:∃l,lastOf G k=l:=⟨_,rfl⟩
 rw [hB6,hlast]
 rw [hlast] at HSN
 have HB6:=hid hB6
 clear hB6 hlast
 go_wp2_with fail
 go_loopg [9,10] d.length (fun g vn vi ws=>∃i:Nat,vi=.int .i64 i∧i≤d.length∧d.length-i≤g∧vn=.string (scanN last ((d.map Fx.fld).take i))∧wr=ws)
 case atStart=>exact ⟨0,rfl,by omega,by omega,by simp [scanN],rfl⟩
 case round =>
 obtain ⟨i,rfl,hi,hgi,rfl,rfl⟩:=hrel
 by_cases hlt:i<d.length
 ·have hltz:(i:Int)<(d.length:Int):=by omega
  have hiz:(0:Int)≤i:=by omega
  obtain ⟨b,off,rfl,hc⟩:=HKP.out i hlt
  have c0:=(hc _ HBW.out).1
  have HST:=hid (scanN_step hlt last)
  generalize scanN last ((d.map Fx.fld).take i)=nx at HST ⊢
  generalize (d[i]).name=nm at c0 HST
  clear hc
  cases h1:ltB last nm with
  | false =>
   rw [h1] at HST
   simp only [Bool.false_and,Bool.false_eq_true,if_false] at HST
   rcases ltB_cases nm last with h2|h2|h2
   ·have f1:=less_of h2
    clear h1 h2
    go_wp2_with fail
    go_roundg (d.length-(i+1))
    case measure=>omega
    case rel=>exact ⟨i+1,by go_num,by omega,by omega,by rw [HST.out],rfl⟩
   ·have f1:=eq_true h2
    have f0:Op.bytesLess nm.toList last.toList=false:=less_of (by rw [h2];exact ltB_irrefl _)
    clear h1 h2
    go_wp2_with fail
    go_roundg (d.length-(i+1))
    case measure=>omega
    case rel=>exact ⟨i+1,by go_num,by omega,by omega,by rw [HST.out],rfl⟩
   ·rw [h1] at h2;cases h2
  | true =>
   have f0:=less_of (ltB_asymm h1)
   have f1:=eq_false (Ne.symm (ltB_ne h1))
   rw [h1] at HST
   simp only [Bool.true_and] at HST
   clear h1
   by_cases h2:nx.size=0
   ·have f2:=empty_of h2
    rw [decide_eq_true h2] at HST
    simp only [Bool.true_or,if_true] at HST
    clear h2
    go_wp2_with fail
    go_roundg (d.length-(i+1))
    case measure=>omega
    case rel=>exact ⟨i+1,by go_num,by omega,by omega,by rw [HST.out],rfl⟩
   ·have f2:=nonempty_of h2
    rw [decide_eq_false h2] at HST
    simp only [Bool.false_or] at HST
    clear h2
    cases h3:ltB nm nx with
    | true =>
     have f3:=less_of h3
     rw [h3,if_pos rfl] at HST
     clear h3
     go_wp2_with fail
     go_roundg (d.length-(i+1))
     case measure=>omega
     case rel=>exact ⟨i+1,by go_num,by omega,by omega,by rw [HST.out],rfl⟩
    | false =>
     have f3:=less_of h3
     rw [h3,if_neg Bool.false_ne_true] at HST
     clear h3
     go_wp2_with fail
     go_roundg (d.length-(i+1))
     case measure=>omega
     case rel=>exact ⟨i+1,by go_num,by omega,by omega,by rw [HST.out],rfl⟩
 have hltz2:¬ (i:Int)<(d.length:Int):=by omega
 rw [List.take_of_length_le (show (d.map Fx.fld).length≤i by simp;omega)]
 rw [HSN.out]
 clear hlt hi hgi HSN
 by_cases hkl:k<G.length
 ·rw [dif_pos hkl]
  have hsz0:=scan_size HGR.out HNE.out hkl
  have hgt:=HGR.out.texts _ (List.getElem_mem hkl)
  have HAN:=hid (any_snoc hkl)
  have HCS:=hid (fun h=>cap_snoc hkl h)
  have HLS:=hid (lastOf_succ hkl)
  obtain ⟨⟨nm,gt⟩,hgk2⟩:∃g,G[k]=g:=⟨_,rfl⟩
  rw [hgk2] at hsz0 hgt HAN HCS HLS
  rw [hgk2]
  have hnz:=nonempty_of hsz0
  have HGT:Hid (gt=txtOf (d.map Fx.fld) nm):=hgt
  clear hsz0 hgt hgk2
  show Code.wp _ _ _ _ _
  simp only
  obtain ⟨W0,rfl⟩:∃W0,W0=wr:=⟨_,rfl⟩
  obtain ⟨N0,hN0⟩:∃n,W0.heap.size=n:=⟨_,rfl⟩
  have HN0:=hid hN0
  have IN0:Hid (OwnT N0 W0 (.slice none 0 0) []∧Below N0 W0 W0):=⟨World.ownsRow_nil _ _ _ _,Below.refl _ _⟩
  have KPW:Hid (∀W,Below N0 W0 W→Below w.heap.size w W∧N0≤W.heap.size):=fun W h=>by
   rw [←hN0] at h ⊢
   exact ⟨HBW.out.trans (h.mono hszw),h.size⟩
  clear hN0
  go_wp2_with fail
  go_loopg [11,12,13] d.length (fun g vl vn vi ws=>∃(i n:Nat) (ts:List ByteArray),vi=.int .i64 i∧vn=.int .i64 n∧i≤d.length∧d.length-i≤g∧Hid (OwnT N0 ws vl ts)∧Hid (ts=(txtOf ((d.map Fx.fld).take i) nm).take 9)∧Hid (n=(txtOf ((d.map Fx.fld).take i) nm).length)∧Hid (Below N0 W0 ws))
  case atStart=>exact ⟨0,0,[],rfl,rfl,by omega,by omega,IN0.out.1,(show Hid _ from by simp [Hid,txtOf]),(show Hid _ from by simp [Hid,txtOf]),IN0.out.2⟩
  case round =>
  clear IN0
  obtain ⟨i,n,ts,rfl,rfl,hi,hgi,HOT,HTS,HN,HBS⟩:=hrel
  have hnn:n≤9000000000000:=by
   have h1:=HN.out
   have h2:=txtOf_len ((d.map Fx.fld).take i) nm
   have h3:=totF_take (d.map Fx.fld) i
   have h4:=HTOT.out
   omega
  by_cases hlt:i<d.length
  ·have hltz:(i:Int)<(d.length:Int):=by omega
   have hiz:(0:Int)≤i:=by omega
   obtain ⟨hbw,hN0w⟩:=KPW.out _ HBS.out
   obtain ⟨b,off,rfl,hc⟩:=HKP.out i hlt
   obtain ⟨c0,c1⟩:=hc _ hbw
   have HKC:=hid hc
   have HTX:=hid (txtOf_step hlt nm)
   have hxt:=(HT.out _ (List.getElem_mem hlt)).kept hbw
   have hxl:(d[i]).txt.length≤9000000000000:=by
    have h1:=totF_mem (List.mem_map.2 ⟨_,List.getElem_mem hlt,rfl⟩:(d[i]).fld∈d.map Fx.fld)
    have h4:=HTOT.out
    have:(d[i]).fld.2.length=(d[i]).txt.length:=rfl
    omega
   have HXT0:=hid (HT.out _ (List.getElem_mem hlt))
   obtain ⟨x,hx⟩:∃x,d[i]=x:=⟨_,rfl⟩
   rw [hx] at c0 c1 HTX hxt hxl HKC HXT0
   obtain ⟨xn,xp,xc,xt⟩:=x
   simp only at c0 c1 HTX hxl HKC
   have HXT:=hid hxt
   clear hc hx hxt hbw
   by_cases hnm:xn=nm
   ·have hq:=eq_true hnm
    rw [if_pos hnm] at HTX
    have HN2:Hid (n+xt.length=(txtOf ((d.map Fx.fld).take (i+1)) nm).length):=by show _=_;rw [HTX.out,List.length_append,←HN.out]
    obtain ⟨T0,hT0⟩:∃T,txtOf ((d.map Fx.fld).take i) nm=T:=⟨_,rfl⟩
    rw [hT0] at HTX HTS
    clear hnm hT0 HN
    by_cases hx0:xt.length=0
    ·have hx00:xt=[]:=List.length_eq_zero_iff.1 hx0
     subst hx00
     rw [List.append_nil] at HTX
     have HT2:Hid (ts=(txtOf ((d.map Fx.fld).take (i+1)) nm).take 9):=by show _=_;rw [HTX.out];exact HTS.out
     clear hx0 HXT HXT0
     go_wp2_with fail
     refine wp_loop_rounds 1 ?_
     rw [rounds_succ]
     go_wp2_with fail
     go_roundg (d.length-(i+1))
     case measure=>omega
     case rel=>exact ⟨i+1,n,ts,by go_num,by first|rfl|go_num,by omega,by omega,HOT,HT2,HN2,HBS⟩
    ·obtain ⟨bt,ot,hpt,hct⟩:∃b off,xp=some ⟨b,off,none⟩∧∀i,(h:i<xt.length)→w.cell? ⟨b,off+i,none⟩=some (.string xt[i]):=by
      rcases HXT0.out with h|h
      ·exact absurd (by rw [show xt=[] from h];rfl) hx0
      ·exact h
     subst hpt
     have HCT:Hid (∀W,Below w.heap.size w W→∀i,(h:i<xt.length)→W.cell? ⟨bt,ot+i,none⟩=some (.string xt[i])):=fun W hW i h=>(hW.cell (p:=⟨bt,ot+i,none⟩) (cell_block (hct i h))).trans (hct i h)
     have HBS0:=HBS
     have HOT0:=HOT
     clear HXT HXT0 hct
     go_wp2_with fail
     go_loopg [11,14] xt.length (fun g vl vj wt=>∃(j:Nat) (us:List ByteArray),vj=.int .i64 j∧j≤xt.length∧xt.length-j≤g∧Hid (OwnT N0 wt vl us)∧Hid (us=(T0++xt.take j).take 9)∧Hid (Below N0 W0 wt))
     case atStart=>exact ⟨0,ts,rfl,by omega,by omega,HOT0,(show Hid _ from by show _=_;rw [List.take_zero,List.append_nil];exact HTS.out),HBS0⟩
     case round =>
     clear HOT0 HBS0 HOT HTS HBS c0 c1 hN0w
     obtain ⟨j,us,rfl,hj,hgj,HOU,HUS,HBU⟩:=hrel
     obtain ⟨hbw,hN0w⟩:=KPW.out _ HBU.out
     have c1:=(HKC.out _ hbw).2
     obtain ⟨pu,cu,rfl⟩:=own_slice HOU.out
     have hu9:us.length≤9:=by
      have:=congrArg List.length HUS.out
      rw [List.length_take] at this
      omega
     by_cases hjl:j<xt.length
     ·have hjz:(j:Int)<(xt.length:Int):=by omega
      have hjd:decide ((j:Int)<(xt.length:Int))=true:=decide_eq_true hjz
      have hj0:(0:Int)≤(j:Int):=by omega
      by_cases h9:us.length<9
      ·have h9z:(us.length:Int)<9:=by omega
       have h9d:decide ((us.length:Int)<9)=true:=decide_eq_true h9z
       have ct:=HCT.out _ hbw j hjl
       have hus:us++[xt[j]]=(T0++xt.take (j+1)).take 9:=by
        have h1:=HUS.out
        have h2:(T0++xt.take j).length<9:=by
         have:=congrArg List.length h1
         rw [List.length_take] at this
         omega
        rw [List.take_of_length_le (by omega)] at h1
        rw [List.take_succ_eq_append_getElem hjl,←List.append_assoc,←h1,List.take_of_length_le (by rw [List.length_append,List.length_singleton];omega)]
       obtain ⟨t,htt⟩:∃t,xt[j]=t:=⟨_,rfl⟩
       rw [htt] at ct hus
       have HUN:=hid hus
       clear htt hus HUS hbw
       go_wp2_with (first|(at_builtin;refine wpList_append_own _ rfl _ _ 43 rfl N0 9 i0 (.string ⟨#[]⟩) 1 16 Tryz.underlying43 HI.out hz0 hz1 hz2 rfl (by decide) _ _ _ rfl (World.ownsRow.alloc HOU.out _) ⟨wr.heap.size,0,none⟩ 1 1 [.string t] rfl rfl ?c1 ?c2 ?c3 ?c4 ?c5 ?_))
       case c1 =>
        intro m u hm
        match m,hm with
        | 0,hm=>simp at hm;subst hm;simp [Addr.add]
       case c2=>intro u hu;simp at hu;subst hu;rfl
       case c3=>unfold maxLen;omega
       case c4=>omega
       case c5=>simp;omega
       intro v4 w4 hown4 hg4 _
       have HO4:Hid (OwnT N0 w4 v4 (us++[t])):=by
        show OwnT N0 w4 v4 (us++[t])
        unfold OwnT
        simp only [List.length_append,List.length_cons,List.length_nil,List.map_append,List.map_cons,List.map_nil]
        exact hown4
       have HB4:Hid (Below N0 W0 w4):=(HBU.out.alloc hN0w _).grown hg4 (by simp;omega) (fun q hq=>(World.ownsRow.lt HOU.out q hq).1)
       clear hown4 hg4
       go_wp2_with fail
       go_roundg (xt.length-(j+1))
       case measure=>omega
       case rel=>exact ⟨j+1,us++[t],by go_num,by omega,by omega,HO4,HUN,HB4⟩
      ·have h9z:¬ (us.length:Int)<9:=by omega
       have h9d:decide ((us.length:Int)<9)=false:=decide_eq_false h9z
       have HU2:Hid (us=(txtOf ((d.map Fx.fld).take (i+1)) nm).take 9):=by
        show _=_
        rw [HTX.out]
        conv=>rhs;rw [←List.take_append_drop j xt]
        rw [take9_more]
        ·exact HUS.out
        ·have:=congrArg List.length HUS.out
         rw [List.length_take] at this
         omega
       clear HUS hbw
       go_wp2_with fail
       go_roundg (d.length-(i+1))
       case measure=>omega
       case rel=>exact ⟨i+1,n+xt.length,us,by go_num,by first|rfl|go_num,by omega,by omega,HOU,HU2,HN2,HBU⟩
     ·have hjz:¬ (j:Int)<(xt.length:Int):=by omega
      have hjd:decide ((j:Int)<(xt.length:Int))=false:=decide_eq_false hjz
      have HU2:Hid (us=(txtOf ((d.map Fx.fld).take (i+1)) nm).take 9):=by
       show _=_
       rw [HTX.out,HUS.out,List.take_of_length_le (show xt.length≤j by omega)]
      clear HUS hbw
      go_wp2_with fail
      go_roundg (d.length-(i+1))
      case measure=>omega
      case rel=>exact ⟨i+1,n+xt.length,us,by go_num,by first|rfl|go_num,by omega,by omega,HOU,HU2,HN2,HBU⟩
   ·have hq:=eq_false hnm
    rw [if_neg hnm,List.append_nil] at HTX
    rw [←HTX.out] at HTS HN
    clear hnm HTX HXT HXT0
    go_wp2_with fail
    go_roundg (d.length-(i+1))
    case measure=>omega
    case rel=>exact ⟨i+1,n,ts,by go_num,rfl,by omega,by omega,HOT,HTS,HN,HBS⟩
  have hltz:¬ (i:Int)<(d.length:Int):=by omega
  rw [List.take_of_length_le (show (d.map Fx.fld).length≤i by simp;omega),←HGT.out] at HTS HN
  obtain ⟨hbw,hN0w⟩:=KPW.out _ HBS.out
  have HXS:Hid (OwnXs w.heap.size wr u5 dr):=HOX.out.on (by rw [HN0.out];exact HBS.out)
  obtain ⟨pl,cl,rfl⟩:=own_slice HOT.out
  obtain ⟨pr,cr,rfl,_⟩:=HXS.out.is
  have hdl1:dr.length≤k:=by
   have:=congrArg List.length HDM.out
   rw [List.length_map,List.length_map,List.length_take] at this
   omega
  have hdl2:dr.length≤17:=by
   have:=congrArg List.length HDM.out
   rw [List.length_map,List.length_map,List.length_take] at this
   omega
  have hdl3:k≤dr.length∨17≤dr.length:=by
   have:=congrArg List.length HDM.out
   rw [List.length_map,List.length_map,List.length_take] at this
   omega
  have hwN:w.heap.size≤N0:=by rw [←HN0.out];exact hszw
  have HBX:=hid hbw
  have hszx:=hbw.size
  clear hlt hi hgi hbw hltz2
  go_upto_region 27 with fail
  go_cut [6] from 108 to 112 (fun vb wx=>wr=wx∧vb=.bool ((G.take (k+1)).any bareB))
  case first =>
   cases B6 with
   | true =>
    go_wp2_with fail
    go_meet
    case rel=>exact ⟨rfl,by rw [HAN.out,HB6.out];rfl⟩
   | false =>
    by_cases hn0:n=0
    ·have hnz2:((n:Int)==0)=true:=beq_iff_eq.2 (by omega)
     have HG0:Hid (gt.isEmpty=true):=by
      show _=_
      have:=HN.out
      rw [hn0] at this
      rw [List.length_eq_zero_iff.1 this.symm];rfl
     clear hn0
     go_wp2_with fail
     go_meet
     case rel=>exact ⟨rfl,by rw [HAN.out,HB6.out];simp only [bareB];rw [HG0.out];rfl⟩
    ·have hnz2:((n:Int)==0)=false:=beq_eq_false_iff_ne.2 (by omega)
     have HG0:Hid (gt.isEmpty=false):=by
      show _=_
      have:=HN.out
      cases hg:gt with
      | nil=>rw [hg] at this;exact absurd this hn0
      | cons _ _=>rfl
     clear hn0
     go_wp2_with fail
     go_meet
     case rel=>exact ⟨rfl,by rw [HAN.out,HB6.out];simp only [bareB];rw [HG0.out];rfl⟩
  case rest =>
  obtain ⟨rfl,rfl⟩:=hcut
  obtain ⟨B7,hB7⟩:∃B,(G.take (k+1)).any bareB=B:=⟨_,rfl⟩
  rw [hB7]
  have HB7:=hid hB7
  clear hB7
  have HX9:Hid (∀v5 w5,w5.ownsRow w.heap.size 45 2 v5 (dr.length+1) (cellsX dr++cellsX [⟨nm,pl,cl,ts⟩])→(wr.alloc (.cells #[.string nm,.slice pl ts.length cl] 45)).grownBy w5 (Value.slice pr dr.length cr).ownBlock→k<17→RnSt w G (k+1) v5 w5):=fun v5 w5 hown5 hg5 hk17=>by
   have hal:Below wr.heap.size wr (wr.alloc (.cells #[.string nm,.slice pl ts.length cl] 45)):=(Below.refl _ _).alloc (Nat.le_refl _) _
   have hox5:=(HXS.out.on hal).put (x:=⟨nm,pl,cl,ts⟩) (own_weak (OwnT.on HOT.out hal) hwN) hown5 hg5
   refine ⟨_,hox5,?_,(HBX.out.alloc hszx _).grown hg5 (by simp;omega) (fun q hq=>(World.ownsRow.lt HXS.out.1 q hq).1)⟩
   rw [HCS.out hk17,List.map_append,HDM.out]
   simp only [List.map_cons,List.map_nil,Fx.fld,capF]
   rw [HTS.out]
  by_cases hk16:k<16
  ·have g1:decide (16<k)=false:=decide_eq_false (by omega)
   have g2:((dr.length:Int)==16)=false:=beq_eq_false_iff_ne.2 (by omega)
   have g3:(dr.length:Int)<17:=by omega
   have g4:decide (16<k+1)=false:=decide_eq_false (by omega)
   go_wp2_with (first|(at_builtin;refine wpList_append_own _ rfl _ _ 37 rfl w.heap.size 45 j0 (.agg #[.string ⟨#[]⟩,.slice none 0 0]) 2 40 Tryz.underlying37 HJ.out hy0 hy1 hy2 rfl (by decide) _ _ _ rfl (World.ownsRow.alloc HXS.out.1 _) ⟨wr.heap.size,0,none⟩ 1 1 (cellsX [⟨nm,pl,cl,ts⟩]) rfl rfl (news_x wr ⟨nm,pl,cl,ts⟩) (cellsX_one _) ?c3 ?c4 ?c5 ?_))
   case c3=>unfold maxLen;omega
   case c4=>omega
   case c5=>first|omega|(simp;omega)
   intro v5 w5 hown5 hg5 _
   have HST:=hid (HX9.out v5 w5 hown5 hg5 (by omega))
   clear hown5 hg5
   go_wp2_with fail
   go_roundg (G.length-(k+1))
   case measure=>omega
   case rel=>exact ⟨k+1,by omega,by omega,by rw [HB7.out],by rw [g4],by rw [HLS.out],HST.out⟩
  ·by_cases hk17:k=16
   ·have g1:decide (16<k)=false:=decide_eq_false (by omega)
    have g2:((dr.length:Int)==16)=true:=beq_iff_eq.2 (by omega)
    have g3:(dr.length:Int)<17:=by omega
    have g4:decide (16<k+1)=true:=decide_eq_true (by omega)
    clear hk16
    have hk17':k<17:=by omega
    clear hk17
    go_wp2_with (first|(at_builtin;refine wpList_append_own _ rfl _ _ 37 rfl w.heap.size 45 j0 (.agg #[.string ⟨#[]⟩,.slice none 0 0]) 2 40 Tryz.underlying37 HJ.out hy0 hy1 hy2 rfl (by decide) _ _ _ rfl (World.ownsRow.alloc HXS.out.1 _) ⟨wr.heap.size,0,none⟩ 1 1 (cellsX [⟨nm,pl,cl,ts⟩]) rfl rfl (news_x wr ⟨nm,pl,cl,ts⟩) (cellsX_one _) ?c3 ?c4 ?c5 ?_))
    case c3=>unfold maxLen;omega
    case c4=>omega
    case c5=>first|omega|(simp;omega)
    intro v5 w5 hown5 hg5 _
    have HST:=hid (HX9.out v5 w5 hown5 hg5 hk17')
    clear hown5 hg5
    go_wp2_with fail
    go_roundg (G.length-(k+1))
    case measure=>omega
    case rel=>exact ⟨k+1,by omega,by omega,by rw [HB7.out],by rw [g4],by rw [HLS.out],HST.out⟩
   ·have g1:decide (16<k)=true:=decide_eq_true (by omega)
    have g3:¬ (dr.length:Int)<17:=by omega
    have g4:decide (16<k+1)=true:=decide_eq_true (by omega)
    have HST:Hid (RnSt w G (k+1) (.slice pr dr.length cr) wr):=⟨dr,HXS.out,by rw [HDM.out,Nat.min_eq_right (show 17≤k by omega),Nat.min_eq_right (show 17≤k+1 by omega)],HBX.out⟩
    go_wp2_with fail
    go_roundg (G.length-(k+1))
    case measure=>omega
    case rel=>exact ⟨k+1,by omega,by omega,by rw [HB7.out],by rw [g4],by rw [HLS.out],HST.out⟩
 ·rw [dif_neg hkl]
  obtain rfl:k=G.length:=by omega
  rw [List.take_length] at HB6
  have hmm:mayB (dr.map Fx.fld)=mayB G∨16<G.length:=by
   by_cases h:16<G.length
   ·exact Or.inr h
   ·left
    rw [HDM.out,Nat.min_eq_left (by omega),List.take_length,cap_may]
  have HMM:=hid hmm
  have hfit:=rn_fit HF.out (by rw [HGE.out];exact HDM.out)
  have HMY:=hid (rmay_any u5 dr wr HOX.out.is hfit)
  clear hmm hfit
  cases B6 with
  | true =>
   go_wp2_with fail
   go_ret2
   exact ⟨Or.inr ⟨HMIS.out,Or.inl ⟨by rw [HGE.out];exact HB6.out,rfl⟩⟩,HBW.out⟩
  | false =>
   by_cases h16:16<G.length
   ·have g1:decide (16<G.length)=true:=decide_eq_true h16
    go_wp2_with fail
    go_ret2
    exact ⟨Or.inr ⟨HMIS.out,Or.inr (Or.inl ⟨by rw [HGE.out];exact HB6.out,by rw [HGE.out];exact may_long h16,rfl⟩)⟩,HBW.out⟩
   ·have g1:decide (16<G.length)=false:=decide_eq_false h16
    have HME:Hid (mayB (dr.map Fx.fld)=mayB G):=HMM.out.resolve_right h16
    rw [HME.out] at HMY
    cases hm:mayB G with
    | false =>
     rw [hm] at HMY
     go_wp2_with (first|(go_at_call 84;refine HMY.out.mono ?_;rintro e w2 ⟨rfl,hg2⟩))
     go_ret2
     exact ⟨Or.inr ⟨HMIS.out,Or.inr (Or.inl ⟨by rw [HGE.out];exact HB6.out,by rw [HGE.out];exact hm,rfl⟩)⟩,HBW.out.trans (hg2.below.mono hszw)⟩
    | true =>
     rw [hm] at HMY
     go_wp2_with (first|(go_at_call 84;refine HMY.out.mono ?_;rintro e w2 ⟨rfl,hg2⟩))
     go_ret2
     refine ⟨Or.inr ⟨HMIS.out,Or.inr (Or.inr ⟨by rw [HGE.out];exact HB6.out,by rw [HGE.out];exact hm,u5,dr,rfl,HOX.out.on hg2.below,?_⟩)⟩,HBW.out.trans (hg2.below.mono hszw)⟩
     rw [HGE.out,HDM.out,Nat.min_eq_left (by omega),List.take_length]
     exact cap_map fun f hf=>(fits_parts (may_fits hm f hf)).2.2.1
end
section
open Go.RowKit
theorem str_ne {s t:ByteArray} (h:¬ s=t):(s.toList==t.toList)=false:=by
 rw [Lib.toList_data,Lib.toList_data,beq_eq_false_iff_ne]
 intro e
 apply h
 obtain ⟨⟨s⟩⟩:=s
 obtain ⟨⟨t⟩⟩:=t
 simp at e
 rw [e]
set_option maxHeartbeats 1000000 in
set_option maxRecDepth 100000 in
theorem sameT_any (p q:Option Addr) (cap cap':Nat) (ts us:List ByteArray) (w:World) (h1:TxtAt w p ts) (h2:TxtAt w q us) (hl1:ts.length≤maxLen) :
  Calls Tryz.prog 45 #[.slice p ts.length cap,.slice q us.length cap'] w fun e w'=>e=.returned (.bool (decide (ts=us)))∧∃n,w'=w.drewN n:=by
 unfold maxLen at hl1
 obtain ⟨r,hr⟩:∃r,decide (ts=us)=r:=⟨_,rfl⟩
 rw [hr]
 have HR:=hid hr
 have H1:=hid h1
 have H2:=hid h2
 clear hr h1 h2
 by_cases hl:ts.length=us.length
 ·have hb:((ts.length:Int) != (us.length:Int))=false:=by simp [hl]
  have HL:=hid hl
  clear hl
  go_enter Tryz.func45,Tryz.ntmps45
  go_wp2_with fail
  go_loopg [5] ts.length (fun g vi wr=>∃i m:Nat,vi=.int .i64 i∧i≤ts.length∧ts.length-i≤g∧wr=w.drewN m∧Hid (∀j,j<i→ts[j]? = us[j]?))
  case atStart=>exact ⟨0,0,rfl,by omega,by omega,rfl,fun j h=>by omega⟩
  case round =>
   obtain ⟨i,m,rfl,hi,hg,rfl,HJ⟩:=hrel
   by_cases hlt:i<ts.length
   ·have hlt2:i<us.length:=by rw [←HL.out];exact hlt
    have i1:(0:Int)≤↑i:=by omega
    have i2:(↑i:Int) < ↑ts.length:=by omega
    have i3:(↑i:Int) < ↑us.length:=by omega
    rcases H1.out with hn|⟨b1,o1,rfl,k1⟩
    ·rw [hn] at hlt;simp at hlt
    rcases H2.out with hn|⟨b2,o2,rfl,k2⟩
    ·rw [hn] at hlt2;simp at hlt2
    have e1:=k1 i hlt
    have e2:=k2 i hlt2
    have g1:ts[i]? = some ts[i]:=List.getElem?_eq_getElem hlt
    have g2:us[i]? = some us[i]:=List.getElem?_eq_getElem hlt2
    clear k1 k2
    obtain ⟨s,hs⟩:∃s,ts[i]=s:=⟨_,rfl⟩
    obtain ⟨t,ht⟩:∃t,us[i]=t:=⟨_,rfl⟩
    rw [hs] at e1 g1
    rw [ht] at e2 g2
    have G1:=hid g1
    have G2:=hid g2
    clear hs ht g1 g2
    by_cases hst:s=t
    ·subst hst
     go_wp2_with fail
     go_quiet (fail)
     go_wp2_with fail
     go_roundg (ts.length-(i+1))
     case measure=>omega
     refine ⟨i+1,_,by go_num,by omega,by omega,rfl,fun j hj=>?_⟩
     by_cases e:j=i
     ·subst e;rw [G1.out,G2.out]
     ·exact HJ.out j (by omega)
    ·have hne:=str_ne hst
     have H0:Hid (r=false):=HR.out.symm.trans (decide_eq_false fun e=>hst (by
      have:=G1.out
      rw [e,G2.out] at this
      exact (Option.some.inj this).symm))
     go_wp2_with fail
     go_quiet (fail)
     go_wp2_with fail
     go_ret
     exact ⟨ret_bool H0.out.symm,_,by rw [World.drewN_drewN]⟩
   ·have hltz:¬ (i:Int)<(ts.length:Int):=by omega
    have H0:Hid (r=true):=HR.out.symm.trans (decide_eq_true (List.ext_getElem? fun j=>by
     by_cases hj:j<ts.length
     ·exact HJ.out j (by omega)
     ·rw [List.getElem?_eq_none (by omega),List.getElem?_eq_none (by have:=HL.out;omega)]))
    go_wp2_with fail
    go_ret
    exact ⟨ret_bool H0.out.symm,_,rfl⟩
 ·have hb:((ts.length:Int) != (us.length:Int))=true:=by simp;omega
  have H0:Hid (r=false):=HR.out.symm.trans (decide_eq_false fun e=>hl (by rw [e]))
  go_enter Tryz.func45,Tryz.ntmps45
  go_wp2_with fail
  go_ret
  exact ⟨ret_bool H0.out.symm,0,rfl⟩
set_option maxHeartbeats 2000000 in
set_option maxRecDepth 100000 in
theorem sameF_any (v u:Value) (d e:List Fx) (w:World) (hv:IsXs w v d) (hu:IsXs w u e) (hf:FitX d) (hg:FitX e) :
  Calls Tryz.prog 21 #[v,u] w fun r w'=>r=.returned (.bool (decide (d.map Fx.fld=e.map Fx.fld)))∧∃n,w'=w.drewN n:=by
 obtain ⟨p,cap,rfl,hd,ht⟩:=hv
 obtain ⟨q,cap',rfl,he,ht'⟩:=hu
 have hl1:=hf.1
 have hl2:=hg.1
 unfold maxLen at hl1 hl2
 have HF:=hid hf.2
 have HG:=hid hg.2
 have HD:=hid hd
 have HE:=hid he
 have HT:=hid ht
 have HT':=hid ht'
 obtain ⟨r,hr⟩:∃r,decide (d.map Fx.fld=e.map Fx.fld)=r:=⟨_,rfl⟩
 rw [hr]
 have HR:=hid hr
 clear hr hd he ht ht' hf hg
 by_cases hl:d.length=e.length
 ·have hb:((d.length:Int) != (e.length:Int))=false:=by simp [hl]
  have HL:=hid hl
  clear hl
  go_enter Tryz.func21,Tryz.ntmps21
  go_wp2_with fail
  go_loopg [5] d.length (fun g vi wr=>∃i m:Nat,vi=.int .i64 i∧i≤d.length∧d.length-i≤g∧wr=w.drewN m∧Hid (∀j,j<i→(d.map Fx.fld)[j]? = (e.map Fx.fld)[j]?))
  case atStart=>exact ⟨0,0,rfl,by omega,by omega,rfl,fun j h=>by omega⟩
  case round =>
   obtain ⟨i,m,rfl,hi,hgk,rfl,HJ⟩:=hrel
   by_cases hlt:i<d.length
   ·have hlt2:i<e.length:=by rw [←HL.out];exact hlt
    have i1:(0:Int)≤↑i:=by omega
    have i2:(↑i:Int) < ↑d.length:=by omega
    have i3:(↑i:Int) < ↑e.length:=by omega
    rcases HD.out with hn|⟨b1,o1,rfl,k1⟩
    ·rw [hn] at hlt;simp at hlt
    rcases HE.out with hn|⟨b2,o2,rfl,k2⟩
    ·rw [hn] at hlt2;simp at hlt2
    obtain ⟨x0,x1⟩:=k1 i hlt
    obtain ⟨y0,y1⟩:=k2 i hlt2
    have g1:(d.map Fx.fld)[i]? = some (d[i]).fld:=by rw [List.getElem?_map,List.getElem?_eq_getElem hlt];rfl
    have g2:(e.map Fx.fld)[i]? = some (e[i]).fld:=by rw [List.getElem?_map,List.getElem?_eq_getElem hlt2];rfl
    have fx:=HF.out _ (List.getElem_mem hlt)
    have fy:=HG.out _ (List.getElem_mem hlt2)
    have tx:=HT.out _ (List.getElem_mem hlt)
    have ty:=HT'.out _ (List.getElem_mem hlt2)
    clear k1 k2
    obtain ⟨x,hx⟩:∃x,d[i]=x:=⟨_,rfl⟩
    obtain ⟨y,hy⟩:∃y,e[i]=y:=⟨_,rfl⟩
    rw [hx] at x0 x1 g1 fx tx
    rw [hy] at y0 y1 g2 fy ty
    unfold Fx.sl at x1 y1
    have G1:=hid g1
    have G2:=hid g2
    obtain ⟨W,hW⟩:∃W,w.drewN m=W:=⟨_,rfl⟩
    have HC:Hid (∀n,Calls Tryz.prog 45 #[.slice x.p x.txt.length x.cap,.slice y.p y.txt.length y.cap] (W.drewN n) fun r w'=>r=.returned (.bool (decide (x.txt=y.txt)))∧∃k,w'=(W.drewN n).drewN k):=fun n=>by
     subst hW
     exact sameT_any _ _ _ _ _ _ _ tx ty fx.2.1
    replace x0:W.cell? ⟨b1,o1+i * 2,none⟩=some (.string x.name):=by subst hW;exact x0
    replace x1:W.cell? ⟨b1,o1+i * 2+1,none⟩=some (.slice x.p x.txt.length x.cap):=by subst hW;exact x1
    replace y0:W.cell? ⟨b2,o2+i * 2,none⟩=some (.string y.name):=by subst hW;exact y0
    replace y1:W.cell? ⟨b2,o2+i * 2+1,none⟩=some (.slice y.p y.txt.length y.cap):=by subst hW;exact y1
    have HW:=hid hW
    rw [hW]
    have mixed:=Tryz.mixed
    clear hx hy g1 g2 fx fy tx ty hW
    by_cases hst:x.name=y.name
    ·obtain ⟨nm,hnm⟩:∃nm,y.name=nm:=⟨_,rfl⟩
     rw [hst,hnm] at x0
     rw [hnm] at y0
     have HN:Hid (x.name=nm∧y.name=nm):=⟨hst.trans hnm,hnm⟩
     clear hst hnm
     by_cases hts:x.txt=y.txt
     ·have hd:=decide_eq_true hts
      have HTS:=hid hts
      rw [hd] at HC
      clear hd hts
      go_wp2_with fail
      refine wp_region_quiet_lit mixed (by kernel_rfl) ?_
      repeat (go_big_quiet_step (first|(go_at_call 45;refine Calls.quiet_of (HC.out _))))
      refine wpQuiet_nil ?_
      intro _ hw'
      obtain ⟨nq,hw''⟩:=hw'
      subst hw''
      go_wp2_with fail
      go_roundg (d.length-(i+1))
      case measure=>omega
      refine ⟨i+1,m+nq,by go_num,by omega,by omega,by rw [←HW.out,World.drewN_drewN],fun j hj=>?_⟩
      by_cases ej:j=i
      ·subst ej
       rw [G1.out,G2.out]
       unfold Fx.fld
       rw [HN.out.1,HN.out.2,HTS.out]
      ·exact HJ.out j (by omega)
     ·have hd:=decide_eq_false hts
      rw [hd] at HC
      have H0:Hid (r=false):=HR.out.symm.trans (decide_eq_false fun ee=>hts (by
       have:=G1.out
       rw [ee,G2.out] at this
       have:=congrArg Prod.snd (Option.some.inj this)
       exact this.symm))
      clear hd hts
      go_wp2_with fail
      refine wp_region_quiet_lit mixed (by kernel_rfl) ?_
      repeat (go_big_quiet_step (first|(go_at_call 45;refine Calls.quiet_of (HC.out _))))
      refine wpQuiet_nil ?_
      intro _ hw'
      obtain ⟨nq,hw''⟩:=hw'
      subst hw''
      go_wp2_with fail
      go_ret
      exact ⟨ret_bool H0.out.symm,m+nq,by rw [←HW.out,World.drewN_drewN]⟩
    ·have hne:=str_ne hst
     have H0:Hid (r=false):=HR.out.symm.trans (decide_eq_false fun ee=>hst (by
      have:=G1.out
      rw [ee,G2.out] at this
      have:=congrArg Prod.fst (Option.some.inj this)
      exact this.symm))
     go_wp2_with fail
     refine wp_region_quiet_lit mixed (by kernel_rfl) ?_
     repeat (go_big_quiet_step (first|(go_at_call 45;refine Calls.quiet_of (HC.out _))))
     refine wpQuiet_nil ?_
     intro _ hw'
     obtain ⟨nq,hw''⟩:=hw'
     subst hw''
     go_wp2_with fail
     go_ret
     exact ⟨ret_bool H0.out.symm,m+nq,by rw [←HW.out,World.drewN_drewN]⟩
   ·have hltz:¬ (i:Int)<(d.length:Int):=by omega
    have H0:Hid (r=true):=HR.out.symm.trans (decide_eq_true (List.ext_getElem? fun j=>by
     by_cases hj:j<d.length
     ·exact HJ.out j (by omega)
     ·rw [List.getElem?_eq_none (by simp;omega),List.getElem?_eq_none (by have:=HL.out;simp;omega)]))
    go_wp2_with fail
    go_ret
    exact ⟨ret_bool H0.out.symm,_,rfl⟩
 ·have hb:((d.length:Int) != (e.length:Int))=true:=by simp;omega
  have H0:Hid (r=false):=HR.out.symm.trans (decide_eq_false fun ee=>hl (by have:=congrArg List.length ee;simpa using this))
  go_enter Tryz.func21,Tryz.ntmps21
  go_wp2_with fail
  go_ret
  exact ⟨ret_bool H0.out.symm,0,rfl⟩
end
section
open Go.RowKit Go.Lib
def codeF (fs:List Fld):Int:=if fs.any misB then 2 else if (normF fs).any bareB then 3 else if mayB (normF fs) then 0 else 5
def ansF (fs:List Fld):List Fld:=if codeF fs=0 then normF fs else []
theorem codeF_zero {fs:List Fld} (h:codeF fs=0):fs.any misB=false∧(normF fs).any bareB=false∧mayB (normF fs)=true:=by
 unfold codeF at h
 cases h1:fs.any misB with
 | true=>rw [h1] at h;simp at h
 | false =>
  cases h2:(normF fs).any bareB with
  | true=>rw [h1,h2] at h;simp at h
  | false =>
   cases h3:mayB (normF fs) with
   | true=>exact ⟨rfl,rfl,rfl⟩
   | false=>rw [h1,h2,h3] at h;simp at h
theorem may_fit {d:List Fx} {fs:List Fld} (hmay:mayB fs=true) (hm:d.map Fx.fld=fs):FitX d:=by
 have hl:=(may_parts hmay).1
 refine ⟨?_,fun x hx=>?_⟩
 ·rw [←hm,List.length_map] at hl
  unfold maxLen;omega
 ·have hx':x.fld∈fs:=by rw [←hm];exact List.mem_map.2 ⟨x,hx,rfl⟩
  obtain ⟨h1,_,h3,h4,_⟩:=fits_parts (may_fits hmay _ hx')
  refine ⟨?_,?_,fun t ht=>?_⟩
  ·unfold maxLen;omega
  ·unfold maxLen;omega
  ·have:=h4 t ht;unfold maxLen;omega
theorem ans_fit {d:List Fx} {fs:List Fld} (hm:d.map Fx.fld=ansF fs):FitX d:=by
 unfold ansF at hm
 split at hm
 ·rename_i h
  exact may_fit (codeF_zero h).2.2 hm
 ·rw [List.map_eq_nil_iff] at hm
  subst hm
  exact ⟨by unfold maxLen;simp,fun x hx=>by simp at hx⟩
def NPost (w:World) (fs:List Fld) (e:Ending) (w':World):Prop :=
 (∃u o,e=.returned (.tuple #[u,.int .i64 (codeF fs)])∧OwnXs w.heap.size w' u o∧o.map Fx.fld=ansF fs)∧Below w.heap.size w w'
theorem own_none (N:Nat) (w:World):OwnXs N w (.slice none 0 0) []:=⟨World.ownsRow_nil _ _ _ _,fun x hx=>by simp at hx⟩
theorem ansPlain {N : Nat} {fs : List Fld} {e : Ending} {w' : World}
    (h : (fs.any misB = true ∧ e = .returned (.tuple #[.slice none 0 0, .int .i64 2])) ∨
    (fs.any misB = false ∧
     (((normF fs).any bareB = true ∧ e = .returned (.tuple #[.slice none 0 0, .int .i64 3])) ∨
      ((normF fs).any bareB = false ∧ mayB (normF fs) = false ∧ e = .returned (.tuple #[.slice none 0 0, .int .i64 5])) ∨
      ((normF fs).any bareB = false ∧ mayB (normF fs) = true ∧ ∃ u o, e = .returned (.tuple #[u, .int .i64 0]) ∧ OwnXs N w' u o ∧ o.map Fx.fld = normF fs)))) :
    ∃ u o, e = .returned (.tuple #[u, .int .i64 (codeF fs)]) ∧ OwnXs N w' u o ∧ o.map Fx.fld = ansF fs := by
  rcases h with ⟨h1, rfl⟩ | ⟨h1, ⟨h2, rfl⟩ | ⟨h2, h3, rfl⟩ | ⟨h2, h3, u, o, rfl, ho, hm⟩⟩
  · have hc : codeF fs = 2 := by unfold codeF; rw [h1]; rfl
    exact ⟨_, [], by rw [hc], own_none _ _, by unfold ansF; rw [hc]; rfl⟩
  · have hc : codeF fs = 3 := by unfold codeF; rw [h1, h2]; rfl
    exact ⟨_, [], by rw [hc], own_none _ _, by unfold ansF; rw [hc]; rfl⟩
  · have hc : codeF fs = 5 := by unfold codeF; rw [h1, h2, h3]; rfl
    exact ⟨_, [], by rw [hc], own_none _ _, by unfold ansF; rw [hc]; rfl⟩
  · have hc : codeF fs = 0 := by unfold codeF; rw [h1, h2, h3]; rfl
    exact ⟨u, o, by rw [hc], ho, by unfold ansF; rw [hc]; exact hm⟩
theorem rnorm_plain (v:Value) (d:List Fx) (w:World) (hv:IsXs w v d) (hf:FitX d) (hl:d.length * 40≤140737488355328) (htot:totF (d.map Fx.fld) * 16≤140737488355328) :
  Calls Tryz.prog 122 #[v] w fun e w'=>NPost w (d.map Fx.fld) e w' :=
 (rnorm_any v d w hv hf hl htot).mono fun _ _ h=>⟨ansPlain h.1,h.2⟩
end
end Go.Proofs.YtjeogllmpjihaaaGreatDoor
