/-
  Texts of this claim, one behind the other: Ozr Oka Okp Cob Coz Ozx Bal Hoe Ojo Ojz Oob Oxb Oxl Oxv.
-/
import Derived.Test.YtjeogllmpjihaaaGreatDoorPk
import Derived.Test.YtjeogllmpjihaaaGreatDoorRows
import Derived.MakeChecks
import Derived.ProofKit
import Derived.OpenShut
import Derived.Lay
import Derived.Stop.Joined
import Derived.SliceStrings
import Derived.Deep.SlicePairs
import Derived.Lib.LaidU8
import Derived.SizedLaws
import Derived.ChangeSlices
import Derived.JoinedCond
import Derived.Lib.SmallJoins
import Derived.ShutString
import Derived.Below
import Derived.Deep.DeepHandedRow
import Derived.Stop.LaidErr
import Derived.LaidLaws
import Derived.Shelf.Vars
namespace Go.Proofs.YtjeogllmpjihaaaGreatDoor
section
open Go.RowKit Go.Lib
theorem ownT_shape {n:Nat} {w:World} {v:Value} {ts:List ByteArray} (h:OwnT n w v ts):∃p cap,v=.slice p ts.length cap∧ts.length≤cap:=by
 rcases h.2 with ⟨hv,h0⟩|⟨g,cap,cur,hv,hc,hg,hcap,_⟩
 ·exact ⟨none,0,by rw [hv,h0],by omega⟩
 ·exact ⟨_,_,hv,hcap⟩
theorem txt_on2 {n:Nat} {w w':World} {p:Option Addr} {ws:List ByteArray} (h:TxtAt w p ws) (hn:w.heap.size=n) (hb:Below n w w'):TxtAt w' p ws:=by
 subst hn;exact txt_on h hb
theorem rq_none {w W:World} {l:List UInt8} (h:opR l=none) (hb:Below w.heap.size w W):RqPost w l (.returned (.tuple #[.agg #[.bool false,.slice none 0 0],.int .i64 4])) W :=
 ⟨⟨false,.slice none 0 0,[],4,rfl,KEx.own_nil _ _,(fun z h=>by cases h),.inr ⟨rfl,rfl,rfl,h⟩⟩,hb⟩
theorem no_out {w W:World} {N:Nat} (hN:w.heap.size=N) (h:W.heap[N]? = some (.cells #[.bool false,.slice none 0 0] 25 (0,0))) (hb:Below N w W) :
  ∀W',(W.setCell ⟨N,0,none⟩ (.bool false)).setCell ⟨N,1,none⟩ (.slice none 0 0)=W'→W'.cell? ⟨N,0,none⟩=some (.bool false)∧W'.cell? ⟨N,1,none⟩=some (.slice none 0 0)∧Below w.heap.size w W':=by
 intro W' hW
 subst hW
 have h1:=heap_setCell_same _ N 1 _ _ (.slice none 0 0) (heap_setCell_same _ N 0 _ _ (.bool false) h)
 rw [hN]
 exact ⟨by rw [Lib.cell_of_heap h1];rfl,by rw [Lib.cell_of_heap h1];rfl,(hb.setCell (p:=⟨N,0,none⟩) (Nat.le_refl _) _).setCell (p:=⟨N,1,none⟩) (Nat.le_refl _) _⟩
theorem bytes_lenL (us:List ByteArray):(bytesL us).length=us.length:=by unfold bytesL;simp
theorem pa_start {w1 W:World} {N Q:Nat} {once:Bool} {ls:List (List UInt8)} (hr:W.heap[N]? = some (.cells #[.bool false,.slice none 0 0] 25 (0,0))) (hx:W.heap[Q]? = some (.cells #[.bool once,.slice none 0 0] 25 (0,0))) (hb:Below Q w1 W):PaSt w1 N Q once ls 0 0 [] none 0 W :=
 ⟨hr,hx,KEx.own_nil _ _,(fun x hx=>by cases hx),hb,(Array.getElem?_eq_some_iff.1 hx).1,by decide,[],rfl,Or.inl ⟨by omega,by omega,rfl,fun x hx=>by simp at hx⟩⟩
section
variable {W3 wr:World} {N Q f i:Nat} {once:Bool} {us:List ByteArray} {out:List Ex} {p:Option Addr} {c:Nat}
theorem pa_go (h:PaSt W3 N Q once (bytesL us) f i out p c wr) (hB:(match us[i]? with|some x=>decide (x.data.toList≠[59])|none=>false)=true):i+1≤us.length∧PaSt W3 N Q once (bytesL us) f (i+1) out p c wr:=by
 cases hx:us[i]? with
 | none=>rw [hx] at hB;cases hB
 | some x =>
  rw [hx] at hB
  have hne:x.data.toList≠[59]:=of_decide_eq_true hB
  have hlt:i<us.length:=(List.getElem?_eq_some_iff.1 hx).1
  have hl:(bytesL us)[i]? = some x.data.toList:=by unfold bytesL;rw [List.getElem?_map,hx];rfl
  refine ⟨hlt,{ h with cut:=?_ }⟩
  obtain ⟨pre,hp,⟨h1,h2,h3,h4⟩|⟨h1,_⟩⟩:=h.cut
  ·exact ⟨pre,hp,Or.inl ⟨by rw [bytes_lenL];omega,by omega,h3,(take_seg h2 hl h4).1 hne⟩⟩
  ·rw [bytes_lenL] at h1;omega
theorem pa_seg (h:PaSt W3 N Q once (bytesL us) f i out p c wr) (hB:(match us[i]? with|some x=>decide (x.data.toList≠[59])|none=>false)=false) (hi:i≤us.length) :
  ∃pre post,entriesR pre=some (out.map Ex.en)∧cutSemi (bytesL us)=pre++((bytesL us).drop f).take (i-f)::post∧((i+1≤us.length∧post=cutSemi ((bytesL us).drop (i+1)))∨(i=us.length∧post=[])):=by
 obtain ⟨pre,hp,⟨h1,h2,h3,h4⟩|⟨h1,_⟩⟩:=h.cut
 ·cases hx:us[i]? with
  | none =>
   have hge:us.length≤i:=by rw [List.getElem?_eq_none_iff] at hx;exact hx
   obtain rfl:i=us.length:=by omega
   refine ⟨pre,[],hp,?_,Or.inr ⟨rfl,rfl⟩⟩
   rw [h3]
   have hl:=bytes_lenL us
   have:=last_seg (ls:=bytesL us) (f:=f) (by rw [hl];exact h4)
   rw [hl] at this
   rw [this]
  | some x =>
   rw [hx] at hB
   have he:x.data.toList=[59]:=by simpa using hB
   have hlt:i<us.length:=(List.getElem?_eq_some_iff.1 hx).1
   have hl:(bytesL us)[i]? = some x.data.toList:=by unfold bytesL;rw [List.getElem?_map,hx];rfl
   exact ⟨pre,_,hp,by rw [h3,(take_seg h2 hl h4).2 he],Or.inl ⟨hlt,rfl⟩⟩
 ·rw [bytes_lenL] at h1;omega
theorem pa_next {W':World} {y:Ex} {p':Option Addr} {c':Nat} (hs:∃pre post,entriesR pre=some (out.map Ex.en)∧cutSemi (bytesL us)=pre++((bytesL us).drop f).take (i-f)::post∧((i+1≤us.length∧post=cutSemi ((bytesL us).drop (i+1)))∨(i=us.length∧post=[])))
  (he:entryR (((bytesL us).drop f).take (i-f))=some y.en) (hr:W'.heap[N]? = some (.cells #[.bool false,.slice none 0 0] 25 (0,0))) (hx:W'.heap[Q]? = some (.cells #[.bool once,.slice p' (out++[y]).length c'] 25 (0,0)))
  (ho:KEx.Own (Q+1) W' (.slice p' (out++[y]).length c') (out++[y])) (hq:∀x∈out++[y],OwnQ (Q+1) x W') (hb:Below Q W3 W') (hf:(out++[y]).length≤16):PaSt W3 N Q once (bytesL us) (i+1) (i+1) (out++[y]) p' c' W':=by
 refine ⟨hr,hx,ho,hq,hb,(Array.getElem?_eq_some_iff.1 hx).1,hf,?_⟩
 obtain ⟨pre,post,h1,h2,h3⟩:=hs
 refine ⟨pre++[((bytesL us).drop f).take (i-f)],?_,?_⟩
 ·rw [entriesR_app,h1,Option.bind_some]
  show ((entryR _).bind fun e=>(entriesR []).map (e :: ·)).map _=_
  rw [he]
  simp [entriesR]
 ·rcases h3 with ⟨h4,h5⟩|⟨h4,h5⟩
  ·refine Or.inl ⟨by rw [bytes_lenL];exact h4,Nat.le_refl _,?_,fun x hx=>by rw [Nat.sub_self,List.take_zero] at hx;cases hx⟩
   rw [h2,h5,List.append_assoc];rfl
  ·refine Or.inr ⟨by rw [bytes_lenL,h4],?_⟩
   rw [h2,h5]
theorem pa_bad (hs:∃pre post,entriesR pre=some (out.map Ex.en)∧cutSemi (bytesL us)=pre++((bytesL us).drop f).take (i-f)::post∧((i+1≤us.length∧post=cutSemi ((bytesL us).drop (i+1)))∨(i=us.length∧post=[])))
  (he:entryR (((bytesL us).drop f).take (i-f))=none∨16<out.length+1):goodR (entriesR (cutSemi (bytesL us)))=none:=by
 obtain ⟨pre,post,h1,h2,_⟩:=hs
 rcases he with he|he
 ·exact good_no h2 he
 ·refine good_many (pre:=pre++[((bytesL us).drop f).take (i-f)]) (post:=post) (by rw [h2,List.append_assoc];rfl) ?_
  have:=entriesR_len h1
  rw [List.length_map] at this
  rw [List.length_append,←this];exact he
theorem pa_done (h:PaSt W3 N Q once (bytesL us) f i out p c wr) (hi:us.length<i):entriesR (cutSemi (bytesL us))=some (out.map Ex.en):=by
 obtain ⟨pre,hp,⟨h1,_⟩|⟨_,h2⟩⟩:=h.cut
 ·rw [bytes_lenL] at h1;omega
 ·rw [h2];exact hp
end
set_option maxHeartbeats 20000000 in
set_option maxRecDepth 100000 in
theorem rparse16_any (s:ByteArray) (w:World) (hs:s.size≤500000000) :
  Calls Tryz.prog 7 #[.string s] w fun e w'=>RqPost w s.data.toList e w':=by
 obtain ⟨i0,hi0,hz0,hz1,hz2⟩:=info_parts Tryz.infoEnt
 have HI:=hid hi0
 have HWD:=hid fun W=>rwords_any s W (by omega)
 obtain ⟨N,hN⟩:∃N,w.heap.size=N:=⟨_,rfl⟩
 obtain ⟨W1,hW1⟩:∃W1,w.alloc (.cells #[.bool false,.slice none 0 0] 25)=W1:=⟨_,rfl⟩
 have HB1:Hid (Below w.heap.size w W1):=hid (by rw [←hW1];exact (Below.refl _ _).alloc (Nat.le_refl _) _)
 have HZ1:Hid (W1.heap[w.heap.size]? = some (.cells #[.bool false,.slice none 0 0] 25 (0,0))):=hid (by rw [←hW1];exact heap_alloc_new w _)
 rw [hN] at HB1 HZ1
 have HN:=hid hN
 clear hi0
 go_enter Tryz.func7,Tryz.ntmps7
 go_wp2_with fail
 try rw [hW1,hN]
 clear hW1
 refine (HWD.out _).mono ?_
 rintro e w1 ⟨⟨v,ws,rfl,hown,hws,hlen,hsz⟩,hb1⟩
 obtain ⟨pw,cw,rfl,hcw⟩:=ownT_shape hown
 have htx:=OwnT.txtAt hown
 have hl1:ws.length≤500000001:=by have e1:s.data.toList.length=s.size:=rfl;omega
 have hsz2:∀x∈ws,x.size≤1000000000000:=fun x hx=>by have e1:s.data.toList.length=s.size:=rfl;have:=hsz x hx;omega
 obtain ⟨Q,hQ⟩:∃Q,w1.heap.size=Q:=⟨_,rfl⟩
 obtain ⟨W2,hW2⟩:∃W2,w1.alloc (.cells #[.bool false,.slice none 0 0] 25)=W2:=⟨_,rfl⟩
 have hb2:Below w1.heap.size w1 W2:=by rw [←hW2];exact (Below.refl _ _).alloc (Nat.le_refl _) _
 have HX2:Hid (W2.heap[Q]? = some (.cells #[.bool false,.slice none 0 0] 25 (0,0))):=hid (by rw [←hW2,←hQ];exact heap_alloc_new w1 _)
 have hNW:N<W1.heap.size:=(Array.getElem?_eq_some_iff.1 HZ1.out).1
 have HB2:Hid (Below N w w1):=hid (HB1.out.trans (hb1.mono (Nat.le_of_lt hNW)))
 have HZ2:Hid (w1.heap[N]? = some (.cells #[.bool false,.slice none 0 0] 25 (0,0))):=hid ((hb1.block N hNW).trans HZ1.out)
 have hNQ:N<Q:=by rw [←hQ];exact (Array.getElem?_eq_some_iff.1 HZ2.out).1
 have HTX:Hid (∀V,Below Q w1 V→TxtAt V pw ws):=hid fun V hV=>txt_on2 htx hQ hV
 have HBQ:Hid (Below Q w1 W2):=hid (by rw [←hQ];exact hb2)
 have HRS:Hid (∀V,Below Q w1 V→V.heap[N]? = some (.cells #[.bool false,.slice none 0 0] 25 (0,0))):=hid fun V hV=>(hV.block N hNQ).trans HZ2.out
 have HQ:=hid hQ
 obtain ⟨once,honce⟩:∃o,decide ((bytesL ws).head? = some onceW)=o:=⟨_,rfl⟩
 have HON:=hid honce
 obtain ⟨us,hus⟩:∃us,(if once=true then ws.drop 1 else ws)=us:=⟨_,rfl⟩
 have HUS:=hid hus
 have HOP:Hid (opR s.data.toList=(goodR (entriesR (cutSemi (bytesL us)))).map fun l=>(once,l)):=hid (by
  rw [opR_is,←hws]
  refine read_good _ once (bytesL us) honce ?_
  rw [←hus]
  split
  ·show bytesL (ws.drop 1)=(bytesL ws).drop 1
   unfold bytesL;rw [List.map_drop]
  ·rfl)
 have hsu:∀x∈us,x.size≤1000000000000:=by
  rw [←hus]
  intro x hx
  split at hx
  ·exact hsz2 x (List.mem_of_mem_drop hx)
  ·exact hsz2 x hx
 have HSU:=hid hsu
 have hlu:us.length≤500000001:=by
  rw [←hus]
  split
  ·rw [List.length_drop];omega
  ·exact hl1
 clear hown hws hsz hb1 hb2 htx hsz2 hsu HB1 HZ1 hlen honce hus hN
 go_upto_region 3 with fail
 try rw [hW2]
 try rw [hQ]
 clear hW2 hQ
 go_cut [20] from 10 (fun v20 wx=>v20=.bool once∧W2=wx)
 case first =>
  as_aux_lemma =>
  by_cases h0:0<ws.length
  case neg =>
   have hz:¬ (0:Int)<(ws.length:Int):=by omega
   have E:Hid (once=false):=hid (by
    rw [←HON.out,List.length_eq_zero_iff.1 (by omega:ws.length=0)];rfl)
   go_wp2_with fail
   go_meet
   case rel=>exact ⟨by rw [E.out],rfl⟩
  have hz:(0:Int)<(ws.length:Int):=by omega
  obtain ⟨b,off,rfl,hcc⟩:∃b off,pw=some ⟨b,off,none⟩∧∀i,(h:i<ws.length)→W2.cell? ⟨b,off+i,none⟩=some (.string ws[i]):=by
   rcases HTX.out W2 HBQ.out with h|⟨b,off,h1,h2⟩
   ·rw [h] at h0;simp at h0
   ·exact ⟨b,off,h1,h2⟩
  obtain ⟨x,hx⟩:∃x,ws[0]=x:=⟨_,rfl⟩
  have cx:=hcc 0 h0
  rw [hx,Nat.add_zero] at cx
  have HX:Hid ((bytesL ws).head? = some x.data.toList):=hid (by
   rw [List.head?_eq_getElem?]
   unfold bytesL
   rw [List.getElem?_map,List.getElem?_eq_getElem h0,hx];rfl)
  clear hcc hx
  by_cases hq:x.data.toList=onceW
  ·have hq2:(x.toList==[111,110,99,101])=true:=by rw [toList_data,hq];rfl
   have E:Hid (once=true):=hid (by rw [←HON.out,HX.out,hq];simp)
   clear hq
   go_wp2_with fail
   go_meet
   case rel=>exact ⟨by rw [E.out],rfl⟩
  ·have hq2:(x.toList==[111,110,99,101])=false:=by rw [toList_data];exact beq_eq_false_iff_ne.2 hq
   have E:Hid (once=false):=hid (by rw [←HON.out,HX.out,decide_eq_false (fun q=>hq (Option.some.inj q))])
   clear hq
   go_wp2_with fail
   go_meet
   case rel=>exact ⟨by rw [E.out],rfl⟩
 case rest =>
 obtain ⟨rfl,rfl⟩:=hcut
 go_upto_if 20 with fail
 go_cut [4] from 10 (fun v4 wx=>∃(pn:Option Addr) (cn:Nat),v4=.slice pn us.length cn∧us.length≤cn∧Hid (∀V,Below Q w1 V→TxtAt V pn us)∧Hid (PaSt w1 N Q once (bytesL us) 0 0 [] none 0 wx))
 case first =>
  as_aux_lemma =>
  cases once with
  | false =>
   have E:us=ws:=by rw [←HUS.out];rfl
   have HP:Hid (PaSt w1 N Q false (bytesL us) 0 0 [] none 0 W2):=hid (pa_start (HRS.out _ HBQ.out) HX2.out HBQ.out)
   go_wp2_with fail
   go_meet
   case rel=>exact ⟨pw,cw,by rw [E],by rw [E];exact hcw,by rw [E];exact HTX,HP⟩
  | true =>
   have E:us=ws.drop 1:=by rw [←HUS.out];rfl
   have h0:0<ws.length:=by
    have h:=HON.out
    rw [decide_eq_true_eq] at h
    rcases Nat.lt_or_ge 0 ws.length with q|q
    ·exact q
    ·rw [List.length_eq_zero_iff.1 (by omega:ws.length=0)] at h;cases h
   obtain ⟨b,off,rfl⟩:∃b off,pw=some ⟨b,off,none⟩:=by
    rcases HTX.out W2 HBQ.out with h|⟨b,off,h1,h2⟩
    ·rw [h] at h0;simp at h0
    ·exact ⟨b,off,h1⟩
   obtain ⟨f0,f1,z0,z1⟩:W2.frozen? ⟨Q,0,none⟩=false∧W2.frozen? ⟨Q,1,none⟩=false∧W2.cell? ⟨Q,0,none⟩=some (.bool false)∧W2.cell? ⟨Q,1,none⟩=some (.slice none 0 0):=by
    obtain ⟨a1,a2,a3,a4⟩:=two_facts HX2.out
    exact ⟨a3,a4,a1,a2⟩
   obtain ⟨W3,hW3⟩:∃W3,W2.setCell ⟨Q,0,none⟩ (.bool true)=W3:=⟨_,rfl⟩
   have HB3:Hid (Below Q w1 W3):=hid (by rw [←hW3];exact HBQ.out.setCell (p:=⟨Q,0,none⟩) (Nat.le_refl _) _)
   have HX3:Hid (W3.heap[Q]? = some (.cells #[.bool true,.slice none 0 0] 25 (0,0))):=hid (by rw [←hW3];exact heap_setCell_same _ Q 0 _ _ _ HX2.out)
   have HP:Hid (PaSt w1 N Q true (bytesL us) 0 0 [] none 0 W3):=hid (pa_start (HRS.out _ HB3.out) HX3.out HB3.out)
   have hl:us.length=ws.length-1:=by rw [E,List.length_drop]
   have hlz:((ws.length:Int)-1)=((us.length:Nat):Int):=by omega
   have HT1:Hid (∀V,Below Q w1 V→TxtAt V (some ⟨b,off+1,none⟩) us):=hid fun V hV=>by rw [E];exact txt_drop (HTX.out V hV) rfl 1
   have HT0:Hid (us=[]→∀V,Below Q w1 V→TxtAt V (some ⟨b,off,none⟩) us):=hid fun h V _=>Or.inl h
   have h1z:(1:Int)≤(ws.length:Int):=by omega
   clear E h0 z1 f1
   have HL:=hid hl
   have HCW:=hid hcw
   clear hl
   by_cases hc1:cw=1
   ·go_wp2_with fail
    try rw [hW3]
    go_meet
    case rel =>
     have hu:us=[]:=List.length_eq_zero_iff.1 (by have:=HL.out;have:=HCW.out;omega)
     exact ⟨some ⟨b,off,none⟩,0,by rw [HL.out],by rw [hu];exact Nat.zero_le _,hid (HT0.out hu),HP⟩
   ·go_wp2_with fail
    try rw [hW3]
    go_meet
    case rel=>exact ⟨some ⟨b,off+1,none⟩,cw-1,by rw [HL.out],by have:=HL.out;have:=HCW.out;omega,HT1,HP⟩
 case rest =>
 obtain ⟨pn,cn,rfl,hcn,HTU,HP0⟩:=hcut
 go_wp2_with fail
 go_loopg [6,7] (us.length+1) (fun g v6 v7 wr=>∃(f i:Nat) (out:List Ex) (p:Option Addr) (c:Nat),v6=.int .i64 f∧v7=.int .i64 i∧i≤us.length+1∧f≤i∧us.length+1-i≤g∧Hid (PaSt w1 N Q once (bytesL us) f i out p c wr))
 case atStart=>exact ⟨0,0,[],none,0,rfl,rfl,by omega,by omega,by omega,HP0⟩
 case round =>
  clear HP0
  obtain ⟨f,i,out,p,c,rfl,rfl,hi,hfi,hig,HP⟩:=hrel
  by_cases hin:i≤us.length
  ·have hiz:(i:Int)≤(us.length:Int):=by omega
   obtain ⟨B,hB⟩:∃B:Bool,(match us[i]? with|some x=>decide (x.data.toList≠[59])|none=>false)=B:=⟨_,rfl⟩
   have HBB:=hid hB
   clear hB
   go_upto_region 10 with fail
   go_cut [40] from 24 to 68 (fun v40 wx=>v40=.bool B∧wr=wx)
   case first =>
    as_aux_lemma =>
    by_cases hlt:i<us.length
    case neg =>
     have hltz:¬ (i:Int)<(us.length:Int):=by omega
     have E:Hid (B=false):=hid (by rw [←HBB.out,List.getElem?_eq_none (by omega)])
     go_wp2_with fail
     go_meet
     case rel=>exact ⟨by rw [E.out],rfl⟩
    have hltz:(i:Int)<(us.length:Int):=by omega
    have hi0z:(0:Int)≤(i:Int):=by omega
    obtain ⟨b,off,rfl,hcc⟩:∃b off,pn=some ⟨b,off,none⟩∧∀i,(h:i<us.length)→wr.cell? ⟨b,off+i,none⟩=some (.string us[i]):=by
     rcases HTU.out wr HP.out.bel with h|⟨b,off,h1,h2⟩
     ·rw [h] at hlt;simp at hlt
     ·exact ⟨b,off,h1,h2⟩
    obtain ⟨x,hx⟩:∃x,us[i]=x:=⟨_,rfl⟩
    have cx:=hcc i hlt
    rw [hx] at cx
    have HX:Hid (B=decide (x.data.toList≠[59])):=hid (by rw [←HBB.out,List.getElem?_eq_getElem hlt,hx])
    clear hcc hx
    by_cases hq:x.data.toList=[59]
    ·have hq2:(x.toList != [59])=false:=by rw [toList_data,hq];rfl
     have hq3:(x.toList==[59])=true:=by rw [toList_data,hq];rfl
     have E:Hid (B=false):=hid (by rw [HX.out,decide_eq_false (fun h=>h hq)])
     clear hq
     go_wp2_with fail
     go_meet
     case rel=>exact ⟨by rw [E.out],rfl⟩
    ·have hq2:(x.toList != [59])=true:=by rw [toList_data];exact bne_iff_ne.2 hq
     have hq3:(x.toList==[59])=false:=by rw [toList_data];exact beq_eq_false_iff_ne.2 hq
     have E:Hid (B=true):=hid (by rw [HX.out,decide_eq_true hq])
     clear hq
     go_wp2_with fail
     go_meet
     case rel=>exact ⟨by rw [E.out],rfl⟩
   case rest =>
   obtain ⟨rfl,rfl⟩:=hcut
   cases B with
   | true =>
    have HGO:Hid (i+1≤us.length∧PaSt w1 N Q once (bytesL us) f (i+1) out p c wr):=hid (pa_go HP.out HBB.out)
    go_wp2_with fail
    go_roundg (us.length+1-(i+1))
    case measure=>omega
    exact ⟨f,i+1,out,p,c,rfl,by go_num,by omega,by omega,by omega,hid HGO.out.2⟩
   | false =>
    have HSG:=hid (pa_seg HP.out HBB.out hin)
    by_cases hff:i=f
    ·as_aux_lemma =>
     have bz:((i:Int)==(f:Int))=true:=by rw [beq_iff_eq];omega
     have HNO:Hid (opR s.data.toList=none):=hid (by
      obtain ⟨pre,post,hp,hcs,_⟩:=HSG.out
      rw [HOP.out,good_no hcs (by rw [hff,Nat.sub_self,List.take_zero];rfl)];rfl)
     have HLO:Hid (Below N w wr):=hid (HB2.out.trans (HP.out.bel.mono (Nat.le_of_lt hNQ)))
     obtain ⟨z0,z1,f0,f1⟩:=two_facts HP.out.res
     obtain ⟨W4,hW4⟩:∃W4,(wr.setCell ⟨N,0,none⟩ (.bool false)).setCell ⟨N,1,none⟩ (.slice none 0 0)=W4:=⟨_,rfl⟩
     obtain ⟨g0,g1,hb4⟩:=no_out HN.out HP.out.res HLO.out W4 hW4
     have HBB4:=hid hb4
     clear hb4 hff
     go_wp2_with fail
     try rw [hW4]
     exact bodyPost_ret (v:=.tuple #[.agg #[.bool false,.slice none 0 0],.int .i64 4]) (by simp [results,Tryz.results7,go_sem,g0,g1]) rfl (rq_none HNO.out HBB4.out)
    have HFI:Hid (f<i):=hid (by omega)
    have hfz:((i:Int)==(f:Int))=false:=by rw [beq_eq_false_iff_ne];omega
    have h0f:(0:Int)≤(f:Int):=by omega
    have hfiz:(f:Int)≤(i:Int):=by omega
    have hicz:(i:Int)≤(cn:Int):=by omega
    have hcf:¬ cn=f:=by omega
    have hltf:f<us.length:=by omega
    obtain ⟨b,off,rfl⟩:∃b off,pn=some ⟨b,off,none⟩:=by
     rcases HTU.out wr HP.out.bel with h|⟨b,off,h1,h2⟩
     ·rw [h] at hltf;simp at hltf
     ·exact ⟨b,off,h1⟩
    obtain ⟨O,hO⟩:∃O,entryR (((bytesL us).drop f).take (i-f))=O:=⟨_,rfl⟩
    have HOO:=hid hO
    have HEN:Hid (Calls Tryz.prog 19 #[.slice (some ⟨b,off+f,none⟩) (i-f:Nat) (cn-f:Nat)] wr fun e w'=>∃(y:Ex) (ok:Bool),e=.returned (.tuple #[.agg #[.int .i64 y.kind,.string y.temp,.string y.ka,.string y.kb,.int .i64 y.iff,.slice y.vp y.vo.length y.vc,.slice y.ep y.eo.length y.ec,.slice y.pp y.po.length y.pc,.int .u64 y.stamp,.int .i64 y.num],.bool ok])∧(ok=true→OwnQ wr.heap.size y w')∧O=(if ok=true then some y.en else none)∧Below wr.heap.size wr w'):=hid (by
     have h:=rentry16_any (some ⟨b,off+f,none⟩) (cn-f) ((us.drop f).take (i-f)) wr (txt_take (txt_drop (HTU.out wr HP.out.bel) rfl f) _) (by rw [List.length_take,List.length_drop];omega) (by rw [List.length_take,List.length_drop];omega) (by rw [List.length_take,List.length_drop];omega) fun x hx=>HSU.out x (List.mem_of_mem_drop (List.mem_of_mem_take hx))
     rw [List.length_take,List.length_drop,Nat.min_eq_left (by omega)] at h
     refine h.mono ?_
     rintro e w' ⟨⟨y,ok,rfl,ho,hz⟩,hb⟩
     refine ⟨y,ok,rfl,ho,?_,hb⟩
     rw [←hO,←hz]
     unfold bytesL
     rw [List.map_take,List.map_drop])
    clear hO hff hltf
    go_wp2_with fail
    refine HEN.out.mono ?_
    rintro e w2 ⟨y,ok,rfl,hyo,hye,hb2⟩
    have HYE:=hid hye
    have HYO:=hid hyo
    have HB2':=hid hb2
    obtain ⟨G,hG⟩:∃G,w2.heap.size=G:=⟨_,rfl⟩
    have hGQ:Q<G:=by have h1:=HP.out.size;have h2:=hb2.size;omega
    obtain ⟨W3,hW3⟩:∃W3,w2.alloc (.cells #[.int .i64 y.kind,.string y.temp,.string y.ka,.string y.kb,.int .i64 y.iff,.slice y.vp y.vo.length y.vc,.slice y.ep y.eo.length y.ec,.slice y.pp y.po.length y.pc,.int .u64 y.stamp,.int .i64 y.num] 42)=W3:=⟨_,rfl⟩
    have hb3:Below w2.heap.size w2 W3:=by rw [←hW3];exact (Below.refl _ _).alloc (Nat.le_refl _) _
    have HB3:=hid hb3
    have hb13:Below wr.heap.size wr W3:=hb2.trans (hb3.mono hb2.size)
    have HB13:=hid hb13
    have HX3:Hid (W3.heap[G]? = some (.cells #[.int .i64 y.kind,.string y.temp,.string y.ka,.string y.kb,.int .i64 y.iff,.slice y.vp y.vo.length y.vc,.slice y.ep y.eo.length y.ec,.slice y.pp y.po.length y.pc,.int .u64 y.stamp,.int .i64 y.num] 42 (0,0))):=hid (by rw [←hW3,←hG];exact heap_alloc_new w2 _)
    have HRES3:Hid (W3.heap[N]? = some (.cells #[.bool false,.slice none 0 0] 25 (0,0))):=hid ((hb13.block _ (Array.getElem?_eq_some_iff.1 HP.out.res).1).trans HP.out.res)
    have HBOX3:Hid (W3.heap[Q]? = some (.cells #[.bool once,.slice p out.length c] 25 (0,0))):=hid ((hb13.block _ (Array.getElem?_eq_some_iff.1 HP.out.box).1).trans HP.out.box)
    have HBEL3:Hid (Below Q w1 W3):=hid (HP.out.bel.trans (hb13.mono (Nat.le_of_lt HP.out.size)))
    clear hyo hye hb2 hb3 hb13 HEN
    go_upto_region 14 with fail
    try rw [hW3]
    try rw [hG]
    clear hW3 hG
    cases ok with
    | false =>
     as_aux_lemma =>
     have HNO:Hid (opR s.data.toList=none):=hid (by
      rw [HOP.out,pa_bad HSG.out (Or.inl (by rw [HOO.out,HYE.out];rfl))];rfl)
     have HLO:Hid (Below N w W3):=hid (HB2.out.trans (HBEL3.out.mono (Nat.le_of_lt hNQ)))
     obtain ⟨z0,z1,f0,f1⟩:=two_facts HRES3.out
     obtain ⟨W4,hW4⟩:∃W4,(W3.setCell ⟨N,0,none⟩ (.bool false)).setCell ⟨N,1,none⟩ (.slice none 0 0)=W4:=⟨_,rfl⟩
     obtain ⟨g0,g1,hb4⟩:=no_out HN.out HRES3.out HLO.out W4 hW4
     have HBB4:=hid hb4
     clear hb4
     go_wp2_with fail
     try rw [hW4]
     exact bodyPost_ret (v:=.tuple #[.agg #[.bool false,.slice none 0 0],.int .i64 4]) (by simp [results,Tryz.results7,go_sem,g0,g1]) rfl (rq_none HNO.out HBB4.out)
    | true =>
     have HES:Hid (entryR (((bytesL us).drop f).take (i-f))=some y.en):=hid (by rw [HOO.out,HYE.out];rfl)
     have ho16:=HP.out.few
     have b73:Below W3.heap.size W3 (W3.alloc (.cells #[.int .i64 y.kind,.string y.temp,.string y.ka,.string y.kb,.int .i64 y.iff,.slice y.vp y.vo.length y.vc,.slice y.ep y.eo.length y.ec,.slice y.pp y.po.length y.pc,.int .u64 y.stamp,.int .i64 y.num] 42)):=(Below.refl _ _).alloc (Nat.le_refl _) _
     have HN7:Hid ((W3.alloc (.cells #[.int .i64 y.kind,.string y.temp,.string y.ka,.string y.kb,.int .i64 y.iff,.slice y.vp y.vo.length y.vc,.slice y.ep y.eo.length y.ec,.slice y.pp y.po.length y.pc,.int .u64 y.stamp,.int .i64 y.num] 42)).heap[W3.heap.size]? = some (.cells (KEx.enc y).toArray 42 (0,0))):=hid (heap_alloc_new W3 _)
     have hs3:Q+1≤W3.heap.size:=(Array.getElem?_eq_some_iff.1 HBOX3.out).1
     have HR7:Hid (RowSt KEx (Q+1) (W3.alloc (.cells #[.int .i64 y.kind,.string y.temp,.string y.ka,.string y.kb,.int .i64 y.iff,.slice y.vp y.vo.length y.vc,.slice y.ep y.eo.length y.ec,.slice y.pp y.po.length y.pc,.int .u64 y.stamp,.int .i64 y.num] 42)) (.slice p out.length c) out (W3.alloc (.cells #[.int .i64 y.kind,.string y.temp,.string y.ka,.string y.kb,.int .i64 y.iff,.slice y.vp y.vo.length y.vc,.slice y.ep y.eo.length y.ec,.slice y.pp y.po.length y.pc,.int .u64 y.stamp,.int .i64 y.num] 42))):=hid ⟨Kind.own_on (Kind.own_on HP.out.own HB13.out) b73,Below.refl _ _,Nat.le_trans hs3 b73.size⟩
     have HEA7:Hid (∀x∈out++[y],OwnQ (Q+1) x (W3.alloc (.cells #[.int .i64 y.kind,.string y.temp,.string y.ka,.string y.kb,.int .i64 y.iff,.slice y.vp y.vo.length y.vc,.slice y.ep y.eo.length y.ec,.slice y.pp y.po.length y.pc,.int .u64 y.stamp,.int .i64 y.num] 42))):=hid fun x hx=>by
      rcases List.mem_append.1 hx with h|h
      ·exact ((HP.out.each x h).on HB13.out).on b73
      ·rw [List.mem_singleton] at h
       subst h
       exact (((HYO.out rfl).weak HP.out.size).on HB3.out).on b73
     have HBOX7:Hid ((W3.alloc (.cells #[.int .i64 y.kind,.string y.temp,.string y.ka,.string y.kb,.int .i64 y.iff,.slice y.vp y.vo.length y.vc,.slice y.ep y.eo.length y.ec,.slice y.pp y.po.length y.pc,.int .u64 y.stamp,.int .i64 y.num] 42)).heap[Q]? = some (.cells #[.bool once,.slice p out.length c] 25 (0,0))):=hid ((b73.block _ (by omega)).trans HBOX3.out)
     have HBEL7:Hid (Below Q w1 (W3.alloc (.cells #[.int .i64 y.kind,.string y.temp,.string y.ka,.string y.kb,.int .i64 y.iff,.slice y.vp y.vo.length y.vc,.slice y.ep y.eo.length y.ec,.slice y.pp y.po.length y.pc,.int .u64 y.stamp,.int .i64 y.num] 42))):=hid (HBEL3.out.trans (b73.mono (by omega)))
     obtain ⟨-,b1,-,-⟩:=two_facts HBOX3.out
     obtain ⟨c0,c1,c2,c3,c4,c5,c6,c7,c8,c9⟩:W3.cell? ⟨G,0,none⟩=some (.int .i64 y.kind)∧W3.cell? ⟨G,1,none⟩=some (.string y.temp)∧W3.cell? ⟨G,2,none⟩=some (.string y.ka)∧W3.cell? ⟨G,3,none⟩=some (.string y.kb)∧W3.cell? ⟨G,4,none⟩=some (.int .i64 y.iff)∧W3.cell? ⟨G,5,none⟩=some (.slice y.vp y.vo.length y.vc)∧W3.cell? ⟨G,6,none⟩=some (.slice y.ep y.eo.length y.ec)∧W3.cell? ⟨G,7,none⟩=some (.slice y.pp y.po.length y.pc)∧W3.cell? ⟨G,8,none⟩=some (.int .u64 y.stamp)∧W3.cell? ⟨G,9,none⟩=some (.int .i64 y.num):=by
      refine ⟨?_,?_,?_,?_,?_,?_,?_,?_,?_,?_⟩<;>(rw [Lib.cell_of_heap HX3.out];rfl)
     clear b73 hs3
     go_upto_region 17 with (at_builtin;refine wpList_push KEx rfl _ _ 23 rfl i0 _ 152 Tryz.underlying23 HI.out hz0 hz1 hz2 rfl (Q+1) _ _ out rfl HR7.out y _ _ _ rfl rfl _ _ HN7.out (by unfold maxLen;omega) (by omega) ?_
                 intro g3 k3 w8 hst3 hg3 _
                 have hq8:=box2_kept HBOX7.out hg3 HR7.out.own (by decide)
                 obtain ⟨q0,q1,q2,q3⟩:=two_facts hq8
                 have HQ8:=hid hq8
                 have HST8:=hid hst3
                 have HG8:=hid hg3
                 clear hst3 hg3 hq8)
     obtain ⟨W9,hW9⟩:∃W9,w8.setCell ⟨Q,1,none⟩ (.slice (some ⟨g3,0,none⟩) (out.length+1) k3)=W9:=⟨_,rfl⟩
     have hgs:w8.grownBy W9 (some Q):=by rw [←hW9];exact grown_set w8 Q 1 _
     have HBEL9:Hid (Below Q w1 W9):=hid (by
      rw [←hW9]
      exact (below_grown HBEL7.out HG8.out (fun k hk=>by have:=(World.ownsRow.lt (show World.ownsRow _ (Q+1) KEx.T KEx.k _ out.length (KEx.cells out) from HR7.out.own) k hk).1;omega) (by have:=HR7.out.base;omega)).setCell (p:=⟨Q,1,none⟩) (Nat.le_refl _) _)
     have HBX9:Hid (W9.heap[Q]? = some (.cells #[.bool once,.slice (some ⟨g3,0,none⟩) (out.length+1) k3] 25 (0,0))):=hid (by rw [←hW9];exact heap_setCell_same w8 Q 1 _ _ _ HQ8.out)
     have HRES9:=hid (HRS.out W9 HBEL9.out)
     have HNX:Hid ((out++[y]).length≤16→PaSt w1 N Q once (bytesL us) (i+1) (i+1) (out++[y]) (some ⟨g3,0,none⟩) k3 W9):=hid fun h16 =>
      pa_next HSG.out HES.out HRES9.out (by rw [List.length_append];exact HBX9.out) (by rw [List.length_append];exact Kind.own_farE HST8.out.own hgs (Nat.lt_succ_self _)) (fun x hx=>((HEA7.out x hx).grown HR7.out.own HG8.out).far hgs (Nat.lt_succ_self _)) HBEL9.out h16
     clear hgs
     try rw [hW9]
     clear hW9 b1 c0 c1 c2 c3 c4 c5 c6 c7 c8 c9 q0 q1 q2 q3
     obtain ⟨-,b1,-,-⟩:=two_facts HBX9.out
     by_cases h16:16<out.length+1
     ·have h16z:(16:Int)<(out.length:Int)+1:=by omega
      have HNO:Hid (opR s.data.toList=none):=hid (by rw [HOP.out,pa_bad HSG.out (Or.inr h16)];rfl)
      have HLO:Hid (Below N w W9):=hid (HB2.out.trans (HBEL9.out.mono (Nat.le_of_lt hNQ)))
      obtain ⟨z0,z1,f0,f1⟩:=two_facts HRES9.out
      obtain ⟨W4,hW4⟩:∃W4,(W9.setCell ⟨N,0,none⟩ (.bool false)).setCell ⟨N,1,none⟩ (.slice none 0 0)=W4:=⟨_,rfl⟩
      obtain ⟨g0,g1,hb4⟩:=no_out HN.out HRES9.out HLO.out W4 hW4
      have HBB4:=hid hb4
      clear hb4
      go_wp2_with fail
      try rw [hW4]
      exact bodyPost_ret (v:=.tuple #[.agg #[.bool false,.slice none 0 0],.int .i64 4]) (by simp [results,Tryz.results7,go_sem,g0,g1]) rfl (rq_none HNO.out HBB4.out)
     ·have h16z:¬ (16:Int)<(out.length:Int)+1:=by omega
      go_wp2_with fail
      go_roundg (us.length+1-(i+1))
      case measure=>omega
      exact ⟨i+1,i+1,out++[y],some ⟨g3,0,none⟩,k3,by go_num,by go_num,by omega,by omega,by omega,hid (HNX.out (by rw [List.length_append];simp only [List.length_cons,List.length_nil];omega))⟩
  ·have hiz:¬ (i:Int)≤(us.length:Int):=by omega
   have HPQ:Hid (RqIn wr (.slice p out.length c) out):=hid (own_rq HP.out.own HP.out.each (by have:=HP.out.few;omega))
   have HMY:=hid (rMay16_any once (.slice p out.length c) out wr HPQ.out)
   have HES:Hid (opR s.data.toList=if mayRq (out.map Ex.en)=true then some (once,out.map Ex.en) else none):=hid (by
    rw [HOP.out,pa_done HP.out (by omega)]
    unfold goodR
    rw [Option.bind_some]
    split<;>rfl)
   obtain ⟨b0,b1,-,-⟩:=two_facts HP.out.box
   obtain ⟨mb,hmb⟩:∃mb,mayRq (out.map Ex.en)=mb:=⟨_,rfl⟩
   rw [hmb] at HMY HES
   clear hmb
   go_wp2_with fail
   refine HMY.out.mono ?_
   rintro e w2 ⟨rfl,hb2⟩
   have HRES2:Hid (w2.heap[N]? = some (.cells #[.bool false,.slice none 0 0] 25 (0,0))):=hid ((hb2.block _ (Array.getElem?_eq_some_iff.1 HP.out.res).1).trans HP.out.res)
   have HBOX2:Hid (w2.heap[Q]? = some (.cells #[.bool once,.slice p out.length c] 25 (0,0))):=hid ((hb2.block _ (Array.getElem?_eq_some_iff.1 HP.out.box).1).trans HP.out.box)
   have HLO:Hid (Below N w w2):=hid (HB2.out.trans ((HP.out.bel.trans (hb2.mono (Nat.le_of_lt HP.out.size))).mono (Nat.le_of_lt hNQ)))
   have HOW2:=hid (Kind.own_on HP.out.own hb2)
   have HEA2:Hid (∀x∈out,OwnQ (Q+1) x w2):=hid fun x hx=>(HP.out.each x hx).on hb2
   clear hb2 b0 b1
   cases mb with
   | false =>
    as_aux_lemma =>
    have HNO:Hid (opR s.data.toList=none):=hid HES.out
    obtain ⟨z0,z1,f0,f1⟩:=two_facts HRES2.out
    obtain ⟨W4,hW4⟩:∃W4,(w2.setCell ⟨N,0,none⟩ (.bool false)).setCell ⟨N,1,none⟩ (.slice none 0 0)=W4:=⟨_,rfl⟩
    obtain ⟨g0,g1,hb4⟩:=no_out HN.out HRES2.out HLO.out W4 hW4
    have HBB4:=hid hb4
    clear hb4
    go_wp2_with fail
    try rw [hW4]
    exact bodyPost_ret (v:=.tuple #[.agg #[.bool false,.slice none 0 0],.int .i64 4]) (by simp [results,Tryz.results7,go_sem,g0,g1]) rfl (rq_none HNO.out HBB4.out)
   | true =>
    obtain ⟨b0,b1,-,-⟩:=two_facts HBOX2.out
    obtain ⟨z0,z1,f0,f1⟩:=two_facts HRES2.out
    obtain ⟨W4,hW4⟩:∃W4,(w2.setCell ⟨N,0,none⟩ (.bool once)).setCell ⟨N,1,none⟩ (.slice p out.length c)=W4:=⟨_,rfl⟩
    have h4:W4.heap[N]? = some (.cells #[.bool once,.slice p out.length c] 25 (0,0)):=by
     rw [←hW4]
     exact heap_setCell_same _ N 1 _ _ _ (heap_setCell_same _ N 0 _ _ _ HRES2.out)
    have hg1:w2.grownBy (w2.setCell ⟨N,0,none⟩ (.bool once)) (some N):=grown_set w2 N 0 _
    have hg2:(w2.setCell ⟨N,0,none⟩ (.bool once)).grownBy W4 (some N):=by rw [←hW4];exact grown_set _ N 1 _
    have HFIN:Hid (RqPost w s.data.toList (.returned (.tuple #[.agg #[.bool once,.slice p out.length c],.int .i64 0])) W4):=hid
     ⟨⟨once,.slice p out.length c,out,0,rfl,Kind.own_weak (Kind.own_farE (Kind.own_farE HOW2.out hg1 (by omega)) hg2 (by omega)) (by rw [HN.out];omega),fun x hx=>(((HEA2.out x hx).far hg1 (by omega)).far hg2 (by omega)).weak (by rw [HN.out];omega),.inl ⟨rfl,HES.out⟩⟩,by
      rw [←hW4,HN.out]
      exact (HLO.out.setCell (p:=⟨N,0,none⟩) (Nat.le_refl _) _).setCell (p:=⟨N,1,none⟩) (Nat.le_refl _) _⟩
    obtain ⟨g0,g1,-,-⟩:=two_facts h4
    clear h4 hg1 hg2
    go_wp2_with fail
    try rw [hW4]
    exact bodyPost_ret (v:=.tuple #[.agg #[.bool once,.slice p out.length c],.int .i64 0]) (by simp [results,Tryz.results7,go_sem,g0,g1]) rfl HFIN.out
end
section
open Go.RowKit Go.Lib
theorem opR_few {l:List UInt8} {o:Bool} {es:List En} (h:opR l=some (o,es)):es.length≤16:=by
 unfold opR opP at h
 cases ht:textsO (split3 (trimPrefix l onceB)) with
 | none=>rw [ht] at h;cases h
 | some x =>
  rw [ht,Option.bind_some] at h
  by_cases hx:x.length≤16
  ·rw [if_pos hx,Option.map_some] at h
   have:=congrArg Prod.snd (Option.some.inj h)
   have h2:x=es:=this
   rw [←h2];exact hx
  ·rw [if_neg hx] at h;cases h
theorem rq_few {l:List UInt8} {o:Bool} {d:List Ex} {c:Int} (h:(c=0∧opR l=some (o,d.map Ex.en))∨(c=4∧o=false∧d=[]∧opR l=none)):d.length≤16:=by
 rcases h with ⟨_,h⟩|⟨_,_,rfl,_⟩
 ·have:=opR_few h;rw [List.length_map] at this;exact this
 ·exact Nat.zero_le _
theorem rq_same {l:List UInt8} {o o':Bool} {d d':List Ex} {c c':Int} (h:(c=0∧opR l=some (o,d.map Ex.en))∨(c=4∧o=false∧d=[]∧opR l=none)) (h':(c'=0∧opR l=some (o',d'.map Ex.en))∨(c'=4∧o'=false∧d'=[]∧opR l=none)) :
  c=c'∧o=o'∧d.map Ex.en=d'.map Ex.en:=by
 rcases h with ⟨rfl,h⟩|⟨rfl,rfl,rfl,h⟩<;>rcases h' with ⟨rfl,h'⟩|⟨rfl,rfl,rfl,h'⟩<;>rw [h] at h'
 ·have:=Option.some.inj h'
  exact ⟨rfl,congrArg Prod.fst this,congrArg Prod.snd this⟩
 ·cases h'
 ·cases h'
 ·exact ⟨rfl,rfl,rfl⟩
set_option maxHeartbeats 8000000 in
set_option maxRecDepth 100000 in
theorem parses16_any (s:ByteArray) (w:World) (hv:OpVars w) (hs:s.size≤4294967000) (hrp:∀W,Calls Tryz.prog 7 #[.string s] W fun e w'=>RqPost W s.data.toList e w') :
  Calls Tryz.prog 3 #[.string s] w fun e w'=>e=.returned (.bool true)∧Below w.heap.size w w':=by
 have HV:=hid hv
 have HRP:=hid hrp
 have HFX:=hid (fixed16_any w hv)
 have HPA:Hid (∀W,Below w.heap.size w W→Calls Tryz.prog 6 #[.string s] W fun e w'=>RqPost W s.data.toList e w'):=hid fun W hW=>opparse_any s W (HV.out.on hW) hs
 clear hv hrp
 go_enter Tryz.func3,Tryz.ntmps3
 go_wp2_with fail
 refine HFX.out.mono ?_
 rintro e w1 ⟨rfl,hb1⟩
 have HB1:=hid hb1
 clear hb1 HFX
 go_wp2_with fail
 refine (HPA.out _ HB1.out).mono ?_
 rintro e w2 ⟨⟨o1,v1,d1,c1,rfl,ho1,hq1,hc1⟩,hb2⟩
 obtain ⟨p1,k1,rfl⟩:=Kind.own_shape ho1
 have HB2:=hid (HB1.out.trans (hb2.mono HB1.out.size))
 have HC1:=hid hc1
 have HR1:=hid (own_rq ho1 hq1 (by have:=rq_few hc1;omega))
 obtain ⟨W3,hW3⟩:∃W3,w2.alloc (.cells #[.bool o1,.slice p1 d1.length k1] 25)=W3:=⟨_,rfl⟩
 have hb3:Below w2.heap.size w2 W3:=by rw [←hW3];exact (Below.refl _ _).alloc (Nat.le_refl _) _
 have HX3:Hid (W3.heap[w2.heap.size]? = some (.cells #[.bool o1,.slice p1 d1.length k1] 25 (0,0))):=hid (by rw [←hW3];exact heap_alloc_new w2 _)
 have HB3:=hid (HB2.out.trans (hb3.mono HB2.out.size))
 have HR3:=hid (HR1.out.on hb3)
 clear ho1 hq1 hc1 hb2 hb3 HR1
 go_wp2_with fail
 try rw [hW3]
 clear hW3
 refine (HRP.out _).mono ?_
 rintro e w4 ⟨⟨o2,v2,d2,c2,rfl,ho2,hq2,hc2⟩,hb4⟩
 obtain ⟨p2,k2,rfl⟩:=Kind.own_shape ho2
 obtain ⟨rfl,rfl,hsm⟩:=rq_same HC1.out hc2
 have HSM:=hid hsm
 have HB4:=hid (HB3.out.trans (hb4.mono HB3.out.size))
 have HR2:=hid (own_rq ho2 hq2 (by have:=rq_few hc2;omega))
 have HR4:=hid (HR3.out.on hb4)
 obtain ⟨W5,hW5⟩:∃W5,w4.alloc (.cells #[.bool o1,.slice p2 d2.length k2] 25)=W5:=⟨_,rfl⟩
 have hb5:Below w4.heap.size w4 W5:=by rw [←hW5];exact (Below.refl _ _).alloc (Nat.le_refl _) _
 have HX4:Hid (w4.heap[w2.heap.size]? = some (.cells #[.bool o1,.slice p1 d1.length k1] 25 (0,0))):=hid ((hb4.block _ (Array.getElem?_eq_some_iff.1 HX3.out).1).trans HX3.out)
 have HX5:Hid (W5.heap[w2.heap.size]? = some (.cells #[.bool o1,.slice p1 d1.length k1] 25 (0,0))):=hid ((hb5.block _ (Array.getElem?_eq_some_iff.1 HX4.out).1).trans HX4.out)
 have HY5:Hid (W5.heap[w4.heap.size]? = some (.cells #[.bool o1,.slice p2 d2.length k2] 25 (0,0))):=hid (by rw [←hW5];exact heap_alloc_new w4 _)
 have HB5:=hid (HB4.out.trans (hb5.mono HB4.out.size))
 have HEQ:=hid (rEqual16_any o1 o1 (.slice p1 d1.length k1) (.slice p2 d2.length k2) d1 d2 W5 (HR4.out.on hb5) (HR2.out.on hb5))
 rw [decide_eq_true (⟨rfl,HSM.out⟩:o1=o1∧d1.map Ex.en=d2.map Ex.en)] at HEQ
 obtain ⟨l1,l2,_,_⟩:=two_facts HX5.out
 obtain ⟨m1,m2,_,_⟩:=two_facts HY5.out
 have hcc:(c1==c1)=true:=beq_self_eq_true c1
 clear ho2 hq2 hc2 hb4 hb5 hsm HC1
 go_wp2_with fail
 try rw [hW5]
 clear hW5
 go_wp2_with (go_at_call 8;refine HEQ.out.mono ?_;rintro e w6 ⟨rfl,hb6⟩;have HB6:=hid (HB5.out.trans (hb6.mono HB5.out.size));clear hb6)
 go_ret
 exact ⟨rfl,HB6.out⟩
end
section
open Go.ChangeShapes Go.WideShapes Go.ChangeAt Go.RowKit Go.Lib Go.Deep Go.Joins
theorem Tryz.own:ownKnob Tryz.prog.godebug=none:=by kernel_rfl
theorem Tryz.laidOut:laidOutB Tryz.prog=true:=by kernel_rfl
end
section
open Go.ChangeShapes Go.WideShapes Go.ChangeAt Go.RowKit Go.Lib Go.Deep
theorem Tryz.cellsByte:Tryz.prog.cellsOf 5=1:=by kernel_rfl
theorem gPlain:Tryz.prog.globalNamed "folio/value.plain" = some 3:=by kernel_rfl
theorem tPlain:(Tryz.prog.globals[3]?).map (·.type)=some 209:=by kernel_rfl
theorem uPair:Tryz.prog.underlying 208=some (.array 2 5):=by kernel_rfl
theorem cPair:Tryz.prog.cellsOf 208=2:=by kernel_rfl
theorem cPlain:Tryz.prog.cellsOf 209=26:=by kernel_rfl
def plainLits:List (Int × Int):=[(97,122),(65,90),(48,57),(45,45),(46,46),(95,95),(124,124),(42,42),(64,64),(47,47),(58,58),(43,43),(44,44)]
theorem plain_data:(Rows.laid_folio_value_plain:DataW Unit)=.agg (plainLits.map fun p=>.agg [.lit (.int .u8 p.1),.lit (.int .u8 p.2)]):=rfl
theorem one_byte_read {W:World} {f:Nat} {cs:List Value} {k:Int} {q:List MemPlace} (h:DataW.trod (fun _=>()) Tryz.prog W 0 (fun _=>true) false f 5 cs=some (.lit (.int .u8 k),q)):cs=[.int .u8 k]:=by
 obtain ⟨n,rfl,e,_⟩:=DataW.trod_int Tryz.underlying5 h
 cases e
 rfl
theorem pair_cells {W:World} {f:Nat} {cs:List Value} {a b:Int} {q:List MemPlace} (hl:cs.length=2) (h:DataW.trod (fun _=>()) Tryz.prog W 0 (fun _=>true) false f 208 cs=some (.agg [.lit (.int .u8 a),.lit (.int .u8 b)],q)):cs=[.int .u8 a,.int .u8 b]:=by
 match cs,hl with
 | [x,y],_ =>
  obtain ⟨f0,d0,q0,e0,h0⟩:=array_elem uPair h 0 (by decide)
  obtain ⟨f1,d1,q1,e1,h1⟩:=array_elem uPair h 1 (by decide)
  rw [Tryz.cellsByte] at h0 h1
  simp only [List.getElem?_cons_zero,List.getElem?_cons_succ,Option.some.injEq] at e0 e1
  subst e0 e1
  have k0:=one_byte_read h0
  have k1:=one_byte_read h1
  simp at k0 k1
  rw [k0,k1]
theorem list_pairs:∀(n:Nat) (cs:List Value) (ps:List (Int × Int)),cs.length=n * 2→ps.length=n→(∀i (h:i<ps.length),(cs.drop (i * 2)).take 2=[.int .u8 ps[i].1,.int .u8 ps[i].2])→cs=ps.flatMap fun p=>[.int .u8 p.1,.int .u8 p.2]
 | 0,cs,ps,hc,hp,_=>by
  rw [List.length_eq_zero_iff.1 (by omega:cs.length=0),List.length_eq_zero_iff.1 hp]
  rfl
 | n+1,cs,ps,hc,hp,h=>by
  match ps,hp,cs,hc with
  | _::_,_,[],hc=>simp at hc
  | _::_,_,[_],hc=>simp at hc;omega
  | p::ps,hp,x::y::cs,hc =>
   have h0:=h 0 (by simp)
   simp at h0
   have:=list_pairs n cs ps (by simp at hc;omega) (by simpa using hp) (fun i hi=>by
    have:=h (i+1) (by simp;omega)
    rw [show (i+1) * 2=i * 2+1+1 by omega] at this
    simpa using this)
   rw [List.flatMap_cons,←this,h0.1,h0.2]
   rfl
end
section
open Go.ChangeShapes Go.WideShapes Go.ChangeAt Go.RowKit Go.Lib
def seatLaid16:List (String × DataW Unit):=[("math/bits.deBruijn32tab",Rows.laid_math_bits_deBruijn32tab),("math/bits.deBruijn64tab",Rows.laid_math_bits_deBruijn64tab),("internal/strconv.uint64pow10",Rows.laid_internal_strconv_uint64pow10),("unicode/utf8.acceptRanges",Rows.laid_unicode_utf8_acceptRanges),("strconv.ErrRange",Rows.laid_strconv_ErrRange),("strconv.ErrSyntax",Rows.laid_strconv_ErrSyntax),("folio/value.plain",Rows.laid_folio_value_plain),("unicode/utf8.first",Rows.laid_unicode_utf8_first)]
theorem plain_of_laid16 {W:World} (h:laidMet Tryz.prog seatLaid16 W):PlainAt W:=by
 obtain ⟨g,t,cs,fuel,p,hg,ht,hv,hd⟩:=laidMet.reads h (n:= "folio/value.plain") (d:=Rows.laid_folio_value_plain) (.tail _ (.tail _ (.tail _ (.tail _ (.tail _ (.tail _ (.head _)))))))
 obtain rfl:=Option.some.inj (gPlain.symm.trans hg)
 obtain rfl:=Option.some.inj (tPlain.symm.trans ht)
 rw [plain_data] at hd
 obtain ⟨_,_,_,_,hlen,_,_⟩:=DataW.trod_array Tryz.underlying209 hd
 rw [cPlain] at hlen
 have hcs:=list_pairs 13 cs.toList plainLits (by simpa using hlen) rfl (fun i hi=>by
  have hi13:i<13:=hi
  obtain ⟨f,d,q,e,hx⟩:=array_elem Tryz.underlying209 hd i hi13
  rw [cPair] at hx
  rw [List.getElem?_map,List.getElem?_eq_getElem hi] at e
  simp only [Option.map_some,Option.some.injEq] at e
  subst e
  exact pair_cells (by rw [List.length_take,List.length_drop];rw [hlen];omega) hx)
 have hv':W.var? Tryz.prog "folio/value.plain" = some cs:=hv
 simp only [World.var?,hg,Option.bind_some] at hv'
 split at hv'
 ·rename_i c t' fr hh
  cases hv'
  refine ⟨t',fr,?_⟩
  rw [hh]
  have:cs=plainCells:=Array.toList_inj.1 (by rw [hcs];rfl)
  rw [this]
 ·cases hv'
theorem gPow:Tryz.prog.globalNamed "internal/strconv.uint64pow10" = some 4:=by kernel_rfl
theorem tPow:(Tryz.prog.globals[4]?).map (·.type)=some 211:=by kernel_rfl
theorem cPow:Tryz.prog.cellsOf 211=20:=by kernel_rfl
theorem cU64:Tryz.prog.cellsOf 40=1:=by kernel_rfl
theorem uPow:Tryz.prog.underlying 211=some (.array 20 40):=by kernel_rfl
theorem uU64:Tryz.prog.underlying 40=some (.int .u64):=by kernel_rfl
theorem pow_of_laid {W:World} (h:laidMet Tryz.prog seatLaid16 W):TabIs Tryz.prog W "internal/strconv.uint64pow10" .u64 pow10Tab :=
 tabIs_of_head gPow tPow uPow uU64 cU64 cPow (show laidMet Tryz.prog (("internal/strconv.uint64pow10",tabData .u64 pow10Tab)::_) W from h.tail.tail)
theorem gSyn:Tryz.prog.globalNamed "strconv.ErrSyntax" = some 5:=by kernel_rfl
theorem tSyn:(Tryz.prog.globals[5]?).map (·.type)=some 94:=by kernel_rfl
theorem gRan:Tryz.prog.globalNamed "strconv.ErrRange" = some 6:=by kernel_rfl
theorem tRan:(Tryz.prog.globals[6]?).map (·.type)=some 94:=by kernel_rfl
theorem cEs:Tryz.prog.cellsOf 240=1:=by kernel_rfl
theorem cSt:Tryz.prog.cellsOf 9=1:=by kernel_rfl
theorem starE : "*" ++ "errors.errorString" = "*errors.errorString":=by decide
theorem rowE (u:TypeId) (h:Tryz.prog.typeName? 3 u=some "*errors.errorString"):u=238 :=
 typeName_ptr_named (nm:= "errors.errorString") (by rw [starE];kernel_rfl) (by kernel_rfl) (by decide) u (by rw [starE];exact h)
theorem syn_of_laid {W:World} (h:laidMet Tryz.prog seatLaid16 W):ErrIn 5 W:=by
 obtain ⟨a,s,hv,_⟩:=laid_sentinel (h.tail.tail.tail.tail.tail) gSyn tSyn Tryz.underlying94 rowE Tryz.underlying238 Tryz.underlying240 rfl rfl Tryz.underlying9 cEs cSt
 exact ⟨_,by simpa using World.var?_cell gSyn hv 0,.inr ⟨_,_,rfl⟩⟩
theorem ran_of_laid {W:World} (h:laidMet Tryz.prog seatLaid16 W):ErrIn 6 W:=by
 obtain ⟨a,s,hv,_⟩:=laid_sentinel (h.tail.tail.tail.tail) gRan tRan Tryz.underlying94 rowE Tryz.underlying238 Tryz.underlying240 rfl rfl Tryz.underlying9 cEs cSt
 exact ⟨_,by simpa using World.var?_cell gRan hv 0,.inr ⟨_,_,rfl⟩⟩
end
section
open Go.ChangeShapes Go.WideShapes Go.ChangeAt Go.RowKit
theorem vars_of_laid16 {W:World} (h:laidMetH Tryz.prog seatLaid16 W) (hs:W.ShapedOpen Tryz.prog):OpVars W:=by
 rw [MakeChecks.laidMetH_plain _ _ _ (by kernel_rfl)] at h
 exact ⟨plain_of_laid16 h,cell_of_shapedOpen_int (zero:=#[.int .i64 0]) (t:=3) hs (of_decide_eq_true (by kernel_rfl)) (by kernel_rfl) rfl (by kernel_rfl) (by kernel_rfl) Tryz.underlying3,pow_of_laid h,syn_of_laid h,ran_of_laid h⟩
end
end Go.Proofs.YtjeogllmpjihaaaGreatDoor
