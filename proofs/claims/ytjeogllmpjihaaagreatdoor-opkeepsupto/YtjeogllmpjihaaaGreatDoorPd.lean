/-
  Texts of this claim, one behind the other: Rnn Sam Ncd Nms Rrd Txs Lin0 Rwd Rp7 Rp8 Rs0 Edm Edd Re0 Edl Spk Kys Opm Opb Opc Ope.
-/
import Derived.Test.YtjeogllmpjihaaaGreatDoorPc
namespace Go.Proofs.YtjeogllmpjihaaaGreatDoor
section
open Go.RowKit Go.Lib
theorem less_of {a b:ByteArray} {c:Bool} (h:ltB a b=c):Op.bytesLess a.toList b.toList=c:=by
 rw [←h,←ltN_eq];rfl
theorem eq_false {a b:ByteArray} (h:a≠b):(a.toList==b.toList)=false:=by
 rw [Lib.toList_data,Lib.toList_data,beq_eq_false_iff_ne]
 exact fun e=>h (ba_eq e)
theorem eq_true {a b:ByteArray} (h:a=b):(a.toList==b.toList)=true:=by rw [h];simp
theorem empty_of {a:ByteArray} (h:a.size=0):a.toList.isEmpty=true:=by
 rw [Lib.toList_data]
 have:a.data.toList=[]:=List.length_eq_zero_iff.1 (by simpa using h)
 rw [this];rfl
theorem nonempty_of {a:ByteArray} (h:a.size≠0):a.toList.isEmpty=false:=by
 rw [Lib.toList_data]
 cases e:a.data.toList with
 | nil=>exact absurd (by simpa using congrArg List.length e) h
 | cons _ _=>rfl
set_option maxHeartbeats 8000000 in
set_option maxRecDepth 100000 in
theorem rnorm_any (v:Value) (d:List Fx) (w:World) (hv:IsXs w v d) (hf:FitX d) (hl:d.length * 40≤140737488355328) (htot:totF (d.map Fx.fld) * 16≤140737488355328) :
  Calls Tryz.prog 122 #[v] w fun e w'=>RnPost w (d.map Fx.fld) e w':=by
 obtain ⟨i0,hi0,hz0,hz1,hz2⟩:=info_parts Tryz.infoStr
 obtain ⟨j0,hj0,hy0,hy1,hy2⟩:=info_parts Tryz.infoFld
 have HI:=hid hi0
 have HJ:=hid hj0
 obtain ⟨p,cap,rfl,hd,ht⟩:=hv
 have HD:=hid hd
 have HT:=hid ht
 have HF:=hid hf
 have hll:d.length≤3600000000000:=by omega
 have HTOT:=hid htot
 clear hi0 hj0 hd ht hf htot hl
 go_enter Tryz.func122,Tryz.ntmps122
 go_wp2_with fail
 go_loopg [4] d.length (fun g vi wr=>∃i:Nat,vi=.int .i64 i∧i≤d.length∧d.length-i≤g∧w=wr∧Hid (∀j,(h:j<d.length)→j<i→fieldB (d[j]).name.data.toList=true))
 case atStart=>exact ⟨0,rfl,by omega,by omega,rfl,fun j _ h=>by omega⟩
 case round =>
 obtain ⟨i,rfl,hi,hgk,rfl,HOK⟩:=hrel
 by_cases hlt:i<d.length
 ·have hltz:(i:Int)<(d.length:Int):=by omega
  have hiz:(0:Int)≤i:=by omega
  obtain ⟨b,off,rfl,hxs⟩:∃b off,p=some ⟨b,off,none⟩∧XsAt w b off d:=by
   rcases HD.out with h|h
   ·subst h;simp at hlt
   ·exact h
  have c0:=(hxs i hlt).1
  have HFX:Hid (∀W,Calls Tryz.prog 126 #[.string (d[i]).name] W fun e w'=>e=.returned (.bool (fieldB (d[i]).name.data.toList))∧w'=W):=fun W=>rfield_any _ W (HF.out.2 _ (List.getElem_mem hlt)).1
  have HM:Hid (fieldB (d[i]).name.data.toList=false→(d.map Fx.fld).any misB=true):=fun h=>by
   rw [List.any_eq_true]
   exact ⟨(d[i]).fld,List.mem_map.2 ⟨_,List.getElem_mem hlt,rfl⟩,by simp [misB,Fx.fld,h]⟩
  have HS:Hid (fieldB (d[i]).name.data.toList=true→∀j,(h:j<d.length)→j<i+1→fieldB (d[j]).name.data.toList=true):=fun h j hj h2=>by
   by_cases e:j=i
   ·subst e;exact h
   ·exact HOK.out j hj (by omega)
  generalize (d[i]).name=nm at c0 HFX HM HS
  clear hxs HOK
  cases hfx:fieldB nm.data.toList with
  | false =>
   rw [hfx] at HFX
   have H0:=hid (HM.out hfx)
   clear hfx HM HS
   go_wp2_with (first|(go_at_call 126;refine (HFX.out _).mono ?_;rintro e w1 ⟨rfl,rfl⟩))
   go_ret2
   exact ⟨Or.inl ⟨H0.out,rfl⟩,Below.refl _ _⟩
  | true =>
   rw [hfx] at HFX
   have H0:=hid (HS.out hfx)
   clear hfx HM HS
   go_wp2_with (first|(go_at_call 126;refine (HFX.out _).mono ?_;rintro e w1 ⟨rfl,rfl⟩))
   go_roundg (d.length-(i+1))
   case measure=>omega
   case rel=>exact ⟨i+1,by go_num,by omega,by omega,rfl,H0⟩
 have hltz:¬ (i:Int)<(d.length:Int):=by omega
 have HMIS:=hid (mis_all fun j hj=>HOK.out j hj (by omega))
 have hne:∀f∈d.map Fx.fld,f.1.size≠0:=fun f hf=>by
  obtain ⟨x,hx,rfl⟩:=List.mem_map.1 hf
  obtain ⟨j,hj,rfl⟩:=List.mem_iff_getElem.1 hx
  exact field_ne (HOK.out j hj (by omega))
 have hgr:=normF_groups (d.map Fx.fld)
 obtain ⟨G,hG⟩:∃G,normF (d.map Fx.fld)=G:=⟨_,rfl⟩
 rw [hG] at hgr
 have HGR:=hid hgr
 have HNE:=hid hne
 have HGE:=hid hG
 clear hgr hne hG HOK hgk hi hlt
 have ST0:Hid (RnSt w G 0 (.slice none 0 0) w):=⟨[],⟨World.ownsRow_nil _ _ _ _,fun x hx=>by simp at hx⟩,by simp,Below.refl _ _⟩
 go_wp2_with fail
 go_loopg [5,6,7,8] G.length (fun g v5 v6 v7 v8 ws=>∃k:Nat,k≤G.length∧G.length-k≤g∧v6=.bool ((G.take k).any bareB)∧v7=.bool (decide (16<k))∧v8=.string (lastOf G k)∧RnSt w G k v5 ws)
 case atStart=>exact ⟨0,by omega,by omega,by simp,rfl,rfl,ST0.out⟩
 case round =>
 clear ST0
 obtain ⟨k,hk,hgk,rfl,rfl,rfl,dr,hox,hdm,hbw⟩:=hrel
 have HSN:=hid (scan_next HGR.out HNE.out k hk)
 have hkeep:∀j,(h:j<d.length)→∃b off,p=some ⟨b,off,none⟩∧(∀W,Below w.heap.size w W→W.cell? ⟨b,off+j * 2,none⟩=some (.string (d[j]).name)∧W.cell? ⟨b,off+j * 2+1,none⟩=some (.slice (d[j]).p (d[j]).txt.length (d[j]).cap)):=fun j hj=>by
  rcases HD.out with h|⟨b,off,rfl,hxs⟩
  ·subst h;simp at hj
  ·exact ⟨b,off,rfl,fun W hW=>hxs.kept hW j hj⟩
 have HKP:=hid hkeep
 have HOX:=hid hox
 have HDM:=hid hdm
 have HBW:=hid hbw
 have hszw:=hbw.size
 clear hox hdm hbw hkeep
 obtain ⟨B6,hB6⟩:∃B,(G.take k).any bareB=B:=⟨_,rfl⟩
 obtain ⟨last,hlast⟩:∃l,lastOf G k=l:=⟨_,rfl⟩
 rw [hB6,hlast]
 rw [hlast] at HSN
 have HB6:=hid hB6
 clear hB6 hlast
 go_wp2_with fail
 go_loopg [9,10] d.length (fun g vn vi ws=>∃i:Nat,vi=.int .i64 i∧i≤d.length∧d.length-i≤g∧vn=.string (scanN last ((d.map Fx.fld).take i))∧wr=ws)
 case atStart=>exact ⟨0,rfl,by omega,by omega,by simp [scanN],rfl⟩
 case round =>
 obtain ⟨i,rfl,hi,hgi,rfl,rfl⟩:=hrel
 by_cases hlt:i<d.length
 ·have hltz:(i:Int)<(d.length:Int):=by omega
  have hiz:(0:Int)≤i:=by omega
  obtain ⟨b,off,rfl,hc⟩:=HKP.out i hlt
  have c0:=(hc _ HBW.out).1
  have HST:=hid (scanN_step hlt last)
  generalize scanN last ((d.map Fx.fld).take i)=nx at HST ⊢
  generalize (d[i]).name=nm at c0 HST
  clear hc
  cases h1:ltB last nm with
  | false =>
   rw [h1] at HST
   simp only [Bool.false_and,Bool.false_eq_true,if_false] at HST
   rcases ltB_cases nm last with h2|h2|h2
   ·have f1:=less_of h2
    clear h1 h2
    go_wp2_with fail
    go_roundg (d.length-(i+1))
    case measure=>omega
    case rel=>exact ⟨i+1,by go_num,by omega,by omega,by rw [HST.out],rfl⟩
   ·have f1:=eq_true h2
    have f0:Op.bytesLess nm.toList last.toList=false:=less_of (by rw [h2];exact ltB_irrefl _)
    clear h1 h2
    go_wp2_with fail
    go_roundg (d.length-(i+1))
    case measure=>omega
    case rel=>exact ⟨i+1,by go_num,by omega,by omega,by rw [HST.out],rfl⟩
   ·rw [h1] at h2;cases h2
  | true =>
   have f0:=less_of (ltB_asymm h1)
   have f1:=eq_false (Ne.symm (ltB_ne h1))
   rw [h1] at HST
   simp only [Bool.true_and] at HST
   clear h1
   by_cases h2:nx.size=0
   ·have f2:=empty_of h2
    rw [decide_eq_true h2] at HST
    simp only [Bool.true_or,if_true] at HST
    clear h2
    go_wp2_with fail
    go_roundg (d.length-(i+1))
    case measure=>omega
    case rel=>exact ⟨i+1,by go_num,by omega,by omega,by rw [HST.out],rfl⟩
   ·have f2:=nonempty_of h2
    rw [decide_eq_false h2] at HST
    simp only [Bool.false_or] at HST
    clear h2
    cases h3:ltB nm nx with
    | true =>
     have f3:=less_of h3
     rw [h3,if_pos rfl] at HST
     clear h3
     go_wp2_with fail
     go_roundg (d.length-(i+1))
     case measure=>omega
     case rel=>exact ⟨i+1,by go_num,by omega,by omega,by rw [HST.out],rfl⟩
    | false =>
     have f3:=less_of h3
     rw [h3,if_neg Bool.false_ne_true] at HST
     clear h3
     go_wp2_with fail
     go_roundg (d.length-(i+1))
     case measure=>omega
     case rel=>exact ⟨i+1,by go_num,by omega,by omega,by rw [HST.out],rfl⟩
 have hltz2:¬ (i:Int)<(d.length:Int):=by omega
 rw [List.take_of_length_le (show (d.map Fx.fld).length≤i by simp;omega)]
 rw [HSN.out]
 clear hlt hi hgi HSN
 by_cases hkl:k<G.length
 ·rw [dif_pos hkl]
  have hsz0:=scan_size HGR.out HNE.out hkl
  have hgt:=HGR.out.texts _ (List.getElem_mem hkl)
  have HAN:=hid (any_snoc hkl)
  have HCS:=hid (fun h=>cap_snoc hkl h)
  have HLS:=hid (lastOf_succ hkl)
  obtain ⟨⟨nm,gt⟩,hgk2⟩:∃g,G[k]=g:=⟨_,rfl⟩
  rw [hgk2] at hsz0 hgt HAN HCS HLS
  rw [hgk2]
  have hnz:=nonempty_of hsz0
  have HGT:Hid (gt=txtOf (d.map Fx.fld) nm):=hgt
  clear hsz0 hgt hgk2
  show Code.wp _ _ _ _ _
  simp only
  obtain ⟨W0,rfl⟩:∃W0,W0=wr:=⟨_,rfl⟩
  obtain ⟨N0,hN0⟩:∃n,W0.heap.size=n:=⟨_,rfl⟩
  have HN0:=hid hN0
  have IN0:Hid (OwnT N0 W0 (.slice none 0 0) []∧Below N0 W0 W0):=⟨World.ownsRow_nil _ _ _ _,Below.refl _ _⟩
  have KPW:Hid (∀W,Below N0 W0 W→Below w.heap.size w W∧N0≤W.heap.size):=fun W h=>by
   rw [←hN0] at h ⊢
   exact ⟨HBW.out.trans (h.mono hszw),h.size⟩
  clear hN0
  go_wp2_with fail
  go_loopg [11,12,13] d.length (fun g vl vn vi ws=>∃(i n:Nat) (ts:List ByteArray),vi=.int .i64 i∧vn=.int .i64 n∧i≤d.length∧d.length-i≤g∧Hid (OwnT N0 ws vl ts)∧Hid (ts=(txtOf ((d.map Fx.fld).take i) nm).take 9)∧Hid (n=(txtOf ((d.map Fx.fld).take i) nm).length)∧Hid (Below N0 W0 ws))
  case atStart=>exact ⟨0,0,[],rfl,rfl,by omega,by omega,IN0.out.1,(show Hid _ from by simp [Hid,txtOf]),(show Hid _ from by simp [Hid,txtOf]),IN0.out.2⟩
  case round =>
  clear IN0
  obtain ⟨i,n,ts,rfl,rfl,hi,hgi,HOT,HTS,HN,HBS⟩:=hrel
  have hnn:n≤9000000000000:=by
   have h1:=HN.out
   have h2:=txtOf_len ((d.map Fx.fld).take i) nm
   have h3:=totF_take (d.map Fx.fld) i
   have h4:=HTOT.out
   omega
  by_cases hlt:i<d.length
  ·have hltz:(i:Int)<(d.length:Int):=by omega
   have hiz:(0:Int)≤i:=by omega
   obtain ⟨hbw,hN0w⟩:=KPW.out _ HBS.out
   obtain ⟨b,off,rfl,hc⟩:=HKP.out i hlt
   obtain ⟨c0,c1⟩:=hc _ hbw
   have HKC:=hid hc
   have HTX:=hid (txtOf_step hlt nm)
   have hxt:=(HT.out _ (List.getElem_mem hlt)).kept hbw
   have hxl:(d[i]).txt.length≤9000000000000:=by
    have h1:=totF_mem (List.mem_map.2 ⟨_,List.getElem_mem hlt,rfl⟩:(d[i]).fld∈d.map Fx.fld)
    have h4:=HTOT.out
    have:(d[i]).fld.2.length=(d[i]).txt.length:=rfl
    omega
   have HXT0:=hid (HT.out _ (List.getElem_mem hlt))
   obtain ⟨x,hx⟩:∃x,d[i]=x:=⟨_,rfl⟩
   rw [hx] at c0 c1 HTX hxt hxl HKC HXT0
   obtain ⟨xn,xp,xc,xt⟩:=x
   simp only at c0 c1 HTX hxl HKC
   have HXT:=hid hxt
   clear hc hx hxt hbw
   by_cases hnm:xn=nm
   ·have hq:=eq_true hnm
    rw [if_pos hnm] at HTX
    have HN2:Hid (n+xt.length=(txtOf ((d.map Fx.fld).take (i+1)) nm).length):=by show _=_;rw [HTX.out,List.length_append,←HN.out]
    obtain ⟨T0,hT0⟩:∃T,txtOf ((d.map Fx.fld).take i) nm=T:=⟨_,rfl⟩
    rw [hT0] at HTX HTS
    clear hnm hT0 HN
    by_cases hx0:xt.length=0
    ·have hx00:xt=[]:=List.length_eq_zero_iff.1 hx0
     subst hx00
     rw [List.append_nil] at HTX
     have HT2:Hid (ts=(txtOf ((d.map Fx.fld).take (i+1)) nm).take 9):=by show _=_;rw [HTX.out];exact HTS.out
     clear hx0 HXT HXT0
     go_wp2_with fail
     refine wp_loop_rounds 1 ?_
     rw [rounds_succ]
     go_wp2_with fail
     go_roundg (d.length-(i+1))
     case measure=>omega
     case rel=>exact ⟨i+1,n,ts,by go_num,by first|rfl|go_num,by omega,by omega,HOT,HT2,HN2,HBS⟩
    ·obtain ⟨bt,ot,hpt,hct⟩:∃b off,xp=some ⟨b,off,none⟩∧∀i,(h:i<xt.length)→w.cell? ⟨b,off+i,none⟩=some (.string xt[i]):=by
      rcases HXT0.out with h|h
      ·exact absurd (by rw [show xt=[] from h];rfl) hx0
      ·exact h
     subst hpt
     have HCT:Hid (∀W,Below w.heap.size w W→∀i,(h:i<xt.length)→W.cell? ⟨bt,ot+i,none⟩=some (.string xt[i])):=fun W hW i h=>(hW.cell (p:=⟨bt,ot+i,none⟩) (cell_block (hct i h))).trans (hct i h)
     have HBS0:=HBS
     have HOT0:=HOT
     clear HXT HXT0 hct
     go_wp2_with fail
     go_loopg [11,14] xt.length (fun g vl vj wt=>∃(j:Nat) (us:List ByteArray),vj=.int .i64 j∧j≤xt.length∧xt.length-j≤g∧Hid (OwnT N0 wt vl us)∧Hid (us=(T0++xt.take j).take 9)∧Hid (Below N0 W0 wt))
     case atStart=>exact ⟨0,ts,rfl,by omega,by omega,HOT0,(show Hid _ from by show _=_;rw [List.take_zero,List.append_nil];exact HTS.out),HBS0⟩
     case round =>
     clear HOT0 HBS0 HOT HTS HBS c0 c1 hN0w
     obtain ⟨j,us,rfl,hj,hgj,HOU,HUS,HBU⟩:=hrel
     obtain ⟨hbw,hN0w⟩:=KPW.out _ HBU.out
     have c1:=(HKC.out _ hbw).2
     obtain ⟨pu,cu,rfl⟩:=own_slice HOU.out
     have hu9:us.length≤9:=by
      have:=congrArg List.length HUS.out
      rw [List.length_take] at this
      omega
     by_cases hjl:j<xt.length
     ·have hjz:(j:Int)<(xt.length:Int):=by omega
      have hjd:decide ((j:Int)<(xt.length:Int))=true:=decide_eq_true hjz
      have hj0:(0:Int)≤(j:Int):=by omega
      by_cases h9:us.length<9
      ·have h9z:(us.length:Int)<9:=by omega
       have h9d:decide ((us.length:Int)<9)=true:=decide_eq_true h9z
       have ct:=HCT.out _ hbw j hjl
       have hus:us++[xt[j]]=(T0++xt.take (j+1)).take 9:=by
        have h1:=HUS.out
        have h2:(T0++xt.take j).length<9:=by
         have:=congrArg List.length h1
         rw [List.length_take] at this
         omega
        rw [List.take_of_length_le (by omega)] at h1
        rw [List.take_succ_eq_append_getElem hjl,←List.append_assoc,←h1,List.take_of_length_le (by rw [List.length_append,List.length_singleton];omega)]
       obtain ⟨t,htt⟩:∃t,xt[j]=t:=⟨_,rfl⟩
       rw [htt] at ct hus
       have HUN:=hid hus
       clear htt hus HUS hbw
       go_wp2_with (first|(at_builtin;refine wpList_append_own _ rfl _ _ 43 rfl N0 9 i0 (.string ⟨#[]⟩) 1 16 Tryz.underlying43 HI.out hz0 hz1 hz2 rfl (by decide) _ _ _ rfl (World.ownsRow.alloc HOU.out _) ⟨wr.heap.size,0,none⟩ 1 1 [.string t] rfl rfl ?c1 ?c2 ?c3 ?c4 ?c5 ?_))
       case c1 =>
        intro m u hm
        match m,hm with
        | 0,hm=>simp at hm;subst hm;simp [Addr.add]
       case c2=>intro u hu;simp at hu;subst hu;rfl
       case c3=>unfold maxLen;omega
       case c4=>omega
       case c5=>simp;omega
       intro v4 w4 hown4 hg4 _
       have HO4:Hid (OwnT N0 w4 v4 (us++[t])):=by
        show OwnT N0 w4 v4 (us++[t])
        unfold OwnT
        simp only [List.length_append,List.length_cons,List.length_nil,List.map_append,List.map_cons,List.map_nil]
        exact hown4
       have HB4:Hid (Below N0 W0 w4):=(HBU.out.alloc hN0w _).grown hg4 (by simp;omega) (fun q hq=>(World.ownsRow.lt HOU.out q hq).1)
       clear hown4 hg4
       go_wp2_with fail
       go_roundg (xt.length-(j+1))
       case measure=>omega
       case rel=>exact ⟨j+1,us++[t],by go_num,by omega,by omega,HO4,HUN,HB4⟩
      ·have h9z:¬ (us.length:Int)<9:=by omega
       have h9d:decide ((us.length:Int)<9)=false:=decide_eq_false h9z
       have HU2:Hid (us=(txtOf ((d.map Fx.fld).take (i+1)) nm).take 9):=by
        show _=_
        rw [HTX.out]
        conv=>rhs;rw [←List.take_append_drop j xt]
        rw [take9_more]
        ·exact HUS.out
        ·have:=congrArg List.length HUS.out
         rw [List.length_take] at this
         omega
       clear HUS hbw
       go_wp2_with fail
       go_roundg (d.length-(i+1))
       case measure=>omega
       case rel=>exact ⟨i+1,n+xt.length,us,by go_num,by first|rfl|go_num,by omega,by omega,HOU,HU2,HN2,HBU⟩
     ·have hjz:¬ (j:Int)<(xt.length:Int):=by omega
      have hjd:decide ((j:Int)<(xt.length:Int))=false:=decide_eq_false hjz
      have HU2:Hid (us=(txtOf ((d.map Fx.fld).take (i+1)) nm).take 9):=by
       show _=_
       rw [HTX.out,HUS.out,List.take_of_length_le (show xt.length≤j by omega)]
      clear HUS hbw
      go_wp2_with fail
      go_roundg (d.length-(i+1))
      case measure=>omega
      case rel=>exact ⟨i+1,n+xt.length,us,by go_num,by first|rfl|go_num,by omega,by omega,HOU,HU2,HN2,HBU⟩
   ·have hq:=eq_false hnm
    rw [if_neg hnm,List.append_nil] at HTX
    rw [←HTX.out] at HTS HN
    clear hnm HTX HXT HXT0
    go_wp2_with fail
    go_roundg (d.length-(i+1))
    case measure=>omega
    case rel=>exact ⟨i+1,n,ts,by go_num,rfl,by omega,by omega,HOT,HTS,HN,HBS⟩
  have hltz:¬ (i:Int)<(d.length:Int):=by omega
  rw [List.take_of_length_le (show (d.map Fx.fld).length≤i by simp;omega),←HGT.out] at HTS HN
  obtain ⟨hbw,hN0w⟩:=KPW.out _ HBS.out
  have HXS:Hid (OwnXs w.heap.size wr u5 dr):=HOX.out.on (by rw [HN0.out];exact HBS.out)
  obtain ⟨pl,cl,rfl⟩:=own_slice HOT.out
  obtain ⟨pr,cr,rfl,_⟩:=HXS.out.is
  have hdl1:dr.length≤k:=by
   have:=congrArg List.length HDM.out
   rw [List.length_map,List.length_map,List.length_take] at this
   omega
  have hdl2:dr.length≤17:=by
   have:=congrArg List.length HDM.out
   rw [List.length_map,List.length_map,List.length_take] at this
   omega
  have hdl3:k≤dr.length∨17≤dr.length:=by
   have:=congrArg List.length HDM.out
   rw [List.length_map,List.length_map,List.length_take] at this
   omega
  have hwN:w.heap.size≤N0:=by rw [←HN0.out];exact hszw
  have HBX:=hid hbw
  have hszx:=hbw.size
  clear hlt hi hgi hbw hltz2
  go_upto_region 27 with fail
  go_cut [6] from 108 to 112 (fun vb wx=>wr=wx∧vb=.bool ((G.take (k+1)).any bareB))
  case first =>
   cases B6 with
   | true =>
    go_wp2_with fail
    go_meet
    case rel=>exact ⟨rfl,by rw [HAN.out,HB6.out];rfl⟩
   | false =>
    by_cases hn0:n=0
    ·have hnz2:((n:Int)==0)=true:=beq_iff_eq.2 (by omega)
     have HG0:Hid (gt.isEmpty=true):=by
      show _=_
      have:=HN.out
      rw [hn0] at this
      rw [List.length_eq_zero_iff.1 this.symm];rfl
     clear hn0
     go_wp2_with fail
     go_meet
     case rel=>exact ⟨rfl,by rw [HAN.out,HB6.out];simp only [bareB];rw [HG0.out];rfl⟩
    ·have hnz2:((n:Int)==0)=false:=beq_eq_false_iff_ne.2 (by omega)
     have HG0:Hid (gt.isEmpty=false):=by
      show _=_
      have:=HN.out
      cases hg:gt with
      | nil=>rw [hg] at this;exact absurd this hn0
      | cons _ _=>rfl
     clear hn0
     go_wp2_with fail
     go_meet
     case rel=>exact ⟨rfl,by rw [HAN.out,HB6.out];simp only [bareB];rw [HG0.out];rfl⟩
  case rest =>
  obtain ⟨rfl,rfl⟩:=hcut
  obtain ⟨B7,hB7⟩:∃B,(G.take (k+1)).any bareB=B:=⟨_,rfl⟩
  rw [hB7]
  have HB7:=hid hB7
  clear hB7
  have HX9:Hid (∀v5 w5,w5.ownsRow w.heap.size 45 2 v5 (dr.length+1) (cellsX dr++cellsX [⟨nm,pl,cl,ts⟩])→(wr.alloc (.cells #[.string nm,.slice pl ts.length cl] 45)).grownBy w5 (Value.slice pr dr.length cr).ownBlock→k<17→RnSt w G (k+1) v5 w5):=fun v5 w5 hown5 hg5 hk17=>by
   have hal:Below wr.heap.size wr (wr.alloc (.cells #[.string nm,.slice pl ts.length cl] 45)):=(Below.refl _ _).alloc (Nat.le_refl _) _
   have hox5:=(HXS.out.on hal).put (x:=⟨nm,pl,cl,ts⟩) (own_weak (OwnT.on HOT.out hal) hwN) hown5 hg5
   refine ⟨_,hox5,?_,(HBX.out.alloc hszx _).grown hg5 (by simp;omega) (fun q hq=>(World.ownsRow.lt HXS.out.1 q hq).1)⟩
   rw [HCS.out hk17,List.map_append,HDM.out]
   simp only [List.map_cons,List.map_nil,Fx.fld,capF]
   rw [HTS.out]
  by_cases hk16:k<16
  ·have g1:decide (16<k)=false:=decide_eq_false (by omega)
   have g2:((dr.length:Int)==16)=false:=beq_eq_false_iff_ne.2 (by omega)
   have g3:(dr.length:Int)<17:=by omega
   have g4:decide (16<k+1)=false:=decide_eq_false (by omega)
   go_wp2_with (first|(at_builtin;refine wpList_append_own _ rfl _ _ 37 rfl w.heap.size 45 j0 (.agg #[.string ⟨#[]⟩,.slice none 0 0]) 2 40 Tryz.underlying37 HJ.out hy0 hy1 hy2 rfl (by decide) _ _ _ rfl (World.ownsRow.alloc HXS.out.1 _) ⟨wr.heap.size,0,none⟩ 1 1 (cellsX [⟨nm,pl,cl,ts⟩]) rfl rfl (news_x wr ⟨nm,pl,cl,ts⟩) (cellsX_one _) ?c3 ?c4 ?c5 ?_))
   case c3=>unfold maxLen;omega
   case c4=>omega
   case c5=>first|omega|(simp;omega)
   intro v5 w5 hown5 hg5 _
   have HST:=hid (HX9.out v5 w5 hown5 hg5 (by omega))
   clear hown5 hg5
   go_wp2_with fail
   go_roundg (G.length-(k+1))
   case measure=>omega
   case rel=>exact ⟨k+1,by omega,by omega,by rw [HB7.out],by rw [g4],by rw [HLS.out],HST.out⟩
  ·by_cases hk17:k=16
   ·have g1:decide (16<k)=false:=decide_eq_false (by omega)
    have g2:((dr.length:Int)==16)=true:=beq_iff_eq.2 (by omega)
    have g3:(dr.length:Int)<17:=by omega
    have g4:decide (16<k+1)=true:=decide_eq_true (by omega)
    clear hk16
    have hk17':k<17:=by omega
    clear hk17
    go_wp2_with (first|(at_builtin;refine wpList_append_own _ rfl _ _ 37 rfl w.heap.size 45 j0 (.agg #[.string ⟨#[]⟩,.slice none 0 0]) 2 40 Tryz.underlying37 HJ.out hy0 hy1 hy2 rfl (by decide) _ _ _ rfl (World.ownsRow.alloc HXS.out.1 _) ⟨wr.heap.size,0,none⟩ 1 1 (cellsX [⟨nm,pl,cl,ts⟩]) rfl rfl (news_x wr ⟨nm,pl,cl,ts⟩) (cellsX_one _) ?c3 ?c4 ?c5 ?_))
    case c3=>unfold maxLen;omega
    case c4=>omega
    case c5=>first|omega|(simp;omega)
    intro v5 w5 hown5 hg5 _
    have HST:=hid (HX9.out v5 w5 hown5 hg5 hk17')
    clear hown5 hg5
    go_wp2_with fail
    go_roundg (G.length-(k+1))
    case measure=>omega
    case rel=>exact ⟨k+1,by omega,by omega,by rw [HB7.out],by rw [g4],by rw [HLS.out],HST.out⟩
   ·have g1:decide (16<k)=true:=decide_eq_true (by omega)
    have g3:¬ (dr.length:Int)<17:=by omega
    have g4:decide (16<k+1)=true:=decide_eq_true (by omega)
    have HST:Hid (RnSt w G (k+1) (.slice pr dr.length cr) wr):=⟨dr,HXS.out,by rw [HDM.out,Nat.min_eq_right (show 17≤k by omega),Nat.min_eq_right (show 17≤k+1 by omega)],HBX.out⟩
    go_wp2_with fail
    go_roundg (G.length-(k+1))
    case measure=>omega
    case rel=>exact ⟨k+1,by omega,by omega,by rw [HB7.out],by rw [g4],by rw [HLS.out],HST.out⟩
 ·rw [dif_neg hkl]
  obtain rfl:k=G.length:=by omega
  rw [List.take_length] at HB6
  have hmm:mayB (dr.map Fx.fld)=mayB G∨16<G.length:=by
   by_cases h:16<G.length
   ·exact Or.inr h
   ·left
    rw [HDM.out,Nat.min_eq_left (by omega),List.take_length,cap_may]
  have HMM:=hid hmm
  have hfit:=rn_fit HF.out (by rw [HGE.out];exact HDM.out)
  have HMY:=hid (rmay_any u5 dr wr HOX.out.is hfit)
  clear hmm hfit
  cases B6 with
  | true =>
   go_wp2_with fail
   go_ret2
   exact ⟨Or.inr ⟨HMIS.out,Or.inl ⟨by rw [HGE.out];exact HB6.out,rfl⟩⟩,HBW.out⟩
  | false =>
   by_cases h16:16<G.length
   ·have g1:decide (16<G.length)=true:=decide_eq_true h16
    go_wp2_with fail
    go_ret2
    exact ⟨Or.inr ⟨HMIS.out,Or.inr (Or.inl ⟨by rw [HGE.out];exact HB6.out,by rw [HGE.out];exact may_long h16,rfl⟩)⟩,HBW.out⟩
   ·have g1:decide (16<G.length)=false:=decide_eq_false h16
    have HME:Hid (mayB (dr.map Fx.fld)=mayB G):=HMM.out.resolve_right h16
    rw [HME.out] at HMY
    cases hm:mayB G with
    | false =>
     rw [hm] at HMY
     go_wp2_with (first|(go_at_call 84;refine HMY.out.mono ?_;rintro e w2 ⟨rfl,hg2⟩))
     go_ret2
     exact ⟨Or.inr ⟨HMIS.out,Or.inr (Or.inl ⟨by rw [HGE.out];exact HB6.out,by rw [HGE.out];exact hm,rfl⟩)⟩,HBW.out.trans (hg2.below.mono hszw)⟩
    | true =>
     rw [hm] at HMY
     go_wp2_with (first|(go_at_call 84;refine HMY.out.mono ?_;rintro e w2 ⟨rfl,hg2⟩))
     go_ret2
     refine ⟨Or.inr ⟨HMIS.out,Or.inr (Or.inr ⟨by rw [HGE.out];exact HB6.out,by rw [HGE.out];exact hm,u5,dr,rfl,HOX.out.on hg2.below,?_⟩)⟩,HBW.out.trans (hg2.below.mono hszw)⟩
     rw [HGE.out,HDM.out,Nat.min_eq_left (by omega),List.take_length]
     exact cap_map fun f hf=>(fits_parts (may_fits hm f hf)).2.2.1
end
section
open Go.RowKit
theorem str_ne {s t:ByteArray} (h:¬ s=t):(s.toList==t.toList)=false:=by
 rw [Lib.toList_data,Lib.toList_data,beq_eq_false_iff_ne]
 intro e
 apply h
 obtain ⟨⟨s⟩⟩:=s
 obtain ⟨⟨t⟩⟩:=t
 simp at e
 rw [e]
set_option maxHeartbeats 1000000 in
set_option maxRecDepth 100000 in
theorem sameT_any (p q:Option Addr) (cap cap':Nat) (ts us:List ByteArray) (w:World) (h1:TxtAt w p ts) (h2:TxtAt w q us) (hl1:ts.length≤maxLen) :
  Calls Tryz.prog 45 #[.slice p ts.length cap,.slice q us.length cap'] w fun e w'=>e=.returned (.bool (decide (ts=us)))∧∃n,w'=w.drewN n:=by
 unfold maxLen at hl1
 obtain ⟨r,hr⟩:∃r,decide (ts=us)=r:=⟨_,rfl⟩
 rw [hr]
 have HR:=hid hr
 have H1:=hid h1
 have H2:=hid h2
 clear hr h1 h2
 by_cases hl:ts.length=us.length
 ·have hb:((ts.length:Int) != (us.length:Int))=false:=by simp [hl]
  have HL:=hid hl
  clear hl
  go_enter Tryz.func45,Tryz.ntmps45
  go_wp2_with fail
  go_loopg [5] ts.length (fun g vi wr=>∃i m:Nat,vi=.int .i64 i∧i≤ts.length∧ts.length-i≤g∧wr=w.drewN m∧Hid (∀j,j<i→ts[j]? = us[j]?))
  case atStart=>exact ⟨0,0,rfl,by omega,by omega,rfl,fun j h=>by omega⟩
  case round =>
   obtain ⟨i,m,rfl,hi,hg,rfl,HJ⟩:=hrel
   by_cases hlt:i<ts.length
   ·have hlt2:i<us.length:=by rw [←HL.out];exact hlt
    have i1:(0:Int)≤↑i:=by omega
    have i2:(↑i:Int) < ↑ts.length:=by omega
    have i3:(↑i:Int) < ↑us.length:=by omega
    rcases H1.out with hn|⟨b1,o1,rfl,k1⟩
    ·rw [hn] at hlt;simp at hlt
    rcases H2.out with hn|⟨b2,o2,rfl,k2⟩
    ·rw [hn] at hlt2;simp at hlt2
    have e1:=k1 i hlt
    have e2:=k2 i hlt2
    have g1:ts[i]? = some ts[i]:=List.getElem?_eq_getElem hlt
    have g2:us[i]? = some us[i]:=List.getElem?_eq_getElem hlt2
    clear k1 k2
    obtain ⟨s,hs⟩:∃s,ts[i]=s:=⟨_,rfl⟩
    obtain ⟨t,ht⟩:∃t,us[i]=t:=⟨_,rfl⟩
    rw [hs] at e1 g1
    rw [ht] at e2 g2
    have G1:=hid g1
    have G2:=hid g2
    clear hs ht g1 g2
    by_cases hst:s=t
    ·subst hst
     go_wp2_with fail
     go_quiet (fail)
     go_wp2_with fail
     go_roundg (ts.length-(i+1))
     case measure=>omega
     refine ⟨i+1,_,by go_num,by omega,by omega,rfl,fun j hj=>?_⟩
     by_cases e:j=i
     ·subst e;rw [G1.out,G2.out]
     ·exact HJ.out j (by omega)
    ·have hne:=str_ne hst
     have H0:Hid (r=false):=HR.out.symm.trans (decide_eq_false fun e=>hst (by
      have:=G1.out
      rw [e,G2.out] at this
      exact (Option.some.inj this).symm))
     go_wp2_with fail
     go_quiet (fail)
     go_wp2_with fail
     go_ret
     exact ⟨ret_bool H0.out.symm,_,by rw [World.drewN_drewN]⟩
   ·have hltz:¬ (i:Int)<(ts.length:Int):=by omega
    have H0:Hid (r=true):=HR.out.symm.trans (decide_eq_true (List.ext_getElem? fun j=>by
     by_cases hj:j<ts.length
     ·exact HJ.out j (by omega)
     ·rw [List.getElem?_eq_none (by omega),List.getElem?_eq_none (by have:=HL.out;omega)]))
    go_wp2_with fail
    go_ret
    exact ⟨ret_bool H0.out.symm,_,rfl⟩
 ·have hb:((ts.length:Int) != (us.length:Int))=true:=by simp;omega
  have H0:Hid (r=false):=HR.out.symm.trans (decide_eq_false fun e=>hl (by rw [e]))
  go_enter Tryz.func45,Tryz.ntmps45
  go_wp2_with fail
  go_ret
  exact ⟨ret_bool H0.out.symm,0,rfl⟩
set_option maxHeartbeats 2000000 in
set_option maxRecDepth 100000 in
theorem sameF_any (v u:Value) (d e:List Fx) (w:World) (hv:IsXs w v d) (hu:IsXs w u e) (hf:FitX d) (hg:FitX e) :
  Calls Tryz.prog 21 #[v,u] w fun r w'=>r=.returned (.bool (decide (d.map Fx.fld=e.map Fx.fld)))∧∃n,w'=w.drewN n:=by
 obtain ⟨p,cap,rfl,hd,ht⟩:=hv
 obtain ⟨q,cap',rfl,he,ht'⟩:=hu
 have hl1:=hf.1
 have hl2:=hg.1
 unfold maxLen at hl1 hl2
 have HF:=hid hf.2
 have HG:=hid hg.2
 have HD:=hid hd
 have HE:=hid he
 have HT:=hid ht
 have HT':=hid ht'
 obtain ⟨r,hr⟩:∃r,decide (d.map Fx.fld=e.map Fx.fld)=r:=⟨_,rfl⟩
 rw [hr]
 have HR:=hid hr
 clear hr hd he ht ht' hf hg
 by_cases hl:d.length=e.length
 ·have hb:((d.length:Int) != (e.length:Int))=false:=by simp [hl]
  have HL:=hid hl
  clear hl
  go_enter Tryz.func21,Tryz.ntmps21
  go_wp2_with fail
  go_loopg [5] d.length (fun g vi wr=>∃i m:Nat,vi=.int .i64 i∧i≤d.length∧d.length-i≤g∧wr=w.drewN m∧Hid (∀j,j<i→(d.map Fx.fld)[j]? = (e.map Fx.fld)[j]?))
  case atStart=>exact ⟨0,0,rfl,by omega,by omega,rfl,fun j h=>by omega⟩
  case round =>
   obtain ⟨i,m,rfl,hi,hgk,rfl,HJ⟩:=hrel
   by_cases hlt:i<d.length
   ·have hlt2:i<e.length:=by rw [←HL.out];exact hlt
    have i1:(0:Int)≤↑i:=by omega
    have i2:(↑i:Int) < ↑d.length:=by omega
    have i3:(↑i:Int) < ↑e.length:=by omega
    rcases HD.out with hn|⟨b1,o1,rfl,k1⟩
    ·rw [hn] at hlt;simp at hlt
    rcases HE.out with hn|⟨b2,o2,rfl,k2⟩
    ·rw [hn] at hlt2;simp at hlt2
    obtain ⟨x0,x1⟩:=k1 i hlt
    obtain ⟨y0,y1⟩:=k2 i hlt2
    have g1:(d.map Fx.fld)[i]? = some (d[i]).fld:=by rw [List.getElem?_map,List.getElem?_eq_getElem hlt];rfl
    have g2:(e.map Fx.fld)[i]? = some (e[i]).fld:=by rw [List.getElem?_map,List.getElem?_eq_getElem hlt2];rfl
    have fx:=HF.out _ (List.getElem_mem hlt)
    have fy:=HG.out _ (List.getElem_mem hlt2)
    have tx:=HT.out _ (List.getElem_mem hlt)
    have ty:=HT'.out _ (List.getElem_mem hlt2)
    clear k1 k2
    obtain ⟨x,hx⟩:∃x,d[i]=x:=⟨_,rfl⟩
    obtain ⟨y,hy⟩:∃y,e[i]=y:=⟨_,rfl⟩
    rw [hx] at x0 x1 g1 fx tx
    rw [hy] at y0 y1 g2 fy ty
    unfold Fx.sl at x1 y1
    have G1:=hid g1
    have G2:=hid g2
    obtain ⟨W,hW⟩:∃W,w.drewN m=W:=⟨_,rfl⟩
    have HC:Hid (∀n,Calls Tryz.prog 45 #[.slice x.p x.txt.length x.cap,.slice y.p y.txt.length y.cap] (W.drewN n) fun r w'=>r=.returned (.bool (decide (x.txt=y.txt)))∧∃k,w'=(W.drewN n).drewN k):=fun n=>by
     subst hW
     exact sameT_any _ _ _ _ _ _ _ tx ty fx.2.1
    replace x0:W.cell? ⟨b1,o1+i * 2,none⟩=some (.string x.name):=by subst hW;exact x0
    replace x1:W.cell? ⟨b1,o1+i * 2+1,none⟩=some (.slice x.p x.txt.length x.cap):=by subst hW;exact x1
    replace y0:W.cell? ⟨b2,o2+i * 2,none⟩=some (.string y.name):=by subst hW;exact y0
    replace y1:W.cell? ⟨b2,o2+i * 2+1,none⟩=some (.slice y.p y.txt.length y.cap):=by subst hW;exact y1
    have HW:=hid hW
    rw [hW]
    have mixed:=Tryz.mixed
    clear hx hy g1 g2 fx fy tx ty hW
    by_cases hst:x.name=y.name
    ·obtain ⟨nm,hnm⟩:∃nm,y.name=nm:=⟨_,rfl⟩
     rw [hst,hnm] at x0
     rw [hnm] at y0
     have HN:Hid (x.name=nm∧y.name=nm):=⟨hst.trans hnm,hnm⟩
     clear hst hnm
     by_cases hts:x.txt=y.txt
     ·have hd:=decide_eq_true hts
      have HTS:=hid hts
      rw [hd] at HC
      clear hd hts
      go_wp2_with fail
      refine wp_region_quiet_lit mixed (by kernel_rfl) ?_
      repeat (go_big_quiet_step (first|(go_at_call 45;refine Calls.quiet_of (HC.out _))))
      refine wpQuiet_nil ?_
      intro _ hw'
      obtain ⟨nq,hw''⟩:=hw'
      subst hw''
      go_wp2_with fail
      go_roundg (d.length-(i+1))
      case measure=>omega
      refine ⟨i+1,m+nq,by go_num,by omega,by omega,by rw [←HW.out,World.drewN_drewN],fun j hj=>?_⟩
      by_cases ej:j=i
      ·subst ej
       rw [G1.out,G2.out]
       unfold Fx.fld
       rw [HN.out.1,HN.out.2,HTS.out]
      ·exact HJ.out j (by omega)
     ·have hd:=decide_eq_false hts
      rw [hd] at HC
      have H0:Hid (r=false):=HR.out.symm.trans (decide_eq_false fun ee=>hts (by
       have:=G1.out
       rw [ee,G2.out] at this
       have:=congrArg Prod.snd (Option.some.inj this)
       exact this.symm))
      clear hd hts
      go_wp2_with fail
      refine wp_region_quiet_lit mixed (by kernel_rfl) ?_
      repeat (go_big_quiet_step (first|(go_at_call 45;refine Calls.quiet_of (HC.out _))))
      refine wpQuiet_nil ?_
      intro _ hw'
      obtain ⟨nq,hw''⟩:=hw'
      subst hw''
      go_wp2_with fail
      go_ret
      exact ⟨ret_bool H0.out.symm,m+nq,by rw [←HW.out,World.drewN_drewN]⟩
    ·have hne:=str_ne hst
     have H0:Hid (r=false):=HR.out.symm.trans (decide_eq_false fun ee=>hst (by
      have:=G1.out
      rw [ee,G2.out] at this
      have:=congrArg Prod.fst (Option.some.inj this)
      exact this.symm))
     go_wp2_with fail
     refine wp_region_quiet_lit mixed (by kernel_rfl) ?_
     repeat (go_big_quiet_step (first|(go_at_call 45;refine Calls.quiet_of (HC.out _))))
     refine wpQuiet_nil ?_
     intro _ hw'
     obtain ⟨nq,hw''⟩:=hw'
     subst hw''
     go_wp2_with fail
     go_ret
     exact ⟨ret_bool H0.out.symm,m+nq,by rw [←HW.out,World.drewN_drewN]⟩
   ·have hltz:¬ (i:Int)<(d.length:Int):=by omega
    have H0:Hid (r=true):=HR.out.symm.trans (decide_eq_true (List.ext_getElem? fun j=>by
     by_cases hj:j<d.length
     ·exact HJ.out j (by omega)
     ·rw [List.getElem?_eq_none (by simp;omega),List.getElem?_eq_none (by have:=HL.out;simp;omega)]))
    go_wp2_with fail
    go_ret
    exact ⟨ret_bool H0.out.symm,_,rfl⟩
 ·have hb:((d.length:Int) != (e.length:Int))=true:=by simp;omega
  have H0:Hid (r=false):=HR.out.symm.trans (decide_eq_false fun ee=>hl (by have:=congrArg List.length ee;simpa using this))
  go_enter Tryz.func21,Tryz.ntmps21
  go_wp2_with fail
  go_ret
  exact ⟨ret_bool H0.out.symm,0,rfl⟩
end
section
open Go.RowKit Go.Lib
def codeF (fs:List Fld):Int:=if fs.any misB then 2 else if (normF fs).any bareB then 3 else if mayB (normF fs) then 0 else 5
def ansF (fs:List Fld):List Fld:=if codeF fs=0 then normF fs else []
theorem codeF_zero {fs:List Fld} (h:codeF fs=0):fs.any misB=false∧(normF fs).any bareB=false∧mayB (normF fs)=true:=by
 unfold codeF at h
 cases h1:fs.any misB with
 | true=>rw [h1] at h;simp at h
 | false =>
  cases h2:(normF fs).any bareB with
  | true=>rw [h1,h2] at h;simp at h
  | false =>
   cases h3:mayB (normF fs) with
   | true=>exact ⟨rfl,rfl,rfl⟩
   | false=>rw [h1,h2,h3] at h;simp at h
theorem may_fit {d:List Fx} {fs:List Fld} (hmay:mayB fs=true) (hm:d.map Fx.fld=fs):FitX d:=by
 have hl:=(may_parts hmay).1
 refine ⟨?_,fun x hx=>?_⟩
 ·rw [←hm,List.length_map] at hl
  unfold maxLen;omega
 ·have hx':x.fld∈fs:=by rw [←hm];exact List.mem_map.2 ⟨x,hx,rfl⟩
  obtain ⟨h1,_,h3,h4,_⟩:=fits_parts (may_fits hmay _ hx')
  refine ⟨?_,?_,fun t ht=>?_⟩
  ·unfold maxLen;omega
  ·unfold maxLen;omega
  ·have:=h4 t ht;unfold maxLen;omega
theorem ans_fit {d:List Fx} {fs:List Fld} (hm:d.map Fx.fld=ansF fs):FitX d:=by
 unfold ansF at hm
 split at hm
 ·rename_i h
  exact may_fit (codeF_zero h).2.2 hm
 ·rw [List.map_eq_nil_iff] at hm
  subst hm
  exact ⟨by unfold maxLen;simp,fun x hx=>by simp at hx⟩
def NPost (w:World) (fs:List Fld) (e:Ending) (w':World):Prop :=
 (∃u o,e=.returned (.tuple #[u,.int .i64 (codeF fs)])∧OwnXs w.heap.size w' u o∧o.map Fx.fld=ansF fs)∧Below w.heap.size w w'
theorem own_none (N:Nat) (w:World):OwnXs N w (.slice none 0 0) []:=⟨World.ownsRow_nil _ _ _ _,fun x hx=>by simp at hx⟩
theorem ansPlain {N : Nat} {fs : List Fld} {e : Ending} {w' : World}
    (h : (fs.any misB = true ∧ e = .returned (.tuple #[.slice none 0 0, .int .i64 2])) ∨
    (fs.any misB = false ∧
     (((normF fs).any bareB = true ∧ e = .returned (.tuple #[.slice none 0 0, .int .i64 3])) ∨
      ((normF fs).any bareB = false ∧ mayB (normF fs) = false ∧ e = .returned (.tuple #[.slice none 0 0, .int .i64 5])) ∨
      ((normF fs).any bareB = false ∧ mayB (normF fs) = true ∧ ∃ u o, e = .returned (.tuple #[u, .int .i64 0]) ∧ OwnXs N w' u o ∧ o.map Fx.fld = normF fs)))) :
    ∃ u o, e = .returned (.tuple #[u, .int .i64 (codeF fs)]) ∧ OwnXs N w' u o ∧ o.map Fx.fld = ansF fs := by
  rcases h with ⟨h1, rfl⟩ | ⟨h1, ⟨h2, rfl⟩ | ⟨h2, h3, rfl⟩ | ⟨h2, h3, u, o, rfl, ho, hm⟩⟩
  · have hc : codeF fs = 2 := by unfold codeF; rw [h1]; rfl
    exact ⟨_, [], by rw [hc], own_none _ _, by unfold ansF; rw [hc]; rfl⟩
  · have hc : codeF fs = 3 := by unfold codeF; rw [h1, h2]; rfl
    exact ⟨_, [], by rw [hc], own_none _ _, by unfold ansF; rw [hc]; rfl⟩
  · have hc : codeF fs = 5 := by unfold codeF; rw [h1, h2, h3]; rfl
    exact ⟨_, [], by rw [hc], own_none _ _, by unfold ansF; rw [hc]; rfl⟩
  · have hc : codeF fs = 0 := by unfold codeF; rw [h1, h2, h3]; rfl
    exact ⟨u, o, by rw [hc], ho, by unfold ansF; rw [hc]; exact hm⟩
theorem rnorm_plain (v:Value) (d:List Fx) (w:World) (hv:IsXs w v d) (hf:FitX d) (hl:d.length * 40≤140737488355328) (htot:totF (d.map Fx.fld) * 16≤140737488355328) :
  Calls Tryz.prog 122 #[v] w fun e w'=>NPost w (d.map Fx.fld) e w' :=
 (rnorm_any v d w hv hf hl htot).mono fun _ _ h=>⟨ansPlain h.1,h.2⟩
end
section
open Go.RowKit
theorem firstP_plain {c:UInt8} {r:List UInt8} (h:plainB (c.toNat:Int)=true):firstP (c::r)=some (c,1):=by
 simp [firstP,h]
theorem firstP_sign {c:UInt8} {r:List UInt8} (h:plainB (c.toNat:Int)=false) (h2:c≠37):firstP (c::r)=none:=by
 simp [firstP,h,h2]
theorem pct_plain:plainB 37=false:=by decide
theorem firstP_short {r:List UInt8} (h:r.length<2):firstP (37::r)=none:=by
 match r,h with
 | [],_=>simp [firstP,pct_plain]
 | [_],_=>simp [firstP,pct_plain]
theorem firstP_hex {a b:UInt8} {r:List UInt8}:firstP (37::a::b::r)=if hexN a=16∨hexN b=16 then none else if plainB ((UInt8.ofNat (16 * hexN a+hexN b)).toNat:Int) then none else some (UInt8.ofNat (16 * hexN a+hexN b),3):=by
 have e:firstP (37::a::b::r)=if hexv a<0∨hexv b<0 then none else
   if plainB ((UInt8.ofNat (16 * (hexv a).toNat+(hexv b).toNat)).toNat:Int) then none else some (UInt8.ofNat (16 * (hexv a).toNat+(hexv b).toNat),3):=by
  simp [firstP,pct_plain]
 rw [e,hexN_eq a,hexN_eq b]
 by_cases ha:hexN a=16
 ·rw [if_pos (Or.inl (by rw [if_pos ha];decide)),if_pos (Or.inl ha)]
 ·by_cases hb:hexN b=16
  ·rw [if_pos (Or.inr (by rw [if_pos hb];decide)),if_pos (Or.inr hb)]
  ·rw [if_neg (show ¬ (hexN a=16∨hexN b=16) by omega),if_neg (show ¬ ((if hexN a=16 then (-1:Int) else (hexN a:Int))<0∨(if hexN b=16 then (-1:Int) else (hexN b:Int))<0) by rw [if_neg ha,if_neg hb];omega),if_neg ha,if_neg hb,Int.toNat_natCast,Int.toNat_natCast]
theorem drop_at (s:ByteArray) (i:Nat) (h:i<s.size):s.data.toList.drop i=s[i]::s.data.toList.drop (i+1):=by
 rw [List.drop_eq_getElem_cons (by simpa using h)]
 rfl
def RrSt (w:World) (s:ByteArray) (i:Nat) (vb:Value) (wr:World):Prop :=
 ∃acc,OwnB w.heap.size wr vb acc∧acc.length≤i∧readL s.data.toList=(readL (s.data.toList.drop i)).map (acc ++ ·)∧Below w.heap.size w wr
theorem rr_next {s:ByteArray} {i n:Nat} {c:UInt8} {acc:List UInt8} (h:readL s.data.toList=(readL (s.data.toList.drop i)).map (acc ++ ·)) (hf:firstP (s.data.toList.drop i)=some (c,n)) :
  readL s.data.toList=(readL (s.data.toList.drop (i+n))).map ((acc++[c]) ++ ·):=by
 rw [h,readL_some hf,List.drop_drop,Option.map_map]
 congr 1
 funext x
 simp
theorem rr_no {s:ByteArray} {i:Nat} {acc:List UInt8} (hi:i<s.size) (h:readL s.data.toList=(readL (s.data.toList.drop i)).map (acc ++ ·)) (hf:firstP (s.data.toList.drop i)=none):readL s.data.toList=none:=by
 rw [h,readL_none (by rw [drop_at s i hi];simp) hf]
 rfl
set_option maxHeartbeats 4000000 in
set_option maxRecDepth 100000 in
theorem rread_any (s:ByteArray) (w:World) (hs:s.size≤140737488355327) :
  Calls Tryz.prog 121 #[.string s] w fun e w'=>e=.returned (readV (readL s.data.toList))∧Below w.heap.size w w':=by
 obtain ⟨i0,hi0,hz0,hz1,hz2⟩:=info_parts Tryz.infoByte
 have HI:=hid hi0
 clear hi0
 have mixed:=Tryz.mixed
 obtain ⟨res,hres⟩:∃res,readL s.data.toList=res:=⟨_,rfl⟩
 rw [hres]
 have HRES:=hid hres
 clear hres
 go_enter Tryz.func121,Tryz.ntmps121
 go_wp2_with fail
 go_loopg [4,5] s.size (fun g vb vi wr=>∃i:Nat,vi=.int .i64 i∧i≤s.size∧s.size-i≤g∧RrSt w s i vb wr)
 case atStart=>exact ⟨0,rfl,by omega,by omega,[],World.ownsRow_nil _ _ _ _,by simp,by simp,Below.refl _ _⟩
 case round =>
  obtain ⟨i,rfl,hi,hgk,acc,hob,hal,hrd,hb⟩:=hrel
  have hszr:=hb.size
  have HOB:=hid hob
  have HB:=hid hb
  have HRD:=hid hrd
  by_cases hlt:i<s.size
  ·have hltz:(i:Int)<(s.size:Int):=by omega
   have hiz:(0:Int)≤i:=by omega
   have hdr:=drop_at s i hlt
   obtain ⟨c,hc⟩:∃c,s[i]=c:=⟨_,rfl⟩
   rw [hc] at hdr
   have HDR:=hid hdr
   have hc256:=c.toNat_lt
   clear hob hb hrd hdr
   cases hp:plainB (c.toNat:Int) with
   | true =>
    have HN:Hid (readL s.data.toList=(readL (s.data.toList.drop (i+1))).map ((acc++[c]) ++ ·)):=rr_next HRD.out (by rw [HDR.out];exact firstP_plain hp)
    have HPL:Hid (∀W,Calls Tryz.prog 136 #[.int .u8 (c.toNat:Nat)] W fun e w'=>e=.returned (.bool true)∧w'=W):=fun W=>by have:=rplain_any (c.toNat:Int) W;rw [hp] at this;exact this
    clear hp
    go_wp2_with (first|(go_at_call 136;refine (HPL.out _).mono ?_;rintro e w1 ⟨rfl,rfl⟩)|(at_builtin;refine wpList_append_own _ rfl _ _ 89 rfl w.heap.size 5 i0 (.int .u8 0) 1 1 Tryz.underlying89 HI.out hz0 hz1 hz2 rfl (by decide) _ _ _ rfl (World.ownsRow.alloc HOB.out _) ⟨w1.heap.size,0,none⟩ 1 1 [.int .u8 (c.toNat:Int)] rfl rfl (new_byte _ _) (one_byte _) (by unfold maxLen;omega) (by omega) (by simp;omega) ?_))
    intro v3 w3 hown3 hg3 _
    have hob3:OwnB w.heap.size w3 v3 (acc++[c]):=ownB_put hown3 rfl rfl
    have hb3:Below w.heap.size w w3:=(HB.out.alloc (by omega) _).grown hg3 (by simp;omega) (fun k hk=>(World.ownsRow.lt HOB.out k hk).1)
    have HOB3:=hid hob3
    have HB3:=hid hb3
    clear hown3 hg3 hob3 hb3
    go_wp2_with fail
    go_roundg (s.size-(i+1))
    case measure=>omega
    exact ⟨i+1,by go_num,by omega,by omega,acc++[c],HOB3.out,by simp;omega,HN.out,HB3.out⟩
   | false =>
    have HPL:Hid (∀W,Calls Tryz.prog 136 #[.int .u8 (c.toNat:Nat)] W fun e w'=>e=.returned (.bool false)∧w'=W):=fun W=>by have:=rplain_any (c.toNat:Int) W;rw [hp] at this;exact this
    by_cases h37:c=37
    ·subst h37
     by_cases hsh:s.size-i<3
     ·have hshz:decide ((s.size:Int)-(i:Int)<3)=true:=decide_eq_true (by omega)
      have HN:Hid (res=none):=HRES.out.symm.trans (rr_no hlt HRD.out (by rw [HDR.out];exact firstP_short (by simp;omega)))
      go_wp2_with (first|(go_at_call 136;refine (HPL.out _).mono ?_;rintro e w1 ⟨rfl,rfl⟩))
      refine wp_region_quiet_lit mixed (by kernel_rfl) ?_
      repeat (go_big_quiet_step (first|(go_at_call 168;refine Calls.quiet_of_same (rhex_any _ _))|(go_at_call 136;refine Calls.quiet_of_same (rplain_any _ _))))
      refine wpQuiet_nil ?_
      intro _ hw'
      obtain ⟨nq,hw''⟩:=hw'
      subst hw''
      go_wp2_with fail
      go_ret2
      rw [HN.out]
      exact ⟨rfl,bel_drewN HB.out _⟩
     ·have hshz:decide ((s.size:Int)-(i:Int)<3)=false:=decide_eq_false (by omega)
      have hd1:=drop_at s (i+1) (by omega)
      have hd2:=drop_at s (i+1+1) (by omega)
      obtain ⟨a,ha⟩:∃a,s[i+1]'(by omega)=a:=⟨_,rfl⟩
      obtain ⟨b,hb⟩:∃b,s[i+1+1]'(by omega)=b:=⟨_,rfl⟩
      rw [ha] at hd1
      rw [hb] at hd2
      have hb2:s[i+2]'(by omega)=b:=hb
      have i1:(0:Int)≤(i:Int)+1:=by omega
      have i2:(i:Int)+1<(s.size:Int):=by omega
      have i3:(0:Int)≤(i:Int)+2:=by omega
      have i4:(i:Int)+2<(s.size:Int):=by omega
      have hal16:=hexN_le a
      have hbl16:=hexN_le b
      have hdd:s.data.toList.drop i=37::a::b::s.data.toList.drop (i+3):=by rw [HDR.out,hd1,hd2]
      have HDD:=hid hdd
      clear hd1 hd2 hdd
      by_cases hxa:hexN a=16
      ·have da:decide ((15:Int)<(hexN a:Int))=true:=decide_eq_true (by omega)
       have HN:Hid (res=none):=HRES.out.symm.trans (rr_no hlt HRD.out (by rw [HDD.out,firstP_hex,if_pos (Or.inl hxa)]))
       clear hxa
       go_wp2_with (first|(go_at_call 136;refine (HPL.out _).mono ?_;rintro e w1 ⟨rfl,rfl⟩))
       refine wp_region_quiet_lit mixed (by kernel_rfl) ?_
       repeat (go_big_quiet_step (first|(go_at_call 168;refine Calls.quiet_of_same (rhex_any _ _))|(go_at_call 136;refine Calls.quiet_of_same (rplain_any _ _))))
       refine wpQuiet_nil ?_
       intro _ hw'
       obtain ⟨nq,hw''⟩:=hw'
       subst hw''
       go_wp2_with fail
       go_ret2
       rw [HN.out]
       exact ⟨rfl,bel_drewN HB.out _⟩
      have da:decide ((15:Int)<(hexN a:Int))=false:=decide_eq_false (by omega)
      by_cases hxb:hexN b=16
      ·have db:decide ((15:Int)<(hexN b:Int))=true:=decide_eq_true (by omega)
       have HN:Hid (res=none):=HRES.out.symm.trans (rr_no hlt HRD.out (by rw [HDD.out,firstP_hex,if_pos (Or.inr hxb)]))
       clear hxb
       go_wp2_with (first|(go_at_call 136;refine (HPL.out _).mono ?_;rintro e w1 ⟨rfl,rfl⟩))
       refine wp_region_quiet_lit mixed (by kernel_rfl) ?_
       repeat (go_big_quiet_step (first|(go_at_call 168;refine Calls.quiet_of_same (rhex_any _ _))|(go_at_call 136;refine Calls.quiet_of_same (rplain_any _ _))))
       refine wpQuiet_nil ?_
       intro _ hw'
       obtain ⟨nq,hw''⟩:=hw'
       subst hw''
       go_wp2_with fail
       go_ret2
       rw [HN.out]
       exact ⟨rfl,bel_drewN HB.out _⟩
      have db:decide ((15:Int)<(hexN b:Int))=false:=decide_eq_false (by omega)
      have hsum:((UInt8.ofNat (16 * hexN a+hexN b)).toNat:Int)=(hexN a:Int) * 16+(hexN b:Int):=by
       rw [UInt8.toNat_ofNat'];omega
      have HSU:=hid hsum
      have HFP:Hid (firstP (s.data.toList.drop i)=if plainB ((hexN a:Int) * 16+(hexN b:Int))=true then none else some (UInt8.ofNat (16 * hexN a+hexN b),3)):=by
       show _=_
       rw [HDD.out,firstP_hex,if_neg (by omega),hsum]
      clear hsum
      cases hq:plainB ((hexN a:Int) * 16+(hexN b:Int)) with
      | true =>
       have HN:Hid (res=none):=HRES.out.symm.trans (rr_no hlt HRD.out (by rw [HFP.out,if_pos hq]))
       go_wp2_with (first|(go_at_call 136;refine (HPL.out _).mono ?_;rintro e w1 ⟨rfl,rfl⟩))
       refine wp_region_quiet_lit mixed (by kernel_rfl) ?_
       repeat (go_big_quiet_step (first|(go_at_call 168;refine Calls.quiet_of_same (rhex_any _ _))|(go_at_call 136;refine Calls.quiet_of_same (rplain_any _ _))))
       refine wpQuiet_nil ?_
       intro _ hw'
       obtain ⟨nq,hw''⟩:=hw'
       subst hw''
       go_wp2_with fail
       go_ret2
       rw [HN.out]
       exact ⟨rfl,bel_drewN HB.out _⟩
      | false =>
       have HN:Hid (readL s.data.toList=(readL (s.data.toList.drop (i+3))).map ((acc++[UInt8.ofNat (16 * hexN a+hexN b)]) ++ ·)):=rr_next HRD.out (by rw [HFP.out,hq];rfl)
       go_wp2_with (first|(go_at_call 136;refine (HPL.out _).mono ?_;rintro e w1 ⟨rfl,rfl⟩))
       refine wp_region_quiet_lit mixed (by kernel_rfl) ?_
       repeat (go_big_quiet_step (first|(go_at_call 168;refine Calls.quiet_of_same (rhex_any _ _))|(go_at_call 136;refine Calls.quiet_of_same (rplain_any _ _))))
       refine wpQuiet_nil ?_
       intro _ hw'
       obtain ⟨nq,hw''⟩:=hw'
       subst hw''
       go_wp2_with fail
       obtain ⟨W2,hW2⟩:∃W2,w1.drewN nq=W2:=⟨_,rfl⟩
       have hb2W:Below w.heap.size w W2:=by rw [←hW2];exact bel_drewN HB.out _
       have hob2:OwnB w.heap.size W2 u4 acc:=by rw [←hW2];exact HOB.out
       have hszW:=hb2W.size
       have HBW:=hid hb2W
       have HOW:=hid hob2
       rw [hW2]
       clear hW2 hb2W hob2
       have x1:IntKind.i64.wrap ((i:Int)+1)=(i:Int)+1:=by simp [IntKind.wrap,IntKind.signed,IntKind.bits];omega
       have x2:IntKind.i64.wrap ((i:Int)+2)=(i:Int)+2:=by simp [IntKind.wrap,IntKind.signed,IntKind.bits];omega
       have x3:((i:Int)+1).toNat=i+1:=by omega
       have x4:((i:Int)+2).toNat=i+2:=by omega
       have x5:IntKind.u8.wrap ((hexN a:Int) * 16)=(hexN a:Int) * 16:=wrap_byte _ (by omega)
       have x6:IntKind.u8.wrap ((hexN a:Int) * 16+(hexN b:Int))=(hexN a:Int) * 16+(hexN b:Int):=wrap_byte _ (by omega)
       go_region_law (first
        | (refine step_append_lies _ (by rfl) (.tmp 12) (.tmp 25) 89 (by rfl) w.heap.size 5 i0 (.int .u8 0) 1 1 Tryz.underlying89 HI.out hz0 hz1 hz2 rfl (by decide) u4 acc.length (Lib.byteCells acc) (by rfl) (World.ownsRow.alloc (w:=W2.drew) HOW.out _) _ 1 1 [.int .u8 ((hexN a:Int) * 16+(hexN b:Int))] (by rfl) rfl (new_byte _ _) (one_byte _) (by decide) (by unfold maxLen;omega) (by omega) (by simp;omega) _ rfl ?_;intro g4 cap4 w4 hown4 hg4 _ _)
        | (go_simp;go_at_call 168;refine (rhex_any _ _).mono ?_;rintro o w2 ⟨rfl,rfl⟩))
       all_goals
        have hob4:OwnB w.heap.size w4 (.slice (some ⟨g4,0,none⟩) (acc.length+1) cap4) (acc++[UInt8.ofNat (16 * hexN a+hexN b)]):=ownB_put hown4 rfl HSU.out
        have hb4:Below w.heap.size w w4:=((bel_drewN HBW.out 1).alloc hszW _).grown hg4 (by have h1:w.heap.size≤(W2.drewN 1).heap.size:=hszW;simp;omega) (fun k hk=>(World.ownsRow.lt HOW.out k hk).1)
        have HOB4:=hid hob4
        have HB4:=hid hb4
        clear hown4 hg4 hob4 hb4
        go_wp2_with fail
        go_roundg (s.size-(i+3))
        case measure=>omega
        exact ⟨i+3,by go_num,by omega,by omega,_,HOB4.out,by simp;omega,HN.out,HB4.out⟩
    ·have hcne:((c.toNat:Int) != 37)=true:=by
      rw [bne_iff_ne]
      intro e
      apply h37
      have:c.toNat=37:=by omega
      exact UInt8.toNat_inj.1 this
     have HN:Hid (res=none):=HRES.out.symm.trans (rr_no hlt HRD.out (by rw [HDR.out];exact firstP_sign hp h37))
     go_wp2_with (first|(go_at_call 136;refine (HPL.out _).mono ?_;rintro e w1 ⟨rfl,rfl⟩))
     refine wp_region_quiet_lit mixed (by kernel_rfl) ?_
     repeat (go_big_quiet_step (first|(go_at_call 168;refine Calls.quiet_of_same (rhex_any _ _))|(go_at_call 136;refine Calls.quiet_of_same (rplain_any _ _))))
     refine wpQuiet_nil ?_
     intro _ hw'
     obtain ⟨nq,hw''⟩:=hw'
     subst hw''
     go_wp2_with fail
     go_ret2
     rw [HN.out]
     exact ⟨rfl,bel_drewN HB.out _⟩
  ·have hltz:¬ (i:Int)<(s.size:Int):=by omega
   have hres2:res=some acc:=by
    rw [←HRES.out,hrd,List.drop_of_length_le (by simp;omega),readL_nil]
    simp
   have HR2:=hid hres2
   have kc:=conv_any (ownB_rest hob)
   clear hob hrd hres2
   go_wp2_with fail
   go_ret2
   rw [HR2.out]
   exact ⟨rfl,hb⟩
end
section
open Go.RowKit
theorem hexd_table:((List.range 16).all fun k=>decide (hexN (hexd k)=k))=true:=by decide
theorem hexN_hexd {k:Nat} (h:k<16):hexN (hexd k)=k:=by
 have:=List.all_eq_true.1 hexd_table k (List.mem_range.2 h)
 exact of_decide_eq_true this
theorem read_write (l:List UInt8):readL (writeL l)=some l:=by
 induction l with
 | nil=>exact readL_nil
 | cons c l ih =>
  rw [writeL_cons]
  cases hp:plainB (c.toNat:Int) with
  | true =>
   have e:writeC c=[c]:=by unfold writeC;rw [if_pos hp]
   rw [e,List.cons_append,List.nil_append,readL_some (firstP_plain hp)]
   show (readL (writeL l)).map _=_
   rw [ih];rfl
  | false =>
   have e:writeC c=[37,hexd (c.toNat / 16),hexd (c.toNat % 16)]:=by unfold writeC;rw [hp];rfl
   have hc:=c.toNat_lt
   have h1:hexN (hexd (c.toNat / 16))=c.toNat / 16:=hexN_hexd (by omega)
   have h2:hexN (hexd (c.toNat % 16))=c.toNat % 16:=hexN_hexd (by omega)
   have hs:UInt8.ofNat (16 * (c.toNat / 16)+c.toNat % 16)=c:=by
    rw [show 16 * (c.toNat / 16)+c.toNat % 16=c.toNat by omega,UInt8.ofNat_toNat]
   have hf:firstP (37::hexd (c.toNat / 16)::hexd (c.toNat % 16)::writeL l)=some (c,3):=by
    rw [firstP_hex,h1,h2,if_neg (by omega),hs,if_neg (by rw [hp];simp)]
   rw [e]
   show readL (37::hexd (c.toNat / 16)::hexd (c.toNat % 16)::writeL l)=_
   rw [readL_some hf]
   show (readL (writeL l)).map _=_
   rw [ih];rfl
end
section
open Go.RowKit Go.Lib
theorem ix_here {a b:List UInt8} {c:UInt8} (h:c ∉ a):Lib.indexByte (a++c::b) c=(a.length:Int):=by
 rcases ix_cases (a++c::b) c with ⟨_,h2⟩|⟨i,h1,h2,h3,h4⟩
 ·exact absurd (by simp) h2
 ·have h5:=ix_split _ c i h2 h3
  have:=(ix_uniq h5 h h4).1
  rw [h1,this,List.length_take]
  omega
theorem ix_none {a:List UInt8} {c:UInt8} (h:c ∉ a):Lib.indexByte a c=-1:=by
 rcases ix_cases a c with ⟨h1,_⟩|⟨i,_,h2,h3,_⟩
 ·exact h1
 ·exact absurd (List.mem_of_getElem? h3) h
theorem split_join:∀ws:List (List UInt8),ws≠[]→(∀w∈ws,(32:UInt8) ∉ w)→splitL (Lib.join ws [32])=ws
 | [],h,_=>absurd rfl h
 | [w],_,h=>by
  rw [Lib.join_one]
  exact splitL_no (ix_none (h w (by simp)))
 | w::v::ws,_,h=>by
  have ih:=split_join (v::ws) (by simp) (fun x hx=>h x (by simp [hx]))
  rw [join_two,splitL_yes (ix_here (h w (by simp)))]
  rw [List.take_left' rfl]
  congr 1
  rw [show w++32::Lib.join (v::ws) [32]=(w++[32])++Lib.join (v::ws) [32] by simp,List.drop_left' (by simp)]
  exact ih
theorem noblank_mem {l:List UInt8} (h:blanks l=0):(32:UInt8) ∉ l:=by
 intro hm
 have:=List.countP_eq_zero.1 h 32 hm
 simp at this
theorem field_noeq {l:List UInt8} (h:fieldB l=true):(61:UInt8) ∉ l:=by
 intro hc
 unfold fieldB spell at h
 cases l with
 | nil=>simp at hc
 | cons x r =>
  simp only [Bool.and_eq_true,List.all_eq_true] at h
  have key:lodB ((61:UInt8).toNat:Int)=true∨smallB ((61:UInt8).toNat:Int)=true:=by
   rcases List.mem_cons.1 hc with e|hc
   ·exact Or.inr (by rw [e];exact h.1.2)
   ·exact Or.inl (h.2 _ hc)
  rcases key with k|k
  ·revert k;decide
  ·revert k;decide
theorem word_back {n t:ByteArray} (h:fieldB n.data.toList=true):wordO (wordOf n t).data.toList=some (n.data.toList,t.data.toList):=by
 rw [word_data,List.append_assoc,List.singleton_append]
 have e:=ix_here (b:=writeL t.data.toList) (field_noeq h)
 unfold wordO
 rw [e,if_neg (by omega),Int.toNat_natCast,List.take_left' rfl]
 rw [show n.data.toList++61::writeL t.data.toList=(n.data.toList++[61])++writeL t.data.toList by simp,List.drop_left' (by simp),read_write]
 rfl
def singles (fs:List Fld):List Fld:=fs.flatMap fun f=>f.2.map fun t=>(f.1,[t])
theorem ba_back (b:ByteArray):(⟨b.data.toList.toArray⟩:ByteArray)=b:=by obtain ⟨⟨l⟩⟩:=b;rfl
theorem words_back (fs:List Fld) (h:∀f∈fs,fieldB f.1.data.toList=true):fieldsW ((wordsL fs).map (·.data.toList))=some (singles fs):=by
 induction fs with
 | nil=>rfl
 | cons f fs ih =>
  have hf:=h f (by simp)
  have ih:=ih fun g hg=>h g (by simp [hg])
  have e1:fieldsW ((wordsF f).map (·.data.toList))=some (f.2.map fun t=>(f.1,[t])):=by
   unfold wordsF
   generalize f.2=ts
   induction ts with
   | nil=>rfl
   | cons t ts iht =>
    simp only [List.map_cons,fieldsW]
    rw [word_back hf]
    simp only
    rw [iht,ba_back,ba_back]
    rfl
  unfold wordsL at ih ⊢
  rw [List.flatMap_cons,List.map_append,fieldsW_append,e1,ih]
  rfl
theorem single_filter (f:Fld) (c:ByteArray):((f.2.map fun t=>((f.1,[t]):Fld)).filter fun x=>decide (x.1=c)).flatMap (·.2)=if f.1=c then f.2 else []:=by
 obtain ⟨n,ts⟩:=f
 simp only
 by_cases e:n=c
 ·rw [if_pos e,List.filter_eq_self.2 (fun x hx=>by obtain ⟨t,_,rfl⟩:=List.mem_map.1 hx;simp [e])]
  induction ts with
  | nil=>rfl
  | cons t ts ih=>rw [List.map_cons,List.flatMap_cons,ih];rfl
 ·rw [if_neg e,List.filter_eq_nil_iff.2 (fun x hx=>by obtain ⟨t,_,rfl⟩:=List.mem_map.1 hx;simp [e])]
  rfl
theorem txt_singles (fs:List Fld) (c:ByteArray):txtOf (singles fs) c=txtOf fs c:=by
 induction fs with
 | nil=>rfl
 | cons f fs ih =>
  unfold txtOf singles at *
  rw [List.flatMap_cons,List.filter_append,List.flatMap_append,single_filter,ih]
  by_cases e:f.1=c
  ·rw [if_pos e,List.filter_cons_of_pos (by simp [e]),List.flatMap_cons]
  ·rw [if_neg e,List.filter_cons_of_neg (by simp [e]),List.nil_append]
theorem may_rising {fs:List Fld} (h:mayB fs=true):Rising fs:=by
 have hs:=(may_parts h).2
 have step:∀i,(hi:i+1<fs.length)→ltB (fs[i]).1 (fs[i+1]).1=true:=fun i hi=>by
  have:=hs (i+1) hi
  unfold stepOk at this
  rw [Bool.and_eq_true,Bool.or_eq_true] at this
  rcases this.2 with h|h
  ·have:=of_decide_eq_true h;omega
  ·rw [ltN_eq,Nat.add_sub_cancel,List.getD_eq_getElem?_getD,List.getD_eq_getElem?_getD,List.getElem?_eq_getElem hi,List.getElem?_eq_getElem (show i<fs.length by omega)] at h
   exact h
 refine List.pairwise_iff_getElem.2 fun i j hi hj hij=>?_
 induction j with
 | zero=>omega
 | succ j ih =>
  by_cases e:i=j
  ·subst e;exact step i hj
  ·exact ltB_trans (ih (by omega) (by omega)) (step j hj)
theorem rising_txt {fs:List Fld} (h:Rising fs):∀f∈fs,f.2=txtOf fs f.1:=by
 intro f hf
 obtain ⟨a,b,rfl⟩:=List.append_of_mem hf
 have hr:=List.pairwise_append.1 h
 have hr2:=List.pairwise_cons.1 hr.2.1
 have ha:a.filter (fun x=>decide (x.1=f.1))=[]:=List.filter_eq_nil_iff.2 fun x hx e=>ltB_ne (hr.2.2 x hx f (by simp)) (by simpa using e)
 have hb:b.filter (fun x=>decide (x.1=f.1))=[]:=List.filter_eq_nil_iff.2 fun x hx e=>ltB_ne (hr2.1 x hx) (Eq.symm (of_decide_eq_true e))
 unfold txtOf
 rw [List.filter_append,ha,List.filter_cons_of_pos (by simp),hb]
 simp
theorem groups_singles {fs:List Fld} (h:Rising fs) (hne:∀f∈fs,f.2≠[]):Groups (singles fs) fs:=by
 refine ⟨h,fun c=>⟨?_,?_⟩,fun f hf=>?_⟩
 ·rintro ⟨f,hf,rfl⟩
  cases ht:f.2 with
  | nil=>exact absurd ht (hne f hf)
  | cons t ts=>exact ⟨(f.1,[t]),List.mem_flatMap.2 ⟨f,hf,List.mem_map.2 ⟨t,by rw [ht];simp,rfl⟩⟩,rfl⟩
 ·rintro ⟨x,hx,rfl⟩
  obtain ⟨f,hf,hx⟩:=List.mem_flatMap.1 hx
  obtain ⟨t,_,rfl⟩:=List.mem_map.1 hx
  exact ⟨f,hf,rfl⟩
 ·rw [txt_singles];exact rising_txt h f hf
theorem fits_ne {f:Fld} (h:fitsB f=true):f.2≠[]:=fun e=>by
 have:=(fits_parts h).2.1
 rw [e] at this;simp at this
theorem may_nobare {fs:List Fld} (h:mayB fs=true):fs.any bareB=false:=by
 rw [List.any_eq_false]
 intro f hf hb
 exact fits_ne (may_fits h f hf) (List.isEmpty_iff.1 hb)
def fieldsP (l:List UInt8):Option (List Fld):=if l=[] then some [] else fieldsW (splitL l)
def codeP (l:List UInt8):Int:=match fieldsP l with
 | none=>4
 | some fs=>codeF fs
def ansP (l:List UInt8):List Fld:=match fieldsP l with
 | none=>[]
 | some fs=>ansF fs
theorem norm_singles {fs:List Fld} (h:mayB fs=true):codeF (singles fs)=0∧ansF (singles fs)=fs:=by
 have hn:normF (singles fs)=fs:=groups_unique (normF_groups _) (groups_singles (may_rising h) fun f hf=>fits_ne (may_fits h f hf))
 have hm:(singles fs).any misB=false:=by
  rw [List.any_eq_false]
  intro x hx
  obtain ⟨f,hf,hx⟩:=List.mem_flatMap.1 hx
  obtain ⟨t,_,rfl⟩:=List.mem_map.1 hx
  have:=(fits_parts (may_fits h f hf)).2.2.2.2
  simp [misB,this]
 have hc:codeF (singles fs)=0:=by unfold codeF;rw [hm,hn,may_nobare h,h];rfl
 exact ⟨hc,by unfold ansF;rw [hc,hn];rfl⟩
theorem codeF_nil:codeF []=0:=by decide
theorem ansF_nil:ansF []=[]:=by decide
def PPost (w:World) (l:List UInt8) (e:Ending) (w':World):Prop :=
 (∃u o,e=.returned (.tuple #[u,.int .i64 (codeP l)])∧OwnXs w.heap.size w' u o∧o.map Fx.fld=ansP l)∧Below w.heap.size w w'
theorem ansP_fit {d:List Fx} {l:List UInt8} (hm:d.map Fx.fld=ansP l):FitX d:=by
 unfold ansP at hm
 cases h:fieldsP l with
 | none =>
  rw [h] at hm
  rw [List.map_eq_nil_iff] at hm
  subst hm
  exact ⟨by unfold maxLen;simp,fun x hx=>by simp at hx⟩
 | some fs=>rw [h] at hm;exact ans_fit hm
theorem parse_plain (s:ByteArray) (w:World) (hp:PlainAt w) (hs:s.size≤3000000000000) :
  Calls Tryz.prog 72 #[.string s] w fun e w'=>PPost w s.data.toList e w':=by
 refine (parse_any s w hp hs).mono fun e w' h=>⟨?_,h.2⟩
 rcases h.1 with ⟨h0,rfl⟩|⟨h0,h1,rfl⟩|⟨h0,fs,d,h1,h2,h3⟩
 ·have hf:fieldsP s.data.toList=some []:=by unfold fieldsP;rw [if_pos h0]
  exact ⟨_,[],by unfold codeP;rw [hf];simp only [codeF_nil],own_none _ _,by unfold ansP;rw [hf];simp only [ansF_nil];rfl⟩
 ·have hf:fieldsP s.data.toList=none:=by unfold fieldsP;rw [if_neg h0];exact h1
  exact ⟨_,[],by unfold codeP;rw [hf],own_none _ _,by unfold ansP;rw [hf];rfl⟩
 ·have hf:fieldsP s.data.toList=some fs:=by unfold fieldsP;rw [if_neg h0];exact h1
  unfold codeP ansP
  rw [hf]
  subst h2
  refine ansPlain ?_
  rcases h3.plain with h|⟨h1,h|h|⟨h2,h3,u,o,h4,h5,h6⟩⟩
  ·exact Or.inl h
  ·exact Or.inr ⟨h1,Or.inl h⟩
  ·exact Or.inr ⟨h1,Or.inr (Or.inl h)⟩
  ·exact Or.inr ⟨h1,Or.inr (Or.inr ⟨h2,h3,u,o,h4,h5.1,h6⟩)⟩
end
section
open Go.RowKit Go.Lib
def wordsAns (l:List UInt8):List (List UInt8):=if l=[] then [] else splitL l
def WdPost (w:World) (l:List UInt8) (e:Ending) (w':World):Prop :=
 (∃v ws,e=.returned v∧OwnT w.heap.size w' v ws∧ws.map (·.data.toList)=wordsAns l∧ws.length≤l.length+1∧∀x∈ws,x.size≤l.length)∧Below w.heap.size w w'
def WdSt (w:World) (s:ByteArray) (i f:Nat) (v:Value) (wr:World):Prop :=
 ∃ws:List ByteArray,OwnT w.heap.size wr v ws∧ws.length≤i∧(∀x∈ws,x.size≤s.size)∧Below w.heap.size w wr ∧
  ((i≤s.size∧f≤i∧splitL s.data.toList=ws.map (·.data.toList)++splitL (s.data.toList.drop f)∧(32:UInt8) ∉ (s.data.toList.drop f).take (i-f))∨(i=s.size+1∧splitL s.data.toList=ws.map (·.data.toList)))
theorem ext_mid (s:ByteArray) (a b:Nat):(s.extract a b).data.toList=(s.data.toList.drop a).take (b-a):=by
 rw [Lib.extract_data]
theorem mid_size (s:ByteArray) (a b:Nat):(s.extract a b).size≤s.size:=by
 simp;omega
theorem drop_mid {l:List UInt8} {f i:Nat} (hf:f≤i):l.drop f=(l.drop f).take (i-f)++l.drop i:=by
 have h:l.drop i=(l.drop f).drop (i-f):=by rw [List.drop_drop];congr 1;omega
 rw [h,List.take_append_drop]
theorem split_at {l:List UInt8} {f i:Nat} (hf:f≤i) (hi:i<l.length) (hc:l[i]=32) (hn:(32:UInt8) ∉ (l.drop f).take (i-f)):splitL (l.drop f)=(l.drop f).take (i-f)::splitL (l.drop (i+1)):=by
 have e:l.drop f=(l.drop f).take (i-f)++32::l.drop (i+1):=by
  conv=>lhs;rw [drop_mid hf,List.drop_eq_getElem_cons hi,hc]
 have hx:Lib.indexByte (l.drop f) 32=(((l.drop f).take (i-f)).length:Int):=by
  conv=>lhs;rw [e]
  exact ix_here hn
 have hlen:((l.drop f).take (i-f)).length=i-f:=by rw [List.length_take,List.length_drop];omega
 rw [hlen] at hx
 rw [splitL_yes hx,List.drop_drop]
 congr 3
 omega
theorem split_last {l:List UInt8} {f:Nat} (hn:(32:UInt8) ∉ (l.drop f).take (l.length-f)):splitL (l.drop f)=[l.drop f]:=by
 rw [List.take_of_length_le (by rw [List.length_drop];omega)] at hn
 exact splitL_no (ix_none hn)
theorem take_next {l:List UInt8} {f i:Nat} (hf:f≤i) (hi:i<l.length) (hc:l[i]≠32) (hn:(32:UInt8) ∉ (l.drop f).take (i-f)):(32:UInt8) ∉ (l.drop f).take (i+1-f):=by
 have hl:i-f<(l.drop f).length:=by rw [List.length_drop];omega
 rw [show i+1-f=(i-f)+1 by omega,List.take_succ_eq_append_getElem hl,List.mem_append,List.mem_singleton,List.getElem_drop]
 rintro (h|h)
 ·exact hn h
 ·apply hc
  rw [h]
  congr 1
  omega
theorem txt_new (w:World) (t:ByteArray):∀m u,([.string t]:List Value)[m]? = some u→(w.alloc (.cells #[.string t] 9)).cell? ((⟨w.heap.size,0,none⟩:Addr).add m)=some u:=by
 intro m u hm
 match m,hm with
 | 0,hm=>simp at hm;subst hm;simp [Addr.add]
theorem txt_one (t:ByteArray):∀u∈([.string t]:List Value),u.oneCell'=true:=by
 intro u hu;simp at hu;subst hu;rfl
theorem own_snoc {n0:Nat} {w:World} {v:Value} {ts:List ByteArray} {t:ByteArray} (h:w.ownsRow n0 9 1 v (ts.length+1) (ts.map Value.string++[.string t])):OwnT n0 w v (ts++[t]):=by
 unfold OwnT
 simp only [List.length_append,List.length_cons,List.length_nil,List.map_append,List.map_cons,List.map_nil]
 exact h
set_option maxHeartbeats 4000000 in
set_option maxRecDepth 100000 in
theorem rwords_any (s:ByteArray) (w:World) (hs:s.size≤1000000000000) :
  Calls Tryz.prog 18 #[.string s] w fun e w'=>WdPost w s.data.toList e w':=by
 by_cases h0:s.data.toList=[]
 ·have e:s=⟨#[]⟩:=ba_eq h0
  subst e
  go_enter Tryz.func18,Tryz.ntmps18
  go_wp2_with fail
  go_ret
  exact ⟨⟨_,[],rfl,World.ownsRow_nil _ _ _ _,rfl,by simp,fun x hx=>by simp at hx⟩,Below.refl _ _⟩
 obtain ⟨i0,hi0,hz0,hz1,hz2⟩:=info_parts Tryz.infoStr
 have HI:=hid hi0
 have hne:=nonempty_of (a:=s) (fun e=>h0 (List.length_eq_zero_iff.1 (by simpa using e)))
 have HAN:Hid (wordsAns s.data.toList=splitL s.data.toList):=by show _=_;unfold wordsAns;rw [if_neg h0]
 have hlen:s.data.toList.length=s.size:=by simp
 have HLEN:=hid hlen
 clear hi0 h0 hlen
 go_enter Tryz.func18,Tryz.ntmps18
 go_wp2_with fail
 have ST0:Hid (WdSt w s 0 0 (.slice none 0 0) w):=⟨[],World.ownsRow_nil _ _ _ _,by simp,fun x hx=>by simp at hx,Below.refl _ _,Or.inl ⟨by omega,by omega,by simp,by simp⟩⟩
 go_loopg [3,4,5] (s.size+1) (fun g vl vf vi wr=>∃i f:Nat,vi=.int .i64 i∧vf=.int .i64 f∧i≤s.size+1∧s.size+1-i≤g∧f≤s.size+1∧WdSt w s i f vl wr)
 case atStart=>exact ⟨0,0,rfl,rfl,by omega,by omega,by omega,ST0.out⟩
 case round =>
  clear ST0
  obtain ⟨i,f,rfl,rfl,hi,hgk,hf,ws,hot,hwl,hws,hb,hst⟩:=hrel
  have HOT:=hid hot
  have HWS:=hid hws
  have HB:=hid hb
  have hsz:=hb.size
  clear hot hws hb
  by_cases hlt:i≤s.size
  ·obtain ⟨hfi,hsp,hno⟩:f≤i∧splitL s.data.toList=ws.map (·.data.toList)++splitL (s.data.toList.drop f)∧(32:UInt8) ∉ (s.data.toList.drop f).take (i-f):=by
    rcases hst with h|h
    ·exact h.2
    ·omega
   have HSP:=hid hsp
   have HNO:=hid hno
   have hlez:(i:Int)≤(s.size:Int):=by omega
   have hfz:(0:Int)≤(f:Int):=by omega
   have hiz:(0:Int)≤(i:Int):=by omega
   have hfiz:(f:Int)≤(i:Int):=by omega
   clear hst hsp hno
   by_cases he:i=s.size
   ·have hez:((i:Int)==(s.size:Int))=true:=beq_iff_eq.2 (by omega)
    have hl1:splitL (s.data.toList.drop f)=[s.data.toList.drop f]:=split_last (by rw [HLEN.out,←he];exact HNO.out)
    have hex:(s.extract f i).data.toList=s.data.toList.drop f:=by
     rw [ext_mid,List.take_of_length_le (by rw [List.length_drop,HLEN.out];omega)]
    have hxs:=mid_size s f i
    have hnw:splitL s.data.toList=(ws++[s.extract f i]).map (·.data.toList):=by rw [HSP.out,hl1,List.map_append,List.map_cons,List.map_nil,hex]
    have HXS:=hid hxs
    have HNW:=hid hnw
    have HE:=hid he
    clear he hl1 hex hxs hnw
    go_wp2_with (first|(at_builtin;refine wpList_append_own _ rfl _ _ 43 rfl w.heap.size 9 i0 (.string ⟨#[]⟩) 1 16 Tryz.underlying43 HI.out hz0 hz1 hz2 rfl (by decide) _ _ _ rfl (World.ownsRow.alloc HOT.out _) ⟨wr.heap.size,0,none⟩ 1 1 [.string (s.extract f i)] rfl rfl (txt_new _ _) (txt_one _) (by unfold maxLen;omega) (by omega) (by simp;omega) ?_))
    intro v4 w4 hown4 hg4 _
    have HO4:=hid (own_snoc hown4)
    have HB4:Hid (Below w.heap.size w w4):=(HB.out.alloc hsz _).grown hg4 (by simp;omega) (fun q hq=>(World.ownsRow.lt HOT.out q hq).1)
    clear hown4 hg4
    go_wp2_with fail
    go_roundg (s.size+1-(i+1))
    case measure=>omega
    refine ⟨i+1,i+1,by go_num,by go_num,by omega,by omega,by omega,ws++[s.extract f i],HO4.out,by simp;omega,fun x hx=>?_,HB4.out,Or.inr ⟨by rw [HE.out],HNW.out⟩⟩
    rw [List.mem_append,List.mem_singleton] at hx
    rcases hx with hx|rfl
    ·exact HWS.out x hx
    ·exact HXS.out
   ·have hez:((i:Int)==(s.size:Int))=false:=beq_eq_false_iff_ne.2 (by omega)
    have hlt2:i<s.size:=by omega
    have hltz:(i:Int)<(s.size:Int):=by omega
    have hll:i<s.data.toList.length:=by rw [HLEN.out];exact hlt2
    have hby:s.data.toList[i]=s[i]:=rfl
    obtain ⟨c,hc⟩:∃c,s[i]=c:=⟨_,rfl⟩
    rw [hc] at hby
    have HBY:=hid hby
    clear he hby
    by_cases h32:c=32
    ·subst h32
     have hl1:=split_at hfi hll HBY.out HNO.out
     have hex:(s.extract f i).data.toList=(s.data.toList.drop f).take (i-f):=ext_mid _ _ _
     have hxs:=mid_size s f i
     have hnw:splitL s.data.toList=(ws++[s.extract f i]).map (·.data.toList)++splitL (s.data.toList.drop (i+1)):=by rw [HSP.out,hl1,List.map_append,List.map_cons,List.map_nil,hex];simp
     have HXS:=hid hxs
     have HNW:=hid hnw
     clear hl1 hex hxs hnw
     go_wp2_with (first|(at_builtin;refine wpList_append_own _ rfl _ _ 43 rfl w.heap.size 9 i0 (.string ⟨#[]⟩) 1 16 Tryz.underlying43 HI.out hz0 hz1 hz2 rfl (by decide) _ _ _ rfl (World.ownsRow.alloc HOT.out _) ⟨wr.heap.size,0,none⟩ 1 1 [.string (s.extract f i)] rfl rfl (txt_new _ _) (txt_one _) (by unfold maxLen;omega) (by omega) (by simp;omega) ?_))
     intro v4 w4 hown4 hg4 _
     have HO4:=hid (own_snoc hown4)
     have HB4:Hid (Below w.heap.size w w4):=(HB.out.alloc hsz _).grown hg4 (by simp;omega) (fun q hq=>(World.ownsRow.lt HOT.out q hq).1)
     clear hown4 hg4
     go_wp2_with fail
     go_roundg (s.size+1-(i+1))
     case measure=>omega
     refine ⟨i+1,i+1,by go_num,by go_num,by omega,by omega,by omega,ws++[s.extract f i],HO4.out,by simp;omega,fun x hx=>?_,HB4.out,Or.inl ⟨by omega,by omega,HNW.out,by simp⟩⟩
     rw [List.mem_append,List.mem_singleton] at hx
     rcases hx with hx|rfl
     ·exact HWS.out x hx
     ·exact HXS.out
    ·have h32z:((c.toNat:Int)==32)=false:=beq_eq_false_iff_ne.2 (fun e=>h32 (UInt8.toNat_inj.1 (by show c.toNat=32;omega)))
     have HN2:=hid (take_next hfi hll (by rw [HBY.out];exact h32) HNO.out)
     clear h32
     go_wp2_with fail
     go_roundg (s.size+1-(i+1))
     case measure=>omega
     exact ⟨i+1,f,by go_num,rfl,by omega,by omega,by omega,ws,HOT.out,by omega,HWS.out,HB.out,Or.inl ⟨by omega,by omega,HSP.out,HN2.out⟩⟩
  ·have hlez:¬ (i:Int)≤(s.size:Int):=by omega
   have hsp:splitL s.data.toList=ws.map (·.data.toList):=by
    rcases hst with h|h
    ·omega
    ·exact h.2
   have HSP:=hid hsp
   clear hst hsp
   go_wp2_with fail
   go_ret
   refine ⟨⟨_,ws,rfl,HOT.out,by rw [HAN.out,HSP.out],by rw [HLEN.out];omega,fun x hx=>by rw [HLEN.out];exact HWS.out x hx⟩,HB.out⟩
def PwPost (w : World) (ls : List (List UInt8)) (e : Ending) (w' : World) : Prop :=
  ((fieldsW ls = none ∧ e = .returned (.tuple #[.slice none 0 0, .int .i64 4])) ∨
   ∃ fs, fieldsW ls = some fs ∧ ∃ u o, e = .returned (.tuple #[u, .int .i64 (codeF fs)]) ∧ OwnXs w.heap.size w' u o ∧ o.map Fx.fld = ansF fs) ∧ Below w.heap.size w w'
def PwSt (w:World) (ls:List (List UInt8)) (i:Nat) (v:Value) (wr:World):Prop :=
 ∃d fs,OwnXs w.heap.size wr v d∧d.map Fx.fld=fs∧fieldsW (ls.take i)=some fs∧d.length=i∧Below w.heap.size w wr
theorem fieldsW_no {a b:List (List UInt8)} {l:List UInt8} (h:wordO l=none):fieldsW (a++l::b)=none:=by
 rw [fieldsW_append]
 cases fieldsW a with
 | none=>rfl
 | some x=>simp [fieldsW,h]
theorem fieldsW_snoc {a:List (List UInt8)} {l n t:List UInt8} {fs:List Fld} (ha:fieldsW a=some fs) (h:wordO l=some (n,t)):fieldsW (a++[l])=some (fs++[(⟨n.toArray⟩,[⟨t.toArray⟩])]):=by
 rw [fieldsW_append,ha]
 simp [fieldsW,h]
set_option maxHeartbeats 8000000 in
set_option maxRecDepth 100000 in
theorem rpw_any (p:Option Addr) (cap:Nat) (ws:List ByteArray) (w:World) (ht:TxtAt w p ws) (hl:ws.length≤1000000000000) (hs:∀x∈ws,x.size≤1000000000000) :
  Calls Tryz.prog 79 #[.slice p ws.length cap] w fun e w'=>PwPost w (ws.map (·.data.toList)) e w':=by
 obtain ⟨j0,hj0,hy0,hy1,hy2⟩:=info_parts Tryz.infoFld
 have HJ:=hid hj0
 have HT:=hid ht
 have HS:=hid hs
 clear hj0 ht hs
 have ST0:Hid (PwSt w (ws.map (·.data.toList)) 0 (.slice none 0 0) w):=⟨[],[],own_none _ _,rfl,by simp [fieldsW],rfl,Below.refl _ _⟩
 go_enter Tryz.func79,Tryz.ntmps79
 go_wp2_with fail
 go_loopg [4,5] ws.length (fun g vv vi wr=>∃i:Nat,vi=.int .i64 i∧i≤ws.length∧ws.length-i≤g∧PwSt w (ws.map (·.data.toList)) i vv wr)
 case atStart=>exact ⟨0,rfl,by omega,by omega,ST0.out⟩
 case round =>
 clear ST0
 obtain ⟨i,rfl,hi,hgk,d,fs,hox,hdm,hfw,hdl,hb⟩:=hrel
 have HOX:=hid hox
 have HDM:=hid hdm
 have HFW:=hid hfw
 have HDL:=hid hdl
 have HB:=hid hb
 have hsz:=hb.size
 clear hox hdm hfw hdl
 by_cases hlt:i<ws.length
 ·have hltz:(i:Int)<(ws.length:Int):=by omega
  have hiz:(0:Int)≤(i:Int):=by omega
  rcases HT.out with hn|⟨b,off,rfl,hc⟩
  ·rw [hn] at hlt;simp at hlt
  have c0:wr.cell? ⟨b,off+i,none⟩=some (.string ws[i]):=(hb.cell (p:=⟨b,off+i,none⟩) (cell_block (hc i hlt))).trans (hc i hlt)
  have hts:=HS.out _ (List.getElem_mem hlt)
  have hsplit:ws.map (·.data.toList)=(ws.map (·.data.toList)).take i++(ws[i]).data.toList::(ws.map (·.data.toList)).drop (i+1):=by
   have h1:i<(ws.map (·.data.toList)).length:=by simpa using hlt
   have h2:(ws.map (·.data.toList))[i]=(ws[i]).data.toList:=by simp
   rw [←h2,←List.drop_eq_getElem_cons h1,List.take_append_drop]
  have htk:(ws.map (·.data.toList)).take (i+1)=(ws.map (·.data.toList)).take i++[(ws[i]).data.toList]:=by
   rw [List.take_succ_eq_append_getElem (by simpa using hlt)];simp
  obtain ⟨x,hx⟩:∃x,ws[i]=x:=⟨_,rfl⟩
  rw [hx] at c0 hts hsplit htk
  have HSPL:=hid hsplit
  have HTK:=hid htk
  have hxl:x.data.toList.length=x.size:=by simp
  have HXL:=hid hxl
  clear hx hsplit htk hc hb hxl
  go_wp2_with fail
  go_loopg [7] x.size (fun g vk ws=>∃k:Nat,vk=.int .i64 k∧k≤x.size∧x.size-k≤g∧wr=ws∧Hid ((61:UInt8) ∉ x.data.toList.take k))
  case atStart=>exact ⟨0,rfl,by omega,by omega,rfl,(show Hid _ from by simp [Hid])⟩
  case round =>
  obtain ⟨k,rfl,hk,hgk2,rfl,HNK⟩:=hrel
  by_cases hkl:k<x.size
  ·have hkz:(k:Int)<(x.size:Int):=by omega
   have hkd:decide ((k:Int)<(x.size:Int))=true:=decide_eq_true hkz
   have hk0:(0:Int)≤(k:Int):=by omega
   have hkll:k<x.data.toList.length:=by rw [HXL.out];exact hkl
   have hby:x.data.toList[k]=x[k]:=rfl
   obtain ⟨c,hc⟩:∃c,x[k]=c:=⟨_,rfl⟩
   rw [hc] at hby
   have HBY:=hid hby
   clear hby
   by_cases h61:c=61
   ·subst h61
    have hsp:x.data.toList=x.data.toList.take k++61::x.data.toList.drop (k+1):=by
     conv=>lhs;rw [←List.take_append_drop k x.data.toList,List.drop_eq_getElem_cons hkll,HBY.out]
    have hix:Lib.indexByte x.data.toList 61=(k:Int):=by
     have h1:=ix_here (b:=x.data.toList.drop (k+1)) HNK.out
     rw [←hsp,List.length_take] at h1
     rw [h1]
     congr 1
     omega
    have hk1:(0:Int)≤(k:Int)+1:=by omega
    have hk2:(k:Int)+1≤(x.size:Int):=by omega
    have hne:((k:Int)==(x.size:Int))=false:=beq_eq_false_iff_ne.2 (by omega)
    have hrs:(x.extract (k+1) x.size).size≤140737488355327:=by simp;omega
    have HRR:=hid (rread_any (x.extract (k+1) x.size) wr hrs)
    rw [ext_tail] at HRR
    have HIX:=hid hix
    clear hsp hix hrs
    cases hrd:readL (x.data.toList.drop (k+1)) with
    | none =>
     rw [hrd] at HRR
     simp only [readV] at HRR
     have HO:Hid (wordO x.data.toList=none):=by
      show _=_;unfold wordO;rw [if_neg (by rw [HIX.out];omega),HIX.out,Int.toNat_natCast,hrd];rfl
     clear hrd
     go_wp2_with (first|(go_at_call 121;refine HRR.out.mono ?_;rintro e w2 ⟨rfl,hb2⟩))
     go_ret2
     exact ⟨Or.inl ⟨by rw [HSPL.out];exact fieldsW_no HO.out,rfl⟩,bel_then HB.out HB.out.size hb2⟩
    | some t =>
     rw [hrd] at HRR
     simp only [readV] at HRR
     have HO:Hid (wordO x.data.toList=some (x.data.toList.take k,t)):=by
      show _=_;unfold wordO;rw [if_neg (by rw [HIX.out];omega),HIX.out,Int.toNat_natCast,hrd];rfl
     clear hrd
     have HE:=hid (ext_take x k)
     go_wp2_with (first|(go_at_call 121;refine HRR.out.mono ?_;rintro e w2 ⟨rfl,hb2⟩;have hb2s:=hb2.size;have HXA:=hid ((HOX.out.on hb2).on (((Below.refl _ w2).alloc (Nat.le_refl _) (.cells #[.string ⟨t.toArray⟩] 9)).alloc (by simp) (.cells #[.string (x.extract 0 k),.slice (some ⟨w2.heap.size,0,none⟩) 1 1] 45)));have HC:=hid (news_x (w2.alloc (.cells #[.string ⟨t.toArray⟩] 9)) ⟨x.extract 0 k,some ⟨w2.heap.size,0,none⟩,1,[⟨t.toArray⟩]⟩);rw [World.size_alloc] at HC)|(at_builtin;refine wpList_append_own _ rfl _ _ 37 rfl w.heap.size 45 j0 (.agg #[.string ⟨#[]⟩,.slice none 0 0]) 2 40 Tryz.underlying37 HJ.out hy0 hy1 hy2 rfl (by decide) _ _ _ rfl HXA.out.1 ⟨w2.heap.size+1,0,none⟩ 1 1 (cellsX [⟨x.extract 0 k,some ⟨w2.heap.size,0,none⟩,1,[⟨t.toArray⟩]⟩]) rfl rfl HC.out (cellsX_one _) (by rw [HDL.out];unfold maxLen;omega) (by rw [HDL.out];omega) (by simp;omega) ?_))
     intro v4 w4 hown4 hg4 _
     have hot0:OwnT w2.heap.size (w2.alloc (.cells #[.string ⟨t.toArray⟩] 9)) (.slice (some ⟨w2.heap.size,0,none⟩) 1 1) [⟨t.toArray⟩]:=World.ownsRow_lit w2 #[.string ⟨t.toArray⟩] 1 (Nat.le_refl _) (by decide) rfl
     have hot1:OwnT w.heap.size ((w2.alloc (.cells #[.string ⟨t.toArray⟩] 9)).alloc (.cells #[.string (x.extract 0 k),.slice (some ⟨w2.heap.size,0,none⟩) 1 1] 45)) (.slice (some ⟨w2.heap.size,0,none⟩) 1 1) [⟨t.toArray⟩]:=own_weak (OwnT.on hot0 ((Below.refl _ _).alloc (Nat.le_refl _) _)) (Nat.le_trans hsz hb2s)
     have HX4:=hid (HXA.out.put (x:=⟨x.extract 0 k,some ⟨w2.heap.size,0,none⟩,1,[⟨t.toArray⟩]⟩) hot1 hown4 hg4)
     have hb3:Below w.heap.size w w2:=bel_then HB.out HB.out.size hb2
     have HB4:Hid (Below w.heap.size w w4):=((hb3.alloc (by omega) _).alloc (by simp;omega) _).grown hg4 (by simp;omega) (fun q hq=>(World.ownsRow.lt HXA.out.1 q hq).1)
     clear hown4 hg4 hot0 hot1 hb3
     go_wp2_with fail
     go_roundg (ws.length-(i+1))
     case measure=>omega
     refine ⟨i+1,by go_num,by omega,by omega,_,_,HX4.out,rfl,?_,by rw [List.length_append,HDL.out];rfl,HB4.out⟩
     rw [HTK.out,fieldsW_snoc HFW.out HO.out,List.map_append,HDM.out]
     simp only [List.map_cons,List.map_nil,Fx.fld,HE.out]
   ·have h61z:((c.toNat:Int) != 61)=true:=by
     rw [bne_iff_ne]
     exact fun e=>h61 (UInt8.toNat_inj.1 (by show c.toNat=61;omega))
    have HN2:Hid ((61:UInt8) ∉ x.data.toList.take (k+1)):=by
     show _ ∉ _
     rw [List.take_succ_eq_append_getElem hkll,List.mem_append,List.mem_singleton,HBY.out]
     rintro (h|h)
     ·exact HNK.out h
     ·exact h61 h.symm
    clear h61
    go_wp2_with fail
    go_roundg (x.size-(k+1))
    case measure=>omega
    case rel=>exact ⟨k+1,by go_num,by omega,by omega,rfl,HN2⟩
  ·have hkz:¬ (k:Int)<(x.size:Int):=by omega
   have hkd:decide ((k:Int)<(x.size:Int))=false:=decide_eq_false hkz
   have hke:((k:Int)==(x.size:Int))=true:=beq_iff_eq.2 (by omega)
   have HO:Hid (wordO x.data.toList=none):=by
    show _=_
    have h1:=HNK.out
    rw [List.take_of_length_le (by rw [HXL.out];omega)] at h1
    unfold wordO
    rw [if_pos (ix_none h1)]
   go_wp2_with fail
   go_ret2
   exact ⟨Or.inl ⟨by rw [HSPL.out];exact fieldsW_no HO.out,rfl⟩,HB.out⟩
 have hltz:¬ (i:Int)<(ws.length:Int):=by omega
 have hfw2:fieldsW (ws.map (·.data.toList))=some fs:=by
  have h1:=HFW.out
  rw [List.take_of_length_le (by rw [List.length_map];omega)] at h1
  exact h1
 obtain ⟨f1,f2,f3⟩:=fieldsW_len (B:=1000000000000) (ws.map (·.data.toList)) (fun l hl=>by
  obtain ⟨x,hx,rfl⟩:=List.mem_map.1 hl
  simpa using HS.out x hx) fs hfw2
 rw [List.length_map] at f1 f2
 have hfit:FitX d:=⟨by rw [HDL.out];unfold maxLen;omega,fun x hx=>by
  have:=f3 x.fld (by rw [←HDM.out];exact List.mem_map.2 ⟨x,hx,rfl⟩)
  refine ⟨?_,?_,fun t ht=>?_⟩
  ·unfold maxLen;omega
  ·rw [this.2.1];unfold maxLen;omega
  ·have:=this.2.2 t ht;unfold maxLen;omega⟩
 have HNM:=hid (rnorm_plain u4 d wr HOX.out.is hfit (by rw [HDL.out];omega) (by rw [HDM.out,f2];omega))
 rw [HDM.out] at HNM
 have HF2:=hid hfw2
 clear f1 f2 f3 hfit hfw2
 go_wp2_with (first|(go_at_call 122;refine HNM.out.mono ?_;rintro e w2 ⟨⟨u2,o2,rfl,ho2,hm2⟩,hb2⟩))
 go_ret2
 exact ⟨Or.inr ⟨fs,HF2.out,u2,o2,rfl,⟨own_weak ho2.1 hsz,fun x hx=>own_weak (ho2.2 x hx) hsz⟩,hm2⟩,bel_then HB.out HB.out.size hb2⟩
theorem fieldsP_words (l:List UInt8):fieldsW (wordsAns l)=fieldsP l:=by
 unfold wordsAns fieldsP
 split
 ·rfl
 ·rfl
end
section
open Go.RowKit Go.Lib
def isOp (c:UInt8):Bool:=opN (c.toNat:Int) != 0
def termO (l:List UInt8):Option Tm :=
 match l.dropWhile (fun c=>!isOp c) with
 | []=>none
 | c::r=>match readL r with
  | none=>none
  | some t=>if 5<opN (c.toNat:Int)∧r≠[] then none else some (⟨(l.takeWhile (fun c=>!isOp c)).toArray⟩,opN (c.toNat:Int),⟨t.toArray⟩)
def termsW:List (List UInt8)→Option (List Tm)
 | []=>some []
 | l::ls=>match termO l with
  | none=>none
  | some x=>(termsW ls).map (x :: ·)
theorem termsW_append (a b:List (List UInt8)):termsW (a++b)=(termsW a).bind fun xs=>(termsW b).map (xs ++ ·):=by
 induction a with
 | nil=>simp [termsW]
 | cons l a ih =>
  simp only [List.cons_append,termsW,ih]
  cases termO l with
  | none=>rfl
  | some x =>
   cases termsW a with
   | none=>rfl
   | some xs=>cases termsW b<;>rfl
theorem termsW_no {a b:List (List UInt8)} {l:List UInt8} (h:termO l=none):termsW (a++l::b)=none:=by
 rw [termsW_append]
 cases termsW a with
 | none=>rfl
 | some x=>simp [termsW,h]
theorem termsW_snoc {a:List (List UInt8)} {l:List UInt8} {xs:List Tm} {x:Tm} (ha:termsW a=some xs) (h:termO l=some x):termsW (a++[l])=some (xs++[x]):=by
 rw [termsW_append,ha]
 simp [termsW,h]
theorem op_split {l:List UInt8} {k:Nat} (hk:k<l.length) (h:∀d∈l.take k,isOp d=false) (h2:isOp l[k]=true) :
  l.takeWhile (fun c=>!isOp c)=l.take k∧l.dropWhile (fun c=>!isOp c)=l[k]::l.drop (k+1):=by
 have e:l=l.take k++l[k]::l.drop (k+1):=by
  conv=>lhs;rw [←List.take_append_drop k l,List.drop_eq_getElem_cons hk]
 have hp:∀d∈l.take k,(!isOp d)=true:=fun d hd=>by rw [h d hd];rfl
 constructor
 ·conv=>lhs;rw [e]
  rw [List.takeWhile_append_of_pos hp,List.takeWhile_cons,h2]
  simp
 ·conv=>lhs;rw [e]
  rw [List.dropWhile_append_of_pos hp,List.dropWhile_cons,h2]
  simp
theorem op_none {l:List UInt8} (h:∀d∈l,isOp d=false):termO l=none:=by
 have:l.dropWhile (fun c=>!isOp c)=[]:=by
  induction l with
  | nil=>rfl
  | cons c l ih =>
   rw [List.dropWhile_cons,h c (by simp)]
   simpa using ih fun d hd=>h d (by simp [hd])
 unfold termO
 rw [this]
def fitT (x:Tm):Prop:=x.1.size≤1000000000000∧x.2.2.size≤1000000000000∧0≤x.2.1∧x.2.1≤7
def codeW (o:Option (List Tm)):Int:=match o with|none=>4|some p=>mayM p
def ansW (o:Option (List Tm)):List Tm:=match o with|none=>[]|some p=>ansM p
def TWPost (w:World) (o:Option (List Tm)) (e:Ending) (w':World):Prop :=
 (∃u,e=.returned (.tuple #[u,.int .i64 (codeW o)])∧KM.Own w.heap.size w' u (ansW o))∧Below w.heap.size w w'
def TWSt (w:World) (ls:List (List UInt8)) (i:Nat) (v:Value) (wr:World):Prop :=
 ∃d,KM.Own w.heap.size wr v d∧termsW (ls.take i)=some d∧d.length=i∧(∀x∈d,fitT x)∧Below w.heap.size w wr
set_option maxHeartbeats 8000000 in
set_option maxRecDepth 100000 in
theorem rpwM_any (p:Option Addr) (cap:Nat) (ws:List ByteArray) (w:World) (ht:TxtAt w p ws) (hl:ws.length≤1000000000000) (hs:∀x∈ws,x.size≤1000000000000) :
  Calls Tryz.prog 80 #[.slice p ws.length cap] w fun e w'=>TWPost w (termsW (ws.map (·.data.toList))) e w':=by
 obtain ⟨j0,hj0,hy0,hy1,hy2⟩:=info_parts Tryz.infoTrm
 have HJ:=hid hj0
 have HT:=hid ht
 have HS:=hid hs
 clear hj0 ht hs
 have ST0:Hid (TWSt w (ws.map (·.data.toList)) 0 (.slice none 0 0) w):=⟨[],KM.own_nil _ _,by simp [termsW],rfl,fun x hx=>by simp at hx,Below.refl _ _⟩
 go_enter Tryz.func80,Tryz.ntmps80
 go_wp2_with fail
 go_loopg [4,5] ws.length (fun g vv vi wr=>∃i:Nat,vi=.int .i64 i∧i≤ws.length∧ws.length-i≤g∧TWSt w (ws.map (·.data.toList)) i vv wr)
 case atStart=>exact ⟨0,rfl,by omega,by omega,ST0.out⟩
 case round =>
 clear ST0
 obtain ⟨i,rfl,hi,hgk,d,hox,hfw,hdl,hft,hb⟩:=hrel
 have HOX:=hid hox
 have HFW:=hid hfw
 have HDL:=hid hdl
 have HFT:=hid hft
 have HB:=hid hb
 have hsz:=hb.size
 clear hox hfw hdl hft
 by_cases hlt:i<ws.length
 ·have hltz:(i:Int)<(ws.length:Int):=by omega
  have hiz:(0:Int)≤(i:Int):=by omega
  rcases HT.out with hn|⟨b,off,rfl,hc⟩
  ·rw [hn] at hlt;simp at hlt
  have c0:wr.cell? ⟨b,off+i,none⟩=some (.string ws[i]):=(hb.cell (p:=⟨b,off+i,none⟩) (cell_block (hc i hlt))).trans (hc i hlt)
  have hts:=HS.out _ (List.getElem_mem hlt)
  have hsplit:ws.map (·.data.toList)=(ws.map (·.data.toList)).take i++(ws[i]).data.toList::(ws.map (·.data.toList)).drop (i+1):=by
   have h1:i<(ws.map (·.data.toList)).length:=by simpa using hlt
   have h2:(ws.map (·.data.toList))[i]=(ws[i]).data.toList:=by simp
   rw [←h2,←List.drop_eq_getElem_cons h1,List.take_append_drop]
  have htk:(ws.map (·.data.toList)).take (i+1)=(ws.map (·.data.toList)).take i++[(ws[i]).data.toList]:=by
   rw [List.take_succ_eq_append_getElem (by simpa using hlt)];simp
  obtain ⟨x,hx⟩:∃x,ws[i]=x:=⟨_,rfl⟩
  rw [hx] at c0 hts hsplit htk
  have HSPL:=hid hsplit
  have HTK:=hid htk
  have hxl:x.data.toList.length=x.size:=by simp
  have HXL:=hid hxl
  have HNO:Hid (termO x.data.toList=none→termsW (ws.map (·.data.toList))=none):=fun h=>by rw [HSPL.out];exact termsW_no h
  clear hx hsplit htk hc hb hxl HSPL
  go_wp2_with fail
  go_loopg [7] x.size (fun g vk ws=>∃k:Nat,vk=.int .i64 k∧k≤x.size∧x.size-k≤g∧wr=ws∧Hid (∀d∈x.data.toList.take k,isOp d=false))
  case atStart=>exact ⟨0,rfl,by omega,by omega,rfl,(show Hid _ from by simp [Hid])⟩
  case round =>
  obtain ⟨k,rfl,hk,hgk2,rfl,HNK⟩:=hrel
  by_cases hkl:k<x.size
  ·have hkz:(k:Int)<(x.size:Int):=by omega
   have hkd:decide ((k:Int)<(x.size:Int))=true:=decide_eq_true hkz
   have hk0:(0:Int)≤(k:Int):=by omega
   have hkll:k<x.data.toList.length:=by rw [HXL.out];exact hkl
   have hby:x.data.toList[k]=x[k]:=rfl
   obtain ⟨c,hc⟩:∃c,x[k]=c:=⟨_,rfl⟩
   rw [hc] at hby
   have HBY:=hid hby
   clear hby
   have hor:=opN_range (c.toNat:Int)
   have HIS:Hid (isOp c=(opN (c.toNat:Int) != 0)):=rfl
   have HOC:Hid (∀W,Calls Tryz.prog 123 #[.int .u8 (c.toNat:Int)] W fun e w'=>e=.returned (.int .i64 (opN (c.toNat:Int)))∧W=w'):=fun W=>(rop_any (c.toNat:Int) W).mono fun e w' h=>⟨h.1,h.2.symm⟩
   have HTO:Hid (isOp c=true→termO x.data.toList=match readL (x.data.toList.drop (k+1)) with
     | none=>none
     | some t=>if 5<opN (c.toNat:Int)∧x.data.toList.drop (k+1)≠[] then none else some (⟨(x.data.toList.take k).toArray⟩,opN (c.toNat:Int),⟨t.toArray⟩)):=fun h=>by
    obtain ⟨e1,e2⟩:=op_split hkll HNK.out (by rw [HBY.out];exact h)
    unfold termO
    rw [e2,e1,HBY.out]
   obtain ⟨o,ho⟩:∃o,opN (c.toNat:Int)=o:=⟨_,rfl⟩
   rw [ho] at HIS HOC hor HTO
   clear ho
   obtain ⟨ho0,ho7⟩:=hor
   by_cases hz:o=0
   ·have HN2:Hid (∀d∈x.data.toList.take (k+1),isOp d=false):=by
     intro d hd
     rw [List.take_succ_eq_append_getElem hkll,List.mem_append,List.mem_singleton,HBY.out] at hd
     rcases hd with h|h
     ·exact HNK.out d h
     ·rw [h,HIS.out,hz];rfl
    clear HTO HIS
    subst hz
    go_wp2_with (first|(go_at_call 123;refine (HOC.out _).mono ?_;rintro e w2 ⟨rfl,rfl⟩))
    go_roundg (x.size-(k+1))
    case measure=>omega
    case rel=>exact ⟨k+1,by go_num,by omega,by omega,rfl,HN2⟩
   ·have HT2:=hid (HTO.out (by rw [HIS.out,bne_iff_ne];exact hz))
    have hzb:(o==0)=false:=beq_eq_false_iff_ne.2 hz
    have hk1:(0:Int)≤(k:Int)+1:=by omega
    have hk2:(k:Int)+1≤(x.size:Int):=by omega
    have hne:((k:Int)==(x.size:Int))=false:=beq_eq_false_iff_ne.2 (by omega)
    have hrs:(x.extract (k+1) x.size).size≤140737488355327:=by simp;omega
    have HRR:=hid (fun W=>rread_any (x.extract (k+1) x.size) W hrs)
    rw [ext_tail] at HRR
    have hdr:x.data.toList.drop (k+1)=[]↔¬ ((k:Int)<(x.size:Int)-1):=by
     rw [List.drop_eq_nil_iff,HXL.out];omega
    have HDR:=hid hdr
    clear HTO HIS hz hdr hrs
    cases hrd:readL (x.data.toList.drop (k+1)) with
    | none =>
     have HO:Hid (termsW (ws.map (·.data.toList))=none):=by
      refine HNO.out ?_
      rw [HT2.out,hrd]
     simp only [hrd,readV] at HRR
     clear hrd HT2
     go_wp2_with (first|(go_at_call 123;refine (HOC.out _).mono ?_;rintro e w2 ⟨rfl,rfl⟩)|(go_at_call 121;refine (HRR.out _).mono ?_;rintro e w2 ⟨rfl,hb2⟩))
     go_ret2
     exact ⟨⟨_,by rw [HO.out];rfl,by rw [HO.out];exact KM.own_nil _ _⟩,bel_then HB.out HB.out.size hb2⟩
    | some t =>
     have htl:t.length≤x.size:=by
      have h1:=readL_len _ _ _ (Nat.le_refl _) hrd
      rw [List.length_drop,HXL.out] at h1
      omega
     simp only [hrd,readV] at HRR
     have HTT:Hid (termO x.data.toList=if 5<o∧x.data.toList.drop (k+1)≠[] then none else some (⟨(x.data.toList.take k).toArray⟩,o,⟨t.toArray⟩)):=by
      show _=_
      rw [HT2.out,hrd]
     clear hrd HT2
     by_cases hbad:5<o∧(k:Int)<(x.size:Int)-1
     ·obtain ⟨h5,hkn⟩:=hbad
      have h5d:decide (5<o)=true:=decide_eq_true h5
      have hknd:decide ((k:Int)<(x.size:Int)-1)=true:=decide_eq_true hkn
      have HO:Hid (termsW (ws.map (·.data.toList))=none):=by
       refine HNO.out ?_
       rw [HTT.out,if_pos ⟨h5,fun e=>(HDR.out.1 e) hkn⟩]
      clear HTT
      go_wp2_with (first|(go_at_call 123;refine (HOC.out _).mono ?_;rintro e w9 ⟨rfl,rfl⟩)|(go_at_call 121;refine (HRR.out _).mono ?_;rintro e w2 ⟨rfl,hb2⟩))
      go_ret2
      exact ⟨⟨_,by rw [HO.out];rfl,by rw [HO.out];exact KM.own_nil _ _⟩,bel_then HB.out HB.out.size hb2⟩
     ·have HO:Hid (termO x.data.toList=some (x.extract 0 k,o,⟨t.toArray⟩)):=by
       show _=_
       rw [HTT.out,if_neg (fun h=>hbad ⟨h.1,Decidable.byContradiction fun h2=>h.2 (HDR.out.2 h2)⟩),ext_take]
      have HF1:Hid (fitT (x.extract 0 k,o,⟨t.toArray⟩)):=by
       refine ⟨?_,?_,ho0,ho7⟩
       ·simp;omega
       ·show t.toArray.size≤_
        rw [List.size_toArray];omega
      clear HTT
      have hcs:(5<o∧decide (5<o)=true∧¬ (k:Int)<(x.size:Int)-1∧decide ((k:Int)<(x.size:Int)-1)=false)∨(¬ 5<o∧decide (5<o)=false∧True∧True):=by
       by_cases h5:5<o
       ·have h6:¬ (k:Int)<(x.size:Int)-1:=fun h=>hbad ⟨h5,h⟩
        exact Or.inl ⟨h5,decide_eq_true h5,h6,decide_eq_false h6⟩
       ·exact Or.inr ⟨h5,decide_eq_false h5,trivial,trivial⟩
      clear hbad
      obtain ⟨nm,hnm⟩:∃nm,x.extract 0 k=nm:=⟨_,rfl⟩
      have HNM:=hid hnm
      rw [hnm] at HO HF1
      obtain ⟨tt,htt⟩:∃tt:ByteArray,⟨t.toArray⟩=tt:=⟨_,rfl⟩
      rw [htt] at HO HF1 HRR
      clear htt htl
      have hdl2:d.length≤1000000000000:=by rw [HDL.out];omega
      rcases hcs with ⟨h5,h5d,hkn,hknd⟩|⟨h5,h5d,hkn,hknd⟩
      all_goals
       go_wp2_with (first|(go_at_call 123;refine (HOC.out _).mono ?_;rintro e w9 ⟨rfl,rfl⟩)|(go_at_call 121;refine (HRR.out _).mono ?_;rintro e w2 ⟨rfl,hb2⟩;have HO2:=hid (Kind.own_on HOX.out hb2);have HB2:Hid (Below w.heap.size w w2):=bel_then HB.out HB.out.size hb2;clear hb2))
       have hszW:=HB2.out.size
       go_region_law (first
        | (refine step_append_lies _ (by rfl) (.tmp 61) (.tmp 71) 39 (by rfl) w.heap.size 49 j0 (.agg #[.string ⟨#[]⟩,.int .i64 0,.string ⟨#[]⟩]) 3 40 Tryz.underlying39 HJ.out hy0 hy1 hy2 rfl (by decide) u4 d.length (KM.cells d) (by rfl) (World.ownsRow.alloc (w:=w2.drew) HO2.out _) _ 1 1 (KM.cells [(nm,o,tt)]) (by rfl) rfl (KM.news w2.drew (nm,o,tt)) (KM.cells_ones _) (by decide) (by unfold maxLen;omega) (by omega) (by simp;omega) _ rfl ?_;intro g4 cap4 w4 hown4 hg4 _ _)
        | (go_simp;go_at_call 123;refine (HOC.out _).mono ?_;rintro e w9 ⟨rfl,rfl⟩))
       all_goals
        have HO4:Hid (KM.Own w.heap.size w4 (.slice (some ⟨g4,0,none⟩) (d.length+1) cap4) (d++[(nm,o,tt)])):=Kind.own_snoc hown4 rfl rfl
        have HB4:Hid (Below w.heap.size w w4):=((bel_drewN HB2.out 1).alloc hszW _).grown hg4 (by have h1:w.heap.size≤(w2.drewN 1).heap.size:=hszW;simp;omega) (fun z hz=>(World.ownsRow.lt HO2.out z hz).1)
        clear hown4 hg4
        go_wp2_with fail
        go_roundg (ws.length-(i+1))
        case measure=>omega
        case rel =>
         refine ⟨i+1,by go_num,by omega,by omega,_,HO4.out,by rw [HTK.out];exact termsW_snoc HFW.out HO.out,by rw [List.length_append,HDL.out];rfl,fun y hy=>?_,HB4.out⟩
         rcases List.mem_append.1 hy with h|h
         ·exact HFT.out y h
         ·rw [List.mem_singleton.1 h];exact HF1.out
  ·have hkz:¬ (k:Int)<(x.size:Int):=by omega
   have hkd:decide ((k:Int)<(x.size:Int))=false:=decide_eq_false hkz
   have hke:((k:Int)==(x.size:Int))=true:=beq_iff_eq.2 (by omega)
   have HO:Hid (termsW (ws.map (·.data.toList))=none):=by
    refine HNO.out ?_
    have h1:=HNK.out
    rw [List.take_of_length_le (by rw [HXL.out];omega)] at h1
    exact op_none h1
   go_wp2_with fail
   go_ret2
   exact ⟨⟨_,by rw [HO.out];rfl,by rw [HO.out];exact KM.own_nil _ _⟩,HB.out⟩
 have hltz:¬ (i:Int)<(ws.length:Int):=by omega
 have hfw2:termsW (ws.map (·.data.toList))=some d:=by
  have h1:=HFW.out
  rw [List.take_of_length_le (by rw [List.length_map];omega)] at h1
  exact h1
 have hfit:FitM d:=⟨by rw [HDL.out];unfold maxLen;omega,fun x hx=>by
  obtain ⟨a,b,c,d⟩:=HFT.out x hx
  unfold maxLen
  exact ⟨by omega,by omega,by omega,by omega⟩⟩
 have HNM:=hid (rnormM_any u4 d wr (Kind.own_is HOX.out) hfit)
 have HF2:=hid hfw2
 clear hfit hfw2
 go_wp2_with (first|(go_at_call 86;refine HNM.out.mono ?_;rintro e w2 ⟨⟨u2,rfl,ho2⟩,hb2⟩))
 go_ret2
 exact ⟨⟨u2,by rw [HF2.out];rfl,by rw [HF2.out];exact Kind.own_weak ho2 hsz⟩,bel_then HB.out HB.out.size hb2⟩
end
section
open Go.RowKit Go.Lib
theorem op_sign {c:UInt8} (h:isOp c=true):c=61∨c=33∨c=94∨c=60∨c=62∨c=63∨c=45:=by
 unfold isOp at h
 rw [bne_iff_ne] at h
 unfold opN at h
 have key:∀k:UInt8,(k.toNat:Int)=(c.toNat:Int)→c=k:=fun k e=>UInt8.toNat_inj.1 (by omega)
 by_cases h1:(61:Int)=c.toNat
 ·exact Or.inl (key 61 h1)
 by_cases h2:(33:Int)=c.toNat
 ·exact Or.inr (Or.inl (key 33 h2))
 by_cases h3:(94:Int)=c.toNat
 ·exact Or.inr (Or.inr (Or.inl (key 94 h3)))
 by_cases h4:(60:Int)=c.toNat
 ·exact Or.inr (Or.inr (Or.inr (Or.inl (key 60 h4))))
 by_cases h5:(62:Int)=c.toNat
 ·exact Or.inr (Or.inr (Or.inr (Or.inr (Or.inl (key 62 h5)))))
 by_cases h6:(63:Int)=c.toNat
 ·exact Or.inr (Or.inr (Or.inr (Or.inr (Or.inr (Or.inl (key 63 h6))))))
 by_cases h7:(45:Int)=c.toNat
 ·exact Or.inr (Or.inr (Or.inr (Or.inr (Or.inr (Or.inr (key 45 h7))))))
 rw [if_neg h1,if_neg h2,if_neg h3,if_neg h4,if_neg h5,if_neg h6,if_neg h7] at h
 exact absurd rfl h
theorem field_noop {l:List UInt8} (h:fieldB l=true):∀c∈l,isOp c=false:=by
 intro c hc
 unfold fieldB spell at h
 cases l with
 | nil=>simp at hc
 | cons x r =>
  simp only [Bool.and_eq_true,List.all_eq_true] at h
  have key:lodB (c.toNat:Int)=true∨smallB (c.toNat:Int)=true:=by
   rcases List.mem_cons.1 hc with e|hc
   ·exact Or.inr (by rw [e];exact h.1.2)
   ·exact Or.inl (h.2 _ hc)
  cases ho:isOp c with
  | false=>rfl
  | true =>
   rcases op_sign ho with rfl|rfl|rfl|rfl|rfl|rfl|rfl<;>(rcases key with k|k<;>(revert k;decide))
theorem opC_is {o:Int} (h1:1≤o) (h2:o≤7):isOp (opC o)=true:=by
 unfold isOp
 rw [opN_opC h1 h2,bne_iff_ne]
 omega
theorem opC_noblank (o:Int):opC o≠32:=by
 unfold opC
 repeat' split
 all_goals decide
theorem termO_back {x:Tm} (h1:namedM x=true) (h2:rightM x=true):termO (wordM x).data.toList=some x:=by
 obtain ⟨n,o,t⟩:=x
 have hr:=rightM_range h2
 simp only at hr
 have hno:=field_noop h1
 simp only at hno
 rw [wordM_data]
 simp only
 have hk:n.data.toList.length<(n.data.toList++opC o::writeL t.data.toList).length:=by simp
 have hg:(n.data.toList++opC o::writeL t.data.toList)[n.data.toList.length]=opC o:=by simp
 obtain ⟨e1,e2⟩:=op_split hk (by rw [List.take_left' rfl];exact hno) (by rw [hg];exact opC_is hr.1 hr.2)
 rw [List.take_left' rfl] at e1
 rw [hg,show n.data.toList++opC o::writeL t.data.toList=(n.data.toList++[opC o])++writeL t.data.toList by simp,List.drop_left' (by simp)] at e2
 unfold termO
 rw [e1,show n.data.toList++opC o::writeL t.data.toList=(n.data.toList++[opC o])++writeL t.data.toList by simp,e2]
 simp only
 rw [read_write]
 simp only
 rw [opN_opC hr.1 hr.2,if_neg,ba_back,ba_back]
 rintro ⟨h5,hne⟩
 apply hne
 unfold rightM at h2
 simp only [Bool.and_eq_true,Bool.or_eq_true,decide_eq_true_eq] at h2
 have h0:t.size=0:=by
  rcases h2.2 with h|h
  ·omega
  ·exact h
 have:t.data.toList=[]:=List.length_eq_zero_iff.1 (by simpa using h0)
 rw [this]
 rfl
theorem terms_back (p:List Tm) (h:∀x∈p,namedM x=true∧rightM x=true):termsW ((p.map wordM).map (·.data.toList))=some p:=by
 induction p with
 | nil=>rfl
 | cons x p ih =>
  have hx:=h x (by simp)
  simp only [List.map_cons,termsW]
  rw [termO_back hx.1 hx.2,ih fun y hy=>h y (by simp [hy])]
  rfl
theorem wordM_noblank {x:Tm} (h1:namedM x=true):(32:UInt8) ∉ (wordM x).data.toList:=by
 rw [wordM_data,List.mem_append,List.mem_cons]
 rintro (h|h|h)
 ·exact noblank_mem (field_noblank h1) h
 ·exact opC_noblank _ h.symm
 ·exact noblank_mem (write_noblank _) h
theorem ansM_again {p:List Tm} (h:mayM p=0):mayM (ansM p)=0∧ansM (ansM p)=ansM p:=by
 have e:ansM p=sortM p:=by unfold ansM;rw [if_pos h]
 have h8:=(mayM_zero h).1
 have hl:=sortM_len p
 obtain ⟨s1,s2⟩:=sortM_spec p
 rw [e]
 have hm:mayM (sortM p)=0:=(mayM_perm s2 (by omega) h8).trans h
 refine ⟨hm,?_⟩
 unfold ansM
 rw [if_pos hm]
 exact (sortM_unique s1 (fun _=>Iff.rfl)).symm
end
section
open Go.RowKit Go.Lib
abbrev Ky:=ByteArray × ByteArray
end
section
open Go.RowKit
abbrev Ed:=Int × ByteArray × ByteArray
def encE (x:Ed):List Value:=[.int .i64 x.1,.string x.2.1,.string x.2.2]
def KE:Kind Ed:=⟨47,3,encE,fun _=>rfl,by decide,fun x u hu=>by simp [encE] at hu;rcases hu with rfl|rfl|rfl<;>rfl⟩
def FitE (l:List Ed):Prop:=l.length≤maxLen∧∀x∈l,x.2.1.size≤maxLen∧x.2.2.size≤maxLen∧-9223372036854775808≤x.1∧x.1≤9223372036854775807
def namedE (x:Ed):Bool:=fieldB x.2.1.data.toList
def rightE (x:Ed):Bool:=decide (1≤x.1)&&decide (x.1≤5)&&(decide (x.1≠4)||decide (x.2.2.size=0))
def shortE (x:Ed):Bool:=decide (x.2.2.size≤128)
def mayE (l:List Ed):Int:=if 16<l.length then 5 else if l.all namedE=false then 2 else if l.all rightE=false then 1 else if l.all shortE=false then 5 else 0
theorem mayE_zero {l:List Ed} (h:mayE l=0):l.length≤16∧(∀x∈l,namedE x=true)∧(∀x∈l,rightE x=true)∧∀x∈l,shortE x=true:=by
 unfold mayE at h
 split at h
 ·omega
 ·rename_i h1
  split at h
  ·omega
  ·rename_i h2
   split at h
   ·omega
   ·rename_i h3
    split at h
    ·omega
    ·rename_i h4
     exact ⟨by omega,List.all_eq_true.1 (by simpa using h2),List.all_eq_true.1 (by simpa using h3),List.all_eq_true.1 (by simpa using h4)⟩
end
section
open Go.RowKit
theorem ke_cells {w:World} {b off:Nat} {p:List Ed} (h:KE.At w b off p) (i:Nat) (hi:i<p.length) :
  w.cell? ⟨b,off+i * 3,none⟩=some (.int .i64 (p[i]).1)∧w.cell? ⟨b,off+i * 3+1,none⟩=some (.string (p[i]).2.1)∧w.cell? ⟨b,off+i * 3+2,none⟩=some (.string (p[i]).2.2) :=
 ⟨h i hi 0 _ rfl,h i hi 1 _ rfl,h i hi 2 _ rfl⟩
theorem all_snocE {p:List Ed} {f:Ed→Bool} {i:Nat} (h:i<p.length):(p.take (i+1)).all f=((p.take i).all f&&f p[i]):=by
 rw [List.take_succ_eq_append_getElem h,List.all_append]
 simp
set_option maxHeartbeats 4000000 in
set_option maxRecDepth 100000 in
theorem rmayE_any (v:Value) (p:List Ed) (w:World) (hv:KE.Is w v p) (hf:FitE p) :
  Calls Tryz.prog 85 #[v] w fun e w'=>e=.returned (.int .i64 (mayE p))∧w'=w:=by
 obtain ⟨q,cap,rfl,hd⟩:=hv
 have hl:=hf.1
 unfold maxLen at hl
 have HD:=hid hd
 have HF:=hid hf.2
 obtain ⟨r,hr⟩:∃r,mayE p=r:=⟨_,rfl⟩
 rw [hr]
 have HR:=hid hr
 clear hd hf hr
 by_cases h8:16<p.length
 ·have h8z:(16:Int)<(p.length:Int):=by omega
  have H0:Hid (r=5):=by show _=_;rw [←HR.out];unfold mayE;rw [if_pos h8]
  clear h8
  go_enter Tryz.func85,Tryz.ntmps85
  go_wp2_with fail
  go_ret
  exact ⟨ret_int H0.out.symm,rfl⟩
 ·have h8z:¬ (16:Int)<(p.length:Int):=by omega
  have HR2:Hid (r=if p.all namedE=false then 2 else if p.all rightE=false then 1 else if p.all shortE=false then 5 else 0):=by show _=_;rw [←HR.out];unfold mayE;rw [if_neg h8]
  clear h8
  go_enter Tryz.func85,Tryz.ntmps85
  go_wp2_with fail
  go_loopg [3,4,5,6] p.length (fun g v3 v4 v5 vi wr=>∃i:Nat,vi=.int .i64 i∧i≤p.length∧p.length-i≤g∧v3=.bool ((p.take i).all namedE)∧v4=.bool ((p.take i).all rightE)∧v5=.bool ((p.take i).all shortE)∧w=wr)
  case atStart=>exact ⟨0,rfl,by omega,by omega,by simp,by simp,by simp,rfl⟩
  case round =>
  obtain ⟨i,rfl,hi,hgk,rfl,rfl,rfl,rfl⟩:=hrel
  by_cases hlt:i<p.length
  ·have hltz:(i:Int)<(p.length:Int):=by omega
   have hiz:(0:Int)≤(i:Int):=by omega
   obtain ⟨b,off,rfl,hat⟩:∃b off,q=some ⟨b,off,none⟩∧KE.At w b off p:=by
    rcases HD.out with h|h
    ·subst h;simp at hlt
    ·exact h
   obtain ⟨c0,c1,c2⟩:=ke_cells hat i hlt
   have hfx:=HF.out _ (List.getElem_mem hlt)
   have HN:=hid (all_snocE (f:=namedE) hlt)
   have HG:=hid (all_snocE (f:=rightE) hlt)
   have HS:=hid (all_snocE (f:=shortE) hlt)
   obtain ⟨x,hx⟩:∃x,p[i]=x:=⟨_,rfl⟩
   rw [hx] at c0 c1 c2 hfx HN HG HS
   obtain ⟨xo,xf,xt⟩:=x
   simp only at c0 c1 c2
   obtain ⟨B1,hB1⟩:∃B,(p.take i).all namedE=B:=⟨_,rfl⟩
   obtain ⟨B2,hB2⟩:∃B,(p.take i).all rightE=B:=⟨_,rfl⟩
   obtain ⟨B3,hB3⟩:∃B,(p.take i).all shortE=B:=⟨_,rfl⟩
   rw [hB1] at HN ⊢
   rw [hB2] at HG ⊢
   rw [hB3] at HS ⊢
   obtain ⟨hs1,hs2,hs3,hs4⟩:=hfx
   simp only at hs1 hs2 hs3 hs4
   have HFC:Hid (∀W,Calls Tryz.prog 126 #[.string xf] W fun e w'=>e=.returned (.bool (fieldB xf.data.toList))∧w'=W):=fun W=>rfield_any xf W hs1
   unfold maxLen at hs2
   clear hat hx hB1 hB2 hB3 hs1
   go_upto_region 7 with fail
   go_cut [3] from 10 to 67 (fun v wx=>w=wx∧v=.bool (B1&&fieldB xf.data.toList))
   case first =>
    cases B1 with
    | false =>
     go_wp2_with fail
     go_meet
     case rel=>exact ⟨rfl,rfl⟩
    | true =>
     go_wp2_with (first|(go_at_call 126;refine (HFC.out _).mono ?_;rintro e w1 ⟨rfl,rfl⟩))
     go_meet
     case rel=>exact ⟨rfl,rfl⟩
   case rest =>
   obtain ⟨rfl,rfl⟩:=hcut
   go_upto_region 8 with fail
   go_cut [4] from 10 to 67 (fun v wx=>w=wx∧v=.bool (B2&&rightE (xo,xf,xt)))
   case first =>
    have HRM:Hid (rightE (xo,xf,xt)=(decide (1≤xo)&&decide (xo≤5)&&(decide (xo≠4)||decide (xt.size=0)))):=rfl
    cases B2 with
    | false =>
     go_wp2_with fail
     go_meet
     case rel=>exact ⟨rfl,rfl⟩
    | true =>
     by_cases g1:1≤xo
     ·have d1:decide (1≤xo)=true:=decide_eq_true g1
      by_cases g2:xo≤5
      ·have d2:decide (xo≤5)=true:=decide_eq_true g2
       by_cases g3:xo=4
       ·have d3:(xo != 4)=false:=by simp [g3]
        by_cases g4:xt.size=0
        ·have e4:=sempty_of g4
         have HV:Hid (rightE (xo,xf,xt)=true):=by show _=_;rw [HRM.out,d1,d2,decide_eq_true g4];simp
         clear g4 g3
         go_wp2_with fail
         go_meet
         case rel=>exact ⟨rfl,by rw [HV.out];rfl⟩
        ·have e4:=sfull_of g4
         have HV:Hid (rightE (xo,xf,xt)=false):=by show _=_;rw [HRM.out,d1,d2,decide_eq_false g4,decide_eq_false (by simp [g3])];rfl
         clear g4 g3
         go_wp2_with fail
         go_meet
         case rel=>exact ⟨rfl,by rw [HV.out];rfl⟩
       ·have d3:(xo != 4)=true:=by simp [g3]
        have HV:Hid (rightE (xo,xf,xt)=true):=by show _=_;rw [HRM.out,d1,d2,decide_eq_true (by simpa using g3)];rfl
        clear g3
        go_wp2_with fail
        go_meet
        case rel=>exact ⟨rfl,by rw [HV.out];rfl⟩
      ·have d2:decide (xo≤5)=false:=decide_eq_false g2
       have HV:Hid (rightE (xo,xf,xt)=false):=by show _=_;rw [HRM.out,d1,d2];rfl
       go_wp2_with fail
       go_meet
       case rel=>exact ⟨rfl,by rw [HV.out];rfl⟩
     ·have d1:decide (1≤xo)=false:=decide_eq_false g1
      have HV:Hid (rightE (xo,xf,xt)=false):=by show _=_;rw [HRM.out,d1];rfl
      go_wp2_with fail
      go_meet
      case rel=>exact ⟨rfl,by rw [HV.out];rfl⟩
   case rest =>
   obtain ⟨rfl,rfl⟩:=hcut
   have HSM:Hid (shortE (xo,xf,xt)=decide (xt.size≤128)):=rfl
   cases B3 with
   | false =>
    go_wp2_with fail
    go_roundg (p.length-(i+1))
    case measure=>omega
    case rel=>exact ⟨i+1,by go_num,by omega,by omega,by rw [HN.out];rfl,by rw [HG.out],by rw [HS.out];rfl,rfl⟩
   | true =>
    by_cases g1:xt.size≤128
    ·have g1z:(xt.size:Int)≤128:=by omega
     have HV:Hid (shortE (xo,xf,xt)=true):=by show _=_;rw [HSM.out];exact decide_eq_true g1
     go_wp2_with fail
     go_roundg (p.length-(i+1))
     case measure=>omega
     case rel=>exact ⟨i+1,by go_num,by omega,by omega,by rw [HN.out];rfl,by rw [HG.out],by rw [HS.out,HV.out];rfl,rfl⟩
    ·have g1z:¬ (xt.size:Int)≤128:=by omega
     have HV:Hid (shortE (xo,xf,xt)=false):=by show _=_;rw [HSM.out];exact decide_eq_false g1
     go_wp2_with fail
     go_roundg (p.length-(i+1))
     case measure=>omega
     case rel=>exact ⟨i+1,by go_num,by omega,by omega,by rw [HN.out];rfl,by rw [HG.out],by rw [HS.out,HV.out];rfl,rfl⟩
  ·have hltz:¬ (i:Int)<(p.length:Int):=by omega
   rw [List.take_of_length_le (by omega)]
   cases h1:p.all namedE with
   | false =>
    have H0:Hid (r=2):=by show _=_;rw [HR2.out,h1];rfl
    clear h1
    go_wp2_with fail
    go_ret
    exact ⟨ret_int H0.out.symm,rfl⟩
   | true =>
    cases h2:p.all rightE with
    | false =>
     have H0:Hid (r=1):=by show _=_;rw [HR2.out,h1,h2];rfl
     clear h1 h2
     go_wp2_with fail
     go_ret
     exact ⟨ret_int H0.out.symm,rfl⟩
    | true =>
     cases h3:p.all shortE with
     | false =>
      have H0:Hid (r=5):=by show _=_;rw [HR2.out,h1,h2,h3];rfl
      clear h1 h2 h3
      go_wp2_with fail
      go_ret
      exact ⟨ret_int H0.out.symm,rfl⟩
     | true =>
      have H0:Hid (r=0):=by show _=_;rw [HR2.out,h1,h2,h3];rfl
      clear h1 h2 h3
      go_wp2_with fail
      go_ret
      exact ⟨ret_int H0.out.symm,rfl⟩
theorem Tryz.infoEd:(Tryz.prog.info? 47).map (fun i=>(i.zero,i.size,i.bytes))=some (some (.agg #[.int .i64 0,.string ⟨#[]⟩,.string ⟨#[]⟩]),3,40):=by kernel_rfl
theorem neq_edit (a b:Ed) (w:World):(binOp .neq 47 (.agg #[.int .i64 a.1,.string a.2.1,.string a.2.2]) (.agg #[.int .i64 b.1,.string b.2.1,.string b.2.2])).run Tryz.prog w=.ok (.bool (!decide (a=b))) w:=by
 obtain ⟨a1,a2,a3⟩:=a
 obtain ⟨b1,b2,b3⟩:=b
 have hS:Tryz.prog.underlying 47=some (.struct (Tryz.prog.fieldsOf 47)):=by kernel_rfl
 have hp:Tryz.prog.stoodInHeld 47=false:=by kernel_rfl
 have u9:=Tryz.underlying9
 have a9:=Tryz.isAgg9
 have z9:=Tryz.sizeOf9
 have u3:=Tryz.underlying3
 have a3':=Tryz.isAgg3
 have z3:=Tryz.sizeOf3
 rw [run_neq_struct,show (10000:Nat)=9999+1 from rfl,run_equalIn_agg w 9999 47 _ _ hS hp]
 simp only [Program.fieldsOf,Tryz.underlying47]
 go_simp
 by_cases h1:a1=b1
 ·subst h1
  by_cases h2:a2=b2
  ·subst h2
   by_cases h3:a3=b3
   ·subst h3;simp
   ·have e3:=beq_eq_false_iff_ne.1 (seq_false h3)
    simp [h3,e3]
  ·have e2:=beq_eq_false_iff_ne.1 (seq_false h2)
   simp [h2,e2]
 ·simp [h1]
set_option maxHeartbeats 2000000 in
set_option maxRecDepth 100000 in
theorem rsameE_any (v u:Value) (p q:List Ed) (w:World) (hv:KE.Is w v p) (hu:KE.Is w u q) (hl1:p.length≤maxLen) :
  Calls Tryz.prog 22 #[v,u] w fun e w'=>e=.returned (.bool (decide (p=q)))∧∃n,w'=w.drewN n:=by
 unfold maxLen at hl1
 obtain ⟨a1,k1,rfl,hd1⟩:=hv
 obtain ⟨a2,k2,rfl,hd2⟩:=hu
 obtain ⟨r,hr⟩:∃r,decide (p=q)=r:=⟨_,rfl⟩
 rw [hr]
 have HR:=hid hr
 have HD1:=hid hd1
 have HD2:=hid hd2
 clear hr hd1 hd2
 by_cases hl:p.length=q.length
 ·have hb:((p.length:Int) != (q.length:Int))=false:=by simp [hl]
  have HL:=hid hl
  clear hl
  go_enter Tryz.func22,Tryz.ntmps22
  go_wp2_with fail
  go_loopg [5] p.length (fun g vi wr=>∃i m:Nat,vi=.int .i64 i∧i≤p.length∧p.length-i≤g∧wr=w.drewN m∧Hid (∀j,j<i→p[j]? = q[j]?))
  case atStart=>exact ⟨0,0,rfl,by omega,by omega,rfl,fun j h=>by omega⟩
  case round =>
   obtain ⟨i,m,rfl,hi,hg,rfl,HJ⟩:=hrel
   by_cases hlt:i<p.length
   ·have hlt2:i<q.length:=by rw [←HL.out];exact hlt
    have i1:(0:Int)≤↑i:=by omega
    have i2:(↑i:Int) < ↑p.length:=by omega
    have i3:(↑i:Int) < ↑q.length:=by omega
    rcases HD1.out with hn|⟨b1,o1,rfl,k1⟩
    ·rw [hn] at hlt;simp at hlt
    rcases HD2.out with hn|⟨b2,o2,rfl,k2⟩
    ·rw [hn] at hlt2;simp at hlt2
    obtain ⟨x0,x1,x2⟩:=ke_cells k1 i hlt
    obtain ⟨y0,y1,y2⟩:=ke_cells k2 i hlt2
    have hne:=fun W=>neq_edit p[i] q[i] W
    have G1:=hid (List.getElem?_eq_getElem hlt)
    have G2:=hid (List.getElem?_eq_getElem hlt2)
    obtain ⟨x,hx⟩:∃x,p[i]=x:=⟨_,rfl⟩
    obtain ⟨y,hy⟩:∃y,q[i]=y:=⟨_,rfl⟩
    rw [hx] at x0 x1 x2 hne G1
    rw [hy] at y0 y1 y2 hne G2
    clear k1 k2 hx hy
    by_cases hst:x=y
    ·have hd:=decide_eq_true hst
     rw [hd] at hne
     have HS:=hid hst
     clear hst hd
     go_wp2_with fail
     go_quiet (fail)
     go_wp2_with fail
     go_roundg (p.length-(i+1))
     case measure=>omega
     refine ⟨i+1,_,by go_num,by omega,by omega,rfl,fun j hj=>?_⟩
     by_cases e:j=i
     ·subst e;rw [G1.out,G2.out,HS.out]
     ·exact HJ.out j (by omega)
    ·have hd:=decide_eq_false hst
     rw [hd] at hne
     have H0:Hid (r=false):=HR.out.symm.trans (decide_eq_false fun e=>hst (by
      have:=G1.out
      rw [e,G2.out] at this
      exact (Option.some.inj this).symm))
     clear hst hd
     go_wp2_with fail
     go_quiet (fail)
     go_wp2_with fail
     go_ret
     exact ⟨ret_bool H0.out.symm,_,by rw [World.drewN_drewN]⟩
   ·have hltz:¬ (i:Int)<(p.length:Int):=by omega
    have H0:Hid (r=true):=HR.out.symm.trans (decide_eq_true (List.ext_getElem? fun j=>by
     by_cases hj:j<p.length
     ·exact HJ.out j (by omega)
     ·rw [List.getElem?_eq_none (by omega),List.getElem?_eq_none (by have:=HL.out;omega)]))
    go_wp2_with fail
    go_ret
    exact ⟨ret_bool H0.out.symm,_,rfl⟩
 ·have hb:((p.length:Int) != (q.length:Int))=true:=by simp;omega
  have H0:Hid (r=false):=HR.out.symm.trans (decide_eq_false fun e=>hl (by rw [e]))
  clear hl
  go_enter Tryz.func22,Tryz.ntmps22
  go_wp2_with fail
  go_ret
  exact ⟨ret_bool H0.out.symm,0,rfl⟩
def signS (k:Int):ByteArray:=if k=1 then ⟨#[58,61]⟩ else if k=2 then ⟨#[43,61]⟩ else if k=3 then ⟨#[45,61]⟩ else if k=4 then ⟨#[126]⟩ else ⟨#[61,61]⟩
set_option maxHeartbeats 2000000 in
theorem rsign_any (k:Int) (w:World):Calls Tryz.prog 96 #[.int .i64 k] w fun e w'=>e=.returned (.string (signS k))∧w'=w:=by
 by_cases h1:k=1
 ·subst h1
  go_enter Tryz.func96,Tryz.ntmps96
  go_wp2_with fail
  go_ret
  exact ⟨rfl,rfl⟩
 ·by_cases h2:k=2
  ·subst h2
   go_enter Tryz.func96,Tryz.ntmps96
   go_wp2_with fail
   go_ret
   exact ⟨rfl,rfl⟩
  ·by_cases h3:k=3
   ·subst h3
    go_enter Tryz.func96,Tryz.ntmps96
    go_wp2_with fail
    go_ret
    exact ⟨rfl,rfl⟩
   ·by_cases h4:k=4
    ·subst h4
     go_enter Tryz.func96,Tryz.ntmps96
     go_wp2_with fail
     go_ret
     exact ⟨rfl,rfl⟩
    ·have b1:(k==1)=false:=beq_eq_false_iff_ne.2 h1
     have b2:(k==2)=false:=beq_eq_false_iff_ne.2 h2
     have b3:(k==3)=false:=beq_eq_false_iff_ne.2 h3
     have b4:(k==4)=false:=beq_eq_false_iff_ne.2 h4
     have H0:Hid (signS k=⟨#[61,61]⟩):=by show _=_;unfold signS;rw [if_neg h1,if_neg h2,if_neg h3,if_neg h4]
     clear h1 h2 h3 h4
     go_enter Tryz.func96,Tryz.ntmps96
     go_wp2_with fail
     go_ret
     rw [H0.out]
     exact ⟨rfl,rfl⟩
def kindN (c:Int):Int:=if c=58 then 1 else if c=43 then 2 else if c=45 then 3 else if c=126 then 4 else if c=61 then 5 else 0
theorem kindN_range (c:Int):0≤kindN c∧kindN c≤5:=by
 unfold kindN
 repeat' split
 all_goals omega
end
section
open Go.RowKit Go.Lib
def wordE (x:Ed):ByteArray:=x.2.1++signS x.1++⟨(writeL x.2.2.data.toList).toArray⟩
def lineE (l:List Ed):ByteArray:=lineB (l.map wordE)
theorem wordE_data (x:Ed):(wordE x).data.toList=x.2.1.data.toList++((signS x.1).data.toList++writeL x.2.2.data.toList):=by
 unfold wordE
 simp only [data_append]
 simp
theorem lineE_first (x:Ed):lineB [wordE x]=⟨#[]⟩++x.2.1++signS x.1++⟨(writeL x.2.2.data.toList).toArray⟩:=by
 refine ba_eq ?_
 rw [lineB_data,List.map_cons,List.map_nil,Lib.join_one,wordE_data]
 simp only [data_append]
 simp
theorem lineE_next {ws:List ByteArray} (h:ws≠[]) (x:Ed):lineB (ws++[wordE x])=lineB ws++⟨#[32]⟩++x.2.1++signS x.1++⟨(writeL x.2.2.data.toList).toArray⟩:=by
 refine ba_eq ?_
 rw [lineB_data,List.map_append,List.map_cons,List.map_nil,join_snoc _ _ (by simpa using h)]
 simp only [data_append,lineB_data,wordE_data]
 simp
theorem sign_size (k:Int):(signS k).size≤2∧1≤(signS k).size:=by
 unfold signS
 repeat' split
 all_goals exact ⟨by decide,by decide⟩
theorem wordE_len {x:Ed} (h1:namedE x=true) (h2:shortE x=true):(wordE x).size≤418:=by
 have h3:x.2.1.size≤32:=by simpa using fieldB_len h1
 have h4:=writeL_len x.2.2.data.toList
 have h5:x.2.2.data.toList.length=x.2.2.size:=by simp
 have h6:=of_decide_eq_true h2
 have h7:=sign_size x.1
 have h8:(⟨(writeL x.2.2.data.toList).toArray⟩:ByteArray).size=(writeL x.2.2.data.toList).length:=by show (writeL x.2.2.data.toList).toArray.size=_;simp
 unfold wordE
 rw [ByteArray.size_append,ByteArray.size_append,h8]
 omega
theorem lineE_size {ws:List ByteArray} (hn:ws.length≤16) (hs:∀x∈ws,x.size≤418):(lineB ws).size≤6704:=by
 have e:(lineB ws).size=(Lib.join (ws.map (·.data.toList)) [32]).length:=by rw [←lineB_data];simp
 have h1:=join_size 418 (ws.map (·.data.toList)) (fun w hw=>by
  obtain ⟨x,hx,rfl⟩:=List.mem_map.1 hw
  simpa using hs x hx)
 rw [List.length_map] at h1
 have h3:ws.length * (418+1)≤16 * (418+1):=Nat.mul_le_mul_right _ hn
 omega
theorem wrap_i64E (n:Int) (h1:-9223372036854775808≤n) (h2:n≤9223372036854775807):IntKind.i64.wrap n=n:=by
 simp [IntKind.wrap,IntKind.signed,IntKind.bits];omega
def isK (c:UInt8):Bool:=kindN (c.toNat:Int) != 0
def editO (l:List UInt8):Option Ed :=
 match l.dropWhile (fun c=>!isK c) with
 | []=>none
 | c::r =>
  if kindN (c.toNat:Int)=4 then (if r=[] then some (4,⟨(l.takeWhile (fun c=>!isK c)).toArray⟩,⟨#[]⟩) else none)
  else match r with
   | []=>none
   | d::r2=>if d=61 then (match readL r2 with
    | none=>none
    | some t=>some (kindN (c.toNat:Int),⟨(l.takeWhile (fun c=>!isK c)).toArray⟩,⟨t.toArray⟩)) else none
def editsW:List (List UInt8)→Option (List Ed)
 | []=>some []
 | l::ls=>match editO l with
  | none=>none
  | some x=>(editsW ls).map (x :: ·)
theorem editsW_append (a b:List (List UInt8)):editsW (a++b)=(editsW a).bind fun xs=>(editsW b).map (xs ++ ·):=by
 induction a with
 | nil=>simp [editsW]
 | cons l a ih =>
  simp only [List.cons_append,editsW,ih]
  cases editO l with
  | none=>rfl
  | some x =>
   cases editsW a with
   | none=>rfl
   | some xs=>cases editsW b<;>rfl
theorem editsW_no {a b:List (List UInt8)} {l:List UInt8} (h:editO l=none):editsW (a++l::b)=none:=by
 rw [editsW_append]
 cases editsW a with
 | none=>rfl
 | some x=>simp [editsW,h]
theorem editsW_snoc {a:List (List UInt8)} {l:List UInt8} {xs:List Ed} {x:Ed} (ha:editsW a=some xs) (h:editO l=some x):editsW (a++[l])=some (xs++[x]):=by
 rw [editsW_append,ha]
 simp [editsW,h]
theorem k_split {l:List UInt8} {k:Nat} (hk:k<l.length) (h:∀d∈l.take k,isK d=false) (h2:isK l[k]=true) :
  l.takeWhile (fun c=>!isK c)=l.take k∧l.dropWhile (fun c=>!isK c)=l[k]::l.drop (k+1):=by
 have e:l=l.take k++l[k]::l.drop (k+1):=by
  conv=>lhs;rw [←List.take_append_drop k l,List.drop_eq_getElem_cons hk]
 have hp:∀d∈l.take k,(!isK d)=true:=fun d hd=>by rw [h d hd];rfl
 constructor
 ·conv=>lhs;rw [e]
  rw [List.takeWhile_append_of_pos hp,List.takeWhile_cons,h2]
  simp
 ·conv=>lhs;rw [e]
  rw [List.dropWhile_append_of_pos hp,List.dropWhile_cons,h2]
  simp
theorem k_none {l:List UInt8} (h:∀d∈l,isK d=false):editO l=none:=by
 have:l.dropWhile (fun c=>!isK c)=[]:=by
  induction l with
  | nil=>rfl
  | cons c l ih =>
   rw [List.dropWhile_cons,h c (by simp)]
   simpa using ih fun d hd=>h d (by simp [hd])
 unfold editO
 rw [this]
theorem kind_sign {c:UInt8} (h:isK c=true):c=58∨c=43∨c=45∨c=126∨c=61:=by
 unfold isK at h
 rw [bne_iff_ne] at h
 unfold kindN at h
 have key:∀k:UInt8,(c.toNat:Int)=(k.toNat:Int)→c=k:=fun k e=>UInt8.toNat_inj.1 (by omega)
 by_cases h1:(c.toNat:Int)=58
 ·exact Or.inl (key 58 h1)
 by_cases h2:(c.toNat:Int)=43
 ·exact Or.inr (Or.inl (key 43 h2))
 by_cases h3:(c.toNat:Int)=45
 ·exact Or.inr (Or.inr (Or.inl (key 45 h3)))
 by_cases h4:(c.toNat:Int)=126
 ·exact Or.inr (Or.inr (Or.inr (Or.inl (key 126 h4))))
 by_cases h5:(c.toNat:Int)=61
 ·exact Or.inr (Or.inr (Or.inr (Or.inr (key 61 h5))))
 rw [if_neg h1,if_neg h2,if_neg h3,if_neg h4,if_neg h5] at h
 exact absurd rfl h
def okW (x:ByteArray) (A:Nat) (k:Int):Bool:=decide ((signS k).size≤x.size-A)&&decide (x.extract A (A+(signS k).size)=signS k)&&(decide (k≠4)||decide (x.size-A≤1))
theorem ext_two (x:ByteArray) (A n:Nat):(x.extract A (A+n)).data.toList=(x.data.toList.drop A).take n:=by
 have:=ext_mid x A (A+n)
 rw [this]
 congr 1
 omega
theorem edit_at {x:ByteArray} {A:Nat} (hA:A<x.size) (hno:∀d∈x.data.toList.take A,isK d=false) (hc:isK x[A]=true) :
  editO x.data.toList=if okW x A (kindN (x[A].toNat:Int)) then (match readL (x.data.toList.drop (A+(signS (kindN (x[A].toNat:Int))).size)) with
   | none=>none
   | some t=>some (kindN (x[A].toNat:Int),⟨(x.data.toList.take A).toArray⟩,⟨t.toArray⟩)) else none:=by
 have hl:x.data.toList.length=x.size:=by simp
 have hAl:A<x.data.toList.length:=by omega
 have hb:x.data.toList[A]=x[A]:=rfl
 obtain ⟨e1,e2⟩:=k_split hAl hno (by rw [hb];exact hc)
 rw [hb] at e2
 have hdr:x.data.toList.drop A=x[A]::x.data.toList.drop (A+1):=by rw [List.drop_eq_getElem_cons hAl,hb]
 have hlr:(x.data.toList.drop (A+1)).length=x.size-A-1:=by rw [List.length_drop,hl];omega
 have hd2:x.data.toList.drop (A+2)=(x.data.toList.drop (A+1)).tail:=by rw [List.tail_drop]
 unfold editO
 rw [e2,e1]
 simp only
 generalize hr:x.data.toList.drop (A+1)=r at *
 have hex:∀n,(x.extract A (A+n)).data.toList=(x[A]::r).take n:=fun n=>by rw [ext_two,hdr]
 have heq:∀s:ByteArray,x.extract A (A+s.size)=s↔(x[A]::r).take s.size=s.data.toList:=fun s=>by
  rw [←hex]
  exact ⟨fun h=>by rw [h],fun h=>ba_eq h⟩
 generalize x[A]=c at *
 rcases kind_sign hc with rfl|rfl|rfl|rfl|rfl
 all_goals
  unfold okW
 ·have hk:kindN ((58:UInt8).toNat:Int)=1:=rfl
  have hs:signS 1=⟨#[58,61]⟩:=rfl
  have hs2:(⟨#[58,61]⟩:ByteArray).size=2:=rfl
  have h2:=heq ⟨#[58,61]⟩
  rw [hs2] at h2
  simp only [hk,hs,hs2,h2,hd2]
  cases r with
  | nil=>simp at hlr ⊢
  | cons d r =>
   have h1:2≤x.size-A:=by simp at hlr;omega
   by_cases e:d=61<;>simp [e,h1]
 ·have hk:kindN ((43:UInt8).toNat:Int)=2:=rfl
  have hs:signS 2=⟨#[43,61]⟩:=rfl
  have hs2:(⟨#[43,61]⟩:ByteArray).size=2:=rfl
  have h2:=heq ⟨#[43,61]⟩
  rw [hs2] at h2
  simp only [hk,hs,hs2,h2,hd2]
  cases r with
  | nil=>simp at hlr ⊢
  | cons d r =>
   have h1:2≤x.size-A:=by simp at hlr;omega
   by_cases e:d=61<;>simp [e,h1]
 ·have hk:kindN ((45:UInt8).toNat:Int)=3:=rfl
  have hs:signS 3=⟨#[45,61]⟩:=rfl
  have hs2:(⟨#[45,61]⟩:ByteArray).size=2:=rfl
  have h2:=heq ⟨#[45,61]⟩
  rw [hs2] at h2
  simp only [hk,hs,hs2,h2,hd2]
  cases r with
  | nil=>simp at hlr ⊢
  | cons d r =>
   have h1:2≤x.size-A:=by simp at hlr;omega
   by_cases e:d=61<;>simp [e,h1]
 ·have hk:kindN ((126:UInt8).toNat:Int)=4:=rfl
  have hs:signS 4=⟨#[126]⟩:=rfl
  have hs2:(⟨#[126]⟩:ByteArray).size=1:=rfl
  have h2:=heq ⟨#[126]⟩
  rw [hs2] at h2
  simp only [hk,hs,hs2,h2,hr]
  have h1:1≤x.size-A:=by omega
  cases r with
  | nil =>
   have h3:x.size-A≤1:=by simp at hlr;omega
   simp [h1,h3,readL_nil]
  | cons d r =>
   have h3:¬ x.size-A≤1:=by simp at hlr;omega
   simp [h3]
 ·have hk:kindN ((61:UInt8).toNat:Int)=5:=rfl
  have hs:signS 5=⟨#[61,61]⟩:=rfl
  have hs2:(⟨#[61,61]⟩:ByteArray).size=2:=rfl
  have h2:=heq ⟨#[61,61]⟩
  rw [hs2] at h2
  simp only [hk,hs,hs2,h2,hd2]
  cases r with
  | nil=>simp at hlr ⊢
  | cons d r =>
   have h1:2≤x.size-A:=by simp at hlr;omega
   by_cases e:d=61<;>simp [e,h1]
theorem field_nokind {l:List UInt8} (h:fieldB l=true):∀c∈l,isK c=false:=by
 intro c hc
 unfold fieldB spell at h
 cases l with
 | nil=>simp at hc
 | cons x r =>
  simp only [Bool.and_eq_true,List.all_eq_true] at h
  have key:lodB (c.toNat:Int)=true∨smallB (c.toNat:Int)=true:=by
   rcases List.mem_cons.1 hc with e|hc
   ·exact Or.inr (by rw [e];exact h.1.2)
   ·exact Or.inl (h.2 _ hc)
  cases ho:isK c with
  | false=>rfl
  | true =>
   rcases kind_sign ho with rfl|rfl|rfl|rfl|rfl<;>(rcases key with k|k<;>(revert k;decide))
theorem editO_back {x:Ed} (h1:namedE x=true) (h2:rightE x=true):editO (wordE x).data.toList=some x:=by
 obtain ⟨k,n,t⟩:=x
 have hr:(1≤k∧k≤5)∧(k≠4∨t.size=0):=by
  unfold rightE at h2
  simp only [Bool.and_eq_true,Bool.or_eq_true,decide_eq_true_eq] at h2
  exact h2
 obtain ⟨⟨hk1,hk5⟩,hk4⟩:=hr
 have hno:=field_nokind h1
 simp only at hno
 have key:∀(c:UInt8) (r:List UInt8),isK c=true→(n.data.toList++c::r).takeWhile (fun c=>!isK c)=n.data.toList∧(n.data.toList++c::r).dropWhile (fun c=>!isK c)=c::r:=fun c r hc=>by
  have hkl:n.data.toList.length<(n.data.toList++c::r).length:=by simp
  have hg:(n.data.toList++c::r)[n.data.toList.length]=c:=by simp
  obtain ⟨e1,e2⟩:=k_split hkl (by rw [List.take_left' rfl];exact hno) (by rw [hg];exact hc)
  rw [List.take_left' rfl] at e1
  rw [hg,show n.data.toList++c::r=(n.data.toList++[c])++r by simp,List.drop_left' (by simp)] at e2
  refine ⟨e1,?_⟩
  rw [show n.data.toList++c::r=(n.data.toList++[c])++r by simp]
  exact e2
 have hcs:k=1∨k=2∨k=3∨k=4∨k=5:=by omega
 have hback:(⟨n.data.toList.toArray⟩:ByteArray)=n:=ba_back n
 have htb:(⟨t.data.toList.toArray⟩:ByteArray)=t:=ba_back t
 rw [wordE_data]
 simp only
 rcases hcs with rfl|rfl|rfl|rfl|rfl
 ·obtain ⟨e1,e2⟩:=key 58 (61::writeL t.data.toList) rfl
  rw [show (signS 1).data.toList++writeL t.data.toList=58::61::writeL t.data.toList from rfl]
  unfold editO
  rw [e1,e2]
  simp only
  rw [if_neg (by decide),if_pos trivial,read_write]
  simp only
  rw [hback,htb]
  rfl
 ·obtain ⟨e1,e2⟩:=key 43 (61::writeL t.data.toList) rfl
  rw [show (signS 2).data.toList++writeL t.data.toList=43::61::writeL t.data.toList from rfl]
  unfold editO
  rw [e1,e2]
  simp only
  rw [if_neg (by decide),if_pos trivial,read_write]
  simp only
  rw [hback,htb]
  rfl
 ·obtain ⟨e1,e2⟩:=key 45 (61::writeL t.data.toList) rfl
  rw [show (signS 3).data.toList++writeL t.data.toList=45::61::writeL t.data.toList from rfl]
  unfold editO
  rw [e1,e2]
  simp only
  rw [if_neg (by decide),if_pos trivial,read_write]
  simp only
  rw [hback,htb]
  rfl
 ·have h0:t.size=0:=by
   rcases hk4 with h|h
   ·exact absurd rfl h
   ·exact h
  have ht:t=⟨#[]⟩:=ba_eq (List.length_eq_zero_iff.1 (by simpa using h0))
  subst ht
  obtain ⟨e1,e2⟩:=key 126 [] rfl
  rw [show (signS 4).data.toList++writeL (⟨#[]⟩:ByteArray).data.toList=[126] from rfl]
  unfold editO
  rw [e1,e2]
  simp only
  rw [if_pos (by decide),if_pos trivial,hback]
 ·obtain ⟨e1,e2⟩:=key 61 (61::writeL t.data.toList) rfl
  rw [show (signS 5).data.toList++writeL t.data.toList=61::61::writeL t.data.toList from rfl]
  unfold editO
  rw [e1,e2]
  simp only
  rw [if_neg (by decide),if_pos trivial,read_write]
  simp only
  rw [hback,htb]
  rfl
theorem edits_back (p:List Ed) (h:∀x∈p,namedE x=true∧rightE x=true):editsW ((p.map wordE).map (·.data.toList))=some p:=by
 induction p with
 | nil=>rfl
 | cons x p ih =>
  have hx:=h x (by simp)
  simp only [List.map_cons,editsW]
  rw [editO_back hx.1 hx.2,ih fun y hy=>h y (by simp [hy])]
  rfl
theorem sign_noblank (k:Int):(32:UInt8) ∉ (signS k).data.toList:=by
 unfold signS
 repeat' split
 all_goals decide
theorem wordE_noblank {x:Ed} (h1:namedE x=true):(32:UInt8) ∉ (wordE x).data.toList:=by
 rw [wordE_data,List.mem_append,List.mem_append]
 rintro (h|h|h)
 ·exact noblank_mem (field_noblank h1) h
 ·exact sign_noblank _ h
 ·exact noblank_mem (write_noblank _) h
def prE (l:List Ed):ByteArray:=if mayE l=0 then lineE l else ⟨#[]⟩
def codeL (o:Option (List Ed)):Int:=match o with|none=>4|some p=>mayE p
def ansL (o:Option (List Ed)):List Ed:=match o with|none=>[]|some p=>if mayE p=0 then p else []
end
section
open Go.RowKit
set_option maxHeartbeats 1000000 in
theorem id_any (n:Int) (w:World):Calls Tryz.prog 176 #[.int .u8 n] w fun e w'=>e=.returned (.bool (idB n))∧w'=w:=by
 go_enter Tryz.func176,Tryz.ntmps176
 go_wp2
 all_goals go_ret
 all_goals refine ⟨ret_bool ?_,rfl⟩
 all_goals (rw [Bool.eq_iff_iff];simp_all [idB,lodB,digB,letB,bigB,smallB];try omega)
set_option maxHeartbeats 1000000 in
theorem spelled_type (s:ByteArray) (w:World) (hs:s.size≤maxLen) :
  Calls Tryz.prog 109 #[.string s,.func (.func 112) #[] #[],.func (.func 113) #[] #[]] w fun e w'=>e=.returned (.bool (typeB s.data.toList))∧w'=w:=by
 unfold maxLen at hs
 by_cases he:s.size=0
 ·have hb:=spell_empty bigB letB s he
  have hlt:(s.size:Int)<1:=by omega
  have HB:Hid (spell bigB letB s.data.toList=false):=hb
  clear he hb
  go_enter Tryz.func109,Tryz.ntmps109
  go_wp2_with fail
  go_ret
  exact ⟨ret_bool HB.out.symm,rfl⟩
 have hpos:0<s.size:=by omega
 have hnl:¬ (s.size:Int)<1:=by omega
 by_cases hl:32<s.size
 ·have hb:=spell_long bigB letB s hl
  have HB:Hid (spell bigB letB s.data.toList=false):=hb
  have hgt:(32:Int)<(s.size:Int):=by omega
  clear he hb
  go_enter Tryz.func109,Tryz.ntmps109
  go_wp2_with fail
  go_ret
  exact ⟨ret_bool HB.out.symm,rfl⟩
 have hle:¬ (32:Int)<(s.size:Int):=by omega
 clear he
 cases hc:bigB (s[0].toNat:Int) with
 | false =>
  have HB:Hid (spell bigB letB s.data.toList=false):=spell_first bigB letB s hpos hc
  go_enter Tryz.func109,Tryz.ntmps109
  go_wp2_with (go_at_call 112;refine (big_any _ _).mono ?_;rintro e w' ⟨rfl,rfl⟩)
  go_ret
  exact ⟨ret_bool HB.out.symm,rfl⟩
 | true =>
  have HT:Hid ((∀k,1≤k→(hk:k<s.size)→letB (s[k].toNat:Int)=true)→spell bigB letB s.data.toList=true):=spell_true bigB letB s hpos (by omega) hc
  have HA:Hid (∀k,1≤k→(hk:k<s.size)→letB (s[k].toNat:Int)=false→spell bigB letB s.data.toList=false):=fun k h1 hk=>spell_at bigB letB s k h1 hk
  go_enter Tryz.func109,Tryz.ntmps109
  go_wp2_with (go_at_call 112;refine (big_any _ _).mono ?_;rintro e w' ⟨rfl,rfl⟩)
  go_loop [7] (fun i=>∃k:Nat,1≤k∧k≤s.size∧i=.int .i64 k∧(∀j,1≤j→j<k→(hj:j<s.size)→letB (s[j].toNat:Int)=true)) (fun i=>s.size-(intOf i).toNat)
  case atStart=>exact ⟨1,by omega,by omega,rfl,fun j h1 h2=>by omega⟩
  case round =>
   obtain ⟨k,hk1,hk,rfl,hall⟩:=hrel
   have HL:Hid (∀j,1≤j→j<k→(hj:j<s.size)→letB (s[j].toNat:Int)=true):=hall
   clear hall
   by_cases hlt:k<s.size
   ·cases hd:letB (s[k].toNat:Int) with
    | false =>
     go_wp2_with (go_at_call 113;refine (letter_any _ _).mono ?_;rintro e w' ⟨rfl,rfl⟩)
     go_ret
     exact ⟨ret_bool (HA.out k hk1 hlt hd).symm,rfl⟩
    | true =>
     go_wp2_with (go_at_call 113;refine (letter_any _ _).mono ?_;rintro e w' ⟨rfl,rfl⟩)
     go_round
     case rel =>
      refine ⟨k+1,by omega,by omega,by go_num,fun j h1 h2 hj=>?_⟩
      by_cases hjk:j=k
      ·subst hjk;exact hd
      ·exact HL.out j h1 (by omega) hj
     case measure=>simp [intOf];omega
   ·go_wp2_with fail
    go_ret
    exact ⟨ret_bool (HT.out fun j h1 hj=>HL.out j h1 (by omega) hj).symm,rfl⟩
set_option maxHeartbeats 1000000 in
theorem type_any (s:ByteArray) (w:World) (hs:s.size≤maxLen) :
  Calls Tryz.prog 70 #[.string s] w fun e w'=>e=.returned (.bool (typeB s.data.toList))∧w'=w:=by
 go_enter Tryz.func70,Tryz.ntmps70
 go_wp2_with (go_at_call 109;refine (spelled_type _ _ hs).mono ?_;rintro e w' ⟨rfl,rfl⟩)
 go_ret
 exact ⟨rfl,rfl⟩
set_option maxHeartbeats 1000000 in
theorem spelled_iden (s:ByteArray) (w:World) (hs:s.size≤maxLen) :
  Calls Tryz.prog 109 #[.string s,.func (.func 176) #[] #[],.func (.func 176) #[] #[]] w fun e w'=>e=.returned (.bool (idenB s.data.toList))∧w'=w:=by
 unfold maxLen at hs
 by_cases he:s.size=0
 ·have hb:=spell_empty idB idB s he
  have hlt:(s.size:Int)<1:=by omega
  have HB:Hid (spell idB idB s.data.toList=false):=hb
  clear he hb
  go_enter Tryz.func109,Tryz.ntmps109
  go_wp2_with fail
  go_ret
  exact ⟨ret_bool HB.out.symm,rfl⟩
 have hpos:0<s.size:=by omega
 have hnl:¬ (s.size:Int)<1:=by omega
 by_cases hl:32<s.size
 ·have hb:=spell_long idB idB s hl
  have HB:Hid (spell idB idB s.data.toList=false):=hb
  have hgt:(32:Int)<(s.size:Int):=by omega
  clear he hb
  go_enter Tryz.func109,Tryz.ntmps109
  go_wp2_with fail
  go_ret
  exact ⟨ret_bool HB.out.symm,rfl⟩
 have hle:¬ (32:Int)<(s.size:Int):=by omega
 clear he
 cases hc:idB (s[0].toNat:Int) with
 | false =>
  have HB:Hid (spell idB idB s.data.toList=false):=spell_first idB idB s hpos hc
  go_enter Tryz.func109,Tryz.ntmps109
  go_wp2_with (go_at_call 176;refine (id_any _ _).mono ?_;rintro e w' ⟨rfl,rfl⟩)
  go_ret
  exact ⟨ret_bool HB.out.symm,rfl⟩
 | true =>
  have HT:Hid ((∀k,1≤k→(hk:k<s.size)→idB (s[k].toNat:Int)=true)→spell idB idB s.data.toList=true):=spell_true idB idB s hpos (by omega) hc
  have HA:Hid (∀k,1≤k→(hk:k<s.size)→idB (s[k].toNat:Int)=false→spell idB idB s.data.toList=false):=fun k h1 hk=>spell_at idB idB s k h1 hk
  go_enter Tryz.func109,Tryz.ntmps109
  go_wp2_with (go_at_call 176;refine (id_any _ _).mono ?_;rintro e w' ⟨rfl,rfl⟩)
  go_loop [7] (fun i=>∃k:Nat,1≤k∧k≤s.size∧i=.int .i64 k∧(∀j,1≤j→j<k→(hj:j<s.size)→idB (s[j].toNat:Int)=true)) (fun i=>s.size-(intOf i).toNat)
  case atStart=>exact ⟨1,by omega,by omega,rfl,fun j h1 h2=>by omega⟩
  case round =>
   obtain ⟨k,hk1,hk,rfl,hall⟩:=hrel
   have HL:Hid (∀j,1≤j→j<k→(hj:j<s.size)→idB (s[j].toNat:Int)=true):=hall
   clear hall
   by_cases hlt:k<s.size
   ·cases hd:idB (s[k].toNat:Int) with
    | false =>
     go_wp2_with (go_at_call 176;refine (id_any _ _).mono ?_;rintro e w' ⟨rfl,rfl⟩)
     go_ret
     exact ⟨ret_bool (HA.out k hk1 hlt hd).symm,rfl⟩
    | true =>
     go_wp2_with (go_at_call 176;refine (id_any _ _).mono ?_;rintro e w' ⟨rfl,rfl⟩)
     go_round
     case rel =>
      refine ⟨k+1,by omega,by omega,by go_num,fun j h1 h2 hj=>?_⟩
      by_cases hjk:j=k
      ·subst hjk;exact hd
      ·exact HL.out j h1 (by omega) hj
     case measure=>simp [intOf];omega
   ·go_wp2_with fail
    go_ret
    exact ⟨ret_bool (HT.out fun j h1 hj=>HL.out j h1 (by omega) hj).symm,rfl⟩
set_option maxHeartbeats 1000000 in
theorem iden_any (s:ByteArray) (w:World) (hs:s.size≤maxLen) :
  Calls Tryz.prog 138 #[.string s] w fun e w'=>e=.returned (.bool (idenB s.data.toList))∧w'=w:=by
 go_enter Tryz.func138,Tryz.ntmps138
 go_wp2_with (go_at_call 109;refine (spelled_iden _ _ hs).mono ?_;rintro e w' ⟨rfl,rfl⟩)
 go_ret
 exact ⟨rfl,rfl⟩
set_option maxHeartbeats 1000000 in
theorem spelled_temp (s:ByteArray) (w:World) (hs:s.size≤maxLen) :
  Calls Tryz.prog 109 #[.string s,.func (.func 110) #[] #[],.func (.func 110) #[] #[]] w fun e w'=>e=.returned (.bool (tempB s.data.toList))∧w'=w:=by
 unfold maxLen at hs
 by_cases he:s.size=0
 ·have hb:=spell_empty lodB lodB s he
  have hlt:(s.size:Int)<1:=by omega
  have HB:Hid (spell lodB lodB s.data.toList=false):=hb
  clear he hb
  go_enter Tryz.func109,Tryz.ntmps109
  go_wp2_with fail
  go_ret
  exact ⟨ret_bool HB.out.symm,rfl⟩
 have hpos:0<s.size:=by omega
 have hnl:¬ (s.size:Int)<1:=by omega
 by_cases hl:32<s.size
 ·have hb:=spell_long lodB lodB s hl
  have HB:Hid (spell lodB lodB s.data.toList=false):=hb
  have hgt:(32:Int)<(s.size:Int):=by omega
  clear he hb
  go_enter Tryz.func109,Tryz.ntmps109
  go_wp2_with fail
  go_ret
  exact ⟨ret_bool HB.out.symm,rfl⟩
 have hle:¬ (32:Int)<(s.size:Int):=by omega
 clear he
 cases hc:lodB (s[0].toNat:Int) with
 | false =>
  have HB:Hid (spell lodB lodB s.data.toList=false):=spell_first lodB lodB s hpos hc
  go_enter Tryz.func109,Tryz.ntmps109
  go_wp2_with (go_at_call 110;refine (lod_any _ _).mono ?_;rintro e w' ⟨rfl,rfl⟩)
  go_ret
  exact ⟨ret_bool HB.out.symm,rfl⟩
 | true =>
  have HT:Hid ((∀k,1≤k→(hk:k<s.size)→lodB (s[k].toNat:Int)=true)→spell lodB lodB s.data.toList=true):=spell_true lodB lodB s hpos (by omega) hc
  have HA:Hid (∀k,1≤k→(hk:k<s.size)→lodB (s[k].toNat:Int)=false→spell lodB lodB s.data.toList=false):=fun k h1 hk=>spell_at lodB lodB s k h1 hk
  go_enter Tryz.func109,Tryz.ntmps109
  go_wp2_with (go_at_call 110;refine (lod_any _ _).mono ?_;rintro e w' ⟨rfl,rfl⟩)
  go_loop [7] (fun i=>∃k:Nat,1≤k∧k≤s.size∧i=.int .i64 k∧(∀j,1≤j→j<k→(hj:j<s.size)→lodB (s[j].toNat:Int)=true)) (fun i=>s.size-(intOf i).toNat)
  case atStart=>exact ⟨1,by omega,by omega,rfl,fun j h1 h2=>by omega⟩
  case round =>
   obtain ⟨k,hk1,hk,rfl,hall⟩:=hrel
   have HL:Hid (∀j,1≤j→j<k→(hj:j<s.size)→lodB (s[j].toNat:Int)=true):=hall
   clear hall
   by_cases hlt:k<s.size
   ·cases hd:lodB (s[k].toNat:Int) with
    | false =>
     go_wp2_with (go_at_call 110;refine (lod_any _ _).mono ?_;rintro e w' ⟨rfl,rfl⟩)
     go_ret
     exact ⟨ret_bool (HA.out k hk1 hlt hd).symm,rfl⟩
    | true =>
     go_wp2_with (go_at_call 110;refine (lod_any _ _).mono ?_;rintro e w' ⟨rfl,rfl⟩)
     go_round
     case rel =>
      refine ⟨k+1,by omega,by omega,by go_num,fun j h1 h2 hj=>?_⟩
      by_cases hjk:j=k
      ·subst hjk;exact hd
      ·exact HL.out j h1 (by omega) hj
     case measure=>simp [intOf];omega
   ·go_wp2_with fail
    go_ret
    exact ⟨ret_bool (HT.out fun j h1 hj=>HL.out j h1 (by omega) hj).symm,rfl⟩
set_option maxHeartbeats 1000000 in
theorem temp_any (s:ByteArray) (w:World) (hs:s.size≤maxLen) :
  Calls Tryz.prog 68 #[.string s] w fun e w'=>e=.returned (.bool (tempB s.data.toList))∧w'=w:=by
 go_enter Tryz.func68,Tryz.ntmps68
 go_wp2_with (go_at_call 109;refine (spelled_temp _ _ hs).mono ?_;rintro e w' ⟨rfl,rfl⟩)
 go_ret
 exact ⟨rfl,rfl⟩
end
section
open Go.RowKit
def keyB (a b:ByteArray):Bool:=typeB a.data.toList&&idenB b.data.toList
theorem bcell {W w1:World} (hb:Below W.heap.size W w1):(∀b o,b<W.heap.size→w1.cell? ⟨b,o,none⟩=W.cell? ⟨b,o,none⟩)∧(∀b o,b<W.heap.size→w1.frozen? ⟨b,o,none⟩=W.frozen? ⟨b,o,none⟩) :=
 ⟨fun b o h=>hb.cell (p:=⟨b,o,none⟩) h,fun b o h=>hb.frozen (p:=⟨b,o,none⟩) h⟩
set_option maxHeartbeats 400000 in
theorem key_any (a b:ByteArray) (w:World) (ha:a.size≤maxLen) (hb:b.size≤maxLen) :
  Calls Tryz.prog 97 #[.agg #[.string a,.string b]] w fun e w'=>e=.returned (.bool (keyB a b))∧Below w.heap.size w w':=by
 have HK:Hid (keyB a b=(typeB a.data.toList&&idenB b.data.toList)):=rfl
 cases ht:typeB a.data.toList
 all_goals
  go_enter Tryz.func97,Tryz.ntmps97
  go_wp2_with (first|(go_at_call 70;refine (type_any _ _ ha).mono ?_;rintro e w' ⟨rfl,rfl⟩)|(go_at_call 138;refine (iden_any _ _ hb).mono ?_;rintro e w' ⟨rfl,rfl⟩))
  go_ret
  exact ⟨ret_bool (by rw [HK.out,ht];rfl),(Below.refl _ _).alloc (Nat.le_refl _) _⟩
set_option maxHeartbeats 400000 in
theorem nprint_yes (a b:ByteArray) (w:World) (ha:a.size≤maxLen) (hb:b.size≤maxLen) (ha32:a.size≤32) (hb32:b.size≤32) (hk:keyB a b=true) :
  Calls Tryz.prog 87 #[.agg #[.string a,.string b]] w fun e w'=>e=.returned (.tuple #[.string (a++⟨#[47]⟩++b),.int .i64 0])∧Below w.heap.size w w':=by
 go_enter Tryz.func87,Tryz.ntmps87
 go_wp2_with (go_at_call 97;refine (key_any _ _ _ ha hb).mono ?_;rintro e w1 ⟨rfl,hq⟩;obtain ⟨hc,hf⟩:=bcell hq)
 go_ret2
 refine ⟨?_,((Below.refl _ _).alloc (Nat.le_refl _) _).trans (hq.mono (by simp))⟩
 rfl
theorem typeB_len {l:List UInt8} (h:typeB l=true):l.length≤32:=by
 cases l with
 | nil=>simp
 | cons c r=>simp [typeB,spell] at h;simp;omega
theorem idenB_len {l:List UInt8} (h:idenB l=true):l.length≤32:=by
 cases l with
 | nil=>simp
 | cons c r=>simp [idenB,spell] at h;simp;omega
theorem idenB_empty:idenB []=false:=rfl
theorem keyB_empty (a:ByteArray):keyB a ⟨#[]⟩=false:=by
 unfold keyB
 rw [show (⟨#[]⟩:ByteArray).data.toList=[] from rfl,idenB_empty,Bool.and_false]
theorem ext_size (s:ByteArray) (i j:Nat) (h:s.size≤maxLen):(s.extract i j).size≤maxLen:=by
 have:(s.extract i j).size≤s.size:=by simp;omega
 omega
set_option maxHeartbeats 400000 in
theorem parse_bare (s:ByteArray) (w:World) (hs:s.size≤maxLen) (hix:Lib.indexByte s.data.toList 47=-1) :
  Calls Tryz.prog 69 #[.string s] w fun e w'=>e=.returned (.tuple #[.agg #[.string ⟨#[]⟩,.string ⟨#[]⟩],.int .i64 2])∧Below w.heap.size w w':=by
 have HX:Hid (Lib.indexByte s.data.toList 47=-1):=hix
 clear hix
 have hk:=keyB_empty s
 have h0:(⟨#[]⟩:ByteArray).size≤maxLen:=by decide
 go_enter Tryz.func69,Tryz.ntmps69
 go_wp2_with (first|(go_at_call 111;refine (cut_no _ _ _ HX.out).mono ?_;rintro e w' ⟨rfl,rfl⟩)|(go_at_call 97;refine (key_any _ _ _ hs h0).mono ?_;rintro e w1 ⟨rfl,hq⟩;obtain ⟨hc,hf⟩:=bcell hq))
 have c0:w1.cell? ⟨w.heap.size,0,none⟩=some (.string ⟨#[]⟩):=by rw [hc _ _ (by simp;omega)];simp [go_sem]
 have c1:w1.cell? ⟨w.heap.size,1,none⟩=some (.string ⟨#[]⟩):=by rw [hc _ _ (by simp;omega)];simp [go_sem]
 exact bodyPost_ret (v:=.tuple #[.agg #[.string ⟨#[]⟩,.string ⟨#[]⟩],.int .i64 2]) (by simp [results,Tryz.results69,go_sem,c0,c1]) rfl
  ⟨rfl,(((((Below.refl _ _).alloc (Nat.le_refl _) _).alloc (by simp) _).trans (hq.mono (by simp;omega))).setCell (by simp) _).setCell (by simp) _⟩
set_option maxHeartbeats 400000 in
theorem parse_no (s:ByteArray) (w:World) (hs:s.size≤maxLen) (i:Nat) (hix:Lib.indexByte s.data.toList 47=(i:Int)) (hi:i<s.size)
  (hk:keyB (s.extract 0 i) (s.extract (i+1) s.size)=false) :
  Calls Tryz.prog 69 #[.string s] w fun e w'=>e=.returned (.tuple #[.agg #[.string ⟨#[]⟩,.string ⟨#[]⟩],.int .i64 2])∧Below w.heap.size w w':=by
 have HX:Hid (Lib.indexByte s.data.toList 47=(i:Int)):=hix
 have h1:=ext_size s 0 i hs
 have h2:=ext_size s (i+1) s.size hs
 have HH:Hid (i<s.size∧s.size≤maxLen∧(s.extract 0 i).size≤maxLen∧(s.extract (i+1) s.size).size≤maxLen):=⟨hi,hs,h1,h2⟩
 clear hix hi hs h1 h2
 go_enter Tryz.func69,Tryz.ntmps69
 go_wp2_with (first|(go_at_call 111;refine (cut_yes _ _ _ i HX.out HH.out.1 HH.out.2.1).mono ?_;rintro e w' ⟨rfl,n,rfl⟩)|(go_at_call 97;refine (key_any _ _ _ HH.out.2.2.1 HH.out.2.2.2).mono ?_;rintro e w1 ⟨rfl,hq⟩;obtain ⟨hc,hf⟩:=bcell hq))
 have c0:w1.cell? ⟨w.heap.size,0,none⟩=some (.string ⟨#[]⟩):=by rw [hc _ _ (by simp;omega)];simp [go_sem]
 have c1:w1.cell? ⟨w.heap.size,1,none⟩=some (.string ⟨#[]⟩):=by rw [hc _ _ (by simp;omega)];simp [go_sem]
 exact bodyPost_ret (v:=.tuple #[.agg #[.string ⟨#[]⟩,.string ⟨#[]⟩],.int .i64 2]) (by simp [results,Tryz.results69,go_sem,c0,c1]) rfl
  ⟨rfl,((((_root_.Go.below_drewN ((Below.refl _ _).alloc (Nat.le_refl _) _) _).alloc (by simp) _).trans (hq.mono (by simp;omega))).setCell (by simp) _).setCell (by simp) _⟩
set_option maxHeartbeats 400000 in
theorem parse_yes (s:ByteArray) (w:World) (hs:s.size≤maxLen) (i:Nat) (hix:Lib.indexByte s.data.toList 47=(i:Int)) (hi:i<s.size)
  (hk:keyB (s.extract 0 i) (s.extract (i+1) s.size)=true) :
  Calls Tryz.prog 69 #[.string s] w fun e w'=>e=.returned (.tuple #[.agg #[.string (s.extract 0 i),.string (s.extract (i+1) s.size)],.int .i64 0])∧Below w.heap.size w w':=by
 have HX:Hid (Lib.indexByte s.data.toList 47=(i:Int)):=hix
 have h1:=ext_size s 0 i hs
 have h2:=ext_size s (i+1) s.size hs
 have HH:Hid (i<s.size∧s.size≤maxLen∧(s.extract 0 i).size≤maxLen∧(s.extract (i+1) s.size).size≤maxLen):=⟨hi,hs,h1,h2⟩
 clear hix hi hs h1 h2
 go_enter Tryz.func69,Tryz.ntmps69
 go_wp2_with (first|(go_at_call 111;refine (cut_yes _ _ _ i HX.out HH.out.1 HH.out.2.1).mono ?_;rintro e w' ⟨rfl,n,rfl⟩)|(go_at_call 97;refine (key_any _ _ _ HH.out.2.2.1 HH.out.2.2.2).mono ?_;rintro e w1 ⟨rfl,hq⟩;obtain ⟨hc,hf⟩:=bcell hq))
 have c0:w1.cell? ⟨w.heap.size,0,none⟩=some (.string ⟨#[]⟩):=by rw [hc _ _ (by simp;omega)];simp [go_sem]
 have c1:w1.cell? ⟨w.heap.size,1,none⟩=some (.string ⟨#[]⟩):=by rw [hc _ _ (by simp;omega)];simp [go_sem]
 exact bodyPost_ret (v:=.tuple #[.agg #[.string (s.extract 0 i),.string (s.extract (i+1) s.size)],.int .i64 0]) (by simp [results,Tryz.results69,go_sem,c0,c1]) rfl
  ⟨rfl,((((_root_.Go.below_drewN ((Below.refl _ _).alloc (Nat.le_refl _) _) _).alloc (by simp) _).trans (hq.mono (by simp;omega))).setCell (by simp) _).setCell (by simp) _⟩
end
section
open Go.RowKit Go.Lib
structure En where
 kind:Int
 temp:ByteArray
 ka:ByteArray
 kb:ByteArray
 iff:Int
 val:List Fld
 eds:List Ed
 pred:List Tm
 stamp:Int
 num:Int
def nameN:Nat→List UInt8
 | 1=>[99,114,101,97,116,101]
 | 2=>[101,110,115,117,114,101]
 | 3=>[117,112,100,97,116,101]
 | 4=>[112,97,116,99,104]
 | 5=>[100,101,108,101,116,101]
 | 6=>[114,101,97,100]
 | 7=>[110,117,109,98,101,114]
 | 8=>[115,101,97,114,99,104]
 | 9=>[104,105,115,116,111,114,121]
 | 10=>[115,105,110,99,101]
 | 11=>[97,116]
 | 12=>[102,105,110,100]
 | _=>[]
def nameK (k:Int):List UInt8:=nameN k.toNat
def typedK (k:Int):Bool:=decide (k=8)||decide (k=10)||decide (k=12)
def keyEn (e:En):Bool:=if typedK e.kind=true then decide (e.kb=⟨#[]⟩)&&typeB e.ka.data.toList else keyB e.ka e.kb
def mayEn (e:En):Bool :=
 decide (1≤e.kind∧e.kind≤12)&&keyEn e &&
 (decide (e.temp=⟨#[]⟩)||decide (e.kind≤2)&&tempB e.temp.data.toList) &&
 decide (e.iff≠0→3≤e.kind∧e.kind≤5∧0≤e.iff∧e.iff≤999999999) &&
 decide (e.num≠0→e.kind=7∧0≤e.num∧e.num≤999999999) &&
 decide (e.stamp≠0→9≤e.kind) &&
 decide (e.val≠[]→e.kind≤3)&&mayB e.val &&
 decide (e.eds≠[]↔e.kind=4)&&decide (mayE e.eds=0) &&
 (decide (mayM e.pred=0)&&decide (sortM e.pred=e.pred))&&decide (e.pred≠[]→e.kind=2∨e.kind=8∨e.kind=12)
def mayRq (l:List En):Bool:=decide (0<l.length)&&decide (l.length≤16)&&l.all mayEn
def bytesL (l:List ByteArray):List (List UInt8):=l.map (·.data.toList)
def keyWd (e:En):List UInt8:=e.ka.data.toList++(if e.kb=⟨#[]⟩ then [] else 47::e.kb.data.toList)
def tailW (e:En):List (List UInt8) :=
 if e.kind=2 then bytesL (wordsL e.val)++[63]::bytesL (e.pred.map wordM)
 else if e.kind=7 then [decL e.num.toNat]
 else if e.kind=9∨e.kind=10 then [decL e.stamp.toNat]
 else (if 0<e.iff then [[105,102],decL e.iff.toNat] else [])++(bytesL (wordsL e.val)++(bytesL (e.eds.map wordE)++bytesL (e.pred.map wordM)))
def wordsEn (e:En):List (List UInt8) :=
 nameK e.kind::((if e.temp=⟨#[]⟩ then [] else [64::e.temp.data.toList])++((if e.kind=11∨e.kind=12 then [decL e.stamp.toNat] else [])++keyWd e::tailW e))
def kindW (x:List UInt8):Nat:=if x=[] then 0 else ((List.range 13).find? fun k=>decide (nameN k=x)).getD 0
def keyR (x:List UInt8):Option (ByteArray × ByteArray) :=
 if Lib.indexByte x 47=-1 then none
 else
  let i:=(Lib.indexByte x 47).toNat
  if keyB ⟨(x.take i).toArray⟩ ⟨(x.drop (i+1)).toArray⟩=true then some (⟨(x.take i).toArray⟩,⟨(x.drop (i+1)).toArray⟩) else none
def valR (w:List (List UInt8)):Option (List Fld):=(fieldsW w).bind fun fs=>if codeF fs=0 then some (ansF fs) else none
def edsR (w:List (List UInt8)):Option (List Ed):=if codeL (editsW w)=0 then some (ansL (editsW w)) else none
def prdR (w:List (List UInt8)):Option (List Tm):=if codeW (termsW w)=0 then some (ansW (termsW w)) else none
def restR (e:En) (w:List (List UInt8)):Option En :=
 if e.kind=1∨e.kind=3 then (valR w).map fun v=>{ e with val:=v }
 else if e.kind=2 then
  if [63]∈w then (valR (w.takeWhile fun x=>decide (x≠[63]))).bind fun v=>(prdR ((w.dropWhile fun x=>decide (x≠[63])).drop 1)).map fun p=>{ e with val:=v,pred:=p }
  else none
 else if e.kind=4 then (edsR w).map fun d=>{ e with eds:=d }
 else if e.kind=5 then if w=[] then some e else none
 else (prdR w).map fun p=>{ e with pred:=p }
def smallR (x:Option (List UInt8)):Option Nat:=x.bind (numL 999999999)
def stampR (x:Option (List UInt8)):Option Nat:=x.bind (numL 18446744073709551615)
def tailR (e:En) (w:List (List UInt8)):Option En :=
 if e.kind=7 then if w.length=1 then (smallR w[0]?).map fun n=>{ e with num:=n } else none
 else if e.kind=9∨e.kind=10 then if w.length=1 then (stampR w[0]?).map fun n=>{ e with stamp:=n } else none
 else if e.kind=6∨e.kind=11 then if w=[] then some e else none
 else if 3≤e.kind∧e.kind≤5∧w[0]? = some [105,102] then (smallR w[1]?).bind fun n=>if n=0 then none else restR { e with iff:=n } (w.drop 2)
 else restR e w
def keyT (e:En):List (List UInt8)→Option En
 | []=>none
 | x::w =>
  if typedK e.kind=true then tailR { e with ka:=⟨x.toArray⟩ } w
  else (keyR x).bind fun k=>tailR { e with ka:=k.1,kb:=k.2 } w
def stampT (e:En) (w:List (List UInt8)):Option En :=
 if 10<e.kind then (stampR w[0]?).bind fun n=>keyT { e with stamp:=n } (w.drop 1) else keyT e w
def zeroEn (k:Int):En:=⟨k,⟨#[]⟩,⟨#[]⟩,⟨#[]⟩,0,[],[],[],0,0⟩
def tempT (e:En):List (List UInt8)→Option En
 | (64::t)::w=>if e.kind≤2 then if t=[] then none else stampT { e with temp:=⟨t.toArray⟩ } w else stampT e ((64::t)::w)
 | w=>stampT e w
def entryR:List (List UInt8)→Option En
 | []=>none
 | x::w=>if kindW x=0 then none else tempT (zeroEn (kindW x)) w
def entriesW:List En→List (List UInt8)
 | []=>[]
 | [e]=>wordsEn e
 | e::f::l=>wordsEn e++[59]::entriesW (f::l)
def cutSemi:List (List UInt8)→List (List (List UInt8))
 | []=>[[]]
 | x::w=>if x=[59] then []::cutSemi w else match cutSemi w with
  | []=>[[x]]
  | c::cs=>(x::c)::cs
def entriesR:List (List (List UInt8))→Option (List En)
 | []=>some []
 | c::cs=>(entryR c).bind fun e=>(entriesR cs).map (e :: ·)
def onceW:List UInt8:=[111,110,99,101]
def wordsRq (once:Bool) (l:List En):List (List UInt8):=(if once=true then [onceW] else [])++entriesW l
def readRq (w:List (List UInt8)):Option (Bool × List En) :=
 let once:=decide (w.head? = some onceW)
 (entriesR (cutSemi (if once=true then w.drop 1 else w))).bind fun l=>if mayRq l=true then some (once,l) else none
theorem kind_name:∀k:Nat,1≤k→k≤12→kindW (nameN k)=k:=by
 intro k h1 h2
 match k with
 | 1|2|3|4|5|6|7|8|9|10|11|12=>decide
 | 0=>omega
 | n+13=>omega
theorem cutSemi_no:∀w:List (List UInt8),(∀x∈w,x≠[59])→cutSemi w=[w]
 | [],_=>rfl
 | x::w,h=>by
  have ih:=cutSemi_no w fun y hy=>h y (by simp [hy])
  simp only [cutSemi,ih]
  rw [if_neg (h x (by simp))]
theorem cutSemi_at:∀(w v:List (List UInt8)),(∀x∈w,x≠[59])→cutSemi (w++[59]::v)=w::cutSemi v
 | [],v,_=>by simp only [List.nil_append,cutSemi];rfl
 | x::w,v,h=>by
  have ih:=cutSemi_at w v fun y hy=>h y (by simp [hy])
  simp only [List.cons_append,cutSemi,ih]
  rw [if_neg (h x (by simp))]
theorem cut_entries:∀l:List En,l≠[]→(∀e∈l,∀x∈wordsEn e,x≠[59])→cutSemi (entriesW l)=l.map wordsEn
 | [],h,_=>absurd rfl h
 | [e],_,h=>by
  simp only [entriesW,List.map_cons,List.map_nil]
  exact cutSemi_no _ (h e (by simp))
 | e::f::l,_,h=>by
  have ih:=cut_entries (f::l) (by simp) fun g hg=>h g (by simp [hg])
  simp only [entriesW]
  rw [cutSemi_at _ _ (h e (by simp)),ih]
  rfl
theorem read_entries (l:List En) (h:∀e∈l,entryR (wordsEn e)=some e):entriesR (l.map wordsEn)=some l:=by
 induction l with
 | nil=>rfl
 | cons e l ih =>
  simp only [List.map_cons,entriesR]
  rw [h e (by simp),ih fun g hg=>h g (by simp [hg])]
  rfl
end
section
open Go.RowKit Go.Lib
structure MayP (e:En):Prop where
 k1:1≤e.kind
 k2:e.kind≤12
 key:keyEn e=true
 tmp:e.temp=⟨#[]⟩∨e.kind≤2∧tempB e.temp.data.toList=true
 iff:e.iff≠0→3≤e.kind∧e.kind≤5∧0≤e.iff∧e.iff≤999999999
 num:e.num≠0→e.kind=7∧0≤e.num∧e.num≤999999999
 stamp:e.stamp≠0→9≤e.kind
 val:e.val≠[]→e.kind≤3
 mayv:mayB e.val=true
 eds:e.eds≠[]↔e.kind=4
 maye:mayE e.eds=0
 mayp:mayM e.pred=0
 srt:sortM e.pred=e.pred
 pred:e.pred≠[]→e.kind=2∨e.kind=8∨e.kind=12
theorem mayEn_parts {e:En} (h:mayEn e=true):MayP e:=by
 unfold mayEn at h
 simp only [Bool.and_eq_true,Bool.or_eq_true,decide_eq_true_eq] at h
 obtain ⟨⟨⟨⟨⟨⟨⟨⟨⟨⟨⟨⟨h1,h2⟩,h3⟩,h4⟩,h5⟩,h6⟩,h7⟩,h8⟩,h9⟩,h10⟩,h11⟩,⟨h12,h13⟩⟩,h14⟩:=h
 exact ⟨h1,h2,h3,h4,h5,h6,h7,h8,h9,h10,h11,h12,h13,h14⟩
theorem val_back {v:List Fld} (h:mayB v=true):valR (bytesL (wordsL v))=some v:=by
 unfold valR bytesL
 rw [words_back v fun f hf=>(fits_parts (may_fits h f hf)).2.2.2.2]
 simp only [Option.bind_some]
 rw [(norm_singles h).1,if_pos rfl,(norm_singles h).2]
theorem eds_back {p:List Ed} (h:mayE p=0):edsR (bytesL (p.map wordE))=some p:=by
 obtain ⟨_,h1,h2,_⟩:=mayE_zero h
 unfold edsR bytesL
 rw [edits_back p fun x hx=>⟨h1 x hx,h2 x hx⟩]
 have e:codeL (some p)=0:=h
 rw [if_pos e]
 show some (if mayE p=0 then p else [])=some p
 rw [if_pos h]
theorem prd_back {p:List Tm} (h:mayM p=0) (hs:sortM p=p):prdR (bytesL (p.map wordM))=some p:=by
 obtain ⟨_,h1,h2,_⟩:=mayM_zero h
 unfold prdR bytesL
 rw [terms_back p fun x hx=>⟨List.all_eq_true.1 h1 x hx,List.all_eq_true.1 h2 x hx⟩]
 have e:codeW (some p)=0:=h
 rw [if_pos e]
 show some (if mayM p=0 then sortM p else [])=some p
 rw [if_pos h,hs]
theorem field_pos {l:List UInt8} (h:fieldB l=true):0<l.length:=by
 cases l with
 | nil=>cases h
 | cons x r=>simp
theorem valW_is {v:List Fld} (h:mayB v=true):∀x∈bytesL (wordsL v),2≤x.length∧61∈x∧32 ∉ x:=by
 intro x hx
 obtain ⟨y,hy,rfl⟩:=List.mem_map.1 hx
 obtain ⟨f,hf,hy⟩:=List.mem_flatMap.1 hy
 obtain ⟨t,_,rfl⟩:=List.mem_map.1 hy
 have hn:=(fits_parts (may_fits h f hf)).2.2.2.2
 have:=field_pos hn
 refine ⟨?_,?_,noblank_mem (word_noblank hn)⟩
 ·simp only [word_data,List.length_append,List.length_cons,List.length_nil];omega
 ·simp [word_data]
theorem edsW_is {p:List Ed} (h:mayE p=0):∀x∈bytesL (p.map wordE),2≤x.length∧(61∈x∨126∈x)∧32 ∉ x:=by
 intro x hx
 obtain ⟨y,hy,rfl⟩:=List.mem_map.1 hx
 obtain ⟨z,hz,rfl⟩:=List.mem_map.1 hy
 have hn:=(mayE_zero h).2.1 z hz
 have:=field_pos hn
 have hs:=(sign_size z.1).2
 refine ⟨?_,?_,wordE_noblank hn⟩
 ·have e:(signS z.1).data.toList.length=(signS z.1).size:=by simp
  simp only [wordE_data,List.length_append]
  omega
 ·rw [wordE_data]
  have:61∈(signS z.1).data.toList∨126∈(signS z.1).data.toList:=by
   unfold signS
   repeat' split
   all_goals decide
  rcases this with h|h
  ·exact .inl (by simp [h])
  ·exact .inr (by simp [h])
theorem prdW_is {p:List Tm} (h:mayM p=0):∀x∈bytesL (p.map wordM),2≤x.length∧32 ∉ x:=by
 intro x hx
 obtain ⟨y,hy,rfl⟩:=List.mem_map.1 hx
 obtain ⟨z,hz,rfl⟩:=List.mem_map.1 hy
 have hn:=List.all_eq_true.1 (mayM_zero h).2.1 z hz
 have:=field_pos hn
 refine ⟨?_,wordM_noblank hn⟩
 simp only [wordM_data,List.length_append,List.length_cons];omega
theorem type_head {l:List UInt8} (h:typeB l=true):∃c r,l=c::r∧65≤c.toNat∧c.toNat≤90:=by
 cases l with
 | nil=>cases h
 | cons c r =>
  unfold typeB spell at h
  simp only [Bool.and_eq_true] at h
  have hb:=h.1.2
  unfold bigB at hb
  simp only [Bool.and_eq_true,decide_eq_true_eq] at hb
  exact ⟨c,r,rfl,by omega,by omega⟩
theorem type_no47 {l:List UInt8} (h:typeB l=true):(47:UInt8) ∉ l∧(32:UInt8) ∉ l:=by
 cases l with
 | nil=>cases h
 | cons c r =>
  unfold typeB spell at h
  simp only [Bool.and_eq_true,List.all_eq_true] at h
  have key:∀x:UInt8,x∈c::r→letB (x.toNat:Int)=true:=by
   intro x hx
   rcases List.mem_cons.1 hx with e|hx
   ·subst e;unfold letB;rw [h.1.2];rfl
   ·exact h.2 x hx
  exact ⟨fun hm=>absurd (key 47 hm) (by decide),fun hm=>absurd (key 32 hm) (by decide)⟩
theorem iden_is {l:List UInt8} (h:idenB l=true):l≠[]∧(32:UInt8) ∉ l:=by
 cases l with
 | nil=>cases h
 | cons c r =>
  unfold idenB spell at h
  simp only [Bool.and_eq_true,List.all_eq_true] at h
  have key:∀x:UInt8,x∈c::r→idB (x.toNat:Int)=true:=by
   intro x hx
   rcases List.mem_cons.1 hx with e|hx
   ·subst e;exact h.1.2
   ·exact h.2 x hx
  exact ⟨by simp,fun hm=>absurd (key 32 hm) (by decide)⟩
theorem temp_is {l:List UInt8} (h:tempB l=true):l≠[]∧(32:UInt8) ∉ l:=by
 cases l with
 | nil=>cases h
 | cons c r =>
  unfold tempB spell at h
  simp only [Bool.and_eq_true,List.all_eq_true] at h
  have key:∀x:UInt8,x∈c::r→lodB (x.toNat:Int)=true:=by
   intro x hx
   rcases List.mem_cons.1 hx with e|hx
   ·subst e;exact h.1.2
   ·exact h.2 x hx
  exact ⟨by simp,fun hm=>absurd (key 32 hm) (by decide)⟩
theorem ba_empty {b:ByteArray} (h:b.data.toList=[]):b=⟨#[]⟩:=by
 obtain ⟨⟨l⟩⟩:=b
 simp only at h
 subst h;rfl
theorem keyB_two {a b:ByteArray} (h:keyB a b=true):typeB a.data.toList=true∧idenB b.data.toList=true:=by
 unfold keyB at h;simpa only [Bool.and_eq_true] using h
theorem keyT_cons (f:En) (x:List UInt8) (w:List (List UInt8)) :
  keyT f (x::w)=if typedK f.kind=true then tailR { f with ka:=⟨x.toArray⟩ } w else (keyR x).bind fun k=>tailR { f with ka:=k.1,kb:=k.2 } w:=rfl
theorem key_back {e:En} (h:keyEn e=true) (w:List (List UInt8)) (f:En) (hk:f.kind=e.kind) (hb:f.kb=⟨#[]⟩) :
  keyT f (keyWd e::w)=tailR { f with ka:=e.ka,kb:=e.kb } w:=by
 unfold keyEn at h
 rw [keyT_cons,hk]
 unfold keyWd
 by_cases ht:typedK e.kind=true
 ·rw [if_pos ht] at h
  simp only [Bool.and_eq_true,decide_eq_true_eq] at h
  rw [if_pos ht,if_pos h.1,List.append_nil,ba_back,h.1,hb]
 ·rw [if_neg ht] at h
  obtain ⟨h1,h2⟩:=keyB_two h
  have hne:¬ e.kb=⟨#[]⟩:=fun q=>(iden_is h2).1 (by rw [q])
  have hx:=ix_here (b:=e.kb.data.toList) (type_no47 h1).1
  rw [if_neg ht,if_neg hne]
  have hr:keyR (e.ka.data.toList++47::e.kb.data.toList)=some (e.ka,e.kb):=by
   unfold keyR
   rw [hx,if_neg (by omega)]
   simp only [Int.toNat_natCast]
   rw [List.take_left' rfl,show e.ka.data.toList++47::e.kb.data.toList=(e.ka.data.toList++[47])++e.kb.data.toList by simp,List.drop_left' (by simp),ba_back,ba_back,if_pos h]
  rw [hr]
  rfl
theorem keyWd_is {e:En} (h:keyEn e=true):∃c r,keyWd e=c::r∧65≤c.toNat∧c.toNat≤90:=by
 have ht:typeB e.ka.data.toList=true:=by
  unfold keyEn at h
  split at h
  ·simp only [Bool.and_eq_true] at h;exact h.2
  ·exact (keyB_two h).1
 obtain ⟨c,r,h1,h2,h3⟩:=type_head ht
 unfold keyWd
 rw [h1]
 exact ⟨c,_,rfl,h2,h3⟩
theorem keyWd_noblank {e:En} (h:keyEn e=true):(32:UInt8) ∉ keyWd e:=by
 unfold keyEn at h
 unfold keyWd
 split at h
 ·simp only [Bool.and_eq_true,decide_eq_true_eq] at h
  rw [if_pos h.1,List.append_nil]
  exact (type_no47 h.2).2
 ·obtain ⟨h1,h2⟩:=keyB_two h
  rw [if_neg fun q=>(iden_is h2).1 (by rw [q])]
  intro hm
  rcases List.mem_append.1 hm with hm|hm
  ·exact (type_no47 h1).2 hm
  ·rcases List.mem_cons.1 hm with e|hm
   ·exact absurd e (by decide)
   ·exact (iden_is h2).2 hm
end
section
open Go.RowKit Go.Lib
theorem tailR_if (f:En) (n:Nat) (h1:3≤f.kind) (h2:f.kind≤5) (hn:0<n) (hm:n≤999999999) (w:List (List UInt8)) :
  tailR f ([105,102]::decL n::w)=restR { f with iff:=n } w:=by
 unfold tailR
 rw [if_neg (by omega),if_neg (by omega),if_neg (by omega),if_pos ⟨h1,h2,rfl⟩]
 show (smallR (some (decL n))).bind _=_
 unfold smallR
 simp only [Option.bind_some]
 rw [num_dec hm]
 simp only [Option.bind_some]
 rw [if_neg (by omega)]
 rfl
theorem tailR_no (f:En) (w:List (List UInt8)) (h6:f.kind≠6) (h7:f.kind≠7) (h9:f.kind≠9) (h10:f.kind≠10) (h11:f.kind≠11) (hw:3≤f.kind→f.kind≤5→w[0]?≠some [105,102]) :
  tailR f w=restR f w:=by
 unfold tailR
 rw [if_neg h7,if_neg (by omega),if_neg (by omega),if_neg (fun h=>hw h.1 h.2.1 h.2.2)]
theorem rest_val (f:En) {v:List Fld} (hv:mayB v=true) (hk:f.kind=1∨f.kind=3):restR f (bytesL (wordsL v))=some { f with val:=v }:=by
 unfold restR
 rw [if_pos hk,val_back hv]
 rfl
theorem rest_eds (f:En) {p:List Ed} (hp:mayE p=0) (hk:f.kind=4):restR f (bytesL (p.map wordE))=some { f with eds:=p }:=by
 unfold restR
 rw [if_neg (by omega),if_neg (by omega),if_pos hk,eds_back hp]
 rfl
theorem rest_del (f:En) (hk:f.kind=5):restR f []=some f:=by
 unfold restR
 rw [if_neg (by omega),if_neg (by omega),if_neg (by omega),if_pos hk,if_pos rfl]
theorem rest_prd (f:En) {p:List Tm} (hp:mayM p=0) (hs:sortM p=p) (hk:5<f.kind):restR f (bytesL (p.map wordM))=some { f with pred:=p }:=by
 unfold restR
 rw [if_neg (by omega),if_neg (by omega),if_neg (by omega),if_neg (by omega),prd_back hp hs]
 rfl
theorem while_to {a:List (List UInt8)} (b:List (List UInt8)) (h:∀x∈a,x≠[63]) :
  (a++[63]::b).takeWhile (fun x=>decide (x≠[63]))=a∧(a++[63]::b).dropWhile (fun x=>decide (x≠[63]))=[63]::b:=by
 induction a with
 | nil=>exact ⟨rfl,rfl⟩
 | cons x a ih =>
  have ih:=ih fun y hy=>h y (by simp [hy])
  have hx:decide (x≠[63])=true:=decide_eq_true (h x (by simp))
  simp only [List.cons_append,List.takeWhile_cons,List.dropWhile_cons,hx,if_true]
  exact ⟨by rw [ih.1],ih.2⟩
theorem rest_ens (f:En) {v:List Fld} {p:List Tm} (hv:mayB v=true) (hp:mayM p=0) (hs:sortM p=p) (hk:f.kind=2) :
  restR f (bytesL (wordsL v)++[63]::bytesL (p.map wordM))=some { f with val:=v,pred:=p }:=by
 have hq:=while_to (bytesL (p.map wordM)) fun x hx e=>by
  have:=(valW_is hv x hx).1
  rw [e] at this
  simp at this
 unfold restR
 rw [if_neg (by omega),if_pos hk,if_pos (by simp),hq.1,hq.2,val_back hv]
 simp only [Option.bind_some,List.drop_succ_cons,List.drop_zero]
 rw [prd_back hp hs]
 rfl
theorem tail_back {e:En} (h:MayP e) (hs0:0≤e.stamp) (hs1:e.stamp≤18446744073709551615) :
  tailR ⟨e.kind,e.temp,e.ka,e.kb,0,[],[],[],if e.kind=11∨e.kind=12 then e.stamp else 0,0⟩ (tailW e)=some e:=by
 obtain ⟨k,temp,ka,kb,iff,val,eds,pred,stamp,num⟩:=e
 obtain ⟨h1,h2,_,_,h5,h6,h7,h8,h9,h10,h11,h12,h13,h14⟩:=h
 simp only at h1 h2 h5 h6 h7 h8 h9 h10 h11 h12 h13 h14 hs0 hs1 ⊢
 have niff:¬ (3≤k∧k≤5)→iff=0:=fun q=>Classical.byContradiction fun p=>q ⟨(h5 p).1,(h5 p).2.1⟩
 have nnum:k≠7→num=0:=fun q=>Classical.byContradiction fun p=>q (h6 p).1
 have nst:¬ 9≤k→stamp=0:=fun q=>Classical.byContradiction fun p=>q (h7 p)
 have nval:¬ k≤3→val=[]:=fun q=>Classical.byContradiction fun p=>q (h8 p)
 have neds:k≠4→eds=[]:=fun q=>Classical.byContradiction fun p=>q (h10.1 p)
 have npred:¬ (k=2∨k=8∨k=12)→pred=[]:=fun q=>Classical.byContradiction fun p=>q (h14 p)
 have hiff:0≤iff∧iff≤999999999:=by
  by_cases q:iff=0
  ·omega
  ·exact ⟨(h5 q).2.2.1,(h5 q).2.2.2⟩
 have eiff:((iff.toNat:Nat):Int)=iff:=Int.toNat_of_nonneg hiff.1
 have est:((stamp.toNat:Nat):Int)=stamp:=Int.toNat_of_nonneg hs0
 unfold tailW
 simp only
 by_cases k2:k=2
 ·obtain rfl:=neds (by omega)
  obtain rfl:=niff (by omega)
  obtain rfl:=nnum (by omega)
  obtain rfl:=nst (by omega)
  rw [if_pos k2,if_neg (show ¬ (k=11∨k=12) by omega),tailR_no _ _ (by simp only;omega) (by simp only;omega) (by simp only;omega) (by simp only;omega) (by simp only;omega) (fun q=>by simp only at q;omega),rest_ens _ h9 h12 h13 k2]
 rw [if_neg k2]
 by_cases k7:k=7
 ·obtain rfl:=neds (by omega)
  obtain rfl:=niff (by omega)
  obtain rfl:=nval (by omega)
  obtain rfl:=npred (by omega)
  obtain rfl:=nst (by omega)
  have hn:0≤num∧num≤999999999:=by
   by_cases q:num=0
   ·omega
   ·exact (h6 q).2
  have en:((num.toNat:Nat):Int)=num:=Int.toNat_of_nonneg hn.1
  rw [if_pos k7,if_neg (show ¬ (k=11∨k=12) by omega)]
  unfold tailR
  rw [if_pos k7,if_pos (show [decL num.toNat].length=1 from rfl)]
  rw [List.getElem?_cons_zero]
  unfold smallR
  simp only [Option.bind_some]
  rw [num_dec (by omega)]
  exact congrArg (fun z:Int=>some (En.mk k temp ka kb 0 [] [] [] 0 z)) en
 rw [if_neg k7]
 obtain rfl:=nnum k7
 by_cases k9:k=9∨k=10
 ·obtain rfl:=neds (by omega)
  obtain rfl:=niff (by omega)
  obtain rfl:=nval (by omega)
  obtain rfl:=npred (by omega)
  rw [if_pos k9,if_neg (show ¬ (k=11∨k=12) by omega)]
  unfold tailR
  rw [if_neg k7,if_pos k9,if_pos (show [decL stamp.toNat].length=1 from rfl)]
  rw [List.getElem?_cons_zero]
  unfold stampR
  simp only [Option.bind_some]
  rw [num_dec (by omega)]
  exact congrArg (fun z:Int=>some (En.mk k temp ka kb 0 [] [] [] z 0)) est
 rw [if_neg k9]
 by_cases k6:k=6∨k=11
 ·obtain rfl:=neds (by omega)
  obtain rfl:=niff (by omega)
  obtain rfl:=nval (by omega)
  obtain rfl:=npred (by omega)
  rw [if_neg (show ¬ (0:Int)<0 by omega)]
  unfold tailR
  rw [if_neg k7,if_neg k9,if_pos k6,if_pos (show ([]++(bytesL (wordsL [])++(bytesL (List.map wordE [])++bytesL (List.map wordM []))):List (List UInt8))=[] from rfl)]
  by_cases q:k=6
  ·obtain rfl:=nst (by omega)
   rw [if_neg (show ¬ (k=11∨k=12) by omega)]
  ·rw [if_pos (show k=11∨k=12 by omega)]
 by_cases k8:5<k
 ·obtain rfl:=neds (by omega)
  obtain rfl:=niff (by omega)
  obtain rfl:=nval (by omega)
  rw [if_neg (show ¬ (0:Int)<0 by omega)]
  show tailR _ (bytesL (pred.map wordM))=_
  rw [tailR_no _ _ (by simp only;omega) (by simp only;omega) (by simp only;omega) (by simp only;omega) (by simp only;omega) (fun _ q=>by simp only at q;omega),rest_prd _ h12 h13 (by simp only;omega)]
  by_cases q:k=12
  ·rw [if_pos (show k=11∨k=12 by omega)]
  ·obtain rfl:=nst (by omega)
   rw [if_neg (show ¬ (k=11∨k=12) by omega)]
 obtain rfl:=npred (by omega)
 obtain rfl:=nst (by omega)
 rw [if_neg (show ¬ (k=11∨k=12) by omega)]
 have go:∀(f:En) (W:List (List UInt8)),f.kind=k→f.iff=0→(∀x∈W,x≠[105,102])→tailR f ((if 0<iff then [[105,102],decL iff.toNat] else [])++W)=restR { f with iff:=iff } W:=by
  intro f W hf h0 hW
  by_cases q:0<iff
  ·have:=h5 (by omega)
   rw [if_pos q]
   show tailR f ([105,102]::decL iff.toNat::W)=_
   rw [tailR_if f iff.toNat (by omega) (by omega) (by omega) (by omega),eiff]
  ·rw [if_neg q,List.nil_append,tailR_no f W (by omega) (by omega) (by omega) (by omega) (by omega) (fun _ _ p=>by
    cases W with
    | nil=>simp at p
    | cons x W=>exact hW x (by simp) (by simpa using p))]
   have:iff=f.iff:=by omega
   rw [this]
 by_cases k4:k=4
 ·obtain rfl:=nval (by omega)
  show tailR _ (_++(bytesL (eds.map wordE)++[]))=_
  rw [List.append_nil,go _ _ rfl rfl (fun x hx e=>by
   have:=(edsW_is h11 x hx).2.1
   rw [e] at this
   revert this;decide),rest_eds _ h11 k4]
 obtain rfl:=neds k4
 by_cases k5:k=5
 ·obtain rfl:=nval (by omega)
  show tailR _ (_++[])=_
  rw [go _ [] rfl rfl (by simp),rest_del _ k5]
 ·show tailR _ (_++(bytesL (wordsL val)++[]))=_
  rw [List.append_nil,go _ _ rfl rfl (fun x hx e=>by
   have:=(valW_is h9 x hx).2.1
   rw [e] at this
   revert this;decide),rest_val _ h9 (by simp only;omega)]
end
section
open Go.RowKit Go.Lib
theorem stampT_back (f:En) (k:Int) (st:Int) (hk:f.kind=k) (h12:k≤12) (h0:0≤st) (h1:st≤18446744073709551615) (W:List (List UInt8)) :
  stampT f ((if k=11∨k=12 then [decL st.toNat] else [])++W)=keyT { f with stamp:=if k=11∨k=12 then st else f.stamp } W:=by
 unfold stampT
 by_cases q:k=11∨k=12
 ·rw [if_pos q,if_pos q,if_pos (by omega)]
  have e0:([decL st.toNat]++W)[0]? = some (decL st.toNat):=by rw [List.singleton_append,List.getElem?_cons_zero]
  rw [e0]
  unfold stampR
  simp only [Option.bind_some]
  rw [num_dec (by omega)]
  have e1:((st.toNat:Nat):Int)=st:=Int.toNat_of_nonneg h0
  show keyT { f with stamp:=(st.toNat:Int) } W=_
  rw [e1]
 ·rw [if_neg q,if_neg q,if_neg (by omega),List.nil_append]
theorem entryR_cons (x:List UInt8) (w:List (List UInt8)):entryR (x::w)=if kindW x=0 then none else tempT (zeroEn (kindW x)) w:=rfl
theorem tempT_no (e:En) (w:List (List UInt8)) (h:e.kind≤2→∀t w',w≠(64::t)::w'):tempT e w=stampT e w:=by
 unfold tempT
 split
 ·next t w' =>
  rw [if_neg fun q=>h q t w' rfl]
 ·rfl
theorem entryR_plain (x:List UInt8) (w:List (List UInt8)) (hk:kindW x≠0) (h:kindW x≤2→∀t w',w≠(64::t)::w'):entryR (x::w)=stampT (zeroEn (kindW x)) w:=by
 rw [entryR_cons,if_neg hk,tempT_no _ _ fun q=>h (by simp only [zeroEn] at q;omega)]
theorem entryR_temp (x t:List UInt8) (w:List (List UInt8)) (hk:kindW x≠0) (h:kindW x≤2) (ht:t≠[]):entryR (x::(64::t)::w)=stampT { zeroEn (kindW x) with temp:=⟨t.toArray⟩ } w:=by
 rw [entryR_cons,if_neg hk]
 have:(zeroEn (kindW x)).kind≤2:=by simp only [zeroEn];omega
 show (if (zeroEn (kindW x)).kind≤2 then if t=[] then none else stampT { zeroEn (kindW x) with temp:=⟨t.toArray⟩ } w else _)=_
 rw [if_pos this,if_neg ht]
theorem entry_back {e:En} (h:MayP e) (hs0:0≤e.stamp) (hs1:e.stamp≤18446744073709551615):entryR (wordsEn e)=some e:=by
 have hn:kindW (nameK e.kind)=e.kind.toNat:=kind_name _ (by have:=h.k1;omega) (by have:=h.k2;omega)
 have hki:((e.kind.toNat:Nat):Int)=e.kind:=Int.toNat_of_nonneg (by have:=h.k1;omega)
 have h1:=h.k1
 have h2:=h.k2
 have fin:∀t:ByteArray,t=e.temp→stampT { zeroEn (kindW (nameK e.kind)) with temp:=t } ((if e.kind=11∨e.kind=12 then [decL e.stamp.toNat] else [])++keyWd e::tailW e)=some e:=by
  rintro t rfl
  rw [hn]
  unfold zeroEn
  simp only [hki]
  have q:=stampT_back ⟨e.kind,e.temp,⟨#[]⟩,⟨#[]⟩,0,[],[],[],0,0⟩ e.kind e.stamp rfl h2 hs0 hs1 (keyWd e::tailW e)
  exact q.trans ((key_back h.key (tailW e) ⟨e.kind,e.temp,⟨#[]⟩,⟨#[]⟩,0,[],[],[],if e.kind=11∨e.kind=12 then e.stamp else 0,0⟩ rfl rfl).trans (tail_back h hs0 hs1))
 unfold wordsEn
 by_cases ht:e.temp=⟨#[]⟩
 ·rw [if_pos ht,List.nil_append,entryR_plain _ _ (by rw [hn];omega)]
  ·exact fin _ ht.symm
  ·intro hk t w' q
   rw [hn] at hk
   rw [if_neg (show ¬ (e.kind=11∨e.kind=12) by omega),List.nil_append] at q
   obtain ⟨c,r,e1,e2,e3⟩:=keyWd_is h.key
   rw [e1] at q
   have q1:c=64:=by simp only [List.cons.injEq] at q;exact q.1.1
   rw [q1] at e2
   revert e2;decide
 ·have hte:=(h.tmp.resolve_left ht)
  rw [if_neg ht,List.singleton_append,entryR_temp _ _ _ (by rw [hn];omega) (by rw [hn];omega) (fun q=>ht (ba_empty q)),ba_back]
  exact fin _ rfl
theorem dec_is (n:Nat):∀x∈[decL n],x≠[59]∧32 ∉ x∧x≠[]:=by
 intro x hx
 rw [List.mem_singleton] at hx
 subst hx
 refine ⟨fun q=>?_,decL_noblank n,decL_ne n⟩
 have:=(decL_digit n 59 (by rw [q];simp)).2
 revert this;decide
theorem name_is (k:Int) (h1:1≤k) (h2:k≤12):nameK k≠[59]∧32 ∉ nameK k∧nameK k≠[]∧nameK k≠onceW:=by
 unfold nameK
 have:k=1∨k=2∨k=3∨k=4∨k=5∨k=6∨k=7∨k=8∨k=9∨k=10∨k=11∨k=12:=by omega
 rcases this with rfl|rfl|rfl|rfl|rfl|rfl|rfl|rfl|rfl|rfl|rfl|rfl<;>decide
theorem wordsEn_is {e:En} (h:MayP e):∀x∈wordsEn e,x≠[59]∧32 ∉ x∧x≠[]:=by
 have two:∀x:List UInt8,2≤x.length→x≠[59]∧x≠[]:=fun x hx=>⟨fun q=>by rw [q] at hx;simp at hx,fun q=>by rw [q] at hx;simp at hx⟩
 have hv:∀x∈bytesL (wordsL e.val),x≠[59]∧32 ∉ x∧x≠[]:=fun x hx=>⟨(two x (valW_is h.mayv x hx).1).1,(valW_is h.mayv x hx).2.2,(two x (valW_is h.mayv x hx).1).2⟩
 have hd:∀x∈bytesL (e.eds.map wordE),x≠[59]∧32 ∉ x∧x≠[]:=fun x hx=>⟨(two x (edsW_is h.maye x hx).1).1,(edsW_is h.maye x hx).2.2,(two x (edsW_is h.maye x hx).1).2⟩
 have hp:∀x∈bytesL (e.pred.map wordM),x≠[59]∧32 ∉ x∧x≠[]:=fun x hx=>⟨(two x (prdW_is h.mayp x hx).1).1,(prdW_is h.mayp x hx).2,(two x (prdW_is h.mayp x hx).1).2⟩
 have ht:∀x∈tailW e,x≠[59]∧32 ∉ x∧x≠[]:=by
  intro x hx
  unfold tailW at hx
  split at hx
  ·rcases List.mem_append.1 hx with hx|hx
   ·exact hv x hx
   ·rcases List.mem_cons.1 hx with rfl|hx
    ·decide
    ·exact hp x hx
  ·split at hx
   ·exact dec_is _ x hx
   ·split at hx
    ·exact dec_is _ x hx
    ·rcases List.mem_append.1 hx with hx|hx
     ·split at hx
      ·rcases List.mem_cons.1 hx with rfl|hx
       ·decide
       ·exact dec_is _ x hx
      ·cases hx
     ·rcases List.mem_append.1 hx with hx|hx
      ·exact hv x hx
      ·rcases List.mem_append.1 hx with hx|hx
       ·exact hd x hx
       ·exact hp x hx
 intro x hx
 unfold wordsEn at hx
 rcases List.mem_cons.1 hx with rfl|hx
 ·have:=name_is e.kind h.k1 h.k2
  exact ⟨this.1,this.2.1,this.2.2.1⟩
 rcases List.mem_append.1 hx with hx|hx
 ·split at hx
  ·cases hx
  ·next q =>
   rw [List.mem_singleton] at hx
   subst hx
   have hte:=(h.tmp.resolve_left q).2
   refine ⟨fun r=>absurd (List.cons.inj r).1 (by decide),fun r=>?_,by simp⟩
   rcases List.mem_cons.1 r with r|r
   ·exact absurd r (by decide)
   ·exact (temp_is hte).2 r
 rcases List.mem_append.1 hx with hx|hx
 ·split at hx
  ·exact dec_is _ x hx
  ·cases hx
 rcases List.mem_cons.1 hx with rfl|hx
 ·obtain ⟨c,r,e1,e2,e3⟩:=keyWd_is h.key
  refine ⟨fun q=>?_,keyWd_noblank h.key,by rw [e1];simp⟩
  rw [e1] at q
  have q1:=(List.cons.inj q).1
  rw [q1] at e2
  revert e2;decide
 ·exact ht x hx
theorem entriesW_is:∀{l:List En},(∀e∈l,MayP e)→∀x∈entriesW l,32 ∉ x∧x≠[]
 | [],_=>by intro x hx;cases hx
 | [e],h=>by
  intro x hx
  exact (wordsEn_is (h e (by simp)) x hx).2
 | e::f::l,h=>by
  intro x hx
  simp only [entriesW] at hx
  rcases List.mem_append.1 hx with hx|hx
  ·exact (wordsEn_is (h e (by simp)) x hx).2
  ·rcases List.mem_cons.1 hx with rfl|hx
   ·decide
   ·exact entriesW_is (fun g hg=>h g (by simp [hg])) x hx
theorem entriesW_head {l:List En} (h0:l≠[]) (h:∀e∈l,MayP e):(entriesW l).head?≠some onceW:=by
 have key:∀e:En,MayP e→∀W,(wordsEn e++W).head?≠some onceW:=by
  intro e he W q
  unfold wordsEn at q
  simp only [List.cons_append,List.head?_cons,Option.some.injEq] at q
  exact (name_is e.kind he.k1 he.k2).2.2.2 q
 match l,h0,h with
 | [e],_,h=>have:=key e (h e (by simp)) [];rwa [List.append_nil] at this
 | e::f::l,_,h=>exact key e (h e (by simp)) _
theorem rq_back {once:Bool} {l:List En} (h:mayRq l=true) (hs:∀e∈l,0≤e.stamp∧e.stamp≤18446744073709551615):readRq (wordsRq once l)=some (once,l):=by
 have hm:=h
 unfold mayRq at h
 simp only [Bool.and_eq_true,decide_eq_true_eq,List.all_eq_true] at h
 have hl:l≠[]:=fun q=>by rw [q] at h;simp at h
 have hp:∀e∈l,MayP e:=fun e he=>mayEn_parts (h.2 e he)
 have hcut:=cut_entries l hl fun e he x hx=>(wordsEn_is (hp e he) x hx).1
 have hre:=read_entries l fun e he=>entry_back (hp e he) (hs e he).1 (hs e he).2
 have hh:=entriesW_head hl hp
 unfold readRq wordsRq
 cases once with
 | true =>
  have q:decide (([onceW]++entriesW l).head? = some onceW)=true:=by simp
  simp only [if_true,q]
  rw [List.singleton_append,List.drop_succ_cons,List.drop_zero,hcut,hre]
  simp only [Option.bind_some,hm,if_true]
 | false =>
  have q:decide (([]++entriesW l).head? = some onceW)=false:=by rw [List.nil_append];exact decide_eq_false hh
  simp only [Bool.false_eq_true,if_false,q]
  rw [List.nil_append,hcut,hre]
  simp only [Option.bind_some,hm,if_true]
def lineRq (once:Bool) (l:List En):List UInt8:=Lib.join (wordsRq once l) [32]
theorem wordsRq_is {once:Bool} {l:List En} (h:mayRq l=true):wordsRq once l≠[]∧∀x∈wordsRq once l,32 ∉ x∧x≠[]:=by
 unfold mayRq at h
 simp only [Bool.and_eq_true,decide_eq_true_eq,List.all_eq_true] at h
 have hp:∀e∈l,MayP e:=fun e he=>mayEn_parts (h.2 e he)
 have hne:entriesW l≠[]:=by
  match l,h with
  | [],h=>simp at h
  | [e],_=>simp [entriesW,wordsEn]
  | e::f::l,_=>simp [entriesW]
 unfold wordsRq
 refine ⟨fun q=>hne (List.append_eq_nil_iff.1 q).2,fun x hx=>?_⟩
 rcases List.mem_append.1 hx with hx|hx
 ·split at hx
  ·rw [List.mem_singleton] at hx;subst hx;decide
  ·cases hx
 ·exact entriesW_is hp x hx
theorem line_words {once:Bool} {l:List En} (h:mayRq l=true):wordsAns (lineRq once l)=wordsRq once l:=by
 obtain ⟨h1,h2⟩:=wordsRq_is (once:=once) h
 unfold wordsAns lineRq
 have hs:=split_join (wordsRq once l) h1 fun x hx=>(h2 x hx).1
 rw [if_neg,hs]
 intro q
 rw [q] at hs
 have e:splitL ([]:List UInt8)=[[]]:=splitL_no rfl
 rw [e] at hs
 exact (h2 [] (by rw [←hs];simp)).2 rfl
end
end Go.Proofs.YtjeogllmpjihaaaGreatDoor
