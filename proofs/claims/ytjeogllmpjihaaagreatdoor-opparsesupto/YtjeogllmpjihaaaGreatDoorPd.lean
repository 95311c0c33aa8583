/-
  Texts of this claim, one behind the other: Rrd Txs Lin0 Rwd Rp7 Rp8 Rs0 Edm Edd Re0 Edl Spk Kys Opm Opb Opc Ope Oph Opn Opo Oqs Opx Frm Ksu Pc0.
-/
import Derived.Test.YtjeogllmpjihaaaGreatDoorPc
import Derived.Shelf.GgSortFunc.RowK
import Derived.Lib.SlicesCompact
import Derived.Lib.SliceRun
namespace Go.Proofs.YtjeogllmpjihaaaGreatDoor
section
open Go.RowKit
theorem firstP_plain {c:UInt8} {r:List UInt8} (h:plainB (c.toNat:Int)=true):firstP (c::r)=some (c,1):=by
 simp [firstP,h]
theorem firstP_sign {c:UInt8} {r:List UInt8} (h:plainB (c.toNat:Int)=false) (h2:c≠37):firstP (c::r)=none:=by
 simp [firstP,h,h2]
theorem pct_plain:plainB 37=false:=by decide
theorem firstP_short {r:List UInt8} (h:r.length<2):firstP (37::r)=none:=by
 match r,h with
 | [],_=>simp [firstP,pct_plain]
 | [_],_=>simp [firstP,pct_plain]
theorem firstP_hex {a b:UInt8} {r:List UInt8}:firstP (37::a::b::r)=if hexN a=16∨hexN b=16 then none else if plainB ((UInt8.ofNat (16 * hexN a+hexN b)).toNat:Int) then none else some (UInt8.ofNat (16 * hexN a+hexN b),3):=by
 have e:firstP (37::a::b::r)=if hexv a<0∨hexv b<0 then none else
   if plainB ((UInt8.ofNat (16 * (hexv a).toNat+(hexv b).toNat)).toNat:Int) then none else some (UInt8.ofNat (16 * (hexv a).toNat+(hexv b).toNat),3):=by
  simp [firstP,pct_plain]
 rw [e,hexN_eq a,hexN_eq b]
 by_cases ha:hexN a=16
 ·rw [if_pos (Or.inl (by rw [if_pos ha];decide)),if_pos (Or.inl ha)]
 ·by_cases hb:hexN b=16
  ·rw [if_pos (Or.inr (by rw [if_pos hb];decide)),if_pos (Or.inr hb)]
  ·rw [if_neg (show ¬ (hexN a=16∨hexN b=16) by omega),if_neg (show ¬ ((if hexN a=16 then (-1:Int) else (hexN a:Int))<0∨(if hexN b=16 then (-1:Int) else (hexN b:Int))<0) by rw [if_neg ha,if_neg hb];omega),if_neg ha,if_neg hb,Int.toNat_natCast,Int.toNat_natCast]
theorem drop_at (s:ByteArray) (i:Nat) (h:i<s.size):s.data.toList.drop i=s[i]::s.data.toList.drop (i+1):=by
 rw [List.drop_eq_getElem_cons (by simpa using h)]
 rfl
def RrSt (w:World) (s:ByteArray) (i:Nat) (vb:Value) (wr:World):Prop :=
 ∃acc,OwnB w.heap.size wr vb acc∧acc.length≤i∧readL s.data.toList=(readL (s.data.toList.drop i)).map (acc ++ ·)∧Below w.heap.size w wr
theorem rr_next {s:ByteArray} {i n:Nat} {c:UInt8} {acc:List UInt8} (h:readL s.data.toList=(readL (s.data.toList.drop i)).map (acc ++ ·)) (hf:firstP (s.data.toList.drop i)=some (c,n)) :
  readL s.data.toList=(readL (s.data.toList.drop (i+n))).map ((acc++[c]) ++ ·):=by
 rw [h,readL_some hf,List.drop_drop,Option.map_map]
 congr 1
 funext x
 simp
theorem rr_no {s:ByteArray} {i:Nat} {acc:List UInt8} (hi:i<s.size) (h:readL s.data.toList=(readL (s.data.toList.drop i)).map (acc ++ ·)) (hf:firstP (s.data.toList.drop i)=none):readL s.data.toList=none:=by
 rw [h,readL_none (by rw [drop_at s i hi];simp) hf]
 rfl
set_option maxHeartbeats 4000000 in
set_option maxRecDepth 100000 in
theorem rread_any (s:ByteArray) (w:World) (hs:s.size≤140737488355327) :
  Calls Tryz.prog 121 #[.string s] w fun e w'=>e=.returned (readV (readL s.data.toList))∧Below w.heap.size w w':=by
 obtain ⟨i0,hi0,hz0,hz1,hz2⟩:=info_parts Tryz.infoByte
 have HI:=hid hi0
 clear hi0
 have mixed:=Tryz.mixed
 obtain ⟨res,hres⟩:∃res,readL s.data.toList=res:=⟨_,rfl⟩
 rw [hres]
 have HRES:=hid hres
 clear hres
 go_enter Tryz.func121,Tryz.ntmps121
 go_wp2_with fail
 go_loopg [4,5] s.size (fun g vb vi wr=>∃i:Nat,vi=.int .i64 i∧i≤s.size∧s.size-i≤g∧RrSt w s i vb wr)
 case atStart=>exact ⟨0,rfl,by omega,by omega,[],World.ownsRow_nil _ _ _ _,by simp,by simp,Below.refl _ _⟩
 case round =>
  obtain ⟨i,rfl,hi,hgk,acc,hob,hal,hrd,hb⟩:=hrel
  have hszr:=hb.size
  have HOB:=hid hob
  have HB:=hid hb
  have HRD:=hid hrd
  by_cases hlt:i<s.size
  ·have hltz:(i:Int)<(s.size:Int):=by omega
   have hiz:(0:Int)≤i:=by omega
   have hdr:=drop_at s i hlt
   obtain ⟨c,hc⟩:∃c,s[i]=c:=⟨_,rfl⟩
   rw [hc] at hdr
   have HDR:=hid hdr
   have hc256:=c.toNat_lt
   clear hob hb hrd hdr
   cases hp:plainB (c.toNat:Int) with
   | true =>
    have HN:Hid (readL s.data.toList=(readL (s.data.toList.drop (i+1))).map ((acc++[c]) ++ ·)):=rr_next HRD.out (by rw [HDR.out];exact firstP_plain hp)
    have HPL:Hid (∀W,Calls Tryz.prog 136 #[.int .u8 (c.toNat:Nat)] W fun e w'=>e=.returned (.bool true)∧w'=W):=fun W=>by have:=rplain_any (c.toNat:Int) W;rw [hp] at this;exact this
    clear hp
    go_wp2_with (first|(go_at_call 136;refine (HPL.out _).mono ?_;rintro e w1 ⟨rfl,rfl⟩)|(at_builtin;refine wpList_append_own _ rfl _ _ 89 rfl w.heap.size 5 i0 (.int .u8 0) 1 1 Tryz.underlying89 HI.out hz0 hz1 hz2 rfl (by decide) _ _ _ rfl (World.ownsRow.alloc HOB.out _) ⟨w1.heap.size,0,none⟩ 1 1 [.int .u8 (c.toNat:Int)] rfl rfl (new_byte _ _) (one_byte _) (by unfold maxLen;omega) (by omega) (by simp;omega) ?_))
    intro v3 w3 hown3 hg3 _
    have hob3:OwnB w.heap.size w3 v3 (acc++[c]):=ownB_put hown3 rfl rfl
    have hb3:Below w.heap.size w w3:=(HB.out.alloc (by omega) _).grown hg3 (by simp;omega) (fun k hk=>(World.ownsRow.lt HOB.out k hk).1)
    have HOB3:=hid hob3
    have HB3:=hid hb3
    clear hown3 hg3 hob3 hb3
    go_wp2_with fail
    go_roundg (s.size-(i+1))
    case measure=>omega
    exact ⟨i+1,by go_num,by omega,by omega,acc++[c],HOB3.out,by simp;omega,HN.out,HB3.out⟩
   | false =>
    have HPL:Hid (∀W,Calls Tryz.prog 136 #[.int .u8 (c.toNat:Nat)] W fun e w'=>e=.returned (.bool false)∧w'=W):=fun W=>by have:=rplain_any (c.toNat:Int) W;rw [hp] at this;exact this
    by_cases h37:c=37
    ·subst h37
     by_cases hsh:s.size-i<3
     ·have hshz:decide ((s.size:Int)-(i:Int)<3)=true:=decide_eq_true (by omega)
      have HN:Hid (res=none):=HRES.out.symm.trans (rr_no hlt HRD.out (by rw [HDR.out];exact firstP_short (by simp;omega)))
      go_wp2_with (first|(go_at_call 136;refine (HPL.out _).mono ?_;rintro e w1 ⟨rfl,rfl⟩))
      refine wp_region_quiet_lit mixed (by kernel_rfl) ?_
      repeat (go_big_quiet_step (first|(go_at_call 168;refine Calls.quiet_of_same (rhex_any _ _))|(go_at_call 136;refine Calls.quiet_of_same (rplain_any _ _))))
      refine wpQuiet_nil ?_
      intro _ hw'
      obtain ⟨nq,hw''⟩:=hw'
      subst hw''
      go_wp2_with fail
      go_ret2
      rw [HN.out]
      exact ⟨rfl,bel_drewN HB.out _⟩
     ·have hshz:decide ((s.size:Int)-(i:Int)<3)=false:=decide_eq_false (by omega)
      have hd1:=drop_at s (i+1) (by omega)
      have hd2:=drop_at s (i+1+1) (by omega)
      obtain ⟨a,ha⟩:∃a,s[i+1]'(by omega)=a:=⟨_,rfl⟩
      obtain ⟨b,hb⟩:∃b,s[i+1+1]'(by omega)=b:=⟨_,rfl⟩
      rw [ha] at hd1
      rw [hb] at hd2
      have hb2:s[i+2]'(by omega)=b:=hb
      have i1:(0:Int)≤(i:Int)+1:=by omega
      have i2:(i:Int)+1<(s.size:Int):=by omega
      have i3:(0:Int)≤(i:Int)+2:=by omega
      have i4:(i:Int)+2<(s.size:Int):=by omega
      have hal16:=hexN_le a
      have hbl16:=hexN_le b
      have hdd:s.data.toList.drop i=37::a::b::s.data.toList.drop (i+3):=by rw [HDR.out,hd1,hd2]
      have HDD:=hid hdd
      clear hd1 hd2 hdd
      by_cases hxa:hexN a=16
      ·have da:decide ((15:Int)<(hexN a:Int))=true:=decide_eq_true (by omega)
       have HN:Hid (res=none):=HRES.out.symm.trans (rr_no hlt HRD.out (by rw [HDD.out,firstP_hex,if_pos (Or.inl hxa)]))
       clear hxa
       go_wp2_with (first|(go_at_call 136;refine (HPL.out _).mono ?_;rintro e w1 ⟨rfl,rfl⟩))
       refine wp_region_quiet_lit mixed (by kernel_rfl) ?_
       repeat (go_big_quiet_step (first|(go_at_call 168;refine Calls.quiet_of_same (rhex_any _ _))|(go_at_call 136;refine Calls.quiet_of_same (rplain_any _ _))))
       refine wpQuiet_nil ?_
       intro _ hw'
       obtain ⟨nq,hw''⟩:=hw'
       subst hw''
       go_wp2_with fail
       go_ret2
       rw [HN.out]
       exact ⟨rfl,bel_drewN HB.out _⟩
      have da:decide ((15:Int)<(hexN a:Int))=false:=decide_eq_false (by omega)
      by_cases hxb:hexN b=16
      ·have db:decide ((15:Int)<(hexN b:Int))=true:=decide_eq_true (by omega)
       have HN:Hid (res=none):=HRES.out.symm.trans (rr_no hlt HRD.out (by rw [HDD.out,firstP_hex,if_pos (Or.inr hxb)]))
       clear hxb
       go_wp2_with (first|(go_at_call 136;refine (HPL.out _).mono ?_;rintro e w1 ⟨rfl,rfl⟩))
       refine wp_region_quiet_lit mixed (by kernel_rfl) ?_
       repeat (go_big_quiet_step (first|(go_at_call 168;refine Calls.quiet_of_same (rhex_any _ _))|(go_at_call 136;refine Calls.quiet_of_same (rplain_any _ _))))
       refine wpQuiet_nil ?_
       intro _ hw'
       obtain ⟨nq,hw''⟩:=hw'
       subst hw''
       go_wp2_with fail
       go_ret2
       rw [HN.out]
       exact ⟨rfl,bel_drewN HB.out _⟩
      have db:decide ((15:Int)<(hexN b:Int))=false:=decide_eq_false (by omega)
      have hsum:((UInt8.ofNat (16 * hexN a+hexN b)).toNat:Int)=(hexN a:Int) * 16+(hexN b:Int):=by
       rw [UInt8.toNat_ofNat'];omega
      have HSU:=hid hsum
      have HFP:Hid (firstP (s.data.toList.drop i)=if plainB ((hexN a:Int) * 16+(hexN b:Int))=true then none else some (UInt8.ofNat (16 * hexN a+hexN b),3)):=by
       show _=_
       rw [HDD.out,firstP_hex,if_neg (by omega),hsum]
      clear hsum
      cases hq:plainB ((hexN a:Int) * 16+(hexN b:Int)) with
      | true =>
       have HN:Hid (res=none):=HRES.out.symm.trans (rr_no hlt HRD.out (by rw [HFP.out,if_pos hq]))
       go_wp2_with (first|(go_at_call 136;refine (HPL.out _).mono ?_;rintro e w1 ⟨rfl,rfl⟩))
       refine wp_region_quiet_lit mixed (by kernel_rfl) ?_
       repeat (go_big_quiet_step (first|(go_at_call 168;refine Calls.quiet_of_same (rhex_any _ _))|(go_at_call 136;refine Calls.quiet_of_same (rplain_any _ _))))
       refine wpQuiet_nil ?_
       intro _ hw'
       obtain ⟨nq,hw''⟩:=hw'
       subst hw''
       go_wp2_with fail
       go_ret2
       rw [HN.out]
       exact ⟨rfl,bel_drewN HB.out _⟩
      | false =>
       have HN:Hid (readL s.data.toList=(readL (s.data.toList.drop (i+3))).map ((acc++[UInt8.ofNat (16 * hexN a+hexN b)]) ++ ·)):=rr_next HRD.out (by rw [HFP.out,hq];rfl)
       go_wp2_with (first|(go_at_call 136;refine (HPL.out _).mono ?_;rintro e w1 ⟨rfl,rfl⟩))
       refine wp_region_quiet_lit mixed (by kernel_rfl) ?_
       repeat (go_big_quiet_step (first|(go_at_call 168;refine Calls.quiet_of_same (rhex_any _ _))|(go_at_call 136;refine Calls.quiet_of_same (rplain_any _ _))))
       refine wpQuiet_nil ?_
       intro _ hw'
       obtain ⟨nq,hw''⟩:=hw'
       subst hw''
       go_wp2_with fail
       obtain ⟨W2,hW2⟩:∃W2,w1.drewN nq=W2:=⟨_,rfl⟩
       have hb2W:Below w.heap.size w W2:=by rw [←hW2];exact bel_drewN HB.out _
       have hob2:OwnB w.heap.size W2 u4 acc:=by rw [←hW2];exact HOB.out
       have hszW:=hb2W.size
       have HBW:=hid hb2W
       have HOW:=hid hob2
       rw [hW2]
       clear hW2 hb2W hob2
       have x1:IntKind.i64.wrap ((i:Int)+1)=(i:Int)+1:=by simp [IntKind.wrap,IntKind.signed,IntKind.bits];omega
       have x2:IntKind.i64.wrap ((i:Int)+2)=(i:Int)+2:=by simp [IntKind.wrap,IntKind.signed,IntKind.bits];omega
       have x3:((i:Int)+1).toNat=i+1:=by omega
       have x4:((i:Int)+2).toNat=i+2:=by omega
       have x5:IntKind.u8.wrap ((hexN a:Int) * 16)=(hexN a:Int) * 16:=wrap_byte _ (by omega)
       have x6:IntKind.u8.wrap ((hexN a:Int) * 16+(hexN b:Int))=(hexN a:Int) * 16+(hexN b:Int):=wrap_byte _ (by omega)
       go_region_law (first
        | (refine step_append_lies _ (by rfl) (.tmp 12) (.tmp 25) 89 (by rfl) w.heap.size 5 i0 (.int .u8 0) 1 1 Tryz.underlying89 HI.out hz0 hz1 hz2 rfl (by decide) u4 acc.length (Lib.byteCells acc) (by rfl) (World.ownsRow.alloc (w:=W2.drew) HOW.out _) _ 1 1 [.int .u8 ((hexN a:Int) * 16+(hexN b:Int))] (by rfl) rfl (new_byte _ _) (one_byte _) (by decide) (by unfold maxLen;omega) (by omega) (by simp;omega) _ rfl ?_;intro g4 cap4 w4 hown4 hg4 _ _)
        | (go_simp;go_at_call 168;refine (rhex_any _ _).mono ?_;rintro o w2 ⟨rfl,rfl⟩))
       all_goals
        have hob4:OwnB w.heap.size w4 (.slice (some ⟨g4,0,none⟩) (acc.length+1) cap4) (acc++[UInt8.ofNat (16 * hexN a+hexN b)]):=ownB_put hown4 rfl HSU.out
        have hb4:Below w.heap.size w w4:=((bel_drewN HBW.out 1).alloc hszW _).grown hg4 (by have h1:w.heap.size≤(W2.drewN 1).heap.size:=hszW;simp;omega) (fun k hk=>(World.ownsRow.lt HOW.out k hk).1)
        have HOB4:=hid hob4
        have HB4:=hid hb4
        clear hown4 hg4 hob4 hb4
        go_wp2_with fail
        go_roundg (s.size-(i+3))
        case measure=>omega
        exact ⟨i+3,by go_num,by omega,by omega,_,HOB4.out,by simp;omega,HN.out,HB4.out⟩
    ·have hcne:((c.toNat:Int) != 37)=true:=by
      rw [bne_iff_ne]
      intro e
      apply h37
      have:c.toNat=37:=by omega
      exact UInt8.toNat_inj.1 this
     have HN:Hid (res=none):=HRES.out.symm.trans (rr_no hlt HRD.out (by rw [HDR.out];exact firstP_sign hp h37))
     go_wp2_with (first|(go_at_call 136;refine (HPL.out _).mono ?_;rintro e w1 ⟨rfl,rfl⟩))
     refine wp_region_quiet_lit mixed (by kernel_rfl) ?_
     repeat (go_big_quiet_step (first|(go_at_call 168;refine Calls.quiet_of_same (rhex_any _ _))|(go_at_call 136;refine Calls.quiet_of_same (rplain_any _ _))))
     refine wpQuiet_nil ?_
     intro _ hw'
     obtain ⟨nq,hw''⟩:=hw'
     subst hw''
     go_wp2_with fail
     go_ret2
     rw [HN.out]
     exact ⟨rfl,bel_drewN HB.out _⟩
  ·have hltz:¬ (i:Int)<(s.size:Int):=by omega
   have hres2:res=some acc:=by
    rw [←HRES.out,hrd,List.drop_of_length_le (by simp;omega),readL_nil]
    simp
   have HR2:=hid hres2
   have kc:=conv_any (ownB_rest hob)
   clear hob hrd hres2
   go_wp2_with fail
   go_ret2
   rw [HR2.out]
   exact ⟨rfl,hb⟩
end
section
open Go.RowKit
theorem hexd_table:((List.range 16).all fun k=>decide (hexN (hexd k)=k))=true:=by decide
theorem hexN_hexd {k:Nat} (h:k<16):hexN (hexd k)=k:=by
 have:=List.all_eq_true.1 hexd_table k (List.mem_range.2 h)
 exact of_decide_eq_true this
theorem read_write (l:List UInt8):readL (writeL l)=some l:=by
 induction l with
 | nil=>exact readL_nil
 | cons c l ih =>
  rw [writeL_cons]
  cases hp:plainB (c.toNat:Int) with
  | true =>
   have e:writeC c=[c]:=by unfold writeC;rw [if_pos hp]
   rw [e,List.cons_append,List.nil_append,readL_some (firstP_plain hp)]
   show (readL (writeL l)).map _=_
   rw [ih];rfl
  | false =>
   have e:writeC c=[37,hexd (c.toNat / 16),hexd (c.toNat % 16)]:=by unfold writeC;rw [hp];rfl
   have hc:=c.toNat_lt
   have h1:hexN (hexd (c.toNat / 16))=c.toNat / 16:=hexN_hexd (by omega)
   have h2:hexN (hexd (c.toNat % 16))=c.toNat % 16:=hexN_hexd (by omega)
   have hs:UInt8.ofNat (16 * (c.toNat / 16)+c.toNat % 16)=c:=by
    rw [show 16 * (c.toNat / 16)+c.toNat % 16=c.toNat by omega,UInt8.ofNat_toNat]
   have hf:firstP (37::hexd (c.toNat / 16)::hexd (c.toNat % 16)::writeL l)=some (c,3):=by
    rw [firstP_hex,h1,h2,if_neg (by omega),hs,if_neg (by rw [hp];simp)]
   rw [e]
   show readL (37::hexd (c.toNat / 16)::hexd (c.toNat % 16)::writeL l)=_
   rw [readL_some hf]
   show (readL (writeL l)).map _=_
   rw [ih];rfl
end
section
open Go.RowKit Go.Lib
theorem ix_here {a b:List UInt8} {c:UInt8} (h:c ∉ a):Lib.indexByte (a++c::b) c=(a.length:Int):=by
 rcases ix_cases (a++c::b) c with ⟨_,h2⟩|⟨i,h1,h2,h3,h4⟩
 ·exact absurd (by simp) h2
 ·have h5:=ix_split _ c i h2 h3
  have:=(ix_uniq h5 h h4).1
  rw [h1,this,List.length_take]
  omega
theorem ix_none {a:List UInt8} {c:UInt8} (h:c ∉ a):Lib.indexByte a c=-1:=by
 rcases ix_cases a c with ⟨h1,_⟩|⟨i,_,h2,h3,_⟩
 ·exact h1
 ·exact absurd (List.mem_of_getElem? h3) h
theorem split_join:∀ws:List (List UInt8),ws≠[]→(∀w∈ws,(32:UInt8) ∉ w)→splitL (Lib.join ws [32])=ws
 | [],h,_=>absurd rfl h
 | [w],_,h=>by
  rw [Lib.join_one]
  exact splitL_no (ix_none (h w (by simp)))
 | w::v::ws,_,h=>by
  have ih:=split_join (v::ws) (by simp) (fun x hx=>h x (by simp [hx]))
  rw [join_two,splitL_yes (ix_here (h w (by simp)))]
  rw [List.take_left' rfl]
  congr 1
  rw [show w++32::Lib.join (v::ws) [32]=(w++[32])++Lib.join (v::ws) [32] by simp,List.drop_left' (by simp)]
  exact ih
theorem noblank_mem {l:List UInt8} (h:blanks l=0):(32:UInt8) ∉ l:=by
 intro hm
 have:=List.countP_eq_zero.1 h 32 hm
 simp at this
theorem field_noeq {l:List UInt8} (h:fieldB l=true):(61:UInt8) ∉ l:=by
 intro hc
 unfold fieldB spell at h
 cases l with
 | nil=>simp at hc
 | cons x r =>
  simp only [Bool.and_eq_true,List.all_eq_true] at h
  have key:lodB ((61:UInt8).toNat:Int)=true∨smallB ((61:UInt8).toNat:Int)=true:=by
   rcases List.mem_cons.1 hc with e|hc
   ·exact Or.inr (by rw [e];exact h.1.2)
   ·exact Or.inl (h.2 _ hc)
  rcases key with k|k
  ·revert k;decide
  ·revert k;decide
theorem word_back {n t:ByteArray} (h:fieldB n.data.toList=true):wordO (wordOf n t).data.toList=some (n.data.toList,t.data.toList):=by
 rw [word_data,List.append_assoc,List.singleton_append]
 have e:=ix_here (b:=writeL t.data.toList) (field_noeq h)
 unfold wordO
 rw [e,if_neg (by omega),Int.toNat_natCast,List.take_left' rfl]
 rw [show n.data.toList++61::writeL t.data.toList=(n.data.toList++[61])++writeL t.data.toList by simp,List.drop_left' (by simp),read_write]
 rfl
def singles (fs:List Fld):List Fld:=fs.flatMap fun f=>f.2.map fun t=>(f.1,[t])
theorem ba_back (b:ByteArray):(⟨b.data.toList.toArray⟩:ByteArray)=b:=by obtain ⟨⟨l⟩⟩:=b;rfl
theorem words_back (fs:List Fld) (h:∀f∈fs,fieldB f.1.data.toList=true):fieldsW ((wordsL fs).map (·.data.toList))=some (singles fs):=by
 induction fs with
 | nil=>rfl
 | cons f fs ih =>
  have hf:=h f (by simp)
  have ih:=ih fun g hg=>h g (by simp [hg])
  have e1:fieldsW ((wordsF f).map (·.data.toList))=some (f.2.map fun t=>(f.1,[t])):=by
   unfold wordsF
   generalize f.2=ts
   induction ts with
   | nil=>rfl
   | cons t ts iht =>
    simp only [List.map_cons,fieldsW]
    rw [word_back hf]
    simp only
    rw [iht,ba_back,ba_back]
    rfl
  unfold wordsL at ih ⊢
  rw [List.flatMap_cons,List.map_append,fieldsW_append,e1,ih]
  rfl
theorem single_filter (f:Fld) (c:ByteArray):((f.2.map fun t=>((f.1,[t]):Fld)).filter fun x=>decide (x.1=c)).flatMap (·.2)=if f.1=c then f.2 else []:=by
 obtain ⟨n,ts⟩:=f
 simp only
 by_cases e:n=c
 ·rw [if_pos e,List.filter_eq_self.2 (fun x hx=>by obtain ⟨t,_,rfl⟩:=List.mem_map.1 hx;simp [e])]
  induction ts with
  | nil=>rfl
  | cons t ts ih=>rw [List.map_cons,List.flatMap_cons,ih];rfl
 ·rw [if_neg e,List.filter_eq_nil_iff.2 (fun x hx=>by obtain ⟨t,_,rfl⟩:=List.mem_map.1 hx;simp [e])]
  rfl
theorem txt_singles (fs:List Fld) (c:ByteArray):txtOf (singles fs) c=txtOf fs c:=by
 induction fs with
 | nil=>rfl
 | cons f fs ih =>
  unfold txtOf singles at *
  rw [List.flatMap_cons,List.filter_append,List.flatMap_append,single_filter,ih]
  by_cases e:f.1=c
  ·rw [if_pos e,List.filter_cons_of_pos (by simp [e]),List.flatMap_cons]
  ·rw [if_neg e,List.filter_cons_of_neg (by simp [e]),List.nil_append]
theorem may_rising {fs:List Fld} (h:mayB fs=true):Rising fs:=by
 have hs:=(may_parts h).2
 have step:∀i,(hi:i+1<fs.length)→ltB (fs[i]).1 (fs[i+1]).1=true:=fun i hi=>by
  have:=hs (i+1) hi
  unfold stepOk at this
  rw [Bool.and_eq_true,Bool.or_eq_true] at this
  rcases this.2 with h|h
  ·have:=of_decide_eq_true h;omega
  ·rw [ltN_eq,Nat.add_sub_cancel,List.getD_eq_getElem?_getD,List.getD_eq_getElem?_getD,List.getElem?_eq_getElem hi,List.getElem?_eq_getElem (show i<fs.length by omega)] at h
   exact h
 refine List.pairwise_iff_getElem.2 fun i j hi hj hij=>?_
 induction j with
 | zero=>omega
 | succ j ih =>
  by_cases e:i=j
  ·subst e;exact step i hj
  ·exact ltB_trans (ih (by omega) (by omega)) (step j hj)
theorem rising_txt {fs:List Fld} (h:Rising fs):∀f∈fs,f.2=txtOf fs f.1:=by
 intro f hf
 obtain ⟨a,b,rfl⟩:=List.append_of_mem hf
 have hr:=List.pairwise_append.1 h
 have hr2:=List.pairwise_cons.1 hr.2.1
 have ha:a.filter (fun x=>decide (x.1=f.1))=[]:=List.filter_eq_nil_iff.2 fun x hx e=>ltB_ne (hr.2.2 x hx f (by simp)) (by simpa using e)
 have hb:b.filter (fun x=>decide (x.1=f.1))=[]:=List.filter_eq_nil_iff.2 fun x hx e=>ltB_ne (hr2.1 x hx) (Eq.symm (of_decide_eq_true e))
 unfold txtOf
 rw [List.filter_append,ha,List.filter_cons_of_pos (by simp),hb]
 simp
theorem groups_singles {fs:List Fld} (h:Rising fs) (hne:∀f∈fs,f.2≠[]):Groups (singles fs) fs:=by
 refine ⟨h,fun c=>⟨?_,?_⟩,fun f hf=>?_⟩
 ·rintro ⟨f,hf,rfl⟩
  cases ht:f.2 with
  | nil=>exact absurd ht (hne f hf)
  | cons t ts=>exact ⟨(f.1,[t]),List.mem_flatMap.2 ⟨f,hf,List.mem_map.2 ⟨t,by rw [ht];simp,rfl⟩⟩,rfl⟩
 ·rintro ⟨x,hx,rfl⟩
  obtain ⟨f,hf,hx⟩:=List.mem_flatMap.1 hx
  obtain ⟨t,_,rfl⟩:=List.mem_map.1 hx
  exact ⟨f,hf,rfl⟩
 ·rw [txt_singles];exact rising_txt h f hf
theorem fits_ne {f:Fld} (h:fitsB f=true):f.2≠[]:=fun e=>by
 have:=(fits_parts h).2.1
 rw [e] at this;simp at this
theorem may_nobare {fs:List Fld} (h:mayB fs=true):fs.any bareB=false:=by
 rw [List.any_eq_false]
 intro f hf hb
 exact fits_ne (may_fits h f hf) (List.isEmpty_iff.1 hb)
def fieldsP (l:List UInt8):Option (List Fld):=if l=[] then some [] else fieldsW (splitL l)
def codeP (l:List UInt8):Int:=match fieldsP l with
 | none=>4
 | some fs=>codeF fs
def ansP (l:List UInt8):List Fld:=match fieldsP l with
 | none=>[]
 | some fs=>ansF fs
theorem norm_singles {fs:List Fld} (h:mayB fs=true):codeF (singles fs)=0∧ansF (singles fs)=fs:=by
 have hn:normF (singles fs)=fs:=groups_unique (normF_groups _) (groups_singles (may_rising h) fun f hf=>fits_ne (may_fits h f hf))
 have hm:(singles fs).any misB=false:=by
  rw [List.any_eq_false]
  intro x hx
  obtain ⟨f,hf,hx⟩:=List.mem_flatMap.1 hx
  obtain ⟨t,_,rfl⟩:=List.mem_map.1 hx
  have:=(fits_parts (may_fits h f hf)).2.2.2.2
  simp [misB,this]
 have hc:codeF (singles fs)=0:=by unfold codeF;rw [hm,hn,may_nobare h,h];rfl
 exact ⟨hc,by unfold ansF;rw [hc,hn];rfl⟩
theorem codeF_nil:codeF []=0:=by decide
theorem ansF_nil:ansF []=[]:=by decide
def PPost (w:World) (l:List UInt8) (e:Ending) (w':World):Prop :=
 (∃u o,e=.returned (.tuple #[u,.int .i64 (codeP l)])∧OwnXs w.heap.size w' u o∧o.map Fx.fld=ansP l)∧Below w.heap.size w w'
theorem ansP_fit {d:List Fx} {l:List UInt8} (hm:d.map Fx.fld=ansP l):FitX d:=by
 unfold ansP at hm
 cases h:fieldsP l with
 | none =>
  rw [h] at hm
  rw [List.map_eq_nil_iff] at hm
  subst hm
  exact ⟨by unfold maxLen;simp,fun x hx=>by simp at hx⟩
 | some fs=>rw [h] at hm;exact ans_fit hm
theorem parse_plain (s:ByteArray) (w:World) (hp:PlainAt w) (hs:s.size≤3000000000000) :
  Calls Tryz.prog 72 #[.string s] w fun e w'=>PPost w s.data.toList e w':=by
 refine (parse_any s w hp hs).mono fun e w' h=>⟨?_,h.2⟩
 rcases h.1 with ⟨h0,rfl⟩|⟨h0,h1,rfl⟩|⟨h0,fs,d,h1,h2,h3⟩
 ·have hf:fieldsP s.data.toList=some []:=by unfold fieldsP;rw [if_pos h0]
  exact ⟨_,[],by unfold codeP;rw [hf];simp only [codeF_nil],own_none _ _,by unfold ansP;rw [hf];simp only [ansF_nil];rfl⟩
 ·have hf:fieldsP s.data.toList=none:=by unfold fieldsP;rw [if_neg h0];exact h1
  exact ⟨_,[],by unfold codeP;rw [hf],own_none _ _,by unfold ansP;rw [hf];rfl⟩
 ·have hf:fieldsP s.data.toList=some fs:=by unfold fieldsP;rw [if_neg h0];exact h1
  unfold codeP ansP
  rw [hf]
  subst h2
  refine ansPlain ?_
  rcases h3.plain with h|⟨h1,h|h|⟨h2,h3,u,o,h4,h5,h6⟩⟩
  ·exact Or.inl h
  ·exact Or.inr ⟨h1,Or.inl h⟩
  ·exact Or.inr ⟨h1,Or.inr (Or.inl h)⟩
  ·exact Or.inr ⟨h1,Or.inr (Or.inr ⟨h2,h3,u,o,h4,h5.1,h6⟩)⟩
end
section
open Go.RowKit Go.Lib
def wordsAns (l:List UInt8):List (List UInt8):=if l=[] then [] else splitL l
def WdPost (w:World) (l:List UInt8) (e:Ending) (w':World):Prop :=
 (∃v ws,e=.returned v∧OwnT w.heap.size w' v ws∧ws.map (·.data.toList)=wordsAns l∧ws.length≤l.length+1∧∀x∈ws,x.size≤l.length)∧Below w.heap.size w w'
def WdSt (w:World) (s:ByteArray) (i f:Nat) (v:Value) (wr:World):Prop :=
 ∃ws:List ByteArray,OwnT w.heap.size wr v ws∧ws.length≤i∧(∀x∈ws,x.size≤s.size)∧Below w.heap.size w wr ∧
  ((i≤s.size∧f≤i∧splitL s.data.toList=ws.map (·.data.toList)++splitL (s.data.toList.drop f)∧(32:UInt8) ∉ (s.data.toList.drop f).take (i-f))∨(i=s.size+1∧splitL s.data.toList=ws.map (·.data.toList)))
theorem ext_mid (s:ByteArray) (a b:Nat):(s.extract a b).data.toList=(s.data.toList.drop a).take (b-a):=by
 rw [Lib.extract_data]
theorem mid_size (s:ByteArray) (a b:Nat):(s.extract a b).size≤s.size:=by
 simp;omega
theorem drop_mid {l:List UInt8} {f i:Nat} (hf:f≤i):l.drop f=(l.drop f).take (i-f)++l.drop i:=by
 have h:l.drop i=(l.drop f).drop (i-f):=by rw [List.drop_drop];congr 1;omega
 rw [h,List.take_append_drop]
theorem split_at {l:List UInt8} {f i:Nat} (hf:f≤i) (hi:i<l.length) (hc:l[i]=32) (hn:(32:UInt8) ∉ (l.drop f).take (i-f)):splitL (l.drop f)=(l.drop f).take (i-f)::splitL (l.drop (i+1)):=by
 have e:l.drop f=(l.drop f).take (i-f)++32::l.drop (i+1):=by
  conv=>lhs;rw [drop_mid hf,List.drop_eq_getElem_cons hi,hc]
 have hx:Lib.indexByte (l.drop f) 32=(((l.drop f).take (i-f)).length:Int):=by
  conv=>lhs;rw [e]
  exact ix_here hn
 have hlen:((l.drop f).take (i-f)).length=i-f:=by rw [List.length_take,List.length_drop];omega
 rw [hlen] at hx
 rw [splitL_yes hx,List.drop_drop]
 congr 3
 omega
theorem split_last {l:List UInt8} {f:Nat} (hn:(32:UInt8) ∉ (l.drop f).take (l.length-f)):splitL (l.drop f)=[l.drop f]:=by
 rw [List.take_of_length_le (by rw [List.length_drop];omega)] at hn
 exact splitL_no (ix_none hn)
theorem take_next {l:List UInt8} {f i:Nat} (hf:f≤i) (hi:i<l.length) (hc:l[i]≠32) (hn:(32:UInt8) ∉ (l.drop f).take (i-f)):(32:UInt8) ∉ (l.drop f).take (i+1-f):=by
 have hl:i-f<(l.drop f).length:=by rw [List.length_drop];omega
 rw [show i+1-f=(i-f)+1 by omega,List.take_succ_eq_append_getElem hl,List.mem_append,List.mem_singleton,List.getElem_drop]
 rintro (h|h)
 ·exact hn h
 ·apply hc
  rw [h]
  congr 1
  omega
theorem txt_new (w:World) (t:ByteArray):∀m u,([.string t]:List Value)[m]? = some u→(w.alloc (.cells #[.string t] 9)).cell? ((⟨w.heap.size,0,none⟩:Addr).add m)=some u:=by
 intro m u hm
 match m,hm with
 | 0,hm=>simp at hm;subst hm;simp [Addr.add]
theorem txt_one (t:ByteArray):∀u∈([.string t]:List Value),u.oneCell'=true:=by
 intro u hu;simp at hu;subst hu;rfl
theorem own_snoc {n0:Nat} {w:World} {v:Value} {ts:List ByteArray} {t:ByteArray} (h:w.ownsRow n0 9 1 v (ts.length+1) (ts.map Value.string++[.string t])):OwnT n0 w v (ts++[t]):=by
 unfold OwnT
 simp only [List.length_append,List.length_cons,List.length_nil,List.map_append,List.map_cons,List.map_nil]
 exact h
set_option maxHeartbeats 4000000 in
set_option maxRecDepth 100000 in
theorem rwords_any (s:ByteArray) (w:World) (hs:s.size≤1000000000000) :
  Calls Tryz.prog 18 #[.string s] w fun e w'=>WdPost w s.data.toList e w':=by
 by_cases h0:s.data.toList=[]
 ·have e:s=⟨#[]⟩:=ba_eq h0
  subst e
  go_enter Tryz.func18,Tryz.ntmps18
  go_wp2_with fail
  go_ret
  exact ⟨⟨_,[],rfl,World.ownsRow_nil _ _ _ _,rfl,by simp,fun x hx=>by simp at hx⟩,Below.refl _ _⟩
 obtain ⟨i0,hi0,hz0,hz1,hz2⟩:=info_parts Tryz.infoStr
 have HI:=hid hi0
 have hne:=nonempty_of (a:=s) (fun e=>h0 (List.length_eq_zero_iff.1 (by simpa using e)))
 have HAN:Hid (wordsAns s.data.toList=splitL s.data.toList):=by show _=_;unfold wordsAns;rw [if_neg h0]
 have hlen:s.data.toList.length=s.size:=by simp
 have HLEN:=hid hlen
 clear hi0 h0 hlen
 go_enter Tryz.func18,Tryz.ntmps18
 go_wp2_with fail
 have ST0:Hid (WdSt w s 0 0 (.slice none 0 0) w):=⟨[],World.ownsRow_nil _ _ _ _,by simp,fun x hx=>by simp at hx,Below.refl _ _,Or.inl ⟨by omega,by omega,by simp,by simp⟩⟩
 go_loopg [3,4,5] (s.size+1) (fun g vl vf vi wr=>∃i f:Nat,vi=.int .i64 i∧vf=.int .i64 f∧i≤s.size+1∧s.size+1-i≤g∧f≤s.size+1∧WdSt w s i f vl wr)
 case atStart=>exact ⟨0,0,rfl,rfl,by omega,by omega,by omega,ST0.out⟩
 case round =>
  clear ST0
  obtain ⟨i,f,rfl,rfl,hi,hgk,hf,ws,hot,hwl,hws,hb,hst⟩:=hrel
  have HOT:=hid hot
  have HWS:=hid hws
  have HB:=hid hb
  have hsz:=hb.size
  clear hot hws hb
  by_cases hlt:i≤s.size
  ·obtain ⟨hfi,hsp,hno⟩:f≤i∧splitL s.data.toList=ws.map (·.data.toList)++splitL (s.data.toList.drop f)∧(32:UInt8) ∉ (s.data.toList.drop f).take (i-f):=by
    rcases hst with h|h
    ·exact h.2
    ·omega
   have HSP:=hid hsp
   have HNO:=hid hno
   have hlez:(i:Int)≤(s.size:Int):=by omega
   have hfz:(0:Int)≤(f:Int):=by omega
   have hiz:(0:Int)≤(i:Int):=by omega
   have hfiz:(f:Int)≤(i:Int):=by omega
   clear hst hsp hno
   by_cases he:i=s.size
   ·have hez:((i:Int)==(s.size:Int))=true:=beq_iff_eq.2 (by omega)
    have hl1:splitL (s.data.toList.drop f)=[s.data.toList.drop f]:=split_last (by rw [HLEN.out,←he];exact HNO.out)
    have hex:(s.extract f i).data.toList=s.data.toList.drop f:=by
     rw [ext_mid,List.take_of_length_le (by rw [List.length_drop,HLEN.out];omega)]
    have hxs:=mid_size s f i
    have hnw:splitL s.data.toList=(ws++[s.extract f i]).map (·.data.toList):=by rw [HSP.out,hl1,List.map_append,List.map_cons,List.map_nil,hex]
    have HXS:=hid hxs
    have HNW:=hid hnw
    have HE:=hid he
    clear he hl1 hex hxs hnw
    go_wp2_with (first|(at_builtin;refine wpList_append_own _ rfl _ _ 43 rfl w.heap.size 9 i0 (.string ⟨#[]⟩) 1 16 Tryz.underlying43 HI.out hz0 hz1 hz2 rfl (by decide) _ _ _ rfl (World.ownsRow.alloc HOT.out _) ⟨wr.heap.size,0,none⟩ 1 1 [.string (s.extract f i)] rfl rfl (txt_new _ _) (txt_one _) (by unfold maxLen;omega) (by omega) (by simp;omega) ?_))
    intro v4 w4 hown4 hg4 _
    have HO4:=hid (own_snoc hown4)
    have HB4:Hid (Below w.heap.size w w4):=(HB.out.alloc hsz _).grown hg4 (by simp;omega) (fun q hq=>(World.ownsRow.lt HOT.out q hq).1)
    clear hown4 hg4
    go_wp2_with fail
    go_roundg (s.size+1-(i+1))
    case measure=>omega
    refine ⟨i+1,i+1,by go_num,by go_num,by omega,by omega,by omega,ws++[s.extract f i],HO4.out,by simp;omega,fun x hx=>?_,HB4.out,Or.inr ⟨by rw [HE.out],HNW.out⟩⟩
    rw [List.mem_append,List.mem_singleton] at hx
    rcases hx with hx|rfl
    ·exact HWS.out x hx
    ·exact HXS.out
   ·have hez:((i:Int)==(s.size:Int))=false:=beq_eq_false_iff_ne.2 (by omega)
    have hlt2:i<s.size:=by omega
    have hltz:(i:Int)<(s.size:Int):=by omega
    have hll:i<s.data.toList.length:=by rw [HLEN.out];exact hlt2
    have hby:s.data.toList[i]=s[i]:=rfl
    obtain ⟨c,hc⟩:∃c,s[i]=c:=⟨_,rfl⟩
    rw [hc] at hby
    have HBY:=hid hby
    clear he hby
    by_cases h32:c=32
    ·subst h32
     have hl1:=split_at hfi hll HBY.out HNO.out
     have hex:(s.extract f i).data.toList=(s.data.toList.drop f).take (i-f):=ext_mid _ _ _
     have hxs:=mid_size s f i
     have hnw:splitL s.data.toList=(ws++[s.extract f i]).map (·.data.toList)++splitL (s.data.toList.drop (i+1)):=by rw [HSP.out,hl1,List.map_append,List.map_cons,List.map_nil,hex];simp
     have HXS:=hid hxs
     have HNW:=hid hnw
     clear hl1 hex hxs hnw
     go_wp2_with (first|(at_builtin;refine wpList_append_own _ rfl _ _ 43 rfl w.heap.size 9 i0 (.string ⟨#[]⟩) 1 16 Tryz.underlying43 HI.out hz0 hz1 hz2 rfl (by decide) _ _ _ rfl (World.ownsRow.alloc HOT.out _) ⟨wr.heap.size,0,none⟩ 1 1 [.string (s.extract f i)] rfl rfl (txt_new _ _) (txt_one _) (by unfold maxLen;omega) (by omega) (by simp;omega) ?_))
     intro v4 w4 hown4 hg4 _
     have HO4:=hid (own_snoc hown4)
     have HB4:Hid (Below w.heap.size w w4):=(HB.out.alloc hsz _).grown hg4 (by simp;omega) (fun q hq=>(World.ownsRow.lt HOT.out q hq).1)
     clear hown4 hg4
     go_wp2_with fail
     go_roundg (s.size+1-(i+1))
     case measure=>omega
     refine ⟨i+1,i+1,by go_num,by go_num,by omega,by omega,by omega,ws++[s.extract f i],HO4.out,by simp;omega,fun x hx=>?_,HB4.out,Or.inl ⟨by omega,by omega,HNW.out,by simp⟩⟩
     rw [List.mem_append,List.mem_singleton] at hx
     rcases hx with hx|rfl
     ·exact HWS.out x hx
     ·exact HXS.out
    ·have h32z:((c.toNat:Int)==32)=false:=beq_eq_false_iff_ne.2 (fun e=>h32 (UInt8.toNat_inj.1 (by show c.toNat=32;omega)))
     have HN2:=hid (take_next hfi hll (by rw [HBY.out];exact h32) HNO.out)
     clear h32
     go_wp2_with fail
     go_roundg (s.size+1-(i+1))
     case measure=>omega
     exact ⟨i+1,f,by go_num,rfl,by omega,by omega,by omega,ws,HOT.out,by omega,HWS.out,HB.out,Or.inl ⟨by omega,by omega,HSP.out,HN2.out⟩⟩
  ·have hlez:¬ (i:Int)≤(s.size:Int):=by omega
   have hsp:splitL s.data.toList=ws.map (·.data.toList):=by
    rcases hst with h|h
    ·omega
    ·exact h.2
   have HSP:=hid hsp
   clear hst hsp
   go_wp2_with fail
   go_ret
   refine ⟨⟨_,ws,rfl,HOT.out,by rw [HAN.out,HSP.out],by rw [HLEN.out];omega,fun x hx=>by rw [HLEN.out];exact HWS.out x hx⟩,HB.out⟩
def PwPost (w : World) (ls : List (List UInt8)) (e : Ending) (w' : World) : Prop :=
  ((fieldsW ls = none ∧ e = .returned (.tuple #[.slice none 0 0, .int .i64 4])) ∨
   ∃ fs, fieldsW ls = some fs ∧ ∃ u o, e = .returned (.tuple #[u, .int .i64 (codeF fs)]) ∧ OwnXs w.heap.size w' u o ∧ o.map Fx.fld = ansF fs) ∧ Below w.heap.size w w'
def PwSt (w:World) (ls:List (List UInt8)) (i:Nat) (v:Value) (wr:World):Prop :=
 ∃d fs,OwnXs w.heap.size wr v d∧d.map Fx.fld=fs∧fieldsW (ls.take i)=some fs∧d.length=i∧Below w.heap.size w wr
theorem fieldsW_no {a b:List (List UInt8)} {l:List UInt8} (h:wordO l=none):fieldsW (a++l::b)=none:=by
 rw [fieldsW_append]
 cases fieldsW a with
 | none=>rfl
 | some x=>simp [fieldsW,h]
theorem fieldsW_snoc {a:List (List UInt8)} {l n t:List UInt8} {fs:List Fld} (ha:fieldsW a=some fs) (h:wordO l=some (n,t)):fieldsW (a++[l])=some (fs++[(⟨n.toArray⟩,[⟨t.toArray⟩])]):=by
 rw [fieldsW_append,ha]
 simp [fieldsW,h]
set_option maxHeartbeats 8000000 in
set_option maxRecDepth 100000 in
theorem rpw_any (p:Option Addr) (cap:Nat) (ws:List ByteArray) (w:World) (ht:TxtAt w p ws) (hl:ws.length≤1000000000000) (hs:∀x∈ws,x.size≤1000000000000) :
  Calls Tryz.prog 79 #[.slice p ws.length cap] w fun e w'=>PwPost w (ws.map (·.data.toList)) e w':=by
 obtain ⟨j0,hj0,hy0,hy1,hy2⟩:=info_parts Tryz.infoFld
 have HJ:=hid hj0
 have HT:=hid ht
 have HS:=hid hs
 clear hj0 ht hs
 have ST0:Hid (PwSt w (ws.map (·.data.toList)) 0 (.slice none 0 0) w):=⟨[],[],own_none _ _,rfl,by simp [fieldsW],rfl,Below.refl _ _⟩
 go_enter Tryz.func79,Tryz.ntmps79
 go_wp2_with fail
 go_loopg [4,5] ws.length (fun g vv vi wr=>∃i:Nat,vi=.int .i64 i∧i≤ws.length∧ws.length-i≤g∧PwSt w (ws.map (·.data.toList)) i vv wr)
 case atStart=>exact ⟨0,rfl,by omega,by omega,ST0.out⟩
 case round =>
 clear ST0
 obtain ⟨i,rfl,hi,hgk,d,fs,hox,hdm,hfw,hdl,hb⟩:=hrel
 have HOX:=hid hox
 have HDM:=hid hdm
 have HFW:=hid hfw
 have HDL:=hid hdl
 have HB:=hid hb
 have hsz:=hb.size
 clear hox hdm hfw hdl
 by_cases hlt:i<ws.length
 ·have hltz:(i:Int)<(ws.length:Int):=by omega
  have hiz:(0:Int)≤(i:Int):=by omega
  rcases HT.out with hn|⟨b,off,rfl,hc⟩
  ·rw [hn] at hlt;simp at hlt
  have c0:wr.cell? ⟨b,off+i,none⟩=some (.string ws[i]):=(hb.cell (p:=⟨b,off+i,none⟩) (cell_block (hc i hlt))).trans (hc i hlt)
  have hts:=HS.out _ (List.getElem_mem hlt)
  have hsplit:ws.map (·.data.toList)=(ws.map (·.data.toList)).take i++(ws[i]).data.toList::(ws.map (·.data.toList)).drop (i+1):=by
   have h1:i<(ws.map (·.data.toList)).length:=by simpa using hlt
   have h2:(ws.map (·.data.toList))[i]=(ws[i]).data.toList:=by simp
   rw [←h2,←List.drop_eq_getElem_cons h1,List.take_append_drop]
  have htk:(ws.map (·.data.toList)).take (i+1)=(ws.map (·.data.toList)).take i++[(ws[i]).data.toList]:=by
   rw [List.take_succ_eq_append_getElem (by simpa using hlt)];simp
  obtain ⟨x,hx⟩:∃x,ws[i]=x:=⟨_,rfl⟩
  rw [hx] at c0 hts hsplit htk
  have HSPL:=hid hsplit
  have HTK:=hid htk
  have hxl:x.data.toList.length=x.size:=by simp
  have HXL:=hid hxl
  clear hx hsplit htk hc hb hxl
  go_wp2_with fail
  go_loopg [7] x.size (fun g vk ws=>∃k:Nat,vk=.int .i64 k∧k≤x.size∧x.size-k≤g∧wr=ws∧Hid ((61:UInt8) ∉ x.data.toList.take k))
  case atStart=>exact ⟨0,rfl,by omega,by omega,rfl,(show Hid _ from by simp [Hid])⟩
  case round =>
  obtain ⟨k,rfl,hk,hgk2,rfl,HNK⟩:=hrel
  by_cases hkl:k<x.size
  ·have hkz:(k:Int)<(x.size:Int):=by omega
   have hkd:decide ((k:Int)<(x.size:Int))=true:=decide_eq_true hkz
   have hk0:(0:Int)≤(k:Int):=by omega
   have hkll:k<x.data.toList.length:=by rw [HXL.out];exact hkl
   have hby:x.data.toList[k]=x[k]:=rfl
   obtain ⟨c,hc⟩:∃c,x[k]=c:=⟨_,rfl⟩
   rw [hc] at hby
   have HBY:=hid hby
   clear hby
   by_cases h61:c=61
   ·subst h61
    have hsp:x.data.toList=x.data.toList.take k++61::x.data.toList.drop (k+1):=by
     conv=>lhs;rw [←List.take_append_drop k x.data.toList,List.drop_eq_getElem_cons hkll,HBY.out]
    have hix:Lib.indexByte x.data.toList 61=(k:Int):=by
     have h1:=ix_here (b:=x.data.toList.drop (k+1)) HNK.out
     rw [←hsp,List.length_take] at h1
     rw [h1]
     congr 1
     omega
    have hk1:(0:Int)≤(k:Int)+1:=by omega
    have hk2:(k:Int)+1≤(x.size:Int):=by omega
    have hne:((k:Int)==(x.size:Int))=false:=beq_eq_false_iff_ne.2 (by omega)
    have hrs:(x.extract (k+1) x.size).size≤140737488355327:=by simp;omega
    have HRR:=hid (rread_any (x.extract (k+1) x.size) wr hrs)
    rw [ext_tail] at HRR
    have HIX:=hid hix
    clear hsp hix hrs
    cases hrd:readL (x.data.toList.drop (k+1)) with
    | none =>
     rw [hrd] at HRR
     simp only [readV] at HRR
     have HO:Hid (wordO x.data.toList=none):=by
      show _=_;unfold wordO;rw [if_neg (by rw [HIX.out];omega),HIX.out,Int.toNat_natCast,hrd];rfl
     clear hrd
     go_wp2_with (first|(go_at_call 121;refine HRR.out.mono ?_;rintro e w2 ⟨rfl,hb2⟩))
     go_ret2
     exact ⟨Or.inl ⟨by rw [HSPL.out];exact fieldsW_no HO.out,rfl⟩,bel_then HB.out HB.out.size hb2⟩
    | some t =>
     rw [hrd] at HRR
     simp only [readV] at HRR
     have HO:Hid (wordO x.data.toList=some (x.data.toList.take k,t)):=by
      show _=_;unfold wordO;rw [if_neg (by rw [HIX.out];omega),HIX.out,Int.toNat_natCast,hrd];rfl
     clear hrd
     have HE:=hid (ext_take x k)
     go_wp2_with (first|(go_at_call 121;refine HRR.out.mono ?_;rintro e w2 ⟨rfl,hb2⟩;have hb2s:=hb2.size;have HXA:=hid ((HOX.out.on hb2).on (((Below.refl _ w2).alloc (Nat.le_refl _) (.cells #[.string ⟨t.toArray⟩] 9)).alloc (by simp) (.cells #[.string (x.extract 0 k),.slice (some ⟨w2.heap.size,0,none⟩) 1 1] 45)));have HC:=hid (news_x (w2.alloc (.cells #[.string ⟨t.toArray⟩] 9)) ⟨x.extract 0 k,some ⟨w2.heap.size,0,none⟩,1,[⟨t.toArray⟩]⟩);rw [World.size_alloc] at HC)|(at_builtin;refine wpList_append_own _ rfl _ _ 37 rfl w.heap.size 45 j0 (.agg #[.string ⟨#[]⟩,.slice none 0 0]) 2 40 Tryz.underlying37 HJ.out hy0 hy1 hy2 rfl (by decide) _ _ _ rfl HXA.out.1 ⟨w2.heap.size+1,0,none⟩ 1 1 (cellsX [⟨x.extract 0 k,some ⟨w2.heap.size,0,none⟩,1,[⟨t.toArray⟩]⟩]) rfl rfl HC.out (cellsX_one _) (by rw [HDL.out];unfold maxLen;omega) (by rw [HDL.out];omega) (by simp;omega) ?_))
     intro v4 w4 hown4 hg4 _
     have hot0:OwnT w2.heap.size (w2.alloc (.cells #[.string ⟨t.toArray⟩] 9)) (.slice (some ⟨w2.heap.size,0,none⟩) 1 1) [⟨t.toArray⟩]:=World.ownsRow_lit w2 #[.string ⟨t.toArray⟩] 1 (Nat.le_refl _) (by decide) rfl
     have hot1:OwnT w.heap.size ((w2.alloc (.cells #[.string ⟨t.toArray⟩] 9)).alloc (.cells #[.string (x.extract 0 k),.slice (some ⟨w2.heap.size,0,none⟩) 1 1] 45)) (.slice (some ⟨w2.heap.size,0,none⟩) 1 1) [⟨t.toArray⟩]:=own_weak (OwnT.on hot0 ((Below.refl _ _).alloc (Nat.le_refl _) _)) (Nat.le_trans hsz hb2s)
     have HX4:=hid (HXA.out.put (x:=⟨x.extract 0 k,some ⟨w2.heap.size,0,none⟩,1,[⟨t.toArray⟩]⟩) hot1 hown4 hg4)
     have hb3:Below w.heap.size w w2:=bel_then HB.out HB.out.size hb2
     have HB4:Hid (Below w.heap.size w w4):=((hb3.alloc (by omega) _).alloc (by simp;omega) _).grown hg4 (by simp;omega) (fun q hq=>(World.ownsRow.lt HXA.out.1 q hq).1)
     clear hown4 hg4 hot0 hot1 hb3
     go_wp2_with fail
     go_roundg (ws.length-(i+1))
     case measure=>omega
     refine ⟨i+1,by go_num,by omega,by omega,_,_,HX4.out,rfl,?_,by rw [List.length_append,HDL.out];rfl,HB4.out⟩
     rw [HTK.out,fieldsW_snoc HFW.out HO.out,List.map_append,HDM.out]
     simp only [List.map_cons,List.map_nil,Fx.fld,HE.out]
   ·have h61z:((c.toNat:Int) != 61)=true:=by
     rw [bne_iff_ne]
     exact fun e=>h61 (UInt8.toNat_inj.1 (by show c.toNat=61;omega))
    have HN2:Hid ((61:UInt8) ∉ x.data.toList.take (k+1)):=by
     show _ ∉ _
     rw [List.take_succ_eq_append_getElem hkll,List.mem_append,List.mem_singleton,HBY.out]
     rintro (h|h)
     ·exact HNK.out h
     ·exact h61 h.symm
    clear h61
    go_wp2_with fail
    go_roundg (x.size-(k+1))
    case measure=>omega
    case rel=>exact ⟨k+1,by go_num,by omega,by omega,rfl,HN2⟩
  ·have hkz:¬ (k:Int)<(x.size:Int):=by omega
   have hkd:decide ((k:Int)<(x.size:Int))=false:=decide_eq_false hkz
   have hke:((k:Int)==(x.size:Int))=true:=beq_iff_eq.2 (by omega)
   have HO:Hid (wordO x.data.toList=none):=by
    show _=_
    have h1:=HNK.out
    rw [List.take_of_length_le (by rw [HXL.out];omega)] at h1
    unfold wordO
    rw [if_pos (ix_none h1)]
   go_wp2_with fail
   go_ret2
   exact ⟨Or.inl ⟨by rw [HSPL.out];exact fieldsW_no HO.out,rfl⟩,HB.out⟩
 have hltz:¬ (i:Int)<(ws.length:Int):=by omega
 have hfw2:fieldsW (ws.map (·.data.toList))=some fs:=by
  have h1:=HFW.out
  rw [List.take_of_length_le (by rw [List.length_map];omega)] at h1
  exact h1
 obtain ⟨f1,f2,f3⟩:=fieldsW_len (B:=1000000000000) (ws.map (·.data.toList)) (fun l hl=>by
  obtain ⟨x,hx,rfl⟩:=List.mem_map.1 hl
  simpa using HS.out x hx) fs hfw2
 rw [List.length_map] at f1 f2
 have hfit:FitX d:=⟨by rw [HDL.out];unfold maxLen;omega,fun x hx=>by
  have:=f3 x.fld (by rw [←HDM.out];exact List.mem_map.2 ⟨x,hx,rfl⟩)
  refine ⟨?_,?_,fun t ht=>?_⟩
  ·unfold maxLen;omega
  ·rw [this.2.1];unfold maxLen;omega
  ·have:=this.2.2 t ht;unfold maxLen;omega⟩
 have HNM:=hid (rnorm_plain u4 d wr HOX.out.is hfit (by rw [HDL.out];omega) (by rw [HDM.out,f2];omega))
 rw [HDM.out] at HNM
 have HF2:=hid hfw2
 clear f1 f2 f3 hfit hfw2
 go_wp2_with (first|(go_at_call 122;refine HNM.out.mono ?_;rintro e w2 ⟨⟨u2,o2,rfl,ho2,hm2⟩,hb2⟩))
 go_ret2
 exact ⟨Or.inr ⟨fs,HF2.out,u2,o2,rfl,⟨own_weak ho2.1 hsz,fun x hx=>own_weak (ho2.2 x hx) hsz⟩,hm2⟩,bel_then HB.out HB.out.size hb2⟩
theorem fieldsP_words (l:List UInt8):fieldsW (wordsAns l)=fieldsP l:=by
 unfold wordsAns fieldsP
 split
 ·rfl
 ·rfl
end
section
open Go.RowKit Go.Lib
def isOp (c:UInt8):Bool:=opN (c.toNat:Int) != 0
def termO (l:List UInt8):Option Tm :=
 match l.dropWhile (fun c=>!isOp c) with
 | []=>none
 | c::r=>match readL r with
  | none=>none
  | some t=>if 5<opN (c.toNat:Int)∧r≠[] then none else some (⟨(l.takeWhile (fun c=>!isOp c)).toArray⟩,opN (c.toNat:Int),⟨t.toArray⟩)
def termsW:List (List UInt8)→Option (List Tm)
 | []=>some []
 | l::ls=>match termO l with
  | none=>none
  | some x=>(termsW ls).map (x :: ·)
theorem termsW_append (a b:List (List UInt8)):termsW (a++b)=(termsW a).bind fun xs=>(termsW b).map (xs ++ ·):=by
 induction a with
 | nil=>simp [termsW]
 | cons l a ih =>
  simp only [List.cons_append,termsW,ih]
  cases termO l with
  | none=>rfl
  | some x =>
   cases termsW a with
   | none=>rfl
   | some xs=>cases termsW b<;>rfl
theorem termsW_no {a b:List (List UInt8)} {l:List UInt8} (h:termO l=none):termsW (a++l::b)=none:=by
 rw [termsW_append]
 cases termsW a with
 | none=>rfl
 | some x=>simp [termsW,h]
theorem termsW_snoc {a:List (List UInt8)} {l:List UInt8} {xs:List Tm} {x:Tm} (ha:termsW a=some xs) (h:termO l=some x):termsW (a++[l])=some (xs++[x]):=by
 rw [termsW_append,ha]
 simp [termsW,h]
theorem op_split {l:List UInt8} {k:Nat} (hk:k<l.length) (h:∀d∈l.take k,isOp d=false) (h2:isOp l[k]=true) :
  l.takeWhile (fun c=>!isOp c)=l.take k∧l.dropWhile (fun c=>!isOp c)=l[k]::l.drop (k+1):=by
 have e:l=l.take k++l[k]::l.drop (k+1):=by
  conv=>lhs;rw [←List.take_append_drop k l,List.drop_eq_getElem_cons hk]
 have hp:∀d∈l.take k,(!isOp d)=true:=fun d hd=>by rw [h d hd];rfl
 constructor
 ·conv=>lhs;rw [e]
  rw [List.takeWhile_append_of_pos hp,List.takeWhile_cons,h2]
  simp
 ·conv=>lhs;rw [e]
  rw [List.dropWhile_append_of_pos hp,List.dropWhile_cons,h2]
  simp
theorem op_none {l:List UInt8} (h:∀d∈l,isOp d=false):termO l=none:=by
 have:l.dropWhile (fun c=>!isOp c)=[]:=by
  induction l with
  | nil=>rfl
  | cons c l ih =>
   rw [List.dropWhile_cons,h c (by simp)]
   simpa using ih fun d hd=>h d (by simp [hd])
 unfold termO
 rw [this]
def fitT (x:Tm):Prop:=x.1.size≤1000000000000∧x.2.2.size≤1000000000000∧0≤x.2.1∧x.2.1≤7
def codeW (o:Option (List Tm)):Int:=match o with|none=>4|some p=>mayM p
def ansW (o:Option (List Tm)):List Tm:=match o with|none=>[]|some p=>ansM p
def TWPost (w:World) (o:Option (List Tm)) (e:Ending) (w':World):Prop :=
 (∃u,e=.returned (.tuple #[u,.int .i64 (codeW o)])∧KM.Own w.heap.size w' u (ansW o))∧Below w.heap.size w w'
def TWSt (w:World) (ls:List (List UInt8)) (i:Nat) (v:Value) (wr:World):Prop :=
 ∃d,KM.Own w.heap.size wr v d∧termsW (ls.take i)=some d∧d.length=i∧(∀x∈d,fitT x)∧Below w.heap.size w wr
set_option maxHeartbeats 8000000 in
set_option maxRecDepth 100000 in
theorem rpwM_any (p:Option Addr) (cap:Nat) (ws:List ByteArray) (w:World) (ht:TxtAt w p ws) (hl:ws.length≤1000000000000) (hs:∀x∈ws,x.size≤1000000000000) :
  Calls Tryz.prog 80 #[.slice p ws.length cap] w fun e w'=>TWPost w (termsW (ws.map (·.data.toList))) e w':=by
 obtain ⟨j0,hj0,hy0,hy1,hy2⟩:=info_parts Tryz.infoTrm
 have HJ:=hid hj0
 have HT:=hid ht
 have HS:=hid hs
 clear hj0 ht hs
 have ST0:Hid (TWSt w (ws.map (·.data.toList)) 0 (.slice none 0 0) w):=⟨[],KM.own_nil _ _,by simp [termsW],rfl,fun x hx=>by simp at hx,Below.refl _ _⟩
 go_enter Tryz.func80,Tryz.ntmps80
 go_wp2_with fail
 go_loopg [4,5] ws.length (fun g vv vi wr=>∃i:Nat,vi=.int .i64 i∧i≤ws.length∧ws.length-i≤g∧TWSt w (ws.map (·.data.toList)) i vv wr)
 case atStart=>exact ⟨0,rfl,by omega,by omega,ST0.out⟩
 case round =>
 clear ST0
 obtain ⟨i,rfl,hi,hgk,d,hox,hfw,hdl,hft,hb⟩:=hrel
 have HOX:=hid hox
 have HFW:=hid hfw
 have HDL:=hid hdl
 have HFT:=hid hft
 have HB:=hid hb
 have hsz:=hb.size
 clear hox hfw hdl hft
 by_cases hlt:i<ws.length
 ·have hltz:(i:Int)<(ws.length:Int):=by omega
  have hiz:(0:Int)≤(i:Int):=by omega
  rcases HT.out with hn|⟨b,off,rfl,hc⟩
  ·rw [hn] at hlt;simp at hlt
  have c0:wr.cell? ⟨b,off+i,none⟩=some (.string ws[i]):=(hb.cell (p:=⟨b,off+i,none⟩) (cell_block (hc i hlt))).trans (hc i hlt)
  have hts:=HS.out _ (List.getElem_mem hlt)
  have hsplit:ws.map (·.data.toList)=(ws.map (·.data.toList)).take i++(ws[i]).data.toList::(ws.map (·.data.toList)).drop (i+1):=by
   have h1:i<(ws.map (·.data.toList)).length:=by simpa using hlt
   have h2:(ws.map (·.data.toList))[i]=(ws[i]).data.toList:=by simp
   rw [←h2,←List.drop_eq_getElem_cons h1,List.take_append_drop]
  have htk:(ws.map (·.data.toList)).take (i+1)=(ws.map (·.data.toList)).take i++[(ws[i]).data.toList]:=by
   rw [List.take_succ_eq_append_getElem (by simpa using hlt)];simp
  obtain ⟨x,hx⟩:∃x,ws[i]=x:=⟨_,rfl⟩
  rw [hx] at c0 hts hsplit htk
  have HSPL:=hid hsplit
  have HTK:=hid htk
  have hxl:x.data.toList.length=x.size:=by simp
  have HXL:=hid hxl
  have HNO:Hid (termO x.data.toList=none→termsW (ws.map (·.data.toList))=none):=fun h=>by rw [HSPL.out];exact termsW_no h
  clear hx hsplit htk hc hb hxl HSPL
  go_wp2_with fail
  go_loopg [7] x.size (fun g vk ws=>∃k:Nat,vk=.int .i64 k∧k≤x.size∧x.size-k≤g∧wr=ws∧Hid (∀d∈x.data.toList.take k,isOp d=false))
  case atStart=>exact ⟨0,rfl,by omega,by omega,rfl,(show Hid _ from by simp [Hid])⟩
  case round =>
  obtain ⟨k,rfl,hk,hgk2,rfl,HNK⟩:=hrel
  by_cases hkl:k<x.size
  ·have hkz:(k:Int)<(x.size:Int):=by omega
   have hkd:decide ((k:Int)<(x.size:Int))=true:=decide_eq_true hkz
   have hk0:(0:Int)≤(k:Int):=by omega
   have hkll:k<x.data.toList.length:=by rw [HXL.out];exact hkl
   have hby:x.data.toList[k]=x[k]:=rfl
   obtain ⟨c,hc⟩:∃c,x[k]=c:=⟨_,rfl⟩
   rw [hc] at hby
   have HBY:=hid hby
   clear hby
   have hor:=opN_range (c.toNat:Int)
   have HIS:Hid (isOp c=(opN (c.toNat:Int) != 0)):=rfl
   have HOC:Hid (∀W,Calls Tryz.prog 123 #[.int .u8 (c.toNat:Int)] W fun e w'=>e=.returned (.int .i64 (opN (c.toNat:Int)))∧W=w'):=fun W=>(rop_any (c.toNat:Int) W).mono fun e w' h=>⟨h.1,h.2.symm⟩
   have HTO:Hid (isOp c=true→termO x.data.toList=match readL (x.data.toList.drop (k+1)) with
     | none=>none
     | some t=>if 5<opN (c.toNat:Int)∧x.data.toList.drop (k+1)≠[] then none else some (⟨(x.data.toList.take k).toArray⟩,opN (c.toNat:Int),⟨t.toArray⟩)):=fun h=>by
    obtain ⟨e1,e2⟩:=op_split hkll HNK.out (by rw [HBY.out];exact h)
    unfold termO
    rw [e2,e1,HBY.out]
   obtain ⟨o,ho⟩:∃o,opN (c.toNat:Int)=o:=⟨_,rfl⟩
   rw [ho] at HIS HOC hor HTO
   clear ho
   obtain ⟨ho0,ho7⟩:=hor
   by_cases hz:o=0
   ·have HN2:Hid (∀d∈x.data.toList.take (k+1),isOp d=false):=by
     intro d hd
     rw [List.take_succ_eq_append_getElem hkll,List.mem_append,List.mem_singleton,HBY.out] at hd
     rcases hd with h|h
     ·exact HNK.out d h
     ·rw [h,HIS.out,hz];rfl
    clear HTO HIS
    subst hz
    go_wp2_with (first|(go_at_call 123;refine (HOC.out _).mono ?_;rintro e w2 ⟨rfl,rfl⟩))
    go_roundg (x.size-(k+1))
    case measure=>omega
    case rel=>exact ⟨k+1,by go_num,by omega,by omega,rfl,HN2⟩
   ·have HT2:=hid (HTO.out (by rw [HIS.out,bne_iff_ne];exact hz))
    have hzb:(o==0)=false:=beq_eq_false_iff_ne.2 hz
    have hk1:(0:Int)≤(k:Int)+1:=by omega
    have hk2:(k:Int)+1≤(x.size:Int):=by omega
    have hne:((k:Int)==(x.size:Int))=false:=beq_eq_false_iff_ne.2 (by omega)
    have hrs:(x.extract (k+1) x.size).size≤140737488355327:=by simp;omega
    have HRR:=hid (fun W=>rread_any (x.extract (k+1) x.size) W hrs)
    rw [ext_tail] at HRR
    have hdr:x.data.toList.drop (k+1)=[]↔¬ ((k:Int)<(x.size:Int)-1):=by
     rw [List.drop_eq_nil_iff,HXL.out];omega
    have HDR:=hid hdr
    clear HTO HIS hz hdr hrs
    cases hrd:readL (x.data.toList.drop (k+1)) with
    | none =>
     have HO:Hid (termsW (ws.map (·.data.toList))=none):=by
      refine HNO.out ?_
      rw [HT2.out,hrd]
     simp only [hrd,readV] at HRR
     clear hrd HT2
     go_wp2_with (first|(go_at_call 123;refine (HOC.out _).mono ?_;rintro e w2 ⟨rfl,rfl⟩)|(go_at_call 121;refine (HRR.out _).mono ?_;rintro e w2 ⟨rfl,hb2⟩))
     go_ret2
     exact ⟨⟨_,by rw [HO.out];rfl,by rw [HO.out];exact KM.own_nil _ _⟩,bel_then HB.out HB.out.size hb2⟩
    | some t =>
     have htl:t.length≤x.size:=by
      have h1:=readL_len _ _ _ (Nat.le_refl _) hrd
      rw [List.length_drop,HXL.out] at h1
      omega
     simp only [hrd,readV] at HRR
     have HTT:Hid (termO x.data.toList=if 5<o∧x.data.toList.drop (k+1)≠[] then none else some (⟨(x.data.toList.take k).toArray⟩,o,⟨t.toArray⟩)):=by
      show _=_
      rw [HT2.out,hrd]
     clear hrd HT2
     by_cases hbad:5<o∧(k:Int)<(x.size:Int)-1
     ·obtain ⟨h5,hkn⟩:=hbad
      have h5d:decide (5<o)=true:=decide_eq_true h5
      have hknd:decide ((k:Int)<(x.size:Int)-1)=true:=decide_eq_true hkn
      have HO:Hid (termsW (ws.map (·.data.toList))=none):=by
       refine HNO.out ?_
       rw [HTT.out,if_pos ⟨h5,fun e=>(HDR.out.1 e) hkn⟩]
      clear HTT
      go_wp2_with (first|(go_at_call 123;refine (HOC.out _).mono ?_;rintro e w9 ⟨rfl,rfl⟩)|(go_at_call 121;refine (HRR.out _).mono ?_;rintro e w2 ⟨rfl,hb2⟩))
      go_ret2
      exact ⟨⟨_,by rw [HO.out];rfl,by rw [HO.out];exact KM.own_nil _ _⟩,bel_then HB.out HB.out.size hb2⟩
     ·have HO:Hid (termO x.data.toList=some (x.extract 0 k,o,⟨t.toArray⟩)):=by
       show _=_
       rw [HTT.out,if_neg (fun h=>hbad ⟨h.1,Decidable.byContradiction fun h2=>h.2 (HDR.out.2 h2)⟩),ext_take]
      have HF1:Hid (fitT (x.extract 0 k,o,⟨t.toArray⟩)):=by
       refine ⟨?_,?_,ho0,ho7⟩
       ·simp;omega
       ·show t.toArray.size≤_
        rw [List.size_toArray];omega
      clear HTT
      have hcs:(5<o∧decide (5<o)=true∧¬ (k:Int)<(x.size:Int)-1∧decide ((k:Int)<(x.size:Int)-1)=false)∨(¬ 5<o∧decide (5<o)=false∧True∧True):=by
       by_cases h5:5<o
       ·have h6:¬ (k:Int)<(x.size:Int)-1:=fun h=>hbad ⟨h5,h⟩
        exact Or.inl ⟨h5,decide_eq_true h5,h6,decide_eq_false h6⟩
       ·exact Or.inr ⟨h5,decide_eq_false h5,trivial,trivial⟩
      clear hbad
      obtain ⟨nm,hnm⟩:∃nm,x.extract 0 k=nm:=⟨_,rfl⟩
      have HNM:=hid hnm
      rw [hnm] at HO HF1
      obtain ⟨tt,htt⟩:∃tt:ByteArray,⟨t.toArray⟩=tt:=⟨_,rfl⟩
      rw [htt] at HO HF1 HRR
      clear htt htl
      have hdl2:d.length≤1000000000000:=by rw [HDL.out];omega
      rcases hcs with ⟨h5,h5d,hkn,hknd⟩|⟨h5,h5d,hkn,hknd⟩
      all_goals
       go_wp2_with (first|(go_at_call 123;refine (HOC.out _).mono ?_;rintro e w9 ⟨rfl,rfl⟩)|(go_at_call 121;refine (HRR.out _).mono ?_;rintro e w2 ⟨rfl,hb2⟩;have HO2:=hid (Kind.own_on HOX.out hb2);have HB2:Hid (Below w.heap.size w w2):=bel_then HB.out HB.out.size hb2;clear hb2))
       have hszW:=HB2.out.size
       go_region_law (first
        | (refine step_append_lies _ (by rfl) (.tmp 61) (.tmp 71) 39 (by rfl) w.heap.size 49 j0 (.agg #[.string ⟨#[]⟩,.int .i64 0,.string ⟨#[]⟩]) 3 40 Tryz.underlying39 HJ.out hy0 hy1 hy2 rfl (by decide) u4 d.length (KM.cells d) (by rfl) (World.ownsRow.alloc (w:=w2.drew) HO2.out _) _ 1 1 (KM.cells [(nm,o,tt)]) (by rfl) rfl (KM.news w2.drew (nm,o,tt)) (KM.cells_ones _) (by decide) (by unfold maxLen;omega) (by omega) (by simp;omega) _ rfl ?_;intro g4 cap4 w4 hown4 hg4 _ _)
        | (go_simp;go_at_call 123;refine (HOC.out _).mono ?_;rintro e w9 ⟨rfl,rfl⟩))
       all_goals
        have HO4:Hid (KM.Own w.heap.size w4 (.slice (some ⟨g4,0,none⟩) (d.length+1) cap4) (d++[(nm,o,tt)])):=Kind.own_snoc hown4 rfl rfl
        have HB4:Hid (Below w.heap.size w w4):=((bel_drewN HB2.out 1).alloc hszW _).grown hg4 (by have h1:w.heap.size≤(w2.drewN 1).heap.size:=hszW;simp;omega) (fun z hz=>(World.ownsRow.lt HO2.out z hz).1)
        clear hown4 hg4
        go_wp2_with fail
        go_roundg (ws.length-(i+1))
        case measure=>omega
        case rel =>
         refine ⟨i+1,by go_num,by omega,by omega,_,HO4.out,by rw [HTK.out];exact termsW_snoc HFW.out HO.out,by rw [List.length_append,HDL.out];rfl,fun y hy=>?_,HB4.out⟩
         rcases List.mem_append.1 hy with h|h
         ·exact HFT.out y h
         ·rw [List.mem_singleton.1 h];exact HF1.out
  ·have hkz:¬ (k:Int)<(x.size:Int):=by omega
   have hkd:decide ((k:Int)<(x.size:Int))=false:=decide_eq_false hkz
   have hke:((k:Int)==(x.size:Int))=true:=beq_iff_eq.2 (by omega)
   have HO:Hid (termsW (ws.map (·.data.toList))=none):=by
    refine HNO.out ?_
    have h1:=HNK.out
    rw [List.take_of_length_le (by rw [HXL.out];omega)] at h1
    exact op_none h1
   go_wp2_with fail
   go_ret2
   exact ⟨⟨_,by rw [HO.out];rfl,by rw [HO.out];exact KM.own_nil _ _⟩,HB.out⟩
 have hltz:¬ (i:Int)<(ws.length:Int):=by omega
 have hfw2:termsW (ws.map (·.data.toList))=some d:=by
  have h1:=HFW.out
  rw [List.take_of_length_le (by rw [List.length_map];omega)] at h1
  exact h1
 have hfit:FitM d:=⟨by rw [HDL.out];unfold maxLen;omega,fun x hx=>by
  obtain ⟨a,b,c,d⟩:=HFT.out x hx
  unfold maxLen
  exact ⟨by omega,by omega,by omega,by omega⟩⟩
 have HNM:=hid (rnormM_any u4 d wr (Kind.own_is HOX.out) hfit)
 have HF2:=hid hfw2
 clear hfit hfw2
 go_wp2_with (first|(go_at_call 86;refine HNM.out.mono ?_;rintro e w2 ⟨⟨u2,rfl,ho2⟩,hb2⟩))
 go_ret2
 exact ⟨⟨u2,by rw [HF2.out];rfl,by rw [HF2.out];exact Kind.own_weak ho2 hsz⟩,bel_then HB.out HB.out.size hb2⟩
end
section
open Go.RowKit Go.Lib
theorem op_sign {c:UInt8} (h:isOp c=true):c=61∨c=33∨c=94∨c=60∨c=62∨c=63∨c=45:=by
 unfold isOp at h
 rw [bne_iff_ne] at h
 unfold opN at h
 have key:∀k:UInt8,(k.toNat:Int)=(c.toNat:Int)→c=k:=fun k e=>UInt8.toNat_inj.1 (by omega)
 by_cases h1:(61:Int)=c.toNat
 ·exact Or.inl (key 61 h1)
 by_cases h2:(33:Int)=c.toNat
 ·exact Or.inr (Or.inl (key 33 h2))
 by_cases h3:(94:Int)=c.toNat
 ·exact Or.inr (Or.inr (Or.inl (key 94 h3)))
 by_cases h4:(60:Int)=c.toNat
 ·exact Or.inr (Or.inr (Or.inr (Or.inl (key 60 h4))))
 by_cases h5:(62:Int)=c.toNat
 ·exact Or.inr (Or.inr (Or.inr (Or.inr (Or.inl (key 62 h5)))))
 by_cases h6:(63:Int)=c.toNat
 ·exact Or.inr (Or.inr (Or.inr (Or.inr (Or.inr (Or.inl (key 63 h6))))))
 by_cases h7:(45:Int)=c.toNat
 ·exact Or.inr (Or.inr (Or.inr (Or.inr (Or.inr (Or.inr (key 45 h7))))))
 rw [if_neg h1,if_neg h2,if_neg h3,if_neg h4,if_neg h5,if_neg h6,if_neg h7] at h
 exact absurd rfl h
theorem field_noop {l:List UInt8} (h:fieldB l=true):∀c∈l,isOp c=false:=by
 intro c hc
 unfold fieldB spell at h
 cases l with
 | nil=>simp at hc
 | cons x r =>
  simp only [Bool.and_eq_true,List.all_eq_true] at h
  have key:lodB (c.toNat:Int)=true∨smallB (c.toNat:Int)=true:=by
   rcases List.mem_cons.1 hc with e|hc
   ·exact Or.inr (by rw [e];exact h.1.2)
   ·exact Or.inl (h.2 _ hc)
  cases ho:isOp c with
  | false=>rfl
  | true =>
   rcases op_sign ho with rfl|rfl|rfl|rfl|rfl|rfl|rfl<;>(rcases key with k|k<;>(revert k;decide))
theorem opC_is {o:Int} (h1:1≤o) (h2:o≤7):isOp (opC o)=true:=by
 unfold isOp
 rw [opN_opC h1 h2,bne_iff_ne]
 omega
theorem opC_noblank (o:Int):opC o≠32:=by
 unfold opC
 repeat' split
 all_goals decide
theorem termO_back {x:Tm} (h1:namedM x=true) (h2:rightM x=true):termO (wordM x).data.toList=some x:=by
 obtain ⟨n,o,t⟩:=x
 have hr:=rightM_range h2
 simp only at hr
 have hno:=field_noop h1
 simp only at hno
 rw [wordM_data]
 simp only
 have hk:n.data.toList.length<(n.data.toList++opC o::writeL t.data.toList).length:=by simp
 have hg:(n.data.toList++opC o::writeL t.data.toList)[n.data.toList.length]=opC o:=by simp
 obtain ⟨e1,e2⟩:=op_split hk (by rw [List.take_left' rfl];exact hno) (by rw [hg];exact opC_is hr.1 hr.2)
 rw [List.take_left' rfl] at e1
 rw [hg,show n.data.toList++opC o::writeL t.data.toList=(n.data.toList++[opC o])++writeL t.data.toList by simp,List.drop_left' (by simp)] at e2
 unfold termO
 rw [e1,show n.data.toList++opC o::writeL t.data.toList=(n.data.toList++[opC o])++writeL t.data.toList by simp,e2]
 simp only
 rw [read_write]
 simp only
 rw [opN_opC hr.1 hr.2,if_neg,ba_back,ba_back]
 rintro ⟨h5,hne⟩
 apply hne
 unfold rightM at h2
 simp only [Bool.and_eq_true,Bool.or_eq_true,decide_eq_true_eq] at h2
 have h0:t.size=0:=by
  rcases h2.2 with h|h
  ·omega
  ·exact h
 have:t.data.toList=[]:=List.length_eq_zero_iff.1 (by simpa using h0)
 rw [this]
 rfl
theorem terms_back (p:List Tm) (h:∀x∈p,namedM x=true∧rightM x=true):termsW ((p.map wordM).map (·.data.toList))=some p:=by
 induction p with
 | nil=>rfl
 | cons x p ih =>
  have hx:=h x (by simp)
  simp only [List.map_cons,termsW]
  rw [termO_back hx.1 hx.2,ih fun y hy=>h y (by simp [hy])]
  rfl
theorem wordM_noblank {x:Tm} (h1:namedM x=true):(32:UInt8) ∉ (wordM x).data.toList:=by
 rw [wordM_data,List.mem_append,List.mem_cons]
 rintro (h|h|h)
 ·exact noblank_mem (field_noblank h1) h
 ·exact opC_noblank _ h.symm
 ·exact noblank_mem (write_noblank _) h
theorem ansM_again {p:List Tm} (h:mayM p=0):mayM (ansM p)=0∧ansM (ansM p)=ansM p:=by
 have e:ansM p=sortM p:=by unfold ansM;rw [if_pos h]
 have h8:=(mayM_zero h).1
 have hl:=sortM_len p
 obtain ⟨s1,s2⟩:=sortM_spec p
 rw [e]
 have hm:mayM (sortM p)=0:=(mayM_perm s2 (by omega) h8).trans h
 refine ⟨hm,?_⟩
 unfold ansM
 rw [if_pos hm]
 exact (sortM_unique s1 (fun _=>Iff.rfl)).symm
end
section
open Go.RowKit
abbrev Ed:=Int × ByteArray × ByteArray
def encE (x:Ed):List Value:=[.int .i64 x.1,.string x.2.1,.string x.2.2]
def KE:Kind Ed:=⟨47,3,encE,fun _=>rfl,by decide,fun x u hu=>by simp [encE] at hu;rcases hu with rfl|rfl|rfl<;>rfl⟩
def FitE (l:List Ed):Prop:=l.length≤maxLen∧∀x∈l,x.2.1.size≤maxLen∧x.2.2.size≤maxLen∧-9223372036854775808≤x.1∧x.1≤9223372036854775807
def namedE (x:Ed):Bool:=fieldB x.2.1.data.toList
def rightE (x:Ed):Bool:=decide (1≤x.1)&&decide (x.1≤5)&&(decide (x.1≠4)||decide (x.2.2.size=0))
def shortE (x:Ed):Bool:=decide (x.2.2.size≤128)
def mayE (l:List Ed):Int:=if 16<l.length then 5 else if l.all namedE=false then 2 else if l.all rightE=false then 1 else if l.all shortE=false then 5 else 0
theorem mayE_zero {l:List Ed} (h:mayE l=0):l.length≤16∧(∀x∈l,namedE x=true)∧(∀x∈l,rightE x=true)∧∀x∈l,shortE x=true:=by
 unfold mayE at h
 split at h
 ·omega
 ·rename_i h1
  split at h
  ·omega
  ·rename_i h2
   split at h
   ·omega
   ·rename_i h3
    split at h
    ·omega
    ·rename_i h4
     exact ⟨by omega,List.all_eq_true.1 (by simpa using h2),List.all_eq_true.1 (by simpa using h3),List.all_eq_true.1 (by simpa using h4)⟩
end
section
open Go.RowKit
theorem ke_cells {w:World} {b off:Nat} {p:List Ed} (h:KE.At w b off p) (i:Nat) (hi:i<p.length) :
  w.cell? ⟨b,off+i * 3,none⟩=some (.int .i64 (p[i]).1)∧w.cell? ⟨b,off+i * 3+1,none⟩=some (.string (p[i]).2.1)∧w.cell? ⟨b,off+i * 3+2,none⟩=some (.string (p[i]).2.2) :=
 ⟨h i hi 0 _ rfl,h i hi 1 _ rfl,h i hi 2 _ rfl⟩
theorem all_snocE {p:List Ed} {f:Ed→Bool} {i:Nat} (h:i<p.length):(p.take (i+1)).all f=((p.take i).all f&&f p[i]):=by
 rw [List.take_succ_eq_append_getElem h,List.all_append]
 simp
set_option maxHeartbeats 4000000 in
set_option maxRecDepth 100000 in
theorem rmayE_any (v:Value) (p:List Ed) (w:World) (hv:KE.Is w v p) (hf:FitE p) :
  Calls Tryz.prog 85 #[v] w fun e w'=>e=.returned (.int .i64 (mayE p))∧w'=w:=by
 obtain ⟨q,cap,rfl,hd⟩:=hv
 have hl:=hf.1
 unfold maxLen at hl
 have HD:=hid hd
 have HF:=hid hf.2
 obtain ⟨r,hr⟩:∃r,mayE p=r:=⟨_,rfl⟩
 rw [hr]
 have HR:=hid hr
 clear hd hf hr
 by_cases h8:16<p.length
 ·have h8z:(16:Int)<(p.length:Int):=by omega
  have H0:Hid (r=5):=by show _=_;rw [←HR.out];unfold mayE;rw [if_pos h8]
  clear h8
  go_enter Tryz.func85,Tryz.ntmps85
  go_wp2_with fail
  go_ret
  exact ⟨ret_int H0.out.symm,rfl⟩
 ·have h8z:¬ (16:Int)<(p.length:Int):=by omega
  have HR2:Hid (r=if p.all namedE=false then 2 else if p.all rightE=false then 1 else if p.all shortE=false then 5 else 0):=by show _=_;rw [←HR.out];unfold mayE;rw [if_neg h8]
  clear h8
  go_enter Tryz.func85,Tryz.ntmps85
  go_wp2_with fail
  go_loopg [3,4,5,6] p.length (fun g v3 v4 v5 vi wr=>∃i:Nat,vi=.int .i64 i∧i≤p.length∧p.length-i≤g∧v3=.bool ((p.take i).all namedE)∧v4=.bool ((p.take i).all rightE)∧v5=.bool ((p.take i).all shortE)∧w=wr)
  case atStart=>exact ⟨0,rfl,by omega,by omega,by simp,by simp,by simp,rfl⟩
  case round =>
  obtain ⟨i,rfl,hi,hgk,rfl,rfl,rfl,rfl⟩:=hrel
  by_cases hlt:i<p.length
  ·have hltz:(i:Int)<(p.length:Int):=by omega
   have hiz:(0:Int)≤(i:Int):=by omega
   obtain ⟨b,off,rfl,hat⟩:∃b off,q=some ⟨b,off,none⟩∧KE.At w b off p:=by
    rcases HD.out with h|h
    ·subst h;simp at hlt
    ·exact h
   obtain ⟨c0,c1,c2⟩:=ke_cells hat i hlt
   have hfx:=HF.out _ (List.getElem_mem hlt)
   have HN:=hid (all_snocE (f:=namedE) hlt)
   have HG:=hid (all_snocE (f:=rightE) hlt)
   have HS:=hid (all_snocE (f:=shortE) hlt)
   obtain ⟨x,hx⟩:∃x,p[i]=x:=⟨_,rfl⟩
   rw [hx] at c0 c1 c2 hfx HN HG HS
   obtain ⟨xo,xf,xt⟩:=x
   simp only at c0 c1 c2
   obtain ⟨B1,hB1⟩:∃B,(p.take i).all namedE=B:=⟨_,rfl⟩
   obtain ⟨B2,hB2⟩:∃B,(p.take i).all rightE=B:=⟨_,rfl⟩
   obtain ⟨B3,hB3⟩:∃B,(p.take i).all shortE=B:=⟨_,rfl⟩
   rw [hB1] at HN ⊢
   rw [hB2] at HG ⊢
   rw [hB3] at HS ⊢
   obtain ⟨hs1,hs2,hs3,hs4⟩:=hfx
   simp only at hs1 hs2 hs3 hs4
   have HFC:Hid (∀W,Calls Tryz.prog 126 #[.string xf] W fun e w'=>e=.returned (.bool (fieldB xf.data.toList))∧w'=W):=fun W=>rfield_any xf W hs1
   unfold maxLen at hs2
   clear hat hx hB1 hB2 hB3 hs1
   go_upto_region 7 with fail
   go_cut [3] from 10 to 67 (fun v wx=>w=wx∧v=.bool (B1&&fieldB xf.data.toList))
   case first =>
    cases B1 with
    | false =>
     go_wp2_with fail
     go_meet
     case rel=>exact ⟨rfl,rfl⟩
    | true =>
     go_wp2_with (first|(go_at_call 126;refine (HFC.out _).mono ?_;rintro e w1 ⟨rfl,rfl⟩))
     go_meet
     case rel=>exact ⟨rfl,rfl⟩
   case rest =>
   obtain ⟨rfl,rfl⟩:=hcut
   go_upto_region 8 with fail
   go_cut [4] from 10 to 67 (fun v wx=>w=wx∧v=.bool (B2&&rightE (xo,xf,xt)))
   case first =>
    have HRM:Hid (rightE (xo,xf,xt)=(decide (1≤xo)&&decide (xo≤5)&&(decide (xo≠4)||decide (xt.size=0)))):=rfl
    cases B2 with
    | false =>
     go_wp2_with fail
     go_meet
     case rel=>exact ⟨rfl,rfl⟩
    | true =>
     by_cases g1:1≤xo
     ·have d1:decide (1≤xo)=true:=decide_eq_true g1
      by_cases g2:xo≤5
      ·have d2:decide (xo≤5)=true:=decide_eq_true g2
       by_cases g3:xo=4
       ·have d3:(xo != 4)=false:=by simp [g3]
        by_cases g4:xt.size=0
        ·have e4:=sempty_of g4
         have HV:Hid (rightE (xo,xf,xt)=true):=by show _=_;rw [HRM.out,d1,d2,decide_eq_true g4];simp
         clear g4 g3
         go_wp2_with fail
         go_meet
         case rel=>exact ⟨rfl,by rw [HV.out];rfl⟩
        ·have e4:=sfull_of g4
         have HV:Hid (rightE (xo,xf,xt)=false):=by show _=_;rw [HRM.out,d1,d2,decide_eq_false g4,decide_eq_false (by simp [g3])];rfl
         clear g4 g3
         go_wp2_with fail
         go_meet
         case rel=>exact ⟨rfl,by rw [HV.out];rfl⟩
       ·have d3:(xo != 4)=true:=by simp [g3]
        have HV:Hid (rightE (xo,xf,xt)=true):=by show _=_;rw [HRM.out,d1,d2,decide_eq_true (by simpa using g3)];rfl
        clear g3
        go_wp2_with fail
        go_meet
        case rel=>exact ⟨rfl,by rw [HV.out];rfl⟩
      ·have d2:decide (xo≤5)=false:=decide_eq_false g2
       have HV:Hid (rightE (xo,xf,xt)=false):=by show _=_;rw [HRM.out,d1,d2];rfl
       go_wp2_with fail
       go_meet
       case rel=>exact ⟨rfl,by rw [HV.out];rfl⟩
     ·have d1:decide (1≤xo)=false:=decide_eq_false g1
      have HV:Hid (rightE (xo,xf,xt)=false):=by show _=_;rw [HRM.out,d1];rfl
      go_wp2_with fail
      go_meet
      case rel=>exact ⟨rfl,by rw [HV.out];rfl⟩
   case rest =>
   obtain ⟨rfl,rfl⟩:=hcut
   have HSM:Hid (shortE (xo,xf,xt)=decide (xt.size≤128)):=rfl
   cases B3 with
   | false =>
    go_wp2_with fail
    go_roundg (p.length-(i+1))
    case measure=>omega
    case rel=>exact ⟨i+1,by go_num,by omega,by omega,by rw [HN.out];rfl,by rw [HG.out],by rw [HS.out];rfl,rfl⟩
   | true =>
    by_cases g1:xt.size≤128
    ·have g1z:(xt.size:Int)≤128:=by omega
     have HV:Hid (shortE (xo,xf,xt)=true):=by show _=_;rw [HSM.out];exact decide_eq_true g1
     go_wp2_with fail
     go_roundg (p.length-(i+1))
     case measure=>omega
     case rel=>exact ⟨i+1,by go_num,by omega,by omega,by rw [HN.out];rfl,by rw [HG.out],by rw [HS.out,HV.out];rfl,rfl⟩
    ·have g1z:¬ (xt.size:Int)≤128:=by omega
     have HV:Hid (shortE (xo,xf,xt)=false):=by show _=_;rw [HSM.out];exact decide_eq_false g1
     go_wp2_with fail
     go_roundg (p.length-(i+1))
     case measure=>omega
     case rel=>exact ⟨i+1,by go_num,by omega,by omega,by rw [HN.out];rfl,by rw [HG.out],by rw [HS.out,HV.out];rfl,rfl⟩
  ·have hltz:¬ (i:Int)<(p.length:Int):=by omega
   rw [List.take_of_length_le (by omega)]
   cases h1:p.all namedE with
   | false =>
    have H0:Hid (r=2):=by show _=_;rw [HR2.out,h1];rfl
    clear h1
    go_wp2_with fail
    go_ret
    exact ⟨ret_int H0.out.symm,rfl⟩
   | true =>
    cases h2:p.all rightE with
    | false =>
     have H0:Hid (r=1):=by show _=_;rw [HR2.out,h1,h2];rfl
     clear h1 h2
     go_wp2_with fail
     go_ret
     exact ⟨ret_int H0.out.symm,rfl⟩
    | true =>
     cases h3:p.all shortE with
     | false =>
      have H0:Hid (r=5):=by show _=_;rw [HR2.out,h1,h2,h3];rfl
      clear h1 h2 h3
      go_wp2_with fail
      go_ret
      exact ⟨ret_int H0.out.symm,rfl⟩
     | true =>
      have H0:Hid (r=0):=by show _=_;rw [HR2.out,h1,h2,h3];rfl
      clear h1 h2 h3
      go_wp2_with fail
      go_ret
      exact ⟨ret_int H0.out.symm,rfl⟩
theorem Tryz.infoEd:(Tryz.prog.info? 47).map (fun i=>(i.zero,i.size,i.bytes))=some (some (.agg #[.int .i64 0,.string ⟨#[]⟩,.string ⟨#[]⟩]),3,40):=by kernel_rfl
theorem neq_edit (a b:Ed) (w:World):(binOp .neq 47 (.agg #[.int .i64 a.1,.string a.2.1,.string a.2.2]) (.agg #[.int .i64 b.1,.string b.2.1,.string b.2.2])).run Tryz.prog w=.ok (.bool (!decide (a=b))) w:=by
 obtain ⟨a1,a2,a3⟩:=a
 obtain ⟨b1,b2,b3⟩:=b
 have hS:Tryz.prog.underlying 47=some (.struct (Tryz.prog.fieldsOf 47)):=by kernel_rfl
 have hp:Tryz.prog.stoodInHeld 47=false:=by kernel_rfl
 have u9:=Tryz.underlying9
 have a9:=Tryz.isAgg9
 have z9:=Tryz.sizeOf9
 have u3:=Tryz.underlying3
 have a3':=Tryz.isAgg3
 have z3:=Tryz.sizeOf3
 rw [run_neq_struct,show (10000:Nat)=9999+1 from rfl,run_equalIn_agg w 9999 47 _ _ hS hp]
 simp only [Program.fieldsOf,Tryz.underlying47]
 go_simp
 by_cases h1:a1=b1
 ·subst h1
  by_cases h2:a2=b2
  ·subst h2
   by_cases h3:a3=b3
   ·subst h3;simp
   ·have e3:=beq_eq_false_iff_ne.1 (seq_false h3)
    simp [h3,e3]
  ·have e2:=beq_eq_false_iff_ne.1 (seq_false h2)
   simp [h2,e2]
 ·simp [h1]
set_option maxHeartbeats 2000000 in
set_option maxRecDepth 100000 in
theorem rsameE_any (v u:Value) (p q:List Ed) (w:World) (hv:KE.Is w v p) (hu:KE.Is w u q) (hl1:p.length≤maxLen) :
  Calls Tryz.prog 22 #[v,u] w fun e w'=>e=.returned (.bool (decide (p=q)))∧∃n,w'=w.drewN n:=by
 unfold maxLen at hl1
 obtain ⟨a1,k1,rfl,hd1⟩:=hv
 obtain ⟨a2,k2,rfl,hd2⟩:=hu
 obtain ⟨r,hr⟩:∃r,decide (p=q)=r:=⟨_,rfl⟩
 rw [hr]
 have HR:=hid hr
 have HD1:=hid hd1
 have HD2:=hid hd2
 clear hr hd1 hd2
 by_cases hl:p.length=q.length
 ·have hb:((p.length:Int) != (q.length:Int))=false:=by simp [hl]
  have HL:=hid hl
  clear hl
  go_enter Tryz.func22,Tryz.ntmps22
  go_wp2_with fail
  go_loopg [5] p.length (fun g vi wr=>∃i m:Nat,vi=.int .i64 i∧i≤p.length∧p.length-i≤g∧wr=w.drewN m∧Hid (∀j,j<i→p[j]? = q[j]?))
  case atStart=>exact ⟨0,0,rfl,by omega,by omega,rfl,fun j h=>by omega⟩
  case round =>
   obtain ⟨i,m,rfl,hi,hg,rfl,HJ⟩:=hrel
   by_cases hlt:i<p.length
   ·have hlt2:i<q.length:=by rw [←HL.out];exact hlt
    have i1:(0:Int)≤↑i:=by omega
    have i2:(↑i:Int) < ↑p.length:=by omega
    have i3:(↑i:Int) < ↑q.length:=by omega
    rcases HD1.out with hn|⟨b1,o1,rfl,k1⟩
    ·rw [hn] at hlt;simp at hlt
    rcases HD2.out with hn|⟨b2,o2,rfl,k2⟩
    ·rw [hn] at hlt2;simp at hlt2
    obtain ⟨x0,x1,x2⟩:=ke_cells k1 i hlt
    obtain ⟨y0,y1,y2⟩:=ke_cells k2 i hlt2
    have hne:=fun W=>neq_edit p[i] q[i] W
    have G1:=hid (List.getElem?_eq_getElem hlt)
    have G2:=hid (List.getElem?_eq_getElem hlt2)
    obtain ⟨x,hx⟩:∃x,p[i]=x:=⟨_,rfl⟩
    obtain ⟨y,hy⟩:∃y,q[i]=y:=⟨_,rfl⟩
    rw [hx] at x0 x1 x2 hne G1
    rw [hy] at y0 y1 y2 hne G2
    clear k1 k2 hx hy
    by_cases hst:x=y
    ·have hd:=decide_eq_true hst
     rw [hd] at hne
     have HS:=hid hst
     clear hst hd
     go_wp2_with fail
     go_quiet (fail)
     go_wp2_with fail
     go_roundg (p.length-(i+1))
     case measure=>omega
     refine ⟨i+1,_,by go_num,by omega,by omega,rfl,fun j hj=>?_⟩
     by_cases e:j=i
     ·subst e;rw [G1.out,G2.out,HS.out]
     ·exact HJ.out j (by omega)
    ·have hd:=decide_eq_false hst
     rw [hd] at hne
     have H0:Hid (r=false):=HR.out.symm.trans (decide_eq_false fun e=>hst (by
      have:=G1.out
      rw [e,G2.out] at this
      exact (Option.some.inj this).symm))
     clear hst hd
     go_wp2_with fail
     go_quiet (fail)
     go_wp2_with fail
     go_ret
     exact ⟨ret_bool H0.out.symm,_,by rw [World.drewN_drewN]⟩
   ·have hltz:¬ (i:Int)<(p.length:Int):=by omega
    have H0:Hid (r=true):=HR.out.symm.trans (decide_eq_true (List.ext_getElem? fun j=>by
     by_cases hj:j<p.length
     ·exact HJ.out j (by omega)
     ·rw [List.getElem?_eq_none (by omega),List.getElem?_eq_none (by have:=HL.out;omega)]))
    go_wp2_with fail
    go_ret
    exact ⟨ret_bool H0.out.symm,_,rfl⟩
 ·have hb:((p.length:Int) != (q.length:Int))=true:=by simp;omega
  have H0:Hid (r=false):=HR.out.symm.trans (decide_eq_false fun e=>hl (by rw [e]))
  clear hl
  go_enter Tryz.func22,Tryz.ntmps22
  go_wp2_with fail
  go_ret
  exact ⟨ret_bool H0.out.symm,0,rfl⟩
def signS (k:Int):ByteArray:=if k=1 then ⟨#[58,61]⟩ else if k=2 then ⟨#[43,61]⟩ else if k=3 then ⟨#[45,61]⟩ else if k=4 then ⟨#[126]⟩ else ⟨#[61,61]⟩
set_option maxHeartbeats 2000000 in
theorem rsign_any (k:Int) (w:World):Calls Tryz.prog 96 #[.int .i64 k] w fun e w'=>e=.returned (.string (signS k))∧w'=w:=by
 by_cases h1:k=1
 ·subst h1
  go_enter Tryz.func96,Tryz.ntmps96
  go_wp2_with fail
  go_ret
  exact ⟨rfl,rfl⟩
 ·by_cases h2:k=2
  ·subst h2
   go_enter Tryz.func96,Tryz.ntmps96
   go_wp2_with fail
   go_ret
   exact ⟨rfl,rfl⟩
  ·by_cases h3:k=3
   ·subst h3
    go_enter Tryz.func96,Tryz.ntmps96
    go_wp2_with fail
    go_ret
    exact ⟨rfl,rfl⟩
   ·by_cases h4:k=4
    ·subst h4
     go_enter Tryz.func96,Tryz.ntmps96
     go_wp2_with fail
     go_ret
     exact ⟨rfl,rfl⟩
    ·have b1:(k==1)=false:=beq_eq_false_iff_ne.2 h1
     have b2:(k==2)=false:=beq_eq_false_iff_ne.2 h2
     have b3:(k==3)=false:=beq_eq_false_iff_ne.2 h3
     have b4:(k==4)=false:=beq_eq_false_iff_ne.2 h4
     have H0:Hid (signS k=⟨#[61,61]⟩):=by show _=_;unfold signS;rw [if_neg h1,if_neg h2,if_neg h3,if_neg h4]
     clear h1 h2 h3 h4
     go_enter Tryz.func96,Tryz.ntmps96
     go_wp2_with fail
     go_ret
     rw [H0.out]
     exact ⟨rfl,rfl⟩
def kindN (c:Int):Int:=if c=58 then 1 else if c=43 then 2 else if c=45 then 3 else if c=126 then 4 else if c=61 then 5 else 0
theorem kindN_range (c:Int):0≤kindN c∧kindN c≤5:=by
 unfold kindN
 repeat' split
 all_goals omega
end
section
open Go.RowKit Go.Lib
def wordE (x:Ed):ByteArray:=x.2.1++signS x.1++⟨(writeL x.2.2.data.toList).toArray⟩
def lineE (l:List Ed):ByteArray:=lineB (l.map wordE)
theorem wordE_data (x:Ed):(wordE x).data.toList=x.2.1.data.toList++((signS x.1).data.toList++writeL x.2.2.data.toList):=by
 unfold wordE
 simp only [data_append]
 simp
theorem sign_size (k:Int):(signS k).size≤2∧1≤(signS k).size:=by
 unfold signS
 repeat' split
 all_goals exact ⟨by decide,by decide⟩
theorem wordE_len {x:Ed} (h1:namedE x=true) (h2:shortE x=true):(wordE x).size≤418:=by
 have h3:x.2.1.size≤32:=by simpa using fieldB_len h1
 have h4:=writeL_len x.2.2.data.toList
 have h5:x.2.2.data.toList.length=x.2.2.size:=by simp
 have h6:=of_decide_eq_true h2
 have h7:=sign_size x.1
 have h8:(⟨(writeL x.2.2.data.toList).toArray⟩:ByteArray).size=(writeL x.2.2.data.toList).length:=by show (writeL x.2.2.data.toList).toArray.size=_;simp
 unfold wordE
 rw [ByteArray.size_append,ByteArray.size_append,h8]
 omega
theorem lineE_size {ws:List ByteArray} (hn:ws.length≤16) (hs:∀x∈ws,x.size≤418):(lineB ws).size≤6704:=by
 have e:(lineB ws).size=(Lib.join (ws.map (·.data.toList)) [32]).length:=by rw [←lineB_data];simp
 have h1:=join_size 418 (ws.map (·.data.toList)) (fun w hw=>by
  obtain ⟨x,hx,rfl⟩:=List.mem_map.1 hw
  simpa using hs x hx)
 rw [List.length_map] at h1
 have h3:ws.length * (418+1)≤16 * (418+1):=Nat.mul_le_mul_right _ hn
 omega
theorem wrap_i64E (n:Int) (h1:-9223372036854775808≤n) (h2:n≤9223372036854775807):IntKind.i64.wrap n=n:=by
 simp [IntKind.wrap,IntKind.signed,IntKind.bits];omega
def isK (c:UInt8):Bool:=kindN (c.toNat:Int) != 0
def editO (l:List UInt8):Option Ed :=
 match l.dropWhile (fun c=>!isK c) with
 | []=>none
 | c::r =>
  if kindN (c.toNat:Int)=4 then (if r=[] then some (4,⟨(l.takeWhile (fun c=>!isK c)).toArray⟩,⟨#[]⟩) else none)
  else match r with
   | []=>none
   | d::r2=>if d=61 then (match readL r2 with
    | none=>none
    | some t=>some (kindN (c.toNat:Int),⟨(l.takeWhile (fun c=>!isK c)).toArray⟩,⟨t.toArray⟩)) else none
def editsW:List (List UInt8)→Option (List Ed)
 | []=>some []
 | l::ls=>match editO l with
  | none=>none
  | some x=>(editsW ls).map (x :: ·)
theorem editsW_append (a b:List (List UInt8)):editsW (a++b)=(editsW a).bind fun xs=>(editsW b).map (xs ++ ·):=by
 induction a with
 | nil=>simp [editsW]
 | cons l a ih =>
  simp only [List.cons_append,editsW,ih]
  cases editO l with
  | none=>rfl
  | some x =>
   cases editsW a with
   | none=>rfl
   | some xs=>cases editsW b<;>rfl
theorem editsW_no {a b:List (List UInt8)} {l:List UInt8} (h:editO l=none):editsW (a++l::b)=none:=by
 rw [editsW_append]
 cases editsW a with
 | none=>rfl
 | some x=>simp [editsW,h]
theorem editsW_snoc {a:List (List UInt8)} {l:List UInt8} {xs:List Ed} {x:Ed} (ha:editsW a=some xs) (h:editO l=some x):editsW (a++[l])=some (xs++[x]):=by
 rw [editsW_append,ha]
 simp [editsW,h]
theorem k_split {l:List UInt8} {k:Nat} (hk:k<l.length) (h:∀d∈l.take k,isK d=false) (h2:isK l[k]=true) :
  l.takeWhile (fun c=>!isK c)=l.take k∧l.dropWhile (fun c=>!isK c)=l[k]::l.drop (k+1):=by
 have e:l=l.take k++l[k]::l.drop (k+1):=by
  conv=>lhs;rw [←List.take_append_drop k l,List.drop_eq_getElem_cons hk]
 have hp:∀d∈l.take k,(!isK d)=true:=fun d hd=>by rw [h d hd];rfl
 constructor
 ·conv=>lhs;rw [e]
  rw [List.takeWhile_append_of_pos hp,List.takeWhile_cons,h2]
  simp
 ·conv=>lhs;rw [e]
  rw [List.dropWhile_append_of_pos hp,List.dropWhile_cons,h2]
  simp
theorem k_none {l:List UInt8} (h:∀d∈l,isK d=false):editO l=none:=by
 have:l.dropWhile (fun c=>!isK c)=[]:=by
  induction l with
  | nil=>rfl
  | cons c l ih =>
   rw [List.dropWhile_cons,h c (by simp)]
   simpa using ih fun d hd=>h d (by simp [hd])
 unfold editO
 rw [this]
theorem kind_sign {c:UInt8} (h:isK c=true):c=58∨c=43∨c=45∨c=126∨c=61:=by
 unfold isK at h
 rw [bne_iff_ne] at h
 unfold kindN at h
 have key:∀k:UInt8,(c.toNat:Int)=(k.toNat:Int)→c=k:=fun k e=>UInt8.toNat_inj.1 (by omega)
 by_cases h1:(c.toNat:Int)=58
 ·exact Or.inl (key 58 h1)
 by_cases h2:(c.toNat:Int)=43
 ·exact Or.inr (Or.inl (key 43 h2))
 by_cases h3:(c.toNat:Int)=45
 ·exact Or.inr (Or.inr (Or.inl (key 45 h3)))
 by_cases h4:(c.toNat:Int)=126
 ·exact Or.inr (Or.inr (Or.inr (Or.inl (key 126 h4))))
 by_cases h5:(c.toNat:Int)=61
 ·exact Or.inr (Or.inr (Or.inr (Or.inr (key 61 h5))))
 rw [if_neg h1,if_neg h2,if_neg h3,if_neg h4,if_neg h5] at h
 exact absurd rfl h
def okW (x:ByteArray) (A:Nat) (k:Int):Bool:=decide ((signS k).size≤x.size-A)&&decide (x.extract A (A+(signS k).size)=signS k)&&(decide (k≠4)||decide (x.size-A≤1))
theorem ext_two (x:ByteArray) (A n:Nat):(x.extract A (A+n)).data.toList=(x.data.toList.drop A).take n:=by
 have:=ext_mid x A (A+n)
 rw [this]
 congr 1
 omega
theorem edit_at {x:ByteArray} {A:Nat} (hA:A<x.size) (hno:∀d∈x.data.toList.take A,isK d=false) (hc:isK x[A]=true) :
  editO x.data.toList=if okW x A (kindN (x[A].toNat:Int)) then (match readL (x.data.toList.drop (A+(signS (kindN (x[A].toNat:Int))).size)) with
   | none=>none
   | some t=>some (kindN (x[A].toNat:Int),⟨(x.data.toList.take A).toArray⟩,⟨t.toArray⟩)) else none:=by
 have hl:x.data.toList.length=x.size:=by simp
 have hAl:A<x.data.toList.length:=by omega
 have hb:x.data.toList[A]=x[A]:=rfl
 obtain ⟨e1,e2⟩:=k_split hAl hno (by rw [hb];exact hc)
 rw [hb] at e2
 have hdr:x.data.toList.drop A=x[A]::x.data.toList.drop (A+1):=by rw [List.drop_eq_getElem_cons hAl,hb]
 have hlr:(x.data.toList.drop (A+1)).length=x.size-A-1:=by rw [List.length_drop,hl];omega
 have hd2:x.data.toList.drop (A+2)=(x.data.toList.drop (A+1)).tail:=by rw [List.tail_drop]
 unfold editO
 rw [e2,e1]
 simp only
 generalize hr:x.data.toList.drop (A+1)=r at *
 have hex:∀n,(x.extract A (A+n)).data.toList=(x[A]::r).take n:=fun n=>by rw [ext_two,hdr]
 have heq:∀s:ByteArray,x.extract A (A+s.size)=s↔(x[A]::r).take s.size=s.data.toList:=fun s=>by
  rw [←hex]
  exact ⟨fun h=>by rw [h],fun h=>ba_eq h⟩
 generalize x[A]=c at *
 rcases kind_sign hc with rfl|rfl|rfl|rfl|rfl
 all_goals
  unfold okW
 ·have hk:kindN ((58:UInt8).toNat:Int)=1:=rfl
  have hs:signS 1=⟨#[58,61]⟩:=rfl
  have hs2:(⟨#[58,61]⟩:ByteArray).size=2:=rfl
  have h2:=heq ⟨#[58,61]⟩
  rw [hs2] at h2
  simp only [hk,hs,hs2,h2,hd2]
  cases r with
  | nil=>simp at hlr ⊢
  | cons d r =>
   have h1:2≤x.size-A:=by simp at hlr;omega
   by_cases e:d=61<;>simp [e,h1]
 ·have hk:kindN ((43:UInt8).toNat:Int)=2:=rfl
  have hs:signS 2=⟨#[43,61]⟩:=rfl
  have hs2:(⟨#[43,61]⟩:ByteArray).size=2:=rfl
  have h2:=heq ⟨#[43,61]⟩
  rw [hs2] at h2
  simp only [hk,hs,hs2,h2,hd2]
  cases r with
  | nil=>simp at hlr ⊢
  | cons d r =>
   have h1:2≤x.size-A:=by simp at hlr;omega
   by_cases e:d=61<;>simp [e,h1]
 ·have hk:kindN ((45:UInt8).toNat:Int)=3:=rfl
  have hs:signS 3=⟨#[45,61]⟩:=rfl
  have hs2:(⟨#[45,61]⟩:ByteArray).size=2:=rfl
  have h2:=heq ⟨#[45,61]⟩
  rw [hs2] at h2
  simp only [hk,hs,hs2,h2,hd2]
  cases r with
  | nil=>simp at hlr ⊢
  | cons d r =>
   have h1:2≤x.size-A:=by simp at hlr;omega
   by_cases e:d=61<;>simp [e,h1]
 ·have hk:kindN ((126:UInt8).toNat:Int)=4:=rfl
  have hs:signS 4=⟨#[126]⟩:=rfl
  have hs2:(⟨#[126]⟩:ByteArray).size=1:=rfl
  have h2:=heq ⟨#[126]⟩
  rw [hs2] at h2
  simp only [hk,hs,hs2,h2,hr]
  have h1:1≤x.size-A:=by omega
  cases r with
  | nil =>
   have h3:x.size-A≤1:=by simp at hlr;omega
   simp [h1,h3,readL_nil]
  | cons d r =>
   have h3:¬ x.size-A≤1:=by simp at hlr;omega
   simp [h3]
 ·have hk:kindN ((61:UInt8).toNat:Int)=5:=rfl
  have hs:signS 5=⟨#[61,61]⟩:=rfl
  have hs2:(⟨#[61,61]⟩:ByteArray).size=2:=rfl
  have h2:=heq ⟨#[61,61]⟩
  rw [hs2] at h2
  simp only [hk,hs,hs2,h2,hd2]
  cases r with
  | nil=>simp at hlr ⊢
  | cons d r =>
   have h1:2≤x.size-A:=by simp at hlr;omega
   by_cases e:d=61<;>simp [e,h1]
theorem field_nokind {l:List UInt8} (h:fieldB l=true):∀c∈l,isK c=false:=by
 intro c hc
 unfold fieldB spell at h
 cases l with
 | nil=>simp at hc
 | cons x r =>
  simp only [Bool.and_eq_true,List.all_eq_true] at h
  have key:lodB (c.toNat:Int)=true∨smallB (c.toNat:Int)=true:=by
   rcases List.mem_cons.1 hc with e|hc
   ·exact Or.inr (by rw [e];exact h.1.2)
   ·exact Or.inl (h.2 _ hc)
  cases ho:isK c with
  | false=>rfl
  | true =>
   rcases kind_sign ho with rfl|rfl|rfl|rfl|rfl<;>(rcases key with k|k<;>(revert k;decide))
theorem editO_back {x:Ed} (h1:namedE x=true) (h2:rightE x=true):editO (wordE x).data.toList=some x:=by
 obtain ⟨k,n,t⟩:=x
 have hr:(1≤k∧k≤5)∧(k≠4∨t.size=0):=by
  unfold rightE at h2
  simp only [Bool.and_eq_true,Bool.or_eq_true,decide_eq_true_eq] at h2
  exact h2
 obtain ⟨⟨hk1,hk5⟩,hk4⟩:=hr
 have hno:=field_nokind h1
 simp only at hno
 have key:∀(c:UInt8) (r:List UInt8),isK c=true→(n.data.toList++c::r).takeWhile (fun c=>!isK c)=n.data.toList∧(n.data.toList++c::r).dropWhile (fun c=>!isK c)=c::r:=fun c r hc=>by
  have hkl:n.data.toList.length<(n.data.toList++c::r).length:=by simp
  have hg:(n.data.toList++c::r)[n.data.toList.length]=c:=by simp
  obtain ⟨e1,e2⟩:=k_split hkl (by rw [List.take_left' rfl];exact hno) (by rw [hg];exact hc)
  rw [List.take_left' rfl] at e1
  rw [hg,show n.data.toList++c::r=(n.data.toList++[c])++r by simp,List.drop_left' (by simp)] at e2
  refine ⟨e1,?_⟩
  rw [show n.data.toList++c::r=(n.data.toList++[c])++r by simp]
  exact e2
 have hcs:k=1∨k=2∨k=3∨k=4∨k=5:=by omega
 have hback:(⟨n.data.toList.toArray⟩:ByteArray)=n:=ba_back n
 have htb:(⟨t.data.toList.toArray⟩:ByteArray)=t:=ba_back t
 rw [wordE_data]
 simp only
 rcases hcs with rfl|rfl|rfl|rfl|rfl
 ·obtain ⟨e1,e2⟩:=key 58 (61::writeL t.data.toList) rfl
  rw [show (signS 1).data.toList++writeL t.data.toList=58::61::writeL t.data.toList from rfl]
  unfold editO
  rw [e1,e2]
  simp only
  rw [if_neg (by decide),if_pos trivial,read_write]
  simp only
  rw [hback,htb]
  rfl
 ·obtain ⟨e1,e2⟩:=key 43 (61::writeL t.data.toList) rfl
  rw [show (signS 2).data.toList++writeL t.data.toList=43::61::writeL t.data.toList from rfl]
  unfold editO
  rw [e1,e2]
  simp only
  rw [if_neg (by decide),if_pos trivial,read_write]
  simp only
  rw [hback,htb]
  rfl
 ·obtain ⟨e1,e2⟩:=key 45 (61::writeL t.data.toList) rfl
  rw [show (signS 3).data.toList++writeL t.data.toList=45::61::writeL t.data.toList from rfl]
  unfold editO
  rw [e1,e2]
  simp only
  rw [if_neg (by decide),if_pos trivial,read_write]
  simp only
  rw [hback,htb]
  rfl
 ·have h0:t.size=0:=by
   rcases hk4 with h|h
   ·exact absurd rfl h
   ·exact h
  have ht:t=⟨#[]⟩:=ba_eq (List.length_eq_zero_iff.1 (by simpa using h0))
  subst ht
  obtain ⟨e1,e2⟩:=key 126 [] rfl
  rw [show (signS 4).data.toList++writeL (⟨#[]⟩:ByteArray).data.toList=[126] from rfl]
  unfold editO
  rw [e1,e2]
  simp only
  rw [if_pos (by decide),if_pos trivial,hback]
 ·obtain ⟨e1,e2⟩:=key 61 (61::writeL t.data.toList) rfl
  rw [show (signS 5).data.toList++writeL t.data.toList=61::61::writeL t.data.toList from rfl]
  unfold editO
  rw [e1,e2]
  simp only
  rw [if_neg (by decide),if_pos trivial,read_write]
  simp only
  rw [hback,htb]
  rfl
theorem edits_back (p:List Ed) (h:∀x∈p,namedE x=true∧rightE x=true):editsW ((p.map wordE).map (·.data.toList))=some p:=by
 induction p with
 | nil=>rfl
 | cons x p ih =>
  have hx:=h x (by simp)
  simp only [List.map_cons,editsW]
  rw [editO_back hx.1 hx.2,ih fun y hy=>h y (by simp [hy])]
  rfl
theorem sign_noblank (k:Int):(32:UInt8) ∉ (signS k).data.toList:=by
 unfold signS
 repeat' split
 all_goals decide
theorem wordE_noblank {x:Ed} (h1:namedE x=true):(32:UInt8) ∉ (wordE x).data.toList:=by
 rw [wordE_data,List.mem_append,List.mem_append]
 rintro (h|h|h)
 ·exact noblank_mem (field_noblank h1) h
 ·exact sign_noblank _ h
 ·exact noblank_mem (write_noblank _) h
def prE (l:List Ed):ByteArray:=if mayE l=0 then lineE l else ⟨#[]⟩
def codeL (o:Option (List Ed)):Int:=match o with|none=>4|some p=>mayE p
def ansL (o:Option (List Ed)):List Ed:=match o with|none=>[]|some p=>if mayE p=0 then p else []
end
section
open Go.RowKit
set_option maxHeartbeats 1000000 in
theorem id_any (n:Int) (w:World):Calls Tryz.prog 176 #[.int .u8 n] w fun e w'=>e=.returned (.bool (idB n))∧w'=w:=by
 go_enter Tryz.func176,Tryz.ntmps176
 go_wp2
 all_goals go_ret
 all_goals refine ⟨ret_bool ?_,rfl⟩
 all_goals (rw [Bool.eq_iff_iff];simp_all [idB,lodB,digB,letB,bigB,smallB];try omega)
set_option maxHeartbeats 1000000 in
theorem spelled_type (s:ByteArray) (w:World) (hs:s.size≤maxLen) :
  Calls Tryz.prog 109 #[.string s,.func (.func 112) #[] #[],.func (.func 113) #[] #[]] w fun e w'=>e=.returned (.bool (typeB s.data.toList))∧w'=w:=by
 unfold maxLen at hs
 by_cases he:s.size=0
 ·have hb:=spell_empty bigB letB s he
  have hlt:(s.size:Int)<1:=by omega
  have HB:Hid (spell bigB letB s.data.toList=false):=hb
  clear he hb
  go_enter Tryz.func109,Tryz.ntmps109
  go_wp2_with fail
  go_ret
  exact ⟨ret_bool HB.out.symm,rfl⟩
 have hpos:0<s.size:=by omega
 have hnl:¬ (s.size:Int)<1:=by omega
 by_cases hl:32<s.size
 ·have hb:=spell_long bigB letB s hl
  have HB:Hid (spell bigB letB s.data.toList=false):=hb
  have hgt:(32:Int)<(s.size:Int):=by omega
  clear he hb
  go_enter Tryz.func109,Tryz.ntmps109
  go_wp2_with fail
  go_ret
  exact ⟨ret_bool HB.out.symm,rfl⟩
 have hle:¬ (32:Int)<(s.size:Int):=by omega
 clear he
 cases hc:bigB (s[0].toNat:Int) with
 | false =>
  have HB:Hid (spell bigB letB s.data.toList=false):=spell_first bigB letB s hpos hc
  go_enter Tryz.func109,Tryz.ntmps109
  go_wp2_with (go_at_call 112;refine (big_any _ _).mono ?_;rintro e w' ⟨rfl,rfl⟩)
  go_ret
  exact ⟨ret_bool HB.out.symm,rfl⟩
 | true =>
  have HT:Hid ((∀k,1≤k→(hk:k<s.size)→letB (s[k].toNat:Int)=true)→spell bigB letB s.data.toList=true):=spell_true bigB letB s hpos (by omega) hc
  have HA:Hid (∀k,1≤k→(hk:k<s.size)→letB (s[k].toNat:Int)=false→spell bigB letB s.data.toList=false):=fun k h1 hk=>spell_at bigB letB s k h1 hk
  go_enter Tryz.func109,Tryz.ntmps109
  go_wp2_with (go_at_call 112;refine (big_any _ _).mono ?_;rintro e w' ⟨rfl,rfl⟩)
  go_loop [7] (fun i=>∃k:Nat,1≤k∧k≤s.size∧i=.int .i64 k∧(∀j,1≤j→j<k→(hj:j<s.size)→letB (s[j].toNat:Int)=true)) (fun i=>s.size-(intOf i).toNat)
  case atStart=>exact ⟨1,by omega,by omega,rfl,fun j h1 h2=>by omega⟩
  case round =>
   obtain ⟨k,hk1,hk,rfl,hall⟩:=hrel
   have HL:Hid (∀j,1≤j→j<k→(hj:j<s.size)→letB (s[j].toNat:Int)=true):=hall
   clear hall
   by_cases hlt:k<s.size
   ·cases hd:letB (s[k].toNat:Int) with
    | false =>
     go_wp2_with (go_at_call 113;refine (letter_any _ _).mono ?_;rintro e w' ⟨rfl,rfl⟩)
     go_ret
     exact ⟨ret_bool (HA.out k hk1 hlt hd).symm,rfl⟩
    | true =>
     go_wp2_with (go_at_call 113;refine (letter_any _ _).mono ?_;rintro e w' ⟨rfl,rfl⟩)
     go_round
     case rel =>
      refine ⟨k+1,by omega,by omega,by go_num,fun j h1 h2 hj=>?_⟩
      by_cases hjk:j=k
      ·subst hjk;exact hd
      ·exact HL.out j h1 (by omega) hj
     case measure=>simp [intOf];omega
   ·go_wp2_with fail
    go_ret
    exact ⟨ret_bool (HT.out fun j h1 hj=>HL.out j h1 (by omega) hj).symm,rfl⟩
set_option maxHeartbeats 1000000 in
theorem type_any (s:ByteArray) (w:World) (hs:s.size≤maxLen) :
  Calls Tryz.prog 70 #[.string s] w fun e w'=>e=.returned (.bool (typeB s.data.toList))∧w'=w:=by
 go_enter Tryz.func70,Tryz.ntmps70
 go_wp2_with (go_at_call 109;refine (spelled_type _ _ hs).mono ?_;rintro e w' ⟨rfl,rfl⟩)
 go_ret
 exact ⟨rfl,rfl⟩
set_option maxHeartbeats 1000000 in
theorem spelled_iden (s:ByteArray) (w:World) (hs:s.size≤maxLen) :
  Calls Tryz.prog 109 #[.string s,.func (.func 176) #[] #[],.func (.func 176) #[] #[]] w fun e w'=>e=.returned (.bool (idenB s.data.toList))∧w'=w:=by
 unfold maxLen at hs
 by_cases he:s.size=0
 ·have hb:=spell_empty idB idB s he
  have hlt:(s.size:Int)<1:=by omega
  have HB:Hid (spell idB idB s.data.toList=false):=hb
  clear he hb
  go_enter Tryz.func109,Tryz.ntmps109
  go_wp2_with fail
  go_ret
  exact ⟨ret_bool HB.out.symm,rfl⟩
 have hpos:0<s.size:=by omega
 have hnl:¬ (s.size:Int)<1:=by omega
 by_cases hl:32<s.size
 ·have hb:=spell_long idB idB s hl
  have HB:Hid (spell idB idB s.data.toList=false):=hb
  have hgt:(32:Int)<(s.size:Int):=by omega
  clear he hb
  go_enter Tryz.func109,Tryz.ntmps109
  go_wp2_with fail
  go_ret
  exact ⟨ret_bool HB.out.symm,rfl⟩
 have hle:¬ (32:Int)<(s.size:Int):=by omega
 clear he
 cases hc:idB (s[0].toNat:Int) with
 | false =>
  have HB:Hid (spell idB idB s.data.toList=false):=spell_first idB idB s hpos hc
  go_enter Tryz.func109,Tryz.ntmps109
  go_wp2_with (go_at_call 176;refine (id_any _ _).mono ?_;rintro e w' ⟨rfl,rfl⟩)
  go_ret
  exact ⟨ret_bool HB.out.symm,rfl⟩
 | true =>
  have HT:Hid ((∀k,1≤k→(hk:k<s.size)→idB (s[k].toNat:Int)=true)→spell idB idB s.data.toList=true):=spell_true idB idB s hpos (by omega) hc
  have HA:Hid (∀k,1≤k→(hk:k<s.size)→idB (s[k].toNat:Int)=false→spell idB idB s.data.toList=false):=fun k h1 hk=>spell_at idB idB s k h1 hk
  go_enter Tryz.func109,Tryz.ntmps109
  go_wp2_with (go_at_call 176;refine (id_any _ _).mono ?_;rintro e w' ⟨rfl,rfl⟩)
  go_loop [7] (fun i=>∃k:Nat,1≤k∧k≤s.size∧i=.int .i64 k∧(∀j,1≤j→j<k→(hj:j<s.size)→idB (s[j].toNat:Int)=true)) (fun i=>s.size-(intOf i).toNat)
  case atStart=>exact ⟨1,by omega,by omega,rfl,fun j h1 h2=>by omega⟩
  case round =>
   obtain ⟨k,hk1,hk,rfl,hall⟩:=hrel
   have HL:Hid (∀j,1≤j→j<k→(hj:j<s.size)→idB (s[j].toNat:Int)=true):=hall
   clear hall
   by_cases hlt:k<s.size
   ·cases hd:idB (s[k].toNat:Int) with
    | false =>
     go_wp2_with (go_at_call 176;refine (id_any _ _).mono ?_;rintro e w' ⟨rfl,rfl⟩)
     go_ret
     exact ⟨ret_bool (HA.out k hk1 hlt hd).symm,rfl⟩
    | true =>
     go_wp2_with (go_at_call 176;refine (id_any _ _).mono ?_;rintro e w' ⟨rfl,rfl⟩)
     go_round
     case rel =>
      refine ⟨k+1,by omega,by omega,by go_num,fun j h1 h2 hj=>?_⟩
      by_cases hjk:j=k
      ·subst hjk;exact hd
      ·exact HL.out j h1 (by omega) hj
     case measure=>simp [intOf];omega
   ·go_wp2_with fail
    go_ret
    exact ⟨ret_bool (HT.out fun j h1 hj=>HL.out j h1 (by omega) hj).symm,rfl⟩
set_option maxHeartbeats 1000000 in
theorem iden_any (s:ByteArray) (w:World) (hs:s.size≤maxLen) :
  Calls Tryz.prog 138 #[.string s] w fun e w'=>e=.returned (.bool (idenB s.data.toList))∧w'=w:=by
 go_enter Tryz.func138,Tryz.ntmps138
 go_wp2_with (go_at_call 109;refine (spelled_iden _ _ hs).mono ?_;rintro e w' ⟨rfl,rfl⟩)
 go_ret
 exact ⟨rfl,rfl⟩
set_option maxHeartbeats 1000000 in
theorem spelled_temp (s:ByteArray) (w:World) (hs:s.size≤maxLen) :
  Calls Tryz.prog 109 #[.string s,.func (.func 110) #[] #[],.func (.func 110) #[] #[]] w fun e w'=>e=.returned (.bool (tempB s.data.toList))∧w'=w:=by
 unfold maxLen at hs
 by_cases he:s.size=0
 ·have hb:=spell_empty lodB lodB s he
  have hlt:(s.size:Int)<1:=by omega
  have HB:Hid (spell lodB lodB s.data.toList=false):=hb
  clear he hb
  go_enter Tryz.func109,Tryz.ntmps109
  go_wp2_with fail
  go_ret
  exact ⟨ret_bool HB.out.symm,rfl⟩
 have hpos:0<s.size:=by omega
 have hnl:¬ (s.size:Int)<1:=by omega
 by_cases hl:32<s.size
 ·have hb:=spell_long lodB lodB s hl
  have HB:Hid (spell lodB lodB s.data.toList=false):=hb
  have hgt:(32:Int)<(s.size:Int):=by omega
  clear he hb
  go_enter Tryz.func109,Tryz.ntmps109
  go_wp2_with fail
  go_ret
  exact ⟨ret_bool HB.out.symm,rfl⟩
 have hle:¬ (32:Int)<(s.size:Int):=by omega
 clear he
 cases hc:lodB (s[0].toNat:Int) with
 | false =>
  have HB:Hid (spell lodB lodB s.data.toList=false):=spell_first lodB lodB s hpos hc
  go_enter Tryz.func109,Tryz.ntmps109
  go_wp2_with (go_at_call 110;refine (lod_any _ _).mono ?_;rintro e w' ⟨rfl,rfl⟩)
  go_ret
  exact ⟨ret_bool HB.out.symm,rfl⟩
 | true =>
  have HT:Hid ((∀k,1≤k→(hk:k<s.size)→lodB (s[k].toNat:Int)=true)→spell lodB lodB s.data.toList=true):=spell_true lodB lodB s hpos (by omega) hc
  have HA:Hid (∀k,1≤k→(hk:k<s.size)→lodB (s[k].toNat:Int)=false→spell lodB lodB s.data.toList=false):=fun k h1 hk=>spell_at lodB lodB s k h1 hk
  go_enter Tryz.func109,Tryz.ntmps109
  go_wp2_with (go_at_call 110;refine (lod_any _ _).mono ?_;rintro e w' ⟨rfl,rfl⟩)
  go_loop [7] (fun i=>∃k:Nat,1≤k∧k≤s.size∧i=.int .i64 k∧(∀j,1≤j→j<k→(hj:j<s.size)→lodB (s[j].toNat:Int)=true)) (fun i=>s.size-(intOf i).toNat)
  case atStart=>exact ⟨1,by omega,by omega,rfl,fun j h1 h2=>by omega⟩
  case round =>
   obtain ⟨k,hk1,hk,rfl,hall⟩:=hrel
   have HL:Hid (∀j,1≤j→j<k→(hj:j<s.size)→lodB (s[j].toNat:Int)=true):=hall
   clear hall
   by_cases hlt:k<s.size
   ·cases hd:lodB (s[k].toNat:Int) with
    | false =>
     go_wp2_with (go_at_call 110;refine (lod_any _ _).mono ?_;rintro e w' ⟨rfl,rfl⟩)
     go_ret
     exact ⟨ret_bool (HA.out k hk1 hlt hd).symm,rfl⟩
    | true =>
     go_wp2_with (go_at_call 110;refine (lod_any _ _).mono ?_;rintro e w' ⟨rfl,rfl⟩)
     go_round
     case rel =>
      refine ⟨k+1,by omega,by omega,by go_num,fun j h1 h2 hj=>?_⟩
      by_cases hjk:j=k
      ·subst hjk;exact hd
      ·exact HL.out j h1 (by omega) hj
     case measure=>simp [intOf];omega
   ·go_wp2_with fail
    go_ret
    exact ⟨ret_bool (HT.out fun j h1 hj=>HL.out j h1 (by omega) hj).symm,rfl⟩
set_option maxHeartbeats 1000000 in
theorem temp_any (s:ByteArray) (w:World) (hs:s.size≤maxLen) :
  Calls Tryz.prog 68 #[.string s] w fun e w'=>e=.returned (.bool (tempB s.data.toList))∧w'=w:=by
 go_enter Tryz.func68,Tryz.ntmps68
 go_wp2_with (go_at_call 109;refine (spelled_temp _ _ hs).mono ?_;rintro e w' ⟨rfl,rfl⟩)
 go_ret
 exact ⟨rfl,rfl⟩
end
section
open Go.RowKit
def keyB (a b:ByteArray):Bool:=typeB a.data.toList&&idenB b.data.toList
theorem bcell {W w1:World} (hb:Below W.heap.size W w1):(∀b o,b<W.heap.size→w1.cell? ⟨b,o,none⟩=W.cell? ⟨b,o,none⟩)∧(∀b o,b<W.heap.size→w1.frozen? ⟨b,o,none⟩=W.frozen? ⟨b,o,none⟩) :=
 ⟨fun b o h=>hb.cell (p:=⟨b,o,none⟩) h,fun b o h=>hb.frozen (p:=⟨b,o,none⟩) h⟩
set_option maxHeartbeats 400000 in
theorem key_any (a b:ByteArray) (w:World) (ha:a.size≤maxLen) (hb:b.size≤maxLen) :
  Calls Tryz.prog 97 #[.agg #[.string a,.string b]] w fun e w'=>e=.returned (.bool (keyB a b))∧Below w.heap.size w w':=by
 have HK:Hid (keyB a b=(typeB a.data.toList&&idenB b.data.toList)):=rfl
 cases ht:typeB a.data.toList
 all_goals
  go_enter Tryz.func97,Tryz.ntmps97
  go_wp2_with (first|(go_at_call 70;refine (type_any _ _ ha).mono ?_;rintro e w' ⟨rfl,rfl⟩)|(go_at_call 138;refine (iden_any _ _ hb).mono ?_;rintro e w' ⟨rfl,rfl⟩))
  go_ret
  exact ⟨ret_bool (by rw [HK.out,ht];rfl),(Below.refl _ _).alloc (Nat.le_refl _) _⟩
set_option maxHeartbeats 400000 in
theorem nprint_yes (a b:ByteArray) (w:World) (ha:a.size≤maxLen) (hb:b.size≤maxLen) (ha32:a.size≤32) (hb32:b.size≤32) (hk:keyB a b=true) :
  Calls Tryz.prog 87 #[.agg #[.string a,.string b]] w fun e w'=>e=.returned (.tuple #[.string (a++⟨#[47]⟩++b),.int .i64 0])∧Below w.heap.size w w':=by
 go_enter Tryz.func87,Tryz.ntmps87
 go_wp2_with (go_at_call 97;refine (key_any _ _ _ ha hb).mono ?_;rintro e w1 ⟨rfl,hq⟩;obtain ⟨hc,hf⟩:=bcell hq)
 go_ret2
 refine ⟨?_,((Below.refl _ _).alloc (Nat.le_refl _) _).trans (hq.mono (by simp))⟩
 rfl
theorem typeB_len {l:List UInt8} (h:typeB l=true):l.length≤32:=by
 cases l with
 | nil=>simp
 | cons c r=>simp [typeB,spell] at h;simp;omega
theorem idenB_len {l:List UInt8} (h:idenB l=true):l.length≤32:=by
 cases l with
 | nil=>simp
 | cons c r=>simp [idenB,spell] at h;simp;omega
theorem idenB_empty:idenB []=false:=rfl
theorem keyB_empty (a:ByteArray):keyB a ⟨#[]⟩=false:=by
 unfold keyB
 rw [show (⟨#[]⟩:ByteArray).data.toList=[] from rfl,idenB_empty,Bool.and_false]
theorem ext_size (s:ByteArray) (i j:Nat) (h:s.size≤maxLen):(s.extract i j).size≤maxLen:=by
 have:(s.extract i j).size≤s.size:=by simp;omega
 omega
set_option maxHeartbeats 400000 in
theorem parse_bare (s:ByteArray) (w:World) (hs:s.size≤maxLen) (hix:Lib.indexByte s.data.toList 47=-1) :
  Calls Tryz.prog 69 #[.string s] w fun e w'=>e=.returned (.tuple #[.agg #[.string ⟨#[]⟩,.string ⟨#[]⟩],.int .i64 2])∧Below w.heap.size w w':=by
 have HX:Hid (Lib.indexByte s.data.toList 47=-1):=hix
 clear hix
 have hk:=keyB_empty s
 have h0:(⟨#[]⟩:ByteArray).size≤maxLen:=by decide
 go_enter Tryz.func69,Tryz.ntmps69
 go_wp2_with (first|(go_at_call 111;refine (cut_no _ _ _ HX.out).mono ?_;rintro e w' ⟨rfl,rfl⟩)|(go_at_call 97;refine (key_any _ _ _ hs h0).mono ?_;rintro e w1 ⟨rfl,hq⟩;obtain ⟨hc,hf⟩:=bcell hq))
 have c0:w1.cell? ⟨w.heap.size,0,none⟩=some (.string ⟨#[]⟩):=by rw [hc _ _ (by simp;omega)];simp [go_sem]
 have c1:w1.cell? ⟨w.heap.size,1,none⟩=some (.string ⟨#[]⟩):=by rw [hc _ _ (by simp;omega)];simp [go_sem]
 exact bodyPost_ret (v:=.tuple #[.agg #[.string ⟨#[]⟩,.string ⟨#[]⟩],.int .i64 2]) (by simp [results,Tryz.results69,go_sem,c0,c1]) rfl
  ⟨rfl,(((((Below.refl _ _).alloc (Nat.le_refl _) _).alloc (by simp) _).trans (hq.mono (by simp;omega))).setCell (by simp) _).setCell (by simp) _⟩
set_option maxHeartbeats 400000 in
theorem parse_no (s:ByteArray) (w:World) (hs:s.size≤maxLen) (i:Nat) (hix:Lib.indexByte s.data.toList 47=(i:Int)) (hi:i<s.size)
  (hk:keyB (s.extract 0 i) (s.extract (i+1) s.size)=false) :
  Calls Tryz.prog 69 #[.string s] w fun e w'=>e=.returned (.tuple #[.agg #[.string ⟨#[]⟩,.string ⟨#[]⟩],.int .i64 2])∧Below w.heap.size w w':=by
 have HX:Hid (Lib.indexByte s.data.toList 47=(i:Int)):=hix
 have h1:=ext_size s 0 i hs
 have h2:=ext_size s (i+1) s.size hs
 have HH:Hid (i<s.size∧s.size≤maxLen∧(s.extract 0 i).size≤maxLen∧(s.extract (i+1) s.size).size≤maxLen):=⟨hi,hs,h1,h2⟩
 clear hix hi hs h1 h2
 go_enter Tryz.func69,Tryz.ntmps69
 go_wp2_with (first|(go_at_call 111;refine (cut_yes _ _ _ i HX.out HH.out.1 HH.out.2.1).mono ?_;rintro e w' ⟨rfl,n,rfl⟩)|(go_at_call 97;refine (key_any _ _ _ HH.out.2.2.1 HH.out.2.2.2).mono ?_;rintro e w1 ⟨rfl,hq⟩;obtain ⟨hc,hf⟩:=bcell hq))
 have c0:w1.cell? ⟨w.heap.size,0,none⟩=some (.string ⟨#[]⟩):=by rw [hc _ _ (by simp;omega)];simp [go_sem]
 have c1:w1.cell? ⟨w.heap.size,1,none⟩=some (.string ⟨#[]⟩):=by rw [hc _ _ (by simp;omega)];simp [go_sem]
 exact bodyPost_ret (v:=.tuple #[.agg #[.string ⟨#[]⟩,.string ⟨#[]⟩],.int .i64 2]) (by simp [results,Tryz.results69,go_sem,c0,c1]) rfl
  ⟨rfl,((((_root_.Go.below_drewN ((Below.refl _ _).alloc (Nat.le_refl _) _) _).alloc (by simp) _).trans (hq.mono (by simp;omega))).setCell (by simp) _).setCell (by simp) _⟩
set_option maxHeartbeats 400000 in
theorem parse_yes (s:ByteArray) (w:World) (hs:s.size≤maxLen) (i:Nat) (hix:Lib.indexByte s.data.toList 47=(i:Int)) (hi:i<s.size)
  (hk:keyB (s.extract 0 i) (s.extract (i+1) s.size)=true) :
  Calls Tryz.prog 69 #[.string s] w fun e w'=>e=.returned (.tuple #[.agg #[.string (s.extract 0 i),.string (s.extract (i+1) s.size)],.int .i64 0])∧Below w.heap.size w w':=by
 have HX:Hid (Lib.indexByte s.data.toList 47=(i:Int)):=hix
 have h1:=ext_size s 0 i hs
 have h2:=ext_size s (i+1) s.size hs
 have HH:Hid (i<s.size∧s.size≤maxLen∧(s.extract 0 i).size≤maxLen∧(s.extract (i+1) s.size).size≤maxLen):=⟨hi,hs,h1,h2⟩
 clear hix hi hs h1 h2
 go_enter Tryz.func69,Tryz.ntmps69
 go_wp2_with (first|(go_at_call 111;refine (cut_yes _ _ _ i HX.out HH.out.1 HH.out.2.1).mono ?_;rintro e w' ⟨rfl,n,rfl⟩)|(go_at_call 97;refine (key_any _ _ _ HH.out.2.2.1 HH.out.2.2.2).mono ?_;rintro e w1 ⟨rfl,hq⟩;obtain ⟨hc,hf⟩:=bcell hq))
 have c0:w1.cell? ⟨w.heap.size,0,none⟩=some (.string ⟨#[]⟩):=by rw [hc _ _ (by simp;omega)];simp [go_sem]
 have c1:w1.cell? ⟨w.heap.size,1,none⟩=some (.string ⟨#[]⟩):=by rw [hc _ _ (by simp;omega)];simp [go_sem]
 exact bodyPost_ret (v:=.tuple #[.agg #[.string (s.extract 0 i),.string (s.extract (i+1) s.size)],.int .i64 0]) (by simp [results,Tryz.results69,go_sem,c0,c1]) rfl
  ⟨rfl,((((_root_.Go.below_drewN ((Below.refl _ _).alloc (Nat.le_refl _) _) _).alloc (by simp) _).trans (hq.mono (by simp;omega))).setCell (by simp) _).setCell (by simp) _⟩
end
section
open Go.RowKit Go.Lib
structure En where
 kind:Int
 temp:ByteArray
 ka:ByteArray
 kb:ByteArray
 iff:Int
 val:List Fld
 eds:List Ed
 pred:List Tm
 stamp:Int
 num:Int
def nameN:Nat→List UInt8
 | 1=>[99,114,101,97,116,101]
 | 2=>[101,110,115,117,114,101]
 | 3=>[117,112,100,97,116,101]
 | 4=>[112,97,116,99,104]
 | 5=>[100,101,108,101,116,101]
 | 6=>[114,101,97,100]
 | 7=>[110,117,109,98,101,114]
 | 8=>[115,101,97,114,99,104]
 | 9=>[104,105,115,116,111,114,121]
 | 10=>[115,105,110,99,101]
 | 11=>[97,116]
 | 12=>[102,105,110,100]
 | _=>[]
def nameK (k:Int):List UInt8:=nameN k.toNat
def typedK (k:Int):Bool:=decide (k=8)||decide (k=10)||decide (k=12)
def keyEn (e:En):Bool:=if typedK e.kind=true then decide (e.kb=⟨#[]⟩)&&typeB e.ka.data.toList else keyB e.ka e.kb
def mayEn (e:En):Bool :=
 decide (1≤e.kind∧e.kind≤12)&&keyEn e &&
 (decide (e.temp=⟨#[]⟩)||decide (e.kind≤2)&&tempB e.temp.data.toList) &&
 decide (e.iff≠0→3≤e.kind∧e.kind≤5∧0≤e.iff∧e.iff≤999999999) &&
 decide (e.num≠0→e.kind=7∧0≤e.num∧e.num≤999999999) &&
 decide (e.stamp≠0→9≤e.kind) &&
 decide (e.val≠[]→e.kind≤3)&&mayB e.val &&
 decide (e.eds≠[]↔e.kind=4)&&decide (mayE e.eds=0) &&
 (decide (mayM e.pred=0)&&decide (sortM e.pred=e.pred))&&decide (e.pred≠[]→e.kind=2∨e.kind=8∨e.kind=12)
def mayRq (l:List En):Bool:=decide (0<l.length)&&decide (l.length≤16)&&l.all mayEn
def bytesL (l:List ByteArray):List (List UInt8):=l.map (·.data.toList)
def keyWd (e:En):List UInt8:=e.ka.data.toList++(if e.kb=⟨#[]⟩ then [] else 47::e.kb.data.toList)
def tailW (e:En):List (List UInt8) :=
 if e.kind=2 then bytesL (wordsL e.val)++[63]::bytesL (e.pred.map wordM)
 else if e.kind=7 then [decL e.num.toNat]
 else if e.kind=9∨e.kind=10 then [decL e.stamp.toNat]
 else (if 0<e.iff then [[105,102],decL e.iff.toNat] else [])++(bytesL (wordsL e.val)++(bytesL (e.eds.map wordE)++bytesL (e.pred.map wordM)))
def wordsEn (e:En):List (List UInt8) :=
 nameK e.kind::((if e.temp=⟨#[]⟩ then [] else [64::e.temp.data.toList])++((if e.kind=11∨e.kind=12 then [decL e.stamp.toNat] else [])++keyWd e::tailW e))
def kindW (x:List UInt8):Nat:=if x=[] then 0 else ((List.range 13).find? fun k=>decide (nameN k=x)).getD 0
def keyR (x:List UInt8):Option (ByteArray × ByteArray) :=
 if Lib.indexByte x 47=-1 then none
 else
  let i:=(Lib.indexByte x 47).toNat
  if keyB ⟨(x.take i).toArray⟩ ⟨(x.drop (i+1)).toArray⟩=true then some (⟨(x.take i).toArray⟩,⟨(x.drop (i+1)).toArray⟩) else none
def valR (w:List (List UInt8)):Option (List Fld):=(fieldsW w).bind fun fs=>if codeF fs=0 then some (ansF fs) else none
def edsR (w:List (List UInt8)):Option (List Ed):=if codeL (editsW w)=0 then some (ansL (editsW w)) else none
def prdR (w:List (List UInt8)):Option (List Tm):=if codeW (termsW w)=0 then some (ansW (termsW w)) else none
def restR (e:En) (w:List (List UInt8)):Option En :=
 if e.kind=1∨e.kind=3 then (valR w).map fun v=>{ e with val:=v }
 else if e.kind=2 then
  if [63]∈w then (valR (w.takeWhile fun x=>decide (x≠[63]))).bind fun v=>(prdR ((w.dropWhile fun x=>decide (x≠[63])).drop 1)).map fun p=>{ e with val:=v,pred:=p }
  else none
 else if e.kind=4 then (edsR w).map fun d=>{ e with eds:=d }
 else if e.kind=5 then if w=[] then some e else none
 else (prdR w).map fun p=>{ e with pred:=p }
def smallR (x:Option (List UInt8)):Option Nat:=x.bind (numL 999999999)
def stampR (x:Option (List UInt8)):Option Nat:=x.bind (numL 18446744073709551615)
def tailR (e:En) (w:List (List UInt8)):Option En :=
 if e.kind=7 then if w.length=1 then (smallR w[0]?).map fun n=>{ e with num:=n } else none
 else if e.kind=9∨e.kind=10 then if w.length=1 then (stampR w[0]?).map fun n=>{ e with stamp:=n } else none
 else if e.kind=6∨e.kind=11 then if w=[] then some e else none
 else if 3≤e.kind∧e.kind≤5∧w[0]? = some [105,102] then (smallR w[1]?).bind fun n=>if n=0 then none else restR { e with iff:=n } (w.drop 2)
 else restR e w
def keyT (e:En):List (List UInt8)→Option En
 | []=>none
 | x::w =>
  if typedK e.kind=true then tailR { e with ka:=⟨x.toArray⟩ } w
  else (keyR x).bind fun k=>tailR { e with ka:=k.1,kb:=k.2 } w
def stampT (e:En) (w:List (List UInt8)):Option En :=
 if 10<e.kind then (stampR w[0]?).bind fun n=>keyT { e with stamp:=n } (w.drop 1) else keyT e w
def zeroEn (k:Int):En:=⟨k,⟨#[]⟩,⟨#[]⟩,⟨#[]⟩,0,[],[],[],0,0⟩
def tempT (e:En):List (List UInt8)→Option En
 | (64::t)::w=>if e.kind≤2 then if t=[] then none else stampT { e with temp:=⟨t.toArray⟩ } w else stampT e ((64::t)::w)
 | w=>stampT e w
def entryR:List (List UInt8)→Option En
 | []=>none
 | x::w=>if kindW x=0 then none else tempT (zeroEn (kindW x)) w
def entriesW:List En→List (List UInt8)
 | []=>[]
 | [e]=>wordsEn e
 | e::f::l=>wordsEn e++[59]::entriesW (f::l)
def cutSemi:List (List UInt8)→List (List (List UInt8))
 | []=>[[]]
 | x::w=>if x=[59] then []::cutSemi w else match cutSemi w with
  | []=>[[x]]
  | c::cs=>(x::c)::cs
def entriesR:List (List (List UInt8))→Option (List En)
 | []=>some []
 | c::cs=>(entryR c).bind fun e=>(entriesR cs).map (e :: ·)
def onceW:List UInt8:=[111,110,99,101]
def wordsRq (once:Bool) (l:List En):List (List UInt8):=(if once=true then [onceW] else [])++entriesW l
def readRq (w:List (List UInt8)):Option (Bool × List En) :=
 let once:=decide (w.head? = some onceW)
 (entriesR (cutSemi (if once=true then w.drop 1 else w))).bind fun l=>if mayRq l=true then some (once,l) else none
theorem kind_name:∀k:Nat,1≤k→k≤12→kindW (nameN k)=k:=by
 intro k h1 h2
 match k with
 | 1|2|3|4|5|6|7|8|9|10|11|12=>decide
 | 0=>omega
 | n+13=>omega
theorem cutSemi_no:∀w:List (List UInt8),(∀x∈w,x≠[59])→cutSemi w=[w]
 | [],_=>rfl
 | x::w,h=>by
  have ih:=cutSemi_no w fun y hy=>h y (by simp [hy])
  simp only [cutSemi,ih]
  rw [if_neg (h x (by simp))]
theorem cutSemi_at:∀(w v:List (List UInt8)),(∀x∈w,x≠[59])→cutSemi (w++[59]::v)=w::cutSemi v
 | [],v,_=>by simp only [List.nil_append,cutSemi];rfl
 | x::w,v,h=>by
  have ih:=cutSemi_at w v fun y hy=>h y (by simp [hy])
  simp only [List.cons_append,cutSemi,ih]
  rw [if_neg (h x (by simp))]
theorem cut_entries:∀l:List En,l≠[]→(∀e∈l,∀x∈wordsEn e,x≠[59])→cutSemi (entriesW l)=l.map wordsEn
 | [],h,_=>absurd rfl h
 | [e],_,h=>by
  simp only [entriesW,List.map_cons,List.map_nil]
  exact cutSemi_no _ (h e (by simp))
 | e::f::l,_,h=>by
  have ih:=cut_entries (f::l) (by simp) fun g hg=>h g (by simp [hg])
  simp only [entriesW]
  rw [cutSemi_at _ _ (h e (by simp)),ih]
  rfl
theorem read_entries (l:List En) (h:∀e∈l,entryR (wordsEn e)=some e):entriesR (l.map wordsEn)=some l:=by
 induction l with
 | nil=>rfl
 | cons e l ih =>
  simp only [List.map_cons,entriesR]
  rw [h e (by simp),ih fun g hg=>h g (by simp [hg])]
  rfl
end
section
open Go.RowKit Go.Lib
structure MayP (e:En):Prop where
 k1:1≤e.kind
 k2:e.kind≤12
 key:keyEn e=true
 tmp:e.temp=⟨#[]⟩∨e.kind≤2∧tempB e.temp.data.toList=true
 iff:e.iff≠0→3≤e.kind∧e.kind≤5∧0≤e.iff∧e.iff≤999999999
 num:e.num≠0→e.kind=7∧0≤e.num∧e.num≤999999999
 stamp:e.stamp≠0→9≤e.kind
 val:e.val≠[]→e.kind≤3
 mayv:mayB e.val=true
 eds:e.eds≠[]↔e.kind=4
 maye:mayE e.eds=0
 mayp:mayM e.pred=0
 srt:sortM e.pred=e.pred
 pred:e.pred≠[]→e.kind=2∨e.kind=8∨e.kind=12
theorem mayEn_parts {e:En} (h:mayEn e=true):MayP e:=by
 unfold mayEn at h
 simp only [Bool.and_eq_true,Bool.or_eq_true,decide_eq_true_eq] at h
 obtain ⟨⟨⟨⟨⟨⟨⟨⟨⟨⟨⟨⟨h1,h2⟩,h3⟩,h4⟩,h5⟩,h6⟩,h7⟩,h8⟩,h9⟩,h10⟩,h11⟩,⟨h12,h13⟩⟩,h14⟩:=h
 exact ⟨h1,h2,h3,h4,h5,h6,h7,h8,h9,h10,h11,h12,h13,h14⟩
theorem val_back {v:List Fld} (h:mayB v=true):valR (bytesL (wordsL v))=some v:=by
 unfold valR bytesL
 rw [words_back v fun f hf=>(fits_parts (may_fits h f hf)).2.2.2.2]
 simp only [Option.bind_some]
 rw [(norm_singles h).1,if_pos rfl,(norm_singles h).2]
theorem eds_back {p:List Ed} (h:mayE p=0):edsR (bytesL (p.map wordE))=some p:=by
 obtain ⟨_,h1,h2,_⟩:=mayE_zero h
 unfold edsR bytesL
 rw [edits_back p fun x hx=>⟨h1 x hx,h2 x hx⟩]
 have e:codeL (some p)=0:=h
 rw [if_pos e]
 show some (if mayE p=0 then p else [])=some p
 rw [if_pos h]
theorem prd_back {p:List Tm} (h:mayM p=0) (hs:sortM p=p):prdR (bytesL (p.map wordM))=some p:=by
 obtain ⟨_,h1,h2,_⟩:=mayM_zero h
 unfold prdR bytesL
 rw [terms_back p fun x hx=>⟨List.all_eq_true.1 h1 x hx,List.all_eq_true.1 h2 x hx⟩]
 have e:codeW (some p)=0:=h
 rw [if_pos e]
 show some (if mayM p=0 then sortM p else [])=some p
 rw [if_pos h,hs]
theorem field_pos {l:List UInt8} (h:fieldB l=true):0<l.length:=by
 cases l with
 | nil=>cases h
 | cons x r=>simp
theorem valW_is {v:List Fld} (h:mayB v=true):∀x∈bytesL (wordsL v),2≤x.length∧61∈x∧32 ∉ x:=by
 intro x hx
 obtain ⟨y,hy,rfl⟩:=List.mem_map.1 hx
 obtain ⟨f,hf,hy⟩:=List.mem_flatMap.1 hy
 obtain ⟨t,_,rfl⟩:=List.mem_map.1 hy
 have hn:=(fits_parts (may_fits h f hf)).2.2.2.2
 have:=field_pos hn
 refine ⟨?_,?_,noblank_mem (word_noblank hn)⟩
 ·simp only [word_data,List.length_append,List.length_cons,List.length_nil];omega
 ·simp [word_data]
theorem edsW_is {p:List Ed} (h:mayE p=0):∀x∈bytesL (p.map wordE),2≤x.length∧(61∈x∨126∈x)∧32 ∉ x:=by
 intro x hx
 obtain ⟨y,hy,rfl⟩:=List.mem_map.1 hx
 obtain ⟨z,hz,rfl⟩:=List.mem_map.1 hy
 have hn:=(mayE_zero h).2.1 z hz
 have:=field_pos hn
 have hs:=(sign_size z.1).2
 refine ⟨?_,?_,wordE_noblank hn⟩
 ·have e:(signS z.1).data.toList.length=(signS z.1).size:=by simp
  simp only [wordE_data,List.length_append]
  omega
 ·rw [wordE_data]
  have:61∈(signS z.1).data.toList∨126∈(signS z.1).data.toList:=by
   unfold signS
   repeat' split
   all_goals decide
  rcases this with h|h
  ·exact .inl (by simp [h])
  ·exact .inr (by simp [h])
theorem prdW_is {p:List Tm} (h:mayM p=0):∀x∈bytesL (p.map wordM),2≤x.length∧32 ∉ x:=by
 intro x hx
 obtain ⟨y,hy,rfl⟩:=List.mem_map.1 hx
 obtain ⟨z,hz,rfl⟩:=List.mem_map.1 hy
 have hn:=List.all_eq_true.1 (mayM_zero h).2.1 z hz
 have:=field_pos hn
 refine ⟨?_,wordM_noblank hn⟩
 simp only [wordM_data,List.length_append,List.length_cons];omega
theorem type_head {l:List UInt8} (h:typeB l=true):∃c r,l=c::r∧65≤c.toNat∧c.toNat≤90:=by
 cases l with
 | nil=>cases h
 | cons c r =>
  unfold typeB spell at h
  simp only [Bool.and_eq_true] at h
  have hb:=h.1.2
  unfold bigB at hb
  simp only [Bool.and_eq_true,decide_eq_true_eq] at hb
  exact ⟨c,r,rfl,by omega,by omega⟩
theorem type_no47 {l:List UInt8} (h:typeB l=true):(47:UInt8) ∉ l∧(32:UInt8) ∉ l:=by
 cases l with
 | nil=>cases h
 | cons c r =>
  unfold typeB spell at h
  simp only [Bool.and_eq_true,List.all_eq_true] at h
  have key:∀x:UInt8,x∈c::r→letB (x.toNat:Int)=true:=by
   intro x hx
   rcases List.mem_cons.1 hx with e|hx
   ·subst e;unfold letB;rw [h.1.2];rfl
   ·exact h.2 x hx
  exact ⟨fun hm=>absurd (key 47 hm) (by decide),fun hm=>absurd (key 32 hm) (by decide)⟩
theorem iden_is {l:List UInt8} (h:idenB l=true):l≠[]∧(32:UInt8) ∉ l:=by
 cases l with
 | nil=>cases h
 | cons c r =>
  unfold idenB spell at h
  simp only [Bool.and_eq_true,List.all_eq_true] at h
  have key:∀x:UInt8,x∈c::r→idB (x.toNat:Int)=true:=by
   intro x hx
   rcases List.mem_cons.1 hx with e|hx
   ·subst e;exact h.1.2
   ·exact h.2 x hx
  exact ⟨by simp,fun hm=>absurd (key 32 hm) (by decide)⟩
theorem temp_is {l:List UInt8} (h:tempB l=true):l≠[]∧(32:UInt8) ∉ l:=by
 cases l with
 | nil=>cases h
 | cons c r =>
  unfold tempB spell at h
  simp only [Bool.and_eq_true,List.all_eq_true] at h
  have key:∀x:UInt8,x∈c::r→lodB (x.toNat:Int)=true:=by
   intro x hx
   rcases List.mem_cons.1 hx with e|hx
   ·subst e;exact h.1.2
   ·exact h.2 x hx
  exact ⟨by simp,fun hm=>absurd (key 32 hm) (by decide)⟩
theorem ba_empty {b:ByteArray} (h:b.data.toList=[]):b=⟨#[]⟩:=by
 obtain ⟨⟨l⟩⟩:=b
 simp only at h
 subst h;rfl
theorem keyB_two {a b:ByteArray} (h:keyB a b=true):typeB a.data.toList=true∧idenB b.data.toList=true:=by
 unfold keyB at h;simpa only [Bool.and_eq_true] using h
theorem keyT_cons (f:En) (x:List UInt8) (w:List (List UInt8)) :
  keyT f (x::w)=if typedK f.kind=true then tailR { f with ka:=⟨x.toArray⟩ } w else (keyR x).bind fun k=>tailR { f with ka:=k.1,kb:=k.2 } w:=rfl
theorem key_back {e:En} (h:keyEn e=true) (w:List (List UInt8)) (f:En) (hk:f.kind=e.kind) (hb:f.kb=⟨#[]⟩) :
  keyT f (keyWd e::w)=tailR { f with ka:=e.ka,kb:=e.kb } w:=by
 unfold keyEn at h
 rw [keyT_cons,hk]
 unfold keyWd
 by_cases ht:typedK e.kind=true
 ·rw [if_pos ht] at h
  simp only [Bool.and_eq_true,decide_eq_true_eq] at h
  rw [if_pos ht,if_pos h.1,List.append_nil,ba_back,h.1,hb]
 ·rw [if_neg ht] at h
  obtain ⟨h1,h2⟩:=keyB_two h
  have hne:¬ e.kb=⟨#[]⟩:=fun q=>(iden_is h2).1 (by rw [q])
  have hx:=ix_here (b:=e.kb.data.toList) (type_no47 h1).1
  rw [if_neg ht,if_neg hne]
  have hr:keyR (e.ka.data.toList++47::e.kb.data.toList)=some (e.ka,e.kb):=by
   unfold keyR
   rw [hx,if_neg (by omega)]
   simp only [Int.toNat_natCast]
   rw [List.take_left' rfl,show e.ka.data.toList++47::e.kb.data.toList=(e.ka.data.toList++[47])++e.kb.data.toList by simp,List.drop_left' (by simp),ba_back,ba_back,if_pos h]
  rw [hr]
  rfl
theorem keyWd_is {e:En} (h:keyEn e=true):∃c r,keyWd e=c::r∧65≤c.toNat∧c.toNat≤90:=by
 have ht:typeB e.ka.data.toList=true:=by
  unfold keyEn at h
  split at h
  ·simp only [Bool.and_eq_true] at h;exact h.2
  ·exact (keyB_two h).1
 obtain ⟨c,r,h1,h2,h3⟩:=type_head ht
 unfold keyWd
 rw [h1]
 exact ⟨c,_,rfl,h2,h3⟩
theorem keyWd_noblank {e:En} (h:keyEn e=true):(32:UInt8) ∉ keyWd e:=by
 unfold keyEn at h
 unfold keyWd
 split at h
 ·simp only [Bool.and_eq_true,decide_eq_true_eq] at h
  rw [if_pos h.1,List.append_nil]
  exact (type_no47 h.2).2
 ·obtain ⟨h1,h2⟩:=keyB_two h
  rw [if_neg fun q=>(iden_is h2).1 (by rw [q])]
  intro hm
  rcases List.mem_append.1 hm with hm|hm
  ·exact (type_no47 h1).2 hm
  ·rcases List.mem_cons.1 hm with e|hm
   ·exact absurd e (by decide)
   ·exact (iden_is h2).2 hm
end
section
open Go.RowKit Go.Lib
theorem tailR_if (f:En) (n:Nat) (h1:3≤f.kind) (h2:f.kind≤5) (hn:0<n) (hm:n≤999999999) (w:List (List UInt8)) :
  tailR f ([105,102]::decL n::w)=restR { f with iff:=n } w:=by
 unfold tailR
 rw [if_neg (by omega),if_neg (by omega),if_neg (by omega),if_pos ⟨h1,h2,rfl⟩]
 show (smallR (some (decL n))).bind _=_
 unfold smallR
 simp only [Option.bind_some]
 rw [num_dec hm]
 simp only [Option.bind_some]
 rw [if_neg (by omega)]
 rfl
theorem tailR_no (f:En) (w:List (List UInt8)) (h6:f.kind≠6) (h7:f.kind≠7) (h9:f.kind≠9) (h10:f.kind≠10) (h11:f.kind≠11) (hw:3≤f.kind→f.kind≤5→w[0]?≠some [105,102]) :
  tailR f w=restR f w:=by
 unfold tailR
 rw [if_neg h7,if_neg (by omega),if_neg (by omega),if_neg (fun h=>hw h.1 h.2.1 h.2.2)]
theorem rest_val (f:En) {v:List Fld} (hv:mayB v=true) (hk:f.kind=1∨f.kind=3):restR f (bytesL (wordsL v))=some { f with val:=v }:=by
 unfold restR
 rw [if_pos hk,val_back hv]
 rfl
theorem rest_eds (f:En) {p:List Ed} (hp:mayE p=0) (hk:f.kind=4):restR f (bytesL (p.map wordE))=some { f with eds:=p }:=by
 unfold restR
 rw [if_neg (by omega),if_neg (by omega),if_pos hk,eds_back hp]
 rfl
theorem rest_del (f:En) (hk:f.kind=5):restR f []=some f:=by
 unfold restR
 rw [if_neg (by omega),if_neg (by omega),if_neg (by omega),if_pos hk,if_pos rfl]
theorem rest_prd (f:En) {p:List Tm} (hp:mayM p=0) (hs:sortM p=p) (hk:5<f.kind):restR f (bytesL (p.map wordM))=some { f with pred:=p }:=by
 unfold restR
 rw [if_neg (by omega),if_neg (by omega),if_neg (by omega),if_neg (by omega),prd_back hp hs]
 rfl
theorem while_to {a:List (List UInt8)} (b:List (List UInt8)) (h:∀x∈a,x≠[63]) :
  (a++[63]::b).takeWhile (fun x=>decide (x≠[63]))=a∧(a++[63]::b).dropWhile (fun x=>decide (x≠[63]))=[63]::b:=by
 induction a with
 | nil=>exact ⟨rfl,rfl⟩
 | cons x a ih =>
  have ih:=ih fun y hy=>h y (by simp [hy])
  have hx:decide (x≠[63])=true:=decide_eq_true (h x (by simp))
  simp only [List.cons_append,List.takeWhile_cons,List.dropWhile_cons,hx,if_true]
  exact ⟨by rw [ih.1],ih.2⟩
theorem rest_ens (f:En) {v:List Fld} {p:List Tm} (hv:mayB v=true) (hp:mayM p=0) (hs:sortM p=p) (hk:f.kind=2) :
  restR f (bytesL (wordsL v)++[63]::bytesL (p.map wordM))=some { f with val:=v,pred:=p }:=by
 have hq:=while_to (bytesL (p.map wordM)) fun x hx e=>by
  have:=(valW_is hv x hx).1
  rw [e] at this
  simp at this
 unfold restR
 rw [if_neg (by omega),if_pos hk,if_pos (by simp),hq.1,hq.2,val_back hv]
 simp only [Option.bind_some,List.drop_succ_cons,List.drop_zero]
 rw [prd_back hp hs]
 rfl
theorem tail_back {e:En} (h:MayP e) (hs0:0≤e.stamp) (hs1:e.stamp≤18446744073709551615) :
  tailR ⟨e.kind,e.temp,e.ka,e.kb,0,[],[],[],if e.kind=11∨e.kind=12 then e.stamp else 0,0⟩ (tailW e)=some e:=by
 obtain ⟨k,temp,ka,kb,iff,val,eds,pred,stamp,num⟩:=e
 obtain ⟨h1,h2,_,_,h5,h6,h7,h8,h9,h10,h11,h12,h13,h14⟩:=h
 simp only at h1 h2 h5 h6 h7 h8 h9 h10 h11 h12 h13 h14 hs0 hs1 ⊢
 have niff:¬ (3≤k∧k≤5)→iff=0:=fun q=>Classical.byContradiction fun p=>q ⟨(h5 p).1,(h5 p).2.1⟩
 have nnum:k≠7→num=0:=fun q=>Classical.byContradiction fun p=>q (h6 p).1
 have nst:¬ 9≤k→stamp=0:=fun q=>Classical.byContradiction fun p=>q (h7 p)
 have nval:¬ k≤3→val=[]:=fun q=>Classical.byContradiction fun p=>q (h8 p)
 have neds:k≠4→eds=[]:=fun q=>Classical.byContradiction fun p=>q (h10.1 p)
 have npred:¬ (k=2∨k=8∨k=12)→pred=[]:=fun q=>Classical.byContradiction fun p=>q (h14 p)
 have hiff:0≤iff∧iff≤999999999:=by
  by_cases q:iff=0
  ·omega
  ·exact ⟨(h5 q).2.2.1,(h5 q).2.2.2⟩
 have eiff:((iff.toNat:Nat):Int)=iff:=Int.toNat_of_nonneg hiff.1
 have est:((stamp.toNat:Nat):Int)=stamp:=Int.toNat_of_nonneg hs0
 unfold tailW
 simp only
 by_cases k2:k=2
 ·obtain rfl:=neds (by omega)
  obtain rfl:=niff (by omega)
  obtain rfl:=nnum (by omega)
  obtain rfl:=nst (by omega)
  rw [if_pos k2,if_neg (show ¬ (k=11∨k=12) by omega),tailR_no _ _ (by simp only;omega) (by simp only;omega) (by simp only;omega) (by simp only;omega) (by simp only;omega) (fun q=>by simp only at q;omega),rest_ens _ h9 h12 h13 k2]
 rw [if_neg k2]
 by_cases k7:k=7
 ·obtain rfl:=neds (by omega)
  obtain rfl:=niff (by omega)
  obtain rfl:=nval (by omega)
  obtain rfl:=npred (by omega)
  obtain rfl:=nst (by omega)
  have hn:0≤num∧num≤999999999:=by
   by_cases q:num=0
   ·omega
   ·exact (h6 q).2
  have en:((num.toNat:Nat):Int)=num:=Int.toNat_of_nonneg hn.1
  rw [if_pos k7,if_neg (show ¬ (k=11∨k=12) by omega)]
  unfold tailR
  rw [if_pos k7,if_pos (show [decL num.toNat].length=1 from rfl)]
  rw [List.getElem?_cons_zero]
  unfold smallR
  simp only [Option.bind_some]
  rw [num_dec (by omega)]
  exact congrArg (fun z:Int=>some (En.mk k temp ka kb 0 [] [] [] 0 z)) en
 rw [if_neg k7]
 obtain rfl:=nnum k7
 by_cases k9:k=9∨k=10
 ·obtain rfl:=neds (by omega)
  obtain rfl:=niff (by omega)
  obtain rfl:=nval (by omega)
  obtain rfl:=npred (by omega)
  rw [if_pos k9,if_neg (show ¬ (k=11∨k=12) by omega)]
  unfold tailR
  rw [if_neg k7,if_pos k9,if_pos (show [decL stamp.toNat].length=1 from rfl)]
  rw [List.getElem?_cons_zero]
  unfold stampR
  simp only [Option.bind_some]
  rw [num_dec (by omega)]
  exact congrArg (fun z:Int=>some (En.mk k temp ka kb 0 [] [] [] z 0)) est
 rw [if_neg k9]
 by_cases k6:k=6∨k=11
 ·obtain rfl:=neds (by omega)
  obtain rfl:=niff (by omega)
  obtain rfl:=nval (by omega)
  obtain rfl:=npred (by omega)
  rw [if_neg (show ¬ (0:Int)<0 by omega)]
  unfold tailR
  rw [if_neg k7,if_neg k9,if_pos k6,if_pos (show ([]++(bytesL (wordsL [])++(bytesL (List.map wordE [])++bytesL (List.map wordM []))):List (List UInt8))=[] from rfl)]
  by_cases q:k=6
  ·obtain rfl:=nst (by omega)
   rw [if_neg (show ¬ (k=11∨k=12) by omega)]
  ·rw [if_pos (show k=11∨k=12 by omega)]
 by_cases k8:5<k
 ·obtain rfl:=neds (by omega)
  obtain rfl:=niff (by omega)
  obtain rfl:=nval (by omega)
  rw [if_neg (show ¬ (0:Int)<0 by omega)]
  show tailR _ (bytesL (pred.map wordM))=_
  rw [tailR_no _ _ (by simp only;omega) (by simp only;omega) (by simp only;omega) (by simp only;omega) (by simp only;omega) (fun _ q=>by simp only at q;omega),rest_prd _ h12 h13 (by simp only;omega)]
  by_cases q:k=12
  ·rw [if_pos (show k=11∨k=12 by omega)]
  ·obtain rfl:=nst (by omega)
   rw [if_neg (show ¬ (k=11∨k=12) by omega)]
 obtain rfl:=npred (by omega)
 obtain rfl:=nst (by omega)
 rw [if_neg (show ¬ (k=11∨k=12) by omega)]
 have go:∀(f:En) (W:List (List UInt8)),f.kind=k→f.iff=0→(∀x∈W,x≠[105,102])→tailR f ((if 0<iff then [[105,102],decL iff.toNat] else [])++W)=restR { f with iff:=iff } W:=by
  intro f W hf h0 hW
  by_cases q:0<iff
  ·have:=h5 (by omega)
   rw [if_pos q]
   show tailR f ([105,102]::decL iff.toNat::W)=_
   rw [tailR_if f iff.toNat (by omega) (by omega) (by omega) (by omega),eiff]
  ·rw [if_neg q,List.nil_append,tailR_no f W (by omega) (by omega) (by omega) (by omega) (by omega) (fun _ _ p=>by
    cases W with
    | nil=>simp at p
    | cons x W=>exact hW x (by simp) (by simpa using p))]
   have:iff=f.iff:=by omega
   rw [this]
 by_cases k4:k=4
 ·obtain rfl:=nval (by omega)
  show tailR _ (_++(bytesL (eds.map wordE)++[]))=_
  rw [List.append_nil,go _ _ rfl rfl (fun x hx e=>by
   have:=(edsW_is h11 x hx).2.1
   rw [e] at this
   revert this;decide),rest_eds _ h11 k4]
 obtain rfl:=neds k4
 by_cases k5:k=5
 ·obtain rfl:=nval (by omega)
  show tailR _ (_++[])=_
  rw [go _ [] rfl rfl (by simp),rest_del _ k5]
 ·show tailR _ (_++(bytesL (wordsL val)++[]))=_
  rw [List.append_nil,go _ _ rfl rfl (fun x hx e=>by
   have:=(valW_is h9 x hx).2.1
   rw [e] at this
   revert this;decide),rest_val _ h9 (by simp only;omega)]
end
section
open Go.RowKit Go.Lib
theorem stampT_back (f:En) (k:Int) (st:Int) (hk:f.kind=k) (h12:k≤12) (h0:0≤st) (h1:st≤18446744073709551615) (W:List (List UInt8)) :
  stampT f ((if k=11∨k=12 then [decL st.toNat] else [])++W)=keyT { f with stamp:=if k=11∨k=12 then st else f.stamp } W:=by
 unfold stampT
 by_cases q:k=11∨k=12
 ·rw [if_pos q,if_pos q,if_pos (by omega)]
  have e0:([decL st.toNat]++W)[0]? = some (decL st.toNat):=by rw [List.singleton_append,List.getElem?_cons_zero]
  rw [e0]
  unfold stampR
  simp only [Option.bind_some]
  rw [num_dec (by omega)]
  have e1:((st.toNat:Nat):Int)=st:=Int.toNat_of_nonneg h0
  show keyT { f with stamp:=(st.toNat:Int) } W=_
  rw [e1]
 ·rw [if_neg q,if_neg q,if_neg (by omega),List.nil_append]
theorem entryR_cons (x:List UInt8) (w:List (List UInt8)):entryR (x::w)=if kindW x=0 then none else tempT (zeroEn (kindW x)) w:=rfl
theorem tempT_no (e:En) (w:List (List UInt8)) (h:e.kind≤2→∀t w',w≠(64::t)::w'):tempT e w=stampT e w:=by
 unfold tempT
 split
 ·next t w' =>
  rw [if_neg fun q=>h q t w' rfl]
 ·rfl
theorem entryR_plain (x:List UInt8) (w:List (List UInt8)) (hk:kindW x≠0) (h:kindW x≤2→∀t w',w≠(64::t)::w'):entryR (x::w)=stampT (zeroEn (kindW x)) w:=by
 rw [entryR_cons,if_neg hk,tempT_no _ _ fun q=>h (by simp only [zeroEn] at q;omega)]
theorem entryR_temp (x t:List UInt8) (w:List (List UInt8)) (hk:kindW x≠0) (h:kindW x≤2) (ht:t≠[]):entryR (x::(64::t)::w)=stampT { zeroEn (kindW x) with temp:=⟨t.toArray⟩ } w:=by
 rw [entryR_cons,if_neg hk]
 have:(zeroEn (kindW x)).kind≤2:=by simp only [zeroEn];omega
 show (if (zeroEn (kindW x)).kind≤2 then if t=[] then none else stampT { zeroEn (kindW x) with temp:=⟨t.toArray⟩ } w else _)=_
 rw [if_pos this,if_neg ht]
theorem entry_back {e:En} (h:MayP e) (hs0:0≤e.stamp) (hs1:e.stamp≤18446744073709551615):entryR (wordsEn e)=some e:=by
 have hn:kindW (nameK e.kind)=e.kind.toNat:=kind_name _ (by have:=h.k1;omega) (by have:=h.k2;omega)
 have hki:((e.kind.toNat:Nat):Int)=e.kind:=Int.toNat_of_nonneg (by have:=h.k1;omega)
 have h1:=h.k1
 have h2:=h.k2
 have fin:∀t:ByteArray,t=e.temp→stampT { zeroEn (kindW (nameK e.kind)) with temp:=t } ((if e.kind=11∨e.kind=12 then [decL e.stamp.toNat] else [])++keyWd e::tailW e)=some e:=by
  rintro t rfl
  rw [hn]
  unfold zeroEn
  simp only [hki]
  have q:=stampT_back ⟨e.kind,e.temp,⟨#[]⟩,⟨#[]⟩,0,[],[],[],0,0⟩ e.kind e.stamp rfl h2 hs0 hs1 (keyWd e::tailW e)
  exact q.trans ((key_back h.key (tailW e) ⟨e.kind,e.temp,⟨#[]⟩,⟨#[]⟩,0,[],[],[],if e.kind=11∨e.kind=12 then e.stamp else 0,0⟩ rfl rfl).trans (tail_back h hs0 hs1))
 unfold wordsEn
 by_cases ht:e.temp=⟨#[]⟩
 ·rw [if_pos ht,List.nil_append,entryR_plain _ _ (by rw [hn];omega)]
  ·exact fin _ ht.symm
  ·intro hk t w' q
   rw [hn] at hk
   rw [if_neg (show ¬ (e.kind=11∨e.kind=12) by omega),List.nil_append] at q
   obtain ⟨c,r,e1,e2,e3⟩:=keyWd_is h.key
   rw [e1] at q
   have q1:c=64:=by simp only [List.cons.injEq] at q;exact q.1.1
   rw [q1] at e2
   revert e2;decide
 ·have hte:=(h.tmp.resolve_left ht)
  rw [if_neg ht,List.singleton_append,entryR_temp _ _ _ (by rw [hn];omega) (by rw [hn];omega) (fun q=>ht (ba_empty q)),ba_back]
  exact fin _ rfl
theorem dec_is (n:Nat):∀x∈[decL n],x≠[59]∧32 ∉ x∧x≠[]:=by
 intro x hx
 rw [List.mem_singleton] at hx
 subst hx
 refine ⟨fun q=>?_,decL_noblank n,decL_ne n⟩
 have:=(decL_digit n 59 (by rw [q];simp)).2
 revert this;decide
theorem name_is (k:Int) (h1:1≤k) (h2:k≤12):nameK k≠[59]∧32 ∉ nameK k∧nameK k≠[]∧nameK k≠onceW:=by
 unfold nameK
 have:k=1∨k=2∨k=3∨k=4∨k=5∨k=6∨k=7∨k=8∨k=9∨k=10∨k=11∨k=12:=by omega
 rcases this with rfl|rfl|rfl|rfl|rfl|rfl|rfl|rfl|rfl|rfl|rfl|rfl<;>decide
theorem wordsEn_is {e:En} (h:MayP e):∀x∈wordsEn e,x≠[59]∧32 ∉ x∧x≠[]:=by
 have two:∀x:List UInt8,2≤x.length→x≠[59]∧x≠[]:=fun x hx=>⟨fun q=>by rw [q] at hx;simp at hx,fun q=>by rw [q] at hx;simp at hx⟩
 have hv:∀x∈bytesL (wordsL e.val),x≠[59]∧32 ∉ x∧x≠[]:=fun x hx=>⟨(two x (valW_is h.mayv x hx).1).1,(valW_is h.mayv x hx).2.2,(two x (valW_is h.mayv x hx).1).2⟩
 have hd:∀x∈bytesL (e.eds.map wordE),x≠[59]∧32 ∉ x∧x≠[]:=fun x hx=>⟨(two x (edsW_is h.maye x hx).1).1,(edsW_is h.maye x hx).2.2,(two x (edsW_is h.maye x hx).1).2⟩
 have hp:∀x∈bytesL (e.pred.map wordM),x≠[59]∧32 ∉ x∧x≠[]:=fun x hx=>⟨(two x (prdW_is h.mayp x hx).1).1,(prdW_is h.mayp x hx).2,(two x (prdW_is h.mayp x hx).1).2⟩
 have ht:∀x∈tailW e,x≠[59]∧32 ∉ x∧x≠[]:=by
  intro x hx
  unfold tailW at hx
  split at hx
  ·rcases List.mem_append.1 hx with hx|hx
   ·exact hv x hx
   ·rcases List.mem_cons.1 hx with rfl|hx
    ·decide
    ·exact hp x hx
  ·split at hx
   ·exact dec_is _ x hx
   ·split at hx
    ·exact dec_is _ x hx
    ·rcases List.mem_append.1 hx with hx|hx
     ·split at hx
      ·rcases List.mem_cons.1 hx with rfl|hx
       ·decide
       ·exact dec_is _ x hx
      ·cases hx
     ·rcases List.mem_append.1 hx with hx|hx
      ·exact hv x hx
      ·rcases List.mem_append.1 hx with hx|hx
       ·exact hd x hx
       ·exact hp x hx
 intro x hx
 unfold wordsEn at hx
 rcases List.mem_cons.1 hx with rfl|hx
 ·have:=name_is e.kind h.k1 h.k2
  exact ⟨this.1,this.2.1,this.2.2.1⟩
 rcases List.mem_append.1 hx with hx|hx
 ·split at hx
  ·cases hx
  ·next q =>
   rw [List.mem_singleton] at hx
   subst hx
   have hte:=(h.tmp.resolve_left q).2
   refine ⟨fun r=>absurd (List.cons.inj r).1 (by decide),fun r=>?_,by simp⟩
   rcases List.mem_cons.1 r with r|r
   ·exact absurd r (by decide)
   ·exact (temp_is hte).2 r
 rcases List.mem_append.1 hx with hx|hx
 ·split at hx
  ·exact dec_is _ x hx
  ·cases hx
 rcases List.mem_cons.1 hx with rfl|hx
 ·obtain ⟨c,r,e1,e2,e3⟩:=keyWd_is h.key
  refine ⟨fun q=>?_,keyWd_noblank h.key,by rw [e1];simp⟩
  rw [e1] at q
  have q1:=(List.cons.inj q).1
  rw [q1] at e2
  revert e2;decide
 ·exact ht x hx
theorem entriesW_is:∀{l:List En},(∀e∈l,MayP e)→∀x∈entriesW l,32 ∉ x∧x≠[]
 | [],_=>by intro x hx;cases hx
 | [e],h=>by
  intro x hx
  exact (wordsEn_is (h e (by simp)) x hx).2
 | e::f::l,h=>by
  intro x hx
  simp only [entriesW] at hx
  rcases List.mem_append.1 hx with hx|hx
  ·exact (wordsEn_is (h e (by simp)) x hx).2
  ·rcases List.mem_cons.1 hx with rfl|hx
   ·decide
   ·exact entriesW_is (fun g hg=>h g (by simp [hg])) x hx
theorem entriesW_head {l:List En} (h0:l≠[]) (h:∀e∈l,MayP e):(entriesW l).head?≠some onceW:=by
 have key:∀e:En,MayP e→∀W,(wordsEn e++W).head?≠some onceW:=by
  intro e he W q
  unfold wordsEn at q
  simp only [List.cons_append,List.head?_cons,Option.some.injEq] at q
  exact (name_is e.kind he.k1 he.k2).2.2.2 q
 match l,h0,h with
 | [e],_,h=>have:=key e (h e (by simp)) [];rwa [List.append_nil] at this
 | e::f::l,_,h=>exact key e (h e (by simp)) _
theorem rq_back {once:Bool} {l:List En} (h:mayRq l=true) (hs:∀e∈l,0≤e.stamp∧e.stamp≤18446744073709551615):readRq (wordsRq once l)=some (once,l):=by
 have hm:=h
 unfold mayRq at h
 simp only [Bool.and_eq_true,decide_eq_true_eq,List.all_eq_true] at h
 have hl:l≠[]:=fun q=>by rw [q] at h;simp at h
 have hp:∀e∈l,MayP e:=fun e he=>mayEn_parts (h.2 e he)
 have hcut:=cut_entries l hl fun e he x hx=>(wordsEn_is (hp e he) x hx).1
 have hre:=read_entries l fun e he=>entry_back (hp e he) (hs e he).1 (hs e he).2
 have hh:=entriesW_head hl hp
 unfold readRq wordsRq
 cases once with
 | true =>
  have q:decide (([onceW]++entriesW l).head? = some onceW)=true:=by simp
  simp only [if_true,q]
  rw [List.singleton_append,List.drop_succ_cons,List.drop_zero,hcut,hre]
  simp only [Option.bind_some,hm,if_true]
 | false =>
  have q:decide (([]++entriesW l).head? = some onceW)=false:=by rw [List.nil_append];exact decide_eq_false hh
  simp only [Bool.false_eq_true,if_false,q]
  rw [List.nil_append,hcut,hre]
  simp only [Option.bind_some,hm,if_true]
def lineRq (once:Bool) (l:List En):List UInt8:=Lib.join (wordsRq once l) [32]
theorem wordsRq_is {once:Bool} {l:List En} (h:mayRq l=true):wordsRq once l≠[]∧∀x∈wordsRq once l,32 ∉ x∧x≠[]:=by
 unfold mayRq at h
 simp only [Bool.and_eq_true,decide_eq_true_eq,List.all_eq_true] at h
 have hp:∀e∈l,MayP e:=fun e he=>mayEn_parts (h.2 e he)
 have hne:entriesW l≠[]:=by
  match l,h with
  | [],h=>simp at h
  | [e],_=>simp [entriesW,wordsEn]
  | e::f::l,_=>simp [entriesW]
 unfold wordsRq
 refine ⟨fun q=>hne (List.append_eq_nil_iff.1 q).2,fun x hx=>?_⟩
 rcases List.mem_append.1 hx with hx|hx
 ·split at hx
  ·rw [List.mem_singleton] at hx;subst hx;decide
  ·cases hx
 ·exact entriesW_is hp x hx
theorem line_words {once:Bool} {l:List En} (h:mayRq l=true):wordsAns (lineRq once l)=wordsRq once l:=by
 obtain ⟨h1,h2⟩:=wordsRq_is (once:=once) h
 unfold wordsAns lineRq
 have hs:=split_join (wordsRq once l) h1 fun x hx=>(h2 x hx).1
 rw [if_neg,hs]
 intro q
 rw [q] at hs
 have e:splitL ([]:List UInt8)=[[]]:=splitL_no rfl
 rw [e] at hs
 exact (h2 [] (by rw [←hs];simp)).2 rfl
end
section
open Go.RowKit Go.Lib
def shapeN:Nat→List Nat
 | 1=>[1,2,5]
 | 2=>[1,2,5,6,7]
 | 3=>[2,4,5]
 | 4=>[2,4,8]
 | 5=>[2,4]
 | 6=>[2]
 | 7=>[2,9]
 | 8=>[3,7]
 | 9=>[2,10]
 | 10=>[3,10]
 | 11=>[10,2]
 | 12=>[10,3,7]
 | _=>[]
def joinW (w:List (List UInt8)):List UInt8:=Lib.join w [32]
def spanP (w:List (List UInt8)) (p:Nat):Nat :=
 if p=1 then if w.head?.bind List.head? = some 64 then 1 else 0
 else if p=4 then if w.head? = some [105,102] then 2 else 0
 else if p=5 then (w.takeWhile fun x=>decide (x≠[63])).length
 else if p=7∨p=8 then w.length
 else 1
def untag (x:List UInt8):List UInt8:=if x.head? = some 64 then x.drop 1 else x
def unif (x:List UInt8):List UInt8:=if [105,102,32].isPrefixOf x then x.drop 3 else x
def condL (x:List UInt8):Option Nat:=if x=[] then some 0 else (numL 999999999 (unif x)).bind fun n=>if 0<n then some n else none
def readP (e:En) (p:Nat) (x:List UInt8):Option En :=
 if p=1 then if x=[]∨tempB (untag x)=true then some { e with temp:=⟨(untag x).toArray⟩ } else none
 else if p=2 then (keyR x).map fun k=>{ e with ka:=k.1,kb:=k.2 }
 else if p=3 then if typeB x=true then some { e with ka:=⟨x.toArray⟩ } else none
 else if p=4 then (condL x).map fun (n:Nat)=>{ e with iff:=(n:Int) }
 else if p=5 then (valR (wordsAns x)).map fun v=>{ e with val:=v }
 else if p=6 then if x=[63] then some e else none
 else if p=7 then (prdR (wordsAns x)).map fun v=>{ e with pred:=v }
 else if p=8 then (edsR (wordsAns x)).bind fun v=>if v=[] then none else some { e with eds:=v }
 else if p=9 then (numL 999999999 x).map fun (n:Nat)=>{ e with num:=(n:Int) }
 else (numL 18446744073709551615 x).map fun (n:Nat)=>{ e with stamp:=(n:Int) }
def partsR:List Nat→En→List (List UInt8)→Option (En × List (List UInt8))
 | [],e,w=>some (e,w)
 | p::ps,e,w=>if w.length<spanP w p then none else (readP e p (joinW (w.take (spanP w p)))).bind fun f=>partsR ps f (w.drop (spanP w p))
def entryO:List (List UInt8)→Option En
 | []=>none
 | x::w=>if kindW x=0 then none else (partsR (shapeN (kindW x)) (zeroEn (kindW x)) w).bind fun r=>if r.2=[] then some r.1 else none
theorem joinW_nil:joinW []=[]:=rfl
theorem joinW_one (x:List UInt8):joinW [x]=x:=by simp [joinW,Lib.join,List.intercalate]
theorem joinW_two (x y:List UInt8):joinW [x,y]=x++32::y:=by simp [joinW,Lib.join,List.intercalate]
theorem words_join {w:List (List UInt8)} (h:∀x∈w,x≠[]∧(32:UInt8) ∉ x):wordsAns (joinW w)=w:=by
 by_cases h0:w=[]
 ·subst h0;rfl
 ·have hs:=split_join w h0 fun x hx=>(h x hx).2
  unfold wordsAns joinW
  rw [if_neg,hs]
  intro q
  rw [q] at hs
  have e:splitL ([]:List UInt8)=[[]]:=splitL_no rfl
  rw [e] at hs
  exact (h [] (by rw [←hs];simp)).1 rfl
theorem val_may {w:List (List UInt8)} {v:List Fld} (h:valR w=some v):mayB v=true:=by
 unfold valR at h
 cases hf:fieldsW w with
 | none=>rw [hf] at h;cases h
 | some fs =>
  rw [hf] at h
  simp only [Option.bind_some] at h
  split at h
  ·rename_i hc
   simp only [Option.some.injEq] at h
   rw [←h,ansF,if_pos hc]
   exact (codeF_zero hc).2.2
  ·cases h
theorem eds_may {w:List (List UInt8)} {v:List Ed} (h:edsR w=some v):mayE v=0:=by
 unfold edsR at h
 split at h
 ·rename_i hc
  simp only [Option.some.injEq] at h
  cases ho:editsW w with
  | none=>rw [ho] at hc;exact absurd hc (by decide)
  | some p =>
   rw [ho] at hc h
   have hm:mayE p=0:=hc
   unfold ansL at h
   simp only at h
   rw [if_pos hm] at h
   rw [←h];exact hm
 ·cases h
theorem prd_may {w:List (List UInt8)} {v:List Tm} (h:prdR w=some v):mayM v=0∧sortM v=v:=by
 unfold prdR at h
 split at h
 ·rename_i hc
  simp only [Option.some.injEq] at h
  cases ho:termsW w with
  | none=>rw [ho] at hc;exact absurd hc (by decide)
  | some p =>
   rw [ho] at hc h
   have hm:mayM p=0:=hc
   obtain ⟨h1,h2⟩:=ansM_again hm
   have hv:ansM p=v:=h
   rw [hv] at h1 h2
   refine ⟨h1,?_⟩
   unfold ansM at h2
   rwa [if_pos h1] at h2
 ·cases h
theorem keyR_key {x:List UInt8} {k:ByteArray × ByteArray} (h:keyR x=some k):keyB k.1 k.2=true:=by
 unfold keyR at h
 split at h
 ·cases h
 ·simp only at h
  split at h
  ·rename_i hk
   simp only [Option.some.injEq] at h
   rw [←h];exact hk
  ·cases h
theorem fieldsW_ask:∀{w:List (List UInt8)},[63]∈w→fieldsW w=none
 | [],h=>by cases h
 | l::r,h=>by
  rw [fieldsW]
  cases hw:wordO l with
  | none=>rfl
  | some nt =>
   obtain ⟨n,t⟩:=nt
   simp only
   rcases List.mem_cons.1 h with h|h
   ·rw [←h] at hw
    have hz:wordO [63]=none:=by kernel_rfl
    rw [hz] at hw;cases hw
   ·rw [fieldsW_ask h];rfl
theorem valR_no {w:List (List UInt8)} (h:[63]∈w):valR w=none:=by
 unfold valR;rw [fieldsW_ask h];rfl
theorem while_all {w:List (List UInt8)} (h:[63] ∉ w):w.takeWhile (fun x=>decide (x≠[63]))=w:=by
 induction w with
 | nil=>rfl
 | cons x w ih =>
  have hx:x≠[63]:=fun q=>h (by rw [q];simp)
  rw [List.takeWhile_cons,if_pos (by simpa using hx),ih fun q=>h (by simp [q])]
theorem while_len_all {w:List (List UInt8)}:(w.takeWhile fun x=>decide (x≠[63])).length≤w.length:=(List.takeWhile_sublist _).length_le
theorem take_while (w:List (List UInt8)):w.take (w.takeWhile fun x=>decide (x≠[63])).length=w.takeWhile fun x=>decide (x≠[63]):=by
 induction w with
 | nil=>rfl
 | cons x w ih =>
  rw [List.takeWhile_cons]
  split
  ·rw [List.length_cons,List.take_succ_cons,ih]
  ·rfl
theorem drop_while (w:List (List UInt8)):w.drop (w.takeWhile fun x=>decide (x≠[63])).length=w.dropWhile fun x=>decide (x≠[63]):=by
 induction w with
 | nil=>rfl
 | cons x w ih =>
  rw [List.takeWhile_cons,List.dropWhile_cons]
  split
  ·rw [List.length_cons,List.drop_succ_cons,ih]
  ·rfl
theorem drop_while_at:∀{w:List (List UInt8)},[63]∈w→∃r,w.dropWhile (fun x=>decide (x≠[63]))=[63]::r
 | [],h=>by cases h
 | x::w,h=>by
  rw [List.dropWhile_cons]
  by_cases hx:x=[63]
  ·rw [if_neg (by simp [hx]),hx];exact ⟨w,rfl⟩
  ·rw [if_pos (by simp [hx])]
   rcases List.mem_cons.1 h with q|q
   ·exact absurd q.symm hx
   ·exact drop_while_at q
theorem drop_while_no {w:List (List UInt8)} (h:[63] ∉ w):w.dropWhile (fun x=>decide (x≠[63]))=[]:=by
 rw [←drop_while,while_all h,List.drop_length]
end
section
open Go.RowKit Go.Lib
theorem numA_stop {most:Nat} {l:List UInt8} {i n:Nat} (hi:i<l.length) (ha:numA most 0 (l.take i)=some n) (hc:numC most n l[i]=none):numL most l=none:=by
 have hn:numA most 0 l=none:=by
  conv=>lhs;rw [←List.take_append_drop i l,List.drop_eq_getElem_cons hi]
  rw [numA_append,ha]
  simp only [Option.bind_some,numA,hc,Option.bind_none]
 unfold numL
 split
 ·rfl
 ·split
  ·rfl
  ·exact hn
theorem numA_on {most:Nat} {l:List UInt8} {i n m:Nat} (hi:i<l.length) (ha:numA most 0 (l.take i)=some n) (hc:numC most n l[i]=some m):numA most 0 (l.take (i+1))=some m:=by
 rw [List.take_succ_eq_append_getElem hi,numA_append,ha]
 simp only [Option.bind_some,numA,hc]
theorem numL_zero {most:Nat} {l:List UInt8} (h1:1<l.length) (h:l[0]=48):numL most l=none:=by
 unfold numL
 rw [if_neg (fun q=>by rw [q] at h1;simp at h1),if_pos]
 refine ⟨h1,?_⟩
 rw [List.head?_eq_getElem?,List.getElem?_eq_getElem (by omega),h]
theorem numL_all {most:Nat} {l:List UInt8} {n:Nat} (h0:0<l.length) (ha:numA most 0 l=some n) (hz:1<l.length→l[0]≠48):numL most l=some n:=by
 unfold numL
 rw [if_neg (fun q=>by rw [q] at h0;simp at h0),if_neg,ha]
 rintro ⟨h1,h2⟩
 rw [List.head?_eq_getElem?,List.getElem?_eq_getElem h0] at h2
 exact hz h1 (Option.some.inj h2)
theorem byte_list (s:ByteArray) (i:Nat) (h:i<s.size):s.data.toList[i]'(by simpa using h)=s[i]:=by
 rw [Array.getElem_toList];rfl
def numV (o:Option Nat):Value:=.tuple #[.int .u64 ((o.getD 0:Nat):Int),.bool o.isSome]
set_option maxHeartbeats 4000000 in
set_option maxRecDepth 100000 in
theorem rnum16_any (s:ByteArray) (most:Nat) (w:World) (hm:most≤18446744073709551615) (hs:s.size≤maxLen) :
  Calls Tryz.prog 77 #[.string s,.int .u64 (most:Nat)] w fun e w'=>e=.returned (numV (numL most s.data.toList))∧w'=w:=by
 unfold maxLen at hs
 have hlen:s.data.toList.length=s.size:=by simp
 have HLEN:=hid hlen
 clear hlen
 go_enter Tryz.func77,Tryz.ntmps77
 go_wp2_with fail
 go_loopg [6,7] s.size (fun g vn vi wr=>∃i n:Nat,vn=.int .u64 (n:Nat)∧vi=.int .i64 i∧i≤s.size∧s.size-i≤g∧n≤most∧wr=w∧Hid (numA most 0 (s.data.toList.take i)=some n)∧Hid (∀h:0<s.size,1<i→s[0]≠48))
 case atStart=>exact ⟨0,0,rfl,rfl,by omega,by omega,by omega,rfl,rfl,fun _ h=>by omega⟩
 case round =>
  obtain ⟨i,n,rfl,rfl,hi,hgk,hnm,rfl,HA,HZ⟩:=hrel
  by_cases hlt:i<s.size
  ·have hltz:(i:Int)<(s.size:Int):=by omega
   have hiz:(0:Int)≤i:=by omega
   obtain ⟨c,hc⟩:∃c,s[i]=c:=⟨_,rfl⟩
   have HC:Hid (s.data.toList[i]'(by rw [HLEN.out];exact hlt)=c):=(byte_list s i hlt).trans hc
   have hc256:=c.toNat_lt
   by_cases h1:c.toNat<48
   ·have hx:((c.toNat:Nat):Int)<48:=by omega
    have HN:=hid (numA_stop (by rw [HLEN.out];exact hlt) HA.out (by rw [HC.out];unfold numC;rw [if_pos (Or.inl h1)]))
    clear h1
    go_wp2_with fail
    go_ret2
    rw [HN.out]
    exact ⟨rfl,rfl⟩
   have hx1:¬ ((c.toNat:Nat):Int)<48:=by omega
   by_cases h2:57<c.toNat
   ·have hx2:(57:Int)<((c.toNat:Nat):Int):=by omega
    have HN:=hid (numA_stop (by rw [HLEN.out];exact hlt) HA.out (by rw [HC.out];unfold numC;rw [if_pos (Or.inr h2)]))
    clear h2 h1
    go_wp2_with fail
    go_ret2
    rw [HN.out]
    exact ⟨rfl,rfl⟩
   have hx2:¬ (57:Int)<((c.toNat:Nat):Int):=by omega
   by_cases h3:0<i∧s[0]'(by omega)=48
   ·obtain ⟨h3,h4⟩:=h3
    have hx3:(0:Int)<i:=by omega
    have h0:0<s.size:=by omega
    have HN:=hid (numL_zero (most:=most) (l:=s.data.toList) (by rw [HLEN.out];omega) ((byte_list s 0 h0).trans h4))
    clear h1 h2
    go_wp2_with fail
    go_ret2
    rw [HN.out]
    exact ⟨rfl,rfl⟩
   have hs0:0<s.size:=by omega
   have hq:(¬ (0:Int)<i)∨((0:Int)<i∧s[0]≠48):=by
    by_cases q:0<i
    ·exact .inr ⟨by omega,fun e=>h3 ⟨q,e⟩⟩
    ·exact .inl (by omega)
   have HZ2:Hid (∀h:0<s.size,1<i+1→s[0]≠48):=fun h q=>by
    rcases hq with q2|q2
    ·omega
    ·exact q2.2
   have HNC:Hid (numC most n c=if most<c.toNat-48∨(most-(c.toNat-48)) / 10<n then none else some (n * 10+(c.toNat-48))):=by
    show _=_
    unfold numC
    rw [if_neg (by omega)]
   clear h3 h1 h2
   have hq2:(¬ (0:Int)<i)∨((0:Int)<i∧(((s[0].toNat:Nat):Int)==48)=false):=by
    rcases hq with q|⟨q,q2⟩
    ·exact .inl q
    ·refine .inr ⟨q,?_⟩
     have:s[0].toNat≠48:=fun e=>q2 (UInt8.toNat_inj.1 e)
     rw [beq_eq_false_iff_ne]
     omega
   clear hq
   rcases hq2 with hx3|⟨hx3,hne⟩
   all_goals
    by_cases h5:most<c.toNat-48
    ·have hx5:((most:Nat):Int)<((c.toNat:Nat):Int)-48:=by omega
     have HN:=hid (numA_stop (by rw [HLEN.out];exact hlt) HA.out (by rw [HC.out,HNC.out,if_pos (Or.inl h5)]))
     clear h5
     go_wp2_with fail
     go_ret2
     rw [HN.out]
     exact ⟨rfl,rfl⟩
    have hx5:¬ ((most:Nat):Int)<((c.toNat:Nat):Int)-48:=by omega
    by_cases h6:(most-(c.toNat-48)) / 10<n
    ·have hx6:(((most:Nat):Int)-(((c.toNat:Nat):Int)-48)) / 10<(n:Int):=by omega
     have HN:=hid (numA_stop (by rw [HLEN.out];exact hlt) HA.out (by rw [HC.out,HNC.out,if_pos (Or.inr h6)]))
     clear h6 h5
     go_wp2_with fail
     go_ret2
     rw [HN.out]
     exact ⟨rfl,rfl⟩
    have hx6:¬ (((most:Nat):Int)-(((c.toNat:Nat):Int)-48)) / 10<(n:Int):=by omega
    have hb1:(n:Int) * 10+(((c.toNat:Nat):Int)-48)≤18446744073709551615:=by omega
    have HM:=hid (numA_on (by rw [HLEN.out];exact hlt) HA.out (by rw [HC.out,HNC.out,if_neg (by omega)]))
    have hnx:n * 10+(c.toNat-48)≤most:=by omega
    have hnv:(n:Int) * 10+(((c.toNat:Nat):Int)-48)=((n * 10+(c.toNat-48):Nat):Int):=by omega
    have HNX:=hid hnx
    have HNV:=hid hnv
    clear h5 h6 hnx hnv
    go_wp2_with fail
    go_roundg (s.size-(i+1))
    case measure=>omega
    exact ⟨i+1,n * 10+(c.toNat-48),by rw [HNV.out],by go_num,by omega,by omega,HNX.out,rfl,HM.out,HZ2.out⟩
  ·have hltz:¬ (i:Int)<(s.size:Int):=by omega
   have hie:s.data.toList.take i=s.data.toList:=List.take_of_length_le (by rw [HLEN.out];omega)
   have HA2:Hid (numA most 0 s.data.toList=some n):=by have:=HA.out;rw [hie] at this;exact this
   clear hie
   by_cases h0:0<s.size
   ·have hx0:(0:Int)<(s.size:Int):=by omega
    have HN:=hid (numL_all (by rw [HLEN.out];exact h0) HA2.out (fun q=>by rw [byte_list s 0 h0];exact HZ.out h0 (by rw [HLEN.out] at q;omega)))
    go_wp2_with fail
    go_ret2
    rw [HN.out]
    exact ⟨rfl,rfl⟩
   ·have hx0:¬ (0:Int)<(s.size:Int):=by omega
    have HN:Hid (numL most s.data.toList=none∧n=0):=by
     have e:s.data.toList=[]:=List.eq_nil_of_length_eq_zero (by rw [HLEN.out];omega)
     have h:=HA2.out
     rw [e] at h
     refine ⟨by unfold numL;rw [if_pos e],?_⟩
     simpa [numA] using h.symm
    go_wp2_with fail
    go_ret2
    rw [HN.out.1,HN.out.2]
    exact ⟨rfl,rfl⟩
end
section
open Go.RowKit Go.Lib
def nameS (k:Int):ByteArray:=⟨(nameK k).toArray⟩
theorem rname16_no (k:Int) (w:World) (h:k<1∨12<k) :
  Calls Tryz.prog 39 #[.int .i64 k] w fun e w'=>e=.returned (.string ⟨#[]⟩)∧Below w.heap.size w w':=by
 have HB:=hid (Below.refl w.heap.size w)
 go_enter Tryz.func39,Tryz.ntmps39
 rcases h with h|h
 ·go_wp2_with fail
  go_ret
  exact ⟨rfl,(Below.refl _ _).alloc (Nat.le_refl _) _⟩
 ·have h1:¬ k<1:=by omega
  go_wp2_with fail
  go_ret
  exact ⟨rfl,(Below.refl _ _).alloc (Nat.le_refl _) _⟩
set_option maxHeartbeats 4000000 in
theorem rname16_yes (k:Int) (w:World) (h1:1≤k) (h2:k≤12) :
  Calls Tryz.prog 39 #[.int .i64 k] w fun e w'=>e=.returned (.string (nameS k))∧Below w.heap.size w w':=by
 have:k=1∨k=2∨k=3∨k=4∨k=5∨k=6∨k=7∨k=8∨k=9∨k=10∨k=11∨k=12:=by omega
 rcases this with rfl|rfl|rfl|rfl|rfl|rfl|rfl|rfl|rfl|rfl|rfl|rfl
 all_goals
  go_enter Tryz.func39,Tryz.ntmps39
  go_wp2_with fail
  go_ret
  exact ⟨rfl,(Below.refl _ _).alloc (Nat.le_refl _) _⟩
end
section
open Go.RowKit Go.Lib
def partsC (k:Nat):Array Value:=((shapeN k).map fun (p:Nat)=>Value.int .i64 (p:Int)).toArray
set_option maxHeartbeats 4000000 in
theorem shape_yes (k:Nat) (w:World) (h1:1≤k) (h2:k≤12) :
  Calls Tryz.prog 36 #[.int .i64 k] w fun e w'=>e=.returned (.tuple #[.string ⟨(nameN k).toArray⟩,.slice (some ⟨w.heap.size,0,none⟩) (shapeN k).length (shapeN k).length])∧w'=w.alloc (.cells (partsC k) 77):=by
 have:k=1∨k=2∨k=3∨k=4∨k=5∨k=6∨k=7∨k=8∨k=9∨k=10∨k=11∨k=12:=by omega
 rcases this with rfl|rfl|rfl|rfl|rfl|rfl|rfl|rfl|rfl|rfl|rfl|rfl
 all_goals
  go_enter Tryz.func36,Tryz.ntmps36
  go_wp2_with fail
  go_ret2
  exact ⟨rfl,rfl⟩
set_option maxHeartbeats 4000000 in
theorem shape_no (k:Int) (w:World) (h:k<1∨12<k) :
  Calls Tryz.prog 36 #[.int .i64 k] w fun e w'=>e=.returned (.tuple #[.string ⟨#[]⟩,.slice none 0 0])∧w'=w:=by
 have n1:(k==1)=false:=beq_eq_false_iff_ne.2 (by omega)
 have n2:(k==2)=false:=beq_eq_false_iff_ne.2 (by omega)
 have n3:(k==3)=false:=beq_eq_false_iff_ne.2 (by omega)
 have n4:(k==4)=false:=beq_eq_false_iff_ne.2 (by omega)
 have n5:(k==5)=false:=beq_eq_false_iff_ne.2 (by omega)
 have n6:(k==6)=false:=beq_eq_false_iff_ne.2 (by omega)
 have n7:(k==7)=false:=beq_eq_false_iff_ne.2 (by omega)
 have n8:(k==8)=false:=beq_eq_false_iff_ne.2 (by omega)
 have n9:(k==9)=false:=beq_eq_false_iff_ne.2 (by omega)
 have n10:(k==10)=false:=beq_eq_false_iff_ne.2 (by omega)
 have n11:(k==11)=false:=beq_eq_false_iff_ne.2 (by omega)
 have n12:(k==12)=false:=beq_eq_false_iff_ne.2 (by omega)
 clear h
 go_enter Tryz.func36,Tryz.ntmps36
 go_wp2_with fail
 go_ret2
 exact ⟨rfl,rfl⟩
theorem kindW_at {s:ByteArray} {k:Nat} (h1:1≤k) (h2:k≤12) (h:nameN k=s.data.toList):kindW s.data.toList=k:=by
 rw [←h];exact kind_name k h1 h2
theorem kindW_no {l:List UInt8} (h:∀k,1≤k→k≤12→nameN k≠l):kindW l=0:=by
 unfold kindW
 split
 ·rfl
 ·rename_i h0
  cases hf:(List.range 13).find? fun k=>decide (nameN k=l) with
  | none=>rfl
  | some k =>
   exfalso
   have hm:=List.mem_of_find?_eq_some hf
   have hp:=List.find?_some hf
   simp only [decide_eq_true_eq] at hp
   simp only [List.mem_range] at hm
   by_cases hk:k=0
   ·subst hk;exact h0 hp.symm
   ·exact h k (by omega) (by omega) hp
theorem kindW_le (l:List UInt8):kindW l≤12:=by
 unfold kindW
 split
 ·omega
 ·cases hf:(List.range 13).find? fun k=>decide (nameN k=l) with
  | none=>simp
  | some k =>
   have hm:=List.mem_of_find?_eq_some hf
   simp only [List.mem_range] at hm
   simp only [Option.getD_some];omega
set_option maxHeartbeats 2000000 in
theorem kind_any (s:ByteArray) (w:World) :
  Calls Tryz.prog 35 #[.string s] w fun e w'=>e=.returned (.int .i64 (kindW s.data.toList))∧Below w.heap.size w w':=by
 have HB0:=hid (Below.refl w.heap.size w)
 have HN0:Hid (∀j:Nat,1≤j→j<1→nameN j≠s.data.toList):=hid fun j h1 h2=>by omega
 go_enter Tryz.func35,Tryz.ntmps35
 go_wp2_with fail
 go_loopg [3] 14 (fun g v ws=>∃k:Nat,v=.int .i64 k∧1≤k∧k≤13∧13-k≤g∧Hid (∀j:Nat,1≤j→j<k→nameN j≠s.data.toList)∧Hid (Below w.heap.size w ws))
 case atStart=>exact ⟨1,rfl,by omega,by omega,by omega,HN0,HB0⟩
 case round =>
  obtain ⟨k,rfl,hk1,hk2,hkg,HN,HB⟩:=hrel
  by_cases hlt:k≤12
  ·have hz:(k:Int)≤12:=by omega
   by_cases he:nameN k=s.data.toList
   ·have hq:(nameN k==s.toList)=true:=by rw [he,toList_data];exact beq_self_eq_true _
    have HE:=hid he
    clear he
    go_wp2_with (go_at_call 36;refine (shape_yes k _ hk1 hlt).mono ?_;rintro e w1 ⟨rfl,rfl⟩)
    go_ret
    exact ⟨by rw [kindW_at hk1 hlt HE.out];rfl,HB.out.alloc HB.out.size _⟩
   ·have hq:(nameN k==s.toList)=false:=beq_eq_false_iff_ne.2 fun q=>he (by rw [q,toList_data])
    have HE:=hid he
    clear he
    go_wp2_with (go_at_call 36;refine (shape_yes k _ hk1 hlt).mono ?_;rintro e w1 ⟨rfl,rfl⟩)
    go_roundg (13-(k+1))
    case measure=>omega
    refine ⟨k+1,by go_num,by omega,by omega,by omega,hid fun j h1 h2=>?_,hid (HB.out.alloc HB.out.size _)⟩
    by_cases hj:j=k
    ·rw [hj];exact HE.out
    ·exact HN.out j h1 (by omega)
  ·have hz:¬ (k:Int)≤12:=by omega
   go_wp2_with fail
   go_ret
   exact ⟨by rw [kindW_no fun j h1 h2=>HN.out j h1 (by omega)];rfl,HB.out⟩
end
section
open Go.RowKit
structure Ex where
 kind:Int
 temp:ByteArray
 ka:ByteArray
 kb:ByteArray
 iff:Int
 vp:Option Addr
 vc:Nat
 vo:List Fx
 ep:Option Addr
 ec:Nat
 eo:List Ed
 pp:Option Addr
 pc:Nat
 po:List Tm
 stamp:Int
 num:Int
def Ex.vs (x:Ex):Value:=.slice x.vp x.vo.length x.vc
def Ex.es (x:Ex):Value:=.slice x.ep x.eo.length x.ec
def Ex.ps (x:Ex):Value:=.slice x.pp x.po.length x.pc
def encEx (x:Ex):List Value:=[.int .i64 x.kind,.string x.temp,.string x.ka,.string x.kb,.int .i64 x.iff,x.vs,x.es,x.ps,.int .u64 x.stamp,.int .i64 x.num]
def aggEx (x:Ex):Value:=.agg (encEx x).toArray
def Ex.en (x:Ex):En:=⟨x.kind,x.temp,x.ka,x.kb,x.iff,x.vo.map Fx.fld,x.eo,x.po,x.stamp,x.num⟩
def KEx:Kind Ex:=⟨42,10,encEx,fun _=>rfl,by decide,fun x u hu=>by simp [encEx,Ex.vs,Ex.es,Ex.ps] at hu;rcases hu with rfl|rfl|rfl|rfl|rfl|rfl|rfl|rfl|rfl|rfl<;>rfl⟩
structure ExIn (W:World) (x:Ex):Prop where
 val:IsXs W x.vs x.vo
 fit:FitX x.vo
 eds:KE.Is W x.es x.eo
 efit:FitE x.eo
 prd:KM.Is W x.ps x.po
 pfit:FitM x.po
 temp:x.temp.size≤maxLen
 ka:x.ka.size≤maxLen
 kb:x.kb.size≤maxLen
 k0:-9223372036854775808≤x.kind
 k1:x.kind≤9223372036854775807
 i0:-9223372036854775808≤x.iff
 i1:x.iff≤9223372036854775807
 t0:0≤x.stamp
 t1:x.stamp≤18446744073709551615
 n0:-9223372036854775808≤x.num
 n1:x.num≤9223372036854775807
theorem ExIn.on {W W':World} {x:Ex} (h:ExIn W x) (hb:Below W.heap.size W W'):ExIn W' x :=
 ⟨h.val.kept hb,h.fit,Kind.is_kept h.eds hb,h.efit,Kind.is_kept h.prd hb,h.pfit,h.temp,h.ka,h.kb,h.k0,h.k1,h.i0,h.i1,h.t0,h.t1,h.n0,h.n1⟩
end
section
open Go.RowKit
theorem own_same {w w':World} {n0:Nat} {e:TypeId} {size:Nat} {v:Value} {n:Nat} {xs:List Value} (h:w.ownsRow n0 e size v n xs) (hk:∀k,v.ownBlock=some k→w'.heap[k]? = w.heap[k]?):w'.ownsRow n0 e size v n xs:=by
 refine ⟨h.1,?_⟩
 rcases h.2 with h2|⟨g,cap,cur,hv,h3,h4,h5⟩
 ·exact Or.inl h2
 ·exact Or.inr ⟨g,cap,cur,hv,h3,(hk g (by rw [hv];rfl)).trans h4,h5⟩
structure Fr (P:Nat→Prop) (w W:World):Prop where
 os:W.os=w.os
 tape:W.tape=w.tape
 output:W.output=w.output
 size:w.heap.size≤W.heap.size
 block:∀k,k<w.heap.size→¬ P k→W.heap[k]? = w.heap[k]?
theorem Fr.refl (P:Nat→Prop) (w:World):Fr P w w:=⟨rfl,rfl,rfl,Nat.le_refl _,fun _ _ _=>rfl⟩
theorem Fr.then {P Q:Nat→Prop} {a b c:World} (h:Fr P a b) (k:Fr Q b c) (hQ:∀k,Q k→P k∨a.heap.size≤k):Fr P a c :=
 ⟨k.os.trans h.os,k.tape.trans h.tape,k.output.trans h.output,Nat.le_trans h.size k.size,fun j hj hn=>(k.block j (Nat.lt_of_lt_of_le hj h.size) fun hq=>by
  rcases hQ j hq with h1|h1
  ·exact hn h1
  ·omega).trans (h.block j hj hn)⟩
theorem Fr.of_below {P:Nat→Prop} {w W:World} (h:Below w.heap.size w W):Fr P w W:=⟨h.os,h.tape,h.output,h.size,fun k hk _=>h.block k hk⟩
theorem Fr.below {P:Nat→Prop} {w W:World} (h:Fr P w W) {N:Nat} (hN:N≤w.heap.size) (hP:∀k,P k→N≤k):Below N w W :=
 ⟨h.os,h.tape,h.output,h.size,fun k hk=>h.block k (by omega) fun hp=>by have:=hP k hp;omega⟩
theorem Fr.row {P:Nat→Prop} {w W:World} {n0:Nat} {e:TypeId} {size:Nat} {v:Value} {n:Nat} {xs:List Value} (f:Fr P w W) (h:w.ownsRow n0 e size v n xs) (hP:∀k,v.ownBlock=some k→¬ P k):W.ownsRow n0 e size v n xs :=
 own_same h fun k hk=>f.block k (World.ownsRow.lt h k hk).2 (hP k hk)
theorem Fr.cell {P:Nat→Prop} {w W:World} {a:Addr} {v:Value} (f:Fr P w W) (h:w.cell? a=some v) (hP:¬ P a.block):W.cell? a=some v :=
 (World.cell?_of_block (f.block a.block (cell_block h) hP)).trans h
end
section
open Go.RowKit Go.Sort Go.Lib
theorem Kind.cells_set {α:Type} (K:Kind α) (d:List α) (i:Nat) (h:i<d.length) (x:α) (j:Nat):(K.cells (d.set i x))[j]? = if i * K.k≤j∧j<i * K.k+K.k then (K.enc x)[j-i * K.k]? else (K.cells d)[j]?:=by
 by_cases hj:j<d.length * K.k
 ·have hkp:=K.pos
  have hq:j / K.k<d.length:=(Nat.div_lt_iff_lt_mul hkp).2 hj
  have hm:j % K.k<K.k:=Nat.mod_lt _ hkp
  have e:j / K.k * K.k+j % K.k=j:=by rw [Nat.mul_comm];exact Nat.div_add_mod j K.k
  have h1:=K.cells_get (d.set i x) (j / K.k) (by simpa using hq) (j % K.k) hm
  have h2:=K.cells_get d (j / K.k) hq (j % K.k) hm
  rw [e] at h1 h2
  rw [h1,h2,List.getElem_set]
  by_cases hi:i=j / K.k
  ·rw [if_pos hi,if_pos (by rw [hi];omega),hi]
   congr 1
   omega
  ·rw [if_neg hi,if_neg]
   intro hh
   exact hi ((blk_iff K.k i j hkp).1 hh).symm
 ·have h3:(i+1) * K.k≤d.length * K.k:=Nat.mul_le_mul_right _ h
  rw [Nat.add_mul,Nat.one_mul] at h3
  rw [if_neg (by omega),List.getElem?_eq_none (by rw [K.cells_len,List.length_set];omega),List.getElem?_eq_none (by rw [K.cells_len];omega)]
end
section
open Go.RowKit Go.Sort Go.Lib
theorem km_set (d:List Tm) (i:Nat) (h:i<d.length) (x:Tm):KM.cells (d.set i x)=(((KM.cells d).set (i * 3) (.string x.1)).set (i * 3+1) (.int .i64 x.2.1)).set (i * 3+2) (.string x.2.2):=by
 apply List.ext_getElem?
 intro j
 rw [KM.cells_set d i h x j]
 have hl:(KM.cells d).length=d.length * 3:=KM.cells_len d
 have hk:KM.k=3:=rfl
 rw [hk]
 simp only [List.getElem?_set,List.length_set,hl]
 by_cases h0:j=i * 3
 ·subst h0
  simp [KM,encM]
  omega
 ·by_cases h1:j=i * 3+1
  ·subst h1
   simp [KM,encM]
   omega
  ·by_cases h2:j=i * 3+2
   ·subst h2
    simp [KM,encM]
    omega
   ·rw [if_neg (by omega),if_neg (fun e=>h2 e.symm),if_neg (fun e=>h1 e.symm),if_neg (fun e=>h0 e.symm)]
theorem own_put {n0 g n cap:Nat} {w:World} {d:List Tm} (h:KM.Own n0 w (.slice (some ⟨g,0,none⟩) n cap) d) (hn:d.length=n) (i:Nat) (hi:i<d.length) (x:Tm) :
  KM.Own n0 (((w.setCell ⟨g,i * 3,none⟩ (.string x.1)).setCell ⟨g,i * 3+1,none⟩ (.int .i64 x.2.1)).setCell ⟨g,i * 3+2,none⟩ (.string x.2.2)) (.slice (some ⟨g,0,none⟩) n cap) (d.set i x):=by
 subst hn
 have h1:=World.ownsRow.stored h (i * 3) (.string x.1)
 have h2:=World.ownsRow.stored h1.1 (i * 3+1) (.int .i64 x.2.1)
 have h3:=World.ownsRow.stored h2.1 (i * 3+2) (.string x.2.2)
 unfold Kind.Own
 rw [km_set d i hi x,List.length_set]
 exact h3.1
theorem km_take (d:List Tm) (k:Nat):KM.cells (d.take k)=(KM.cells d).take (k * 3):=by
 apply List.ext_getElem?
 intro j
 by_cases hk:k≤d.length
 ·rw [List.getElem?_take]
  by_cases hj:j<k * 3
  ·rw [if_pos hj]
   have hq:j / 3<k:=by omega
   have hm:j % 3<3:=by omega
   have e:j / 3 * 3+j % 3=j:=by omega
   have h1:=KM.cells_get (d.take k) (j / 3) (by rw [List.length_take];omega) (j % 3) hm
   have h2:=KM.cells_get d (j / 3) (by omega) (j % 3) hm
   have hk3:KM.k=3:=rfl
   rw [hk3,e] at h1 h2
   rw [h1,h2,List.getElem_take]
  ·rw [if_neg hj,List.getElem?_eq_none]
   have:=KM.cells_len (d.take k)
   have hk3:KM.k=3:=rfl
   rw [this,hk3,List.length_take]
   omega
 ·rw [List.take_of_length_le (by omega),List.take_of_length_le (by rw [KM.cells_len];show d.length * 3≤_;omega)]
theorem own_cut {n0 g n cap:Nat} {w:World} {d:List Tm} (h:KM.Own n0 w (.slice (some ⟨g,0,none⟩) n cap) d) (k:Nat) (hk:k≤d.length) :
  KM.Own n0 w (.slice (some ⟨g,0,none⟩) k cap) (d.take k):=by
 have hl:(d.take k).length=k:=by rw [List.length_take];omega
 rcases h.2 with ⟨hv,_⟩|⟨g',cap',cur,hv,h1,h2,h3,h4,h5,h6⟩
 ·cases hv
 ·injection hv with e1 e2 e3
  injection e1 with e1
  injection e1 with e1 _ _
  subst e1 e3
  refine ⟨by rw [KM.cells_len],Or.inr ⟨g,cap,cur,by rw [hl],h1,h2,by rw [hl];omega,h4,h5,?_⟩⟩
  rw [hl,km_take,←h6,List.take_take]
  congr 1
  have hk3:KM.k=3:=rfl
  rw [hk3]
  omega
theorem own_past {n0 g n cap:Nat} {d:List Tm} (vs:List Value):∀(w:World) (o:Nat),KM.Own n0 w (.slice (some ⟨g,0,none⟩) n cap) d→d.length=n→n * 3≤o→KM.Own n0 (w.setCells g o vs) (.slice (some ⟨g,0,none⟩) n cap) d:=by
 induction vs with
 | nil=>intro w o h _ _;exact h
 | cons v vs ih =>
  intro w o h hn ho
  rw [World.setCells]
  refine ih _ _ ?_ hn (by omega)
  subst hn
  have h1:=(World.ownsRow.stored h o v).1
  rw [List.set_eq_of_length_le (by rw [KM.cells_len];exact ho)] at h1
  exact h1
theorem grown_sets {g:Nat} (vs:List Value):∀(w w0:World) (o:Nat),w0.grownBy w (some g)→w0.grownBy (w.setCells g o vs) (some g):=by
 induction vs with
 | nil=>intro w w0 o h;exact h
 | cons v vs ih=>intro w w0 o h;rw [World.setCells];exact ih _ _ _ (grown_trans h (grown_set w g o v))
theorem km_flat:∀(d:List Tm) (t:Nat),t<d.length * 3→(KM.cells d)[t]? = some (encM d[t / 3]!)[t % 3]!:=by
 intro d t h
 have hq:t / 3<d.length:=by omega
 have hm:t % 3<3:=by omega
 have e:t / 3 * 3+t % 3=t:=by omega
 have h1:=KM.cells_get d (t / 3) hq (t % 3) hm
 have hk3:KM.k=3:=rfl
 rw [hk3,e] at h1
 rw [h1,getElem!_pos d (t / 3) hq]
 have hl:(encM d[t / 3]).length=3:=rfl
 show (encM d[t / 3])[t % 3]? = _
 rw [List.getElem?_eq_getElem (by rw [hl];exact hm),getElem!_pos _ _ (by rw [hl];exact hm)]
theorem own_holds {n0 g n cap:Nat} {w:World} {d:List Tm} (h:KM.Own n0 w (.slice (some ⟨g,0,none⟩) n cap) d):HoldsK encM 3 w g 0 d.toArray:=by
 rcases h.2 with ⟨hv,_⟩|⟨g',cap',cur,hv,h1,h2,h3,h4,h5,h6⟩
 ·cases hv
 ·injection hv with e1 e2 e3
  injection e1 with e1
  injection e1 with e1 _ _
  subst e1
  intro j hj
  rw [size_flatK] at hj
  have hj':j<d.length * 3:=by simpa using hj
  have hg:=km_flat d j hj'
  have hk3:KM.k=3:=rfl
  rw [←h6,hk3,List.getElem?_take_of_lt hj'] at hg
  rw [get_flatK _ _ _ _ hj]
  constructor
  ·simp only [World.cell?,h2,Nat.zero_add]
   have he:d[j / 3]! = d.toArray[j / 3]!:=by
    rw [getElem!_pos d (j / 3) (by omega),getElem!_pos d.toArray (j / 3) (by simp;omega)];simp
   rw [←Array.getElem?_toList,hg,he]
   rfl
  ·simp [World.frozen?,h2]
theorem below_sortM {B:Nat} {w0 w:World} (h:Below B w0 w) (hB:B≤w.heap.size) (blk off n:Nat) (d:Array Tm) (os:Array Obj) (hb:B≤blk):Below B w0 (sortWorldK encM 3 w blk off n d os):=by
 refine h.trans ⟨rfl,rfl,rfl,?_,?_⟩
 ·simp [sortWorldK,putRowK]
 ·intro k hk
  have hks:k<w.heap.size:=by omega
  simp only [sortWorldK,Sort.grow,putRowK,putRow,mapBlock,Sort.ahead]
  rw [Array.getElem?_append_left (by simpa using hks),Array.getElem?_modify,if_neg (by omega)]
theorem own_sorted {n0 g n cap:Nat} {w:World} {d:List Tm} (h:KM.Own n0 w (.slice (some ⟨g,0,none⟩) n cap) d) (e:Array Tm) (he:e.size=d.length) (m:Nat) (os:Array Obj) :
  KM.Own n0 (sortWorldK encM 3 w g 0 m e os) (.slice (some ⟨g,0,none⟩) n cap) e.toList:=by
 have hH:=own_holds h
 rcases h.2 with ⟨hv,_⟩|⟨g',cap',cur,hv,h1,h2,h3,h4,h5,h6⟩
 ·cases hv
 ·injection hv with e1 e2 e3
  injection e1 with e1
  injection e1 with e1 _ _
  subst e1 e2 e3
  have hgl:=(Array.getElem?_eq_some_iff.1 h2).1
  have hl:e.toList.length=d.length:=by simpa using he
  have hheap:(sortWorldK encM 3 w g 0 m e os).heap[g]? = some (.cells (putCells id 0 (flatK encM 3 e) cur) KM.T (0,0)):=by
   simp only [sortWorldK,Sort.grow,putRowK,putRow,mapBlock,Sort.ahead]
   rw [Array.getElem?_append_left (by simpa using hgl),Array.getElem?_modify,if_pos rfl,h2]
   rfl
  have hH2:HoldsK encM 3 (sortWorldK encM 3 w g 0 m e os) g 0 e:=by
   exact holdsK_grow encM 3 _ os g 0 _ (by simpa [putRowK] using hgl) (holdsK_putRowK encM 3 (Sort.ahead w m) g 0 _ _ (holdsK_ahead encM 3 w m g 0 _ hH) (by simpa using he))
  have hsz:(putCells id 0 (flatK encM 3 e) cur).size=cur.size:=by simp [putCells]
  refine ⟨by rw [KM.cells_len],Or.inr ⟨g,cap,_,by rw [hl],h1,hheap,by rw [hl];exact h3,h4,by rw [hsz];exact h5,?_⟩⟩
  apply List.ext_getElem?
  intro j
  have hk3:KM.k=3:=rfl
  rw [hl,hk3,List.getElem?_take]
  by_cases hj:j<d.length * 3
  ·rw [if_pos hj,km_flat e.toList j (by omega)]
   have:=(hH2 j (by rw [size_flatK];omega)).1
   rw [get_flatK _ _ _ _ (by omega)] at this
   simp only [World.cell?,hheap,Nat.zero_add] at this
   simp only [Option.isSome_none,Bool.false_eq_true,if_false] at this
   rw [Array.getElem?_toList,this]
   have he2:e.toList[j / 3]! = e[j / 3]!:=by
    rw [getElem!_pos e (j / 3) (by omega),getElem!_pos e.toList (j / 3) (by simp;omega)];simp
   rw [he2]
   rfl
  ·rw [if_neg hj,List.getElem?_eq_none]
   rw [KM.cells_len,hk3,hl]
   omega
def cmpM (x y:Tm):Int:=pairI (Lib.compareBytes x.1.data.toList y.1.data.toList) (pairI (Lib.compareInt x.2.1 y.2.1) (Lib.compareBytes x.2.2.data.toList y.2.2.data.toList))
theorem pairI_zero (y:Int):pairI 0 y=y:=rfl
theorem pairI_ne {x:Int} (h:x≠0) (y:Int):pairI x y=x:=by unfold pairI;rw [if_neg h]
theorem cmpM_lt (x y:Tm):ltOf cmpM x y=ltM x y:=by
 obtain ⟨a1,a2,a3⟩:=x
 obtain ⟨b1,b2,b3⟩:=y
 show decide (pairI (Lib.compareBytes a1.data.toList b1.data.toList) (pairI (Lib.compareInt a2 b2) (Lib.compareBytes a3.data.toList b3.data.toList))<0)=if a1≠b1 then ltB a1 b1 else if a2≠b2 then decide (a2<b2) else ltB a3 b3
 by_cases h1:a1=b1
 ·subst h1
  rw [if_neg (show ¬ (a1≠a1) by simp),cb_self,pairI_zero]
  by_cases h2:a2=b2
  ·subst h2
   have hc:Lib.compareInt a2 a2=0:=by unfold Lib.compareInt;simp
   rw [if_neg (show ¬ (a2≠a2) by simp),hc,pairI_zero]
   rfl
  ·rw [if_pos h2]
   rcases Int.lt_or_gt_of_ne h2 with h|h
   ·have hc:Lib.compareInt a2 b2=-1:=by unfold Lib.compareInt;simp [h]
    rw [hc,pairI_ne (by decide)]
    simp [h]
   ·have hn:¬ a2<b2:=by omega
    have hc:Lib.compareInt a2 b2=1:=by unfold Lib.compareInt;simp [hn,h]
    rw [hc,pairI_ne (by decide)]
    simp [hn]
 ·have hc:Lib.compareBytes a1.data.toList b1.data.toList≠0:=fun e=>h1 (ba_eq ((cb_zero _ _).1 e))
  rw [if_pos h1,pairI_ne hc]
  rfl
theorem swoM:SWO (ltOf cmpM) where
 irrefl x:=by rw [cmpM_lt];exact ltM_irrefl x
 trans x y z h1 h2:=by rw [cmpM_lt] at *;exact ltM_trans h1 h2
 ntrans x y z h1 h2:=by
  rw [cmpM_lt] at *
  cases h:ltM x z with
  | false=>rfl
  | true =>
   rcases ltM_cases x y with h3|h3|h3
   ·rw [h1] at h3;cases h3
   ·rw [h3,h2] at h;cases h
   ·rw [ltM_trans h3 h] at h2;cases h2
theorem compact_sorted {d:Array Tm} (hs:SortedIn (ltOf cmpM) 0 d.size d):RisingM (compactUpTo d d.size)∧∀x,x∈compactUpTo d d.size↔x∈d.toList:=by
 have hle:∀i j,i≤j→j<d.size→ltM d[j]! d[i]! = false:=by
  intro i j hij hj
  rcases Nat.lt_or_ge i j with h|h
  ·have:=hs i j (Nat.zero_le _) h hj
   rwa [cmpM_lt] at this
  ·obtain rfl:i=j:=by omega
   exact ltM_irrefl _
 have key:∀m,m≤d.size→RisingM (compactUpTo d m)∧∀x,x∈compactUpTo d m↔∃j,j<m∧d[j]! = x:=by
  intro m
  induction m with
  | zero=>intro _;exact ⟨List.Pairwise.nil,fun x=>by simp [compactUpTo]⟩
  | succ m ih =>
   intro hm
   obtain ⟨h1,h2⟩:=ih (by omega)
   rw [compactUpTo_succ]
   cases hk:keeps d m with
   | true =>
    rw [if_pos rfl]
    constructor
    ·refine List.pairwise_append.2 ⟨h1,List.pairwise_singleton _ _,fun x hx y hy=>?_⟩
     rw [List.mem_singleton] at hy
     subst hy
     obtain ⟨j,hj,rfl⟩:=(h2 x).1 hx
     have hne:d[m]!≠d[m-1]!:=by
      unfold keeps at hk
      rcases of_decide_eq_true hk with h|h
      ·omega
      ·exact h
     have ha:=hle j (m-1) (by omega) (by omega)
     have hb:=hle (m-1) m (by omega) (by omega)
     rcases ltM_cases d[j]! d[m]! with h|h|h
     ·exact h
     ·rw [h] at ha
      rcases ltM_cases d[m-1]! d[m]! with h'|h'|h'
      ·rw [ha] at h';cases h'
      ·exact absurd h'.symm hne
      ·rw [hb] at h';cases h'
     ·rw [hle j m (by omega) (by omega)] at h;cases h
    ·intro x
     rw [List.mem_append,List.mem_singleton,h2]
     constructor
     ·rintro (⟨j,hj,e⟩|e)
      ·exact ⟨j,by omega,e⟩
      ·exact ⟨m,by omega,e.symm⟩
     ·rintro ⟨j,hj,e⟩
      by_cases hjm:j=m
      ·subst hjm;exact Or.inr e.symm
      ·exact Or.inl ⟨j,by omega,e⟩
   | false =>
    rw [if_neg (by simp),List.append_nil]
    refine ⟨h1,fun x=>?_⟩
    rw [h2]
    constructor
    ·rintro ⟨j,hj,e⟩
     exact ⟨j,by omega,e⟩
    ·rintro ⟨j,hj,e⟩
     by_cases hjm:j=m
     ·subst hjm
      have hh:¬ (j=0∨d[j]!≠d[j-1]!):=by unfold keeps at hk;exact of_decide_eq_false hk
      have h0:j≠0:=fun e=>hh (Or.inl e)
      have h3:d[j]! = d[j-1]!:=Classical.byContradiction fun e=>hh (Or.inr e)
      exact ⟨j-1,by omega,by rw [←h3];exact e⟩
     ·exact ⟨j,by omega,e⟩
 obtain ⟨h1,h2⟩:=key d.size (Nat.le_refl _)
 refine ⟨h1,fun x=>(h2 x).trans ?_⟩
 rw [List.mem_iff_getElem]
 constructor
 ·rintro ⟨j,hj,e⟩
  exact ⟨j,by simpa using hj,by rw [←e,getElem!_pos d j hj];simp⟩
 ·rintro ⟨j,hj,e⟩
  have hj':j<d.size:=by simpa using hj
  exact ⟨j,hj',by rw [getElem!_pos d j hj',←e];simp⟩
end
end Go.Proofs.YtjeogllmpjihaaaGreatDoor
