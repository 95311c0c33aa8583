/-
  Texts of this claim, one behind the other: Ory Pc6 Hp1 Oql Oqg Oqz Oqh Orz Re6 Opv Opz Opu Oqi.
-/
import Derived.Test.YtpdccbeeoapplaaGreatDoorPg
namespace Go.Proofs.YtpdccbeeoapplaaGreatDoor
section
open Go.RowKit Go.Lib
theorem splitL_app (a c:List UInt8):splitL (a++32::c)=splitL a++splitL c:=by
 induction h:a.length using Nat.strongRecOn generalizing a with
 | _ k ih =>
  subst h
  rcases ix_cases a 32 with ⟨hn,hnot⟩|⟨i,hi,hl,hat,hbef⟩
  ·have h1:Lib.indexByte (a++32::c) 32=(a.length:Int):=ix_first _ _ _ (by simpa using hnot)
   rw [splitL_yes h1,splitL_no hn,List.take_left,←List.drop_drop,List.drop_left]
   rfl
  ·have h1:Lib.indexByte (a++32::c) 32=(i:Int):=by
    have hs:=ix_split a 32 i hl hat
    have e:a++32::c=a.take i++32::(a.drop (i+1)++32::c):=by
     conv=>lhs;rw [hs]
     simp
    rw [e,ix_first _ _ _ hbef,List.length_take]
    congr 1;omega
   rw [splitL_yes h1,splitL_yes hi,List.take_append_of_le_length (by omega),List.drop_append_of_le_length (by omega),ih _ (by rw [List.length_drop];omega) _ rfl]
   rfl
theorem joinW_cons (x:List UInt8) {w:List (List UInt8)} (h:w≠[]):joinW (x::w)=x++32::joinW w:=by
 cases w with
 | nil=>exact absurd rfl h
 | cons y w=>simp [joinW,Lib.join,List.intercalate]
theorem joinW_app (a:List (List UInt8)) {b:List (List UInt8)} (ha:a≠[]) (hb:b≠[]):joinW (a++b)=joinW a++32::joinW b:=by
 induction a with
 | nil=>exact absurd rfl ha
 | cons x a ih =>
  by_cases h:a=[]
  ·subst h
   rw [List.cons_append,List.nil_append,joinW_cons x hb,joinW_one]
  ·rw [List.cons_append,joinW_cons x (by simp [h]),ih h,joinW_cons x h]
   simp
theorem splitL_ne (l:List UInt8):splitL l≠[]:=fun q=>by have:=splitL_pos l;rw [q] at this;simp at this
theorem join_splitL:∀(k:Nat) (l:List UInt8),l.length≤k→joinW (splitL l)=l
 | k,l,hk=>by
  rcases ix_cases l 32 with ⟨hn,_⟩|⟨i,hi,hl,hat,_⟩
  ·rw [splitL_no hn,joinW_one]
  ·rw [splitL_yes hi,joinW_cons _ (splitL_ne _)]
   cases k with
   | zero=>omega
   | succ k =>
    rw [join_splitL k _ (by rw [List.length_drop];omega)]
    exact (ix_split l 32 i hl hat).symm
theorem splitL_noblank:∀(k:Nat) (l:List UInt8),l.length≤k→∀x∈splitL l,(32:UInt8) ∉ x
 | k,l,hk=>by
  rcases ix_cases l 32 with ⟨hn,hno⟩|⟨i,hi,hl,hat,hbef⟩
  ·rw [splitL_no hn]
   intro x hx
   rw [List.mem_singleton] at hx
   subst hx;exact hno
  ·rw [splitL_yes hi]
   intro x hx
   rcases List.mem_cons.1 hx with rfl|hx
   ·exact hbef
   ·cases k with
    | zero=>omega
    | succ k=>exact splitL_noblank k _ (by rw [List.length_drop];omega) x hx
theorem good_split {l:List UInt8} (h:[] ∉ splitL l):Good (splitL l):=fun x hx=>⟨fun q=>h (by rw [←q];exact hx),splitL_noblank _ l (Nat.le_refl _) x hx⟩
theorem textO_is (l:List UInt8):textO l=fil (entryR (splitL l)):=by
 unfold textO
 by_cases h:[]∈splitL l
 ·rw [if_pos h]
  cases hf:fil (entryR (splitL l)) with
  | none=>rfl
  | some f=>exact absurd rfl (entry_ok hf [] h).1
 ·rw [if_neg h,entryO_is _ (good_split h)]
theorem textO_semi {l:List UInt8} (h:[59]∈splitL l):textO l=none:=by
 rw [textO_is]
 cases hf:fil (entryR (splitL l)) with
 | none=>rfl
 | some f=>exact absurd rfl (entry_ok hf [59] h).2
def entriesF:List (List (List UInt8))→Option (List En)
 | []=>some []
 | c::cs=>(fil (entryR c)).bind fun e=>(entriesF cs).map (e :: ·)
theorem entriesF_bad:∀{cs:List (List (List UInt8))},[]∈cs→entriesF cs=none
 | [],h=>by cases h
 | c::cs,h=>by
  rw [entriesF]
  rcases List.mem_cons.1 h with h|h
  ·subst h;rfl
  ·rw [entriesF_bad h]
   cases fil (entryR c)<;>rfl
theorem cut_ne:∀w:List (List UInt8),cutSemi w≠[]
 | []=>by simp [cutSemi]
 | x::w=>by
  rw [cutSemi]
  split
  ·simp
  ·split<;>simp
theorem cut_head (w:List (List UInt8)):[]∈cutSemi ([59]::w):=by rw [cutSemi,if_pos rfl];simp
theorem cut_tail {w:List (List UInt8)} (h:[]∈(cutSemi w).tail):∀p:List (List UInt8),[]∈(cutSemi (p++w)).tail
 | []=>h
 | x::p=>by
  have ih:=cut_tail h p
  rw [List.cons_append,cutSemi]
  split
  ·exact List.mem_of_mem_tail ih
  ·split
   ·rename_i hc;exact absurd hc (cut_ne _)
   ·rename_i c cs hc
    rw [hc] at ih
    exact ih
theorem cut_last (p:List (List UInt8)):[]∈cutSemi (p++[[59]]):=List.mem_of_mem_tail (cut_tail (by decide) p)
theorem cut_two (p q:List (List UInt8)):[]∈cutSemi (p++[59]::[59]::q):=List.mem_of_mem_tail (cut_tail (by
 rw [cutSemi,if_pos rfl]
 exact cut_head q) p)
theorem semi_ends {a:List UInt8} (h:[59]∈splitL a) (ho:∀j,j+3≤a.length→Lib.occAt a sep3 j=false):(∃r,splitL a=[59]::r)∨∃r,splitL a=r++[[59]]:=by
 obtain ⟨p,q,hpq⟩:=List.append_of_mem h
 by_cases hp:p=[]
 ·subst hp;exact .inl ⟨q,hpq⟩
 ·by_cases hq:q=[]
  ·subst hq;exact .inr ⟨p,hpq⟩
  ·exfalso
   have hj:=join_splitL _ a (Nat.le_refl _)
   rw [hpq,joinW_app p hp (by simp),joinW_cons _ hq] at hj
   have hlen:=congrArg List.length hj
   simp only [List.length_append,List.length_cons,List.length_nil] at hlen
   have hno:=ho (joinW p).length (by omega)
   have hyes:Lib.occAt a sep3 (joinW p).length=true:=by
    unfold Lib.occAt
    rw [←hj,List.drop_left]
    rfl
   rw [hyes] at hno;cases hno
theorem texts_is:∀(k:Nat) (l:List UInt8),l.length≤k→textsO (split3 l)=entriesF (cutSemi (splitL l))
 | k,l,hk=>by
  rcases Lib.index_spec l sep3 with ⟨hn,hno⟩|⟨i,hi,hil,hocc,hbef⟩
  ·rw [split3_no hn]
   by_cases hm:[59]∈splitL l
   ·have h1:textsO [l]=none:=by simp only [textsO];rw [textO_semi hm];rfl
    rw [h1]
    rcases semi_ends hm (fun j hj=>hno j (by omega)) with ⟨r,hr⟩|⟨r,hr⟩
    ·rw [hr,entriesF_bad (cut_head r)]
    ·rw [hr,entriesF_bad (cut_last r)]
   ·rw [cutSemi_no _ (fun x hx q=>hm (by rw [←q];exact hx))]
    simp only [textsO,entriesF]
    rw [textO_is]
  ·have hroom:i+3≤l.length:=by
    have:=Lib.index_room l sep3 (by rw [hi];omega)
    rw [hi] at this
    have e:sep3.length=3:=rfl
    omega
   have hl:l=l.take i++32::([59]++32::l.drop (i+3)):=by
    have h1:sep3 <+: l.drop i:=by
     unfold Lib.occAt at hocc
     exact List.isPrefixOf_iff_prefix.1 hocc
    obtain ⟨t,ht⟩:=h1
    have h2:l.drop (i+3)=t:=by
     rw [←List.drop_drop,←ht];rfl
    rw [h2]
    calc l=l.take i++l.drop i:=(List.take_append_drop i l).symm
     _=_:=by rw [←ht];rfl
   have hs:splitL l=splitL (l.take i)++[59]::splitL (l.drop (i+3)):=by
    conv=>lhs;rw [hl]
    rw [splitL_app,splitL_app]
    have e:splitL ([59]:List UInt8)=[[59]]:=splitL_no (by decide)
    rw [e];rfl
   rw [split3_yes hi,hs]
   cases k with
   | zero=>omega
   | succ k =>
    have ih:=texts_is k (l.drop (i+3)) (by rw [List.length_drop];omega)
    by_cases hm:[59]∈splitL (l.take i)
    ·have h1:textsO (l.take i::split3 (l.drop (i+3)))=none:=by simp only [textsO];rw [textO_semi hm];rfl
     rw [h1]
     have hoc:∀j,j+3≤(l.take i).length→Lib.occAt (l.take i) sep3 j=false:=fun j hj=>by
      rw [List.length_take] at hj
      cases hq:Lib.occAt (l.take i) sep3 j with
      | false=>rfl
      | true =>
       exfalso
       have h2:Lib.occAt l sep3 j=true:=by
        unfold Lib.occAt at hq ⊢
        rw [List.isPrefixOf_iff_prefix] at hq ⊢
        refine hq.trans ?_
        rw [List.drop_take]
        exact List.take_prefix _ _
       have h3:=hbef j (by omega)
       rw [h2] at h3;cases h3
     rcases semi_ends hm hoc with ⟨r,hr⟩|⟨r,hr⟩
     ·rw [hr,List.cons_append,entriesF_bad (cut_head _)]
     ·rw [hr,List.append_assoc]
      exact (entriesF_bad (cut_two r _)).symm
    ·rw [cutSemi_at _ _ (fun x hx q=>hm (by rw [←q];exact hx))]
     simp only [textsO,entriesF]
     rw [textO_is,ih]
theorem entriesF_is:∀cs:List (List (List UInt8)),entriesF cs=(entriesR cs).bind fun es=>if es.all mayEn=true then some es else none
 | []=>rfl
 | c::cs=>by
  rw [entriesF,entriesR,entriesF_is cs]
  cases entryR c with
  | none=>rfl
  | some e =>
   simp only [fil,Option.bind_some]
   by_cases hm:mayEn e=true
   ·rw [if_pos hm]
    cases entriesR cs with
    | none=>rfl
    | some es =>
     simp only [Option.bind_some,Option.map_some,List.all_cons,hm,Bool.true_and]
     split<;>rfl
   ·rw [if_neg hm]
    cases entriesR cs with
    | none=>rfl
    | some es=>simp [hm]
theorem entriesR_len:∀{cs:List (List (List UInt8))} {es:List En},entriesR cs=some es→es.length=cs.length
 | [],es,h=>by cases h;rfl
 | c::cs,es,h=>by
  rw [entriesR] at h
  cases he:entryR c with
  | none=>rw [he] at h;cases h
  | some e =>
   rw [he,Option.bind_some] at h
   cases hr:entriesR cs with
   | none=>rw [hr] at h;cases h
   | some gs=>rw [hr] at h;cases h;simp [entriesR_len hr]
theorem opP_is (l:List UInt8):opP l=(entriesR (cutSemi (splitL l))).bind fun es=>if mayRq es=true then some es else none:=by
 unfold opP
 rw [texts_is _ l (Nat.le_refl _),entriesF_is]
 cases hr:entriesR (cutSemi (splitL l)) with
 | none=>rfl
 | some es =>
  have h1:=entriesR_len hr
  have h2:0<es.length:=by
   rw [h1]
   exact List.length_pos_iff.2 (cut_ne _)
  simp only [Option.bind_some]
  unfold mayRq
  rw [decide_eq_true h2,Bool.true_and]
  by_cases ha:es.all mayEn=true
  ·rw [if_pos ha,ha,Bool.and_true,Option.bind_some]
   by_cases hl:es.length≤16
   ·rw [if_pos hl,if_pos (decide_eq_true hl)]
   ·rw [if_neg hl,if_neg (by simpa using hl)]
  ·rw [if_neg ha,if_neg (by simp [ha])];rfl
theorem opR_is (l:List UInt8):opR l=readRq (wordsAns l):=by
 unfold opR
 by_cases h0:l=[]
 ·subst h0
  have e:splitL ([]:List UInt8)=[[]]:=splitL_no rfl
  have e2:trimPrefix ([]:List UInt8) onceB=[]:=by decide
  rw [e2,opP_is,e];rfl
 have hw:wordsAns l=splitL l:=by unfold wordsAns;rw [if_neg h0]
 rw [hw]
 unfold readRq
 by_cases hp:hasPrefix l onceB=true
 ·obtain ⟨t,ht⟩:∃t,onceB++t=l:=List.isPrefixOf_iff_prefix.1 hp
  have htr:trimPrefix l onceB=t:=by
   unfold trimPrefix
   rw [if_pos hp,←ht,List.drop_left]
  have hsl:splitL l=onceW::splitL t:=by
   have e:l=onceW++32::t:=by rw [←ht];rfl
   rw [e,splitL_app]
   have e2:splitL onceW=[onceW]:=splitL_no (by decide)
   rw [e2];rfl
  rw [htr,hp,hsl,opP_is]
  simp only [List.head?_cons,decide_true,if_true,List.drop_succ_cons,List.drop_zero]
  cases entriesR (cutSemi (splitL t)) with
  | none=>rfl
  | some es =>
   simp only [Option.bind_some]
   split<;>rfl
 ·have hpf:hasPrefix l onceB=false:=by simpa using hp
  have htr:trimPrefix l onceB=l:=by unfold trimPrefix;rw [if_neg hp]
  rw [htr,hpf,opP_is]
  by_cases hh:(splitL l).head? = some onceW
  ·have hone:splitL l=[onceW]:=by
    cases hs:splitL l with
    | nil=>exact absurd hs (splitL_ne l)
    | cons x r =>
     rw [hs] at hh
     have hx:x=onceW:=by simpa using hh
     subst hx
     by_cases hr:r=[]
     ·rw [hr]
     ·exfalso
      have hj:=join_splitL _ l (Nat.le_refl _)
      rw [hs,joinW_cons _ hr] at hj
      apply hp
      unfold hasPrefix
      rw [List.isPrefixOf_iff_prefix]
      exact ⟨joinW r,by rw [←hj];rfl⟩
   rw [hone]
   decide
  ·simp only [hh,decide_false,Bool.false_eq_true,if_false]
   cases entriesR (cutSemi (splitL l)) with
   | none=>rfl
   | some es =>
    simp only [Option.bind_some]
    split<;>rfl
end
section
open Go.RowKit Go.Lib
set_option maxHeartbeats 4000000 in
set_option maxRecDepth 100000 in
theorem word_term (x:Tm) (w:World) (hp:PlainAt w) (h1:1≤x.2.1∧x.2.1≤7) (h2:x.1.size≤32) (h3:x.2.2.size≤128) :
  Calls Tryz.prog 111 #[.agg #[.string x.1,.int .i64 x.2.1,.string x.2.2]] w fun e w'=>e=.returned (.string (wordM x))∧Below w.heap.size w w':=by
 obtain ⟨xf,xo,xt⟩:=x
 simp only at h1 h2 h3 ⊢
 obtain ⟨W,hW⟩:∃W,w.alloc (.cells #[.string xf,.int .i64 xo,.string xt] 51)=W:=⟨_,rfl⟩
 obtain ⟨F,hF⟩:∃F,w.heap.size=F:=⟨_,rfl⟩
 have hbw:Below w.heap.size w W:=by rw [←hW];exact (Below.refl _ _).alloc (Nat.le_refl _) _
 have hbox:BoxM W F (xf,xo,xt):=by rw [←hW,←hF];exact boxM_new w (xf,xo,xt)
 have hwl2:=writeL_len xt.data.toList
 have hwl3:xt.data.toList.length=xt.size:=by simp
 have HW:=hid (write_any xt W.drew (hp.on hbw.drew) (by omega))
 obtain ⟨wt,hwt⟩:∃wt:ByteArray,⟨(writeL xt.data.toList).toArray⟩=wt:=⟨_,rfl⟩
 have hwts:wt.size≤384:=by rw [←hwt];show (writeL xt.data.toList).toArray.size≤384;rw [List.size_toArray];omega
 rw [hwt] at HW
 obtain ⟨S2,hS2⟩:∃S2:ByteArray,xf++⟨#[opC xo]⟩=S2:=⟨_,rfl⟩
 have hS2s:S2.size≤33:=by rw [←hS2,ByteArray.size_append];show _+1≤_;omega
 obtain ⟨S4,hS4⟩:∃S4:ByteArray,S2++wt=S4:=⟨_,rfl⟩
 have HV:Hid (wordM (xf,xo,xt)=S4):=by show _=_;rw [←hS4,←hS2,←hwt];rfl
 have hA:∀w,Sem.run Tryz.prog (Op.stringOp .add xf ⟨#[opC xo]⟩) w=.ok (.string S2) w:=fun w=>by rw [←hS2];exact run_string_add_sum _ _ _ (by show xf.size+1≤_;omega)
 have hC:∀w,Sem.run Tryz.prog (Op.stringOp .add S2 wt) w=.ok (.string S4) w:=fun w=>by rw [←hS4];exact run_string_add_sum _ _ _ (by omega)
 obtain ⟨m,hm7,hxo⟩:∃m:Nat,m<7∧xo=m+1:=⟨(xo-1).toNat,by omega,by omega⟩
 have hw:IntKind.i64.wrap (xo-1)=(m:Int):=by rw [hxo];rw [show (m:Int)+1-1=m by omega];exact wrap_i64 _ (by omega) (by omega)
 have hm0:(0:Int)≤m:=by omega
 have hm7z:(m:Int)<7:=by omega
 have hsg:=sign_at m hm7
 rw [←hxo] at hsg
 have hA2:∀w,Sem.run Tryz.prog (Op.stringOp .add xf (Utf8.encode (((⟨#[61,33,94,60,62,63,45]⟩:ByteArray)[m]'hm7).toNat:Int))) w=.ok (.string S2) w:=by rw [hsg];exact hA
 obtain ⟨c0,c1,c2⟩:=hbox.cells
 have KS:Hid (∀w':World,Below W.drew.heap.size W.drew w'→w'.cell? ⟨F,0,none⟩=some (.string xf)∧w'.cell? ⟨F,2,none⟩=some (.string xt)):=fun w' h=>⟨(BoxM.on (w:=W.drew) hbox h).cells.1,(BoxM.on (w:=W.drew) hbox h).cells.2.2⟩
 have HBW:=hid hbw
 simp only at c0 c1 c2
 clear hwl2 hwl3 hwt hS2 hS4 hwts hS2s h1 h2 h3 hp hA hxo hsg hbox hbw
 go_enter Tryz.func111,Tryz.ntmps111
 rw [hF]
 go_wp2_with fail
 go_region_held3 (fun w'=>w'.cell? ⟨F,0,none⟩=some (.string xf)∧w'.cell? ⟨F,2,none⟩=some (.string xt))
  (first|exact ⟨c0,c2⟩|exact q2)
  (first|(go_at_call 109;refine HW.out.mono ?_;rintro o w2 ⟨rfl,hb2⟩;have q2:=KS.out _ hb2))
 all_goals
  go_wp2_with fail
  go_ret
  rw [←hF]
  exact ⟨by rw [HV.out];rfl,bel_then HBW.out.drew HBW.out.drew.size hb2⟩
set_option maxHeartbeats 8000000 in
set_option maxRecDepth 100000 in
theorem pprint_any (v:Value) (p:List Tm) (w:World) (hp:PlainAt w) (hv:KM.Is w v p) (hf:FitM p) :
  Calls Tryz.prog 67 #[v] w fun e w'=>e=.returned (.tuple #[.string (lineM (ansM p)),.int .i64 (mayM p)])∧Below w.heap.size w w':=by
 obtain ⟨i0,hi0,hz0,hz1,hz2⟩:=info_parts Tryz.infoStr
 have HI:=hid hi0
 have HN:=hid (pnorm_any v p w hv hf)
 have HP:=hid hp
 clear hv hf hp hi0
 by_cases hm:mayM p=0
 ·have HAL:=hid (fun x hx=>ansM_all (p:=p) x hx)
  have hal:=ansM_len p
  have HM:=hid hm
  obtain ⟨G,hG⟩:∃G,ansM p=G:=⟨_,rfl⟩
  rw [hG] at HAL hal
  have HG:=hid hG
  clear hm hG
  go_enter Tryz.func67,Tryz.ntmps67
  go_wp2_with (first|(go_at_call 110;refine HN.out.mono ?_;rintro e w1 ⟨⟨u,he,ho⟩,hb1⟩;rw [HM.out] at he;subst he;rw [HG.out] at ho;obtain ⟨p5,c5,hu,hd⟩:=Kind.own_is ho;subst hu;have HD:=hid hd;have HB1:=hid hb1;have HP1:=hid (HP.out.on hb1);clear ho hd hb1))
  go_loopg [6,19] G.length (fun g vs vi wr=>∃i:Nat,vi=.int .i64 i∧i≤G.length∧G.length-i≤g∧Hid (Below w1.heap.size w1 wr)∧Hid (OwnT w1.heap.size wr vs ((G.take i).map wordM)))
  case atStart=>exact ⟨0,rfl,by omega,by omega,Below.refl _ _,World.ownsRow_nil _ _ _ _⟩
  case round =>
   obtain ⟨i,rfl,hi,hgk,HB,HO⟩:=hrel
   by_cases hlt:i<G.length
   ·have hltz:(i:Int)<(G.length:Int):=by omega
    have hiz:(0:Int)≤i:=by omega
    obtain ⟨b,off,rfl,hat⟩:∃b off,p5=some ⟨b,off,none⟩∧KM.At w1 b off G:=by
     rcases HD.out with h|h
     ·subst h;simp at hlt
     ·exact h
    obtain ⟨c0,c1,c2⟩:=km_cells (Kind.at_kept hat HB.out) i hlt
    obtain ⟨hn,hr,hs⟩:=HAL.out _ (List.getElem_mem hlt)
    have hor:=rightM_range hr
    have hns:=fieldB_len hn
    have hss:=of_decide_eq_true hs
    have htk:(G.take (i+1)).map wordM=(G.take i).map wordM++[wordM G[i]]:=by
     rw [List.take_succ_eq_append_getElem hlt,List.map_append];simp
    have hns2:(G[i]).1.size≤32:=by simpa using hns
    have hal2:((G.take i).map wordM).length=i:=by rw [List.length_map,List.length_take];omega
    obtain ⟨x,hx⟩:∃x,G[i]=x:=⟨_,rfl⟩
    rw [hx] at c0 c1 c2 hor hns2 hss htk
    have HWT:Hid (∀W,Below w1.heap.size w1 W→Calls Tryz.prog 111 #[.agg #[.string x.1,.int .i64 x.2.1,.string x.2.2]] W fun e w'=>e=.returned (.string (wordM x))∧Below W.heap.size W w'):=fun W hb=>word_term x W (HP1.out.on hb) hor hns2 hss
    obtain ⟨acc,hacc⟩:∃acc,(G.take i).map wordM=acc:=⟨_,rfl⟩
    rw [hacc] at HO htk hal2
    obtain ⟨wd,hwd⟩:∃wd,wordM x=wd:=⟨_,rfl⟩
    rw [hwd] at HWT htk
    have HTK:=hid htk
    have HAC:=hid hal2
    have hal3:acc.length≤8:=by omega
    have hsz:=HB.out.size
    obtain ⟨xf,xo,xt⟩:=x
    simp only at c0 c1 c2 HWT
    clear hat hn hr hs hx htk hns hss hor hns2 hwd hacc hal2
    go_wp2_with (first
     | (at_builtin;refine wpList_append_own _ rfl _ _ 45 rfl w1.heap.size 9 i0 (.string ⟨#[]⟩) 1 16 Tryz.underlying45 HI.out hz0 hz1 hz2 rfl (by decide) _ _ _ rfl HO3.out _ 1 1 [.string wd] rfl rfl (by intro j u hj;match j,hj with|0,hj=>simp at hj;subst hj;simp [Addr.add]) (by intro u hu;simp at hu;subst hu;rfl) (by unfold maxLen;omega) (by omega) (by have:=hb2.size;simp at this ⊢;omega) ?_;intro v4 w4 hown4 hg4 hnil4;have HO4:=hid hown4;have HG4:=hid hg4;clear hown4 hg4 hnil4)
     | (go_at_call 111;refine (HWT.out _ (HB.out.alloc hsz _)).mono ?_;rintro e w2 ⟨rfl,hb2⟩;have HO3:Hid (OwnT w1.heap.size (w2.alloc (.cells #[.string wd] 9)) _ acc):=hid ((OwnT.on (OwnT.on HO.out ((Below.refl _ wr).alloc (Nat.le_refl _) _)) hb2).on ((Below.refl _ _).alloc (Nat.le_refl _) _))))
    go_roundg (G.length-(i+1))
    case measure=>omega
    refine ⟨i+1,by go_num,by omega,by omega,?_,?_⟩
    ·have hb3:Below w1.heap.size w1 (w2.alloc (.cells #[.string wd] 9)):=(bel_then (HB.out.alloc hsz _) (HB.out.alloc hsz _).size hb2).alloc (Nat.le_trans (HB.out.alloc hsz _).size hb2.size) _
     exact hb3.grown HG4.out hb3.size (fun k hk=>(World.ownsRow.lt HO3.out k hk).1)
    ·rw [HTK.out]
     show OwnT _ _ _ _
     unfold OwnT
     rw [List.length_append,List.map_append]
     exact HO4.out
   ·have hltz:¬ (i:Int)<(G.length:Int):=by omega
    have htk2:G.take i=G:=List.take_of_length_le (by omega)
    rw [htk2] at HO
    have hws:∀y∈G.map wordM,y.size≤417:=fun y hy=>by
     obtain ⟨t,ht,rfl⟩:=List.mem_map.1 hy
     obtain ⟨a,_,c⟩:=HAL.out t ht
     exact wordM_len a c
    have hwl:(G.map wordM).length≤128:=by rw [List.length_map];omega
    obtain ⟨ws,hwe⟩:∃ws,G.map wordM=ws:=⟨_,rfl⟩
    have HLN:Hid (lineM G=⟨(Lib.join (ws.map (·.data.toList)) [32]).toArray⟩):=by show _=_;rw [←hwe];rfl
    rw [hwe] at HO hws hwl
    clear htk2 hwe
    obtain ⟨p4,cap4,hv4⟩:=own_slice HO.out
    subst hv4
    have HJ:=hid (join_any ws p4 cap4 wr HO.out hwl hws)
    clear hws hwl
    go_wp2_with (first|(go_at_call 20;refine HJ.out.mono ?_;rintro e w2 ⟨rfl,hb2⟩))
    go_ret2
    exact ⟨by rw [HM.out,HG.out,HLN.out];rfl,bel_then (bel_then HB1.out HB1.out.size HB.out) (bel_then HB1.out HB1.out.size HB.out).size hb2⟩
 ·have hne:(mayM p != 0)=true:=by rw [bne_iff_ne];exact hm
  have HA:Hid (ansM p=[]):=by show _=_;unfold ansM;rw [if_neg hm]
  obtain ⟨r,hr⟩:∃r,mayM p=r:=⟨_,rfl⟩
  rw [hr] at hne
  have HR:=hid hr
  clear hm hr
  go_enter Tryz.func67,Tryz.ntmps67
  go_wp2_with (first|(go_at_call 110;refine HN.out.mono ?_;rintro e w1 ⟨⟨u,he,ho⟩,hb1⟩;rw [HR.out] at he;subst he;clear ho))
  go_ret2
  exact ⟨by rw [HR.out,HA.out];rfl,hb1⟩
end
section
open Go.RowKit Go.Lib
def kC (o:Int):UInt8:=if o=1 then 58 else if o=2 then 43 else if o=3 then 45 else if o=4 then 126 else 61
theorem kC_at (m:Nat) (h:m<5):Utf8.encode (((⟨#[58,43,45,126,61]⟩:ByteArray)[m]'h).toNat:Int)=⟨#[kC ((m:Int)+1)]⟩:=by
 have:m=0∨m=1∨m=2∨m=3∨m=4:=by omega
 rcases this with rfl|rfl|rfl|rfl|rfl<;>decide +revert
theorem sign_wipe:signS 4=⟨#[kC 4]⟩:=rfl
theorem sign_else {o:Int} (h1:1≤o) (h2:o≤5) (h4:o≠4):signS o=⟨#[kC o]⟩++⟨#[61]⟩:=by
 have:o=1∨o=2∨o=3∨o=5:=by omega
 rcases this with rfl|rfl|rfl|rfl<;>rfl
theorem rightE_range {x:Ed} (h:rightE x=true):(1≤x.1∧x.1≤5)∧(x.1=4→x.2.2.size=0):=by
 unfold rightE at h
 rw [Bool.and_eq_true,Bool.and_eq_true,Bool.or_eq_true] at h
 refine ⟨⟨of_decide_eq_true h.1.1,of_decide_eq_true h.1.2⟩,fun e=>?_⟩
 rcases h.2 with k|k
 ·exact absurd e (of_decide_eq_true k)
 ·exact of_decide_eq_true k
set_option maxHeartbeats 4000000 in
set_option maxRecDepth 100000 in
theorem word_edit (x:Ed) (w:World) (hp:PlainAt w) (h1:1≤x.1∧x.1≤5) (h2:x.2.1.size≤32) (h3:x.2.2.size≤128) (h4:x.1=4→x.2.2.size=0) :
  Calls Tryz.prog 112 #[.agg #[.int .i64 x.1,.string x.2.1,.string x.2.2]] w fun e w'=>e=.returned (.string (wordE x))∧Below w.heap.size w w':=by
 obtain ⟨xo,xf,xt⟩:=x
 simp only at h1 h2 h3 h4 ⊢
 obtain ⟨W,hW⟩:∃W,w.alloc (.cells #[.int .i64 xo,.string xf,.string xt] 49)=W:=⟨_,rfl⟩
 obtain ⟨F,hF⟩:∃F,w.heap.size=F:=⟨_,rfl⟩
 have hbw:Below w.heap.size w W:=by rw [←hW];exact (Below.refl _ _).alloc (Nat.le_refl _) _
 have hbox:BoxE W F (xo,xf,xt):=by rw [←hW,←hF];exact boxE_new w (xo,xf,xt)
 have hwl2:=writeL_len xt.data.toList
 have hwl3:xt.data.toList.length=xt.size:=by simp
 have HW:Hid (∀n,Calls Tryz.prog 109 #[.string xt] (W.drewN n) fun e w'=>e=.returned (.string ⟨(writeL xt.data.toList).toArray⟩)∧Below (W.drewN n).heap.size (W.drewN n) w'):=fun n=>write_any xt (W.drewN n) (hp.on (belE_drew hbw n)) (by omega)
 obtain ⟨wt,hwt⟩:∃wt:ByteArray,⟨(writeL xt.data.toList).toArray⟩=wt:=⟨_,rfl⟩
 have hwts:wt.size≤384:=by rw [←hwt];show (writeL xt.data.toList).toArray.size≤384;rw [List.size_toArray];omega
 rw [hwt] at HW
 obtain ⟨S2,hS2⟩:∃S2:ByteArray,xf++⟨#[kC xo]⟩=S2:=⟨_,rfl⟩
 have hS2s:S2.size≤33:=by rw [←hS2,ByteArray.size_append];show _+1≤_;omega
 obtain ⟨S3,hS3⟩:∃S3:ByteArray,S2++⟨#[61]⟩=S3:=⟨_,rfl⟩
 have hS3s:S3.size≤34:=by rw [←hS3,ByteArray.size_append];show _+1≤_;omega
 obtain ⟨S4,hS4⟩:∃S4:ByteArray,S3++wt=S4:=⟨_,rfl⟩
 have hA:∀w,Sem.run Tryz.prog (Op.stringOp .add xf ⟨#[kC xo]⟩) w=.ok (.string S2) w:=fun w=>by rw [←hS2];exact run_string_add_sum _ _ _ (by show xf.size+1≤_;omega)
 have hB:∀w,Sem.run Tryz.prog (Op.stringOp .add S2 ⟨#[61]⟩) w=.ok (.string S3) w:=fun w=>by rw [←hS3];exact run_string_add_sum _ _ _ (by show S2.size+1≤_;omega)
 have hC:∀w,Sem.run Tryz.prog (Op.stringOp .add S3 wt) w=.ok (.string S4) w:=fun w=>by rw [←hS4];exact run_string_add_sum _ _ _ (by omega)
 obtain ⟨m,hm5,hxo⟩:∃m:Nat,m<5∧xo=m+1:=⟨(xo-1).toNat,by omega,by omega⟩
 have hw:IntKind.i64.wrap (xo-1)=(m:Int):=by rw [hxo];rw [show (m:Int)+1-1=m by omega];exact wrap_i64E _ (by omega) (by omega)
 have hm0:(0:Int)≤m:=by omega
 have hm5z:(m:Int)<5:=by omega
 have hsg:=kC_at m hm5
 rw [←hxo] at hsg
 have hA2:∀w,Sem.run Tryz.prog (Op.stringOp .add xf (Utf8.encode (((⟨#[58,43,45,126,61]⟩:ByteArray)[m]'hm5).toNat:Int))) w=.ok (.string S2) w:=by rw [hsg];exact hA
 obtain ⟨c0,c1,c2⟩:=hbox.cells
 have HBW:=hid hbw
 simp only at c0 c1 c2
 by_cases hk:xo=4
 ·have hkb:(xo==4)=true:=by rw [hk];rfl
  have HV:Hid (wordE (xo,xf,xt)=S2):=by
   show _=_
   have ht0:xt.data.toList=[]:=List.length_eq_zero_iff.1 (by rw [hwl3];exact h4 hk)
   rw [←hS2]
   unfold wordE
   simp only
   rw [ht0,show writeL []=[] from rfl,hk,sign_wipe]
   exact ba_eq (by simp)
  clear hwl2 hwl3 hwt hS2 hS3 hS4 hwts hS2s hS3s h1 h2 h3 h4 hp hA hB hC hxo hsg hbox hbw HW hk
  go_enter Tryz.func112,Tryz.ntmps112
  rw [hF]
  go_wp2_with fail
  go_quiet (fail)
  go_wp2_with fail
  go_ret
  rw [←hF]
  exact ⟨by rw [HV.out];rfl,belE_drew HBW.out _⟩
 ·have hkb:(xo==4)=false:=beq_eq_false_iff_ne.2 hk
  have HV:Hid (wordE (xo,xf,xt)=S4):=by
   show _=_
   rw [←hS4,←hS3,←hS2,←hwt]
   unfold wordE
   simp only
   rw [sign_else h1.1 h1.2 hk]
   exact ba_eq (by simp)
  clear hwl2 hwl3 hwt hS2 hS3 hS4 hwts hS2s hS3s h1 h2 h3 h4 hp hA hxo hsg hbox hbw hk
  go_enter Tryz.func112,Tryz.ntmps112
  rw [hF]
  go_wp2_with fail
  go_quiet (fail)
  go_wp2_with (go_at_call 109;refine (HW.out _).mono ?_;rintro o w2 ⟨rfl,hb2⟩)
  go_ret
  rw [←hF]
  exact ⟨by rw [HV.out];rfl,(belE_drew HBW.out _).trans (hb2.mono HBW.out.size)⟩
theorem joinE_any (ws:List ByteArray) (p:Option Addr) (cap:Nat) (w:World) {n0:Nat} (h:OwnT n0 w (.slice p ws.length cap) ws) (hn:ws.length≤128) (hs:∀x∈ws,x.size≤418) :
  Calls Tryz.prog 20 #[.slice p ws.length cap,.string ⟨#[32]⟩] w fun e w'=>e=.returned (.string ⟨(Lib.join (ws.map (·.data.toList)) [32]).toArray⟩)∧Below w.heap.size w w':=by
 rcases h.2 with ⟨_,h0⟩|⟨g,c,cur,hv,_,hg,hcap,_,hsz,htk⟩
 ·obtain rfl:=List.length_eq_zero_iff.1 h0
  refine (Tryz.strings_Join_none p cap _ w).mono ?_
  rintro e w' ⟨rfl,rfl⟩
  exact ⟨rfl,Below.refl _ _⟩
 ·injection hv with hp hl hc
  subst hp
  subst hc
  refine (Tryz.strings_Join g 0 cap ws ⟨#[32]⟩ w (fun j x hj=>?_) (Array.getElem?_eq_some_iff.1 hg).1 (by omega) (by omega) ?_).mono ?_
  ·have hjl:=(List.getElem?_eq_some_iff.1 hj).1
   rw [Nat.zero_add,cell_of_row w g j cur _ _ hg,←Array.getElem?_toList]
   have:(ws.map Value.string)[j]? = cur.toList[j]?:=by rw [←htk,List.getElem?_take,if_pos (by omega)]
   rw [←this,List.getElem?_map,hj];rfl
  ·have h1:=join_len (ws.map (·.data.toList)) 418 (fun l hl=>by
    obtain ⟨x,hx,rfl⟩:=List.mem_map.1 hl
    have:=hs x hx
    simpa using this)
   rw [List.length_map] at h1
   have h2:ws.length * 419≤128 * 419:=Nat.mul_le_mul_right _ hn
   show (Lib.join (ws.map (·.data.toList)) [32]).length≤_
   omega
  ·rintro e w' ⟨rfl,hb⟩
   exact ⟨rfl,hb⟩
set_option maxHeartbeats 8000000 in
set_option maxRecDepth 100000 in
theorem pprintE_plain (v:Value) (p:List Ed) (w:World) (hp:PlainAt w) (hv:KE.Is w v p) (hf:FitE p) :
  Calls Tryz.prog 68 #[v] w fun e w'=>e=.returned (.tuple #[.string (prE p),.int .i64 (mayE p)])∧Below w.heap.size w w':=by
 obtain ⟨i0,hi0,hz0,hz1,hz2⟩:=info_parts Tryz.infoStr
 have HI:=hid hi0
 have HN:=hid (pmayE_raw v p w hv hf)
 have HP:=hid hp
 by_cases hm:mayE p=0
 ·obtain ⟨hl16,hn,hr,hs⟩:=mayE_zero hm
  have HAL:=hid (fun x (hx:x∈p)=>And.intro (hn x hx) (And.intro (hr x hx) (hs x hx)))
  have HM:=hid hm
  rw [hm] at HN
  obtain ⟨q,cap,rfl,hd⟩:=hv
  have HD:=hid hd
  have HPR:Hid (prE p=lineB (p.map wordE)):=by show _=_;unfold prE lineE;rw [if_pos hm]
  clear hm hn hr hs hf hp hi0 hd
  go_enter Tryz.func68,Tryz.ntmps68
  go_wp2_with fail
  refine HN.out.mono ?_
  rintro e w1 ⟨rfl,hb1⟩
  have HB1:=hid hb1
  have HP1:=hid (HP.out.on hb1)
  have HD1:Hid (p=[]∨∃b off,q=some ⟨b,off,none⟩∧KE.At w1 b off p):=by
   rcases HD.out with h|⟨b,off,h1,h2⟩
   ·exact Or.inl h
   ·exact Or.inr ⟨b,off,h1,Kind.at_kept h2 hb1⟩
  clear hb1
  go_wp2_with fail
  go_loopg [5,15] p.length (fun g vs vi wr=>∃i:Nat,vi=.int .i64 i∧i≤p.length∧p.length-i≤g∧Hid (Below w1.heap.size w1 wr)∧Hid (OwnT w1.heap.size wr vs ((p.take i).map wordE)))
  case atStart=>exact ⟨0,rfl,by omega,by omega,Below.refl _ _,World.ownsRow_nil _ _ _ _⟩
  case round =>
   obtain ⟨i,rfl,hi,hgk,HB,HO⟩:=hrel
   by_cases hlt:i<p.length
   ·have hltz:(i:Int)<(p.length:Int):=by omega
    have hiz:(0:Int)≤i:=by omega
    obtain ⟨b,off,rfl,hat⟩:∃b off,q=some ⟨b,off,none⟩∧KE.At w1 b off p:=by
     rcases HD1.out with h|h
     ·subst h;simp at hlt
     ·exact h
    obtain ⟨c0,c1,c2⟩:=ke_cells (Kind.at_kept hat HB.out) i hlt
    obtain ⟨hn,hr,hs⟩:=HAL.out _ (List.getElem_mem hlt)
    obtain ⟨hor,h4⟩:=rightE_range hr
    have hns:=fieldB_len hn
    have hss:=of_decide_eq_true hs
    have htk:(p.take (i+1)).map wordE=(p.take i).map wordE++[wordE p[i]]:=by
     rw [List.take_succ_eq_append_getElem hlt,List.map_append];simp
    have hns2:(p[i]).2.1.size≤32:=by simpa using hns
    have hal2:((p.take i).map wordE).length=i:=by rw [List.length_map,List.length_take];omega
    obtain ⟨x,hx⟩:∃x,p[i]=x:=⟨_,rfl⟩
    rw [hx] at c0 c1 c2 hor hns2 hss htk h4
    have HWT:Hid (∀W,Below w1.heap.size w1 W→Calls Tryz.prog 112 #[.agg #[.int .i64 x.1,.string x.2.1,.string x.2.2]] W fun e w'=>e=.returned (.string (wordE x))∧Below W.heap.size W w'):=fun W hb=>word_edit x W (HP1.out.on hb) hor hns2 hss h4
    obtain ⟨acc,hacc⟩:∃acc,(p.take i).map wordE=acc:=⟨_,rfl⟩
    rw [hacc] at HO htk hal2
    obtain ⟨wd,hwd⟩:∃wd,wordE x=wd:=⟨_,rfl⟩
    rw [hwd] at HWT htk
    have HTK:=hid htk
    have HAC:=hid hal2
    have hal3:acc.length≤16:=by omega
    have hsz:=HB.out.size
    obtain ⟨xo,xf,xt⟩:=x
    simp only at c0 c1 c2 HWT
    clear hat hn hr hs hx htk hns hss hor hns2 hwd hacc hal2 h4
    go_wp2_with (first
     | (at_builtin;refine wpList_append_own _ rfl _ _ 45 rfl w1.heap.size 9 i0 (.string ⟨#[]⟩) 1 16 Tryz.underlying45 HI.out hz0 hz1 hz2 rfl (by decide) _ _ _ rfl HO3.out _ 1 1 [.string wd] rfl rfl (by intro j u hj;match j,hj with|0,hj=>simp at hj;subst hj;simp [Addr.add]) (by intro u hu;simp at hu;subst hu;rfl) (by unfold maxLen;omega) (by omega) (by have:=hb2.size;simp at this ⊢;omega) ?_;intro v4 w4 hown4 hg4 hnil4;have HO4:=hid hown4;have HG4:=hid hg4;clear hown4 hg4 hnil4)
     | (go_at_call 112;refine (HWT.out _ (HB.out.alloc hsz _)).mono ?_;rintro e w2 ⟨rfl,hb2⟩;have HO3:Hid (OwnT w1.heap.size (w2.alloc (.cells #[.string wd] 9)) _ acc):=hid ((OwnT.on (OwnT.on HO.out ((Below.refl _ wr).alloc (Nat.le_refl _) _)) hb2).on ((Below.refl _ _).alloc (Nat.le_refl _) _))))
    go_roundg (p.length-(i+1))
    case measure=>omega
    refine ⟨i+1,by go_num,by omega,by omega,?_,?_⟩
    ·have hb3:Below w1.heap.size w1 (w2.alloc (.cells #[.string wd] 9)):=(bel_then (HB.out.alloc hsz _) (HB.out.alloc hsz _).size hb2).alloc (Nat.le_trans (HB.out.alloc hsz _).size hb2.size) _
     exact hb3.grown HG4.out hb3.size (fun k hk=>(World.ownsRow.lt HO3.out k hk).1)
    ·rw [HTK.out]
     show OwnT _ _ _ _
     unfold OwnT
     rw [List.length_append,List.map_append]
     exact HO4.out
   ·have hltz:¬ (i:Int)<(p.length:Int):=by omega
    have htk2:p.take i=p:=List.take_of_length_le (by omega)
    rw [htk2] at HO
    have hws:∀y∈p.map wordE,y.size≤418:=fun y hy=>by
     obtain ⟨t,ht,rfl⟩:=List.mem_map.1 hy
     obtain ⟨a,_,c⟩:=HAL.out t ht
     exact wordE_len a c
    have hwl:(p.map wordE).length≤128:=by rw [List.length_map];omega
    obtain ⟨ws,hwe⟩:∃ws,p.map wordE=ws:=⟨_,rfl⟩
    rw [hwe] at HPR
    have HLN:Hid (lineB ws=⟨(Lib.join (ws.map (·.data.toList)) [32]).toArray⟩):=by show _=_;rfl
    rw [hwe] at HO hws hwl
    clear htk2 hwe
    obtain ⟨p4,cap4,hv4⟩:=own_slice HO.out
    subst hv4
    have HJ:=hid (joinE_any ws p4 cap4 wr HO.out hwl hws)
    clear hws hwl
    go_wp2_with (first|(go_at_call 20;refine HJ.out.mono ?_;rintro e w2 ⟨rfl,hb2⟩))
    go_ret2
    exact ⟨by rw [HM.out,HPR.out,HLN.out];rfl,bel_then (bel_then HB1.out HB1.out.size HB.out) (bel_then HB1.out HB1.out.size HB.out).size hb2⟩
 ·have hne:(mayE p != 0)=true:=by rw [bne_iff_ne];exact hm
  have HA:Hid (prE p=⟨#[]⟩):=by show _=_;unfold prE;rw [if_neg hm]
  obtain ⟨r,hr⟩:∃r,mayE p=r:=⟨_,rfl⟩
  rw [hr] at hne HN
  have HR:=hid hr
  clear hm hr hv hf hp
  go_enter Tryz.func68,Tryz.ntmps68
  go_wp2_with fail
  refine HN.out.mono ?_
  rintro e w1 ⟨rfl,hb1⟩
  have HB1:=hid hb1
  clear hb1
  go_wp2_with fail
  go_ret2
  exact ⟨by rw [HR.out,HA.out];rfl,HB1.out⟩
end
section
open Go.RowKit Go.Lib
def pieceS (e:En) (p:Nat):ByteArray :=
 if p=1 then if e.temp=⟨#[]⟩ then ⟨#[]⟩ else ⟨#[64]⟩++e.temp
 else if p=2 then e.ka++⟨#[47]⟩++e.kb
 else if p=3 then e.ka
 else if p=4 then if e.iff=0 then ⟨#[]⟩ else ⟨#[105,102,32]⟩++⟨(decL e.iff.toNat).toArray⟩
 else if p=5 then lineOf e.val
 else if p=6 then ⟨#[63]⟩
 else if p=7 then lineM (ansM e.pred)
 else if p=8 then prE e.eds
 else if p=9 then ⟨(decL e.num.toNat).toArray⟩
 else ⟨(decL e.stamp.toNat).toArray⟩
theorem temp_le {s:ByteArray} (h:tempB s.data.toList=true):s.size≤32:=by
 have e:s.size=s.data.toList.length:=rfl
 rw [e]
 unfold tempB spell at h
 split at h
 ·cases h
 ·rename_i c r he
  simp only [Bool.and_eq_true,decide_eq_true_eq] at h
  rw [he,List.length_cons];exact h.1.1
set_option maxHeartbeats 4000000 in
theorem oppiece_any (x:Ex) (p:Nat) (w:World) (hx:ExIn w x) (hv:OpVars w) (h1:1≤p) (h2:p≤10) (hf:fitPt x.en p=true) :
  Calls Tryz.prog 36 #[aggEx x,.int .i64 p] w fun e w'=>e=.returned (.string (pieceS x.en p))∧Below w.heap.size w w':=by
 have HK:=hid (mayK_new hx)
 have hm:x.temp.size≤maxLen:=hx.temp
 have ha:x.ka.size≤maxLen:=hx.ka
 have hbk:x.kb.size≤maxLen:=hx.kb
 have HF:=hid hf
 have HV:=hid (hv.on HK.out.bel)
 have ht0:0≤x.stamp:=hx.t0
 have ht1:x.stamp≤18446744073709551615:=hx.t1
 have HPM:=hid (pprint_any x.ps x.po _ HV.out.plain HK.out.ex.prd HK.out.ex.pfit)
 have HPE:=hid (pprintE_plain x.es x.eo _ HV.out.plain HK.out.ex.eds HK.out.ex.efit)
 have HPV:Hid (mayB (x.vo.map Fx.fld)=true→Calls Tryz.prog 66 #[x.vs] (w.alloc (.cells (encEx x).toArray 41)) fun e w'=>e=.returned (.tuple #[.string (lineOf (x.vo.map Fx.fld)),.int .i64 0])∧Below (w.alloc (.cells (encEx x).toArray 41)).heap.size (w.alloc (.cells (encEx x).toArray 41)) w') :=
  hid fun h=>print_yes x.vs x.vo _ HV.out.plain HK.out.ex.val HK.out.ex.fit h
 have HKB:=hid HK.out.bel
 unfold aggEx
 simp only [encEx,Ex.vs,Ex.es,Ex.ps] at HK HKB HV HPM HPE HPV ⊢
 clear hx hv hf
 have hp:p=1∨p=2∨p=3∨p=4∨p=5∨p=6∨p=7∨p=8∨p=9∨p=10:=by omega
 rcases hp with rfl|rfl|rfl|rfl|rfl|rfl|rfl|rfl|rfl|rfl
 ·by_cases ht:x.temp=⟨#[]⟩
  ·have hse:x.temp.toList.isEmpty=true:=by rw [ht,toList_data];rfl
   have HE:Hid (pieceS x.en 1=⟨#[]⟩):=hid (if_pos ht)
   clear ht
   go_enter Tryz.func36,Tryz.ntmps36
   go_wp2_with fail
   go_ret
   exact ⟨by rw [HE.out];rfl,HKB.out⟩
  ·have hse:x.temp.toList.isEmpty=false:=by
    rw [toList_data]
    cases hl:x.temp.data.toList with
    | nil=>exact absurd (ba_nil hl) ht
    | cons _ _=>rfl
   have HE:Hid (pieceS x.en 1=⟨#[64]⟩++x.temp):=hid (if_neg ht)
   have hsz:x.temp.size≤32:=by
    have h:=HF.out
    have h2:(decide (x.temp=⟨#[]⟩)||tempB x.temp.data.toList)=true:=h
    rw [decide_eq_false ht,Bool.false_or] at h2
    exact temp_le h2
   clear ht
   go_enter Tryz.func36,Tryz.ntmps36
   go_wp2_with fail
   go_ret
   exact ⟨by rw [HE.out];rfl,HKB.out⟩
 ·have hk:keyB x.ka x.kb=true:=HF.out
  obtain ⟨s1,s2⟩:=keyB_sizes hk
  go_enter Tryz.func36,Tryz.ntmps36
  go_wp2_with (go_at_call 64;refine (nprint_yes x.ka x.kb _ ha hbk s1 s2 hk).mono ?_;rintro e w1 ⟨rfl,hb1⟩;have HB1:=hid hb1;clear hb1)
  go_ret
  exact ⟨rfl,HKB.out.trans (HB1.out.mono HKB.out.size)⟩
 ·go_enter Tryz.func36,Tryz.ntmps36
  go_wp2_with fail
  go_ret
  exact ⟨rfl,HKB.out⟩
 ·have h:=HF.out
  have h3:(decide (0≤x.iff)&&decide (x.iff≤999999999))=true:=h
  simp only [Bool.and_eq_true,decide_eq_true_eq] at h3
  obtain ⟨n,hn⟩:∃n:Nat,x.iff=n:=⟨x.iff.toNat,by omega⟩
  have hn9:n≤999999999:=by omega
  by_cases h0:n=0
  ·have HE:Hid (pieceS x.en 4=⟨#[]⟩):=hid (by
    show (if x.iff=0 then (⟨#[]⟩:ByteArray) else _)=_
    rw [if_pos (by omega)])
   have hq:(x.iff != 0)=false:=by rw [hn,h0];rfl
   clear hn h0 h3 h
   go_enter Tryz.func36,Tryz.ntmps36
   go_wp2_with fail
   go_ret
   exact ⟨by rw [HE.out];rfl,HKB.out⟩
  ·have HE:Hid (pieceS x.en 4=⟨#[105,102,32]⟩++⟨(decL n).toArray⟩):=hid (by
    show (if x.iff=0 then (⟨#[]⟩:ByteArray) else ⟨#[105,102,32]⟩++⟨(decL x.iff.toNat).toArray⟩)=_
    rw [if_neg (by omega),hn];rfl)
   have hq:(x.iff != 0)=true:=by rw [bne_iff_ne];omega
   have HI:Hid (∀W,OpVars W→Calls Tryz.prog 65 #[.int .i64 x.iff] W fun e w'=>e=.returned (.string ⟨(decL n).toArray⟩)∧Below W.heap.size W w'):=hid fun W h=>by rw [hn];exact itoa_any n hn9 W h
   have hdl:(decL n).length≤9:=decL_len n 8 (by omega)
   clear hn h3 h
   go_enter Tryz.func36,Tryz.ntmps36
   go_wp2_with (go_at_call 65;refine (HI.out _ HV.out).mono ?_;rintro e w1 ⟨rfl,hb1⟩;have HB1:=hid hb1;clear hb1)
   go_ret
   exact ⟨by rw [HE.out];rfl,HKB.out.trans (HB1.out.mono HKB.out.size)⟩
 ·have hk:mayB (x.vo.map Fx.fld)=true:=HF.out
  go_enter Tryz.func36,Tryz.ntmps36
  go_wp2_with (go_at_call 66;refine (HPV.out hk).mono ?_;rintro e w1 ⟨rfl,hb1⟩;have HB1:=hid hb1;clear hb1)
  go_ret
  exact ⟨rfl,HKB.out.trans (HB1.out.mono HKB.out.size)⟩
 ·go_enter Tryz.func36,Tryz.ntmps36
  go_wp2_with fail
  go_ret
  exact ⟨rfl,HKB.out⟩
 ·go_enter Tryz.func36,Tryz.ntmps36
  go_wp2_with (go_at_call 67;refine HPM.out.mono ?_;rintro e w1 ⟨rfl,hb1⟩;have HB1:=hid hb1;clear hb1)
  go_ret
  exact ⟨rfl,HKB.out.trans (HB1.out.mono HKB.out.size)⟩
 ·go_enter Tryz.func36,Tryz.ntmps36
  go_wp2_with (go_at_call 68;refine HPE.out.mono ?_;rintro e w1 ⟨rfl,hb1⟩;have HB1:=hid hb1;clear hb1)
  go_ret
  exact ⟨rfl,HKB.out.trans (HB1.out.mono HKB.out.size)⟩
 ·have h:=HF.out
  have h3:(decide (0≤x.num)&&decide (x.num≤999999999))=true:=h
  simp only [Bool.and_eq_true,decide_eq_true_eq] at h3
  obtain ⟨n,hn⟩:∃n:Nat,x.num=n:=⟨x.num.toNat,by omega⟩
  have HE:Hid (pieceS x.en 9=⟨(decL n).toArray⟩):=hid (by
   show (⟨(decL x.num.toNat).toArray⟩:ByteArray)=_
   rw [hn];rfl)
  have HI:Hid (∀W,OpVars W→Calls Tryz.prog 65 #[.int .i64 x.num] W fun e w'=>e=.returned (.string ⟨(decL n).toArray⟩)∧Below W.heap.size W w'):=hid fun W h=>by rw [hn];exact itoa_any n (by omega) W h
  clear hn h3 h
  go_enter Tryz.func36,Tryz.ntmps36
  go_wp2_with (go_at_call 65;refine (HI.out _ HV.out).mono ?_;rintro e w1 ⟨rfl,hb1⟩;have HB1:=hid hb1;clear hb1)
  go_ret
  exact ⟨by rw [HE.out];rfl,HKB.out.trans (HB1.out.mono HKB.out.size)⟩
 ·obtain ⟨n,hn⟩:∃n:Nat,x.stamp=n:=⟨x.stamp.toNat,by omega⟩
  have HE:Hid (pieceS x.en 10=⟨(decL n).toArray⟩):=hid (by
   show (⟨(decL x.stamp.toNat).toArray⟩:ByteArray)=_
   rw [hn];rfl)
  have HI:Hid (∀W,OpVars W→Calls Tryz.prog 69 #[.int .u64 x.stamp,.int .i64 10] W fun e w'=>e=.returned (.string ⟨(decL n).toArray⟩)∧Below W.heap.size W w'):=hid fun W h=>by rw [hn];exact fmtu_any n (by omega) W h
  clear hn
  go_enter Tryz.func36,Tryz.ntmps36
  go_wp2_with (go_at_call 69;refine (HI.out _ HV.out).mono ?_;rintro e w1 ⟨rfl,hb1⟩;have HB1:=hid hb1;clear hb1)
  go_ret
  exact ⟨by rw [HE.out];rfl,HKB.out.trans (HB1.out.mono HKB.out.size)⟩
end
section
open Go.RowKit Go.Lib
theorem prE_le (l:List Ed):(prE l).size≤83600:=by
 unfold prE
 split
 ·rename_i h
  obtain ⟨h1,h2,_,h4⟩:=mayE_zero h
  refine Nat.le_trans (lineE_size (by simpa using h1) fun y hy=>?_) (by omega)
  obtain ⟨x,hx,rfl⟩:=List.mem_map.1 hy
  exact wordE_len (h2 x hx) (h4 x hx)
 ·exact Nat.zero_le _
theorem lineM_le (p:List Tm):(lineM (ansM p)).size≤83600:=by
 refine lineB_size (by have:=ansM_len p;simp;omega) fun y hy=>?_
 obtain ⟨x,hx,rfl⟩:=List.mem_map.1 hy
 exact wordM_len (ansM_all x hx).1 (ansM_all x hx).2.2
theorem piece_le (e:En) (p:Nat) (h1:1≤p) (h2:p≤10) (hf:fitPt e p=true) (hs0:0≤e.stamp) (hs1:e.stamp≤18446744073709551615):(pieceS e p).size≤83600:=by
 have hp:p=1∨p=2∨p=3∨p=4∨p=5∨p=6∨p=7∨p=8∨p=9∨p=10:=by omega
 rcases hp with rfl|rfl|rfl|rfl|rfl|rfl|rfl|rfl|rfl|rfl
 ·show (if e.temp=⟨#[]⟩ then (⟨#[]⟩:ByteArray) else ⟨#[64]⟩++e.temp).size≤_
  have hf':(decide (e.temp=⟨#[]⟩)||tempB e.temp.data.toList)=true:=hf
  split
  ·decide
  ·rename_i h
   rw [decide_eq_false h,Bool.false_or] at hf'
   have:=temp_le hf'
   simp only [ByteArray.size_append]
   have e1:(⟨#[64]⟩:ByteArray).size=1:=rfl
   omega
 ·have hk:keyB e.ka e.kb=true:=hf
  obtain ⟨s1,s2⟩:=keyB_sizes hk
  show (e.ka++⟨#[47]⟩++e.kb).size≤_
  simp only [ByteArray.size_append]
  have e1:(⟨#[47]⟩:ByteArray).size=1:=rfl
  omega
 ·have hf':(typeB e.ka.data.toList&&decide (e.kb=⟨#[]⟩))=true:=hf
  rw [Bool.and_eq_true] at hf'
  have:=typeB_len hf'.1
  show e.ka.size≤_
  have e1:e.ka.data.toList.length=e.ka.size:=rfl
  omega
 ·have hf':(decide (0≤e.iff)&&decide (e.iff≤999999999))=true:=hf
  simp only [Bool.and_eq_true,decide_eq_true_eq] at hf'
  show (if e.iff=0 then (⟨#[]⟩:ByteArray) else ⟨#[105,102,32]⟩++⟨(decL e.iff.toNat).toArray⟩).size≤_
  split
  ·decide
  ·have:=decL_len e.iff.toNat 8 (by omega)
   simp only [ByteArray.size_append]
   have e1:(⟨#[105,102,32]⟩:ByteArray).size=3:=rfl
   have e2:(⟨(decL e.iff.toNat).toArray⟩:ByteArray).size=(decL e.iff.toNat).length:=rfl
   omega
 ·have:=line_size (fs:=e.val) hf
  show (lineOf e.val).size≤_
  omega
 ·show (⟨#[63]⟩:ByteArray).size≤_;decide
 ·exact lineM_le _
 ·exact prE_le _
 ·have hf':(decide (0≤e.num)&&decide (e.num≤999999999))=true:=hf
  simp only [Bool.and_eq_true,decide_eq_true_eq] at hf'
  have:=decL_len e.num.toNat 8 (by omega)
  show (decL e.num.toNat).length≤_
  omega
 ·have:=decL_len e.stamp.toNat 19 (by omega)
  show (decL e.stamp.toNat).length≤_
  omega
def pcs (e:En) (ps:List Nat):List ByteArray:=(ps.map (pieceS e)).filter fun s=>decide (s≠⟨#[]⟩)
theorem pcs_snoc (e:En) (ps:List Nat) (p:Nat):pcs e (ps++[p])=pcs e ps++(if pieceS e p=⟨#[]⟩ then [] else [pieceS e p]):=by
 unfold pcs
 rw [List.map_append,List.filter_append]
 congr 1
 by_cases h:pieceS e p=⟨#[]⟩<;>simp [h]
theorem pcs_len (e:En) (ps:List Nat):(pcs e ps).length≤ps.length:=by
 unfold pcs
 exact Nat.le_trans (List.length_filter_le _ _) (by simp)
def lineO (e:En):ByteArray:=textW (⟨(nameN e.kind.toNat).toArray⟩::pcs e (shapeN e.kind.toNat))
theorem words_own {n0:Nat} {w:World} {p:Option Addr} {cap:Nat} {ws:List ByteArray} (h:OwnT n0 w (.slice p ws.length cap) ws) (h0:ws≠[]):WordsAt w (.slice p ws.length cap) ws:=by
 rcases h.2 with ⟨_,h1⟩|⟨g,c,cur,hv,_,hg,hcap,_,hsz,htk⟩
 ·exact absurd (List.length_eq_zero_iff.1 h1) h0
 ·injection hv with hp hl hc
  subst hp
  subst hc
  refine ⟨g,0,cap,rfl,hcap,(Array.getElem?_eq_some_iff.1 hg).1,fun j x hj=>?_⟩
  have hjl:=(List.getElem?_eq_some_iff.1 hj).1
  rw [Nat.zero_add,cell_of_row w g j cur _ _ hg,←Array.getElem?_toList]
  have:(ws.map Value.string)[j]? = cur.toList[j]?:=by rw [←htk,List.getElem?_take,if_pos (by omega)]
  rw [←this,List.getElem?_map,hj];rfl
theorem name_le (k:Nat):(nameN k).length≤7:=by
 unfold nameN
 split<;>simp
theorem text_small (ws:List ByteArray) (hl:ws.length≤6) (hs:∀x∈ws,x.size≤83600):(textW ws).size≤600000:=by
 have h:=join_size 83600 (ws.map (·.data.toList)) (fun l hl=>by
  obtain ⟨x,hx,rfl⟩:=List.mem_map.1 hl
  have:=hs x hx
  simpa using this)
 rw [List.length_map] at h
 have h2:ws.length * 83601≤6 * 83601:=Nat.mul_le_mul_right _ hl
 have e:(textW ws).size=(Lib.join (ws.map (·.data.toList)) [32]).length:=rfl
 omega
theorem line_le (e:En) (hf:(shapeN e.kind.toNat).all (fitPt e)=true) (hs0:0≤e.stamp) (hs1:e.stamp≤18446744073709551615):(lineO e).size≤600000:=by
 refine text_small _ ?_ fun x hx=>?_
 ·have h1:=pcs_len e (shapeN e.kind.toNat)
  have h2:=shape_le e.kind.toNat
  rw [List.length_cons];omega
 ·rcases List.mem_cons.1 hx with rfl|hx
  ·have:=name_le e.kind.toNat
   show (nameN e.kind.toNat).length≤_
   omega
  ·unfold pcs at hx
   obtain ⟨p,hp,rfl⟩:=List.mem_map.1 (List.mem_filter.1 hx).1
   obtain ⟨i,hi⟩:=List.getElem?_of_mem hp
   obtain ⟨h1,h2⟩:=shape_part _ i p hi
   exact piece_le e p h1 h2 (List.all_eq_true.1 hf p hp) hs0 hs1
set_option maxHeartbeats 8000000 in
set_option maxRecDepth 100000 in
theorem opline_any (x:Ex) (w:World) (hx:ExIn w x) (hv:OpVars w) (hr:1≤x.kind∧x.kind≤12) (hf:(shapeN x.kind.toNat).all (fitPt x.en)=true) :
  Calls Tryz.prog 19 #[aggEx x] w fun e w'=>e=.returned (.string (lineO x.en))∧Below w.heap.size w w':=by
 obtain ⟨i0,hi0,hz0,hz1,hz2⟩:=info_parts Tryz.infoStr
 have HI:=hid hi0
 have HX:=hid hx
 have HV:=hid hv
 have HLE:=hid (line_le x.en hf hx.t0 hx.t1)
 have hal:Below w.heap.size w (w.alloc (.cells (encEx x).toArray 41)):=(Below.refl _ _).alloc (Nat.le_refl _) _
 have hb0:(w.alloc (.cells (encEx x).toArray 41)).heap[w.heap.size]? = some (.cells (encEx x).toArray 41 (0,0)):=heap_alloc_new w _
 have HAL:=hid hal
 have HB0:=hid hb0
 have HPC:Hid (∀W p,Below w.heap.size w W→1≤p→p≤10→fitPt x.en p=true→Calls Tryz.prog 36 #[aggEx x,.int .i64 (p:Nat)] W fun e w'=>e=.returned (.string (pieceS x.en p))∧Below W.heap.size W w'):=hid fun W p h h1 h2 h3=>oppiece_any x p W (HX.out.on h) (HV.out.on h) h1 h2 h3
 unfold aggEx at HPC ⊢
 simp only [encEx,Ex.vs,Ex.es,Ex.ps] at HAL HB0 HPC ⊢
 clear hal hb0 hx hv hi0
 obtain ⟨kw,hkw⟩:∃kw:Nat,x.kind=kw:=⟨x.kind.toNat,by omega⟩
 have hk1:1≤kw:=by omega
 have hk12:kw≤12:=by omega
 have hkn:x.kind.toNat=kw:=by omega
 rw [hkn] at hf
 have HF:=hid hf
 have HLO:Hid (lineO x.en=textW (⟨(nameN kw).toArray⟩::pcs x.en (shapeN kw))):=hid (by
  show textW (⟨(nameN x.kind.toNat).toArray⟩::pcs x.en (shapeN x.kind.toNat))=_
  rw [hkn])
 have HSH:Hid (∀W,Calls Tryz.prog 35 #[.int .i64 x.kind] W fun e w'=>(∃a n,e=.returned (.tuple #[.string ⟨(nameN kw).toArray⟩,.slice a n n])∧n=(shapeN kw).length ∧
   ∀(j p:Nat),(shapeN kw)[j]? = some p→∃P,a=some ⟨P,0,none⟩∧W.heap.size≤P∧w'.cell? ⟨P,j,none⟩=some (.int .i64 p))∧Below W.heap.size W w'):=hid fun W=>by rw [hkw];exact shape_any kw W hk12
 clear hkw hr hf hkn
 go_enter Tryz.func19,Tryz.ntmps19
 go_wp2_with fail
 refine (HSH.out _).mono ?_
 rintro e w3 ⟨⟨a,n,rfl,hn,hpt⟩,hb3⟩
 have HN:=hid hn
 have HB3:=hid (HAL.out.trans (hb3.mono HAL.out.size))
 have HBX:Hid (w3.heap[w.heap.size]? = some (.cells #[.int .i64 x.kind,.string x.temp,.string x.ka,.string x.kb,.int .i64 x.iff,.slice x.vp x.vo.length x.vc,.slice x.ep x.eo.length x.ec,.slice x.pp x.po.length x.pc,.int .u64 x.stamp,.int .i64 x.num] 41 (0,0))):=hid ((hb3.block _ (by simp)).trans HB0.out)
 have HPT:Hid (∀(j p:Nat),(shapeN kw)[j]? = some p→∃P,a=some ⟨P,0,none⟩∧w3.cell? ⟨P,j,none⟩=some (.int .i64 p)):=hid fun j p hp=>by
  obtain ⟨P,h1,h2,h3⟩:=hpt j p hp
  exact ⟨P,h1,h3⟩
 clear hn hpt hb3
 have HO0:Hid (OwnT w3.heap.size (w3.alloc (.cells #[.string ⟨(nameN kw).toArray⟩] 9)) (.slice (some ⟨w3.heap.size,0,none⟩) 1 1) [⟨(nameN kw).toArray⟩]):=hid (World.ownsRow_lit w3 #[.string ⟨(nameN kw).toArray⟩] 1 (Nat.le_refl _) (by decide) rfl)
 have HB4:Hid (Below w3.heap.size w3 (w3.alloc (.cells #[.string ⟨(nameN kw).toArray⟩] 9))):=hid ((Below.refl _ _).alloc (Nat.le_refl _) _)
 go_wp2_with fail
 go_loopg [5,19] n (fun g vs vi wr=>∃(i:Nat) (acc:List ByteArray),vi=.int .i64 i∧i≤n∧n-i≤g∧Hid (Below w3.heap.size w3 wr)∧Hid (OwnT w3.heap.size wr vs acc)∧Hid (acc=⟨(nameN kw).toArray⟩::pcs x.en ((shapeN kw).take i))∧acc.length≤i+1)
 case atStart=>exact ⟨0,_,rfl,by omega,by omega,HB4,HO0,hid rfl,by simp⟩
 case round =>
  obtain ⟨i,acc,rfl,hi,hig,HB,HO,HAC,hal⟩:=hrel
  have hn5:n≤5:=by rw [HN.out];exact shape_le kw
  by_cases hlt:i<n
  ·have HLT:=hid hlt
   have hltz:(i:Int)<(n:Int):=by omega
   have hiz:(0:Int)≤(i:Int):=by omega
   obtain ⟨p,hp⟩:∃p,(shapeN kw)[i]? = some p:=⟨_,List.getElem?_eq_getElem (by rw [←HN.out];exact hlt)⟩
   obtain ⟨P,hPa,hPc0⟩:=HPT.out i p hp
   subst hPa
   have hPc:wr.cell? ⟨P,i,none⟩=some (.int .i64 p):=(HB.out.cell (p:=⟨P,i,none⟩) (cell_lt hPc0)).trans hPc0
   obtain ⟨hp1,hp10⟩:=shape_part kw i p hp
   have HTK:Hid ((shapeN kw).take (i+1)=(shapeN kw).take i++[p]):=hid (by
    obtain ⟨h1,h2⟩:=List.getElem?_eq_some_iff.1 hp
    rw [←h2];exact List.take_succ_eq_append_getElem h1)
   have HFP:=hid (List.all_eq_true.1 HF.out p (List.mem_of_getElem? hp))
   clear hp hPc0
   have hbx:wr.heap[w.heap.size]? = some (.cells #[.int .i64 x.kind,.string x.temp,.string x.ka,.string x.kb,.int .i64 x.iff,.slice x.vp x.vo.length x.vc,.slice x.ep x.eo.length x.ec,.slice x.pp x.po.length x.pc,.int .u64 x.stamp,.int .i64 x.num] 41 (0,0)):=(HB.out.block _ (Array.getElem?_eq_some_iff.1 HBX.out).1).trans HBX.out
   have c0:wr.cell? ⟨w.heap.size,0,none⟩=some (.int .i64 x.kind):=cz hbx
   have c1:wr.cell? ⟨w.heap.size,1,none⟩=some (.string x.temp):=cz hbx
   have c2:wr.cell? ⟨w.heap.size,2,none⟩=some (.string x.ka):=cz hbx
   have c3:wr.cell? ⟨w.heap.size,3,none⟩=some (.string x.kb):=cz hbx
   have c4:wr.cell? ⟨w.heap.size,4,none⟩=some (.int .i64 x.iff):=cz hbx
   have c5:wr.cell? ⟨w.heap.size,5,none⟩=some (.slice x.vp x.vo.length x.vc):=cz hbx
   have c6:wr.cell? ⟨w.heap.size,6,none⟩=some (.slice x.ep x.eo.length x.ec):=cz hbx
   have c7:wr.cell? ⟨w.heap.size,7,none⟩=some (.slice x.pp x.po.length x.pc):=cz hbx
   have c8:wr.cell? ⟨w.heap.size,8,none⟩=some (.int .u64 x.stamp):=cz hbx
   have c9:wr.cell? ⟨w.heap.size,9,none⟩=some (.int .i64 x.num):=cz hbx
   have HBW:=hid (HB3.out.trans (HB.out.mono HB3.out.size))
   clear hbx
   go_wp2_with fail
   refine (HPC.out wr p HBW.out hp1 hp10 HFP.out).mono ?_
   rintro e w5 ⟨rfl,hb5⟩
   have HB5:=hid (HB.out.trans (hb5.mono HB.out.size))
   have HO5:=hid (OwnT.on HO.out hb5)
   have hsz5:=HB5.out.size
   clear hb5 c0 c1 c2 c3 c4 c5 c6 c7 c8 c9 hPc
   have HSN:=hid (pcs_snoc x.en ((shapeN kw).take i) p)
   obtain ⟨wd,hwd⟩:∃wd,pieceS x.en p=wd:=⟨_,rfl⟩
   rw [hwd] at HSN ⊢
   clear hwd
   by_cases hw:wd=⟨#[]⟩
   ·have HSN2:Hid (acc=⟨(nameN kw).toArray⟩::pcs x.en ((shapeN kw).take (i+1))):=hid (by
     rw [HTK.out,HSN.out,if_pos hw,List.append_nil];exact HAC.out)
    have hse:wd.toList.isEmpty=true:=by rw [hw,toList_data];rfl
    clear hw
    go_wp2_with fail
    go_roundg (n-(i+1))
    case measure=>omega
    exact ⟨i+1,acc,by go_num,HLT.out,Nat.le_refl _,HB5,HO5,HSN2,by omega⟩
   ·have HSN2:Hid (acc++[wd]=⟨(nameN kw).toArray⟩::pcs x.en ((shapeN kw).take (i+1))):=hid (by
     rw [HTK.out,HSN.out,if_neg hw,←List.cons_append,←HAC.out])
    have hse:wd.toList.isEmpty=false:=by
     rw [toList_data]
     cases hl:wd.data.toList with
     | nil=>exact absurd (ba_nil hl) hw
     | cons _ _=>rfl
    have HO6:=hid (OwnT.on HO5.out ((Below.refl _ w5).alloc (Nat.le_refl _) (.cells #[.string wd] 9)))
    clear hw
    go_wp2_with (at_builtin;refine wpList_append_own _ rfl _ _ 45 rfl w3.heap.size 9 i0 (.string ⟨#[]⟩) 1 16 Tryz.underlying45 HI.out hz0 hz1 hz2 rfl (by decide) _ _ _ rfl HO6.out _ 1 1 [.string wd] rfl rfl (by intro j u hj;match j,hj with|0,hj=>simp at hj;subst hj;simp [Addr.add]) (by intro u hu;simp at hu;subst hu;rfl) (by unfold maxLen;omega) (by omega) (by simp;omega) ?_;intro v4 w4 hown4 hg4 hnil4;have HO7:=hid hown4;have HG7:=hid hg4;clear hown4 hg4 hnil4)
    go_roundg (n-(i+1))
    case measure=>omega
    refine ⟨i+1,acc++[wd],by go_num,HLT.out,Nat.le_refl _,hid ?_,hid (own_snoc HO7.out),HSN2,by rw [List.length_append];simp only [List.length_cons,List.length_nil];omega⟩
    have hb6:Below w3.heap.size w3 (w5.alloc (.cells #[.string wd] 9)):=HB5.out.alloc hsz5 _
    exact hb6.grown HG7.out hb6.size (fun k hk=>(World.ownsRow.lt HO6.out k hk).1)
  ·have hltz:¬ (i:Int)<(n:Int):=by omega
   have HAC2:Hid (acc=⟨(nameN kw).toArray⟩::pcs x.en (shapeN kw)):=hid (by rw [HAC.out,List.take_of_length_le (by rw [←HN.out];omega)])
   obtain ⟨p4,cap4,hv4⟩:=own_slice HO.out
   subst hv4
   have HTX:Hid (textW acc=lineO x.en):=hid (by rw [HLO.out,HAC2.out])
   have HJ:=hid (opjoin_any wr _ acc (words_own HO.out (by rw [HAC2.out];simp)) (by rw [HTX.out];have:=HLE.out;omega) (by omega))
   go_wp2_with (go_at_call 20;refine HJ.out.mono ?_;rintro e w2 ⟨rfl,hb2⟩;have HB9:=hid ((HB3.out.trans (HB.out.mono HB3.out.size)).trans (hb2.mono (HB3.out.trans (HB.out.mono HB3.out.size)).size));clear hb2)
   go_ret
   exact ⟨by rw [←HTX.out];rfl,HB9.out⟩
end
section
open Go.RowKit Go.Lib
structure RqIn (W:World) (v:Value) (d:List Ex):Prop where
 row:KEx.Is W v d
 each:∀x∈d,ExIn W x
 len:d.length≤4294967000
theorem RqIn.on {W V:World} {v:Value} {d:List Ex} (h:RqIn W v d) (hb:Below W.heap.size W V):RqIn V v d :=
 ⟨Kind.is_kept h.row hb,fun x hx=>(h.each x hx).on hb,h.len⟩
theorem row_cellsQ {W:World} {b off:Nat} {d:List Ex} (h:KEx.At W b off d) (i:Nat) (y:Ex) (hy:d[i]? = some y) :
  W.cell? ⟨b,off+i * 10+0,none⟩=some (.int .i64 y.kind)∧W.cell? ⟨b,off+i * 10+1,none⟩=some (.string y.temp)∧W.cell? ⟨b,off+i * 10+2,none⟩=some (.string y.ka)∧W.cell? ⟨b,off+i * 10+3,none⟩=some (.string y.kb)∧W.cell? ⟨b,off+i * 10+4,none⟩=some (.int .i64 y.iff)∧W.cell? ⟨b,off+i * 10+5,none⟩=some (.slice y.vp y.vo.length y.vc)∧W.cell? ⟨b,off+i * 10+6,none⟩=some (.slice y.ep y.eo.length y.ec)∧W.cell? ⟨b,off+i * 10+7,none⟩=some (.slice y.pp y.po.length y.pc)∧W.cell? ⟨b,off+i * 10+8,none⟩=some (.int .u64 y.stamp)∧W.cell? ⟨b,off+i * 10+9,none⟩=some (.int .i64 y.num):=by
 obtain ⟨hi,rfl⟩:=List.getElem?_eq_some_iff.1 hy
 exact ⟨h i hi 0 _ rfl,h i hi 1 _ rfl,h i hi 2 _ rfl,h i hi 3 _ rfl,h i hi 4 _ rfl,h i hi 5 _ rfl,h i hi 6 _ rfl,h i hi 7 _ rfl,h i hi 8 _ rfl,h i hi 9 _ rfl⟩
def mayRO (d:List Ex):Bool:=decide (0<d.length)&&decide (d.length≤16)&&d.all mayO
set_option maxHeartbeats 8000000 in
set_option maxRecDepth 100000 in
theorem opMay_any (once:Bool) (v:Value) (d:List Ex) (w:World) (hd:RqIn w v d) :
  Calls Tryz.prog 12 #[.agg #[.bool once,v]] w fun e w'=>e=.returned (.bool (mayRO d))∧Below w.heap.size w w':=by
 have HD:=hid hd
 obtain ⟨a,cap,rfl,hrow⟩:=hd.row
 have hlen:=hd.len
 have HR:=hid hrow
 have hal:Below w.heap.size w (w.alloc (.cells #[.bool once,.slice a d.length cap] 24)):=(Below.refl _ _).alloc (Nat.le_refl _) _
 have HAL:=hid hal
 clear hd hrow hal
 by_cases h0:d.length<1
 case pos =>
  have HF:Hid (mayRO d=false):=hid (by unfold mayRO;rw [decide_eq_false (by omega:¬ 0<d.length)];rfl)
  have h0z:(d.length:Int)<1:=by omega
  go_enter Tryz.func12,Tryz.ntmps12
  go_wp2_with fail
  go_ret
  exact ⟨by rw [HF.out];rfl,HAL.out⟩
 have h0z:¬ (d.length:Int)<1:=by omega
 by_cases h16:16<d.length
 case pos =>
  have HF:Hid (mayRO d=false):=hid (by unfold mayRO;rw [decide_eq_false (by omega:¬ d.length≤16)];simp)
  have h16z:(16:Int)<(d.length:Int):=by omega
  go_enter Tryz.func12,Tryz.ntmps12
  go_wp2_with fail
  go_ret
  exact ⟨by rw [HF.out];rfl,HAL.out⟩
 have h16z:¬ (16:Int)<(d.length:Int):=by omega
 have HM:Hid (mayRO d=d.all mayO):=hid (by unfold mayRO;rw [decide_eq_true (by omega:0<d.length),decide_eq_true (by omega:d.length≤16)];rfl)
 obtain ⟨b,off,rfl,hat⟩:∃b off,a=some ⟨b,off,none⟩∧KEx.At w b off d:=by
  rcases HR.out with h|⟨b,off,h1,h2⟩
  ·rw [h] at h0;simp at h0
  ·exact ⟨b,off,h1,h2⟩
 have HAT:=hid hat
 clear hat HR
 go_enter Tryz.func12,Tryz.ntmps12
 go_wp2_with fail
 go_loopg [18] d.length (fun g vi wr=>∃(i:Nat),vi=.int .i64 i∧i≤d.length∧d.length-i≤g∧Hid (Below w.heap.size w wr)∧Hid ((d.take i).all mayO=true))
 case atStart=>exact ⟨0,rfl,by omega,by omega,HAL,hid rfl⟩
 case round =>
  obtain ⟨i,rfl,hi,hig,HB,HA⟩:=hrel
  by_cases hlt:i<d.length
  ·have HLT:=hid hlt
   have hltz:(i:Int)<(d.length:Int):=by omega
   have hiz:(0:Int)≤(i:Int):=by omega
   obtain ⟨y,hy⟩:∃y,d[i]? = some y:=⟨_,List.getElem?_eq_getElem hlt⟩
   obtain ⟨c0,c1,c2,c3,c4,c5,c6,c7,c8,c9⟩:=row_cellsQ (Kind.at_kept HAT.out HB.out) i y hy
   simp only [Nat.add_zero] at c0
   have hmem:=List.mem_of_getElem? hy
   have HTK:Hid (d.take (i+1)=d.take i++[y]):=hid (by
    obtain ⟨h1,h2⟩:=List.getElem?_eq_some_iff.1 hy
    rw [←h2];exact List.take_succ_eq_append_getElem h1)
   have HMEM:=hid hmem
   have HMY:Hid (∀W,Below w.heap.size w W→Calls Tryz.prog 23 #[.agg #[.int .i64 y.kind,.string y.temp,.string y.ka,.string y.kb,.int .i64 y.iff,.slice y.vp y.vo.length y.vc,.slice y.ep y.eo.length y.ec,.slice y.pp y.po.length y.pc,.int .u64 y.stamp,.int .i64 y.num]] W fun e w'=>e=.returned (.bool (mayO y))∧Below W.heap.size W w'):=hid fun W h=>opmay1_any y W ((HD.out.each y HMEM.out).on h)
   have HB2:Hid (Below w.heap.size w (wr.alloc (.cells #[.int .i64 y.kind,.string y.temp,.string y.ka,.string y.kb,.int .i64 y.iff,.slice y.vp y.vo.length y.vc,.slice y.ep y.eo.length y.ec,.slice y.pp y.po.length y.pc,.int .u64 y.stamp,.int .i64 y.num] 41))):=hid (HB.out.alloc HB.out.size _)
   clear hy hmem
   go_wp2_with fail
   refine (HMY.out _ HB2.out).mono ?_
   rintro e w4 ⟨rfl,hb4⟩
   have HB4:=hid (HB2.out.trans (hb4.mono HB2.out.size))
   clear hb4 c0 c1 c2 c3 c4 c5 c6 c7 c8 c9
   cases hm:mayO y with
   | false =>
    have HF:Hid (d.all mayO=false):=hid (by
     rw [List.all_eq_false]
     exact ⟨y,HMEM.out,by rw [hm];simp⟩)
    go_wp2_with fail
    go_ret
    exact ⟨by rw [HM.out,HF.out];rfl,HB4.out⟩
   | true =>
    have HA2:Hid ((d.take (i+1)).all mayO=true):=hid (by rw [HTK.out,List.all_append,HA.out];simp [hm])
    go_wp2_with fail
    go_roundg (d.length-(i+1))
    case measure=>omega
    exact ⟨i+1,by go_num,HLT.out,Nat.le_refl _,HB4,HA2⟩
  ·have hltz:¬ (i:Int)<(d.length:Int):=by omega
   have HF:Hid (d.all mayO=true):=hid (by have:=HA.out;rw [List.take_of_length_le (by omega)] at this;exact this)
   go_wp2_with fail
   go_ret
   exact ⟨by rw [HM.out,HF.out];rfl,HB.out⟩
end
section
open Go.RowKit Go.Lib
def join3 (ls:List ByteArray):ByteArray:=⟨(Lib.join (ls.map (·.data.toList)) [32,59,32]).toArray⟩
def printO (once:Bool) (es:List En):ByteArray:=(if once=true then ⟨#[111,110,99,101,32]⟩ else ⟨#[]⟩)++join3 (es.map lineO)
theorem join3_size (c:Nat):∀ws:List (List UInt8),(∀w∈ws,w.length≤c)→(Lib.join ws [32,59,32]).length≤ws.length * (c+3)
 | [],_=>by simp [Lib.join,List.intercalate]
 | [w],h=>by
  have:=h w (by simp)
  rw [Lib.join_one]
  simp only [List.length_cons,List.length_nil];omega
 | w::v::ws,h=>by
  have ih:=join3_size c (v::ws) fun u hu=>h u (by simp [hu])
  have hw:=h w (by simp)
  have e:Lib.join (w::v::ws) [32,59,32]=w++([32,59,32]++Lib.join (v::ws) [32,59,32]):=by simp [Lib.join,List.intercalate]
  rw [e,List.length_append,List.length_append]
  simp only [List.length_cons,List.length_nil] at ih ⊢
  have:(ws.length+1+1) * (c+3)=(ws.length+1) * (c+3)+(c+3):=by rw [Nat.add_mul (ws.length+1) 1];omega
  omega
theorem mayO_parts {x:Ex} (h:mayO x=true):(1≤x.kind∧x.kind≤12)∧(shapeN x.kind.toNat).all (fitPt x.en)=true∧(leftE x (shapeN x.kind.toNat)).en=(zeroEx 0).en:=by
 unfold mayO at h
 simp only [Bool.and_eq_true,decide_eq_true_eq] at h
 exact ⟨h.1.1,h.1.2,h.2⟩
set_option maxHeartbeats 8000000 in
set_option maxRecDepth 100000 in
theorem opPrint_any (once:Bool) (v:Value) (d:List Ex) (w:World) (hd:RqIn w v d) (hv:OpVars w) :
  Calls Tryz.prog 10 #[.agg #[.bool once,v]] w fun e w' =>
   e=.returned (.tuple #[.string (if mayRO d=true then printO once (d.map Ex.en) else ⟨#[]⟩),.int .i64 (if mayRO d=true then 0 else 4)])∧Below w.heap.size w w':=by
 obtain ⟨i0,hi0,hz0,hz1,hz2⟩:=info_parts Tryz.infoStr
 have HI:=hid hi0
 have HD:=hid hd
 have HV:=hid hv
 obtain ⟨a,cap,rfl,hrow⟩:=hd.row
 have hlen:=hd.len
 have HR:=hid hrow
 have HAL:Hid (Below w.heap.size w (w.alloc (.cells #[.bool once,.slice a d.length cap] 24))):=hid ((Below.refl _ _).alloc (Nat.le_refl _) _)
 have HBX:Hid ((w.alloc (.cells #[.bool once,.slice a d.length cap] 24)).heap[w.heap.size]? = some (.cells #[.bool once,.slice a d.length cap] 24 (0,0))):=hid (heap_alloc_new w _)
 have HMY:=hid (opMay_any once (.slice a d.length cap) d _ (hd.on HAL.out))
 clear hd hrow hv hi0
 cases hm:mayRO d with
 | false =>
  rw [hm] at HMY
  go_enter Tryz.func10,Tryz.ntmps10
  go_wp2_with (go_at_call 12;refine HMY.out.mono ?_;rintro e w1 ⟨rfl,hb1⟩;have HB1:=hid (HAL.out.trans (hb1.mono HAL.out.size));clear hb1)
  go_ret2
  exact ⟨rfl,HB1.out⟩
 | true =>
  rw [hm] at HMY
  have hm2:=hm
  unfold mayRO at hm2
  simp only [Bool.and_eq_true,decide_eq_true_eq] at hm2
  obtain ⟨⟨hl0,hl16⟩,hall⟩:=hm2
  have HALL:=hid hall
  obtain ⟨b,off,rfl,hat⟩:∃b off,a=some ⟨b,off,none⟩∧KEx.At w b off d:=by
   rcases HR.out with h|⟨b,off,h1,h2⟩
   ·rw [h] at hl0;simp at hl0
   ·exact ⟨b,off,h1,h2⟩
  have HAT:=hid hat
  clear hat HR hall hm
  go_enter Tryz.func10,Tryz.ntmps10
  go_wp2_with fail
  refine HMY.out.mono ?_
  rintro e w1 ⟨rfl,hb1⟩
  have HB1:=hid (HAL.out.trans (hb1.mono HAL.out.size))
  have hbx:w1.heap[w.heap.size]? = some (.cells #[.bool once,.slice (some ⟨b,off,none⟩) d.length cap] 24 (0,0)):=(hb1.block _ (by simp)).trans HBX.out
  obtain ⟨e0,e1,_,_⟩:=two_facts hbx
  have HBX1:=hid hbx
  clear hbx hb1
  go_wp2_with fail
  go_loopg [4,14] d.length (fun g vs vi wr=>∃(i:Nat),vi=.int .i64 i∧i≤d.length∧d.length-i≤g∧Hid (Below w1.heap.size w1 wr)∧Hid (OwnT w1.heap.size wr vs ((d.take i).map fun x=>lineO x.en)))
  case atStart=>exact ⟨0,rfl,by omega,by omega,hid (Below.refl _ _),hid (World.ownsRow_nil _ _ _ _)⟩
  case round =>
   obtain ⟨i,rfl,hi,hig,HB,HO⟩:=hrel
   have HBW:=hid (HB1.out.trans (HB.out.mono HB1.out.size))
   by_cases hlt:i<d.length
   ·have HLT:=hid hlt
    have hltz:(i:Int)<(d.length:Int):=by omega
    have hiz:(0:Int)≤(i:Int):=by omega
    obtain ⟨y,hy⟩:∃y,d[i]? = some y:=⟨_,List.getElem?_eq_getElem hlt⟩
    obtain ⟨c0,c1,c2,c3,c4,c5,c6,c7,c8,c9⟩:=row_cellsQ (Kind.at_kept HAT.out HBW.out) i y hy
    simp only [Nat.add_zero] at c0
    have HMEM:=hid (List.mem_of_getElem? hy)
    have HTK:Hid ((d.take (i+1)).map (fun x=>lineO x.en)=(d.take i).map (fun x=>lineO x.en)++[lineO y.en]):=hid (by
     obtain ⟨h1,h2⟩:=List.getElem?_eq_some_iff.1 hy
     rw [←h2,List.take_succ_eq_append_getElem h1,List.map_append];rfl)
    have hmy:=mayO_parts (List.all_eq_true.1 HALL.out y HMEM.out)
    have HLN:Hid (∀W,Below w.heap.size w W→Calls Tryz.prog 19 #[.agg #[.int .i64 y.kind,.string y.temp,.string y.ka,.string y.kb,.int .i64 y.iff,.slice y.vp y.vo.length y.vc,.slice y.ep y.eo.length y.ec,.slice y.pp y.po.length y.pc,.int .u64 y.stamp,.int .i64 y.num]] W fun e w'=>e=.returned (.string (lineO y.en))∧Below W.heap.size W w'):=hid fun W h=>opline_any y W ((HD.out.each y HMEM.out).on h) (HV.out.on h) hmy.1 hmy.2.1
    have HB2:Hid (Below w.heap.size w (wr.alloc (.cells #[.int .i64 y.kind,.string y.temp,.string y.ka,.string y.kb,.int .i64 y.iff,.slice y.vp y.vo.length y.vc,.slice y.ep y.eo.length y.ec,.slice y.pp y.po.length y.pc,.int .u64 y.stamp,.int .i64 y.num] 41))):=hid (HBW.out.alloc HBW.out.size _)
    have HB3:Hid (Below w1.heap.size w1 (wr.alloc (.cells #[.int .i64 y.kind,.string y.temp,.string y.ka,.string y.kb,.int .i64 y.iff,.slice y.vp y.vo.length y.vc,.slice y.ep y.eo.length y.ec,.slice y.pp y.po.length y.pc,.int .u64 y.stamp,.int .i64 y.num] 41))):=hid (HB.out.alloc HB.out.size _)
    have hacl:((d.take i).map fun x=>lineO x.en).length=i:=by rw [List.length_map,List.length_take];omega
    obtain ⟨acc,hacc⟩:∃acc,(d.take i).map (fun x=>lineO x.en)=acc:=⟨_,rfl⟩
    rw [hacc] at HO HTK hacl
    have HO3:=hid (OwnT.on HO.out ((Below.refl _ wr).alloc (Nat.le_refl _) (.cells #[.int .i64 y.kind,.string y.temp,.string y.ka,.string y.kb,.int .i64 y.iff,.slice y.vp y.vo.length y.vc,.slice y.ep y.eo.length y.ec,.slice y.pp y.po.length y.pc,.int .u64 y.stamp,.int .i64 y.num] 41)))
    obtain ⟨wd,hwd⟩:∃wd,lineO y.en=wd:=⟨_,rfl⟩
    rw [hwd] at HLN HTK
    clear hy hmy hacc hwd
    go_wp2_with fail
    refine (HLN.out _ HB2.out).mono ?_
    rintro e w4 ⟨rfl,hb4⟩
    have HB4:=hid (HB3.out.trans (hb4.mono HB3.out.size))
    have hsz4:=HB4.out.size
    have HO4:=hid (OwnT.on (OwnT.on HO3.out hb4) ((Below.refl _ w4).alloc (Nat.le_refl _) (.cells #[.string wd] 9)))
    clear hb4 c0 c1 c2 c3 c4 c5 c6 c7 c8 c9
    go_wp2_with (at_builtin;refine wpList_append_own _ rfl _ _ 45 rfl w1.heap.size 9 i0 (.string ⟨#[]⟩) 1 16 Tryz.underlying45 HI.out hz0 hz1 hz2 rfl (by decide) _ _ _ rfl HO4.out _ 1 1 [.string wd] rfl rfl (by intro j u hj;match j,hj with|0,hj=>simp at hj;subst hj;simp [Addr.add]) (by intro u hu;simp at hu;subst hu;rfl) (by unfold maxLen;omega) (by omega) (by simp;omega) ?_;intro v4 w5 hown4 hg4 hnil4;have HO7:=hid hown4;have HG7:=hid hg4;clear hown4 hg4 hnil4)
    go_roundg (d.length-(i+1))
    case measure=>omega
    refine ⟨i+1,by go_num,HLT.out,Nat.le_refl _,hid ?_,hid (by rw [HTK.out];exact own_snoc HO7.out)⟩
    have hb6:Below w1.heap.size w1 (w4.alloc (.cells #[.string wd] 9)):=HB4.out.alloc hsz4 _
    exact hb6.grown HG7.out hb6.size (fun k hk=>(World.ownsRow.lt HO4.out k hk).1)
   ·have hltz:¬ (i:Int)<(d.length:Int):=by omega
    have htk:d.take i=d:=List.take_of_length_le (by omega)
    rw [htk] at HO
    obtain ⟨ws,hws⟩:∃ws,d.map (fun x=>lineO x.en)=ws:=⟨_,rfl⟩
    have hwl:ws.length=d.length:=by rw [←hws,List.length_map]
    have hwsz:∀l∈ws.map (·.data.toList),l.length≤600000:=fun l hl=>by
     obtain ⟨s,hs,rfl⟩:=List.mem_map.1 hl
     rw [←hws] at hs
     obtain ⟨y,hy,rfl⟩:=List.mem_map.1 hs
     have hp:=mayO_parts (List.all_eq_true.1 HALL.out y hy)
     have hex:=HD.out.each y hy
     exact line_le y.en hp.2.1 hex.t0 hex.t1
    have hjl:=join3_size 600000 (ws.map (·.data.toList)) hwsz
    rw [List.length_map] at hjl
    have hjl2:ws.length * 600003≤16 * 600003:=Nat.mul_le_mul_right _ (by omega)
    have HJ3:Hid ((join3 ws).size≤9600048):=hid (by
     have e:(join3 ws).size=(Lib.join (ws.map (·.data.toList)) [32,59,32]).length:=rfl
     omega)
    rw [hws] at HO
    have HPR:Hid (printO once (d.map Ex.en)=(if once=true then ⟨#[111,110,99,101,32]⟩ else ⟨#[]⟩)++join3 ws):=hid (by
     unfold printO
     rw [←hws,List.map_map];rfl)
    obtain ⟨p4,cap4,hv4⟩:=own_slice HO.out
    subst hv4
    have HJ:Hid (Calls Tryz.prog 20 #[.slice p4 ws.length cap4,.string ⟨#[32,59,32]⟩] wr fun e w'=>e=.returned (.string (join3 ws))∧Below wr.heap.size wr w'):=hid (by
     obtain ⟨bb,oo,cc,h1,h2,h3,h4⟩:=words_own HO.out (by intro q;rw [q] at hwl;simp at hwl;omega)
     injection h1 with a1 a2 a3
     subst a1 a3
     exact Tryz.strings_Join bb oo cap4 ws ⟨#[32,59,32]⟩ wr h4 h3 (by omega) h2 (by
      show (Lib.join (ws.map (·.data.toList)) [32,59,32]).length≤_
      omega))
    have hbx2:wr.heap[w.heap.size]? = some (.cells #[.bool once,.slice (some ⟨b,off,none⟩) d.length cap] 24 (0,0)):=(HB.out.block _ (Array.getElem?_eq_some_iff.1 HBX1.out).1).trans HBX1.out
    have HBX2:=hid hbx2
    clear hbx2 htk hws hwl hwsz hjl hjl2
    go_wp2_with fail
    refine HJ.out.mono ?_
    rintro e w2 ⟨rfl,hb2⟩
    have HB9:=hid (HBW.out.trans (hb2.mono HBW.out.size))
    obtain ⟨q0,q1,_,_⟩:=two_facts ((hb2.block _ (Array.getElem?_eq_some_iff.1 HBX2.out).1).trans HBX2.out)
    have hj3:=HJ3.out
    clear hb2
    cases once with
    | false =>
     have HPR2:Hid (printO false (d.map Ex.en)=join3 ws):=hid (by
      rw [HPR.out]
      apply ba_ext
      rw [ba_append];rfl)
     go_wp2_with fail
     go_ret2
     refine ⟨?_,HB9.out⟩
     show Ending.returned (.tuple #[.string (join3 ws),.int .i64 0])=_
     rw [←HPR2.out]
    | true =>
     have HPR2:Hid (printO true (d.map Ex.en)=⟨#[111,110,99,101,32]⟩++join3 ws):=hid (by rw [HPR.out];rfl)
     go_wp2_with fail
     go_ret2
     refine ⟨?_,HB9.out⟩
     show Ending.returned (.tuple #[.string (⟨#[111,110,99,101,32]⟩++join3 ws),.int .i64 0])=_
     rw [←HPR2.out]
end
section
open Go.RowKit Go.Lib
def wordsP (e:En) (p:Nat):List (List UInt8) :=
 if p=1 then if e.temp=⟨#[]⟩ then [] else [64::e.temp.data.toList]
 else if p=2 then [e.ka.data.toList++47::e.kb.data.toList]
 else if p=3 then [e.ka.data.toList]
 else if p=4 then if e.iff=0 then [] else [[105,102],decL e.iff.toNat]
 else if p=5 then bytesL (wordsL e.val)
 else if p=6 then [[63]]
 else if p=7 then bytesL (e.pred.map wordM)
 else if p=8 then bytesL (e.eds.map wordE)
 else if p=9 then [decL e.num.toNat]
 else [decL e.stamp.toNat]
theorem lineB_words (ws:List ByteArray):(lineB ws).data.toList=joinW (bytesL ws):=by rw [lineB_data];rfl
theorem piece_words {e:En} (h:MayP e) (p:Nat) (h1:1≤p) (h2:p≤10):(pieceS e p).data.toList=joinW (wordsP e p):=by
 have hp:p=1∨p=2∨p=3∨p=4∨p=5∨p=6∨p=7∨p=8∨p=9∨p=10:=by omega
 rcases hp with rfl|rfl|rfl|rfl|rfl|rfl|rfl|rfl|rfl|rfl
 ·show (if e.temp=⟨#[]⟩ then (⟨#[]⟩:ByteArray) else ⟨#[64]⟩++e.temp).data.toList=joinW (if e.temp=⟨#[]⟩ then [] else [64::e.temp.data.toList])
  split
  ·rfl
  ·rw [joinW_one,ba_append];rfl
 ·show (e.ka++⟨#[47]⟩++e.kb).data.toList=joinW [e.ka.data.toList++47::e.kb.data.toList]
  rw [joinW_one];exact cat_data _ _
 ·show e.ka.data.toList=joinW [e.ka.data.toList]
  rw [joinW_one]
 ·show (if e.iff=0 then (⟨#[]⟩:ByteArray) else ⟨#[105,102,32]⟩++⟨(decL e.iff.toNat).toArray⟩).data.toList=joinW (if e.iff=0 then [] else [[105,102],decL e.iff.toNat])
  split
  ·rfl
  ·rw [joinW_two,ba_append];rfl
 ·rfl
 ·show ([63]:List UInt8)=joinW [[63]]
  rw [joinW_one]
 ·show (lineM (ansM e.pred)).data.toList=joinW (bytesL (e.pred.map wordM))
  have ha:ansM e.pred=e.pred:=by unfold ansM;rw [if_pos h.mayp,h.srt]
  rw [ha];exact lineB_words _
 ·show (prE e.eds).data.toList=joinW (bytesL (e.eds.map wordE))
  unfold prE
  rw [if_pos h.maye];exact lineB_words _
 ·show decL e.num.toNat=joinW [decL e.num.toNat]
  rw [joinW_one]
 ·show decL e.stamp.toNat=joinW [decL e.stamp.toNat]
  rw [joinW_one]
theorem join_nil {w:List (List UInt8)} (h:∀x∈w,x≠[]) (q:joinW w=[]):w=[]:=by
 cases w with
 | nil=>rfl
 | cons x w =>
  exfalso
  by_cases hw:w=[]
  ·subst hw
   rw [joinW_one] at q
   exact h x (by simp) q
  ·rw [joinW_cons _ hw] at q
   simp at q
theorem partW_ne {e:En} (h:MayP e) (p:Nat) (h1:1≤p) (h2:p≤10):∀x∈wordsP e p,x≠[]:=by
 have hp:p=1∨p=2∨p=3∨p=4∨p=5∨p=6∨p=7∨p=8∨p=9∨p=10:=by omega
 rcases hp with rfl|rfl|rfl|rfl|rfl|rfl|rfl|rfl|rfl|rfl
 ·show ∀x∈(if e.temp=⟨#[]⟩ then [] else [64::e.temp.data.toList]),x≠[]
  split
  ·intro x hx;cases hx
  ·intro x hx;rw [List.mem_singleton] at hx;subst hx;simp
 ·intro x hx
  have:x=e.ka.data.toList++47::e.kb.data.toList:=List.mem_singleton.1 hx
  subst this;simp
 ·intro x hx
  have:x=e.ka.data.toList:=List.mem_singleton.1 hx
  subst this
  intro q
  have hk:=h.key
  unfold keyEn at hk
  split at hk
  ·simp only [Bool.and_eq_true] at hk
   rw [q] at hk;exact absurd hk.2 (by decide)
  ·have:=(keyB_two hk).1
   rw [q] at this;exact absurd this (by decide)
 ·show ∀x∈(if e.iff=0 then [] else [[105,102],decL e.iff.toNat]),x≠[]
  split
  ·intro x hx;cases hx
  ·intro x hx
   rcases List.mem_cons.1 hx with rfl|hx
   ·decide
   ·rw [List.mem_singleton] at hx;subst hx;exact decL_ne _
 ·intro x hx q
  have:=(valW_is h.mayv x hx).1
  rw [q] at this;simp at this
 ·intro x hx
  have:x=[63]:=List.mem_singleton.1 hx
  subst this;decide
 ·intro x hx q
  have:=(prdW_is h.mayp x hx).1
  rw [q] at this;simp at this
 ·intro x hx q
  have:=(edsW_is h.maye x hx).1
  rw [q] at this;simp at this
 ·intro x hx
  have:x=decL e.num.toNat:=List.mem_singleton.1 hx
  subst this;exact decL_ne _
 ·intro x hx
  have:x=decL e.stamp.toNat:=List.mem_singleton.1 hx
  subst this;exact decL_ne _
theorem join_pcs {e:En} (h:MayP e):∀ps:List Nat,(∀p∈ps,1≤p∧p≤10)→∀a:List (List UInt8),a≠[] →
  joinW (a++(pcs e ps).map (·.data.toList))=joinW (a++ps.flatMap (wordsP e))
 | [],_,a,_=>by simp [pcs]
 | p::ps,hp,a,ha=>by
  obtain ⟨h1,h2⟩:=hp p (by simp)
  have hw:=piece_words h p h1 h2
  have ih:=join_pcs h ps (fun q hq=>hp q (by simp [hq]))
  have hcons:pcs e (p::ps)=(if pieceS e p=⟨#[]⟩ then [] else [pieceS e p])++pcs e ps:=by
   unfold pcs
   by_cases hz:pieceS e p=⟨#[]⟩<;>simp [hz]
  rw [hcons,List.flatMap_cons]
  by_cases hz:pieceS e p=⟨#[]⟩
  ·have hn:wordsP e p=[]:=join_nil (partW_ne h p h1 h2) (by rw [←hw,hz])
   rw [if_pos hz,hn,List.nil_append,List.nil_append]
   exact ih a ha
  ·have hne:wordsP e p≠[]:=fun q=>hz (ba_nil (by rw [hw,q];rfl))
   rw [if_neg hz,List.map_append,List.map_cons,List.map_nil,←List.append_assoc,←List.append_assoc]
   have h3:=ih (a++wordsP e p) (by simp [ha])
   rw [←h3]
   have h4:joinW (a++[(pieceS e p).data.toList])=joinW (a++wordsP e p):=by
    rw [joinW_app a ha (by simp),joinW_app a ha hne,joinW_one,hw]
   by_cases hq:(pcs e ps).map (·.data.toList)=[]
   ·rw [hq,List.append_nil,List.append_nil,h4]
   ·rw [joinW_app _ (by simp) hq,joinW_app _ (by simp [ha]) hq,h4]
theorem if_swap {i:Int} {A:List (List UInt8)} (h:¬ i=0→0≤i∧i≤999999999):(if 0<i then A else [])=if i=0 then [] else A:=by
 by_cases h0:i=0
 ·rw [if_pos h0,if_neg (by omega)]
 ·rw [if_neg h0,if_pos (by have:=h h0;omega)]
theorem words_parts {e:En} (h:MayP e):wordsEn e=nameN e.kind.toNat::(shapeN e.kind.toNat).flatMap (wordsP e):=by
 obtain ⟨h1,h2,h3,h4,h5,h6,h7,h8,h9,h10,h11,h12,h13,h14⟩:=h
 obtain ⟨k,t,a,b,i,v,d,p,s,n⟩:=e
 simp only at h1 h2
 have hk:k=1∨k=2∨k=3∨k=4∨k=5∨k=6∨k=7∨k=8∨k=9∨k=10∨k=11∨k=12:=by omega
 have hkb:∀{a b:ByteArray},keyB a b=true→b≠⟨#[]⟩:=fun hk q=>by
  have:=(keyB_two hk).2
  rw [q] at this;exact absurd this (by decide)
 rcases hk with rfl|rfl|rfl|rfl|rfl|rfl|rfl|rfl|rfl|rfl|rfl|rfl
 all_goals
  simp [keyEn,typedK] at h3 h4 h5 h6 h7 h8 h10 h14
  simp_all [wordsEn,nameK,tailW,keyWd,shapeN,wordsP,bytesL,wordsL]
  try exact hkb h3
  try exact ⟨hkb h3,if_swap h5⟩
theorem line_is {e:En} (h:MayP e):(lineO e).data.toList=joinW (wordsEn e):=by
 have hs:∀p∈shapeN e.kind.toNat,1≤p∧p≤10:=fun p hp=>by
  obtain ⟨i,hi⟩:=List.getElem?_of_mem hp
  exact shape_part _ i p hi
 have hj:=join_pcs h (shapeN e.kind.toNat) hs [nameN e.kind.toNat] (by simp)
 rw [words_parts h]
 show joinW ((⟨(nameN e.kind.toNat).toArray⟩::pcs e (shapeN e.kind.toNat)).map (·.data.toList))=_
 rw [List.map_cons]
 exact hj
theorem join_three (x:List UInt8) {w:List (List UInt8)} (h:w≠[]):Lib.join (x::w) [32,59,32]=x++([32,59,32]++Lib.join w [32,59,32]):=by
 cases w with
 | nil=>exact absurd rfl h
 | cons y w=>simp [Lib.join,List.intercalate]
theorem entriesW_ne {l:List En} (h:l≠[]):entriesW l≠[]:=by
 match l with
 | []=>exact absurd rfl h
 | [e]=>simp [entriesW,wordsEn]
 | e::f::l=>simp [entriesW]
theorem lines_is:∀{es:List En},es≠[]→(∀e∈es,MayP e)→Lib.join ((es.map lineO).map (·.data.toList)) [32,59,32]=joinW (entriesW es)
 | [],h,_=>absurd rfl h
 | [e],_,h=>by
  simp only [List.map_cons,List.map_nil,Lib.join_one,entriesW]
  exact line_is (h e (by simp))
 | e::f::l,_,h=>by
  have ih:=lines_is (es:=f::l) (by simp) fun g hg=>h g (by simp [hg])
  rw [List.map_cons,List.map_cons,join_three _ (by simp),ih,line_is (h e (by simp))]
  simp only [entriesW]
  have hne:wordsEn e≠[]:=by simp [wordsEn]
  rw [joinW_app _ hne (by simp),joinW_cons _ (entriesW_ne (by simp))]
  rfl
theorem print_is {once:Bool} {es:List En} (h:mayRq es=true):(printO once es).data.toList=lineRq once es:=by
 have h':=h
 unfold mayRq at h'
 simp only [Bool.and_eq_true,decide_eq_true_eq,List.all_eq_true] at h'
 have hne:es≠[]:=List.length_pos_iff.1 h'.1.1
 have hl:=lines_is hne fun e he=>mayEn_parts (h'.2 e he)
 unfold printO lineRq wordsRq
 rw [ba_append]
 have hj:(join3 (es.map lineO)).data.toList=joinW (entriesW es):=hl
 rw [hj]
 cases once with
 | false=>rfl
 | true =>
  show [111,110,99,101,32]++joinW (entriesW es)=joinW ([onceW]++entriesW es)
  rw [joinW_app _ (by simp) (entriesW_ne hne),joinW_one]
  rfl
theorem op_back {once:Bool} {es:List En} (h:mayRq es=true) (hs:∀e∈es,0≤e.stamp∧e.stamp≤18446744073709551615):opR (printO once es).data.toList=some (once,es):=by
 rw [opR_is,print_is h,line_words h,rq_back h hs]
theorem mayRO_is (d:List Ex):mayRO d=mayRq (d.map Ex.en):=by
 unfold mayRO mayRq
 rw [List.length_map,List.all_map]
 congr 1
 apply List.all_congr rfl
 intro x
 exact mayO_is x
end
section
open Go.RowKit Go.Lib
set_option maxHeartbeats 8000000 in
set_option maxRecDepth 100000 in
theorem rprintE_any (v:Value) (p:List Ed) (w:World) (hv:KE.Is w v p) (hf:FitE p) :
  Calls Tryz.prog 44 #[v] w fun e w'=>e=.returned (.tuple #[.string (prE p),.int .i64 (mayE p)])∧Below w.heap.size w w':=by
 have HM:Hid (Calls Tryz.prog 76 #[v] w fun e w'=>e=.returned (.int .i64 (mayE p))∧w=w'):=(rmayE_any v p w hv hf).mono fun e w' h=>⟨h.1,h.2.symm⟩
 by_cases hm:mayE p=0
 ·rw [hm] at HM
  obtain ⟨hl16,hn,hr,hs⟩:=mayE_zero hm
  have HN:=hid hn
  have HS:=hid hs
  have HP:Hid (prE p=lineB (p.map wordE)):=by show _=_;unfold prE lineE;rw [if_pos hm]
  have HZ0:=hid hm
  obtain ⟨q,cap,rfl,hd⟩:=hv
  have HD:=hid hd
  clear hm hn hr hs hf hd
  go_enter Tryz.func44,Tryz.ntmps44
  go_wp2_with (first|(go_at_call 76;refine HM.out.mono ?_;rintro e w1 ⟨rfl,rfl⟩))
  go_loopg [5,6] p.length (fun g vs vi wr=>∃i:Nat,vi=.int .i64 i∧i≤p.length∧p.length-i≤g∧Hid (Below w.heap.size w wr)∧vs=.string (lineB ((p.take i).map wordE)))
  case atStart=>exact ⟨0,rfl,by omega,by omega,Below.refl _ _,rfl⟩
  case round =>
   obtain ⟨i,rfl,hi,hgk,HB,rfl⟩:=hrel
   by_cases hlt:i<p.length
   ·have hltz:(i:Int)<(p.length:Int):=by omega
    have hiz:(0:Int)≤i:=by omega
    obtain ⟨b,off,rfl,hat⟩:∃b off,q=some ⟨b,off,none⟩∧KE.At w b off p:=by
     rcases HD.out with h|h
     ·subst h;simp at hlt
     ·exact h
    have hkc:∀W,Below w.heap.size w W→W.cell? ⟨b,off+i * 3,none⟩=some (.int .i64 (p[i]).1)∧W.cell? ⟨b,off+i * 3+1,none⟩=some (.string (p[i]).2.1)∧W.cell? ⟨b,off+i * 3+2,none⟩=some (.string (p[i]).2.2):=fun W hW=>ke_cells (Kind.at_kept hat hW) i hlt
    have hn:=HN.out _ (List.getElem_mem hlt)
    have hs:=HS.out _ (List.getElem_mem hlt)
    have hns:=fieldB_len hn
    have hss:=of_decide_eq_true hs
    have htk:(p.take (i+1)).map wordE=(p.take i).map wordE++[wordE p[i]]:=by
     rw [List.take_succ_eq_append_getElem hlt,List.map_append];simp
    have has:∀y∈(p.take i).map wordE,y.size≤418:=fun y hy=>by
     obtain ⟨t,ht,rfl⟩:=List.mem_map.1 hy
     have hm:=List.mem_of_mem_take ht
     exact wordE_len (HN.out t hm) (HS.out t hm)
    have hls:=lineE_size (ws:=(p.take i).map wordE) (by simp;omega) has
    obtain ⟨x,hx⟩:∃x,p[i]=x:=⟨_,rfl⟩
    rw [hx] at hkc hns hss htk
    obtain ⟨xo,xf,xt⟩:=x
    simp only at hkc hns hss
    have hns2:xf.size≤32:=by simpa using hns
    have hsg:=sign_size xo
    obtain ⟨S1,hS1,hS1s,hkey⟩:∃S1:ByteArray,S1=(if i=0 then ⟨#[]⟩ else lineB ((p.take i).map wordE)++⟨#[32]⟩)∧S1.size≤6705∧lineB ((p.take (i+1)).map wordE)=S1++xf++signS xo++⟨(writeL xt.data.toList).toArray⟩:=by
     refine ⟨_,rfl,?_,?_⟩
     ·split
      ·exact Nat.zero_le _
      ·rw [ByteArray.size_append];show _+1≤_;omega
     ·rw [htk]
      split
      ·rename_i h;subst h;exact lineE_first _
      ·rename_i h
       refine lineE_next (fun e=>h ?_) _
       have:=congrArg List.length e
       rw [List.length_map,List.length_take,List.length_nil] at this
       omega
    have HKC:=hid hkc
    have HS1:=hid hS1
    have HNX:=hid hkey
    have HZ:Hid (i=0→lineB ((p.take i).map wordE)=⟨#[]⟩):=fun e=>by rw [e];rfl
    clear hat hn hs hx htk has hkey hS1 hkc hns
    obtain ⟨S,hS⟩:∃S,lineB ((p.take i).map wordE)=S:=⟨_,rfl⟩
    rw [hS] at hls HS1 HZ ⊢
    clear hS
    go_upto_if 19 with fail
    go_cut [5] from 12 to 42 (fun vs wx=>wr=wx∧vs=.string S1)
    case first =>
     by_cases h0:i=0
     ·have E1:Hid (S=S1):=by show _=_;rw [HS1.out,if_pos h0,HZ.out h0]
      have hz:¬ ((0:Int)<(i:Int)):=by omega
      clear h0
      go_wp2_with fail
      go_meet
      case rel=>exact ⟨rfl,by rw [E1.out]⟩
     ·have e1:S1=S++⟨#[32]⟩:=by rw [HS1.out,if_neg h0]
      have hz:(0:Int)<(i:Int):=by omega
      have hA:∀w,Sem.run Tryz.prog (Op.stringOp .add S ⟨#[32]⟩) w=.ok (.string S1) w:=fun w=>by rw [e1];exact run_string_add_sum _ _ _ (by show S.size+1≤_;omega)
      clear e1 h0
      go_wp2_with fail
      go_meet
      case rel=>exact ⟨rfl,rfl⟩
    case rest =>
     obtain ⟨rfl,rfl⟩:=hcut
     have hwl2:=writeL_len xt.data.toList
     have hwl3:xt.data.toList.length=xt.size:=by simp
     have HW:=hid (fun W=>rwrite_any xt W (by omega))
     have HG:Hid (∀W,Calls Tryz.prog 79 #[.int .i64 xo] W fun e w'=>e=.returned (.string (signS xo))∧W=w'):=fun W=>(rsign_any xo W).mono fun e w' h=>⟨h.1,h.2.symm⟩
     obtain ⟨sg,hsg2⟩:∃sg,signS xo=sg:=⟨_,rfl⟩
     rw [hsg2] at hsg HG HNX
     obtain ⟨wt,hwt⟩:∃wt:ByteArray,⟨(writeL xt.data.toList).toArray⟩=wt:=⟨_,rfl⟩
     have hwts:wt.size≤384:=by rw [←hwt];show (writeL xt.data.toList).toArray.size≤384;rw [List.size_toArray];omega
     rw [hwt] at HW HNX
     obtain ⟨S2,hS2⟩:∃S2:ByteArray,S1++xf=S2:=⟨_,rfl⟩
     have hS2s:S2.size≤6737:=by rw [←hS2,ByteArray.size_append];omega
     obtain ⟨S3,hS3⟩:∃S3:ByteArray,S2++sg=S3:=⟨_,rfl⟩
     have hS3s:S3.size≤6739:=by rw [←hS3,ByteArray.size_append];omega
     obtain ⟨S4,hS4⟩:∃S4:ByteArray,S3++wt=S4:=⟨_,rfl⟩
     rw [hS2,hS3,hS4] at HNX
     have hA:∀w,Sem.run Tryz.prog (Op.stringOp .add S1 xf) w=.ok (.string S2) w:=fun w=>by rw [←hS2];exact run_string_add_sum _ _ _ (by omega)
     have hB:∀w,Sem.run Tryz.prog (Op.stringOp .add S2 sg) w=.ok (.string S3) w:=fun w=>by rw [←hS3];exact run_string_add_sum _ _ _ (by omega)
     have hC:∀w,Sem.run Tryz.prog (Op.stringOp .add S3 wt) w=.ok (.string S4) w:=fun w=>by rw [←hS4];exact run_string_add_sum _ _ _ (by omega)
     have q0:=HKC.out _ HB.out.drew
     have hsz:w.heap.size≤wr.drew.heap.size:=HB.out.size
     clear hwl2 hwl3 hwt hS2 hS3 hS4 hwts hS2s hS3s hS1s hls hss hns2 hsg hsg2
     go_wp2_with fail
     refine wp_region_held_drew (S:=fun W=>W.cell? ⟨b,off+i * 3,none⟩=some (.int .i64 xo)∧W.cell? ⟨b,off+i * 3+1,none⟩=some (.string xf)∧W.cell? ⟨b,off+i * 3+2,none⟩=some (.string xt)) (by kernel_rfl) q0 (fun hHeld=>?_)
     refine tkv 0 (.string S1) hHeld ?_
     simp only [Act.put,sz]
     refine tkv 1 (.slice (some ⟨b,off,none⟩) p.length cap) hHeld ?_
     simp only [Act.put,sz]
     refine tkv 2 (.int .i64 i) hHeld ?_
     simp only [Act.put,sz]
     refine tkv 3 (.pointer (some ⟨b,off+i * 3,none⟩)) hHeld ?_
     simp only [Act.put,sz]
     refine tkv 4 (.pointer (some ⟨b,off+i * 3+1,none⟩)) hHeld ?_
     simp only [Act.put,sz]
     refine tkv 5 (.string xf) hHeld ?_
     simp only [Act.put,sz]
     refine tkv 6 (.string S2) hHeld ?_
     simp only [Act.put,sz]
     refine tkv 7 (.slice (some ⟨b,off,none⟩) p.length cap) hHeld ?_
     simp only [Act.put,sz]
     refine tkv 8 (.int .i64 i) hHeld ?_
     simp only [Act.put,sz]
     refine tkv 9 (.pointer (some ⟨b,off+i * 3,none⟩)) hHeld ?_
     simp only [Act.put,sz]
     refine tkv 10 (.pointer (some ⟨b,off+i * 3,none⟩)) hHeld ?_
     simp only [Act.put,sz]
     refine tkv 11 (.int .i64 xo) hHeld ?_
     simp only [Act.put,sz]
     refine tkv 14 (.slice (some ⟨b,off,none⟩) p.length cap) hHeld ?_
     simp only [Act.put,sz]
     refine tkv 15 (.int .i64 i) hHeld ?_
     simp only [Act.put,sz]
     refine tkv 16 (.pointer (some ⟨b,off+i * 3,none⟩)) hHeld ?_
     simp only [Act.put,sz]
     refine tkv 17 (.pointer (some ⟨b,off+i * 3+2,none⟩)) hHeld ?_
     simp only [Act.put,sz]
     refine tkv 18 (.string xt) hHeld ?_
     simp only [Act.put,sz]
     refine wpAnyH_ready (rs:=[12]) (by kernel_rfl) (by simp) ?_
     refine AllReadyH.cons (at_drop0 rfl) (fun K hK=>?_) AllReadyH.nil
     rw [if_pos (by rfl)]
     go_simp
     refine (HG.out _).mono ?_
     rintro e w5 ⟨rfl,rfl⟩
     go_wp2_with fail
     refine hK.out _ _ q0 (fun hHeld=>?_)
     clear hK K
     try simp only [Act.put,sz]
     refine tkv 13 (.string S3) hHeld ?_
     simp only [Act.put,sz]
     refine wpAnyH_ready (rs:=[19]) (by kernel_rfl) (by simp) ?_
     refine AllReadyH.cons (at_drop0 rfl) (fun K hK=>?_) AllReadyH.nil
     rw [if_pos (by rfl)]
     go_simp
     refine (HW.out _).mono ?_
     rintro e w6 ⟨rfl,hb6⟩
     have hbw6:=bel_then HB.out.drew hsz hb6
     have HB6:=hid hbw6
     have q6:=HKC.out _ hbw6
     clear hb6 hbw6
     go_wp2_with fail
     refine hK.out _ _ q6 (fun hHeld=>?_)
     clear hK K
     try simp only [Act.put,sz]
     refine tkv 20 (.string S4) hHeld ?_
     simp only [Act.put,sz]
     refine tkv 21 (.string S4) hHeld ?_
     simp only [Act.put,sz]
     refine wpAnyH_done (by kernel_rfl) ?_ _
     go_wp2_with fail
     go_roundg (p.length-(i+1))
     case measure=>omega
     case rel=>exact ⟨i+1,by go_num,by omega,by omega,HB6,by rw [HNX.out]⟩
   ·have hltz:¬ (i:Int)<(p.length:Int):=by omega
    have htk2:p.take i=p:=List.take_of_length_le (by omega)
    rw [htk2]
    clear htk2
    go_wp2_with fail
    go_ret2
    exact ⟨by rw [HZ0.out,HP.out];rfl,HB.out⟩
 ·have hne:(mayE p != 0)=true:=by rw [bne_iff_ne];exact hm
  have HA:Hid (prE p=⟨#[]⟩):=by show _=_;unfold prE;rw [if_neg hm]
  obtain ⟨r,hr⟩:∃r,mayE p=r:=⟨_,rfl⟩
  rw [hr] at hne HM
  have HR:=hid hr
  clear hm hr hv hf
  go_enter Tryz.func44,Tryz.ntmps44
  go_wp2_with (first|(go_at_call 76;refine HM.out.mono ?_;rintro e w1 ⟨rfl,rfl⟩))
  go_ret2
  exact ⟨by rw [HR.out,HA.out];rfl,Below.refl _ _⟩
end
section
open Go.RowKit Go.Lib
theorem joinW_snoc16 {a:List (List UInt8)} (ha:a≠[]) (x:List UInt8):joinW (a++[x])=joinW a++32::x:=by
 rw [joinW_app a ha (by simp),joinW_one]
theorem wth_join {s x:ByteArray} {a b:List (List UInt8)} (ha:a≠[]) (hs:s.data.toList=joinW a) (hx:x.data.toList=joinW b) (hb:∀y∈b,y≠[]):(wth16 s x).data.toList=joinW (a++b):=by
 unfold wth16
 by_cases h:x.data.toList=[]
 ·rw [if_pos h]
  have:b=[]:=join_nil hb (by rw [←hx,h])
  rw [this,List.append_nil,hs]
 ·rw [if_neg h]
  have hne:b≠[]:=fun q=>h (by rw [hx,q];rfl)
  rw [ba_append,ba_append,hs,hx,joinW_app a ha hne,List.append_assoc]
  rfl
theorem wth_size (s x:ByteArray):(wth16 s x).size≤s.size+1+x.size:=by
 unfold wth16
 split
 ·omega
 ·rw [ByteArray.size_append,ByteArray.size_append]
  exact Nat.le_refl _
def headW (e:En):List (List UInt8):=nameK e.kind::((if e.temp=⟨#[]⟩ then [] else [64::e.temp.data.toList])++((if e.kind=11∨e.kind=12 then [decL e.stamp.toNat] else [])++[keyWd e]))
theorem head_tail (e:En):wordsEn e=headW e++tailW e:=by
 unfold wordsEn headW
 simp
theorem tail_two {e:En} (h:e.kind=2):tailW e=wordsP e 5++([63]::wordsP e 7):=by
 unfold tailW;rw [if_pos h];rfl
theorem tail_seven {e:En} (h:e.kind=7):tailW e=[decL e.num.toNat]:=by
 unfold tailW;rw [if_neg (by omega),if_pos h]
theorem tail_nine {e:En} (h:e.kind=9∨e.kind=10):tailW e=[decL e.stamp.toNat]:=by
 unfold tailW;rw [if_neg (by omega),if_neg (by omega),if_pos h]
theorem tail_else {e:En} (h2:e.kind≠2) (h7:e.kind≠7) (h9:e.kind≠9) (h10:e.kind≠10):tailW e=(if 0<e.iff then [[105,102],decL e.iff.toNat] else [])++(wordsP e 5++(wordsP e 8++wordsP e 7)):=by
 unfold tailW;rw [if_neg h2,if_neg h7,if_neg (by omega)];rfl
theorem line_of {s:ByteArray} {e:En} (h:MayP e) (hs:s.data.toList=joinW (headW e++tailW e)):s=lineO e:=by
 apply ByteArray.ext
 apply Array.ext'
 rw [hs,←head_tail,line_is h]
theorem ba_sz (l:List UInt8):(⟨l.toArray⟩:ByteArray).size=l.length:=rfl
set_option maxHeartbeats 8000000 in
set_option maxRecDepth 100000 in
theorem rline16_any (x:Ex) (w:World) (h:ExIn w x) (hm:MayP x.en) :
  Calls Tryz.prog 22 #[aggEx x] w fun e w'=>e=.returned (.string (lineO x.en))∧Below w.heap.size w w':=by
 obtain ⟨N,hN⟩:∃N,w.heap.size=N:=⟨_,rfl⟩
 have HK:Hid (MayK w N x (w.alloc (.cells (encEx x).toArray 41))):=by rw [←hN];exact mayK_new h
 have HM:=hid hm
 have HN:=hid fun W=>rname16_yes x.kind W hm.k1 hm.k2
 obtain ⟨kd,hkd⟩:∃k:Int,x.kind=k:=⟨_,rfl⟩
 obtain ⟨sn,hsn⟩:∃n:Nat,x.stamp=n:=⟨x.stamp.toNat,by have:=h.t0;omega⟩
 have hsn1:sn≤18446744073709551615:=by have:=h.t1;omega
 obtain ⟨fi,hfi⟩:∃n:Nat,x.iff=n:=⟨x.iff.toNat,by
  by_cases q:x.iff=0
  ·omega
  ·have:0≤x.iff:=(hm.iff q).2.2.1
   omega⟩
 have hfi1:fi≤999999999:=by
  by_cases q:x.iff=0
  ·omega
  ·have:x.iff≤999999999:=(hm.iff q).2.2.2
   omega
 obtain ⟨nn,hnn⟩:∃n:Nat,x.num=n:=⟨x.num.toNat,by
  by_cases q:x.num=0
  ·omega
  ·have:0≤x.num:=(hm.num q).2.1
   omega⟩
 have hnn1:nn≤999999999:=by
  by_cases q:x.num=0
  ·omega
  ·have:x.num≤999999999:=(hm.num q).2.2
   omega
 have zka:x.ka.size≤32∧x.kb.size≤32:=by
  have hk:=hm.key
  unfold keyEn at hk
  split at hk
  ·simp only [Bool.and_eq_true,decide_eq_true_eq] at hk
   have h1:=typeB_len hk.2
   have h2:x.kb=⟨#[]⟩:=hk.1
   have e1:x.ka.data.toList.length=x.ka.size:=rfl
   refine ⟨?_,by rw [h2];exact Nat.zero_le _⟩
   have:x.en.ka.data.toList.length=x.ka.size:=rfl
   omega
  ·exact keyB_sizes hk
 have ztp:x.temp.size≤32:=by
  rcases hm.tmp with q|⟨_,q⟩
  ·have:x.temp=⟨#[]⟩:=q
   rw [this];exact Nat.zero_le _
  ·exact temp_le q
 obtain ⟨VL,hVL⟩:∃s,pieceS x.en 5=s:=⟨_,rfl⟩
 obtain ⟨PL,hPL⟩:∃s,pieceS x.en 7=s:=⟨_,rfl⟩
 obtain ⟨EL,hEL⟩:∃s,pieceS x.en 8=s:=⟨_,rfl⟩
 have HVW:Hid (VL.data.toList=joinW (wordsP x.en 5)):=hid (by rw [←hVL];exact piece_words hm 5 (by omega) (by omega))
 have HPW:Hid (PL.data.toList=joinW (wordsP x.en 7)):=hid (by rw [←hPL];exact piece_words hm 7 (by omega) (by omega))
 have HEW:Hid (EL.data.toList=joinW (wordsP x.en 8)):=hid (by rw [←hEL];exact piece_words hm 8 (by omega) (by omega))
 have zVL:VL.size≤83600:=by rw [←hVL];have:=line_size (fs:=x.en.val) hm.mayv;show (lineOf x.en.val).size≤_;omega
 have zPL:PL.size≤83600:=by rw [←hPL];exact lineM_le _
 have zEL:EL.size≤83600:=by rw [←hEL];exact prE_le _
 have HVP:Hid (∀W,ExIn W x→Calls Tryz.prog 42 #[.slice x.vp x.vo.length x.vc] W fun e w'=>e=.returned (.tuple #[.string VL,.int .i64 0])∧Below W.heap.size W w'):=hid fun W hW=>by
  rw [←hVL];exact rprint_yes x.vs x.vo W hW.val hW.fit hm.mayv
 have HPP:Hid (∀W,ExIn W x→Calls Tryz.prog 43 #[.slice x.pp x.po.length x.pc] W fun e w'=>e=.returned (.tuple #[.string PL,.int .i64 (mayM x.po)])∧Below W.heap.size W w'):=hid fun W hW=>by
  rw [←hPL];exact rprintM_any x.ps x.po W hW.prd hW.pfit
 have HEP:Hid (∀W,ExIn W x→Calls Tryz.prog 44 #[.slice x.ep x.eo.length x.ec] W fun e w'=>e=.returned (.tuple #[.string EL,.int .i64 (mayE x.eo)])∧Below W.heap.size W w'):=hid fun W hW=>by
  rw [←hEL];exact rprintE_any x.es x.eo W hW.eds hW.efit
 obtain ⟨ns,hns⟩:∃s,nameS x.kind=s:=⟨_,rfl⟩
 have zns:ns.size≤7:=by rw [←hns];exact name_le _
 obtain ⟨S1,hS1⟩:∃s,(if x.temp=⟨#[]⟩ then ns else ns++⟨#[32,64]⟩++x.temp)=s:=⟨_,rfl⟩
 have zS1:S1.size≤50:=by
  rw [←hS1];split
  ·omega
  ·rw [ByteArray.size_append,ByteArray.size_append]
   have e1:(⟨#[32,64]⟩:ByteArray).size=2:=rfl
   omega
 have zD:(decL sn).length≤20:=decL_len sn 19 (by omega)
 have zF:(decL fi).length≤9:=decL_len fi 8 (by omega)
 have zM:(decL nn).length≤9:=decL_len nn 8 (by omega)
 obtain ⟨D,hD⟩:∃s:ByteArray,⟨(decL sn).toArray⟩=s:=⟨_,rfl⟩
 obtain ⟨DF,hDF⟩:∃s:ByteArray,⟨(decL fi).toArray⟩=s:=⟨_,rfl⟩
 obtain ⟨DM,hDM⟩:∃s:ByteArray,⟨(decL nn).toArray⟩=s:=⟨_,rfl⟩
 have wD:D.data.toList=decL sn:=by rw [←hD]
 have wDF:DF.data.toList=decL fi:=by rw [←hDF]
 have wDM:DM.data.toList=decL nn:=by rw [←hDM]
 have zD':D.size≤20:=by rw [←hD,ba_sz];exact zD
 have zF':DF.size≤20:=by rw [←hDF,ba_sz];omega
 have zM':DM.size≤20:=by rw [←hDM,ba_sz];omega
 have HDC:Hid (∀W,Calls Tryz.prog 45 #[.int .u64 (sn:Nat)] W fun e w'=>e=.returned (.string D)∧Below W.heap.size W w'):=hid fun W=>by rw [←hD];exact rdec16_any sn W (by omega)
 have HDF:Hid (∀W,Calls Tryz.prog 45 #[.int .u64 (fi:Nat)] W fun e w'=>e=.returned (.string DF)∧Below W.heap.size W w'):=hid fun W=>by rw [←hDF];exact rdec16_any fi W (by omega)
 have HDM:Hid (∀W,Calls Tryz.prog 45 #[.int .u64 (nn:Nat)] W fun e w'=>e=.returned (.string DM)∧Below W.heap.size W w'):=hid fun W=>by rw [←hDM];exact rdec16_any nn W (by omega)
 obtain ⟨S2,hS2⟩:∃s,(if kd=11∨kd=12 then S1++⟨#[32]⟩++D else S1)=s:=⟨_,rfl⟩
 have one:(⟨#[32]⟩:ByteArray).size=1:=rfl
 have zS2:S2.size≤80:=by
  rw [←hS2];split
  ·rw [ByteArray.size_append,ByteArray.size_append];omega
  ·omega
 obtain ⟨S3,hS3⟩:∃s,S2++⟨#[32]⟩++x.ka=s:=⟨_,rfl⟩
 have zS3:S3.size≤120:=by rw [←hS3,ByteArray.size_append,ByteArray.size_append];omega
 obtain ⟨S4,hS4⟩:∃s,(if x.kb=⟨#[]⟩ then S3 else S3++⟨#[47]⟩++x.kb)=s:=⟨_,rfl⟩
 have zS4:S4.size≤160:=by
  rw [←hS4];split
  ·omega
  ·rw [ByteArray.size_append,ByteArray.size_append]
   have e1:(⟨#[47]⟩:ByteArray).size=1:=rfl
   omega
 have HH:Hid (S4.data.toList=joinW (headW x.en)):=hid (by
  have h1:S1.data.toList=joinW (nameK kd::(if x.temp=⟨#[]⟩ then [] else [64::x.temp.data.toList])):=by
   rw [←hS1,←hns,hkd]
   split
   ·rw [joinW_one];rfl
   ·rw [joinW_two,ba_append,ba_append];simp [nameS]
  have h2:S2.data.toList=joinW ((nameK kd::(if x.temp=⟨#[]⟩ then [] else [64::x.temp.data.toList]))++(if kd=11∨kd=12 then [decL sn] else [])):=by
   rw [←hS2]
   split
   ·rw [joinW_snoc16 (by simp),ba_append,ba_append,h1,wD];simp
   ·rw [List.append_nil,h1]
  have h3:S3.data.toList=S2.data.toList++32::x.ka.data.toList:=by rw [←hS3,ba_append,ba_append];simp
  have h4:S4.data.toList=S2.data.toList++32::keyWd x.en:=by
   rw [←hS4]
   unfold keyWd
   show _=S2.data.toList++32::(x.ka.data.toList++if x.kb=⟨#[]⟩ then [] else 47::x.kb.data.toList)
   split
   ·rw [h3];simp
   ·rw [ba_append,ba_append,h3];simp
  have e1:headW x.en=((nameK kd::(if x.temp=⟨#[]⟩ then [] else [64::x.temp.data.toList]))++(if kd=11∨kd=12 then [decL sn] else []))++[keyWd x.en]:=by
   unfold headW
   show nameK x.kind::((if x.temp=⟨#[]⟩ then [] else [64::x.temp.data.toList])++((if x.kind=11∨x.kind=12 then [decL x.stamp.toNat] else [])++[keyWd x.en]))=_
   rw [hkd,hsn]
   simp
  rw [h4,e1,joinW_snoc16 (by simp),h2])
 have hhn:headW x.en≠[]:=by unfold headW;simp
 have HE2:Hid (kd=2→wth16 (wth16 S4 VL++⟨#[32,63]⟩) PL=lineO x.en):=hid fun q=>line_of hm (by
  have t1:=wth_join hhn HH.out HVW.out (partW_ne hm 5 (by omega) (by omega))
  have t2:(wth16 S4 VL++⟨#[32,63]⟩).data.toList=joinW ((headW x.en++wordsP x.en 5)++[[63]]):=by
   rw [ba_append,t1,joinW_snoc16 (by simp [hhn])]
  rw [wth_join (by simp) t2 HPW.out (partW_ne hm 7 (by omega) (by omega)),tail_two (show x.kind=2 by rw [hkd,q])]
  simp)
 have HE7:Hid (kd=7→S4++⟨#[32]⟩++DM=lineO x.en):=hid fun q=>line_of hm (by
  have e1:x.en.num.toNat=nn:=by show x.num.toNat=nn;rw [hnn];rfl
  rw [tail_seven (show x.kind=7 by rw [hkd,q]),joinW_snoc16 hhn,ba_append,ba_append,HH.out,wDM,e1]
  simp)
 have HE9:Hid (kd=9∨kd=10→S4++⟨#[32]⟩++D=lineO x.en):=hid fun q=>line_of hm (by
  have e1:x.en.stamp.toNat=sn:=by show x.stamp.toNat=sn;rw [hsn];rfl
  rw [tail_nine (show x.kind=9∨x.kind=10 by rw [hkd];exact q),joinW_snoc16 hhn,ba_append,ba_append,HH.out,wD,e1]
  simp)
 obtain ⟨S5,hS5⟩:∃s,(if 0<fi then S4++⟨#[32,105,102,32]⟩++DF else S4)=s:=⟨_,rfl⟩
 have zS5:S5.size≤200:=by
  rw [←hS5];split
  ·rw [ByteArray.size_append,ByteArray.size_append]
   have e1:(⟨#[32,105,102,32]⟩:ByteArray).size=4:=rfl
   omega
  ·omega
 have HEX:Hid (¬ kd=2→¬ kd=7→¬ kd=9→¬ kd=10→wth16 (wth16 (wth16 S5 VL) EL) PL=lineO x.en):=hid fun q2 q7 q9 q10=>line_of hm (by
  have e1:x.en.iff.toNat=fi:=by show x.iff.toNat=fi;rw [hfi];rfl
  have t0:S5.data.toList=joinW (headW x.en++(if 0<x.en.iff then [[105,102],decL x.en.iff.toNat] else [])):=by
   rw [←hS5,e1]
   have e2:x.en.iff=(fi:Int):=hfi
   rw [e2]
   by_cases q:0<fi
   ·rw [if_pos q,if_pos (by omega),joinW_app _ hhn (by simp),joinW_two,ba_append,ba_append,HH.out,wDF];simp
   ·rw [if_neg q,if_neg (by omega),List.append_nil,HH.out]
  have n0:headW x.en++(if 0<x.en.iff then [[105,102],decL x.en.iff.toNat] else [])≠[]:=by simp [hhn]
  have t1:=wth_join n0 t0 HVW.out (partW_ne hm 5 (by omega) (by omega))
  have t2:=wth_join (by simp [hhn]) t1 HEW.out (partW_ne hm 8 (by omega) (by omega))
  rw [wth_join (by simp [hhn]) t2 HPW.out (partW_ne hm 7 (by omega) (by omega)),tail_else (by show x.kind≠2;rw [hkd];exact q2) (by show x.kind≠7;rw [hkd];exact q7) (by show x.kind≠9;rw [hkd];exact q9) (by show x.kind≠10;rw [hkd];exact q10)]
  simp)
 have HC:Hid (∀W,MayK w N x W→W.cell? ⟨N,0,none⟩=some (.int .i64 kd)∧W.cell? ⟨N,1,none⟩=some (.string x.temp)∧W.cell? ⟨N,2,none⟩=some (.string x.ka)∧W.cell? ⟨N,3,none⟩=some (.string x.kb)∧W.cell? ⟨N,4,none⟩=some (.int .i64 (fi:Int))∧W.cell? ⟨N,5,none⟩=some (.slice x.vp x.vo.length x.vc)∧W.cell? ⟨N,6,none⟩=some (.slice x.ep x.eo.length x.ec)∧W.cell? ⟨N,7,none⟩=some (.slice x.pp x.po.length x.pc)∧W.cell? ⟨N,8,none⟩=some (.int .u64 (sn:Int))∧W.cell? ⟨N,9,none⟩=some (.int .i64 (nn:Int))):=hid (by
  rw [←hkd,←hsn,←hfi,←hnn]
  exact fun W hW=>hW.cells)
 rw [hns,hkd] at HN
 have HS1:=hid hS1
 have HS2:=hid hS2
 have HS3:=hid hS3
 have HS4:=hid hS4
 have HS5:=hid hS5
 have hW1:=HC.out _ HK.out
 have HEQ:Hid (aggEx x=.agg #[.int .i64 kd,.string x.temp,.string x.ka,.string x.kb,.int .i64 (fi:Int),.slice x.vp x.vo.length x.vc,.slice x.ep x.eo.length x.ec,.slice x.pp x.po.length x.pc,.int .u64 (sn:Int),.int .i64 (nn:Int)]):=hid (by rw [←hkd,←hsn,←hfi,←hnn];rfl)
 have HEC:Hid (encEx x=[.int .i64 kd,.string x.temp,.string x.ka,.string x.kb,.int .i64 (fi:Int),.slice x.vp x.vo.length x.vc,.slice x.ep x.eo.length x.ec,.slice x.pp x.po.length x.pc,.int .u64 (sn:Int),.int .i64 (nn:Int)]):=hid (by rw [←hkd,←hsn,←hfi,←hnn];rfl)
 rw [HEQ.out]
 rw [HEC.out] at HK hW1
 clear hS1 hS2 hS3 hS4 hS5 hVL hPL hEL hns hkd hsn hfi hnn hD hDF hDM wD wDF wDM hm h HEQ HEC zD zF zM hhn HVW HPW HEW
 have RW:∀s t:ByteArray,s.size≤100000000→t.size≤100000000→Hid (∀W,Calls Tryz.prog 46 #[.string s,.string t] W fun e w'=>e=.returned (.string (wth16 s t))∧w'=W):=fun s t h1 h2=>hid fun W=>rwith16_any s t W h1 h2
 have HRW:=hid RW
 clear RW
 obtain ⟨c0,c1,c2,c3,c4,c5,c6,c7,c8,c9⟩:=hW1
 go_enter Tryz.func22,Tryz.ntmps22
 go_upto_if 33 with (first|(go_at_call 41;refine (HN.out _).mono ?_;rintro e w1 ⟨rfl,q1⟩;have K1:=hid (HK.out.on q1);clear q1 c0 c1 c2 c3 c4 c5 c6 c7 c8 c9;obtain ⟨c0,c1,c2,c3,c4,c5,c6,c7,c8,c9⟩:=HC.out _ K1.out)|(go_at_call 42;refine (HVP.out _ K1.out.ex).mono ?_;rintro e w2 ⟨rfl,q2⟩;have K2:=hid (K1.out.on q2);clear q2 c0 c1 c2 c3 c4 c5 c6 c7 c8 c9;obtain ⟨c0,c1,c2,c3,c4,c5,c6,c7,c8,c9⟩:=HC.out _ K2.out)|(go_at_call 43;refine (HPP.out _ K2.out.ex).mono ?_;rintro e w3 ⟨rfl,q3⟩;have K3:=hid (K2.out.on q3);clear q3 c0 c1 c2 c3 c4 c5 c6 c7 c8 c9;obtain ⟨c0,c1,c2,c3,c4,c5,c6,c7,c8,c9⟩:=HC.out _ K3.out)|(go_at_call 44;refine (HEP.out _ K3.out.ex).mono ?_;rintro e w4 ⟨rfl,q4⟩;have K4:=hid (K3.out.on q4);clear q4 c0 c1 c2 c3 c4 c5 c6 c7 c8 c9;obtain ⟨c0,c1,c2,c3,c4,c5,c6,c7,c8,c9⟩:=HC.out _ K4.out))
 go_cut [3] from 10 (fun v3 wx=>v3=.string S1∧Hid (MayK w N x wx))
 case first =>
  by_cases q:x.temp=⟨#[]⟩
  ·have hse:x.temp.toList.isEmpty=true:=by rw [q,Lib.toList_data];rfl
   have E:Hid (ns=S1):=hid (by rw [←HS1.out,if_pos q])
   clear q
   rw [hse]
   go_wp2_with fail
   go_meet
   case rel=>exact ⟨by rw [E.out],K4⟩
  ·have hse:=isEmpty_no16 q
   have E:Hid (ns++⟨#[32,64]⟩++x.temp=S1):=hid (by rw [←HS1.out,if_neg q])
   clear q
   rw [hse]
   go_wp2_with fail
   go_meet
   case rel=>exact ⟨by rw [E.out],K4⟩
 case rest =>
 obtain ⟨rfl,K5⟩:=hcut
 clear c0 c1 c2 c3 c4 c5 c6 c7 c8 c9 K4
 obtain ⟨c0,c1,c2,c3,c4,c5,c6,c7,c8,c9⟩:=HC.out _ K5.out
 go_upto_region 7 with fail
 go_cut [46] from 10 (fun v46 wx=>v46=.bool (decide (kd=11∨kd=12))∧Hid (MayK w N x wx))
 case first =>
  by_cases e11:kd=11
  ·have E:Hid (decide (kd=11∨kd=12)=true):=hid (decide_eq_true (Or.inl e11))
   have b11:(kd==11)=true:=by rw [beq_iff_eq];exact e11
   clear e11
   go_wp2_with fail
   go_meet
   case rel=>exact ⟨by rw [E.out],K5⟩
  have b11:(kd==11)=false:=by rw [beq_eq_false_iff_ne];exact e11
  by_cases e12:kd=12
  ·have E:Hid (decide (kd=11∨kd=12)=true):=hid (decide_eq_true (Or.inr e12))
   have b12:(kd==12)=true:=by rw [beq_iff_eq];exact e12
   clear e11 e12
   go_wp2_with fail
   go_meet
   case rel=>exact ⟨by rw [E.out],K5⟩
  have b12:(kd==12)=false:=by rw [beq_eq_false_iff_ne];exact e12
  have E:Hid (decide (kd=11∨kd=12)=false):=hid (decide_eq_false (by omega))
  clear e11 e12
  go_wp2_with fail
  go_meet
  case rel=>exact ⟨by rw [E.out],K5⟩
 case rest =>
 obtain ⟨rfl,K6⟩:=hcut
 clear c0 c1 c2 c3 c4 c5 c6 c7 c8 c9 K5
 obtain ⟨c0,c1,c2,c3,c4,c5,c6,c7,c8,c9⟩:=HC.out _ K6.out
 go_upto_if 46 with fail
 go_cut [3] from 10 (fun v3 wx=>v3=.string S2∧Hid (MayK w N x wx))
 case first =>
  by_cases e:kd=11∨kd=12
  ·have E1:decide (kd=11∨kd=12)=true:=decide_eq_true e
   have E2:Hid (S1++⟨#[32]⟩++D=S2):=hid (by rw [←HS2.out,if_pos e])
   rw [E1]
   clear e E1
   go_wp2_with (first|(go_at_call 45;refine (HDC.out _).mono ?_;rintro e w7 ⟨rfl,q7⟩;have K7:=hid (K6.out.on q7);clear q7))
   go_meet
   case rel=>exact ⟨by rw [E2.out],K7⟩
  ·have E1:decide (kd=11∨kd=12)=false:=decide_eq_false e
   have E2:Hid (S1=S2):=hid (by rw [←HS2.out,if_neg e])
   rw [E1]
   clear e E1
   go_wp2_with fail
   go_meet
   case rel=>exact ⟨by rw [E2.out],K6⟩
 case rest =>
 obtain ⟨rfl,K7⟩:=hcut
 clear c0 c1 c2 c3 c4 c5 c6 c7 c8 c9 K6
 obtain ⟨c0,c1,c2,c3,c4,c5,c6,c7,c8,c9⟩:=HC.out _ K7.out
 go_upto_if 62 with fail
 go_cut [3] from 10 (fun v3 wx=>v3=.string S4∧Hid (MayK w N x wx))
 case first =>
  by_cases q:x.kb=⟨#[]⟩
  ·have hse:x.kb.toList.isEmpty=true:=by rw [q,Lib.toList_data];rfl
   have E:Hid (S2++⟨#[32]⟩++x.ka=S4):=hid (by rw [←HS4.out,if_pos q,HS3.out])
   clear q
   rw [hse]
   go_wp2_with fail
   go_meet
   case rel=>exact ⟨by rw [E.out],K7⟩
  ·have hse:=isEmpty_no16 q
   have E:Hid (S2++⟨#[32]⟩++x.ka++⟨#[47]⟩++x.kb=S4):=hid (by rw [←HS4.out,if_neg q,HS3.out])
   clear q
   rw [hse]
   go_wp2_with fail
   go_meet
   case rel=>exact ⟨by rw [E.out],K7⟩
 case rest =>
 obtain ⟨rfl,K8⟩:=hcut
 clear c0 c1 c2 c3 c4 c5 c6 c7 c8 c9 K7
 obtain ⟨c0,c1,c2,c3,c4,c5,c6,c7,c8,c9⟩:=HC.out _ K8.out
 have two:(⟨#[32,63]⟩:ByteArray).size=2:=rfl
 by_cases k2:kd=2
 case pos =>
  have R1:=HRW.out S4 VL (by omega) (by omega)
  have R2:=HRW.out (wth16 S4 VL++⟨#[32,63]⟩) PL (by rw [ByteArray.size_append];have:=wth_size S4 VL;omega) (by omega)
  have zT:(wth16 S4 VL).size≤100000:=by have:=wth_size S4 VL;omega
  have E:=hid (HE2.out k2)
  obtain ⟨T1,hT1⟩:∃s,wth16 S4 VL=s:=⟨_,rfl⟩
  rw [hT1] at R1 R2 E zT
  subst k2
  clear hT1
  go_wp2_with fail
  refine (R1.out _).mono ?_
  rintro e w9 ⟨rfl,rfl⟩
  go_wp2_with fail
  refine (R2.out _).mono ?_
  rintro e w9 ⟨rfl,rfl⟩
  go_wp2_with fail
  go_ret
  exact ⟨by first|(rw [E.out];done)|(rw [E.out];rfl),K8.out.bel⟩
 have b2:(kd==2)=false:=by rw [beq_eq_false_iff_ne];exact k2
 by_cases k7:kd=7
 case pos =>
  have E:=hid (HE7.out k7)
  subst k7
  clear k2 b2
  go_wp2_with fail
  refine (HDM.out _).mono ?_
  rintro e w9 ⟨rfl,q9⟩
  have K9:=hid (K8.out.on q9)
  clear q9
  go_wp2_with fail
  go_ret
  exact ⟨by first|(rw [E.out];done)|(rw [E.out];rfl),K9.out.bel⟩
 have b7:(kd==7)=false:=by rw [beq_eq_false_iff_ne];exact k7
 by_cases k9:kd=9
 case pos =>
  have E:=hid (HE9.out (Or.inl k9))
  subst k9
  clear k2 b2 k7 b7
  go_wp2_with fail
  refine (HDC.out _).mono ?_
  rintro e w9 ⟨rfl,q9⟩
  have K9:=hid (K8.out.on q9)
  clear q9
  go_wp2_with fail
  go_ret
  exact ⟨by first|(rw [E.out];done)|(rw [E.out];rfl),K9.out.bel⟩
 have b9:(kd==9)=false:=by rw [beq_eq_false_iff_ne];exact k9
 by_cases k10:kd=10
 case pos =>
  have E:=hid (HE9.out (Or.inr k10))
  subst k10
  clear k2 b2 k7 b7 k9 b9
  go_wp2_with fail
  refine (HDC.out _).mono ?_
  rintro e w9 ⟨rfl,q9⟩
  have K9:=hid (K8.out.on q9)
  clear q9
  go_wp2_with fail
  go_ret
  exact ⟨by first|(rw [E.out];done)|(rw [E.out];rfl),K9.out.bel⟩
 have b10:(kd==10)=false:=by rw [beq_eq_false_iff_ne];exact k10
 have E:=hid (HEX.out k2 k7 k9 k10)
 clear k2 k7 k9 k10
 have R1:=HRW.out S5 VL (by omega) (by omega)
 have zT1:(wth16 S5 VL).size≤100000:=by have:=wth_size S5 VL;omega
 obtain ⟨T1,hT1⟩:∃s,wth16 S5 VL=s:=⟨_,rfl⟩
 rw [hT1] at R1 E zT1
 have R2:=HRW.out T1 EL (by omega) (by omega)
 have zT2:(wth16 T1 EL).size≤200000:=by have:=wth_size T1 EL;omega
 obtain ⟨T2,hT2⟩:∃s,wth16 T1 EL=s:=⟨_,rfl⟩
 rw [hT2] at R2 E zT2
 have R3:=HRW.out T2 PL (by omega) (by omega)
 clear hT1 hT2
 go_upto_if 99 with fail
 go_cut [3] from 10 (fun v3 wx=>v3=.string S5∧Hid (MayK w N x wx))
 case first =>
  by_cases q:0<fi
  ·have qz:(0:Int)<(fi:Int):=by omega
   have E2:Hid (S4++⟨#[32,105,102,32]⟩++DF=S5):=hid (by rw [←HS5.out,if_pos q])
   go_wp2_with fail
   refine (HDF.out _).mono ?_
   rintro e w9 ⟨rfl,q9⟩
   have K9:=hid (K8.out.on q9)
   clear q9
   go_wp2_with fail
   go_meet
   case rel=>exact ⟨by rw [E2.out],K9⟩
  ·have qz:¬ (0:Int)<(fi:Int):=by omega
   have E2:Hid (S4=S5):=hid (by rw [←HS5.out,if_neg q])
   go_wp2_with fail
   go_meet
   case rel=>exact ⟨by rw [E2.out],K8⟩
 case rest =>
 obtain ⟨rfl,K9⟩:=hcut
 go_wp2_with fail
 refine (R1.out _).mono ?_
 rintro e w9 ⟨rfl,rfl⟩
 go_wp2_with fail
 refine (R2.out _).mono ?_
 rintro e w9 ⟨rfl,rfl⟩
 go_wp2_with fail
 refine (R3.out _).mono ?_
 rintro e w9 ⟨rfl,rfl⟩
 go_wp2_with fail
 go_ret
 exact ⟨by first|(rw [E.out];done)|(rw [E.out];rfl),K9.out.bel⟩
end
section
open Go.RowKit
theorem ansM_len16 (p:List Tm):(ansM p).length≤8:=by
 unfold ansM
 by_cases hm:mayM p=0
 ·rw [if_pos hm]
  have:=sortM_len p
  have:=(mayM_zero hm).1
  omega
 ·rw [if_neg hm];simp
set_option maxHeartbeats 40000000 in
set_option maxRecDepth 100000 in
theorem rmay16_in (x:Ex) (w:World) (h:ExIn w x) (h1:1≤x.kind) (h2:x.kind≤12) :
  Calls Tryz.prog 40 #[aggEx x] w fun e w'=>e=.returned (.bool (mayEn x.en))∧Below w.heap.size w w':=by
 obtain ⟨N,hN⟩:∃N,w.heap.size=N:=⟨_,rfl⟩
 have HK:Hid (MayK w N x (w.alloc (.cells (encEx x).toArray 41))):=by rw [←hN];exact mayK_new h
 have HN:=hid fun W=>rname16_yes x.kind W h1 h2
 have hne:=name_ne x.kind h1 h2
 have HNO:Hid (∀P:Prop,¬ P→(mayEn x.en=true→P)→mayEn x.en=false):=fun P hp hq=>by
  cases hm:mayEn x.en with
  | false=>rfl
  | true=>exact absurd (hq hm) hp
 obtain ⟨n,hn⟩:∃n,nameS x.kind=n:=⟨_,rfl⟩
 rw [hn] at HN hne
 clear hn
 have hta:=h.ka
 have htb:=h.kb
 have HTY:=hid fun W=>rtype_any x.ka W hta
 have HKY:=hid fun W=>rkey_any x.ka x.kb W hta htb
 have HKF:Hid (keyEn x.en=false→mayEn x.en=false):=fun q=>HNO.out (keyEn x.en=true) (by rw [q];decide) fun hm=>(mayEn_parts hm).key
 have HKT:Hid (typedK x.kind=true→keyEn x.en=(decide (x.kb=⟨#[]⟩)&&typeB x.ka.data.toList)):=fun q=>by unfold keyEn;exact if_pos q
 have HKN:Hid (¬ typedK x.kind=true→keyEn x.en=keyB x.ka x.kb):=fun q=>by unfold keyEn;exact if_neg q
 obtain ⟨t1,ht1⟩:∃t,(decide (x.temp=⟨#[]⟩)||decide (x.kind≤2)&&tempB x.temp.data.toList)=t:=⟨_,rfl⟩
 obtain ⟨t2,ht2⟩:∃t,decide (x.iff≠0→3≤x.kind∧x.kind≤5∧0≤x.iff∧x.iff≤999999999)=t:=⟨_,rfl⟩
 obtain ⟨t3,ht3⟩:∃t,decide (x.num≠0→x.kind=7∧0≤x.num∧x.num≤999999999)=t:=⟨_,rfl⟩
 obtain ⟨t4,ht4⟩:∃t,decide (x.stamp≠0→9≤x.kind)=t:=⟨_,rfl⟩
 obtain ⟨t5,ht5⟩:∃t,(decide (x.vo.map Fx.fld≠[]→x.kind≤3)&&mayB (x.vo.map Fx.fld))=t:=⟨_,rfl⟩
 obtain ⟨t6,ht6⟩:∃t,(decide (x.eo≠[]↔x.kind=4)&&decide (mayE x.eo=0))=t:=⟨_,rfl⟩
 obtain ⟨t7,ht7⟩:∃t,((decide (mayM x.po=0)&&decide (sortM x.po=x.po))&&decide (x.po≠[]→x.kind=2∨x.kind=8∨x.kind=12))=t:=⟨_,rfl⟩
 have HAL:Hid (mayEn x.en=(keyEn x.en&&t1&&t2&&t3&&t4&&t5&&t6&&t7)):=hid (by
  rw [←ht1,←ht2,←ht3,←ht4,←ht5,←ht6,←ht7]
  unfold mayEn
  have:decide (1≤x.en.kind∧x.en.kind≤12)=true:=decide_eq_true ⟨h1,h2⟩
  rw [this]
  simp only [Bool.true_and,Bool.and_assoc]
  rfl)
 have H1:=hid ht1
 have H2:=hid ht2
 have H3:=hid ht3
 have H4:=hid ht4
 have H5:=hid ht5
 have H6:=hid ht6
 have H7:=hid ht7
 clear ht1 ht2 ht3 ht4 ht5 ht6 ht7
 have htt:=h.temp
 have HTE:=hid fun W=>rtemp_any x.temp W htt
 have HVL:x.vo.length≤maxLen:=h.fit.1
 have HEL:x.eo.length≤maxLen:=h.efit.1
 have HPL:x.po.length≤maxLen:=h.pfit.1
 have HVM:Hid (∀W,ExIn W x→Calls Tryz.prog 75 #[.slice x.vp x.vo.length x.vc] W fun e w'=>e=.returned (.bool (mayB (x.vo.map Fx.fld)))∧Below W.heap.size W w'):=hid fun W hW=>(rmay_any x.vs x.vo W hW.val hW.fit).mono fun e w' ⟨a,b⟩=>⟨a,b.below⟩
 have HEM:Hid (∀W,ExIn W x→Calls Tryz.prog 76 #[.slice x.ep x.eo.length x.ec] W fun e w'=>e=.returned (.int .i64 (mayE x.eo))∧w'=W):=hid fun W hW=>rmayE_any x.es x.eo W hW.eds hW.efit
 have HPN:Hid (∀W,ExIn W x→Calls Tryz.prog 77 #[.slice x.pp x.po.length x.pc] W fun e w'=>∃u,e=.returned (.tuple #[u,.int .i64 (mayM x.po)])∧KM.Is w' u (ansM x.po)∧Below W.heap.size W w'):=hid fun W hW=>(rnormM_any x.ps x.po W hW.prd hW.pfit).mono fun e w' ⟨⟨u,a,b⟩,c⟩=>⟨u,a,Kind.own_is b,c⟩
 have HPS:Hid (∀W u,ExIn W x→KM.Is W u (ansM x.po)→Calls Tryz.prog 31 #[u,.slice x.pp x.po.length x.pc] W fun e w'=>e=.returned (.bool (decide (ansM x.po=x.po)))∧Below W.heap.size W w'):=hid fun W u hW hu=>(rsameM_any u x.ps (ansM x.po) x.po W hu hW.prd (by have:=ansM_len16 x.po;unfold maxLen;omega)).mono fun e w' ⟨a,n,b⟩=>⟨a,by subst b;exact bel_drewN (Below.refl _ _) n⟩
 obtain ⟨c0,-⟩:=HK.out.cells
 have h0:=h
 clear h
 have H:=hid h0
 clear h0
 unfold aggEx
 have HC:Hid (∀W,MayK w N x W→W.cell? ⟨N,0,none⟩=some (.int .i64 x.kind)∧W.cell? ⟨N,1,none⟩=some (.string x.temp)∧W.cell? ⟨N,2,none⟩=some (.string x.ka)∧W.cell? ⟨N,3,none⟩=some (.string x.kb)∧W.cell? ⟨N,4,none⟩=some (.int .i64 x.iff)∧W.cell? ⟨N,5,none⟩=some (.slice x.vp x.vo.length x.vc)∧W.cell? ⟨N,6,none⟩=some (.slice x.ep x.eo.length x.ec)∧W.cell? ⟨N,7,none⟩=some (.slice x.pp x.po.length x.pc)∧W.cell? ⟨N,8,none⟩=some (.int .u64 x.stamp)∧W.cell? ⟨N,9,none⟩=some (.int .i64 x.num)):=fun W hW=>hW.cells
 simp only [encEx,Ex.vs,Ex.es,Ex.ps] at HK c0 ⊢
 go_enter Tryz.func40,Tryz.ntmps40
 go_upto_if 11 with (first|(go_at_call 41;refine (HN.out _).mono ?_;rintro e w1 ⟨rfl,q1⟩;have K1:=hid (HK.out.on q1);clear q1 HK c0))
 go_cut [1,3] from 7 (fun v1 v3 wx=>v1=.pointer (some ⟨N,0,none⟩)∧v3=.int .i64 x.kind∧Hid (MayK w N x wx))
 case first =>
  as_aux_lemma =>
   go_wp2_with fail
   go_meet
   case rel=>exact ⟨rfl,rfl,K1.out⟩
 case rest =>
  obtain ⟨rfl,rfl,K2⟩:=hcut
  clear K1 hne HN
  go_upto_region 4 with fail
  go_cut [1,3,4] from 7 (fun v1 v3 v4 wx=>v1=.pointer (some ⟨N,0,none⟩)∧v3=.int .i64 x.kind∧v4=.bool (typedK x.kind)∧Hid (MayK w N x wx))
  case first =>
   as_aux_lemma =>
    by_cases e8:x.kind=8
    ·have HT:Hid (typedK x.kind=true):=by show _=_;rw [e8];rfl
     go_wp2_with fail
     go_meet
     case rel=>exact ⟨rfl,by rw [e8],by rw [HT.out],K2.out⟩
    by_cases e10:x.kind=10
    ·have HT:Hid (typedK x.kind=true):=by show _=_;rw [e10];rfl
     go_wp2_with fail
     go_meet
     case rel=>exact ⟨rfl,by rw [e10],by rw [HT.out],K2.out⟩
    by_cases e12:x.kind=12
    ·have HT:Hid (typedK x.kind=true):=by show _=_;rw [e12];rfl
     go_wp2_with fail
     go_meet
     case rel=>exact ⟨rfl,by rw [e12],by rw [HT.out],K2.out⟩
    have HT:Hid (typedK x.kind=false):=by show _=_;unfold typedK;simp [e8,e10,e12]
    have b8:(x.kind==8)=false:=by rw [beq_eq_false_iff_ne];exact e8
    have b10:(x.kind==10)=false:=by rw [beq_eq_false_iff_ne];exact e10
    have b12:(x.kind==12)=false:=by rw [beq_eq_false_iff_ne];exact e12
    go_wp2_with fail
    go_meet
    case rel=>exact ⟨rfl,rfl,by rw [HT.out],K2.out⟩
  case rest =>
  obtain ⟨rfl,rfl,rfl,K3⟩:=hcut
  clear K2
  go_upto_region 5 with fail
  go_cut [1,3,4,45] from 7 (fun v1 v3 _ v45 wx=>v1=.pointer (some ⟨N,0,none⟩)∧v3=.int .i64 x.kind∧v45=.bool (!keyEn x.en)∧Hid (MayK w N x wx))
  case first =>
   as_aux_lemma =>
    obtain ⟨d0,d1,d2,d3,d4,d5,d6,d7,d8,d9⟩:=HC.out wc K3.out
    cases ht:typedK x.kind with
    | true =>
     have HKE:=hid (HKT.out ht)
     clear HKT HKN
     by_cases eb:x.kb=⟨#[]⟩
     ·have hbe:x.kb.toList.isEmpty=true:=by rw [eb,Lib.toList_data];rfl
      have HKE2:Hid (keyEn x.en=typeB x.ka.data.toList):=by show _=_;rw [HKE.out,eb];simp
      clear eb
      cases hty:typeB x.ka.data.toList
      all_goals
       rw [hty] at HTY HKE2
       clear hty
       go_wp2_with (first|(go_at_call 72;refine (HTY.out _).mono ?_;rintro e w2 ⟨rfl,rfl⟩))
       go_meet
       case rel=>exact ⟨rfl,rfl,by rw [HKE2.out];rfl,K3.out⟩
     ·have hbe:x.kb.toList.isEmpty=false:=by
       rw [Lib.toList_data]
       cases hq:x.kb.data.toList with
       | nil=>exact absurd (ba_empty hq) eb
       | cons _ _=>rfl
      have HKE2:Hid (keyEn x.en=false):=by show _=_;rw [HKE.out];simp [eb]
      clear eb
      go_wp2_with fail
      go_meet
      case rel=>exact ⟨rfl,rfl,by rw [HKE2.out];rfl,K3.out⟩
    | false =>
     have HKE:=hid (HKN.out (by rw [ht];decide))
     clear HKT HKN
     go_wp2_with (first|(go_at_call 73;refine (HKY.out _).mono ?_;rintro e w2 ⟨rfl,q2⟩))
     go_meet
     case rel=>exact ⟨rfl,rfl,by rw [HKE.out],K3.out.on q2⟩
  case rest =>
  obtain ⟨rfl,rfl,rfl,K4⟩:=hcut
  clear K3 HKT HKN HTY HKY
  cases hke:keyEn x.en with
  | false =>
   have HF:=hid (HKF.out hke)
   go_wp2_with fail
   go_ret
   rw [HF.out]
   exact ⟨rfl,K4.out.bel⟩
  | true =>
   have HKE1:Hid (keyEn x.en=true):=hid hke
   clear hke
   go_upto_region 7 with fail
   go_cut [1,3,58] from 7 (fun v1 v3 v58 wx=>v1=.pointer (some ⟨N,0,none⟩)∧v3=.int .i64 x.kind∧v58=.bool (!t1)∧Hid (MayK w N x wx))
   case first =>
    as_aux_lemma =>
     obtain ⟨-,d1,-⟩:=HC.out _ K4.out
     by_cases q:x.temp=⟨#[]⟩
     ·have hse:x.temp.toList.isEmpty=true:=by rw [q,Lib.toList_data];rfl
      have E:Hid (t1=true):=hid (by rw [←H1.out];simp [q])
      clear q
      go_wp2_with fail
      go_meet
      case rel=>exact ⟨rfl,rfl,by rw [E.out];rfl,K4.out⟩
     ·have hse:=isEmpty_no16 q
      by_cases q2:2<x.kind
      ·have E:Hid (t1=false):=hid (by rw [←H1.out];simp [q];omega)
       clear q
       go_wp2_with fail
       go_meet
       case rel=>exact ⟨rfl,rfl,by rw [E.out];rfl,K4.out⟩
      ·have E:Hid (t1=tempB x.temp.data.toList):=hid (by rw [←H1.out,decide_eq_false q,decide_eq_true (show x.kind≤2 by omega)];rfl)
       clear q
       obtain ⟨tb,htb⟩:∃tb,tempB x.temp.data.toList=tb:=⟨_,rfl⟩
       rw [htb] at E HTE
       clear htb
       go_wp2_with (first|(go_at_call 74;refine (HTE.out _).mono ?_;rintro e w2 ⟨rfl,rfl⟩))
       go_meet
       case rel=>exact ⟨rfl,rfl,by rw [E.out],K4.out⟩
   case rest =>
   obtain ⟨rfl,rfl,rfl,K5⟩:=hcut
   clear K4 HTE
   cases t1 with
   | false =>
    go_wp2_with fail
    go_ret
    exact ⟨by rw [HAL.out];simp,K5.out.bel⟩
   | true =>
   go_upto_region 9 with fail
   go_cut [1,3,79] from 7 (fun v1 v3 v79 wx=>v1=.pointer (some ⟨N,0,none⟩)∧v3=.int .i64 x.kind∧v79=.bool (!t2)∧Hid (MayK w N x wx))
   case first =>
    as_aux_lemma =>
     obtain ⟨-,-,-,-,d4,-⟩:=HC.out _ K5.out
     by_cases q:x.iff=0
     ·skip
      have E:Hid (t2=true):=hid (by rw [←H2.out];exact decide_eq_true (by omega))
      go_wp2_with fail
      go_meet
      case rel=>exact ⟨rfl,by first|rfl|simp [*],by rw [E.out];rfl,K5.out⟩
     have Bq:(x.iff==0)=false:=by rw [beq_eq_false_iff_ne];exact q
     have Cq:(x.iff != 0)=true:=by rw [bne_iff_ne];exact q
     by_cases r1:x.kind<3
     ·skip
      have E:Hid (t2=false):=hid (by rw [←H2.out];exact decide_eq_false (by omega))
      go_wp2_with fail
      go_meet
      case rel=>exact ⟨rfl,by first|rfl|simp [*],by rw [E.out];rfl,K5.out⟩
     by_cases r2:5<x.kind
     ·skip
      have E:Hid (t2=false):=hid (by rw [←H2.out];exact decide_eq_false (by omega))
      go_wp2_with fail
      go_meet
      case rel=>exact ⟨rfl,by first|rfl|simp [*],by rw [E.out];rfl,K5.out⟩
     by_cases r3:x.iff<0
     ·skip
      have E:Hid (t2=false):=hid (by rw [←H2.out];exact decide_eq_false (by omega))
      go_wp2_with fail
      go_meet
      case rel=>exact ⟨rfl,by first|rfl|simp [*],by rw [E.out];rfl,K5.out⟩
     by_cases r4:999999999<x.iff
     ·skip
      have E:Hid (t2=false):=hid (by rw [←H2.out];exact decide_eq_false (by omega))
      go_wp2_with fail
      go_meet
      case rel=>exact ⟨rfl,by first|rfl|simp [*],by rw [E.out];rfl,K5.out⟩
     have E:Hid (t2=true):=hid (by rw [←H2.out];exact decide_eq_true (by omega))
     clear q
     go_wp2_with fail
     go_meet
     case rel=>exact ⟨rfl,by first|rfl|simp [*],by rw [E.out];rfl,K5.out⟩
   case rest =>
   obtain ⟨rfl,rfl,rfl,K6⟩:=hcut
   clear K5
   cases t2 with
   | false =>
    go_wp2_with fail
    go_ret
    exact ⟨by rw [HAL.out];simp,K6.out.bel⟩
   | true =>
   go_upto_region 11 with fail
   go_cut [1,3,96] from 7 (fun v1 v3 v96 wx=>v1=.pointer (some ⟨N,0,none⟩)∧v3=.int .i64 x.kind∧v96=.bool (!t3)∧Hid (MayK w N x wx))
   case first =>
    as_aux_lemma =>
     obtain ⟨-,-,-,-,-,-,-,-,-,d9⟩:=HC.out _ K6.out
     by_cases q:x.num=0
     ·skip
      have E:Hid (t3=true):=hid (by rw [←H3.out];exact decide_eq_true (by omega))
      go_wp2_with fail
      go_meet
      case rel=>exact ⟨rfl,by first|rfl|simp [*],by rw [E.out];rfl,K6.out⟩
     have Bq:(x.num==0)=false:=by rw [beq_eq_false_iff_ne];exact q
     have Cq:(x.num != 0)=true:=by rw [bne_iff_ne];exact q
     by_cases r1:¬ x.kind=7
     ·have Br1:(x.kind==7)=false:=by rw [beq_eq_false_iff_ne];exact r1
      have Cr1:(x.kind != 7)=true:=by rw [bne_iff_ne];exact r1
      have E:Hid (t3=false):=hid (by rw [←H3.out];exact decide_eq_false (by omega))
      clear r1
      go_wp2_with fail
      go_meet
      case rel=>exact ⟨rfl,by first|rfl|simp [*],by rw [E.out];rfl,K6.out⟩
     have k7:x.kind=7:=by omega
     have HK7:Hid (x.kind=7):=hid k7
     by_cases r3:x.num<0
     ·skip
      have E:Hid (t3=false):=hid (by rw [←H3.out];exact decide_eq_false (by omega))
      go_wp2_with fail
      clear k7
      try rw [←HK7.out]
      go_meet
      case rel=>exact ⟨rfl,by first|rfl|simp [*],by rw [E.out];rfl,K6.out⟩
     by_cases r4:999999999<x.num
     ·skip
      have E:Hid (t3=false):=hid (by rw [←H3.out];exact decide_eq_false (by omega))
      go_wp2_with fail
      clear k7
      try rw [←HK7.out]
      go_meet
      case rel=>exact ⟨rfl,by first|rfl|simp [*],by rw [E.out];rfl,K6.out⟩
     have E:Hid (t3=true):=hid (by rw [←H3.out];exact decide_eq_true (by omega))
     clear q r1
     go_wp2_with fail
     clear k7
     try rw [←HK7.out]
     go_meet
     case rel=>exact ⟨rfl,by first|rfl|simp [*],by rw [E.out];rfl,K6.out⟩
   case rest =>
   obtain ⟨rfl,rfl,rfl,K7⟩:=hcut
   clear K6
   cases t3 with
   | false =>
    go_wp2_with fail
    go_ret
    exact ⟨by rw [HAL.out];simp,K7.out.bel⟩
   | true =>
   go_upto_region 13 with fail
   go_cut [1,3,103] from 7 (fun v1 v3 v103 wx=>v1=.pointer (some ⟨N,0,none⟩)∧v3=.int .i64 x.kind∧v103=.bool (!t4)∧Hid (MayK w N x wx))
   case first =>
    as_aux_lemma =>
     obtain ⟨-,-,-,-,-,-,-,-,d8,-⟩:=HC.out _ K7.out
     by_cases q:x.stamp=0
     ·skip
      have E:Hid (t4=true):=hid (by rw [←H4.out];exact decide_eq_true (by omega))
      go_wp2_with fail
      go_meet
      case rel=>exact ⟨rfl,by first|rfl|simp [*],by rw [E.out];rfl,K7.out⟩
     have Bq:(x.stamp==0)=false:=by rw [beq_eq_false_iff_ne];exact q
     have Cq:(x.stamp != 0)=true:=by rw [bne_iff_ne];exact q
     by_cases r1:x.kind<9
     ·skip
      have E:Hid (t4=false):=hid (by rw [←H4.out];exact decide_eq_false (by omega))
      go_wp2_with fail
      go_meet
      case rel=>exact ⟨rfl,by first|rfl|simp [*],by rw [E.out];rfl,K7.out⟩
     have E:Hid (t4=true):=hid (by rw [←H4.out];exact decide_eq_true (by omega))
     clear q
     go_wp2_with fail
     go_meet
     case rel=>exact ⟨rfl,by first|rfl|simp [*],by rw [E.out];rfl,K7.out⟩
   case rest =>
   obtain ⟨rfl,rfl,rfl,K8⟩:=hcut
   clear K7
   cases t4 with
   | false =>
    go_wp2_with fail
    go_ret
    exact ⟨by rw [HAL.out];simp,K8.out.bel⟩
   | true =>
   go_upto_region 15 with fail
   go_cut [1,3,117] from 7 (fun v1 v3 v117 wx=>v1=.pointer (some ⟨N,0,none⟩)∧v3=.int .i64 x.kind∧v117=.bool (!t5)∧Hid (MayK w N x wx))
   case first =>
    as_aux_lemma =>
     obtain ⟨-,-,-,-,-,d5,-⟩:=HC.out _ K8.out
     have HZ:Hid (∀n:Nat,x.vo.length=n→(x.vo.map Fx.fld≠[]↔0<n)):=hid fun n hn=>by
      rw [←hn]
      cases x.vo<;>simp
     obtain ⟨mb,hmb⟩:∃mb,mayB (x.vo.map Fx.fld)=mb:=⟨_,rfl⟩
     rw [hmb] at HVM H5
     clear hmb
     by_cases q:0<x.vo.length
     ·have qz:(0:Int)<(x.vo.length:Int):=by omega
      by_cases r:3<x.kind
      ·have E:Hid (t5=false):=hid (by
        rw [←H5.out,decide_eq_false (by rw [HZ.out _ rfl];omega)]
        rfl)
       clear q
       go_wp2_with fail
       go_meet
       case rel=>exact ⟨rfl,rfl,by rw [E.out];rfl,K8.out⟩
      ·have E:Hid (t5=mb):=hid (by
        rw [←H5.out,decide_eq_true (by intro _;omega),Bool.true_and])
       clear q
       go_wp2_with (first|(go_at_call 75;refine (HVM.out _ K8.out.ex).mono ?_;rintro e w2 ⟨rfl,q2⟩))
       go_meet
       case rel=>exact ⟨rfl,rfl,by rw [E.out],K8.out.on q2⟩
     ·have qz:¬ (0:Int)<(x.vo.length:Int):=by omega
      have E:Hid (t5=mb):=hid (by
       rw [←H5.out,decide_eq_true (by rw [HZ.out _ rfl];omega),Bool.true_and])
      clear q
      go_wp2_with (first|(go_at_call 75;refine (HVM.out _ K8.out.ex).mono ?_;rintro e w2 ⟨rfl,q2⟩))
      go_meet
      case rel=>exact ⟨rfl,rfl,by rw [E.out],K8.out.on q2⟩
   case rest =>
   obtain ⟨rfl,rfl,rfl,K9⟩:=hcut
   clear K8 HVM
   cases t5 with
   | false =>
    go_wp2_with fail
    go_ret
    exact ⟨by rw [HAL.out];simp,K9.out.bel⟩
   | true =>
   go_upto_region 17 with fail
   go_cut [1,3,130] from 7 (fun v1 v3 v130 wx=>v1=.pointer (some ⟨N,0,none⟩)∧v3=.int .i64 x.kind∧v130=.bool (!t6)∧Hid (MayK w N x wx))
   case first =>
    as_aux_lemma =>
     obtain ⟨-,-,-,-,-,-,d6,-⟩:=HC.out _ K9.out
     have HZ:Hid (∀n:Nat,x.eo.length=n→(x.eo≠[]↔0<n)):=hid fun n hn=>by
      rw [←hn]
      cases x.eo<;>simp
     obtain ⟨me,hme⟩:∃me,mayE x.eo=me:=⟨_,rfl⟩
     rw [hme] at HEM H6
     clear hme
     have key:∀(bz:Bool),(decide (x.eo≠[]↔x.kind=4)=bz)→Hid (t6=(bz&&decide (me=0))):=fun bz hbz=>hid (by rw [←H6.out,hbz])
     have KEY:=hid key
     clear key
     obtain ⟨ne,hne⟩:∃n,x.eo.length=n:=⟨_,rfl⟩
     have HNE:=hid hne
     rw [hne] at d6 HEM HEL
     clear hne
     by_cases q:ne=0
     ·subst q
      by_cases r:x.kind=4
      ·have HK4:Hid (x.kind=4):=hid r
       have E:=KEY.out false (decide_eq_false (by rw [HZ.out _ HNE.out];omega))
       have E2:Hid (t6=false):=hid (by rw [E.out];rfl)
       clear KEY E
       go_wp2_with fail
       clear r
       try rw [←HK4.out]
       go_meet
       case rel=>exact ⟨rfl,by first|rfl|simp [*],by rw [E2.out];rfl,K9.out⟩
      ·have E:=KEY.out true (decide_eq_true (by rw [HZ.out _ HNE.out];omega))
       have b4:(x.kind==4)=false:=by rw [beq_eq_false_iff_ne];exact r
       clear r KEY
       by_cases z:me=0
       ·subst z
        have E2:Hid (t6=true):=hid (by rw [E.out];rfl)
        clear E
        go_wp2_with (first|(go_at_call 76;refine (HEM.out _ K9.out.ex).mono ?_;rintro e w2 ⟨rfl,rfl⟩))
        go_meet
        case rel=>exact ⟨rfl,by first|rfl|simp [*],by rw [E2.out];rfl,K9.out⟩
       ·have bz:(me==0)=false:=by rw [beq_eq_false_iff_ne];exact z
        have cz:(me != 0)=true:=by rw [bne_iff_ne];exact z
        have E2:Hid (t6=false):=hid (by rw [E.out,decide_eq_false z];rfl)
        clear z E
        go_wp2_with (first|(go_at_call 76;refine (HEM.out _ K9.out.ex).mono ?_;rintro e w2 ⟨rfl,rfl⟩))
        go_meet
        case rel=>exact ⟨rfl,by first|rfl|simp [*],by rw [E2.out];rfl,K9.out⟩
     ·have qz:(0:Int)<(ne:Int):=by omega
      by_cases r:x.kind=4
      ·have HK4:Hid (x.kind=4):=hid r
       have E:=KEY.out true (decide_eq_true (by rw [HZ.out _ HNE.out];omega))
       clear q KEY
       by_cases z:me=0
       ·subst z
        have E2:Hid (t6=true):=hid (by rw [E.out];rfl)
        clear E
        go_wp2_with (first|(go_at_call 76;refine (HEM.out _ K9.out.ex).mono ?_;rintro e w2 ⟨rfl,rfl⟩))
        clear r
        try rw [←HK4.out]
        go_meet
        case rel=>exact ⟨rfl,by first|rfl|simp [*],by rw [E2.out];rfl,K9.out⟩
       ·have bz:(me==0)=false:=by rw [beq_eq_false_iff_ne];exact z
        have cz:(me != 0)=true:=by rw [bne_iff_ne];exact z
        have E2:Hid (t6=false):=hid (by rw [E.out,decide_eq_false z];rfl)
        clear z E
        go_wp2_with (first|(go_at_call 76;refine (HEM.out _ K9.out.ex).mono ?_;rintro e w2 ⟨rfl,rfl⟩))
        clear r
        try rw [←HK4.out]
        go_meet
        case rel=>exact ⟨rfl,by first|rfl|simp [*],by rw [E2.out];rfl,K9.out⟩
      ·have E:=KEY.out false (decide_eq_false (by rw [HZ.out _ HNE.out];omega))
       have b4:(x.kind==4)=false:=by rw [beq_eq_false_iff_ne];exact r
       have E2:Hid (t6=false):=hid (by rw [E.out];rfl)
       clear q r KEY E
       go_wp2_with fail
       go_meet
       case rel=>exact ⟨rfl,by first|rfl|simp [*],by rw [E2.out];rfl,K9.out⟩
   case rest =>
   obtain ⟨rfl,rfl,rfl,Ka⟩:=hcut
   clear K9 HEM
   cases t6 with
   | false =>
    go_wp2_with fail
    go_ret
    exact ⟨by rw [HAL.out];simp,Ka.out.bel⟩
   | true =>
   as_aux_lemma =>
    obtain ⟨d0,d1,d2,d3,d4,d5,d6,d7,d8,d9⟩:=HC.out _ Ka.out
    have HX2:=hid Ka.out.ex
    obtain ⟨mm,hmm⟩:∃mm,mayM x.po=mm:=⟨_,rfl⟩
    obtain ⟨sm,hsm⟩:∃sm,decide (ansM x.po=x.po)=sm:=⟨_,rfl⟩
    have HS7:Hid (mm=0→t7=(sm&&decide (x.po≠[]→x.kind=2∨x.kind=8∨x.kind=12))):=hid fun hz=>by
     have e:ansM x.po=sortM x.po:=by unfold ansM;rw [hmm,if_pos hz]
     rw [←H7.out,←hsm,e,hmm,decide_eq_true hz,Bool.true_and]
    have HS0:Hid (¬ mm=0→t7=false):=hid fun hz=>by rw [←H7.out,hmm,decide_eq_false hz];rfl
    have HZ:Hid (x.po≠[]↔0<x.po.length):=hid (by cases x.po<;>simp)
    rw [hmm] at HPN
    rw [hsm] at HPS
    clear hmm hsm
    by_cases z:mm=0
    case neg =>
     have E:=hid (HS0.out z)
     have bz:(mm==0)=false:=by rw [beq_eq_false_iff_ne];exact z
     clear z
     go_wp2_with (first|(go_at_call 77;refine (HPN.out _ HX2.out).mono ?_;rintro e w2 ⟨u,rfl,hu,hb2⟩;have K2:=hid (Ka.out.on hb2);clear hb2 hu))
     go_ret
     exact ⟨by rw [HAL.out,HKE1.out,E.out];rfl,K2.out.bel⟩
    have E0:=hid (HS7.out z)
    have bz:(mm==0)=true:=by rw [z];rfl
    clear z
    cases sm with
    | false =>
     have E:Hid (t7=false):=hid (by rw [E0.out];rfl)
     go_wp2_with (first|(go_at_call 77;refine (HPN.out _ HX2.out).mono ?_;rintro e w2 ⟨u,rfl,hu,hb2⟩;have K2:=hid (Ka.out.on hb2);have HU:=hid hu;have HX3:=hid K2.out.ex;obtain ⟨f0,f1,f2,f3,f4,f5,f6,f7,f8,f9⟩:=HC.out _ K2.out;clear hb2 hu)|(go_at_call 31;refine (HPS.out _ _ HX3.out HU.out).mono ?_;rintro e w3 ⟨rfl,hb3⟩;have K3:=hid (K2.out.on hb3);obtain ⟨g0,g1,g2,g3,g4,g5,g6,g7,g8,g9⟩:=HC.out _ K3.out;clear hb3))
     go_ret
     exact ⟨by rw [HAL.out,HKE1.out,E.out];rfl,K3.out.bel⟩
    | true =>
     by_cases p0:x.po.length=0
     case pos =>
      have E:Hid (t7=true):=hid (by rw [E0.out,decide_eq_true (by rw [HZ.out];omega)];rfl)
      have bp:((x.po.length:Int)==0)=true:=by rw [beq_iff_eq];omega
      clear p0
      go_wp2_with (first|(go_at_call 77;refine (HPN.out _ HX2.out).mono ?_;rintro e w2 ⟨u,rfl,hu,hb2⟩;have K2:=hid (Ka.out.on hb2);have HU:=hid hu;have HX3:=hid K2.out.ex;obtain ⟨f0,f1,f2,f3,f4,f5,f6,f7,f8,f9⟩:=HC.out _ K2.out;clear hb2 hu)|(go_at_call 31;refine (HPS.out _ _ HX3.out HU.out).mono ?_;rintro e w3 ⟨rfl,hb3⟩;have K3:=hid (K2.out.on hb3);obtain ⟨g0,g1,g2,g3,g4,g5,g6,g7,g8,g9⟩:=HC.out _ K3.out;clear hb3))
      go_ret
      exact ⟨by rw [HAL.out,HKE1.out,E.out];rfl,K3.out.bel⟩
     have bp:((x.po.length:Int)==0)=false:=by rw [beq_eq_false_iff_ne];omega
     by_cases k2:x.kind=2
     case pos =>
      have E:Hid (t7=true):=hid (by rw [E0.out,decide_eq_true (by intro _;omega)];rfl)
      have b2:(x.kind==2)=true:=by rw [beq_iff_eq];exact k2
      clear p0 k2
      go_wp2_with (first|(go_at_call 77;refine (HPN.out _ HX2.out).mono ?_;rintro e w2 ⟨u,rfl,hu,hb2⟩;have K2:=hid (Ka.out.on hb2);have HU:=hid hu;have HX3:=hid K2.out.ex;obtain ⟨f0,f1,f2,f3,f4,f5,f6,f7,f8,f9⟩:=HC.out _ K2.out;clear hb2 hu)|(go_at_call 31;refine (HPS.out _ _ HX3.out HU.out).mono ?_;rintro e w3 ⟨rfl,hb3⟩;have K3:=hid (K2.out.on hb3);obtain ⟨g0,g1,g2,g3,g4,g5,g6,g7,g8,g9⟩:=HC.out _ K3.out;clear hb3))
      go_ret
      exact ⟨by rw [HAL.out,HKE1.out,E.out];rfl,K3.out.bel⟩
     have b2:(x.kind==2)=false:=by rw [beq_eq_false_iff_ne];exact k2
     by_cases k8:x.kind=8
     case pos =>
      have E:Hid (t7=true):=hid (by rw [E0.out,decide_eq_true (by intro _;omega)];rfl)
      have b8:(x.kind==8)=true:=by rw [beq_iff_eq];exact k8
      clear p0 k8
      go_wp2_with (first|(go_at_call 77;refine (HPN.out _ HX2.out).mono ?_;rintro e w2 ⟨u,rfl,hu,hb2⟩;have K2:=hid (Ka.out.on hb2);have HU:=hid hu;have HX3:=hid K2.out.ex;obtain ⟨f0,f1,f2,f3,f4,f5,f6,f7,f8,f9⟩:=HC.out _ K2.out;clear hb2 hu)|(go_at_call 31;refine (HPS.out _ _ HX3.out HU.out).mono ?_;rintro e w3 ⟨rfl,hb3⟩;have K3:=hid (K2.out.on hb3);obtain ⟨g0,g1,g2,g3,g4,g5,g6,g7,g8,g9⟩:=HC.out _ K3.out;clear hb3))
      go_ret
      exact ⟨by rw [HAL.out,HKE1.out,E.out];rfl,K3.out.bel⟩
     have b8:(x.kind==8)=false:=by rw [beq_eq_false_iff_ne];exact k8
     by_cases k12:x.kind=12
     case pos =>
      have E:Hid (t7=true):=hid (by rw [E0.out,decide_eq_true (by intro _;omega)];rfl)
      have b12:(x.kind==12)=true:=by rw [beq_iff_eq];exact k12
      clear p0 k12
      go_wp2_with (first|(go_at_call 77;refine (HPN.out _ HX2.out).mono ?_;rintro e w2 ⟨u,rfl,hu,hb2⟩;have K2:=hid (Ka.out.on hb2);have HU:=hid hu;have HX3:=hid K2.out.ex;obtain ⟨f0,f1,f2,f3,f4,f5,f6,f7,f8,f9⟩:=HC.out _ K2.out;clear hb2 hu)|(go_at_call 31;refine (HPS.out _ _ HX3.out HU.out).mono ?_;rintro e w3 ⟨rfl,hb3⟩;have K3:=hid (K2.out.on hb3);obtain ⟨g0,g1,g2,g3,g4,g5,g6,g7,g8,g9⟩:=HC.out _ K3.out;clear hb3))
      go_ret
      exact ⟨by rw [HAL.out,HKE1.out,E.out];rfl,K3.out.bel⟩
     have b12:(x.kind==12)=false:=by rw [beq_eq_false_iff_ne];exact k12
     have E:Hid (t7=false):=hid (by rw [E0.out,decide_eq_false (by rw [HZ.out];omega)];rfl)
     clear p0 k2 k8 k12
     go_wp2_with (first|(go_at_call 77;refine (HPN.out _ HX2.out).mono ?_;rintro e w2 ⟨u,rfl,hu,hb2⟩;have K2:=hid (Ka.out.on hb2);have HU:=hid hu;have HX3:=hid K2.out.ex;obtain ⟨f0,f1,f2,f3,f4,f5,f6,f7,f8,f9⟩:=HC.out _ K2.out;clear hb2 hu)|(go_at_call 31;refine (HPS.out _ _ HX3.out HU.out).mono ?_;rintro e w3 ⟨rfl,hb3⟩;have K3:=hid (K2.out.on hb3);obtain ⟨g0,g1,g2,g3,g4,g5,g6,g7,g8,g9⟩:=HC.out _ K3.out;clear hb3))
     go_ret
     exact ⟨by rw [HAL.out,HKE1.out,E.out];rfl,K3.out.bel⟩
end
section
open Go.RowKit Go.Lib
theorem rmay16_any (x:Ex) (w:World) (h:ExIn w x) :
  Calls Tryz.prog 40 #[aggEx x] w fun e w'=>e=.returned (.bool (mayEn x.en))∧Below w.heap.size w w':=by
 by_cases hr:1≤x.kind∧x.kind≤12
 ·exact rmay16_in x w h hr.1 hr.2
 ·exact rmay16_out x w h hr
set_option maxHeartbeats 8000000 in
set_option maxRecDepth 100000 in
theorem rMay16_any (once:Bool) (v:Value) (d:List Ex) (w:World) (hd:RqIn w v d) :
  Calls Tryz.prog 21 #[.agg #[.bool once,v]] w fun e w'=>e=.returned (.bool (mayRq (d.map Ex.en)))∧Below w.heap.size w w':=by
 have HD:=hid hd
 obtain ⟨a,cap,rfl,hrow⟩:=hd.row
 have hlen:=hd.len
 have HR:=hid hrow
 have HAL:Hid (Below w.heap.size w (w.alloc (.cells #[.bool once,.slice a d.length cap] 24))):=hid ((Below.refl _ _).alloc (Nat.le_refl _) _)
 have HBX:Hid ((w.alloc (.cells #[.bool once,.slice a d.length cap] 24)).heap[w.heap.size]? = some (.cells #[.bool once,.slice a d.length cap] 24 (0,0))):=hid (heap_alloc_new w _)
 have HM:Hid (mayRq (d.map Ex.en)=(decide (0<d.length)&&decide (d.length≤16)&&d.all fun x=>mayEn x.en)):=hid (by
  unfold mayRq
  rw [List.length_map,List.all_map]
  rfl)
 clear hd hrow
 go_enter Tryz.func21,Tryz.ntmps21
 go_wp2_with fail
 go_loopg [3] d.length (fun g vi wr=>∃(i:Nat),vi=.int .i64 i∧i≤d.length∧i≤16∧d.length-i≤g∧Hid (Below w.heap.size w wr)∧Hid (wr.heap[w.heap.size]? = some (.cells #[.bool once,.slice a d.length cap] 24 (0,0)))∧Hid ((d.take i).all (fun x=>mayEn x.en)=true))
 case atStart=>exact ⟨0,rfl,by omega,by omega,by omega,HAL,HBX,hid rfl⟩
 case round =>
  obtain ⟨i,rfl,hi,h16,hig,HB,HQ,HA⟩:=hrel
  have r2:wr.cell? ⟨w.heap.size,1,none⟩=some (.slice a d.length cap):=by rw [Lib.cell_of_heap HQ.out];rfl
  by_cases hlt:i<d.length
  ·have HLT:=hid hlt
   have hltz:(i:Int)<(d.length:Int):=by omega
   have hiz:(0:Int)≤(i:Int):=by omega
   by_cases e16:i=16
   ·have bz:((i:Int)==16)=true:=by rw [beq_iff_eq];omega
    have HF:Hid (mayRq (d.map Ex.en)=false):=hid (by rw [HM.out,decide_eq_false (by omega:¬ d.length≤16)];simp)
    clear e16
    go_wp2_with fail
    go_ret
    exact ⟨by first|(rw [HF.out];done)|(rw [HF.out];rfl),HB.out⟩
   have bz:((i:Int)==16)=false:=by rw [beq_eq_false_iff_ne];omega
   obtain ⟨b,off,rfl,hat⟩:∃b off,a=some ⟨b,off,none⟩∧KEx.At w b off d:=by
    rcases HR.out with h|⟨b,off,h1,h2⟩
    ·rw [h] at hlt;simp at hlt
    ·exact ⟨b,off,h1,h2⟩
   obtain ⟨y,hy⟩:∃y,d[i]? = some y:=⟨_,List.getElem?_eq_getElem hlt⟩
   obtain ⟨c0,c1,c2,c3,c4,c5,c6,c7,c8,c9⟩:=row_cellsQ (Kind.at_kept hat HB.out) i y hy
   simp only [Nat.add_zero] at c0
   have hmem:=List.mem_of_getElem? hy
   have HTK:Hid (d.take (i+1)=d.take i++[y]):=hid (by
    obtain ⟨h1,h2⟩:=List.getElem?_eq_some_iff.1 hy
    rw [←h2];exact List.take_succ_eq_append_getElem h1)
   have HMEM:=hid hmem
   have HMY:Hid (Calls Tryz.prog 40 #[.agg #[.int .i64 y.kind,.string y.temp,.string y.ka,.string y.kb,.int .i64 y.iff,.slice y.vp y.vo.length y.vc,.slice y.ep y.eo.length y.ec,.slice y.pp y.po.length y.pc,.int .u64 y.stamp,.int .i64 y.num]] wr fun e w'=>e=.returned (.bool (mayEn y.en))∧Below wr.heap.size wr w'):=hid (rmay16_any y wr ((HD.out.each y HMEM.out).on HB.out))
   have h15:i+1≤16:=by omega
   clear hy hmem hat e16
   cases hm:mayEn y.en with
   | false =>
    have HF:Hid (mayRq (d.map Ex.en)=false):=hid (by
     have:(d.all fun x=>mayEn x.en)=false:=by
      rw [List.all_eq_false]
      exact ⟨y,HMEM.out,by rw [hm];simp⟩
     rw [HM.out,this];simp)
    rw [hm] at HMY
    clear hm
    go_wp2_with (first|(go_at_call 40;refine HMY.out.mono ?_;rintro e w4 ⟨rfl,hb4⟩;have HB4:=hid (HB.out.trans (hb4.mono HB.out.size));clear hb4))
    go_ret
    exact ⟨by first|(rw [HF.out];done)|(rw [HF.out];rfl),HB4.out⟩
   | true =>
    have HA2:Hid ((d.take (i+1)).all (fun x=>mayEn x.en)=true):=hid (by rw [HTK.out,List.all_append,HA.out];simp [hm])
    rw [hm] at HMY
    clear hm
    go_wp2_with (first|(go_at_call 40;refine HMY.out.mono ?_;rintro e w4 ⟨rfl,hb4⟩;have HB4:=hid (HB.out.trans (hb4.mono HB.out.size));have HQ4:=hid ((hb4.block _ (Array.getElem?_eq_some_iff.1 HQ.out).1).trans HQ.out);clear hb4))
    go_roundg (d.length-(i+1))
    case measure=>omega
    exact ⟨i+1,by go_num,HLT.out,h15,Nat.le_refl _,HB4,HQ4,HA2⟩
  ·have hltz:¬ (i:Int)<(d.length:Int):=by omega
   have HF:Hid (mayRq (d.map Ex.en)=decide (0<d.length)):=hid (by
    have:=HA.out
    rw [List.take_of_length_le (by omega)] at this
    rw [HM.out,this,decide_eq_true (by omega:d.length≤16),Bool.and_true,Bool.and_true])
   go_wp2_with fail
   go_ret
   exact ⟨by rw [HF.out];rfl,HB.out⟩
end
section
open Go.RowKit Go.Lib
theorem all_same {d d':List Ex} (hl:d.length=d'.length) (h:∀(i:Nat) (x y:Ex),d[i]? = some x→d'[i]? = some y→x.en=y.en):d.map Ex.en=d'.map Ex.en:=by
 apply List.ext_getElem?
 intro i
 rw [List.getElem?_map,List.getElem?_map]
 cases hx:d[i]? with
 | none =>
  have:d'[i]? = none:=by rw [List.getElem?_eq_none_iff] at hx ⊢;omega
  rw [this]
 | some x =>
  obtain ⟨hi,_⟩:=List.getElem?_eq_some_iff.1 hx
  have hy:d'[i]? = some d'[i]:=List.getElem?_eq_getElem (by omega)
  rw [hy,Option.map_some,Option.map_some,h i x _ hx hy]
set_option maxHeartbeats 8000000 in
set_option maxRecDepth 100000 in
theorem opeqf_any (v v':Value) (d d':List Ex) (w:World) (hd:RqIn w v d) (hd':RqIn w v' d') :
  Calls Tryz.prog 27 #[v,v',.func (.func 28) #[] #[]] w fun e w'=>e=.returned (.bool (decide (d.map Ex.en=d'.map Ex.en)))∧Below w.heap.size w w':=by
 have HD:=hid hd
 have HD':=hid hd'
 obtain ⟨a,cap,rfl,hrow⟩:=hd.row
 obtain ⟨a',cap',rfl,hrow'⟩:=hd'.row
 have hlen:=hd.len
 have hlen':=hd'.len
 have HR:=hid hrow
 have HR':=hid hrow'
 clear hd hd' hrow hrow'
 by_cases hl:d.length=d'.length
 case neg =>
  have hne:((d.length:Int) != (d'.length:Int))=true:=by rw [bne_iff_ne];omega
  have HF:Hid (decide (d.map Ex.en=d'.map Ex.en)=false):=hid (decide_eq_false fun q=>hl (by have:=congrArg List.length q;simpa using this))
  clear hl
  go_enter Tryz.func27,Tryz.ntmps27
  go_wp2_with fail
  go_ret
  exact ⟨by rw [HF.out];rfl,Below.refl _ _⟩
 have hne:((d.length:Int) != (d'.length:Int))=false:=by simp;omega
 have HL:=hid hl
 clear hl
 go_enter Tryz.func27,Tryz.ntmps27
 go_wp2_with fail
 go_loopg [17] d.length (fun g vi wr=>∃(i:Nat),vi=.int .i64 i∧i≤d.length∧d.length-i≤g∧Hid (Below w.heap.size w wr)∧Hid (∀(j:Nat) (x y:Ex),j<i→d[j]? = some x→d'[j]? = some y→x.en=y.en))
 case atStart=>exact ⟨0,rfl,by omega,by omega,hid (Below.refl _ _),hid fun j x y h=>by omega⟩
 case round =>
  obtain ⟨i,rfl,hi,hig,HB,HA⟩:=hrel
  by_cases hlt:i<d.length
  ·have HLT:=hid hlt
   have hltz:(i:Int)<(d.length:Int):=by omega
   have hlt2:i<d'.length:=by have:=HL.out;omega
   have hltz2:(i:Int)<(d'.length:Int):=by omega
   have hiz:(0:Int)≤(i:Int):=by omega
   obtain ⟨b,off,rfl,hat⟩:∃b off,a=some ⟨b,off,none⟩∧KEx.At w b off d:=by
    rcases HR.out with h|⟨b,off,h1,h2⟩
    ·rw [h] at hlt;simp at hlt
    ·exact ⟨b,off,h1,h2⟩
   obtain ⟨b',off',rfl,hat'⟩:∃b off,a'=some ⟨b,off,none⟩∧KEx.At w b off d':=by
    rcases HR'.out with h|⟨b,off,h1,h2⟩
    ·rw [h] at hlt2;simp at hlt2
    ·exact ⟨b,off,h1,h2⟩
   obtain ⟨x,hx⟩:∃x,d[i]? = some x:=⟨_,List.getElem?_eq_getElem hlt⟩
   obtain ⟨y,hy⟩:∃y,d'[i]? = some y:=⟨_,List.getElem?_eq_getElem hlt2⟩
   obtain ⟨c0,c1,c2,c3,c4,c5,c6,c7,c8,c9⟩:=row_cellsQ (Kind.at_kept hat HB.out) i x hx
   have HB2:Hid (Below w.heap.size w (wr.alloc (.cells #[.int .i64 x.kind,.string x.temp,.string x.ka,.string x.kb,.int .i64 x.iff,.slice x.vp x.vo.length x.vc,.slice x.ep x.eo.length x.ec,.slice x.pp x.po.length x.pc,.int .u64 x.stamp,.int .i64 x.num] 41))):=hid (HB.out.alloc HB.out.size _)
   obtain ⟨f0,f1,f2,f3,f4,f5,f6,f7,f8,f9⟩:=row_cellsQ (Kind.at_kept hat' HB2.out) i y hy
   simp only [Nat.add_zero] at c0 f0
   have HB3:Hid (Below w.heap.size w ((wr.alloc (.cells #[.int .i64 x.kind,.string x.temp,.string x.ka,.string x.kb,.int .i64 x.iff,.slice x.vp x.vo.length x.vc,.slice x.ep x.eo.length x.ec,.slice x.pp x.po.length x.pc,.int .u64 x.stamp,.int .i64 x.num] 41)).alloc (.cells #[.int .i64 y.kind,.string y.temp,.string y.ka,.string y.kb,.int .i64 y.iff,.slice y.vp y.vo.length y.vc,.slice y.ep y.eo.length y.ec,.slice y.pp y.po.length y.pc,.int .u64 y.stamp,.int .i64 y.num] 41))):=hid (HB2.out.alloc HB2.out.size _)
   have HSM:Hid (∀W,Below w.heap.size w W→Calls Tryz.prog 28 #[.agg #[.int .i64 x.kind,.string x.temp,.string x.ka,.string x.kb,.int .i64 x.iff,.slice x.vp x.vo.length x.vc,.slice x.ep x.eo.length x.ec,.slice x.pp x.po.length x.pc,.int .u64 x.stamp,.int .i64 x.num],.agg #[.int .i64 y.kind,.string y.temp,.string y.ka,.string y.kb,.int .i64 y.iff,.slice y.vp y.vo.length y.vc,.slice y.ep y.eo.length y.ec,.slice y.pp y.po.length y.pc,.int .u64 y.stamp,.int .i64 y.num]] W fun e w'=>e=.returned (.bool (decide (x.en=y.en)))∧Below W.heap.size W w'):=hid fun W h=>opsame_any x y W ((HD.out.each x (List.mem_of_getElem? hx)).on h) ((HD'.out.each y (List.mem_of_getElem? hy)).on h)
   have HX:=hid hx
   have HY:=hid hy
   clear hat hat' hx hy
   go_wp2_with fail
   refine (HSM.out _ HB3.out).mono ?_
   rintro e w4 ⟨rfl,hb4⟩
   have HB4:=hid (HB3.out.trans (hb4.mono HB3.out.size))
   clear hb4 c0 c1 c2 c3 c4 c5 c6 c7 c8 c9 f0 f1 f2 f3 f4 f5 f6 f7 f8 f9
   by_cases hs:x.en=y.en
   ·have HA2:Hid (∀(j:Nat) (x y:Ex),j<i+1→d[j]? = some x→d'[j]? = some y→x.en=y.en):=hid fun j x' y' hj h1 h2=>by
     by_cases q:j=i
     ·subst q
      rw [HX.out] at h1;rw [HY.out] at h2
      cases h1;cases h2;exact hs
     ·exact HA.out j x' y' (by omega) h1 h2
    have hd:=decide_eq_true hs
    rw [hd]
    clear hs
    go_wp2_with fail
    go_roundg (d.length-(i+1))
    case measure=>omega
    exact ⟨i+1,by go_num,HLT.out,Nat.le_refl _,HB4,HA2⟩
   ·have HF:Hid (decide (d.map Ex.en=d'.map Ex.en)=false):=hid (decide_eq_false fun q=>hs (by
     have h:=congrArg (·[i]?) q
     simp only [List.getElem?_map,HX.out,HY.out,Option.map_some] at h
     exact Option.some.inj h))
    have hd:=decide_eq_false hs
    rw [hd]
    clear hs
    go_wp2_with fail
    go_ret
    exact ⟨by rw [HF.out];rfl,HB4.out⟩
  ·have hltz:¬ (i:Int)<(d.length:Int):=by omega
   have HF:Hid (decide (d.map Ex.en=d'.map Ex.en)=true):=hid (decide_eq_true (all_same HL.out fun j x y h1 h2=>HA.out j x y (by have:=(List.getElem?_eq_some_iff.1 h1).1;omega) h1 h2))
   go_wp2_with fail
   go_ret
   exact ⟨by rw [HF.out];rfl,HB.out⟩
set_option maxHeartbeats 4000000 in
theorem opEqual_any (o o':Bool) (v v':Value) (d d':List Ex) (w:World) (hd:RqIn w v d) (hd':RqIn w v' d') :
  Calls Tryz.prog 14 #[.agg #[.bool o,v],.agg #[.bool o',v']] w fun e w'=>e=.returned (.bool (decide (o=o'∧d.map Ex.en=d'.map Ex.en)))∧Below w.heap.size w w':=by
 obtain ⟨a,cap,rfl,_⟩:=hd.row
 obtain ⟨a',cap',rfl,_⟩:=hd'.row
 have HB:Hid (Below w.heap.size w ((w.alloc (.cells #[.bool o,.slice a d.length cap] 24)).alloc (.cells #[.bool o',.slice a' d'.length cap'] 24))):=hid (((Below.refl _ _).alloc (Nat.le_refl _) _).alloc (by simp) _)
 have HE:=hid (opeqf_any _ _ d d' _ (hd.on HB.out) (hd'.on HB.out))
 clear hd hd'
 by_cases ho:o=o'
 ·subst ho
  have hq:(o==o)=true:=by cases o<;>rfl
  have HF:Hid (decide (o=o∧d.map Ex.en=d'.map Ex.en)=decide (d.map Ex.en=d'.map Ex.en)):=hid (by simp)
  go_enter Tryz.func14,Tryz.ntmps14
  go_wp2_with (go_at_call 27;refine HE.out.mono ?_;rintro e w1 ⟨rfl,hb1⟩;have HB1:=hid (HB.out.trans (hb1.mono HB.out.size));clear hb1)
  go_ret
  exact ⟨by rw [HF.out];rfl,HB1.out⟩
 ·have hq:(o==o')=false:=by cases o<;>cases o'<;>simp_all
  have HF:Hid (decide (o=o'∧d.map Ex.en=d'.map Ex.en)=false):=hid (decide_eq_false fun q=>ho q.1)
  go_enter Tryz.func14,Tryz.ntmps14
  go_wp2_with fail
  go_ret
  exact ⟨by rw [HF.out];rfl,HB.out⟩
theorem opWrites_any (x:Ex) (w:World) :
  Calls Tryz.prog 17 #[aggEx x] w fun e w'=>e=.returned (.bool (decide (1≤x.kind)&&decide (x.kind≤5)))∧Below w.heap.size w w':=by
 unfold aggEx
 simp only [encEx,Ex.vs,Ex.es,Ex.ps]
 have HB:Hid (Below w.heap.size w (w.alloc (.cells #[.int .i64 x.kind,.string x.temp,.string x.ka,.string x.kb,.int .i64 x.iff,.slice x.vp x.vo.length x.vc,.slice x.ep x.eo.length x.ec,.slice x.pp x.po.length x.pc,.int .u64 x.stamp,.int .i64 x.num] 41))):=hid ((Below.refl _ _).alloc (Nat.le_refl _) _)
 by_cases h0:1≤x.kind
 ·have H0:Hid (decide (1≤x.kind)=true):=hid (decide_eq_true h0)
  go_enter Tryz.func17,Tryz.ntmps17
  go_wp2_with fail
  go_ret
  exact ⟨by rw [H0.out];rfl,HB.out⟩
 ·have H0:Hid (decide (1≤x.kind)=false):=hid (decide_eq_false h0)
  go_enter Tryz.func17,Tryz.ntmps17
  go_wp2_with fail
  go_ret
  exact ⟨by rw [H0.out];rfl,HB.out⟩
end
end Go.Proofs.YtpdccbeeoapplaaGreatDoor
