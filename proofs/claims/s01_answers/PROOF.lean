import PyProof.Rows.All
import PyProof.ZipIter
import PyProof.TupleIter
import PyProof.EnumMake
import PyProof.Rows.CallKwBuiltin
import PyProof.Rows.Exc
import KE.KRevIter
import PyProof.ListRange
import Wide.All
import OpenK.AllK
import Wide.FinOn
import PyProof.EqAt
import PyProof.EqKinds
import PyProof.TupleCall
import KE.BitLaws
import Open.SpecLaws
import KE.OsHead
import KE.OsGo
import PySem.Challenge.RW_boilerplans_s01_answers
set_option Elab.async false
set_option linter.all false
set_option maxRecDepth 100000
set_option maxHeartbeats 4000000
open Array renaming getD_eq_getD_getElem?→SA,getElem?_eq_getElem→Va,getElem?_toList→VM,length_toList→Uc,toList→Wq
open Bool renaming and_eq_true_iff→Rm,and_eq_true→Ro,eq_iff_iff→RU,false_and→T4,false_eq_true→U3,false_ne_true→Ra,noConfusion→RV,not_eq_true→Vo,or_eq_true→VA,or_false→Xf,true_and→UC
open Decidable renaming byContradiction→SM
open Function renaming comp→TU
open Int renaming add_assoc→UB,add_comm→Vv,add_le_add_right→UH,le_antisymm→UT,le_of_lt→Vt,le_refl→VV,le_total→Vw,le_trans→Sb,lt_of_le_of_lt→Sn,lt_toNat→XO,max_eq_right→WA,min_eq_left→Tp,min_eq_right→Tv,min_le_left→US,min_le_right→Ux,mul_comm→Wu,mul_ediv_cancel→V3,natCast_add→Sf,natCast_ediv→Ua,natCast_emod→WG,natCast_mul→S9,natCast_nonneg→U5,natCast_pos→WS,not_le→Wg,not_lt→Tf,ofNat_le→Sq,ofNat_lt→TH,ofNat_sub→R9,sub_eq_add_neg→U8,toNat_le→U0,toNat_natCast→QW,toNat_sub→TR,toNat→TV,zero_add→XA
open List renaming all_cons→Xk,all_eq_true→R3,all_map→Vu,append_assoc→R7,append_nil→S7,contains_eq_mem→V0,dropLast_concat→V1,dropLast_eq_take→VN,drop_drop→T7,drop_eq_getElem_cons→Ru,drop_eq_nil_of_le→Us,drop_length→SU,drop_of_length_le→Ta,drop_take→U9,drop_zero→Tj,drop→Zu,eq_nil_of_length_eq_zero→RQ,exists_mem_of_ne_nil→Vb,ext_getElem?→SF,filterMap_cons→RR,filter_append→Wl,filter_congr→Wt,filter_cons→T9,filter_nil→WO,find?_append→Wx,find?_cons→Sx,find?→Wk,flatMap_append→RH,flatMap_assoc→Wh,flatMap_cons→Sm,flatMap_map→WD,flatMap_singleton→Rz,flatten_cons→Ss,foldl_append→S3,foldl_cons→RJ,foldl_nil→W0,foldl→WX,forIn_cons→Ug,forIn_nil→T2,getD_eq_getElem?_getD→RN,getElem?_append_left→Q0,getElem?_append_right→QX,getElem?_drop→TJ,getElem?_eq_getElem→QJ,getElem?_eq_none_iff→RT,getElem?_eq_none→Sj,getElem?_eq_some_iff→QO,getElem?_map→QI,getElem?_modify→S0,getElem?_nil→Ww,getElem?_range→Rt,getElem?_replicate→Sy,getElem?_reverse→VH,getElem?_set_ne→UG,getElem?_set_self→Uk,getElem?_take_of_lt→Vg,getElem?_take→Wm,getElem?_toArray→SN,getElem?_zipWith→RZ,getElem?_zip_eq_some→Tn,getElem_inj→Vj,getElem_mem→Td,getElem_of_mem→Tu,getLast?_cons_cons→Vm,isEmpty_iff→UA,length_append→QN,length_cons→Q2,length_drop→QY,length_eq_one_iff→RA,length_eq_zero_iff→QT,length_map→QH,length_modify→Rr,length_nil→Ui,length_pos_iff→V4,length_range→Q6,length_replicate→RE,length_reverse→SI,length_set→Vy,length_singleton→TX,length_take→QZ,length_zipWith→Tt,length_zip→VD,length→SJ,lookup_cons→Tb,lookup→T5,map_append→Rl,map_congr_left→RL,map_cons→RC,map_drop→V6,map_flatMap→Vl,map_map→Sd,map_nil→XC,map_take→V7,map→W8,mem_append_left→SX,mem_append_right→Ri,mem_append→RB,mem_cons_of_mem→Q4,mem_cons_self→Rc,mem_cons→QM,mem_filterMap→U4,mem_filter→Sv,mem_flatMap→Tc,mem_map→QV,mem_of_find?_eq_some→Vc,mem_of_getElem?→QL,mem_of_mem_drop→VZ,mem_range→Rf,mem_singleton→Sa,nil_append→Vz,nodup_cons→Rh,nodup_iff_pairwise_ne→Th,nodup_nil→SW,not_mem_nil→Q8,of_mem_zip→TM,pairwise_map→Ws,range_succ→TN,range→Q5,replicate_succ→RG,replicate→QU,reverse_cons→Ve,reverse_reverse→UM,singleton_append→VL,size_toArray→Q1,sum_cons→Vi,take_append_drop→TZ,take_length→RF,take_nil→Xo,take_of_length_le→Rk,take_succ_eq_append_getElem→Ur,take_zero→W5,zipIdx_cons→Uu,zipIdx_nil→UN,zipWith→Vx,zip_cons_cons→Wj
open List.cons renaming injEq→VC,inj→Xm
open Nat renaming add_assoc→Rp,add_comm→Sw,add_le_add_left→RS,add_le_add_right→VW,add_le_add→SE,add_lt_add_left→R0,add_lt_of_lt_sub'→TY,add_lt_of_lt_sub→T6,add_min_add_right→Ut,add_mul→Si,add_right_comm→U7,add_sub_add_left→VY,add_sub_assoc→Wv,add_sub_cancel_left→Rg,add_sub_cancel→We,add_sub_of_le→RM,div_eq_of_lt→Tz,div_lt_iff_lt_mul→VI,eq_zero_or_pos→Wd,le_add_left→Rx,le_add_of_sub_le→UK,le_add_right→QR,le_antisymm→TQ,le_max_left→WQ,le_max_right→Uy,le_min→Tg,le_mul_of_pos_left→SH,le_mul_of_pos_right→Vn,le_of_eq→Tr,le_of_lt_succ→Ts,le_of_lt→RI,le_of_not_lt→Q9,le_of_sub_eq_zero→VJ,le_of_succ_le→Ul,le_refl→QP,le_sub_of_add_le'→Sk,le_sub_one_of_lt→UL,le_succ_of_le→Uq,le_succ→VT,le_total→UX,le_trans→QK,lt_irrefl→Sg,lt_min→Sl,lt_of_le_of_lt→So,lt_of_lt_of_le→QS,lt_of_not_le→WE,lt_succ_of_le→Up,lt_succ_of_lt→Um,lt_succ_self→Uw,max_eq_left→WR,max_eq_right→Uz,max_le→W2,min_comm→XJ,min_eq_left→Q3,min_eq_right→Rv,min_le_left→S8,min_le_right→Rn,min_self→SG,mod_eq_of_lt→WC,mul_add_div→VB,mul_add_mod→WN,mul_assoc→Su,mul_comm→RP,mul_le_mul_left→UW,mul_le_mul_right→Q7,mul_le_mul→Ti,mul_pos→WI,mul_succ→XM,ne_of_gt→RW,ne_of_lt→Rj,not_le→Wc,not_lt→Wn,one_pos→TC,pos_of_ne_zero→Wo,sub_add_cancel→RO,sub_add_comm→TB,sub_eq_of_eq_add→VU,sub_eq_zero_of_le→SO,sub_le_of_le_add→UJ,sub_le_sub_left→UU,sub_le_sub_right→SY,sub_le→Rq,sub_lt_left_of_lt_add→SK,sub_lt_sub_right→Sz,sub_lt→SS,sub_mul→WH,sub_one_lt_of_le→RX,sub_self→Se,sub_sub_self→Te,sub_sub→UI,sub_zero→UY,succ_le_succ→SR,succ_mul→RD,succ_ne_self→WB,succ_pos→UZ,two_mul→VX,zero_add→TF,zero_le→Sr,zero_lt_of_lt→R8,zero_mul→T8
open Option renaming getD_none→Vk,map_eq_some_iff→QQ,map_map→W6,map_some→Uh,map→W7
open Option.some renaming injEq→S6,inj→Rb
open Prod.mk renaming injEq→UD
open PyProof.Rows renaming boot_enumerate→WZ,subscriptTail_builtinR→Vs
open PySem renaming builtinLookup_eq_fast→VG,call_reversed_list→Wb,codeAny_call_builtin→VQ,codeAny_mono→Uj,evalPart_none→V5,isSubtype_stop→VP,pushCells_keeps→UQ,typeLookup_type→WK,wpAny_Call_Name_kw→RY,wpAny_Constant_int→V9,wpAny_assign_Name→Wr,wpAny_attempt→Ud,wpAny_callSpecial?_slot→R1,wpAny_call_entry→SQ,wpAny_execs_cons→Wz,wpAny_execs_nil→UP,wpAny_getItem_list_slice→Vh,wpAny_holding→Ue,wpAny_isInstance→Uv,wpAny_ite_split→UO,wpAny_letOwnedTupleGo_enum→U6,wpAny_letOwnedTupleGo_zip→Ub,wpAny_loadName_cell→V2,wpAny_loadName_local→VS,wpAny_newObj_type→Vd,wpAny_newTuple→VO,wpAny_nextOf_list_end→VE,wpAny_nextOf_list_item→Vp,wpAny_onRaise→SV,wpAny_passesOwn→To,wpAny_pyIter_enum→Uo,wpAny_pyIter_list→Tq,wpAny_pyIter_rangeiter→Vr,wpAny_pyIter_range→Wa,wpAny_pyIter_revIter→T3,wpAny_pyIter_tuple→V8,wpAny_pyIter_zip→Tw,wpAny_pyNext_range_end→Vq,wpAny_pyNext_rev_end→VR,wpAny_pyNext_rev_item→VF,wpAny_seqItems→RK,wpAny_setField_rec→Ry,wpAny_setField→WT,wpAny_specialOf→WL,wpAny_standAt→Vf,wpAny_truthy_bool→SD,wpAny_updateSeq_pair→UE,wpAny_updateSeq→WJ
namespace PySem
open Sem (wp)
def aY(k:Bool)(h:Heap)(it l:Addr)(i:Nat):Prop:=match k with
 | true=>h.IsListIter it l i
 | false=>h.IsTupleIter it l i
def bB(k:Bool)(h:Heap)(l:Addr)(its:Array Value):Prop:=match k with
 | true=>h.IsList l its
 | false=>h.IsTuple l its
def ug(k:Bool)(l:Addr):Obj:=match k with
 | true=>{cls:=.type "list_iterator",data:=.fields #[.ref l,.int 0 0]}
 | false=>{cls:=.type "tuple_iterator",data:=.fields #[.ref l,.int 0 0]}
theorem aY.move{k:Bool}{h g:Heap}{it l:Addr}{i:Nat}(q:aY k h it l i)(e:∀o,h.get? it=some o→g.get? it=some o):aY k g it l i:=by
 cases k<;>(obtain⟨o,ho,r⟩:=q;exact⟨o,e o ho,r⟩)
theorem bB.move{k:Bool}{h g:Heap}{l:Addr}{its:Array Value}(q:bB k h l its)(e:∀o,h.get? l=some o→g.get? l=some o):bB k g l its:=by
 cases k<;>(obtain⟨o,ho,r⟩:=q;exact⟨o,e o ho,r⟩)
theorem bB.here{k:Bool}{h:Heap}{l:Addr}{its:Array Value}(q:bB k h l its):∃o,h.get? l=some o:=by
 cases k<;>(obtain⟨o,ho,_⟩:=q;exact⟨o,ho⟩)
section
variable{prog:Program}{w:World}{A:Around}{E:Value→Shared→Prop}{s:Shared}
theorem wJ{j t:Addr}{i:Nat} {its} {x:Value} {Q:Value→Shared→Prop} (hj:s.heap.IsTupleIter j t i) (ht:s.heap.IsTuple t its) (hx:its[i]?=some x)
  (fin:∀g,g.IsTupleIter j t (i+1)→Heap.SameBut j s.heap g→Q x {s with heap:=g}):wpAny (model prog w) A (Builtin.SmallTypes.nextOf (.ref j)) Q E s:=by
 obtain⟨oj,hoj,cj,dj⟩:=id hj
 obtain⟨ot,hot,_,nt,dt⟩:=ht
 unfold Builtin.SmallTypes.nextOf
 refine wpAny_bind (R1 (name:=Str.ofString "__next__") hj.typeIs F.slot_tuple_iterator_next (SQ F.slot_tuple_iterator_next hj.typeIs F.entry_tuple_iterator_next ?_ (F.args_tuple_iterator_next_1 _)))
 show wpAny _ _ (field (.ref j) 0 >>= _) _ _ s
 refine wpAny_bind (wpAny_field hoj dj (x:=.ref t) rfl ?_)
 show wpAny _ _ (if (Value.ref t==Value.none)=true then _ else _) _ _ s
 rw[if_neg (by exact Ra)]
 show wpAny _ _ (field (.ref j) 1 >>= _) _ _ s
 refine wpAny_bind (wpAny_field hoj dj (x:=.int i 0) rfl ?_)
 show wpAny _ _ (seqItems? (.ref t) >>= _) _ _ s
 refine wpAny_bind (RK hot dt ?_)
 simp only[QW,hx]
 refine wpAny_bind (WT hoj dj (by simp) (wpAny_pure ⟨x,rfl,wpAny_pure (fin _ ?_ (Heap.SameBut.update ..))⟩))
 exact⟨_,Heap.get?_update_self _ hoj (Obj.isFreed_of_fields (Obj.data_mapFields dj _)),(Obj.cls_mapFields ..).trans cj,by rw[Obj.data_mapFields dj];simp[rawInt]⟩
theorem uW{j t:Addr}{i:Nat} {its} {Q:Value→Shared→Prop} (hh:A.handled=none) (hj:s.heap.IsTupleIter j t i) (ht:s.heap.IsTuple t its) (hx:its[i]?=none)
  (fin:∀g e,Heap.ExtBut j s.heap g→(∃o,g.get? e=some o∧o.cls=.type "StopIteration")→E (.ref e) {s with heap:=g}):wpAny (model prog w) A (Builtin.SmallTypes.nextOf (.ref j)) Q E s:=by
 obtain⟨oj,hoj,cj,dj⟩:=id hj
 obtain⟨ot,hot,_,nt,dt⟩:=ht
 unfold Builtin.SmallTypes.nextOf
 refine wpAny_bind (R1 (name:=Str.ofString "__next__") hj.typeIs F.slot_tuple_iterator_next (SQ F.slot_tuple_iterator_next hj.typeIs F.entry_tuple_iterator_next ?_ (F.args_tuple_iterator_next_1 _)))
 show wpAny _ _ (field (.ref j) 0 >>= _) _ _ s
 refine wpAny_bind (wpAny_field hoj dj (x:=.ref t) rfl ?_)
 show wpAny _ _ (if (Value.ref t==Value.none)=true then _ else _) _ _ s
 rw[if_neg (by exact Ra)]
 show wpAny _ _ (field (.ref j) 1 >>= _) _ _ s
 refine wpAny_bind (wpAny_field hoj dj (x:=.int i 0) rfl ?_)
 show wpAny _ _ (seqItems? (.ref t) >>= _) _ _ s
 refine wpAny_bind (RK hot dt ?_)
 simp only[QW,hx]
 refine wpAny_bind (wpAny_rule (wpAny_bind (WT hoj dj (by simp) ?_)))
 show wpAny _ _ (newExc (.type "StopIteration") [] >>= _) _ _ _
 refine wpAny_bind ?_
 simp only[newExc,newTuple]
 refine wpAny_bind (Vd ?_ (by size_fits))
 refine wpAny_bind (m:=firstArgMember _ _) (wpAny_of_eq (a:=Value.none) (by first|rfl|(simp only[firstArgMember];rfl)) ?_)
 refine Vd ?_ (by size_fits)
 simp only[raiseNew]
 refine wpAny_bind (wpAny_handled ?_)
 first|rw[show A.in1.handled=none from hh]|rw[hh]
 refine wpAny_bind (wpAny_pure (wpAny_throw ?_))
 exact fin _ _ (((Heap.SameBut.update ..).extBut.push _).push _) ⟨_,Heap.get?_push_size _ rfl,rfl⟩
theorem kX{k:Bool}{j l:Addr}{i:Nat}{its:Array Value}{x:Value}{Q:Value→Shared→Prop}(hj:aY k s.heap j l i)(hl:bB k s.heap l its)(hx:its[i]?=some x)
  (fin:∀g,aY k g j l (i+1)→Heap.SameBut j s.heap g→Q x {s with heap:=g}):wpAny (model prog w) A (Builtin.SmallTypes.nextOf (.ref j)) Q E s:=by
 cases k with
 | true=>exact Vp hj hl hx fin
 | false=>exact wJ hj hl hx fin
theorem qw{k:Bool}{j l:Addr}{i:Nat}{its:Array Value}{Q:Value→Shared→Prop}(hh:A.handled=none)(hj:aY k s.heap j l i)(hl:bB k s.heap l its)(hx:its[i]?=none)
  (fin:∀g e,Heap.ExtBut j s.heap g→(∃o,g.get? e=some o∧o.cls=.type "StopIteration")→E (.ref e) {s with heap:=g}):wpAny (model prog w) A (Builtin.SmallTypes.nextOf (.ref j)) Q E s:=by
 cases k with
 | true=>exact VE hh hj hl hx fin
 | false=>exact uW hh hj hl hx fin
theorem qu{k:Bool}{l:Addr}{its:Array Value}{Q:Value→Shared→Prop}(hl:bB k s.heap l its)(fin:Q (.ref s.heap.objs.size) {s with heap:=s.heap.push (ug k l)}):wpAny (model prog w) A (pyIter (.ref l)) Q E s:=by
 cases k with
 | true=>exact Tq hl fin
 | false=>exact V8 hl fin
abbrev dz(h:Heap)(T:Addr)(a b c:Value):Prop:=h.get? T=some {cls:=.type "tuple",data:=.seq #[a,b,c]}
theorem gd{T:Addr}{a b c x:Value}{k:Nat}{Q:Unit→Shared→Prop}(hT:dz s.heap T a b c)
  (fin:∀g,g.get? T=some {cls:=.type "tuple",data:=.seq ((#[a,b,c]:Array Value).setIfInBounds k x)}→Heap.SameBut T s.heap g→Q () {s with heap:=g}) :
  wpAny (model prog w) A (updateSeq T (·.setIfInBounds k x)) Q E s:=by
 refine WJ hT rfl (fin _ ?_ (Heap.SameBut.update ..))
 rw[Heap.get?_update_self _ hT rfl]
 simp[Obj.mapSeq]
structure vD(z TI TO i1 i2 i3 l1 l2 l3:Addr):Prop where
 nd:[z,TI,TO,i1,i2,i3].Nodup
 m1:l1∉[z,TI,TO,i1,i2,i3]
 m2:l2∉[z,TI,TO,i1,i2,i3]
 m3:l3∉[z,TI,TO,i1,i2,i3]
theorem La{k1 k2 k3:Bool}{z TI TO i1 i2 i3 l1 l2 l3:Addr}{n:Nat}{xs ys zs:Array Value}{x y v a b c:Value}{Q:Value→Shared→Prop}(D:vD z TI TO i1 i2 i3 l1 l2 l3)
  (hz:IsZip s.heap z TI TO .none)(hTI:dz s.heap TI (.ref i1) (.ref i2) (.ref i3))(hTO:dz s.heap TO a b c)
  (h1:aY k1 s.heap i1 l1 n)(h2:aY k2 s.heap i2 l2 n)(h3:aY k3 s.heap i3 l3 n)(q1:bB k1 s.heap l1 xs)(q2:bB k2 s.heap l2 ys)(q3:bB k3 s.heap l3 zs)(hx:xs[n]?=some x)(hy:ys[n]?=some y)(hv:zs[n]?=some v)
  (fin:∀g,IsZip g z TI TO (rawInt s.heap.objs.size)→dz g TO x y v→aY k1 g i1 l1 (n+1)→aY k2 g i2 l2 (n+1)→aY k3 g i3 l3 (n+1)→dz g s.heap.objs.size x y v→g.objs.size=s.heap.objs.size+1 →
   (∀c o,c∉[z,TO,i1,i2,i3]→s.heap.get? c=some o→g.get? c=some o)→Q (.ref s.heap.objs.size) {s with heap:=g}) :
  wpAny (model prog w) A (Builtin.«zip.__next__» ⟨[.ref z],[]⟩) (fun fin s'=>∃v,fin=.done (.ret v)∧Q v s') E s:=by
 obtain⟨nd,m1,m2,m3⟩:=D
 simp only[Rh,QM,Q8,or_false,not_or,not_false_eq_true,SW,and_true]at nd m1 m2 m3
 obtain⟨⟨a1,a2,a3,a4,a5⟩,⟨b1,b2,b3,b4⟩,⟨c1,c2,c3⟩,⟨d1,d2⟩,e1⟩:=nd
 obtain⟨n1,n2,n3,n4,n5,n6⟩:=m1
 obtain⟨o1,o2,o3,o4,o5,o6⟩:=m2
 obtain⟨p1,p2,p3,p4,p5,p6⟩:=m3
 show wpAny _ _ (field (.ref z) 2 >>= _) _ _ _
 refine wpAny_bind (wpAny_field hz rfl (x:=.bool false) rfl ?_)
 show wpAny _ _ (field (.ref z) 3 >>= _) _ _ _
 refine wpAny_bind (wpAny_field hz rfl (x:=.ref TI) rfl ?_)
 refine wpAny_bind (RK hTI rfl ?_)
 show wpAny _ _ (Builtin.SmallTypes.ownedTupleIsFree (.ref z) >>= _) _ _ _
 refine wpAny_bind ?_
 unfold Builtin.SmallTypes.ownedTupleIsFree
 refine wpAny_bind (wpAny_field hz rfl (x:=.none) rfl (wpAny_pure ?_))
 simp only[if_true]
 refine wpAny_bind (wpAny_rule ?_)
 refine wpAny_bind (wpAny_field hz rfl (x:=.ref TO) rfl ?_)
 refine wpAny_bind (Ry hz (by simp) fun g1 z1 s1=>?_)
 replace z1:IsZip g1 z TI TO .ellipsis:=z1
 have u1:∀c o,c≠z→s.heap.get? c=some o→g1.get? c=some o:=fun c o e q=>s1.extBut _ _ e q
 refine wpAny_bind ?_
 simp only[Uu,UN,Ug,T2]
 refine wpAny_bind (wpAny_bind (SV ?_))
 show wpAny _ _ (Builtin.SmallTypes.nextOf (.ref i1) >>= _) _ _ _
 refine wpAny_bind (kX (h1.move fun o=>u1 _ o (Ne.symm a3)) (q1.move fun o=>u1 _ o n1) hx fun g2 r1 s2=>wpAny_pure ?_)
 have u2:∀c o,c≠z→c≠i1→s.heap.get? c=some o→g2.get? c=some o:=fun c o e f q=>s2.extBut _ _ f (u1 c o e q)
 have t2:dz g2 TO a b c:=u2 _ _ (Ne.symm a2) c1 hTO
 refine wpAny_bind (RK t2 rfl ?_)
 refine wpAny_bind (gd t2 fun g3 t3 s3=>?_)
 replace t3:dz g3 TO x b c:=t3
 have u3:∀c o,c≠z→c≠i1→c≠TO→s.heap.get? c=some o→g3.get? c=some o:=fun c o e f d q=>s3.extBut _ _ d (u2 c o e f q)
 refine wpAny_bind (wpAny_letGo (wpAny_pure ?_))
 refine wpAny_bind (wpAny_bind (SV ?_))
 show wpAny _ _ (Builtin.SmallTypes.nextOf (.ref i2) >>= _) _ _ _
 refine wpAny_bind (kX (h2.move fun o=>u3 _ o (Ne.symm a4) (Ne.symm d1) (Ne.symm c2)) (q2.move fun o=>u3 _ o o1 o4 o3) hy fun g4 r2 s4=>wpAny_pure ?_)
 have u4:∀c o,c≠z→c≠i1→c≠TO→c≠i2→s.heap.get? c=some o→g4.get? c=some o:=fun c o e f d k q=>s4.extBut _ _ k (u3 c o e f d q)
 have t4:dz g4 TO x b c:=s4.extBut _ _ c2 t3
 refine wpAny_bind (RK t4 rfl ?_)
 refine wpAny_bind (gd t4 fun g5 t5 s5=>?_)
 replace t5:dz g5 TO x y c:=t5
 have u5:∀c o,c≠z→c≠i1→c≠TO→c≠i2→s.heap.get? c=some o→g5.get? c=some o:=fun c o e f d k q=>s5.extBut _ _ d (u4 c o e f d k q)
 refine wpAny_bind (wpAny_letGo (wpAny_pure ?_))
 refine wpAny_bind (wpAny_bind (SV ?_))
 show wpAny _ _ (Builtin.SmallTypes.nextOf (.ref i3) >>= _) _ _ _
 refine wpAny_bind (kX (h3.move fun o=>u5 _ o (Ne.symm a5) (Ne.symm d2) (Ne.symm c3) (Ne.symm e1)) (q3.move fun o=>u5 _ o p1 p4 p3 p5) hv fun g6 r3 s6=>wpAny_pure ?_)
 have u6:∀c o,c≠z→c≠i1→c≠TO→c≠i2→c≠i3→s.heap.get? c=some o→g6.get? c=some o:=fun c o e f d k l q=>s6.extBut _ _ l (u5 c o e f d k q)
 have t6:dz g6 TO x y c:=s6.extBut _ _ c3 t5
 refine wpAny_bind (RK t6 rfl ?_)
 refine wpAny_bind (gd t6 fun g7 t7 s7=>?_)
 replace t7:dz g7 TO x y v:=t7
 have u7:∀c o,c≠z→c≠i1→c≠TO→c≠i2→c≠i3→s.heap.get? c=some o→g7.get? c=some o:=fun c o e f d k l q=>s7.extBut _ _ d (u6 c o e f d k l q)
 refine wpAny_bind (wpAny_letGo (wpAny_pure (wpAny_pure ?_)))
 refine wpAny_bind (RK t7 rfl ?_)
 refine wpAny_bind (VO ?_)
 have sz:g7.objs.size=s.heap.objs.size:=by rw[s7.1,s6.1,s5.1,s4.1,s3.1,s2.1,s1.1]
 have z7:IsZip g7 z TI TO .ellipsis:=s7.extBut _ _ a2 (s6.extBut _ _ a5 (s5.extBut _ _ a2 (s4.extBut _ _ a4 (s3.extBut _ _ a2 (s2.extBut _ _ a3 z1)))))
 have w1:aY k1 g7 i1 l1 (n+1):=r1.move fun o q=>s7.extBut _ _ (Ne.symm c1) (s6.extBut _ _ d2 (s5.extBut _ _ (Ne.symm c1) (s4.extBut _ _ d1 (s3.extBut _ _ (Ne.symm c1) q))))
 have w2:aY k2 g7 i2 l2 (n+1):=r2.move fun o q=>s7.extBut _ _ (Ne.symm c2) (s6.extBut _ _ e1 (s5.extBut _ _ (Ne.symm c2) q))
 have w3:aY k3 g7 i3 l3 (n+1):=r3.move fun o q=>s7.extBut _ _ (Ne.symm c3) q
 have zl:z<g7.objs.size:=Heap.lt_size z7
 show wpAny _ _ (Builtin.SmallTypes.ownedTupleHandOut (.ref z) (.ref g7.objs.size) >>= _) _ _ _
 refine wpAny_bind ?_
 unfold Builtin.SmallTypes.ownedTupleHandOut
 have z8:IsZip (g7.push {cls:=.type "tuple",data:=.seq #[x,y,v]}) z TI TO .ellipsis:=Heap.get?_push_of_some _ z7
 refine wpAny_bind (Ry z8 (by simp) fun g8 z9 s8=>?_)
 replace z9:IsZip g8 z TI TO (rawInt g7.objs.size):=z9
 refine Ry z9 (by simp) fun g9 z10 s9=>?_
 replace z10:IsZip g9 z TI TO (rawInt g7.objs.size):=z10
 have up:∀c o,c≠z→g7.get? c=some o→g9.get? c=some o:=fun c o e q=>s9.extBut _ _ e (s8.extBut _ _ e (Heap.get?_push_of_some _ q))
 have tn:dz g9 g7.objs.size x y v:=s9.extBut _ _ (RW zl) (s8.extBut _ _ (RW zl) (Heap.get?_push_size _ rfl))
 have sz9:g9.objs.size=g7.objs.size+1:=by rw[s9.1,s8.1,Heap.size_push]
 rw[sz]at z10 tn sz9
 refine wpAny_pure ⟨_,rfl,?_⟩
 show Q (.ref g7.objs.size) _
 rw[sz]
 exact fin g9 z10 (up _ _ (Ne.symm a2) t7) (w1.move fun o=>up _ o (Ne.symm a3)) (w2.move fun o=>up _ o (Ne.symm a4)) (w3.move fun o=>up _ o (Ne.symm a5)) tn sz9 fun c o nc q=>by
  simp only[QM,Q8,or_false,not_or]at nc
  exact up c o nc.1 (u7 c o nc.1 nc.2.2.1 nc.2.1 nc.2.2.2.1 nc.2.2.2.2 q)
theorem Jy{k1 k2 k3:Bool}{z TI TO i1 i2 i3 l1 l2 l3:Addr}{n:Nat}{xs ys zs:Array Value}{a b c:Value}{Q:Fin→Shared→Prop}(hh:A.handled=none)(D:vD z TI TO i1 i2 i3 l1 l2 l3)
  (hz:IsZip s.heap z TI TO .none)(hTI:dz s.heap TI (.ref i1) (.ref i2) (.ref i3))(hTO:dz s.heap TO a b c)
  (h1:aY k1 s.heap i1 l1 n)(h2:aY k2 s.heap i2 l2 n)(h3:aY k3 s.heap i3 l3 n)(q1:bB k1 s.heap l1 xs)(q2:bB k2 s.heap l2 ys)(q3:bB k3 s.heap l3 zs)(hend:xs[n]?=none∨ys[n]?=none∨zs[n]?=none)
  (fin:∀g e,(∀c o,c∉[z,TO,i1,i2,i3]→s.heap.get? c=some o→g.get? c=some o)→(∃o,g.get? e=some o∧o.cls=.type "StopIteration")→E (.ref e) {s with heap:=g}) :
  wpAny (model prog w) A (Builtin.«zip.__next__» ⟨[.ref z],[]⟩) Q E s:=by
 obtain⟨nd,m1,m2,m3⟩:=D
 simp only[Rh,QM,Q8,or_false,not_or,not_false_eq_true,SW,and_true]at nd m1 m2 m3
 obtain⟨⟨a1,a2,a3,a4,a5⟩,⟨b1,b2,b3,b4⟩,⟨c1,c2,c3⟩,⟨d1,d2⟩,e1⟩:=nd
 obtain⟨n1,n2,n3,n4,n5,n6⟩:=m1
 obtain⟨o1,o2,o3,o4,o5,o6⟩:=m2
 obtain⟨p1,p2,p3,p4,p5,p6⟩:=m3
 show wpAny _ _ (field (.ref z) 2 >>= _) _ _ _
 refine wpAny_bind (wpAny_field hz rfl (x:=.bool false) rfl ?_)
 show wpAny _ _ (field (.ref z) 3 >>= _) _ _ _
 refine wpAny_bind (wpAny_field hz rfl (x:=.ref TI) rfl ?_)
 refine wpAny_bind (RK hTI rfl ?_)
 show wpAny _ _ (Builtin.SmallTypes.ownedTupleIsFree (.ref z) >>= _) _ _ _
 refine wpAny_bind ?_
 unfold Builtin.SmallTypes.ownedTupleIsFree
 refine wpAny_bind (wpAny_field hz rfl (x:=.none) rfl (wpAny_pure ?_))
 simp only[if_true]
 refine wpAny_bind (wpAny_rule ?_)
 refine wpAny_bind (wpAny_field hz rfl (x:=.ref TO) rfl ?_)
 refine wpAny_bind (Ry hz (by simp) fun g1 z1 s1=>?_)
 replace z1:IsZip g1 z TI TO .ellipsis:=z1
 have u1:∀c o,c≠z→s.heap.get? c=some o→g1.get? c=some o:=fun c o e q=>s1.extBut _ _ e q
 refine wpAny_bind ?_
 simp only[Uu,UN,Ug,T2]
 refine wpAny_bind (wpAny_bind (SV ?_))
 show wpAny _ _ (Builtin.SmallTypes.nextOf (.ref i1) >>= _) _ _ _
 have stop:∀(g:Heap)(e:Addr),IsZip g z TI TO .ellipsis→(∃o,g.get? e=some o∧o.cls=.type "StopIteration")→(∀c o,c∉[z,TO,i1,i2,i3]→s.heap.get? c=some o→g.get? c=some o)→wpAny (model prog w) A (setField (.ref z) 0 .none) (fun _ s'=>E (.ref e) s') E {s with heap:=g}:=by
  intro g e hg he hk
  obtain⟨oe,hoe,hce⟩:=he
  have ez:e≠z:=fun q=>by subst q;rw[hg]at hoe;cases hoe;simp at hce
  refine Ry hg (by simp) fun g' _ s'=>fin g' e (fun c o nc q=>?_) ⟨oe,s'.extBut _ _ ez hoe,hce⟩
  have nz:c≠z:=fun q=>nc (by simp[q])
  exact s'.extBut _ _ nz (hk c o nc q)
 have not5:∀{c:Addr},c∉[z,TO,i1,i2,i3]→c≠z∧c≠TO∧c≠i1∧c≠i2∧c≠i3:=by
  intro c nc
  simpa only[QM,Q8,or_false,not_or]using nc
 cases hx:xs[n]? with
 | none =>
  refine wpAny_bind (qw hh (h1.move fun o=>u1 _ o (Ne.symm a3)) (q1.move fun o=>u1 _ o n1) hx fun g2 e s2 he=>?_)
  exact stop g2 e (s2 _ _ a3 z1) he fun c o nc q=>s2 _ _ (not5 nc).2.2.1 (u1 c o (not5 nc).1 q)
 | some x =>
  refine wpAny_bind (kX (h1.move fun o=>u1 _ o (Ne.symm a3)) (q1.move fun o=>u1 _ o n1) hx fun g2 r1 s2=>wpAny_pure ?_)
  have u2:∀c o,c≠z→c≠i1→s.heap.get? c=some o→g2.get? c=some o:=fun c o e f q=>s2.extBut _ _ f (u1 c o e q)
  have t2:dz g2 TO a b c:=u2 _ _ (Ne.symm a2) c1 hTO
  refine wpAny_bind (RK t2 rfl ?_)
  refine wpAny_bind (gd t2 fun g3 t3 s3=>?_)
  replace t3:dz g3 TO x b c:=t3
  have u3:∀c o,c≠z→c≠i1→c≠TO→s.heap.get? c=some o→g3.get? c=some o:=fun c o e f d q=>s3.extBut _ _ d (u2 c o e f q)
  have z3:IsZip g3 z TI TO .ellipsis:=s3.extBut _ _ a2 (s2.extBut _ _ a3 z1)
  refine wpAny_bind (wpAny_letGo (wpAny_pure ?_))
  refine wpAny_bind (wpAny_bind (SV ?_))
  show wpAny _ _ (Builtin.SmallTypes.nextOf (.ref i2) >>= _) _ _ _
  cases hy:ys[n]? with
  | none =>
   refine wpAny_bind (qw hh (h2.move fun o=>u3 _ o (Ne.symm a4) (Ne.symm d1) (Ne.symm c2)) (q2.move fun o=>u3 _ o o1 o4 o3) hy fun g4 e s4 he=>?_)
   exact stop g4 e (s4 _ _ a4 z3) he fun c o nc q=>s4 _ _ (not5 nc).2.2.2.1 (u3 c o (not5 nc).1 (not5 nc).2.2.1 (not5 nc).2.1 q)
  | some y =>
   have hv:zs[n]?=none:=by
    rcases hend with q|q|q
    ·rw[hx]at q;cases q
    ·rw[hy]at q;cases q
    ·exact q
   refine wpAny_bind (kX (h2.move fun o=>u3 _ o (Ne.symm a4) (Ne.symm d1) (Ne.symm c2)) (q2.move fun o=>u3 _ o o1 o4 o3) hy fun g4 r2 s4=>wpAny_pure ?_)
   have u4:∀c o,c≠z→c≠i1→c≠TO→c≠i2→s.heap.get? c=some o→g4.get? c=some o:=fun c o e f d k q=>s4.extBut _ _ k (u3 c o e f d q)
   have t4:dz g4 TO x b c:=s4.extBut _ _ c2 t3
   refine wpAny_bind (RK t4 rfl ?_)
   refine wpAny_bind (gd t4 fun g5 t5 s5=>?_)
   have u5:∀c o,c≠z→c≠i1→c≠TO→c≠i2→s.heap.get? c=some o→g5.get? c=some o:=fun c o e f d k q=>s5.extBut _ _ d (u4 c o e f d k q)
   have z5:IsZip g5 z TI TO .ellipsis:=s5.extBut _ _ a2 (s4.extBut _ _ a4 z3)
   refine wpAny_bind (wpAny_letGo (wpAny_pure ?_))
   refine wpAny_bind (wpAny_bind (SV ?_))
   show wpAny _ _ (Builtin.SmallTypes.nextOf (.ref i3) >>= _) _ _ _
   refine wpAny_bind (qw hh (h3.move fun o=>u5 _ o (Ne.symm a5) (Ne.symm d2) (Ne.symm c3) (Ne.symm e1)) (q3.move fun o=>u5 _ o p1 p4 p3 p5) hv fun g6 e s6 he=>?_)
   exact stop g6 e (s6 _ _ a5 z5) he fun c o nc q=>s6 _ _ (not5 nc).2.2.2.2 (u5 c o (not5 nc).1 (not5 nc).2.2.1 (not5 nc).2.1 (not5 nc).2.2.2.1 q)
structure vC(z TI TO i1 i2 l1 l2:Addr):Prop where
 nd:[z,TI,TO,i1,i2].Nodup
 m1:l1∉[z,TI,TO,i1,i2]
 m2:l2∉[z,TI,TO,i1,i2]
theorem K9{k1 k2:Bool}{z TI TO i1 i2 l1 l2:Addr}{n:Nat}{xs ys:Array Value}{x y a b:Value}{Q:Value→Shared→Prop}(D:vC z TI TO i1 i2 l1 l2)
  (hz:IsZip s.heap z TI TO .none)(hTI:IsPair s.heap TI (.ref i1) (.ref i2))(hTO:IsPair s.heap TO a b)
  (h1:aY k1 s.heap i1 l1 n)(h2:aY k2 s.heap i2 l2 n)(q1:bB k1 s.heap l1 xs)(q2:bB k2 s.heap l2 ys)(hx:xs[n]?=some x)(hy:ys[n]?=some y)
  (fin:∀g,IsZip g z TI TO (rawInt s.heap.objs.size)→IsPair g TO x y→aY k1 g i1 l1 (n+1)→aY k2 g i2 l2 (n+1)→IsPair g s.heap.objs.size x y→g.objs.size=s.heap.objs.size+1 →
   (∀c o,c∉[z,TO,i1,i2]→s.heap.get? c=some o→g.get? c=some o)→Q (.ref s.heap.objs.size) {s with heap:=g}) :
  wpAny (model prog w) A (Builtin.«zip.__next__» ⟨[.ref z],[]⟩) (fun fin s'=>∃v,fin=.done (.ret v)∧Q v s') E s:=by
 obtain⟨nd,m1,m2⟩:=D
 simp only[Rh,QM,Q8,or_false,not_or,not_false_eq_true,SW,and_true]at nd m1 m2
 obtain⟨⟨a1,a2,a3,a4⟩,⟨b1,b2,b3⟩,⟨c1,c2⟩,d1⟩:=nd
 obtain⟨n1,n2,n3,n4,n5⟩:=m1
 obtain⟨o1,o2,o3,o4,o5⟩:=m2
 show wpAny _ _ (field (.ref z) 2 >>= _) _ _ _
 refine wpAny_bind (wpAny_field hz rfl (x:=.bool false) rfl ?_)
 show wpAny _ _ (field (.ref z) 3 >>= _) _ _ _
 refine wpAny_bind (wpAny_field hz rfl (x:=.ref TI) rfl ?_)
 refine wpAny_bind (RK hTI rfl ?_)
 show wpAny _ _ (Builtin.SmallTypes.ownedTupleIsFree (.ref z) >>= _) _ _ _
 refine wpAny_bind ?_
 unfold Builtin.SmallTypes.ownedTupleIsFree
 refine wpAny_bind (wpAny_field hz rfl (x:=.none) rfl (wpAny_pure ?_))
 simp only[if_true]
 refine wpAny_bind (wpAny_rule ?_)
 refine wpAny_bind (wpAny_field hz rfl (x:=.ref TO) rfl ?_)
 refine wpAny_bind (Ry hz (by simp) fun g1 z1 s1=>?_)
 replace z1:IsZip g1 z TI TO .ellipsis:=z1
 have u1:∀c o,c≠z→s.heap.get? c=some o→g1.get? c=some o:=fun c o e q=>s1.extBut _ _ e q
 refine wpAny_bind ?_
 simp only[Uu,UN,Ug,T2]
 refine wpAny_bind (wpAny_bind (SV ?_))
 show wpAny _ _ (Builtin.SmallTypes.nextOf (.ref i1) >>= _) _ _ _
 refine wpAny_bind (kX (h1.move fun o=>u1 _ o (Ne.symm a3)) (q1.move fun o=>u1 _ o n1) hx fun g2 r1 s2=>wpAny_pure ?_)
 have u2:∀c o,c≠z→c≠i1→s.heap.get? c=some o→g2.get? c=some o:=fun c o e f q=>s2.extBut _ _ f (u1 c o e q)
 have t2:IsPair g2 TO a b:=u2 _ _ (Ne.symm a2) c1 hTO
 refine wpAny_bind (RK t2 rfl ?_)
 refine wpAny_bind (UE t2 fun g3 t3 s3=>?_)
 replace t3:IsPair g3 TO x b:=t3
 have u3:∀c o,c≠z→c≠i1→c≠TO→s.heap.get? c=some o→g3.get? c=some o:=fun c o e f d q=>s3.extBut _ _ d (u2 c o e f q)
 refine wpAny_bind (wpAny_letGo (wpAny_pure ?_))
 refine wpAny_bind (wpAny_bind (SV ?_))
 show wpAny _ _ (Builtin.SmallTypes.nextOf (.ref i2) >>= _) _ _ _
 refine wpAny_bind (kX (h2.move fun o=>u3 _ o (Ne.symm a4) (Ne.symm d1) (Ne.symm c2)) (q2.move fun o=>u3 _ o o1 o4 o3) hy fun g6 r2 s6=>wpAny_pure ?_)
 have u6:∀c o,c≠z→c≠i1→c≠TO→c≠i2→s.heap.get? c=some o→g6.get? c=some o:=fun c o e f d k q=>s6.extBut _ _ k (u3 c o e f d q)
 have t6:IsPair g6 TO x b:=s6.extBut _ _ c2 t3
 refine wpAny_bind (RK t6 rfl ?_)
 refine wpAny_bind (UE t6 fun g7 t7 s7=>?_)
 replace t7:IsPair g7 TO x y:=t7
 have u7:∀c o,c≠z→c≠i1→c≠TO→c≠i2→s.heap.get? c=some o→g7.get? c=some o:=fun c o e f d k q=>s7.extBut _ _ d (u6 c o e f d k q)
 refine wpAny_bind (wpAny_letGo (wpAny_pure (wpAny_pure ?_)))
 refine wpAny_bind (RK t7 rfl ?_)
 refine wpAny_bind (VO ?_)
 have sz:g7.objs.size=s.heap.objs.size:=by rw[s7.1,s6.1,s3.1,s2.1,s1.1]
 have z7:IsZip g7 z TI TO .ellipsis:=s7.extBut _ _ a2 (s6.extBut _ _ a4 (s3.extBut _ _ a2 (s2.extBut _ _ a3 z1)))
 have w1:aY k1 g7 i1 l1 (n+1):=r1.move fun o q=>s7.extBut _ _ (Ne.symm c1) (s6.extBut _ _ d1 (s3.extBut _ _ (Ne.symm c1) q))
 have w2:aY k2 g7 i2 l2 (n+1):=r2.move fun o q=>s7.extBut _ _ (Ne.symm c2) q
 have zl:z<g7.objs.size:=Heap.lt_size z7
 show wpAny _ _ (Builtin.SmallTypes.ownedTupleHandOut (.ref z) (.ref g7.objs.size) >>= _) _ _ _
 refine wpAny_bind ?_
 unfold Builtin.SmallTypes.ownedTupleHandOut
 have z8:IsZip (g7.push {cls:=.type "tuple",data:=.seq #[x,y]}) z TI TO .ellipsis:=Heap.get?_push_of_some _ z7
 refine wpAny_bind (Ry z8 (by simp) fun g8 z9 s8=>?_)
 replace z9:IsZip g8 z TI TO (rawInt g7.objs.size):=z9
 refine Ry z9 (by simp) fun g9 z10 s9=>?_
 replace z10:IsZip g9 z TI TO (rawInt g7.objs.size):=z10
 have up:∀c o,c≠z→g7.get? c=some o→g9.get? c=some o:=fun c o e q=>s9.extBut _ _ e (s8.extBut _ _ e (Heap.get?_push_of_some _ q))
 have tn:IsPair g9 g7.objs.size x y:=s9.extBut _ _ (RW zl) (s8.extBut _ _ (RW zl) (Heap.get?_push_size _ rfl))
 have sz9:g9.objs.size=g7.objs.size+1:=by rw[s9.1,s8.1,Heap.size_push]
 rw[sz]at z10 tn sz9
 refine wpAny_pure ⟨_,rfl,?_⟩
 show Q (.ref g7.objs.size) _
 rw[sz]
 exact fin g9 z10 (up _ _ (Ne.symm a2) t7) (w1.move fun o=>up _ o (Ne.symm a3)) (w2.move fun o=>up _ o (Ne.symm a4)) tn sz9 fun c o nc q=>by
  simp only[QM,Q8,or_false,not_or]at nc
  exact up c o nc.1 (u7 c o nc.1 nc.2.2.1 nc.2.1 nc.2.2.2 q)
theorem Jx{k1 k2:Bool}{z TI TO i1 i2 l1 l2:Addr}{n:Nat}{xs ys:Array Value}{a b:Value}{Q:Fin→Shared→Prop}(hh:A.handled=none)(D:vC z TI TO i1 i2 l1 l2)
  (hz:IsZip s.heap z TI TO .none)(hTI:IsPair s.heap TI (.ref i1) (.ref i2))(hTO:IsPair s.heap TO a b)
  (h1:aY k1 s.heap i1 l1 n)(h2:aY k2 s.heap i2 l2 n)(q1:bB k1 s.heap l1 xs)(q2:bB k2 s.heap l2 ys)(hend:xs[n]?=none∨ys[n]?=none)
  (fin:∀g e,(∀c o,c∉[z,TO,i1,i2]→s.heap.get? c=some o→g.get? c=some o)→(∃o,g.get? e=some o∧o.cls=.type "StopIteration")→E (.ref e) {s with heap:=g}) :
  wpAny (model prog w) A (Builtin.«zip.__next__» ⟨[.ref z],[]⟩) Q E s:=by
 obtain⟨nd,m1,m2⟩:=D
 simp only[Rh,QM,Q8,or_false,not_or,not_false_eq_true,SW,and_true]at nd m1 m2
 obtain⟨⟨a1,a2,a3,a4⟩,⟨b1,b2,b3⟩,⟨c1,c2⟩,d1⟩:=nd
 obtain⟨n1,n2,n3,n4,n5⟩:=m1
 obtain⟨o1,o2,o3,o4,o5⟩:=m2
 show wpAny _ _ (field (.ref z) 2 >>= _) _ _ _
 refine wpAny_bind (wpAny_field hz rfl (x:=.bool false) rfl ?_)
 show wpAny _ _ (field (.ref z) 3 >>= _) _ _ _
 refine wpAny_bind (wpAny_field hz rfl (x:=.ref TI) rfl ?_)
 refine wpAny_bind (RK hTI rfl ?_)
 show wpAny _ _ (Builtin.SmallTypes.ownedTupleIsFree (.ref z) >>= _) _ _ _
 refine wpAny_bind ?_
 unfold Builtin.SmallTypes.ownedTupleIsFree
 refine wpAny_bind (wpAny_field hz rfl (x:=.none) rfl (wpAny_pure ?_))
 simp only[if_true]
 refine wpAny_bind (wpAny_rule ?_)
 refine wpAny_bind (wpAny_field hz rfl (x:=.ref TO) rfl ?_)
 refine wpAny_bind (Ry hz (by simp) fun g1 z1 s1=>?_)
 replace z1:IsZip g1 z TI TO .ellipsis:=z1
 have u1:∀c o,c≠z→s.heap.get? c=some o→g1.get? c=some o:=fun c o e q=>s1.extBut _ _ e q
 refine wpAny_bind ?_
 simp only[Uu,UN,Ug,T2]
 refine wpAny_bind (wpAny_bind (SV ?_))
 show wpAny _ _ (Builtin.SmallTypes.nextOf (.ref i1) >>= _) _ _ _
 have stop:∀(g:Heap)(e:Addr),IsZip g z TI TO .ellipsis→(∃o,g.get? e=some o∧o.cls=.type "StopIteration")→(∀c o,c∉[z,TO,i1,i2]→s.heap.get? c=some o→g.get? c=some o)→wpAny (model prog w) A (setField (.ref z) 0 .none) (fun _ s'=>E (.ref e) s') E {s with heap:=g}:=by
  intro g e hg he hk
  obtain⟨oe,hoe,hce⟩:=he
  have ez:e≠z:=fun q=>by subst q;rw[hg]at hoe;cases hoe;simp at hce
  refine Ry hg (by simp) fun g' _ s'=>fin g' e (fun c o nc q=>?_) ⟨oe,s'.extBut _ _ ez hoe,hce⟩
  have nz:c≠z:=fun q=>nc (by simp[q])
  exact s'.extBut _ _ nz (hk c o nc q)
 have not4:∀{c:Addr},c∉[z,TO,i1,i2]→c≠z∧c≠TO∧c≠i1∧c≠i2:=by
  intro c nc
  simpa only[QM,Q8,or_false,not_or]using nc
 cases hx:xs[n]? with
 | none =>
  refine wpAny_bind (qw hh (h1.move fun o=>u1 _ o (Ne.symm a3)) (q1.move fun o=>u1 _ o n1) hx fun g2 e s2 he=>?_)
  exact stop g2 e (s2 _ _ a3 z1) he fun c o nc q=>s2 _ _ (not4 nc).2.2.1 (u1 c o (not4 nc).1 q)
 | some x =>
  have hy:ys[n]?=none:=by
   rcases hend with q|q
   ·rw[hx]at q;cases q
   ·exact q
  refine wpAny_bind (kX (h1.move fun o=>u1 _ o (Ne.symm a3)) (q1.move fun o=>u1 _ o n1) hx fun g2 r1 s2=>wpAny_pure ?_)
  have u2:∀c o,c≠z→c≠i1→s.heap.get? c=some o→g2.get? c=some o:=fun c o e f q=>s2.extBut _ _ f (u1 c o e q)
  have t2:IsPair g2 TO a b:=u2 _ _ (Ne.symm a2) c1 hTO
  refine wpAny_bind (RK t2 rfl ?_)
  refine wpAny_bind (UE t2 fun g3 t3 s3=>?_)
  have u3:∀c o,c≠z→c≠i1→c≠TO→s.heap.get? c=some o→g3.get? c=some o:=fun c o e f d q=>s3.extBut _ _ d (u2 c o e f q)
  have z3:IsZip g3 z TI TO .ellipsis:=s3.extBut _ _ a2 (s2.extBut _ _ a3 z1)
  refine wpAny_bind (wpAny_letGo (wpAny_pure ?_))
  refine wpAny_bind (wpAny_bind (SV ?_))
  show wpAny _ _ (Builtin.SmallTypes.nextOf (.ref i2) >>= _) _ _ _
  refine wpAny_bind (qw hh (h2.move fun o=>u3 _ o (Ne.symm a4) (Ne.symm d1) (Ne.symm c2)) (q2.move fun o=>u3 _ o o1 o4 o3) hy fun g4 e s4 he=>?_)
  exact stop g4 e (s4 _ _ a4 z3) he fun c o nc q=>s4 _ _ (not4 nc).2.2.2 (u3 c o (not4 nc).1 (not4 nc).2.2.1 (not4 nc).2.1 q)
theorem Jq{k1 k2 k3:Bool}{z TI TO i1 i2 i3 l1 l2 l3:Addr}{n:Nat}{xs ys zs:Array Value}{x y v a b c:Value}{Q:Option Value→Shared→Prop}(D:vD z TI TO i1 i2 i3 l1 l2 l3)
  (hz:IsZip s.heap z TI TO .none)(hTI:dz s.heap TI (.ref i1) (.ref i2) (.ref i3))(hTO:dz s.heap TO a b c)
  (h1:aY k1 s.heap i1 l1 n)(h2:aY k2 s.heap i2 l2 n)(h3:aY k3 s.heap i3 l3 n)(q1:bB k1 s.heap l1 xs)(q2:bB k2 s.heap l2 ys)(q3:bB k3 s.heap l3 zs)(hx:xs[n]?=some x)(hy:ys[n]?=some y)(hv:zs[n]?=some v)
  (fin:∀g,IsZip g z TI TO (rawInt s.heap.objs.size)→dz g TO x y v→aY k1 g i1 l1 (n+1)→aY k2 g i2 l2 (n+1)→aY k3 g i3 l3 (n+1)→dz g s.heap.objs.size x y v→g.objs.size=s.heap.objs.size+1 →
   (∀c o,c∉[z,TO,i1,i2,i3]→s.heap.get? c=some o→g.get? c=some o)→Q (some (.ref s.heap.objs.size)) {s with heap:=g}) :
  wpAny (model prog w) A (pyNext (.ref z)) Q E s:=by
 have tz:s.TypeIs (.ref z) "zip":=⟨_,hz,rfl⟩
 unfold pyNext
 refine wpAny_bind (Ud (R1 (name:=Str.ofString "__next__") tz F.slot_zip_next (SQ F.slot_zip_next tz F.entry_zip_next (La D hz hTI hTO h1 h2 h3 q1 q2 q3 hx hy hv fun g a1 a2 a3 a4 a5 a6 a7 a8=>?_) (F.args_zip_next_1 _))))
 exact wpAny_pure (fin g a1 a2 a3 a4 a5 a6 a7 a8)
theorem Hi{k1 k2 k3:Bool}{z TI TO i1 i2 i3 l1 l2 l3:Addr}{n:Nat}{xs ys zs:Array Value}{a b c:Value}{Q:Option Value→Shared→Prop}(hh:A.handled=none)(D:vD z TI TO i1 i2 i3 l1 l2 l3)
  (hz:IsZip s.heap z TI TO .none)(hTI:dz s.heap TI (.ref i1) (.ref i2) (.ref i3))(hTO:dz s.heap TO a b c)
  (h1:aY k1 s.heap i1 l1 n)(h2:aY k2 s.heap i2 l2 n)(h3:aY k3 s.heap i3 l3 n)(q1:bB k1 s.heap l1 xs)(q2:bB k2 s.heap l2 ys)(q3:bB k3 s.heap l3 zs)(hend:xs[n]?=none∨ys[n]?=none∨zs[n]?=none)
  (fin:∀g,(∀c o,c∉[z,TO,i1,i2,i3]→s.heap.get? c=some o→g.get? c=some o)→Q none {s with heap:=g}):wpAny (model prog w) A (pyNext (.ref z)) Q E s:=by
 have tz:s.TypeIs (.ref z) "zip":=⟨_,hz,rfl⟩
 unfold pyNext
 refine wpAny_bind (Ud (R1 (name:=Str.ofString "__next__") tz F.slot_zip_next (SQ F.slot_zip_next tz F.entry_zip_next (Jy hh D hz hTI hTO h1 h2 h3 q1 q2 q3 hend fun g e kk he=>?_) (F.args_zip_next_1 _))))
 obtain⟨o,ho,co⟩:=he
 refine wpAny_bind (Uv (T:="StopIteration") (b:=true) ⟨o,ho,co⟩ VP ?_)
 exact wpAny_pure (fin _ kk)
theorem Jp{k1 k2:Bool}{z TI TO i1 i2 l1 l2:Addr}{n:Nat}{xs ys:Array Value}{x y a b:Value}{Q:Option Value→Shared→Prop}(D:vC z TI TO i1 i2 l1 l2)
  (hz:IsZip s.heap z TI TO .none)(hTI:IsPair s.heap TI (.ref i1) (.ref i2))(hTO:IsPair s.heap TO a b)
  (h1:aY k1 s.heap i1 l1 n)(h2:aY k2 s.heap i2 l2 n)(q1:bB k1 s.heap l1 xs)(q2:bB k2 s.heap l2 ys)(hx:xs[n]?=some x)(hy:ys[n]?=some y)
  (fin:∀g,IsZip g z TI TO (rawInt s.heap.objs.size)→IsPair g TO x y→aY k1 g i1 l1 (n+1)→aY k2 g i2 l2 (n+1)→IsPair g s.heap.objs.size x y→g.objs.size=s.heap.objs.size+1 →
   (∀c o,c∉[z,TO,i1,i2]→s.heap.get? c=some o→g.get? c=some o)→Q (some (.ref s.heap.objs.size)) {s with heap:=g}) :
  wpAny (model prog w) A (pyNext (.ref z)) Q E s:=by
 have tz:s.TypeIs (.ref z) "zip":=⟨_,hz,rfl⟩
 unfold pyNext
 refine wpAny_bind (Ud (R1 (name:=Str.ofString "__next__") tz F.slot_zip_next (SQ F.slot_zip_next tz F.entry_zip_next (K9 D hz hTI hTO h1 h2 q1 q2 hx hy fun g a1 a2 a3 a4 a5 a6 a7=>?_) (F.args_zip_next_1 _))))
 exact wpAny_pure (fin g a1 a2 a3 a4 a5 a6 a7)
theorem Hg{k1 k2:Bool}{z TI TO i1 i2 l1 l2:Addr}{n:Nat}{xs ys:Array Value}{a b:Value}{Q:Option Value→Shared→Prop}(hh:A.handled=none)(D:vC z TI TO i1 i2 l1 l2)
  (hz:IsZip s.heap z TI TO .none)(hTI:IsPair s.heap TI (.ref i1) (.ref i2))(hTO:IsPair s.heap TO a b)
  (h1:aY k1 s.heap i1 l1 n)(h2:aY k2 s.heap i2 l2 n)(q1:bB k1 s.heap l1 xs)(q2:bB k2 s.heap l2 ys)(hend:xs[n]?=none∨ys[n]?=none)
  (fin:∀g,(∀c o,c∉[z,TO,i1,i2]→s.heap.get? c=some o→g.get? c=some o)→Q none {s with heap:=g}):wpAny (model prog w) A (pyNext (.ref z)) Q E s:=by
 have tz:s.TypeIs (.ref z) "zip":=⟨_,hz,rfl⟩
 unfold pyNext
 refine wpAny_bind (Ud (R1 (name:=Str.ofString "__next__") tz F.slot_zip_next (SQ F.slot_zip_next tz F.entry_zip_next (Jx hh D hz hTI hTO h1 h2 q1 q2 hend fun g e kk he=>?_) (F.args_zip_next_1 _))))
 obtain⟨o,ho,co⟩:=he
 refine wpAny_bind (Uv (T:="StopIteration") (b:=true) ⟨o,ho,co⟩ VP ?_)
 exact wpAny_pure (fin _ kk)
end
theorem Md(a b c:Value):checkTypeCall "zip" ⟨[a,b,c],[]⟩=pure ():=by kernel_rfl
theorem LM(a b c:Value):checkBuiltinCall "zip.__new__" ⟨[.type "zip",a,b,c],[]⟩=pure ():=by kernel_rfl
theorem JF(a b c d:Value):argsOk "object.__init__" ⟨[a,b,c,d],[]⟩:=by
 unfold argsOk;rw[signature?_of (id:="object.__init__") (n:=['_','_','t','i','n','i','_','_']) (o:=['t','c','e','j','b','o']) (by kernel_rfl) F.owner_object];kernel_rfl
abbrev BS(k:Bool)(h:Heap)(l:Addr):Heap:=h.push (ug k l)
abbrev Ql(h:Heap)(TI TO:Addr):Heap:=h.push {cls:=.type "zip",data:=.fields #[.none,.bool false,.bool false,.ref TI,.ref TO]}
abbrev K8(k1 k2 k3:Bool)(h:Heap)(l1 l2 l3:Addr):Heap:=BS k3 (BS k2 (BS k1 h l1) l2) l3
abbrev Ml(k1 k2 k3:Bool)(h:Heap)(l1 l2 l3:Addr):Heap:=(K8 k1 k2 k3 h l1 l2 l3).push {cls:=.type "tuple",data:=.seq #[.ref h.objs.size,.ref (BS k1 h l1).objs.size,.ref (BS k2 (BS k1 h l1) l2).objs.size]}
abbrev Mm(k1 k2 k3:Bool)(h:Heap)(l1 l2 l3:Addr):Heap:=(Ml k1 k2 k3 h l1 l2 l3).push {cls:=.type "tuple",data:=.seq #[.none,.none,.none]}
abbrev FK(k1 k2 k3:Bool)(h:Heap)(l1 l2 l3:Addr):Heap:=Ql (Mm k1 k2 k3 h l1 l2 l3) (K8 k1 k2 k3 h l1 l2 l3).objs.size (Ml k1 k2 k3 h l1 l2 l3).objs.size
theorem bB.grow{k:Bool}{h:Heap}{l:Addr}{its:Array Value}(q:bB k h l its)(o:Obj):bB k (h.push o) l its:=q.move fun _ e=>Heap.get?_push_of_some _ e
theorem GG(k1 k2 k3:Bool)(l1 l2 l3:Addr)(xs ys zs:Array Value) :
  Meets (Builtin.«zip.__new__» ⟨[.type "zip",.ref l1,.ref l2,.ref l3],[]⟩) (fun _ R s=>bB k1 s.heap l1 xs∧bB k2 s.heap l2 ys∧bB k3 s.heap l3 zs ∧
   R (.ok (.ret (.ref (Mm k1 k2 k3 s.heap l1 l2 l3).objs.size))) {s with heap:=FK k1 k2 k3 s.heap l1 l2 l3}) :=
 .of_wp fun prog w A R s h=>by
  obtain⟨hp,g,d,tk,os⟩:=s;obtain⟨q1,q2,q3,h⟩:=h
  have hsub:=sub_zip
  have L1:bB k1 (Shared.heap ⟨hp,g,d,tk,os⟩) l1 xs:=q1
  have L2:bB k2 (Shared.heap ⟨hp.push (ug k1 l1),g,d,tk,os⟩) l2 ys:=q2.grow _
  have L3:bB k3 (Shared.heap ⟨(hp.push (ug k1 l1)).push (ug k2 l2),g,d,tk,os⟩) l3 zs:=(q3.grow _).grow _
  wp_walk using qu L1,qu L2,qu L3
  exact⟨_,rfl,h⟩
abbrev K7(k1 k2:Bool)(h:Heap)(l1 l2:Addr):Heap:=BS k2 (BS k1 h l1) l2
abbrev Mi(k1 k2:Bool)(h:Heap)(l1 l2:Addr):Heap:=(K7 k1 k2 h l1 l2).push {cls:=.type "tuple",data:=.seq #[.ref h.objs.size,.ref (BS k1 h l1).objs.size]}
abbrev Mj(k1 k2:Bool)(h:Heap)(l1 l2:Addr):Heap:=(Mi k1 k2 h l1 l2).push {cls:=.type "tuple",data:=.seq #[.none,.none]}
abbrev Hr(k1 k2:Bool)(h:Heap)(l1 l2:Addr):Heap:=Ql (Mj k1 k2 h l1 l2) (K7 k1 k2 h l1 l2).objs.size (Mi k1 k2 h l1 l2).objs.size
theorem GF(k1 k2:Bool)(l1 l2:Addr)(xs ys:Array Value) :
  Meets (Builtin.«zip.__new__» ⟨[.type "zip",.ref l1,.ref l2],[]⟩) (fun _ R s=>bB k1 s.heap l1 xs∧bB k2 s.heap l2 ys ∧
   R (.ok (.ret (.ref (Mj k1 k2 s.heap l1 l2).objs.size))) {s with heap:=Hr k1 k2 s.heap l1 l2}) :=
 .of_wp fun prog w A R s h=>by
  obtain⟨hp,g,d,tk,os⟩:=s;obtain⟨q1,q2,h⟩:=h
  have hsub:=sub_zip
  have L1:bB k1 (Shared.heap ⟨hp,g,d,tk,os⟩) l1 xs:=q1
  have L2:bB k2 (Shared.heap ⟨hp.push (ug k1 l1),g,d,tk,os⟩) l2 ys:=q2.grow _
  wp_walk using qu L1,qu L2
  exact⟨_,rfl,h⟩
theorem mx(k:Bool)(h:Heap)(l:Addr):aY k (h.push (ug k l)) h.objs.size l 0:=by
 cases k<;>exact⟨_,Heap.get?_push_size _ rfl,rfl,rfl⟩
section
variable{prog:Program}{w:World}{A:Around}{E:Value→Shared→Prop}{s:Shared}
theorem Iv{k1 k2 k3:Bool}{l1 l2 l3:Addr}{xs ys zs:Array Value}{Q:Value→Shared→Prop}(q1:bB k1 s.heap l1 xs)(q2:bB k2 s.heap l2 ys)(q3:bB k3 s.heap l3 zs)
  (h:∀g,IsZip g (s.heap.objs.size+5) (s.heap.objs.size+3) (s.heap.objs.size+4) .none→dz g (s.heap.objs.size+3) (.ref s.heap.objs.size) (.ref (s.heap.objs.size+1)) (.ref (s.heap.objs.size+2)) →
   dz g (s.heap.objs.size+4) .none .none .none→aY k1 g s.heap.objs.size l1 0→aY k2 g (s.heap.objs.size+1) l2 0→aY k3 g (s.heap.objs.size+2) l3 0 →
   (∀c o,s.heap.get? c=some o→g.get? c=some o)→Q (.ref (s.heap.objs.size+5)) {s with heap:=g}) :
  wpAny (model prog w) A (call (.type "zip") [.ref l1,.ref l2,.ref l3]) Q E s:=by
 refine callType_new F.called_zip (by decide) (Md _ _ _) (LM _ _ _) (fun obj=>JF obj _ _ _) F.entry_zip_new (GG k1 k2 k3 l1 l2 l3 xs ys zs) ⟨q1,q2,q3,?_⟩
 have z1:(BS k1 s.heap l1).objs.size=s.heap.objs.size+1:=Heap.size_push ..
 have z2:(BS k2 (BS k1 s.heap l1) l2).objs.size=s.heap.objs.size+2:=by rw[Heap.size_push,z1]
 have z3:(K8 k1 k2 k3 s.heap l1 l2 l3).objs.size=s.heap.objs.size+3:=by rw[Heap.size_push,z2]
 have z4:(Ml k1 k2 k3 s.heap l1 l2 l3).objs.size=s.heap.objs.size+4:=by rw[Heap.size_push,z3]
 have z5:(Mm k1 k2 k3 s.heap l1 l2 l3).objs.size=s.heap.objs.size+5:=by rw[Heap.size_push,z4]
 have up3:∀c o,(K8 k1 k2 k3 s.heap l1 l2 l3).get? c=some o→(FK k1 k2 k3 s.heap l1 l2 l3).get? c=some o:=fun c o e=>Heap.get?_push_of_some _ (Heap.get?_push_of_some _ (Heap.get?_push_of_some _ e))
 have g5:(FK k1 k2 k3 s.heap l1 l2 l3).get? (Mm k1 k2 k3 s.heap l1 l2 l3).objs.size=some _:=Heap.get?_push_size _ rfl
 have g4:(FK k1 k2 k3 s.heap l1 l2 l3).get? (Ml k1 k2 k3 s.heap l1 l2 l3).objs.size=some _:=Heap.get?_push_of_some _ (Heap.get?_push_size _ rfl)
 have g3:(FK k1 k2 k3 s.heap l1 l2 l3).get? (K8 k1 k2 k3 s.heap l1 l2 l3).objs.size=some _:=Heap.get?_push_of_some _ (Heap.get?_push_of_some _ (Heap.get?_push_size _ rfl))
 have i3:aY k3 (FK k1 k2 k3 s.heap l1 l2 l3) (BS k2 (BS k1 s.heap l1) l2).objs.size l3 0:=(mx k3 (BS k2 (BS k1 s.heap l1) l2) l3).move fun o=>up3 _ o
 have i2:aY k2 (FK k1 k2 k3 s.heap l1 l2 l3) (BS k1 s.heap l1).objs.size l2 0:=(mx k2 (BS k1 s.heap l1) l2).move fun o e=>up3 _ o (Heap.get?_push_of_some _ e)
 have i1:aY k1 (FK k1 k2 k3 s.heap l1 l2 l3) s.heap.objs.size l1 0:=(mx k1 s.heap l1).move fun o e=>up3 _ o (Heap.get?_push_of_some _ (Heap.get?_push_of_some _ e))
 show _∧_
 rw[z5]
 rw[z5]at g5
 rw[z4]at g4
 rw[z3]at g3
 rw[z2]at i3
 rw[z1]at i2
 refine⟨⟨_,g5,rfl⟩,h _ ?_ ?_ ?_ i1 i2 i3 fun c o e=>up3 _ _ (Heap.get?_push_of_some _ (Heap.get?_push_of_some _ (Heap.get?_push_of_some _ e)))⟩
 ·rw[z3,z4]at g5;exact g5
 ·rw[z1,z2]at g3;exact g3
 ·exact g4
theorem Iu{k1 k2:Bool}{l1 l2:Addr}{xs ys:Array Value}{Q:Value→Shared→Prop}(q1:bB k1 s.heap l1 xs)(q2:bB k2 s.heap l2 ys)
  (h:∀g,IsZip g (s.heap.objs.size+4) (s.heap.objs.size+2) (s.heap.objs.size+3) .none→IsPair g (s.heap.objs.size+2) (.ref s.heap.objs.size) (.ref (s.heap.objs.size+1)) →
   IsPair g (s.heap.objs.size+3) .none .none→aY k1 g s.heap.objs.size l1 0→aY k2 g (s.heap.objs.size+1) l2 0 →
   (∀c o,s.heap.get? c=some o→g.get? c=some o)→Q (.ref (s.heap.objs.size+4)) {s with heap:=g}) :
  wpAny (model prog w) A (call (.type "zip") [.ref l1,.ref l2]) Q E s:=by
 refine callType_new F.called_zip (by decide) (F.typeCall_zip_2 _ _) (F.newCall_zip_2 _ _) (fun obj=>F.args_object_init_3 obj _ _) F.entry_zip_new (GF k1 k2 l1 l2 xs ys) ⟨q1,q2,?_⟩
 have z1:(BS k1 s.heap l1).objs.size=s.heap.objs.size+1:=Heap.size_push ..
 have z3:(K7 k1 k2 s.heap l1 l2).objs.size=s.heap.objs.size+2:=by rw[Heap.size_push,z1]
 have z4:(Mi k1 k2 s.heap l1 l2).objs.size=s.heap.objs.size+3:=by rw[Heap.size_push,z3]
 have z5:(Mj k1 k2 s.heap l1 l2).objs.size=s.heap.objs.size+4:=by rw[Heap.size_push,z4]
 have up3:∀c o,(K7 k1 k2 s.heap l1 l2).get? c=some o→(Hr k1 k2 s.heap l1 l2).get? c=some o:=fun c o e=>Heap.get?_push_of_some _ (Heap.get?_push_of_some _ (Heap.get?_push_of_some _ e))
 have g5:(Hr k1 k2 s.heap l1 l2).get? (Mj k1 k2 s.heap l1 l2).objs.size=some _:=Heap.get?_push_size _ rfl
 have g4:(Hr k1 k2 s.heap l1 l2).get? (Mi k1 k2 s.heap l1 l2).objs.size=some _:=Heap.get?_push_of_some _ (Heap.get?_push_size _ rfl)
 have g3:(Hr k1 k2 s.heap l1 l2).get? (K7 k1 k2 s.heap l1 l2).objs.size=some _:=Heap.get?_push_of_some _ (Heap.get?_push_of_some _ (Heap.get?_push_size _ rfl))
 have i2:aY k2 (Hr k1 k2 s.heap l1 l2) (BS k1 s.heap l1).objs.size l2 0:=(mx k2 (BS k1 s.heap l1) l2).move fun o e=>up3 _ o e
 have i1:aY k1 (Hr k1 k2 s.heap l1 l2) s.heap.objs.size l1 0:=(mx k1 s.heap l1).move fun o e=>up3 _ o (Heap.get?_push_of_some _ e)
 show _∧_
 rw[z5]
 rw[z5]at g5
 rw[z4]at g4
 rw[z3]at g3
 rw[z1]at i2
 refine⟨⟨_,g5,rfl⟩,h _ ?_ ?_ ?_ i1 i2 fun c o e=>up3 _ _ (Heap.get?_push_of_some _ (Heap.get?_push_of_some _ e))⟩
 ·rw[z3,z4]at g5;exact g5
 ·rw[z1]at g3;exact g3
 ·exact g4
end
open AutoSeq1 (wpAny_loadPart')
section
variable{prog:Program}{w:World}{A:Around}{E:Value→Shared→Prop}{s:Shared}
theorem FY{T newId:String}{Bn:Builtin}{args:List Value}{kw:List (Str×Value)}{S:Spec}{Q:Value→Shared→Prop}(ft:TypeCalled T newId "object.__init__")
  (hct:checkTypeCall T ⟨args,kw⟩=pure ())(hcn:checkBuiltinCall newId ⟨.type T::args,kw⟩=pure ())(cp:∀obj,argsOk "object.__init__" ⟨obj::args,kw⟩)
  (entryN:entryFor table newId=some Bn)(g:Meets (Bn ⟨.type T::args,kw⟩) S)(hi:∀obj,Meets (Builtin.«object.__init__» ⟨obj::args,kw⟩) (fun _ R s=>s.TypeIs obj T∧R (.ok (.ret .none)) s))
  (h:S A.in1 (wants (fun obj s₁=>s₁.TypeIs obj T∧Q obj s₁) E) s):wpAny (model prog w) A (call (.type T) args kw) Q E s:=by
 obtain⟨c,tl,hmro⟩:=ft.mro
 have hmade:=ft.made
 have hsub:=ft.sub
 refine wpAny_call (codeAny_of_tree ?_)
 show wpAny _ _ (callAny (.type T) _) _ _ _
 refine wpAny_pure ⟨Code.quiet_builtin _ (by decide+kernel),codeAny_builtin F.entry_type_call ?_⟩
 rw[Around.under_plain (weight_type_call_type T args kw) (units_type_call_type T args kw)]
 have x1:=ft.notType
 have x2:=ft.canCreate
 repeat (any_goals (first|assumption|wp_step))
 refine Uj (VQ ft.plain entryN (wpAny_of_eq hcn (g prog w A.in1 _ s h))) fun r s₁ hr=>?_
 cases r with
 | error e=>exact hr
 | ok fl =>
  cases fl with
  | ret obj =>
   obtain⟨hT,hq⟩:=hr
   have hli:=ft.init.lookup
   have hbi:=ft.init.bind obj
   repeat (any_goals (first|assumption|wp_step))
   refine Uj (VQ ft.init.plain F.entry_object_init (ft.init.check _ _ _ _ _ _ _ _ hT (cp obj) (hi obj prog w A.in1 (wants (fun r s₂=>r=.none∧Q obj s₂) E) s₁ ⟨hT,rfl,hq⟩))) fun r₂ s₂ hr₂=>?_
   cases r₂ with
   | error e=>exact hr₂
   | ok fl₂ =>
    cases fl₂ with
    | ret r =>
     obtain⟨rfl,hq⟩:=hr₂
     repeat (any_goals (first|assumption|wp_step))
    | _=>exact hr₂.elim
  | _=>exact hr.elim
end
theorem LI{self a:Value}{k:Str}{v:Value}:Meets (Builtin.«object.__init__» ⟨[self,a],[(k,v)]⟩) (fun _ R s=>s.TypeIs self "enumerate"∧R (.ok (.ret .none)) s):=by
 refine Meets.of_wp fun prog w A R s hs=>?_
 obtain⟨hT,hq⟩:=hs
 have hl:=F.called_enumerate.init.lookup
 have hm:=F.called_enumerate.made
 have hne:(some "enumerate.__new__" != some "object.__new__")=true:=by decide
 repeat (any_goals (first|assumption|wp_step))
 exact⟨_,rfl,hq⟩
theorem KW(a b:Value):checkTypeCall "enumerate" ⟨[a],[("start",b)]⟩=pure ():=by kernel_rfl
theorem Kl(a b:Value):checkBuiltinCall "enumerate.__new__" ⟨[.type "enumerate",a],[("start",b)]⟩=pure ():=by kernel_rfl
theorem JG(a b c:Value):argsOk "object.__init__" ⟨[a,b],[("start",c)]⟩:=by
 unfold argsOk;rw[signature?_of (id:="object.__init__") (n:=['_','_','t','i','n','i','_','_']) (o:=['t','c','e','j','b','o']) (by kernel_rfl) F.owner_object];kernel_rfl
abbrev LA(h:Heap)(l:Addr):Heap:=h.push {cls:=.type "list_iterator",data:=.fields #[.ref l,.int 0 0]}
abbrev NR(h:Heap)(l:Addr)(c:Int):Heap:=(LA h l).push {cls:=.type "enumerate",data:=.fields #[.none,.bool false,.ref h.objs.size,rawInt c,.none,.none]}
theorem EL(l:Addr)(its:Array Value)(n:Nat)(dct:Option Addr)(sl:Array (Option Value))(t:Tok) :
  Meets (Builtin.«enumerate.__new__» ⟨[.type "enumerate",.ref l],[("start",.int 1 t)]⟩) (fun _ R s=>s.heap.get? l=some {cls:=.type "list",dict:=dct,data:=.seq its n,slots:=sl} ∧
   R (.ok (.ret (.ref (LA s.heap l).objs.size))) {s with heap:=NR s.heap l 1}) :=
 .of_wp fun prog w A R s h=>by
  obtain⟨hp,g,d,tk,os⟩:=s;obtain⟨hl,h⟩:=h
  have hsub:=sub_enumerate
  have hL:Heap.IsList (Shared.heap ⟨hp,g,d,tk,os⟩) l its:=⟨_,hl,rfl,n,rfl⟩
  wp_walk using wpAny_loadPart' hl
  refine wpAny_stack_any fun st=>wpAny_pure ?_
  split
  ·rename_i c _ _ _ _ _
   cases (c==Value.type "enumerate")
   ·wp_walk using wpAny_loadPart' hl,Tq hL
    exact⟨_,rfl,h⟩
   ·wp_walk using wpAny_loadPart' hl,Tq hL
    exact⟨_,rfl,h⟩
  ·wp_walk using wpAny_loadPart' hl,Tq hL
   exact⟨_,rfl,h⟩
section
variable{prog:Program}{w:World}{A:Around}{E:Value→Shared→Prop}{s:Shared}
theorem FZ{l:Addr}{its:Array Value}{t:Tok}{Q:Value→Shared→Prop}(hL:s.heap.IsList l its)
  (h:∀g,IsEnum g (s.heap.objs.size+1) s.heap.objs.size 1 .none→g.IsListIter s.heap.objs.size l 0→(∀b o,s.heap.get? b=some o→g.get? b=some o)→Q (.ref (s.heap.objs.size+1)) {s with heap:=g}) :
  wpAny (model prog w) A (call (.type "enumerate") [.ref l] [("start",.int 1 t)]) Q E s:=by
 obtain⟨⟨c,dct,dt,sl⟩,hl,hc,n,hd⟩:=hL
 replace hc:c=.type "list":=hc
 replace hd:dt=.seq its n:=hd
 subst hc hd
 refine FY F.called_enumerate (KW _ _) (Kl _ _) (fun obj=>JG obj _ _) F.entry_enumerate_new (EL l its n dct sl t) (fun obj=>LI) ⟨hl,?_⟩
 have hz:(LA s.heap l).objs.size=s.heap.objs.size+1:=Heap.size_push ..
 have he:(NR s.heap l 1).get? (LA s.heap l).objs.size=some _:=Heap.get?_push_size _ rfl
 show _∧_
 rw[hz]at he ⊢
 exact⟨⟨_,he,rfl⟩,h _ he ⟨_,Heap.get?_push_of_some _ (Heap.get?_push_size _ rfl),rfl,rfl⟩ fun b o x=>Heap.get?_push_of_some _ (Heap.get?_push_of_some _ x)⟩
theorem Gd{e it l:Addr}{i c:Nat}{its:Array Value}{x old:Value}{Q:Value→Shared→Prop}
  (he:IsEnum s.heap e it c old)(hit:s.heap.IsListIter it l i)(hl:s.heap.IsList l its)(hx:its[i]?=some x)(hne:e≠it)
  (fin:∀g,IsEnumOut g e it ((c:Int)+1) x s.heap.objs.size→g.IsListIter it l (i+1) →
   g.get? s.heap.objs.size=some {cls:=.type "tuple",data:=.seq #[.int c s.toks,x]}→g.objs.size=s.heap.objs.size+1 →
   (∀b o,b≠e→b≠it→s.heap.get? b=some o→g.get? b=some o)→Q (.ref s.heap.objs.size) {s with heap:=g,toks:=s.toks+1}) :
  wpAny (model prog w) A (Builtin.«enumerate.__next__» ⟨[.ref e],[]⟩) (fun fin s'=>∃v,fin=.done (.ret v)∧Q v s') E s:=by
 obtain⟨hp,g,d,tk,os⟩:=s
 show wpAny _ _ (field (.ref e) 2 >>= _) _ _ _
 refine wpAny_bind (wpAny_field he rfl (x:=.ref it) rfl ?_)
 refine wpAny_bind (Vp hit hl hx fun g1 it1 s1=>?_)
 replace s1:Heap.SameBut it hp g1:=s1
 have e1:IsEnum g1 e it c old:=(s1.2 e hne).trans he
 show wpAny _ _ (field (.ref e) 3 >>= _) _ _ ⟨g1,g,d,tk,os⟩
 refine wpAny_bind (wpAny_field e1 rfl (x:=rawInt c) rfl ?_)
 show wpAny _ _ (field (.ref e) 4 >>= _) _ _ ⟨g1,g,d,tk,os⟩
 refine wpAny_bind (wpAny_field e1 rfl (x:=.none) rfl ?_)
 show wpAny _ _ (mkInt c >>= _) _ _ ⟨g1,g,d,tk,os⟩
 refine wpAny_bind (wpAny_mkInt ?_)
 show wpAny _ _ (setField (.ref e) 3 (rawInt ((c:Int)+1)) >>= _) _ _ ⟨g1,g,d,tk+1,os⟩
 refine wpAny_bind (Ry e1 (by simp) fun g2 e2 s2=>?_)
 replace s2:Heap.SameBut e g1 g2:=s2
 replace e2:IsEnum g2 e it ((c:Int)+1) old:=e2
 show wpAny _ _ (setField (.ref e) 4 .none >>= _) _ _ ⟨g2,g,d,tk+1,os⟩
 refine wpAny_bind (Ry e2 (by simp) fun g3 e3 s3=>?_)
 replace s3:Heap.SameBut e g2 g3:=s3
 replace e3:IsEnum g3 e it ((c:Int)+1) old:=e3
 show wpAny _ _ (newTuple [.int c tk,x] >>= _) _ _ ⟨g3,g,d,tk+1,os⟩
 refine wpAny_bind (VO ?_)
 have e4:IsEnum (g3.push {cls:=.type "tuple",data:=.seq #[.int c tk,x]}) e it ((c:Int)+1) old:=Heap.get?_push_of_some _ e3
 generalize eg:g3.push {cls:=.type "tuple",data:=.seq #[.int c tk,x]}=g4 at e4
 have sz:g3.objs.size=hp.objs.size:=by rw[s3.1,s2.1,s1.1]
 have el:e<hp.objs.size:=Heap.lt_size he
 have t4:g4.get? hp.objs.size=some {cls:=.type "tuple",data:=.seq #[.int c tk,x]}:=by rw[←eg,←sz];exact Heap.get?_push_size _ rfl
 have z4:g4.objs.size=hp.objs.size+1:=by rw[←eg,Heap.size_push,sz]
 have k4:∀b o,b≠e→b≠it→hp.get? b=some o→g4.get? b=some o:=fun b o be bi hb=>by
  rw[←eg];exact Heap.get?_push_of_some _ (s3.extBut b o be (s2.extBut b o be (s1.extBut b o bi hb)))
 have i4:g4.IsListIter it l (i+1):=by
  rw[←eg];obtain⟨o,ho,r⟩:=(it1.extBut s2.extBut (Ne.symm hne)).extBut s3.extBut (Ne.symm hne);exact⟨o,Heap.get?_push_of_some _ ho,r⟩
 show wpAny _ _ (Builtin.SmallTypes.ownedTupleIsFree (.ref e) >>= _) _ _ ⟨g4,g,d,tk+1,os⟩
 rw[sz]
 clear eg e3 s3 e2 s2 e1 s1 it1 sz g3 g2 g1
 refine wpAny_bind ?_
 ·unfold Builtin.SmallTypes.ownedTupleIsFree
  refine wpAny_bind (wpAny_field e4 rfl (x:=.none) rfl (wpAny_pure ?_))
  simp only[if_true]
  refine wpAny_bind (wpAny_rule ?_)
  refine wpAny_bind (wpAny_field e4 rfl (x:=old) rfl ?_)
  refine wpAny_bind (Ry e4 (by simp) fun g5 e5 s5=>?_)
  replace s5:Heap.SameBut e g4 g5:=s5
  replace e5:IsEnum g5 e it ((c:Int)+1) x:=e5
  show wpAny _ _ (Builtin.SmallTypes.ownedTupleHandOut (.ref e) (.ref hp.objs.size) >>= _) _ _ ⟨g5,g,d,tk+1,os⟩
  refine wpAny_bind ?_
  ·unfold Builtin.SmallTypes.ownedTupleHandOut
   refine wpAny_bind (Ry e5 (by simp) fun g6 e6 s6=>?_)
   replace s6:Heap.SameBut e g5 g6:=s6
   replace e6:IsEnumOut g6 e it ((c:Int)+1) x hp.objs.size:=e6
   refine Ry e6 (by simp) fun g7 e7 s7=>?_
   replace s7:Heap.SameBut e g6 g7:=s7
   replace e7:IsEnumOut g7 e it ((c:Int)+1) x hp.objs.size:=e7
   refine wpAny_bind (wpAny_letGo (wpAny_pure ⟨_,rfl,fin g7 e7 ?_ ?_ ?_ ?_⟩))
   ·exact((i4.extBut s5.extBut (Ne.symm hne)).extBut s6.extBut (Ne.symm hne)).extBut s7.extBut (Ne.symm hne)
   ·exact s7.extBut _ _ (RW el) (s6.extBut _ _ (RW el) (s5.extBut _ _ (RW el) t4))
   ·rw[s7.1,s6.1,s5.1,z4]
   ·exact fun b o be bi hb=>s7.extBut b o be (s6.extBut b o be (s5.extBut b o be (k4 b o be bi hb)))
theorem IB{e it l:Addr}{i c:Nat}{its:Array Value}{x old:Value}{Q:Option Value→Shared→Prop}
  (he:IsEnum s.heap e it c old)(hit:s.heap.IsListIter it l i)(hl:s.heap.IsList l its)(hx:its[i]?=some x)(hne:e≠it)
  (fin:∀g,IsEnumOut g e it ((c:Int)+1) x s.heap.objs.size→g.IsListIter it l (i+1) →
   g.get? s.heap.objs.size=some {cls:=.type "tuple",data:=.seq #[.int c s.toks,x]}→g.objs.size=s.heap.objs.size+1 →
   (∀b o,b≠e→b≠it→s.heap.get? b=some o→g.get? b=some o)→Q (some (.ref s.heap.objs.size)) {s with heap:=g,toks:=s.toks+1}) :
  wpAny (model prog w) A (pyNext (.ref e)) Q E s:=by
 have te:s.TypeIs (.ref e) "enumerate":=⟨_,he,rfl⟩
 unfold pyNext
 exact wpAny_bind (Ud (R1 (name:=Str.ofString "__next__") te F.slot_enumerate_next (SQ F.slot_enumerate_next te F.entry_enumerate_next (Gd he hit hl hx hne fun g a b c d k=>wpAny_pure (fin g a b c d k)) (F.args_enumerate_next_1 _))))
theorem Ge{e it l:Addr}{i c:Nat}{its:Array Value}{old:Value}{Q:Option Value→Shared→Prop}(hh:A.handled=none)
  (he:IsEnum s.heap e it c old)(hit:s.heap.IsListIter it l i)(hl:s.heap.IsList l its)(hx:its[i]?=none)
  (fin:∀g,Heap.ExtBut it s.heap g→Q none {s with heap:=g}):wpAny (model prog w) A (pyNext (.ref e)) Q E s:=by
 have te:s.TypeIs (.ref e) "enumerate":=⟨_,he,rfl⟩
 unfold pyNext
 refine wpAny_bind (Ud (R1 (name:=Str.ofString "__next__") te F.slot_enumerate_next (SQ F.slot_enumerate_next te F.entry_enumerate_next ?_ (F.args_enumerate_next_1 _))))
 show wpAny _ _ (field (.ref e) 2 >>= _) _ _ _
 refine wpAny_bind (wpAny_field he rfl (x:=.ref it) rfl ?_)
 refine wpAny_bind (VE hh hit hl hx fun g x xe hx'=>?_)
 obtain⟨o,ho,co⟩:=hx'
 refine wpAny_bind (Uv (T:="StopIteration") (b:=true) ⟨o,ho,co⟩ VP ?_)
 exact wpAny_pure (fin _ xe)
end
section
open PyProof.Rows
variable{M:Model}{A:Around}{E:Value→Shared→Prop}{s:Shared}{env:Env}
theorem yW{pos:Pos}{T:String}{e:Expr}{kws:List Keyword}{Q:Value→Shared→Prop}
  (h:wpAny M A (spliced (backTo pos (starEach [e] env))) (fun vs s₁=>wpAny M A (evalAll ((backToKw pos (keywordEach kws env)).map (·.2)))
   (fun kvs s₂=>wpAny M A (call (.type T) vs (((backToKw pos (keywordEach kws env)).filterMap (·.1)).zip kvs)) Q E s₂) E s₁) E s)
  (he:backTo pos (starEach [e] env)=(false,eval e env)::backTo pos (starEach [] env):=by rfl)
  (hplain:(backTo pos (starEach [e] env)).any (·.1)=false:=by rfl)
  (hall:(backToKw pos (keywordEach kws env)).all (·.1.isSome)=true:=by rfl)
  (hkw:(backToKw pos (keywordEach kws env)).any (·.1.isNone)=false:=by rfl) :
  wpAny M A (callWith pos (.type T) [] (backTo pos (starEach [e] env)) (backToKw pos (keywordEach kws env))) Q E s:=by
 have key:wpAny M A (evalArgs (.type T) true (backTo pos (starEach [e] env)) (backToKw pos (keywordEach kws env))) (fun a s₁=>wpAny M A (call (.type T) ([]++a.pos) a.kw) Q E s₁) E s:=by
  rw[he]at h ⊢
  exact evalArgs_kwB hall h
 unfold callWith
 refine wpAny_bind (Ue (wpAny_mono key (fun a s₁ h₁=>wpAny_bind (Vf ?_)) fun _ _ x=>x))
 simp only[hplain,hkw,Xf]
 refine wpAny_bind (wpAny_pure ?_)
 exact wpAny_bind (wpAny_mono h₁ (fun r s₂ hr=>wpAny_bind (Ue (wpAny_point (wpAny_pure hr)))) fun _ _ x=>x)
end
end PySem
namespace PySem
open Sem (wp)
theorem Walks.rev{prog:Program}{w:World}{A:Around}(hh:A.handled=none)(I l:Addr)(hne:l≠I)(its:Array Value) :
  Walks prog w A I [I,l] [I] its.size (fun i v=>its[its.size-1-i]?=some v) (fun i h=>i≤its.size∧h.IsRevIter I l ((its.size:Int)-1-(i:Nat))∧h.IsList l its) where
 sub:=fun b hb=>by simp at hb ⊢;exact .inl hb
 frame:=fun i h h' st hk=>⟨st.1,st.2.1.at fun o e=>hk I (by simp) o e,st.2.2.at fun o e=>hk l (by simp) o e⟩
 item:=fun i s Q E hi st hQ=>by
  obtain⟨hle,hit,hl⟩:=st
  have e1:(its.size:Int)-1-((i:Nat):Int)=((its.size-1-i:Nat):Int):=by omega
  rw[e1]at hit
  have hx:its[its.size-1-i]?=some its[its.size-1-i]:=Va (by omega)
  refine VF hit hl hx fun g it' sb=>?_
  have e2:((its.size-1-i:Nat):Int)-1=(its.size:Int)-1-((i+1:Nat):Int):=by omega
  rw[e2]at it'
  exact hQ _ g s.toks hx ⟨hi,it',hl.extBut sb.extBut hne⟩ fun b o hb e=>sb.extBut b o (fun q=>hb (by simp[q])) e
 done:=fun s Q E st hQ=>by
  obtain⟨_,hit,_⟩:=st
  have e1:(its.size:Int)-1-((its.size:Nat):Int)=-1:=by omega
  rw[e1]at hit
  exact VR hh hit fun g eb=>hQ g s.toks fun b o hb e=>eb b o (fun q=>hb (by simp[q])) e
 self:=fun i s Q E st hQ=>T3 st.2.1 hQ
theorem GI:typeLookup (.type "list_reverseiterator") "__len__"=pure none:=by rw[WK,VG];kernel_rfl
theorem Kg:typeLookup (.type "list_reverseiterator") "__length_hint__"=pure (some (.builtin "list_reverseiterator.__length_hint__")):=by rw[WK,VG];kernel_rfl
section
variable{prog:Program}{w:World}{A:Around}{E:Value→Shared→Prop}{s:Shared}
theorem J7{it l:Addr}{i:Int}{Q:Bool→Shared→Prop}(hit:s.heap.IsRevIter it l i)(h:Q false s):wpAny (model prog w) A (Builtin.List.listLengthHint (.ref it)) Q E s:=by
 unfold Builtin.List.listLengthHint
 refine wpAny_bind (WL hit.typeIs GI ?_)
 show wpAny _ _ (specialOf (.ref it) "__length_hint__" >>= _) _ _ _
 refine wpAny_bind (WL hit.typeIs Kg ?_)
 generalize AI:("list_reverseiterator.__length_hint__":String)=id0
 wp_delta
 rw[show splitId id0=some ("list_reverseiterator","__length_hint__")from by subst AI;decide+kernel]
 subst AI
 refine wpAny_bind (Uv (T:="list_reverseiterator") (b:=true) hit.typeIs (by rw[isSubtype_type];kernel_rfl) ?_)
 refine UO (fun hab=>absurd hab (by decide)) (fun _=>?_)
 refine UO (fun _=>?_) (fun hab=>absurd (by decide+kernel) hab)
 refine UO (fun hab=>absurd hab (by decide+kernel)) (fun _=>?_)
 exact wpAny_pure h
theorem Gg{R:Result→Shared→Prop}{it l:Addr}{its:Array Value}(hh:A.handled=none)(hit:s.heap.IsRevIter it l ((its.size:Int)-1))(hl:s.heap.IsList l its)(hlen:its.size≤2^24)(hne:l≠it)(S:Addr)(res:Value)(c₀:Nat)(hS:s.heap.get? S=some {cls:=.type "list",data:=.seq #[] c₀})(hSl:S≠l)
  (hR:∀g tk acc' c',(∀b o,b≠S→b≠it→s.heap.get? b=some o→g.get? b=some o)→g.get? S=some {cls:=.type "list",dict:=none,data:=.seq acc' c',slots:=#[]} →
   ItemsOf (fun i v=>its[its.size-1-i]?=some v) acc' its.size→R (.ok (.ret res)) {s with heap:=g,toks:=tk}) :
  wpAny (model prog w) A.in1 (Builtin.List.listExtendWith (.ref S) (.ref it) res)
   (fun fin s'=>match fin with|.done f=>R (.ok f) s'|.again c'=>c'.quiet=true∧codeAny (model prog w) A c' R s') (fun e s'=>R (.error e) s') s:=by
 have hSr:S≠it:=fun e=>by
  obtain⟨o,ho,hc,_⟩:=hit
  rw[e,ho]at hS
  cases hS
  simp at hc
 have hSf:S∉[it,l]:=by simp[hSr,hSl]
 have W:=(Walks.rev (prog:=prog) (w:=w) (A:=A.in1) hh it l hne its).toS
 unfold Builtin.List.listExtendWith
 refine wpAny_bind (wpAny_typeOf (T:="list_reverseiterator") hit.typeIs ?_)
 have h1:Builtin.List.listSameRef (.ref S) (.ref it)=false:=by simp[Builtin.List.listSameRef,hSr]
 have h2:(Value.type "list_reverseiterator"==Value.type "list")=false:=by decide
 have h3:(Value.type "list_reverseiterator"==Value.type "tuple")=false:=by decide
 simp only[h1,h2,h3,Xf,U3,if_false]
 refine wpAny_bind (T3 hit ?_)
 refine wpAny_bind (Ue (J7 hit ?_))
 refine UO (fun hab=>absurd hab (by decide+kernel)) (fun _=>wpAny_pure ⟨plainId_quiet F.plain_extend_loop _,?_⟩)
 have e0:(its.size:Int)-1=(its.size:Int)-1-((0:Nat):Int):=by omega
 rw[e0]at hit
 refine codeAny_extend_loopS W (by rw[sizeLine_eq];omega) S hSf res its.size 0 _ #[] c₀ rfl (Sr _) ⟨Sr _,hit,hl⟩ hS (ItemsOf.nil _) fun s' acc' c' hm hS' hacc=>?_
 rw[Moved.eq_with hm]
 refine hR s'.heap s'.toks acc' c' (fun b o hb hb2 e=>hm.heap b o (fun hmem=>?_) e) hS' hacc
 rcases QM.mp hmem with e'|hmem
 ·exact hb e'
 ·exact hb2 (Sa.mp hmem)
theorem AL{Q:Value→Shared→Prop}{it l:Addr}{its:Array Value}(hh:A.handled=none)(hit:s.heap.IsRevIter it l ((its.size:Int)-1))(hl:s.heap.IsList l its)(hlen:its.size≤2^24)(hne:l≠it)
  (hQ:∀g tk acc' c',(∀b o,b≠it→s.heap.get? b=some o→g.get? b=some o) →
   g.get? s.heap.objs.size=some {cls:=.type "list",dict:=none,data:=.seq acc' c',slots:=#[]}→ItemsOf (fun i v=>its[its.size-1-i]?=some v) acc' its.size→Q (.ref s.heap.objs.size) {s with heap:=g,toks:=tk}) :
  wpAny (model prog w) A (call (.type "list") [.ref it]) Q E s:=by
 refine callType_codes (Q₁:=fun obj s₁=>obj=.ref s.heap.objs.size∧s₁={s with heap:=s.heap.push {cls:=.type "list",data:=.seq #[]}}) F.called_list (F.typeCall_list_1 _) F.entry_list_init (code_list_new _ ⟨rfl,rfl⟩) fun obj s₁ h₁=>?_
 obtain⟨rfl,rfl⟩:=h₁
 have hS:(s.heap.push {cls:=.type "list",data:=.seq #[]}).get? s.heap.objs.size=some {cls:=.type "list",data:=.seq #[]}:=Heap.get?_push_size _ rfl
 have hSl:s.heap.objs.size≠l:=by
  obtain⟨o,ho,_⟩:=hl
  exact RW (Heap.lt_size ho)
 have hSi:s.heap.objs.size≠it:=by
  obtain⟨o,ho,_⟩:=hit
  exact RW (Heap.lt_size ho)
 refine⟨⟨_,hS,rfl⟩,F.args_list_init_2 _ _,?_⟩
 show wpAny _ _ (do let old ←Builtin.List.listItems (.ref s.heap.objs.size);Builtin.List.listUpdate (.ref s.heap.objs.size) (fun _=>#[]);letGo old.toList.reverse;Builtin.List.listExtendWith (.ref s.heap.objs.size) (.ref it) .none) _ _ _
 refine wpAny_bind ?_
 unfold Builtin.List.listItems
 refine wpAny_bind (RK hS rfl (wpAny_pure ?_))
 show wpAny _ _ (updateSeq s.heap.objs.size (fun _=>#[]) >>= fun _=>letGo (#[]:Array Value).toList.reverse >>= fun _=>Builtin.List.listExtendWith (.ref s.heap.objs.size) (.ref it) .none) _ _ _
 refine wpAny_bind (WJ hS rfl ?_)
 obtain⟨cc,hS₂⟩:∃c,((s.heap.push {cls:=.type "list",data:=.seq #[]}).update s.heap.objs.size (Obj.mapSeq (fun _=>(#[]:Array Value)))).get? s.heap.objs.size=some {cls:=.type "list",data:=.seq #[] c}:=⟨_,Heap.get?_update_self (Obj.mapSeq (fun _=>(#[]:Array Value))) hS rfl⟩
 have oth:∀b o,b≠s.heap.objs.size→s.heap.get? b=some o→((s.heap.push {cls:=.type "list",data:=.seq #[]}).update s.heap.objs.size (Obj.mapSeq (fun _=>(#[]:Array Value)))).get? b=some o :=
  fun b o hb e=>(Heap.get?_update_other _ _ (Ne.symm hb)).trans (Heap.get?_push_of_some _ e)
 refine wpAny_bind (wpAny_letGo ?_)
 refine Gg (s:={s with heap:=(s.heap.push {cls:=.type "list",data:=.seq #[]}).update s.heap.objs.size (Obj.mapSeq (fun _=>(#[]:Array Value)))}) (A:=A.in1) hh (hit.at fun o e=>oth _ o (Ne.symm hSi) e) (hl.at fun o e=>oth _ o (Ne.symm hSl) e) hlen hne s.heap.objs.size .none cc hS₂ hSl fun g tk acc' c' hk hS' hacc=>?_
 exact⟨rfl,hQ g tk acc' c' (fun b o hb e=>hk b o (Rj (Heap.lt_size e)) hb (oth b o (Rj (Heap.lt_size e)) e)) hS' hacc⟩
end
end PySem
namespace L2
open PySem PySem.Spec PyProof.Rows
abbrev Frg:=PySem.W.Frag
inductive EA{t0:Type}(p q:t0→Prop):Prop|mk (x0:t0) (h:p x0) (k:q x0):EA p q
inductive E2{t0 t1:Type}(p:t0→t1→Prop):Prop|mk (x0:t0) (x1:t1) (h:p x0 x1):E2 p
inductive E3{t0 t1 t2:Type}(p:t0→t1→t2→Prop):Prop|mk (x0:t0) (x1:t1) (x2:t2) (h:p x0 x1 x2):E3 p
inductive E4{t0 t1 t2 t3:Type}(p:t0→t1→t2→t3→Prop):Prop|mk (x0:t0) (x1:t1) (x2:t2) (x3:t3) (h:p x0 x1 x2 x3):E4 p
inductive E5{t0 t1 t2 t3 t4:Type}(p:t0→t1→t2→t3→t4→Prop):Prop|mk (x0:t0) (x1:t1) (x2:t2) (x3:t3) (x4:t4) (h:p x0 x1 x2 x3 x4):E5 p
inductive E6{t0 t1 t2 t3 t4 t5:Type}(p:t0→t1→t2→t3→t4→t5→Prop):Prop|mk (x0:t0) (x1:t1) (x2:t2) (x3:t3) (x4:t4) (x5:t5) (h:p x0 x1 x2 x3 x4 x5):E6 p
inductive E7{t0 t1 t2 t3 t4 t5 t6:Type}(p:t0→t1→t2→t3→t4→t5→t6→Prop):Prop|mk (x0:t0) (x1:t1) (x2:t2) (x3:t3) (x4:t4) (x5:t5) (x6:t6) (h:p x0 x1 x2 x3 x4 x5 x6):E7 p
inductive E8{t0 t1 t2 t3 t4 t5 t6 t7:Type}(p:t0→t1→t2→t3→t4→t5→t6→t7→Prop):Prop|mk (x0:t0) (x1:t1) (x2:t2) (x3:t3) (x4:t4) (x5:t5) (x6:t6) (x7:t7) (h:p x0 x1 x2 x3 x4 x5 x6 x7):E8 p
inductive E9{t0 t1 t2 t3 t4 t5 t6 t7 t8:Type}(p:t0→t1→t2→t3→t4→t5→t6→t7→t8→Prop):Prop|mk (x0:t0) (x1:t1) (x2:t2) (x3:t3) (x4:t4) (x5:t5) (x6:t6) (x7:t7) (x8:t8) (h:p x0 x1 x2 x3 x4 x5 x6 x7 x8):E9 p
inductive OM{t0 t1 t2 t3 t4 t5 t6 t7 t8 t9:Type}(p:t0→t1→t2→t3→t4→t5→t6→t7→t8→t9→Prop):Prop|mk (x0:t0) (x1:t1) (x2:t2) (x3:t3) (x4:t4) (x5:t5) (x6:t6) (x7:t7) (x8:t8) (x9:t9) (h:p x0 x1 x2 x3 x4 x5 x6 x7 x8 x9):OM p
inductive A3(p0 p1 p2:Prop):Prop|mk (_:p0) (_:p1) (_:p2):A3 p0 p1 p2
inductive A4(p0 p1 p2 p3:Prop):Prop|mk (_:p0) (_:p1) (_:p2) (_:p3):A4 p0 p1 p2 p3
inductive A5(p0 p1 p2 p3 p4:Prop):Prop|mk (_:p0) (_:p1) (_:p2) (_:p3) (_:p4):A5 p0 p1 p2 p3 p4
inductive A6(p0 p1 p2 p3 p4 p5:Prop):Prop|mk (_:p0) (_:p1) (_:p2) (_:p3) (_:p4) (_:p5):A6 p0 p1 p2 p3 p4 p5
inductive A7(p0 p1 p2 p3 p4 p5 p6:Prop):Prop|mk (_:p0) (_:p1) (_:p2) (_:p3) (_:p4) (_:p5) (_:p6):A7 p0 p1 p2 p3 p4 p5 p6
inductive A8(p0 p1 p2 p3 p4 p5 p6 p7:Prop):Prop|mk (_:p0) (_:p1) (_:p2) (_:p3) (_:p4) (_:p5) (_:p6) (_:p7):A8 p0 p1 p2 p3 p4 p5 p6 p7
inductive A9(p0 p1 p2 p3 p4 p5 p6 p7 p8:Prop):Prop|mk (_:p0) (_:p1) (_:p2) (_:p3) (_:p4) (_:p5) (_:p6) (_:p7) (_:p8):A9 p0 p1 p2 p3 p4 p5 p6 p7 p8
inductive Oz(p0 p1 p2 p3 p4 p5 p6 p7 p8 p9:Prop):Prop|mk (_:p0) (_:p1) (_:p2) (_:p3) (_:p4) (_:p5) (_:p6) (_:p7) (_:p8) (_:p9):Oz p0 p1 p2 p3 p4 p5 p6 p7 p8 p9
abbrev Key:=Sum Int Str
def Mv:Key→Value→Bool
 | .inl k,v=>Value.isInt k v
 | .inr x,v=>Value.isStrOf x v
def Pa(w:World):Key→Int
 | .inl k=>hashInt k
 | .inr x=>hashStr w x
theorem cU:∀{k:Key}{v:Value},Mv k v=true→(∃i t,k=Sum.inl i∧v=Value.int i t)∨(∃x t,k=Sum.inr x∧v=Value.str x t)
 | .inl i,v,h=>by
  obtain⟨t,e⟩:=Value.isInt_shape (k:=i) (v:=v) h
  exact .inl ⟨i,t,rfl,e⟩
 | .inr x,v,h=>by
  obtain⟨t,e⟩:=Value.isStrOf_shape (x:=x) (v:=v) h
  exact .inr ⟨x,t,rfl,e⟩
theorem MQ(a b:Int):decide ((Sum.inl a:Key)=Sum.inl b)=(a==b):=by
 by_cases e:a=b
 ·subst e;simp
 ·have h:¬(Sum.inl a:Key)=Sum.inl b:=fun q=>e (Sum.inl.inj q)
  rw[decide_eq_false h]
  exact(beq_eq_false_iff_ne.mpr e).symm
theorem MT(a b:Str):decide ((Sum.inr a:Key)=Sum.inr b)=decide (a=b):=by
 by_cases e:a=b
 ·subst e;simp
 ·have h:¬(Sum.inr a:Key)=Sum.inr b:=fun q=>e (Sum.inr.inj q)
  rw[decide_eq_false h,decide_eq_false e]
theorem MR(a:Int)(b:Str):decide ((Sum.inl a:Key)=Sum.inr b)=false:=decide_eq_false (fun q=>nomatch q)
theorem MS(a:Str)(b:Int):decide ((Sum.inr a:Key)=Sum.inl b)=false:=decide_eq_false (fun q=>nomatch q)
def HI(prog:Program)(w:World):PySem.KeyKind prog w Key where
 is:=Mv
 hash:=Pa w
 inj:=fun v a b ha hb=>by
  rcases cU ha with⟨i,t,rfl,rfl⟩|⟨x,t,rfl,rfl⟩
  ·rcases cU hb with⟨j,u,rfl,e⟩|⟨y,u,rfl,e⟩
   ·injection e with e1 _;rw[e1]
   ·exact nomatch e
  ·rcases cU hb with⟨j,u,rfl,e⟩|⟨y,u,rfl,e⟩
   ·exact nomatch e
   ·injection e with e1 _;rw[e1]
 byValue:=fun k v h=>by
  rcases cU h with⟨i,t,rfl,rfl⟩|⟨x,t,rfl,rfl⟩<;>rfl
 pyHash:=fun hv h=>by
  rcases cU hv with⟨i,t,rfl,rfl⟩|⟨x,t,rfl,rfl⟩
  ·exact wpAny_pyHash_int h
  ·exact wpAny_pyHash_str h
 eqBool:=fun hu hv h=>by
  rcases cU hu with⟨i,t,rfl,rfl⟩|⟨x,t,rfl,rfl⟩
  ·rcases cU hv with⟨j,u,rfl,rfl⟩|⟨y,u,rfl,rfl⟩
   ·rw[MQ]at h;exact wpAny_eqBool_int h
   ·rw[MR]at h;exact SeqAt.EqAt.int_str i t y u _ _ _ _ h
  ·rcases cU hv with⟨j,u,rfl,rfl⟩|⟨y,u,rfl,rfl⟩
   ·rw[MS]at h;exact SeqAt.EqAt.str_int x t j u _ _ _ _ h
   ·rw[MT]at h;exact wpAny_eqBool_str h
 «strs»:=fun k x t v h=>by
  rcases cU h with⟨i,u,rfl,e⟩|⟨y,u,rfl,e⟩
  ·exact nomatch e
  ·injection e with e1 _
   subst e1
   cases v<;>rfl
inductive V where
 | non|bl (b:Bool)|int (i:Int)|str (x:Str)|byt (b:Array UInt8)|flt (b:UInt64)|ref (a:Addr)|ty (n:String)
 deriving DecidableEq
def RelV:V→Value→Prop
 | .non,u=>u=Value.none
 | .bl b,u=>u=Value.bool b
 | .int i,u=>∃t,u=Value.int i t
 | .str x,u=>∃t,u=Value.str x t
 | .byt b,u=>∃t,u=Value.bytes b t
 | .flt b,u=>∃t,u=Value.float b t
 | .ref a,u=>u=Value.ref a
 | .ty n,u=>u=Value.type n
abbrev Vals:List V→List Value→Prop:=Paired RelV
theorem Vals.length{xs:List V}{us:List Value}(r:Vals xs us):xs.length=us.length:=Paired.length r
theorem Vals.get:∀{xs:List V}{us:List Value}{i:Nat}{x:V},Vals xs us→xs[i]?=some x→∃u,us[i]?=some u∧RelV x u
 | _,_,_,_,.nil,e=>by simp at e
 | _,_,0,_,.cons r _,e=>by simp at e;subst e;exact⟨_,rfl,r⟩
 | _,_,i+1,x,.cons _ t,e=>by
  obtain⟨u,h1,h2⟩:=Vals.get (i:=i) (x:=x) t (by simpa using e)
  exact⟨u,by simpa using h1,h2⟩
theorem Vals.set{x:V}{u:Value}(r:RelV x u):∀{xs:List V}{us:List Value}(i:Nat),Vals xs us→Vals (xs.set i x) (us.set i u)
 | _,_,_,.nil=>.nil
 | _,_,0,.cons _ t=>.cons r t
 | _,_,i+1,.cons q t=>.cons q (Vals.set r i t)
theorem Vals.append:∀{xs ys:List V}{us ws:List Value},Vals xs us→Vals ys ws→Vals (xs++ys) (us++ws)
 | _,_,_,_,.nil,s=>s
 | _,_,_,_,.cons r t,s=>.cons r (Vals.append t s)
theorem Vals.take:∀{xs:List V}{us:List Value}(n:Nat),Vals xs us→Vals (xs.take n) (us.take n)
 | _,_,0,_=>.nil
 | _,_,_+1,.nil=>.nil
 | _,_,n+1,.cons r t=>.cons r (Vals.take n t)
theorem Vals.drop:∀{xs:List V}{us:List Value}(n:Nat),Vals xs us→Vals (xs.drop n) (us.drop n)
 | _,_,0,r=>r
 | _,_,_+1,.nil=>.nil
 | _,_,n+1,.cons _ t=>Vals.drop n t
def AJ:Option V→Option Value→Prop
 | some v,some u=>RelV v u
 | none,none=>True
 | _,_=>False
def KV{κ:Type}:List (κ×V)→List (κ×Value)→Prop:=Paired fun(p:κ×V)(q:κ×Value)=>p.1=q.1∧RelV p.2 q.2
def kV:Key→V
 | .inl i=>.int i
 | .inr x=>.str x
inductive HO where
 /-- a list -/
 | lst (xs:List V)
 /-- a tuple (never changes) -/
 | tup (xs:List V)
 /-- a dict whose keys are ints and texts;one whose keys are tuples of ints and texts (the empty one is both) -/
 | dK (kvs:List (Key×V))|dT (kvs:List (List Key×V))
 /-- a set of ints: its members,its size -/
 | set (S:Int→Bool) (n:Nat)
 /-- an instance of the class at C,its dict at dx,its attributes -/
 | ins (C dx:Addr) (fs:List (Str×V))
 /-- the dict of the instance at x -/
 | own (x:Addr)
 /-- the dict of an exception -/
 | xd (fs:List (Str×V))
 /-- a bound method,f of x -/
 | met (f x:Addr)
 /-- a range object lo,lo+1,.. below hi -/
 | rng (lo hi:Int)
 /-- a thing that is known to the object (the script;a dict while a loop walks it): read,never written while it is so -/
 | frz (o:Obj) (u:HO)
 /-- a code object's table -/
 | tbl (ps:Array Value)
 /-- any other thing,by what is true of its one object (a def of one's own: SetO a S n:=HO.ext fun h=>..) -/
 | ext (φ:Heap→Prop)
abbrev Hp:=Addr→Option HO
def upd(H:Hp)(a:Addr)(o:HO):Hp:=fun b=>if b=a then some o else H b
theorem af{H:Hp}{a:Addr}{o:HO}:upd H a o a=some o:=by unfold upd;rw[if_pos rfl]
theorem ah{H:Hp}{a b:Addr}{o:HO}(h:b≠a):upd H a o b=H b:=by unfold upd;rw[if_neg h]
theorem rq{H:Hp}{a b:Addr}{o u:HO}(h:H a=some o)(h':H b=some u)(d:o≠u):a≠b:=by
 intro e;subst e;rw[h]at h';exact d (Rb h')
theorem ao{H:Hp}{a b:Addr}{o:HO}(h:H a=some o)(h':H b=none):a≠b:=by
 intro e;subst e;rw[h]at h';cases h'
section
variable(P:Program)(w:World)
def fM(H:Hp)(h:Heap)(a:Addr):HO→Prop
 | .lst xs=>xs.length≤sizeLine∧∃(its:List Value)(n:Nat),Vals xs its∧h.get? a=some {cls:=.type "list",data:=.seq its.toArray n}
 | .tup xs=>xs.length≤sizeLine∧∃its:List Value,Vals xs its∧IsTup h a its.toArray
 | .dK kvs=>kvs.length≤sizeLine∧(a==sysModules)=false∧∃vs,KV kvs vs∧h.DictOf (HI P w) a vs
 | .dT kvs=>kvs.length≤sizeLine∧(a==sysModules)=false∧∃xs:List (List Key×Addr×Value),
   Paired (fun(p:List Key×V)(q:List Key×Addr×Value)=>p.1=q.1∧H q.2.1=some (.tup (p.1.map kV))∧RelV p.2 q.2.2) kvs xs ∧
   ∃o es ep,h.get? a=some o∧o.ExactDict∧o.data=.dict es ep∧es.toList=xs.map (entryOfKey (tupleKind (HI P w)))∧(xs.map (·.1)).Nodup
 | .set S n=>h.SetOf (intKind P w) a S n
 | .ins C dx fs=>H dx=some (.own a)∧fs.length≤1000∧dx≠a∧h.get? a=some (PySem.W.instObj C dx) ∧
   ∃mA,h.Ns1 dx mA∧(∀f,AJ (fs.lookup f) (mA f))∧PySem.Within mA (fs.map (·.1))
 | .own _=>∃o,h.get? a=some o
 | .xd fs=>∃mA,h.Ns1 a mA∧∀f,AJ (fs.lookup f) (mA f)
 | .rng lo hi=>∃t u v,h.get? a=some {cls:=.type "range",data:=.fields #[.int lo t,.int hi u,.int 1 v]}
 | .frz o u=>h.get? a=some o∧fM H h a u
 | .tbl ps=>h.get? a=some {cls:=.none,data:=.fields ps}
 | .met f x=>h.get? a=some (PySem.W.methodObj (.ref f) (.ref x))
 | .ext φ=>φ h∧(∃o,h.get? a=some o)∧∀h1 h2:Heap,φ h1→(∀o,h1.get? a=some o→h2.get? a=some o)→φ h2
def ux(H:Hp)(h:Heap):Prop:=∀a o,H a=some o→fM P w H h a o
end
section
variable{P:Program}{w:World}{H H':Hp}{h h':Heap}{a:Addr}{o:HO}
theorem fM.lt(x:fM P w H h a o):a<h.objs.size:=by
 cases o with
 | lst xs=>obtain⟨_,_,_,_,e⟩:=x;exact Heap.lt_size e
 | tup xs=>obtain⟨_,_,_,p⟩:=x;exact p.lt
 | dK kvs=>obtain⟨_,_,_,_,o,_,_,e,_⟩:=x;exact Heap.lt_size e
 | dT kvs=>obtain⟨_,_,_,_,o,_,_,e,_⟩:=x;exact Heap.lt_size e
 | set S n=>obtain⟨o,_,_,_,e,_⟩:=x;exact Heap.lt_size e
 | ins C dx fs=>obtain⟨_,_,_,e,_⟩:=x;exact Heap.lt_size e
 | own y=>obtain⟨_,e⟩:=x;exact Heap.lt_size e
 | xd fs=>obtain⟨_,⟨_,_,_,e,_⟩,_⟩:=x;exact Heap.lt_size e
 | rng lo hi=>obtain⟨_,_,_,e⟩:=x;exact Heap.lt_size e
 | frz ob u=>obtain⟨e,_⟩:=x;exact Heap.lt_size e
 | tbl ps=>exact Heap.lt_size (show h.get? a=some _ from x)
 | met f y=>exact Heap.lt_size (show h.get? a=some _ from x)
 | ext φ=>obtain⟨_,⟨_,e⟩,_⟩:=x;exact Heap.lt_size e
theorem Paired.N7{α β:Type}{F G:α→β→Prop}:∀{l₁:List α}{l₂:List β},Paired F l₁ l₂→(∀a b,F a b→G a b)→Paired G l₁ l₂
 | _,_,.nil,_=>.nil
 | _,_,.cons r t,f=>.cons (f _ _ r) (Paired.N7 t f)
theorem fM.Hc(x:fM P w H h a o)(k:∀b u,(b=a∨H b=some (.own a))→h.get? b=some u→h'.get? b=some u)
  (ho:∀b,H b=some (.own a)→H' b=some (.own a))(ht:∀b xs,H b=some (.tup xs)→H' b=some (.tup xs)):fM P w H' h' a o:=by
 induction o with
 | lst xs=>obtain⟨z,its,n,r,e⟩:=x;exact⟨z,its,n,r,k _ _ (.inl rfl) e⟩
 | tup xs=>obtain⟨z,its,r,ob,e,c⟩:=x;exact⟨z,its,r,ob,k _ _ (.inl rfl) e,c⟩
 | dK kvs=>obtain⟨z,y,vs,r,ob,es,ep,e,c⟩:=x;exact⟨z,y,vs,r,ob,es,ep,k _ _ (.inl rfl) e,c⟩
 | dT kvs =>
  obtain⟨z,y,xs,r,ob,es,ep,e,c⟩:=x
  exact⟨z,y,xs,Paired.N7 r fun p q z=>⟨z.1,ht _ _ z.2.1,z.2.2⟩,ob,es,ep,k _ _ (.inl rfl) e,c⟩
 | set S n=>obtain⟨ob,es,ep,t,e,c⟩:=x;exact⟨ob,es,ep,t,k _ _ (.inl rfl) e,c⟩
 | ins C dx fs =>
  obtain⟨d,z,ne,e,mA,⟨od,es,ep,e2,c⟩,r⟩:=x
  exact⟨ho _ d,z,ne,k _ _ (.inl rfl) e,mA,⟨od,es,ep,k _ _ (.inr d) e2,c⟩,r⟩
 | own y=>obtain⟨ob,e⟩:=x;exact⟨ob,k _ _ (.inl rfl) e⟩
 | xd fs=>obtain⟨mA,⟨od,es,ep,e,c⟩,r⟩:=x;exact⟨mA,⟨od,es,ep,k _ _ (.inl rfl) e,c⟩,r⟩
 | rng lo hi=>obtain⟨t,u,v,e⟩:=x;exact⟨t,u,v,k _ _ (.inl rfl) e⟩
 | frz ob u ih=>obtain⟨e,q⟩:=x;exact⟨k _ _ (.inl rfl) e,ih q⟩
 | tbl ps =>
  have e:h.get? a=some {cls:=.none,data:=.fields ps}:=x
  show h'.get? a=some {cls:=.none,data:=.fields ps}
  exact k a _ (.inl rfl) e
 | met f y =>
  have e:h.get? a=some (PySem.W.methodObj (.ref f) (.ref y)):=x
  show h'.get? a=some (PySem.W.methodObj (.ref f) (.ref y))
  exact k a _ (.inl rfl) e
 | ext φ=>obtain⟨p,⟨o,e⟩,st⟩:=x;exact⟨st _ _ p fun o q=>k _ _ (.inl rfl) q,⟨o,k _ _ (.inl rfl) e⟩,st⟩
theorem ux.lt(x:ux P w H h)(e:H a=some o):a<h.objs.size:=(x a o e).lt
theorem ux.fresh(x:ux P w H h)(e:h.objs.size≤a):H a=none:=by
 cases q:H a with
 | none=>rfl
 | some u=>exact absurd (QS (x.lt q) e) (Sg _)
theorem ux.kept(x:ux P w H h)(k:∀b u,h.get? b=some u→h'.get? b=some u):ux P w H h':=fun a o e =>
 (x a o e).Hc (fun b u _ q=>k b u q) (fun _ q=>q) fun _ _ q=>q
theorem ux.laid(x:ux P w H h)(k:∀b u,h.get? b=some u→h'.get? b=some u)(hp:h.objs.size≤a)(new:fM P w (upd H a o) h' a o):ux P w (upd H a o) h':=fun b u e=>by
 have hn:=x.fresh hp
 by_cases hb:b=a
 ·subst hb;rw[af]at e;cases e;exact new
 ·rw[ah hb]at e
  exact(x b u e).Hc (fun c v _ q=>k c v q) (fun c q=>by rw[ah (ao q hn)];exact q) fun c xs q=>by rw[ah (ao q hn)];exact q
end
def Rd(H:Hp)(a:Addr)(u:HO):Prop:=H a=some u∨∃o,H a=some (.frz o u)
theorem Rd.ok{P:Program}{w:World}{H:Hp}{h:Heap}{a:Addr}{u:HO}(r:Rd H a u)(x:ux P w H h):fM P w H h a u:=by
 rcases r with r|⟨o,r⟩
 ·exact x a u r
 ·obtain⟨_,q⟩:=x a _ r
  exact q
def OB:Option HO→Prop
 | some (.lst _)=>True
 | some (.dK _)=>True
 | some (.dT _)=>True
 | some (.set _ _)=>True
 | some (.ins _ _ _)=>True
 | some (.ext _)=>True
 | _=>False
section
variable{P:Program}{w:World}{H:Hp}{h h':Heap}{x e:Addr}{o':HO}
theorem ux.write(ok:ux P w H h)(mu:OB (H x))(he:e=x∨H e=some (.own x))(k:∀b u,b≠e→h.get? b=some u→h'.get? b=some u)(heo:∃u,h'.get? e=some u)
  (new:fM P w (upd H x o') h' x o'):ux P w (upd H x o') h':=fun b u q=>by
 have nown:∀c y,H c=some (.own y)→c≠x:=fun c y r z=>by subst z;rw[r]at mu;exact mu
 have ntup:∀c xs,H c=some (.tup xs)→c≠x:=fun c xs r z=>by subst z;rw[r]at mu;exact mu
 by_cases hb:b=x
 ·subst hb;rw[af]at q;cases q;exact new
 ·rw[ah hb]at q
  by_cases hbe:b=e
  ·have q':H b=some (.own x):=by
    rcases he with z|z
    ·exact absurd (hbe.trans z) hb
    ·rw[hbe];exact z
   rw[q]at q';cases q'
   obtain⟨v,hv⟩:=heo
   exact⟨v,by rw[hbe];exact hv⟩
  ·refine(ok b u q).Hc (fun c v hc r=>k c v ?_ r) (fun c r=>by rw[ah (nown c b r)];exact r) fun c xs r=>by rw[ah (ntup c xs r)];exact r
   rcases hc with rfl|hc
   ·exact hbe
   ·rintro rfl
    rcases he with z|z
    ·exact nown c b hc z
    ·rw[hc]at z;cases z;exact hb rfl
end
structure Un(fs ex:List Addr)(H H':Hp)(h h':Heap):Prop where
 keep:∀b o,h.get? b=some o→H b=none→b∉fs→b∉ex→h'.get? b=some o
 slot:∀b o,h.get? b=some o→H b=none→b∈fs→b∉ex→∃sl,h'.get? b=some {o with slots:=sl}
 free:∀b o,h.get? b=some o→H b=none→b∉ex→H' b=none
 there:∀b o,h.get? b=some o→b∉ex→∃o',h'.get? b=some o'
 FG:∀b xs,H b=some (.tup xs)→H' b=some (.tup xs)
 C9:∀b o u,H b=some (.frz o u)→H' b=some (.frz o u)
 FE:∀b ps,H b=some (.tbl ps)→∃more,H' b=some (.tbl (ps++more))
section
variable{fs fs' ex ex':List Addr}{H H1 H2:Hp}{h h1 h2 h':Heap}{a x e:Addr}{o:HO}
theorem Un.any(u:Un fs ex H H1 h h1){b:Addr}{ob:Obj}(q:h.get? b=some ob)(n:H b=none)(hx:b∉ex):∃sl,h1.get? b=some {ob with slots:=sl}:=by
 by_cases hb:b∈fs
 ·exact u.slot b ob q n hb hx
 ·exact⟨ob.slots,u.keep b ob q n hb hx⟩
theorem Un.kept(k:∀b u,h.get? b=some u→h'.get? b=some u):Un fs ex H H h h' :=
 ⟨fun b ob q _ _ _=>k b ob q,fun b ob q _ _ _=>⟨ob.slots,k b ob q⟩,fun _ _ _ n _=>n,fun b ob q _=>⟨ob,k b ob q⟩,fun _ _ q=>q,fun _ _ _ q=>q,fun _ ps q=>⟨#[],by rw[q];simp⟩⟩
theorem Un.refl:Un fs ex H H h h:=Un.kept fun _ _ q=>q
theorem Un.laid(k:∀b u,h.get? b=some u→h'.get? b=some u)(hp:h.objs.size≤a)(hn:H a=none):Un fs ex H (upd H a o) h h' where
 keep:=fun b u q _ _ _=>k b u q
 slot:=fun b u q _ _ _=>⟨u.slots,k b u q⟩
 free:=fun b u q n _=>by rw[ah (Rj (QS (Heap.lt_size q) hp))];exact n
 there:=fun b u q _=>⟨u,k b u q⟩
 FG:=fun b xs q=>by rw[ah (ao q hn)];exact q
 C9:=fun b u xs q=>by rw[ah (ao q hn)];exact q
 FE:=fun b ps q=>⟨#[],by rw[ah (ao q hn),q];simp⟩
theorem Un.write(mu:OB (H x))(he:e=x∨H e=some (.own x))(k:∀b u,b≠e→h.get? b=some u→h'.get? b=some u)(heo:∃u,h'.get? e=some u):Un fs ex H (upd H x o) h h':=by
 have hx:∀b,H b=none→b≠x:=fun b n z=>by subst z;rw[n]at mu;exact mu
 have hb:∀b,H b=none→b≠e:=fun b n z=>by
  subst z
  rcases he with r|r
  ·exact hx b n r
  ·rw[n]at r;cases r
 have hm:∀b u,H b=some u→¬OB (some u)→b≠x:=fun b u q nm z=>by subst z;rw[q]at mu;exact nm mu
 refine⟨fun b u q n _ _=>k b u (hb b n) q,fun b u q n _ _=>⟨u.slots,k b u (hb b n) q⟩,fun b u q n _=>by rw[ah (hx b n)];exact n,fun b u q _=>?_,
  fun b xs q=>by rw[ah (hm b _ q fun z=>z)];exact q,fun b u xs q=>by rw[ah (hm b _ q fun z=>z)];exact q,fun b ps q=>⟨#[],by rw[ah (hm b _ q fun z=>z),q];simp⟩⟩
 by_cases hbe:b=e
 ·subst hbe;exact heo
 ·exact⟨u,k b u hbe q⟩
end
def OK(h:Heap)(H:Hp):List Addr:=(Q5 h.objs.size).filter fun a=>(H a).isSome
def Df(h:Heap)(H:Hp):Heap:=PySem.W.hideAll h (OK h H)
theorem IU(h:Heap)(H:Hp):(Df h H).objs.size=h.objs.size:=PySem.W.hideAll_size _ _
theorem J6{h:Heap}{H:Hp}{b:Addr}{o:Obj}(e:h.get? b=some o)(n:H b=none):(Df h H).get? b=some o :=
 PySem.W.hideAll_get _ e fun hm=>by
  have q:(H b).isSome=true:=(Sv.mp hm).2
  rw[n]at q;simp at q
theorem LO{h:Heap}{H:Hp}{b:Addr}{o:Obj}(e:(Df h H).get? b=some o):h.get? b=some o∧H b=none:=by
 have e':h.get? b=some o:=PySem.W.of_hideAll (OK h H) e
 refine⟨e',?_⟩
 cases q:H b with
 | none=>rfl
 | some x =>
  have hm:b∈OK h H:=Sv.mpr ⟨Rf.mpr (Heap.lt_size e'),by simp[q]⟩
  have z:(Df h H).get? b=none:=PySem.W.hideAll_none (OK h H) hm
  rw[z]at e;cases e
structure Mod(K:Frg)(mg:Str→Option Value)(base:Heap):Prop where
 Nv:K.In base
 glob:base.Ns mainGlobals mg
 blt:∃mb,base.Ns builtinsNs mb∧∀x:Str,x≠"__name__"→mb x=bootBuiltins x
 nolimit:base.NoLimit
structure Cx where
 prog:Program
 w:World
 K:Frg
 mg:Str→Option Value
 base:Heap
 A:Around
 N:List Str
 Cj:Shared
 ND:Hp
 env:Env
 outer:List Env
 stack:List Env
 ex:List Addr
 fn:Str→Bool
 calm:Bool
 pn:List (Addr×Obj)
 xe:Value→Shared→Prop
def J3(l:List Env):List Addr:=l.filterMap (·.frame)
abbrev Cx.fs(X:Cx):List Addr:=J3 X.outer
def MC(sc:Scope)(x:Str):Prop:=sc.names.lookup x=some .local∨sc.names.lookup x=some .cell∨sc.names.lookup x=some .free
def Loc(sc:Scope)(x:Str):Prop:=sc.names.lookup x=some .local∨sc.names.lookup x=some .cell
def Look(env:Env)(h:Heap)(m:Str→Option Value)(x:Str)(u:Value):Prop :=
 (env.kindOf x=some .local∧m x=some u)∨((env.kindOf x=some .cell∨env.kindOf x=some .free)∧∃c,env.cells.lookup x=some c∧h.IsCell c (some u))
structure Cx.Ok(X:Cx):Prop where
 mod:Mod X.K X.mg X.base
 kind:X.env.scope.kind=.function
 glob:X.env.globals=mainGlobals
 blt:X.env.builtins=builtinsNs
 above:X.Cj.heap.objs.size≤X.env.locals
 inj:∀x y c,X.env.cells.lookup x=some c→X.env.cells.lookup y=some c→x=y
 has:∀x,(X.env.kindOf x=some .cell∨X.env.kindOf x=some .free)→∃c,X.env.cells.lookup x=some c
 NO:∀x c,X.fn x=true→X.env.cells.lookup x=some c→X.Cj.heap.objs.size≤c
 hd:X.calm=true→X.A.handled=none
 frames:X.A.frames=some X.stack
 OH:X.stack=X.outer∨(X.stack=X.env::X.outer∧X.env.frame=some X.env.locals)
 OE:∀b∈X.ex,b≠X.env.locals∧∀x c,X.env.cells.lookup x=some c→c≠b
 bs:∀b o,X.base.get? b=some o→X.Cj.heap.get? b=some o∧X.ND b=none
 Lw:X.base.objs.size≤X.Cj.heap.objs.size
 Kn:∀b o,X.base.get? b=some o→b∉X.ex
 JT:∀b∈X.ex,b∉X.fs
 yf:X.Cj.heap.FunFrames X.base X.outer
 MM:∀b∈X.fs,X.ND b=none
structure Inv(X:Cx)(pins:List (Addr×Obj))(σ:List (Option V))(H:Hp)(s:Shared):Prop where
 ok:X.Ok
 os:s.os=X.Cj.os
 bare:AllBare s.gens
 base:Un X.fs X.ex X.ND H X.Cj.heap s.heap
 loc:∃m,s.heap.Ns X.env.locals m∧∀(i:Nat)(x:Str)(v:V),X.N[i]?=some x→σ[i]?=some (some v)→MC X.env.scope x→∃u,RelV v u∧Look X.env s.heap m x u
 cell:∀x c,X.env.cells.lookup x=some c→∃v,s.heap.IsCell c v
 free:H X.env.locals=none
 pE:∀x c,X.env.cells.lookup x=some c→H c=none
 pin:∀p∈X.pn++pins,s.heap.get? p.1=some p.2∧H p.1=none∧p.1≠X.env.locals∧p.1∉X.fs∧∀v,p.2.data≠.cell v
 cp:ux X.prog X.w H s.heap
 len:σ.length=X.N.length
section
variable{X:Cx}{pins:List (Addr×Obj)}{σ:List (Option V)}{H H':Hp}{s:Shared}{h':Heap}
theorem Cx.Ok.Pn(ok:X.Ok){b:Addr}{o:Obj}(e:X.base.get? b=some o):b∉X.fs:=fun hb=>by
 have:=(ok.yf.mem hb).1
 rw[e]at this;cases this
theorem Inv.bs(I:Inv X pins σ H s):∀b o,X.base.get? b=some o→s.heap.get? b=some o∧H b=none:=fun b o e =>
 ⟨I.base.keep b o (I.ok.bs b o e).1 (I.ok.bs b o e).2 (I.ok.Pn e) (I.ok.Kn b o e),I.base.free b o (I.ok.bs b o e).1 (I.ok.bs b o e).2 (I.ok.Kn b o e)⟩
theorem Inv.bk(I:Inv X pins σ H s):∀b o,X.base.get? b=some o→s.heap.get? b=some o:=fun b o e=>(I.bs b o e).1
theorem Inv.mod(I:Inv X pins σ H s):Mod X.K X.mg X.base:=I.ok.mod
theorem Inv.FN(I:Inv X pins σ H s):X.K.In s.heap:=I.ok.mod.Nv.keeps I.bk
theorem Inv.lt(I:Inv X pins σ H s):X.env.locals<s.heap.objs.size:=let ⟨_,hn,_⟩:=I.loc;hn.lt
theorem Inv.sz(I:Inv X pins σ H s):X.Cj.heap.objs.size≤s.heap.objs.size:=QK I.ok.above (RI I.lt)
theorem Inv.Po(I:Inv X pins σ H s){a:Addr}(h:s.heap.objs.size≤a):a∉X.fs:=fun hb=>by
 obtain⟨_,o,ho,_⟩:=I.ok.yf.mem hb
 exact absurd (QS (Heap.lt_size ho) (QK I.sz h)) (Sg _)
theorem Inv.MK(I:Inv X pins σ H s):∀x c,X.env.cells.lookup x=some c→c≠X.env.locals:=fun x c e z=>by
 obtain⟨v,o,ho,hd⟩:=I.cell x c e
 obtain⟨m,⟨o',es,ep,ho',hd',_⟩,_⟩:=I.loc
 rw[z,ho']at ho;cases ho;rw[hd']at hd;cases hd
theorem Inv.yf(I:Inv X pins σ H s):s.heap.FunFrames X.base X.outer:=by
 have all:∀(l:List Env),(∀b∈J3 l,b∈X.fs)→X.Cj.heap.FunFrames X.base l→s.heap.FunFrames X.base l:=by
  intro l
  induction l with
  | nil=>intro _ _;trivial
  | cons env r ih =>
   intro hs hl
   obtain⟨hk,⟨L,o,hf,hn,ho,hd⟩,hr⟩:=hl
   have hL:L∈X.fs:=hs L (by unfold J3;rw[RR,hf];exact Rc)
   obtain⟨sl,e⟩:=I.base.slot L o ho (I.ok.MM L hL) hL fun z=>I.ok.JT L z hL
   exact⟨hk,⟨L,_,hf,hn,e,hd⟩,ih (fun b hb=>hs b (by unfold J3;rw[RR,hf];exact Q4 _ hb)) hr⟩
 exact all X.outer (fun _ hb=>hb) I.ok.yf
theorem Inv.stack(I:Inv X pins σ H s):s.heap.FunFrames X.base X.stack:=by
 rcases I.ok.OH with e|⟨e,hf⟩
 ·rw[e];exact I.yf
 ·rw[e]
  obtain⟨m,hn,_⟩:=I.loc
  refine .cons (by rw[I.ok.kind];decide) hf hn ?_ I.yf
  exact Heap.get?_none_of_le (QK I.ok.Lw I.ok.above)
theorem Inv.Hd(I:Inv X pins σ H s):∀b∈J3 X.stack,b∈X.env.locals::X.fs:=fun b hb=>by
 rcases I.ok.OH with e|⟨e,hf⟩
 ·rw[e]at hb;exact Q4 _ hb
 ·rw[e]at hb
  unfold J3 at hb
  rw[RR,hf]at hb
  exact hb
theorem Inv.HY(I:Inv X pins σ H s):∀b∈J3 X.stack,H b=none:=fun b hb=>by
 rcases QM.mp (I.Hd b hb)with e|hb
 ·rw[e];exact I.free
 ·obtain⟨_,o,ho,_⟩:=I.ok.yf.mem hb
  exact I.base.free b o ho (I.ok.MM b hb) fun z=>I.ok.JT b z hb
theorem Inv.step{g':Array GenState}{t':Nat}{d':Drawn}{ch:List Addr}(I:Inv X pins σ H s)
  (hch:∀b∈ch,(b∈X.ex∨X.Cj.heap.objs.size≤b)∧b≠X.env.locals∧(∀x c,X.env.cells.lookup x=some c→c≠b)∧∀p∈X.pn++pins,p.1≠b)
  (keep:∀b o,b≠X.env.locals→b∉X.fs→b∉ch→s.heap.get? b=some o→H b=none→h'.get? b=some o)
  (slot:∀b o,b≠X.env.locals→b∈X.fs→b∉ch→s.heap.get? b=some o→H b=none→∃sl,h'.get? b=some {o with slots:=sl})(free:∀b o,b∉ch→s.heap.get? b=some o→H b=none→H' b=none)
  (there:∀b o,b∉ch→s.heap.get? b=some o→∃o',h'.get? b=some o')
  (FG:∀b xs,H b=some (.tup xs)→H' b=some (.tup xs))(C9:∀b o u,H b=some (.frz o u)→H' b=some (.frz o u))(FE:∀b ps,H b=some (.tbl ps)→∃more,H' b=some (.tbl (ps++more)))
  (ns:∀m,s.heap.Ns X.env.locals m→h'.Ns X.env.locals m)(cp:ux X.prog X.w H' h')(hg:AllBare g') :
  Inv X pins σ H' {s with heap:=h',gens:=g',drawn:=d',toks:=t'}:=by
 have neL:∀b o,X.Cj.heap.get? b=some o→b≠X.env.locals:=fun b o e=>Rj (QS (Heap.lt_size e) I.ok.above)
 have neC:∀b o,X.Cj.heap.get? b=some o→b∉X.ex→b∉ch:=fun b o e hx hb=>by
  rcases(hch b hb).1 with z|z
  ·exact hx z
  ·exact absurd (QS (Heap.lt_size e) z) (Sg _)
 have cellK:∀x c,X.env.cells.lookup x=some c→∀v,s.heap.IsCell c v→h'.IsCell c v:=fun x c e v ⟨o,ho,hd⟩=>by
  have nch:c∉ch:=fun z=>(hch c z).2.2.1 x c e rfl
  by_cases hc:c∈X.fs
  ·obtain⟨sl,q⟩:=slot c o (I.MK x c e) hc nch ho (I.pE x c e)
   exact⟨_,q,hd⟩
  ·exact⟨o,keep c o (I.MK x c e) hc nch ho (I.pE x c e),hd⟩
 refine⟨I.ok,I.os,hg,⟨fun b o e n hb hx=>?_,fun b o e n hb hx=>?_,fun b o e n hx=>?_,fun b o e hx=>?_,fun b xs e=>FG b xs (I.base.FG b xs e),fun b o xs e=>C9 b o xs (I.base.C9 b o xs e),fun b ps e=>?_⟩,?_,fun x c e=>?_,?_,fun x c e=>?_,fun p hp=>?_,cp,I.len⟩
 ·exact keep b o (neL b o e) hb (neC b o e hx) (I.base.keep b o e n hb hx) (I.base.free b o e n hx)
 ·obtain⟨sl,e1⟩:=I.base.slot b o e n hb hx
  obtain⟨sl',e2⟩:=slot b _ (neL b o e) hb (neC b o e hx) e1 (I.base.free b o e n hx)
  exact⟨sl',e2⟩
 ·obtain⟨o',e1⟩:=I.base.there b o e hx
  exact free b o' (neC b o e hx) e1 (I.base.free b o e n hx)
 ·obtain⟨o',e1⟩:=I.base.there b o e hx
  exact there b o' (neC b o e hx) e1
 ·obtain⟨m1,e1⟩:=I.base.FE b ps e
  obtain⟨m2,e2⟩:=FE b _ e1
  exact⟨m1++m2,by rw[e2,Array.append_assoc]⟩
 ·obtain⟨m,hn,hl⟩:=I.loc
  refine⟨m,ns m hn,fun i x v e1 e2 e3=>?_⟩
  obtain⟨u,r,l⟩:=hl i x v e1 e2 e3
  refine⟨u,r,?_⟩
  rcases l with l|⟨k,c,e,z⟩
  ·exact .inl l
  ·exact .inr ⟨k,c,e,cellK x c e _ z⟩
 ·obtain⟨v,z⟩:=I.cell x c e
  exact⟨v,cellK x c e v z⟩
 ·obtain⟨m,⟨o,_,_,ho,_⟩,_⟩:=I.loc
  exact free _ o (fun z=>(hch _ z).2.1 rfl) ho I.free
 ·obtain⟨v,o,ho,hd⟩:=I.cell x c e
  exact free c o (fun z=>(hch c z).2.2.1 x c e rfl) ho (I.pE x c e)
 ·obtain⟨e,n,ne,nf,d⟩:=I.pin p hp
  have nch:p.1∉ch:=fun z=>(hch p.1 z).2.2.2 p hp rfl
  exact⟨keep p.1 p.2 ne nf nch e n,free p.1 p.2 nch e n,ne,nf,d⟩
theorem Inv.un{t':Nat}(I:Inv X pins σ H s)(u:Un X.fs [] H H' s.heap h')(cp:ux X.prog X.w H' h'):Inv X pins σ H' {s with heap:=h',toks:=t'}:=by
 obtain⟨m,⟨o,es,ep,ho,r⟩,_⟩:=id I.loc
 obtain⟨sl,hL⟩:=u.any ho I.free (by simp)
 exact I.step (g':=s.gens) (d':=s.drawn) (ch:=[]) (fun _ z=>nomatch z) (fun b o _ hb _ e n=>u.keep b o e n hb (by simp)) (fun b o _ hb _ e n=>u.slot b o e n hb (by simp)) (fun b o _ e n=>u.free b o e n (by simp)) (fun b o _ e=>u.there b o e (by simp)) u.FG u.C9 u.FE (fun m' hm=>by
  obtain⟨o',es',ep',ho',r'⟩:=hm
  rw[ho]at ho';cases ho'
  exact⟨_,es',ep',hL,r'⟩) cp I.bare
theorem Inv.call{g':Array GenState}{t':Nat}{d':Drawn}{ch:List Addr}(I:Inv X pins σ H s)(u:Un (J3 X.stack) ch H H' s.heap h')(cp:ux X.prog X.w H' h')(hg:AllBare g')
  (hch:∀b∈ch,(b∈X.ex∨X.Cj.heap.objs.size≤b)∧b≠X.env.locals∧(∀x c,X.env.cells.lookup x=some c→c≠b)∧∀p∈X.pn++pins,p.1≠b) :
  Inv X pins σ H' {s with heap:=h',gens:=g',drawn:=d',toks:=t'}:=by
 obtain⟨m,⟨o,es,ep,ho,r⟩,_⟩:=id I.loc
 obtain⟨sl,hL⟩:=u.any ho I.free fun z=>(hch _ z).2.1 rfl
 exact I.step (ch:=ch) hch (fun b o hL hb hc e n=>u.keep b o e n (fun z=>(QM.mp (I.Hd b z)).elim hL hb) hc) (fun b o _ _ hc e n=>u.any e n hc) (fun b o hc e n=>u.free b o e n hc) (fun b o hc e=>u.there b o e hc) u.FG u.C9 u.FE (fun m' hm=>by
  obtain⟨o',es',ep',ho',r'⟩:=hm
  rw[ho]at ho';cases ho'
  exact⟨_,es',ep',hL,r'⟩) cp hg
theorem Inv.turned{t':Nat}{it:Addr}(I:Inv X pins σ H s)(k:∀b o,b≠it→s.heap.get? b=some o→h'.get? b=some o)(hn:H it=none)(hL:it≠X.env.locals)
  (h1:it∈X.ex∨X.Cj.heap.objs.size≤it)(h2:∀x c,X.env.cells.lookup x=some c→c≠it)(h3:∀p∈X.pn++pins,p.1≠it):Inv X pins σ H {s with heap:=h',toks:=t'}:=by
 have nit:∀b u,H b=some u→b≠it:=fun b u e z=>by rw[z,hn]at e;cases e
 refine I.step (g':=s.gens) (d':=s.drawn) (ch:=[it]) (fun b hb=>?_) (fun b o _ _ hc e _=>k b o (fun z=>hc (by simp[z])) e) (fun b o _ _ hc e _=>⟨o.slots,k b o (fun z=>hc (by simp[z])) e⟩) (fun _ _ _ _ n=>n)
  (fun b o hc e=>⟨o,k b o (fun z=>hc (by simp[z])) e⟩) (fun _ _ e=>e) (fun _ _ _ e=>e) (fun b ps e=>⟨#[],by rw[e];simp⟩) (fun m hm=>?_) (fun b u e=>?_) I.bare
 ·have e:b=it:=by simpa using hb
  subst e
  exact⟨h1,hL,h2,h3⟩
 ·obtain⟨o,es,ep,ho,r⟩:=hm
  exact⟨o,es,ep,k _ o (Ne.symm hL) ho,r⟩
 ·refine(I.cp b u e).Hc (fun c v hc q=>k c v ?_ q) (fun _ q=>q) fun _ _ q=>q
  rcases hc with z|z
  ·rw[z];exact nit b u e
  ·exact nit c _ z
theorem Inv.tok(I:Inv X pins σ H s)(t:Nat):Inv X pins σ H {s with toks:=t}:=I.un (h':=s.heap) (t':=t) Un.refl I.cp
theorem Inv.kept{t':Nat}(I:Inv X pins σ H s)(k:∀b u,s.heap.get? b=some u→h'.get? b=some u):Inv X pins σ H {s with heap:=h',toks:=t'}:=I.un (Un.kept k) (I.cp.kept k)
theorem Inv.laid{a:Addr}{o:HO}{t':Nat}(I:Inv X pins σ H s)(k:∀b u,s.heap.get? b=some u→h'.get? b=some u)(hp:s.heap.objs.size≤a)(new:fM X.prog X.w (upd H a o) h' a o) :
  Inv X pins σ (upd H a o) {s with heap:=h',toks:=t'}:=I.un (Un.laid k hp (I.cp.fresh hp)) (I.cp.laid k hp new)
theorem Inv.write{x e:Addr}{o:HO}{t':Nat}(I:Inv X pins σ H s)(mu:OB (H x))(he:e=x∨H e=some (.own x))(k:∀b u,b≠e→s.heap.get? b=some u→h'.get? b=some u)(heo:∃u,h'.get? e=some u)
  (new:fM X.prog X.w (upd H x o) h' x o):Inv X pins σ (upd H x o) {s with heap:=h',toks:=t'}:=I.un (Un.write mu he k heo) (I.cp.write mu he k heo new)
theorem Inv.weak{σ':List (Option V)}(I:Inv X pins σ H s)(hl:σ'.length=σ.length)(w:∀(i:Nat) v,σ'[i]?=some (some v)→σ[i]?=some (some v)):Inv X pins σ' H s :=
 ⟨I.ok,I.os,I.bare,I.base,let ⟨m,hn,hl'⟩:=I.loc;⟨m,hn,fun i x v e1 e2 e3=>hl' i x v e1 (w i v e2) e3⟩,I.cell,I.free,I.pE,I.pin,I.cp,hl.trans I.len⟩
theorem Inv.HP{pins':List (Addr×Obj)}(I:Inv X pins σ H s)(h:∀p∈pins',s.heap.get? p.1=some p.2∧H p.1=none∧p.1≠X.env.locals∧p.1∉X.fs∧∀v,p.2.data≠.cell v):Inv X pins' σ H s :=
 ⟨I.ok,I.os,I.bare,I.base,I.loc,I.cell,I.free,I.pE,fun p hp=>(RB.mp hp).elim (fun z=>I.pin p (SX _ z)) (h p),I.cp,I.len⟩
theorem zD{N:List Str}(hN:N.Nodup){i j:Nat}{x:Str}(a:N[i]?=some x)(b:N[j]?=some x):i=j:=by
 obtain⟨h1,e1⟩:=QO.mp a
 obtain⟨h2,e2⟩:=QO.mp b
 exact(Vj hN).mp (e1.trans e2.symm)
theorem Cm{M:Model}{A:Around}{E:Value→Shared→Prop}{i:Nat}{x:Str}{v:V}{u:Value}{Q:Unit→Shared→Prop}(I:Inv X pins σ H s)(hN:X.N.Nodup)(hi:X.N[i]?=some x)(hx:Loc X.env.scope x)(r:RelV v u)
  (h:∀s',Inv X pins (σ.set i (some v)) H s'→(∃a,Heap.SameBut a s.heap s'.heap∧(a=X.env.locals∨X.env.cells.lookup x=some a))→Q () s')(hf:X.fn x=true∨X.env.scope.names.lookup x=some .local:=by first|exact .inl rfl|exact .inr rfl|assumption):wpAny M A (storeName X.env x u) Q E s:=by
 obtain⟨m,hn,hl⟩:=id I.loc
 have hcls:(X.env.scope.kind==.class || (X.env.scope.kind==.module&&X.env.locals != X.env.globals))=false:=by rw[I.ok.kind];rfl
 have hiσ:i<σ.length:=by rw[I.len];exact(QO.mp hi).1
 have MK:=I.MK
 have tracked:∀{a:Addr}{h':Heap},(∃o,s.heap.get? a=some o∧H a=none)→Heap.SameBut a s.heap h'→ux X.prog X.w H h':=fun{a h'} ha hs b ob e=>by
  obtain⟨_,_,hfree⟩:=ha
  refine(I.cp b ob e).Hc (fun c w' hc q=>(hs.2 c ?_).trans q) (fun _ q=>q) fun _ _ q=>q
  rintro rfl
  rcases hc with rfl|hc
  ·rw[hfree]at e;cases e
  ·rw[hfree]at hc;cases hc
 rcases hx with hk|hk
 ·refine wpAny_storeName_local hk hn (fun h' hn' hs=>?_) hcls
  obtain⟨oL,_,_,hoL,_⟩:=id hn
  refine h _ ⟨I.ok,I.os,I.bare,⟨fun b o e n hb hx=>?_,fun b o e n hb hx=>?_,I.base.free,fun b o e hx=>?_,I.base.FG,I.base.C9,I.base.FE⟩,⟨_,hn',fun j y v' e1 e2 e3=>?_⟩,fun y c e=>?_,I.free,I.pE,fun p hp=>?_,tracked ⟨oL,hoL,I.free⟩ hs,by simpa using I.len⟩ ⟨_,hs,.inl rfl⟩
  ·exact(hs.2 b (Rj (QS (Heap.lt_size e) I.ok.above))).trans (I.base.keep b o e n hb hx)
  ·obtain⟨sl,e1⟩:=I.base.slot b o e n hb hx
   exact⟨sl,(hs.2 b (Rj (QS (Heap.lt_size e) I.ok.above))).trans e1⟩
  ·obtain⟨o',e1⟩:=I.base.there b o e hx
   exact⟨o',(hs.2 b (Rj (QS (Heap.lt_size e) I.ok.above))).trans e1⟩
  ·by_cases hj:j=i
   ·subst hj
    rw[hi]at e1;cases e1
    rw[Uk hiσ]at e2
    cases e2
    exact⟨u,r,.inl ⟨hk,by simp⟩⟩
   ·rw[UG (Ne.symm hj)]at e2
    obtain⟨u',r',q⟩:=hl j y v' e1 e2 e3
    refine⟨u',r',?_⟩
    rcases q with⟨k,e⟩|⟨k,c,e,z⟩
    ·refine .inl ⟨k,?_⟩
     have:y≠x:=fun e=>hj (zD hN e1 (e▸hi))
     simp[this,e]
    ·exact .inr ⟨k,c,e,z.sameBut hs (MK y c e)⟩
  ·obtain⟨w',z⟩:=I.cell y c e
   exact⟨w',z.sameBut hs (MK y c e)⟩
  ·obtain⟨e,n,ne,nf,d⟩:=I.pin p hp
   exact⟨(hs.2 p.1 ne).trans e,n,ne,nf,d⟩
 ·have hfn:X.fn x=true:=by
   rcases hf with z|z
   ·exact z
   ·rw[z]at hk;cases hk
  obtain⟨c,hc⟩:=I.ok.has x (.inl hk)
  obtain⟨w',z⟩:=I.cell x c hc
  refine wpAny_storeName_cell I.ok.kind hk hc z (fun h' hc' hs=>?_)
  obtain⟨oc,hoc,hocd⟩:=id z
  refine h {s with heap:=h'} ⟨I.ok,I.os,I.bare,⟨fun b o e n hb hx=>?_,fun b o e n hb hx=>?_,I.base.free,fun b o e hx=>?_,I.base.FG,I.base.C9,I.base.FE⟩,⟨m,hn.sameBut hs (Ne.symm (MK x c hc)),fun j y v' e1 e2 e3=>?_⟩,fun y c' e=>?_,I.free,I.pE,fun p hp=>?_,tracked ⟨oc,hoc,I.pE x c hc⟩ hs,by simpa using I.len⟩ ⟨c,hs,.inr hc⟩
  ·exact(hs.2 b (Rj (QS (Heap.lt_size e) (I.ok.NO x c hfn hc)))).trans (I.base.keep b o e n hb hx)
  ·obtain⟨sl,e1⟩:=I.base.slot b o e n hb hx
   exact⟨sl,(hs.2 b (Rj (QS (Heap.lt_size e) (I.ok.NO x c hfn hc)))).trans e1⟩
  ·obtain⟨o',e1⟩:=I.base.there b o e hx
   exact⟨o',(hs.2 b (Rj (QS (Heap.lt_size e) (I.ok.NO x c hfn hc)))).trans e1⟩
  ·by_cases hj:j=i
   ·subst hj
    rw[hi]at e1;cases e1
    rw[Uk hiσ]at e2
    cases e2
    exact⟨u,r,.inr ⟨.inl hk,c,hc,hc'⟩⟩
   ·rw[UG (Ne.symm hj)]at e2
    obtain⟨u',r',q⟩:=hl j y v' e1 e2 e3
    refine⟨u',r',?_⟩
    rcases q with q|⟨k,c',e,z'⟩
    ·exact .inl q
    ·refine .inr ⟨k,c',e,z'.sameBut hs ?_⟩
     rintro rfl
     exact hj (zD hN e1 (I.ok.inj _ _ _ e hc▸hi))
  ·by_cases hcc:c'=c
   ·subst hcc;exact⟨_,hc'⟩
   ·obtain⟨w2,z2⟩:=I.cell y c' e
    exact⟨w2,z2.sameBut hs hcc⟩
  ·obtain⟨e,n,ne,nf,d⟩:=I.pin p hp
   refine⟨(hs.2 p.1 ?_).trans e,n,ne,nf,d⟩
   intro q
   rw[q,hoc]at e
   have q':oc=p.2:=Rb e
   exact d w' (by rw[←q'];exact hocd)
theorem Av{M:Model}{A:Around}{E:Value→Shared→Prop}{i:Nat}{x:Str}{v:V}{u:Value}{Q:Unit→Shared→Prop}(I:Inv X pins σ H s)(hN:X.N.Nodup)(hi:X.N[i]?=some x)(hx:Loc X.env.scope x)(r:RelV v u)
  (h:∀s',Inv X pins (σ.set i (some v)) H s'→Q () s')(hf:X.fn x=true∨X.env.scope.names.lookup x=some .local:=by first|exact .inl rfl|exact .inr rfl|assumption):wpAny M A (storeName X.env x u) Q E s :=
 Cm I hN hi hx r (fun s' I' _=>h s' I') hf
theorem Inv.NQ{s':Shared}{ch:List Addr}(I:Inv X pins σ H s)(ho:s'.os=s.os)(u:Un (J3 X.stack) ch H H' s.heap s'.heap)(cp:ux X.prog X.w H' s'.heap)(hg:AllBare s'.gens)
  (hch:∀b∈ch,(b∈X.ex∨X.Cj.heap.objs.size≤b)∧b≠X.env.locals∧(∀x c,X.env.cells.lookup x=some c→c≠b)∧∀p∈X.pn++pins,p.1≠b):Inv X pins σ H' s':=by
 obtain⟨h',g',d',t',o'⟩:=s'
 have e:o'=s.os:=ho
 subst e
 exact I.call (g':=g') (t':=t') (d':=d') u cp hg hch
end
abbrev XK:=Value→Option Addr→Hp→Prop
abbrev St:=List (Option V)
abbrev VK:=V→Hp→Prop
abbrev TE:=St→Hp→VK→Prop
abbrev TT:=St→Hp→(Bool→Hp→Prop)→Prop
abbrev TA:=St→Hp→(List V→Hp→Prop)→Prop
structure Ends where
 nx:St→Hp→Prop
 rt:VK
 bk:St→Hp→Prop:=fun _ _=>False
 ct:St→Hp→Prop:=fun _ _=>False
abbrev TS:=Ends→St→Hp→Prop
def EP(X:Cx)(pins:List (Addr×Obj))(σ:St)(Q:VK)(u:Value)(s':Shared):Prop:=∃v H',Inv X pins σ H' s'∧RelV v u∧Q v H'
def TP(X:Cx)(pins:List (Addr×Obj))(σ:St)(Q:Bool→Hp→Prop)(b:Bool)(s':Shared):Prop:=∃H',Inv X pins σ H' s'∧Q b H'
def AP(X:Cx)(pins:List (Addr×Obj))(σ:St)(Q:List V→Hp→Prop)(us:List Value)(s':Shared):Prop:=∃vs H',Inv X pins σ H' s'∧Vals vs us∧Q vs H'
def SP(X:Cx)(pins:List (Addr×Obj))(D:Ends)(f:Flow)(s':Shared):Prop :=
 match f with
 | .next=>∃σ' H',Inv X pins σ' H' s'∧D.nx σ' H'
 | .brk=>∃σ' H',Inv X pins σ' H' s'∧D.bk σ' H'
 | .cont=>∃σ' H',Inv X pins σ' H' s'∧D.ct σ' H'
 | .ret u=>∃v σ' H',Inv X pins σ' H' s'∧RelV v u∧D.rt v H'
def PE(X:Cx)(e:Expr)(t:TE):Prop :=
 ∀(pins:List (Addr×Obj))(s:Shared)(σ:St)(H:Hp)(Q:VK),Inv X pins σ H s→t σ H Q→wpAny (model X.prog X.w) X.A (eval e X.env) (EP X pins σ Q) X.xe s
def PT(X:Cx)(e:Expr)(t:TT):Prop :=
 ∀(pins:List (Addr×Obj))(s:Shared)(σ:St)(H:Hp)(Q:Bool→Hp→Prop),Inv X pins σ H s→t σ H Q→wpAny (model X.prog X.w) X.A (isTrue e X.env (eval e X.env)) (TP X pins σ Q) X.xe s
def PW(X:Cx)(e:Expr)(t:TT):Prop :=
 ∀(whole:Sem Value)(pins:List (Addr×Obj))(s:Shared)(σ:St)(H:Hp)(Q:Bool→Hp→Prop),Inv X pins σ H s→t σ H Q→wpAny (model X.prog X.w) X.A (isTrue e X.env whole) (TP X pins σ Q) X.xe s
theorem PW.pt{X:Cx}{e:Expr}{t:TT}(h:PW X e t):PT X e t:=h _
def PA(X:Cx)(es:List Expr)(t:TA):Prop :=
 ∀(pos:Pos)(pins:List (Addr×Obj))(s:Shared)(σ:St)(H:Hp)(Q:List V→Hp→Prop),Inv X pins σ H s→t σ H Q→wpAny (model X.prog X.w) X.A (spliced (backTo pos (starEach es X.env))) (AP X pins σ Q) X.xe s
def PS(X:Cx)(st:Stmt)(t:TS):Prop :=
 ∀(pins:List (Addr×Obj))(s:Shared)(σ:St)(H:Hp)(D:Ends),Inv X pins σ H s→t D σ H→wpAny (model X.prog X.w) X.A (exec st X.env) (SP X pins D) X.xe s
def Ij(X:Cx)(st:List Stmt)(t:TS):Prop :=
 ∀(pins:List (Addr×Obj))(s:Shared)(σ:St)(H:Hp)(D:Ends),Inv X pins σ H s→t D σ H→wpAny (model X.prog X.w) X.A (execs st X.env) (SP X pins D) X.xe s
theorem cM{α:Type}{t:Sem α}{Q Q':α→Shared→Prop}{M:Model}{A:Around}{E:Value→Shared→Prop}{s:Shared}(h:wpAny M A t Q E s)(hQ:∀a s,Q a s→Q' a s):wpAny M A t Q' E s:=wpAny_mono h hQ fun _ _ x=>x
section
variable{X:Cx}
def Ow(i:Nat):TE:=fun σ H Q=>EA (fun v=>σ[i]?=some (some v)) (fun v=>Q v H)
def tC(v:V):TE:=fun _ H Q=>Q v H
theorem Kx{i:Nat}{x:Str}{pos:Pos}(hN:X.N[i]?=some x)(hv:MC X.env.scope x)(hd:(x==("__debug__":Str))=false:=by decide)(hcd:(x==("__classdict__":Str))=false:=by decide):PE X (.Name x pos) (Ow i):=by
 intro pins s σ H Q I h
 obtain⟨v,e,h⟩:=h
 obtain⟨m,hn,hl⟩:=I.loc
 obtain⟨u,r,l⟩:=hl i x v hN e hv
 have fin:EP X pins σ Q u s:=⟨v,H,I,r,h⟩
 rcases l with⟨hk,hm⟩|⟨hk,c,hc,hcell⟩
 ·exact wpAny_Name (VS I.ok.kind hk hn hm fin) hd
 ·rcases hk with hk|hk
  ·exact wpAny_Name (V2 I.ok.kind hk hc hcell fin) hd
  ·exact wpAny_Name (wpAny_loadName_free I.ok.kind hk hc hcell fin hcd) hd
theorem ak{i j pos}:PE X (.Constant (.int i) j pos) (tC (.int i)):=fun _ _ _ H _ I h=>V9 ⟨.int i,H,I.tok _,⟨_,rfl⟩,h⟩
theorem Kt{b j pos}:PE X (.Constant (.bool b) j pos) (tC (.bl b)):=fun _ _ _ H _ I h=>Constant_bool ⟨.bl b,H,I,rfl,h⟩
theorem bR{j pos}:PE X (.Constant .none j pos) (tC .non):=fun _ _ _ H _ I h=>Constant_none ⟨.non,H,I,rfl,h⟩
def Gl(X:Cx)(x:Str):Prop:=X.env.kindOf x=some .globalImplicit
theorem yB{E:Value→Shared→Prop}{pins:List (Addr×Obj)}{s:Shared}{σ:St}{H:Hp}{x:Str}{u:Value}{pos:Pos}{Q:Value→Shared→Prop}(I:Inv X pins σ H s)(hg:Gl X x)(hm:X.mg x=some u)(h:Q u s)
  (hd:(x==("__debug__":Str))=false:=by decide):wpAny (model X.prog X.w) X.A (eval (.Name x pos) X.env) Q E s :=
 Calls.Name_function_global I.ok.kind hg (Calls.loadGlobal_global (by rw[I.ok.glob];exact I.mod.glob.keeps I.bk) hm h) hd
theorem gx{E:Value→Shared→Prop}{pins:List (Addr×Obj)}{s:Shared}{σ:St}{H:Hp}{x:Str}{u:Value}{pos:Pos}{Q:Value→Shared→Prop}(I:Inv X pins σ H s)(hg:Gl X x)(hm:X.mg x=none)(hv:bootBuiltins x=some u)(h:Q u s)
  (hn:x≠"__name__":=by decide)(hd:(x==("__debug__":Str))=false:=by decide):wpAny (model X.prog X.w) X.A (eval (.Name x pos) X.env) Q E s:=by
 obtain⟨mb,h1,h2⟩:=I.mod.blt
 exact Calls.Name_function_global I.ok.kind hg (Calls.loadGlobal_builtin (by rw[I.ok.glob];exact I.mod.glob.keeps I.bk) hm (by rw[I.ok.blt];exact h1.keeps I.bk) ((h2 x hn).trans hv) h) hd
theorem aL{x:Str}{v:V}{u:Value}{pos:Pos}(hg:Gl X x)(hm:X.mg x=some u)(r:RelV v u)(hd:(x==("__debug__":Str))=false:=by decide):PE X (.Name x pos) (tC v) :=
 fun _ _ _ H _ I h=>yB I hg hm ⟨v,H,I,r,h⟩ hd
variable{a b:Expr}{ta tb:TE}{pos:Pos}
def tB(t:TE):TT:=fun σ H Q=>t σ H fun x H1=>EA (fun c=>x=.bl c) (fun c=>Q c H1)
theorem bS{e:Expr}{t:TE}(h:PE X e t)(he:∀whole,isTrue e X.env whole=(do let v ←whole;standAt e.pos;holding [v] (truthy v)):=by intro _;rfl):PT X e (tB t):=by
 intro pins s σ H Q I hw
 refine isTrue_plain (cM (h pins s σ H _ I hw) fun v s1 ⟨x,H1,I1,r1,q1⟩=>?_) (he _)
 obtain⟨d,rfl,q⟩:=q1
 cases r1
 exact SD ⟨H1,I1,q⟩
variable{tA tB':TT}{rest:List Expr}
def PL(t u:TT):TT:=fun σ H Q=>t σ H fun c H1=>if c=true then u σ H1 Q else Q false H1
def QB(t u:TT):TT:=fun σ H Q=>t σ H fun c H1=>if c=true then Q true H1 else u σ H1 Q
def PU(t:TT):TT:=fun σ H Q=>t σ H fun c H1=>Q (!c) H1
theorem yG(ha:PT X a tA):PW X (.BoolOp .And [a] pos) tA:=by
 intro wh pins s σ H Q I h
 refine isTrue_and (cM (ha pins s σ H Q I h) fun c s1 e=>?_)
 cases c with
 | true=>exact isTrue_and_nil e
 | false=>exact e
theorem jw(ha:PT X a tA):PW X (.BoolOp .Or [a] pos) tA:=by
 intro wh pins s σ H Q I h
 refine isTrue_or (cM (ha pins s σ H Q I h) fun c s1 e=>?_)
 cases c with
 | false=>exact isTrue_or_nil e
 | true=>exact e
theorem DK(ha:PT X a tA)(hb:PW X (.BoolOp .And (b::rest) pos) tB'):PW X (.BoolOp .And (a::b::rest) pos) (PL tA tB'):=by
 intro wh pins s σ H Q I h
 refine isTrue_and (cM (ha pins s σ H _ I h) fun c s1 ⟨H1,I1,q1⟩=>?_)
 cases c with
 | true=>exact hb wh pins s1 σ H1 Q I1 q1
 | false=>exact⟨H1,I1,q1⟩
theorem jg(ha:PT X a tA)(hb:PW X (.BoolOp .Or (b::rest) pos) tB'):PW X (.BoolOp .Or (a::b::rest) pos) (QB tA tB'):=by
 intro wh pins s σ H Q I h
 refine isTrue_or (cM (ha pins s σ H _ I h) fun c s1 ⟨H1,I1,q1⟩=>?_)
 cases c with
 | true=>exact⟨H1,I1,q1⟩
 | false=>exact hb wh pins s1 σ H1 Q I1 q1
theorem cF(ha:PT X a tA):PT X (.UnaryOp .Not a pos) (PU tA):=by
 intro pins s σ H Q I h
 exact isTrue_not (ha pins s σ H (fun c H1=>Q (!c) H1) I h)
def Oj(ta tb:TE):TE:=fun σ H Q=>ta σ H fun x H1=>EA (fun c=>x=.bl c) (fun c=>if c=true then tb σ H1 Q else Q (.bl false) H1)
def PV(ta tb:TE):TE:=fun σ H Q=>ta σ H fun x H1=>EA (fun c=>x=.bl c) (fun c=>if c=true then Q (.bl true) H1 else tb σ H1 Q)
theorem Kw{op} {t:TE} (h:PE X a t):PE X (.BoolOp op [a] pos) t:=fun pins s σ H Q I hw=>BoolOp_one (h pins s σ H Q I hw)
theorem M6(ha:PE X a ta)(hb:PE X (.BoolOp .And (b::rest) pos) tb):PE X (.BoolOp .And (a::b::rest) pos) (Oj ta tb):=by
 intro pins s σ H Q I h
 refine BoolOp_and (cM (ha pins s σ H _ I h) fun v s1 ⟨x,H1,I1,r1,q1⟩=>?_)
 obtain⟨c,rfl,q1⟩:=q1
 cases r1
 refine SD ?_
 cases c with
 | true=>exact hb pins s1 σ H1 Q I1 q1
 | false=>exact⟨.bl false,H1,I1,rfl,q1⟩
theorem Oc(ha:PE X a ta)(hb:PE X (.BoolOp .Or (b::rest) pos) tb):PE X (.BoolOp .Or (a::b::rest) pos) (PV ta tb):=by
 intro pins s σ H Q I h
 refine BoolOp_or (cM (ha pins s σ H _ I h) fun v s1 ⟨x,H1,I1,r1,q1⟩=>?_)
 obtain⟨c,rfl,q1⟩:=q1
 cases r1
 refine SD ?_
 cases c with
 | false=>exact hb pins s1 σ H1 Q I1 q1
 | true=>exact⟨.bl true,H1,I1,rfl,q1⟩
def QA(t:TT)(ta tb:TE):TE:=fun σ H Q=>t σ H fun c H1=>if c=true then ta σ H1 Q else tb σ H1 Q
theorem gR{c:Expr}(hc:PT X c tA)(ha:PE X a ta)(hb:PE X b tb):PE X (.IfExp c a b pos) (QA tA ta tb):=by
 intro pins s σ H Q I h
 refine wpAny_IfExp (cM (hc pins s σ H _ I h) fun d s1 ⟨H1,I1,q1⟩=>?_)
 cases d with
 | true=>exact ha pins s1 σ H1 Q I1 q1
 | false=>exact hb pins s1 σ H1 Q I1 q1
end
def aF(K:Frg)(H:Hp)(a:Addr)(xs:List V):Prop :=
 Rd H a (.lst xs) ∨
  ∃(o:Obj)(its:Array Value)(n:Nat),K.lookup a=some o∧o.cls=.type "list"∧o.dict=none∧o.data=.seq its n∧its.size≤sizeLine∧Vals xs its.toList
def eQ(K:Frg)(H:Hp)(a:Addr)(xs:List V):Prop :=
 Rd H a (.tup xs) ∨
  ∃(o:Obj)(its:Array Value)(n:Nat),K.lookup a=some o∧o.cls=.type "tuple"∧o.data=.seq its n∧its.size≤sizeLine∧Vals xs its.toList
def O0:Value→Option V
 | .none=>some .non
 | .bool b=>some (.bl b)
 | .int i _=>some (.int i)
 | .str x _=>some (.str x)
 | .bytes b _=>some (.byt b)
 | .float b _=>some (.flt b)
 | .ref a=>some (.ref a)
 | .type n=>some (.ty n)
 | _=>none
theorem RelV.abs{x:V}{u:Value}(r:RelV x u):O0 u=some x:=by
 cases x with
 | non=>cases r;rfl
 | bl _=>cases r;rfl
 | int _=>obtain⟨t,rfl⟩:=r;rfl
 | str _=>obtain⟨t,rfl⟩:=r;rfl
 | byt _=>obtain⟨t,rfl⟩:=r;rfl
 | flt _=>obtain⟨t,rfl⟩:=r;rfl
 | ref _=>cases r;rfl
 | ty _=>cases r;rfl
theorem RelV.inj{x y:V}{u:Value}(r:RelV x u)(q:RelV y u):x=y:=Rb (r.abs.symm.trans q.abs)
theorem Vals.inj:∀{xs ys:List V}{us:List Value},Vals xs us→Vals ys us→xs=ys
 | _,_,_,.nil,.nil=>rfl
 | _,_,_,.cons r t,.cons r' t'=>by rw[r.inj r',Vals.inj t t']
section
variable{X:Cx}{pins:List (Addr×Obj)}{σ:St}{H:Hp}{s:Shared}{a:Addr}{xs ys:List V}
theorem aF.of{K:Frg}(h:H a=some (.lst xs)):aF K H a xs:=.inl (.inl h)
theorem eQ.of{K:Frg}(h:H a=some (.tup xs)):eQ K H a xs:=.inl (.inl h)
theorem Inv.list(I:Inv X pins σ H s)(h:aF X.K H a xs):∃its:List Value,Vals xs its∧PlainL s.heap a its.toArray∧xs.length≤sizeLine:=by
 rcases h with h|⟨o,its,n,hk,hc,hd,hs,hz,r⟩
 ·obtain⟨z,its,n,r,e⟩:=h.ok I.cp
  exact⟨its,r,⟨_,n,e,rfl,rfl,rfl⟩,z⟩
 ·refine⟨its.toList,r,⟨o,n,I.FN a o hk,hc,hd,by simpa using hs⟩,?_⟩
  have e:=r.length
  simp only[Uc]at e
  omega
theorem Inv.tuple(I:Inv X pins σ H s)(h:eQ X.K H a xs):∃its:List Value,Vals xs its∧IsTup s.heap a its.toArray∧xs.length≤sizeLine:=by
 rcases h with h|⟨o,its,n,hk,hc,hs,hz,r⟩
 ·obtain⟨z,its,r,p⟩:=h.ok I.cp
  exact⟨its,r,p,z⟩
 ·refine⟨its.toList,r,⟨o,I.FN a o hk,hc,n,by simpa using hs⟩,?_⟩
  have e:=r.length
  simp only[Uc]at e
  omega
theorem Inv.fT(I:Inv X pins σ H s)(h:aF X.K H a xs)(h':aF X.K H a ys):xs=ys:=by
 obtain⟨its,r,⟨o,n,e,_,_,d⟩,_⟩:=I.list h
 obtain⟨its',r',⟨o',n',e',_,_,d'⟩,_⟩:=I.list h'
 rw[e]at e';cases e'
 rw[d]at d'
 injection d' with d1 _
 have:its=its':=by simpa using congrArg Wq d1
 subst this
 exact r.inj r'
theorem Inv.Cn(I:Inv X pins σ H s)(h:eQ X.K H a xs)(h':eQ X.K H a ys):xs=ys:=by
 obtain⟨its,r,⟨o,e,_,n,d⟩,_⟩:=I.tuple h
 obtain⟨its',r',⟨o',e',_,n',d'⟩,_⟩:=I.tuple h'
 rw[e]at e';cases e'
 rw[d]at d'
 injection d' with d1 _
 have:its=its':=by simpa using congrArg Wq d1
 subst this
 exact r.inj r'
end
abbrev Cx.BR(X:Cx)(E:Value→Shared→Prop):Cx:={ X with xe:=E}
abbrev Cx.Mw(X:Cx):Cx:=X.BR fun _ _=>False
theorem Cx.Ok.BR{X:Cx}(ok:X.Ok)(E:Value→Shared→Prop):(X.BR E).Ok :=
 ⟨ok.mod,ok.kind,ok.glob,ok.blt,ok.above,ok.inj,ok.has,ok.NO,ok.hd,ok.frames,ok.OH,ok.OE,ok.bs,ok.Lw,ok.Kn,ok.JT,ok.yf,ok.MM⟩
theorem Cx.Ok.qC{X:Cx}{E:Value→Shared→Prop}(ok:(X.BR E).Ok):X.Ok :=
 ⟨ok.mod,ok.kind,ok.glob,ok.blt,ok.above,ok.inj,ok.has,ok.NO,ok.hd,ok.frames,ok.OH,ok.OE,ok.bs,ok.Lw,ok.Kn,ok.JT,ok.yf,ok.MM⟩
section
variable{X:Cx}{pins:List (Addr×Obj)}{σ:St}{H:Hp}{s:Shared}{E:Value→Shared→Prop}
theorem Inv.BR(I:Inv X pins σ H s)(E:Value→Shared→Prop):Inv (X.BR E) pins σ H s:=⟨I.ok.BR E,I.os,I.bare,I.base,I.loc,I.cell,I.free,I.pE,I.pin,I.cp,I.len⟩
theorem Inv.qC(I:Inv (X.BR E) pins σ H s):Inv X pins σ H s:=⟨I.ok.qC,I.os,I.bare,I.base,I.loc,I.cell,I.free,I.pE,I.pin,I.cp,I.len⟩
theorem SP.qC{D:Ends}{f:Flow}{s':Shared}(h:SP (X.BR E) pins D f s'):SP X pins D f s':=by
 cases f with
 | next=>obtain⟨σ',H',I,q⟩:=h;exact⟨σ',H',I.qC,q⟩
 | brk=>obtain⟨σ',H',I,q⟩:=h;exact⟨σ',H',I.qC,q⟩
 | cont=>obtain⟨σ',H',I,q⟩:=h;exact⟨σ',H',I.qC,q⟩
 | ret u=>obtain⟨v,σ',H',I,r,q⟩:=h;exact⟨v,σ',H',I.qC,r,q⟩
theorem Ij.Mw{st:List Stmt}{t:TS}(h:Ij X.Mw st t):Ij X st t:=fun pins s σ H D I hw =>
 wpAny_mono (h pins s σ H D (I.BR _) hw) (fun _ _ q=>q.qC) fun _ _ z=>False.elim z
end
section
variable{X:Cx}{st:Stmt}{rest:List Stmt}{t u:TS}{e:Expr}{te:TE}{pos:Pos}
def Ou:TS:=fun D σ H=>D.nx σ H
def Ov(t u:TS):TS:=fun D σ H=>t { D with nx:=u D} σ H
theorem aP:Ij X [] Ou:=fun _ _ σ H _ I h=>UP ⟨σ,H,I,h⟩
theorem ab(h1:PS X st t)(h2:Ij X rest u):Ij X (st::rest) (Ov t u):=by
 intro pins s σ H D I h
 refine Wz (cM (h1 pins s σ H { D with nx:=u D} I h) fun f s1 q=>?_)
 cases f with
 | next =>
  obtain⟨σ',H',I',q⟩:=q
  exact h2 pins s1 σ' H' D I' q
 | ret v=>exact q
 | brk=>exact q
 | cont=>exact q
theorem ag(h1:PS X st t):Ij X [st] t:=by
 intro pins s σ H D I h
 refine Wz (cM (h1 pins s σ H D I h) fun f s1 q=>?_)
 cases f with
 | next=>exact UP q
 | ret v=>exact q
 | brk=>exact q
 | cont=>exact q
theorem Inv.quiet{pins:List (Addr×Obj)}{σ:St}{H:Hp}{s:Shared}(I:Inv X pins σ H s):interactive X.env=false:=by simp[interactive,I.ok.kind]
def Om(te:TE):TS:=fun D σ H=>te σ H fun _ H1=>D.nx σ H1
theorem aX(he:PE X e te)(hs:swapsWith e none pos.line X.env=pure false:=by rfl):PS X (.Expr e pos) (Om te):=by
 intro pins s σ H D I h
 exact wpAny_Expr_any (cM (he pins s σ H _ I h) fun v s1 ⟨x,H1,I1,r1,q1⟩=>⟨σ,H1,I1,q1⟩) I.quiet hs
def PX(te:TE):TS:=fun D σ H=>te σ H D.rt
theorem au(he:PE X e te):PS X (.Return (some e) pos) (PX te):=by
 intro pins s σ H D I h
 exact wpAny_Return_some (cM (he pins s σ H _ I h) fun v s1 ⟨x,H1,I1,r1,q1⟩=>⟨x,σ,H1,I1,r1,q1⟩)
def PQ(c:TT)(t u:TS):TS:=fun D σ H=>c σ H fun b H1=>if b=true then t D σ H1 else u D σ H1
theorem bf{c:Expr}{a b:List Stmt}{tc:TT}(hc:PT X c tc)(ha:Ij X a t)(hb:Ij X b u):PS X (.If c a b pos) (PQ tc t u):=by
 intro pins s σ H D I h
 refine wpAny_If (cM (hc pins s σ H _ I h) fun d s1 ⟨H1,I1,q1⟩=>?_)
 cases d with
 | true=>exact ha pins s1 σ H1 D I1 q1
 | false=>exact hb pins s1 σ H1 D I1 q1
end
abbrev TG:=V→St→Hp→(St→Hp→Prop)→Prop
abbrev Ms:=List V→St→Hp→(St→Hp→Prop)→Prop
def PG(X:Cx)(target:Expr)(t:TG):Prop :=
 ∀(pins:List (Addr×Obj))(s:Shared)(σ:St)(H:Hp)(v:V)(u:Value)(Q:St→Hp→Prop),Inv X pins σ H s→RelV v u→t v σ H Q →
  wpAny (model X.prog X.w) X.A (assign target X.env u) (fun _ s'=>∃σ' H',Inv X pins σ' H' s'∧Q σ' H') X.xe s
def NJ(X:Cx)(ts:List Expr)(t:Ms):Prop :=
 ∀(pins:List (Addr×Obj))(s:Shared)(σ:St)(H:Hp)(vs:List V)(us:List Value)(Q:St→Hp→Prop),Inv X pins σ H s→Vals vs us→t vs σ H Q →
  wpAny (model X.prog X.w) X.A (assignInOrder ((assignEach ts X.env).map (·.2)) us) (fun _ s'=>∃σ' H',Inv X pins σ' H' s'∧Q σ' H') X.xe s
abbrev MB:=V→V→V→Hp→(Hp→Prop)→Prop
def NK(X:Cx)(t:MB):Prop :=
 ∀(pins:List (Addr×Obj))(s:Shared)(σ:St)(H:Hp)(o i v:V)(ov iv u:Value)(Q:Hp→Prop),Inv X pins σ H s→RelV o ov→RelV i iv→RelV v u→t o i v H Q →
  wpAny (model X.prog X.w) X.A (setItem ov iv u) (fun _ s'=>∃H',Inv X pins σ H' s'∧Q H') X.xe s
abbrev OC:=V→V→Hp→VK→Prop
def OY(X:Cx)(op:Operator)(t:OC):Prop :=
 ∀(pins:List (Addr×Obj))(s:Shared)(σ:St)(H:Hp)(x y:V)(v u:Value)(Q:VK),Inv X pins σ H s→RelV x v→RelV y u→t x y H Q →
  wpAny (model X.prog X.w) X.A (inplaceOp op v u) (EP X pins σ Q) X.xe s
section
variable{X:Cx}{pos:Pos}
def kK(i:Nat):TG:=fun v σ H Q=>Q (σ.set i (some v)) H
theorem aD{i:Nat}{x:Str}(hN:X.N.Nodup)(hi:X.N[i]?=some x)(hx:Loc X.env.scope x)(hf:X.fn x=true∨X.env.scope.names.lookup x=some .local:=by first|exact .inl rfl|exact .inr rfl|assumption):PG X (.Name x pos) (kK i):=by
 intro pins s σ H v u Q I r h
 exact Wr (Av I hN hi hx r (fun s' I'=>⟨_,H,I',h⟩) hf)
def O4:Ms:=fun vs σ H Q=>vs=[]∧Q σ H
def NU(t:TG)(u:Ms):Ms:=fun vs σ H Q=>E2 fun v r=>(vs=v::r)∧(t v σ H fun σ' H'=>u r σ' H' Q)
theorem dw:NJ X [] O4:=by
 intro pins s σ H vs us Q I r h
 obtain⟨e,h⟩:=h
 subst e
 cases r
 exact assignInOrder_nil ⟨σ,H,I,h⟩
theorem aV{e:Expr}{es:List Expr}{t:TG}{u:Ms}(h1:PG X e t)(h2:NJ X es u)
  (hs:(assignEach (e::es) X.env).map (·.2)=assign e X.env::(assignEach es X.env).map (·.2):=by rfl):NJ X (e::es) (NU t u):=by
 intro pins s σ H vs us Q I r h
 obtain⟨v,vr,e1,h⟩:=h
 subst e1
 cases r with
 | cons r rr =>
  rw[hs]
  refine assignInOrder_cons (cM (h1 pins s σ H _ _ _ I r h) fun _ s1 ⟨σ1,H1,I1,q1⟩=>?_)
  exact h2 pins s1 σ1 H1 _ _ Q I1 rr q1
def NV(K:Frg)(n:Nat)(t:Ms):TG:=fun v σ H Q=>E2 fun a xs=>A4 (v=.ref a) (eQ K H a xs) (xs.length=n) (t xs σ H Q)
theorem M7{es:List Expr}{k:Nat}{t:Ms}{n:Nat}(hc:X.calm=true)(h:NJ X es t)
  (hn:(assignEach es X.env).length=n:=by rfl)(hst:(assignEach es X.env).findIdx? (·.1)=none:=by rfl):PG X (.Tuple es k pos) (NV X.K n t):=by
 intro pins s σ H v u Q I r hw
 obtain⟨a,xs,e1,hq,hl,hw⟩:=hw
 subst e1
 cases r
 obtain⟨its,rv,ht,hz⟩:=I.tuple hq
 refine assign_Tuple_tuple (I.ok.hd hc) ht (by simp[hn,←hl,rv.length]) hst fun h' hx=>?_
 have I1:Inv X pins σ H {s with heap:=h'}:=I.kept (t':=s.toks) fun b o e=>hx b o (Rj (Heap.lt_size e)) e
 exact h pins _ σ H xs _ Q I1 (by simpa using rv) hw
def O5(to ti:TE)(t:MB):TG:=fun v σ H Q=>to σ H fun o H1=>ti σ H1 fun i H2=>t o i v H2 fun H3=>Q σ H3
theorem DG{o i:Expr}{to ti:TE}{t:MB}(ho:PE X o to)(hi:PE X i ti)(hs:NK X t)
  (ha:∀v,assign (.Subscript o i pos) X.env v=(do
   let ov ←holding [v] (eval o X.env)
   let iv ←holding [v,ov] (eval i X.env)
   standAt pos
   holding [v,ov,iv] (setItem ov iv v)
   release [v,ov,iv] []):=by intro _;rfl):PG X (.Subscript o i pos) (O5 to ti t):=by
 intro pins s σ H v u Q I r h
 rw[ha]
 refine wpAny_bind (Ue (cM (ho pins s σ H _ I h) fun ov s1 ⟨x,H1,I1,r1,q1⟩=>?_))
 refine wpAny_bind (Ue (cM (hi pins s1 σ H1 _ I1 q1) fun iv s2 ⟨y,H2,I2,r2,q2⟩=>?_))
 refine wpAny_bind (Vf (wpAny_bind (Ue (cM (hs pins s2 σ H2 x y v ov iv u _ I2 r1 r2 r q2) fun _ s3 ⟨H3,I3,q3⟩=>?_))))
 exact wpAny_release ⟨σ,H3,I3,q3⟩
def Ni(te:TE)(g:TG):TS:=fun D σ H=>te σ H fun x H1=>g x σ H1 D.nx
theorem DJ{tg e:Expr}{te:TE}{g:TG}(he:PE X e te)(hg:PG X tg g)(hs:swapsWithSole [tg] e pos.line X.env=pure false:=by rfl)(hw:swappedStores [tg] e X.env=pure none:=by rfl)
  (h1:(assignEach [tg] X.env).map (·.2)=[assign tg X.env]:=by rfl):PS X (.Assign [tg] e pos) (Ni te g):=by
 intro pins s σ H D I h
 refine wpAny_Assign_stores (cM (he pins s σ H _ I h) fun v s1 ⟨x,H1,I1,r1,q1⟩=>?_) hs hw
 rw[h1]
 exact cM (hg pins s1 σ H1 x v _ I1 r1 q1) fun _ s2 q=>q
theorem ax{i:Nat}{x:Str}{e:Expr}{te:TE}{pos':Pos}(hN:X.N.Nodup)(hi:X.N[i]?=some x)(hx:Loc X.env.scope x)(he:PE X e te)(hs:swapsWith e (some (.Name x pos')) pos.line X.env=pure false:=by rfl)(hf:X.fn x=true∨X.env.scope.names.lookup x=some .local:=by first|exact .inl rfl|exact .inr rfl|assumption) :
  PS X (.Assign [.Name x pos'] e pos) (Ni te (kK i)):=by
 intro pins s σ H D I h
 refine wpAny_Assign_Name (cM (he pins s σ H _ I h) fun v s1 ⟨y,H1,I1,r1,q1⟩=>?_) hs
 exact Av I1 hN hi hx r1 (fun s2 I2=>⟨_,H1,I2,q1⟩) hf
def PM(i:Nat)(te:TE)(ti:OC):TS:=fun D σ H=>EA (fun x=>σ[i]?=some (some x)) (fun x=>te σ H fun y H1=>ti x y H1 fun z H2=>D.nx (σ.set i (some z)) H2)
theorem zT{i:Nat}{x:Str}{e:Expr}{te:TE}{op:Operator}{ti:OC}{pos':Pos}(hN:X.N.Nodup)(hi:X.N[i]?=some x)(hx:Loc X.env.scope x)(he:PE X e te)(ho:OY X op ti)(hf:X.fn x=true∨X.env.scope.names.lookup x=some .local:=by first|exact .inl rfl|exact .inr rfl|assumption) :
  PS X (.AugAssign (.Name x pos') op e pos) (PM i te ti):=by
 intro pins s σ H D I h
 obtain⟨v,e1,h⟩:=h
 obtain⟨m,hn,hl⟩:=I.loc
 have vis:MC X.env.scope x:=by rcases hx with k|k;exact .inl k;exact .inr (.inl k)
 obtain⟨u,r,l⟩:=hl i x v hi e1 vis
 refine wpAny_AugAssign_Name ?_
 have go:wpAny (model X.prog X.w) X.A (eval e X.env) (fun w s₂=>wpAny (model X.prog X.w) X.A (inplaceOp op u w) (fun r s₃=>wpAny (model X.prog X.w) X.A (storeName X.env x r) (fun _=>SP X pins D .next) X.xe s₃) X.xe s₂) X.xe s:=by
  refine cM (he pins s σ H _ I h) fun w s1 ⟨y,H1,I1,r1,q1⟩=>?_
  refine cM (ho pins s1 σ H1 v y u w _ I1 r r1 q1) fun z s2 ⟨zv,H2,I2,r2,q2⟩=>?_
  exact Av I2 hN hi hx r2 (fun s3 I3=>⟨_,H2,I3,q2⟩) hf
 rcases l with⟨hk,hm⟩|⟨hk,c,hc,hcell⟩
 ·exact VS I.ok.kind hk hn hm go
 ·rcases hk with hk|hk
  ·exact V2 I.ok.kind hk hc hcell go
  ·rcases hx with k|k
   ·have:X.env.scope.names.lookup x=some .free:=hk
    rw[k]at this;cases this
   ·have:X.env.scope.names.lookup x=some .free:=hk
    rw[k]at this;cases this
def Qo(f:Int→Int→Int):OC:=fun x y H Q=>E2 fun i j=>A3 (x=.int i) (y=.int j) (Q (.int (f i j)) H)
theorem Di:OY X .Add (Qo fun i j=>i+j):=by
 intro pins s σ H x y v u Q I r1 r2 h
 obtain⟨i,j,e1,e2,q⟩:=h
 subst e1;subst e2
 obtain⟨t,rfl⟩:=r1
 obtain⟨t',rfl⟩:=r2
 exact iadd_int ⟨.int _,H,I.tok _,⟨_,rfl⟩,q⟩
def Nk(c:TT)(tb:TS):TS:=fun D σ H=>∃W:Nat→St→Hp→Prop,(∃m,W m σ H)∧∀m σ H,W m σ H →
 c σ H fun b H1=>if b=true then ∃N:St→Hp→Prop,(∀σ' H',N σ' H'→∃m',m'<m∧W m' σ' H')∧tb { D with nx:=N,ct:=N,bk:=D.nx} σ H1 else D.nx σ H1
theorem zU{c:Expr}{body:List Stmt}{tc:TT}{tb:TS}(hp:PassesOwn (model X.prog X.w) X.A X.env X.xe)(hc:PT X c tc)(hb:Ij X body tb):PS X (.While c body [] pos) (Nk tc tb):=by
 intro pins s σ H D I h
 obtain⟨W,⟨m0,w0⟩,turn⟩:=h
 refine wpAny_While (codeAny_whileLoop (fun n s'=>∃σ' H',Inv X pins σ' H' s'∧W n σ' H') ?_ m0 ⟨σ,H,I,w0⟩)
 rintro n s1 ⟨σ1,H1,I1,w1⟩
 refine To hp (cM (hc pins s1 σ1 H1 _ I1 (turn n σ1 H1 w1)) fun b s2 ⟨H2,I2,q2⟩=>?_)
 cases b with
 | true =>
  obtain⟨N,hN,q2⟩:=q2
  rw[if_pos rfl]
  refine To hp (cM (hb pins s2 σ1 H2 _ I2 q2) fun f s3 q3=>?_)
  cases f with
  | next =>
   obtain⟨σ3,H3,I3,n3⟩:=q3
   obtain⟨m',hm,w3⟩:=hN σ3 H3 n3
   exact⟨m',hm,σ3,H3,I3,w3⟩
  | cont =>
   obtain⟨σ3,H3,I3,n3⟩:=q3
   obtain⟨m',hm,w3⟩:=hN σ3 H3 n3
   exact⟨m',hm,σ3,H3,I3,w3⟩
  | brk=>exact q3
  | ret v=>exact q3
 | false =>
  rw[if_neg Ra]
  exact UP ⟨σ1,H2,I2,q2⟩
end
structure It where
 go:Nat→Hp→Prop
 Lh:Nat→Hp→V→Hp→Prop
 stop:Nat→Hp→Prop
def yb(X:Cx)(pins:List (Addr×Obj))(H:Hp)(b:Addr):Prop :=
 H b=none∧b≠X.env.locals∧b∉X.fs∧(b∈X.ex∨X.Cj.heap.objs.size≤b)∧(∀x c,X.env.cells.lookup x=some c→c≠b)∧∀p∈X.pn++pins,p.1≠b
theorem Inv.AQ{X:Cx}{pins:List (Addr×Obj)}{σ:St}{H H':Hp}{s:Shared}{b:Addr}(I:Inv X pins σ H s)(hb:s.heap.objs.size≤b)(hn:H' b=none):yb X pins H' b:=by
 refine⟨hn,RW (QS I.lt hb),I.Po hb,.inr (QK I.sz hb),fun x c e z=>?_,fun p hp z=>?_⟩
 ·obtain⟨v,q⟩:=I.cell x c e
  exact absurd (QS q.lt (by rw[z];exact hb)) (Sg _)
 ·exact absurd (QS (Heap.lt_size (I.pin p hp).1) (by rw[z];exact hb)) (Sg _)
structure Turn(P:Program)(w:World)(K:Frg)(tg:Expr)(J:It)(fp:List Addr)(it:Addr)(tn:Nat→Heap→Prop):Prop where
 mem:it∈fp
 obj:∀i h,tn i h→∀b∈fp,∃o,h.get? b=some o∧∀v,o.data≠.cell v
 keep:∀i h h',tn i h→(∀b∈fp,∀o,h.get? b=some o→h'.get? b=some o)→tn i h'
 item:∀(X:Cx),X.prog=P→X.w=w→X.K=K→X.calm=true→∀(i:Nat)(pins:List (Addr×Obj))(s:Shared)(σ:St)(H:Hp)(E:Value→Shared→Prop),Inv X pins σ H s→(∀b∈fp,yb X pins H b)→tn i s.heap→J.go i H →
  wpAny (model P w) X.A (pyNext (.ref it)) (fun r s1=>∃u,r=some u ∧
   wpAny (model P w) X.A (letOwnedTupleGo tg (.ref it) u) (fun _ s2=>∃x H',Inv X pins σ H' s2∧RelV x u∧J.Lh i H x H'∧tn (i+1) s2.heap∧∀b∈fp,H' b=none) E s1) E s
 done:∀(X:Cx),X.prog=P→X.w=w→X.K=K→X.calm=true→∀(i:Nat)(pins:List (Addr×Obj))(s:Shared)(σ:St)(H:Hp)(E:Value→Shared→Prop),Inv X pins σ H s→(∀b∈fp,yb X pins H b)→tn i s.heap→J.stop i H →
  wpAny (model P w) X.A (pyNext (.ref it)) (fun r s1=>r=none∧Inv X pins σ H s1) E s
 self:∀(A:Around)(i:Nat)(s:Shared)(Q:Value→Shared→Prop)(E:Value→Shared→Prop),tn i s.heap→Q (.ref it) s→wpAny (model P w) A (pyIter (.ref it)) Q E s
abbrev TI:=St→Hp→(It→Hp→Prop)→Prop
def OX(X:Cx)(pins:List (Addr×Obj))(σ:St)(tg:Expr)(R:It→Hp→Prop)(itv:Value)(s2:Shared):Prop :=
 ∃(it:Addr)(fp:List Addr)(tn:Nat→Heap→Prop)(J:It)(H':Hp),itv=.ref it∧Inv X pins σ H' s2∧Turn X.prog X.w X.K tg J fp it tn∧tn 0 s2.heap∧(∀b∈fp,yb X pins H' b)∧R J H'
def PI(X:Cx)(tg iter:Expr)(wi:TI):Prop :=
 ∀(pins:List (Addr×Obj))(s:Shared)(σ:St)(H:Hp)(R:It→Hp→Prop),Inv X pins σ H s→wi σ H R →
  wpAny (model X.prog X.w) X.A (eval iter X.env) (fun v s1=>wpAny (model X.prog X.w) X.A (pyIter v) (OX X pins σ tg R) X.xe s1) X.xe s
theorem B2{M:Model}{A:Around}{E:Value→Shared→Prop}{s:Shared}{tg:Expr}{it:Addr}{u:Value}{o:Obj}{n:String}{vs:Array Value}{Q:Unit→Shared→Prop}(ho:s.heap.get? it=some o)(hc:o.cls=.type n)(hd:o.data=.fields vs)
  (hn:["enumerate","zip","dict_itemiterator","dict_reverseitemiterator","odict_iterator","itertools.zip_longest","itertools.pairwise"].contains n=false)(hQ:Q () s):wpAny M A (letOwnedTupleGo tg (.ref it) u) Q E s:=by
 unfold letOwnedTupleGo
 cases tg<;>first
  | exact wpAny_pure hQ
  | (cases u<;>first
    | exact wpAny_pure hQ
    | (refine wpAny_bind (wpAny_load ho ?_)
       rw[hc,hd]
       show wpAny M A (if (["enumerate","zip","dict_itemiterator","dict_reverseitemiterator","odict_iterator","itertools.zip_longest","itertools.pairwise"].contains n&&vs[0]?==some (rawInt _))=true then _ else _) Q E s
       rw[if_neg (by intro h;rw[hn,T4]at h;cases h)]
       exact wpAny_pure hQ))
def OR(K:Frg)(a:Addr):It :=
 ⟨fun i H=>∃xs x,aF K H a xs∧xs[i]?=some x,fun i H x H'=>H'=H∧∀xs,aF K H a xs→xs[i]?=some x,fun i H=>∃xs,aF K H a xs∧xs.length≤i⟩
def OT(K:Frg)(a:Addr):It :=
 ⟨fun i H=>∃xs x,eQ K H a xs∧xs[i]?=some x,fun i H x H'=>H'=H∧∀xs,eQ K H a xs→xs[i]?=some x,fun i H=>∃xs,eQ K H a xs∧xs.length≤i⟩
def NG(lo:Int)(n:Nat):It:=⟨fun i _=>i<n,fun i H x H'=>H'=H∧x=.int (lo+i),fun i _=>n≤i⟩
theorem Js{P:Program}{w:World}{K:Frg}{tg:Expr}(a it:Addr):Turn P w K tg (OR K a) [it] it (fun i h=>h.IsListIter it a i) where
 mem:=by simp
 obj:=fun i h st b hb=>by
  have e:b=it:=by simpa using hb
  subst e
  obtain⟨o,e,c,d⟩:=st
  exact⟨o,e,fun v z=>by rw[d]at z;cases z⟩
 keep:=fun i h h' st k=>st.at fun o e=>k it (by simp) o e
 item:=by
  intro X hP hw hK hc i pins s σ H E I hf st hg
  subst hP hw hK
  obtain⟨xs,x,hq,hx⟩:=hg
  obtain⟨its,rv,p,hz⟩:=I.list hq
  obtain⟨u,hu,ru⟩:=rv.get hx
  obtain⟨f0,f1,f2,f3,f4,f5⟩:=hf it (by simp)
  refine wpAny_pyNext_list_item st p.isList (x:=u) (by simpa using hu) fun h' st' sb=>?_
  have I1:Inv X pins σ H {s with heap:=h'}:=I.turned (t':=s.toks) (fun b o hb e=>(sb.2 b hb).trans e) f0 f1 f3 f4 f5
  obtain⟨o,e,c,d⟩:=id st'
  exact⟨u,rfl,B2 (s:={s with heap:=h'}) e c d (by decide) ⟨x,H,I1,ru,⟨rfl,fun ys hy=>by rw[I.fT hy hq];exact hx⟩,st',fun b hb=>(hf b hb).1⟩⟩
 done:=by
  intro X hP hw hK hc i pins s σ H E I hf st hg
  subst hP hw hK
  obtain⟨xs,hq,hx⟩:=hg
  obtain⟨its,rv,p,hz⟩:=I.list hq
  obtain⟨f0,f1,f2,f3,f4,f5⟩:=hf it (by simp)
  have hl:=rv.length
  exact wpAny_pyNext_list_end (I.ok.hd hc) st p.isList (by simp;omega) fun h' eb=>⟨rfl,I.turned (t':=s.toks) (fun b o hb e=>eb b o hb e) f0 f1 f3 f4 f5⟩
 self:=fun _ _ _ _ _ st h=>wpAny_pyIter_listiter st h
theorem Hl{P:Program}{w:World}{K:Frg}{tg:Expr}(a it:Addr):Turn P w K tg (OT K a) [it] it (fun i h=>h.IsTupleIter it a i) where
 mem:=by simp
 obj:=fun i h st b hb=>by
  have e:b=it:=by simpa using hb
  subst e
  obtain⟨o,e,c,d⟩:=st
  exact⟨o,e,fun v z=>by rw[d]at z;cases z⟩
 keep:=fun i h h' st k=>st.at fun o e=>k it (by simp) o e
 item:=by
  intro X hP hw hK hc i pins s σ H E I hf st hg
  subst hP hw hK
  obtain⟨xs,x,hq,hx⟩:=hg
  obtain⟨its,rv,p,hz⟩:=I.tuple hq
  obtain⟨u,hu,ru⟩:=rv.get hx
  obtain⟨f0,f1,f2,f3,f4,f5⟩:=hf it (by simp)
  refine wpAny_pyNext_tuple_item st (show s.heap.IsTuple a its.toArray from p) (x:=u) (by simpa using hu) fun h' st' sb=>?_
  have I1:Inv X pins σ H {s with heap:=h'}:=I.turned (t':=s.toks) (fun b o hb e=>(sb.2 b hb).trans e) f0 f1 f3 f4 f5
  obtain⟨o,e,c,d⟩:=id st'
  exact⟨u,rfl,B2 (s:={s with heap:=h'}) e c d (by decide) ⟨x,H,I1,ru,⟨rfl,fun ys hy=>by rw[I.Cn hy hq];exact hx⟩,st',fun b hb=>(hf b hb).1⟩⟩
 done:=by
  intro X hP hw hK hc i pins s σ H E I hf st hg
  subst hP hw hK
  obtain⟨xs,hq,hx⟩:=hg
  obtain⟨its,rv,p,hz⟩:=I.tuple hq
  obtain⟨f0,f1,f2,f3,f4,f5⟩:=hf it (by simp)
  have hl:=rv.length
  exact wpAny_pyNext_tuple_end (I.ok.hd hc) st (show s.heap.IsTuple a its.toArray from p) (by simp;omega) fun h' eb=>⟨rfl,I.turned (t':=s.toks) (fun b o hb e=>eb b o hb e) f0 f1 f3 f4 f5⟩
 self:=fun _ _ _ _ _ st h=>wpAny_pyIter_tupleiter st h
theorem Hk{P:Program}{w:World}{K:Frg}{tg:Expr}(it:Addr)(lo:Int)(n:Nat):Turn P w K tg (NG lo n) [it] it (fun i h=>IsRangeIter h it (lo+(i:Nat)*1) ((n:Int)-(i:Nat)) 1) where
 mem:=by simp
 obj:=fun i h st b hb=>by
  have e:b=it:=by simpa using hb
  subst e
  exact⟨_,st,fun v z=>by
   have z':Data.fields _=Data.cell v:=z
   cases z'⟩
 keep:=fun i h h' st k=>k it (by simp) _ st
 item:=by
  intro X hP hw hK hc i pins s σ H E I hf st hg
  subst hP hw hK
  obtain⟨f0,f1,f2,f3,f4,f5⟩:=hf it (by simp)
  have W:=Walks.range (prog:=X.prog) (w:=X.w) (I.ok.hd hc) it lo 1 n
  refine W.item i s _ _ hg st fun v h' tk hv st' kk=>?_
  obtain⟨t,rfl⟩:=hv
  have I1:Inv X pins σ H {s with heap:=h',toks:=tk}:=I.turned (fun b o hb e=>kk b o (by simpa using hb) e) f0 f1 f3 f4 f5
  refine⟨_,rfl,B2 (s:={s with heap:=h',toks:=tk}) (n:="range_iterator") st' rfl rfl (by decide) ⟨.int (lo+i),H,I1,⟨t,?_⟩,⟨rfl,rfl⟩,st',fun b hb=>(hf b hb).1⟩⟩
  rw[Int.mul_one]
 done:=by
  intro X hP hw hK hc i pins s σ H E I hf st hg
  subst hP hw hK
  obtain⟨f0,f1,f2,f3,f4,f5⟩:=hf it (by simp)
  exact Vq (I.ok.hd hc) st (by have:n≤i:=hg;omega) fun h' eb=>⟨rfl,I.turned (t':=s.toks) (fun b o hb e=>eb b o hb e) f0 f1 f3 f4 f5⟩
 self:=fun _ _ _ _ _ st h=>Vr st h
section
variable{X:Cx}{tg:Expr}
def NX(K:Frg)(tl:TE):TI:=fun σ H R=>tl σ H fun x H1=>∃a,A3 (x=.ref a) ((∃xs,aF K H1 a xs)) (R (OR K a) H1)
def O8(K:Frg)(tl:TE):TI:=fun σ H R=>tl σ H fun x H1=>∃a,A3 (x=.ref a) ((∃xs,eQ K H1 a xs)) (R (OT K a) H1)
theorem bu{l:Expr}{tl:TE}(hl:PE X l tl):PI X tg l (NX X.K tl):=by
 intro pins s σ H R I h
 refine cM (hl pins s σ H _ I h) fun v s1 ⟨x,H1,I1,r1,q1⟩=>?_
 obtain⟨a,e,⟨xs,hq⟩,q⟩:=q1
 subst e
 cases r1
 obtain⟨its,rv,p,hz⟩:=I1.list hq
 refine Tq p.isList ?_
 refine⟨s1.heap.objs.size,[s1.heap.objs.size],_,_,H1,rfl,I1.kept (t':=s1.toks) fun b o e=>Heap.get?_push_of_some _ e,Js a _,⟨_,Heap.get?_push_size _ rfl,rfl,rfl⟩,fun b hb=>?_,q⟩
 have e:b=s1.heap.objs.size:=by simpa using hb
 subst e
 exact I1.AQ (QP _) (I1.cp.fresh (QP _))
theorem M9{l:Expr}{tl:TE}(hl:PE X l tl):PI X tg l (O8 X.K tl):=by
 intro pins s σ H R I h
 refine cM (hl pins s σ H _ I h) fun v s1 ⟨x,H1,I1,r1,q1⟩=>?_
 obtain⟨a,e,⟨xs,hq⟩,q⟩:=q1
 subst e
 cases r1
 obtain⟨its,rv,p,hz⟩:=I1.tuple hq
 refine V8 (show s1.heap.IsTuple a its.toArray from p) ?_
 refine⟨s1.heap.objs.size,[s1.heap.objs.size],_,_,H1,rfl,I1.kept (t':=s1.toks) fun b o e=>Heap.get?_push_of_some _ e,Hl a _,⟨_,Heap.get?_push_size _ rfl,rfl,rfl⟩,fun b hb=>?_,q⟩
 have e:b=s1.heap.objs.size:=by simpa using hb
 subst e
 exact I1.AQ (QP _) (I1.cp.fresh (QP _))
theorem Fe{pins:List (Addr×Obj)}{σ:St}{H:Hp}{s:Shared}{R:It→Hp→Prop}{E:Value→Shared→Prop}{lo hi:Int}{t u v:Tok}{tk:Nat}(I:Inv X pins σ H s)(h1:-(2^62)≤lo)(h2:lo<2^62)(h3:-(2^62)≤hi)(h4:hi<2^62)
  (q:R (NG lo (hi-lo).toNat) H):wpAny (model X.prog X.w) X.A (pyIter (.ref s.heap.objs.size)) (OX X pins σ tg R) E {s with heap:=s.heap.push {cls:=.type "range",data:=.fields #[.int lo t,.int hi u,.int 1 v]},toks:=tk}:=by
 refine Wa (IsRange.new ..) (small_one h1 h2 h3 h4) ?_
 have I1:Inv X pins σ H {s with heap:=s.heap.push {cls:=.type "range",data:=.fields #[.int lo t,.int hi u,.int 1 v]},toks:=tk}:=I.kept fun b o e=>Heap.get?_push_of_some _ e
 refine⟨(s.heap.push {cls:=.type "range",data:=.fields #[.int lo t,.int hi u,.int 1 v]}).objs.size,[(s.heap.push {cls:=.type "range",data:=.fields #[.int lo t,.int hi u,.int 1 v]}).objs.size],_,_,H,rfl,
  I1.kept (t':=tk) fun b o e=>Heap.get?_push_of_some _ e,Hk _ lo (hi-lo).toNat,?_,fun b hb=>?_,q⟩
 ·have e1:lo+((0:Nat):Int)*1=lo:=by simp
  have e2:(((hi-lo).toNat:Nat):Int)-((0:Nat):Int)=Builtin.Range.rangeSize lo hi 1:=by rw[rangeSize_one];split<;>omega
  show IsRangeIter _ _ (lo+((0:Nat):Int)*1) ((((hi-lo).toNat:Nat):Int)-((0:Nat):Int)) 1
  rw[e1,e2]
  exact Heap.get?_push_size _ rfl
 ·have e:b=(s.heap.push {cls:=.type "range",data:=.fields #[.int lo t,.int hi u,.int 1 v]}).objs.size:=by simpa using hb
  subst e
  exact I1.AQ (QP _) (I1.cp.fresh (QP _))
def NY(ta:TA):TI:=fun σ H R=>ta σ H fun vs H1=>∃(j:Int),A4 (vs=[.int j]) (-(2^62)≤j) (j<2^62) (R (NG 0 j.toNat) H1)
def NZ(ta:TA):TI:=fun σ H R=>ta σ H fun vs H1=>E2 fun(i:Int)(j:Int)=>A3 (vs=[.int i,.int j]) ((-(2^62)≤i∧i<2^62∧-(2^62)≤j∧j<2^62)) (R (NG i (j-i).toNat) H1)
theorem wW{a:Expr}{ta:TA}{p pos:Pos}(hg:Gl X "range")(hm:X.mg "range"=none)(ha:PA X [a] ta)(hs:starEach [a] X.env=[(false,eval a X.env)]:=by rfl):PI X tg (.Call (.Name "range" p) [a] [] pos) (NY ta):=by
 intro pins s σ H R I h
 refine Call_ (gx I hg hm boot_range (PyProof.Rows.callWith_type1 (cM (ha pos pins s σ H _ I h) fun us s1 ⟨vs,H1,I1,r1,q1⟩=>?_) hs rfl))
 obtain⟨j,e,q1,q2,q⟩:=q1
 subst e
 cases r1 with
 | cons r rr =>
  cases rr
  obtain⟨t,rfl⟩:=r
  exact call_range_1 (Fe I1 (by omega) (by omega) q1 q2 (by simpa using q))
theorem wX{a b:Expr}{ta:TA}{p pos:Pos}(hg:Gl X "range")(hm:X.mg "range"=none)(ha:PA X [a,b] ta)(hs:starEach [a,b] X.env=[(false,eval a X.env),(false,eval b X.env)]:=by rfl)(hs2:starEach [b] X.env=[(false,eval b X.env)]:=by rfl) :
  PI X tg (.Call (.Name "range" p) [a,b] [] pos) (NZ ta):=by
 intro pins s σ H R I h
 refine Call_ (gx I hg hm boot_range (PyProof.Rows.callWith_type1 (cM (ha pos pins s σ H _ I h) fun us s1 ⟨vs,H1,I1,r1,q1⟩=>?_) (by rw[hs,hs2]) (by rw[hs2];rfl)))
 obtain⟨i,j,e,⟨q1,q2,q3,q4⟩,q⟩:=q1
 subst e
 cases r1 with
 | cons r rr =>
  cases rr with
  | cons r' rr =>
   cases rr
   obtain⟨t,rfl⟩:=r
   obtain⟨t',rfl⟩:=r'
   exact call_range_2 (Fe I1 q1 q2 q3 q4 q)
def PN(wi:TI)(g:TG)(tb:TS):TS:=fun D σ H=>wi σ H fun J H1=>∃W:Nat→Nat→St→Hp→Prop,(∃m,W 0 m σ H1)∧∀i m σ H,W i m σ H →
 (J.stop i H∧D.nx σ H)∨(J.go i H∧∃N:St→Hp→Prop,(∀σ' H',N σ' H'→∃m',m'<m∧W (i+1) m' σ' H')∧∀x H',J.Lh i H x H'→g x σ H' fun σ2 H2=>tb { D with nx:=N,ct:=N,bk:=D.nx} σ2 H2)
def zQ(fp:List Addr)(h:Heap):List (Addr×Obj):=fp.filterMap fun b=>(h.get? b).map fun o=>(b,o)
theorem sZ{fp:List Addr}{h:Heap}{b:Addr}{o:Obj}(hb:b∈fp)(e:h.get? b=some o):(b,o)∈zQ fp h:=U4.mpr ⟨b,hb,by rw[e];rfl⟩
theorem Je{fp:List Addr}{h:Heap}{p:Addr×Obj}(hp:p∈zQ fp h):p.1∈fp∧h.get? p.1=some p.2:=by
 obtain⟨b,hb,e⟩:=U4.mp hp
 cases q:h.get? b with
 | none=>rw[q]at e;cases e
 | some o =>
  rw[q]at e
  have e':(b,o)=p:=Rb e
  subst e'
  exact⟨hb,q⟩
theorem Inv.pinned{pins:List (Addr×Obj)}{σ:St}{H:Hp}{s:Shared}{fp:List Addr}(I:Inv X pins σ H s)(hf:∀b∈fp,yb X pins H b)(ho:∀b∈fp,∃o,s.heap.get? b=some o∧∀v,o.data≠.cell v):Inv X (pins++zQ fp s.heap) σ H s :=
 I.HP fun p hp=>(RB.mp hp).elim (fun z=>I.pin p (Ri _ z)) fun z=>by
  obtain⟨hb,e⟩:=Je z
  obtain⟨f0,f1,f2,_⟩:=hf p.1 hb
  obtain⟨o,e',d⟩:=ho p.1 hb
  rw[e]at e';cases e'
  exact⟨e,f0,f1,f2,d⟩
theorem Inv.vz{pins pl:List (Addr×Obj)}{σ:St}{H:Hp}{s:Shared}(I:Inv X (pins++pl) σ H s):Inv X pins σ H s:=I.HP fun p hp=>I.pin p (Ri _ (SX _ hp))
theorem bU{iter:Expr}{body:List Stmt}{wi:TI}{g:TG}{tb:TS}{pos:Pos}(hp:PassesOwn (model X.prog X.w) X.A X.env X.xe)(hc:X.calm=true)(hi:PI X tg iter wi)(hg:PG X tg g)(hb:Ij X body tb)
  (hs:∀x,foldedSetIterable iter X.env x=pure x:=by intro _;rfl):PS X (.For tg iter body [] pos) (PN wi g tb):=by
 intro pins s σ H D I h
 refine wpAny_For (cM (hi pins s σ H _ I h) fun v s1 h1=>cM h1 fun itv s2 h2=>?_) hs
 obtain⟨it,fp,tn,J,H2,e,I2,T,st2,f2,W,⟨m0,w0⟩,turn⟩:=h2
 subst e
 have stat:∀{H':Hp},(∀b∈fp,H' b=none)→∀b∈fp,yb X pins H' b:=fun hn b hb=>⟨hn b hb,(f2 b hb).2⟩
 refine codeAny_forLoop_any (fun n s'=>∃i σ' H',Inv X pins σ' H' s'∧tn i s'.heap∧(∀b∈fp,H' b=none)∧W i n σ' H') ?_ m0 ⟨0,σ,H2,I2,st2,fun b hb=>(f2 b hb).1,w0⟩
 rintro n s3 ⟨i,σ3,H3,I3,st3,fr3,w3⟩
 rcases turn i n σ3 H3 w3 with⟨stop,qn⟩|⟨go,N,hN,step⟩
 ·refine To hp (cM (T.done X rfl rfl rfl hc i pins s3 σ3 H3 X.xe I3 (stat fr3) st3 stop) fun r s4 ⟨hr,I4⟩=>?_)
  subst hr
  exact UP ⟨σ3,H3,I4,qn⟩
 ·refine To hp (cM (T.item X rfl rfl rfl hc i pins s3 σ3 H3 X.xe I3 (stat fr3) st3 go) fun r s4 ⟨u,hr,h4⟩=>?_)
  subst hr
  refine To hp (cM h4 fun _ s5 ⟨x,H5,I5,r5,y5,st5,fr5⟩=>?_)
  have I5':=I5.pinned (stat fr5) (T.obj _ _ st5)
  refine To hp (cM (hg _ s5 σ3 H5 x u _ I5' r5 (step x H5 y5)) fun _ s6 ⟨σ6,H6,I6,q6⟩=>?_)
  refine To hp (cM (hb _ s6 σ6 H6 _ I6 q6) fun f s7 q7=>?_)
  have again:∀{σ7:St}{H7:Hp},Inv X (pins++zQ fp s5.heap) σ7 H7 s7→N σ7 H7→∃m,m<n∧∃i σ' H',Inv X pins σ' H' s7∧tn i s7.heap∧(∀b∈fp,H' b=none)∧W i m σ' H':=fun{σ7 H7} I7 n7=>by
   obtain⟨m',hm,w7⟩:=hN σ7 H7 n7
   refine⟨m',hm,i+1,σ7,H7,I7.vz,T.keep _ _ _ st5 fun b hb o e=>(I7.pin (b,o) (Ri _ (Ri _ (sZ hb e)))).1,fun b hb=>?_,w7⟩
   obtain⟨o,e,d⟩:=T.obj _ _ st5 b hb
   exact(I7.pin (b,o) (Ri _ (Ri _ (sZ hb e)))).2.1
  cases f with
  | next=>obtain⟨σ7,H7,I7,n7⟩:=q7;exact again I7 n7
  | cont=>obtain⟨σ7,H7,I7,n7⟩:=q7;exact again I7 n7
  | brk=>obtain⟨σ7,H7,I7,q7⟩:=q7;exact⟨σ7,H7,I7.vz,q7⟩
  | ret v=>obtain⟨x7,σ7,H7,I7,r7,q7⟩:=q7;exact⟨x7,σ7,H7,I7.vz,r7,q7⟩
end
abbrev R2:=V→V→Hp→VK→Prop
def xK(X:Cx)(f:Value→Value→Sem Value)(r:R2):Prop :=
 ∀(pins:List (Addr×Obj))(s:Shared)(σ:St)(H:Hp)(x y:V)(v u:Value)(Q:VK),Inv X pins σ H s→RelV x v→RelV y u→r x y H Q →
  wpAny (model X.prog X.w) X.A (f v u) (EP X pins σ Q) X.xe s
def OZ(X:Cx)(f:Value→Sem Value)(r:V→Hp→VK→Prop):Prop :=
 ∀(pins:List (Addr×Obj))(s:Shared)(σ:St)(H:Hp)(x:V)(v:Value)(Q:VK),Inv X pins σ H s→RelV x v→r x H Q →
  wpAny (model X.prog X.w) X.A (f v) (EP X pins σ Q) X.xe s
def o8(X:Cx)(f:Value)(r:List V→Hp→VK→Prop):Prop :=
 ∀(pins:List (Addr×Obj))(s:Shared)(σ:St)(H:Hp)(xs:List V)(us:List Value)(Q:VK),Inv X pins σ H s→Vals xs us→r xs H Q →
  wpAny (model X.prog X.w) X.A (call f us) (EP X pins σ Q) X.xe s
def OJ(r:R2)(ta tb:TE):TE:=fun σ H Q=>ta σ H fun x H1=>tb σ H1 fun y H2=>r x y H2 Q
def QD(r:V→Hp→VK→Prop)(ta:TE):TE:=fun σ H Q=>ta σ H fun x H1=>r x H1 Q
def rI(C:Int→Int→Prop)(g:Int→Int→V):R2:=fun x y H Q=>E2 fun i j=>A4 (x=.int i) (y=.int j) (C i j) (Q (g i j) H)
def Mx(g:Int→Int→V):R2:=fun x y H Q=>E2 fun i j=>A3 (x=.int i) (y=.int j) (Q (g i j) H)
def rU(g:Int→V):V→Hp→VK→Prop:=fun x H Q=>EA (fun i=>x=.int i) (fun i=>Q (g i) H)
section
variable{X:Cx}{a b c:Expr}{ta tb tc:TE}{pos:Pos}
theorem MF(ha:PE X a ta)(hb:PE X b tb){pins:List (Addr×Obj)}{s:Shared}{σ:St}{H:Hp}{R:V→V→Hp→Prop}(I:Inv X pins σ H s)
  (h:ta σ H fun x H1=>tb σ H1 fun y H2=>R x y H2){Q:Value→Shared→Prop}{f:Value→Value→Sem Value}
  (hf:∀v u s2 x y H2,Inv X pins σ H2 s2→RelV x v→RelV y u→R x y H2→wpAny (model X.prog X.w) X.A (f v u) Q X.xe s2) :
  wpAny (model X.prog X.w) X.A (eval a X.env) (fun v s₁=>wpAny (model X.prog X.w) X.A (eval b X.env) (fun u s₂=>wpAny (model X.prog X.w) X.A (f v u) Q X.xe s₂) X.xe s₁) X.xe s:=by
 refine cM (ha pins s σ H _ I h) fun v s1 ⟨x,H1,I1,r1,q1⟩=>?_
 refine cM (hb pins s1 σ H1 _ I1 q1) fun u s2 ⟨y,H2,I2,r2,q2⟩=>?_
 exact hf v u s2 x y H2 I2 r1 r2 q2
theorem aO{op:Operator}{r:R2}(ho:xK X (binaryOp op) r)(ha:PE X a ta)(hb:PE X b tb):PE X (.BinOp a op b pos) (OJ r ta tb):=by
 intro pins s σ H Q I h
 exact wpAny_BinOp (MF ha hb I h fun v u s2 x y H2 I2 rx ry q=>ho pins s2 σ H2 x y v u Q I2 rx ry q)
theorem oN{op:UnaryOp}{r:V→Hp→VK→Prop}(ho:OZ X (unaryOp op) r)(ha:PE X a ta):PE X (.UnaryOp op a pos) (QD r ta):=by
 intro pins s σ H Q I h
 exact UnaryOp_ (cM (ha pins s σ H _ I h) fun v s1 ⟨x,H1,I1,r1,q1⟩=>ho pins s1 σ H1 x v Q I1 r1 q1)
theorem Pp{f:Value→Value→Sem Value}{C:Int→Int→Prop}{g:Int→Int→Int}
  (rule:∀(i j:Int)(t u:Tok)(s:Shared)(Q:Value→Shared→Prop)(E:Value→Shared→Prop),C i j→Q (.int (g i j) s.toks) {s with toks:=s.toks+1}→wpAny (model X.prog X.w) X.A (f (.int i t) (.int j u)) Q E s) :
  xK X f (rI C fun i j=>.int (g i j)):=by
 intro pins s σ H x y v u Q I rx ry h
 obtain⟨i,j,rfl,rfl,hc,q⟩:=h
 obtain⟨t,rfl⟩:=rx
 obtain⟨t',rfl⟩:=ry
 exact rule i j t t' s _ _ hc ⟨.int (g i j),H,I.tok _,⟨_,rfl⟩,q⟩
theorem Ob{f:Value→Value→Sem Value}{g:Int→Int→Int}
  (rule:∀(i j:Int)(t u:Tok)(s:Shared)(Q:Value→Shared→Prop)(E:Value→Shared→Prop),Q (.int (g i j) s.toks) {s with toks:=s.toks+1}→wpAny (model X.prog X.w) X.A (f (.int i t) (.int j u)) Q E s) :
  xK X f (Mx fun i j=>.int (g i j)):=by
 intro pins s σ H x y v u Q I rx ry h
 obtain⟨i,j,rfl,rfl,q⟩:=h
 obtain⟨t,rfl⟩:=rx
 obtain⟨t',rfl⟩:=ry
 exact rule i j t t' s _ _ ⟨.int (g i j),H,I.tok _,⟨_,rfl⟩,q⟩
theorem LP{f:Value→Value→Sem Value}{g:Int→Int→Bool}
  (rule:∀(i j:Int)(t u:Tok)(s:Shared)(Q:Value→Shared→Prop)(E:Value→Shared→Prop),Q (.bool (g i j)) s→wpAny (model X.prog X.w) X.A (f (.int i t) (.int j u)) Q E s) :
  xK X f (Mx fun i j=>.bl (g i j)):=by
 intro pins s σ H x y v u Q I rx ry h
 obtain⟨i,j,rfl,rfl,q⟩:=h
 obtain⟨t,rfl⟩:=rx
 obtain⟨t',rfl⟩:=ry
 exact rule i j t t' s _ _ ⟨.bl (g i j),H,I,rfl,q⟩
def OL(i j:Int):Prop:=0<j∧j<1073741824
def Li(i j:Int):Prop:=(-(2^64)<i∧i<2^64)∨(-(2^64)<j∧j<2^64)
theorem Li.ok{i j:Int}(h:Li i j):IntMulOk i j:=by
 rcases h with⟨h1,h2⟩|⟨h1,h2⟩
 ·exact .of_left (intBits_le_64 h1 h2)
 ·exact .of_right (intBits_le_64 h1 h2)
theorem bz:xK X (binaryOp .Add) (Mx fun i j=>.int (i+j)):=Ob fun _ _ _ _ _ _ _ q=>add_int q
theorem de:xK X (binaryOp .Sub) (Mx fun i j=>.int (i-j)):=Ob fun _ _ _ _ _ _ _ q=>sub_int q
theorem jv:xK X (binaryOp .Mult) (rI Li fun i j=>.int (i*j)):=Pp fun _ _ _ _ _ _ _ hc q=>mul_int q hc.ok
theorem vb:xK X (binaryOp .FloorDiv) (rI OL fun i j=>.int (i / j)):=Pp fun i j _ _ _ _ _ hc q=>by
 have h1:(0:Int)<j:=hc.1
 have h2:j<1073741824:=hc.2
 exact floordiv_int (by omega) (by rw[Int.fdiv_eq_ediv_of_nonneg i (by omega)];exact q) (.inl (PyProof.noPylong_small (by omega)))
theorem Kr:xK X (binaryOp .Mod) (rI (fun _ j=>0<j) fun i j=>.int (i % j)):=Pp fun i j _ _ _ _ _ hc q=>by
 have h1:(0:Int)<j:=hc
 exact mod_int' (by omega) (by rw[Int.fmod_eq_emod_of_nonneg i (by omega)];exact q)
theorem QE{f:Value→Sem Value}{g:Int→Int}
  (rule:∀(i:Int)(t:Tok)(s:Shared)(Q:Value→Shared→Prop)(E:Value→Shared→Prop),Q (.int (g i) s.toks) {s with toks:=s.toks+1}→wpAny (model X.prog X.w) X.A (f (.int i t)) Q E s) :
  OZ X f (rU fun i=>.int (g i)):=by
 intro pins s σ H x v Q I rx h
 obtain⟨i,rfl,q⟩:=h
 obtain⟨t,rfl⟩:=rx
 exact rule i t s _ _ ⟨.int (g i),H,I.tok _,⟨_,rfl⟩,q⟩
theorem jB:OZ X (unaryOp .USub) (rU fun i=>.int (-i)):=QE fun _ _ _ _ _ q=>neg_int q
end
def Oh:V→V→Bool
 | .non,.non=>true|.non,.int _=>true|.int _,.non=>true|.non,.bl _=>true|.bl _,.non=>true|.non,.str _=>true|.str _,.non=>true
 | .int _,.int _=>true|.bl _,.bl _=>true|.str _,.str _=>true|.byt _,.byt _=>true
 | .int _,.str _=>true|.str _,.int _=>true|.bl _,.str _=>true|.str _,.bl _=>true
 | _,_=>false
def Qu:R2:=fun x y H Q=>Oh x y=true∧Q (.bl (decide (x=y))) H
def Qv:R2:=fun x y H Q=>Oh x y=true∧Q (.bl (!decide (x=y))) H
theorem Hw{i j:Int}:decide (V.int i=V.int j)=(i==j):=by
 rw[RU]
 simp
theorem JQ{i j:Bool}:decide (V.bl i=V.bl j)=(i==j):=by
 rw[RU]
 simp
theorem uF{i j:Str}:decide (V.str i=V.str j)=(i==j):=by
 rw[RU]
 simp
theorem Hv{i j:Array UInt8}:decide (V.byt i=V.byt j)=(i.toList==j.toList):=by
 rw[RU]
 cases i
 cases j
 simp
section
variable{X:Cx}{a b c:Expr}{ta tb tc:TE}{pos:Pos}
theorem bM{pins:List (Addr×Obj)}{σ:St}{H:Hp}{s:Shared}{Q:VK}{k k':Bool}(I:Inv X pins σ H s)(q:Q (.bl k) H)(e:k=k'):EP X pins σ Q (.bool k') s:=by
 subst e
 exact⟨.bl k,H,I,rfl,q⟩
theorem rC:xK X (compareOp .Eq) Qu:=by
 intro pins s σ H x y v u Q I rx ry h
 obtain⟨hs,q⟩:=h
 cases x with
 | non =>
  cases rx
  cases y with
  | non=>cases ry;exact PySem.EqNone.eq_none_none (bM I q (by simp))
  | bl j=>cases ry;exact PySem.EqNone.eq_none_bool (bM I q (by simp))
  | int j=>obtain⟨t',rfl⟩:=ry;exact PySem.EqNone.eq_none_int (bM I q (by simp))
  | str j=>obtain⟨t',rfl⟩:=ry;exact PySem.EqNone.eq_none_str (bM I q (by simp))
  | _=>exact absurd (show false=true from hs) Ra
 | bl i =>
  cases rx
  cases y with
  | non=>cases ry;exact PySem.EqNone.eq_bool_none (bM I q (by simp))
  | bl j=>cases ry;exact eq_bool (bM I q JQ)
  | str j=>obtain⟨t',rfl⟩:=ry;exact PySem.EqMixed.eq_bool_str (bM I q (by simp))
  | _=>exact absurd (show false=true from hs) Ra
 | int i =>
  obtain⟨t,rfl⟩:=rx
  cases y with
  | non=>cases ry;exact PySem.EqNone.eq_int_none (bM I q (by simp))
  | int j=>obtain⟨t',rfl⟩:=ry;exact eq_int (bM I q Hw)
  | str j=>obtain⟨t',rfl⟩:=ry;exact PySem.EqMixed.eq_int_str (bM I q (by simp))
  | _=>exact absurd (show false=true from hs) Ra
 | str i =>
  obtain⟨t,rfl⟩:=rx
  cases y with
  | non=>cases ry;exact PySem.EqNone.eq_str_none (bM I q (by simp))
  | bl j=>cases ry;exact PySem.EqMixed.eq_str_bool (bM I q (by simp))
  | int j=>obtain⟨t',rfl⟩:=ry;exact PySem.EqMixed.eq_str_int (bM I q (by simp))
  | str j=>obtain⟨t',rfl⟩:=ry;exact eq_str (bM I q uF)
  | _=>exact absurd (show false=true from hs) Ra
 | byt i =>
  obtain⟨t,rfl⟩:=rx
  cases y with
  | byt j=>obtain⟨t',rfl⟩:=ry;exact PySem.W.eq_bytes (bM I q Hv)
  | _=>exact absurd (show false=true from hs) Ra
 | _=>cases y<;>exact absurd (show false=true from hs) Ra
theorem EY:xK X (compareOp .NotEq) Qv:=by
 intro pins s σ H x y v u Q I rx ry h
 obtain⟨hs,q⟩:=h
 cases x with
 | non =>
  cases rx
  cases y with
  | non=>cases ry;exact PySem.EqNone.ne_none_none (bM I q (by simp))
  | bl j=>cases ry;exact PySem.EqNone.ne_none_bool (bM I q (by simp))
  | int j=>obtain⟨t',rfl⟩:=ry;exact PySem.EqNone.ne_none_int (bM I q (by simp))
  | str j=>obtain⟨t',rfl⟩:=ry;exact PySem.EqNone.ne_none_str (bM I q (by simp))
  | _=>exact absurd (show false=true from hs) Ra
 | bl i =>
  cases rx
  cases y with
  | non=>cases ry;exact PySem.EqNone.ne_bool_none (bM I q (by simp))
  | bl j=>cases ry;exact ne_bool (bM I q (congrArg not JQ))
  | str j=>obtain⟨t',rfl⟩:=ry;exact PySem.EqMixed.ne_bool_str (bM I q (by simp))
  | _=>exact absurd (show false=true from hs) Ra
 | int i =>
  obtain⟨t,rfl⟩:=rx
  cases y with
  | non=>cases ry;exact PySem.EqNone.ne_int_none (bM I q (by simp))
  | int j=>obtain⟨t',rfl⟩:=ry;exact ne_int (bM I q (congrArg not Hw))
  | str j=>obtain⟨t',rfl⟩:=ry;exact PySem.EqMixed.ne_int_str (bM I q (by simp))
  | _=>exact absurd (show false=true from hs) Ra
 | str i =>
  obtain⟨t,rfl⟩:=rx
  cases y with
  | non=>cases ry;exact PySem.EqNone.ne_str_none (bM I q (by simp))
  | bl j=>cases ry;exact PySem.EqMixed.ne_str_bool (bM I q (by simp))
  | int j=>obtain⟨t',rfl⟩:=ry;exact PySem.EqMixed.ne_str_int (bM I q (by simp))
  | str j=>obtain⟨t',rfl⟩:=ry;exact ne_str (bM I q (congrArg not uF))
  | _=>exact absurd (show false=true from hs) Ra
 | byt i =>
  obtain⟨t,rfl⟩:=rx
  cases y with
  | byt j=>obtain⟨t',rfl⟩:=ry;exact PySem.W.ne_bytes (bM I q (congrArg not Hv))
  | _=>exact absurd (show false=true from hs) Ra
 | _=>cases y<;>exact absurd (show false=true from hs) Ra
theorem km:xK X (compareOp .Lt) (Mx fun i j=>.bl (decide (i<j))):=LP fun _ _ _ _ _ _ _ q=>lt_int q
theorem jf:xK X (compareOp .LtE) (Mx fun i j=>.bl (decide (i≤j))):=LP fun _ _ _ _ _ _ _ q=>le_int q
theorem oM:xK X (compareOp .Gt) (Mx fun i j=>.bl (decide (j<i))):=LP fun _ _ _ _ _ _ _ q=>gt_int q
theorem EW:xK X (compareOp .GtE) (Mx fun i j=>.bl (decide (j≤i))):=LP fun _ _ _ _ _ _ _ q=>ge_int q
theorem fP:xK X (compareOp .Is) (fun x y H Q=>y=.non∧Q (.bl (decide (x=.non))) H):=by
 intro pins s σ H x y v u Q I rx ry h
 obtain⟨rfl,q⟩:=h
 cases ry
 refine is_none_gen (bM I q ?_)
 cases x<;>first
  | (cases rx;rfl)
  | (obtain⟨t,rfl⟩:=rx;rfl)
theorem aQ(b:Expr){op:CmpOp}(h:op≠.In:=by decide)(h2:op≠.NotIn:=by decide):behindInMarks op b=false:=by
 have e1:(op==CmpOp.In)=false:=by cases op<;>first|rfl|exact absurd rfl h
 have e2:(op==CmpOp.NotIn)=false:=by cases op<;>first|rfl|exact absurd rfl h2
 cases b<;>simp[behindInMarks,e1,e2]
theorem yF{op:CmpOp}{r:R2}(ho:xK X (compareOp op) r)(ha:PE X a ta)(hb:PE X b tb)(hm:behindInMarks op b=false):PE X (.Compare a [op] [b] pos) (OJ r ta tb):=by
 intro pins s σ H Q I h
 exact wpAny_Compare1 (MF ha hb I h fun v u s2 x y H2 I2 rx ry q=>ho pins s2 σ H2 x y v u Q I2 rx ry q) hm
def Mz(t:TE):TT:=fun σ H Q=>t σ H fun x H'=>EA (fun k=>x=.bl k) (fun k=>Q k H')
theorem aM{op:CmpOp}{r:R2}(ho:xK X (compareOp op) r)(ha:PE X a ta)(hb:PE X b tb)(hm:behindInMarks op b=false):PT X (.Compare a [op] [b] pos) (Mz (OJ r ta tb)):=by
 intro pins s σ H Q I h
 refine wpAny_isTrue_Compare1 (cM (ha pins s σ H _ I h) fun v s1 ⟨x,H1,I1,r1,q1⟩=>cM (hb pins s1 σ H1 _ I1 q1) fun u s2 ⟨y,H2,I2,r2,q2⟩ =>
  cM (ho pins s2 σ H2 x y v u _ I2 r1 r2 q2) fun c s3 ⟨z,H3,I3,r3,k,e,q3⟩=>?_) hm
 subst e
 cases r3
 exact SD ⟨H3,I3,q3⟩
def KR(r r':R2)(ta tb tc:TE):TE:=fun σ H Q=>ta σ H fun x H1=>tb σ H1 fun y H2=>r x y H2 fun z H3=>EA (fun k=>z=.bl k) (fun k=>(if k=true then tc σ H3 fun w' H4=>r' y w' H4 Q else Q (.bl false) H3))
theorem mr{op op':CmpOp}{r r':R2}(ho:xK X (compareOp op) r)(ho':xK X (compareOp op') r')(ha:PE X a ta)(hb:PE X b tb)(hc:PE X c tc)
  (hm:lastMarks [op,op'] [b,c]=false:=by with_unfolding_all rfl):PE X (.Compare a [op,op'] [b,c] pos) (KR r r' ta tb tc):=by
 intro pins s σ H Q I h
 refine Compare_chain (cM (ha pins s σ H _ I h) fun v s1 ⟨x,H1,I1,r1,q1⟩=>chain_link (cM (hb pins s1 σ H1 _ I1 q1) fun u s2 ⟨y,H2,I2,r2,q2⟩ =>
  cM (ho pins s2 σ H2 x y v u _ I2 r1 r2 q2) fun d s3 ⟨z,H3,I3,r3,k,e,q3⟩=>?_)) hm
 subst e
 cases r3
 refine SD ?_
 cases k with
 | false=>exact ite_ff ⟨.bl false,H3,I3,rfl,q3⟩
 | true=>exact ite_tt (chain_last (cM (hc pins s3 σ H3 _ I3 q3) fun w' s4 ⟨z',H4,I4,r4,q4⟩=>ho' pins s4 σ H4 y z' u w' Q I4 r2 r4 q4))
theorem zW{op op':CmpOp}{r r':R2}(ho:xK X (compareOp op) r)(ho':xK X (compareOp op') r')(ha:PE X a ta)(hb:PE X b tb)(hc:PE X c tc)
  (hm:lastMarks [op,op'] [b,c]=false:=by with_unfolding_all rfl):PT X (.Compare a [op,op'] [b,c] pos) (Mz (KR r r' ta tb tc)):=by
 intro pins s σ H Q I h
 refine isTrue_chain (cM (ha pins s σ H _ I h) fun v s1 ⟨x,H1,I1,r1,q1⟩=>test_link (cM (hb pins s1 σ H1 _ I1 q1) fun u s2 ⟨y,H2,I2,r2,q2⟩ =>
  cM (ho pins s2 σ H2 x y v u _ I2 r1 r2 q2) fun d s3 ⟨z,H3,I3,r3,k,e,q3⟩=>?_)) hm
 subst e
 cases r3
 refine SD ?_
 cases k with
 | false =>
  obtain⟨k',e',q'⟩:=q3
  cases e'
  exact ite_ff ⟨H3,I3,q'⟩
 | true =>
  refine ite_tt (test_last (cM (hc pins s3 σ H3 _ I3 q3) fun w' s4 ⟨z',H4,I4,r4,q4⟩=>cM (ho' pins s4 σ H4 y z' u w' _ I4 r2 r4 q4) fun d' s5 ⟨z2,H5,I5,r5,k2,e2,q5⟩=>?_))
  subst e2
  cases r5
  exact SD ⟨H5,I5,q5⟩
theorem Dm:(sizeLine:Nat)<2^63:=by rw[sizeLine_eq];decide
theorem vals1{x:V}{us:List Value}(r:Vals [x] us):∃u,us=[u]∧RelV x u:=by
 cases r with
 | cons r1 r2=>cases r2;exact⟨_,rfl,r1⟩
theorem vals2{x y:V}{us:List Value}(r:Vals [x,y] us):∃u w',us=[u,w']∧RelV x u∧RelV y w':=by
 cases r with
 | cons r1 r2 =>
  cases r2 with
  | cons r3 r4=>cases r4;exact⟨_,_,rfl,r1,r3⟩
theorem Ir(hc:X.calm=true):o8 X (.builtin "max") (fun xs H Q=>∃i j,xs=[.int i,.int j]∧Q (.int (if j>i then j else i)) H):=by
 intro pins s σ H xs us Q I r h
 obtain⟨i,j,rfl,q⟩:=h
 obtain⟨u,w',rfl,⟨t,rfl⟩,⟨t',rfl⟩⟩:=vals2 r
 refine max_two_ints (I.ok.hd hc) fun h' tk k=>⟨_,H,I.kept k,?_,q⟩
 by_cases hj:j>i
 ·rw[if_pos hj,if_pos hj];exact⟨_,rfl⟩
 ·rw[if_neg hj,if_neg hj];exact⟨_,rfl⟩
theorem jU(hc:X.calm=true):o8 X (.builtin "min") (fun xs H Q=>∃i j,xs=[.int i,.int j]∧Q (.int (if j<i then j else i)) H):=by
 intro pins s σ H xs us Q I r h
 obtain⟨i,j,rfl,q⟩:=h
 obtain⟨u,w',rfl,⟨t,rfl⟩,⟨t',rfl⟩⟩:=vals2 r
 refine min_two_ints (I.ok.hd hc) fun h' tk k=>⟨_,H,I.kept k,?_,q⟩
 by_cases hj:j<i
 ·rw[if_pos hj,if_pos hj];exact⟨_,rfl⟩
 ·rw[if_neg hj,if_neg hj];exact⟨_,rfl⟩
theorem CJ:o8 X (.type "str") (fun xs H Q=>∃i,xs=[.int i]∧i.natAbs.log2<1920∧Q (.str (toString i)) H):=by
 intro pins s σ H xs us Q I r h
 obtain⟨i,rfl,hz,q⟩:=h
 obtain⟨u,rfl,t,rfl⟩:=vals1 r
 exact PySem.P.str_of_int hz ⟨.str _,H,I.tok _,⟨_,rfl⟩,q⟩
theorem JL:o8 X (.builtin "ord") (fun xs H Q=>∃x,xs=[.str x]∧x.length=1∧Q (.int (x.cps.getD 0 0:Nat)) H):=by
 intro pins s σ H xs us Q I r h
 obtain⟨x,rfl,hz,q⟩:=h
 obtain⟨u,rfl,t,rfl⟩:=vals1 r
 exact ord_of_one hz ⟨.int _,H,I.tok _,⟨_,rfl⟩,q⟩
end
structure FP(h:Heap)(x dx C:Addr)(mA:Str→Option Value):Prop where
 obj:h.get? x=some (PySem.W.instObj C dx)
 ns:h.Ns1 dx mA
 ne:dx≠x
theorem IX{h:Heap}{dx:Addr}{mA:Str→Option Value}(n:h.Ns1 dx mA):∃od,h.get? dx=some od∧∀name,PySem.W.lookIn name od=some (mA name):=by
 obtain⟨o,es,ep,ho,hd,hk,_,hm⟩:=n
 refine⟨o,ho,fun name=>?_⟩
 have e:=hm name
 unfold nsFind findBy at e
 rw[←Array.find?_toList]at e
 unfold PySem.W.lookIn
 rw[hd]
 dsimp only
 split
 ·rename_i y q
  rw[q]at e
  exact congrArg some e
 ·rename_i q
  rw[q]at e
  have a:es.toList.any (·.refKey)=false:=by
   rw[List.any_eq_false]
   intro y hy
   obtain⟨z,t,hkey⟩:=hk y (Array.mem_toList_iff.mp hy)
   simp[DictEntry.refKey,hkey]
  have a':¬es.toList.any (·.refKey)=true:=by rw[a];exact Ra
  rw[if_neg a']
  exact congrArg some e
theorem FP.look{h:Heap}{x dx C:Addr}{mA:Str→Option Value}(I:FP h x dx C mA):∃od,PySem.W.InstAt h x (PySem.W.instObj C dx) C (some od)∧∀name,PySem.W.lookIn name od=some (mA name) :=
 let ⟨od,ho,hl⟩:=IX I.ns
 ⟨od,⟨I.obj,rfl,rfl,ho⟩,hl⟩
section
variable{prog:Program}{w:World}{A:Around}{E:Value→Shared→Prop}{s:Shared}{K:Frg}{x dx C f:Addr}{mA:Str→Option Value}{name:Str}{v:Value}
theorem get_map{expr:Bool}{Q:Value→Shared→Prop}(X:K.In s.heap)(I:FP s.heap x dx C mA)(hg:PySem.W.plainGet K C name=true)(hh:PySem.W.hasDictIn K C=true)
  (ha:PySem.W.findIn K (.ref C) name=some none)(hv:mA name=some v)(hv':PySem.W.handedIn v=true)(h:Q v {s with toks:=s.toks+1}) :
  wpAny (model prog w) A (getAttr (.ref x) name expr) Q E s:=by
 obtain⟨od,J,hl⟩:=I.look
 exact PySem.W.get_value X J (PySem.W.plainGet_of hg).1 (PySem.W.findObj_own hh ha rfl (by rw[hl,hv])) hv' h
theorem J5{pl:Sem Bool}{Q:Value×List Value→Shared→Prop}(X:K.In s.heap)(I:FP s.heap x dx C mA)(hg:PySem.W.plainGet K C name=true)
  (hf:PySem.W.findIn K (.ref C) name=some (some (.ref f)))(ht:PySem.W.isFn K (.ref f)=true)(hv:mA name=none)(h:Q (.ref f,[.ref x]) s) :
  wpAny (model prog w) A (getMethod (.ref x) name pl) Q E s:=by
 obtain⟨od,J,hl⟩:=I.look
 exact PySem.W.method_fn X J (PySem.W.plainGet_of hg).1 (PySem.W.plainGet_of hg).2 hf (beq_iff_eq.mp ht) (by show(PySem.W.lookIn name od).map (·.isSome)=some false;rw[hl,hv];rfl) h
theorem Ma{ns:List Str}{Q:Unit→Shared→Prop}(X:K.In s.heap)(I:FP s.heap x dx C mA)
  (hs:PySem.W.findIn K (.ref C) "__setattr__"=some (some (.builtin "object.__setattr__")))(hp:PySem.W.plainOver K C=true)(ht:PySem.W.takerIn K C name=some none)(hh:PySem.W.hasDictIn K C=true)
  (hw:PySem.Within mA ns)(hsz:ns.length≤sizeLine)
  (h:∀h',FP h' x dx C (fun y=>if y=name then some v else mA y)→Heap.SameBut dx s.heap h'→Q () {s with heap:=h',toks:=s.toks+2}) :
  wpAny (model prog w) A (setAttr (.ref x) name v) Q E s:=by
 obtain⟨od,J,hl⟩:=I.look
 refine PySem.W.set_plain X J hs (PySem.W.osa_open (s:={s with toks:=s.toks+1}) (r:=none) X J hp ht fun b=>?_)
 obtain⟨cd,hc,hd'⟩:=PySem.W.any_some hh
 have hx:s.heap.get? x=some ⟨.ref C,some dx,.plain,#[]⟩:=I.obj
 refine wpAny_bind (wpAny_pure (wpAny_bind (wpAny_bind (wpAny_loadPart hx (wpAny_bind (PySem.W.Looks.here (s:={s with toks:=s.toks+1}) (PySem.W.looks_clsIn X hc) ?_))))))
 rw[hd']
 refine wpAny_pure (a:=some dx) (wpAny_bind (wpAny_pure (wpAny_bind ?_)))
 refine wpAny_nsSet1 (s:={s with toks:=s.toks+1}) I.ns fun h' hn2 hs2=>?_
 obtain⟨oD,esD,epD,hoD,hdD,hcD⟩:=hn2.count (PySem.Within.cons name v hw)
 refine wpAny_bind (wpAny_lookBehind hoD (by rw[hdD];exact pastItsLine_dict (QK hcD (by rw[Q2];omega))) ?_)
 exact wpAny_pure (h _ ⟨(hs2.2 _ (Ne.symm I.ne)).trans I.obj,hn2,I.ne⟩ hs2)
theorem Ki{R:Result→Shared→Prop}{vs:List Value}{kw:List (Str×Value)}(X:K.In s.heap)(hm:PySem.W.makesIn K C=true)
  (hi:PySem.W.findIn K (.ref C) "__init__"=some (some (.ref f)))(hf:PySem.W.typeIn K (.ref f)=some (.type "function"))
  (h:codeAny (model prog w) (A.under (.builtin "type.__call__" ⟨.ref C::vs,kw⟩)) (.call (.ref f) ⟨.ref (s.heap.objs.size+1)::vs,kw⟩) (PySem.W.InitBack (s.heap.objs.size+1) R)
   {s with heap:=(s.heap.push PySem.W.emptyDict).push (PySem.W.instObj C s.heap.objs.size)}) :
  codeAny (model prog w) A (.call (.ref C) ⟨vs,kw⟩) R s:=by
 obtain⟨hh,g,d,t,os⟩:=s
 exact PySem.W.make_core (PySem.W.makes_of X hm) (PySem.W.looks_findIn X hi) (fun self=>PySem.W.bind_fn X self hf) (.inl rfl) h
end
def bA(f:Str)(v:V):List (Str×V)→List (Str×V)
 | []=>[(f,v)]
 | (g,x)::r=>if g=f then(g,v)::r else(g,x)::bA f v r
theorem pJ(f g:Str)(v:V):∀fs:List (Str×V),(bA f v fs).lookup g=if g=f then some v else fs.lookup g
 | []=>by
  show T5 g [(f,v)]=_
  by_cases h:g=f
  ·have hb:(g==f)=true:=beq_iff_eq.mpr h
   simp only[T5,hb,if_pos h]
  ·have hb:(g==f)=false:=beq_eq_false_iff_ne.mpr h
   simp only[T5,hb,if_neg h]
 | (k,x)::r=>by
  have ih:=pJ f g v r
  rw[show bA f v ((k,x)::r)=(if k=f then(k,v)::r else(k,x)::bA f v r)from rfl]
  by_cases hk:k=f
  ·rw[if_pos hk]
   by_cases h:g=k
   ·have hb:(g==k)=true:=beq_iff_eq.mpr h
    simp only[T5,hb,if_pos (h.trans hk)]
   ·have hb:(g==k)=false:=beq_eq_false_iff_ne.mpr h
    simp only[T5,hb,if_neg (fun e:g=f=>h (e.trans hk.symm))]
  ·rw[if_neg hk]
   by_cases h:g=k
   ·have hb:(g==k)=true:=beq_iff_eq.mpr h
    simp only[T5,hb,if_neg (fun e:g=f=>hk (h.symm.trans e))]
   ·have hb:(g==k)=false:=beq_eq_false_iff_ne.mpr h
    simp only[T5,hb]
    exact ih
theorem wB(f:Str)(v:V):∀fs:List (Str×V),f∈(bA f v fs).map (·.1)∧∀g,g∈fs.map (·.1)→g∈(bA f v fs).map (·.1)
 | []=>⟨by simp[bA],fun g h=>by simp at h⟩
 | (k,x)::r=>by
  obtain⟨i1,i2⟩:=wB f v r
  rw[show bA f v ((k,x)::r)=(if k=f then(k,v)::r else(k,x)::bA f v r)from rfl]
  by_cases hk:k=f
  ·rw[if_pos hk]
   subst hk
   exact⟨by simp,fun g h=>by simpa using h⟩
  ·rw[if_neg hk]
   refine⟨?_,fun g h=>?_⟩
   ·rw[RC]
    exact Q4 _ i1
   ·rw[RC]at h ⊢
    rcases QM.mp h with e|e
    ·exact QM.mpr (.inl e)
    ·exact Q4 _ (i2 g e)
theorem xP(f:Str)(v:V):∀fs:List (Str×V),(bA f v fs).length≤fs.length+1
 | []=>by simp[bA]
 | (k,x)::r=>by
  have ih:=xP f v r
  rw[show bA f v ((k,x)::r)=(if k=f then(k,v)::r else(k,x)::bA f v r)from rfl]
  by_cases hk:k=f
  ·rw[if_pos hk,Q2,Q2];omega
  ·rw[if_neg hk,Q2,Q2];omega
theorem AJ.some_of{v:V}{o:Option Value}(r:AJ (some v) o):∃u,o=some u∧RelV v u:=by
 cases o with
 | none=>exact(show False from r).elim
 | some u=>exact⟨u,rfl,r⟩
theorem AJ.none_of{o:Option Value}(r:AJ none o):o=none:=by
 cases o with
 | none=>rfl
 | some u=>exact(show False from r).elim
theorem IS{v:V}{u:Value}(r:RelV v u):PySem.W.handedIn u=true:=by
 cases v with
 | non=>cases (show u=Value.none from r);rfl
 | bl b=>cases (show u=Value.bool b from r);rfl
 | int i=>obtain⟨t,e⟩:=(show ∃t,u=Value.int i t from r);cases e;rfl
 | str x=>obtain⟨t,e⟩:=(show ∃t,u=Value.str x t from r);cases e;rfl
 | byt b=>obtain⟨t,e⟩:=(show ∃t,u=Value.bytes b t from r);cases e;rfl
 | flt b=>obtain⟨t,e⟩:=(show ∃t,u=Value.float b t from r);cases e;rfl
 | ref a=>cases (show u=Value.ref a from r);rfl
 | ty n=>cases (show u=Value.type n from r);rfl
section
variable{P:Program}{w:World}{H H':Hp}{h h':Heap}{a C dx:Addr}{fs fs':List (Str×V)}
theorem Dh(cp:ux P w H h)(e:H a=some (.ins C dx fs)):∃mA,FP h a dx C mA∧(∀f,AJ (fs.lookup f) (mA f))∧PySem.Within mA (fs.map (·.1))∧fs.length≤1000∧H dx=some (.own a):=by
 obtain⟨d,z,ne,ob,mA,n,r,q⟩:=(show fM P w H h a (.ins C dx fs)from cp a _ e)
 exact⟨mA,⟨ob,n,ne⟩,r,q,z,d⟩
end
structure Ec(K:Frg)(C:Addr):Prop where
 pg:PySem.W.plainGet K C Str.empty=true
 hd:PySem.W.hasDictIn K C=true
 po:PySem.W.plainOver K C=true
 sa:PySem.W.findIn K (.ref C) "__setattr__"=some (some (.builtin "object.__setattr__"))
theorem Ec.get{K:Frg}{C:Addr}(c:Ec K C)(f:Str):PySem.W.plainGet K C f=true:=c.pg
def bp(K:Frg)(C:Addr)(f:Str):Prop:=PySem.W.findIn K (.ref C) f=some none
theorem bp.Ox{K:Frg}{C:Addr}{f:Str}(n:bp K C f):PySem.W.takerIn K C f=some none:=by
 unfold PySem.W.takerIn
 rw[show PySem.W.findIn K (.ref C) f=some none from n]
 rfl
structure Meth(K:Frg)(C:Addr)(m:Str)(f:Addr):Prop where
 at_:PySem.W.findIn K (.ref C) m=some (some (.ref f))
 fn:PySem.W.isFn K (.ref f)=true
 kp:PySem.W.keepIn K (.ref f)=true
section
variable{X:Cx}{pins:List (Addr×Obj)}{σ:St}{H:Hp}{s:Shared}{a C dx:Addr}{fs:List (Str×V)}{f:Str}{v:V}{A:Around}{E:Value→Shared→Prop}
theorem zf{b:Bool}{Q:Value→Shared→Prop}(I:Inv X pins σ H s)(e:H a=some (.ins C dx fs))(c:Ec X.K C)(n:bp X.K C f)(l:fs.lookup f=some v)
  (h:∀u s',Inv X pins σ H s'→RelV v u→Q u s'):wpAny (model X.prog X.w) A (getAttr (.ref a) f b) Q E s:=by
 obtain⟨mA,O,r,_,_,_⟩:=Dh I.cp e
 obtain⟨u,hu,ru⟩:=AJ.some_of (v:=v) (o:=mA f) (by rw[←l];exact r f)
 exact get_map I.FN O (c.get f) c.hd n hu (IS ru) (h u _ (I.tok _) ru)
theorem zg{m:Str}{g:Addr}{pl:Sem Bool}{Q:Value×List Value→Shared→Prop}(I:Inv X pins σ H s)(e:H a=some (.ins C dx fs))(c:Ec X.K C)(k:Meth X.K C m g)(l:fs.lookup m=none)
  (h:Q (.ref g,[.ref a]) s):wpAny (model X.prog X.w) A (getMethod (.ref a) m pl) Q E s:=by
 obtain⟨mA,O,r,_,_,_⟩:=Dh I.cp e
 have hn:mA m=none:=AJ.none_of (by rw[←l];exact r m)
 exact J5 I.FN O (c.get m) k.at_ k.fn hn h
theorem Ah{y:V}{u:Value}{Q:Unit→Shared→Prop}(I:Inv X pins σ H s)(e:H a=some (.ins C dx fs))(c:Ec X.K C)(n:bp X.K C f)(hl:fs.length<1000)(ry:RelV y u)
  (h:∀s',Inv X pins σ (upd H a (.ins C dx (bA f y fs))) s'→Q () s'):wpAny (model X.prog X.w) A (setAttr (.ref a) f u) Q E s:=by
 obtain⟨mA,O,r,wi,_,ho⟩:=Dh I.cp e
 have hz:(fs.map (·.1)).length≤sizeLine:=by rw[QH,sizeLine_eq];omega
 refine Ma I.FN O c.sa c.po n.Ox c.hd wi hz fun h' O' sb=>h _ ?_
 have hd:∃o,h'.get? dx=some o:=let ⟨o,_,_,e',_⟩:=O'.ns;⟨o,e'⟩
 refine I.write (x:=a) (e:=dx) (by rw[e];exact True.intro) (.inr ho) (fun b q hb z=>(sb.2 b hb).trans z) hd ?_
 refine⟨by rw[ah O.ne];exact ho,?_,O.ne,O'.obj,_,O'.ns,fun g=>?_,fun g hg=>?_⟩
 ·have:=xP f y fs;omega
 ·show AJ ((bA f y fs).lookup g) (if g=f then some u else mA g)
  rw[pJ]
  by_cases q:g=f
  ·rw[if_pos q,if_pos q];exact ry
  ·rw[if_neg q,if_neg q];exact r g
 ·by_cases q:g=f
  ·rw[q];exact(wB f y fs).1
  ·refine(wB f y fs).2 g (wi g fun z=>hg ?_)
   show(if g=f then some u else mA g)=none
   rw[if_neg q];exact z
theorem Inv.made(I:Inv X pins σ H s):Inv X pins σ (upd (upd H s.heap.objs.size (.own (s.heap.objs.size+1))) (s.heap.objs.size+1) (.ins C s.heap.objs.size []))
  {s with heap:=(s.heap.push PySem.W.emptyDict).push (PySem.W.instObj C s.heap.objs.size)}:=by
 have e1:(s.heap.push PySem.W.emptyDict).get? s.heap.objs.size=some PySem.W.emptyDict:=Heap.get?_push_size s.heap rfl
 have e2:((s.heap.push PySem.W.emptyDict).push (PySem.W.instObj C s.heap.objs.size)).get? (s.heap.objs.size+1)=some (PySem.W.instObj C s.heap.objs.size):=by
  have:=Heap.get?_push_size (s.heap.push PySem.W.emptyDict) (o:=PySem.W.instObj C s.heap.objs.size) rfl
  rwa[Heap.size_push]at this
 have e3:(s.heap.push PySem.W.emptyDict).Ns s.heap.objs.size (fun _=>none):=⟨PySem.W.emptyDict,#[],_,e1,rfl,(fun e he=>absurd he (by simp)),fun _=>rfl⟩
 have I1:=I.laid (a:=s.heap.objs.size) (o:=.own (s.heap.objs.size+1)) (h':=s.heap.push PySem.W.emptyDict) (t':=s.toks) (fun b u q=>Heap.get?_push_of_some _ q) (QP _) ⟨_,e1⟩
 refine I1.laid (a:=s.heap.objs.size+1) (o:=.ins C s.heap.objs.size []) (t':=s.toks) (fun b u q=>Heap.get?_push_of_some _ q) (Tr (Heap.size_push _ _)) ?_
 have ne:s.heap.objs.size≠s.heap.objs.size+1:=Rj (Uw _)
 refine⟨by rw[ah ne,af],Sr _,ne,e2,fun _=>none,(Heap.Ns1.of_empty e3).at fun o q=>Heap.get?_push_of_some _ q,fun _=>True.intro,fun y hy=>absurd rfl hy⟩
theorem Lu{prog:Program}{w:World}{env:Env}{e:Expr}{f:Str}{pos:Pos}{s:Shared}{Q:Value→Shared→Prop}(hb:attributeBase e f env (eval e env)=eval e env)
  (h:wpAny (model prog w) A (eval e env) (fun o s₁=>wpAny (model prog w) A (getAttr o f true) Q E s₁) E s):wpAny (model prog w) A (eval (.Attribute e f pos) env) Q E s :=
 Attribute_any_ h (by rw[arm_eval_Attribute,hb])
end
def Oo(K:Frg)(ta:TE)(f:Str):TE:=fun σ H Q=>ta σ H fun x H1=>E5 fun a C dx fs v=>A6 (x=.ref a) (H1 a=some (.ins C dx fs)) (Ec K C) (bp K C f) (fs.lookup f=some v) (Q v H1)
def PK(K:Frg)(ta tv:TE)(f:Str):TS:=fun D σ H=>tv σ H fun y H1=>ta σ H1 fun x H2=>E4 fun a C dx fs=>A6 (x=.ref a) (H2 a=some (.ins C dx fs)) (Ec K C) (bp K C f) (fs.length<1000) (D.nx σ (upd H2 a (.ins C dx (bA f y fs))))
def NF(X:Cx)(op:Operator)(rd:V→V→Hp→VK→Prop):Prop :=
 ∀(pins:List (Addr×Obj))(s:Shared)(σ:St)(H:Hp)(x y:V)(u v:Value)(Q:VK),Inv X pins σ H s→RelV x u→RelV y v→rd x y H Q→wpAny (model X.prog X.w) X.A (inplaceOp op u v) (EP X pins σ Q) X.xe s
def L8(K:Frg)(ta tv:TE)(rd:V→V→Hp→VK→Prop)(f:Str):TS:=fun D σ H=>ta σ H fun x H1=>∃a C dx fs v,x=.ref a∧H1 a=some (.ins C dx fs)∧Ec K C∧bp K C f∧fs.lookup f=some v ∧
 tv σ H1 fun y H2=>rd v y H2 fun z H3=>∃dx' fs',H3 a=some (.ins C dx' fs')∧fs'.length<1000∧D.nx σ (upd H3 a (.ins C dx' (bA f z fs')))
section
variable{X:Cx}{o e value:Expr}{f:Str}{pos pos' tpos:Pos}{ta tv:TE}
theorem aj(he:PE X e ta)(hb:attributeBase e f X.env (eval e X.env)=eval e X.env):PE X (.Attribute e f pos) (Oo X.K ta f):=by
 intro pins s σ H Q I h
 refine Lu hb (cM (he pins s σ H _ I h) fun u s1 ⟨x,H1,I1,rx,a,C,dx,fs,v,ex,ea,c,n,l,q⟩=>?_)
 subst ex
 obtain rfl:u=Value.ref a:=rx
 exact zf I1 ea c n l fun u' s2 I2 ru=>⟨v,H1,I2,ru,q⟩
theorem bK(ha:PE X o ta)(hv:PE X value tv)(hs:swapsWith value (some (.Attribute o f pos')) pos.line X.env=pure false):PS X (.Assign [.Attribute o f pos'] value pos) (PK X.K ta tv f):=by
 intro pins s σ H D I h
 refine plainObj_wpAny_Assign_Attribute (cM (hv pins s σ H _ I h) fun u s1 ⟨y,H1,I1,ry,q⟩=>cM (ha pins s1 σ H1 _ I1 q) fun ov s2 ⟨x,H2,I2,rx,a,C,dx,fs,ex,ea,c,n,l,q2⟩=>?_) hs
 subst ex
 obtain rfl:ov=Value.ref a:=rx
 exact Ah I2 ea c n l ry fun s3 I3=>⟨σ,_,I3,q2⟩
theorem qT{op:Operator}{rd:V→V→Hp→VK→Prop}(ha:PE X o ta)(hv:PE X value tv)(hop:NF X op rd):PS X (.AugAssign (.Attribute o f tpos) op value pos) (L8 X.K ta tv rd f):=by
 intro pins s σ H D I h
 refine wpAny_AugAssign_AttributeAny (cM (ha pins s σ H _ I h) fun ov s1 ⟨x,H1,I1,rx,a,C,dx,fs,v,ex,ea,c,n,l,q⟩=>?_)
 subst ex
 obtain rfl:ov=Value.ref a:=rx
 refine zf I1 ea c n l fun u s2 I2 ru=>cM (hv pins s2 σ H1 _ I2 q) fun w3 s3 ⟨y,H2,I3,ry,q3⟩=>cM (hop pins s3 σ H2 v y u w3 _ I3 ru ry q3) fun w4 s4 ⟨z,H3,I4,rz,dx',fs',ea',l',q4⟩=>?_
 exact Ah I4 ea' c n l' rz fun s5 I5=>⟨σ,_,I5,q4⟩
def Pr:V→V→Hp→VK→Prop:=fun x y H Q=>E2 fun i j=>A3 (x=.int i) (y=.int j) (Q (.int (i+j)) H)
theorem Dg:NF X .Add Pr:=by
 rintro pins s σ H x y u v Q I rx ry ⟨i,j,rfl,rfl,q⟩
 obtain⟨t,rfl⟩:=(show ∃t,u=Value.int i t from rx)
 obtain⟨t',rfl⟩:=(show ∃t',v=Value.int j t' from ry)
 exact PyProof.Rows.iadd_int ⟨.int (i+j),H,I.tok _,⟨_,rfl⟩,q⟩
end
structure fy(k:Nat)(A:Around):Prop where
 hd:A.handled=none
 dp:A.depth+3*k+5<recursionLimit
 un:A.units+16*k+200<cLine
theorem fy.mono{j k:Nat}{A:Around}(r:fy k A)(h:j≤k):fy j A:=⟨r.hd,by have:=r.dp;omega,by have:=r.un;omega⟩
theorem fy.deeper{k:Nat}{A:Around}(r:fy (k+1) A)(env:Env):fy k (A.deeper env) :=
 ⟨r.hd,by have:=r.dp;show A.depth+1+3*k+5<_;omega,by have:=r.un;show A.units+3+16*k+200<_;omega⟩
theorem GB{A:Around}{C:Addr}{us:List Value}{kw:List (Str×Value)}:(A.under (.builtin "type.__call__" ⟨.ref C::us,kw⟩)).depth=A.depth+1:=by
 first|rfl|simp[Around.under,Code.weight,Code.isCreation,Code.isGuard,Code.isCaller,Code.frames,Code.isFrame,guardIds]
theorem GC{A:Around}{C:Addr}{us:List Value}{kw:List (Str×Value)}:(A.under (.builtin "type.__call__" ⟨.ref C::us,kw⟩)).units=A.units+1:=by
 first|rfl|simp[Around.under,Code.cUnits,Code.frames,Code.isFrame]
theorem fy.make{k:Nat}{A:Around}(r:fy (k+1) A)(C:Addr)(us:List Value)(kw:List (Str×Value)):fy k (A.under (.builtin "type.__call__" ⟨.ref C::us,kw⟩)) :=
 ⟨r.hd,by have:=r.dp;rw[GB];omega,by have:=r.un;rw[GC];omega⟩
theorem fy.depth{k:Nat}{A:Around}(r:fy k A):A.depth<recursionLimit:=by have:=r.dp;omega
theorem fy.units{k:Nat}{A:Around}(r:fy k A):A.units+64<cLine:=by have:=r.un;omega
def KS:TA:=fun _ H Q=>Q [] H
def Ol(ta:TE)(tr:TA):TA:=fun σ H Q=>ta σ H fun x H1=>tr σ H1 fun xs H2=>Q (x::xs) H2
section
variable{X:Cx}{e:Expr}{es:List Expr}{te:TE}{t:TA}{pos:Pos}
theorem ae:PA X [] KS:=fun _ _ _ _ H Q I h=>Calls.spliced_nil ⟨[],H,I,.nil,h⟩
theorem aa(ha:PE X e te)(hr:PA X es t)(hs:starEach (e::es) X.env=(false,eval e X.env)::starEach es X.env:=by rfl):PA X (e::es) (Ol te t):=by
 intro pos pins s σ H Q I h
 rw[hs]
 show wpAny _ _ (spliced ((false,eval e X.env)::backTo pos (starEach es X.env))) _ _ s
 refine Calls.spliced_cons (cM (ha pins s σ H _ I h) fun u s1 ⟨x,H1,I1,r1,q1⟩=>?_)
 exact cM (hr pos pins s1 σ H1 _ I1 q1) fun us s2 ⟨xs,H2,I2,r2,q2⟩=>⟨x::xs,H2,I2,.cons r1 r2,q2⟩
def PZ(t:TA):TE:=fun σ H Q=>t σ H fun xs H1=>xs.length≤sizeLine∧∀p,H1 p=none→Q (.ref p) (upd H1 p (.tup xs))
def PR(t:TA):TE:=fun σ H Q=>t σ H fun xs H1=>xs.length≤sizeLine∧∀p,H1 p=none→Q (.ref p) (upd H1 p (.lst xs))
theorem GX{x1} (h:PA X es t):PE X (.Tuple es x1 pos) (PZ t):=by
 intro pins s σ H Q I hq
 refine wpAny_Tuple_spliced (cM (h pos pins s σ H _ I hq) fun us s1 ⟨xs,H1,I1,r,z,q⟩=>⟨by rw[←r.length];exact z,?_⟩)
 have hf:H1 s1.heap.objs.size=none:=I1.cp.fresh (QP _)
 refine⟨.ref s1.heap.objs.size,upd H1 s1.heap.objs.size (.tup xs),I1.laid (t':=s1.toks) (fun b u e=>Heap.get?_push_of_some _ e) (QP _) ?_,rfl,q _ hf⟩
 exact⟨z,us,r,⟨_,Heap.get?_push_size _ rfl,rfl,_,rfl⟩⟩
theorem aE(h:PA X es t):PE X (.List es pos) (PR t):=by
 intro pins s σ H Q I hq
 refine wpAny_List_spliced (cM (h pos pins s σ H _ I hq) fun us s1 ⟨xs,H1,I1,r,z,q⟩=>⟨by rw[←r.length];exact z,?_⟩)
 have hf:H1 s1.heap.objs.size=none:=I1.cp.fresh (QP _)
 refine⟨.ref s1.heap.objs.size,upd H1 s1.heap.objs.size (.lst xs),I1.laid (t':=s1.toks) (fun b u e=>Heap.get?_push_of_some _ e) (QP _) ?_,rfl,q _ hf⟩
 exact⟨z,us,0,r,Heap.get?_push_size _ rfl⟩
end
abbrev Sp:=List V→Hp→VK→XK→Prop
abbrev Jz:=List Env→Hp→Shared→XK→Value→Shared→Prop
structure FO(P:Program)(w:World)(K:Frg)(mg:Str→Option Value)(base:Heap)(A:Around)(outer:List Env)(s:Shared)(H:Hp):Prop where
 frames:A.frames=some outer
 mod:Mod K mg base
 bs:∀b o,base.get? b=some o→s.heap.get? b=some o∧H b=none
 Lw:base.objs.size≤s.heap.objs.size
 yf:s.heap.FunFrames base outer
 MM:∀b∈J3 outer,H b=none
 cp:ux P w H s.heap
 bare:AllBare s.gens
def CE(outer:List Env)(P:Program)(w:World)(H:Hp)(s:Shared)(Q:VK)(u:Value)(s':Shared):Prop :=
 ∃v H',s'.os=s.os∧AllBare s'.gens∧Un (J3 outer) [] H H' s.heap s'.heap∧ux P w H' s'.heap∧RelV v u∧Q v H'
def CR(CX:Jz)(outer:List Env)(P:Program)(w:World)(H:Hp)(s:Shared)(Q:VK)(E:XK)(r:Result)(s':Shared):Prop :=
 match r with
 | .ok (.ret u)=>CE outer P w H s Q u s'
 | .ok _=>False
 | .error e=>CX outer H s E e s'
structure oP(P:Program)(w:World)(K:Frg)(mg:Str→Option Value)(base:Heap)(CX:Jz)(k:Nat)(f:Addr)(fd:FuncData)(ps:List Str)(sp:Sp):Prop where
 len:∀vs H Q E,sp vs H Q E→vs.length=ps.length
 run:∀(A:Around)(outer:List Env)(s:Shared)(H:Hp)(args:Args)(us:List Value)(vs:List V)(Q:VK)(E:XK),fy k A→FO P w K mg base A outer s H→BindsTo s fd args (ps.zip us)→Vals vs us→sp vs H Q E →
  codeAny (model P w) A (.call (.ref f) args) (CR CX outer P w H s Q E) s
theorem FO.make{P:Program}{w:World}{K:Frg}{mg:Str→Option Value}{base:Heap}{A:Around}{outer:List Env}{s:Shared}{H:Hp}(e:FO P w K mg base A outer s H)(C:Addr)(us:List Value)(kw:List (Str×Value)) :
  FO P w K mg base (A.under (.builtin "type.__call__" ⟨.ref C::us,kw⟩)) outer s H:=⟨by first|exact e.frames|(simpa[Around.under,Code.envs,Code.isFrame,pushEnvs]using e.frames),e.mod,e.bs,e.Lw,e.yf,e.MM,e.cp,e.bare⟩
section
variable{X:Cx}{pins:List (Addr×Obj)}{σ:St}{H:Hp}{s s':Shared}
theorem Inv.NS(I:Inv X pins σ H s):FO X.prog X.w X.K X.mg X.base X.A X.stack s H :=
 ⟨I.ok.frames,I.ok.mod,I.bs,QK I.ok.Lw I.sz,I.stack,I.HY,I.cp,I.bare⟩
theorem Inv.after{Q:VK}{u:Value}(I:Inv X pins σ H s)(h:CE X.stack X.prog X.w H s Q u s'):EP X pins σ Q u s':=by
 obtain⟨v,H',os,bare,un,cp,r,q⟩:=h
 obtain⟨hh,g,d,t,os'⟩:=s'
 obtain rfl:os'=s.os:=os
 exact⟨v,H',I.call (h':=hh) (g':=g) (d':=d) (t':=t) (ch:=[]) un cp bare (fun b z=>absurd z (by simp)),r,q⟩
end
def My(sp:Sp)(dvs:List V)(E:XK)(t:TA):TE:=fun σ H Q=>t σ H fun vs H1=>sp (vs++dvs) H1 Q E
def Ia(C:Addr)(m:Str)(sp:Sp)(dvs:List V)(E:XK)(ta:TE)(t:TA):TE:=fun σ H Q=>ta σ H fun x H1=>E3 fun a dx fs=>A4 (x=.ref a) (H1 a=some (.ins C dx fs)) (fs.lookup m=none) (t σ H1 fun vs H2=>sp (x::(vs++dvs)) H2 Q E)
def FD(C:Addr)(sp:Sp)(dvs:List V)(E:XK)(t:TA):TE:=fun σ H Q=>t σ H fun vs H1=>∀x dx,H1 x=none→H1 dx=none→dx≠x →
 sp (.ref x::(vs++dvs)) (upd (upd H1 dx (.own x)) x (.ins C dx [])) (fun v H2=>v=.non∧Q (.ref x) H2) E
def Binds(K:Frg)(fd:FuncData)(ps:List Str)(ds:List Value):Prop :=
 ∀(s:Shared)(us:List Value),K.In s.heap→(us++ds).length=ps.length→BindsTo s fd ⟨us,[]⟩ (ps.zip (us++ds))
theorem Binds.all{K:Frg}{fd:FuncData}{ps:List Str}(h:∀us:List Value,us.length=ps.length→bindArgs fd ⟨us,[]⟩=pure (ps.zip us)):Binds K fd ps []:=fun s us _ hl=>by
 rw[S7]at hl ⊢
 exact .of_eq (h us hl)
def Passes(CX:Jz)(X:Cx)(E:XK):Prop:=∀(pins:List (Addr×Obj))(σ:St)(H:Hp)(s:Shared)(e:Value)(s':Shared),Inv X pins σ H s→CX X.stack H s E e s'→X.xe e s'
section
variable{X:Cx}{CX:Jz}{k:Nat}{f C:Addr}{fd:FuncData}{ps:List Str}{sp:Sp}{dvs:List V}{ds:List Value}{E:XK}{x m:Str}{p pos apos:Pos}{e o:Expr}{es:List Expr}{ta:TE}{t:TA}
theorem DO{pins:List (Addr×Obj)}{σ:St}{H:Hp}{s:Shared}{Q:VK}{us:List Value}{vs:List V}(F:oP X.prog X.w X.K X.mg X.base CX k f fd ps sp)(hr:fy k X.A)(hb:Binds X.K fd ps ds)(hd:Vals dvs ds)(hx:Passes CX X E)
  (I:Inv X pins σ H s)(r:Vals vs us)(h:sp (vs++dvs) H Q E):wpAny (model X.prog X.w) X.A (call (.ref f) us) (EP X pins σ Q) X.xe s:=by
 have r2:Vals (vs++dvs) (us++ds):=r.append hd
 have hl:(us++ds).length=ps.length:=by rw[←r2.length];exact F.len _ _ _ _ h
 refine wpAny_call (Uj (F.run X.A X.stack s H ⟨us,[]⟩ (us++ds) (vs++dvs) Q E hr I.NS (hb s us I.FN hl) r2 h) fun r s' hq=>?_)
 cases r with
 | error e=>exact hx pins σ H s e s' I hq
 | ok fl =>
  cases fl with
  | ret u=>exact I.after hq
  | next=>exact False.elim hq
  | brk=>exact False.elim hq
  | cont=>exact False.elim hq
theorem LQ(F:oP X.prog X.w X.K X.mg X.base CX k f fd ps sp)(hr:fy k X.A)(hg:Gl X x)(hm:X.mg x=some (.ref f))(hk:PySem.W.keepIn X.K (.ref f)=true)(hb:Binds X.K fd ps ds)(hd:Vals dvs ds)(hx:Passes CX X E)
  (ha:PA X (e::es) t)(hdb:(x==("__debug__":Str))=false:=by decide)(he:starEach (e::es) X.env=(false,eval e X.env)::starEach es X.env:=by rfl)(hpl:(backTo pos (starEach es X.env)).any (·.1)=false:=by rfl) :
  PE X (.Call (.Name x p) (e::es) [] pos) (My sp dvs E t):=by
 intro pins s σ H Q I h
 refine RY (yB I hg hm ?_ hdb)
 refine PySem.W.callWith_K (h₀:=X.base) I.ok.mod.Nv hk (cM (ha pos pins s σ H _ I h) fun us s1 ⟨vs,H1,I1,r,q⟩=>⟨I1.FN,?_⟩) he hpl
 exact DO F hr hb hd hx I1 r q
theorem LU{pl:Sem Bool}(he:PE X o ta)(c:Ec X.K C)(hm:Meth X.K C m f)(F:oP X.prog X.w X.K X.mg X.base CX k f fd ps sp)(hr:fy k X.A)(hb:Binds X.K fd ps ds)(hd:Vals dvs ds)(hx:Passes CX X E)(ha:PA X (e::es) t)
  (hst:starEach (e::es) X.env=(false,eval e X.env)::starEach es X.env:=by rfl)(hpl:(backTo pos (starEach es X.env)).any (·.1)=false:=by rfl)
  (ht:eval (.Call (.Attribute o m apos) (e::es) [] pos) X.env=(do
   let ov ←eval o X.env
   standAt apos.atName
   let (f,first) ←holding [ov] (getMethod ov m pl)
   callWith pos f first (backTo pos (starEach (e::es) X.env)) (backToKw pos (keywordEach [] X.env))):=by rfl) :
  PE X (.Call (.Attribute o m apos) (e::es) [] pos) (Ia C m sp dvs E ta t):=by
 intro pins s σ H Q I h
 refine PySem.W.methodCall_KW (pl:=pl) (cM (he pins s σ H _ I h) fun u s1 ⟨x,H1,I1,rx,a,dx,fs,ex,ea,l,q⟩=>?_) ht
 subst ex
 obtain rfl:u=Value.ref a:=rx
 refine zg I1 ea c hm l ?_
 refine PySem.W.callWith_K (first:=[.ref a]) (h₀:=X.base) I.ok.mod.Nv hm.kp (cM (ha pos pins s1 σ H1 _ I1 q) fun us s2 ⟨vs,H2,I2,r,q2⟩=>⟨I2.FN,?_⟩) hst hpl
 exact DO (us:=.ref a::us) (vs:=.ref a::vs) F hr hb hd hx I2 (.cons rfl r) q2
theorem Kv{pl:Sem Bool}(he:PE X o ta)(c:Ec X.K C)(hm:Meth X.K C m f)(F:oP X.prog X.w X.K X.mg X.base CX k f fd ps sp)(hr:fy k X.A)(hb:Binds X.K fd ps ds)(hd:Vals dvs ds)(hx:Passes CX X E)
  (ht:eval (.Call (.Attribute o m apos) [] [] pos) X.env=(do
   let ov ←eval o X.env
   standAt apos.atName
   let (f,first) ←holding [ov] (getMethod ov m pl)
   callWith pos f first (backTo pos (starEach [] X.env)) (backToKw pos (keywordEach [] X.env))):=by rfl) :
  PE X (.Call (.Attribute o m apos) [] [] pos) (Ia C m sp dvs E ta KS):=by
 intro pins s σ H Q I h
 refine PySem.W.methodCall_KW (pl:=pl) (cM (he pins s σ H _ I h) fun u s1 ⟨x,H1,I1,rx,a,dx,fs,ex,ea,l,q⟩=>?_) ht
 subst ex
 obtain rfl:u=Value.ref a:=rx
 refine zg I1 ea c hm l ?_
 exact PySem.W.callWith_K0 (first:=[.ref a]) I1.FN hm.kp (DO (us:=[.ref a]) (vs:=[.ref a]) F hr hb hd hx I1 (.cons rfl .nil) q)
structure Mk(K:Frg)(C f:Addr):Prop where
 makes:PySem.W.makesIn K C=true
 init:PySem.W.findIn K (.ref C) "__init__"=some (some (.ref f))
 fn:PySem.W.isFn K (.ref f)=true
 kp:PySem.W.keepIn K (.ref C)=true
theorem Fg{pins:List (Addr×Obj)}{σ:St}{H:Hp}{s:Shared}{Q:VK}{us:List Value}{vs:List V}(M:Mk X.K C f)(F:oP X.prog X.w X.K X.mg X.base CX k f fd ps sp)(hr:fy (k+1) X.A)(hb:Binds X.K fd ps ds)(hd:Vals dvs ds)
  (hx:Passes CX X E)(I:Inv X pins σ H s)(r:Vals vs us)
  (h:∀x dx,H x=none→H dx=none→dx≠x→sp (.ref x::(vs++dvs)) (upd (upd H dx (.own x)) x (.ins C dx [])) (fun v H2=>v=.non∧Q (.ref x) H2) E) :
  wpAny (model X.prog X.w) X.A (call (.ref C) us) (EP X pins σ Q) X.xe s:=by
 have hq:=h (s.heap.objs.size+1) s.heap.objs.size (I.cp.fresh (VT _)) (I.cp.fresh (QP _)) (Rj (Uw _))
 have I2:=Inv.made (C:=C) I
 have r2:Vals (V.ref (s.heap.objs.size+1)::(vs++dvs)) (Value.ref (s.heap.objs.size+1)::(us++ds)):=.cons rfl (r.append hd)
 have hl:(Value.ref (s.heap.objs.size+1)::us++ds).length=ps.length:=by
  have e:=r2.length
  rw[F.len _ _ _ _ hq]at e
  exact e.symm
 refine wpAny_call (Ki (f:=f) I.FN M.makes M.init (beq_iff_eq.mp M.fn) (Uj (F.run _ X.stack _ _ ⟨Value.ref (s.heap.objs.size+1)::us,[]⟩ (Value.ref (s.heap.objs.size+1)::(us++ds)) _ _ E (hr.make C us [])
  (I2.NS.make C us []) (hb _ (Value.ref (s.heap.objs.size+1)::us) I2.FN hl) r2 hq) fun r s' hq'=>?_))
 cases r with
 | error e=>exact hx pins σ _ _ e s' I2 hq'
 | ok fl =>
  cases fl with
  | ret u =>
   obtain⟨v,H',I3,rv,ev,q3⟩:=I2.after hq'
   subst ev
   exact⟨rv,⟨V.ref (s.heap.objs.size+1),H',I3,rfl,q3⟩⟩
  | next=>exact False.elim hq'
  | brk=>exact False.elim hq'
  | cont=>exact False.elim hq'
theorem LS(M:Mk X.K C f)(F:oP X.prog X.w X.K X.mg X.base CX k f fd ps sp)(hr:fy (k+1) X.A)(hg:Gl X x)(hm:X.mg x=some (.ref C))(hb:Binds X.K fd ps ds)(hd:Vals dvs ds)(hx:Passes CX X E)
  (ha:PA X (e::es) t)(hdb:(x==("__debug__":Str))=false:=by decide)(he:starEach (e::es) X.env=(false,eval e X.env)::starEach es X.env:=by rfl)(hpl:(backTo pos (starEach es X.env)).any (·.1)=false:=by rfl) :
  PE X (.Call (.Name x p) (e::es) [] pos) (FD C sp dvs E t):=by
 intro pins s σ H Q I h
 refine RY (yB I hg hm ?_ hdb)
 refine PySem.W.callWith_K (h₀:=X.base) I.ok.mod.Nv M.kp (cM (ha pos pins s σ H _ I h) fun us s1 ⟨vs,H1,I1,r,q⟩=>⟨I1.FN,?_⟩) he hpl
 exact Fg M F hr hb hd hx I1 r q
theorem Ku(M:Mk X.K C f)(F:oP X.prog X.w X.K X.mg X.base CX k f fd ps sp)(hr:fy (k+1) X.A)(hg:Gl X x)(hm:X.mg x=some (.ref C))(hb:Binds X.K fd ps ds)(hd:Vals dvs ds)(hx:Passes CX X E)
  (hdb:(x==("__debug__":Str))=false:=by decide):PE X (.Call (.Name x p) [] [] pos) (FD C sp dvs E KS):=by
 intro pins s σ H Q I h
 refine RY (yB I hg hm ?_ hdb)
 exact PySem.W.callWith_K0 I.FN M.kp (Fg (us:=[]) M F hr hb hd hx I .nil h)
end
structure ay(N P:List Str)(sc:Scope):Prop where
 kind:sc.kind=.function
 co:sc.isCoroutine=false
 gen:sc.isGenerator=false
 nd:N.Nodup
 pre:N.take P.length=P
 par:∀x∈P,sc.names.lookup x=some .local∨sc.names.lookup x=some .cell
 MY:∀y∈sc.names,y.2≠.free
theorem BY{kindOf:Str→Option NameKind}{x:Str}:∀{binds:List (Str×Value)}{m:Str→Option Value},(∀v,(x,v)∉binds)→bindL kindOf binds m x=m x
 | [],_,_=>rfl
 | (n,v)::r,m,h=>by
  unfold bindL
  rw[BY fun w hw=>h w (Q4 _ hw)]
  split
  ·have:x≠n:=by rintro rfl;exact h v Rc
   simp[this]
  ·rfl
theorem BW{kindOf:Str→Option NameKind}{x:Str}:∀{binds:List (Str×Value)}{m:Str→Option Value},(∀v,(x,v)∉binds)→bindC kindOf binds m x=m x
 | [],_,_=>rfl
 | (n,v)::r,m,h=>by
  unfold bindC
  rw[BW fun w hw=>h w (Q4 _ hw)]
  split
  ·rfl
  ·have:x≠n:=by rintro rfl;exact h v Rc
   simp[this]
theorem BX{kindOf:Str→Option NameKind}{x:Str}{v:Value}:∀{P:List Str}{vs:List Value}{i:Nat}{m:Str→Option Value},P.Nodup→P[i]?=some x→vs[i]?=some v→kindOf x=some .local →
  bindL kindOf (P.zip vs) m x=some v
 | [],_,_,_,_,h,_,_=>by simp at h
 | _::_,[],_,_,_,_,h,_=>by simp at h
 | p::P,w::vs,0,m,nd,h1,h2,hk=>by
  simp at h1 h2;subst h1;subst h2
  show bindL kindOf ((p,w)::P.zip vs) m p=_
  unfold bindL
  rw[BY fun v hv=>(Rh.mp nd).1 (TM hv).1,if_pos hk]
  simp
 | p::P,w::vs,i+1,m,nd,h1,h2,hk=>by
  show bindL kindOf ((p,w)::P.zip vs) m x=_
  unfold bindL
  exact BX (i:=i) (Rh.mp nd).2 (by simpa using h1) (by simpa using h2) hk
theorem BV{kindOf:Str→Option NameKind}{x:Str}{v:Value}:∀{P:List Str}{vs:List Value}{i:Nat}{m:Str→Option Value},P.Nodup→P[i]?=some x→vs[i]?=some v→kindOf x≠some .local →
  bindC kindOf (P.zip vs) m x=some v
 | [],_,_,_,_,h,_,_=>by simp at h
 | _::_,[],_,_,_,_,h,_=>by simp at h
 | p::P,w::vs,0,m,nd,h1,h2,hk=>by
  simp at h1 h2;subst h1;subst h2
  show bindC kindOf ((p,w)::P.zip vs) m p=_
  unfold bindC
  rw[BW fun v hv=>(Rh.mp nd).1 (TM hv).1,if_neg hk]
  simp
 | p::P,w::vs,i+1,m,nd,h1,h2,hk=>by
  show bindC kindOf ((p,w)::P.zip vs) m x=_
  unfold bindC
  exact BV (i:=i) (Rh.mp nd).2 (by simpa using h1) (by simpa using h2) hk
def start(N:List Str)(vs:List V):St:=vs.map some++QU (N.length-vs.length) none
def IA(CX:Jz)(P:Program)(w:World)(K:Frg)(mg:Str→Option Value)(base:Heap)(N:List Str)(qual:Str)(scope:Scope)(f:Addr)(cd:Value)(A:Around)(outer:List Env)(s:Shared)(H:Hp)(E:XK):Cx where
 prog:=P
 w:=w
 K:=K
 mg:=mg
 base:=base
 A:=A.deeper (envOfC qual scope s.heap.objs.size f cd)
 N:=N
 Cj:=s
 ND:=H
 env:=envOfC qual scope s.heap.objs.size f cd
 outer:=outer
 stack:=envOfC qual scope s.heap.objs.size f cd::outer
 ex:=[]
 calm:=true
 fn:=fun _=>true
 pn:=[]
 xe:=fun e s'=>wpAny (model P w) (A.deeper (envOfC qual scope s.heap.objs.size f cd)) (leaving (envOfC qual scope s.heap.objs.size f cd) e) (fun _ s''=>CX outer H s E e s'') (fun e' s''=>CX outer H s E e' s'') s'
theorem Ek{sc:Scope}{n:Nat}{x:Str}(h:sc.names.lookup x=some .cell):∃c,(cellsFrom n sc.names []).lookup x=some c:=by
 have q:=PySem.W.cellsFrom_some sc.names n [] (.inl h)
 exact Option.isSome_iff_exists.mp q
theorem IV{CX:Jz}{P:Program}{w:World}{K:Frg}{mg:Str→Option Value}{base:Heap}{N ps:List Str}{qual:Str}{scope:Scope}{f:Addr}{cd:Value}{A:Around}{outer:List Env}{s s1:Shared}{H:Hp}{E:XK}{us:List Value}{vs:List V}
  (S:ay N ps scope)(hd:A.handled=none)(e0:FO P w K mg base A outer s H)(hl:vs.length=ps.length)(r:Vals vs us)
  (x:InCallC s s.heap.objs.size (bindL (envOfC qual scope s.heap.objs.size f cd).kindOf (ps.zip us) fun _=>none) (cellsFrom (s.heap.objs.size+1) scope.names []) (bindC (envOfC qual scope s.heap.objs.size f cd).kindOf (ps.zip us) fun _=>none) s1) :
  Inv (IA CX P w K mg base N qual scope f cd A outer s H E) [] (start N vs) H s1:=by
 have hpl:ps.length≤N.length:=by have:=congrArg SJ S.pre;rw[QZ]at this;omega
 obtain⟨h1,tk,rfl,hk⟩:=x.done
 have noA:∀b:Addr,b∉(IA CX P w K mg base N qual scope f cd A outer s H E).ex:=fun b z=>absurd (show b∈([]:List Addr)from z) (by simp)
 refine⟨⟨e0.mod,S.kind,rfl,rfl,QP _,fun y z c h1 h2=>?_,fun y hy=>?_,fun y c _ h=>?_,fun _=>hd,Around.frames_deeper e0.frames,.inr ⟨rfl,rfl⟩,fun b z=>absurd z (noA b),e0.bs,e0.Lw,fun b _ _=>noA b,fun b z=>absurd z (noA b),e0.yf,e0.MM⟩,
  rfl,e0.bare,Un.kept hk,⟨_,x.toInCall.ns,fun i y v h1 h2 h3=>?_⟩,fun y c h=>⟨_,x.cell y c h⟩,e0.cp.fresh (QP _),fun y c h=>?_,fun p hp=>absurd (show p∈([]:List (Addr×Obj))from hp) (by simp),e0.cp.kept hk,?_⟩
 ·exact name_of_addr x.apart (PySem.mem_of_lookup h1) (PySem.mem_of_lookup h2)
 ·have hy:scope.names.lookup y=some .cell∨scope.names.lookup y=some .free:=hy
  rcases hy with hy|hy
  ·exact Ek hy
  ·exact absurd rfl (S.MY _ (PySem.mem_of_lookup hy))
 ·exact RI (x.above y c (PySem.mem_of_lookup h))
 ·have hi:i<vs.length:=by
   unfold start at h2
   by_cases hi:i<vs.length
   ·exact hi
   ·rw[QX (by simpa using hi)]at h2
    rw[Sy]at h2
    split at h2<;>cases h2
  have ha:vs[i]?=some v:=by
   unfold start at h2
   rw[Q0 (by simpa using hi),QI]at h2
   cases e:vs[i]? with
   | none=>rw[e]at h2;cases h2
   | some a=>rw[e]at h2;cases h2;rfl
  obtain⟨u,hu,rv⟩:=r.get ha
  have hp:ps[i]?=some y:=by
   rw[←S.pre,Vg (by omega)];exact h1
  have ndP:ps.Nodup:=by rw[←S.pre];exact S.nd.sublist (List.take_sublist _ _)
  refine⟨u,rv,?_⟩
  rcases S.par y (QL hp)with k|k
  ·exact .inl ⟨k,BX ndP hp hu k⟩
  ·obtain⟨c,e⟩:=Ek (n:=s.heap.objs.size+1) k
   refine .inr ⟨.inl k,c,e,?_⟩
   have q:=x.cell y c e
   rw[BV ndP hp hu (by show scope.names.lookup y≠_;rw[k];decide)]at q
   exact q
 ·exact e0.cp.fresh (RI (x.above y c (PySem.mem_of_lookup h)))
 ·unfold start
  show _=N.length
  rw[QN,QH,RE]
  omega
theorem NT{CX:Jz}{P:Program}{w:World}{K:Frg}{mg:Str→Option Value}{base:Heap}{k:Nat}{f:Addr}{name qual:Str}{params:Arguments}{body:List Stmt}{scope:Scope}{dV kV doc pm cdv ct oc:Value}{an od:Option Addr}
  {osl:Array (Option Value)}{N ps:List Str}{sp:Sp}(lk:K.lookup f=some ⟨oc,od,.func (PySem.W.fnOf name qual params body scope dV kV doc pm an cdv ct),osl⟩)(hcd:PySem.W.codeIn K cdv qual=true)(S:ay N ps scope)
  (len:∀vs H Q E,sp vs H Q E→vs.length=ps.length)
  (hbody:∀(A:Around)(outer:List Env)(s:Shared)(H:Hp)(vs:List V)(Q:VK)(E:XK),fy k (A.deeper (envOfC qual scope s.heap.objs.size f cdv))→sp vs H Q E →
   ∃t,Ij (IA CX P w K mg base N qual scope f cdv A outer s H E) body t∧t {nx:=fun _ H'=>Q .non H',rt:=Q} (start N vs) H) :
  oP P w K mg base CX (k+1) f (PySem.W.fnOf name qual params body scope dV kV doc pm an cdv ct) ps sp:=by
 refine⟨len,fun A outer s H args us vs Q E hr e0 hb r hsp=>?_⟩
 have hl:=len _ _ _ _ hsp
 have KX:K.In s.heap:=e0.mod.Nv.keeps fun b o e=>(e0.bs b o e).1
 have lim:s.heap.NoLimit:=e0.mod.nolimit.keeps fun b o e=>(e0.bs b o e).1
 have hkind:∀y∈ps.zip us,scope.names.lookup y.1=some .local∨(scope.names.lookup y.1=some .cell∧((cellsFrom (s.heap.objs.size+1) scope.names []).lookup y.1).isSome=true):=fun⟨n,v⟩ hy=>by
  rcases S.par n (TM hy).1 with q|q
  ·exact .inl q
  ·exact .inr ⟨q,PySem.W.cellsFrom_some _ _ _ (.inl q)⟩
 refine codeAny_call_function hr.depth (KX _ _ lk) rfl S.co S.gen rfl (PySem.W.codeRec_of KX hcd) (hb _ _ _ _ ?_)
 refine wpAny_newFunctionEnv_cells S.kind hkind fun env he s1 x=>?_
 subst he
 refine⟨lim.keeps x.toInCall.keep,codeAny_func ?_⟩
 obtain⟨t,ht,hq⟩:=hbody A outer s H vs Q E (hr.deeper _) hsp
 have I:Inv (IA CX P w K mg base N qual scope f cdv A outer s H E) [] (start N vs) H s1:=IV S hr.hd e0 hl r x
 refine wpAny_mono (ht [] s1 (start N vs) H _ I hq) (fun fl s' hs=>?_) fun e s' hs=>hs
 have fin:∀{σ':St}{H':Hp}{v:V}{u:Value},Inv (IA CX P w K mg base N qual scope f cdv A outer s H E) [] σ' H' s'→RelV v u→Q v H'→CE outer P w H s Q u s' :=
  fun{σ' H' v u} J rv q=>⟨v,H',J.os,J.bare,J.base,J.cp,rv,q⟩
 cases fl with
 | ret u =>
  obtain⟨v,σ',H',J,rv,q⟩:=hs
  exact fin J rv q
 | next =>
  obtain⟨σ',H',J,q⟩:=hs
  exact fin (v:=V.non) (u:=Value.none) J rfl q
 | brk =>
  obtain⟨_,_,_,q⟩:=hs
  exact False.elim q
 | cont =>
  obtain⟨_,_,_,q⟩:=hs
  exact False.elim q
section
variable{X:Cx}{x:Str}{p pos:Pos}{e:Expr}{es:List Expr}{t:TA}{id T:String}{r:List V→Hp→VK→Prop}
def Qj(r:List V→Hp→VK→Prop)(t:TA):TE:=fun σ H Q=>t σ H fun vs H1=>r vs H1 Q
theorem aH(hc:o8 X (.builtin id) r)(hg:Gl X x)(hm:X.mg x=none)(hv:bootBuiltins x=some (.builtin id))(ha:PA X (e::es) t)(hn:x≠"__name__":=by decide)(hdb:(x==("__debug__":Str))=false:=by decide)
  (he:starEach (e::es) X.env=(false,eval e X.env)::starEach es X.env:=by rfl)(hpl:(backTo pos (starEach es X.env)).any (·.1)=false:=by rfl):PE X (.Call (.Name x p) (e::es) [] pos) (Qj r t):=by
 intro pins s σ H Q I h
 refine RY (gx I hg hm hv ?_ hn hdb)
 exact PyProof.Rows.callWith_builtin1 (cM (ha pos pins s σ H _ I h) fun us s1 ⟨vs,H1,I1,r1,q1⟩=>hc pins s1 σ H1 vs us Q I1 r1 q1) he hpl
theorem Cd(hc:o8 X (.type T) r)(hg:Gl X x)(hm:X.mg x=none)(hv:bootBuiltins x=some (.type T))(ha:PA X (e::es) t)(hn:x≠"__name__":=by decide)(hdb:(x==("__debug__":Str))=false:=by decide)
  (he:starEach (e::es) X.env=(false,eval e X.env)::starEach es X.env:=by rfl)(hpl:(backTo pos (starEach es X.env)).any (·.1)=false:=by rfl):PE X (.Call (.Name x p) (e::es) [] pos) (Qj r t):=by
 intro pins s σ H Q I h
 refine RY (gx I hg hm hv ?_ hn hdb)
 exact PyProof.Rows.callWith_type1 (cM (ha pos pins s σ H _ I h) fun us s1 ⟨vs,H1,I1,r1,q1⟩=>hc pins s1 σ H1 vs us Q I1 r1 q1) he hpl
end
end L2
namespace HT
open PySem PyProof.Rows
section
variable{prog:Program}{w:World}{A:Around}{E:Value→Shared→Prop}{s:Shared}
def zZ(n d:Nat):Option Int→Nat
 | none=>d
 | some v=>if v<0 then(v+(n:Int)).toNat else min v.toNat n
theorem Aa(n d:Nat):zZ n d none=d:=rfl
theorem vi(n d k:Nat):zZ n d (some (k:Int))=min k n:=by
 show(if (k:Int)<0 then((k:Int)+(n:Int)).toNat else min (k:Int).toNat n)=min k n
 rw[if_neg (by omega),QW]
end
end HT
namespace L2
open PySem PySem.Spec PyProof.Rows
abbrev TO:=St→Hp→(Option Int→Hp→Prop)→Prop
def PO(X:Cx)(e:Option Expr)(t:TO):Prop :=
 ∀(pins:List (Addr×Obj))(s:Shared)(σ:St)(H:Hp)(Q:Option Int→Hp→Prop),Inv X pins σ H s→t σ H Q →
  wpAny (model X.prog X.w) X.A (evalPart e X.env) (fun u s'=>∃o H',Inv X pins σ H' s'∧IsPart u o∧Q o H') X.xe s
def Mc:TO:=fun _ H Q=>Q none H
def KU(t:TE):TO:=fun σ H Q=>t σ H fun x H1=>EA (fun i=>x=.int i) (fun i=>Q (some i) H1)
section
variable{X:Cx}{e:Expr}{te:TE}{lo hi:Option Expr}{tl th:TO}{pos p2:Pos}
theorem jP:PO X none Mc:=by
 intro pins s σ H Q I h
 rw[V5]
 exact wpAny_pure ⟨none,H,I,.none,h⟩
theorem bY(h:PE X e te):PO X (some e) (KU te):=by
 intro pins s σ H Q I hw
 rw[evalPart_some]
 refine cM (h pins s σ H _ I hw) fun u s1 ⟨x,H1,I1,r1,q1⟩=>?_
 obtain⟨i,rfl,q⟩:=q1
 obtain⟨t,rfl⟩:=r1
 exact⟨some i,H1,I1,.int i t,q⟩
def P2(X:Cx)(r:V→Option Int→Option Int→Hp→VK→Prop):Prop :=
 ∀(pins:List (Addr×Obj))(s:Shared)(σ:St)(H:Hp)(x:V)(v vl vu:Value)(lo hi:Option Int)(sl:Addr)(Q:VK),Inv X pins σ H s→RelV x v→s.heap.IsSliceOf sl vl vu .none→IsPart vl lo→IsPart vu hi→r x lo hi H Q →
  ∃T id,typeLookup (.type T) "__getitem__"=pure (some (.builtin id))∧s.TypeIs v T∧wpAny (model X.prog X.w) X.A (getItem v (.ref sl)) (EP X pins σ Q) X.xe s
def QC(r:V→Option Int→Option Int→Hp→VK→Prop)(te:TE)(tl th:TO):TE:=fun σ H Q=>te σ H fun x H1=>tl σ H1 fun l H2=>th σ H2 fun u H3=>r x l u H3 Q
theorem cW{r:V→Option Int→Option Int→Hp→VK→Prop}(hr:P2 X r)(he:PE X e te)(hl:PO X lo tl)(hu:PO X hi th):PE X (.Subscript e (.Slice lo hi none p2) pos) (QC r te tl th):=by
 intro pins s σ H Q I h
 refine Subscript_ (cM (he pins s σ H _ I h) fun v s1 ⟨x,H1,I1,r1,q1⟩=>?_)
 refine wpAny_Slice (cM (hl pins s1 σ H1 _ I1 q1) fun vl s2 ⟨l,H2,I2,pl,q2⟩=>cM (hu pins s2 σ H2 _ I2 q2) fun vu s3 ⟨u,H3,I3,pu,q3⟩=>?_)
 rw[V5]
 refine wpAny_pure ?_
 have I4:Inv X pins σ H3 {s3 with heap:=s3.heap.push {cls:=.type "slice",data:=.fields #[vl,vu,.none]}}:=I3.kept (t':=s3.toks) fun b ob q=>Heap.get?_push_of_some _ q
 obtain⟨T,id,hT,ht,hg⟩:=hr pins {s3 with heap:=s3.heap.push {cls:=.type "slice",data:=.fields #[vl,vu,.none]}} σ H3 x v vl vu l u s3.heap.objs.size Q I4 r1 (Heap.IsSliceOf.new ..) pl pu q3
 show wpAny (model X.prog X.w) X.A (subscriptTail e (.Slice lo hi none p2) v (.ref s3.heap.objs.size)) (EP X pins σ Q) X.xe {s3 with heap:=s3.heap.push {cls:=.type "slice",data:=.fields #[vl,vu,.none]}}
 exact tail_any (ops:=[.ref s3.heap.objs.size,v]) ht hT hg (by with_unfolding_all rfl)
def j6(xs:List V)(lo hi:Option Int):List V:=(xs.drop (HT.zZ xs.length 0 lo)).take (HT.zZ xs.length xs.length hi-HT.zZ xs.length 0 lo)
theorem Eo(xs:List V)(lo hi:Option Int):(j6 xs lo hi).length≤xs.length:=by
 unfold j6
 rw[QZ,QY]
 exact QK (Rn ..) (Rq ..)
end
def J9(n:Nat)(i:Int):Option Nat:=if 0≤i then(if i<n then some i.toNat else none)else if -(n:Int)≤i then some (i+n).toNat else none
def Ls{α:Type}(xs:List α)(i:Int):Option α:=(J9 xs.length i).bind fun j=>xs[j]?
theorem HE{n:Nat}{i:Int}{j:Nat}(h:J9 n i=some j):seqIndex? i n=some j∧j<n∧-(n:Int)≤i∧i<n:=by
 unfold J9 at h
 by_cases h0:0≤i
 ·rw[if_pos h0]at h
  by_cases h1:i<n
  ·rw[if_pos h1]at h
   have e:i.toNat=j:=Rb h
   exact⟨by rw[seqIndex_of h0 h1,e],by omega,by omega,h1⟩
  ·rw[if_neg h1]at h;cases h
 ·rw[if_neg h0]at h
  by_cases h1:-(n:Int)≤i
  ·rw[if_pos h1]at h
   have e:(i+n).toNat=j:=Rb h
   exact⟨by rw[seqIndex_neg (by omega) h1,e],by omega,h1,by omega⟩
  ·rw[if_neg h1]at h;cases h
theorem Ht{α:Type}{xs:List α}{i:Int}{v:α}(h:Ls xs i=some v):∃j,seqIndex? i xs.length=some j∧xs[j]?=some v∧j<xs.length∧-(xs.length:Int)≤i∧i<xs.length:=by
 unfold Ls at h
 cases e:J9 xs.length i with
 | none=>rw[e]at h;cases h
 | some j =>
  rw[e]at h
  obtain⟨h1,h2,h3,h4⟩:=HE e
  exact⟨j,h1,h,h2,h3,h4⟩
theorem cR{α:Type}{xs:List α}{j:Nat}{v:α}(h:xs[j]?=some v):Ls xs (j:Int)=some v:=by
 have hj:j<xs.length:=(QO.mp h).1
 have e:J9 xs.length (j:Int)=some j:=by
  unfold J9
  rw[if_pos (by omega),if_pos (by omega)];simp
 unfold Ls;rw[e];exact h
def Ln(b:Expr):Prop:=∀o i,subscripted b false o i=operate [o,i] (getItem o i)
def OW(X:Cx)(r:R2):Prop :=
 ∀(value slice:Expr)(pins:List (Addr×Obj))(s:Shared)(σ:St)(H:Hp)(x y:V)(v u:Value)(Q:VK),Inv X pins σ H s→RelV x v→RelV y u→r x y H Q →
  subscripted slice false v u=operate [v,u] (getItem v u)→wpAny (model X.prog X.w) X.A (subscriptTail value slice v u) (EP X pins σ Q) X.xe s
def Qm(X:Cx)(id:String)(r:V→List V→Hp→VK→Prop):Prop :=
 ∀(pins:List (Addr×Obj))(s:Shared)(σ:St)(H:Hp)(x:V)(xs:List V)(v:Value)(us:List Value)(Q:VK),Inv X pins σ H s→RelV x v→Vals xs us→r x xs H Q →
  wpAny (model X.prog X.w) X.A (call (.builtin id) (v::us)) (EP X pins σ Q) X.xe s
section
variable{X:Cx}{a b:Expr}{ta tb:TE}{pos:Pos}
theorem aT{r:R2}(hr:OW X r)(ha:PE X a ta)(hb:PE X b tb)(hs:Ln b):PE X (.Subscript a b pos) (OJ r ta tb):=by
 intro pins s σ H Q I h
 exact Subscript_ (MF ha hb I h fun v u s2 x y H2 I2 rx ry q=>hr a b pins s2 σ H2 x y v u Q I2 rx ry q (hs _ _))
def Px(K:Frg):R2:=fun x y H Q=>E4 fun p xs i v=>A5 (x=.ref p) (y=.int i) (aF K H p xs) (Ls xs i=some v) (Q v H)
def Py(K:Frg):R2:=fun x y H Q=>E4 fun p xs i v=>A5 (x=.ref p) (y=.int i) (eQ K H p xs) (Ls xs i=some v) (Q v H)
theorem aG:OW X (Px X.K):=by
 intro value slice pins s σ H x y v u Q I rx ry h hs
 obtain⟨p,xs,i,z,rfl,rfl,hq,he,q⟩:=h
 cases rx
 obtain⟨t,rfl⟩:=ry
 obtain⟨its,r,pl,hz⟩:=I.list hq
 obtain⟨j,h1,h2,h3,h4,h5⟩:=Ht he
 obtain⟨w,ew,rw'⟩:=r.get h2
 have hl:=r.length
 have hn:=Dm
 have fin:EP X pins σ Q w s:=⟨z,H,I,rw',q⟩
 by_cases h0:0≤i
 ·have hj:i.toNat=j:=by
   rw[seqIndex_of h0 h5]at h1
   exact Rb h1
  exact item_listR pl.isList h0 (by omega) (by rw[hj];simpa using ew) fin hs
 ·have hj:(i+(its.toArray.size:Int)).toNat=j:=by
   rw[seqIndex_neg (by omega) h4]at h1
   rw[Q1,←hl]
   exact Rb h1
  exact Vs (x:=w) pl.isList.typeIs slot_list_getitem.lookup
   (wpAny_getItem_list_neg (Q:=fun r s'=>r=w∧EP X pins σ Q r s') pl.isList (by omega) (by rw[Q1]<;>omega) (by omega) (by rw[hj];simpa using ew) ⟨rfl,fin⟩) hs
theorem wA:OW X (Py X.K):=by
 intro value slice pins s σ H x y v u Q I rx ry h hs
 obtain⟨p,xs,i,z,rfl,rfl,hq,he,q⟩:=h
 cases rx
 obtain⟨t,rfl⟩:=ry
 obtain⟨its,r,pl,hz⟩:=I.tuple hq
 obtain⟨j,h1,h2,h3,h4,h5⟩:=Ht he
 obtain⟨w,ew,rw'⟩:=r.get h2
 have hl:=r.length
 have hn:=Dm
 have fin:EP X pins σ Q w s:=⟨z,H,I,rw',q⟩
 exact Vs (x:=w) pl.typeIs slot_tuple_getitem.lookup
  (getItem_tuple (j:=j) (Q:=fun r s'=>r=w∧EP X pins σ Q r s') pl (by omega) (by omega) (by rw[Q1,←hl];exact h1) (by simpa using ew) ⟨rfl,fin⟩) hs
theorem GD(its:List Value)(n j:Nat)(u:Value):Obj.mapSeq (·.setIfInBounds j u) {cls:=.type "list",data:=.seq its.toArray n}={cls:=.type "list",data:=.seq (its.set j u).toArray n}:=by
 simp[Obj.mapSeq]
theorem Inv.lst{pins:List (Addr×Obj)}{σ:St}{H:Hp}{s:Shared}{p:Addr}{xs:List V}(I:Inv X pins σ H s)(h:H p=some (.lst xs)) :
  ∃(its:List Value)(n:Nat),Vals xs its∧s.heap.get? p=some {cls:=.type "list",data:=.seq its.toArray n}∧xs.length≤sizeLine:=by
 obtain⟨z,its,n,r,e⟩:=I.cp p _ h
 exact⟨its,n,r,e,z⟩
theorem Inv.MV{pins:List (Addr×Obj)}{σ:St}{H:Hp}{s:Shared}{p:Addr}{xs ys:List V}{its its':List Value}{n n':Nat}{f:Obj→Obj}(I:Inv X pins σ H s)(h:H p=some (.lst xs))
  (ho:s.heap.get? p=some {cls:=.type "list",data:=.seq its.toArray n})(hf:f {cls:=.type "list",data:=.seq its.toArray n}={cls:=.type "list",data:=.seq its'.toArray n'})(r:Vals ys its')(hz:ys.length≤sizeLine)(t:Nat) :
  Inv X pins σ (upd H p (.lst ys)) {s with heap:=s.heap.update p f,toks:=t}:=by
 have e:(s.heap.update p f).get? p=some {cls:=.type "list",data:=.seq its'.toArray n'}:=by
  rw[Heap.get?_update_self f ho (by rw[hf]<;>rfl),hf]
 refine I.write (x:=p) (e:=p) (by rw[h];trivial) (.inl rfl) (fun b u hb q=>(Heap.get?_update_other _ _ (Ne.symm hb)).trans q) ⟨_,e⟩ ?_
 exact⟨hz,its',n',r,e⟩
def Od:V→V→V→Hp→(Hp→Prop)→Prop:=fun o i v H Q=>E4 fun p xs k j=>A5 (o=.ref p) (i=.int k) (H p=some (.lst xs)) (J9 xs.length k=some j) (Q (upd H p (.lst (xs.set j v))))
theorem set_list:NK X Od:=by
 intro pins s σ H o i v ov iv u Q I ro ri rv h
 obtain⟨p,xs,k,j,rfl,rfl,hp,hj,q⟩:=h
 cases ro
 obtain⟨t,rfl⟩:=ri
 obtain⟨its,n,r,ho,hz⟩:=I.lst hp
 obtain⟨h1,h2,h3,h4⟩:=HE hj
 have hl:=r.length
 have hn:=Dm
 have I':Inv X pins σ (upd H p (.lst (xs.set j v))) {s with heap:=s.heap.update p (Obj.mapSeq (·.setIfInBounds j u))} :=
  I.MV hp ho (GD its n j u) (r.set rv j) (by rw[Vy];exact hz) s.toks
 by_cases h0:0≤k
 ·have hk:k.toNat=j:=by
   rw[seqIndex_of h0 h4]at h1
   exact Rb h1
  exact PySem.W.ki_setAt ho h0 (by omega) (by rw[Q1,←hl];exact h4) (by rw[hk];exact⟨_,I',q⟩)
 ·have hk:(k+(its.toArray.size:Int)).toNat=j:=by
   rw[seqIndex_neg (by omega) h3]at h1
   rw[Q1,←hl]
   exact Rb h1
  exact PySem.W.ki_setBack ho (by omega) (by rw[Q1,←hl];exact h3) (by omega) (by rw[hk];exact⟨_,I',q⟩)
theorem Qh{i:Int}{n:Nat}(h:i<0):max 0 (min (i+n) n)=((i+n).toNat:Int):=by
 rw[Tp (by have:=UH (Vt h) (n:Int);rwa[XA]at this),Int.max_comm,Int.ofNat_toNat]
theorem Qi{i:Int}{n:Nat}(h:¬i<0):max 0 (min i n)=((min i.toNat n:Nat):Int):=by
 obtain⟨k,rfl⟩:=Int.eq_ofNat_of_zero_le (Tf.1 h)
 rw[QW]
 rcases UX k n with c|c
 ·rw[Tp (Sq.2 c),Q3 c,WA (U5 _)]
 ·rw[Tv (Sq.2 c),Rv c,WA (U5 _)]
theorem vo(lo hi:Option Int)(n:Nat):(sliceBounds lo hi none n).1=((HT.zZ n 0 lo:Nat):Int)∧(sliceBounds lo hi none n).2.1=((HT.zZ n n hi:Nat):Int)∧(sliceBounds lo hi none n).2.2=1:=by
 refine⟨?_,?_,rfl⟩
 ·cases lo with
  | none=>simp[sliceBounds,HT.zZ]
  | some i =>
   simp only[sliceBounds,HT.zZ,Vk,show(1:Int)>0 by decide,if_true]
   by_cases h:i<0
   ·simp only[h,if_true]<;>exact Qh h
   ·simp only[h,if_false]<;>exact Qi h
 ·cases hi with
  | none=>simp[sliceBounds,HT.zZ]
  | some i =>
   simp only[sliceBounds,HT.zZ,Vk,show(1:Int)>0 by decide,if_true]
   by_cases h:i<0
   ·simp only[h,if_true]<;>exact Qh h
   ·simp only[h,if_false]<;>exact Qi h
theorem Bt(its:List Value)(lo hi:Option Int):slicePick its.toArray lo hi none=((its.drop (HT.zZ its.length 0 lo)).take (HT.zZ its.length its.length hi-HT.zZ its.length 0 lo)).toArray:=by
 obtain⟨h1,h2,h3⟩:=vo lo hi its.toArray.size
 unfold slicePick
 rw[h1,h2,h3]
 simp only[sliceRange_one,pick_run,Q1]<;>rfl
def PC(K:Frg):V→Option Int→Option Int→Hp→VK→Prop:=fun x lo hi H Q=>E2 fun a xs=>A3 (x=.ref a) (aF K H a xs) (∀p,H p=none→Q (.ref p) (upd H p (.lst (j6 xs lo hi))))
theorem eY:P2 X (PC X.K):=by
 intro pins s σ H x v vl vu lo hi sl Q I rx hs pl pu h
 obtain⟨a,xs,rfl,hx,q⟩:=h
 cases rx
 obtain⟨its,r,ht,hz⟩:=I.list hx
 have hlen:=r.length
 refine⟨"list",_,slot_list_getitem.lookup,ht.isList.typeIs,?_⟩
 refine Vh ht.isList hs pl pu .none (by simp) ?_ (by rw[Q1]<;>omega)
 rw[Bt,←hlen]
 refine⟨.ref s.heap.objs.size,_,I.laid (t':=s.toks) (o:=.lst (j6 xs lo hi)) (fun b ob q=>Heap.get?_push_of_some _ q) (QP _) ?_,rfl,q _ (I.cp.fresh (QP _))⟩
 exact⟨QK (Eo xs lo hi) hz,_,0,(r.drop (HT.zZ xs.length 0 lo)).take (HT.zZ xs.length xs.length hi-HT.zZ xs.length 0 lo),Heap.get?_push_size _ rfl⟩
theorem az:o8 X (.builtin "len") (fun xs H Q=>∃p ys,xs=[.ref p]∧(aF X.K H p ys∨eQ X.K H p ys)∧Q (.int ys.length) H):=by
 intro pins s σ H xs us Q I r h
 obtain⟨p,ys,rfl,hq,q⟩:=h
 obtain⟨u,rfl,rx⟩:=vals1 r
 cases rx
 have hn:=Dm
 rcases hq with hq|hq
 ·obtain⟨its,r',pl,hz⟩:=I.list hq
  have hlen:=r'.length
  exact Calls.call_len_list pl.isList (by simp only[Q1]<;>omega) ⟨.int ys.length,H,I.tok _,⟨s.toks+1,by rw[Q1,hlen]⟩,q⟩
 ·obtain⟨its,r',pl,hz⟩:=I.tuple hq
  have hlen:=r'.length
  exact len_tuple pl (by simp only[Q1]<;>omega) ⟨.int ys.length,H,I.tok _,⟨s.toks+1,by rw[Q1,hlen]⟩,q⟩
theorem CI:o8 X (.type "list") (fun xs H Q=>∃p ys,xs=[.ref p]∧(aF X.K H p ys∨eQ X.K H p ys)∧∀l,H l=none→Q (.ref l) (upd H l (.lst ys))):=by
 intro pins s σ H xs us Q I r h
 obtain⟨p,ys,rfl,hq,q⟩:=h
 obtain⟨u,rfl,rx⟩:=vals1 r
 cases rx
 have fin:∀(its:List Value),Vals ys its→ys.length≤sizeLine→∀(h':Heap)(c':Nat),(∀b o',s.heap.get? b=some o'→h'.get? b=some o') →
   h'.get? s.heap.objs.size=some {cls:=.type "list",dict:=none,data:=.seq its.toArray c',slots:=#[]}→EP X pins σ Q (.ref s.heap.objs.size) {s with heap:=h'}:=fun its r' hz h' c' kp e =>
  ⟨.ref s.heap.objs.size,_,I.laid (t':=s.toks) kp (QP _) (show fM X.prog X.w _ h' _ (.lst ys)from⟨hz,its,c',r',e⟩),rfl,q _ (I.cp.fresh (QP _))⟩
 rcases hq with hq|hq
 ·obtain⟨its,r',pl,hz⟩:=I.list hq
  have hlen:=r'.length
  obtain⟨o,ho,hc,n,hd⟩:=pl.isList
  exact call_list_seq p (.inl rfl) ho hc hd (fun h' c' kp e=>fin its r' hz h' c' kp e) (by simp only[Q1]<;>omega)
 ·obtain⟨its,r',pl,hz⟩:=I.tuple hq
  have hlen:=r'.length
  obtain⟨o,ho,hc,n,hd⟩:=pl
  exact call_list_seq p (.inr rfl) ho hc hd (fun h' c' kp e=>fin its r' hz h' c' kp e) (by simp only[Q1]<;>omega)
def Qk(K:Frg)(T:String)(x:V)(H:Hp):Prop:=match x with
 | .str _=>T="str"
 | .int _=>T="int"
 | .ref p=>(T="list"∧∃xs,aF K H p xs)∨(T="tuple"∧∃o,K.lookup p=some o∧o.cls=.type "tuple"∧o.dict=none) ∨
   (T="dict"∧((∃kvs,H p=some (.dK kvs))∨∃kvs,H p=some (.dT kvs)))∨(T="set"∧∃S n,H p=some (.set S n))
 | _=>False
theorem Nn{pins:List (Addr×Obj)}{σ:St}{H:Hp}{s:Shared}{T:String}{x:V}{v:Value}(I:Inv X pins σ H s)(r:RelV x v)(ty:Qk X.K T x H) :
  s.TypeIs v T∧∀a,v=.ref a→∃ob,s.heap.get? a=some ob∧ob.dict=none:=by
 cases x with
 | str z =>
  obtain⟨t,rfl⟩:=r
  cases (show T="str" from ty)
  exact⟨typeIs_str s z t,fun _ e=>nomatch e⟩
 | int i =>
  obtain⟨t,rfl⟩:=r
  cases (show T="int" from ty)
  exact⟨typeIs_int s i t,fun _ e=>nomatch e⟩
 | ref p =>
  cases r
  rcases ty with⟨rfl,xs,hq⟩|⟨rfl,o,hk,hc,hd⟩|⟨rfl,hk⟩|⟨rfl,S,n,hk⟩
  ·obtain⟨its,_,pl,_⟩:=I.list hq
   refine⟨pl.isList.typeIs,fun a e=>?_⟩
   cases e
   obtain⟨o,n,e,c,hd,_⟩:=pl
   exact⟨o,e,hd⟩
  ·refine⟨⟨o,I.FN p o hk,hc⟩,fun a e=>?_⟩
   cases e
   exact⟨o,I.FN _ o hk,hd⟩
  ·have z:∃o,s.heap.get? p=some o∧o.ExactDict:=by
    rcases hk with⟨kvs,hk⟩|⟨kvs,hk⟩
    ·obtain⟨_,_,_,_,o,_,_,e,ex,_⟩:=I.cp p _ hk
     exact⟨o,e,ex⟩
    ·obtain⟨_,_,_,_,o,_,_,e,ex,_⟩:=I.cp p _ hk
     exact⟨o,e,ex⟩
   obtain⟨o,e,ex⟩:=z
   refine⟨⟨o,e,ex.1⟩,fun a e2=>?_⟩
   cases e2
   exact⟨o,e,ex.2.1⟩
  ·obtain⟨o,_,_,_,e,ex,_⟩:=I.cp p _ hk
   refine⟨⟨o,e,ex.1⟩,fun a e2=>?_⟩
   cases e2
   exact⟨o,e,ex.2.1⟩
 | _=>exact False.elim ty
def Qz(K:Frg)(T:String)(r:V→List V→Hp→VK→Prop)(to:TE)(t:TA):TE:=fun σ H Q=>to σ H fun x H1=>Qk K T x H1∧t σ H1 fun xs H2=>r x xs H2 Q
variable{o e:Expr}{es:List Expr}{to:TE}{t:TA}{name:Str}{apos cpos:Pos}{T id:String}{r:V→List V→Hp→VK→Prop}
theorem dH(pa:PlainAttrs T)(slot:Slot T name id)(hty:typeOf (.builtin id)=pure (.type "method_descriptor"))(hm:Qm X id r)(ho:PE X o to)(ha:PA X (e::es) t)
  (hbase:attributeBase o name X.env (eval o X.env)=eval o X.env:=by rfl)
  (hfew:((backTo cpos (starEach (e::es) X.env)).all (fun x=>!x.1)&&(backToKw cpos (keywordEach [] X.env)).all (fun x=>x.1.isSome)
   && decide ((e::es).length+([]:List Keyword).length+(if ([]:List Keyword).isEmpty then 0 else 1)<30))=true:=by rfl)
  (hline:(apos.endLine==cpos.line)=true:=by rfl)(hs:starEach (e::es) X.env=(false,eval e X.env)::starEach es X.env:=by rfl)(hplain:(backTo cpos (starEach es X.env)).any (·.1)=false:=by rfl) :
  PE X (.Call (.Attribute o name apos) (e::es) [] cpos) (Qz X.K T r to t):=by
 intro pins s σ H Q I h
 refine wpAny_Call_method_late hbase hfew hline rfl (cM (ho pins s σ H _ I h) fun v s1 ⟨x,H1,I1,r1,ty,q1⟩=>?_)
 obtain⟨h1,h2⟩:=Nn I1 r1 ty
 refine⟨T,id,pa,slot,hty,h1,h2,?_⟩
 have hA:=ha cpos pins s1 σ H1 _ I1 q1
 rw[hs]at hA ⊢
 refine Calls.callWith_builtin (by show(false || (backTo cpos (starEach es X.env)).any (·.1))=false;rw[hplain]<;>rfl) (Calls.evalArgs_plain ?_)
 exact cM hA fun us s2 ⟨vs,H2,I2,r2,q2⟩=>hm pins s2 σ H2 x vs v us Q I2 r1 r2 q2
end
def P1(X:Cx)(id:String)(r:V→List V→Hp→VK→Prop):Prop :=
 ∀(pins:List (Addr×Obj))(s:Shared)(σ:St)(H:Hp)(x:V)(xs:List V)(v:Value)(us:List Value)(Q:VK),Inv X pins σ H s→RelV x v→Vals xs us→r x xs H Q →
  wpAny (model X.prog X.w) X.A (call (.builtin id) (v::us)) (EP X pins σ Q) X.xe s
theorem Vals.one:∀{x:V}{us:List Value},Vals [x] us→∃u,us=[u]∧RelV x u
 | _,_,.cons r .nil=>⟨_,rfl,r⟩
theorem Vals.rep{xs:List V}{us:List Value}(h:Vals xs us):∀k:Nat,Vals (QU k xs).flatten (QU k us).flatten
 | 0=>.nil
 | k+1=>by
  rw[RG,RG,Ss,Ss]
  exact Vals.append h (Vals.rep h k)
theorem foldl_rep(its:List Value):∀(k:Nat)(acc:List Value),
  WX (fun x1 x2=>x1++x2) acc.toArray (QU k its.toArray)=(acc++(QU k its).flatten).toArray
 | 0,acc=>by simp
 | k+1,acc=>by
  have e:acc.toArray++its.toArray=(acc++its).toArray:=by simp
  have e2:(acc++its)++(QU k its).flatten=acc++(QU (k+1) its).flatten:=by
   rw[RG,Ss,R7]
  rw[←e2,←foldl_rep its k (acc++its),←e,RG,RJ]
section
variable{X:Cx}{pins:List (Addr×Obj)}{σ:St}{H:Hp}{s:Shared}{l b:Addr}{xs ys zs:List V}
theorem Inv.N6{its its':List Value}{n:Nat}{f:Array Value→Array Value}{t':Nat}(I:Inv X pins σ H s)(hH:H l=some (.lst xs))
  (e:s.heap.get? l=some {cls:=.type "list",data:=.seq its.toArray n})(hf:f its.toArray=its'.toArray)(hv:Vals ys its')(hz:ys.length≤sizeLine) :
  Inv X pins σ (upd H l (.lst ys)) {s with heap:=s.heap.update l (Obj.mapSeq f),toks:=t'}:=by
 have q:=PySem.IsL.update e f
 rw[hf]at q
 refine I.write (x:=l) (e:=l) (by rw[hH];exact trivial) (.inl rfl) (fun b' u hb hu=>(Heap.get?_update_other s.heap (Obj.mapSeq f) (Ne.symm hb)).trans hu) ⟨_,q⟩ ?_
 exact⟨hz,its',_,hv,q⟩
theorem Inv.N5{its:List Value}{t':Nat}(I:Inv X pins σ H s)(hv:Vals ys its)(hz:ys.length≤sizeLine) :
  Inv X pins σ (upd H s.heap.objs.size (.lst ys)) {s with heap:=s.heap.push {cls:=.type "list",data:=.seq its.toArray},toks:=t'} :=
 I.laid (fun _ _ q=>Heap.get?_push_of_some _ q) (QP _) ⟨hz,its,0,hv,Heap.get?_push_size _ rfl⟩
theorem Inv.fresh(I:Inv X pins σ H s):H s.heap.objs.size=none:=I.cp.fresh (QP _)
theorem Inv.I0(I:Inv X pins σ H s)(hH:H l=some (.lst xs)):xs.length≤sizeLine∧∃(its:List Value)(n:Nat),Vals xs its∧xs.length=its.length∧s.heap.get? l=some {cls:=.type "list",data:=.seq its.toArray n}:=by
 obtain⟨z,its,n,r,e⟩:=I.cp l _ hH
 exact⟨z,its,n,r,r.length,e⟩
theorem EO{n:Nat}(h:n≤sizeLine):Builtin.List.listTooLong n=false:=by
 unfold Builtin.List.listTooLong
 exact decide_eq_false (by omega)
end
section
variable{X:Cx}
def LY:V→List V→Hp→VK→Prop:=fun x vs H Q=>E3 fun l xs y=>A5 (x=.ref l) (vs=[y]) (H l=some (.lst xs)) (xs.length<sizeLine) (Q .non (upd H l (.lst (xs++[y]))))
theorem cA:P1 X "list.append" LY:=by
 intro pins s σ H x vs v us Q I rx rv h
 obtain⟨l,xs,y,rfl,rfl,hH,hz,q⟩:=h
 cases rx
 obtain⟨u,rfl,ru⟩:=rv.one
 obtain⟨z,its,n,r,hl,e⟩:=I.I0 hH
 refine call_meets F.slot_list_append ⟨_,e,rfl⟩ F.entry_list_append (F.args_list_append_2 _ _) (PySem.list_append l its.toArray n u (by rw[Q1];omega)) ⟨e,?_⟩
 refine⟨.non,_,I.N6 (its':=its++[u]) hH e (by simp) (r.append (.cons ru .nil)) ?_,rfl,q⟩
 rw[QN,TX]
 omega
def LZ:V→List V→Hp→VK→Prop:=fun x vs H Q=>E4 fun l b xs zs=>A6 (x=.ref l) (vs=[.ref b]) (H l=some (.lst xs)) (H b=some (.lst zs)) (xs.length+zs.length≤sizeLine) (Q .non (upd H l (.lst (xs++zs))))
theorem cB:P1 X "list.extend" LZ:=by
 intro pins s σ H x vs v us Q I rx rv h
 obtain⟨l,b,xs,zs,rfl,rfl,hH,hB,hz,q⟩:=h
 cases rx
 obtain⟨u,rfl,ru⟩:=rv.one
 cases ru
 obtain⟨z,its,n,r,hl,e⟩:=I.I0 hH
 obtain⟨z2,its2,n2,r2,hl2,e2⟩:=I.I0 hB
 have hsz:its.toArray.size+its2.toArray.size≤sizeLine:=by rw[Q1,Q1];omega
 have hlong:¬(!its.toArray.isEmpty&&Builtin.List.listTooLong (its.toArray.size+its2.toArray.size))=true:=by
  rw[EO hsz,Bool.and_false]
  exact Ra
 refine call_meets F.slot_list_extend ⟨_,e,rfl⟩ F.entry_list_extend (F.args_list_extend_2 _ _)
  (AutoSeq1.list_extend_list_list_0 l its.toArray n b its2.toArray n2 hlong (by rw[Q1];omega) (by omega)) ⟨e,e2,?_⟩
 refine⟨.non,_,I.N6 (its':=its++its2) hH e (by simp) (r.append r2) ?_,rfl,q⟩
 rw[QN]
 omega
def Pu:R2:=fun x y H Q=>E4 fun l b xs zs=>A6 (x=.ref l) (y=.ref b) (H l=some (.lst xs)) (H b=some (.lst zs)) (xs.length+zs.length≤sizeLine) (∀p,H p=none→Q (.ref p) (upd H p (.lst (xs++zs))))
theorem fO:xK X (binaryOp .Add) Pu:=by
 intro pins s σ H x y v u Q I rx ry h
 obtain⟨l,b,xs,zs,rfl,rfl,hH,hB,hz,q⟩:=h
 cases rx
 cases ry
 obtain⟨z,its,n,r,hl,e⟩:=I.I0 hH
 obtain⟨z2,its2,n2,r2,hl2,e2⟩:=I.I0 hB
 refine PySem.P.add_list e e2 ?_ (by rw[Q1,Q1];omega)
 have ea:its.toArray++its2.toArray=(its++its2).toArray:=by simp
 rw[ea]
 exact⟨.ref _,_,I.N5 (t':=s.toks) (r.append r2) (by rw[QN];omega),rfl,q _ I.fresh⟩
def PB:R2:=fun x y H Q=>E3 fun l k xs=>A7 (x=.ref l) (y=.int k) (H l=some (.lst xs)) (-(2^63)≤k) (k<2^63) (xs.length*k.toNat≤sizeLine) (∀p,H p=none→Q (.ref p) (upd H p (.lst (QU k.toNat xs).flatten)))
theorem len_rep{α:Type}(xs:List α)(k:Nat):(QU k xs).flatten.length=k*xs.length:=by
 induction k with
 | zero=>simp
 | succ k ih=>rw[RG,Ss,QN,ih,RD,Sw]
theorem wQ:xK X (binaryOp .Mult) PB:=by
 intro pins s σ H x y v u Q I rx ry h
 obtain⟨l,k,xs,rfl,rfl,hH,h1,h2,hz,q⟩:=h
 cases rx
 obtain⟨t,rfl⟩:=ry
 obtain⟨z,its,n,r,hl,e⟩:=I.I0 hH
 have hlen:its.toArray.size*k.toNat≤sizeLine:=by rw[Q1,←hl];exact hz
 have hcap:¬its.toArray.size*k.toNat>(2^63-1) / 8:=by
  have:(sizeLine:Nat)≤(2^63-1) / 8:=by decide
  omega
 have hfit:¬(!Builtin.List.listFitsIndex k)=true:=by
  rw[fitsIndex_both h1 h2]
  exact Ra
 have hlong:¬Builtin.List.listTooLong (its.toArray.size*k.toNat)=true:=by
  rw[EO hlen]
  exact Ra
 have hnew:WX (fun x1 x2=>x1++x2) #[] (QU (if its.toArray.isEmpty=true then 0 else k.toNat) its.toArray)=(QU k.toNat its).flatten.toArray:=by
  have f0:∀m:Nat,WX (fun x1 x2=>x1++x2) #[] (QU m its.toArray)=(QU m its).flatten.toArray:=fun m=>by
   have:=foldl_rep its m []
   rw[Vz]at this
   exact this
  rw[f0]
  cases its with
  | nil=>simp
  | cons a r'=>rw[if_neg (by simp)]
 refine wpAny_binaryOp_repeat_ref (T:="list") (U:="int") (by decide) ⟨_,e,rfl⟩ (fun s'=>typeIs_int s' k t) noFill_list_mul F.fills_int_mul F.slot_int_rmul repeat_list F.slot_int_index.lookup
  (call_meets F.slot_int_rmul (typeIs_int s k t) F.entry_int_rmul (F.args_int_rmul_2 _ _) (int___rmul___int_list k t l its.toArray n)
   ⟨e,rfl,⟨_,e,rfl⟩,call_meets F.slot_list_mul ⟨_,e,rfl⟩ F.entry_list_mul (F.args_list_mul_2 _ _) (AutoListH.list___mul___list_int_3 l its.toArray n k t hfit hcap hlong) ⟨e,?_⟩⟩)
 rw[hnew]
 exact⟨.ref _,_,I.N5 (t':=s.toks) (r.rep k.toNat) (by rw[len_rep,RP];exact hz),rfl,q _ I.fresh⟩
end
theorem Vals.ints:∀{ns:List Int}{us:List Value},Vals (ns.map V.int) us→IntsAre us ns
 | [],us,h=>by
  rw[XC]at h
  cases h
  exact IntsAre.nil
 | n::ns,us,h=>by
  rw[RC]at h
  cases h with
  | cons r t =>
   obtain⟨k,rfl⟩:=r
   exact IntsAre.cons n k (Vals.ints t)
theorem Vals.P4:∀{bs:List Bool}{us:List Value},Vals (bs.map V.bl) us→us=bs.map Value.bool
 | [],us,h=>by
  rw[XC]at h
  cases h
  rfl
 | b::bs,us,h=>by
  rw[RC]at h
  cases h with
  | cons r t =>
   cases r
   rw[Vals.P4 t,RC]
theorem Vals.Oe{a:Addr}{us:List Value}(r:Vals [V.ref a] us):us=[Value.ref a]:=by
 cases r with
 | cons r t =>
  cases t
  cases r
  rfl
section
variable{prog:Program}{w:World}{A:Around}{E:Value→Shared→Prop}{s:Shared}{l:Addr}{its:List Value}{ns:List Int}{Q:Value→Shared→Prop}
theorem Mb(hh:A.handled=none)(hl:s.heap.IsList l its.toArray)(hi:IntsAre its ns)
  (h:∀h' tk t',(∀b o,s.heap.get? b=some o→h'.get? b=some o)→Q (.int ns.sum t') {s with heap:=h',toks:=tk}):wpAny (model prog w) A (call (.builtin "sum") [.ref l]) Q E s:=by
 obtain⟨xs,e⟩:=hi.allInts.items
 have hn:numsOf (intItems xs).toList=ns:=by rw[←e];exact hi.numsOf
 rw[nums_intItems]at hn
 rw[e]at hl
 refine PySem.sum_intListG hh hl fun h' tk t' hk=>?_
 have:=h h' tk t' hk
 rw[preSum_eq,Rk (by simp),hn];exact this
end
section
variable{X:Cx}
def PD(K:Frg):List V→Hp→VK→Prop:=fun vs H Q=>E2 fun(a:Addr)(ns:List Int)=>A3 (vs=[V.ref a]) (aF K H a (ns.map V.int)) (Q (.int ns.sum) H)
theorem F9(hc:X.calm=true):o8 X (.builtin "sum") (PD X.K):=by
 intro pins s σ H vs us Q I r h
 obtain⟨a,ns,rfl,hs,q⟩:=h
 obtain⟨its,rv,hl,_⟩:=I.list hs
 rw[Vals.Oe r]
 exact Mb (I.ok.hd hc) hl.isList rv.ints fun h' tk t' hk=>⟨.int _,H,I.kept hk,⟨_,rfl⟩,q⟩
end
theorem J8{prog:Program}{w:World}{A:Around}{E:Value→Shared→Prop}{s:Shared}{l:Addr}{items:Array Value}{Q:Value→Shared→Prop}(hl:s.heap.IsList l items)
  (h:∀s₂:Shared,s₂={s with heap:=s.heap.push {cls:=.type "list_iterator",data:=.fields #[.ref l,.int 0 0]}} →
   (s₂.heap.IsListIter s.heap.objs.size l 0∧s₂.heap.IsList l items)→l≠s.heap.objs.size→Q (.ref s.heap.objs.size) s₂):wpAny (model prog w) A (pyIter (.ref l)) Q E s:=by
 have hlt:l<s.heap.objs.size:=by obtain⟨_,e,_⟩:=hl;exact Heap.lt_size e
 exact Tq hl (h _ rfl ⟨⟨_,Heap.get?_push_size _ rfl,rfl,rfl⟩,hl.push _⟩ (Rj hlt))
theorem FF{prog:Program}{w:World}{A:Around}{bs:List Bool}{its:List Value}(e:its=bs.map Value.bool) :
  TruthOf prog w A (fun i v=>its.toArray[i]?=some v) (fun i=>bs.getD i false):=fun i v s Q E hv hq=>by
 have hv':its[i]?=some v:=by simpa using hv
 rw[e,QI]at hv'
 obtain⟨b,hb,rfl⟩:=QQ.mp hv'
 have hg:bs.getD i false=b:=by rw[RN,hb]<;>rfl
 have hq':Q (bs.getD i false) s:=hq
 rw[hg]at hq'
 exact SD hq'
theorem all_range:∀bs:List Bool,(Q5 bs.length).all (fun i=>bs.getD i false)=bs.all id
 | []=>rfl
 | b::bs=>by
  rw[Q2,List.range_succ_eq_map,Xk,Vu,Xk,←all_range bs]
  all_goals rfl
section
variable{X:Cx}
def Pt(K:Frg):List V→Hp→VK→Prop:=fun vs H Q=>E2 fun(a:Addr)(bs:List Bool)=>A3 (vs=[V.ref a]) (aF K H a (bs.map V.bl)) (Q (.bl (bs.all id)) H)
theorem CL(hc:X.calm=true):o8 X (.builtin "all") (Pt X.K):=by
 intro pins s σ H vs us Q I r h
 obtain⟨a,bs,rfl,hs,q⟩:=h
 obtain⟨its,rv,hl,_⟩:=I.list hs
 rw[Vals.Oe r]
 have hb:=rv.P4
 refine call_all_walk (J8 hl.isList fun s₂ e2 st hne=>?_)
 subst e2
 refine⟨_,_,_,_,_,_,_,rfl,Walks.list (A:=X.A.in1) (I.ok.hd hc) _ a hne its.toArray,st,FF hb,fun h' tk hk=>?_⟩
 refine⟨.bl _,H,I.kept fun b o eo=>hk b o (fun hmem=>?_) (Heap.get?_push_of_some _ eo),?_,q⟩
 ·rcases QM.mp hmem with e1|hmem
  ·exact absurd (e1▸Heap.lt_size eo) (Sg _)
  ·cases hmem
 ·show Value.bool _=Value.bool _
  rw[←all_range,hb,Q1,QH]
end
mutual
inductive Dp(K:Frg)(H:Hp):V→PyData→Prop
 | non:Dp K H .non .none
 | bl (b:Bool):Dp K H (.bl b) (.bool b)
 | int (i:Int):Dp K H (.int i) (.int i)
 | str (x:Str):Dp K H (.str x) (.str x)
 | lst {a:Addr} {xs:List V} {ds:List PyData}:aF K H a xs→xI K H xs ds→Dp K H (.ref a) (.list ds)
 | tup {a:Addr} {xs:List V} {ds:List PyData}:eQ K H a xs→xI K H xs ds→Dp K H (.ref a) (.tuple ds)
inductive xI(K:Frg)(H:Hp):List V→List PyData→Prop
 | nil:xI K H [] []
 | cons {v:V} {vs:List V} {d:PyData} {ds:List PyData}:Dp K H v d→xI K H vs ds→xI K H (v::vs) (d::ds)
end
section
variable{X:Cx}{pins:List (Addr×Obj)}{σ:St}{H:Hp}{s:Shared}
mutual
theorem Dp.reads(I:Inv X pins σ H s):∀(d:PyData)(v:V)(u:Value),Dp X.K H v d→RelV v u→∃as,Reads s.heap u d as
 | .none,_,_,h,r=>by
  cases h
  cases r
  exact⟨_,Reads.none⟩
 | .bool b,_,_,h,r=>by
  cases h
  cases r
  exact⟨_,Reads.bool b⟩
 | .int i,_,_,h,r=>by
  cases h
  obtain⟨t,rfl⟩:=r
  exact⟨_,Reads.int i t⟩
 | .str x,_,_,h,r=>by
  cases h
  obtain⟨t,rfl⟩:=r
  exact⟨_,Reads.str x t⟩
 | .list ds,_,_,h,r=>by
  cases h with
  | lst hs ha =>
   cases r
   obtain⟨its,rv,⟨o,n,ho,hc,_,hd⟩,_⟩:=I.list hs
   obtain⟨as,hr⟩:=Dp.readsAll I ds _ its ha rv
   exact⟨_,Reads.list ho hc hd hr⟩
 | .tuple ds,_,_,h,r=>by
  cases h with
  | tup hs ha =>
   cases r
   obtain⟨its,rv,⟨o,ho,hc,n,hd⟩,_⟩:=I.tuple hs
   obtain⟨as,hr⟩:=Dp.readsAll I ds _ its ha rv
   exact⟨_,Reads.tuple ho hc hd hr⟩
 | .dict _,_,_,h,_=>by cases h
theorem Dp.readsAll(I:Inv X pins σ H s):∀(ds:List PyData)(vs:List V)(us:List Value),xI X.K H vs ds→Vals vs us→∃as,ReadsAll s.heap us ds as
 | [],_,_,h,r=>by
  cases h
  cases r
  exact⟨_,ReadsAll.nil⟩
 | d::ds,_,_,h,r=>by
  cases h with
  | cons h1 h2 =>
   cases r with
   | cons r1 r2 =>
    obtain⟨as,q1⟩:=Dp.reads I d _ _ h1 r1
    obtain⟨bs,q2⟩:=Dp.readsAll I ds _ _ h2 r2
    exact⟨_,ReadsAll.cons q1 q2⟩
end
end
section
variable{X:Cx}
def Pz(K:Frg):R2:=fun x y H Q=>E2 fun d e=>A5 (Dp K H x d) (Dp K H y e) (SeqAt.shaped d=true) (SeqAt.shaped e=true) (Q (.bl (!PyData.eqv d e)) H)
theorem M3(hu:X.A.units+64<cLine):xK X (compareOp .NotEq) (Pz X.K):=by
 intro pins s σ H x y v u Q I rx ry h
 obtain⟨d,e,hd,he,sd,se,q⟩:=h
 obtain⟨as,r1⟩:=Dp.reads I d x v hd rx
 obtain⟨bs,r2⟩:=Dp.reads I e y u he ry
 exact SeqAt.compareNe_shaped r1 r2 sd se hu ⟨.bl _,H,I,rfl,q⟩
end
abbrev JA(h:Heap)(c:Addr)(v:Option Value):Prop:=h.IsCell c v
def PF(scope sc:Scope):Scope :=
 {scope with names:=scope.names.map fun(n,k)=>if (k==.free&&sc.kind==.function&&sc.names.lookup n==some .cell)then(n,.cell)else(n,k)}
def bX(cells:List (Str×Addr)):List (Str×NameKind)→List (Str×Addr)→List (Str×Addr)
 | [],acc=>acc
 | (n,k)::r,acc=>if k==.free then bX cells r ((n,(cells.lookup n).getD 0)::acc)else bX cells r acc
theorem uC(env:Env)(f:Str×NameKind→List (Str×Addr)→Sem (ForInStep (List (Str×Addr))))
  (hf:∀n k c,f (n,k) c=if k==.free then(do let a ←cellOf env n;pure (.yield ((n,a)::c)))else pure (.yield c)) :
  ∀(names:List (Str×NameKind))(acc:List (Str×Addr)),(∀y∈names,y.2=.free→∃c,env.cells.lookup y.1=some c)→forIn names acc f=pure (bX env.cells names acc)
 | [],acc,_=>by rw[T2];rfl
 | (n,k)::r,acc,h=>by
  rw[Ug,hf]
  have ih:=fun acc=>uC env f hf r acc fun y hy=>h y (Q4 _ hy)
  unfold bX
  by_cases hk:(k==NameKind.free)=true
  ·rw[if_pos hk,if_pos hk]
   obtain⟨c,hc⟩:=h (n,k) Rc (by simpa using hk)
   have e:cellOf env n=pure c:=by unfold cellOf;rw[hc]
   rw[e]
   have e2:(env.cells.lookup n).getD 0=c:=by rw[hc];rfl
   rw[e2]
   exact ih _
  ·rw[if_neg hk,if_neg hk]
   exact ih _
theorem F8{scope:Scope}{env:Env}(h:∀y∈scope.names,y.2=.free→∃c,env.cells.lookup y.1=some c):closureFor scope env=pure (bX env.cells scope.names []):=by
 simp only[closureFor]
 rw[uC env _ (fun n k c=>rfl) scope.names [] h]
 rfl
theorem mem_lookup{α:Type}:∀{l:List (Str×α)}{n:Str}{c:α},(n,c)∈l→∃c',l.lookup n=some c'
 | (k,v)::r,n,c,h=>by
  rw[Tb]
  cases hb:n==k with
  | true=>exact⟨_,rfl⟩
  | false =>
   rcases QM.mp h with e|h
   ·cases e;simp at hb
   ·exact mem_lookup h
theorem kJ{cells:List (Str×Addr)}:∀{names:List (Str×NameKind)}{acc:List (Str×Addr)}{n:Str}{c:Addr},(n,c)∈bX cells names acc→(n,c)∈acc∨((n,.free)∈names∧c=(cells.lookup n).getD 0)
 | [],_,_,_,h=>.inl h
 | (m,k)::r,acc,n,c,h=>by
  unfold bX at h
  split at h
  ·rename_i hk
   have hk:k=.free:=by simpa using hk
   rcases kJ h with h|⟨h1,h2⟩
   ·rcases QM.mp h with e|h
    ·cases e;exact .inr ⟨hk▸Rc,rfl⟩
    ·exact .inl h
   ·exact .inr ⟨Q4 _ h1,h2⟩
  ·rcases kJ h with h|⟨h1,h2⟩
   ·exact .inl h
   ·exact .inr ⟨Q4 _ h1,h2⟩
theorem ph{cells:List (Str×Addr)}:∀{names:List (Str×NameKind)}{acc:List (Str×Addr)}{p:Str×Addr},p∈acc→p∈bX cells names acc
 | [],_,_,h=>h
 | (m,k)::r,acc,p,h=>by
  unfold bX
  split
  ·exact ph (Q4 _ h)
  ·exact ph h
theorem pj{cells:List (Str×Addr)}:∀{names:List (Str×NameKind)}{acc:List (Str×Addr)}{n:Str},(n,.free)∈names→(n,(cells.lookup n).getD 0)∈bX cells names acc
 | (m,k)::r,acc,n,h=>by
  unfold bX
  rcases QM.mp h with e|h
  ·cases e
   exact ph Rc
  ·split
   ·exact pj h
   ·exact pj h
theorem ma:∀{names:List (Str×NameKind)}{h:Heap}{acc:List (Str×Addr)}{x:Str}{c:Addr},(x,c)∈cellsFrom h.objs.size names acc →
  (x,c)∈acc∨((x,.cell)∈names∧h.objs.size≤c∧JA (pushCells h names) c none)
 | [],_,_,_,_,h=>.inl h
 | (n,k)::r,h,acc,x,c,hm=>by
  unfold cellsFrom at hm
  unfold pushCells
  split at hm
  ·rename_i hk
   rw[if_pos hk]
   have hk:k=.cell:=by simpa using hk
   rw[←Heap.size_push h {cls:=.type "cell",data:=.cell none}]at hm
   rcases ma hm with hm|⟨h1,h2,h3⟩
   ·rcases QM.mp hm with e|hm
    ·cases e
     exact .inr ⟨hk▸Rc,QP _,_,UQ r _ _ _ (Heap.get?_push_size _ rfl),rfl⟩
    ·exact .inl hm
   ·rw[Heap.size_push]at h2
    exact .inr ⟨Q4 _ h1,Ul h2,h3⟩
  ·rename_i hk
   rw[if_neg hk]
   rcases ma hm with hm|⟨h1,h2,h3⟩
   ·exact .inl hm
   ·exact .inr ⟨Q4 _ h1,h2,h3⟩
theorem qG:∀{names:List (Str×NameKind)}{n:Nat}{acc:List (Str×Addr)}{p:Str×Addr},p∈acc→p∈cellsFrom n names acc
 | [],_,_,_,h=>h
 | (m,k)::r,n,acc,p,h=>by
  unfold cellsFrom
  split
  ·exact qG (Q4 _ h)
  ·exact qG h
theorem wc:∀{names:List (Str×NameKind)}{n:Nat}{acc:List (Str×Addr)}{x:Str},(x,.cell)∈names→∃c,(x,c)∈cellsFrom n names acc
 | (m,k)::r,n,acc,x,h=>by
  unfold cellsFrom
  rcases QM.mp h with e|h
  ·cases e
   exact⟨n,qG Rc⟩
  ·split
   ·exact wc h
   ·exact wc h
theorem we:∀{names:List (Str×NameKind)}{h:Heap}{acc:List (Str×Addr)}{x y:Str}{c:Addr},(∀p∈acc,p.2<h.objs.size)→(∀x y c,(x,c)∈acc→(y,c)∈acc→x=y) →
  (x,c)∈cellsFrom h.objs.size names acc→(y,c)∈cellsFrom h.objs.size names acc→x=y
 | [],_,_,_,_,_,_,hi,h1,h2=>hi _ _ _ h1 h2
 | (n,k)::r,h,acc,x,y,c,hl,hi,h1,h2=>by
  unfold cellsFrom at h1 h2
  split at h1
  ·rename_i hk
   rw[if_pos hk]at h2
   rw[←Heap.size_push h {cls:=.type "cell",data:=.cell none}]at h1 h2
   refine we (h:=h.push _) (fun p hp=>?_) (fun x y c a b=>?_) h1 h2
   ·rw[Heap.size_push]
    rcases QM.mp hp with rfl|hp
    ·exact Uw _
    ·exact Um (hl p hp)
   ·rcases QM.mp a with e|a<;>rcases QM.mp b with e'|b
    ·cases e;cases e';rfl
    ·cases e;exact absurd (hl _ b) (Sg _)
    ·cases e';exact absurd (hl _ a) (Sg _)
    ·exact hi _ _ _ a b
  ·rename_i hk
   rw[if_neg hk]at h2
   exact we hl hi h1 h2
theorem EN{M:Model}{A:Around}{E:Value→Shared→Prop}{s:Shared}{scope:Scope}{globals:Addr}{closure:List (Str×Addr)}{qual:Str}{func:Option Addr}{code:Value}{around:Env}{builtins:Addr}{Q:Env→Shared→Prop}
  (h:Q (newEnv scope s.heap.objs.size globals (cellsFrom (s.heap.objs.size+1) scope.names closure) qual func code (some around) builtins)
   {s with heap:=pushCells (s.heap.push {cls:=.type "dict",data:=.dict #[]}) scope.names}) :
  wpAny M A (newFunctionEnv scope globals closure [] qual func code (some around) builtins) Q E s:=by
 simp only[newFunctionEnv,Option.isSome_some,if_true]
 refine wpAny_bind (wpAny_alloc ?_)
 refine wpAny_bind (wpAny_layCells _ (fun n k c=>rfl) scope.names closure _ _ ?_)
 rw[show({s with heap:=s.heap.push {cls:=.type "dict",data:=.dict #[]}}:Shared).heap.objs.size=s.heap.objs.size+1 from Heap.size_push ..]
 rw[T2]
 exact wpAny_bind (wpAny_pure (wpAny_pure h))
theorem pK{sc:Scope}:∀{names:List (Str×NameKind)}{x:Str}{k:NameKind},
  (names.map fun(n,k)=>if (k==NameKind.free&&sc.kind==.function&&sc.names.lookup n==some .cell)then(n,NameKind.cell)else(n,k)).lookup x=some k →
  ∃k',names.lookup x=some k'∧(k=k'∨(k'=.free∧k=.cell))
 | [],_,_,h=>by simp at h
 | (n,k₀)::r,x,k,h=>by
  have ih:=@pK sc r x k
  have h':T5 x ((if (k₀==NameKind.free&&sc.kind==.function&&sc.names.lookup n==some .cell)=true then(n,NameKind.cell)else(n,k₀))::(r.map _))=some k:=h
  cases hx:x==n with
  | true =>
   simp only[Tb,hx]
   by_cases hc:(k₀==NameKind.free&&sc.kind==.function&&sc.names.lookup n==some .cell)=true
   ·rw[if_pos hc]at h'
    simp only[Tb,hx]at h'
    cases h'
    simp only[Ro,beq_iff_eq]at hc
    exact⟨k₀,rfl,.inr ⟨hc.1.1,rfl⟩⟩
   ·rw[if_neg hc]at h'
    simp only[Tb,hx]at h'
    cases h'
    exact⟨_,rfl,.inl rfl⟩
  | false =>
   simp only[Tb,hx]
   by_cases hc:(k₀==NameKind.free&&sc.kind==.function&&sc.names.lookup n==some .cell)=true
   ·rw[if_pos hc]at h'
    simp only[Tb,hx]at h'
    exact ih h'
   ·rw[if_neg hc]at h'
    simp only[Tb,hx]at h'
    exact ih h'
structure Eb(N:List Str)(sc scope:Scope)(own:List (Str×Nat)):Prop where
 kind:scope.kind=.function
 uniq:∀y∈scope.names,scope.names.lookup y.1=some y.2
 ix:∀p∈own,N[p.2]?=some p.1
 free:∀y∈scope.names,y.2=.free→sc.names.lookup y.1=some .cell∨sc.names.lookup y.1=some .free
 own:∀y∈scope.names,y.2=.local∨y.2=.cell→y.1∈own.map (·.1)∨y.1∉N
def wipe(σ:St):List Nat→St
 | []=>σ
 | v::vs=>(wipe σ vs).set v none
theorem qD(σ:St):∀vs:List Nat,(wipe σ vs).length=σ.length
 | []=>rfl
 | v::vs=>by unfold wipe;rw[Vy,qD σ vs]
theorem xF{σ:St}{i:Nat}{x:V}:∀{vs:List Nat},(wipe σ vs)[i]?=some (some x)→σ[i]?=some (some x)∧i∉vs
 | [],h=>⟨h,by simp⟩
 | v::vs,h=>by
  unfold wipe at h
  by_cases hi:v=i
  ·subst hi
   by_cases hv:v<(wipe σ vs).length
   ·rw[Uk hv]at h;cases h
   ·rw[Sj (by simpa using hv)]at h;cases h
  ·rw[UG hi]at h
   obtain⟨h1,h2⟩:=xF h
   exact⟨h1,by simp only[QM,not_or];exact⟨fun e=>hi e.symm,h2⟩⟩
abbrev Cx.CC(X:Cx)(s:Shared)(H:Hp)(scope:Scope)(cenv:Env)(fp:List Addr):Cx:={ X with Cj:=s,ND:=H,env:=cenv,outer:=X.stack,ex:=fp,fn:=fun x=>scope.names.lookup x==some .cell,pn:=[],xe:=fun _ _=>False}
section
variable{X:Cx}{pins:List (Addr×Obj)}{σ:St}{H:Hp}{s:Shared}
theorem Eh{scope:Scope}{own:List (Str×Nat)}{fp:List Addr}(I:Inv X pins σ H s)(ok:Eb X.N X.env.scope scope own)(hN:X.N.Nodup)(hfp:∀b∈fp,yb X pins H b∧b<s.heap.objs.size) :
  Inv (X.CC s H scope (compEnvC scope (cellsFrom (s.heap.objs.size+1) scope.names (bX X.env.cells scope.names [])) s.heap.objs.size X.env) fp) [] (wipe σ (own.map (·.2))) H {s with heap:=pushCells (s.heap.push {cls:=.type "dict",data:=.dict #[]}) scope.names}:=by
 have hfree:∀y∈scope.names,y.2=.free→∃c,X.env.cells.lookup y.1=some c:=fun y hy e=>by
  rcases ok.free y hy e with k|k
  ·exact I.ok.has _ (.inl k)
  ·exact I.ok.has _ (.inr k)
 generalize hcenv:compEnvC scope (cellsFrom (s.heap.objs.size+1) scope.names (bX X.env.cells scope.names [])) s.heap.objs.size X.env=cenv
 have kp:∀b o,s.heap.get? b=some o→(pushCells (s.heap.push {cls:=.type "dict",data:=.dict #[]}) scope.names).get? b=some o:=fun b o e=>UQ _ _ _ _ (Heap.get?_push_of_some _ e)
 have hL:cenv.locals=s.heap.objs.size:=by rw[←hcenv];rfl
 have hcl:cenv.cells=cellsFrom (s.heap.objs.size+1) scope.names (bX X.env.cells scope.names []):=by rw[←hcenv];rfl
 have hsc:cenv.scope=PF scope X.env.scope:=by rw[←hcenv];rfl
 rw[←Heap.size_push s.heap {cls:=.type "dict",data:=.dict #[]}]at hcl
 have cm:∀{y c},(y,c)∈bX X.env.cells scope.names []→X.env.cells.lookup y=some c∧c<s.heap.objs.size:=fun{y c} hm=>by
  rcases kJ hm with hm|⟨h1,rfl⟩
  ·cases hm
  ·obtain⟨c,hc⟩:=hfree _ h1 rfl
   rw[hc]
   obtain⟨w,z⟩:=I.cell _ _ hc
   exact⟨rfl,z.lt⟩
 have mem:∀{y c},cenv.cells.lookup y=some c→(X.env.cells.lookup y=some c∧c<s.heap.objs.size)∨(s.heap.objs.size+1≤c∧JA (pushCells (s.heap.push {cls:=.type "dict",data:=.dict #[]}) scope.names) c none):=fun{y c} e=>by
  rw[hcl]at e
  rcases ma (PySem.mem_of_lookup e)with hm|⟨_,h2,h3⟩
  ·exact .inl (cm hm)
  ·rw[Heap.size_push]at h2;exact .inr ⟨h2,h3⟩
 have look:∀{y},scope.names.lookup y=some .free→∃c,cenv.cells.lookup y=some c∧X.env.cells.lookup y=some c:=fun{y} hl=>by
  have hy:(y,NameKind.free)∈scope.names:=PySem.mem_of_lookup hl
  obtain⟨c',e'⟩:=mem_lookup (qG (names:=scope.names) (n:=(s.heap.push {cls:=.type "dict",data:=.dict #[]}).objs.size) (pj (cells:=X.env.cells) (acc:=[]) hy))
  rw[←hcl]at e'
  refine⟨c',e',?_⟩
  rw[hcl]at e'
  rcases ma (PySem.mem_of_lookup e')with hm|⟨h1,_,_⟩
  ·exact(cm hm).1
  ·have:=ok.uniq _ h1
   rw[hl]at this;cases this
 have okB:(X.CC s H scope cenv fp).Ok:=by
  refine⟨I.ok.mod,by show cenv.scope.kind=_;rw[hsc];exact ok.kind,by show cenv.globals=_;rw[←hcenv];exact I.ok.glob,by show cenv.builtins=_;rw[←hcenv];exact I.ok.blt,by show s.heap.objs.size≤cenv.locals;rw[hL];exact QP _,
   fun y z c e1 e2=>?_,fun y hy=>?_,fun y c z e=>?_,I.ok.hd,I.ok.frames,.inl rfl,fun b hb=>⟨?_,fun y c e z=>?_⟩,I.bs,QK I.ok.Lw I.sz,fun b o e hb=>?_,fun b hb z=>?_,I.stack,I.HY⟩
  ·have e1:cenv.cells.lookup y=some c:=e1
   have e2:cenv.cells.lookup z=some c:=e2
   rw[hcl]at e1 e2
   refine we (fun p hp=>?_) (fun y z c a b=>I.ok.inj y z c (cm a).1 (cm b).1) (PySem.mem_of_lookup e1) (PySem.mem_of_lookup e2)
   rw[Heap.size_push]
   exact Um (cm (y:=p.1) (c:=p.2) hp).2
  ·show ∃c,cenv.cells.lookup y=some c
   have key:∀k,cenv.kindOf y=some k→(k=.cell∨k=.free)→∃c,cenv.cells.lookup y=some c:=fun k hk hk'=>by
    unfold Env.kindOf at hk
    rw[hsc]at hk
    obtain⟨k',e,r⟩:=pK hk
    have:k'=.cell∨k'=.free:=by
     rcases r with rfl|⟨rfl,_⟩
     ·exact hk'
     ·exact .inr rfl
    rcases this with rfl|rfl
    ·obtain⟨c,hm⟩:=wc (n:=(s.heap.push {cls:=.type "dict",data:=.dict #[]}).objs.size) (acc:=bX X.env.cells scope.names []) (PySem.mem_of_lookup e)
     obtain⟨c',e'⟩:=mem_lookup hm
     exact⟨c',by rw[hcl];exact e'⟩
    ·obtain⟨c,h1,_⟩:=look e
     exact⟨c,h1⟩
   rcases hy with hy|hy
   ·exact key _ hy (.inl rfl)
   ·exact key _ hy (.inr rfl)
  ·have z:(scope.names.lookup y==some NameKind.cell)=true:=z
   have z:scope.names.lookup y=some .cell:=by simpa using z
   have e:cenv.cells.lookup y=some c:=e
   rw[hcl]at e
   rcases ma (PySem.mem_of_lookup e)with hm|⟨_,h2,_⟩
   ·rcases kJ hm with hm|⟨h1,_⟩
    ·cases hm
    ·have q:=ok.uniq _ h1
     rw[z]at q;cases q
   ·rw[Heap.size_push]at h2
    exact Ul h2
  ·show b≠cenv.locals
   rw[hL];exact Rj (hfp b hb).2
  ·have e:cenv.cells.lookup y=some c:=e
   rcases mem e with⟨h1,_⟩|⟨h1,_⟩
   ·exact(hfp b hb).1.2.2.2.2.1 y c h1 z
   ·have h2:s.heap.objs.size+1≤b:=by rw[←z];exact h1
    exact absurd (QS (hfp b hb).2 (Ul h2)) (Sg _)
  ·rcases(hfp b hb).1.2.2.2.1 with z|z
   ·exact I.ok.Kn b o e z
   ·exact absurd (QS (Heap.lt_size e) (QK I.ok.Lw z)) (Sg _)
  ·rcases QM.mp (I.Hd b z)with z|z
   ·exact(hfp b hb).1.2.1 z
   ·exact(hfp b hb).1.2.2.1 z
 refine⟨okB,rfl,I.bare,Un.kept kp,⟨fun _=>none,?_,fun i y av e1 e2 e3=>?_⟩,fun y c e=>?_,?_,fun y c e=>?_,fun p hp=>?_,I.cp.kept kp,by rw[qD];exact I.len⟩
 ·show Heap.Ns _ cenv.locals _
  rw[hL]
  exact Heap.Ns.keeps (Heap.Ns.new ..) fun b o e=>UQ _ _ _ _ e
 ·obtain⟨e2,hne⟩:=xF e2
  have hfr:scope.names.lookup y=some .free∧(cenv.kindOf y=some .cell∨cenv.kindOf y=some .free):=by
   have key:∀k,cenv.scope.names.lookup y=some k→k=.local∨k=.cell∨k=.free→scope.names.lookup y=some .free∧(cenv.kindOf y=some .cell∨cenv.kindOf y=some .free):=fun k hk hk'=>by
    have hk0:=hk
    rw[hsc]at hk
    obtain⟨k',e,r⟩:=pK hk
    have no:¬(k'=.local∨k'=.cell):=fun hh=>by
     rcases ok.own _ (PySem.mem_of_lookup e) hh with e'|e'
     ·obtain⟨p,hp,hpy⟩:=QV.mp e'
      have e3:=ok.ix p hp
      have:p.1=y:=hpy
      rw[this]at e3
      exact hne (QV.mpr ⟨p,hp,zD hN e3 e1⟩)
     ·exact e' (QL e1)
    rcases r with rfl|⟨rfl,rfl⟩
    ·rcases hk' with rfl|rfl|rfl
     ·exact absurd (.inl rfl) no
     ·exact absurd (.inr rfl) no
     ·exact⟨e,.inr hk0⟩
    ·exact⟨e,.inl hk0⟩
   have e3:MC cenv.scope y:=e3
   rcases e3 with e3|e3|e3
   ·exact key _ e3 (.inl rfl)
   ·exact key _ e3 (.inr (.inl rfl))
   ·exact key _ e3 (.inr (.inr rfl))
  obtain⟨m,hn,hl⟩:=I.loc
  have hvis:MC X.env.scope y:=(ok.free _ (PySem.mem_of_lookup hfr.1) rfl).elim (fun k=>.inr (.inl k)) (fun k=>.inr (.inr k))
  obtain⟨w,r,q⟩:=hl i y av e1 e2 hvis
  refine⟨w,r,.inr ⟨hfr.2,?_⟩⟩
  obtain⟨c,h1,h2⟩:=look hfr.1
  rcases q with⟨k,_⟩|⟨_,c',e',z⟩
  ·have k:X.env.scope.names.lookup y=some .local:=k
   rcases ok.free _ (PySem.mem_of_lookup hfr.1) rfl with k'|k'<;>rw[show X.env.scope.names.lookup y=_ from k']at k<;>cases k
  ·rw[h2]at e';cases e'
   exact⟨c,h1,z.keeps kp⟩
 ·have e:cenv.cells.lookup y=some c:=e
  rcases mem e with⟨h1,_⟩|⟨_,z⟩
  ·obtain⟨w,z⟩:=I.cell y c h1
   exact⟨w,z.keeps kp⟩
  ·exact⟨_,z⟩
 ·show H cenv.locals=none
  rw[hL];exact I.cp.fresh (QP _)
 ·have e:cenv.cells.lookup y=some c:=e
  rcases mem e with⟨h1,_⟩|⟨h1,_⟩
  ·exact I.pE y c h1
  ·exact I.cp.fresh (Ul h1)
 ·exact absurd (show p∈([]:List (Addr×Obj))++[]from hp) (by simp)
theorem MD{E:Value→Shared→Prop}{D:Addr}{xs:List V}{y:V}{v:Value}{Q:Value→Shared→Prop}(I:Inv X pins σ H s)(hD:H D=some (.lst xs))(hz:xs.length<sizeLine)(r:RelV y v)
  (h:∀s',Inv X pins σ (upd H D (.lst (xs++[y]))) s'→Q .none s'):wpAny (model X.prog X.w) X.A (call (.builtin "list.append") [.ref D,v]) Q E s:=by
 obtain⟨hz',its,n,ri,e⟩:=I.cp D _ hD
 have hl:=ri.length
 refine append_at (hsz:=by rw[Q1];omega) e fun h' sb ho'=>?_
 refine h {s with heap:=h'} (I.write (t':=s.toks) (by rw[hD];trivial) (.inl rfl) (fun b u hb q=>(sb.2 b hb).trans q) ⟨_,ho'⟩ ⟨by rw[QN];exact hz,its++[v],n+1,ri.append (.cons r .nil),?_⟩)
 rw[ho']
 simp
def NL(X:Cx)(ifs:List Expr)(t:TT):Prop :=
 ∀(pins:List (Addr×Obj))(s:Shared)(σ:St)(H:Hp)(Q:Bool→Hp→Prop),Inv X pins σ H s→t σ H Q →
  wpAny (model X.prog X.w) X.A (forIn ifs true fun c r=>if r=true then do let ok ←isTrue c X.env (eval c X.env);pure (ForInStep.yield ok)else pure (ForInStep.yield r)) (TP X pins σ Q) X.xe s
def Nl:TT:=fun _ H Q=>Q true H
theorem bJ:NL X [] Nl:=fun _ _ _ H _ I h=>wpAny_tests_nil ⟨H,I,h⟩
theorem LX{c:Expr}{t:TT}(h:PT X c t):NL X [c] t:=fun pins s σ H Q I hw=>wpAny_tests_one (h pins s σ H Q I hw)
end
theorem Jn{α:Type}{t:Sem α}{Q Q':α→Shared→Prop}{M:Model}{A:Around}{E:Value→Shared→Prop}{s:Shared}(h:wpAny M A t Q (fun _ _=>False) s)(hQ:∀a s,Q a s→Q' a s):wpAny M A t Q' E s:=wpAny_mono h hQ fun _ _ z=>False.elim z
theorem CK{prog:Program}{w:World}{A:Around}{R:Result→Shared→Prop}{s:Shared}{elt target iter:Expr}{ifs:List Expr}{scope:Scope}{pos:Pos}{it acc:Value}{env:Env}(I:Nat→Shared→Prop)
  (turn:∀n s,I n s→wpAny (model prog w) A (pyNext it) (fun r s₁=>match r with
   | none=>R (.ok .next) s₁
   | some v=>wpAny (model prog w) A (letOwnedTupleGo target it v) (fun _ s₁'=>wpAny (model prog w) A (assign target env v) (fun _ s₂ =>
     wpAny (model prog w) A (forIn ifs true fun c r=>if r=true then do let ok ←isTrue c env (eval c env);pure (ForInStep.yield ok)else pure (ForInStep.yield r)) (fun ok s₃ =>
      if ok=true then wpAny (model prog w) A (eval elt env) (fun x s₄ =>
       wpAny (model prog w) A (call (.builtin "list.append") [acc,x]) (fun _ s₅=>∃m,m<n∧I m s₅) (notedBy (model prog w) A env fun e s'=>R (.error e) s') s₄) (notedBy (model prog w) A env fun e s'=>R (.error e) s') s₃
      else ∃m,m<n∧I m s₃) (notedBy (model prog w) A env fun e s'=>R (.error e) s') s₂) (notedBy (model prog w) A env fun e s'=>R (.error e) s') s₁') (notedBy (model prog w) A env fun e s'=>R (.error e) s') s₁) (notedBy (model prog w) A env fun e s'=>R (.error e) s') s)
  (n:Nat)(h:I n s) :
  codeAny (model prog w) A (.compLoop (.ListComp elt [⟨target,iter,ifs,0⟩] scope pos) 0 it acc env) R s:=by
 refine codeAny_loop rfl I (fun n s hI=>?_) n h
 show wpAny _ A ((compTurn (.ListComp elt [⟨target,iter,ifs,0⟩] scope pos) 0 it acc env).onRaise (fun x=>do noteFrame x env;theTreesLotGoes x)) _ _ s
 refine wpAny_noted ?_
 rw[compTurn_list]
 refine wpAny_bind (Vf (wpAny_bind (wpAny_mono (turn n s hI) (fun r s₁ h₁=>?_) fun _ _ h'=>h')))
 cases r with
 | none=>exact wpAny_pure h₁
 | some v =>
  refine wpAny_bind (wpAny_mono h₁ (fun _ s₁' h₁'=>?_) fun _ _ h'=>h')
  refine wpAny_bind (wpAny_mono h₁' (fun _ s₂ h₂=>wpAny_bind (wpAny_mono h₂ (fun ok s₃ h₃=>?_) fun _ _ h'=>h')) fun _ _ h'=>h')
  cases ok with
  | false=>exact wpAny_pure ⟨rfl,h₃⟩
  | true =>
   exact wpAny_bind (wpAny_bind (wpAny_mono h₃ (fun x s₄ h₄=>wpAny_bind (wpAny_mono h₄ (fun _ s₅ h₅=>wpAny_pure (wpAny_pure ⟨rfl,h₅⟩)) fun _ _ h'=>h')) fun _ _ h'=>h'))
section
variable{X:Cx}
def OI(wi:TI)(g:TG)(tt:TT)(te:TE)(vs:List Nat):TE:=fun σ H Q=>wi σ H fun J H1=>∀D,H1 D=none→∃W:Nat→Nat→Hp→Prop,(∃m,W 0 m (upd H1 D (.lst [])))∧∀i m H,W i m H →
 (J.stop i H∧Q (.ref D) H)∨(J.go i H∧∃Nx:Hp→Prop,(∀H',Nx H'→∃m',m'<m∧W (i+1) m' H')∧∀x H',J.Lh i H x H'→g x (wipe σ vs) H' fun σ2 H2=>wipe σ2 vs=wipe σ vs∧tt σ2 H2 fun b H3 =>
  if b=true then te σ2 H3 fun y H4=>∃acc,H4 D=some (.lst acc)∧acc.length<sizeLine∧Nx (upd H4 D (.lst (acc++[y])))else Nx H3)
theorem HG{pins:List (Addr×Obj)}{s:Shared}{σ:St}{H:Hp}{Q:VK}{elt tg iter:Expr}{ifs:List Expr}{scope:Scope}{own:List (Str×Nat)}{pos pos':Pos}{wi:TI}{g:TG}{tt:TT}{te:TE}{use:Option (Value→Sem Unit)}{Qf:Value→Shared→Prop}
  (hc:X.calm=true)(hN:X.N.Nodup)(I:Inv X pins σ H s)(hi:PI X tg iter wi)(ok:Eb X.N X.env.scope scope own)
  (hg:∀(s:Shared)(H:Hp)(C:Addr)(cl:List (Str×Addr))(fp:List Addr),PG (X.CC s H scope (compEnvC scope cl C X.env) fp) tg g)(ht:∀(s:Shared)(H:Hp)(C:Addr)(cl:List (Str×Addr))(fp:List Addr),NL (X.CC s H scope (compEnvC scope cl C X.env) fp) ifs tt)
  (he:∀(s:Shared)(H:Hp)(C:Addr)(cl:List (Str×Addr))(fp:List Addr),PE (X.CC s H scope (compEnvC scope cl C X.env) fp) elt te)(hs:∀x,foldedSetIterable iter X.env x=pure x)
  (h:OI wi g tt te (own.map (·.2)) σ H Q)
  (hRR:∀D C s' m H',Inv X pins σ H' s'→Q (.ref D) H'→s'.heap.Ns C m→yb X pins H' C→compPost (model X.prog X.w) X.A X.xe use Qf (.ref D) C (.ok .next) s') :
  wpAny (model X.prog X.w) X.A (comprehension (.ListComp elt [⟨tg,iter,ifs,0⟩] scope pos) scope X.env pos' (newList []) false (eval iter X.env) use) Qf X.xe s:=by
 have hfree:∀y∈scope.names,y.2=.free→∃c,X.env.cells.lookup y.1=some c:=fun y hy e=>by
  rcases ok.free y hy e with k|k
  ·exact I.ok.has _ (.inl k)
  ·exact I.ok.has _ (.inr k)
 refine wpAny_comprehension_free (use:=use) rfl hs (F8 hfree) ok.kind (fun y hy e=>by rw[ok.uniq y hy,e])
  (cM (hi pins s σ H _ I h) fun xv s1 hx=>cM hx fun itv s2 h2=>?_)
 obtain⟨it,fp,tn,J,H2,e,I2,T,st2,f2,q⟩:=h2
 subst e
 refine Vd (EN ?_) (by show 0≤sizeLine;decide)
 generalize hD:s2.heap.objs.size=D
 have hDn:H2 D=none:=I2.cp.fresh (Tr hD)
 obtain⟨W,⟨m0,w0⟩,turn⟩:=q D hDn
 generalize hs3:({s2 with heap:=s2.heap.push {cls:=.type "list",data:=.seq ([]:List Value).toArray}}:Shared)=s3
 have I3:Inv X pins σ (upd H2 D (.lst [])) s3:=by
  rw[←hs3]
  refine I2.laid (t':=s2.toks) (fun b o e=>Heap.get?_push_of_some _ e) (Tr hD) ⟨Sr _,[],0,.nil,?_⟩
  rw[←hD]
  exact Heap.get?_push_size _ rfl
 have h3:s3.heap=s2.heap.push {cls:=.type "list",data:=.seq ([]:List Value).toArray}:=by rw[←hs3]
 have sz:∀b∈fp,b<s2.heap.objs.size:=fun b hb=>by
  obtain⟨o,e,_⟩:=T.obj _ _ st2 b hb
  exact Heap.lt_size e
 have f3:∀b∈fp,yb X pins (upd H2 D (.lst [])) b∧b<s3.heap.objs.size:=fun b hb=>by
  have hlt:=sz b hb
  refine⟨⟨?_,(f2 b hb).2⟩,by rw[h3,Heap.size_push];exact Um hlt⟩
  rw[ah (by rw[←hD];exact Rj hlt)]
  exact(f2 b hb).1
 have st3:tn 0 s3.heap:=T.keep _ _ _ st2 fun b _ o e=>by rw[h3];exact Heap.get?_push_of_some _ e
 have I4:=Eh I3 ok hN f3
 have pg:=hg s3 (upd H2 D (.lst [])) s3.heap.objs.size (cellsFrom (s3.heap.objs.size+1) scope.names (bX X.env.cells scope.names [])) fp
 have pt:=ht s3 (upd H2 D (.lst [])) s3.heap.objs.size (cellsFrom (s3.heap.objs.size+1) scope.names (bX X.env.cells scope.names [])) fp
 have pe:=he s3 (upd H2 D (.lst [])) s3.heap.objs.size (cellsFrom (s3.heap.objs.size+1) scope.names (bX X.env.cells scope.names [])) fp
 show codeAny _ _ (.compStart (.ListComp elt [⟨tg,iter,ifs,0⟩] scope pos) 0 (.ref it) (.ref D) (compEnvC scope (cellsFrom (s3.heap.objs.size+1) scope.names (bX X.env.cells scope.names [])) s3.heap.objs.size X.env)) (compPost (model X.prog X.w) X.A X.xe use Qf (.ref D) s3.heap.objs.size) {s3 with heap:=pushCells (s3.heap.push {cls:=.type "dict",data:=.dict #[]}) scope.names}
 have nfp:∀b∈fp,(upd H2 D (.lst [])) b=none:=fun b hb=>(f3 b hb).1.1
 generalize hce:compEnvC scope (cellsFrom (s3.heap.objs.size+1) scope.names (bX X.env.cells scope.names [])) s3.heap.objs.size X.env=ce at I4 pg pt pe ⊢
 have cL:ce.locals=s3.heap.objs.size:=by subst hce;rfl
 generalize hH3:upd H2 D (.lst [])=H3 at I3 I4 pg pt pe w0 nfp f3
 generalize hs4:({s3 with heap:=pushCells (s3.heap.push {cls:=.type "dict",data:=.dict #[]}) scope.names}:Shared)=s4 at I4 ⊢
 have st4:tn 0 s4.heap:=T.keep _ _ _ st3 fun b _ o e=>by rw[←hs4];exact UQ _ _ _ _ (Heap.get?_push_of_some _ e)
 have stat:∀{σ':St}{H':Hp}{s':Shared},Inv (X.CC s3 H3 scope ce fp) [] σ' H' s'→(∀b∈fp,H' b=none)→∀b∈fp,yb (X.CC s3 H3 scope ce fp) [] H' b:=fun{σ' H' s'} I' hn b hb =>
  ⟨hn b hb,(I'.ok.OE b hb).1,I'.ok.JT b hb,.inl hb,fun x c e=>(I'.ok.OE b hb).2 x c e,fun p hp=>absurd (show p∈([]:List (Addr×Obj))++[]from hp) (by simp)⟩
 have loop:codeAny (model X.prog X.w) X.A (.compLoop (.ListComp elt [⟨tg,iter,ifs,0⟩] scope pos) 0 (.ref it) (.ref D) ce) (compPost (model X.prog X.w) X.A X.xe use Qf (.ref D) s3.heap.objs.size) s4:=by
  refine CK (fun n s'=>∃i H',Inv (X.CC s3 H3 scope ce fp) [] (wipe σ (own.map (·.2))) H' s'∧tn i s'.heap∧(∀b∈fp,H' b=none)∧W i n H') ?_ m0 ⟨0,H3,I4,st4,nfp,w0⟩
  rintro n s5 ⟨i,H5,I5,st5,n5,w5⟩
  rcases turn i n H5 w5 with⟨stop,qq⟩|⟨go,Nx,hNx,step⟩
  ·have td:=T.done (X.CC s3 H3 scope ce fp) rfl rfl rfl hc i [] s5 _ H5 (fun _ _=>False) I5 (stat I5 n5) st5 stop
   refine Jn td fun r s6 ⟨hr,I6⟩=>?_
   subst hr
   have I7:Inv X pins σ H5 s6:=I3.NQ (ch:=fp) I6.os I6.base I6.cp I6.bare fun b hb=>⟨(f3 b hb).1.2.2.2.1,(f3 b hb).1.2.1,(f3 b hb).1.2.2.2.2.1,(f3 b hb).1.2.2.2.2.2⟩
   have nC:H5 s3.heap.objs.size=none:=by
    have z:H5 ce.locals=none:=I6.free
    rw[cL]at z
    exact z
   obtain⟨m,hn,_⟩:=I6.loc
   have hn:s6.heap.Ns ce.locals m:=hn
   rw[cL]at hn
   exact hRR D s3.heap.objs.size s6 m H5 I7 qq hn (I3.AQ (QP _) nC)
  ·have ti:=T.item (X.CC s3 H3 scope ce fp) rfl rfl rfl hc i [] s5 _ H5 (fun _ _=>False) I5 (stat I5 n5) st5 go
   refine Jn ti fun r s6 ⟨u,hr,h6⟩=>?_
   subst hr
   refine Jn h6 fun _ s7 ⟨x,H7,I7,r7,y7,st7,n7⟩=>?_
   have I7':=I7.pinned (stat I7 n7) (T.obj _ _ st7)
   refine Jn (pg _ s7 _ H7 x u _ I7' r7 (step x H7 y7)) fun _ s8 ⟨σ8,H8,I8,hw8,q8⟩=>?_
   refine Jn (pt _ s8 σ8 H8 _ I8 q8) fun b s9 ⟨H9,I9,q9⟩=>?_
   have fin:∀{s':Shared}{H':Hp},Inv (X.CC s3 H3 scope ce fp) ([]++zQ fp s7.heap) σ8 H' s'→Nx H'→∃m,m<n∧∃i H',Inv (X.CC s3 H3 scope ce fp) [] (wipe σ (own.map (·.2))) H' s'∧tn i s'.heap∧(∀b∈fp,H' b=none)∧W i m H':=fun{s' H'} I' nx=>by
    obtain⟨m',hm,w'⟩:=hNx H' nx
    have pin':∀b∈fp,∀o,s7.heap.get? b=some o→s'.heap.get? b=some o∧H' b=none:=fun b hb o e =>
     let z:=I'.pin (b,o) (Ri _ (Ri _ (sZ hb e)))
     ⟨z.1,z.2.1⟩
    have hl:(wipe σ (own.map (·.2))).length=σ8.length:=by rw[←hw8,qD]
    refine⟨m',hm,i+1,H',(I'.vz (pins:=[])).weak hl (fun j v e=>?_),T.keep _ _ _ st7 fun b hb o e=>(pin' b hb o e).1,fun b hb=>?_,w'⟩
    ·rw[←hw8]at e
     exact(xF e).1
    ·obtain⟨o,e,_⟩:=T.obj _ _ st7 b hb
     exact(pin' b hb o e).2
   cases b with
   | false =>
    simp only[U3,if_false]at q9 ⊢
    exact fin I9 q9
   | true =>
    simp only[if_true]at q9 ⊢
    refine Jn (pe _ s9 σ8 H9 _ I9 q9) fun z s10 ⟨yv,H10,I10,r10,acc,hD10,hz10,nx⟩=>?_
    exact MD (X:=X.CC s3 H3 scope ce fp) I10 hD10 hz10 r10 fun s11 I11=>fin I11 nx
 exact codeAny_compStart_list loop (T.self X.A 0 _ _ _ st4 loop)
theorem fN{elt tg iter:Expr}{ifs:List Expr}{scope:Scope}{own:List (Str×Nat)}{pos:Pos}{wi:TI}{g:TG}{tt:TT}{te:TE}(hc:X.calm=true)(hN:X.N.Nodup)(hi:PI X tg iter wi)(ok:Eb X.N X.env.scope scope own)
  (hg:∀(s:Shared)(H:Hp)(C:Addr)(cl:List (Str×Addr))(fp:List Addr),PG (X.CC s H scope (compEnvC scope cl C X.env) fp) tg g)(ht:∀(s:Shared)(H:Hp)(C:Addr)(cl:List (Str×Addr))(fp:List Addr),NL (X.CC s H scope (compEnvC scope cl C X.env) fp) ifs tt)
  (he:∀(s:Shared)(H:Hp)(C:Addr)(cl:List (Str×Addr))(fp:List Addr),PE (X.CC s H scope (compEnvC scope cl C X.env) fp) elt te)(hs:∀x,foldedSetIterable iter X.env x=pure x:=by intro _;rfl) :
  PE X (.ListComp elt [⟨tg,iter,ifs,0⟩] scope pos) (OI wi g tt te (own.map (·.2))):=by
 intro pins s σ H Q I h
 rw[eval_ListComp]
 refine HG hc hN I hi ok hg ht he hs h fun D C s' m H' I' q hn f=>⟨m,hn,fun h'' sb=>?_⟩
 obtain⟨f0,f1,f2,f3,f4,f5⟩:=f
 exact⟨.ref D,H',I'.turned (t':=s'.toks) (fun b o hb e=>(sb.2 b hb).trans e) f0 f1 f3 f4 f5,rfl,q⟩
theorem pY{i:Nat}{y:Str}{py:Pos}{elt tg iter:Expr}{ifs:List Expr}{scope:Scope}{own:List (Str×Nat)}{pos spos:Pos}{wi:TI}{g:TG}{tt:TT}{te:TE}(hc:X.calm=true)(hN:X.N.Nodup)(hy:X.N[i]?=some y)(hyl:X.env.scope.names.lookup y=some .local)
  (hsw:swapsWith (.ListComp elt [⟨tg,iter,ifs,0⟩] scope pos) (some (.Name y py)) spos.line X.env=pure true)(hi:PI X tg iter wi)(ok:Eb X.N X.env.scope scope own)
  (hg:∀(s:Shared)(H:Hp)(C:Addr)(cl:List (Str×Addr))(fp:List Addr),PG (X.CC s H scope (compEnvC scope cl C X.env) fp) tg g)(ht:∀(s:Shared)(H:Hp)(C:Addr)(cl:List (Str×Addr))(fp:List Addr),NL (X.CC s H scope (compEnvC scope cl C X.env) fp) ifs tt)
  (he:∀(s:Shared)(H:Hp)(C:Addr)(cl:List (Str×Addr))(fp:List Addr),PE (X.CC s H scope (compEnvC scope cl C X.env) fp) elt te)(hs:∀x,foldedSetIterable iter X.env x=pure x:=by intro _;rfl) :
  PS X (.Assign [.Name y py] (.ListComp elt [⟨tg,iter,ifs,0⟩] scope pos) spos) (Ni (OI wi g tt te (own.map (·.2))) (kK i)):=by
 intro pins s σ H D I h
 rw[exec_Assign_Name_used _ _ _ _ hsw]
 refine wpAny_bind (Vf (wpAny_bind ?_))
 show wpAny _ X.A (do let _ ←comprehension (.ListComp elt [⟨tg,iter,ifs,0⟩] scope pos) scope X.env (firstIterPos [⟨tg,iter,ifs,0⟩] pos) (newList []) false (eval iter X.env) (some (assign (.Name y py) X.env))) _ _ s
 have h:OI wi g tt te (own.map (·.2)) σ H (fun x H1=>kK i x σ H1 D.nx):=h
 refine wpAny_bind (cM (HG (Qf:=fun _ s'=>SP X pins D .next s') hc hN I hi ok hg ht he hs h fun L C s' m H' I' q hn f=>?_) fun _ s' hq=>wpAny_pure (wpAny_pure hq))
 show wpAny _ _ (assign (.Name y py) X.env (.ref L)) _ _ _
 refine Wr (Cm (v:=V.ref L) I' hN hy (.inl hyl) rfl (fun s2 I2 ⟨a,sb,ha⟩=>?_) (.inr hyl))
 obtain⟨f0,f1,f2,f3,f4,f5⟩:=f
 have haC:C≠a:=by
  rcases ha with z|z
  ·rw[z];exact f1
  ·exact fun e=>f4 y a z e.symm
 refine⟨m,hn.sameBut sb haC,fun h3 sb3=>?_⟩
 exact⟨_,H',I2.turned (t':=s2.toks) (fun b o hb e=>(sb3.2 b hb).trans e) f0 f1 f3 f4 f5,q⟩
theorem vy{elt:Expr}{gs:List Comprehension}{scope:Scope}{pos py:Pos}{y:Str}{l:Nat}{env:Env}(hk:env.scope.kind=.function)(hy:env.scope.names.lookup y=some .local)(hl:(py.line==pos.line)=true)
  (ha:(scope.names.any fun(n,k)=>n==y&&(k==.local || k==.cell))=false):swapsWith (.ListComp elt gs scope pos) (some (.Name y py)) l env=pure true:=by
 have ky:env.kindOf y=some .local:=hy
 have hb:env.blockKind=.function:=by unfold Env.blockKind;rw[hk];rfl
 unfold swapsWith
 simp only[hb,ky,ha,Expr.pos,hl]
 rfl
end
def NN(N:List Str)(sc scope:Scope)(own:List (Str×Nat)):Bool :=
 (match scope.kind with|.function=>true|_=>false)&&(scope.names.all fun y=>decide (scope.names.lookup y.1=some y.2))&&(own.all fun p=>decide (N[p.2]?=some p.1)) &&
  (scope.names.all fun y=>match y.2 with
   | .free=>(match sc.names.lookup y.1 with|some .cell=>true|some .free=>true|_=>false)
   | .local=>decide (y.1∈own.map (·.1)) || decide (y.1∉N)
   | .cell=>decide (y.1∈own.map (·.1)) || decide (y.1∉N)
   | _=>true)
theorem bj{N:List Str}{sc scope:Scope}{own:List (Str×Nat)}(h:NN N sc scope own=true):Eb N sc scope own:=by
 unfold NN at h
 simp only[Ro,R3,decide_eq_true_eq]at h
 obtain⟨⟨⟨h1,h2⟩,h3⟩,h4⟩:=h
 refine⟨?_,h2,h3,fun y hy e=>?_,fun y hy e=>?_⟩
 ·split at h1
  ·assumption
  ·cases h1
 ·have q:=h4 y hy
  simp only[e]at q
  split at q<;>first|exact .inl (by assumption)|exact .inr (by assumption)|cases q
 ·have q:=h4 y hy
  rcases e with e|e<;>(simp only[e,VA,decide_eq_true_eq]at q;exact q)
theorem pd:bootBuiltins "reversed"=some (.type "reversed"):=by decide+kernel
section
variable{X:Cx}{pins:List (Addr×Obj)}{σ:St}{H:Hp}{s:Shared}{h':Heap}
theorem Inv.fL{t':Nat}{ch:List Addr}(I:Inv X pins σ H s)(k:∀b o,b∉ch→s.heap.get? b=some o→h'.get? b=some o)(hf:∀b∈ch,yb X pins H b):Inv X pins σ H {s with heap:=h',toks:=t'}:=by
 have nit:∀b u,H b=some u→b∉ch:=fun b u e z=>by
  have q:=(hf b z).1
  rw[q]at e;cases e
 refine I.step (g':=s.gens) (d':=s.drawn) (ch:=ch) (fun b hb=>⟨(hf b hb).2.2.2.1,(hf b hb).2.1,(hf b hb).2.2.2.2.1,(hf b hb).2.2.2.2.2⟩) (fun b o _ _ hc e _=>k b o hc e) (fun b o _ _ hc e _=>⟨o.slots,k b o hc e⟩)
  (fun _ _ _ _ n=>n) (fun b o hc e=>⟨o,k b o hc e⟩) (fun _ _ e=>e) (fun _ _ _ e=>e) (fun b ps e=>⟨#[],by rw[e];simp⟩) (fun m hm=>?_) (fun b u e=>?_) I.bare
 ·obtain⟨o,es,ep,ho,r⟩:=hm
  exact⟨o,es,ep,k _ o (fun z=>(hf _ z).2.1 rfl) ho,r⟩
 ·refine(I.cp b u e).Hc (fun c v hc q=>k c v ?_ q) (fun _ q=>q) fun _ _ q=>q
  rcases hc with z|z
  ·rw[z];exact nit b u e
  ·exact nit c _ z
theorem Inv.my{t':Nat}{ch:List Addr}{T:Addr}{ob:HO}(I:Inv X pins σ H s)(k:∀b o,b∉ch→s.heap.get? b=some o→h'.get? b=some o)(hf:∀b∈ch,yb X pins H b)(hT:s.heap.objs.size≤T)
  (new:fM X.prog X.w (upd H T ob) h' T ob):Inv X pins σ (upd H T ob) {s with heap:=h',toks:=t'}:=by
 have hn:H T=none:=I.cp.fresh hT
 have nit:∀b u,H b=some u→b∉ch:=fun b u e z=>by
  have q:=(hf b z).1
  rw[q]at e;cases e
 refine I.step (g':=s.gens) (d':=s.drawn) (ch:=ch) (fun b hb=>⟨(hf b hb).2.2.2.1,(hf b hb).2.1,(hf b hb).2.2.2.2.1,(hf b hb).2.2.2.2.2⟩) (fun b o _ _ hc e _=>k b o hc e) (fun b o _ _ hc e _=>⟨o.slots,k b o hc e⟩)
  (fun b o _ e n=>?_) (fun b o hc e=>⟨o,k b o hc e⟩) (fun b xs e=>?_) (fun b o u e=>?_) (fun b ps e=>⟨#[],?_⟩) (fun m hm=>?_) (fun b u e=>?_) I.bare
 ·rw[ah (Rj (QS (Heap.lt_size e) hT))];exact n
 ·rw[ah (ao e hn)];exact e
 ·rw[ah (ao e hn)];exact e
 ·rw[ah (ao e hn),e];simp
 ·obtain⟨o,es,ep,ho,r⟩:=hm
  exact⟨o,es,ep,k _ o (fun z=>(hf _ z).2.1 rfl) ho,r⟩
 ·by_cases hb:b=T
  ·subst hb
   rw[af]at e
   cases e
   exact new
  ·rw[ah hb]at e
   refine(I.cp b u e).Hc (fun c v hc q=>k c v ?_ q) (fun c q=>by rw[ah (ao q hn)];exact q) fun c xs q=>by rw[ah (ao q hn)];exact q
   rcases hc with z|z
   ·rw[z];exact nit b u e
   ·exact nit c _ z
end
section
variable{X:Cx}
theorem DH{tg:Expr}{pins:List (Addr×Obj)}{σ:St}{H:Hp}{s:Shared}{R:It→Hp→Prop}{J:It}{tn:Nat→Heap→Prop}{tk:Nat}(I:Inv X pins σ H s)(o:Obj)
  (T:Turn X.prog X.w X.K tg J [s.heap.objs.size] s.heap.objs.size tn)(st:tn 0 (s.heap.push o))(q:R J H):OX X pins σ tg R (.ref s.heap.objs.size) {s with heap:=s.heap.push o,toks:=tk}:=by
 refine⟨s.heap.objs.size,[s.heap.objs.size],tn,J,H,rfl,I.kept fun b ob e=>Heap.get?_push_of_some _ e,T,st,fun b hb=>?_,q⟩
 have e:b=s.heap.objs.size:=by simpa using hb
 subst e
 exact I.AQ (QP _) (I.cp.fresh (QP _))
end
def OP(lo c:Int)(n:Nat):It:=⟨fun i _=>i<n,fun i H x H'=>H'=H∧x=.int (lo+(i:Nat)*c),fun i _=>n≤i⟩
theorem FH{P:Program}{w:World}{K:Frg}{tg:Expr}(it:Addr)(lo c:Int)(n:Nat):Turn P w K tg (OP lo c n) [it] it (fun i h=>IsRangeIter h it (lo+(i:Nat)*c) ((n:Int)-(i:Nat)) c) where
 mem:=by simp
 obj:=fun i h st b hb=>by
  have e:b=it:=by simpa using hb
  subst e
  exact⟨_,st,fun v z=>nomatch z⟩
 keep:=fun i h h' st k=>k it (by simp) _ st
 item:=by
  intro X hP hw hK hc i pins s σ H E I hf st hg
  subst hP hw hK
  obtain⟨f0,f1,f2,f3,f4,f5⟩:=hf it (by simp)
  have W:=Walks.range (prog:=X.prog) (w:=X.w) (I.ok.hd hc) it lo c n
  refine W.item i s _ _ hg st fun v h' tk hv st' kk=>?_
  obtain⟨t,rfl⟩:=hv
  have I1:Inv X pins σ H {s with heap:=h',toks:=tk}:=I.turned (fun b o hb e=>kk b o (by simpa using hb) e) f0 f1 f3 f4 f5
  exact⟨_,rfl,B2 (s:={s with heap:=h',toks:=tk}) (n:="range_iterator") st' rfl rfl (by decide) ⟨.int (lo+(i:Nat)*c),H,I1,⟨t,rfl⟩,⟨rfl,rfl⟩,st',fun b hb=>(hf b hb).1⟩⟩
 done:=by
  intro X hP hw hK hc i pins s σ H E I hf st hg
  subst hP hw hK
  obtain⟨f0,f1,f2,f3,f4,f5⟩:=hf it (by simp)
  exact Vq (I.ok.hd hc) st (by have:n≤i:=hg;omega) fun h' eb=>⟨rfl,I.turned (t':=s.toks) (fun b o hb e=>eb b o hb e) f0 f1 f3 f4 f5⟩
 self:=fun A i s Q E st h=>Vr st h
def Mr(i j c:Int)(n:Nat):Prop:=c≠0∧c.natAbs<1073741824∧Builtin.Range.small i j c=true∧Builtin.Range.rangeSize i j c=n
theorem Mr.neg{i j:Int}(ha:-(2^62)≤i)(ha':i<2^62)(hb:-(2^62)≤j)(hb':j<2^62):Mr i j (-1) (i-j).toNat :=
 ⟨by decide,by decide,PySem.W.small_down ha ha' hb hb',PySem.W.rangeSize_downNat i j⟩
def N0(ta:TA):TI:=fun σ H R=>ta σ H fun vs H1=>E4 fun(i:Int)(j:Int)(c:Int)(n:Nat)=>A3 (vs=[.int i,.int j,.int c]) (Mr i j c n) (R (OP i c n) H1)
section
variable{X:Cx}{tg:Expr}
theorem wY{a b c:Expr}{ta:TA}{p pos:Pos}(hg:Gl X "range")(hm:X.mg "range"=none)(ha:PA X [a,b,c] ta)
  (hs:starEach [a,b,c] X.env=(false,eval a X.env)::starEach [b,c] X.env:=by rfl)(hpl:(backTo pos (starEach [b,c] X.env)).any (·.1)=false:=by rfl) :
  PI X tg (.Call (.Name "range" p) [a,b,c] [] pos) (N0 ta):=by
 intro pins s σ H R I h
 refine Call_ (gx I hg hm boot_range (PyProof.Rows.callWith_type1 (cM (ha pos pins s σ H _ I h) fun us s1 ⟨vs,H1,I1,r1,q1⟩=>?_) hs hpl))
 obtain⟨i,j,k,n,e,⟨c0,c1,c2,c3⟩,q⟩:=q1
 subst e
 cases r1 with
 | cons r rr =>
  cases rr with
  | cons r' rr =>
   cases rr with
   | cons r'' rr =>
    cases rr
    obtain⟨t,rfl⟩:=r
    obtain⟨t',rfl⟩:=r'
    obtain⟨t'',rfl⟩:=r''
    refine call_range_3 c0 ?_ (.inl (PyProof.noPylong_small c1))
    refine Wa (IsRange.new ..) c2 ?_
    have I2:Inv X pins σ H1 {s1 with heap:=s1.heap.push {cls:=.type "range",data:=.fields #[.int i t,.int j t',.int k t'']}}:=I1.kept (t':=s1.toks) fun b o e=>Heap.get?_push_of_some _ e
    refine DH (tk:=s1.toks) I2 _ (FH _ i k n) ?_ q
    have e1:i+((0:Nat):Int)*k=i:=by simp
    have e2:(n:Int)-((0:Nat):Int)=Builtin.Range.rangeSize i j k:=by rw[c3];simp
    show IsRangeIter _ _ (i+((0:Nat):Int)*k) ((n:Int)-((0:Nat):Int)) k
    rw[e1,e2]
    exact Heap.get?_push_size _ rfl
end
def OU(K:Frg)(a:Addr)(n:Nat):It :=
 ⟨fun i H=>i<n∧∃(xs:List V)(x:V),aF K H a xs∧xs[n-1-i]?=some x,fun i H x H'=>H'=H∧∀xs,aF K H a xs→xs[n-1-i]?=some x,fun i _=>n≤i⟩
theorem KZ{P:Program}{w:World}{K:Frg}{tg:Expr}(a it:Addr)(n:Nat):Turn P w K tg (OU K a n) [it] it (fun i h=>i≤n∧h.IsRevIter it a ((n:Int)-1-(i:Nat))) where
 mem:=by simp
 obj:=fun i h st b hb=>by
  have e:b=it:=by simpa using hb
  subst e
  obtain⟨_,o,e,c,d⟩:=st
  exact⟨o,e,fun v z=>by rw[d]at z;cases z⟩
 keep:=fun i h h' st k=>⟨st.1,st.2.at fun o e=>k it (by simp) o e⟩
 item:=by
  intro X hP hw hK hc i pins s σ H E I hf st hg
  subst hP hw hK
  obtain⟨hin,xs,x,hq,hx⟩:=hg
  obtain⟨its,rv,p,hz⟩:=I.list hq
  obtain⟨u,hu,ru⟩:=rv.get hx
  obtain⟨f0,f1,f2,f3,f4,f5⟩:=hf it (by simp)
  obtain⟨_,hit⟩:=st
  have e1:(n:Int)-1-((i:Nat):Int)=((n-1-i:Nat):Int):=by omega
  rw[e1]at hit
  refine VF hit p.isList (x:=u) (by simpa using hu) fun h' st' sb=>?_
  have e2:((n-1-i:Nat):Int)-1=(n:Int)-1-((i+1:Nat):Int):=by omega
  rw[e2]at st'
  have I1:Inv X pins σ H {s with heap:=h'}:=I.turned (t':=s.toks) (fun b o hb e=>(sb.2 b hb).trans e) f0 f1 f3 f4 f5
  obtain⟨o,e,c,d⟩:=id st'
  exact⟨u,rfl,B2 (s:={s with heap:=h'}) e c d (by decide) ⟨x,H,I1,ru,⟨rfl,fun ys hy=>by rw[I.fT hy hq];exact hx⟩,⟨hin,st'⟩,fun b hb=>(hf b hb).1⟩⟩
 done:=by
  intro X hP hw hK hc i pins s σ H E I hf st hg
  subst hP hw hK
  obtain⟨f0,f1,f2,f3,f4,f5⟩:=hf it (by simp)
  obtain⟨hin,hit⟩:=st
  have hge:n≤i:=hg
  have e1:(n:Int)-1-((i:Nat):Int)=-1:=by omega
  rw[e1]at hit
  exact VR (I.ok.hd hc) hit fun h' eb=>⟨rfl,I.turned (t':=s.toks) (fun b o hb e=>eb b o hb e) f0 f1 f3 f4 f5⟩
 self:=fun A i s Q E st h=>T3 st.2 h
def O6(K:Frg)(ta:TA):TI:=fun σ H R=>ta σ H fun vs H1=>E2 fun(a:Addr)(xs:List V)=>A3 (vs=[.ref a]) (aF K H1 a xs) (R (OU K a xs.length) H1)
section
variable{X:Cx}{tg:Expr}
theorem E1{e:Expr}{ta:TA}{p pos:Pos}(hg:Gl X "reversed")(hm:X.mg "reversed"=none)(ha:PA X [e] ta)(hs:starEach [e] X.env=[(false,eval e X.env)]:=by rfl):PI X tg (.Call (.Name "reversed" p) [e] [] pos) (O6 X.K ta):=by
 intro pins s σ H R I h
 refine Call_ (gx I hg hm pd (PyProof.Rows.callWith_type1 (cM (ha pos pins s σ H _ I h) fun us s1 ⟨vs,H1,I1,r1,q1⟩=>?_) hs rfl))
 obtain⟨a,xs,e,hq,q⟩:=q1
 subst e
 cases r1 with
 | cons r rr =>
  cases rr
  cases r
  obtain⟨its,rv,p',hz⟩:=I1.list hq
  have hl:=rv.length
  have e1:((its.toArray.size:Nat):Int)-1=(xs.length:Int)-1-((0:Nat):Int):=by simp only[Q1];omega
  refine Wb p'.isList (T3 (l:=a) (i:=((its.toArray.size:Nat):Int)-1) ⟨_,Heap.get?_push_size _ rfl,rfl,rfl⟩ ?_)
  refine DH (tk:=s1.toks) I1 _ (KZ a _ xs.length) ⟨Sr _,?_⟩ q
  rw[←e1]
  exact⟨_,Heap.get?_push_size _ rfl,rfl,rfl⟩
end
def OS(x:Str):It:=⟨fun i _=>i<x.cps.size,fun i H v H'=>H'=H∧∃c,x.cps[i]?=some c∧v=.str ⟨#[c]⟩,fun i _=>x.cps.size≤i⟩
theorem FI{P:Program}{w:World}{K:Frg}{tg:Expr}(it:Addr)(x:Str)(t:Tok)(ty:String)(hty:ty="str_ascii_iterator"∨ty="str_iterator") :
  Turn P w K tg (OS x) [it] it (fun i h=>h.IsStrIter it ty x t i) where
 mem:=by simp
 obj:=fun i h st b hb=>by
  have e:b=it:=by simpa using hb
  subst e
  obtain⟨o,e,c,d⟩:=st
  exact⟨o,e,fun v z=>by rw[d]at z;cases z⟩
 keep:=fun i h h' st k=>let ⟨o,ho,r⟩:=st;⟨o,k it (by simp) o ho,r⟩
 item:=by
  intro X hP hw hK hc i pins s σ H E I hf st hg
  subst hP hw hK
  obtain⟨f0,f1,f2,f3,f4,f5⟩:=hf it (by simp)
  have W:Walks X.prog X.w X.A it [it] [it] x.cps.size (SignAt x) (fun i h=>h.IsStrIter it ty x t i):=by
   rcases hty with e|e
   ·rw[e];exact Walks.strAscii (I.ok.hd hc) it x t
   ·rw[e];exact Walks.strWide (I.ok.hd hc) it x t
  have hno:["enumerate","zip","dict_itemiterator","dict_reverseitemiterator","odict_iterator","itertools.zip_longest","itertools.pairwise"].contains ty=false:=by
   rcases hty with e|e
   ·rw[e];decide
   ·rw[e];decide
  refine W.item i s _ _ hg st fun v h' tk hv st' kk=>?_
  obtain⟨c,u,hcx,rfl⟩:=hv
  have I1:Inv X pins σ H {s with heap:=h',toks:=tk}:=I.turned (fun b o hb e=>kk b o (by simpa using hb) e) f0 f1 f3 f4 f5
  obtain⟨oi,e,cc,dd⟩:=id st'
  exact⟨_,rfl,B2 (s:={s with heap:=h',toks:=tk}) e cc dd hno ⟨.str ⟨#[c]⟩,H,I1,⟨u,rfl⟩,⟨rfl,c,hcx,rfl⟩,st',fun b hb=>(hf b hb).1⟩⟩
 done:=by
  intro X hP hw hK hc i pins s σ H E I hf st hg
  subst hP hw hK
  obtain⟨f0,f1,f2,f3,f4,f5⟩:=hf it (by simp)
  have hx:x.cps[i]?=none:=Array.getElem?_eq_none hg
  rcases hty with e|e
  ·rw[e]at st
   exact wpAny_pyNext_ascii_end (I.ok.hd hc) st hx fun h' eb=>⟨rfl,I.turned (t':=s.toks) (fun b o hb e=>eb b o hb e) f0 f1 f3 f4 f5⟩
  ·rw[e]at st
   exact wpAny_pyNext_wide_end (I.ok.hd hc) st hx fun h' eb=>⟨rfl,I.turned (t':=s.toks) (fun b o hb e=>eb b o hb e) f0 f1 f3 f4 f5⟩
 self:=fun A i s Q E st h=>by
  rcases hty with e|e
  ·rw[e]at st;exact wpAny_pyIter_striter_ascii st h
  ·rw[e]at st;exact wpAny_pyIter_striter_wide st h
def O7(te:TE):TI:=fun σ H R=>te σ H fun v H1=>EA (fun x=>v=.str x) (fun x=>R (OS x) H1)
theorem M8{X:Cx}{tg e:Expr}{te:TE}(he:PE X e te):PI X tg e (O7 te):=by
 intro pins s σ H R I h
 refine cM (he pins s σ H _ I h) fun v s1 ⟨y,H1,I1,r1,x,ex,q⟩=>?_
 subst ex
 obtain⟨t,rfl⟩:=r1
 cases ha:x.cps.all (·<128)
 ·exact wpAny_pyIter_wide ha (DH (tk:=s1.toks) I1 _ (FI _ x t "str_iterator" (.inr rfl)) ⟨_,Heap.get?_push_size _ rfl,rfl,rfl⟩ q)
 ·exact wpAny_pyIter_ascii ha (DH (tk:=s1.toks) I1 _ (FI _ x t "str_ascii_iterator" (.inl rfl)) ⟨_,Heap.get?_push_size _ rfl,rfl,rfl⟩ q)
def OQ(K:Frg)(a:Addr):It :=
 ⟨fun i H=>∃(xs:List V)(x:V),aF K H a xs∧xs[i]?=some x,fun i H v H'=>∃T x,v=.ref T∧H T=none∧H'=upd H T (.tup [.int (i:Nat),x])∧∀xs,aF K H a xs→xs[i]?=some x,fun i H=>∃xs:List V,aF K H a xs∧xs.length≤i⟩
theorem Jr{P:Program}{w:World}{K:Frg}{elts:List Expr}{kk:Nat}{tpos:Pos}(a e it:Addr) :
  Turn P w K (.Tuple elts kk tpos) (OQ K a) [e,it] e (fun i h=>(∃old,IsEnum h e it ((i:Nat):Int) old)∧h.IsListIter it a i∧e≠it) where
 mem:=by simp
 obj:=fun i h st b hb=>by
  obtain⟨⟨old,he⟩,⟨o,ho,hc,hd⟩,_⟩:=st
  have e':b=e∨b=it:=by simpa using hb
  rcases e' with z|z
  ·rw[z];exact⟨_,he,fun v q=>nomatch q⟩
  ·rw[z];exact⟨o,ho,fun v q=>by rw[hd]at q;cases q⟩
 keep:=fun i h h' st k=>let ⟨⟨old,he⟩,hi,hne⟩:=st;⟨⟨old,k e (by simp) _ he⟩,hi.at fun o q=>k it (by simp) o q,hne⟩
 item:=by
  intro X hP hw hK hc i pins s σ H E I hf st hg
  subst hP hw hK
  obtain⟨⟨old,he⟩,hit,hne⟩:=st
  obtain⟨xs,x,hq,hx⟩:=hg
  obtain⟨its,rv,p,hz⟩:=I.list hq
  obtain⟨u,hu,ru⟩:=rv.get hx
  have hel:e<s.heap.objs.size:=Heap.lt_size he
  have hil:it<s.heap.objs.size:=by obtain⟨_,q,_⟩:=hit;exact Heap.lt_size q
  refine wpAny_pyNext_enum_item he hit p.isList (x:=u) (by simpa using hu) hne fun h' ho hit' hT hsz hk=>?_
  refine⟨_,rfl,U6 (s:={s with heap:=h',toks:=s.toks+1}) ho fun h'' he' sb=>?_⟩
  have hT2:h''.get? s.heap.objs.size=some {cls:=.type "tuple",data:=.seq #[.int i s.toks,u]}:=(sb.2 _ (RW hel)).trans hT
  have new:fM X.prog X.w (upd H s.heap.objs.size (.tup [.int (i:Nat),x])) h'' s.heap.objs.size (.tup [.int (i:Nat),x]) :=
   ⟨by show 2≤sizeLine;decide,[.int i s.toks,u],.cons ⟨_,rfl⟩ (.cons ru .nil),⟨_,hT2,rfl,_,rfl⟩⟩
  have I1:Inv X pins σ (upd H s.heap.objs.size (.tup [.int (i:Nat),x])) {s with heap:=h'',toks:=s.toks+1} :=
   I.my (ch:=[e,it]) (fun b ob hb q=>(sb.2 b (fun z=>hb (by simp[z]))).trans (hk b ob (fun z=>hb (by simp[z])) (fun z=>hb (by simp[z])) q)) hf (QP _) new
  refine⟨.ref s.heap.objs.size,_,I1,rfl,⟨_,x,rfl,I.cp.fresh (QP _),rfl,fun ys hy=>by rw[I.fT hy hq];exact hx⟩,⟨⟨u,?_⟩,hit'.at fun o q=>(sb.2 it (Ne.symm hne)).trans q,hne⟩,fun b hb=>?_⟩
  ·have e1:((i+1:Nat):Int)=(i:Int)+1:=by omega
   rw[e1];exact he'
  ·have hb':b<s.heap.objs.size:=by
    have e':b=e∨b=it:=by simpa using hb
    rcases e' with z|z
    ·rw[z];exact hel
    ·rw[z];exact hil
   rw[ah (Rj hb')]
   exact(hf b hb).1
 done:=by
  intro X hP hw hK hc i pins s σ H E I hf st hg
  subst hP hw hK
  obtain⟨⟨old,he⟩,hit,hne⟩:=st
  obtain⟨xs,hq,hx⟩:=hg
  obtain⟨its,rv,p,hz⟩:=I.list hq
  obtain⟨f0,f1,f2,f3,f4,f5⟩:=hf it (by simp)
  have hl:=rv.length
  exact wpAny_pyNext_enum_end (I.ok.hd hc) he hit p.isList (by simp;omega) fun h' eb=>⟨rfl,I.turned (t':=s.toks) (fun b o hb q=>eb b o hb q) f0 f1 f3 f4 f5⟩
 self:=fun A i s Q E st h=>let ⟨⟨_,he⟩,_⟩:=st;Uo he h
def NW(K:Frg)(ta:TA):TI:=fun σ H R=>ta σ H fun vs H1=>E2 fun a xs=>A3 (vs=[.ref a]) (aF K H1 a xs) (R (OQ K a) H1)
theorem LV{X:Cx}{e:Expr}{ta:TA}{p pos tpos:Pos}{elts:List Expr}{kk:Nat}(hg:Gl X "enumerate")(hm:X.mg "enumerate"=none)(ha:PA X [e] ta)(hs:starEach [e] X.env=[(false,eval e X.env)]:=by rfl) :
  PI X (.Tuple elts kk tpos) (.Call (.Name "enumerate" p) [e] [] pos) (NW X.K ta):=by
 intro pins s σ H R I h
 refine Call_ (gx I hg hm WZ (PyProof.Rows.callWith_type1 (cM (ha pos pins s σ H _ I h) fun us s1 ⟨vs,H1,I1,r1,q1⟩=>?_) hs rfl))
 obtain⟨a,xs,ex,hq,q⟩:=q1
 subst ex
 cases r1 with
 | cons r rr =>
  cases rr
  cases r
  obtain⟨its,rv,p',hz⟩:=I1.list hq
  refine call_enumerate_list p'.isList fun h' he hit hsz hk=>Uo he ?_
  have I2:Inv X pins σ H1 {s1 with heap:=h'}:=I1.kept (t':=s1.toks) hk
  refine⟨s1.heap.objs.size+1,[s1.heap.objs.size+1,s1.heap.objs.size],_,_,H1,rfl,I2,Jr a (s1.heap.objs.size+1) s1.heap.objs.size,⟨⟨.none,he⟩,hit,WB _⟩,fun b hb=>?_,q⟩
  have e':b=s1.heap.objs.size+1∨b=s1.heap.objs.size:=by simpa using hb
  have hle:s1.heap.objs.size≤b:=by
   rcases e' with z|z
   ·rw[z];exact QR _ _
   ·rw[z];exact QP _
  exact I1.AQ hle (I1.cp.fresh hle)
theorem vQ:bootBuiltins "zip"=some (.type "zip"):=by decide+kernel
def OV(K:Frg)(a b:Addr):It :=
 ⟨fun i H=>∃(xs ys:List V)(x y:V),aF K H a xs∧aF K H b ys∧xs[i]?=some x∧ys[i]?=some y,
  fun i H v H'=>∃T x y,v=.ref T∧H T=none∧H'=upd H T (.tup [x,y])∧(∀xs,aF K H a xs→xs[i]?=some x)∧∀ys,aF K H b ys→ys[i]?=some y,
  fun i H=>∃xs ys:List V,aF K H a xs∧aF K H b ys∧(xs.length≤i∨ys.length≤i)⟩
theorem K0{P:Program}{w:World}{K:Frg}{elts:List Expr}{kk:Nat}{tpos:Pos}{a b z TI TO i1 i2:Addr}(D:ZipApart z TI TO i1 i2 a b) :
  Turn P w K (.Tuple elts kk tpos) (OV K a b) [z,TI,TO,i1,i2] z (fun i h=>IsZip h z TI TO .none∧IsPair h TI (.ref i1) (.ref i2)∧(∃x y,IsPair h TO x y)∧h.IsListIter i1 a i∧h.IsListIter i2 b i) where
 mem:=by simp
 obj:=fun i h st c hc=>by
  obtain⟨hz,hTI,⟨x,y,hTO⟩,⟨o1,e1,_,d1⟩,⟨o2,e2,_,d2⟩⟩:=st
  have e':c=z∨c=TI∨c=TO∨c=i1∨c=i2:=by simpa using hc
  rcases e' with q|q|q|q|q
  ·rw[q];exact⟨_,hz,fun v q=>nomatch q⟩
  ·rw[q];exact⟨_,hTI,fun v q=>nomatch q⟩
  ·rw[q];exact⟨_,hTO,fun v q=>nomatch q⟩
  ·rw[q];exact⟨o1,e1,fun v q=>by rw[d1]at q;cases q⟩
  ·rw[q];exact⟨o2,e2,fun v q=>by rw[d2]at q;cases q⟩
 keep:=fun i h h' st k=>by
  obtain⟨hz,hTI,⟨x,y,hTO⟩,h1,h2⟩:=st
  exact⟨k z (by simp) _ hz,k TI (by simp) _ hTI,⟨x,y,k TO (by simp) _ hTO⟩,h1.at fun o q=>k i1 (by simp) o q,h2.at fun o q=>k i2 (by simp) o q⟩
 item:=by
  intro X hP hw hK hc i pins s σ H E I hf st hg
  subst hP hw hK
  obtain⟨hz,hTI,⟨x0,y0,hTO⟩,h1,h2⟩:=st
  obtain⟨xs,ys,x,y,hqx,hqy,hx,hy⟩:=hg
  obtain⟨its,rv,p,_⟩:=I.list hqx
  obtain⟨its2,rv2,p2,_⟩:=I.list hqy
  obtain⟨u,hu,ru⟩:=rv.get hx
  obtain⟨u2,hu2,ru2⟩:=rv2.get hy
  have hzl:z<s.heap.objs.size:=Heap.lt_size hz
  refine wpAny_pyNext_zip_item D hz hTI hTO h1 h2 p.isList p2.isList (x:=u) (y:=u2) (by simpa using hu) (by simpa using hu2) fun h' z' TO' h1' h2' hT hsz hk=>?_
  refine⟨_,rfl,Ub (s:={s with heap:=h'}) z' fun h'' z'' sb=>?_⟩
  have hT2:h''.get? s.heap.objs.size=some {cls:=.type "tuple",data:=.seq #[u,u2]}:=(sb.2 _ (RW hzl)).trans hT
  have new:fM X.prog X.w (upd H s.heap.objs.size (.tup [x,y])) h'' s.heap.objs.size (.tup [x,y]) :=
   ⟨by show 2≤sizeLine;decide,[u,u2],.cons ru (.cons ru2 .nil),⟨_,hT2,rfl,_,rfl⟩⟩
  have I1:Inv X pins σ (upd H s.heap.objs.size (.tup [x,y])) {s with heap:=h''} :=
   I.my (t':=s.toks) (ch:=[z,TI,TO,i1,i2]) (fun c o hb q=>(sb.2 c (fun q'=>hb (by simp[q']))).trans (hk c o (fun q'=>hb (by simp[q'])) (fun q'=>hb (by simp[q'])) (fun q'=>hb (by simp[q'])) (fun q'=>hb (by simp[q'])) q)) hf (QP _) new
  refine⟨.ref s.heap.objs.size,_,I1,rfl,⟨_,x,y,rfl,I.cp.fresh (QP _),rfl,fun l hl=>by rw[I.fT hl hqx];exact hx,fun l hl=>by rw[I.fT hl hqy];exact hy⟩,⟨z'',?_,⟨u,u2,?_⟩,?_,?_⟩,fun c hcm=>?_⟩
  ·exact(sb.2 _ D.TIz).trans (hk _ _ D.TIz D.TITO D.TIi1 D.TIi2 hTI)
  ·exact(sb.2 _ D.TOz).trans TO'
  ·exact h1'.at fun o q=>(sb.2 _ D.i1z).trans q
  ·exact h2'.at fun o q=>(sb.2 _ D.i2z).trans q
  ·have hlt:c<s.heap.objs.size:=by
    have e':c=z∨c=TI∨c=TO∨c=i1∨c=i2:=by simpa using hcm
    rcases e' with q|q|q|q|q
    ·rw[q];exact hzl
    ·rw[q];exact Heap.lt_size hTI
    ·rw[q];exact Heap.lt_size hTO
    ·rw[q];obtain⟨_,e1,_⟩:=h1;exact Heap.lt_size e1
    ·rw[q];obtain⟨_,e2,_⟩:=h2;exact Heap.lt_size e2
   rw[ah (Rj hlt)]
   exact(hf c hcm).1
 done:=by
  intro X hP hw hK hc i pins s σ H E I hf st hg
  subst hP hw hK
  obtain⟨hz,hTI,⟨x0,y0,hTO⟩,h1,h2⟩:=st
  obtain⟨xs,ys,hqx,hqy,hend⟩:=hg
  obtain⟨its,rv,p,_⟩:=I.list hqx
  obtain⟨its2,rv2,p2,_⟩:=I.list hqy
  have l1:=rv.length
  have l2:=rv2.length
  have he:its.toArray[i]?=none∨its2.toArray[i]?=none:=by
   rcases hend with q|q
   ·exact .inl (by simp;omega)
   ·exact .inr (by simp;omega)
  exact wpAny_pyNext_zip_end (I.ok.hd hc) D hz hTI hTO h1 h2 p.isList p2.isList he fun h' hk=>⟨rfl,I.fL (t':=s.toks) (ch:=[z,TI,TO,i1,i2]) (fun c o hb q =>
   hk c o (fun q'=>hb (by simp[q'])) (fun q'=>hb (by simp[q'])) (fun q'=>hb (by simp[q'])) (fun q'=>hb (by simp[q'])) q) hf⟩
 self:=fun A i s Q E st h=>Tw st.1 h
def O9(K:Frg)(ta:TA):TI:=fun σ H R=>ta σ H fun vs H1=>E4 fun a b xs ys=>A4 (vs=[.ref a,.ref b]) (aF K H1 a xs) (aF K H1 b ys) (R (OV K a b) H1)
theorem tH{X:Cx}{e e2:Expr}{ta:TA}{p pos tpos:Pos}{elts:List Expr}{kk:Nat}(hg:Gl X "zip")(hm:X.mg "zip"=none)(ha:PA X [e,e2] ta)
  (hs:starEach [e,e2] X.env=(false,eval e X.env)::starEach [e2] X.env:=by rfl)(hpl:(backTo pos (starEach [e2] X.env)).any (·.1)=false:=by rfl) :
  PI X (.Tuple elts kk tpos) (.Call (.Name "zip" p) [e,e2] [] pos) (O9 X.K ta):=by
 intro pins s σ H R I h
 refine Call_ (gx I hg hm vQ (PyProof.Rows.callWith_type1 (cM (ha pos pins s σ H _ I h) fun us s1 ⟨vs,H1,I1,r1,q1⟩=>?_) hs hpl))
 obtain⟨a,b,xs,ys,ex,hqx,hqy,q⟩:=q1
 subst ex
 cases r1 with
 | cons r rr =>
  cases rr with
  | cons r' rr =>
   cases rr
   cases r
   cases r'
   obtain⟨its,rv,p1,_⟩:=I1.list hqx
   obtain⟨its2,rv2,p2,_⟩:=I1.list hqy
   have la:a<s1.heap.objs.size:=p1.lt
   have lb:b<s1.heap.objs.size:=p2.lt
   refine call_zip_2 p1.isList p2.isList fun h' hz hTI hTO h1 h2 hsz hk=>Tw hz ?_
   have I2:Inv X pins σ H1 {s1 with heap:=h'}:=I1.kept (t':=s1.toks) hk
   refine⟨s1.heap.objs.size+4,[s1.heap.objs.size+4,s1.heap.objs.size+2,s1.heap.objs.size+3,s1.heap.objs.size,s1.heap.objs.size+1],_,_,H1,rfl,I2,K0 (PySem.W.ktu_apart s1.heap.objs.size a b la lb),⟨hz,hTI,⟨_,_,hTO⟩,h1,h2⟩,fun c hcm=>?_,q⟩
   have e':c=s1.heap.objs.size+4∨c=s1.heap.objs.size+2∨c=s1.heap.objs.size+3∨c=s1.heap.objs.size∨c=s1.heap.objs.size+1:=by simpa using hcm
   have hle:s1.heap.objs.size≤c:=by
    rcases e' with z|z|z|z|z
    ·rw[z];exact QR _ _
    ·rw[z];exact QR _ _
    ·rw[z];exact QR _ _
    ·rw[z];exact QP _
    ·rw[z];exact QR _ _
   exact I1.AQ hle (I1.cp.fresh hle)
end L2
section
namespace TL
open PySem PySem.Builtin PySem.Builtin.Str PySem.StrLaws
abbrev tl(x:Str):List Nat:=x.cps.toList
end TL
end
namespace L2
open PySem PySem.Spec PyProof.Rows
def inClass(s:Stmt)(j:Nat):Stmt:=match s with
 | .ClassDef _ _ _ body _ _ _ _ _ _ _=>body.getD j (.Pass ⟨0,0,0,0⟩)
 | _=>.Pass ⟨0,0,0,0⟩
def gh(s:Stmt):Arguments:=match s with
 | .FunctionDef _ a _ _ _ _ _ _ _ _=>a
 | _=>{posonlyargs:=[],args:=[],vararg:=none,kwonlyargs:=[],kw_defaults:=[],kwarg:=none,defaults:=[]}
def fB(s:Stmt):List Stmt:=match s with
 | .FunctionDef _ _ b _ _ _ _ _ _ _=>b
 | _=>[]
def ai(s:Stmt):Scope:=match s with
 | .FunctionDef _ _ _ _ _ _ sc _ _ _=>sc
 | _=>{kind:=.function,names:=[],isGenerator:=false,isCoroutine:=false}
abbrev Lk:Jz:=fun _ _ _ _ _ _=>False
abbrev E0:XK:=fun _ _ _=>False
theorem EZ{X:Cx}:Passes Lk X E0:=fun _ _ _ _ _ _ _ h=>h.elim
structure Mp(K:Frg)(x qual:Str)(st:Stmt)(f:Addr)(fd:FuncData):Prop where
 ex:∃(oc:Value)(od:Option Addr)(kV doc pm:Value)(an:Option Addr)(cdv ct:Value)(osl:Array (Option Value)),
  fd=PySem.W.fnOf x qual (gh st) (fB st) (ai st) .none kV doc pm an cdv ct∧K.lookup f=some ⟨oc,od,.func fd,osl⟩∧PySem.W.codeIn K cdv qual=true
 kp:PySem.W.keepIn K (.ref f)=true
section
variable{P:Program}{w:World}{K:Frg}{mg:Str→Option Value}{base:Heap}
theorem Mp.ok{x qual:Str}{st:Stmt}{f:Addr}{fd:FuncData}{N ps:List Str}{k:Nat}{sp:Sp}(F:Mp K x qual st f fd)(S:ay N ps (ai st))(len:∀vs H Q E,sp vs H Q E→vs.length=ps.length)
  (hbody:∀(cdv:Value)(A:Around)(outer:List Env)(s:Shared)(H:Hp)(vs:List V)(Q:VK)(E:XK),fy k (A.deeper (envOfC qual (ai st) s.heap.objs.size f cdv))→sp vs H Q E →
   ∃t,Ij (IA Lk P w K mg base N qual (ai st) f cdv A outer s H E).Mw (fB st) t∧t {nx:=fun _ H'=>Q .non H',rt:=Q} (start N vs) H):oP P w K mg base Lk (k+1) f fd ps sp:=by
 obtain⟨oc,od,kV,doc,pm,an,cdv,ct,osl,rfl,lk,hcd⟩:=F.ex
 refine NT lk hcd S len fun A outer s H vs Q E hr hsp=>?_
 obtain⟨t,h,q⟩:=hbody cdv A outer s H vs Q E hr hsp
 exact⟨t,h.Mw,q⟩
theorem Mp.binds{x qual:Str}{st:Stmt}{f:Addr}{fd:FuncData}{ps:List Str}(F:Mp K x qual st f fd)
  (h:∀(kV doc pm:Value)(an:Option Addr)(cdv ct:Value)(us:List Value),us.length=ps.length→bindArgs (PySem.W.fnOf x qual (gh st) (fB st) (ai st) .none kV doc pm an cdv ct) ⟨us,[]⟩=pure (ps.zip us)):Binds K fd ps []:=by
 obtain⟨oc,od,kV,doc,pm,an,cdv,ct,osl,rfl,lk,hcd⟩:=F.ex
 exact .all (h kV doc pm an cdv ct)
theorem wq{x qual:Str}{st:Stmt}{f:Addr}{oc:Value}{od an:Option Addr}{osl:Array (Option Value)}{kV doc pm cdv ct:Value}(l:K.lookup f=some ⟨oc,od,.func (PySem.W.fnOf x qual (gh st) (fB st) (ai st) .none kV doc pm an cdv ct),osl⟩)
  (c:PySem.W.codeIn K cdv qual=true)(k:PySem.W.keepIn K (.ref f)=true):Mp K x qual st f (PySem.W.fnOf x qual (gh st) (fB st) (ai st) .none kV doc pm an cdv ct):=⟨⟨oc,od,kV,doc,pm,an,cdv,ct,osl,rfl,l,c⟩,k⟩
end
section
variable{X:Cx}
theorem pv(i:Nat){x:Str}{pos:Pos}(hN:X.N[i]?=some x:=by rfl)(hv:MC X.env.scope x:=by first|exact Or.inl rfl|exact Or.inr (Or.inl rfl)|exact Or.inr (Or.inr rfl))(hd:(x==("__debug__":Str))=false:=by decide)
  (hcd:(x==("__classdict__":Str))=false:=by decide):PE X (.Name x pos) (Ow i):=Kx hN hv hd hcd
end
theorem dg{A B:Prop}(h:B):if false=true then A else B:=by
 rw[if_neg Ra]
 exact h
theorem bP{A B:Prop}(h:A):if true=true then A else B:=by
 rw[if_pos rfl]
 exact h
theorem bF{c A B:Prop} [Decidable c] (h1:c→A) (h2:¬c→B):if c then A else B:=by
 by_cases h:c
 ·rw[if_pos h]
  exact h1 h
 ·rw[if_neg h]
  exact h2 h
def aN(H H':Hp):Prop:=∀b o,H b=some o→H' b=some o
theorem aN.refl(H:Hp):aN H H:=fun _ _ h=>h
theorem aN.trans{H H1 H2:Hp}(a:aN H H1)(b:aN H1 H2):aN H H2:=fun c o h=>b c o (a c o h)
theorem aN.free{H H':Hp}(e:aN H H'){l:Addr}(h:H' l=Option.none):H l=Option.none:=by
 cases q:H l with
 | none=>rfl
 | some o =>
  rw[e l o q]at h
  cases h
theorem at_of{xs:List V}{z:Int}{j:Nat}{v:V}(e:z=(j:Int))(h:xs[j]?=some v):Ls xs z=some v:=by
 rw[e]
 exact cR h
theorem N9{α:Type}{l:List α}(hN:l.Nodup){i j:Nat}{x:α}(a:l[i]?=some x)(b:l[j]?=some x):i=j:=by
 obtain⟨h1,e1⟩:=QO.mp a
 obtain⟨h2,e2⟩:=QO.mp b
 exact(Vj hN).mp (e1.trans e2.symm)
theorem aN.made{H H1:Hp}{x dx C:Addr}(nx:H x=Option.none)(nd:H dx=Option.none)(k:∀b o,(upd (upd H dx (.own x)) x (.ins C dx [])) b=some o→b≠x→H1 b=some o):aN H H1:=fun b o e =>
 k b o (by rw[ah (ao e nx),ah (ao e nd)];exact e) (ao e nx)
open PySem.W (WData Codec OpenSpec Well WellAll ReadsW ReadsAllW)
mutual
/-- x stands for the datum d,lists and tuples all the way -/
inductive Dw(K:Frg)(H:Hp):V→WData→Prop
 | non:Dw K H .non .none
 | bl (b:Bool):Dw K H (.bl b) (.bool b)
 | int (i:Int):Dw K H (.int i) (.int i)
 | str (x:Str):Dw K H (.str x) (.str x)
 | byt (b:Array UInt8):Dw K H (.byt b) (.bytes b.toList)
 | lst {a:Addr} {xs:List V} {ds:List WData}:aF K H a xs→lZ K H xs ds→Dw K H (.ref a) (.list ds)
 | tup {a:Addr} {xs:List V} {ds:List WData}:eQ K H a xs→lZ K H xs ds→Dw K H (.ref a) (.tuple ds)
inductive lZ(K:Frg)(H:Hp):List V→List WData→Prop
 | nil:lZ K H [] []
 | cons {v:V} {vs:List V} {d:WData} {ds:List WData}:Dw K H v d→lZ K H vs ds→lZ K H (v::vs) (d::ds)
end
theorem Hz{K:Frg}{H:Hp}:∀ns:List Int,lZ K H (ns.map V.int) (ns.map WData.int)
 | []=>.nil
 | n::r=>.cons (.int n) (Hz r)
theorem HD{K:Frg}{H:Hp}:∀(ns:List Int)(xs:List V),lZ K H xs (ns.map WData.int)→xs=ns.map V.int
 | [],xs,h=>by
  cases h
  rfl
 | n::r,xs,h=>by
  cases h with
  | cons h1 h2 =>
   cases h1
   rw[HD r _ h2]<;>rfl
section
variable{P:Program}{w:World}{K:Frg}{H:Hp}{h:Heap}{R:PySem.W.WRecords}{cl:Str→Option Addr}
theorem Ng{a:Addr}{xs:List V}(cp:ux P w H h)(KX:K.In h)(q:aF K H a xs):∃(its:List Value)(o:Obj)(n:Nat),Vals xs its∧h.get? a=some o∧o.cls=.type "list"∧o.data=.seq its.toArray n:=by
 rcases q with q|⟨o,its,n,e,hc,_,hd,_,hv⟩
 ·obtain⟨_,its,n,hv,e⟩:=(show fM P w H h a (.lst xs)from q.ok cp)
  exact⟨its,_,n,hv,e,rfl,rfl⟩
 ·exact⟨its.toList,o,n,hv,KX _ _ e,hc,by simp[hd]⟩
theorem Nh{a:Addr}{xs:List V}(cp:ux P w H h)(KX:K.In h)(q:eQ K H a xs):∃(its:List Value)(o:Obj)(n:Nat),Vals xs its∧h.get? a=some o∧o.cls=.type "tuple"∧o.data=.seq its.toArray n:=by
 rcases q with q|⟨o,its,n,e,hc,hd,_,hv⟩
 ·obtain⟨_,its,hv,o,e,hc,n,hd⟩:=(show fM P w H h a (.tup xs)from q.ok cp)
  exact⟨its,o,n,hv,e,hc,hd⟩
 ·exact⟨its.toList,o,n,hv,KX _ _ e,hc,by simp[hd]⟩
mutual
theorem Dw.reads(cp:ux P w H h)(KX:K.In h):∀(d:WData)(v:V)(u:Value),Dw K H v d→RelV v u→∃as,ReadsW R cl h u d as
 | .none,_,_,x,r=>by
  cases x
  cases r
  exact⟨_,ReadsW.none⟩
 | .bool b,_,_,x,r=>by
  cases x
  cases r
  exact⟨_,ReadsW.bool b⟩
 | .int i,_,_,x,r=>by
  cases x
  obtain⟨t,rfl⟩:=r
  exact⟨_,ReadsW.int i t⟩
 | .str s,_,_,x,r=>by
  cases x
  obtain⟨t,rfl⟩:=r
  exact⟨_,ReadsW.str s t⟩
 | .bytes b,_,_,x,r=>by
  cases x
  obtain⟨t,rfl⟩:=r
  exact⟨_,ReadsW.bytes _ t⟩
 | .list ds,_,_,x,r=>by
  cases x with
  | lst hs ha =>
   cases r
   obtain⟨its,o,n,rv,ho,hc,hd⟩:=Ng cp KX hs
   obtain⟨as,hr⟩:=Dw.readsAll cp KX ds _ its ha rv
   exact⟨_,ReadsW.list ho hc hd hr⟩
 | .tuple ds,_,_,x,r=>by
  cases x with
  | tup hs ha =>
   cases r
   obtain⟨its,o,n,rv,ho,hc,hd⟩:=Nh cp KX hs
   obtain⟨as,hr⟩:=Dw.readsAll cp KX ds _ its ha rv
   exact⟨_,ReadsW.tuple ho hc hd hr⟩
 | .float _,_,_,x,_=>by cases x
 | .dict _,_,_,x,_=>by cases x
 | .bytearray _,_,_,x,_=>by cases x
 | .set _,_,_,x,_=>by cases x
 | .frozenset _,_,_,x,_=>by cases x
 | .obj _ _,_,_,x,_=>by cases x
theorem Dw.readsAll(cp:ux P w H h)(KX:K.In h):∀(ds:List WData)(vs:List V)(us:List Value),lZ K H vs ds→Vals vs us→∃as,ReadsAllW R cl h us ds as
 | [],_,_,x,r=>by
  cases x
  cases r
  exact⟨_,ReadsAllW.nil⟩
 | d::ds,_,_,x,r=>by
  cases x with
  | cons h1 h2 =>
   cases r with
   | cons r1 r2 =>
    obtain⟨as,q1⟩:=Dw.reads cp KX d _ _ h1 r1
    obtain⟨bs,q2⟩:=Dw.readsAll cp KX ds _ _ h2 r2
    exact⟨_,ReadsAllW.cons q1 q2⟩
end
end
mutual
/-- data that a codec tells -/
def HQ:WData→Bool
 | .none=>true
 | .bool _=>true
 | .int _=>true
 | .str _=>true
 | .bytes _=>true
 | .list xs=>yk xs
 | .tuple xs=>yk xs
 | _=>false
def yk:List WData→Bool
 | []=>true
 | x::r=>HQ x&&yk r
end
theorem Fb{α:Type}{f:α→WData}(h:∀a,HQ (f a)=true):∀l:List α,yk (l.map f)=true
 | []=>rfl
 | x::r=>by
  show(HQ (f x)&&yk (r.map f))=true
  rw[h x,Fb h r]<;>rfl
theorem pU:∀(c:Codec)(a:c.denote),HQ (c.enc a)=true
 | .unit,_=>rfl
 | .bool,_=>rfl
 | .int _ _,_=>rfl
 | .nat _ _,_=>rfl
 | .u8,_=>rfl
 | .bytes _ _,_=>rfl
 | .text _ _ _ _,_=>rfl
 | .list _ _ c,a=>Fb (fun x=>pU c x) a
 | .pair c d,a=>by
  show(HQ (c.enc a.1)&&(HQ (d.enc a.2)&&true))=true
  rw[pU c a.1,pU d a.2]<;>rfl
 | .triple c d e,a=>by
  show(HQ (c.enc a.1)&&(HQ (d.enc a.2.1)&&(HQ (e.enc a.2.2)&&true)))=true
  rw[pU c a.1,pU d a.2.1,pU e a.2.2]<;>rfl
 | .option c,none=>rfl
 | .option c,some x=>pU c x
theorem Ce:∀(cs:List Codec)(a:Codec.denoteAll cs),yk (Codec.encAll cs a)=true
 | [],_=>rfl
 | c::cs,a=>by
  show(HQ (c.enc a.1)&&yk (Codec.encAll cs a.2))=true
  rw[pU c a.1,Ce cs a.2]<;>rfl
theorem uq:∀{xs:List WData}{d:WData},d∈xs→d.weight≤WData.weightAll xs
 | [],d,h=>absurd h (by simp)
 | x::r,d,h=>by
  show d.weight≤x.weight+1+WData.weightAll r
  rcases QM.mp h with e|m
  ·rw[e]
   omega
  ·have z:=uq m
   omega
def toV:Value→V
 | .none=>.non
 | .bool b=>.bl b
 | .int i _=>.int i
 | .str x _=>.str x
 | .bytes b _=>.byt b
 | .ref a=>.ref a
 | _=>.non
def Ii(A:List Addr):Value→Prop
 | .none=>True
 | .bool _=>True
 | .int _ _=>True
 | .str _ _=>True
 | .bytes _ _=>True
 | .ref a=>a∈A
 | _=>False
theorem Ii.mono{A B:List Addr}(h:∀a∈A,a∈B):∀{u:Value},Ii A u→Ii B u:=fun{u} x=>by
 cases u with
 | ref a=>exact h a x
 | none=>trivial
 | bool b=>trivial
 | int i t=>trivial
 | str s t=>trivial
 | bytes b t=>trivial
 | _=>exact False.elim x
theorem KD{A:List Addr}{u:Value}(x:Ii A u):RelV (toV u) u:=by
 cases u with
 | ref a=>rfl
 | none=>rfl
 | bool b=>rfl
 | int i t=>exact⟨t,rfl⟩
 | str s t=>exact⟨t,rfl⟩
 | bytes b t=>exact⟨t,rfl⟩
 | _=>exact False.elim x
theorem mz{A:List Addr}:∀{vs:List Value},(∀u∈vs,Ii A u)→Vals (vs.map toV) vs
 | [],_=>.nil
 | u::r,h=>.cons (KD (h u (Rc ..))) (mz fun x hx=>h x (Q4 _ hx))
def oH(h:Heap)(A:List Addr)(a:Addr):Prop:=∃vs:List Value,vs.length≤sizeLine∧(∀u∈vs,Ii A u) ∧
 (h.get? a=some {cls:=.type "list",data:=.seq vs.toArray}∨h.get? a=some {cls:=.type "tuple",data:=.seq vs.toArray})
theorem oH.mono{h:Heap}{A B:List Addr}{a:Addr}(k:∀a∈A,a∈B)(x:oH h A a):oH h B a:=by
 obtain⟨vs,h1,h2,h3⟩:=x
 exact⟨vs,h1,fun u hu=>(h2 u hu).mono k,h3⟩
theorem lz{P:Params}{h:Heap}:∀{vs:List Value}{ds:List WData},WellAll P h vs ds→vs.length=ds.length
 | _,_,.nil=>rfl
 | _,_,.cons _ b=>by
  show _+1=_+1
  rw[lz b]
theorem Cp{P:Params}{h:Heap}{v:Value}{ds:List WData}(x:Well P h v (.list ds)):∃(a:Addr)(vs:List Value),v=.ref a∧h.get? a=some {cls:=.type "list",data:=.seq vs.toArray}∧WellAll P h vs ds:=by
 cases x with
 | list ho hall=>exact⟨_,_,rfl,ho,hall⟩
theorem AF{P:Params}{h:Heap}{v:Value}{ds:List WData}(x:Well P h v (.tuple ds)):∃(a:Addr)(vs:List Value),v=.ref a∧h.get? a=some {cls:=.type "tuple",data:=.seq vs.toArray}∧WellAll P h vs ds:=by
 cases x with
 | tuple ho hall=>exact⟨_,_,rfl,ho,hall⟩
theorem Co{P:Params}{h:Heap}{us:List Value}{d:WData}{ds:List WData}(x:WellAll P h us (d::ds)):∃(v:Value)(vs:List Value),us=v::vs∧Well P h v d∧WellAll P h vs ds:=by
 cases x with
 | cons a b=>exact⟨_,_,rfl,a,b⟩
theorem qM{n:Nat}(h:n≤1048576):n≤sizeLine:=QK h (by decide)
section
variable{P:Params}{h:Heap}
mutual
theorem JI:∀(d:WData)(v:Value),Well P h v d→HQ d=true→d.weight≤1048576→∃A:List Addr,Ii A v∧∀a∈A,oH h A a
 | .none,_,x,_,_=>by
  cases x
  exact⟨[],trivial,fun a m=>absurd m (by simp)⟩
 | .bool b,_,x,_,_=>by
  cases x
  exact⟨[],trivial,fun a m=>absurd m (by simp)⟩
 | .int i,_,x,_,_=>by
  cases x
  exact⟨[],trivial,fun a m=>absurd m (by simp)⟩
 | .str s,_,x,_,_=>by
  cases x
  exact⟨[],trivial,fun a m=>absurd m (by simp)⟩
 | .bytes b,_,x,_,_=>by
  cases x
  exact⟨[],trivial,fun a m=>absurd m (by simp)⟩
 | .list ds,_,x,p,z=>by
  obtain⟨a,vs,rfl,ho,hall⟩:=Cp x
  have z2:WData.weightAll ds≤1048576:=z
  obtain⟨A,h1,h2⟩:=uy ds _ hall p fun d hd=>QK (uq hd) z2
  have k:∀b∈A,b∈a::A:=fun b hb=>Q4 _ hb
  refine⟨a::A,Rc ..,fun b hb=>?_⟩
  rcases QM.mp hb with e|m
  ·rw[e]
   exact⟨vs,qM (by rw[lz hall];exact QK (PySem.W.length_le_weightAllW ds) z2),fun u hu=>(h1 u hu).mono k,.inl ho⟩
  ·exact(h2 b m).mono k
 | .tuple ds,_,x,p,z=>by
  obtain⟨a,vs,rfl,ho,hall⟩:=AF x
  have z2:WData.weightAll ds≤1048576:=z
  obtain⟨A,h1,h2⟩:=uy ds _ hall p fun d hd=>QK (uq hd) z2
  have k:∀b∈A,b∈a::A:=fun b hb=>Q4 _ hb
  refine⟨a::A,Rc ..,fun b hb=>?_⟩
  rcases QM.mp hb with e|m
  ·rw[e]
   exact⟨vs,qM (by rw[lz hall];exact QK (PySem.W.length_le_weightAllW ds) z2),fun u hu=>(h1 u hu).mono k,.inr ho⟩
  ·exact(h2 b m).mono k
 | .float _,_,_,p,_=>RV (show false=true from p)
 | .dict _,_,_,p,_=>RV (show false=true from p)
 | .bytearray _,_,_,p,_=>RV (show false=true from p)
 | .set _,_,_,p,_=>RV (show false=true from p)
 | .frozenset _,_,_,p,_=>RV (show false=true from p)
 | .obj _ _,_,_,p,_=>RV (show false=true from p)
theorem uy:∀(ds:List WData)(vs:List Value),WellAll P h vs ds→yk ds=true→(∀d∈ds,d.weight≤1048576)→∃A:List Addr,(∀u∈vs,Ii A u)∧∀a∈A,oH h A a
 | [],_,x,_,_=>by
  cases x
  exact⟨[],fun u m=>absurd m (by simp),fun a m=>absurd m (by simp)⟩
 | d::ds,_,x,p,z=>by
  obtain⟨v,vs,rfl,x1,x2⟩:=Co x
  have q:HQ d=true∧yk ds=true:=Rm.mp p
  obtain⟨A,a1,a2⟩:=JI d v x1 q.1 (z d (Rc ..))
  obtain⟨B,b1,b2⟩:=uy ds vs x2 q.2 fun e he=>z e (Q4 _ he)
  have kA:∀b∈A,b∈A++B:=fun b hb=>RB.mpr (.inl hb)
  have kB:∀b∈B,b∈A++B:=fun b hb=>RB.mpr (.inr hb)
  refine⟨A++B,fun u hu=>?_,fun b hb=>?_⟩
  ·rcases QM.mp hu with e|m
   ·rw[e]
    exact a1.mono kA
   ·exact(b1 u m).mono kB
  ·rcases RB.mp hb with m|m
   ·exact(a2 b m).mono kA
   ·exact(b2 b m).mono kB
end
end
def LG(o:Obj):Option HO:=match o.data with
 | .seq vs _=>if (o.cls==Value.type "list")=true then some (.frz o (.lst (vs.toList.map toV)))else some (.frz o (.tup (vs.toList.map toV)))
 | _=>none
def mG(K:Frg)(h:Heap)(A:List Addr):Hp:=fun b=>if b∈A then(if (K.lookup b).isNone=true then(h.get? b).bind LG else none)else none
def Ed(H:Hp):Prop:=∀b,H b=none∨∃o u,H b=some (.frz o u)
theorem EG(vs:List Value):LG {cls:=.type "list",data:=.seq vs.toArray}=some (.frz {cls:=.type "list",data:=.seq vs.toArray} (.lst (vs.map toV))):=by
 show(if (Value.type "list"==Value.type "list")=true then some (HO.frz {cls:=.type "list",data:=.seq vs.toArray} (.lst (vs.toArray.toList.map toV)))else some (HO.frz {cls:=.type "list",data:=.seq vs.toArray} (.tup (vs.toArray.toList.map toV))))=_
 rw[if_pos (beq_self_eq_true _)]
theorem EH(vs:List Value):LG {cls:=.type "tuple",data:=.seq vs.toArray}=some (.frz {cls:=.type "tuple",data:=.seq vs.toArray} (.tup (vs.map toV))):=by
 show(if (Value.type "tuple"==Value.type "list")=true then some (HO.frz {cls:=.type "tuple",data:=.seq vs.toArray} (.lst (vs.toArray.toList.map toV)))else some (HO.frz {cls:=.type "tuple",data:=.seq vs.toArray} (.tup (vs.toArray.toList.map toV))))=_
 rw[if_neg (by decide)]
section
variable{P:Program}{w:World}{K:Frg}{h:Heap}{A:List Addr}
theorem yw{b:Addr}{o:Obj}(hb:b∈A)(hk:K.lookup b=none)(e:h.get? b=some o):mG K h A b=LG o:=by
 unfold mG
 rw[if_pos hb,hk,if_pos (show(none:Option Obj).isNone=true from rfl),e]<;>rfl
theorem LN{b:Addr}{u:HO}(q:mG K h A b=some u):b∈A∧K.lookup b=none:=by
 unfold mG at q
 by_cases hb:b∈A
 ·rw[if_pos hb]at q
  cases hk:K.lookup b with
  | none=>exact⟨hb,rfl⟩
  | some o =>
   rw[hk,if_neg (by simp)]at q
   cases q
 ·rw[if_neg hb]at q
  cases q
theorem yx(ar:∀a∈A,oH h A a){b:Addr}{u:HO}(q:mG K h A b=some u):K.lookup b=none∧∃vs:List Value,vs.length≤sizeLine∧(∀u∈vs,Ii A u) ∧
  ((h.get? b=some {cls:=.type "list",data:=.seq vs.toArray}∧u=.frz {cls:=.type "list",data:=.seq vs.toArray} (.lst (vs.map toV))) ∨
   (h.get? b=some {cls:=.type "tuple",data:=.seq vs.toArray}∧u=.frz {cls:=.type "tuple",data:=.seq vs.toArray} (.tup (vs.map toV)))):=by
 obtain⟨hb,hk⟩:=LN q
 obtain⟨vs,h1,h2,h3⟩:=ar b hb
 refine⟨hk,vs,h1,h2,?_⟩
 rcases h3 with e|e
 ·rw[yw hb hk e,EG]at q
  exact .inl ⟨e,(Rb q).symm⟩
 ·rw[yw hb hk e,EH]at q
  exact .inr ⟨e,(Rb q).symm⟩
theorem Io(ar:∀a∈A,oH h A a):Ed (mG K h A):=fun b=>by
 cases q:mG K h A b with
 | none=>exact .inl rfl
 | some u =>
  obtain⟨_,vs,_,_,⟨_,e⟩|⟨_,e⟩⟩:=yx ar q
  ·exact .inr ⟨_,_,by rw[e]⟩
  ·exact .inr ⟨_,_,by rw[e]⟩
theorem Lr(ar:∀a∈A,oH h A a):ux P w (mG K h A) h:=fun b u q=>by
 obtain⟨_,vs,h1,h2,⟨e,rfl⟩|⟨e,rfl⟩⟩:=yx ar q
 ·exact⟨e,by rw[QH];exact h1,vs,_,mz h2,e⟩
 ·exact⟨e,by rw[QH];exact h1,vs,mz h2,_,e,rfl,_,rfl⟩
theorem yH{c c':Value}{vs us:List Value}(e:(some {cls:=c,data:=.seq vs.toArray}:Option Obj)=some {cls:=c',data:=.seq us.toArray}):c=c'∧vs=us:=by
 have e1:=Rb e
 have e2:c=c':=congrArg Obj.cls e1
 have e3:Data.seq vs.toArray=Data.seq us.toArray:=congrArg Obj.data e1
 injection e3 with e4
 refine⟨e2,?_⟩
 have e5:=congrArg Wq e4
 simpa using e5
theorem O1(KX:K.In h)(ar:∀a∈A,oH h A a){a:Addr}{vs:List Value}(ha:a∈A)(e:h.get? a=some {cls:=.type "list",data:=.seq vs.toArray}):(∀u∈vs,Ii A u)∧aF K (mG K h A) a (vs.map toV):=by
 obtain⟨us,h1,h2,h3⟩:=ar a ha
 have hu:us=vs:=by
  rcases h3 with q|q
  ·rw[e]at q
   exact(yH q).2.symm
  ·rw[e]at q
   exact absurd (Value.type.inj (yH q).1) (by decide)
 subst hu
 refine⟨h2,?_⟩
 cases hk:K.lookup a with
 | none=>exact .inl (.inr ⟨_,by rw[yw ha hk e,EG]⟩)
 | some o =>
  have e2:=KX a o hk
  rw[e]at e2
  obtain rfl:=Rb e2
  exact .inr ⟨_,us.toArray,_,hk,rfl,rfl,rfl,by rw[Q1];exact h1,by simpa using mz h2⟩
theorem O2(KX:K.In h)(ar:∀a∈A,oH h A a){a:Addr}{vs:List Value}(ha:a∈A)(e:h.get? a=some {cls:=.type "tuple",data:=.seq vs.toArray}):(∀u∈vs,Ii A u)∧eQ K (mG K h A) a (vs.map toV):=by
 obtain⟨us,h1,h2,h3⟩:=ar a ha
 have hu:us=vs:=by
  rcases h3 with q|q
  ·rw[e]at q
   exact absurd (Value.type.inj (yH q).1) (by decide)
  ·rw[e]at q
   exact(yH q).2.symm
 subst hu
 refine⟨h2,?_⟩
 cases hk:K.lookup a with
 | none=>exact .inl (.inr ⟨_,by rw[yw ha hk e,EH]⟩)
 | some o =>
  have e2:=KX a o hk
  rw[e]at e2
  obtain rfl:=Rb e2
  exact .inr ⟨_,us.toArray,_,hk,rfl,rfl,by rw[Q1];exact h1,by simpa using mz h2⟩
mutual
theorem ML{Pm:Params}(KX:K.In h)(ar:∀a∈A,oH h A a):∀(d:WData)(v:Value),Well Pm h v d→HQ d=true→Ii A v→Dw K (mG K h A) (toV v) d
 | .none,_,x,_,_=>by
  cases x
  exact .non
 | .bool b,_,x,_,_=>by
  cases x
  exact .bl b
 | .int i,_,x,_,_=>by
  cases x
  exact .int i
 | .str s,_,x,_,_=>by
  cases x
  exact .str s
 | .bytes b,_,x,_,_=>by
  cases x
  have z:=Dw.byt (K:=K) (H:=mG K h A) b.toArray
  exact z
 | .list ds,_,x,p,hu=>by
  obtain⟨a,vs,rfl,ho,hall⟩:=Cp x
  obtain⟨h2,hs⟩:=O1 KX ar hu ho
  exact .lst hs (CO KX ar ds _ hall p h2)
 | .tuple ds,_,x,p,hu=>by
  obtain⟨a,vs,rfl,ho,hall⟩:=AF x
  obtain⟨h2,hs⟩:=O2 KX ar hu ho
  exact .tup hs (CO KX ar ds _ hall p h2)
 | .float _,_,_,p,_=>RV (show false=true from p)
 | .dict _,_,_,p,_=>RV (show false=true from p)
 | .bytearray _,_,_,p,_=>RV (show false=true from p)
 | .set _,_,_,p,_=>RV (show false=true from p)
 | .frozenset _,_,_,p,_=>RV (show false=true from p)
 | .obj _ _,_,_,p,_=>RV (show false=true from p)
theorem CO{Pm:Params}(KX:K.In h)(ar:∀a∈A,oH h A a):∀(ds:List WData)(vs:List Value),WellAll Pm h vs ds→yk ds=true→(∀u∈vs,Ii A u)→lZ K (mG K h A) (vs.map toV) ds
 | [],_,x,_,_=>by
  cases x
  exact .nil
 | d::ds,_,x,p,hu=>by
  obtain⟨v,vs,rfl,x1,x2⟩:=Co x
  have q:HQ d=true∧yk ds=true:=Rm.mp p
  exact .cons (ML KX ar d v x1 q.1 (hu _ (Rc ..))) (CO KX ar ds vs x2 q.2 fun u m=>hu u (Q4 _ m))
end
end
theorem Jm{P:Program}{w:World}{K:Frg}{mg mb:Str→Option Value}{CX:Jz}{k:Nat}{fa:Addr}{fd:FuncData}{ps:List Str}{sp:Sp}{s₁:Shared}{vals:List Value}{ds:List WData}{R:PySem.W.WRecords}{cl:Str→Option Addr}{d0:WData}
  (KX:K.In s₁.heap)(hns:s₁.heap.Ns mainGlobals mg)(hb:s₁.heap.Ns builtinsNs mb)(hbb:∀x:Str,x≠"__name__"→mb x=bootBuiltins x)(hlim:s₁.heap.NoLimit)(hg:s₁.gens=#[])
  (hwl:WellAll w.params s₁.heap vals ds)(hpl:yk ds=true)(hwt:∀d∈ds,d.weight≤1048576)(hr:fy k callerA)
  (F:∀base:Heap,K.In base→base.Ns mainGlobals mg→oP P w K mg base CX k fa fd ps sp)(hbind:∀(s:Shared)(us:List Value),us.length=ps.length→BindsTo s fd ⟨us,[]⟩ (ps.zip us))(hlen:ds.length=ps.length)
  (hsp:∀(H:Hp)(xs:List V),Ed H→lZ K H xs ds→sp xs H (fun v H'=>Dw K H' v d0) fun _ _ _=>False)
  (hCX:∀H e s',CX [] H s₁ (fun _ _ _=>False) e s'→False) :
  codeAny (model P w) callerA (.call (.ref fa) ⟨vals,[]⟩) (fun r s'=>∃u as,r=.ok (.ret u)∧ReadsW R cl s'.heap u d0 as∧OldK s₁.heap s'.heap∧s'.os=s₁.os∧AllBare s'.gens) s₁:=by
 obtain⟨A,ho,ar⟩:=uy ds vals hwl hpl hwt
 have hO:Ed (mG K s₁.heap A):=Io ar
 have cp:ux P w (mG K s₁.heap A) s₁.heap:=Lr ar
 have hS:=CO KX ar ds vals hwl hpl ho
 have hV:=mz ho
 have hK:∀b u,mG K s₁.heap A b=some u→K.lookup b=none:=fun b u q=>(yx ar q).1
 have noA:∀{b:Addr}{o:Obj}{es:Array DictEntry}{ep:Nat},s₁.heap.get? b=some o→o.data=.dict es ep→mG K s₁.heap A b=none:=fun{b o es ep} e d=>by
  cases q:mG K s₁.heap A b with
  | none=>rfl
  | some u =>
   obtain⟨_,vs,_,_,⟨e2,_⟩|⟨e2,_⟩⟩:=yx ar q
   ·rw[e2]at e
    cases e
    have d':Data.seq vs.toArray _=Data.dict es ep:=d
    cases d'
   ·rw[e2]at e
    cases e
    have d':Data.seq vs.toArray _=Data.dict es ep:=d
    cases d'
 generalize mG K s₁.heap A=H at hO cp hS hK noA
 have base_of:∀{b:Addr}{o:Obj},s₁.heap.get? b=some o→H b=none→(Df s₁.heap H).get? b=some o:=fun e n=>J6 e n
 have nsK:∀{b:Addr}{m:Str→Option Value},s₁.heap.Ns b m→(Df s₁.heap H).Ns b m:=fun{b m} ⟨o,es,ep,e,d,r⟩=>⟨o,es,ep,base_of e (noA e d),d,r⟩
 have nK:∀b o,K.lookup b=some o→H b=none:=fun b o e=>by
  cases q:H b with
  | none=>rfl
  | some u =>
   rw[hK b u q]at e
   cases e
 have hKb:K.In (Df s₁.heap H):=fun b o e=>base_of (KX b o e) (nK b o e)
 have hM:Mod K mg (Df s₁.heap H):=⟨hKb,nsK hns,⟨mb,nsK hb,hbb⟩,let ⟨mc,h1,h2⟩:=hlim;⟨mc,nsK h1,h2⟩⟩
 have e0:FO P w K mg (Df s₁.heap H) callerA [] s₁ H:=⟨rfl,hM,fun b o e=>LO e,Tr (IU _ _),trivial,fun b hb=>absurd (show b∈([]:List Addr)from hb) (by simp),cp,.of_eq hg⟩
 have hl:vals.length=ps.length:=by rw[lz hwl];exact hlen
 refine Uj ((F _ hKb (nsK hns)).run callerA [] s₁ H ⟨vals,[]⟩ vals (vals.map toV) _ _ hr e0 (hbind s₁ vals hl) hV (hsp H _ hO hS)) fun r s' x=>?_
 cases r with
 | error e=>exact(hCX H e s' x).elim
 | ok fl =>
  cases fl with
  | next=>exact False.elim x
  | brk=>exact False.elim x
  | cont=>exact False.elim x
  | ret u =>
   obtain⟨v,H',os,bare,un,hok',r',q⟩:=x
   have kept:∀b o,s₁.heap.get? b=some o→s'.heap.get? b=some o:=fun b o e=>by
    cases q2:H b with
    | none=>exact un.keep b o e q2 (by intro z;exact absurd (show b∈([]:List Addr)from z) (by simp)) (by simp)
    | some u2 =>
     rcases hO b with z|⟨ob,u3,z⟩
     ·rw[q2]at z
      cases z
     ·have z2:=un.C9 b ob _ z
      obtain⟨e1,_⟩:=cp b _ z
      obtain⟨e2,_⟩:=hok' b _ z2
      rw[e]at e1
      cases e1
      exact e2
   have KX':K.In s'.heap:=fun b o e=>kept b o (KX b o e)
   obtain⟨as,hrd⟩:=Dw.reads (R:=R) (cl:=cl) hok' KX' d0 v u q r'
   exact⟨u,as,rfl,hrd,OldK.of_keep kept,os,bare⟩
theorem zo{ds:List WData}(h:WData.layableAll ds=true):∀d∈ds,d.weight≤1048576:=fun d hd =>
 (PySem.W.layableW_iff.mp (R3.mp h d hd)).2.2
theorem yZ:∀(cs:List Codec)(a:Codec.denoteAll cs),(Codec.encAll cs a).length=cs.length
 | [],_=>rfl
 | c::cs,a=>by
  show(Codec.encAll cs a.2).length+1=cs.length+1
  rw[yZ cs a.2]
theorem Jw{r:OpenSpec}{k:Nat}{q:Program}{loose:List Str}{XP:(Str→Option Value)→Heap→Prop}{YP:World→Heap→Prop}{d:DefRec}{K:Params→Frg}{CX:World→Jz}{ps:List Str}{sp:World→Sp}
  (hwell:r.wellSaid=true)(hdf:d.params.defaults=[])(hlen:r.args.length=ps.length)(hr:fy k callerA)
  (hY:∀(w:World)(h:Heap),YP w h→(K w.params).In h)
  (F:∀(w:World)(mg:Str→Option Value)(fa:Addr)(h:Heap),YP w h→(K w.params).In h→h.Ns mainGlobals mg→mg d.name=some (.ref fa) →
   ∃fd:FuncData,(∀(s:Shared)(us:List Value),us.length=ps.length→BindsTo s fd ⟨us,[]⟩ (ps.zip us)) ∧
    ∀base:Heap,(K w.params).In base→base.Ns mainGlobals mg→oP r.prog w (K w.params) mg base (CX w) k fa fd ps (sp w))
  (hsp:∀(w:World)(H:Hp)(xs:List V)(a:Codec.denoteAll r.args),Ed H→Codec.withinAll r.args a=true→Codec.app r.args r.asked a=true→lZ (K w.params) H xs (Codec.encAll r.args a) →
   sp w xs H (fun v H'=>Dw (K w.params) H' v (r.ret.enc (Codec.app r.args r.f a))) fun _ _ _=>False)
  (hCX:∀(w:World)(H:Hp)(s:Shared)(e:Value)(s':Shared),CX w [] H s (fun _ _ _=>False) e s'→False) :
  PySem.W.WalkOS q loose XP YP r d [] (fun f vs=>PySem.call f vs):=by
 intro w Cj s₁ mg mb G Y fa o pm cd doc dV kV ho hd hcd hD hmg hg args vals as hpre hlay hrd hwl hlo
 obtain⟨a,e1,e2⟩:=PySem.W.os_pre_some hpre
 obtain⟨e3,hwi⟩:=Codec.encAll_of_decAll r.args args a e1
 subst e3
 have KX:=hY w _ Y
 obtain⟨fd,hb,hF⟩:=F w mg fa _ Y KX G.T.g hmg
 refine PySem.W.enter_call (Uj (Jm (R:=[]) (cl:=classAt Cj.heap) (d0:=r.ret.enc (Codec.app r.args r.f a)) KX G.T.g G.T.b G.T.builtins G.T.nolimit hg hwl (Ce _ _) (zo hlay) hr hF hb (by rw[yZ];exact hlen)
  (fun H xs hO hS=>hsp w H xs a hO hwi e2 hS) fun H e s'=>hCX w H s₁ e s') fun r' s' hq=>?_)
 obtain⟨u,as',rfl,h1,h2,h3,h4⟩:=hq
 exact⟨.inl ⟨u,_,as',rfl,fun _=>rfl,h1,(OpenSpec.post_iff hwell hwi _ _).mpr rfl,fun z=>RV (show false=true from z)⟩,h2,h3,h4⟩
theorem Hm{r:OpenSpec}{k:Nat}{q:Program}{loose:List Str}{XP:(Str→Option Value)→Heap→Prop}{YP:World→Heap→Prop}{d:DefRec}{K:Params→Frg}{CX:Jz}{ps:List Str}{sp:Frg→Sp}
  (hwell:r.wellSaid=true)(hdf:d.params.defaults=[])(hlen:r.args.length=ps.length)(hr:fy k callerA)
  (hY:∀(w:World)(h:Heap),YP w h→(K w.params).In h)
  (F:∀(w:World)(mg:Str→Option Value)(fa:Addr)(h:Heap),YP w h→(K w.params).In h→h.Ns mainGlobals mg→mg d.name=some (.ref fa) →
   ∃fd:FuncData,(∀(s:Shared)(us:List Value),us.length=ps.length→BindsTo s fd ⟨us,[]⟩ (ps.zip us)) ∧
    ∀base:Heap,(K w.params).In base→base.Ns mainGlobals mg→oP r.prog w (K w.params) mg base CX k fa fd ps (sp (K w.params)))
  (hsp:∀(K:Frg)(H:Hp)(xs:List V)(a:Codec.denoteAll r.args),Ed H→Codec.withinAll r.args a=true→Codec.app r.args r.asked a=true→lZ K H xs (Codec.encAll r.args a) →
   sp K xs H (fun v H'=>Dw K H' v (r.ret.enc (Codec.app r.args r.f a))) fun _ _ _=>False)
  (hCX:∀(H:Hp)(s:Shared)(e:Value)(s':Shared),CX [] H s (fun _ _ _=>False) e s'→False) :
  PySem.W.WalkOS q loose XP YP r d [] (fun f vs=>PySem.call f vs) :=
 Jw (K:=K) (CX:=fun _=>CX) (sp:=fun w=>sp (K w.params)) hwell hdf hlen hr hY F (fun w H xs a h1 h2 h3 h4=>hsp (K w.params) H xs a h1 h2 h3 h4) fun _ H s e s'=>hCX H s e s'
end L2
namespace L2
open PySem PySem.Spec PyProof.Rows
section
variable{X:Cx}{pos:Pos}
theorem MP:OY X .Mult (fun x y H Q=>∃i j,x=.int i∧y=.int j∧Li i j∧Q (.int (i*j)) H):=by
 intro pins s σ H x y v u Q I ra rb h
 obtain⟨i,j,e1,e2,c,q⟩:=h
 subst e1;subst e2
 obtain⟨ta,rfl⟩:=ra
 obtain⟨tb,rfl⟩:=rb
 exact PyProof.Rows.imul_int ⟨.int _,H,I.tok _,⟨_,rfl⟩,q⟩ c.ok
def Pw(K:Frg):R2:=fun x y H Q=>E2 fun d ds=>A5 (Dp K H x d) (Dp K H y (.list ds)) (SeqAt.shaped (PyData.list ds)=true) (SeqAt.shaped d=true) (Q (.bl (ds.any fun z=>PyData.eqv z d)) H)
theorem M0(hu:X.A.units+65<cLine):xK X (compareOp .In) (Pw X.K):=by
 intro pins s σ H x y v u Q I rx ry h
 obtain⟨d,ds,hd,hl,c1,c2,q⟩:=h
 obtain⟨as,g1⟩:=Dp.reads I d x v hd rx
 obtain⟨bs,g2⟩:=Dp.reads I _ y u hl ry
 exact SeqAt.in_list_reads g2 g1 (SeqAt.canLay_of_shaped c1) (SeqAt.canLay_of_shaped c2) (room_in_shaped c2 hu) ⟨.bl _,H,I,rfl,q⟩
def kZ(xs:List V)(lo st:Int):List V:=(sliceRange ((HT.zZ xs.length 0 (some lo):Nat):Int) xs.length st).filterMap fun i=>xs[i]?
def PY(K:Frg)(te:TE)(tl ts:TO):TE:=fun σ H Q=>te σ H fun x H1=>tl σ H1 fun l H2=>ts σ H2 fun c H3=>E4 fun lo st a xs=>A7 (l=some lo) (c=some st) (0<st) (x=.ref a) (aF K H3 a xs) ((kZ xs lo st).length≤xs.length) (∀p,H3 p=none→Q (.ref p) (upd H3 p (.lst (kZ xs lo st))))
theorem vals_get?{xs:List V}{us:List Value}(r:Vals xs us)(i:Nat):(xs[i]?=none∧us[i]?=none)∨∃x u,xs[i]?=some x∧us[i]?=some u∧RelV x u:=by
 cases e:xs[i]? with
 | none =>
  refine .inl ⟨rfl,?_⟩
  have:=r.length
  rw[RT]at e ⊢
  omega
 | some x =>
  obtain⟨u,hu,ru⟩:=r.get e
  exact .inr ⟨x,u,rfl,hu,ru⟩
theorem xE{xs:List V}{us:List Value}(r:Vals xs us):∀L:List Nat,Vals (L.filterMap fun i=>xs[i]?) (L.filterMap fun i=>us[i]?)
 | []=>.nil
 | i::L=>by
  rcases vals_get? r i with⟨e1,e2⟩|⟨x,u,e1,e2,ru⟩
  ·rw[RR,RR,e1,e2]
   exact xE r L
  ·rw[RR,RR,e1,e2]
   exact .cons ru (xE r L)
theorem wV{e lo st:Expr}{te tl ts:TE}{p2:Pos}(he:PE X e te)(hl:PE X lo tl)(hs:PE X st ts):PE X (.Subscript e (.Slice (some lo) none (some st) p2) pos) (PY X.K te (KU tl) (KU ts)):=by
 intro pins s σ H Q I h
 refine Subscript_ (cM (he pins s σ H _ I h) fun v s1 ⟨x,H1,I1,r1,q1⟩=>?_)
 refine wpAny_Slice (cM (bY hl pins s1 σ H1 _ I1 q1) fun vl s2 ⟨l,H2,I2,pl,q2⟩=>?_)
 rw[V5]
 refine wpAny_pure (cM (bY hs pins s2 σ H2 _ I2 q2) fun vs s3 ⟨c,H3,I3,pc,q3⟩=>?_)
 obtain⟨i,j,a,xs,rfl,rfl,hj,rfl,hx,hle,q⟩:=q3
 cases r1
 have I4:Inv X pins σ H3 {s3 with heap:=s3.heap.push {cls:=.type "slice",data:=.fields #[vl,.none,vs]}}:=I3.kept (t':=s3.toks) fun b ob q=>Heap.get?_push_of_some _ q
 obtain⟨its,r,ht,hz⟩:=I4.list hx
 have hlen:=r.length
 show wpAny (model X.prog X.w) X.A (subscriptTail e (.Slice (some lo) none (some st) p2) (.ref a) (.ref s3.heap.objs.size)) (EP X pins σ Q) X.xe {s3 with heap:=s3.heap.push {cls:=.type "slice",data:=.fields #[vl,.none,vs]}}
 refine tail_any (ops:=[.ref a,.ref s3.heap.objs.size]) ht.isList.typeIs slot_list_getitem.lookup ?_ (by with_unfolding_all rfl)
 refine Vh ht.isList (Heap.IsSliceOf.new ..) pl .none pc (by intro z;cases z;omega) ?_ (by rw[Q1]<;>omega)
 have hb:sliceBounds (some i) none (some j) its.toArray.size=(((HT.zZ its.length 0 (some i):Nat):Int),((its.length:Nat):Int),j):=by
  have b1:=(vo (some i) none its.toArray.size).1
  simp only[sliceBounds,Option.getD_some,Vk,hj,if_true,show(1:Int)>0 by decide,Q1]at b1 ⊢
  rw[b1]
 have hp:slicePick its.toArray (some i) none (some j)=((sliceRange ((HT.zZ its.length 0 (some i):Nat):Int) its.length j).filterMap fun k=>its[k]?).toArray:=by
  unfold slicePick
  rw[hb]
  simp only[SN]
 rw[hp,←hlen]
 refine⟨.ref _,_,I4.laid (t':=s3.toks) (o:=.lst (kZ xs i j)) (fun b ob q=>Heap.get?_push_of_some _ q) (QP _) ?_,rfl,q _ (I4.cp.fresh (QP _))⟩
 exact⟨QK hle hz,_,0,xE r _,Heap.get?_push_size _ rfl⟩
def Nj(P:Program)(w:World)(K:Frg)(mg:Str→Option Value)(base:Heap)(k' i:Nat)(t:TA):TE:=fun σ H Q=>E5 fun(k:Nat)(f:Addr)(fd:FuncData)(ps:List Str)(sp:Sp)=>A6 (σ[i]?=some (some (.ref f))) (k≤k') (oP P w K mg base (fun _ _ _ _ _ _=>False) k f fd ps sp) (PySem.W.keepIn K (.ref f)=true) (Binds K fd ps []) (t σ H fun vs H1=>sp vs H1 Q fun _ _ _=>False)
theorem M5{k i:Nat}{x:Str}{e:Expr}{es:List Expr}{p:Pos}{t:TA}(hr:fy k X.A)(hN:X.N[i]?=some x)(hv:MC X.env.scope x)(ha:PA X (e::es) t)
  (hdb:(x==("__debug__":Str))=false:=by decide)(hcd:(x==("__classdict__":Str))=false:=by decide)(he:starEach (e::es) X.env=(false,eval e X.env)::starEach es X.env:=by rfl)(hpl:(backTo pos (starEach es X.env)).any (·.1)=false:=by rfl) :
  PE X (.Call (.Name x p) (e::es) [] pos) (Nj X.prog X.w X.K X.mg X.base k i t):=by
 intro pins s σ H Q I h
 obtain⟨k0,f,fd,ps,sp,e1,hk0,F,hk,hb,h⟩:=h
 refine RY (cM (Kx hN hv hdb hcd pins s σ H (fun v H'=>v=.ref f∧H'=H) I ⟨_,e1,rfl,rfl⟩) fun v s1 ⟨x1,H1,I1,r1,q1⟩=>?_)
 obtain⟨rfl,rfl⟩:=q1
 cases r1
 refine PySem.W.callWith_K (h₀:=X.base) I1.ok.mod.Nv hk (cM (ha pos pins s1 σ _ _ I1 h) fun us s2 ⟨vs,H2,I2,r,q⟩=>⟨I2.FN,?_⟩) he hpl
 exact DO (ds:=[]) (dvs:=[]) (E:=fun _ _ _=>False) F (hr.mono hk0) hb .nil (fun _ _ _ _ _ _ _ z=>z.elim) I2 r (by rw[S7];exact q)
theorem D9:∀{xs:List V}{us:List Value},xs.length=us.length→(∀(j:Nat)(x:V)(u:Value),xs[j]?=some x→us[j]?=some u→RelV x u)→Vals xs us
 | [],[],_,_=>.nil
 | x::xs,u::us,hl,h=>.cons (h 0 x u rfl rfl) (D9 (by simpa using hl) fun j a b ha hb=>h (j+1) a b ha hb)
 | [],_::_,hl,_=>by simp at hl
 | _::_,[],hl,_=>by simp at hl
def Ot(ta:TA):TE:=fun σ H Q=>ta σ H fun vs H1=>E2 fun(i:Int)(j:Int)=>A4 (vs=[.int i,.int j]) ((-(2^62)≤i∧i<2^62∧-(2^62)≤j∧j<2^62)) ((j-i).toNat≤1000000) (∀l,H1 l=none→Q (.ref l) (upd H1 l (.lst ((Q5 (j-i).toNat).map fun k=>V.int (i+(k:Nat))))))
theorem rE{a b:Expr}{ta:TA}{p p' pos':Pos}(hc:X.calm=true)(hg:Gl X "list")(hm:X.mg "list"=none)(hg':Gl X "range")(hm':X.mg "range"=none)(ha:PA X [a,b] ta)
  (hs:starEach [a,b] X.env=(false,eval a X.env)::starEach [b] X.env:=by rfl)(hpl:(backTo pos' (starEach [b] X.env)).any (·.1)=false:=by rfl)
  (hs':starEach [.Call (.Name "range" p') [a,b] [] pos'] X.env=[(false,eval (.Call (.Name "range" p') [a,b] [] pos') X.env)]:=by rfl) :
  PE X (.Call (.Name "list" p) [.Call (.Name "range" p') [a,b] [] pos'] [] pos) (Ot ta):=by
 intro pins s σ H Q I h
 refine RY (gx I hg hm (show bootBuiltins "list"=some (.type "list") by decide+kernel) ?_)
 refine PyProof.Rows.callWith_type1 ?_ (by rw[hs'];rfl) rfl
 rw[hs']
 show wpAny _ _ (spliced [(false,eval (.Call (.Name "range" p') [a,b] [] pos') X.env)]) _ _ s
 refine Calls.spliced_cons (RY (gx I hg' hm' boot_range (PyProof.Rows.callWith_type1 (cM (ha pos' pins s σ H _ I h) fun us s1 ⟨vs,H1,I1,r1,q1⟩=>?_) hs hpl)))
 obtain⟨i,j,rfl,⟨b1,b2,b3,b4⟩,hn,q⟩:=q1
 obtain⟨u1,u2,rfl,⟨t1,rfl⟩,⟨t2,rfl⟩⟩:=vals2 r1
 refine call_range_2 (Calls.spliced_nil ?_)
 have hsz:Builtin.Range.rangeSize i j 1=(((j-i).toNat:Nat):Int):=by rw[rangeSize_one];split<;>omega
 have hsm:Builtin.Range.small i j 1=true:=small_one b1 b2 b3 b4
 refine call_list_range (n:=(j-i).toNat) (I.ok.hd hc) (IsRange.new ..) hsm hsz (by omega) fun h' tk acc' c' hk hS hacc=>?_
 refine⟨.ref _,_,I1.laid (t':=tk) (o:=.lst ((Q5 (j-i).toNat).map fun k=>V.int (i+(k:Nat)))) (fun b o e=>hk b o (Heap.get?_push_of_some _ e)) (by simp) ?_,rfl,q _ (I1.cp.fresh (by simp))⟩
 refine⟨by simp only[QH,Q6];exact QK hn (by decide),acc'.toList,c',D9 (by simp[hacc.1]) (fun k x u hx hu=>?_),by simpa using hS⟩
 obtain⟨t,rfl⟩:=hacc.2 k u (by simpa using hu)
 rw[QI]at hx
 obtain⟨k',hk',rfl⟩:=QQ.mp hx
 have:k'=k:=by
  have:=QO.mp hk'
  simpa using this.2.symm
 subst this
 exact⟨t,by simp⟩
theorem dv(K:Frg){es:List Expr}{k:Nat}{t:Ms}{n:Nat}(hK:X.K=K)(hc:X.calm=true)(h:NJ X es t)(hn:(assignEach es X.env).length=n)(hst:(assignEach es X.env).findIdx? (·.1)=none):PG X (.Tuple es k pos) (NV K n t):=by
 subst hK
 exact M7 hc h hn hst
theorem DF(K:Frg){e:Expr}{f:Str}{ta:TE}(hK:X.K=K)(he:PE X e ta)(hb:attributeBase e f X.env (eval e X.env)=eval e X.env):PE X (.Attribute e f pos) (Oo K ta f):=by
 subst hK
 exact aj he hb
theorem BZ(K:Frg)(hK:X.K=K):o8 X (.builtin "len") (fun xs H Q=>∃p ys,xs=[.ref p]∧(aF K H p ys∨eQ K H p ys)∧Q (.int ys.length) H):=by
 subst hK
 exact az
def Oq(K:Frg)(ta:TA):TE:=fun σ H Q=>ta σ H fun vs H1=>E2 fun(a:Addr)(xs:List V)=>A4 (vs=[.ref a]) (aF K H1 a xs) (xs.length≤1000000) (∀l,H1 l=none→Q (.ref l) (upd H1 l (.lst xs.reverse)))
theorem wU{a:Expr}{ta:TA}{p p' pos':Pos}(hc:X.calm=true)(hg:Gl X "list")(hm:X.mg "list"=none)(hg':Gl X "reversed")(hm':X.mg "reversed"=none)(ha:PA X [a] ta)
  (hs:starEach [a] X.env=[(false,eval a X.env)]:=by rfl)
  (hs':starEach [.Call (.Name "reversed" p') [a] [] pos'] X.env=[(false,eval (.Call (.Name "reversed" p') [a] [] pos') X.env)]:=by rfl) :
  PE X (.Call (.Name "list" p) [.Call (.Name "reversed" p') [a] [] pos'] [] pos) (Oq X.K ta):=by
 intro pins s σ H Q I h
 refine RY (gx I hg hm (show bootBuiltins "list"=some (.type "list") by decide+kernel) ?_)
 refine PyProof.Rows.callWith_type1 ?_ (by rw[hs'];rfl) rfl
 rw[hs']
 show wpAny _ _ (spliced [(false,eval (.Call (.Name "reversed" p') [a] [] pos') X.env)]) _ _ s
 refine Calls.spliced_cons (RY (gx I hg' hm' pd (PyProof.Rows.callWith_type1 (cM (ha pos' pins s σ H _ I h) fun us s1 ⟨vs,H1,I1,r1,q1⟩=>?_) hs rfl)))
 obtain⟨l,xs,rfl,hq,hn,q⟩:=q1
 obtain⟨u,rfl,rx⟩:=vals1 r1
 cases rx
 obtain⟨its,rv,pl,hz⟩:=I1.list hq
 have hlen:=rv.length
 refine Wb pl.isList (Calls.spliced_nil ?_)
 have lt:l<s1.heap.objs.size:=pl.lt
 refine AL (its:=its.toArray) (I.ok.hd hc) ⟨_,Heap.get?_push_size _ rfl,rfl,rfl⟩ (pl.isList.push _) (by rw[Q1];omega) (Rj lt) fun h' tk acc' c' hk hS hacc=>?_
 refine⟨.ref _,_,I1.laid (t':=tk) (o:=.lst xs.reverse) (fun b o e=>hk b o (Rj (Heap.lt_size e)) (Heap.get?_push_of_some _ e)) (by simp) ?_,rfl,q _ (I1.cp.fresh (by simp))⟩
 refine⟨by rw[SI];exact hz,acc'.toList,c',D9 (by simp[hacc.1,hlen]) (fun k x u hx hu=>?_),by simpa using hS⟩
 have hu2:=hacc.2 k u (by simpa using hu)
 have hk2:k<xs.reverse.length:=(QO.mp hx).1
 rw[SI]at hk2
 rw[VH (by omega)]at hx
 rw[Q1,SN,←hlen]at hu2
 obtain⟨v,hv,rv2⟩:=rv.get hx
 rw[hv]at hu2
 cases hu2
 exact rv2
def xM(k:Bool)(K:Frg)(H:Hp)(a:Addr)(xs:List V):Prop:=match k with
 | true=>aF K H a xs
 | false=>eQ K H a xs
theorem xM.inj{pins:List (Addr×Obj)}{σ:St}{H:Hp}{s:Shared}{k:Bool}{a:Addr}{xs ys:List V}(I:Inv X pins σ H s)(h:xM k X.K H a xs)(h':xM k X.K H a ys):xs=ys:=by
 cases k with
 | true=>exact I.fT h h'
 | false=>exact I.Cn h h'
theorem xM.src{pins:List (Addr×Obj)}{σ:St}{H:Hp}{s:Shared}{k:Bool}{a:Addr}{xs:List V}(I:Inv X pins σ H s)(h:xM k X.K H a xs):∃its:List Value,Vals xs its∧bB k s.heap a its.toArray:=by
 cases k with
 | true=>obtain⟨its,r,p,_⟩:=I.list h;exact⟨its,r,p.isList⟩
 | false=>obtain⟨its,r,p,_⟩:=I.tuple h;exact⟨its,r,p⟩
def ON(k1 k2:Bool)(K:Frg)(a b:Addr):It :=
 ⟨fun i H=>∃(xs ys:List V)(x y:V),xM k1 K H a xs∧xM k2 K H b ys∧xs[i]?=some x∧ys[i]?=some y,
  fun i H v H'=>∃T x y,v=.ref T∧H T=none∧H'=upd H T (.tup [x,y])∧(∀xs,xM k1 K H a xs→xs[i]?=some x)∧∀ys,xM k2 K H b ys→ys[i]?=some y,
  fun i H=>∃xs ys:List V,xM k1 K H a xs∧xM k2 K H b ys∧(xs.length≤i∨ys.length≤i)⟩
def OA(K:Frg)(a b c:Addr):It :=
 ⟨fun i H=>∃(xs ys zs:List V)(x y z:V),aF K H a xs∧aF K H b ys∧aF K H c zs∧xs[i]?=some x∧ys[i]?=some y∧zs[i]?=some z,
  fun i H v H'=>∃T x y z,v=.ref T∧H T=none∧H'=upd H T (.tup [x,y,z])∧(∀xs,aF K H a xs→xs[i]?=some x)∧(∀ys,aF K H b ys→ys[i]?=some y)∧∀zs,aF K H c zs→zs[i]?=some z,
  fun i H=>∃xs ys zs:List V,aF K H a xs∧aF K H b ys∧aF K H c zs∧(xs.length≤i∨ys.length≤i∨zs.length≤i)⟩
theorem qV{k:Bool}{h:Heap}{it l:Addr}{i:Nat}(q:aY k h it l i):∃o,h.get? it=some o∧∀v,o.data≠.cell v:=by
 cases k<;>(obtain⟨o,ho,_,d⟩:=q;exact⟨o,ho,fun v e=>by rw[d]at e;cases e⟩)
theorem As{k:Bool}{h:Heap}{it l:Addr}{i:Nat}(q:aY k h it l i):it<h.objs.size:=by
 obtain⟨o,ho,_⟩:=qV q
 exact Heap.lt_size ho
theorem Fz{k:Bool}{h:Heap}{l:Addr}{its:Array Value}(q:bB k h l its):l<h.objs.size:=by
 obtain⟨o,ho⟩:=q.here
 exact Heap.lt_size ho
theorem Jt{P:Program}{w:World}{K:Frg}{elts:List Expr}{kk:Nat}{tpos:Pos}{k1 k2:Bool}{a b z TI TO i1 i2:Addr}(D:vC z TI TO i1 i2 a b) :
  Turn P w K (.Tuple elts kk tpos) (ON k1 k2 K a b) [z,TI,TO,i1,i2] z (fun i h=>IsZip h z TI TO .none∧IsPair h TI (.ref i1) (.ref i2)∧(∃x y,IsPair h TO x y)∧aY k1 h i1 a i∧aY k2 h i2 b i) where
 mem:=by simp
 obj:=fun i h st c hc=>by
  obtain⟨hz,hTI,⟨x,y,hTO⟩,w1,w2⟩:=st
  have e':c=z∨c=TI∨c=TO∨c=i1∨c=i2:=by simpa using hc
  rcases e' with rfl|rfl|rfl|rfl|rfl
  ·exact⟨_,hz,fun v q=>nomatch q⟩
  ·exact⟨_,hTI,fun v q=>nomatch q⟩
  ·exact⟨_,hTO,fun v q=>nomatch q⟩
  ·exact qV w1
  ·exact qV w2
 keep:=fun i h h' st k=>by
  obtain⟨hz,hTI,⟨x,y,hTO⟩,w1,w2⟩:=st
  exact⟨k z (by simp) _ hz,k TI (by simp) _ hTI,⟨x,y,k TO (by simp) _ hTO⟩,w1.move fun o q=>k i1 (by simp) o q,w2.move fun o q=>k i2 (by simp) o q⟩
 item:=by
  intro X hP hw hK hc i pins s σ H E I hf st hg
  subst hP hw hK
  obtain⟨hz,hTI,⟨x0,y0,hTO⟩,w1,w2⟩:=st
  obtain⟨xs,ys,x,y,qx,qy,hx,hy⟩:=hg
  obtain⟨its,rv,p⟩:=qx.src I
  obtain⟨its2,rv2,p2⟩:=qy.src I
  obtain⟨u,hu,ru⟩:=rv.get hx
  obtain⟨u2,hu2,ru2⟩:=rv2.get hy
  have nd:=D.nd
  simp only[Rh,QM,Q8,or_false,not_or,not_false_eq_true,SW,and_true]at nd
  obtain⟨⟨a1,a2,a3,a4⟩,⟨b1,b2,b3⟩,⟨c1,c2⟩,d1⟩:=nd
  have zl:z<s.heap.objs.size:=Heap.lt_size hz
  refine Jp D hz hTI hTO w1 w2 p p2 (x:=u) (y:=u2) (by simpa using hu) (by simpa using hu2) fun g z' TO' w1' w2' hT hsz hk=>?_
  refine⟨_,rfl,Ub (s:={s with heap:=g}) z' fun g' z'' sb=>?_⟩
  have hT2:g'.get? s.heap.objs.size=some {cls:=.type "tuple",data:=.seq #[u,u2]}:=(sb.2 _ (RW zl)).trans hT
  have new:fM X.prog X.w (upd H s.heap.objs.size (.tup [x,y])) g' s.heap.objs.size (.tup [x,y]):=⟨by show 2≤sizeLine;decide,[u,u2],.cons ru (.cons ru2 .nil),⟨_,hT2,rfl,_,rfl⟩⟩
  have I1:Inv X pins σ (upd H s.heap.objs.size (.tup [x,y])) {s with heap:=g'} :=
   I.my (t':=s.toks) (ch:=[z,TI,TO,i1,i2]) (fun c o hb q=>by
    simp only[QM,Q8,or_false,not_or]at hb
    exact(sb.2 c hb.1).trans (hk c o (by simp only[QM,Q8,or_false,not_or];exact⟨hb.1,hb.2.2.1,hb.2.2.2.1,hb.2.2.2.2⟩) q)) hf (QP _) new
  refine⟨.ref s.heap.objs.size,_,I1,rfl,⟨_,x,y,rfl,I.cp.fresh (QP _),rfl,fun l hl=>by rw[xM.inj I hl qx];exact hx,fun l hl=>by rw[xM.inj I hl qy];exact hy⟩,⟨z'',?_,⟨u,u2,?_⟩,?_,?_⟩,fun c hcm=>?_⟩
  ·exact(sb.2 _ (Ne.symm a1)).trans (hk _ _ (by simp only[QM,Q8,or_false,not_or];exact⟨Ne.symm a1,b1,b2,b3⟩) hTI)
  ·exact(sb.2 _ (Ne.symm a2)).trans TO'
  ·exact w1'.move fun o q=>(sb.2 _ (Ne.symm a3)).trans q
  ·exact w2'.move fun o q=>(sb.2 _ (Ne.symm a4)).trans q
  ·have hlt:c<s.heap.objs.size:=by
    have e':c=z∨c=TI∨c=TO∨c=i1∨c=i2:=by simpa using hcm
    rcases e' with rfl|rfl|rfl|rfl|rfl
    ·exact zl
    ·exact Heap.lt_size hTI
    ·exact Heap.lt_size hTO
    ·exact As w1
    ·exact As w2
   rw[ah (Rj hlt)]
   exact(hf c hcm).1
 done:=by
  intro X hP hw hK hc i pins s σ H E I hf st hg
  subst hP hw hK
  obtain⟨hz,hTI,⟨x0,y0,hTO⟩,w1,w2⟩:=st
  obtain⟨xs,ys,qx,qy,hend⟩:=hg
  obtain⟨its,rv,p⟩:=qx.src I
  obtain⟨its2,rv2,p2⟩:=qy.src I
  have l1:=rv.length
  have l2:=rv2.length
  have he:its.toArray[i]?=none∨its2.toArray[i]?=none:=by
   rcases hend with q|q
   ·exact .inl (by simp;omega)
   ·exact .inr (by simp;omega)
  refine Hg (I.ok.hd hc) D hz hTI hTO w1 w2 p p2 he fun g hk=>⟨rfl,I.fL (t':=s.toks) (ch:=[z,TI,TO,i1,i2]) (fun c o hb q=>hk c o (fun m=>hb ?_) q) hf⟩
  simp only[QM,Q8,or_false]at m ⊢
  rcases m with m|m|m|m
  ·exact .inl m
  ·exact .inr (.inr (.inl m))
  ·exact .inr (.inr (.inr (.inl m)))
  ·exact .inr (.inr (.inr (.inr m)))
 self:=fun A i s Q E st h=>Tw st.1 h
theorem Qb(n:Nat){L:List Nat}(h:L.Nodup):(L.map (n+·)).Nodup:=Ws.2 (h.imp fun h e=>h (Nat.add_left_cancel e))
theorem P8{n c:Nat}{L:List Nat}(h:c∈L.map (n+·)):n≤c:=by
 obtain⟨k,_,rfl⟩:=QV.1 h
 exact QR ..
theorem Qr(n:Nat):([n+4,n+2,n+3,n,n+1]:List Nat).Nodup:=Qb n (L:=[4,2,3,0,1]) (by decide)
theorem P6{n c:Nat}(h:c∈([n+4,n+2,n+3,n,n+1]:List Nat)):n≤c:=P8 (L:=[4,2,3,0,1]) h
theorem Qc{n l:Nat}(h:l<n):l∉([n+4,n+2,n+3,n,n+1]:List Nat):=fun m=>Wc.2 h (P6 m)
theorem Qs(n:Nat):([n+5,n+3,n+4,n,n+1,n+2]:List Nat).Nodup:=Qb n (L:=[5,3,4,0,1,2]) (by decide)
theorem P7{n c:Nat}(h:c∈([n+5,n+3,n+4,n,n+1,n+2]:List Nat)):n≤c:=P8 (L:=[5,3,4,0,1,2]) h
theorem Pj{n l:Nat}(h:l<n):l∉([n+5,n+3,n+4,n,n+1,n+2]:List Nat):=fun m=>Wc.2 h (P7 m)
theorem FU(n l1 l2:Nat)(h1:l1<n)(h2:l2<n):vC (n+4) (n+2) (n+3) n (n+1) l1 l2:=⟨Qr n,Qc h1,Qc h2⟩
theorem FV(n l1 l2 l3:Nat)(h1:l1<n)(h2:l2<n)(h3:l3<n):vD (n+5) (n+3) (n+4) n (n+1) (n+2) l1 l2 l3:=⟨Qs n,Pj h1,Pj h2,Pj h3⟩
def N1(k1 k2:Bool)(K:Frg)(ta:TA):TI:=fun σ H R=>ta σ H fun vs H1=>E4 fun a b xs ys=>A4 (vs=[.ref a,.ref b]) (xM k1 K H1 a xs) (xM k2 K H1 b ys) (R (ON k1 k2 K a b) H1)
theorem HM(k1 k2:Bool){e e2:Expr}{ta:TA}{p pos tpos:Pos}{elts:List Expr}{kk:Nat}(hg:Gl X "zip")(hm:X.mg "zip"=none)(ha:PA X [e,e2] ta)
  (hs:starEach [e,e2] X.env=(false,eval e X.env)::starEach [e2] X.env:=by rfl)(hpl:(backTo pos (starEach [e2] X.env)).any (·.1)=false:=by rfl) :
  PI X (.Tuple elts kk tpos) (.Call (.Name "zip" p) [e,e2] [] pos) (N1 k1 k2 X.K ta):=by
 intro pins s σ H R I h
 refine Call_ (gx I hg hm vQ (PyProof.Rows.callWith_type1 (cM (ha pos pins s σ H _ I h) fun us s1 ⟨vs,H1,I1,r1,q1⟩=>?_) hs hpl))
 obtain⟨a,b,xs,ys,rfl,qx,qy,q⟩:=q1
 obtain⟨u1,u2,rfl,g1,g2⟩:=vals2 r1
 cases g1
 cases g2
 obtain⟨its,rv,p1⟩:=qx.src I1
 obtain⟨its2,rv2,p2⟩:=qy.src I1
 refine Iu p1 p2 fun g hz hTI hTO w1 w2 hk=>Tw hz ?_
 have I2:Inv X pins σ H1 {s1 with heap:=g}:=I1.kept (t':=s1.toks) hk
 refine⟨s1.heap.objs.size+4,[s1.heap.objs.size+4,s1.heap.objs.size+2,s1.heap.objs.size+3,s1.heap.objs.size,s1.heap.objs.size+1],_,_,H1,rfl,I2,Jt (FU s1.heap.objs.size a b (Fz p1) (Fz p2)),⟨hz,hTI,⟨_,_,hTO⟩,w1,w2⟩,fun c hcm=>?_,q⟩
 have hle:s1.heap.objs.size≤c:=P6 hcm
 exact I1.AQ hle (I1.cp.fresh hle)
theorem Ju{P:Program}{w:World}{K:Frg}{elts:List Expr}{kk:Nat}{tpos:Pos}{a b c z TI TO i1 i2 i3:Addr}(D:vD z TI TO i1 i2 i3 a b c) :
  Turn P w K (.Tuple elts kk tpos) (OA K a b c) [z,TI,TO,i1,i2,i3] z (fun i h=>IsZip h z TI TO .none∧dz h TI (.ref i1) (.ref i2) (.ref i3)∧(∃x y v,dz h TO x y v)∧aY true h i1 a i∧aY true h i2 b i∧aY true h i3 c i) where
 mem:=by simp
 obj:=fun i h st d hd=>by
  obtain⟨hz,hTI,⟨x,y,v,hTO⟩,w1,w2,w3⟩:=st
  have e':d=z∨d=TI∨d=TO∨d=i1∨d=i2∨d=i3:=by simpa using hd
  rcases e' with rfl|rfl|rfl|rfl|rfl|rfl
  ·exact⟨_,hz,fun v q=>nomatch q⟩
  ·exact⟨_,hTI,fun v q=>nomatch q⟩
  ·exact⟨_,hTO,fun v q=>nomatch q⟩
  ·exact qV w1
  ·exact qV w2
  ·exact qV w3
 keep:=fun i h h' st k=>by
  obtain⟨hz,hTI,⟨x,y,v,hTO⟩,w1,w2,w3⟩:=st
  exact⟨k z (by simp) _ hz,k TI (by simp) _ hTI,⟨x,y,v,k TO (by simp) _ hTO⟩,w1.move fun o q=>k i1 (by simp) o q,w2.move fun o q=>k i2 (by simp) o q,w3.move fun o q=>k i3 (by simp) o q⟩
 item:=by
  intro X hP hw hK hc i pins s σ H E I hf st hg
  subst hP hw hK
  obtain⟨hz,hTI,⟨x0,y0,v0,hTO⟩,w1,w2,w3⟩:=st
  obtain⟨xs,ys,vs,x,y,v,qx,qy,qv,hx,hy,hv⟩:=hg
  obtain⟨its,rv,p⟩:=xM.src (k:=true) I qx
  obtain⟨its2,rv2,p2⟩:=xM.src (k:=true) I qy
  obtain⟨its3,rv3,p3⟩:=xM.src (k:=true) I qv
  obtain⟨u,hu,ru⟩:=rv.get hx
  obtain⟨u2,hu2,ru2⟩:=rv2.get hy
  obtain⟨u3,hu3,ru3⟩:=rv3.get hv
  have nd:=D.nd
  simp only[Rh,QM,Q8,or_false,not_or,not_false_eq_true,SW,and_true]at nd
  obtain⟨⟨a1,a2,a3,a4,a5⟩,⟨b1,b2,b3,b4⟩,⟨c1,c2,c3⟩,⟨d1,d2⟩,e1⟩:=nd
  have zl:z<s.heap.objs.size:=Heap.lt_size hz
  refine Jq D hz hTI hTO w1 w2 w3 p p2 p3 (x:=u) (y:=u2) (v:=u3) (by simpa using hu) (by simpa using hu2) (by simpa using hu3) fun g z' TO' w1' w2' w3' hT hsz hk=>?_
  refine⟨_,rfl,Ub (s:={s with heap:=g}) z' fun g' z'' sb=>?_⟩
  have hT2:g'.get? s.heap.objs.size=some {cls:=.type "tuple",data:=.seq #[u,u2,u3]}:=(sb.2 _ (RW zl)).trans hT
  have new:fM X.prog X.w (upd H s.heap.objs.size (.tup [x,y,v])) g' s.heap.objs.size (.tup [x,y,v]):=⟨by show 3≤sizeLine;decide,[u,u2,u3],.cons ru (.cons ru2 (.cons ru3 .nil)),⟨_,hT2,rfl,_,rfl⟩⟩
  have I1:Inv X pins σ (upd H s.heap.objs.size (.tup [x,y,v])) {s with heap:=g'} :=
   I.my (t':=s.toks) (ch:=[z,TI,TO,i1,i2,i3]) (fun c o hb q=>by
    simp only[QM,Q8,or_false,not_or]at hb
    exact(sb.2 c hb.1).trans (hk c o (by simp only[QM,Q8,or_false,not_or];exact⟨hb.1,hb.2.2.1,hb.2.2.2.1,hb.2.2.2.2.1,hb.2.2.2.2.2⟩) q)) hf (QP _) new
  refine⟨.ref s.heap.objs.size,_,I1,rfl,⟨_,x,y,v,rfl,I.cp.fresh (QP _),rfl,fun l hl=>by rw[I.fT hl qx];exact hx,fun l hl=>by rw[I.fT hl qy];exact hy,fun l hl=>by rw[I.fT hl qv];exact hv⟩,⟨z'',?_,⟨u,u2,u3,?_⟩,?_,?_,?_⟩,fun c hcm=>?_⟩
  ·exact(sb.2 _ (Ne.symm a1)).trans (hk _ _ (by simp only[QM,Q8,or_false,not_or];exact⟨Ne.symm a1,b1,b2,b3,b4⟩) hTI)
  ·exact(sb.2 _ (Ne.symm a2)).trans TO'
  ·exact w1'.move fun o q=>(sb.2 _ (Ne.symm a3)).trans q
  ·exact w2'.move fun o q=>(sb.2 _ (Ne.symm a4)).trans q
  ·exact w3'.move fun o q=>(sb.2 _ (Ne.symm a5)).trans q
  ·have hlt:c<s.heap.objs.size:=by
    have e':c=z∨c=TI∨c=TO∨c=i1∨c=i2∨c=i3:=by simpa using hcm
    rcases e' with rfl|rfl|rfl|rfl|rfl|rfl
    ·exact zl
    ·exact Heap.lt_size hTI
    ·exact Heap.lt_size hTO
    ·exact As w1
    ·exact As w2
    ·exact As w3
   rw[ah (Rj hlt)]
   exact(hf c hcm).1
 done:=by
  intro X hP hw hK hc i pins s σ H E I hf st hg
  subst hP hw hK
  obtain⟨hz,hTI,⟨x0,y0,v0,hTO⟩,w1,w2,w3⟩:=st
  obtain⟨xs,ys,vs,qx,qy,qv,hend⟩:=hg
  obtain⟨its,rv,p⟩:=xM.src (k:=true) I qx
  obtain⟨its2,rv2,p2⟩:=xM.src (k:=true) I qy
  obtain⟨its3,rv3,p3⟩:=xM.src (k:=true) I qv
  have l1:=rv.length
  have l2:=rv2.length
  have l3:=rv3.length
  have he:its.toArray[i]?=none∨its2.toArray[i]?=none∨its3.toArray[i]?=none:=by
   rcases hend with q|q|q
   ·exact .inl (by simp;omega)
   ·exact .inr (.inl (by simp;omega))
   ·exact .inr (.inr (by simp;omega))
  refine Hi (I.ok.hd hc) D hz hTI hTO w1 w2 w3 p p2 p3 he fun g hk=>⟨rfl,I.fL (t':=s.toks) (ch:=[z,TI,TO,i1,i2,i3]) (fun c o hb q=>hk c o (fun m=>hb ?_) q) hf⟩
  simp only[QM,Q8,or_false]at m ⊢
  rcases m with m|m|m|m|m
  ·exact .inl m
  ·exact .inr (.inr (.inl m))
  ·exact .inr (.inr (.inr (.inl m)))
  ·exact .inr (.inr (.inr (.inr (.inl m))))
  ·exact .inr (.inr (.inr (.inr (.inr m))))
 self:=fun A i s Q E st h=>Tw st.1 h
theorem vals3{x y z:V}{us:List Value}(r:Vals [x,y,z] us):∃u v t,us=[u,v,t]∧RelV x u∧RelV y v∧RelV z t:=by
 cases r with
 | cons g1 r =>
  obtain⟨u,v,rfl,g2,g3⟩:=vals2 r
  exact⟨_,_,_,rfl,g1,g2,g3⟩
def N2(K:Frg)(ta:TA):TI:=fun σ H R=>ta σ H fun vs H1=>E6 fun a b c xs ys zs=>A5 (vs=[.ref a,.ref b,.ref c]) (aF K H1 a xs) (aF K H1 b ys) (aF K H1 c zs) (R (OA K a b c) H1)
theorem HN{e e2 e3:Expr}{ta:TA}{p pos tpos:Pos}{elts:List Expr}{kk:Nat}(hg:Gl X "zip")(hm:X.mg "zip"=none)(ha:PA X [e,e2,e3] ta)
  (hs:starEach [e,e2,e3] X.env=(false,eval e X.env)::starEach [e2,e3] X.env:=by rfl)(hpl:(backTo pos (starEach [e2,e3] X.env)).any (·.1)=false:=by rfl) :
  PI X (.Tuple elts kk tpos) (.Call (.Name "zip" p) [e,e2,e3] [] pos) (N2 X.K ta):=by
 intro pins s σ H R I h
 refine Call_ (gx I hg hm vQ (PyProof.Rows.callWith_type1 (cM (ha pos pins s σ H _ I h) fun us s1 ⟨vs,H1,I1,r1,q1⟩=>?_) hs hpl))
 obtain⟨a,b,c,xs,ys,zs,rfl,qx,qy,qv,q⟩:=q1
 obtain⟨u1,u2,u3,rfl,g1,g2,g3⟩:=vals3 r1
 cases g1
 cases g2
 cases g3
 obtain⟨its,rv,p1⟩:=xM.src (k:=true) I1 qx
 obtain⟨its2,rv2,p2⟩:=xM.src (k:=true) I1 qy
 obtain⟨its3,rv3,p3⟩:=xM.src (k:=true) I1 qv
 refine Iv p1 p2 p3 fun g hz hTI hTO w1 w2 w3 hk=>Tw hz ?_
 have I2:Inv X pins σ H1 {s1 with heap:=g}:=I1.kept (t':=s1.toks) hk
 refine⟨s1.heap.objs.size+5,[s1.heap.objs.size+5,s1.heap.objs.size+3,s1.heap.objs.size+4,s1.heap.objs.size,s1.heap.objs.size+1,s1.heap.objs.size+2],_,_,H1,rfl,I2,Ju (FV s1.heap.objs.size a b c (Fz p1) (Fz p2) (Fz p3)),⟨hz,hTI,⟨_,_,_,hTO⟩,w1,w2,w3⟩,fun c hcm=>?_,q⟩
 have hle:s1.heap.objs.size≤c:=P7 hcm
 exact I1.AQ hle (I1.cp.fresh hle)
def OO(K:Frg)(a:Addr):It :=
 ⟨fun i H=>∃(xs:List V)(x:V),aF K H a xs∧xs[i]?=some x,fun i H v H'=>∃T x,v=.ref T∧H T=none∧H'=upd H T (.tup [.int ((i+1:Nat):Int),x])∧∀xs,aF K H a xs→xs[i]?=some x,fun i H=>∃xs:List V,aF K H a xs∧xs.length≤i⟩
theorem Hj{P:Program}{w:World}{K:Frg}{elts:List Expr}{kk:Nat}{tpos:Pos}(a e it:Addr) :
  Turn P w K (.Tuple elts kk tpos) (OO K a) [e,it] e (fun i h=>(∃old,IsEnum h e it ((i+1:Nat):Int) old)∧h.IsListIter it a i∧e≠it) where
 mem:=by simp
 obj:=fun i h st b hb=>by
  obtain⟨⟨old,he⟩,⟨o,ho,hc,hd⟩,_⟩:=st
  have e':b=e∨b=it:=by simpa using hb
  rcases e' with rfl|rfl
  ·exact⟨_,he,fun v q=>nomatch q⟩
  ·exact⟨o,ho,fun v q=>by rw[hd]at q;cases q⟩
 keep:=fun i h h' st k=>let ⟨⟨old,he⟩,hi,hne⟩:=st;⟨⟨old,k e (by simp) _ he⟩,hi.at fun o q=>k it (by simp) o q,hne⟩
 item:=by
  intro X hP hw hK hc i pins s σ H E I hf st hg
  subst hP hw hK
  obtain⟨⟨old,he⟩,hit,hne⟩:=st
  obtain⟨xs,x,hq,hx⟩:=hg
  obtain⟨its,rv,p,hz⟩:=I.list hq
  obtain⟨u,hu,ru⟩:=rv.get hx
  have hel:e<s.heap.objs.size:=Heap.lt_size he
  have hil:it<s.heap.objs.size:=by obtain⟨_,q,_⟩:=hit;exact Heap.lt_size q
  refine IB he hit p.isList (x:=u) (by simpa using hu) hne fun g ho hit' hT hsz hk=>?_
  refine⟨_,rfl,U6 (s:={s with heap:=g,toks:=s.toks+1}) ho fun g' he' sb=>?_⟩
  have hT2:g'.get? s.heap.objs.size=some {cls:=.type "tuple",data:=.seq #[.int ((i+1:Nat):Int) s.toks,u]}:=(sb.2 _ (RW hel)).trans hT
  have new:fM X.prog X.w (upd H s.heap.objs.size (.tup [.int ((i+1:Nat):Int),x])) g' s.heap.objs.size (.tup [.int ((i+1:Nat):Int),x]) :=
   ⟨by show 2≤sizeLine;decide,[.int ((i+1:Nat):Int) s.toks,u],.cons ⟨_,rfl⟩ (.cons ru .nil),⟨_,hT2,rfl,_,rfl⟩⟩
  have I1:Inv X pins σ (upd H s.heap.objs.size (.tup [.int ((i+1:Nat):Int),x])) {s with heap:=g',toks:=s.toks+1} :=
   I.my (ch:=[e,it]) (fun b ob hb q=>(sb.2 b (fun z=>hb (by simp[z]))).trans (hk b ob (fun z=>hb (by simp[z])) (fun z=>hb (by simp[z])) q)) hf (QP _) new
  refine⟨.ref s.heap.objs.size,_,I1,rfl,⟨_,x,rfl,I.cp.fresh (QP _),rfl,fun ys hy=>by rw[I.fT hy hq];exact hx⟩,⟨⟨u,?_⟩,hit'.at fun o q=>(sb.2 it (Ne.symm hne)).trans q,hne⟩,fun b hb=>?_⟩
  ·have e1:((i+1+1:Nat):Int)=((i+1:Nat):Int)+1:=by omega
   rw[e1];exact he'
  ·have hb':b<s.heap.objs.size:=by
    have e':b=e∨b=it:=by simpa using hb
    rcases e' with rfl|rfl
    ·exact hel
    ·exact hil
   rw[ah (Rj hb')]
   exact(hf b hb).1
 done:=by
  intro X hP hw hK hc i pins s σ H E I hf st hg
  subst hP hw hK
  obtain⟨⟨old,he⟩,hit,hne⟩:=st
  obtain⟨xs,hq,hx⟩:=hg
  obtain⟨its,rv,p,hz⟩:=I.list hq
  obtain⟨f0,f1,f2,f3,f4,f5⟩:=hf it (by simp)
  have hl:=rv.length
  exact Ge (I.ok.hd hc) he hit p.isList (by simp;omega) fun g eb=>⟨rfl,I.turned (t':=s.toks) (fun b o hb q=>eb b o hb q) f0 f1 f3 f4 f5⟩
 self:=fun A i s Q E st h=>let ⟨⟨_,he⟩,_⟩:=st;Uo he h
def MO(K:Frg)(te:TE):TI:=fun σ H R=>te σ H fun v H1=>E2 fun a xs=>A3 (v=.ref a) (aF K H1 a xs) (R (OO K a) H1)
theorem Ky{e:Expr}{te:TE}{p pos tpos kp ip:Pos} {j} {elts:List Expr} {kk:Nat} (hg:Gl X "enumerate") (hm:X.mg "enumerate"=none) (he:PE X e te) (hs:starEach [e] X.env=[(false,eval e X.env)]:=by rfl) :
  PI X (.Tuple elts kk tpos) (.Call (.Name "enumerate" p) [e] [⟨some "start",.Constant (.int 1) j ip,kp⟩] pos) (MO X.K te):=by
 intro pins s σ H R I h
 refine RY (gx I hg hm WZ (yW (he:=by rw[hs];rfl) (hplain:=by rw[hs];rfl) ?_))
 rw[hs]
 show wpAny _ _ (spliced [(false,eval e X.env)]) _ _ s
 refine Calls.spliced_cons (cM (he pins s σ H _ I h) fun u s1 ⟨v,H1,I1,r1,q1⟩=>Calls.spliced_nil ?_)
 obtain⟨a,xs,rfl,hq,q⟩:=q1
 cases r1
 refine PyProof.Rows.kws_cons (V9 (PyProof.Rows.kws_nil ?_))
 have I1':Inv X pins σ H1 {s1 with toks:=s1.toks+1}:=I1.tok _
 obtain⟨its,rv,p',hz⟩:=I1'.list hq
 show wpAny _ _ (call (.type "enumerate") [.ref a] [("start",.int 1 s1.toks)]) _ _ _
 refine FZ p'.isList fun g hE hit hk=>Uo hE ?_
 have I2:Inv X pins σ H1 {s1 with toks:=s1.toks+1,heap:=g}:=I1'.kept (t':=s1.toks+1) hk
 refine⟨s1.heap.objs.size+1,[s1.heap.objs.size+1,s1.heap.objs.size],_,_,H1,rfl,I2,Hj a (s1.heap.objs.size+1) s1.heap.objs.size,⟨⟨.none,hE⟩,hit,WB _⟩,fun b hb=>?_,q⟩
 have hle:s1.heap.objs.size≤b:=by
  have e':b=s1.heap.objs.size+1∨b=s1.heap.objs.size:=by simpa using hb
  rcases e' with z|z
  ·rw[z];exact QR _ _
  ·rw[z];exact QP _
 exact I1.AQ hle (I1.cp.fresh hle)
end
end L2
namespace Bp
open Vbbcag
theorem bZ{α β:Type}(f:α→List β)(k:Nat):∀(A:List α),(∀a∈A,(f a).length=k)→(A.flatMap f).length=A.length*k
 | [],_=>by simp
 | a::r,h=>by
  have h1:=h a (by simp)
  have h2:=bZ f k r (fun b hb=>h b (by simp[hb]))
  rw[Sm,QN,h1,h2,Q2,RD,Sw]
theorem dG{α β:Type}(f:α→List β)(k:Nat):∀(A:List α),(∀a∈A,(f a).length=k)→∀(i j:Nat)(a:α),A[i]?=some a→j<k→(A.flatMap f)[i*k+j]?=(f a)[j]?
 | [],_,i,j,a,h,_=>by simp at h
 | b::r,hk,0,j,a,h,hj=>by
  have e:b=a:=Rb h
  subst e
  have h1:=hk b (by simp)
  rw[Sm,T8,TF,Q0 (Nat.lt_of_lt_of_eq hj h1.symm)]
 | b::r,hk,i+1,j,a,h,hj=>by
  have h1:=hk b (by simp)
  have ih:=dG f k r (fun c hc=>hk c (by simp[hc])) i j a h hj
  rw[Sm,QX (by rw[h1,RD];exact QK (Rx ..) (QR ..)),h1]
  rw[←ih]
  congr 1
  rw[RD];exact VU (U7 ..)
structure Wf(u:Unit_):Prop where
 IZ:1≤u.low
 lh:u.low≤u.high
 Lc:u.high≤60
 st:u.start≤1000
 rn:u.run≤1000
 pr:u.per≤1000
 up1:1≤u.up
 Np:u.up≤8
 CM:1≤u.down
 O3:u.down≤8
 Qx:1≤u.ramp
 PJ:u.ramp≤60
 QF:1≤u.name.length
 Pk:u.name.length≤8
 QG:u.name.all letter=true
def rK(u:Unit_):Mode→Prop
 | .off h=>1≤h∧h≤u.down
 | .on h l=>1≤h∧h≤u.up∧u.low≤l∧l≤u.high
theorem sb{a j:Nat}(h:j+1≤a):a-j=a-(j+1)+1:=by rw[←UI,RO (Sk h)]
theorem Pq{n:Nat}(h:n≤1000000):-(2^62)≤(n:Int)∧(n:Int)<2^62:=by omega
theorem Qe{n:Nat}(h:n≤1000000):-(2^63)≤(n:Int)∧(n:Int)<2^63:=by omega
theorem bi{n:Nat}(h:n≤1000000):(n:Int)<1073741824:=by omega
theorem P5{t i:Nat}(h:i<t):(t:Int)-1+(i:Int)*-1=((t-(i+1):Nat):Int):=by omega
theorem Qg{a b:Nat}(h:a≤1000000)(k:b≤1000000):-(2^62)≤(a:Int)∧(a:Int)<2^62∧-(2^62)≤(b:Int)∧(b:Int)<2^62:=⟨(Pq h).1,(Pq h).2,Pq k⟩
theorem qK(a b:Nat):(if (b:Int)<(a:Int)then(b:Int)else(a:Int))=((min a b:Nat):Int):=by
 by_cases h:b<a
 ·rw[if_pos (TH.mpr h),Rv (RI h)]
 ·rw[if_neg (fun z=>h (TH.mp z)),Q3 (Q9 h)]
theorem tn{k n:Nat}:(-(k:Int)+(n:Int)).toNat=n-k:=by rw[Vv,←U8,TR]
theorem oA{a b c:Nat}(h:a≤b)(k:b≤c):b-a<c+1-a:=Sz h (Up k)
def lc(u:Unit_):Nat:=u.high+1-u.low
theorem sX(u:Unit_):(levels u).length=lc u:=by simp[levels,lc]
theorem zr{u:Unit_}{i:Nat}(h:i<lc u):(levels u)[i]?=some (u.low+i):=by
 unfold lc at h
 simp[levels,h]
theorem kf{u:Unit_}{l:Nat}:l∈levels u↔u.low≤l∧l≤u.high:=by
 simp only[levels,QV,Rf]
 constructor
 ·rintro ⟨i,h,rfl⟩;exact⟨QR ..,Ts (TY h)⟩
 ·rintro ⟨h1,h2⟩;exact⟨l-u.low,oA h1 h2,RM h1⟩
theorem jW(u:Unit_):(modes u).length=modeCount u:=by
 unfold modes modeCount
 rw[QN,QH,Q6,bZ (k:=lc u) _ _ (fun a _=>by rw[QH,sX]),Q6]
 rfl
theorem place_lt{u:Unit_}{m:Mode}(h:rK u m):place u m<modeCount u:=by
 cases m with
 | off h'=>simp only[place,modeCount];exact QS (RX h.1 h.2) (QR ..)
 | on h' l =>
  obtain⟨h1,h2,h3,h4⟩:=h
  simp only[place,modeCount]
  have e:(h'-1)*(u.high+1-u.low)+(u.high+1-u.low)≤u.up*(u.high+1-u.low):=by
   rw[←RD];exact Q7 _ (RX h1 h2)
  rw[Rp];exact R0 (QS (R0 (oA h3 h4) _) e) _
theorem Ca{u:Unit_}{m:Mode}(h:rK u m):(modes u)[place u m]?=some m:=by
 cases m with
 | off h' =>
  obtain⟨h1,h2⟩:=h
  simp only[place,modes]
  rw[Q0 (by simp;exact RX h1 h2),QI,Rt (RX h1 h2)]
  simp;exact RO h1
 | on h' l =>
  obtain⟨h1,h2,h3,h4⟩:=h
  simp only[place,modes]
  rw[QX (by simp;exact QK (QR ..) (QR ..)),QH,Q6]
  have e:u.down+(h'-1)*(u.high+1-u.low)+(l-u.low)-u.down=(h'-1)*lc u+(l-u.low):=by rw[Rp,Rg];rfl
  rw[e,dG _ (lc u) _ (fun a _=>by rw[QH,sX]) (h'-1) (l-u.low) (h'-1) (Rt (RX h1 h2)) (oA h3 h4)]
  rw[QI,zr (oA h3 h4)]
  simp;exact⟨RO h1,RM h3⟩
theorem qN{u:Unit_}{m:Mode}:m∈modes u↔rK u m:=by
 constructor
 ·intro h
  unfold modes at h
  rcases RB.mp h with h|h
  ·obtain⟨i,hi,rfl⟩:=QV.mp h
   have:=Rf.mp hi
   exact⟨Rx ..,this⟩
  ·obtain⟨i,hi,h⟩:=Tc.mp h
   obtain⟨l,hl,rfl⟩:=QV.mp h
   have h1:=Rf.mp hi
   have h2:=kf.mp hl
   exact⟨Rx ..,h1,h2.1,h2.2⟩
 ·intro h
  exact QL (Ca h)
theorem zR{u:Unit_}{k:Nat}{m:Mode}(h:(modes u)[k]?=some m):place u m=k:=by
 have hm:rK u m:=qN.mp (QL h)
 have hk:k<u.down+u.up*lc u:=by
  have:=(QO.mp h).1
  rw[jW]at this;exact this
 unfold modes at h
 by_cases hd:k<u.down
 ·rw[Q0 (by simp;omega),QI,Rt hd]at h
  simp at h;subst h;simp[place]
 ·rw[QX (by simp;exact Q9 hd),QH,Q6]at h
  have hl0:0<lc u:=by
   rcases Wd (lc u)with z|z
   ·rw[z]at hk;exact absurd hk hd
   ·exact z
  have hdiv:(k-u.down) / lc u<u.up:=(VI hl0).mpr (SK (Q9 hd) hk)
  have hmod:=Nat.mod_lt (k-u.down) hl0
  have e:k-u.down=(k-u.down) / lc u*lc u+(k-u.down) % lc u:=by
   rw[RP];exact(Nat.div_add_mod _ _).symm
  rw[e,dG _ (lc u) _ (fun a _=>by rw[QH,sX]) _ _ _ (Rt hdiv) hmod,QI,zr hmod]at h
  simp at h
  subst h
  simp only[place]
  show u.down+((k-u.down) / lc u+1-1)*lc u+(u.low+(k-u.down) % lc u-u.low)=k
  rw[We,Rg]
  rw[Rp,←e,RM (Q9 hd)]
def LH:Mode→Nat
 | .off h=>h
 | .on h _=>h
theorem MZ{u:Unit_}{m:Mode}(h:rK u m):isOn m=decide (u.down≤place u m):=by
 cases m with
 | off h' =>
  simp only[rK]at h
  exact(decide_eq_false (show ¬u.down≤h'-1 from Wc.2 (RX h.1 h.2))).symm
 | on h' l=>exact(decide_eq_true (show u.down≤u.down+(h'-1)*(u.high+1-u.low)+(l-u.low) by rw[Rp];exact QR _ _)).symm
theorem Fc{u:Unit_}{h l:Nat}(hm:rK u (.on h l)):(place u (.on h l)-u.down) / lc u=h-1∧(place u (.on h l)-u.down) % lc u=l-u.low:=by
 obtain⟨h1,h2,h3,h4⟩:=hm
 have e:place u (.on h l)-u.down=lc u*(h-1)+(l-u.low):=by simp only[place,lc];rw[RP,Rp,Rg]
 have hl:l-u.low<lc u:=oA h3 h4
 have h0:0<lc u:=R8 hl
 rw[e,VB h0,Tz hl,WN,WC hl]
 exact⟨rfl,rfl⟩
theorem fI{u:Unit_}{f:Bool}{m x:Mode}(hw:Wf u)(h:rK u m)(hx:x∈options u f m):rK u x:=by
 have hdn:=hw.CM
 have hup:=hw.up1
 cases m with
 | off h' =>
  simp only[rK]at h
  rcases QM.mp hx with rfl|hx
  ·exact⟨Tg.2 ⟨Rx ..,hdn⟩,Rn ..⟩
  ·split at hx
   ·obtain⟨l,hl,rfl⟩:=QV.mp hx
    have:=kf.mp (Sv.mp hl).1
    exact⟨QP _,hup,this.1,this.2⟩
   ·simp at hx
 | on h' l =>
  obtain⟨h1,h2,h3,h4⟩:=h
  simp only[options]at hx
  split at hx
  ·have e:x=Mode.off 1:=Sa.mp hx
   subst e
   exact⟨QP _,hdn⟩
  ·rcases RB.mp hx with hx|hx
   ·split at hx
    ·have e:x=Mode.off 1:=Sa.mp hx
     subst e
     exact⟨QP _,hdn⟩
    ·simp at hx
   ·obtain⟨k,hk,rfl⟩:=QV.mp hx
    have:=kf.mp (Sv.mp hk).1
    exact⟨Tg.2 ⟨Rx ..,hup⟩,Rn ..,this.1,this.2⟩
theorem zO{u:Unit_}{f:Bool}{m:Mode}(hw:Wf u)(h:rK u m):options u f m≠[]:=by
 cases m with
 | off h'=>simp[options]
 | on h' l =>
  obtain⟨h1,h2,h3,h4⟩:=h
  simp only[options]
  split
  ·simp
  ·intro e
   have e2:=(List.append_eq_nil_iff.mp e).2
   have:l∈(levels u).filter fun m=>decide (m≤l+u.ramp∧l≤m+u.ramp):=Sv.mpr ⟨kf.mpr ⟨h3,h4⟩,by simp⟩
   rw[List.map_eq_nil_iff.mp e2]at this
   simp at this
def bG:List Unit_→Modes→Prop
 | [],[]=>True
 | u::r,m::l=>rK u m∧bG r l
 | _,_=>False
def lY(us:List Unit_):Prop:=∀u∈us,Wf u
theorem lY.tail{u:Unit_}{r:List Unit_}(h:lY (u::r)):lY r:=fun v hv=>h v (by simp[hv])
theorem lY.head{u:Unit_}{r:List Unit_}(h:lY (u::r)):Wf u:=h u (by simp)
theorem bG.len:∀{us:List Unit_}{l:Modes},bG us l→l.length=us.length
 | [],[],_=>rfl
 | u::r,m::l,h=>by simp[bG.len h.2]
 | [],_::_,h=>h.elim
 | _::_,[],h=>h.elim
theorem bG.get:∀{us:List Unit_}{l:Modes},bG us l→∀{i:Nat}{u:Unit_}{m:Mode},us[i]?=some u→l[i]?=some m→rK u m
 | [],[],_,i,u,m,h,_=>by simp at h
 | u::r,m::l,h,0,u',m',h1,h2=>by
  have e1:u=u':=Rb h1
  have e2:m=m':=Rb h2
  subst e1;subst e2;exact h.1
 | u::r,m::l,h,i+1,u',m',h1,h2=>bG.get h.2 (i:=i) h1 h2
 | [],_::_,h,_,_,_,_,_=>h.elim
 | _::_,[],h,_,_,_,_,_=>h.elim
theorem ck(u:Unit_)(r:List Unit_):stateCount (u::r)=modeCount u*stateCount r:=rfl
theorem cy:∀us:List Unit_,(allModes us).length=stateCount us
 | []=>rfl
 | u::r=>by
  show((modes u).flatMap fun m=>(allModes r).map fun l=>m::l).length=_
  rw[bZ _ (stateCount r) _ (fun a _=>by rw[QH,cy r]),jW,ck]
theorem cT:∀{us:List Unit_}{l:Modes},bG us l→index us l<stateCount us
 | [],[],_=>by simp[index,stateCount]
 | u::r,m::l,h=>by
  have h1:=place_lt h.1
  have h2:=cT h.2
  show place u m*stateCount r+index r l<modeCount u*stateCount r
  have e:(place u m+1)*stateCount r≤modeCount u*stateCount r:=Q7 _ h1
  rw[RD]at e
  exact QS (R0 h2 _) e
 | [],_::_,h=>h.elim
 | _::_,[],h=>h.elim
theorem gJ:∀{us:List Unit_}{l:Modes},bG us l→(allModes us)[index us l]?=some l
 | [],[],_=>rfl
 | u::r,m::l,h=>by
  show((modes u).flatMap fun m=>(allModes r).map fun l=>m::l)[place u m*stateCount r+index r l]?=_
  rw[dG _ (stateCount r) _ (fun a _=>by rw[QH,cy r]) _ _ _ (Ca h.1) (cT h.2),QI,gJ h.2]
  rfl
 | [],_::_,h=>h.elim
 | _::_,[],h=>h.elim
theorem dR:∀{us:List Unit_}{l:Modes},l∈allModes us↔bG us l
 | [],[]=>by simp[allModes,bG]
 | [],m::l=>by simp[allModes,bG]
 | u::r,[]=>by simp[allModes,bG]
 | u::r,m::l=>by
  show(m::l)∈((modes u).flatMap fun m=>(allModes r).map fun l=>m::l)↔_
  rw[Tc]
  constructor
  ·rintro ⟨m',hm,h⟩
   obtain⟨l',hl,e⟩:=QV.mp h
   cases e
   exact⟨qN.mp hm,dR.mp hl⟩
  ·intro h
   exact⟨m,qN.mpr h.1,QV.mpr ⟨l,dR.mpr h.2,rfl⟩⟩
theorem EI:∀{us:List Unit_}{k:Nat}{l:Modes},(allModes us)[k]?=some l→index us l=k:=by
 intro us k l h
 have hl:bG us l:=dR.mp (QL h)
 have h1:=gJ hl
 have hk:=(QO.mp h).1
 have key:∀(us:List Unit_),(allModes us).Nodup:=by
  intro us
  induction us with
  | nil=>simp[allModes]
  | cons u r ih =>
   show((modes u).flatMap fun m=>(allModes r).map fun l=>m::l).Nodup
   have hm:(modes u).Nodup:=by
    rw[Th,List.pairwise_iff_getElem]
    intro i j hi hj hij e
    have e1:=zR (QJ hi)
    have e2:=zR (QJ hj)
    rw[e,e2]at e1
    omega
   rw[Th,List.pairwise_flatMap]
   refine⟨fun m _=>?_,?_⟩
   ·rw[Ws]
    exact(Th.mp ih).imp fun h e=>h (Xm e).2
   ·refine(Th.mp hm).imp fun h x hx y hy e=>?_
    obtain⟨a,_,rfl⟩:=QV.mp hx
    obtain⟨b,_,rfl⟩:=QV.mp hy
    exact h (Xm e).1
 obtain⟨ha,ea⟩:=QO.mp h1
 obtain⟨hb,eb⟩:=QO.mp h
 exact(Vj (key us)).mp (ea.trans eb.symm)
theorem ki:∀{us:List Unit_}{fs:List Bool}{l:Modes},lY us→bG us l→us.length=fs.length→∀x∈moves us fs l,bG us x.1
 | [],fs,[],_,_,_,x,hx=>by
  cases fs<;>(have e:x=([],0):=Sa.mp hx)<;>subst e<;>trivial
 | u::r,f::fs,m::l,hw,h,hl,x,hx=>by
  obtain⟨o,ho,hx⟩:=Tc.mp (show x∈(options u f m).flatMap fun x=>(moves r fs l).map fun y=>(x::y.1,costOf u m x+y.2)from hx)
  obtain⟨y,hy,rfl⟩:=QV.mp hx
  exact⟨fI hw.head h.1 ho,ki hw.tail h.2 (by simpa using hl) y hy⟩
 | [],_,_::_,_,h,_,_,_=>h.elim
 | _::_,_,[],_,h,_,_,_=>h.elim
 | _::_,[],_::_,_,_,h,_,_=>by simp at h
theorem zA:∀{us:List Unit_}{fs:List Bool}{l:Modes},lY us→bG us l→us.length=fs.length→moves us fs l≠[]
 | [],fs,[],_,_,_=>by cases fs<;>simp[moves]
 | u::r,f::fs,m::l,hw,h,hl=>by
  intro e
  obtain⟨o,ho⟩:=Vb _ (zO (f:=f) hw.head h.1)
  obtain⟨y,hy⟩:=Vb _ (zA (fs:=fs) hw.tail h.2 (by simpa using hl))
  have:(o::y.1,costOf u m o+y.2)∈moves (u::r) (f::fs) (m::l):=Tc.mpr ⟨o,ho,QV.mpr ⟨y,hy,rfl⟩⟩
  rw[e]at this
  simp at this
 | [],_,_::_,_,h,_=>h.elim
 | _::_,_,[],_,h,_=>h.elim
 | _::_,[],_::_,_,_,h=>by simp at h
theorem Iy{u:Unit_}{a b:Mode}(hw:Wf u)(hb:rK u b):costOf u a b≤62000:=by
 cases b with
 | off h=>simp[costOf]
 | on h l =>
  obtain⟨_,_,_,h4⟩:=hb
  have Lc:=hw.Lc
  have e:u.per*l≤1000*60:=Ti hw.pr (by omega)
  have hr:=hw.rn
  have hs:=hw.st
  simp only[costOf]
  refine SE (SE hr e) (?_:_≤1000);split;exact Sr _;exact hs
theorem kh:∀{us:List Unit_}{fs:List Bool}{l:Modes},lY us→bG us l→us.length=fs.length→∀x∈moves us fs l,x.2≤62000*us.length
 | [],fs,[],_,_,_,x,hx=>by
  cases fs<;>(have e:x=([],0):=Sa.mp hx)<;>subst e<;>simp
 | u::r,f::fs,m::l,hw,h,hl,x,hx=>by
  obtain⟨o,ho,hx⟩:=Tc.mp (show x∈(options u f m).flatMap fun x=>(moves r fs l).map fun y=>(x::y.1,costOf u m x+y.2)from hx)
  obtain⟨y,hy,rfl⟩:=QV.mp hx
  have h1:=Iy (a:=m) hw.head (fI hw.head h.1 ho)
  have h2:=kh hw.tail h.2 (by simpa using hl) y hy
  simp only[Q2]
  omega
 | [],_,_::_,_,h,_,_,_=>h.elim
 | _::_,_,[],_,h,_,_,_=>h.elim
 | _::_,[],_::_,_,_,h,_,_=>by simp at h
def NP:Int:=4000000000000000000
def minOf:List Int→Int
 | []=>0
 | a::r=>r.foldl min a
theorem jH:∀(r:List Int)(a:Int),r.foldl min a≤a∧(∀y∈r,r.foldl min a≤y)∧(r.foldl min a=a∨r.foldl min a∈r)
 | [],a=>by simp
 | b::r,a=>by
  obtain⟨h1,h2,h3⟩:=jH r (min a b)
  rw[RJ]
  refine⟨Sb h1 (US ..),fun y hy=>?_,?_⟩
  ·rcases QM.mp hy with rfl|hy
   ·exact Sb h1 (Ux ..)
   ·exact h2 y hy
  ·rcases h3 with h3|h3
   ·rcases Vw a b with q|q
    ·left;exact h3.trans (Tp q)
    ·right;rw[h3,Tv q];simp
   ·right;simp[h3]
theorem fU{ns:List Int}{y:Int}(h:y∈ns):minOf ns≤y:=by
 cases ns with
 | nil=>simp at h
 | cons a r =>
  rcases QM.mp h with rfl|h
  ·exact(jH r _).1
  ·exact(jH r a).2.1 y h
theorem dA{ns:List Int}(h:ns≠[]):minOf ns∈ns:=by
 cases ns with
 | nil=>exact absurd rfl h
 | cons a r =>
  rcases(jH r a).2.2 with q|q
  ·show r.foldl min a∈a::r
   rw[q];simp
  ·exact QM.mpr (.inr q)
theorem uU{ns:List Int}{m:Int}(h:m∈ns)(h2:∀y∈ns,m≤y):m=minOf ns:=by
 have h3:=fU h
 exact UT (h2 _ (dA (List.ne_nil_of_mem h))) h3
theorem AU{α β:Type}(A:List α)(B:α→List β)(h:α→β→Int)(k:α→Int)(hB:∀a∈A,B a≠[]) :
  minOf (A.flatMap fun x=>(B x).map fun y=>h x y+k x)=minOf (A.map fun x=>minOf ((B x).map (h x))+k x):=by
 cases hA:A with
 | nil=>rfl
 | cons a0 r0 =>
  rw[←hA]
  have hA':A≠[]:=by rw[hA];simp
  symm
  apply uU
  ·have:=dA (ns:=A.map fun x=>minOf ((B x).map (h x))+k x) (by simpa using hA')
   obtain⟨x,hx,e⟩:=QV.mp this
   rw[←e]
   have h2:=dA (ns:=(B x).map (h x)) (by simpa using hB x hx)
   obtain⟨y,hy,e2⟩:=QV.mp h2
   rw[←e2]
   exact Tc.mpr ⟨x,hx,QV.mpr ⟨y,hy,rfl⟩⟩
  ·intro z hz
   obtain⟨x,hx,hz⟩:=Tc.mp hz
   obtain⟨y,hy,rfl⟩:=QV.mp hz
   have h1:=fU (ns:=A.map fun x=>minOf ((B x).map (h x))+k x) (QV.mpr ⟨x,hx,rfl⟩)
   have h2:=fU (ns:=(B x).map (h x)) (QV.mpr ⟨y,hy,rfl⟩)
   exact Sb h1 (UH h2 _)
theorem fC{α β:Type}{f g:α→List β}:∀{A:List α},(∀x∈A,f x=g x)→A.flatMap f=A.flatMap g
 | [],_=>rfl
 | a::r,h=>by rw[Sm,Sm,h a (by simp),fC (A:=r) fun x hx=>h x (by simp[hx])]
theorem bG.append:∀{us vs:List Unit_}{l k:Modes},bG us l→bG vs k→bG (us++vs) (l++k)
 | [],_,[],_,_,h=>h
 | u::r,_,m::l,_,h,h2=>⟨h.1,bG.append h.2 h2⟩
 | [],_,_::_,_,h,_=>h.elim
 | _::_,_,[],_,h,_=>h.elim
def Cz(B:Nat)(o:Option Nat)(z:Int):Prop:=match o with
 | some c=>z=(c:Int)∧c≤B
 | none=>NP≤z
theorem qF:∀(L:List (Option Nat))(b:Option Nat),
  (L.foldl least2 b=none→b=none∧∀o∈L,o=none) ∧
  (∀c,L.foldl least2 b=some c→(b=some c∨some c∈L)∧(∀d,b=some d→c≤d)∧∀d,some d∈L→c≤d)
 | [],b=>by
  refine⟨fun h=>⟨h,by simp⟩,fun c h=>?_⟩
  have h:b=some c:=h
  subst h
  exact⟨.inl rfl,fun d e=>by cases e;exact QP _,by simp⟩
 | o::L,b=>by
  obtain⟨h1,h2⟩:=qF L (least2 b o)
  refine⟨fun h=>?_,fun c h=>?_⟩
  ·obtain⟨q1,q2⟩:=h1 h
   cases b with
   | some x=>cases o<;>simp[least2]at q1
   | none =>
    have q1:o=none:=q1
    subst q1
    exact⟨rfl,fun o ho=>by rcases QM.mp ho with rfl|ho;rfl;exact q2 o ho⟩
  ·obtain⟨q1,q2,q3⟩:=h2 c h
   cases b with
   | none =>
    have e:least2 none o=o:=rfl
    rw[e]at q1 q2
    refine⟨.inr ?_,by simp,fun d hd=>?_⟩
    ·rcases q1 with q1|q1
     ·rw[q1];simp
     ·simp[q1]
    ·rcases QM.mp hd with hd|hd
     ·exact q2 d hd.symm
     ·exact q3 d hd
   | some x =>
    cases o with
    | none =>
     have e:least2 (some x) none=some x:=rfl
     rw[e]at q1 q2
     refine⟨q1.imp id (fun q=>by simp[q]),q2,fun d hd=>?_⟩
     rcases QM.mp hd with hd|hd
     ·cases hd
     ·exact q3 d hd
    | some y =>
     have e:least2 (some x) (some y)=some (min x y):=rfl
     rw[e]at q1 q2
     have q2':=q2 _ rfl
     refine⟨?_,fun d e=>by cases e;exact QK q2' (S8 ..),fun d hd=>?_⟩
     ·rcases q1 with q1|q1
      ·have q1:=Rb q1
       rcases UX x y with z|z
       ·left;congr 1;exact(Q3 z).symm.trans q1
       ·right;rw[←q1,Rv z];simp
      ·right;simp[q1]
     ·rcases QM.mp hd with hd|hd
      ·cases hd;exact QK q2' (Rn ..)
      ·exact q3 d hd
def Rw(us:List Unit_)(B:Nat)(v:Costs)(zs:List Int):Prop:=zs.length=stateCount us∧∀l,bG us l→∃z,zs[index us l]?=some z∧Cz B (costAt us v l) z
def keyOf(us:List Unit_)(load:Nat)(v:Costs)(x:Modes×Nat):Option Nat:=if load≤given x.1 then(costAt us v x.1).map fun c=>c+x.2 else none
theorem mI(us:List Unit_)(free:List Bool)(load:Nat)(v:Costs)(l:Modes):bestFrom us free load v l=((moves us free l).map (keyOf us load v)).foldl least2 none:=by
 unfold bestFrom meeting
 generalize (none:Option Nat)=b
 induction moves us free l generalizing b with
 | nil=>rfl
 | cons x r ih =>
  rw[RC,RJ,T9]
  by_cases h:load≤given x.1
  ·rw[if_pos (by simpa using h),RJ,ih]
   congr 1
   unfold keyOf
   rw[if_pos h]
  ·rw[if_neg (by simpa using h),ih]
   congr 1
   unfold keyOf
   rw[if_neg h]
   cases b<;>rfl
def NA(us:List Unit_)(load:Nat)(zs:List Int)(y:Modes):Int:=if load≤given y then zs.getD (index us y) 0 else NP
theorem yK{us:List Unit_}{load B:Nat}{v:Costs}{zs:List Int}{x:Modes×Nat}(R:Rw us B v zs)(hx:bG us x.1)(hc:x.2≤62000*us.length):Cz (B+62000*us.length) (keyOf us load v x) (NA us load zs x.1+(x.2:Int)):=by
 unfold keyOf NA
 split
 ·obtain⟨z,hz,c⟩:=R.2 _ hx
  have e:zs.getD (index us x.1) 0=z:=by rw[RN,hz];rfl
  rw[e]
  cases q:costAt us v x.1 with
  | none=>rw[q]at c;exact(show NP≤z+_ from by have:NP≤z:=c;omega)
  | some d =>
   rw[q]at c
   obtain⟨c1,c2⟩:=c
   exact⟨by rw[c1];simp,by show d+x.2≤_;exact SE c2 hc⟩
 ·show NP≤NP+_
  omega
theorem JK{L:List (Option Nat)}{zs:List Int}{B:Nat}(hB:(B:Int)<NP)(hne:zs≠[])(h1:∀o∈L,∃z∈zs,Cz B o z)(h2:∀z∈zs,∃o∈L,Cz B o z):Cz B (L.foldl least2 none) (minOf zs):=by
 obtain⟨b1,b2⟩:=qF L none
 cases q:L.foldl least2 none with
 | none =>
  have q2:=(b1 q).2
  obtain⟨o,ho,c⟩:=h2 _ (dA hne)
  rw[q2 o ho]at c
  exact c
 | some c =>
  obtain⟨q1,_,q3⟩:=b2 c q
  have q1:some c∈L:=by rcases q1 with z|z;cases z;exact z
  obtain⟨z,hz,e,hc⟩:=h1 _ q1
  refine⟨?_,hc⟩
  have l1:=fU hz
  obtain⟨o,ho,c2⟩:=h2 _ (dA hne)
  cases o with
  | none=>have:NP≤minOf zs:=c2;exact absurd (Sb this (e▸l1)) (Wg.2 (Sn (Sq.2 hc) hB))
  | some d =>
   obtain⟨c2,_⟩:=c2
   have:=q3 d ho
   exact UT (e▸l1) (c2▸Sq.2 this)
theorem JJ{us:List Unit_}{free:List Bool}{load B:Nat}{v:Costs}{zs:List Int}{l:Modes}(hw:lY us)(hl:bG us l)(hf:us.length=free.length)(R:Rw us B v zs)(hB:((B+62000*us.length:Nat):Int)<NP) :
  Cz (B+62000*us.length) (bestFrom us free load v l) (minOf ((moves us free l).map fun y=>NA us load zs y.1+(y.2:Int))):=by
 rw[mI]
 refine JK hB (by simpa using zA hw hl hf) (fun o ho=>?_) (fun z hz=>?_)
 ·obtain⟨x,hx,rfl⟩:=QV.mp ho
  exact⟨_,QV.mpr ⟨x,hx,rfl⟩,yK R (ki hw hl hf x hx) (kh hw hl hf x hx)⟩
 ·obtain⟨x,hx,rfl⟩:=QV.mp hz
  exact⟨_,QV.mpr ⟨x,hx,rfl⟩,yK R (ki hw hl hf x hx) (kh hw hl hf x hx)⟩
theorem xN{us:List Unit_}{free:List Bool}{load:Nat}{v:Costs}{l:Modes}(hl:bG us l):costAt us (hourBack us free load v) l=bestFrom us free load v l:=by
 unfold costAt hourBack
 simp only[SA,SN,QI,gJ hl]
 rfl
theorem En{us:List Unit_}{l:Modes}(hl:bG us l):costAt us (ends us) l=some 0:=by
 unfold costAt ends
 have:=cT hl
 simp only[SA,SN,Sy,if_pos this]
 rfl
theorem L7(us:List Unit_)(B:Nat):Rw us B (ends us) (QU (stateCount us) 0):=by
 refine⟨by simp,fun l hl=>⟨0,by rw[Sy,if_pos (cT hl)],?_⟩⟩
 rw[En hl]
 exact⟨rfl,Sr _⟩
theorem foldl_add:∀(l:List Nat)(a:Nat),l.foldl (fun a b=>a+b) a=a+l.foldl (fun a b=>a+b) 0
 | [],a=>by simp
 | b::l,a=>by rw[RJ,RJ,foldl_add l (a+b),foldl_add l (0+b)];rw[TF,Rp]
theorem zh(m:Mode)(l:Modes):given (m::l)=levelOf m+given l:=by
 unfold given
 rw[RC,RJ,foldl_add];rw[TF]
theorem IQ:given []=0:=rfl
theorem xR:∀(us:List Unit_)(L:List Int),us.foldl (fun L u=>L.flatMap fun x=>(modes u).map fun m=>x+(levelOf m:Int)) L=L.flatMap fun x=>(allModes us).map fun l=>x+(given l:Int)
 | [],L=>by
  simp[allModes,IQ]
 | u::r,L=>by
  rw[RJ,xR r,Wh]
  apply fC
  intro x _
  show _=((modes u).flatMap fun m=>(allModes r).map fun l=>m::l).map _
  rw[Vl,WD]
  apply fC
  intro m _
  rw[Sd]
  apply RL
  intro l _
  simp only[TU,zh]
  exact UB ..
theorem GA(us:List Unit_):us.foldl (fun L u=>L.flatMap fun x=>(modes u).map fun m=>x+(levelOf m:Int)) [0]=(allModes us).map fun l=>(given l:Int):=by
 rw[xR]
 simp
theorem uN:∀{us:List Unit_}{l:Modes}(p:Nat),bG us l→(us.zip l).foldl (fun p x=>p*modeCount x.1+place x.1 x.2) p=p*stateCount us+index us l
 | [],[],p,_=>by simp[stateCount,index]
 | u::r,m::l,p,h=>by
  rw[Wj,RJ,uN _ h.2]
  show _=p*(modeCount u*stateCount r)+(place u m*stateCount r+index r l)
  dsimp only
  rw[Si,Su]
  exact Rp ..
 | [],_::_,_,h=>h.elim
 | _::_,[],_,h=>h.elim
theorem cZ{u:Unit_}(h:Wf u):0<modeCount u:=by
 have:=h.CM
 unfold modeCount
 omega
theorem zx:∀{us:List Unit_}{l:Modes}(acc:List Nat)(q:Nat),lY us→bG us l →
  us.reverse.foldl (fun(st:List Nat×Nat) u=>(st.1++[st.2 % modeCount u],st.2 / modeCount u)) (acc,q*stateCount us+index us l)=(acc++((us.zip l).map fun x=>place x.1 x.2).reverse,q)
 | [],[],acc,q,_,_=>by simp[stateCount,index]
 | u::r,m::l,acc,q,hw,h=>by
  have e:q*stateCount (u::r)+index (u::r) (m::l)=(q*modeCount u+place u m)*stateCount r+index r l:=by
   show q*(modeCount u*stateCount r)+(place u m*stateCount r+index r l)=_
   rw[Si,Su]
   exact(Rp ..).symm
  rw[Ve,S3,e,zx acc _ hw.tail h.2,RJ,W0]
  have h1:=place_lt h.1
  have h2:=cZ hw.head
  have e1:(q*modeCount u+place u m) % modeCount u=place u m:=by rw[RP,WN,WC h1]
  have e2:(q*modeCount u+place u m) / modeCount u=q:=by rw[RP,VB h2,Tz h1];rfl
  simp only[e1,e2,Wj,RC,Ve,R7]
 | [],_::_,_,_,_,h=>h.elim
 | _::_,[],_,_,_,h=>h.elim
def eH(M:List (Int×Int))(u:Unit_)(f:Bool)(m:Mode):List (Int×Int) :=
 M.flatMap fun x=>(options u f m).map fun y=>(x.1+(costOf u m y:Int),x.2*(modeCount u:Int)+(place u y:Int))
def gf{α β γ:Type}:List α→List β→List γ→List (α×β×γ)
 | a::r,b::s,c::t=>(a,b,c)::gf r s t
 | _,_,_=>[]
theorem zz:∀{us:List Unit_}{fs:List Bool}{l:Modes}(M:List (Int×Int)),lY us→bG us l→us.length=fs.length →
  (gf us fs l).foldl (fun M x=>eH M x.1 x.2.1 x.2.2) M=M.flatMap fun x=>(moves us fs l).map fun y=>(x.1+(y.2:Int),x.2*(stateCount us:Int)+(index us y.1:Int))
 | [],fs,[],M,_,_,_=>by cases fs<;>simp[gf,moves,stateCount,index]
 | u::r,f::fs,m::l,M,hw,h,hl=>by
  show(gf r fs l).foldl _ (eH M u f m)=_
  rw[zz _ hw.tail h.2 (by simpa using hl)]
  unfold eH
  rw[Wh]
  apply fC
  intro x _
  show _=((options u f m).flatMap fun x=>(moves r fs l).map fun y=>(x::y.1,costOf u m x+y.2)).map _
  rw[Vl,WD]
  apply fC
  intro o _
  rw[Sd]
  apply RL
  intro y _
  simp only[TU]
  have e:(stateCount (u::r):Int)=(modeCount u:Int)*(stateCount r:Int):=by rw[ck];simp
  have e2:(index (u::r) (o::y.1):Int)=(place u o:Int)*(stateCount r:Int)+(index r y.1:Int):=by
   show((place u o*stateCount r+index r y.1:Nat):Int)=_
   simp
  rw[e,e2,Int.add_mul,Int.mul_assoc]
  congr 1
  ·simp;exact UB ..
  ·exact UB ..
 | [],_,_::_,_,_,h,_=>h.elim
 | _::_,_,[],_,_,h,_=>h.elim
 | _::_,[],_::_,_,_,_,h=>by simp at h
theorem Jc{us:List Unit_}{fs:List Bool}{l:Modes}(hw:lY us)(h:bG us l)(hl:us.length=fs.length) :
  (gf us fs l).foldl (fun M x=>eH M x.1 x.2.1 x.2.2) [(0,0)]=(moves us fs l).map fun y=>((y.2:Int),(index us y.1:Int)):=by
 rw[zz _ hw h hl]
 simp
def e8(ok:Modes×Nat→Bool)(z:Modes×Nat→Int)(st:Int×Option (Modes×Nat))(x:Modes×Nat):Int×Option (Modes×Nat):=if ok x=true∧z x<st.1 then(z x,some x)else st
theorem j5{B:Nat}{ok:Modes×Nat→Bool}{z:Modes×Nat→Int}{key:Modes×Nat→Option Nat}(hB:(B:Int)<NP) :
  ∀(L:List (Modes×Nat))(st:Int×Option (Modes×Nat)),st.1≤NP→(∀x∈L,if ok x=true then Cz B (key x) (z x)else key x=none) →
  (L.foldl (e8 ok z) st).1≤NP∧match (L.map key).foldl least2 none with
   | none=>L.foldl (e8 ok z) st=st
   | some c=>if (c:Int)<st.1 then(L.foldl (e8 ok z) st)=((c:Int),L.find? fun x=>key x==some c)else L.foldl (e8 ok z) st=st
 | [],st,h0,_=>by simp[h0]
 | x::L,st,h0,h=>by
  have hx:=h x (by simp)
  have hL:∀y∈L,if ok y=true then Cz B (key y) (z y)else key y=none:=fun y hy=>h y (by simp[hy])
  have l2:∀(o:Option Nat)(L:List (Option Nat)),L.foldl least2 o=least2 o (L.foldl least2 none):=by
   intro o L
   induction L generalizing o with
   | nil=>cases o<;>rfl
   | cons a L ih =>
    rw[RJ,RJ,ih (least2 o a),ih (least2 none a)]
    cases o<;>cases a<;>cases L.foldl least2 none<;>simp[least2,Nat.min_assoc]
  rw[RJ,RC,RJ,l2]
  have e0:least2 none (key x)=key x:=rfl
  rw[e0]
  by_cases cp:ok x=true
  ·rw[if_pos cp]at hx
   cases q:key x with
   | none =>
    rw[q]at hx
    have hx:NP≤z x:=hx
    have e:e8 ok z st x=st:=by unfold e8;rw[if_neg];rintro ⟨_,w⟩;exact absurd (Sb h0 hx) (Wg.2 w)
    rw[e]
    have e1:∀o,least2 none o=o:=fun o=>rfl
    rw[e1]
    obtain⟨i1,i2⟩:=j5 hB L st h0 hL
    refine⟨i1,?_⟩
    cases qL:(L.map key).foldl least2 none with
    | none=>rw[qL]at i2;exact i2
    | some c =>
     rw[qL]at i2
     simp only at i2 ⊢
     have:(Wk (fun x=>key x==some c) (x::L))=Wk (fun x=>key x==some c) L:=by rw[Sx,q];rfl
     rw[this]
     exact i2
   | some d =>
    rw[q]at hx
    obtain⟨hz,hd⟩:=hx
    by_cases hlt:z x<st.1
    ·have e:e8 ok z st x=(z x,some x):=by unfold e8;rw[if_pos ⟨cp,hlt⟩]
     rw[e]
     obtain⟨i1,i2⟩:=j5 hB L (z x,some x) (by show z x≤NP;exact Sb (Vt hlt) h0) hL
     refine⟨i1,?_⟩
     cases qL:(L.map key).foldl least2 none with
     | none =>
      rw[qL]at i2
      show if (d:Int)<st.1 then _ else _
      rw[if_pos (hz▸hlt),i2,Sx,q]
      simp[hz]
     | some c =>
      rw[qL]at i2
      simp only at i2
      show if ((min d c:Nat):Int)<st.1 then _ else _
      by_cases hc:(c:Int)<z x
      ·have hq:=TH.1 (hz▸hc);rw[if_pos hc]at i2
       have em:min d c=c:=Rv (RI hq)
       rw[em,if_pos (Int.lt_trans hc hlt),i2,Sx,q]
       have:(some d==some c)=false:=by simp;exact RW hq
       rw[this]
      ·rw[if_neg hc]at i2
       have em:min d c=d:=Q3 (Sq.1 (hz▸Tf.1 hc))
       rw[em,if_pos (hz▸hlt),i2,Sx,q]
       simp[hz]
    ·have e:e8 ok z st x=st:=by unfold e8;rw[if_neg];rintro ⟨_,w⟩;exact hlt w
     rw[e]
     obtain⟨i1,i2⟩:=j5 hB L st h0 hL
     refine⟨i1,?_⟩
     cases qL:(L.map key).foldl least2 none with
     | none =>
      rw[qL]at i2
      show if (d:Int)<st.1 then _ else _
      rw[if_neg (hz▸hlt)]
      exact i2
     | some c =>
      rw[qL]at i2
      simp only at i2
      show if ((min d c:Nat):Int)<st.1 then _ else _
      by_cases hc:(c:Int)<st.1
      ·have hq:=TH.1 (Int.lt_of_lt_of_le hc (hz▸Tf.1 hlt));rw[if_pos hc]at i2
       have em:min d c=c:=Rv (RI hq)
       rw[em,if_pos (hc),i2,Sx,q]
       have:(some d==some c)=false:=by simp;exact RW hq
       rw[this]
      ·rw[if_neg hc]at i2
       rw[if_neg (by rw[Nat.min_def];split;exact hz▸hlt;exact hc)]
       exact i2
  ·rw[if_neg cp]at hx
   have e:e8 ok z st x=st:=by unfold e8;rw[if_neg];rintro ⟨w,_⟩;exact cp w
   rw[e,hx]
   have e1:∀o,least2 none o=o:=fun o=>rfl
   rw[e1]
   obtain⟨i1,i2⟩:=j5 hB L st h0 hL
   refine⟨i1,?_⟩
   cases qL:(L.map key).foldl least2 none with
   | none=>rw[qL]at i2;exact i2
   | some c =>
    rw[qL]at i2
    simp only at i2 ⊢
    have:(Wk (fun x=>key x==some c) (x::L))=Wk (fun x=>key x==some c) L:=by rw[Sx,hx];rfl
    rw[this]
    exact i2
theorem xO{α:Type}(r q t:α→Bool):∀L:List α,(∀x∈L,(r x=true→q x=t x)∧(r x=false→t x=false))→(L.filter r).find? q=L.find? t
 | [],_=>rfl
 | a::L,h=>by
  rw[T9]
  have ih:=xO r q t L fun x hx=>h x (by simp[hx])
  obtain⟨h1,h2⟩:=h a (by simp)
  cases hp:r a with
  | true=>simp only[if_true,Sx,ih,h1 hp]
  | false =>
   rw[if_neg (by simp),Sx,h2 hp,ih]
theorem yU{us:List Unit_}{h:Hour}{v:Costs}{zs:List Int}{l:Modes}{B:Nat}(hw:lY us)(hl:bG us l)(hf:us.length=h.free.length)(R:Rw us B v zs)(hB:((B+62000*us.length:Nat):Int)<NP) :
  ((moves us h.free l).foldl (e8 (fun x=>decide (h.load≤given x.1)) fun x=>(x.2:Int)+zs.getD (index us x.1) 0) (NP,none)).2=bestMove us h v l:=by
 have key:=j5 (B:=B+62000*us.length) (ok:=fun x=>decide (h.load≤given x.1)) (z:=fun x=>(x.2:Int)+zs.getD (index us x.1) 0) (key:=keyOf us h.load v) hB (moves us h.free l) (NP,none) (VV _) (fun x hx=>by
  have:=yK (load:=h.load) R (ki hw hl hf x hx) (kh hw hl hf x hx)
  split
  ·rename_i ok
   have ok:h.load≤given x.1:=by simpa using ok
   unfold NA at this
   rw[if_pos ok,Vv]at this
   exact this
  ·rename_i ok
   have ok:¬h.load≤given x.1:=by simpa using ok
   unfold keyOf
   rw[if_neg ok])
 unfold bestMove
 simp only
 rw[mI]
 have bb:=qF ((moves us h.free l).map (keyOf us h.load v)) none
 cases q:((moves us h.free l).map (keyOf us h.load v)).foldl least2 none with
 | none =>
  rw[q]at key
  rw[key.2]
  rfl
 | some c =>
  rw[q]at key
  obtain⟨_,k2⟩:=key
  simp only at k2
  have hc:c≤B+62000*us.length:=by
   have:=(bb.2 c q).1
   have m:some c∈(moves us h.free l).map (keyOf us h.load v):=by rcases this with z|z;cases z;exact z
   obtain⟨x,hx,e⟩:=QV.mp m
   have:=yK (load:=h.load) R (ki hw hl hf x hx) (kh hw hl hf x hx)
   rw[e]at this
   exact this.2
  rw[if_pos (Sn (Sq.2 hc) hB)]at k2
  rw[k2]
  simp only[Option.isNone_some,U3,if_false]
  unfold meeting
  symm
  apply xO
  intro x hx
  unfold keyOf
  refine⟨fun hr=>?_,fun hr=>?_⟩
  ·rw[if_pos (by simpa using hr)]
  ·rw[if_neg (by simpa using hr)]
   rfl
theorem zc(low a b:Nat):∀n:Nat,((Q5 n).map (fun i=>low+i)).filter (fun m=>decide (a≤m∧m≤b))=(Q5 (min (low+n) (b+1)-max a low)).map fun i=>max a low+i
 | 0=>by
  have e:min (low+0) (b+1)-max a low=0:=SO (QK (S8 ..) (Uy ..))
  rw[e];rfl
 | n+1=>by
  rw[TN,Rl,Wl,zc low a b n]
  show _++List.filter _ [low+n]=_
  by_cases h:a≤low+n∧low+n≤b
  ·rw[T9,if_pos (by simpa using h),WO]
   have hm:max a low≤low+n:=W2.mpr ⟨h.1,QR ..⟩
   have e0:min (low+n) (b+1)=low+n:=Q3 (Uq h.2)
   have e:min (low+(n+1)) (b+1)-max a low=(min (low+n) (b+1)-max a low)+1:=by rw[e0,Q3 (show low+(n+1)≤b+1 from SR h.2),←Rp,TB hm]
   rw[e,TN,Rl]
   congr 1
   show [low+n]=[max a low+(min (low+n) (b+1)-max a low)]
   congr 1
   rw[e0,RM hm]
  ·rw[T9,if_neg (by simpa using h),WO,S7]
   have e:min (low+(n+1)) (b+1)-max a low=min (low+n) (b+1)-max a low:=by
    rcases Nat.lt_or_ge (low+n) a with c|c
    ·rw[SO (QK (S8 (low+(n+1)) (b+1)) (QK c (WQ ..))),SO (QK (S8 ..) (QK (RI c) (WQ ..)))]
    ·have d:b+1≤low+n:=WE fun z=>h ⟨c,z⟩
     rw[Rv d,Rv (show b+1≤low+(n+1)from Uq d)]
   rw[e]
theorem xQ(u:Unit_)(a b:Nat)(h:u.low≤u.high+1):(levels u).filter (fun m=>decide (a≤m∧m≤b))=(Q5 (min u.high b+1-max a u.low)).map fun i=>max a u.low+i:=by
 unfold levels
 rw[zc]
 congr 2
 rw[Nat.add_sub_cancel' h,Ut]
theorem qS{u:Unit_}(hw:Wf u)(fr:Bool)(h:Nat)(hh:h≤u.down):options u fr (.off h)=.off (min (h+1) u.down)::(if fr=true∧h=u.down then(Q5 (min (u.low+u.ramp) u.high+1-u.low)).map (fun i=>Mode.on 1 (u.low+i))else []):=by
 have:=hw.lh
 simp only[options]
 congr 1
 by_cases c:fr=true∧h=u.down
 ·rw[if_pos c,if_pos ⟨c.1,by omega⟩]
  have e:((levels u).filter fun l=>decide (l≤u.low+u.ramp))=(levels u).filter fun l=>decide (u.low≤l∧l≤u.low+u.ramp):=by
   apply Wt
   intro x hx
   have:=(kf.mp hx).1
   congr 1
   exact propext ⟨fun q=>⟨this,q⟩,fun q=>q.2⟩
  rw[e,xQ u _ _ (Uq this),Sd,Nat.max_self,XJ]
  rfl
 ·rw[if_neg c,if_neg (fun q=>c ⟨q.1,TQ hh q.2⟩)]
theorem zN{u:Unit_}(hw:Wf u)(h l:Nat)(hh:h≤u.up):options u true (.on h l)=(if h=u.up then [Mode.off 1]else [])++(Q5 (min (l+u.ramp) u.high+1-max (l-u.ramp) u.low)).map fun i=>Mode.on (min (h+1) u.up) (max (l-u.ramp) u.low+i):=by
 have:=hw.lh
 simp only[options]
 rw[if_neg (by simp)]
 congr 1
 ·by_cases c:h=u.up
  ·rw[if_pos c,if_pos (by omega)]
  ·rw[if_neg c,if_neg (fun q=>c (TQ hh q))]
 ·have e:((levels u).filter fun m=>decide (m≤l+u.ramp∧l≤m+u.ramp))=(levels u).filter fun m=>decide (l-u.ramp≤m∧m≤l+u.ramp):=by
   apply Wt
   intro x hx
   congr 1
   exact propext ⟨fun q=>⟨UJ q.2,q.1⟩,fun q=>⟨q.2,UK q.1⟩⟩
  rw[e,xQ u _ _ (Uq this),Sd,XJ u.high]
  rfl
theorem yE(u:Unit_)(h l:Nat):options u false (.on h l)=[.off 1]:=by simp[options]
theorem xV{u:Unit_}(hw:Wf u){fr:Bool}{m:Mode}(hm:rK u m):(options u fr m).length≤61:=by
 have h1:=hw.IZ
 have h2:=hw.Lc
 have hN:u.high+1-u.low≤60:=UJ (SE h2 h1)
 cases m with
 | off h =>
  rw[qS hw fr h hm.2]
  split
  ·rw[Q2,QH,Q6]
   exact SR (QK (SY (SR (Rn ..)) _) hN)
  ·simp
 | on h l =>
  cases fr with
  | false=>rw[yE];simp
  | true =>
   rw[zN hw h l hm.2.1,QN,QH,Q6,Sw]
   refine SE (QK (QK (UU (Uy ..) _) (SY (SR (Rn ..)) _)) hN) (show _≤1 from ?_)
   split
   ·exact QP _
   ·exact Sr _
def Ap(a b:Int):Prop:=a=b∨(NP≤a∧NP≤b)
theorem Ap.of{a b:Int}(h:a=b):Ap a b:=.inl h
theorem Ap.trans{a b c:Int}(h:Ap a b)(k:Ap b c):Ap a c:=by
 rcases h with rfl|⟨h1,h2⟩
 ·exact k
 ·rcases k with rfl|⟨k1,k2⟩
  ·exact .inr ⟨h1,h2⟩
  ·exact .inr ⟨h1,k2⟩
theorem Ap.add{a b:Int}(h:Ap a b)(c:Nat):Ap (a+(c:Int)) (b+(c:Int)):=by
 rcases h with rfl|⟨h1,h2⟩
 ·exact .inl rfl
 ·exact .inr ⟨by omega,by omega⟩
theorem Mt{a b:Int}(h1:a<NP→b≤a)(h2:b<NP→a≤b):Ap a b:=by
 by_cases ha:a<NP
 ·exact .inl (UT (h2 (Sn (h1 ha) ha)) (h1 ha))
 ·exact .inr ⟨Tf.1 ha,Tf.1 fun q=>ha (Sn (h2 q) q)⟩
theorem Ap.sym{a b:Int}(h:Ap a b):Ap b a:=h.imp Eq.symm And.symm
theorem Ap.le{a b:Int}(h:Ap a b)(l:a<NP):b≤a:=h.elim (fun e=>Int.le_of_eq e.symm) fun e=>absurd l (Tf.2 e.1)
theorem JH{xs ys:List Int}(hx:xs≠[])(hy:ys≠[])(h1:∀x∈xs,x<NP→∃y∈ys,y≤x)(h2:∀y∈ys,y<NP→∃x∈xs,x≤y):Ap (minOf xs) (minOf ys):=by
 refine Mt (fun h=>?_) (fun h=>?_)
 ·obtain⟨y,hy,e⟩:=h1 _ (dA hx) h
  exact Sb (fU hy) e
 ·obtain⟨x,hx,e⟩:=h2 _ (dA hy) h
  exact Sb (fU hx) e
theorem Im{α:Type}{L:List α}{f g:α→Int}(hL:L≠[])(h:∀x∈L,Ap (f x) (g x)):Ap (minOf (L.map f)) (minOf (L.map g)):=by
 refine JH (by simpa using hL) (by simpa using hL) (fun y hy l=>?_) (fun y hy l=>?_)
 ·obtain⟨x,hx,rfl⟩:=QV.mp hy
  refine⟨g x,QV.mpr ⟨x,hx,rfl⟩,?_⟩
  exact(h x hx).le l
 ·obtain⟨x,hx,rfl⟩:=QV.mp hy
  refine⟨f x,QV.mpr ⟨x,hx,rfl⟩,?_⟩
  exact(h x hx).sym.le l
theorem NM{a b c d:Int}(h:Ap a b)(k:Ap c d)(l:min a c<NP):min b d≤min a c:=by
 rcases Vw a c with q|q
 ·rw[Tp q]at *;exact Sb (US ..) (h.le l)
 ·rw[Tv q]at *;exact Sb (Ux ..) (k.le l)
theorem Hs{a b c d:Int}(h:Ap a b)(k:Ap c d):Ap (min a c) (min b d):=Mt (NM h k) (NM h.sym k.sym)
theorem Cz.ap{B:Nat}{o:Option Nat}{z z':Int}(hB:(B:Int)<NP)(c:Cz B o z)(h:Ap z' z):Cz B o z':=by
 cases o with
 | none=>have c:NP≤z:=c;show NP≤z';exact h.elim (fun e=>e▸c) (·.1)
 | some d =>
  obtain⟨c1,c2⟩:=c
  exact⟨h.elim (·.trans c1) fun e=>absurd (c1▸e.2) (Wg.2 (Sn (Sq.2 c2) hB)),c2⟩
def rd(zs:List Int)(i:Nat):Int:=zs.getD i 0
theorem m7{zs:List Int}{i:Nat}{z:Int}(h:zs[i]?=some z):rd zs i=z:=by unfold rd;rw[RN,h];rfl
theorem bO{zs:List Int}{i:Nat}(h:i<zs.length):zs[i]?=some (rd zs i):=by
 unfold rd;rw[RN,QJ h];rfl
theorem Cf{zs ys:List Int}{i j:Nat}(h:zs[i]?=ys[j]?):rd zs i=rd ys j:=by
 unfold rd;rw[RN,RN,h]
def stride{α:Type}(zs:List α)(m n:Nat):List α:=(Q5 ((zs.length-m+n-1) / n)).filterMap fun k=>zs[m+n*k]?
theorem JX{α β:Type}(f:α→Option β)(g:α→β):∀L:List α,(∀x∈L,f x=some (g x))→L.filterMap f=L.map g
 | [],_=>rfl
 | a::L,h=>by rw[RR,h a (by simp),RC,JX f g L fun x hx=>h x (by simp[hx])]
theorem k9{zs:List Int}{W n m:Nat}(hl:zs.length=W*n)(hm:m<n):stride zs m n=(Q5 W).map fun k=>rd zs (k*n+m):=by
 have e:(zs.length-m+n-1) / n=W:=by
  cases W with
  | zero =>
   rw[hl,T8]
   exact Tz (by rw[Nat.zero_sub,TF];exact SS (R8 hm) TC)
  | succ W =>
   have e1:n*(W+1)=zs.length:=by rw[hl,RP]
   have e2:n*(W+2)=zs.length+n:=by rw[←e1];exact XM n (W+1)
   have e3:n≤zs.length:=by rw[hl,RD];exact Rx ..
   have h1:n*(W+1)≤zs.length-m+n-1:=by rw[e1];exact UL (So (Tr (RO (QK (RI hm) e3)).symm) (R0 hm _))
   have h2:zs.length-m+n-1<n*(W+2):=by rw[e2];exact QS (SS (QS (R8 hm) (Rx ..)) TC) (VW (Rq ..) _)
   have q1:=(Nat.le_div_iff_mul_le (R8 hm)).mpr (by rw[RP];exact h1)
   have q2:=(VI (R8 hm)).mpr (by rw[RP];exact h2)
   exact TQ (Ts q2) q1
 unfold stride
 rw[e]
 apply JX
 intro k hk
 have hk:=Rf.mp hk
 rw[RP n k,Sw]
 apply bO
 have:(k+1)*n≤W*n:=Q7 _ hk
 rw[RD]at this
 rw[hl];exact QS (R0 hm _) this
def fL(zs:List Int)(n:Nat):List Int:=(Q5 n).flatMap fun m=>stride zs m n
theorem oE{zs:List Int}{W n:Nat}(hl:zs.length=W*n):(fL zs n).length=n*W:=by
 unfold fL
 rw[bZ _ W _ (fun m hm=>by rw[k9 hl (Rf.mp hm)];simp),Q6]
theorem Jv{zs:List Int}{W n m w:Nat}(hl:zs.length=W*n)(hm:m<n)(hw:w<W):rd (fL zs n) (m*W+w)=rd zs (w*n+m):=by
 apply m7
 unfold fL
 rw[dG _ W _ (fun m hm=>by rw[k9 hl (Rf.mp hm)];simp) m w m (Rt hm) hw,k9 hl hm,QI,Rt hw]
 rfl
def du(a b:List Int):List Int:=Vx (fun x y=>if x<y then x else y) a b
theorem ke(a b:List Int):(du a b).length=min a.length b.length:=by unfold du;rw[Tt]
theorem wC{a b:List Int}{i:Nat}(h1:i<a.length)(h2:i<b.length):rd (du a b) i=min (rd a i) (rd b i):=by
 apply m7
 unfold du
 rw[RZ,bO h1,bO h2]
 show some _=some _
 congr 1
 split
 ·exact(Tp (Vt ‹_›)).symm
 ·exact(Tv (Tf.1 ‹_›)).symm
theorem GZ{α:Type}{L:List α}{f:α→Int}{i:Nat}{x:α}(h:L[i]?=some x):rd (L.map f) i=f x:=by
 apply m7;rw[QI,h];rfl
theorem vf(zs:List Int)(d i:Nat):rd (zs.drop d) i=rd zs (d+i):=Cf (by rw[TJ])
theorem m9{zs:List Int}{d i:Nat}(h:i<d):rd (zs.take d) i=rd zs i:=Cf (by rw[Wm,if_pos h])
theorem kS{a b:List Int}{i:Nat}(h:i<a.length):rd (a++b) i=rd a i:=Cf (by rw[Q0 h])
theorem jh{a b:List Int}{i:Nat}(h:a.length≤i):rd (a++b) i=rd b (i-a.length):=Cf (by rw[QX h])
theorem Kz{n i:Nat}{z:Int}(h:i<n):rd (QU n z) i=z:=m7 (by rw[Sy,if_pos h])
def sY(zs:List Int)(W s:Nat):List Int:=(Q5 (zs.length-(s-1)*W)).map fun k=>minOf ((Q5 s).map fun j=>rd zs (k+j*W))
theorem jK(zs:List Int)(W s:Nat):(sY zs W s).length=zs.length-(s-1)*W:=by simp[sY]
theorem zu{zs:List Int}{W s k:Nat}(h:k<zs.length-(s-1)*W):rd (sY zs W s) k=minOf ((Q5 s).map fun j=>rd zs (k+j*W)):=by
 unfold sY
 exact GZ (Rt h)
theorem HV{a b:List Int}(hl:a.length=b.length)(h:∀i,i<a.length→rd a i=rd b i):a=b:=by
 apply SF
 intro i
 by_cases c:i<a.length
 ·rw[bO c,bO (hl▸c),h i c]
 ·rw[Sj (Q9 c),Sj (hl▸Q9 c)]
theorem LL(zs:List Int)(W:Nat):sY zs W 1=zs:=by
 apply HV
 ·simp[sY]
 ·intro i hi
  rw[jK]at hi
  rw[zu hi]
  simp[minOf]
theorem Jb{f:Nat→Int}{s m:Nat}(h1:1≤m)(h2:m≤s):minOf ((Q5 (s+m)).map f)=min (minOf ((Q5 s).map f)) (minOf ((Q5 s).map fun j=>f (m+j))):=by
 symm
 have n1:(Q5 s).map f≠[]:=by
  intro e
  have:=congrArg SJ e
  simp at this
  omega
 have n2:(Q5 s).map (fun j=>f (m+j))≠[]:=by
  intro e
  have:=congrArg SJ e
  simp at this
  omega
 apply uU
 ·have q1:=dA n1
  have q2:=dA n2
  obtain⟨i,hi,ei⟩:=QV.mp q1
  obtain⟨j,hj,ej⟩:=QV.mp q2
  have hi:=Rf.mp hi
  have hj:=Rf.mp hj
  rw[←ei,←ej]
  rcases Vw (f i) (f (m+j))with q|q
  ·rw[Tp q];exact QV.mpr ⟨i,Rf.mpr (Nat.lt_add_right _ hi),rfl⟩
  ·rw[Tv q];exact QV.mpr ⟨m+j,Rf.mpr (Sw s m▸R0 hj m),rfl⟩
 ·intro y hy
  obtain⟨i,hi,rfl⟩:=QV.mp hy
  have hi:=Rf.mp hi
  by_cases c:i<s
  ·have:=fU (QV.mpr ⟨i,Rf.mpr c,rfl⟩:f i∈(Q5 s).map f)
   exact Sb (US ..) this
  ·have:=fU (QV.mpr ⟨i-m,Rf.mpr (Nat.sub_lt_right_of_lt_add (QK h2 (Q9 c)) hi),rfl⟩:f (m+(i-m))∈(Q5 s).map fun j=>f (m+j))
   have e:m+(i-m)=i:=RM (QK h2 (Q9 c))
   rw[e]at this
   exact Sb (Ux ..) this
theorem Ke{zs:List Int}{W s m:Nat}(h0:1≤s)(h1:1≤m)(h2:m≤s):du (sY zs W s) ((sY zs W s).drop (m*W))=sY zs W (s+m):=by
 have e:(s+m-1)*W=(s-1)*W+m*W:=by rw[←Si];congr 1;exact TB h0
 apply HV
 ·rw[ke,QY,jK,jK,e];rw[Rv (Rq ..),UI]
 ·intro i hi
  rw[ke,QY,jK,Rv (Rq ..)]at hi
  rw[wC (by rw[jK];exact QS hi (Rq ..)) (by rw[QY,jK];exact hi),vf,zu (QS hi (Rq ..)),zu (TY hi),zu (by rw[e,←UI];exact hi),Jb h1 h2]
  congr 2
  apply RL
  intro j _
  congr 1
  rw[Si];exact(Rp ..).trans (Nat.add_left_comm ..)
def DE(zs:List Int)(W R:Nat):List Int:=QU (R*W) NP++zs++QU (R*W) NP
def xb(zs:List Int)(W R:Nat):List Int:=sY (DE zs W R) W (2*R+1)
theorem Cg(zs:List Int)(W R:Nat):(xb zs W R).length=zs.length:=by
 unfold xb DE
 rw[jK]
 simp only[QN,RE]
 have:(2*R+1-1)*W=R*W+R*W:=by rw[←Si];congr 1;exact VX R
 rw[this];rw[U7,Rg]
theorem M4{zs:List Int}{W R L p w:Nat}(hl:zs.length=L*W)(hw:w<W):rd (DE zs W R) (p*W+w)=if R≤p∧p<R+L then rd zs ((p-R)*W+w)else if p<R+L+R then NP else 0:=by
 unfold DE
 have lt:∀{a b:Nat},a<b→a*W+w<b*W:=by
  intro a b h
  have:(a+1)*W≤b*W:=Q7 _ h
  rw[RD]at this
  exact QS (R0 hw _) this
 have ge:∀{a b:Nat},b≤a→b*W≤a*W+w:=by
  intro a b h
  have:b*W≤a*W:=Q7 _ h
  exact QK this (QR ..)
 by_cases c1:p<R
 ·rw[if_neg (fun q=>Wc.2 c1 q.1),if_pos (QS c1 (Rx ..)),R7,kS (by rw[RE];exact lt c1),Kz (lt c1)]
 ·have c1:=Q9 c1
  have e:p*W+w-R*W=(p-R)*W+w:=by
   have:R*W≤p*W:=Q7 _ c1
   rw[WH];exact TB this
  by_cases c2:p<R+L
  ·rw[if_pos ⟨c1,c2⟩,R7,jh (by rw[RE];exact ge c1),RE,e,kS (by rw[hl];exact lt (SK c1 c2))]
  ·rw[if_neg (fun q=>c2 q.2)]
   have e2:(p-R)*W+w-L*W=(p-R-L)*W+w:=by
    have:L*W≤(p-R)*W:=Q7 _ (Sk (Q9 c2))
    rw[WH (p-R)];exact TB this
   rw[R7,jh (by rw[RE];exact ge c1),RE,e,jh (by rw[hl];exact ge (Sk (Q9 c2))),hl,e2]
   by_cases c3:p<R+L+R
   ·rw[if_pos c3,Kz (lt (by rw[UI];exact SK (Q9 c2) c3))]
   ·rw[if_neg c3]
    unfold rd
    rw[RN,Sj (by rw[RE];exact ge (by rw[UI];exact Sk (Q9 c3)))]
    rfl
theorem KC{zs:List Int}{W R L l w:Nat}(hl:zs.length=L*W)(hw:w<W)(hL:l<L) :
  Ap (rd (xb zs W R) (l*W+w)) (minOf ((Q5 (min (l+R) (L-1)+1-(l-R))).map fun i=>rd zs ((l-R+i)*W+w))):=by
 unfold xb
 have lt:l*W+w<L*W:=by
  have:(l+1)*W≤L*W:=Q7 _ hL
  rw[RD]at this
  exact QS (R0 hw _) this
 rw[zu (by
  have:(sY (DE zs W R) W (2*R+1)).length=zs.length:=Cg zs W R
  rw[jK]at this
  rw[this,hl];exact lt)]
 have e:∀j,rd (DE zs W R) (l*W+w+j*W)=if R≤l+j∧l+j<R+L then rd zs ((l+j-R)*W+w)else if l+j<R+L+R then NP else 0:=by
  intro j
  rw[←M4 hl hw,Si]
  congr 1;exact U7 ..
 have e2:((Q5 (2*R+1)).map fun j=>rd (DE zs W R) (l*W+w+j*W))=(Q5 (2*R+1)).map fun j=>if R≤l+j∧l+j<R+L then rd zs ((l+j-R)*W+w)else NP:=by
  apply RL
  intro j hj
  have hj:=Rf.mp hj
  rw[e]
  split
  ·rfl
  ·rw[if_pos (QS (Nat.add_lt_add_of_lt_of_le hL (Ts hj)) (by rw[VX,←Rp,Sw L];exact QP _))]
 rw[e2]
 have hM:l≤min (l+R) (L-1):=Tg.mpr ⟨QR ..,UL hL⟩
 clear e e2 lt hl hw
 refine JH ?_ ?_ ?_ ?_
 ·intro h
  have:=congrArg SJ h
  simp at this
 ·intro h
  have:=congrArg SJ h
  rw[QH,Q6]at this
  exact Nat.sub_ne_zero_of_lt (Up (QK (Rq ..) hM)) this
 ·intro x hx hlt
  obtain⟨j,hj,rfl⟩:=QV.mp hx
  have hj:=Rf.mp hj
  split at hlt
  ·rename_i c
   rw[if_pos c]
   have d:l-R≤l+j-R:=SY (QR ..) R
   refine⟨_,QV.mpr ⟨l+j-R-(l-R),Rf.mpr (Sz d (Up (Tg.mpr ⟨UJ (by rw[Rp,←VX];exact RS (Ts hj) _),UL (SK c.1 c.2)⟩))),rfl⟩,?_⟩
   rw[RM d];first|exact VV _|omega
  ·exact absurd hlt (Int.lt_irrefl _)
 ·intro y hy hlt
  obtain⟨i,hi,rfl⟩:=QV.mp hy
  have hi:=Rf.mp hi
  have hx:=Ts (TY hi)
  refine⟨_,QV.mpr ⟨l-R+i+R-l,Rf.mpr (SK (UK (QR ..)) (Up (by rw[VX];show _≤l+(R+R);rw[←Rp];exact VW (QK hx (S8 ..)) R))),rfl⟩,?_⟩
  have q:l+(l-R+i+R-l)=l-R+i+R:=RM (UK (QR ..))
  rw[if_pos (by rw[q,Sw R L];exact⟨Rx ..,Nat.add_lt_add_right (So (QK hx (Rn ..)) (SS (R8 hL) TC)) R⟩),q]
  rw[We];first|exact VV _|omega
theorem oV{a b c r:Nat}(h:a≤b)(k:b≤c)(e:min (b+r) c+1-max (b-r) a=0):False:=Sg b (So (Tg.2 ⟨QR ..,k⟩) (QS (VJ e) (W2.2 ⟨Rq ..,h⟩)))
theorem oW{a c r:Nat}(h:a≤c)(e:min (a+r) c+1-a=0):False:=Sg a (So (Tg.2 ⟨QR ..,h⟩) (VJ e))
def ve(u:Unit_):Nat:=min u.ramp (lc u-1)
def kR(u:Unit_)(W:Nat):List Int:=(Q5 (lc u)).flatMap fun i=>QU W ((u.run:Int)+((u.low+i:Nat):Int)*(u.per:Int))
theorem cV(u:Unit_)(W:Nat):(kR u W).length=lc u*W:=by
 unfold kR
 rw[bZ _ W _ (fun a _=>by simp),Q6]
theorem GU{u:Unit_}{W i w:Nat}(hi:i<lc u)(hw:w<W):rd (kR u W) (i*W+w)=(u.run:Int)+((u.low+i:Nat):Int)*(u.per:Int):=by
 apply m7
 unfold kR
 rw[dG _ W _ (fun a _=>by simp) i w i (Rt hi) hw,Sy,if_pos hw]
def onRow(u:Unit_)(W:Nat)(zs:List Int)(h:Nat):List Int:=Vx (fun a b=>a+b) (kR u W) ((zs.drop (u.down*W+h*(lc u*W))).take (lc u*W))
theorem fF{a b W w:Nat}(h:a<b)(hw:w<W):a*W+w<b*W:=by
 have:(a+1)*W≤b*W:=Q7 _ h
 rw[RD]at this
 exact QS (R0 hw _) this
theorem zM{u:Unit_}{W h:Nat}(zs:List Int)(hl:zs.length=modeCount u*W)(hh:h<u.up):u.down*W+h*(lc u*W)+lc u*W≤zs.length:=by
 have e:modeCount u*W=u.down*W+u.up*(lc u*W):=by
  show(u.down+u.up*lc u)*W=_
  rw[Si,Su]
 have:(h+1)*(lc u*W)≤u.up*(lc u*W):=Q7 _ hh
 rw[RD]at this
 rw[hl,e];rw[Rp];exact RS this _
theorem qR{u:Unit_}{W h:Nat}{zs:List Int}(hl:zs.length=modeCount u*W)(hh:h<u.up):(onRow u W zs h).length=lc u*W:=by
 have:=zM zs hl hh
 unfold onRow
 rw[Tt,cV,QZ,QY]
 exact Q3 (Tg.2 ⟨QP _,Sk this⟩)
theorem Kq{u:Unit_}{W h i w:Nat}{zs:List Int}(hl:zs.length=modeCount u*W)(hh:h<u.up)(hi:i<lc u)(hw:w<W) :
  rd (onRow u W zs h) (i*W+w)=rd zs ((u.down+h*lc u+i)*W+w)+((u.run+u.per*(u.low+i):Nat):Int):=by
 have h1:=zM zs hl hh
 have h2:=fF hi hw
 apply m7
 unfold onRow
 rw[RZ,bO (by rw[cV];exact h2),bO (by rw[QZ,QY];exact Sl.2 ⟨h2,QS h2 (Sk h1)⟩),GU hi hw,m9 h2,vf]
 show some _=some _
 congr 1
 have e:(u.down+h*lc u+i)*W+w=u.down*W+h*(lc u*W)+(i*W+w):=by
  rw[Si,Si,Su];rw[Rp]
 rw[e,Wu]
 simp
 exact Vv ..
def dU(u:Unit_)(W:Nat)(zs:List Int):List Int:=(zs.take (u.down*W)).drop W++(zs.take (u.down*W)).drop (u.down*W-W)
theorem CN{u:Unit_}(W:Nat)(zs:List Int)(hl:zs.length=modeCount u*W):u.down*W≤zs.length:=by
 rw[hl];exact Q7 _ (QR _ _)
theorem eI{u:Unit_}(hu:Wf u)(W:Nat):u.down*W=(u.down-1)*W+W∧u.down*W-W=(u.down-1)*W:=by
 have:=hu.CM
 have e:u.down*W=(u.down-1)*W+W:=by rw[←RD];congr 1;exact(RO this).symm
 exact⟨e,VU e⟩
theorem dX{u:Unit_}(hu:Wf u){W:Nat}{zs:List Int}(hl:zs.length=modeCount u*W):(dU u W zs).length=u.down*W:=by
 have h1:=CN W zs hl
 obtain⟨h2,h3⟩:=eI hu W
 unfold dU
 simp only[QN,QY,QZ]
 rw[Q3 h1];exact RM (Rq ..)
theorem Cb{u:Unit_}(hu:Wf u){W h w:Nat}{zs:List Int}(hl:zs.length=modeCount u*W)(hh1:1≤h)(hh:h≤u.down)(hw:w<W):rd (dU u W zs) ((h-1)*W+w)=rd zs ((min (h+1) u.down-1)*W+w):=by
 have h1:=CN W zs hl
 obtain⟨h2,h3⟩:=eI hu W
 unfold dU
 by_cases c:h<u.down
 ·have q:=fF (show h-1<u.down-1 from Sz hh1 c) hw
  have q2:=fF c hw
  rw[kS (by simp only[QY,QZ];rw[Q3 h1,h3];exact q),vf]
  have e:W+((h-1)*W+w)=h*W+w:=by
   have:h*W=(h-1)*W+W:=by rw[←RD];congr 1;exact(RO hh1).symm
   rw[this,←Rp,Sw W]
  rw[e,m9 q2]
  congr 3;rw[Q3 c];rfl
 ·have e0:h=u.down:=TQ hh (Q9 c)
  subst e0
  have q2:=fF (show u.down-1<u.down from SS hu.CM TC) hw
  rw[jh (by simp only[QY,QZ];rw[Q3 h1,h3];exact QR ..)]
  simp only[QY,QZ]
  rw[vf]
  have e:u.down*W-W+((u.down-1)*W+w-(min (u.down*W) zs.length-W))=(u.down-1)*W+w:=by rw[Q3 h1,h3,Rg]
  rw[e,m9 q2]
  congr 3;rw[Rv (VT _)]
def zY(n:Nat)(zs:List Int):List Int:=(QU n zs).flatten
theorem vg(n:Nat)(zs:List Int):(zY n zs).length=n*zs.length:=by simp[zY]
theorem HU{n i w:Nat}{zs:List Int}(hi:i<n)(hw:w<zs.length):rd (zY n zs) (i*zs.length+w)=rd zs w:=by
 apply Cf
 unfold zY
 have e:(QU n zs).flatten=(QU n zs).flatMap id:=by simp[List.flatMap_def]
 rw[e,dG id zs.length _ (fun a ha=>by rw[List.eq_of_mem_replicate ha];rfl) i w zs (by rw[Sy,if_pos hi]) hw]
 rfl
def wR(u:Unit_)(W:Nat)(zs:List Int):List Int:=dU u W zs++zY (modeCount u-u.down) (zs.take W)
theorem kG{u:Unit_}(hu:Wf u){W:Nat}{zs:List Int}(hl:zs.length=modeCount u*W):(zs.take W).length=W:=by
 have h1:=CN W zs hl
 obtain⟨h2,h3⟩:=eI hu W
 rw[QZ];exact Q3 (QK (QK (Rx ..) (Tr h2.symm)) h1)
theorem GW{u:Unit_}(hu:Wf u){W:Nat}{zs:List Int}(hl:zs.length=modeCount u*W):(wR u W zs).length=modeCount u*W:=by
 unfold wR
 rw[QN,dX hu hl,vg,kG hu hl,←Si]
 congr 1
 unfold modeCount;rw[Rg]
theorem Jg{u:Unit_}(hu:Wf u){W w:Nat}{zs:List Int}{b:Mode}(hl:zs.length=modeCount u*W)(hb:rK u b)(hw:w<W):rd (wR u W zs) (place u b*W+w)=minOf ((options u false b).map fun x=>rd zs (place u x*W+w)+(costOf u b x:Int)):=by
 unfold wR
 have pl:=place_lt hb
 cases b with
 | off h =>
  obtain⟨h1,h2⟩:=hb
  rw[kS (by rw[dX hu hl];exact fF (show h-1<u.down from RX h1 h2) hw)]
  show rd _ ((h-1)*W+w)=_
  rw[Cb hu hl h1 h2 hw,qS hu false h h2,if_neg (by simp)]
  simp[minOf,costOf,place]
 | on h l =>
  obtain⟨h1,h2,h3,h4⟩:=hb
  have ge:u.down≤place u (.on h l):=by simp only[place];exact QK (QR ..) (QR ..)
  have ge2:u.down*W≤place u (.on h l)*W:=Q7 _ ge
  rw[jh (by rw[dX hu hl];exact QK ge2 (QR ..)),dX hu hl]
  have e:place u (.on h l)*W+w-u.down*W=(place u (.on h l)-u.down)*W+w:=by rw[WH];exact TB ge2
  have tl:=kG hu hl
  rw[e]
  have r:=HU (n:=modeCount u-u.down) (i:=place u (.on h l)-u.down) (w:=w) (zs:=zs.take W) (Sz ge pl) (by rw[tl];exact hw)
  rw[tl]at r
  rw[r,m9 hw,yE]
  simp[minOf,costOf,place]
def cJ(u:Unit_)(W:Nat)(zs:List Int)(h:Nat):List Int:=xb (onRow u W zs h) W (ve u)
theorem cX{u:Unit_}{W h:Nat}{zs:List Int}(hl:zs.length=modeCount u*W)(hh:h<u.up):(cJ u W zs h).length=lc u*W:=by
 unfold cJ;rw[Cg,qR hl hh]
def gq(u:Unit_)(W:Nat)(zs:List Int):List Int:=((cJ u W zs 0).take W).map fun c=>c+(u.start:Int)
def l9(u:Unit_)(W:Nat)(zs:List Int):List Int :=
 (dU u W zs).take (u.down*W-W)++du ((dU u W zs).drop (u.down*W-W)) (gq u W zs)++((Q5 (u.up-1)).flatMap fun i=>cJ u W zs (i+1))++du (cJ u W zs (u.up-1)) (zY (lc u) (zs.take W))
theorem N3{u:Unit_}(hu:Wf u):0<lc u:=by have:=hu.lh;unfold lc;omega
theorem kY{u:Unit_}(hu:Wf u){W:Nat}{zs:List Int}(hl:zs.length=modeCount u*W):(gq u W zs).length=W:=by
 unfold gq
 rw[QH,QZ,cX hl (by have:=hu.up1;omega)]
 have:1*W≤lc u*W:=Q7 _ (N3 hu)
 exact Q3 (QK (Tr (Nat.one_mul W).symm) this)
theorem sr{u:Unit_}(hu:Wf u){W:Nat}{zs:List Int}(hl:zs.length=modeCount u*W) :
  ((dU u W zs).take (u.down*W-W)).length=(u.down-1)*W∧(du ((dU u W zs).drop (u.down*W-W)) (gq u W zs)).length=W ∧
  ((Q5 (u.up-1)).flatMap fun i=>cJ u W zs (i+1)).length=(u.up-1)*(lc u*W)∧(du (cJ u W zs (u.up-1)) (zY (lc u) (zs.take W))).length=lc u*W:=by
 obtain⟨h2,h3⟩:=eI hu W
 have up:=hu.up1
 refine⟨?_,?_,?_,?_⟩
 ·rw[QZ,dX hu hl];rw[Q3 (Rq ..),h3]
 ·rw[ke,QY,dX hu hl,kY hu hl];rw[h3,h2,Rg,SG]
 ·rw[bZ _ (lc u*W) _ (fun a ha=>cX hl (T6 (Rf.mp ha))),Q6]
 ·rw[ke,cX hl (SS up TC),vg,kG hu hl];rw[SG]
theorem Cy{u:Unit_}(hu:Wf u){W:Nat}{zs:List Int}(hl:zs.length=modeCount u*W):(l9 u W zs).length=modeCount u*W:=by
 obtain⟨a1,a2,a3,a4⟩:=sr hu hl
 obtain⟨h2,h3⟩:=eI hu W
 have up:=hu.up1
 unfold l9
 rw[QN,QN,QN,a1,a2,a3,a4]
 show _=(u.down+u.up*lc u)*W
 have e:u.up*(lc u*W)=(u.up-1)*(lc u*W)+lc u*W:=by rw[←RD];congr 1;exact(RO up).symm
 rw[Si,Su,e];rw[h2,Rp]
theorem Nr(d N low ramp:Nat)(h:d≤N):low+(d-min ramp N)=max (low+d-ramp) low:=by
 rcases UX ramp d with c|c
 ·rw[Q3 (QK c h),Wv c,WR (QR ..)]
 ·rw[SO (Tg.mpr ⟨c,h⟩),Uz (by rw[Nat.sub_le_iff_le_add];exact RS c _)];rfl
theorem Nq(d N low ramp:Nat):low+min (d+min ramp N) N=min (low+d+ramp) (low+N):=by
 rw[Rp,←Nat.add_min_add_left]
 rcases UX ramp N with c|c
 ·rw[Q3 c]
 ·rw[Rv c,Rv (RS (Rx ..) _),Rv (RS (QK c (Rx ..)) _)]
theorem Mf{low x y a b:Nat}(h1:low+x=a)(h2:low+y=b):x+1-y=a+1-b:=by rw[←h1,←h2,Rp,VY]
theorem tI{u:Unit_}(hu:Wf u){W h l w:Nat}{zs:List Int}(hl:zs.length=modeCount u*W)(hh1:1≤h)(hh:h≤u.up)(h3:u.low≤l)(h4:l≤u.high)(hw:w<W)(b:Mode)(hb:isOn b=true) :
  Ap (rd (cJ u W zs (h-1)) ((l-u.low)*W+w)) (minOf ((Q5 (min (l+u.ramp) u.high+1-max (l-u.ramp) u.low)).map fun i=>rd zs (place u (.on h (max (l-u.ramp) u.low+i))*W+w)+(costOf u b (.on h (max (l-u.ramp) u.low+i)):Int))):=by
 have key:=KC (R:=ve u) (qR hl (show h-1<u.up from RX hh1 hh)) hw (show l-u.low<lc u from oA h3 h4)
 have hN:u.low+(lc u-1)=u.high:=by unfold lc;omega
 have hd:u.low+(l-u.low)=l:=RM h3
 have wl:u.low+(l-u.low-ve u)=max (l-u.ramp) u.low:=by
  have:=Nr (l-u.low) (lc u-1) u.low u.ramp (Nat.le_of_add_le_add_left (a:=u.low) (by rw[hN,hd];exact h4))
  rw[hd]at this
  exact this
 have wh:u.low+min (l-u.low+ve u) (lc u-1)=min (l+u.ramp) u.high:=by
  have:=Nq (l-u.low) (lc u-1) u.low u.ramp
  rw[hd,hN]at this
  exact this
 have e1:min (l-u.low+ve u) (lc u-1)+1-(l-u.low-ve u)=min (l+u.ramp) u.high+1-max (l-u.ramp) u.low:=Mf wh wl
 rw[e1]at key
 have e2:((Q5 (min (l+u.ramp) u.high+1-max (l-u.ramp) u.low)).map fun i=>rd (onRow u W zs (h-1)) ((l-u.low-ve u+i)*W+w))=(Q5 (min (l+u.ramp) u.high+1-max (l-u.ramp) u.low)).map fun i=>rd zs (place u (.on h (max (l-u.ramp) u.low+i))*W+w)+(costOf u b (.on h (max (l-u.ramp) u.low+i)):Int):=by
  apply RL
  intro i hi
  have hi:=Rf.mp hi
  have e4:u.low+(l-u.low-ve u+i)=max (l-u.ramp) u.low+i:=by rw[←Rp,wl]
  have hlc:l-u.low-ve u+i<lc u:=by
   have:=Rn (l+u.ramp) u.high
   generalize min (l+u.ramp) u.high=m at *
   generalize max (l-u.ramp) u.low=m' at *
   generalize l-u.low-ve u=q at *
   clear key e1 wh hl
   unfold lc at *
   omega
  rw[Kq hl (RX hh1 hh) hlc hw]
  have e3:l-u.low-ve u+i=max (l-u.ramp) u.low+i-u.low:=by rw[←e4,Rg]
  simp only[place,costOf,hb,if_true]
  rw[e4,e3]
  rfl
 rw[e2]at key
 exact key
theorem zw(a:Int){r:List Int}(h:r≠[]):minOf (a::r)=min a (minOf r):=by
 symm
 apply uU
 ·rcases Vw a (minOf r)with q|q
  ·rw[Tp q];simp
  ·rw[Tv q];simp[dA h]
 ·intro y hy
  rcases QM.mp hy with rfl|hy
  ·exact US ..
  ·exact Sb (Ux ..) (fU hy)
theorem Ja{α:Type}{L:List α}{f:α→Int}(c:Int)(h:L≠[]):minOf (L.map f)+c=minOf (L.map fun x=>f x+c):=by
 apply uU
 ·have:=dA (ns:=L.map f) (by simpa using h)
  obtain⟨x,hx,e⟩:=QV.mp this
  exact QV.mpr ⟨x,hx,by rw[e]⟩
 ·intro y hy
  obtain⟨x,hx,rfl⟩:=QV.mp hy
  have:=fU (QV.mpr ⟨x,hx,rfl⟩:f x∈L.map f)
  exact UH this _
theorem Eg{u:Unit_}(hu:Wf u){W w:Nat}{zs:List Int}{b:Mode}(hl:zs.length=modeCount u*W)(hb:rK u b)(hw:w<W):Ap (rd (l9 u W zs) (place u b*W+w)) (minOf ((options u true b).map fun x=>rd zs (place u x*W+w)+(costOf u b x:Int))):=by
 obtain⟨a1,a2,a3,a4⟩:=sr hu hl
 obtain⟨o1,o2⟩:=eI hu W
 have up:=hu.up1
 have dn:=hu.CM
 have lh:=hu.lh
 have rp:=hu.Qx
 unfold l9
 cases b with
 | off h =>
  obtain⟨h1,h2⟩:=hb
  have r:=Cb hu hl h1 h2 hw
  have lt1:=fF (show h-1<u.down from RX h1 h2) hw
  rw[kS (by rw[QN,QN,a1,a2];show(h-1)*W+w<_;rw[←o1];exact QS lt1 (QR ..)),kS (by rw[QN,a1,a2];show(h-1)*W+w<_;rw[←o1];exact lt1)]
  show Ap (rd _ ((h-1)*W+w)) _
  by_cases c:h<u.down
  ·have lt2:=fF (show h-1<u.down-1 from Sz h1 c) hw
   rw[kS (by rw[a1];exact lt2),m9 (by rw[o2];exact lt2),r,qS hu true h h2,if_neg (fun q=>Rj c q.2)]
   exact .of (by simp[minOf,costOf,place])
  ·have e0:h=u.down:=TQ h2 (Q9 c)
   subst e0
   rw[jh (by rw[a1];exact QR ..),a1,Rg,wC (by rw[QY,dX hu hl];rw[o2,o1,Rg];exact hw) (by rw[kY hu hl];exact hw),vf,o2,r,qS hu true _ h2,if_pos ⟨rfl,rfl⟩]
   rw[RC,Sd]
   rw[zw _ (by
    intro e
    have:=congrArg SJ e
    simp at this
    exact oW lh this)]
   refine Hs (.of (by simp[costOf,place])) ?_
   have ls:w<((cJ u W zs 0).take W).length:=by
    have:=kY hu hl
    unfold gq at this
    rw[QH]at this
    rw[this];exact hw
   have es:rd (gq u W zs) w=rd (cJ u W zs 0) w+(u.start:Int):=by
    unfold gq
    rw[GZ (bO ls),m9 hw]
   rw[es]
   have key:=(tI hu hl (QP 1) up (QP _) lh hw (.on 1 u.low) rfl).add u.start
   rw[Se u.low,T8,TF]at key
   refine key.trans (.of ?_)
   rw[Ja _ (by
    intro e
    have:=congrArg SJ e
    simp at this
    exact oW lh this)]
   have em:max (u.low-u.ramp) u.low=u.low:=Uz (Rq ..)
   rw[em]
   congr 1
   apply RL
   intro i _
   simp only[TU,costOf,isOn,if_true]
   simp
   exact UB ..
 | on h l =>
  obtain⟨h1,h2,h3,h4⟩:=hb
  have ep:place u (.on h l)*W+w=u.down*W+((h-1)*(lc u*W)+((l-u.low)*W+w)):=by
   simp only[place]
   show(u.down+(h-1)*lc u+(l-u.low))*W+w=_
   rw[Si,Si,Su];rw[Rp,Rp]
  have lt:=fF (show l-u.low<lc u from oA h3 h4) hw
  rw[ep]
  by_cases c:h<u.up
  ·have lt2:(h-1)*(lc u*W)+((l-u.low)*W+w)<(u.up-1)*(lc u*W):=fF (show h-1<u.up-1 from Sz h1 c) lt
   rw[kS (by rw[QN,QN,a1,a2,a3];rw[←o1];exact R0 lt2 _),jh (by rw[QN,a1,a2];rw[←o1];exact QR ..),QN,a1,a2]
   have e1:u.down*W+((h-1)*(lc u*W)+((l-u.low)*W+w))-((u.down-1)*W+W)=(h-1)*(lc u*W)+((l-u.low)*W+w):=by rw[←o1,Rg]
   rw[e1]
   have eg:rd ((Q5 (u.up-1)).flatMap fun i=>cJ u W zs (i+1)) ((h-1)*(lc u*W)+((l-u.low)*W+w))=rd (cJ u W zs (h+1-1)) ((l-u.low)*W+w):=by
    apply Cf
    rw[dG _ (lc u*W) _ (fun a ha=>cX hl (T6 (Rf.mp ha))) (h-1) ((l-u.low)*W+w) (h-1) (Rt (Sz h1 c)) lt]
    have e:h-1+1=h+1-1:=RO h1
    rw[e]
   rw[eg,zN hu h l h2,if_neg (Rj c),Vz,Sd]
   have em:min (h+1) u.up=h+1:=Q3 c
   rw[em]
   exact tI hu hl (Rx ..) c h3 h4 hw (.on h l) rfl
  ·have e0:h=u.up:=TQ h2 (Q9 c)
   subst e0
   rw[jh (by rw[QN,QN,a1,a2,a3];rw[←o1];exact RS (QR ..) _)]
   rw[QN,QN,a1,a2,a3]
   have e1:u.down*W+((u.up-1)*(lc u*W)+((l-u.low)*W+w))-((u.down-1)*W+W+(u.up-1)*(lc u*W))=(l-u.low)*W+w:=by rw[←o1,VY,Rg]
   rw[e1,wC (by rw[cX hl (SS up TC)];exact lt) (by rw[vg,kG hu hl];exact lt)]
   have tl:=kG hu hl
   have r:=HU (n:=lc u) (i:=l-u.low) (w:=w) (zs:=zs.take W) (oA h3 h4) (by rw[tl];exact hw)
   rw[tl]at r
   rw[r,m9 hw,zN hu _ l h2,if_pos rfl]
   have em:min (u.up+1) u.up=u.up:=Rv (VT _)
   rw[em,VL,RC,Sd]
   rw[zw _ (by
    intro e
    have:=congrArg SJ e
    simp at this
    exact oV h3 h4 this)]
   rw[Int.min_comm]
   refine Hs (.of (by simp[costOf,place])) ?_
   exact tI hu hl h1 (QP _) h3 h4 hw (.on u.up l) rfl
theorem bc:∀(V R:List Unit_),stateCount (V++R)=stateCount V*stateCount R
 | [],R=>by simp[stateCount]
 | u::V,R=>by rw[List.cons_append,ck,ck,bc V R,Su]
theorem fx(u:Unit_):stateCount [u]=modeCount u:=by simp[stateCount]
theorem zm:∀{V:List Unit_}{a:Modes}{u:Unit_}{x:Mode},bG V a→index (V++[u]) (a++[x])=index V a*modeCount u+place u x
 | [],[],u,x,_=>by simp[index,stateCount]
 | v::V,m::a,u,x,h=>by
  show place v m*stateCount (V++[u])+index (V++[u]) (a++[x])=(place v m*stateCount V+index V a)*modeCount u+place u x
  rw[zm h.2,bc,fx,Si,Su];exact(Rp ..).symm
 | [],_::_,_,_,h=>h.elim
 | _::_,[],_,_,h=>h.elim
def rD(u:Unit_)(fr:Bool)(W:Nat)(zs:List Int):List Int:=if fr=true then l9 u W (fL zs (modeCount u))else wR u W (fL zs (modeCount u))
theorem Jh{u:Unit_}(hu:Wf u)(fr:Bool){W:Nat}{zs:List Int}(hl:zs.length=W*modeCount u):(rD u fr W zs).length=modeCount u*W:=by
 unfold rD
 split
 ·exact Cy hu (oE hl)
 ·exact GW hu (oE hl)
theorem Ks{u:Unit_}(hu:Wf u){V:List Unit_}{fr:Bool}{zs:List Int}{b:Mode}{a:Modes}(hl:zs.length=stateCount (V++[u]))(hb:rK u b)(ha:bG V a) :
  Ap (rd (rD u fr (stateCount V) zs) (index (u::V) (b::a))) (minOf ((options u fr b).map fun x=>rd zs (index (V++[u]) (a++[x]))+(costOf u b x:Int))):=by
 have hl2:zs.length=stateCount V*modeCount u:=by rw[hl,bc,fx]
 have hw:=cT ha
 have ht:=oE hl2
 have e:((options u fr b).map fun x=>rd zs (index (V++[u]) (a++[x]))+(costOf u b x:Int))=(options u fr b).map fun x=>rd (fL zs (modeCount u)) (place u x*stateCount V+index V a)+(costOf u b x:Int):=by
  apply RL
  intro x hx
  rw[zm ha,Jv hl2 (place_lt (fI hu hb hx)) hw]
 rw[e]
 show Ap (rd _ (place u b*stateCount V+index V a)) _
 unfold rD
 cases fr with
 | true=>rw[if_pos rfl];exact Eg hu ht hb hw
 | false=>rw[if_neg (by simp)];exact .of (Jg hu ht hb hw)
def BU(f:Modes→Int)(zs:List Int)(S Pf:List Unit_)(fs:List Bool):Prop :=
 zs.length=stateCount (S++Pf)∧∀s a,bG S s→bG Pf a→Ap (rd zs (index (S++Pf) (s++a))) (minOf ((moves S fs s).map fun y=>f (a++y.1)+(y.2:Int)))
theorem wg{f:Modes→Int}{zs:List Int}{us:List Unit_}(hl:zs.length=stateCount us)(h:∀l,bG us l→rd zs (index us l)=f l):BU f zs [] us []:=by
 refine⟨hl,fun s a hs ha=>?_⟩
 cases s with
 | nil =>
  refine .of ?_
  show rd zs (index us a)=_
  rw[h a ha]
  simp[moves,minOf]
 | cons m l=>exact hs.elim
theorem Gb{f:Modes→Int}{zs:List Int}{S Pf:List Unit_}{fs:List Bool}{u:Unit_}{fr:Bool}(hw:lY S)(hu:Wf u)(hl:S.length=fs.length)(h:BU f zs S (Pf++[u]) fs) :
  BU f (rD u fr (stateCount (S++Pf)) zs) (u::S) Pf (fr::fs):=by
 obtain⟨h0,h⟩:=h
 have e0:S++(Pf++[u])=(S++Pf)++[u]:=by simp
 rw[e0]at h0
 refine⟨?_,fun s a hs ha=>?_⟩
 ·rw[Jh hu fr (by rw[h0,bc,fx])]
  rfl
 cases s with
 | nil=>exact hs.elim
 | cons b s =>
  have key:=Ks hu (fr:=fr) (V:=S++Pf) (zs:=zs) (b:=b) (a:=s++a) h0 hs.1 (hs.2.append ha)
  refine Ap.trans key ?_
  have key2:Ap (minOf ((options u fr b).map fun x=>rd zs (index ((S++Pf)++[u]) ((s++a)++[x]))+(costOf u b x:Int))) (minOf ((options u fr b).map fun x=>minOf ((moves S fs s).map fun y=>f (a++x::y.1)+(y.2:Int))+(costOf u b x:Int))):=by
   refine Im (zO hu hs.1) fun x hx=>?_
   have q:=h s (a++[x]) hs.2 (ha.append ⟨fI hu hs.1 hx,trivial⟩)
   rw[e0,←R7]at q
   have q:=q.add (costOf u b x)
   simpa using q
  refine key2.trans (.of ?_)
  rw[←AU _ (fun _=>moves S fs s) (fun x y=>f (a++x::y.1)+(y.2:Int)) (fun x=>(costOf u b x:Int)) (fun _ _=>zA hw hs.2 hl)]
  show _=minOf (((options u fr b).flatMap fun x=>(moves S fs s).map fun y=>(x::y.1,costOf u b x+y.2)).map fun y=>f (a++y.1)+(y.2:Int))
  rw[Vl]
  congr 1
  apply fC
  intro x hx
  rw[Sd]
  apply RL
  intro y hy
  simp only[TU]
  exact(UB ..).trans (congrArg (_+·) (Vv ..))
def lF(us:List Unit_)(load:Nat)(zs:List Int):List Int:=Vx (fun z (l:Int)=>if l≥(load:Int)then z else NP) zs ((allModes us).map fun l=>(given l:Int))
theorem mZ{us:List Unit_}{load:Nat}{zs:List Int}(hl:zs.length=stateCount us):(lF us load zs).length=stateCount us:=by
 unfold lF
 rw[Tt,hl,QH,cy,SG]
theorem wI{us:List Unit_}{load:Nat}{zs:List Int}{l:Modes}(hl:zs.length=stateCount us)(h:bG us l):rd (lF us load zs) (index us l)=NA us load zs l:=by
 apply m7
 unfold lF
 rw[RZ,bO (by rw[hl];exact cT h),QI,gJ h]
 show some _=some _
 congr 1
 unfold NA rd
 by_cases c:load≤given l
 ·rw[if_pos (by show(load:Int)≤(given l:Int);omega),if_pos c]
 ·rw[if_neg (by show ¬(load:Int)≤(given l:Int);omega),if_neg c]
def uz(us:List Unit_)(fs:List Bool)(W:Nat)(zs:List Int):Nat→List Int
 | 0=>zs
 | k+1=>match us[us.length-(k+1)]?,fs[us.length-(k+1)]? with
  | some u,some f=>rD u f (W / modeCount u) (uz us fs W zs k)
  | _,_=>[]
def bH(us:List Unit_)(fs:List Bool)(load:Nat)(zs:List Int):List Int:=uz us fs (stateCount us) (lF us load zs) us.length
theorem qz{us:List Unit_}(h:lY us):0<stateCount us:=by
 induction us with
 | nil=>simp[stateCount]
 | cons u r ih=>rw[ck];exact WI (cZ h.head) (ih h.tail)
theorem mH{f:Modes→Int}{us:List Unit_}{fs:List Bool}{zs:List Int}(hw:lY us)(hf:us.length=fs.length)(h0:BU f zs [] us []):∀k,k≤us.length→BU f (uz us fs (stateCount us) zs k) (us.drop (us.length-k)) (us.take (us.length-k)) (fs.drop (us.length-k))
 | 0,_=>by
  rw[UY,SU,RF,hf,SU]
  exact h0
 | k+1,hk=>by
  have ih:=mH hw hf h0 k (RI hk)
  have i1:us.length-(k+1)<us.length:=SS (R8 hk) (UZ k)
  have i2:us.length-(k+1)<fs.length:=hf▸i1
  have e1:us.length-k=us.length-(k+1)+1:=sb hk
  have d1:=Ru i1
  have d2:=Ru i2
  have t1:us.take (us.length-k)=us.take (us.length-(k+1))++[us[us.length-(k+1)]]:=by rw[e1,Ur i1]
  rw[d1,d2,←e1]
  rw[t1]at ih
  have hu:Wf us[us.length-(k+1)]:=hw _ (Td _)
  have hS:lY (us.drop (us.length-k)):=fun v hv=>hw v (VZ hv)
  have st:=Gb (fr:=fs[us.length-(k+1)]) hS hu (by rw[QY,QY,hf]) ih
  have eW:stateCount us / modeCount us[us.length-(k+1)]=stateCount (us.drop (us.length-k)++us.take (us.length-(k+1))):=by
   have q:stateCount us=modeCount us[us.length-(k+1)]*stateCount (us.drop (us.length-k)++us.take (us.length-(k+1))):=by
    have e2:=congrArg stateCount (TZ (us.length-k) us)
    rw[t1]at e2
    rw[←e2,bc,bc,bc,fx,RP (stateCount _) (modeCount _),Su]
    rw[RP (stateCount (us.take (us.length-(k+1))))]
   rw[q,Nat.mul_div_cancel_left _ (cZ hu)]
  show BU f (match us[us.length-(k+1)]?,fs[us.length-(k+1)]? with
   | some u,some f=>rD u f (stateCount us / modeCount u) (uz us fs (stateCount us) zs k)
   | _,_=>[]) _ _ _
  rw[QJ i1,QJ i2]
  simp only
  rw[eW]
  exact st
theorem pb{us:List Unit_}{fs:List Bool}{load:Nat}{zs:List Int}(hw:lY us)(hf:us.length=fs.length)(hl:zs.length=stateCount us):(bH us fs load zs).length=stateCount us:=by
 have:=(mH hw hf (wg (mZ (load:=load) hl) fun l hl'=>wI hl hl') us.length (QP _)).1
 rw[Se,Tj,W5,S7]at this
 exact this
theorem Ci{us:List Unit_}{fs:List Bool}{load B:Nat}{v:Costs}{zs:List Int}(hw:lY us)(hf:us.length=fs.length)(R:Rw us B v zs)(hB:((B+62000*us.length:Nat):Int)<NP):Rw us (B+62000*us.length) (hourBack us fs load v) (bH us fs load zs):=by
 have key:=mH hw hf (wg (mZ (load:=load) R.1) fun l hl'=>wI R.1 hl') us.length (QP _)
 rw[Se,Tj,W5,Tj]at key
 have hlen:=pb (load:=load) hw hf R.1
 refine⟨hlen,fun l hl=>⟨_,bO (by rw[hlen];exact cT hl),?_⟩⟩
 rw[xN hl]
 refine(JJ hw hl hf R hB).ap hB ?_
 have q:=key.2 l [] hl trivial
 rw[S7,S7]at q
 unfold bH
 simpa using q
def mh(us:List Unit_)(hs:List Hour):Costs:=(tables us hs).headD #[]
theorem IT(us:List Unit_):mh us []=ends us:=rfl
theorem zk(us:List Unit_)(h:Hour)(hs:List Hour):mh us (h::hs)=hourBack us h.free h.load (mh us hs):=rfl
theorem Gy(us:List Unit_):∀hs:List Hour,(mh us hs).size=stateCount us
 | []=>by rw[IT];simp[ends]
 | h::hs=>by rw[zk];simp[hourBack,cy]
theorem D6(us:List Unit_)(h:Hour)(hs:List Hour):((tables us (h::hs)).drop 1)=tables us hs:=rfl
def cY(us:List Unit_)(hs:List Hour):Nat→List Int
 | 0=>QU (stateCount us) 0
 | j+1=>match hs[hs.length-(j+1)]? with
  | some h=>bH us h.free h.load (cY us hs j)
  | none=>[]
def yN(us:List Unit_)(hs:List Hour):Prop:=∀h∈hs,us.length=h.free.length
theorem small{j n:Nat}(hj:j≤50)(hn:n≤4):((j*(62000*n)+62000*n:Nat):Int)<NP:=by
 have:j*(62000*n)≤50*(62000*4):=Ti hj (UW _ hn)
 unfold NP
 omega
theorem lq{us:List Unit_}{hs:List Hour}(hw:lY us)(h4:us.length≤4)(hf:yN us hs)(oJ:hs.length≤48):∀j,j≤hs.length→Rw us (j*(62000*us.length)) (mh us (hs.drop (hs.length-j))) (cY us hs j)
 | 0,_=>by
  rw[UY,SU]
  exact L7 us _
 | j+1,hj=>by
  have ih:=lq hw h4 hf oJ j (RI hj)
  have i1:hs.length-(j+1)<hs.length:=SS (R8 hj) (UZ j)
  have e1:hs.length-j=hs.length-(j+1)+1:=sb hj
  rw[Ru i1,←e1,zk,RD]
  show Rw us _ _ (match hs[hs.length-(j+1)]? with
   | some h=>bH us h.free h.load (cY us hs j)
   | none=>[])
  rw[QJ i1]
  exact Ci hw (hf _ (Td _)) ih (small (by omega) h4)
theorem Rw.cz{us:List Unit_}{B:Nat}{v:Costs}{zs:List Int}(R:Rw us B v zs){l:Modes}(hl:bG us l):Cz B (costAt us v l) (rd zs (index us l)):=by
 obtain⟨z,h1,h2⟩:=R.2 l hl
 rw[m7 h1];exact h2
theorem Cz.told{B:Nat}{o:Option Nat}{z:Int}(hB:(B:Int)<NP)(c:Cz B o z):told o=if z<NP then z else -1:=by
 cases o with
 | none=>have c:NP≤z:=c;rw[if_neg (by omega)];rfl
 | some d=>obtain⟨c1,c2⟩:=c;rw[if_pos (Sn (c1▸Sq.2 c2) hB),c1];rfl
theorem Cz.Ko{B:Nat}{o:Option Nat}{z:Int}(hB:(B:Int)<NP)(c:Cz B o z):o=(if z<NP then some z.toNat else none)∧(z<NP→0≤z):=by
 cases o with
 | none=>have c:NP≤z:=c;rw[if_neg (by omega)];exact⟨rfl,fun h=>by omega⟩
 | some d=>obtain⟨c1,c2⟩:=c;rw[if_pos (Sn (c1▸Sq.2 c2) hB),c1];exact⟨by simp,fun _=>by omega⟩
theorem Iw{us:List Unit_}{v:Costs}{l:Modes}(hs:v.size=stateCount us)(hl:bG us l):v.toList[index us l]?=some (costAt us v l):=by
 have h:=cT hl
 unfold costAt
 rw[SA,VM,Va (by omega)]
 rfl
theorem KY{us:List Unit_}{B:Nat}{v:Costs}{zs:List Int}(R:Rw us B v zs)(hs:v.size=stateCount us)(hB:(B:Int)<NP):v.toList.map told=zs.map fun z=>if z<NP then z else -1:=by
 apply SF
 intro k
 by_cases hk:k<stateCount us
 ·obtain⟨l,el⟩:∃l,(allModes us)[k]?=some l:=⟨_,QJ (by rw[cy];exact hk)⟩
  have hl:=dR.mp (QL el)
  have ek:=EI el
  subst ek
  rw[QI,QI,Iw hs hl,bO (by rw[R.1];exact hk)]
  show some _=some _
  congr 1
  exact(R.cz hl).told hB
 ·rw[Sj (by rw[QH,Uc];rw[hs];exact Q9 hk),Sj (by rw[QH,R.1];exact Q9 hk)]
def cb(b:List Int):List Int:=b.map fun c=>if c≥0 then c else NP
theorem Ka{us:List Unit_}{b:List Int}(hl:b.length=stateCount us)(hb:∀c∈b,c≤1000000000000000000):Rw us 1000000000000000000 (costsOf b) (cb b):=by
 refine⟨by simp[cb,hl],fun l h=>⟨rd (cb b) (index us l),bO (by simp[cb,hl,cT h]),?_⟩⟩
 have hi:index us l<b.length:=by rw[hl];exact cT h
 have e:b[index us l]?=some b[index us l]:=QJ hi
 have hc:=hb _ (Td hi)
 unfold cb
 rw[GZ e]
 unfold costAt costsOf
 rw[SA,SN,QI,e]
 show Cz _ (if b[index us l]<0 then none else some b[index us l].toNat) _
 by_cases c:b[index us l]<0
 ·rw[if_pos c,if_neg (by omega)]
  exact VV _
 ·rw[if_neg c,if_pos (Tf.1 c)]
  exact⟨(Int.toNat_of_nonneg (Tf.1 c)).symm,U0.2 hc⟩
def iZ(told costs:List Int):List Bool:=Vx (fun c z=>decide (z≥NP) || (decide (0≤c)&&decide (c≤z))) told costs
theorem GY{us:List Unit_}{h:Hour}{a b:List Int}(hw:lY us)(h4:us.length≤4)(hf:us.length=h.free.length)(ha:a.length=stateCount us)(hl:b.length=stateCount us)(hb:∀c∈b,c≤1000000000000000000) :
  proves us h (costsOf a) (costsOf b)=(iZ a (bH us h.free h.load (cb b))).all id:=by
 have hB:((1000000000000000000+62000*us.length:Nat):Int)<NP:=by unfold NP;omega
 have R:=Ci (load:=h.load) hw hf (Ka hl hb) hB
 have key:∀l,bG us l→((meeting us h.free h.load l).all (fun x=>match costAt us (costsOf b) x.1 with
   | none=>true
   | some c=>match costAt us (costsOf a) l with
    | none=>false
    | some d=>decide (d≤x.2+c))=true↔(decide (rd (bH us h.free h.load (cb b)) (index us l)≥NP) || (decide (0≤rd a (index us l))&&decide (rd a (index us l)≤rd (bH us h.free h.load (cb b)) (index us l))))=true):=by
  intro l hl'
  have cz:=R.cz hl'
  rw[xN hl',mI]at cz
  obtain⟨b1,b2⟩:=qF ((moves us h.free l).map (keyOf us h.load (costsOf b))) none
  have hi:index us l<a.length:=by rw[ha];exact cT hl'
  have e:a[index us l]?=some a[index us l]:=QJ hi
  have er:rd a (index us l)=a[index us l]:=m7 e
  have ec:costAt us (costsOf a) l=if rd a (index us l)<0 then none else some (rd a (index us l)).toNat:=by
   unfold costAt costsOf
   rw[SA,SN,QI,e,er]
   rfl
  rw[ec,R3]
  constructor
  ·intro q
   cases hP:((moves us h.free l).map (keyOf us h.load (costsOf b))).foldl least2 none with
   | none =>
    rw[hP]at cz
    have cz:NP≤_:=cz
    rw[decide_eq_true (show rd (bH us h.free h.load (cb b)) (index us l)≥NP from cz)]
    rfl
   | some c =>
    rw[hP]at cz
    obtain⟨c1,c2⟩:=cz
    obtain⟨m,_,_⟩:=b2 c hP
    rcases m with m|m
    ·cases m
    obtain⟨x,hx,ex⟩:=QV.mp m
    unfold keyOf at ex
    split at ex
    ·rename_i met
     obtain⟨d,ed,ed2⟩:=QQ.mp ex
     have:=q x (Sv.mpr ⟨hx,by simpa using met⟩)
     rw[ed]at this
     by_cases neg:rd a (index us l)<0
     ·rw[if_pos neg]at this
      cases this
     ·rw[if_neg neg]at this
      have this:=of_decide_eq_true this
      rw[c1]
      have q1:(0:Int)≤rd a (index us l):=Tf.1 neg
      have q2:rd a (index us l)≤(c:Int):=U0.1 (ed2▸Sw ..▸this)
      rw[decide_eq_true q1,decide_eq_true q2]
      simp
    ·cases ex
  ·intro q x hx
   obtain⟨hx,met⟩:=Sv.mp hx
   have met:h.load≤given x.1:=by simpa using met
   cases ed:costAt us (costsOf b) x.1 with
   | none=>rfl
   | some d =>
    have mem:some (d+x.2)∈(moves us h.free l).map (keyOf us h.load (costsOf b)):=QV.mpr ⟨x,hx,by unfold keyOf;rw[if_pos met,ed];rfl⟩
    cases hP:((moves us h.free l).map (keyOf us h.load (costsOf b))).foldl least2 none with
    | none=>have:=(b1 hP).2 _ mem;cases this
    | some c =>
     obtain⟨_,_,m⟩:=b2 c hP
     have:=m _ mem
     rw[hP]at cz
     obtain⟨c1,c2⟩:=cz
     rw[c1]at q
     have n:¬((c:Int)≥NP):=Wg.2 (Sn (Sq.2 c2) hB)
     rw[decide_eq_false n]at q
     have q:(decide (0≤rd a (index us l))&&decide (rd a (index us l)≤(c:Int)))=true:=by simpa using q
     rw[Ro]at q
     have q1:=of_decide_eq_true q.1
     have q2:=of_decide_eq_true q.2
     rw[if_neg (Tf.2 q1)]
     exact decide_eq_true (show(rd a (index us l)).toNat≤x.2+d from Sw ..▸U0.2 (Sb q2 (Sq.2 this)))
 rw[RU]
 unfold proves
 rw[R3,R3]
 have bl:=pb (load:=h.load) hw hf (zs:=cb b) (by simp[cb,hl])
 constructor
 ·intro q x hx
  obtain⟨k,hk,e⟩:=Tu hx
  have hk2:k<stateCount us:=by unfold iZ at hk;rw[Tt,ha,bl]at hk;rw[SG]at hk;exact hk
  obtain⟨l,el⟩:∃l,(allModes us)[k]?=some l:=⟨_,QJ (by rw[cy];exact hk2)⟩
  have hl':=dR.mp (QL el)
  have ek:=EI el
  subst ek
  have e2:(iZ a (bH us h.free h.load (cb b)))[index us l]?=some x:=by rw[QJ hk,e]
  unfold iZ at e2
  rw[RZ,bO (by rw[ha];exact hk2),bO (by rw[bl];exact hk2)]at e2
  have e2:=Rb e2
  subst e2
  exact(key l hl').mp (q l (dR.mpr hl'))
 ·intro q l hm
  have hl':=dR.mp hm
  have hk2:=cT hl'
  refine(key l hl').mpr ?_
  have:(iZ a (bH us h.free h.load (cb b)))[index us l]?=some (decide (rd (bH us h.free h.load (cb b)) (index us l)≥NP) || (decide (0≤rd a (index us l))&&decide (rd a (index us l)≤rd (bH us h.free h.load (cb b)) (index us l)))):=by
   unfold iZ
   rw[RZ,bO (by rw[ha];exact hk2),bO (by rw[bl];exact hk2)]
  exact q _ (QL this)
def toks(t:Text):List Text:=(cutAt 32 [] t).filter fun x=>!x.isEmpty
def eR:List Text:=text "unit"::KEYS
def Mq:List (Nat×Nat):=[(1,60),(1,60),(0,1000),(0,1000),(0,1000),(1,8),(1,8),(1,60)]
def rA:List Text→List (Nat×Nat)→Option (List Nat)
 | t::ts,b::bs=>match number t with
  | none=>none
  | some n=>if n<b.1∨n>b.2 then none else(rA ts bs).map fun l=>n::l
 | _,_=>some []
def kN(t:Text):Bool:=decide (t.length≤8)&&t.all fun c=>decide (97≤c∧c≤122)
def mkUnit(n:Text)(l:List Nat):Unit_:={name:=n,low:=l.getD 0 0,high:=l.getD 1 0,start:=l.getD 2 0,run:=l.getD 3 0,per:=l.getD 4 0,up:=l.getD 5 0,down:=l.getD 6 0,ramp:=l.getD 7 0}
theorem xW:∀{ks r:List Text}{l:List Nat},pairsOf ks r=some l→r.length=2*ks.length
 | [],[],_,_=>rfl
 | [],_::_,_,h=>by simp[pairsOf]at h
 | k::ks,[],_,h=>by simp[pairsOf]at h
 | k::ks,[a],_,h=>by simp[pairsOf]at h
 | k::ks,a::b::r,l,h=>by
  unfold pairsOf at h
  split at h
  ·cases h
  ·split at h
   ·rename_i n l' h1 h2
    have:=xW h2
    simp only[Q2]
    omega
   ·cases h
def HB:List Text→List Text
 | a::_::r=>a::HB r
 | _=>[]
theorem vc:∀{ks r:List Text}{l:List Nat},pairsOf ks r=some l→HB r=ks
 | [],[],_,_=>rfl
 | [],_::_,_,h=>by simp[pairsOf]at h
 | k::ks,[],_,h=>by simp[pairsOf]at h
 | k::ks,[a],_,h=>by simp[pairsOf]at h
 | k::ks,a::b::r,l,h=>by
  unfold pairsOf at h
  split at h
  ·cases h
  ·rename_i hk
   split at h
   ·rename_i n l' h1 h2
    have:=vc h2
    have hk:a=k:=by simpa using hk
    show a::HB r=k::ks
    rw[this,hk]
   ·cases h
theorem DM{t:Text}(h:(toks t).length≠18):readUnit t=none:=by
 unfold readUnit
 change (toks t).length≠18 at h
 have e:((cutAt 32 [] t).filter fun x=>!x.isEmpty)=toks t:=rfl
 rw[e]
 cases q:toks t with
 | nil=>rfl
 | cons w r =>
  cases r with
  | nil=>rfl
  | cons n r =>
   simp only
   split
   ·rfl
   ·cases q2:pairsOf KEYS r with
    | none=>rfl
    | some l =>
     have:=xW q2
     rw[q]at h
     simp[KEYS]at h this
     omega
theorem nr{a k l:Nat}(h:a<k∨a>l)(p:k≤a)(q:a≤l):False:=h.elim (Wn.2 p) (Wn.2 q)
theorem Ld{a k l:Nat}(h:¬(a<k∨a>l)):k≤a∧a≤l:=⟨Q9 fun q=>h (.inl q),Q9 fun q=>h (.inr q)⟩
theorem xX{t:Text}{w n k1 v1 k2 v2 k3 v3 k4 v4 k5 v5 k6 v6 k7 v7 k8 v8:Text}(h:toks t=[w,n,k1,v1,k2,v2,k3,v3,k4,v4,k5,v5,k6,v6,k7,v7,k8,v8]) :
  readUnit t=if [w,k1,k2,k3,k4,k5,k6,k7,k8]=eR then(match rA [v1,v2,v3,v4,v5,v6,v7,v8] Mq with
   | none=>none
   | some l=>if kN n=true∧l.getD 0 0≤l.getD 1 0 then some (mkUnit n l)else none)else none:=by
 have hn:n≠[]:=by
  have:n∈toks t:=by rw[h];simp
  have:=(Sv.mp this).2
  intro e
  subst e
  simp at this
 have hn1:1≤n.length:=by cases n with
  | nil=>exact absurd rfl hn
  | cons a r=>simp
 unfold readUnit
 have e:((cutAt 32 [] t).filter fun x=>!x.isEmpty)=toks t:=rfl
 rw[e,h]
 simp only
 by_cases c:[w,k1,k2,k3,k4,k5,k6,k7,k8]=eR
 ·rw[if_pos c]
  simp only[eR,KEYS,VC,and_true]at c
  obtain⟨c0,c1,c2,c3,c4,c5,c6,c7,c8⟩:=c
  subst c0;subst c1;subst c2;subst c3;subst c4;subst c5;subst c6;subst c7;subst c8
  simp only[KEYS,pairsOf,rA,Mq]
  cases number v1 with
  | none=>simp
  | some a =>
  cases number v2 with
  | none=>simp
  | some b =>
  cases number v3 with
  | none=>simp
  | some c =>
  cases number v4 with
  | none=>simp
  | some d =>
  cases number v5 with
  | none=>simp
  | some e =>
  cases number v6 with
  | none=>simp
  | some f =>
  cases number v7 with
  | none=>simp
  | some g =>
  cases number v8 with
  | none=>simp
  | some h =>
   simp only[ne_eq,not_true_eq_false,if_false]
   by_cases r1:a<1∨a>60
   ·rw[if_pos r1,if_neg];simp only[wellUnit,Ro,decide_eq_true_eq];exact fun q=>nr r1 q.2.2.1 (QK q.2.2.2.1 q.2.2.2.2.1)
   rw[if_neg r1]
   by_cases r2:b<1∨b>60
   ·rw[if_pos r2,if_neg];rfl;simp only[wellUnit,Ro,decide_eq_true_eq];exact fun q=>nr r2 (QK q.2.2.1 q.2.2.2.1) q.2.2.2.2.1
   rw[if_neg r2]
   by_cases r3:c<0∨c>1000
   ·rw[if_pos r3,if_neg];rfl;simp only[wellUnit,Ro,decide_eq_true_eq];exact fun q=>nr r3 (Sr _) q.2.2.2.2.2.1
   rw[if_neg r3]
   by_cases r4:d<0∨d>1000
   ·rw[if_pos r4,if_neg];rfl;simp only[wellUnit,Ro,decide_eq_true_eq];exact fun q=>nr r4 (Sr _) q.2.2.2.2.2.2.1
   rw[if_neg r4]
   by_cases r5:e<0∨e>1000
   ·rw[if_pos r5,if_neg];rfl;simp only[wellUnit,Ro,decide_eq_true_eq];exact fun q=>nr r5 (Sr _) q.2.2.2.2.2.2.2.1
   rw[if_neg r5]
   by_cases r6:f<1∨f>8
   ·rw[if_pos r6,if_neg];rfl;simp only[wellUnit,Ro,decide_eq_true_eq];exact fun q=>nr r6 q.2.2.2.2.2.2.2.2.1 q.2.2.2.2.2.2.2.2.2.1
   rw[if_neg r6]
   by_cases r7:g<1∨g>8
   ·rw[if_pos r7,if_neg];rfl;simp only[wellUnit,Ro,decide_eq_true_eq];exact fun q=>nr r7 q.2.2.2.2.2.2.2.2.2.2.1 q.2.2.2.2.2.2.2.2.2.2.2.1
   rw[if_neg r7]
   by_cases r8:h<1∨h>60
   ·rw[if_pos r8,if_neg];rfl;simp only[wellUnit,Ro,decide_eq_true_eq];exact fun q=>nr r8 q.2.2.2.2.2.2.2.2.2.2.2.2.1 q.2.2.2.2.2.2.2.2.2.2.2.2.2
   rw[if_neg r8]
   simp only[Uh]
   by_cases r9:kN n=true∧a≤b
   ·rw[if_pos,if_pos (by simpa using r9)]
    ·rfl
    ·have r10:=r9.1
     unfold kN at r10
     rw[Ro]at r10
     have l8:=of_decide_eq_true r10.1
     simp only[wellUnit,Ro,decide_eq_true_eq]
     exact⟨⟨hn1,l8⟩,r10.2,(Ld r1).1,r9.2,(Ld r2).2,(Ld r3).2,(Ld r4).2,(Ld r5).2,(Ld r6).1,(Ld r6).2,(Ld r7).1,(Ld r7).2,Ld r8⟩
   ·rw[if_neg,if_neg (by simpa using r9)]
    simp only[wellUnit,Ro,decide_eq_true_eq]
    intro q
    apply r9
    refine⟨?_,q.2.2.2.1⟩
    unfold kN
    rw[Ro]
    exact⟨decide_eq_true q.1.2,q.2.1⟩
 ·rw[if_neg c]
  by_cases c0:w=text "unit"
  ·rw[if_neg (by simpa using c0)]
   cases q:pairsOf KEYS [k1,v1,k2,v2,k3,v3,k4,v4,k5,v5,k6,v6,k7,v7,k8,v8]with
   | none=>rfl
   | some l =>
    exfalso
    apply c
    have:=vc q
    rw[c0]
    unfold eR
    rw[←this]
    rfl
  ·rw[if_pos c0]
theorem uE(sep:Nat):∀(t acc:Text),∃pre x,cutAt sep acc t=pre++[x]∧(x=[]↔(t=[]∧acc=[])∨t.getLast?=some sep)
 | [],acc=>⟨[],acc,rfl,by simp⟩
 | c::r,acc=>by
  by_cases hc:c=sep
  ·obtain⟨pre,x,e,h⟩:=uE sep r []
   refine⟨acc::pre,x,?_,?_⟩
   ·unfold cutAt;rw[if_pos hc,e];rfl
   ·rw[h]
    cases r with
    | nil=>simp[hc]
    | cons d r=>rw[Vm];simp
  ·obtain⟨pre,x,e,h⟩:=uE sep r (acc++[c])
   refine⟨pre,x,?_,?_⟩
   ·show cutAt sep acc (c::r)=_
    unfold cutAt;rw[if_neg hc,e]
   ·rw[h]
    cases r with
    | nil=>simp[hc]
    | cons d r=>rw[Vm];simp
def EJ(p:List Text):Text:=p.getLast?.getD []
def bI(t:Text):List Text:=if (EJ (cutAt 10 [] t)).length>0 then cutAt 10 [] t else(cutAt 10 [] t).dropLast
def bo:Nat→List Text→List Text→Nat
 | _,_,[]=>0
 | k,names,t::r=>match readUnit t with
  | none=>k
  | some u=>if names.contains u.name=true then k else bo (k+1) (names++[u.name]) r
def fQ(t:Text):Nat:=if (bI t).length=0 then 1 else if (bI t).length>4 then 5 else if bo 1 [] (bI t)=0∧t.getLast?≠some 10 then(bI t).length else bo 1 [] (bI t)
theorem ng:∀(ls:List Text)(k:Nat)(names names':List Text),1≤k→(∀x,names.contains x=names'.contains x)→readLines k names' ls=if bo k names ls>0 then .error (bo k names ls)else .ok (ls.filterMap readUnit)
 | [],k,names,names',_,_=>rfl
 | t::r,k,names,names',hk,hn=>by
  unfold readLines bo
  cases q:readUnit t with
  | none=>simp only;rw[if_pos (by omega)]
  | some u =>
   simp only
   rw[←hn u.name]
   by_cases c:names.contains u.name=true
   ·rw[if_pos c,if_pos c,if_pos (by omega)]
   ·rw[if_neg c,if_neg c,ng r (k+1) (names++[u.name]) (u.name::names') (by omega) (by
     intro x
     rw[List.contains_cons,←hn x,RU]
     simp only[V0,RB,Sa,VA,decide_eq_true_eq,beq_iff_eq]
     exact Or.comm)]
    rw[RR,q]
    by_cases z:bo (k+1) (names++[u.name]) r>0
    ·rw[if_pos z,if_pos z]
    ·rw[if_neg z,if_neg z]
theorem jQ(t:Text):readUnits t=if fQ t>0 then .error (fQ t)else .ok ((bI t).filterMap readUnit):=by
 obtain⟨pre,x,e,h⟩:=uE 10 t []
 have el:EJ (cutAt 10 [] t)=x:=by unfold EJ;rw[e];simp
 unfold readUnits fQ bI
 rw[el,e,List.reverse_append,List.reverse_singleton,VL]
 cases x with
 | nil =>
  simp only[Ui,Sg,gt_iff_lt,if_false,V1,SI,UM]
  have hx:=h.mp rfl
  by_cases c1:4<pre.length
  ·rw[if_pos (show UNITS<pre.length from c1),if_neg (show ¬pre.length=0 by omega),if_pos c1,if_pos (by omega)]
   rfl
  ·rw[if_neg (show ¬UNITS<pre.length from c1)]
   by_cases c2:pre.length=0
   ·have e2:pre=[]:=RQ c2
    subst e2
    simp
   ·have e3:pre.reverse.isEmpty=false:=by cases pre with
     | nil=>simp at c2
     | cons a r=>simp
    rw[e3,if_neg (by simp),if_neg c2,if_neg c1,ng pre 1 [] [] (by omega) (fun _=>rfl)]
    suffices z:¬(bo 1 [] pre=0∧List.getLast? t≠some 10) by rw[if_neg z]
    rintro ⟨_,q⟩
    rcases hx with hx|hx
    ·obtain⟨hx,_⟩:=hx
     subst hx
     have:([[]]:List Text)=pre++[[]]:=e
     have this:=congrArg SJ this
     rw[QN]at this
     simp only[Q2,Ui]at this
     omega
    ·exact q hx
 | cons a s =>
  have hx:¬t.getLast?=some 10:=fun q=>by have:=h.mpr (.inr q);cases this
  simp only[Q2,gt_iff_lt,Nat.zero_lt_succ,if_true,QN,SI,Ve,UM,Ui]
  rw[if_neg (show ¬pre.length+(0+1)=0 by omega)]
  by_cases c1:4<pre.length+(0+1)
  ·rw[if_pos (show UNITS<pre.length+1 from c1),if_pos c1,if_pos (by omega)]
   rfl
  ·rw[if_neg (show ¬UNITS<pre.length+1 from c1),if_neg c1,ng _ 1 [] [] (by omega) (fun _=>rfl)]
   by_cases c2:bo 1 [] (pre++[a::s])=0
   ·have z:bo 1 [] (pre++[a::s])=0∧t.getLast?≠some 10:=⟨c2,hx⟩
    rw[if_pos z,if_neg (by omega),if_pos (by omega)]
   ·have z:¬(bo 1 [] (pre++[a::s])=0∧t.getLast?≠some 10):=fun q=>c2 q.1
    rw[if_neg z,if_pos (by omega)]
theorem Ff{t:Text}{u:Unit_}(h:readUnit t=some u):Wf u:=by
 unfold readUnit at h
 split at h
 ·rename_i w n r _
  split at h
  ·cases h
  ·split at h
   ·simp only at h
    split at h
    ·rename_i hw
     cases h
     unfold wellUnit at hw
     simp only[Ro,decide_eq_true_eq]at hw
     obtain⟨⟨a1,a2⟩,a3,b1,b2,b3,b4,b5,b6,b7,b8,b9,b10,b11,b12⟩:=hw
     exact⟨b1,b2,b3,b4,b5,b6,b7,b8,b9,b10,b11,b12,a1,a2,a3⟩
    ·cases h
   ·cases h
 ·cases h
theorem JW:∀(ls:List Text)(k:Nat)(names:List Text),1≤k→bo k names ls=0→∀t∈ls,∃u,readUnit t=some u
 | [],_,_,_,_,t,ht=>by simp at ht
 | s::r,k,names,hk,h,t,ht=>by
  unfold bo at h
  cases q:readUnit s with
  | none=>rw[q]at h;simp only at h;omega
  | some u =>
   rw[q]at h
   simp only at h
   split at h
   ·omega
   ·rcases QM.mp ht with rfl|ht
    ·exact⟨u,q⟩
    ·exact JW r (k+1) _ (by omega) h t ht
theorem Ho{t:Text}(h:fQ t=0):(bI t).length≤4∧1≤(bI t).length∧∀s∈bI t,∃u,readUnit s=some u:=by
 unfold fQ at h
 split at h
 ·omega
 ·split at h
  ·omega
  ·split at h
   ·omega
   ·refine⟨by omega,by omega,JW _ _ _ (QP 1) h⟩
def AB(u:Unit_):List Text:=u.name::(numbersOf u).map decimal
def wF(u:Unit_):List Nat:=(eR.zip (AB u)).flatMap fun x=>x.1++[32]++x.2++[32]
theorem uQ(u:Unit_):∃A:List Nat,wF u=A++[32]∧showUnit u=A:=by
 refine⟨showUnit u,?_,rfl⟩
 simp[wF,eR,KEYS,AB,numbersOf,showUnit,spaced]
def lg:List Unit_→Modes→Modes→Nat
 | u::r,m::ms,x::xs=>costOf u m x+lg r ms xs
 | _,_,_=>0
def wD:List Unit_→List Bool→Modes→List Nat→Option Modes
 | u::r,f::fs,m::ms,l::ls=>match toLevel u f m l with
  | none=>none
  | some x=>(wD r fs ms ls).map fun xs=>x::xs
 | _,_,_,_=>some []
theorem qB:∀{us:List Unit_}{fs:List Bool}{ms:Modes}{ls:List Nat},us.length=fs.length→us.length=ms.length→us.length=ls.length→toLevels us fs ms ls=(wD us fs ms ls).map fun xs=>(xs,lg us ms xs)
 | [],[],[],[],_,_,_=>rfl
 | u::r,f::fs,m::ms,l::ls,h1,h2,h3=>by
  unfold toLevels wD
  rw[qB (us:=r) (by simpa using h1) (by simpa using h2) (by simpa using h3)]
  cases toLevel u f m l with
  | none=>rfl
  | some x =>
   cases wD r fs ms ls with
   | none=>rfl
   | some xs=>rfl
 | [],_::_,_,_,h,_,_=>by simp at h
 | [],_,_::_,_,_,h,_=>by simp at h
 | [],_,_,_::_,_,_,h=>by simp at h
 | _::_,[],_,_,h,_,_=>by simp at h
 | _::_,_,[],_,_,h,_=>by simp at h
 | _::_,_,_,[],_,_,h=>by simp at h
theorem ya{u:Unit_}{f:Bool}{m x:Mode}{l:Nat}(h:toLevel u f m l=some x):levelOf x=l∧x∈options u f m:=by
 unfold toLevel at h
 exact⟨by simpa using List.find?_some h,Vc h⟩
theorem Dl:∀{us:List Unit_}{fs:List Bool}{ms:Modes}{ls:List Nat}{xs:Modes},lY us→bG us ms→us.length=fs.length→us.length=ls.length→wD us fs ms ls=some xs→bG us xs∧given xs=ls.sum
 | [],[],[],[],xs,_,_,_,_,h=>by
  have e:xs=[]:=(Rb h).symm
  subst e
  exact⟨trivial,rfl⟩
 | u::r,f::fs,m::ms,l::ls,xs,hw,hm,h1,h2,h=>by
  unfold wD at h
  cases q:toLevel u f m l with
  | none=>rw[q]at h;cases h
  | some x =>
   rw[q]at h
   simp only at h
   obtain⟨ys,hy,rfl⟩:=QQ.mp h
   obtain⟨i1,i2⟩:=Dl hw.tail hm.2 (by simpa using h1) (by simpa using h2) hy
   obtain⟨l1,l2⟩:=ya q
   refine⟨⟨fI hw.head hm.1 l2,i1⟩,?_⟩
   rw[zh,l1,i2,Vi]
 | [],[],[],_::_,_,_,_,_,h,_=>by simp at h
 | [],_::_,[],_,_,_,_,h,_,_=>by simp at h
 | _::_,[],_::_,_,_,_,_,h,_,_=>by simp at h
 | _::_,_,_::_,[],_,_,_,_,h,_=>by simp at h
 | [],_,_::_,_,_,_,h,_,_,_=>h.elim
 | _::_,_,[],_,_,_,h,_,_,_=>h.elim
theorem B3:∀{us:List Unit_}{fs:List Bool}{ms:Modes}{ls:List Nat}(i:Nat){u:Unit_}{f:Bool}{m:Mode}{l:Nat},us[i]?=some u→fs[i]?=some f→ms[i]?=some m→ls[i]?=some l→toLevel u f m l=none→wD us fs ms ls=none
 | u::r,f::fs,m::ms,l::ls,0,_,_,_,_,h1,h2,h3,h4,h=>by
  cases h1;cases h2;cases h3;cases h4
  unfold wD
  rw[h]
 | u::r,f::fs,m::ms,l::ls,i+1,_,_,_,_,h1,h2,h3,h4,h=>by
  unfold wD
  cases toLevel u f m l with
  | none=>rfl
  | some x=>rw[B3 (us:=r) (fs:=fs) (ms:=ms) (ls:=ls) i h1 h2 h3 h4 h];rfl
 | [],_,_,_,_,_,_,_,_,h,_,_,_,_=>by simp at h
 | _::_,[],_,_,_,_,_,_,_,_,h,_,_,_=>by simp at h
 | _::_,_::_,[],_,_,_,_,_,_,_,_,h,_,_=>by simp at h
 | _::_,_::_,_::_,[],_,_,_,_,_,_,_,_,h,_=>by simp at h
theorem B4:∀{us:List Unit_}{fs:List Bool}{ms:Modes}{ls:List Nat}{xs:Modes},us.length=fs.length→us.length=ms.length→us.length=ls.length→xs.length=us.length →
  (∀(i:Nat) u f m l,us[i]?=some u→fs[i]?=some f→ms[i]?=some m→ls[i]?=some l→toLevel u f m l=xs[i]?)→wD us fs ms ls=some xs
 | [],[],[],[],xs,_,_,_,h,_=>by
  have:xs=[]:=RQ (by simpa using h)
  subst this;rfl
 | u::r,f::fs,m::ms,l::ls,xs,h1,h2,h3,h4,h=>by
  cases xs with
  | nil=>simp at h4
  | cons x xs =>
   have h0:toLevel u f m l=some x:=h 0 u f m l rfl rfl rfl rfl
   unfold wD
   rw[h0,B4 (us:=r) (xs:=xs) (by simpa using h1) (by simpa using h2) (by simpa using h3) (by simpa using h4) fun i u f m l a b c d=>h (i+1) u f m l a b c d]
   rfl
 | [],_::_,_,_,_,h,_,_,_,_=>by simp at h
 | [],_,_::_,_,_,_,h,_,_,_=>by simp at h
 | [],_,_,_::_,_,_,_,h,_,_=>by simp at h
 | _::_,[],_,_,_,h,_,_,_,_=>by simp at h
 | _::_,_,[],_,_,_,h,_,_,_=>by simp at h
 | _::_,_,_,[],_,_,_,h,_,_=>by simp at h
theorem Ay:∀(us:List Unit_)(ms xs:Modes),((gf us ms xs).map fun x=>(costOf x.1 x.2.1 x.2.2:Int)).sum=(lg us ms xs:Int)
 | [],_,_=>rfl
 | _::_,[],_=>rfl
 | _::_,_::_,[]=>rfl
 | u::r,m::ms,x::xs=>by
  show(((costOf u m x:Nat):Int)::(gf r ms xs).map _).sum=((costOf u m x+lg r ms xs:Nat):Int)
  rw[Vi,Ay r ms xs];simp
theorem AH{α β γ:Type}:∀(a:List α)(b:List β)(c:List γ)(i:Nat),(gf a b c)[i]?=match a[i]?,b[i]?,c[i]? with
  | some x,some y,some z=>some (x,y,z)
  | _,_,_=>none
 | [],_,_,i=>by simp[gf]
 | _::_,[],_,i=>by
  simp only[gf,Ww]
  split<;>simp_all
 | _::_,_::_,[],i=>by
  simp only[gf,Ww]
  split<;>simp_all
 | a::r,b::s,c::t,0=>by simp[gf]
 | a::r,b::s,c::t,i+1=>by
  show(gf r s t)[i]?=_
  rw[AH r s t i]
  rfl
theorem FL{α β γ:Type}:∀(a:List α)(b:List β)(c:List γ),(gf a b c).length=min a.length (min b.length c.length)
 | [],_,_=>by simp[gf]
 | _::_,[],_=>by simp[gf]
 | _::_,_::_,[]=>by simp[gf]
 | a::r,b::s,c::t=>by
  show(gf r s t).length+1=_
  rw[FL r s t]
  simp only[Q2]
  rw[Ut,Ut]
def pW(us:List Unit_):List Hour→Modes→Option (List Modes)
 | [],_=>some []
 | h::r,l=>match bestMove us h (mh us r) l with
  | none=>none
  | some x=>(pW us r x.1).map fun p=>x.1::p
theorem pV(us:List Unit_):∀(hs:List Hour)(l:Modes),planFrom us hs (tables us hs) l=pW us hs l
 | [],_=>rfl
 | h::r,l=>by
  unfold planFrom pW
  rw[D6]
  show(match bestMove us h (mh us r) l with|none=>none|some x=>(planFrom us r (tables us r) x.1).map fun p=>x.1::p)=_
  cases bestMove us h (mh us r) l with
  | none=>rfl
  | some x=>simp only;rw[pV us r x.1]
theorem CB{us:List Unit_}{h:Hour}{v:Costs}{l:Modes}{x:Modes×Nat}(q:bestMove us h v l=some x):x∈moves us h.free l:=by
 unfold bestMove at q
 simp only at q
 split at q
 ·cases q
 ·exact(Sv.mp (Vc q)).1
theorem Kf(us:List Unit_)(t c:Nat)(ms:Modes)(p:List Nat):look us t c [] ms p=if p.isEmpty=true then .ok c else .error (0,3):=rfl
theorem IY(us:List Unit_)(t c:Nat)(h:Hour)(r:List Hour)(ms:Modes)(p:List Nat):look us t c (h::r) ms p=if p.length<us.length then .error (t,3)else match toLevels us h.free ms (p.take us.length)with
   | none=>.error (t,1)
   | some x=>if given x.1<h.load then .error (t,2)else look us (t+1) (c+x.2) r x.1 (p.drop us.length):=rfl
theorem KI:∀{us:List Unit_}{u:Unit_},u∈us→modeCount u ∣ stateCount us
 | v::r,u,h=>by
  rw[ck]
  rcases QM.mp h with rfl|h
  ·exact Nat.dvd_mul_right _ _
  ·exact Nat.dvd_trans (KI h) (Nat.dvd_mul_left _ _)
theorem KH{us:List Unit_}{u:Unit_}(hw:lY us)(h:u∈us):stateCount us=stateCount us / modeCount u*modeCount u∧1≤stateCount us / modeCount u∧stateCount us / modeCount u≤stateCount us:=by
 have hp:=cZ (hw u h)
 have e:=Nat.div_mul_cancel (KI h)
 refine⟨e.symm,?_,Nat.div_le_self _ _⟩
 have:=qz hw
 rcases Wd (stateCount us / modeCount u)with q|q
 ·rw[q]at e;omega
 ·exact q
theorem Ip{us:List Unit_}{fs:List Bool}{load:Nat}{zs:List Int}(hw:lY us)(hf:us.length=fs.length)(hl:zs.length=stateCount us){k:Nat}(hk:k≤us.length):(uz us fs (stateCount us) (lF us load zs) k).length=stateCount us:=by
 have:=(mH hw hf (wg (mZ (load:=load) hl) fun l hl'=>wI hl hl') k hk).1
 rw[bc,RP,←bc,TZ]at this
 exact this
theorem FW{us:List Unit_}{fs:List Bool}{W:Nat}{zs:List Int}{k:Nat}{u:Unit_}{f:Bool}(hu:us[us.length-(k+1)]?=some u)(hf:fs[us.length-(k+1)]?=some f):uz us fs W zs (k+1)=rD u f (W / modeCount u) (uz us fs W zs k):=by
 show(match us[us.length-(k+1)]?,fs[us.length-(k+1)]? with
  | some u,some f=>rD u f (W / modeCount u) (uz us fs W zs k)
  | _,_=>[])=_
 rw[hu,hf]
theorem uo{us:List Unit_}{hs hs':List Hour}(hl:hs.length=hs'.length):∀j,(∀i,hs.length-j≤i→hs[i]?=hs'[i]?)→cY us hs j=cY us hs' j
 | 0,_=>rfl
 | j+1,h=>by
  have ih:=uo (us:=us) hl j fun i hi=>h i (QK (UU (VT _) _) hi)
  have e:=h (hs.length-(j+1)) (QP _)
  show(match hs[hs.length-(j+1)]? with
   | some h=>bH us h.free h.load (cY us hs j)
   | none=>[])=match hs'[hs'.length-(j+1)]? with
   | some h=>bH us h.free h.load (cY us hs' j)
   | none=>[]
  rw[←hl,e,ih]
theorem Nf{j n:Nat}(hj:j≤50)(hn:n≤4):((j*(62000*n):Nat):Int)<NP:=by
 have:=small hj hn
 exact Sn (Sq.2 (QR ..)) this
theorem Hf{s:State}(hw:lY s.units)(h4:s.units.length≤4)(hf:yN s.units s.hours)(oJ:s.hours.length≤48)(hn:s.now≤s.hours.length)(hm:bG s.units s.modes) :
  toCome s=(if rd (cY s.units s.hours (s.hours.length-s.now)) (index s.units s.modes)<NP then some (rd (cY s.units s.hours (s.hours.length-s.now)) (index s.units s.modes)).toNat else none) ∧
  (rd (cY s.units s.hours (s.hours.length-s.now)) (index s.units s.modes)<NP→0≤rd (cY s.units s.hours (s.hours.length-s.now)) (index s.units s.modes)):=by
 have R:=lq hw h4 hf oJ (s.hours.length-s.now) (Rq ..)
 have e:s.hours.length-(s.hours.length-s.now)=s.now:=Te hn
 rw[e]at R
 have c:=R.cz hm
 exact c.Ko (Nf (QK (Rq ..) (QK oJ (by decide))) h4)
theorem uJ{us:List Unit_}{hs:List Hour}(h:yN us hs)(t:Nat)(f:Hour→Hour)(hf:∀x,(f x).free.length=x.free.length):yN us (hs.modify t f):=by
 intro x hx
 obtain⟨i,hi,e⟩:=Tu hx
 rw[Rr]at hi
 rw[List.getElem_modify]at e
 split at e
 ·rw[←e,hf];exact h _ (Td _)
 ·rw[←e];exact h _ (Td _)
theorem GV{u:Unit_}(hw:Wf u){fr:Bool}{m:Mode}(hm:rK u m):(options u fr m).length≤modeCount u:=by
 have h1:=hw.CM
 have h2:=hw.up1
 have h3:=hw.lh
 have hl:u.high+1-u.low≤u.up*(u.high+1-u.low):=SH _ h2
 have e:modeCount u=u.down+u.up*(u.high+1-u.low):=rfl
 cases m with
 | off h =>
  rw[qS hw fr h hm.2,e]
  split
  ·rw[Q2,QH,Q6,Sw]
   exact SE h1 (QK (SY (SR (Rn ..)) _) hl)
  ·exact QK h1 (QR ..)
 | on h l =>
  cases fr with
  | false=>rw[yE,e];exact QK h1 (QR ..)
  | true =>
   rw[zN hw h l hm.2.1,QN,QH,Q6,e]
   refine SE ?_ (QK (QK (UU (Uy ..) _) (SY (SR (Rn ..)) _)) hl)
   split
   ·exact h1
   ·exact Sr _
def mB(u:Unit_)(f:Bool)(m:Mode):List (Int×Int):=(options u f m).map fun y=>((costOf u m y:Int),(place u y:Int))
def rk(M:List (Int×Int))(W:List (Int×Int))(n:Int):List (Int×Int):=M.flatMap fun x=>W.map fun y=>(x.1+y.1,x.2*n+y.2)
theorem HC(M:List (Int×Int))(u:Unit_)(f:Bool)(m:Mode):eH M u f m=rk M (mB u f m) (modeCount u:Int):=by
 unfold eH rk mB
 congr 1
 funext x
 rw[Sd]
 rfl
theorem wy(M W:List (Int×Int))(n:Int):(rk M W n).length=M.length*W.length:=by
 unfold rk
 rw[bZ _ W.length _ (fun a _=>by rw[QH])]
theorem ED:∀(us:List Unit_)(fs:List Bool)(ms:Modes)(M:List (Int×Int)),lY us→bG us ms→us.length=fs.length→((gf us fs ms).foldl (fun M x=>eH M x.1 x.2.1 x.2.2) M).length≤M.length*stateCount us
 | [],fs,[],M,_,_,_=>by cases fs<;>simp[gf,stateCount]
 | u::r,f::fs,m::ms,M,hw,hm,hl=>by
  have ih:=ED r fs ms (eH M u f m) hw.tail hm.2 (by simpa using hl)
  show((gf r fs ms).foldl _ (eH M u f m)).length≤_
  refine QK ih ?_
  rw[ck,←Su,HC,wy]
  refine Q7 _ (UW _ ?_)
  unfold mB
  rw[QH]
  exact GV hw.head hm.1
 | [],_,_::_,_,_,h,_=>h.elim
 | _::_,_,[],_,_,h,_=>h.elim
 | _::_,[],_::_,_,_,_,h=>by simp at h
theorem xH{α β γ:Type}:∀(i:Nat)(a:List α)(b:List β)(c:List γ),(gf a b c).take i=gf (a.take i) (b.take i) (c.take i)
 | 0,a,b,c=>by cases a<;>cases b<;>cases c<;>simp[gf]
 | i+1,[],b,c=>by simp[gf]
 | i+1,_::_,[],c=>by simp[gf]
 | i+1,_::_,_::_,[]=>by simp[gf]
 | i+1,a::r,b::s,c::t=>by
  show(a,b,c)::(gf r s t).take i=(a,b,c)::gf (r.take i) (s.take i) (t.take i)
  rw[xH i r s t]
theorem Cc:∀{us:List Unit_}{ms:Modes}(i:Nat),bG us ms→bG (us.take i) (ms.take i)
 | [],[],i,_=>by simp[bG]
 | u::r,m::l,0,_=>by simp[bG]
 | u::r,m::l,i+1,h=>⟨h.1,Cc i h.2⟩
 | [],_::_,_,h=>h.elim
 | _::_,[],_,h=>h.elim
def B1(hs:List Hour)(u:Nat)(b:Bool)(lo n:Nat):List Hour:=((Q5 hs.length).zip hs).map fun x=>if lo≤x.1∧x.1<lo+n then{x.2 with free:=x.2.free.set u b}else x.2
theorem LD(hs:List Hour)(u:Nat)(b:Bool)(lo n:Nat):(B1 hs u b lo n).length=hs.length:=by unfold B1;simp
theorem C8(hs:List Hour)(u:Nat)(b:Bool)(lo n i:Nat):(B1 hs u b lo n)[i]?=(hs[i]?).map fun h=>if lo≤i∧i<lo+n then{h with free:=h.free.set u b}else h:=by
 unfold B1
 rw[QI]
 by_cases c:i<hs.length
 ·have:((Q5 hs.length).zip hs)[i]?=some (i,hs[i]):=Tn.mpr ⟨Rt c,QJ c⟩
  rw[this,QJ c]
  rfl
 ·rw[Sj (by simp;omega),Sj (by omega)]
  rfl
theorem J2(hs:List Hour)(u:Nat)(b:Bool)(lo:Nat):B1 hs u b lo 0=hs:=by
 apply SF
 intro i
 rw[C8]
 cases hs[i]? with
 | none=>rfl
 | some h =>
  show some (if lo≤i∧i<lo+0 then _ else h)=some h
  rw[if_neg (by omega)]
theorem J1(hs:List Hour)(u:Nat)(b:Bool)(lo n:Nat):B1 hs u b lo (n+1)=(B1 hs u b lo n).modify (lo+n) fun h=>{h with free:=h.free.set u b}:=by
 apply SF
 intro i
 rw[S0,C8,C8]
 cases hs[i]? with
 | none=>rfl
 | some h =>
  show some (if lo≤i∧i<lo+(n+1)then{h with free:=h.free.set u b}else h)=some (if lo+n=i then{ (if lo≤i∧i<lo+n then{h with free:=h.free.set u b}else h)with free:=(if lo≤i∧i<lo+n then{h with free:=h.free.set u b}else h).free.set u b}else(if lo≤i∧i<lo+n then{h with free:=h.free.set u b}else h))
  congr 1
  by_cases c:lo+n=i
  ·subst c
   rw[if_pos ⟨QR ..,Uw _⟩,if_pos rfl,if_neg (fun q=>Sg _ q.2)]
  ·rw[if_neg c]
   by_cases d:lo≤i∧i<lo+n
   ·rw[if_pos d,if_pos ⟨d.1,Um d.2⟩]
   ·rw[if_neg d,if_neg (fun q=>d ⟨q.1,Nat.lt_of_le_of_ne (Ts q.2) (Ne.symm c)⟩)]
theorem LF{hs:List Hour}{u:Nat}{a b:Int}(ha:0≤a)(hab:a≤b):(((Q5 hs.length).zip hs).map fun x=>if a≤(x.1:Int)∧(x.1:Int)≤b then{x.2 with free:=x.2.free.set u false}else x.2)=B1 hs u false a.toNat ((b+1).toNat-a.toNat):=by
 unfold B1
 have e:=RM (Int.toNat_le_toNat (Sb hab (Vt (Int.lt_succ b))))
 apply RL
 intro x _
 by_cases c:a≤(x.1:Int)∧(x.1:Int)≤b
 ·rw[if_pos c,if_pos (by rw[e];exact⟨U0.2 c.1,XO.2 (Int.lt_add_one_of_le c.2)⟩)]
 ·rw[if_neg c,if_neg (fun q=>c ⟨U0.1 q.1,Int.le_of_lt_add_one (XO.1 (e▸q.2))⟩)]
theorem J0{hs:List Hour}{u now:Nat}(hn:now≤hs.length):(((Q5 hs.length).zip hs).map fun x=>if now≤x.1 then{x.2 with free:=x.2.free.set u true}else x.2)=B1 hs u true now (hs.length-now):=by
 unfold B1
 apply RL
 intro x hx
 have:x.1<hs.length:=by
  have:=(TM hx).1
  exact Rf.mp this
 by_cases c:now≤x.1
 ·rw[if_pos c,if_pos ⟨c,by rw[RM hn];exact this⟩]
 ·rw[if_neg c,if_neg (fun q=>c q.1)]
end Bp
namespace Bp
open PySem PySem.Spec PyProof.Rows L2
structure Gf(K:Frg)(mg:Str→Option Value)(x:Str)(st:Stmt)(ps:List Str) where
 f:Addr
 fd:FuncData
 fn:Mp K x x st f fd
 bd:Binds K fd ps []
 Ny:mg x=some (.ref f)
structure Gm(K:Frg)(C:Addr)(m qual:Str)(st:Stmt)(ps:List Str) where
 f:Addr
 fd:FuncData
 fn:Mp K m qual st f fd
 bd:Binds K fd ps []
 me:Meth K C m f
structure Gc(K:Frg)(mg:Str→Option Value)(x qual:Str)(st:Stmt)(ps:List Str) where
 C:Addr
 cls:Ec K C
 f:Addr
 fd:FuncData
 fn:Mp K "__init__" qual st f fd
 bd:Binds K fd ps []
 P9:Mk K C f
 Ny:mg x=some (.ref C)
abbrev dJ(P:Program)(w:World)(base:Heap)(k:Nat){K:Frg}{mg:Str→Option Value}{x:Str}{st:Stmt}{ps:List Str}(G:Gf K mg x st ps)(sp:Sp):Prop:=oP P w K mg base Lk k G.f G.fd ps sp
abbrev Ih(P:Program)(w:World)(mg:Str→Option Value)(base:Heap)(k:Nat){K:Frg}{C:Addr}{x qual:Str}{st:Stmt}{ps:List Str}(G:Gm K C x qual st ps)(sp:Sp):Prop:=oP P w K mg base Lk k G.f G.fd ps sp
abbrev Mo(P:Program)(w:World)(base:Heap)(k:Nat){K:Frg}{mg:Str→Option Value}{x qual:Str}{st:Stmt}{ps:List Str}(G:Gc K mg x qual st ps)(sp:Sp):Prop:=oP P w K mg base Lk k G.f G.fd ps sp
section
variable{X:Cx}{x m qual:Str}{st:Stmt}{ps:List Str}{sp:Sp}{k k':Nat}{e o:Expr}{es:List Expr}{p pos apos:Pos}{t:TA}{ta:TE}{C:Addr}
theorem aA(G:Gf X.K X.mg x st ps)(F:dJ X.prog X.w X.base k G sp)(hr:fy k' X.A)(ha:PA X (e::es) t)(hk:k≤k':=by decide)(hg:Gl X x:=by rfl)
  (hdb:(x==("__debug__":Str))=false:=by decide)(he:starEach (e::es) X.env=(false,eval e X.env)::starEach es X.env:=by rfl)(hpl:(backTo pos (starEach es X.env)).any (·.1)=false:=by rfl) :
  PE X (.Call (.Name x p) (e::es) [] pos) (My sp [] E0 t):=LQ F (hr.mono hk) hg G.Ny G.fn.kp G.bd .nil EZ ha hdb he hpl
theorem mw{pl:Sem Bool}(he:PE X o ta)(cl:Ec X.K C)(G:Gm X.K C m qual st ps)(F:Ih X.prog X.w X.mg X.base k G sp)(hr:fy k' X.A)(ha:PA X (e::es) t)(hk:k≤k':=by decide)
  (hst:starEach (e::es) X.env=(false,eval e X.env)::starEach es X.env:=by rfl)(hpl:(backTo pos (starEach es X.env)).any (·.1)=false:=by rfl)
  (ht:eval (.Call (.Attribute o m apos) (e::es) [] pos) X.env=(do
   let ov ←eval o X.env
   standAt apos.atName
   let (f,first) ←holding [ov] (getMethod ov m pl)
   callWith pos f first (backTo pos (starEach (e::es) X.env)) (backToKw pos (keywordEach [] X.env))):=by rfl) :
  PE X (.Call (.Attribute o m apos) (e::es) [] pos) (Ia C m sp [] E0 ta t):=LU he cl G.me F (hr.mono hk) G.bd .nil EZ ha hst hpl ht
theorem wZ{pl:Sem Bool}(he:PE X o ta)(cl:Ec X.K C)(G:Gm X.K C m qual st ps)(F:Ih X.prog X.w X.mg X.base k G sp)(hr:fy k' X.A)(hk:k≤k':=by decide)
  (ht:eval (.Call (.Attribute o m apos) [] [] pos) X.env=(do
   let ov ←eval o X.env
   standAt apos.atName
   let (f,first) ←holding [ov] (getMethod ov m pl)
   callWith pos f first (backTo pos (starEach [] X.env)) (backToKw pos (keywordEach [] X.env))):=by rfl) :
  PE X (.Call (.Attribute o m apos) [] [] pos) (Ia C m sp [] E0 ta KS):=Kv he cl G.me F (hr.mono hk) G.bd .nil EZ ht
theorem HR(G:Gc X.K X.mg x qual st ps)(F:Mo X.prog X.w X.base k G sp)(hr:fy k' X.A)(ha:PA X (e::es) t)(hk:k+1≤k':=by decide)(hg:Gl X x:=by rfl)
  (hdb:(x==("__debug__":Str))=false:=by decide)(he:starEach (e::es) X.env=(false,eval e X.env)::starEach es X.env:=by rfl)(hpl:(backTo pos (starEach es X.env)).any (·.1)=false:=by rfl) :
  PE X (.Call (.Name x p) (e::es) [] pos) (FD G.C sp [] E0 t):=LS G.P9 F (hr.mono hk) hg G.Ny G.bd .nil EZ ha hdb he hpl
theorem Nb{K:Frg}{mg:Str→Option Value}(G:Gc K mg x qual st ps)(hK:X.K=K)(hm:X.mg=mg)(F:Mo X.prog X.w X.base k G sp)(hr:fy k' X.A)(ha:PA X (e::es) t)(hk:k+1≤k':=by decide)(hg:Gl X x:=by rfl)
  (hdb:(x==("__debug__":Str))=false:=by decide)(he:starEach (e::es) X.env=(false,eval e X.env)::starEach es X.env:=by rfl)(hpl:(backTo pos (starEach es X.env)).any (·.1)=false:=by rfl) :
  PE X (.Call (.Name x p) (e::es) [] pos) (FD G.C sp [] E0 t):=by
 subst hK
 subst hm
 exact HR G F hr ha hk hg hdb he hpl
theorem Na(G:Gc X.K X.mg x qual st ps)(F:Mo X.prog X.w X.base k G sp)(hr:fy k' X.A)(hk:k+1≤k':=by decide)(hg:Gl X x:=by rfl)
  (hdb:(x==("__debug__":Str))=false:=by decide) :
  PE X (.Call (.Name x p) [] [] pos) (FD G.C sp [] E0 KS):=Ku G.P9 F (hr.mono hk) hg G.Ny G.bd .nil EZ hdb
end
theorem vR:bootBuiltins "min"=some (.builtin "min"):=by decide+kernel
theorem MH:bootBuiltins "max"=some (.builtin "max"):=by decide+kernel
theorem FX:bootBuiltins "sum"=some (.builtin "sum"):=by decide+kernel
theorem CD:bootBuiltins "all"=some (.builtin "all"):=by decide+kernel
theorem bh:bootBuiltins "len"=some (.builtin "len"):=by decide+kernel
theorem MI:bootBuiltins "ord"=some (.builtin "ord"):=by decide+kernel
theorem MJ:bootBuiltins "str"=some (.type "str"):=by decide+kernel
theorem Lx:bootBuiltins "list"=some (.type "list"):=by decide+kernel
theorem aq{H:Hp}{p:Addr}{o:HO}(h:H p=none):aN H (upd H p o):=fun b u e=>by
 rw[ah (ao e h)];exact e
def AI(H:Hp)(D:Addr):Hp:=fun b=>if b=D then none else H b
theorem kd{H:Hp}{D b:Addr}(h:b≠D):AI H D b=H b:=if_neg h
theorem pG(H:Hp)(D:Addr):aN (AI H D) H:=fun b o e=>by
 unfold AI at e
 split at e
 ·cases e
 ·exact e
theorem uM(H:Hp)(D:Addr)(o:HO):AI (upd H D o) D=AI H D:=by
 funext b
 unfold AI
 by_cases h:b=D
 ·rw[if_pos h,if_pos h]
 ·rw[if_neg h,if_neg h,ah h]
theorem EF{H H':Hp}(s:aN H H')(D:Addr):aN (AI H D) (AI H' D):=fun b o e=>by
 unfold AI at e ⊢
 split
 ·rename_i h;rw[if_pos h]at e;cases e
 ·rename_i h;rw[if_neg h]at e;exact s b o e
theorem Fh{H H':Hp}{D:Addr}(s:aN H H')(h:H D=none):aN H (AI H' D):=fun b o e=>by
 rw[kd (ao e h)];exact s b o e
structure Built(D:Addr)(H1:Hp)(n:Nat)(El:Nat→V→Hp→Prop)(H:Hp):Prop where
 same:aN H1 (AI H D)
 ex:∃ys,H D=some (.lst ys)∧ys.length=n∧∀j y,ys[j]?=some y→El j y (AI H D)
def Lm(El:Nat→V→Hp→Prop):Prop:=∀j y H H',aN H H'→El j y H→El j y H'
theorem Built.start{D:Addr}{H1:Hp}{El:Nat→V→Hp→Prop}(h:H1 D=none):Built D H1 0 El (upd H1 D (.lst [])) :=
 ⟨by rw[uM];exact Fh (aN.refl _) h,[],af,rfl,fun j y e=>by simp at e⟩
theorem Built.push{D:Addr}{H1 H H4:Hp}{n:Nat}{El:Nat→V→Hp→Prop}{y:V}{acc:List V}(mo:Lm El)(B:Built D H1 n El H)(s:aN H H4)(ha:H4 D=some (.lst acc))(he:El n y (AI H4 D)):acc.length=n∧Built D H1 (n+1) El (upd H4 D (.lst (acc++[y]))):=by
 obtain⟨ys,h1,h2,h3⟩:=B.ex
 have e:acc=ys:=by
  have:=s _ _ h1
  rw[ha]at this
  cases this
  rfl
 subst e
 refine⟨h2,⟨by rw[uM];exact B.same.trans (EF s D),acc++[y],af,by simp[h2],fun j z e=>?_⟩⟩
 rw[uM]
 by_cases hj:j<acc.length
 ·rw[Q0 hj]at e
  exact mo _ _ _ _ (EF s D) (h3 j z e)
 ·have hj2:j=acc.length:=by
   have:=(QO.mp e).1
   simp at this;omega
  subst hj2
  rw[QX (QP _)]at e
  simp at e
  subst e
  rw[h2]
  exact he
theorem Built.cK{D:Addr}{H1 H:Hp}{n:Nat}{El:Nat→V→Hp→Prop}(B:Built D H1 n El H):aN H1 H:=B.same.trans (pG _ _)
theorem Built.eq{D:Addr}{H1 H:Hp}{n:Nat}{xs:List V}(B:Built D H1 n (fun j y _=>xs[j]?=some y) H)(hn:n=xs.length):H D=some (.lst xs):=by
 obtain⟨ys,h1,h2,h3⟩:=B.ex
 have e:ys=xs:=by
  apply SF
  intro j
  cases q:ys[j]? with
  | some y=>exact(h3 j y q).symm
  | none =>
   have:=RT.mp q
   exact(RT.mpr (by omega)).symm
 rw[h1,e]
theorem cI(xs:List V):Lm (fun j y _=>xs[j]?=some y):=fun _ _ _ _ _ h=>h
structure Yl(J:It)(n:Nat)(Ok:Hp→Prop)(X:Nat→V→Hp→Hp→Prop):Prop where
 go:∀i H,Ok H→i<n→J.go i H
 stop:∀H,Ok H→J.stop n H
 Lh:∀i H x H',Ok H→i<n→J.Lh i H x H'→X i x H H'
theorem bw(K:Frg)(a:Addr)(xs:List V):Yl (OR K a) xs.length (fun H=>aF K H a xs) (fun i x H H'=>H'=H∧xs[i]?=some x) :=
 ⟨fun i H h hi=>⟨xs,xs[i],h,by simp[hi]⟩,fun H h=>⟨xs,h,QP _⟩,fun i H x H' h hi y=>⟨y.1,y.2 xs h⟩⟩
theorem Nu(K:Frg)(a:Addr)(xs:List V):Yl (OT K a) xs.length (fun H=>eQ K H a xs) (fun i x H H'=>H'=H∧xs[i]?=some x) :=
 ⟨fun i H h hi=>⟨xs,xs[i],h,by simp[hi]⟩,fun H h=>⟨xs,h,QP _⟩,fun i H x H' h hi y=>⟨y.1,y.2 xs h⟩⟩
theorem mC(lo:Int)(n:Nat):Yl (NG lo n) n (fun _=>True) (fun i x H H'=>H'=H∧x=.int (lo+i)) :=
 ⟨fun i H h hi=>hi,fun H h=>QP _,fun i H x H' h hi y=>y⟩
theorem xG(lo c:Int)(n:Nat):Yl (OP lo c n) n (fun _=>True) (fun i x H H'=>H'=H∧x=.int (lo+(i:Nat)*c)) :=
 ⟨fun i H h hi=>hi,fun H h=>QP _,fun i H x H' h hi y=>y⟩
theorem Nt(K:Frg)(a:Addr)(xs:List V):Yl (OU K a xs.length) xs.length (fun H=>aF K H a xs) (fun i x H H'=>H'=H∧xs[xs.length-1-i]?=some x) :=
 ⟨fun i H h hi=>⟨hi,xs,xs[xs.length-1-i],h,by simp⟩,fun H h=>QP _,fun i H x H' h hi y=>⟨y.1,y.2 xs h⟩⟩
theorem Mg(K:Frg)(a:Addr)(xs:List V):Yl (OQ K a) xs.length (fun H=>aF K H a xs) (fun i v H H'=>∃t x,v=.ref t∧H t=none∧H'=upd H t (.tup [.int (i:Nat),x])∧xs[i]?=some x) :=
 ⟨fun i H h hi=>⟨xs,xs[i],h,by simp[hi]⟩,fun H h=>⟨xs,h,QP _⟩,fun i H v H' h hi ⟨t,x,h1,h2,h3,h4⟩=>⟨t,x,h1,h2,h3,h4 xs h⟩⟩
theorem uu(K:Frg)(a b:Addr)(xs ys:List V):Yl (OV K a b) (min xs.length ys.length) (fun H=>aF K H a xs∧aF K H b ys) (fun i v H H'=>∃t x y,v=.ref t∧H t=none∧H'=upd H t (.tup [x,y])∧xs[i]?=some x∧ys[i]?=some y) :=
 ⟨fun i H h hi=>⟨xs,ys,xs[i]'(Sl.1 hi).1,ys[i]'(Sl.1 hi).2,h.1,h.2,by simp,by simp⟩,fun H h=>⟨xs,ys,h.1,h.2,by omega⟩,fun i H v H' h hi ⟨t,x,y,h1,h2,h3,h4,h5⟩=>⟨t,x,y,h1,h2,h3,h4 xs h.1,h5 ys h.2⟩⟩
theorem bC{J:It}{n:Nat}{Ok:Hp→Prop}{Xy:Nat→V→Hp→Hp→Prop}(Y:Yl J n Ok Xy){g:TG}{tb:TS}{D:Ends}{σ:L2.St}{H:Hp}(Pv:Nat→L2.St→Hp→Prop)(h0:Pv 0 σ H)(cp:∀i σ H,i≤n→Pv i σ H→Ok H)
  (hs:∀i x σ H H',i<n→Pv i σ H→Xy i x H H'→g x σ H' fun σ2 H2=>tb { D with nx:=Pv (i+1),ct:=Pv (i+1),bk:=D.nx} σ2 H2)(hd:∀σ H,Pv n σ H→D.nx σ H) :
  ∃W:Nat→Nat→L2.St→Hp→Prop,(∃m,W 0 m σ H)∧∀i m σ H,W i m σ H →
   (J.stop i H∧D.nx σ H)∨(J.go i H∧∃N:L2.St→Hp→Prop,(∀σ' H',N σ' H'→∃m',m'<m∧W (i+1) m' σ' H')∧∀x H',J.Lh i H x H'→g x σ H' fun σ2 H2=>tb { D with nx:=N,ct:=N,bk:=D.nx} σ2 H2):=by
 refine⟨fun i m σ H=>m=n-i∧i≤n∧Pv i σ H,⟨n,by simp,Sr _,h0⟩,?_⟩
 rintro i m σ H ⟨rfl,hi,p⟩
 have q:=cp i σ H hi p
 by_cases hlt:i<n
 ·exact .inr ⟨Y.go i H q hlt,Pv (i+1),fun σ' H' p'=>⟨n-(i+1),by omega,rfl,hlt,p'⟩,fun x H' y=>hs i x σ H H' hlt p (Y.Lh i H x H' q hlt y)⟩
 ·have e:i=n:=by omega
  subst e
  exact .inl ⟨Y.stop H q,hd σ H p⟩
theorem Gz{J:It}{n:Nat}{Ok:Hp→Prop}{Xy:Nat→V→Hp→Hp→Prop}(Y:Yl J n Ok Xy){g:TG}{tt:TT}{te:TE}{vs:List Nat}{σ:L2.St}{H1:Hp}{D:Addr}{Qd:Hp→Prop}(Pv:Nat→Hp→Prop)(h0:Pv 0 (upd H1 D (.lst [])))(cp:∀i H,i≤n→Pv i H→Ok H)
  (hs:∀i x H H',i<n→Pv i H→Xy i x H H'→g x (wipe σ vs) H' fun σ2 H2=>wipe σ2 vs=wipe σ vs∧tt σ2 H2 fun b H3 =>
   if b=true then te σ2 H3 fun y H4=>∃acc,H4 D=some (.lst acc)∧acc.length<sizeLine∧Pv (i+1) (upd H4 D (.lst (acc++[y])))else Pv (i+1) H3) (hd:∀H,Pv n H→Qd H) :
  ∃W:Nat→Nat→Hp→Prop,(∃m,W 0 m (upd H1 D (.lst [])))∧∀i m H,W i m H →
   (J.stop i H∧Qd H)∨(J.go i H∧∃Nx:Hp→Prop,(∀H',Nx H'→∃m',m'<m∧W (i+1) m' H')∧∀x H',J.Lh i H x H'→g x (wipe σ vs) H' fun σ2 H2=>wipe σ2 vs=wipe σ vs∧tt σ2 H2 fun b H3 =>
    if b=true then te σ2 H3 fun y H4=>∃acc,H4 D=some (.lst acc)∧acc.length<sizeLine∧Nx (upd H4 D (.lst (acc++[y])))else Nx H3):=by
 refine⟨fun i m H=>m=n-i∧i≤n∧Pv i H,⟨n,by simp,Sr _,h0⟩,?_⟩
 rintro i m H ⟨rfl,hi,p⟩
 have q:=cp i H hi p
 by_cases hlt:i<n
 ·exact .inr ⟨Y.go i H q hlt,Pv (i+1),fun H' p'=>⟨n-(i+1),by omega,rfl,hlt,p'⟩,fun x H' y=>hs i x H H' hlt p (Y.Lh i H x H' q hlt y)⟩
 ·have e:i=n:=by omega
  subst e
  exact .inl ⟨Y.stop H q,hd H p⟩
theorem bt{J:It}{n:Nat}{Ok:Hp→Prop}{Xy:Nat→V→Hp→Hp→Prop}(Y:Yl J n Ok Xy){g:TG}{te:TE}{vs:List Nat}{σ:L2.St}{H1:Hp}{D:Addr}{Qd:Hp→Prop}(El:Nat→V→Hp→Prop)(mo:Lm El)(hn:n≤sizeLine)(hD:H1 D=none)(cp:∀H,aN H1 H→Ok H)
  (hs:∀i x H H' (R:V→Hp→Prop),i<n→aN H1 H→H D≠none→Xy i x H H'→(∀y H4,aN H H4→El i y (AI H4 D)→R y H4)→g x (wipe σ vs) H' fun σ2 H2=>wipe σ2 vs=wipe σ vs∧te σ2 H2 R)
  (hd:∀H,Built D H1 n El H→Qd H) :
  ∃W:Nat→Nat→Hp→Prop,(∃m,W 0 m (upd H1 D (.lst [])))∧∀i m H,W i m H →
   (J.stop i H∧Qd H)∨(J.go i H∧∃Nx:Hp→Prop,(∀H',Nx H'→∃m',m'<m∧W (i+1) m' H')∧∀x H',J.Lh i H x H'→g x (wipe σ vs) H' fun σ2 H2=>wipe σ2 vs=wipe σ vs∧Nl σ2 H2 fun b H3 =>
    if b=true then te σ2 H3 fun y H4=>∃acc,H4 D=some (.lst acc)∧acc.length<sizeLine∧Nx (upd H4 D (.lst (acc++[y])))else Nx H3):=by
 refine Gz Y (fun i H=>Built D H1 i El H) (Built.start hD) (fun i H _ B=>cp H B.cK) (fun i x H H' hi B y=>?_) hd
 obtain⟨ys,h1,h2,h3⟩:=B.ex
 exact hs i x H H' _ hi B.cK (by rw[h1];intro q;cases q) y fun v H4 s4 e4=>by
  have h4:=s4 _ _ h1
  obtain⟨p1,p2⟩:=B.push mo s4 h4 e4
  exact⟨ys,h4,by omega,p2⟩
theorem dI{i j:Nat}(c:decide (V.int (i:Int)=V.int (j:Int))=true):i=j:=by
 have h:=of_decide_eq_true c
 injection h with h
 omega
theorem Lb{i j:Nat}(c:¬decide (V.int (i:Int)=V.int (j:Int))=true):¬i=j:=fun e=>c (by rw[e];simp)
theorem v2{i i' j j':Int}(h:i=i')(h2:j=j'):[V.int i,V.int j]=[V.int i',V.int j']:=by rw[h,h2]
abbrev ig(K:Frg)(H:Hp)(a:Addr)(f:Str)(Q:V→Prop):Prop:=E5 fun a' C' dx' fs' v'=>A6 (V.ref a=.ref a') (H a'=some (.ins C' dx' fs')) (Ec K C') (bp K C' f) (fs'.lookup f=some v') (Q v')
theorem fc{K:Frg}{H:Hp}{a C dx:Addr}{fs:List (Str×V)}{f:Str}{v:V}{Q:V→Prop}(h:H a=some (.ins C dx fs))(c:Ec K C)(n:bp K C f)(l:fs.lookup f=some v)(q:Q v):ig K H a f Q:=⟨_,_,_,_,_,rfl,h,c,n,l,q⟩
theorem iN{a b:TS}{D:Ends}{σ:L2.St}{H:Hp}(M:L2.St→Hp→Prop)(h2:∀σ' H1,M σ' H1→b D σ' H1)(h1:∀N:L2.St→Hp→Prop,(∀σ' H1,M σ' H1→N σ' H1)→a { D with nx:=N} σ H):Ov a b D σ H:=h1 _ h2
open Vbbcag (Unit_ Mode Modes)
def top(i:Nat):Stmt:=PySem.Challenge.pw_boilerplans_s01_answers.main.body.getD i (.Pass ⟨0,0,0,0⟩)
abbrev kr:Stmt:=top 1
theorem ym:ay ["unit"] ["unit"] (ai kr):=⟨rfl,rfl,rfl,by decide+kernel,rfl,by decide+kernel,by decide+kernel⟩
abbrev lO:Stmt:=top 2
theorem Af:ay ["unit"] ["unit"] (ai lO):=⟨rfl,rfl,rfl,by decide+kernel,rfl,by decide+kernel,by decide+kernel⟩
abbrev tQ:Stmt:=top 3
theorem Fl:ay ["unit","hours"] ["unit","hours"] (ai tQ):=⟨rfl,rfl,rfl,by decide+kernel,rfl,by decide+kernel,by decide+kernel⟩
abbrev xo:Stmt:=top 4
theorem G2:ay ["unit","hours","level"] ["unit","hours","level"] (ai xo):=⟨rfl,rfl,rfl,by decide+kernel,rfl,by decide+kernel,by decide+kernel⟩
abbrev DP:Stmt:=top 5
theorem KJ:ay ["unit","mode"] ["unit","mode"] (ai DP):=⟨rfl,rfl,rfl,by decide+kernel,rfl,by decide+kernel,by decide+kernel⟩
abbrev tL:Stmt:=top 6
theorem Fi:ay ["unit","mode"] ["unit","mode"] (ai tL):=⟨rfl,rfl,rfl,by decide+kernel,rfl,by decide+kernel,by decide+kernel⟩
abbrev tM:Stmt:=top 7
theorem Fj:ay ["unit","mode"] ["unit","mode"] (ai tM):=⟨rfl,rfl,rfl,by decide+kernel,rfl,by decide+kernel,by decide+kernel⟩
abbrev qj:Stmt:=top 8
theorem DR:ay ["unit","mode"] ["unit","mode"] (ai qj):=⟨rfl,rfl,rfl,by decide+kernel,rfl,by decide+kernel,by decide+kernel⟩
abbrev gz:Stmt:=top 9
theorem cw:ay ["unit","hours","available","chosen","highest","level"] ["unit","hours","available"] (ai gz):=⟨rfl,rfl,rfl,by decide+kernel,rfl,by decide+kernel,by decide+kernel⟩
abbrev gV:Stmt:=top 10
theorem bW:ay ["unit","hours","level","available","chosen","lowest","highest","reached"] ["unit","hours","level","available"] (ai gV):=⟨rfl,rfl,rfl,by decide+kernel,rfl,by decide+kernel,by decide+kernel⟩
abbrev xf:Stmt:=top 11
theorem G0:ay ["unit","mode","available"] ["unit","mode","available"] (ai xf):=⟨rfl,rfl,rfl,by decide+kernel,rfl,by decide+kernel,by decide+kernel⟩
abbrev qc:Stmt:=top 12
theorem n9:ay ["unit","before","chosen","cost"] ["unit","before","chosen"] (ai qc):=⟨rfl,rfl,rfl,by decide+kernel,rfl,by decide+kernel,by decide+kernel⟩
abbrev nj:Stmt:=inClass (top 15) 0
theorem lR:ay ["self","unit","width","many","level"] ["self","unit","width"] (ai nj):=⟨rfl,rfl,rfl,by decide+kernel,rfl,by decide+kernel,by decide+kernel⟩
abbrev lI:Stmt:=inClass (top 16) 0
theorem gY:ay ["self","units","together","unit"] ["self","units"] (ai lI):=⟨rfl,rfl,rfl,by decide+kernel,rfl,by decide+kernel,by decide+kernel⟩
abbrev iJ:Stmt:=top 17
theorem eX:ay ["units","together","unit"] ["units"] (ai iJ):=⟨rfl,rfl,rfl,by decide+kernel,rfl,by decide+kernel,by decide+kernel⟩
abbrev gX:Stmt:=top 18
theorem bD:ay ["units","levels","unit","longer","level","mode"] ["units"] (ai gX):=⟨rfl,rfl,rfl,by decide+kernel,rfl,by decide+kernel,by decide+kernel⟩
abbrev tT:Stmt:=top 19
theorem jk:ay ["ground","modes","place","steps","mode"] ["ground","modes"] (ai tT):=⟨rfl,rfl,rfl,by decide+kernel,rfl,by decide+kernel,by decide+kernel⟩
abbrev tP:Stmt:=top 20
theorem kU:ay ["ground","place","modes","steps"] ["ground","place"] (ai tP):=⟨rfl,rfl,rfl,by decide+kernel,rfl,by decide+kernel,by decide+kernel⟩
abbrev Ac:Stmt:=top 21
theorem xr:ay ["costs","size","in_order","mode"] ["costs","size"] (ai Ac):=⟨rfl,rfl,rfl,by decide+kernel,rfl,by decide+kernel,by decide+kernel⟩
abbrev Ab:Stmt:=top 22
theorem qU:ay ["some","others","one","other"] ["some","others"] (ai Ab):=⟨rfl,rfl,rfl,by decide+kernel,rfl,by decide+kernel,by decide+kernel⟩
abbrev jA:Stmt:=top 23
theorem cC:ay ["costs","width","many","least","seen","more"] ["costs","width","many"] (ai jA):=⟨rfl,rfl,rfl,by decide+kernel,rfl,by decide+kernel,by decide+kernel⟩
abbrev fw:Stmt:=top 24
theorem ie:ay ["steps","costs","beyond"] ["steps","costs"] (ai fw):=⟨rfl,rfl,rfl,by decide+kernel,rfl,by decide+kernel,by decide+kernel⟩
abbrev lN:Stmt:=top 25
theorem cG:ay ["steps","later","costs","many","first","cost","to_come"] ["steps","later"] (ai lN):=⟨rfl,rfl,rfl,by decide+kernel,rfl,by decide+kernel,by decide+kernel⟩
abbrev ko:Stmt:=top 26
theorem yl:ay ["steps","later"] ["steps","later"] (ai ko):=⟨rfl,rfl,rfl,by decide+kernel,rfl,by decide+kernel,by decide+kernel⟩
abbrev kq:Stmt:=top 27
theorem oO:ay ["steps","later","on_modes"] ["steps","later"] (ai kq):=⟨rfl,rfl,rfl,by decide+kernel,rfl,by decide+kernel,by decide+kernel⟩
abbrev fv:Stmt:=top 28
theorem aW:ay ["steps","later","width","reached","started","off","least","costs","going_off","cost"] ["steps","later"] (ai fv):=⟨rfl,rfl,rfl,by decide+kernel,rfl,by decide+kernel,by decide+kernel⟩
abbrev nH:Stmt:=top 29
theorem rH:ay ["costs","steps","available","later"] ["costs","steps","available"] (ai nH):=⟨rfl,rfl,rfl,by decide+kernel,rfl,by decide+kernel,by decide+kernel⟩
abbrev kn:Stmt:=top 30
theorem cN:ay ["ground","load","available","later","costs","number","cost","level"] ["ground","load","available","later"] (ai kn):=⟨rfl,rfl,rfl,by decide+kernel,rfl,by decide+kernel,by decide+kernel⟩
abbrev nA:Stmt:=top 31
theorem Bm:ay ["plant"] ["plant"] (ai nA):=⟨rfl,rfl,rfl,by decide+kernel,rfl,by decide+kernel,by decide+kernel⟩
abbrev jy:Stmt:=top 32
theorem dF:ay ["plant","hour","ground","end","earlier","later"] ["plant","hour"] (ai jy):=⟨rfl,rfl,rfl,by decide+kernel,rfl,by decide+kernel,by decide+kernel⟩
abbrev iH:Stmt:=top 33
theorem kT:ay ["plant","costs","cost"] ["plant","costs"] (ai iH):=⟨rfl,rfl,rfl,by decide+kernel,rfl,by decide+kernel,by decide+kernel⟩
abbrev nG:Stmt:=top 34
theorem Bq:ay ["plant"] ["plant"] (ai nG):=⟨rfl,rfl,rfl,by decide+kernel,rfl,by decide+kernel,by decide+kernel⟩
abbrev gW:Stmt:=top 35
theorem cH:ay ["plant","changed","load","ground","costs","hour"] ["plant","changed","load"] (ai gW):=⟨rfl,rfl,rfl,by decide+kernel,rfl,by decide+kernel,by decide+kernel⟩
abbrev qd:Stmt:=top 36
theorem dZ:ay ["plant","hour","told","told_later","later","costs","cost","least"] ["plant","hour","told","told_later"] (ai qd):=⟨rfl,rfl,rfl,by decide+kernel,rfl,by decide+kernel,by decide+kernel⟩
abbrev nJ:Stmt:=top 38
theorem bg:ay ["units","modes","available","moves","unit","mode","can_run","size","ways","longer","spent","place","chosen","cost"] ["units","modes","available"] (ai nJ):=⟨rfl,rfl,rfl,by decide+kernel,rfl,by decide+kernel,by decide+kernel⟩
abbrev iI:Stmt:=top 39
theorem bT:ay ["ground","moves","load","later","least","found","cost","place"] ["ground","moves","load","later"] (ai iI):=⟨rfl,rfl,rfl,by decide+kernel,rfl,by decide+kernel,by decide+kernel⟩
abbrev lP:Stmt:=top 40
theorem bE:ay ["plant","ground","modes","levels","hour","moves","place","unit","mode"] ["plant"] (ai lP):=⟨rfl,rfl,rfl,by decide+kernel,rfl,by decide+kernel,by decide+kernel⟩
abbrev nh:Stmt:=inClass (top 42) 0
theorem Bl:ay ["self"] ["self"] (ai nh):=⟨rfl,rfl,rfl,by decide+kernel,rfl,by decide+kernel,by decide+kernel⟩
abbrev lJ:Stmt:=inClass (top 42) 1
theorem kv:ay ["self","units","unit"] ["self","units"] (ai lJ):=⟨rfl,rfl,rfl,by decide+kernel,rfl,by decide+kernel,by decide+kernel⟩
abbrev jx:Stmt:=inClass (top 42) 2
theorem iK:ay ["self","loads","load"] ["self","loads"] (ai jx):=⟨rfl,rfl,rfl,by decide+kernel,rfl,by decide+kernel,by decide+kernel⟩
abbrev iF:Stmt:=inClass (top 42) 3
theorem vj:ay ["self","hour","load"] ["self","hour","load"] (ai iF):=⟨rfl,rfl,rfl,by decide+kernel,rfl,by decide+kernel,by decide+kernel⟩
abbrev eN:Stmt:=inClass (top 42) 4
theorem gZ:ay ["self","unit","hours","available","hour"] ["self","unit","hours","available"] (ai eN):=⟨rfl,rfl,rfl,by decide+kernel,rfl,by decide+kernel,by decide+kernel⟩
abbrev eJ:Stmt:=inClass (top 42) 5
theorem nY:ay ["self","hour"] ["self","hour"] (ai eJ):=⟨rfl,rfl,rfl,by decide+kernel,rfl,by decide+kernel,by decide+kernel⟩
abbrev eK:Stmt:=inClass (top 42) 6
theorem nZ:ay ["self"] ["self"] (ai eK):=⟨rfl,rfl,rfl,by decide+kernel,rfl,by decide+kernel,by decide+kernel⟩
abbrev iG:Stmt:=inClass (top 42) 7
theorem vk:ay ["self","cost"] ["self","cost"] (ai iG):=⟨rfl,rfl,rfl,by decide+kernel,rfl,by decide+kernel,by decide+kernel⟩
abbrev gT:Stmt:=inClass (top 42) 8
theorem tV:ay ["self","chosen","cost"] ["self","chosen","cost"] (ai gT):=⟨rfl,rfl,rfl,by decide+kernel,rfl,by decide+kernel,by decide+kernel⟩
abbrev xn:Stmt:=top 43
theorem Ae:ay ["unit","mode","available","level","chosen"] ["unit","mode","available","level"] (ai xn):=⟨rfl,rfl,rfl,by decide+kernel,rfl,by decide+kernel,by decide+kernel⟩
abbrev tO:Stmt:=top 44
theorem ji:ay ["plant","modes","hour","levels","chosen","number","unit","mode"] ["plant","modes","hour","levels"] (ai tO):=⟨rfl,rfl,rfl,by decide+kernel,rfl,by decide+kernel,by decide+kernel⟩
abbrev qe:Stmt:=top 45
theorem hJ:ay ["plant","modes","chosen","unit","before","mode"] ["plant","modes","chosen"] (ai qe):=⟨rfl,rfl,rfl,by decide+kernel,rfl,by decide+kernel,by decide+kernel⟩
abbrev pZ:Stmt:=inClass (top 54) 0
theorem DQ:ay ["self","name","numbers"] ["self","name","numbers"] (ai pZ):=⟨rfl,rfl,rfl,by decide+kernel,rfl,by decide+kernel,by decide+kernel⟩
abbrev tS:Stmt:=top 55
theorem jj:ay ["row","between","parts","part","byte"] ["row","between"] (ai tS):=⟨rfl,rfl,rfl,by decide+kernel,rfl,by decide+kernel,by decide+kernel⟩
abbrev qi:Stmt:=top 56
theorem og:ay ["line","part"] ["line"] (ai qi):=⟨rfl,rfl,rfl,by decide+kernel,rfl,by decide+kernel,by decide+kernel⟩
abbrev tK:Stmt:=top 57
theorem qo:ay ["word","sign"] ["word"] (ai tK):=⟨rfl,rfl,rfl,by decide+kernel,rfl,by decide+kernel,by decide+kernel⟩
abbrev xh:Stmt:=top 58
theorem tX:ay ["token","byte"] ["token"] (ai xh):=⟨rfl,rfl,rfl,by decide+kernel,rfl,by decide+kernel,by decide+kernel⟩
abbrev qf:Stmt:=top 59
theorem fK:ay ["token","number","byte"] ["token"] (ai qf):=⟨rfl,rfl,rfl,by decide+kernel,rfl,by decide+kernel,by decide+kernel⟩
abbrev nN:Stmt:=top 60
theorem gb:ay ["tokens","numbers","token","bounds","number"] ["tokens"] (ai nN):=⟨rfl,rfl,rfl,by decide+kernel,rfl,by decide+kernel,by decide+kernel⟩
abbrev xq:Stmt:=top 61
theorem iM:ay ["line","tokens","name","numbers","word"] ["line"] (ai xq):=⟨rfl,rfl,rfl,by decide+kernel,rfl,by decide+kernel,by decide+kernel⟩
abbrev tN:Stmt:=top 62
theorem xY:ay ["text","parts"] ["text"] (ai tN):=⟨rfl,rfl,rfl,by decide+kernel,rfl,by decide+kernel,by decide+kernel⟩
abbrev gA:Stmt:=top 63
theorem cx:ay ["lines","names","number","line","unit"] ["lines"] (ai gA):=⟨rfl,rfl,rfl,by decide+kernel,rfl,by decide+kernel,by decide+kernel⟩
abbrev nW:Stmt:=top 64
theorem lV:ay ["text","lines","wrong"] ["text"] (ai nW):=⟨rfl,rfl,rfl,by decide+kernel,rfl,by decide+kernel,by decide+kernel⟩
abbrev tU:Stmt:=top 65
theorem qt:ay ["text","line"] ["text"] (ai tU):=⟨rfl,rfl,rfl,by decide+kernel,rfl,by decide+kernel,by decide+kernel⟩
abbrev nL:Stmt:=top 66
theorem Br:ay ["unit"] ["unit"] (ai nL):=⟨rfl,rfl,rfl,by decide+kernel,rfl,by decide+kernel,by decide+kernel⟩
abbrev xk:Stmt:=top 67
theorem gC:ay ["unit","line","tokens","word","token","number"] ["unit"] (ai xk):=⟨rfl,rfl,rfl,by decide+kernel,rfl,by decide+kernel,by decide+kernel⟩
abbrev xp:Stmt:=top 68
theorem tY:ay ["units","text","unit"] ["units"] (ai xp):=⟨rfl,rfl,rfl,by decide+kernel,rfl,by decide+kernel,by decide+kernel⟩
abbrev nu:Stmt:=top 84
theorem lS:ay ["numbers","most","number"] ["numbers","most"] (ai nu):=⟨rfl,rfl,rfl,by decide+kernel,rfl,by decide+kernel,by decide+kernel⟩
abbrev xi:Stmt:=top 85
theorem G1:ay ["plant","number"] ["plant","number"] (ai xi):=⟨rfl,rfl,rfl,by decide+kernel,rfl,by decide+kernel,by decide+kernel⟩
abbrev nB:Stmt:=top 86
theorem Bo:ay ["plant","hour"] ["plant","hour"] (ai nB):=⟨rfl,rfl,rfl,by decide+kernel,rfl,by decide+kernel,by decide+kernel⟩
abbrev nT:Stmt:=top 87
theorem lU:ay ["plant","given","units","together"] ["plant","given"] (ai nT):=⟨rfl,rfl,rfl,by decide+kernel,rfl,by decide+kernel,by decide+kernel⟩
abbrev nI:Stmt:=top 88
theorem rJ:ay ["plant","given","loads"] ["plant","given"] (ai nI):=⟨rfl,rfl,rfl,by decide+kernel,rfl,by decide+kernel,by decide+kernel⟩
abbrev jz:Stmt:=top 89
theorem iL:ay ["plant","given","hour","load"] ["plant","given"] (ai jz):=⟨rfl,rfl,rfl,by decide+kernel,rfl,by decide+kernel,by decide+kernel⟩
abbrev tR:Stmt:=top 90
theorem kW:ay ["plant","given","unit","first","last"] ["plant","given"] (ai tR):=⟨rfl,rfl,rfl,by decide+kernel,rfl,by decide+kernel,by decide+kernel⟩
abbrev qa:Stmt:=top 91
theorem vm:ay ["plant","given","unit"] ["plant","given"] (ai qa):=⟨rfl,rfl,rfl,by decide+kernel,rfl,by decide+kernel,by decide+kernel⟩
abbrev nF:Stmt:=top 92
theorem rG:ay ["plant","given","cost"] ["plant","given"] (ai nF):=⟨rfl,rfl,rfl,by decide+kernel,rfl,by decide+kernel,by decide+kernel⟩
abbrev qg:Stmt:=top 93
theorem vn:ay ["plant","given","levels"] ["plant","given"] (ai qg):=⟨rfl,rfl,rfl,by decide+kernel,rfl,by decide+kernel,by decide+kernel⟩
abbrev nE:Stmt:=top 94
theorem bL:ay ["plant","levels","size","modes","cost","place","hour","part","chosen"] ["plant","levels"] (ai nE):=⟨rfl,rfl,rfl,by decide+kernel,rfl,by decide+kernel,by decide+kernel⟩
abbrev nv:Stmt:=top 95
theorem rF:ay ["plant","given","levels"] ["plant","given"] (ai nv):=⟨rfl,rfl,rfl,by decide+kernel,rfl,by decide+kernel,by decide+kernel⟩
abbrev xg:Stmt:=top 96
theorem n8:ay ["plant","given","levels","chosen","cost"] ["plant","given"] (ai xg):=⟨rfl,rfl,rfl,by decide+kernel,rfl,by decide+kernel,by decide+kernel⟩
abbrev qk:Stmt:=top 97
theorem oh:ay ["plant","given","number","unit"] ["plant","given"] (ai qk):=⟨rfl,rfl,rfl,by decide+kernel,rfl,by decide+kernel,by decide+kernel⟩
abbrev nS:Stmt:=top 98
theorem i5:ay ["plant","given","hour","cost"] ["plant","given"] (ai nS):=⟨rfl,rfl,rfl,by decide+kernel,rfl,by decide+kernel,by decide+kernel⟩
abbrev nP:Stmt:=top 99
theorem gc:ay ["plant","given","hour","told","told_later","together"] ["plant","given"] (ai nP):=⟨rfl,rfl,rfl,by decide+kernel,rfl,by decide+kernel,by decide+kernel⟩
abbrev nR:Stmt:=top 100
theorem i0:ay ["plant","given","answer","unit","mode"] ["plant","given"] (ai nR):=⟨rfl,rfl,rfl,by decide+kernel,rfl,by decide+kernel,by decide+kernel⟩
abbrev lM:Stmt:=top 101
theorem qm:ay ["plant","given","cost"] ["plant","given"] (ai lM):=⟨rfl,rfl,rfl,by decide+kernel,rfl,by decide+kernel,by decide+kernel⟩
abbrev lQ:Stmt:=top 102
theorem qp:ay ["plant","given","cost"] ["plant","given"] (ai lQ):=⟨rfl,rfl,rfl,by decide+kernel,rfl,by decide+kernel,by decide+kernel⟩
abbrev nU:Stmt:=top 103
theorem i7:ay ["plant","given","hour","cost","with_more"] ["plant","given"] (ai nU):=⟨rfl,rfl,rfl,by decide+kernel,rfl,by decide+kernel,by decide+kernel⟩
abbrev nO:Stmt:=top 104
theorem Bs:ay ["plant","given"] ["plant","given"] (ai nO):=⟨rfl,rfl,rfl,by decide+kernel,rfl,by decide+kernel,by decide+kernel⟩
abbrev ku:Stmt:=top 105
theorem cO:ay ["plant","given","number","unit","mode","answer","chosen"] ["plant","given"] (ai ku):=⟨rfl,rfl,rfl,by decide+kernel,rfl,by decide+kernel,by decide+kernel⟩
abbrev qh:Stmt:=top 106
theorem oa:ay ["plant","given","text","wrong"] ["plant","given"] (ai qh):=⟨rfl,rfl,rfl,by decide+kernel,rfl,by decide+kernel,by decide+kernel⟩
abbrev qb:Stmt:=top 107
theorem jS:ay ["plant","given","hour","available"] ["plant","given"] (ai qb):=⟨rfl,rfl,rfl,by decide+kernel,rfl,by decide+kernel,by decide+kernel⟩
abbrev lK:Stmt:=inClass (top 111) 0
theorem Ad:ay ["self","calls"] ["self","calls"] (ai lK):=⟨rfl,rfl,rfl,by decide+kernel,rfl,by decide+kernel,by decide+kernel⟩
abbrev gU:Stmt:=inClass (top 111) 1
theorem tW:ay ["self"] ["self"] (ai gU):=⟨rfl,rfl,rfl,by decide+kernel,rfl,by decide+kernel,by decide+kernel⟩
abbrev fq:Stmt:=inClass (top 111) 2
theorem ic:ay ["self","number"] ["self"] (ai fq):=⟨rfl,rfl,rfl,by decide+kernel,rfl,by decide+kernel,by decide+kernel⟩
abbrev eO:Stmt:=inClass (top 111) 3
theorem g0:ay ["self","many","numbers"] ["self","many"] (ai eO):=⟨rfl,rfl,rfl,by decide+kernel,rfl,by decide+kernel,by decide+kernel⟩
abbrev nQ:Stmt:=top 112
theorem lT:ay ["reader","form","given","row"] ["reader","form"] (ai nQ):=⟨rfl,rfl,rfl,by decide+kernel,rfl,by decide+kernel,by decide+kernel⟩
abbrev xc:Stmt:=top 113
theorem gB:ay ["calls","reader","plant","answered","number","call","answer"] ["calls"] (ai xc):=⟨rfl,rfl,rfl,by decide+kernel,rfl,by decide+kernel,by decide+kernel⟩
set_option genInjectivity false in
set_option genSizeOf false in
structure Tx(K:Frg)(mg:Str→Option Value) where
 aR:Gc K mg "Steps" "Steps.__init__" nj ["self","unit","width"]
 jL:bp K aR.C "size"
 iX:bp K aR.C "width"
 gj:bp K aR.C "off_end"
 dS:bp K aR.C "start_cost"
 iW:bp K aR.C "reach"
 dC:bp K aR.C "on_costs"
 bQ:Gc K mg "Ground" "Ground.__init__" lI ["self","units"]
 fi:bp K bQ.C "steps"
 gi:bp K bQ.C "levels"
 aw:Gc K mg "Plant" "Plant.__init__" nh ["self"]
 fY:bp K aw.C "units"
 fW:bp K aw.C "modes"
 jd:bp K aw.C "now"
 fX:bp K aw.C "spent"
 cE:bp K aw.C "ground"
 iV:bp K aw.C "loads"
 eT:bp K aw.C "available"
 fk:bp K aw.C "tables"
 fj:bp K aw.C "marked"
 aK:Gc K mg "Unit" "Unit.__init__" pZ ["self","name","numbers"]
 gG:bp K aK.C "name"
 jM:bp K aK.C "least"
 gk:bp K aK.C "greatest"
 eV:bp K aK.C "start_cost"
 gn:bp K aK.C "run_cost"
 eU:bp K aK.C "level_cost"
 gm:bp K aK.C "hours_on"
 fG:bp K aK.C "hours_off"
 kO:bp K aK.C "ramp"
 aU:Gc K mg "Reader" "Reader.__init__" lK ["self","calls"]
 gM:bp K aU.C "calls"
 dB:bp K aU.C "place"
 dQ:Gf K mg "levels_count" kr ["unit"]
 fg:Gf K mg "modes_count" lO ["unit"]
 kj:Gf K mg "off_mode" tQ ["unit","hours"]
 yD:Gf K mg "on_mode" xo ["unit","hours","level"]
 uP:Gf K mg "is_on" DP ["unit","mode"]
 pH:Gf K mg "hours_in" tL ["unit","mode"]
 ja:Gf K mg "level_in" tM ["unit","mode"]
 qW:Gf K mg "told_mode" qj ["unit","mode"]
 iq:Gf K mg "choices_from_off" gz ["unit","hours","available"]
 jq:Gf K mg "choices_from_on" gV ["unit","hours","level","available"]
 uB:Gf K mg "choices" xf ["unit","mode","available"]
 mi:Gf K mg "hour_cost" qc ["unit","before","chosen"]
 fh:Gf K mg "modes_together" iJ ["units"]
 ju:Gf K mg "levels_together" gX ["units"]
 zS:Gf K mg "place_of" tT ["ground","modes"]
 zy:Gf K mg "modes_of" tP ["ground","place"]
 turned:Gf K mg "turned" Ac ["costs","size"]
 zq:Gf K mg "lesser" Ab ["some","others"]
 lD:Gf K mg "least_of_many" jA ["costs","width","many"]
 gy:Gf K mg "least_within_reach" fw ["steps","costs"]
 pk:Gf K mg "costs_of_on" lN ["steps","later"]
 jE:Gf K mg "costs_if_off" ko ["steps","later"]
 mK:Gf K mg "costs_if_out" kq ["steps","later"]
 gr:Gf K mg "costs_if_available" fv ["steps","later"]
 sW:Gf K mg "least_over" nH ["costs","steps","available"]
 fA:Gf K mg "costs_before" kn ["ground","load","available","later"]
 gw:Gf K mg "ground_for" nA ["plant"]
 eE:Gf K mg "costs_to_come" jy ["plant","hour"]
 gK:Gf K mg "cost_from_here" iH ["plant","costs"]
 iy:Gf K mg "least_cost" nG ["plant"]
 jt:Gf K mg "least_cost_with" gW ["plant","changed","load"]
 wz:Gf K mg "is_proved" qd ["plant","hour","told","told_later"]
 tf:Gf K mg "moves_from" nJ ["units","modes","available"]
 j8:Gf K mg "first_cheapest" iI ["ground","moves","load","later"]
 pX:Gf K mg "plan_levels" lP ["plant"]
 kI:Gm K aw.C "begin" "Plant.begin" lJ ["self","units"]
 iT:Gm K aw.C "set_day" "Plant.set_day" jx ["self","loads"]
 j0:Gm K aw.C "set_load" "Plant.set_load" iF ["self","hour","load"]
 di:Gm K aw.C "set_available" "Plant.set_available" eN ["self","unit","hours","available"]
 dh:Gm K aw.C "forget_tables" "Plant.forget_tables" eJ ["self","hour"]
 cq:Gm K aw.C "hours_to_come" "Plant.hours_to_come" eK ["self"]
 j3:Gm K aw.C "set_mark" "Plant.set_mark" iG ["self","cost"]
 jn:Gm K aw.C "pass_hour" "Plant.pass_hour" gT ["self","chosen","cost"]
 Dr:Gf K mg "mode_at" xn ["unit","mode","available","level"]
 uV:Gf K mg "modes_at" tO ["plant","modes","hour","levels"]
 qP:Gf K mg "move_cost" qe ["plant","modes","chosen"]
 vd:Gf K mg "parts_of" tS ["row","between"]
 xD:Gf K mg "tokens_of" qi ["line"]
 pf:Gf K mg "bytes_of" tK ["word"]
 Dj:Gf K mg "is_name" xh ["token"]
 wL:Gf K mg "number_of" qf ["token"]
 tm:Gf K mg "numbers_of" nN ["tokens"]
 yJ:Gf K mg "unit_of" xq ["line"]
 pI:Gf K mg "lines_of" tN ["text"]
 ir:Gf K mg "first_wrong_line" gA ["lines"]
 oG:Gf K mg "wrong_line" nW ["text"]
 AE:Gf K mg "units_of" tU ["text"]
 tj:Gf K mg "numbers_in" nL ["unit"]
 qM:Gf K mg "line_of" xk ["unit"]
 D7:Gf K mg "text_of" xp ["units"]
 j4:Gf K mg "all_within" nu ["numbers","most"]
 qJ:Gf K mg "is_unit" xi ["plant","number"]
 dP:Gf K mg "is_to_come" nB ["plant","hour"]
 iR:Gf K mg "units_call" nT ["plant","given"]
 iz:Gf K mg "loads_call" nI ["plant","given"]
 eG:Gf K mg "forecast_call" jz ["plant","given"]
 mq:Gf K mg "out_call" tR ["plant","given"]
 jT:Gf K mg "back_call" qa ["plant","given"]
 iw:Gf K mg "least_call" nF ["plant","given"]
 jX:Gf K mg "plan_call" qg ["plant","given"]
 sV:Gf K mg "judge_plan" nE ["plant","levels"]
 ik:Gf K mg "check_call" nv ["plant","given"]
 qI:Gf K mg "go_call" xg ["plant","given"]
 jZ:Gf K mg "trip_call" qk ["plant","given"]
 iQ:Gf K mg "table_call" nS ["plant","given"]
 iE:Gf K mg "prove_call" nP ["plant","given"]
 iO:Gf K mg "state_call" nR ["plant","given"]
 gF:Gf K mg "anchor_call" lM ["plant","given"]
 gI:Gf K mg "regret_call" lQ ["plant","given"]
 iS:Gf K mg "worth_call" nU ["plant","given"]
 iD:Gf K mg "print_call" nO ["plant","given"]
 fJ:Gf K mg "options_call" ku ["plant","given"]
 jY:Gf K mg "read_call" qh ["plant","given"]
 jV:Gf K mg "hour_call" qb ["plant","given"]
 jo:Gm K aU.C "has_more" "Reader.has_more" gU ["self"]
 dM:Gm K aU.C "take_number" "Reader.take_number" fq ["self"]
 dk:Gm K aU.C "take_numbers" "Reader.take_numbers" eO ["self","many"]
 tJ:Gf K mg "read_given" nQ ["reader","form"]
 answers:Gf K mg "answers" xc ["calls"]
 wK:mg "all"=none
 jN:mg "enumerate"=none
 ba:mg "len"=none
 qQ:mg "list"=none
 GJ:mg "max"=none
 pP:mg "min"=none
 GK:mg "ord"=none
 dD:mg "range"=none
 kP:mg "reversed"=none
 GL:mg "str"=none
 zB:mg "sum"=none
 iC:mg "zip"=none
 xB:Tok
 fD:mg "NO_PLAN"=some (.int 4000000000000000000 xB)
 D5:Tok
 uK:mg "BLANK"=some (.int 32 D5)
 ui:Tok
 j9:mg "LINE_END"=some (.int 10 ui)
 oC:Tok
 jJ:mg "MOST_UNITS"=some (.int 4 oC)
 kC:Tok
 kb:mg "LONGEST_NAME"=some (.int 8 kC)
 lW:Tok
 lC:mg "MOST_DIGITS"=some (.int 4 lW)
 iU:Addr
 uL:mg "WORDS"=some (.ref iU)
 mJ:∀H,eQ K H iU [.str "unit",.str "from",.str "to",.str "start",.str "run",.str "per",.str "up",.str "down",.str "ramp"]
 o9:Addr
 ze:mg "RANGES"=some (.ref o9)
 rY:Addr
 sH:∀H,eQ K H rY [.int 1,.int 60]
 rZ:Addr
 sI:∀H,eQ K H rZ [.int 1,.int 60]
 sf:Addr
 sJ:∀H,eQ K H sf [.int 0,.int 1000]
 sg:Addr
 sL:∀H,eQ K H sg [.int 0,.int 1000]
 sh:Addr
 sM:∀H,eQ K H sh [.int 0,.int 1000]
 si:Addr
 sN:∀H,eQ K H si [.int 1,.int 8]
 sj:Addr
 sO:∀H,eQ K H sj [.int 1,.int 8]
 sk:Addr
 sP:∀H,eQ K H sk [.int 1,.int 60]
 uA:∀H,eQ K H o9 [.ref rY,.ref rZ,.ref sf,.ref sg,.ref sh,.ref si,.ref sj,.ref sk]
 oB:Tok
 mY:mg "MOST_MODES"=some (.int 600 oB)
 oy:Tok
 mX:mg "MOST_HOURS"=some (.int 48 oy)
 qA:Tok
 kL:mg "MOST_LOAD"=some (.int 240 qA)
 oz:Tok
 jI:mg "MOST_LEVEL"=some (.int 60 oz)
 kD:Tok
 aZ:mg "NOT_IN_RANGE"=some (.int (-1) kD)
 uk:Tok
 sU:mg "NO_UNITS"=some (.int (-2) uk)
 kE:Tok
 cD:mg "NOT_THE_TIME"=some (.int (-3) kE)
 Az:Tok
 i9:mg "NOT_SO"=some (.int (-4) Az)
 uj:Tok
 sT:mg "NO_PLACE"=some (.int (-5) uj)
 iP:Tok
 iu:mg "NOT_TO_BE_DONE"=some (.int (-6) iP)
 gD:Tok
 gu:mg "CANT_BE_AT_LEVEL"=some (.int 1 gD)
 kz:Tok
 ka:mg "LOAD_NOT_MET"=some (.int 2 kz)
 kF:Tok
 gL:mg "WRONG_LENGTH"=some (.int 3 kF)
 xA:Tok
 wt:mg "NO_COST"=some (.int (-1) xA)
 yt:Addr
 Dc:mg "CALLS"=some (.ref yt)
 CF:∀H,eQ K H yt [.ref iR.f,.ref iz.f,.ref eG.f,.ref mq.f,.ref jT.f,.ref iw.f,.ref jX.f,.ref ik.f,.ref qI.f,.ref jZ.f,.ref iQ.f,.ref iE.f,.ref iO.f,.ref gF.f,.ref gI.f,.ref iS.f,.ref iD.f,.ref fJ.f,.ref jY.f,.ref jV.f]
 yu:Addr
 Dd:mg "FORMS"=some (.ref yu)
 vE:Addr
 vS:∀H,eQ K H vE [.int 0,.int 1]
 vF:Addr
 vT:∀H,eQ K H vF [.int 0,.int 1]
 vG:Addr
 vU:∀H,eQ K H vG [.int 2,.int 0]
 vH:Addr
 vV:∀H,eQ K H vH [.int 3,.int 0]
 vJ:Addr
 vW:∀H,eQ K H vJ [.int 1,.int 0]
 vK:Addr
 vX:∀H,eQ K H vK [.int 0,.int 0]
 vL:Addr
 vY:∀H,eQ K H vL [.int 0,.int 0]
 vM:Addr
 vZ:∀H,eQ K H vM [.int 0,.int 1]
 vN:Addr
 wa:∀H,eQ K H vN [.int 0,.int 1]
 vO:Addr
 wb:∀H,eQ K H vO [.int 1,.int 0]
 rM:Addr
 su:∀H,eQ K H rM [.int 1,.int 0]
 rN:Addr
 sv:∀H,eQ K H rN [.int 1,.int 2]
 rO:Addr
 sx:∀H,eQ K H rO [.int 0,.int 0]
 rP:Addr
 sy:∀H,eQ K H rP [.int 0,.int 0]
 rQ:Addr
 sA:∀H,eQ K H rQ [.int 0,.int 0]
 rR:Addr
 sC:∀H,eQ K H rR [.int 1,.int 0]
 rS:Addr
 sD:∀H,eQ K H rS [.int 0,.int 0]
 rT:Addr
 sE:∀H,eQ K H rT [.int 1,.int 0]
 rV:Addr
 sF:∀H,eQ K H rV [.int 0,.int 1]
 rX:Addr
 sG:∀H,eQ K H rX [.int 1,.int 0]
 CH:∀H,eQ K H yu [.ref vE,.ref vF,.ref vG,.ref vH,.ref vJ,.ref vK,.ref vL,.ref vM,.ref vN,.ref vO,.ref rM,.ref rN,.ref rO,.ref rP,.ref rQ,.ref rR,.ref rS,.ref rT,.ref rV,.ref rX]
open Vbbcag (place modeCount costOf isOn levelOf options)
def nV(l:List Nat):List V:=l.map fun(n:Nat)=>V.int (n:Int)
def uf(na:Addr)(u:Unit_):List (Str×V):=[("name",.ref na),("least",.int u.low),("greatest",.int u.high),("start_cost",.int u.start),("run_cost",.int u.run),("level_cost",.int u.per),("hours_on",.int u.up),("hours_off",.int u.down),("ramp",.int u.ramp)]
def bq(C:Addr)(H:Hp)(a:Addr)(u:Unit_):Prop:=∃dx na,H a=some (.ins C dx (uf na u))∧H na=some (.lst (nV u.name))
theorem bq.same{C:Addr}{H H':Hp}{a:Addr}{u:Unit_}(h:bq C H a u)(s:aN H H'):bq C H' a u:=by
 obtain⟨dx,na,h1,h2⟩:=h
 exact⟨dx,na,s _ _ h1,s _ _ h2⟩
section
variable{K:Frg}{mg:Str→Option Value}{H:Hp}{a:Addr}{u:Unit_}{Q:V→Prop}
theorem ly(T:Tx K mg)(h:bq T.aK.C H a u)(q:Q (.int u.low)):ig K H a "least" Q:=by
 obtain⟨dx,na,h1,_⟩:=h;exact fc h1 T.aK.cls T.jM rfl q
theorem kH(T:Tx K mg)(h:bq T.aK.C H a u)(q:Q (.int u.high)):ig K H a "greatest" Q:=by
 obtain⟨dx,na,h1,_⟩:=h;exact fc h1 T.aK.cls T.gk rfl q
theorem D8(T:Tx K mg)(h:bq T.aK.C H a u)(q:Q (.int u.start)):ig K H a "start_cost" Q:=by
 obtain⟨dx,na,h1,_⟩:=h;exact fc h1 T.aK.cls T.eV rfl q
theorem K2(T:Tx K mg)(h:bq T.aK.C H a u)(q:Q (.int u.run)):ig K H a "run_cost" Q:=by
 obtain⟨dx,na,h1,_⟩:=h;exact fc h1 T.aK.cls T.gn rfl q
theorem K1(T:Tx K mg)(h:bq T.aK.C H a u)(q:Q (.int u.per)):ig K H a "level_cost" Q:=by
 obtain⟨dx,na,h1,_⟩:=h;exact fc h1 T.aK.cls T.eU rfl q
theorem Me(T:Tx K mg)(h:bq T.aK.C H a u)(q:Q (.int u.up)):ig K H a "hours_on" Q:=by
 obtain⟨dx,na,h1,_⟩:=h;exact fc h1 T.aK.cls T.gm rfl q
theorem lX(T:Tx K mg)(h:bq T.aK.C H a u)(q:Q (.int u.down)):ig K H a "hours_off" Q:=by
 obtain⟨dx,na,h1,_⟩:=h;exact fc h1 T.aK.cls T.fG rfl q
theorem AD(T:Tx K mg)(h:bq T.aK.C H a u)(q:Q (.int u.ramp)):ig K H a "ramp" Q:=by
 obtain⟨dx,na,h1,_⟩:=h;exact fc h1 T.aK.cls T.kO rfl q
end
theorem DL{Q:VK}{H:Hp}{i j:Int}(q:Q (.int j) H)(e:i=j):Q (.int i) H:=by rw[e];exact q
section
variable{P:Program}{w:World}{K:Frg}{mg:Str→Option Value}{base:Heap}
def yq(C:Addr):Sp:=fun vs H Q _=>E2 fun a u=>A4 (vs=[.ref a]) (bq C H a u) (Wf u) (Q (.int (lc u:Nat)) H)
theorem eA(T:Tx K mg):dJ P w base 1 T.dQ (yq T.aK.C):=by
 refine T.dQ.fn.ok ym (fun vs H Q E h=>?_) (fun cdv A outer s H vs Q E hr h=>?_)
 ·obtain⟨a,u,rfl,_⟩:=h
  rfl
 ·obtain⟨a,u,rfl,hU,hw,k⟩:=h
  refine⟨_,(ag (au (aO bz (aO de (aj (pv 0) rfl) (aj (pv 0) rfl)) ak))),?_⟩
  refine⟨_,rfl,kH T hU ⟨_,rfl,ly T hU ⟨_,_,rfl,rfl,_,_,rfl,rfl,DL k ?_⟩⟩⟩
  have:=hw.lh
  show(u.high:Int)-(u.low:Int)+1=((lc u:Nat):Int)
  unfold lc;rw[TB this];exact congrArg (·+1) (R9 this).symm
def An(C:Addr):Sp:=fun vs H Q _=>E2 fun a u=>A4 (vs=[.ref a]) (bq C H a u) (Wf u) (Q (.int (modeCount u:Nat)) H)
theorem fo(T:Tx K mg):dJ P w base 2 T.fg (An T.aK.C):=by
 refine T.fg.fn.ok Af (fun vs H Q E h=>?_) (fun cdv A outer s H vs Q E hr h=>?_)
 ·obtain⟨a,u,rfl,_⟩:=h
  rfl
 ·obtain⟨a,u,rfl,hU,hw,k⟩:=h
  refine⟨_,(ag (au (aO bz (aj (pv 0) rfl) (aO jv (aj (pv 0) rfl) (aA T.dQ (eA T) hr (aa (pv 0) ae)))))),?_⟩
  refine⟨_,rfl,lX T hU ⟨_,rfl,Me T hU ⟨_,rfl,a,u,rfl,hU,hw,_,_,rfl,rfl,?_,_,_,rfl,rfl,DL k ?_⟩⟩⟩
  ·have:=hw.Np
   exact .inl ⟨by omega,by omega⟩
  ·show(u.down:Int)+(u.up:Int)*((lc u:Nat):Int)=_
   unfold modeCount lc;simp
def Fu(C:Addr):Sp:=fun vs H Q _=>E3 fun a u (h:Nat)=>A5 (vs=[.ref a,.int h]) (bq C H a u) (Wf u) (1≤h) (Q (.int (place u (.off (min h u.down)):Nat)) H)
theorem je(T:Tx K mg):dJ P w base 1 T.kj (Fu T.aK.C):=by
 refine T.kj.fn.ok Fl (fun vs H Q E h=>?_) (fun cdv A outer s H vs Q E hr h=>?_)
 ·obtain⟨a,u,h,rfl,_⟩:=h
  rfl
 ·obtain⟨a,u,h,rfl,hU,hw,h1,k⟩:=h
  refine⟨_,(ag (au (aO de (aH (jU rfl) rfl T.pP vR (aa (pv 1) (aa (aj (pv 0) rfl) ae))) ak))),?_⟩
  refine⟨_,rfl,_,rfl,lX T hU ⟨_,_,rfl,_,_,rfl,rfl,DL k ?_⟩⟩
  have:=hw.CM
  show(if (u.down:Int)<(h:Int)then(u.down:Int)else(h:Int))-1=((min h u.down-1:Nat):Int)
  rw[qK];exact(R9 (m:=1) (Tg.2 ⟨h1,this⟩)).symm
def G9(C:Addr):Sp:=fun vs H Q _=>E4 fun a u (h:Nat) (l:Nat)=>A6 (vs=[.ref a,.int h,.int l]) (bq C H a u) (Wf u) (1≤h) (u.low≤l) (Q (.int (place u (.on (min h u.up) l):Nat)) H)
theorem zI(T:Tx K mg):dJ P w base 2 T.yD (G9 T.aK.C):=by
 refine T.yD.fn.ok G2 (fun vs H Q E h=>?_) (fun cdv A outer s H vs Q E hr h=>?_)
 ·obtain⟨a,u,h,l,rfl,_⟩:=h
  rfl
 ·obtain⟨a,u,h,l,rfl,hU,hw,h1,h2,k⟩:=h
  refine⟨_,(ag (au (aO de (aO bz (aO bz (aj (pv 0) rfl) (aO jv (aO de (aH (jU rfl) rfl T.pP vR (aa (pv 1) (aa (aj (pv 0) rfl) ae))) ak) (aA T.dQ (eA T) hr (aa (pv 0) ae)))) (pv 2)) (aj (pv 0) rfl)))),?_⟩
  refine⟨_,rfl,lX T hU ⟨_,rfl,_,rfl,Me T hU ⟨_,_,rfl,_,_,rfl,rfl,_,rfl,a,u,rfl,hU,hw,_,_,rfl,rfl,?_,_,_,rfl,rfl,_,rfl,_,_,rfl,rfl,_,rfl,ly T hU ⟨_,_,rfl,rfl,DL k ?_⟩⟩⟩⟩
  ·have:=hw.Np
   exact .inl (by constructor<;>split<;>omega)
  ·have e:(if (u.up:Int)<(h:Int)then(u.up:Int)else(h:Int))-1=((min h u.up-1:Nat):Int):=by
    rw[qK];exact(R9 (m:=1) (Tg.2 ⟨h1,hw.up1⟩)).symm
   show(u.down:Int)+((if (u.up:Int)<(h:Int)then(u.up:Int)else(h:Int))-1)*((lc u:Nat):Int)+(l:Int)-(u.low:Int)=((u.down+(min h u.up-1)*(u.high+1-u.low)+(l-u.low):Nat):Int)
   rw[e]
   have e2:((lc u:Nat):Int)=((u.high+1-u.low:Nat):Int):=rfl
   rw[e2,←S9]
   exact(Int.add_sub_assoc ..).trans (congrArg (_+·) (R9 h2).symm)
def KN(C:Addr):Sp:=fun vs H Q _=>E3 fun a u m=>A4 (vs=[.ref a,.int (place u m:Nat)]) (bq C H a u) (rK u m) (Q (.bl (isOn m)) H)
theorem kl(T:Tx K mg):dJ P w base 1 T.uP (KN T.aK.C):=by
 refine T.uP.fn.ok KJ (fun vs H Q E h=>?_) (fun cdv A outer s H vs Q E hr h=>?_)
 ·obtain⟨a,u,m,rfl,_⟩:=h
  rfl
 ·obtain⟨a,u,m,rfl,hU,hm,k⟩:=h
  refine⟨_,(ag (au (yF EW (pv 1) (aj (pv 0) rfl) (aQ _)))),?_⟩
  refine⟨_,rfl,_,rfl,lX T hU ⟨_,_,rfl,rfl,?_⟩⟩
  rw[MZ hm]at k
  have e:decide ((u.down:Int)≤((place u m:Nat):Int))=decide (u.down≤place u m):=by
   congr 1;simp
  show Q (.bl (decide ((u.down:Int)≤((place u m:Nat):Int)))) H
  rw[e];exact k
def Fo(C:Addr):Sp:=fun vs H Q _=>E3 fun a u m=>A5 (vs=[.ref a,.int (place u m:Nat)]) (bq C H a u) (Wf u) (rK u m) (Q (.int (LH m:Nat)) H)
theorem zp{u:Unit_}(hw:Wf u):0<lc u:=by have:=hw.lh;unfold lc;omega
theorem Kc{u:Unit_}(hw:Wf u):lc u≤60:=by have:=hw.IZ;have:=hw.Lc;unfold lc;omega
theorem pS(T:Tx K mg):dJ P w base 2 T.pH (Fo T.aK.C):=by
 refine T.pH.fn.ok Fi (fun vs H Q E h=>?_) (fun cdv A outer s H vs Q E hr h=>?_)
 ·obtain⟨a,u,m,rfl,_⟩:=h
  rfl
 ·obtain⟨a,u,m,rfl,hU,hw,hm,k⟩:=h
  refine⟨_,(ab (bf (bS (aA T.uP (kl T) hr (aa (pv 0) (aa (pv 1) ae)))) (ag (au (aO bz (aO vb (aO de (pv 1) (aj (pv 0) rfl)) (aA T.dQ (eA T) hr (aa (pv 0) ae))) ak))) aP)
   (ag (au (aO bz (pv 1) ak)))),?_⟩
  refine⟨_,rfl,_,rfl,a,u,m,rfl,hU,hm,_,rfl,?_⟩
  cases m with
  | off h =>
   refine dg ?_
   refine⟨_,rfl,_,_,rfl,rfl,DL k ?_⟩
   simp only[rK]at hm
   show((h-1:Nat):Int)+1=(h:Int)
   omega
  | on h l =>
   refine bP ?_
   have h1:=Fc hm
   have h2:=zp hw
   have h3:=Kc hw
   refine⟨_,rfl,_,rfl,lX T hU ⟨_,_,rfl,rfl,_,rfl,a,u,rfl,hU,hw,_,_,rfl,rfl,⟨?_,?_⟩,_,_,rfl,rfl,DL k ?_⟩⟩
   ·show(0:Int)<((lc u:Nat):Int);omega
   ·show((lc u:Nat):Int)<_;omega
   ·have e:((place u (.on h l):Nat):Int)-(u.down:Int)=((place u (.on h l)-u.down:Nat):Int):=by
     have:u.down≤place u (.on h l):=by simp only[place];omega
     exact(R9 this).symm
    show(((place u (.on h l):Nat):Int)-(u.down:Int)) / ((lc u:Nat):Int)+1=(h:Int)
    obtain⟨g1,_⟩:=hm
    rw[e,←Ua,h1.1];exact congrArg (Nat.cast (R:=Int)) (RO g1)
def Fp(C:Addr):Sp:=fun vs H Q _=>E3 fun a u m=>A5 (vs=[.ref a,.int (place u m:Nat)]) (bq C H a u) (Wf u) (rK u m) (Q (.int (levelOf m:Nat)) H)
theorem gH(T:Tx K mg):dJ P w base 2 T.ja (Fp T.aK.C):=by
 refine T.ja.fn.ok Fj (fun vs H Q E h=>?_) (fun cdv A outer s H vs Q E hr h=>?_)
 ·obtain⟨a,u,m,rfl,_⟩:=h
  rfl
 ·obtain⟨a,u,m,rfl,hU,hw,hm,k⟩:=h
  refine⟨_,(ab (bf (bS (aA T.uP (kl T) hr (aa (pv 0) (aa (pv 1) ae)))) (ag (au (aO bz (aj (pv 0) rfl) (aO Kr (aO de (pv 1) (aj (pv 0) rfl)) (aA T.dQ (eA T) hr (aa (pv 0) ae)))))) aP)
   (ag (au ak))),?_⟩
  refine⟨_,rfl,_,rfl,a,u,m,rfl,hU,hm,_,rfl,?_⟩
  cases m with
  | off h=>exact dg k
  | on h l =>
   refine bP ?_
   have h1:=Fc hm
   have h2:=zp hw
   refine⟨_,rfl,ly T hU ⟨_,rfl,_,rfl,lX T hU ⟨_,_,rfl,rfl,_,rfl,a,u,rfl,hU,hw,_,_,rfl,rfl,?_,_,_,rfl,rfl,DL k ?_⟩⟩⟩
   ·show(0:Int)<((lc u:Nat):Int);omega
   ·have e:((place u (.on h l):Nat):Int)-(u.down:Int)=((place u (.on h l)-u.down:Nat):Int):=by
     have:u.down≤place u (.on h l):=by simp only[place];omega
     exact(R9 this).symm
    show(u.low:Int)+(((place u (.on h l):Nat):Int)-(u.down:Int)) % ((lc u:Nat):Int)=(l:Int)
    obtain⟨_,_,g3,_⟩:=hm
    rw[e,←WG,h1.2];exact congrArg (Nat.cast (R:=Int)) (RM g3)
def DV(C:Addr):Sp:=fun vs H Q _=>E4 fun a u m x=>A6 (vs=[.ref a,.int (place u m:Nat),.int (place u x:Nat)]) (bq C H a u) (Wf u) (rK u m) (rK u x) (Q (.int (costOf u m x:Nat)) H)
theorem m5(T:Tx K mg):dJ P w base 3 T.mi (DV T.aK.C):=by
 refine T.mi.fn.ok n9 (fun vs H Q E h=>?_) (fun cdv A outer s H vs Q E hr h=>?_)
 ·obtain⟨a,u,m,x,rfl,_⟩:=h
  rfl
 ·obtain⟨a,u,m,x,rfl,hU,hw,hm,hx,k⟩:=h
  refine⟨_,(ab (bf (cF (bS (aA T.uP (kl T) hr (aa (pv 0) (aa (pv 2) ae))))) (ag (au ak)) aP)
   (ab (ax (i:=3) n9.nd rfl (Or.inl rfl) (aO bz (aj (pv 0) rfl) (aO jv (aA T.ja (gH T) hr (aa (pv 0) (aa (pv 2) ae))) (aj (pv 0) rfl))))
   (ab (bf (cF (bS (aA T.uP (kl T) hr (aa (pv 0) (aa (pv 1) ae))))) (ag (zT (i:=3) n9.nd rfl (Or.inl rfl) (aj (pv 0) rfl) Di)) aP)
   (ag (au (pv 3)))))),?_⟩
  refine⟨_,rfl,_,rfl,a,u,x,rfl,hU,hx,_,rfl,?_⟩
  cases x with
  | off h=>exact bP k
  | on h l =>
   refine dg ?_
   refine⟨_,rfl,K2 T hU ⟨_,rfl,_,rfl,a,u,_,rfl,hU,hw,hx,_,rfl,K1 T hU ⟨_,_,rfl,rfl,?_,_,_,rfl,rfl,?_⟩⟩⟩
   ·have:=hw.Lc
    obtain⟨_,_,_,g⟩:=hx
    exact .inl ⟨by show(-(2^64):Int)<(l:Int);omega,by show(l:Int)<_;omega⟩
   ·refine⟨_,rfl,_,rfl,a,u,m,rfl,hU,hm,_,rfl,?_⟩
    cases m with
    | off g =>
     refine bP ?_
     refine⟨_,rfl,_,rfl,D8 T hU ⟨_,_,rfl,rfl,?_⟩⟩
     refine⟨_,rfl,DL k ?_⟩
     show(u.run:Int)+(l:Int)*(u.per:Int)+(u.start:Int)=((u.run+u.per*l+u.start:Nat):Int)
     rw[Wu];simp
    | on g r =>
     refine dg ?_
     refine⟨_,rfl,DL k ?_⟩
     show(u.run:Int)+(l:Int)*(u.per:Int)=((u.run+u.per*l+0:Nat):Int)
     rw[Wu];simp
theorem LJ(l r b:Nat):(if (b:Int)>(l:Int)-(r:Int)then(b:Int)else(l:Int)-(r:Int))=((max (l-r) b:Nat):Int):=by
 rcases UX r l with h|h
 ·rw[←R9 h]
  by_cases c:l-r<b
  ·rw[if_pos (TH.mpr c),Uz (RI c)]
  ·rw[if_neg (fun z=>c (TH.mp z)),WR (Q9 c)]
 ·rw[SO h,Uz (Sr _)]
  have d:(l:Int)-r≤0:=Int.sub_nonpos_of_le (Sq.mpr h)
  by_cases c:(b:Int)>(l:Int)-(r:Int)
  ·rw[if_pos c]
  ·rw[if_neg c]
   exact UT (Sb d (U5 b)) (Tf.mp c)
def DI(u:Unit_)(ms:List Mode):List V:=ms.map fun m=>V.int (place u m:Nat)
abbrev mE(H:Hp)(Q:VK)(xs:List V):Prop:=∀l H',aN H H'→H l=none→H' l=some (.lst xs)→Q (.ref l) H'
theorem sz{n:Nat}(h:n≤1000000):n≤sizeLine:=QK h (by decide)
theorem HZ{n:Nat}(h:n≤1000000):n<sizeLine:=So h (by decide)
def rf(C:Addr):Sp:=fun vs H Q _=>E4 fun a u (h:Nat) (fr:Bool)=>A6 (vs=[.ref a,.int h,.bl fr]) (bq C H a u) (Wf u) (1≤h) (h≤u.down) (mE H Q (DI u (options u fr (.off h))))
theorem qX(T:Tx K mg):dJ P w base 3 T.iq (rf T.aK.C):=by
 refine T.iq.fn.ok cw (fun vs H Q E h=>?_) (fun cdv A outer s H vs Q E hr h=>?_)
 ·obtain⟨a,u,h,fr,rfl,_⟩:=h
  rfl
 ·obtain⟨a,u,h,fr,rfl,hU,hw,h1,h2,k⟩:=h
  refine⟨_,(ab (ax (i:=3) cw.nd rfl (Or.inl rfl) (aE (aa (aA T.kj (je T) hr (aa (pv 0) (aa (aO bz (pv 1) ak) ae))) ae)))
   (ab (bf (PW.pt (DK (bS (pv 2)) (yG (aM rC (pv 1) (aj (pv 0) rfl) (aQ _))))) (ab (ax (i:=4) cw.nd rfl (Or.inl rfl) (aH (jU rfl) rfl T.pP vR (aa (aO bz (aj (pv 0) rfl) (aj (pv 0) rfl)) (aa (aj (pv 0) rfl) ae))))
   (ag (aX (dH PySem.F.plainAttrs_list PySem.F.slot_list_extend PySem.F.type_list_extend cB (pv 3) (aa (fN rfl cw.nd (wX rfl T.dD (aa (aj (pv 0) rfl) (aa (aO bz (pv 4) ak) ae))) (bj (own:=[("level",5)]) rfl) (fun _ _ _ _ _=>(aD (i:=5) cw.nd rfl (Or.inl rfl))) (fun _ _ _ _ _=>bJ) (fun _ _ _ _ _=>(aA T.yD (zI T) hr (aa (pv 0) (aa ak (aa (pv 5) ae)))))) ae))))) aP)
   (ag (au (pv 3))))),?_⟩
  refine⟨_,rfl,_,rfl,_,_,rfl,rfl,a,u,h+1,rfl,hU,hw,by omega,sz (by simp),fun p hp=>?_⟩
  have s1:aN H (upd H p (.lst [.int (place u (.off (min (h+1) u.down)):Nat)])):=aq hp
  rw[qS hw fr h h2]at k
  refine⟨_,rfl,fr,rfl,?_⟩
  by_cases c:fr=true
  ·subst c
   refine bP ?_
   refine⟨_,rfl,_,rfl,lX T (hU.same s1) ⟨rfl,_,rfl,?_⟩⟩
   refine bF (fun c=>?_) (fun c=>?_)
   ·have c2:h=u.down:=dI c
    rw[if_pos ⟨rfl,c2⟩]at k
    refine⟨_,rfl,ly T (hU.same s1) ⟨_,rfl,AD T (hU.same s1) ⟨_,_,rfl,rfl,_,rfl,kH T (hU.same s1) ⟨_,_,rfl,?_⟩⟩⟩⟩
    refine⟨_,rfl,.inl ⟨rfl,_,aF.of af⟩,?_⟩
    have l1:=hw.lh
    have l2:=hw.Lc
    have mn:=SR (QK (Rn (u.low+u.ramp) u.high) l2)
    have e0:(if (u.high:Int)<(u.low:Int)+(u.ramp:Int)then(u.high:Int)else(u.low:Int)+(u.ramp:Int))+1=((min (u.low+u.ramp) u.high+1:Nat):Int):=congrArg (·+1) (qK (u.low+u.ramp) u.high)
    refine⟨_,rfl,ly T (hU.same s1) ⟨_,rfl,_,_,rfl,rfl,(u.low:Int),((min (u.low+u.ramp) u.high+1:Nat):Int),v2 rfl e0,Qg (QK (QK l1 l2) (by decide)) (QK mn (by decide)),fun D hD=>?_⟩⟩
    rw[TR]
    refine bt (mC _ _) (fun j y _=>((Q5 (min (u.low+u.ramp) u.high+1-u.low)).map fun i=>V.int (place u (.on 1 (u.low+i)):Nat))[j]?=some y) (cI _) (sz (QK (Rq ..) (QK mn (by decide)))) hD (fun _ _=>trivial) (fun i x H2 H3 R hi s2 hne xy kk=>?_) (fun H2 B=>?_)
    ·obtain⟨rfl,rfl⟩:=xy
     refine⟨rfl,_,rfl,_,rfl,a,u,1,u.low+i,rfl,hU.same (s1.trans s2),hw,QP _,QR ..,kk _ _ (aN.refl _) ?_⟩
     have:=hw.up1
     rw[Q3 this,QI,Rt hi]
     rfl
    ·have e1:=B.eq (by simp)
     have s2:=B.cK
     have l2:=hw.IZ
     refine⟨p,D,_,_,rfl,rfl,s2 _ _ af,e1,sz (by simp;exact QK (RS (QK (Rq ..) mn) 1) (by decide)),?_⟩
     refine⟨_,rfl,k p _ (fun b o e=>?_) hp ?_⟩
     ·rw[ah (ao e hp)]
      exact s2 _ _ (s1 _ _ e)
     ·rw[af]
      simp[DI,Sd,TU]
   ·have c2:¬h=u.down:=Lb c
    rw[if_neg (fun q=>c2 q.2)]at k
    exact⟨_,rfl,k p _ s1 hp af⟩
  ·have e:fr=false:=by simpa using c
   subst e
   refine dg (dg ?_)
   rw[if_neg (by simp)]at k
   exact⟨_,rfl,k p _ s1 hp af⟩
def uc(C:Addr):Sp:=fun vs H Q _=>E5 fun a u (h:Nat) (l:Nat) (fr:Bool)=>A5 (vs=[.ref a,.int h,.int l,.bl fr]) (bq C H a u) (Wf u) (rK u (.on h l)) (mE H Q (DI u (options u fr (.on h l))))
theorem tE(T:Tx K mg):dJ P w base 3 T.jq (uc T.aK.C):=by
 refine T.jq.fn.ok bW (fun vs H Q E h=>?_) (fun cdv A outer s H vs Q E hr h=>?_)
 ·obtain⟨a,u,h,l,fr,rfl,_⟩:=h
  rfl
 ·obtain⟨a,u,h,l,fr,rfl,hU,hw,hm,k⟩:=h
  refine⟨_,(ab (bf (cF (bS (pv 3))) (ag (au (aE (aa (aA T.kj (je T) hr (aa (pv 0) (aa ak ae))) ae)))) aP)
   (ab (ax (i:=4) bW.nd rfl (Or.inl rfl) (aE ae))
   (ab (bf (aM rC (pv 1) (aj (pv 0) rfl) (aQ _)) (ag (aX (dH PySem.F.plainAttrs_list PySem.F.slot_list_append PySem.F.type_list_append cA (pv 4) (aa (aA T.kj (je T) hr (aa (pv 0) (aa ak ae))) ae)))) aP)
   (ab (ax (i:=5) bW.nd rfl (Or.inl rfl) (aH (Ir rfl) rfl T.GJ MH (aa (aO de (pv 2) (aj (pv 0) rfl)) (aa (aj (pv 0) rfl) ae))))
   (ab (ax (i:=6) bW.nd rfl (Or.inl rfl) (aH (jU rfl) rfl T.pP vR (aa (aO bz (pv 2) (aj (pv 0) rfl)) (aa (aj (pv 0) rfl) ae))))
   (ab (aX (dH PySem.F.plainAttrs_list PySem.F.slot_list_extend PySem.F.type_list_extend cB (pv 4) (aa (fN rfl bW.nd (wX rfl T.dD (aa (pv 5) (aa (aO bz (pv 6) ak) ae))) (bj (own:=[("reached",7)]) rfl) (fun _ _ _ _ _=>(aD (i:=7) bW.nd rfl (Or.inl rfl))) (fun _ _ _ _ _=>bJ) (fun _ _ _ _ _=>(aA T.yD (zI T) hr (aa (pv 0) (aa (aO bz (pv 1) ak) (aa (pv 7) ae)))))) ae)))
   (ag (au (pv 4))))))))),?_⟩
  have CM:=hw.CM
  have up1:=hw.up1
  have l1:=hw.lh
  have l0:=hw.IZ
  have l2:=hw.Lc
  obtain⟨m1,m2,m3,m4⟩:=hm
  refine⟨_,rfl,fr,rfl,?_⟩
  cases fr with
  | false =>
   refine bP ?_
   rw[yE]at k
   refine⟨_,rfl,a,u,1,rfl,hU,hw,QP _,sz (by simp),fun p hp=>?_⟩
   refine k p _ (aq hp) hp ?_
   rw[af,Q3 CM]
   rfl
  | true =>
   refine dg ?_
   rw[zN hw h l m2]at k
   refine⟨sz (by simp),fun p hp=>?_⟩
   have mn:=SR (QK (Rn (l+u.ramp) u.high) l2)
   have e0:(if (u.high:Int)<(l:Int)+(u.ramp:Int)then(u.high:Int)else(l:Int)+(u.ramp:Int))+1=((min (l+u.ramp) u.high+1:Nat):Int):=congrArg (·+1) (qK (l+u.ramp) u.high)
   have e1:(if (u.low:Int)>(l:Int)-(u.ramp:Int)then(u.low:Int)else(l:Int)-(u.ramp:Int))=((max (l-u.ramp) u.low:Nat):Int):=LJ l u.ramp u.low
   have s0:aN H (upd H p (.lst [])):=aq hp
   dsimp only[kK]
   refine iN (fun σ' H1=>σ'=[some (.ref a),some (.int h),some (.int l),some (.bl true),some (.ref p),none,none,none]∧aN H H1∧H1 p=some (.lst (DI u (if h=u.up then [Mode.off 1]else [])))) (fun σ' H1 hM=>?_) (fun N hN=>?_)
   ·obtain⟨rfl,s1,hp1⟩:=hM
    refine⟨_,rfl,_,rfl,AD T (hU.same s1) ⟨_,_,rfl,rfl,_,rfl,ly T (hU.same s1) ⟨_,_,rfl,?_⟩⟩⟩
    refine⟨_,rfl,_,rfl,AD T (hU.same s1) ⟨_,_,rfl,rfl,_,rfl,kH T (hU.same s1) ⟨_,_,rfl,?_⟩⟩⟩
    refine⟨_,rfl,.inl ⟨rfl,_,aF.of hp1⟩,?_⟩
    refine⟨_,rfl,_,rfl,_,_,rfl,rfl,((max (l-u.ramp) u.low:Nat):Int),((min (l+u.ramp) u.high+1:Nat):Int),v2 e1 e0,Qg (QK (W2.2 ⟨QK (Rq ..) (QK m4 l2),QK l1 l2⟩) (by decide)) (QK mn (by decide)),fun D hD=>?_⟩
    rw[TR]
    refine bt (mC _ _) (fun j y _=>((Q5 (min (l+u.ramp) u.high+1-max (l-u.ramp) u.low)).map fun i=>V.int (place u (.on (min (h+1) u.up) (max (l-u.ramp) u.low+i)):Nat))[j]?=some y) (cI _) (sz (QK (Rq ..) (QK mn (by decide)))) hD (fun _ _=>trivial) (fun i x H2 H3 R hi s2 hne xy kk=>?_) (fun H2 B=>?_)
    ·obtain⟨rfl,rfl⟩:=xy
     refine⟨rfl,_,rfl,_,rfl,_,_,rfl,rfl,_,rfl,a,u,h+1,max (l-u.ramp) u.low+i,rfl,hU.same (s1.trans s2),hw,Rx ..,QK (Uy ..) (QR ..),kk _ _ (aN.refl _) ?_⟩
     rw[QI,Rt hi]
     rfl
    ·have e1:=B.eq (by simp)
     have s2:=B.cK
     refine⟨p,D,_,_,rfl,rfl,s2 _ _ hp1,e1,sz ?_,?_⟩
     ·unfold DI
      split<;>simp
      ·exact QK (RS (QK (Rq ..) mn) 1) (by decide)
      ·exact QK (QK mn (by decide)) (QR ..)
     refine⟨_,rfl,k p _ (fun b o e=>?_) hp ?_⟩
     ·rw[ah (ao e hp)]
      exact s2 _ _ (s1 _ _ e)
     ·rw[af]
      simp[DI,Sd,TU]
   ·refine⟨_,rfl,_,rfl,Me T (hU.same s0) ⟨rfl,_,rfl,?_⟩⟩
    refine bF (fun c=>?_) (fun c=>?_)
    ·have c2:=dI c
     refine⟨_,rfl,.inl ⟨rfl,_,aF.of af⟩,?_⟩
     refine⟨_,rfl,a,u,1,rfl,hU.same s0,hw,QP _,p,_,_,rfl,rfl,af,by decide,?_⟩
     refine hN _ _ ⟨rfl,fun b o e=>?_,?_⟩
     ·rw[ah (ao e hp)]
      exact s0 _ _ e
     ·rw[af,if_pos c2,Q3 CM]
      rfl
    ·have c2:=Lb c
     refine hN _ _ ⟨rfl,s0,?_⟩
     rw[af,if_neg c2]
     rfl
def G3(C:Addr):Sp:=fun vs H Q _=>E4 fun a u m (fr:Bool)=>A5 (vs=[.ref a,.int (place u m:Nat),.bl fr]) (bq C H a u) (Wf u) (rK u m) (mE H Q (DI u (options u fr m)))
theorem tw(T:Tx K mg):dJ P w base 4 T.uB (G3 T.aK.C):=by
 refine T.uB.fn.ok G0 (fun vs H Q E h=>?_) (fun cdv A outer s H vs Q E hr h=>?_)
 ·obtain⟨a,u,m,fr,rfl,_⟩:=h
  rfl
 ·obtain⟨a,u,m,fr,rfl,hU,hw,hm,k⟩:=h
  refine⟨_,(ab (bf (bS (aA T.uP (kl T) hr (aa (pv 0) (aa (pv 1) ae)))) (ag (au (aA T.jq (tE T) hr (aa (pv 0) (aa (aA T.pH (pS T) hr (aa (pv 0) (aa (pv 1) ae))) (aa (aA T.ja (gH T) hr (aa (pv 0) (aa (pv 1) ae))) (aa (pv 2) ae))))))) aP)
   (ag (au (aA T.iq (qX T) hr (aa (pv 0) (aa (aA T.pH (pS T) hr (aa (pv 0) (aa (pv 1) ae))) (aa (pv 2) ae))))))),?_⟩
  refine⟨_,rfl,_,rfl,a,u,m,rfl,hU,hm,_,rfl,?_⟩
  cases m with
  | off h =>
   refine dg ?_
   exact⟨_,rfl,_,rfl,_,rfl,a,u,_,rfl,hU,hw,hm,_,rfl,a,u,h,fr,rfl,hU,hw,hm.1,hm.2,k⟩
  | on h l =>
   refine bP ?_
   exact⟨_,rfl,_,rfl,_,rfl,a,u,_,rfl,hU,hw,hm,_,rfl,_,rfl,a,u,_,rfl,hU,hw,hm,_,rfl,a,u,h,l,fr,rfl,hU,hw,hm,k⟩
open Vbbcag (modes stateCount)
def zV(zs:List Int):List V:=zs.map V.int
theorem aB(zs:List Int):(zV zs).length=zs.length:=QH ..
theorem gE{zs:List Int}{i:Nat}(h:i<zs.length):(zV zs)[i]?=some (.int (rd zs i)):=by
 unfold zV;rw[QI,bO h];rfl
theorem hZ(a b:List Int):zV a++zV b=zV (a++b):=by simp[zV]
theorem yL(a:List Int)(n:Nat):(zV a).drop n=zV (a.drop n):=by simp[zV,V6]
theorem yM(a:List Int)(n:Nat):(zV a).take n=zV (a.take n):=by simp[zV,V7]
theorem uh(xs:List V)(m n:Nat)(hn:0<n):kZ xs m n=stride xs m n:=by
 unfold kZ stride
 rw[HT.vi]
 have e:sliceRange ((min m xs.length:Nat):Int) (xs.length:Int) (n:Int)=(Q5 ((xs.length-m+n-1) / n)).map fun k=>m+n*k:=by
  unfold sliceRange
  simp only
  rw[if_pos (show(n:Int)>0 by omega)]
  by_cases h:m<xs.length
  ·rw[if_pos (by omega)]
   have e1:((xs.length:Int)-((min m xs.length:Nat):Int)+(n:Int)-1) / (n:Int)=(((xs.length-m+n-1) / n:Nat):Int):=by
    rw[Ua]
    congr 1
    rw[Q3 (RI h),←R9 (RI h),←Sf];exact(R9 (m:=1) (QK hn (Rx ..))).symm
   rw[e1,QW]
   apply RL
   intro k _
   rw[Q3 (by omega),←S9,←Sf,QW]
  ·rw[if_neg (by omega)]
   have e1:(xs.length-m+n-1) / n=0:=Tz (by rw[SO (Q9 h),TF];exact SS hn TC)
   rw[e1]
   rfl
 rw[e,List.filterMap_map]
 rfl
theorem He{α β:Type}(f:α→β)(xs:List α)(m n:Nat):stride (xs.map f) m n=(stride xs m n).map f:=by
 unfold stride
 rw[QH,List.map_filterMap]
 congr 1
 funext k
 rw[QI]
theorem JY{α β:Type}(f:α→Option β):∀L:List α,(L.filterMap f).length≤L.length
 | []=>QP _
 | a::L=>by
  rw[RR]
  have:=JY f L
  cases f a<;>simp<;>omega
theorem BQ{α:Type}(xs:List α)(m n:Nat)(hn:0<n):(stride xs m n).length≤xs.length:=by
 unfold stride
 refine QK (JY _ _) ?_
 rw[Q6]
 by_cases h:xs.length-m=0
 ·rw[h,Tz (by omega)];omega
 ·have:(xs.length-m+n-1) / n≤xs.length-m:=by
   refine Nat.div_le_of_le_mul ?_
   have:xs.length-m+n-1≤n*(xs.length-m):=by
    cases q:xs.length-m with
    | zero=>omega
    | succ d =>
     rw[XM]
     have:d≤n*d:=SH _ hn
     omega
   exact this
  omega
theorem B0(xs:List V)(k:Nat):j6 xs (some (k:Int)) none=xs.drop k:=by
 unfold j6
 rw[HT.vi,HT.Aa]
 by_cases h:k≤xs.length
 ·rw[Q3 h,Rk (by rw[QY];omega)]
 ·rw[Rv (by omega),Ta (QP _),Ta (by omega),Xo]
theorem Hu(xs:List V)(k:Nat):j6 xs none (some (k:Int))=xs.take k:=by
 unfold j6
 rw[HT.vi,HT.Aa,Tj,UY]
 by_cases h:k≤xs.length
 ·rw[Q3 h]
 ·rw[Rv (by omega),RF,Rk (by omega)]
theorem yY(xs:List V)(a b:Nat):j6 xs (some (a:Int)) (some (b:Int))=(xs.take b).drop a:=by
 unfold j6
 rw[HT.vi,HT.vi]
 by_cases h:a≤xs.length
 ·rw[Q3 h,U9]
  by_cases h2:b≤xs.length
  ·rw[Q3 h2]
  ·rw[Rv (by omega),Rk (by rw[QY];exact QP _),Rk (by rw[QY];exact SY (Nat.le_of_not_le h2) _)]
 ·rw[Rv (show xs.length≤a by omega),Ta (QP _),Ta (by rw[QZ];omega),Xo]
def Jl:Sp:=fun vs H Q _=>E3 fun a zs (n:Nat)=>A7 (vs=[.ref a,.int n]) (H a=some (.lst (zV zs))) (0<n) (n≤1000) ((∀i,i≤n→((Q5 i).flatMap fun m=>stride zs m n).length≤500000)) (zs.length≤500000) (mE H Q (zV (fL zs n)))
theorem Jf(T:Tx K mg):dJ P w base 1 T.turned Jl:=by
 refine T.turned.fn.ok xr (fun vs H Q E h=>?_) (fun cdv A outer s H vs Q E hr h=>?_)
 ·obtain⟨a,zs,n,rfl,_⟩:=h
  rfl
 ·obtain⟨a,zs,n,rfl,hA,hn,hn2,hb,hz,k⟩:=h
  refine⟨_,(ab (ax (i:=2) xr.nd rfl (Or.inl rfl) (aE ae))
   (ab (bU PassesOwn.never rfl (wW rfl T.dD (aa (pv 1) ae)) (aD (i:=3) xr.nd rfl (Or.inl rfl)) (ag (aX (dH PySem.F.plainAttrs_list PySem.F.slot_list_extend PySem.F.type_list_extend cB (pv 2) (aa (wV (pv 0) (pv 3) (pv 1)) ae)))))
   (ag (au (pv 2))))),?_⟩
  refine⟨sz (by simp),fun p hp=>?_⟩
  have s0:aN H (upd H p (.lst [])):=aq hp
  refine⟨_,rfl,_,rfl,by omega,by omega,?_⟩
  rw[QW]
  refine bC (mC _ _) (fun i σ H2=>∃v,A3 (σ=[some (.ref a),some (.int n),some (.ref p),v]) (aN H H2) (H2 p=some (.lst (zV ((Q5 i).flatMap fun m=>stride zs m n))))) ⟨none,rfl,s0,af⟩ (fun _ _ _ _ _=>trivial) (fun i x σ H2 H3 hi pv xy=>?_) (fun σ H2 pv=>?_)
  ·obtain⟨v,rfl,s2,h2⟩:=pv
   obtain⟨rfl,rfl⟩:=xy
   refine⟨_,rfl,.inl ⟨rfl,_,aF.of h2⟩,?_⟩
   have e:kZ (zV zs) (0+(i:Int)) (n:Int)=zV (stride zs i n):=by
    rw[XA,uh _ _ _ hn,zV,He];rfl
   refine⟨_,rfl,_,rfl,_,rfl,_,rfl,_,rfl,_,_,a,_,rfl,rfl,by omega,rfl,aF.of (s2 _ _ hA),?_,fun D hD=>?_⟩
   ·rw[e,aB,aB];exact BQ _ _ _ hn
   ·rw[e]
    have hD2:=s2.free hD
    have s3:=aq (o:=.lst (zV (stride zs i n))) hD
    refine⟨p,D,_,_,rfl,rfl,s3 _ _ h2,af,sz ?_,_,rfl,fun b o eb=>?_,?_⟩
    ·rw[aB,aB]
     have:=hb (i+1) (by omega)
     rw[TN,RH,QN,Rz]at this
     omega
    ·rw[ah (ao eb hp)]
     exact s3 _ _ (s2 _ _ eb)
    ·rw[af,hZ,TN,RH]
     simp
  ·obtain⟨v,rfl,s2,h2⟩:=pv
   exact⟨_,rfl,k p _ s2 hp h2⟩
def Jk:Sp:=fun vs H Q _=>E4 fun a b xs ys=>A5 (vs=[.ref a,.ref b]) (H a=some (.lst (zV xs))) (H b=some (.lst (zV ys))) (xs.length≤500000) (mE H Q (zV (du xs ys)))
theorem wO(T:Tx K mg):dJ P w base 1 T.zq Jk:=by
 refine T.zq.fn.ok qU (fun vs H Q E h=>?_) (fun cdv A outer s H vs Q E hr h=>?_)
 ·obtain⟨a,b,xs,ys,rfl,_⟩:=h
  rfl
 ·obtain⟨a,b,xs,ys,rfl,hA,hB,hx,k⟩:=h
  refine⟨_,(ag (au (fN rfl qU.nd (tH rfl T.iC (aa (pv 0) (aa (pv 1) ae))) (bj (own:=[("one",2),("other",3)]) rfl) (fun _ _ _ _ _=>(dv K (n:=2) rfl rfl (@aV _ _ _ _ _ (@aD _ _ 2 _ qU.nd rfl (Or.inl rfl) (by first|exact .inl rfl|exact .inr rfl)) (@aV _ _ _ _ _ (@aD _ _ 3 _ qU.nd rfl (Or.inl rfl) (by first|exact .inl rfl|exact .inr rfl)) dw rfl) rfl) rfl rfl)) (fun _ _ _ _ _=>bJ) (fun _ _ _ _ _=>(gR (aM km (pv 2) (pv 3) (aQ _)) (pv 2) (pv 3)))))),?_⟩
  refine⟨_,rfl,_,rfl,a,b,_,_,rfl,aF.of hA,aF.of hB,fun D hD=>?_⟩
  refine bt (uu _ a b (zV xs) (zV ys)) (fun j y _=>(zV (du xs ys))[j]?=some y) (cI _) (sz (by rw[aB,aB];exact QK (S8 ..) (QK hx (by decide)))) hD (fun H2 s2=>⟨aF.of (s2 _ _ hA),aF.of (s2 _ _ hB)⟩) (fun i x H2 H3 R hi s2 hne xy kk=>?_) (fun H2 B=>?_)
  ·obtain⟨t,x1,y1,rfl,ht,rfl,e1,e2⟩:=xy
   rw[aB,aB]at hi
   rw[gE (Sl.1 hi).1]at e1;rw[gE (Sl.1 hi).2]at e2
   cases e1;cases e2
   have el:(zV (du xs ys))[i]?=some (.int (if rd xs i<rd ys i then rd xs i else rd ys i)):=by
    unfold zV du
    rw[QI,RZ,bO (Sl.1 hi).1,bO (Sl.1 hi).2]
    rfl
   refine⟨t,_,rfl,eQ.of af,rfl,_,_,rfl,_,_,rfl,rfl,rfl,?_⟩
   refine⟨_,rfl,_,rfl,_,_,rfl,rfl,_,rfl,?_⟩
   refine bF (fun c=>?_) (fun c=>?_)
   ·refine⟨_,rfl,kk _ _ (aq ht) ?_⟩
    rw[if_pos (of_decide_eq_true c)]at el
    exact el
   ·refine⟨_,rfl,kk _ _ (aq ht) ?_⟩
    rw[if_neg (fun q=>c (decide_eq_true q))]at el
    exact el
  ·have e:=B.eq (by rw[aB,aB,aB,ke])
   exact k D _ B.cK hD e
theorem vI{i j:Int}(h:i=j):V.int i=V.int j:=congrArg V.int h
theorem Mh(zs:List Int)(k:Nat):j6 (zV zs) (some (k:Int)) none=zV (zs.drop k):=by rw[B0,yL]
theorem K6(zs:List Int)(k:Nat):j6 (zV zs) none (some (k:Int))=zV (zs.take k):=by rw[Hu,yM]
theorem Hq(zs:List Int)(a b:Nat):j6 (zV zs) (some (a:Int)) (some (b:Int))=zV ((zs.take b).drop a):=by rw[yY,yM,yL]
def xx:Sp:=fun vs H Q _=>E4 fun a zs (W:Nat) (s:Nat)=>A7 (vs=[.ref a,.int W,.int s]) (H a=some (.lst (zV zs))) (1≤s) (s≤1000) (W≤1000000) (zs.length≤500000) (∀l H',aN H H'→(H l=none∨l=a)→H' l=some (.lst (zV (sY zs W s)))→Q (.ref l) H')
theorem wN(T:Tx K mg):dJ P w base 2 T.lD xx:=by
 refine T.lD.fn.ok cC (fun vs H Q E h=>?_) (fun cdv A outer s H vs Q E hr h=>?_)
 ·obtain⟨a,zs,W,s,rfl,_⟩:=h
  rfl
 ·obtain⟨a,zs,W,m,rfl,hA,m1,m2,hW,hz,k⟩:=h
  refine⟨_,(ab (ax (i:=3) cC.nd rfl (Or.inl rfl) (pv 0))
   (ab (ax (i:=4) cC.nd rfl (Or.inl rfl) ak)
   (ab (zU PassesOwn.never (aM km (pv 4) (pv 2) (aQ _)) (ab (ax (i:=5) cC.nd rfl (Or.inl rfl) (aH (jU rfl) rfl T.pP vR (aa (pv 4) (aa (aO de (pv 2) (pv 4)) ae))))
   (ab (ax (i:=3) cC.nd rfl (Or.inl rfl) (aA T.zq (wO T) hr (aa (pv 3) (aa (cW eY (pv 3) (bY (aO jv (pv 5) (pv 1))) jP) ae))))
   (ag (zT (i:=4) cC.nd rfl (Or.inl rfl) (pv 5) Di)))))
   (ag (au (pv 3)))))),?_⟩
  refine⟨_,rfl,?_⟩
  refine⟨fun d σ H2=>∃l,∃t:Nat,∃v,σ=[some (.ref a),some (.int W),some (.int m),some (.ref l),some (.int t),v]∧1≤t∧t≤m∧d=m-t∧aN H H2∧(H l=none∨l=a)∧H2 l=some (.lst (zV (sY zs W t))),⟨m-1,a,1,none,rfl,QP _,m1,rfl,aN.refl _,.inr rfl,by rw[LL];exact hA⟩,?_⟩
  rintro d σ H2 ⟨l,t,v,rfl,t1,t2,rfl,s2,hl,h2⟩
  refine⟨_,rfl,_,rfl,_,_,rfl,rfl,_,rfl,?_⟩
  refine bF (fun c=>?_) (fun c=>?_)
  ·have c:=of_decide_eq_true c
   have ct:t<m:=by omega
   refine⟨fun σ' H'=>∃d',d'<m-t∧∃l,∃t:Nat,∃v,σ'=[some (.ref a),some (.int W),some (.int m),some (.ref l),some (.int t),v]∧1≤t∧t≤m∧d'=m-t∧aN H H'∧(H l=none∨l=a)∧H' l=some (.lst (zV (sY zs W t))),fun _ _ h=>h,?_⟩
   refine⟨_,rfl,_,rfl,_,rfl,_,_,rfl,rfl,_,_,rfl,?_⟩
   have e1:(if (m:Int)-(t:Int)<(t:Int)then(m:Int)-(t:Int)else(t:Int))=((min t (m-t):Nat):Int):=by rw[←R9 t2];exact qK t (m-t)
   rw[e1]
   generalize hg:min t (m-t)=g
   have g1:1≤g:=hg▸Tg.2 ⟨t1,Nat.sub_pos_of_lt ct⟩
   have g2:g≤t:=hg▸S8 ..
   refine⟨_,rfl,_,rfl,_,rfl,_,rfl,_,_,rfl,rfl,.inl ⟨by omega,by omega⟩,_,rfl,l,_,rfl,aF.of h2,fun D hD=>?_⟩
   rw[←S9,Mh]
   have s3:=aq (o:=.lst (zV ((sY zs W t).drop (g*W)))) hD
   refine⟨l,D,_,_,rfl,s3 _ _ h2,af,by rw[jK];omega,fun l' H4 s4 hn4 h4=>?_⟩
   rw[Ke t1 g1 g2]at h4
   refine⟨_,rfl,_,rfl,_,_,rfl,rfl,?_⟩
   refine⟨m-(t+g),Nat.sub_lt_sub_left ct (Nat.lt_add_of_pos_right g1),l',t+g,some (.int g),by simp,QK t1 (QR ..),Nat.add_le_of_le_sub' t2 (hg▸Rn ..),rfl,(s2.trans s3).trans s4,.inl ((s2.trans s3).free hn4),h4⟩
  ·have c:¬(t:Int)<(m:Int):=fun q=>c (decide_eq_true q)
   have e:t=m:=by omega
   subst e
   exact⟨_,rfl,k l _ s2 hl h2⟩
def Oi(oc:Addr)(u:Unit_)(W:Nat):List (Str×V):=[("size",.int (modeCount u:Nat)),("width",.int W),("off_end",.int ((u.down*W:Nat):Int)),("start_cost",.int u.start),("reach",.int (ve u:Nat)),("on_costs",.ref oc)]
def dN(C:Addr)(H:Hp)(a:Addr)(u:Unit_)(W:Nat):Prop:=∃dx oc,H a=some (.ins C dx (Oi oc u W))∧H oc=some (.lst (zV (kR u W)))
theorem dN.same{C:Addr}{H H':Hp}{a:Addr}{u:Unit_}{W:Nat}(h:dN C H a u W)(s:aN H H'):dN C H' a u W:=by
 obtain⟨dx,oc,h1,h2⟩:=h
 exact⟨dx,oc,s _ _ h1,s _ _ h2⟩
section
variable{K:Frg}{mg:Str→Option Value}{H:Hp}{a:Addr}{u:Unit_}{W:Nat}{Q:V→Prop}
theorem vx(T:Tx K mg)(h:dN T.aR.C H a u W)(q:Q (.int (modeCount u:Nat))):ig K H a "size" Q:=by
 obtain⟨dx,oc,h1,_⟩:=h;exact fc h1 T.aR.cls T.jL rfl q
theorem kx(T:Tx K mg)(h:dN T.aR.C H a u W)(q:Q (.int W)):ig K H a "width" Q:=by
 obtain⟨dx,oc,h1,_⟩:=h;exact fc h1 T.aR.cls T.iX rfl q
theorem Au(T:Tx K mg)(h:dN T.aR.C H a u W)(q:Q (.int ((u.down*W:Nat):Int))):ig K H a "off_end" Q:=by
 obtain⟨dx,oc,h1,_⟩:=h;exact fc h1 T.aR.cls T.gj rfl q
theorem KQ(T:Tx K mg)(h:dN T.aR.C H a u W)(q:Q (.int u.start)):ig K H a "start_cost" Q:=by
 obtain⟨dx,oc,h1,_⟩:=h;exact fc h1 T.aR.cls T.dS rfl q
theorem FA(T:Tx K mg)(h:dN T.aR.C H a u W)(q:Q (.int (ve u:Nat))):ig K H a "reach" Q:=by
 obtain⟨dx,oc,h1,_⟩:=h;exact fc h1 T.aR.cls T.iW rfl q
theorem KP(T:Tx K mg)(h:dN T.aR.C H a u W)(q:∀oc,H oc=some (.lst (zV (kR u W)))→Q (.ref oc)):ig K H a "on_costs" Q:=by
 obtain⟨dx,oc,h1,h2⟩:=h;exact fc h1 T.aR.cls T.dC rfl (q oc h2)
end
def o7(C:Addr):Sp:=fun vs H Q _=>E5 fun a b u zs (W:Nat)=>A7 (vs=[.ref a,.ref b]) (dN C H a u W) (Wf u) (W≤600) (H b=some (.lst (zV zs))) (zs.length≤1000) (mE H Q (zV (xb zs W (ve u))))
theorem Nc{u:Unit_}(hu:Wf u):ve u≤60:=by have:=hu.PJ;unfold ve;omega
theorem NI(n:Nat):(QU n [V.int NP]).flatten=zV (QU n NP):=by
 induction n with
 | zero=>rfl
 | succ n ih=>rw[RG,Ss,ih,RG];rfl
theorem oX(T:Tx K mg):dJ P w base 3 T.gy (o7 T.aR.C):=by
 refine T.gy.fn.ok ie (fun vs H Q E h=>?_) (fun cdv A outer s H vs Q E hr h=>?_)
 ·obtain⟨a,b,u,zs,W,rfl,_⟩:=h
  rfl
 ·obtain⟨a,b,u,zs,W,rfl,hS,hu,hW,hB,hz,k⟩:=h
  refine⟨_,(ab (ax (i:=2) ie.nd rfl (Or.inl rfl) (aO wQ (aE (aa (aL (v:=.int (4000000000000000000)) rfl T.fD ⟨_,rfl⟩) ae)) (aO jv (aj (pv 0) rfl) (aj (pv 0) rfl))))
   (ag (au (aA T.lD (wN T) hr (aa (aO fO (aO fO (pv 2) (pv 1)) (pv 2)) (aa (aj (pv 0) rfl) (aa (aO bz (aO jv ak (aj (pv 0) rfl)) ak) ae))))))),?_⟩
  have r60:=Nc hu
  have rW:ve u*W≤60*600:=Ti r60 hW
  refine⟨sz (by simp),fun p hp=>?_⟩
  have s1:=aq (o:=.lst [V.int 4000000000000000000]) hp
  refine⟨_,rfl,FA T (hS.same s1) ⟨_,rfl,kx T (hS.same s1) ⟨_,_,rfl,rfl,.inl ⟨by omega,by omega⟩,?_⟩⟩⟩
  refine⟨p,((ve u*W:Nat):Int),_,rfl,vI (by simp),af,by omega,by omega,sz (by rw[QW,TX];omega),fun q hq=>?_⟩
  rw[QW]
  have e0:(QU (ve u*W) [V.int 4000000000000000000]).flatten=zV (QU (ve u*W) NP):=NI _
  rw[e0]
  have s2:=s1.trans (aq (o:=.lst (zV (QU (ve u*W) NP))) hq)
  refine⟨_,rfl,_,rfl,q,b,_,_,rfl,rfl,af,s2 _ _ hB,sz (by rw[aB,aB,RE];omega),fun r hr1=>?_⟩
  rw[hZ]
  have s3:=aq (o:=.lst (zV (QU (ve u*W) NP++zs))) hr1
  refine⟨_,rfl,r,q,_,_,rfl,rfl,af,s3 _ _ af,sz (by rw[aB,aB,QN,RE];omega),fun t ht=>?_⟩
  rw[hZ]
  have s4:=(s2.trans s3).trans (aq (o:=.lst (zV (QU (ve u*W) NP++zs++QU (ve u*W) NP))) ht)
  refine⟨_,rfl,kx T (hS.same s4) ⟨_,rfl,FA T (hS.same s4) ⟨_,_,rfl,rfl,.inl ⟨by omega,by omega⟩,_,_,rfl,rfl,?_⟩⟩⟩
  refine⟨t,DE zs W (ve u),W,2*ve u+1,?_,af,by omega,by omega,by omega,?_,fun l H5 s5 hl h5=>?_⟩
  ·simp
  ·unfold DE
   simp only[QN,RE]
   omega
  ·refine k l H5 (s4.trans s5) ?_ h5
   rcases hl with hl|rfl
   ·exact s4.free hl
   ·exact(s2.trans s3).free ht
theorem cg(H:Hp)(a:Addr)(o o':HO):upd (upd H a o) a o'=upd H a o':=by
 funext b
 by_cases h:b=a
 ·subst h;rw[af,af]
 ·rw[ah h,ah h,ah h]
theorem fR{K:Frg}{H:Hp}{a C dx:Addr}{fs gs:List (Str×V)}{f:Str}{y:V}{N:Hp→Prop}(h:H a=some (.ins C dx fs))(c:Ec K C)(n:bp K C f)(e:bA f y fs=gs)(l:fs.length<1000)(q:N (upd H a (.ins C dx gs))) :
  E4 fun a' C' dx' fs'=>A6 (V.ref a=.ref a') (H a'=some (.ins C' dx' fs')) (Ec K C') (bp K C' f) (fs'.length<1000) (N (upd H a' (.ins C' dx' (bA f y fs')))):=⟨_,_,_,_,rfl,h,c,n,l,by rw[e];exact q⟩
theorem Of(n:Nat)(z:Int):(QU n [V.int z]).flatten=zV (QU n z):=by
 induction n with
 | zero=>rfl
 | succ n ih=>rw[RG,Ss,ih,RG];rfl
theorem xS{u:Unit_}(hu:Wf u):modeCount u≤488:=by
 have:=hu.O3;have:=hu.Np;have:=hu.Lc;have:=hu.IZ
 unfold modeCount
 have:u.up*(u.high+1-u.low)≤8*60:=Ti (by omega) (by omega)
 omega
def Bv(CU CS:Addr):Sp:=fun vs H Q _=>E5 fun x dx a u (W:Nat)=>A7 (vs=[.ref x,.ref a,.int W]) (H x=some (.ins CS dx [])) (bq CU H a u) (a≠x) (Wf u) (W≤600) (∀H' oc,H' x=some (.ins CS dx (Oi oc u W))→H' oc=some (.lst (zV (kR u W)))→H oc=none→(∀b o,H b=some o→b≠x→H' b=some o)→Q .non H')
theorem OF{CU:Addr}{H H':Hp}{x a:Addr}{u:Unit_}{C dx:Addr}{fs:List (Str×V)}(hU:bq CU H a u)(ne:a≠x)(hx:H x=some (.ins C dx fs))(f:∀b o,H b=some o→b≠x→H' b=some o):bq CU H' a u:=by
 obtain⟨d,na,h1,h2⟩:=hU
 exact⟨d,na,f _ _ h1 ne,f _ _ h2 (rq h2 hx (by intro q;cases q))⟩
theorem AX(T:Tx K mg):Mo P w base 3 T.aR (Bv T.aK.C T.aR.C):=by
 refine T.aR.fn.ok lR (fun vs H Q E h=>?_) (fun cdv A outer s H vs Q E hr h=>?_)
 ·obtain⟨x,dx,a,u,W,rfl,_⟩:=h
  rfl
 ·obtain⟨x,dx,a,u,W,rfl,hx,hU,hne,hu,hW,k⟩:=h
  refine⟨_,(ab (ax (i:=3) lR.nd rfl (Or.inl rfl) (aA T.dQ (eA T) hr (aa (pv 1) ae)))
   (ab (bK (pv 0) (aA T.fg (fo T) hr (aa (pv 1) ae)) rfl)
   (ab (bK (pv 0) (pv 2) rfl)
   (ab (bK (pv 0) (aO jv (aj (pv 1) rfl) (pv 2)) rfl)
   (ab (bK (pv 0) (aj (pv 1) rfl) rfl)
   (ab (bK (pv 0) (aH (jU rfl) rfl T.pP vR (aa (aj (pv 1) rfl) (aa (aO de (pv 3) ak) ae))) rfl)
   (ab (bK (pv 0) (aE ae) rfl)
   (ag (bU PassesOwn.never rfl (wX rfl T.dD (aa (aj (pv 1) rfl) (aa (aO bz (aj (pv 1) rfl) ak) ae))) (aD (i:=4) lR.nd rfl (Or.inl rfl)) (ag (aX (dH PySem.F.plainAttrs_list PySem.F.slot_list_extend PySem.F.type_list_extend cB (aj (pv 0) rfl) (aa (aO wQ (aE (aa (aO bz (aj (pv 1) rfl) (aO jv (pv 4) (aj (pv 1) rfl))) ae)) (pv 2)) ae))))))))))))),?_⟩
  have O3:=hu.O3
  have fr:∀fs,∀b o,H b=some o→b≠x→(upd H x (.ins T.aR.C dx fs)) b=some o:=fun fs b o e ne=>by rw[ah ne];exact e
  have U:∀fs,bq T.aK.C (upd H x (.ins T.aR.C dx fs)) a u:=fun fs=>OF hU hne hx (fr fs)
  refine⟨_,rfl,a,u,rfl,hU,hu,?_⟩
  refine⟨_,rfl,a,u,rfl,hU,hu,_,rfl,fR (gs:=[("size",.int (modeCount u:Nat))]) hx T.aR.cls T.jL rfl (by simp) ?_⟩
  refine⟨_,rfl,_,rfl,fR (gs:=[("size",.int (modeCount u:Nat)),("width",.int W)]) af T.aR.cls T.iX rfl (by simp) ?_⟩
  rw[cg]
  refine⟨_,rfl,lX T (U _) ⟨_,rfl,_,_,rfl,rfl,.inl ⟨by omega,by omega⟩,_,rfl,fR (gs:=[("size",.int (modeCount u:Nat)),("width",.int W),("off_end",.int ((u.down*W:Nat):Int))]) af T.aR.cls T.gj (by rw[S9];rfl) (by simp) ?_⟩⟩
  rw[cg]
  refine⟨_,rfl,D8 T (U _) ⟨_,rfl,fR (gs:=[("size",.int (modeCount u:Nat)),("width",.int W),("off_end",.int ((u.down*W:Nat):Int)),("start_cost",.int u.start)]) af T.aR.cls T.dS rfl (by simp) ?_⟩⟩
  rw[cg]
  have er:(if ((lc u:Nat):Int)-1<(u.ramp:Int)then((lc u:Nat):Int)-1 else(u.ramp:Int))=((ve u:Nat):Int):=by
   have e:((lc u:Nat):Int)-1=((lc u-1:Nat):Int):=(R9 (m:=1) (zp hu)).symm
   rw[e];exact qK ..
  refine⟨_,rfl,AD T (U _) ⟨_,rfl,_,_,rfl,rfl,_,_,rfl,_,rfl,fR (gs:=[("size",.int (modeCount u:Nat)),("width",.int W),("off_end",.int ((u.down*W:Nat):Int)),("start_cost",.int u.start),("reach",.int (ve u:Nat))]) af T.aR.cls T.iW (by rw[er];rfl) (by simp) ?_⟩⟩
  rw[cg]
  refine⟨sz (by simp),fun oc hoc=>⟨_,rfl,fR (gs:=Oi oc u W) (by rw[ah (ao af hoc)];exact af) T.aR.cls T.dC rfl (by simp) ?_⟩⟩
  have Mw:oc≠x:=fun q=>by rw[q,af]at hoc;cases hoc
  have hoc0:H oc=none:=by rw[ah Mw]at hoc;exact hoc
  have l1:=hu.IZ
  have lh:=hu.lh
  have Lc:=hu.Lc
  have F0:∀b o,H b=some o→b≠x→(upd (upd (upd H x (.ins T.aR.C dx [("size",.int (modeCount u:Nat)),("width",.int W),("off_end",.int ((u.down*W:Nat):Int)),("start_cost",.int u.start),("reach",.int (ve u:Nat))])) oc (.lst [])) x (.ins T.aR.C dx (Oi oc u W))) b=some o:=fun b o e ne=>by
   rw[ah ne,ah (ao e hoc0),ah ne];exact e
  refine⟨_,rfl,ly T (OF hU hne hx F0) ⟨_,rfl,kH T (OF hU hne hx F0) ⟨_,_,rfl,rfl,(u.low:Int),((u.high+1:Nat):Int),v2 rfl (by simp),⟨by omega,by omega,by omega,by omega⟩,?_⟩⟩⟩
  rw[TR]
  have elc:u.high+1-u.low=lc u:=rfl
  rw[elc]
  refine bC (mC _ _) (fun i σ H2=>∃v,A4 (σ=[some (.ref x),some (.ref a),some (.int W),some (.int ((lc u:Nat):Int)),v]) (H2 x=some (.ins T.aR.C dx (Oi oc u W))) (H2 oc=some (.lst (zV ((Q5 i).flatMap fun j=>QU W ((u.run:Int)+((u.low+j:Nat):Int)*(u.per:Int)))))) (∀b o,H b=some o→b≠x→H2 b=some o))
   ⟨none,rfl,af,by rw[ah Mw,af];rfl,F0⟩ (fun _ _ _ _ _=>trivial) (fun i v σ H2 H3 hi pv xy=>?_) (fun σ H2 pv=>?_)
  ·obtain⟨v0,rfl,hx2,ho2,f2⟩:=pv
   obtain⟨rfl,rfl⟩:=xy
   have U2:=OF hU hne hx f2
   have i60:i<60:=by have:=Kc hu;omega
   refine⟨_,rfl,fc hx2 T.aR.cls T.dC rfl ⟨.inl ⟨rfl,_,aF.of ho2⟩,?_⟩⟩
   refine⟨_,rfl,K2 T U2 ⟨_,rfl,_,rfl,K1 T U2 ⟨_,_,rfl,rfl,.inl ⟨by omega,by omega⟩,_,_,rfl,rfl,sz (by simp),fun p hp=>?_⟩⟩⟩
   refine⟨_,rfl,p,(W:Int),_,rfl,rfl,af,by omega,by omega,sz (by simp;omega),fun q hq=>?_⟩
   rw[QW,Of]
   have el:zV (QU W ((u.run:Int)+((u.low:Int)+(i:Int))*(u.per:Int)))=zV (QU W ((u.run:Int)+((u.low+i:Nat):Int)*(u.per:Int))):=by rw[Sf]
   rw[el]
   have np:oc≠p:=ao ho2 hp
   have nq:oc≠q:=ao (by rw[ah np];exact ho2) hq
   have npx:x≠p:=ao hx2 hp
   have nqx:x≠q:=ao (by rw[ah npx];exact hx2) hq
   refine⟨oc,q,_,_,rfl,rfl,by rw[ah nq,ah np];exact ho2,af,sz ?_,_,rfl,?_,?_,fun b o e ne=>?_⟩
   ·rw[aB,aB,RE,bZ _ W _ (fun a _=>by simp),Q6]
    have:i*W≤60*600:=Ti (by omega) hW
    omega
   ·rw[ah (Ne.symm Mw),ah nqx,ah npx];exact hx2
   ·rw[af,hZ,TN,RH,Rz]
   ·have:=f2 b o e ne
    rw[ah (ao e hoc0),ah (ao (by rw[ah (ao this hp)];exact this) hq),ah (ao this hp)]
    exact this
  ·obtain⟨v0,rfl,hx2,ho2,f2⟩:=pv
   exact k H2 oc hx2 ho2 hoc0 f2
def LR(R:Nat→Addr→Hp→Prop)(n:Nat)(H:Hp)(a:Addr):Prop:=∃rs:List Addr,H a=some (.lst (rs.map V.ref))∧rs.length=n∧∀i r,rs[i]?=some r→R i r H
def xJ(R:Nat→Addr→Hp→Prop):Prop:=∀i r H H',aN H H'→R i r H→R i r H'
theorem LR.same{R:Nat→Addr→Hp→Prop}{n:Nat}{H H':Hp}{a:Addr}(mo:xJ R)(h:LR R n H a)(s:aN H H'):LR R n H' a:=by
 obtain⟨rs,h1,h2,h3⟩:=h
 exact⟨rs,s _ _ h1,h2,fun i r e=>mo _ _ _ _ s (h3 i r e)⟩
def JB(R:Nat→Addr→Hp→Prop):Nat→V→Hp→Prop:=fun i y H=>∃r,y=.ref r∧R i r H
theorem jb{R:Nat→Addr→Hp→Prop}(mo:xJ R):Lm (JB R):=fun j y H H' s ⟨r,h1,h2⟩=>⟨r,h1,mo _ _ _ _ s h2⟩
theorem HS:∀{ys:List V},(∀(j:Nat)(y:V),ys[j]?=some y→∃r,y=V.ref r)→∃rs:List Addr,ys=rs.map V.ref
 | [],_=>⟨[],rfl⟩
 | y::ys,h=>by
  obtain⟨r,rfl⟩:=h 0 y rfl
  obtain⟨rs,rfl⟩:=HS (ys:=ys) fun j z e=>h (j+1) z e
  exact⟨r::rs,rfl⟩
theorem Built.Qq{R:Nat→Addr→Hp→Prop}{D:Addr}{H1 H:Hp}{n:Nat}(B:Built D H1 n (JB R) H):∃rs:List Addr,H D=some (.lst (rs.map V.ref))∧rs.length=n∧∀i r,rs[i]?=some r→R i r (AI H D):=by
 obtain⟨ys,h1,h2,h3⟩:=B.ex
 obtain⟨rs,rfl⟩:=HS (ys:=ys) fun j y e=>by
  obtain⟨r,e1,_⟩:=h3 j y e
  exact⟨r,e1⟩
 refine⟨rs,h1,by simpa using h2,fun i r e=>?_⟩
 obtain⟨r',e1,e2⟩:=h3 i (.ref r) (by rw[QI,e];rfl)
 cases e1
 exact e2
theorem Built.lr{R:Nat→Addr→Hp→Prop}{D:Addr}{H1 H:Hp}{n:Nat}(mo:xJ R)(B:Built D H1 n (JB R) H):LR R n H D:=by
 obtain⟨rs,h1,h2,h3⟩:=B.Qq
 exact⟨rs,h1,h2,fun i r e=>mo _ _ _ _ (pG _ _) (h3 i r e)⟩
def Ee(f:Nat→List Int):Nat→Addr→Hp→Prop:=fun i r H=>H r=some (.lst (zV (f i)))
theorem qO(f:Nat→List Int):xJ (Ee f):=fun i r H H' s h=>s _ _ h
theorem Nd{lo n c:Nat}(hc:0<c)(hc2:c≤1000000)(hl:lo≤1000000)(hn:n*c≤1000000):Mr (lo:Int) ((lo+n*c:Nat):Int) (c:Int) n:=by
 have es:Builtin.Range.rangeSize (lo:Int) ((lo+n*c:Nat):Int) (c:Int)=(n:Int):=by
  unfold Builtin.Range.rangeSize
  rw[if_pos (by omega)]
  by_cases h:n=0
  ·subst h
   rw[if_neg (by simp)]
   rfl
  ·have p:0<n*c:=WI (by omega) hc
   rw[if_pos (by omega)]
   have e1:((lo+n*c:Nat):Int)-(lo:Int)-1=((n*c-1:Nat):Int):=by omega
   rw[e1,←Ua]
   have e2:(n*c-1) / c=n-1:=by
    have e3:n*c-1=c*(n-1)+(c-1):=by
     have:n*c=(n-1)*c+c:=by rw[←RD];congr 1;exact(RO (Wo h)).symm
     rw[RP c,this,Wv hc]
    rw[e3,VB hc,Tz (SS hc TC)];rfl
   rw[e2];exact congrArg (Nat.cast (R:=Int)) (RO (Wo h))
 refine⟨by omega,by omega,?_,es⟩
 have nle:n≤1000000:=QK (Vn _ hc) hn
 unfold Builtin.Range.small
 rw[es]
 have hc3:(c:Int)>0:=by omega
 simp only[Builtin.Range.rangeFitsLong,Ro,VA,decide_eq_true_eq,beq_iff_eq,hc3,if_true]
 generalize n*c=m at *
 omega
def Am(C:Addr):Sp:=fun vs H Q _=>E5 fun a b u zs (W:Nat)=>A9 (vs=[.ref a,.ref b]) (dN C H a u W) (Wf u) (1≤W) (W≤600) (H b=some (.lst (zV zs))) (zs.length=modeCount u*W) (zs.length≤1000) (∀l H',aN H H'→H l=none→LR (Ee (onRow u W zs)) u.up H' l→Q (.ref l) H')
theorem zH(T:Tx K mg):dJ P w base 1 T.pk (Am T.aR.C):=by
 refine T.pk.fn.ok cG (fun vs H Q E h=>?_) (fun cdv A outer s H vs Q E hr h=>?_)
 ·obtain⟨a,b,u,zs,W,rfl,_⟩:=h
  rfl
 ·obtain⟨a,b,u,zs,W,rfl,hS,hu,W1,hW,hB,hz,hz2,k⟩:=h
  refine⟨_,(ab (ax (i:=2) cG.nd rfl (Or.inl rfl) (aE ae))
   (ab (ax (i:=3) cG.nd rfl (Or.inl rfl) (aH az rfl T.ba bh (aa (aj (pv 0) rfl) ae)))
   (ab (bU PassesOwn.never rfl (wY rfl T.dD (aa (aj (pv 0) rfl) (aa (aH az rfl T.ba bh (aa (pv 1) ae)) (aa (pv 3) ae)))) (aD (i:=4) cG.nd rfl (Or.inl rfl)) (ag (aX (dH PySem.F.plainAttrs_list PySem.F.slot_list_append PySem.F.type_list_append cA (pv 2) (aa (fN rfl cG.nd (tH rfl T.iC (aa (aj (pv 0) rfl) (aa (cW eY (pv 1) (bY (pv 4)) (bY (aO bz (pv 4) (pv 3)))) ae))) (bj (own:=[("cost",5),("to_come",6)]) rfl) (fun _ _ _ _ _=>(dv K (n:=2) rfl rfl (@aV _ _ _ _ _ (@aD _ _ 5 _ cG.nd rfl (Or.inl rfl) (by first|exact .inl rfl|exact .inr rfl)) (@aV _ _ _ _ _ (@aD _ _ 6 _ cG.nd rfl (Or.inl rfl) (by first|exact .inl rfl|exact .inr rfl)) dw rfl) rfl) rfl rfl)) (fun _ _ _ _ _=>bJ) (fun _ _ _ _ _=>(aO bz (pv 5) (pv 6)))) ae)))))
   (ag (au (pv 2)))))),?_⟩
  refine⟨sz (by simp),fun p hp=>?_⟩
  have s0:=aq (o:=.lst []) hp
  have lcp:=zp hu
  have em:modeCount u*W=u.down*W+u.up*(lc u*W):=by
   show(u.down+u.up*lc u)*W=_
   rw[Si,Su]
  have mp:0<lc u*W:=WI lcp W1
  have T1:=QK (Tr (em.symm.trans hz.symm)) hz2
  have mle:=QK (SH (lc u*W) hu.up1) (QK (Rx ..) T1)
  refine⟨_,rfl,KP T (hS.same s0) (fun oc hoc=>⟨oc,_,rfl,.inl (aF.of hoc),?_⟩)⟩
  rw[aB,cV]
  refine⟨_,rfl,Au T (hS.same s0) ⟨_,rfl,b,_,rfl,.inl (aF.of (s0 _ _ hB)),_,rfl,((u.down*W:Nat):Int),((u.down*W+u.up*(lc u*W):Nat):Int),((lc u*W:Nat):Int),u.up,?_,Nd mp (QK mle (by decide)) (QK (QK (QR ..) T1) (by decide)) (QK (QK (Rx ..) T1) (by decide)),?_⟩⟩
  ·rw[aB,hz,em]
  refine bC (xG _ _ _) (fun i σ H2=>EA (fun v=>σ=[some (.ref a),some (.ref b),some (.ref p),some (.int ((lc u*W:Nat):Int)),v,none,none]) (fun v=>Built p H i (JB (Ee (onRow u W zs))) H2)) ⟨none,rfl,Built.start hp⟩ (fun _ _ _ _ _=>trivial) (fun i x σ H2 H3 hi pv xy=>?_) (fun σ H2 pv=>?_)
  ·obtain⟨v,rfl,B⟩:=pv
   obtain⟨rfl,rfl⟩:=xy
   obtain⟨ys,hy,hy2,_⟩:=id B.ex
   refine⟨_,rfl,.inl ⟨rfl,_,aF.of hy⟩,?_⟩
   have s2:=B.cK
   refine⟨_,rfl,KP T (hS.same s2) (fun oc hoc=>?_)⟩
   refine⟨_,rfl,_,rfl,_,rfl,_,rfl,_,rfl,_,_,rfl,rfl,_,rfl,b,_,rfl,aF.of (s2 _ _ hB),fun q hq=>?_⟩
   have ec:j6 (zV zs) (some (((u.down*W:Nat):Int)+(i:Int)*((lc u*W:Nat):Int))) (some (((u.down*W:Nat):Int)+(i:Int)*((lc u*W:Nat):Int)+((lc u*W:Nat):Int)))=zV ((zs.drop (u.down*W+i*(lc u*W))).take (lc u*W)):=by
    have e1:((u.down*W:Nat):Int)+(i:Int)*((lc u*W:Nat):Int)=((u.down*W+i*(lc u*W):Nat):Int):=by rw[Sf,S9 i]
    have e2:((u.down*W+i*(lc u*W):Nat):Int)+((lc u*W:Nat):Int)=((u.down*W+i*(lc u*W)+lc u*W:Nat):Int):=by rw[Sf _ (lc u*W)]
    rw[e1,e2,Hq,U9,Rg]
   rw[ec]
   have s3:=aq (o:=.lst (zV ((zs.drop (u.down*W+i*(lc u*W))).take (lc u*W)))) hq
   have hoc3:=s3 _ _ hoc
   refine⟨oc,q,_,_,rfl,aF.of hoc3,aF.of af,fun D hD=>?_⟩
   have hl:=zM zs hz hi
   refine bt (uu _ oc q _ _) (fun j y _=>(zV (onRow u W zs i))[j]?=some y) (cI _) (sz (by rw[aB,aB,cV];exact QK (S8 ..) (QK mle (by decide)))) hD (fun H5 s5=>⟨aF.of (s5 _ _ hoc3),aF.of (s5 _ _ af)⟩) (fun j x H5 H6 R hj s5 hne xy kk=>?_) (fun H5 B5=>?_)
   ·obtain⟨t,x1,y1,rfl,ht,rfl,e1,e2⟩:=xy
    rw[aB,aB,cV,QZ,QY]at hj
    rw[gE (by rw[cV];exact(Sl.1 hj).1)]at e1
    rw[gE (by rw[QZ,QY];exact(Sl.1 hj).2)]at e2
    cases e1;cases e2
    refine⟨t,_,rfl,eQ.of af,rfl,_,_,rfl,_,_,rfl,rfl,rfl,_,rfl,_,rfl,_,_,rfl,rfl,kk _ _ (aq ht) ?_⟩
    unfold zV onRow
    rw[QI,RZ,bO (by rw[cV];exact(Sl.1 hj).1),bO (by rw[QZ,QY];exact(Sl.1 hj).2)]
    rfl
   ·have eD:=B5.eq (by rw[aB,aB,aB,cV,qR hz hi,QZ,QY];exact Q3 (Tg.2 ⟨QP _,Sk hl⟩))
    have s5:=s3.trans B5.cK
    have neD:D≠p:=fun e=>by
     subst e
     rw[s3 _ _ hy]at hD
     cases hD
    obtain⟨b1,b2⟩:=B.push (jb (qO _)) s5 (s5 _ _ hy) (y:=.ref D) ⟨D,rfl,by unfold Ee;rw[kd neD];exact eD⟩
    exact⟨p,_,_,rfl,rfl,s5 _ _ hy,HZ (by have:=hu.Np;omega),_,rfl,b2⟩
  ·obtain⟨v,rfl,B⟩:=pv
   exact⟨_,rfl,k p _ B.cK hp (B.lr (qO _))⟩
def Cs(C:Addr)(H:Hp)(vs:List V)(u:Unit_)(W:Nat)(zs:List Int)(a b:Addr):Prop:=vs=[.ref a,.ref b]∧dN C H a u W∧Wf u∧1≤W∧W≤600∧H b=some (.lst (zV zs))∧zs.length=modeCount u*W∧zs.length≤1000
def yo(C:Addr):Sp:=fun vs H Q _=>E5 fun a b u zs (W:Nat)=>(Cs C H vs u W zs a b)∧(mE H Q (zV (dU u W zs)))
theorem oK(T:Tx K mg):dJ P w base 1 T.jE (yo T.aR.C):=by
 refine T.jE.fn.ok yl (fun vs H Q E h=>?_) (fun cdv A outer s H vs Q E hr h=>?_)
 ·obtain⟨a,b,u,zs,W,⟨rfl,_⟩,_⟩:=h
  rfl
 ·obtain⟨a,b,u,zs,W,⟨rfl,hS,hu,W1,hW,hB,hz,hz2⟩,k⟩:=h
  refine⟨_,(ag (au (aO fO (cW eY (pv 1) (bY (aj (pv 0) rfl)) (bY (aj (pv 0) rfl))) (cW eY (pv 1) (bY (aO de (aj (pv 0) rfl) (aj (pv 0) rfl))) (bY (aj (pv 0) rfl)))))),?_⟩
  refine⟨_,rfl,_,rfl,kx T hS ⟨_,rfl,_,rfl,Au T hS ⟨_,rfl,b,_,rfl,aF.of hB,fun p hp=>?_⟩⟩⟩
  rw[Hq]
  have s1:=aq (o:=.lst (zV ((zs.take (u.down*W)).drop W))) hp
  have hS1:=hS.same s1
  have h2:=(eI hu W).1
  have e1:((u.down*W:Nat):Int)-(W:Int)=((u.down*W-W:Nat):Int):=(R9 (by rw[h2];exact Rx ..)).symm
  refine⟨_,rfl,_,rfl,Au T hS1 ⟨_,rfl,kx T hS1 ⟨_,_,rfl,rfl,_,rfl,_,rfl,Au T hS1 ⟨_,rfl,b,_,rfl,aF.of (s1 _ _ hB),fun q hq=>?_⟩⟩⟩⟩
  rw[e1,Hq]
  have s2:=aq (o:=.lst (zV ((zs.take (u.down*W)).drop (u.down*W-W)))) hq
  refine⟨p,q,_,_,rfl,rfl,s2 _ _ af,af,sz (by rw[aB,aB,QY,QY,QZ];exact QK (SE (QK (Rq ..) (QK (Rn ..) hz2)) (QK (Rq ..) (QK (Rn ..) hz2))) (by decide)),fun r hr1=>?_⟩
  rw[hZ]
  exact k r _ ((s1.trans s2).trans (aq hr1)) ((s1.trans s2).free hr1) af
theorem Og(n:Nat)(zs:List Int):(QU n (zV zs)).flatten=zV (zY n zs):=by
 unfold zY
 induction n with
 | zero=>rfl
 | succ n ih=>rw[RG,Ss,ih,hZ,RG,Ss]
def yp(C:Addr):Sp:=fun vs H Q _=>E5 fun a b u zs (W:Nat)=>(Cs C H vs u W zs a b)∧(mE H Q (zV (wR u W zs)))
theorem yi(T:Tx K mg):dJ P w base 2 T.mK (yp T.aR.C):=by
 refine T.mK.fn.ok oO (fun vs H Q E h=>?_) (fun cdv A outer s H vs Q E hr h=>?_)
 ·obtain⟨a,b,u,zs,W,⟨rfl,_⟩,_⟩:=h
  rfl
 ·obtain⟨a,b,u,zs,W,⟨rfl,hS,hu,W1,hW,hB,hz,hz2⟩,k⟩:=h
  refine⟨_,(ab (ax (i:=2) oO.nd rfl (Or.inl rfl) (aO de (aj (pv 0) rfl) (aO vb (aj (pv 0) rfl) (aj (pv 0) rfl))))
   (ag (au (aO fO (aA T.jE (oK T) hr (aa (pv 0) (aa (pv 1) ae))) (aO wQ (cW eY (pv 1) jP (bY (aj (pv 0) rfl))) (pv 2)))))),?_⟩
  have dd:((u.down*W:Nat):Int) / (W:Int)=(u.down:Int):=by rw[S9,V3 _ (by omega)]
  have em:((modeCount u:Nat):Int)-(u.down:Int)=((modeCount u-u.down:Nat):Int):=(R9 (QR ..)).symm
  refine⟨_,rfl,vx T hS ⟨_,rfl,Au T hS ⟨_,rfl,kx T hS ⟨_,_,rfl,rfl,⟨by omega,by omega⟩,_,_,rfl,rfl,?_⟩⟩⟩⟩
  dsimp only
  rw[dd,em]
  refine⟨_,rfl,_,rfl,a,b,u,zs,W,⟨rfl,hS,hu,W1,hW,hB,hz,hz2⟩,fun p H1 s1 hp1 hp2=>?_⟩
  have hS1:=hS.same s1
  refine⟨_,rfl,_,rfl,kx T hS1 ⟨_,rfl,b,_,rfl,aF.of (s1 _ _ hB),fun q hq=>?_⟩⟩
  rw[K6]
  have s2:=aq (o:=.lst (zV (zs.take W))) hq
  have tl:=kG hu hz
  have mm:modeCount u*W=u.down*W+(modeCount u-u.down)*W:=by rw[←Si];congr 1;exact(RM (QR ..)).symm
  have mc:=xS hu
  refine⟨_,rfl,q,_,_,rfl,rfl,af,by omega,by omega,sz (by rw[aB,tl,QW,RP];omega),fun r hr1=>?_⟩
  rw[QW,Og]
  have s3:=aq (o:=.lst (zV (zY (modeCount u-u.down) (zs.take W)))) hr1
  refine⟨p,r,_,_,rfl,rfl,s3 _ _ (s2 _ _ hp2),af,sz (by rw[aB,aB,dX hu hz,vg,tl];omega),fun t ht=>?_⟩
  rw[hZ]
  have s4:=((s1.trans s2).trans s3)
  exact k t _ (s4.trans (aq ht)) (s4.free ht) af
theorem JO(xs:List V){k:Nat}(h0:0<k)(h:k≤xs.length):j6 xs none (some (-(k:Int)))=xs.take (xs.length-k):=by
 unfold j6 HT.zZ
 simp only
 rw[if_pos (by omega),Tj]
 congr 1
 exact tn
theorem Ga(xs:List V){k:Nat}(h0:0<k)(h:k≤xs.length):j6 xs (some (-(k:Int))) none=xs.drop (xs.length-k):=by
 unfold j6 HT.zZ
 simp only
 rw[if_pos (by omega)]
 have e:(-(k:Int)+(xs.length:Int)).toNat=xs.length-k:=tn
 rw[e,Rk (by rw[QY];exact QP _)]
theorem yy{α:Type}{xs:List α}{v:α}{n:Nat}(hl:xs.length=n+1)(h:xs[n]?=some v):Ls xs (-1)=some v:=by
 unfold Ls J9
 rw[hl,if_neg (by decide),if_pos (by omega)]
 have e:((-1:Int)+((n+1:Nat):Int)).toNat=n:=tn (k:=1)
 simp only[Option.bind_some,e,h]
def oZ(C:Addr):Sp:=fun vs H Q _=>E5 fun a b u zs (W:Nat)=>(Cs C H vs u W zs a b)∧(mE H Q (zV (l9 u W zs)))
theorem oU(T:Tx K mg):dJ P w base 4 T.gr (oZ T.aR.C):=by
 refine T.gr.fn.ok aW (fun vs H Q E h=>?_) (fun cdv A outer s H vs Q E hr h=>?_)
 ·obtain⟨a,b,u,zs,W,⟨rfl,_⟩,_⟩:=h
  rfl
 ·obtain⟨a,b,u,zs,W,⟨rfl,hS,hu,W1,hW,hB,hz,hz2⟩,k⟩:=h
  refine⟨_,(ab (ax (i:=2) aW.nd rfl (Or.inl rfl) (aj (pv 0) rfl))
   (ab (pY (i:=3) rfl aW.nd rfl rfl (vy rfl rfl rfl rfl) (bu (aA T.pk (zH T) hr (aa (pv 0) (aa (pv 1) ae)))) (bj (own:=[("costs",7)]) rfl) (fun _ _ _ _ _=>(aD (i:=7) aW.nd rfl (Or.inl rfl))) (fun _ _ _ _ _=>bJ) (fun _ _ _ _ _=>(aA T.gy (oX T) hr (aa (pv 0) (aa (pv 7) ae)))))
   (ab (pY (i:=4) rfl aW.nd rfl rfl (vy rfl rfl rfl rfl) (bu (cW eY (aT aG (pv 3) ak (fun _ _=>rfl)) jP (bY (pv 2)))) (bj (own:=[("cost",9)]) rfl) (fun _ _ _ _ _=>(aD (i:=9) aW.nd rfl (Or.inl rfl))) (fun _ _ _ _ _=>bJ) (fun _ _ _ _ _=>(aO bz (pv 9) (DF K rfl (pv 0) rfl))))
   (ab (ax (i:=5) aW.nd rfl (Or.inl rfl) (aA T.jE (oK T) hr (aa (pv 0) (aa (pv 1) ae))))
   (ab (ax (i:=6) aW.nd rfl (Or.inl rfl) (aO fO (cW eY (pv 5) jP (bY (oN jB (pv 2)))) (aA T.zq (wO T) hr (aa (cW eY (pv 5) (bY (oN jB (pv 2))) jP) (aa (pv 4) ae)))))
   (ab (bU PassesOwn.never rfl (bu (cW eY (pv 3) (bY ak) jP)) (aD (i:=7) aW.nd rfl (Or.inl rfl)) (ag (aX (dH PySem.F.plainAttrs_list PySem.F.slot_list_extend PySem.F.type_list_extend cB (pv 6) (aa (pv 7) ae)))))
   (ab (ax (i:=8) aW.nd rfl (Or.inl rfl) (aO wQ (cW eY (pv 1) jP (bY (pv 2))) (aO vb (aH az rfl T.ba bh (aa (aj (pv 0) rfl) ae)) (pv 2))))
   (ag (au (aO fO (pv 6) (aA T.zq (wO T) hr (aa (aT aG (pv 3) (oN jB ak) (fun _ _=>rfl)) (aa (pv 8) ae))))))))))))),?_⟩
  have up1:=hu.up1
  have Np:=hu.Np
  have CM:=hu.CM
  have em:modeCount u*W=u.down*W+u.up*(lc u*W):=by
   show(u.down+u.up*lc u)*W=_
   rw[Si,Su]
  have lcw:lc u*W≤u.up*(lc u*W):=SH _ up1
  have wlc:W≤lc u*W:=SH _ (zp hu)
  have dW:W≤u.down*W:=SH _ CM
  have T1:=QK (Tr (em.symm.trans hz.symm)) hz2
  have ll:=QK lcw (QK (Rx ..) T1)
  have ul1:=SS up1 TC
  refine⟨_,rfl,kx T hS ?_⟩
  refine⟨_,rfl,_,rfl,a,b,u,zs,W,rfl,hS,hu,W1,hW,hB,hz,hz2,fun l H1 s1 hl1 hL=>?_⟩
  obtain⟨rs,hl,hlen,hrs⟩:=hL
  refine⟨l,rfl,⟨_,aF.of hl⟩,fun D hD=>?_⟩
  refine bt (bw _ l (rs.map V.ref)) (JB (Ee (cJ u W zs))) (jb (qO _)) (sz (by rw[QH,hlen];exact QK Np (by decide))) hD (fun H5 s5=>aF.of (s5 _ _ hl)) (fun i x H5 H6 R hi s5 hne xy kk=>?_) (fun H5 B5=>?_)
  ·obtain⟨rfl,e⟩:=xy
   rw[QH,hlen]at hi
   rw[QI]at e
   obtain⟨r,er,rfl⟩:=QQ.mp e
   refine⟨rfl,_,rfl,_,rfl,a,r,u,onRow u W zs i,W,rfl,hS.same (s1.trans s5),hu,hW,s5 _ _ (hrs i r er),by rw[qR hz hi];exact ll,fun q H7 s7 hq7 h7=>kk _ _ s7 ⟨q,rfl,?_⟩⟩
   unfold Ee
   rw[kd (fun e=>hne (by rw[←e];exact hq7))]
   exact h7
  rw[QH,hlen]at B5
  obtain⟨ps,hD5,hplen,hps⟩:=B5.lr (qO _)
  have s5:=s1.trans B5.cK
  obtain⟨r0,er0⟩:∃r,ps[0]?=some r:=⟨_,QJ (by rw[hplen];exact up1)⟩
  obtain⟨rl,erl⟩:∃r,ps[u.up-1]?=some r:=⟨_,QJ (by rw[hplen];exact ul1)⟩
  have hr0:=hps 0 r0 er0
  have hrl:=hps (u.up-1) rl erl
  unfold Ee at hr0 hrl
  refine⟨_,rfl,D,_,_,_,rfl,rfl,aF.of hD5,at_of (j:=0) (v:=.ref r0) rfl (by rw[QI,er0];rfl),_,rfl,_,rfl,r0,_,rfl,aF.of hr0,fun q hq=>?_⟩
  rw[K6]
  have s6:=aq (o:=.lst (zV ((cJ u W zs 0).take W))) hq
  refine⟨q,rfl,⟨_,aF.of af⟩,fun D2 hD2=>?_⟩
  have rlen0:=cX hz up1
  have tk0:((cJ u W zs 0).take W).length=W:=by rw[QZ,rlen0];exact Q3 wlc
  refine bt (bw _ q (zV ((cJ u W zs 0).take W))) (fun j y _=>(zV (gq u W zs))[j]?=some y) (cI _) (sz (by rw[aB,tk0];exact QK hW (by decide))) hD2 (fun H7 s7=>aF.of (s7 _ _ af)) (fun i x H7 H8 R hi s7 hne xy kk=>?_) (fun H7 B7=>?_)
  ·obtain⟨rfl,e⟩:=xy
   rw[aB]at hi
   rw[gE hi]at e
   cases e
   refine⟨rfl,_,rfl,_,rfl,KQ T (hS.same ((s5.trans s6).trans s7)) ⟨_,_,rfl,rfl,kk _ _ (aN.refl _) ?_⟩⟩
   unfold zV gq
   rw[QI,QI,bO hi]
   rfl
  have eD2:=B7.eq (by rw[aB,aB,tk0,kY hu hz])
  have s7:=s6.trans B7.cK
  have s07:=s5.trans s7
  refine⟨_,rfl,_,rfl,a,b,u,zs,W,⟨rfl,hS.same s07,hu,W1,hW,s07 _ _ hB,hz,hz2⟩,fun o H8 s8 ho8 ho=>?_⟩
  have ol:=dX hu hz
  have olv:(zV (dU u W zs)).length=u.down*W:=by rw[aB,ol]
  refine⟨_,rfl,_,rfl,_,rfl,_,rfl,o,_,rfl,aF.of ho,fun p1 hp1=>?_⟩
  rw[JO _ W1 (by rw[olv];exact dW),olv,yM]
  have s9:=aq (o:=.lst (zV ((dU u W zs).take (u.down*W-W)))) hp1
  refine⟨_,rfl,_,rfl,_,rfl,_,rfl,o,_,rfl,aF.of (s9 _ _ ho),fun p2 hp2=>?_⟩
  rw[Ga _ W1 (by rw[olv];exact dW),olv,yL]
  have s10:=aq (o:=.lst (zV ((dU u W zs).drop (u.down*W-W)))) hp2
  refine⟨_,rfl,p2,D2,_,_,rfl,af,s10 _ _ (s9 _ _ (s8 _ _ eD2)),by rw[QY,ol,Te dW];exact QK hW (by decide),fun p3 H11 s11 hp3 h11=>?_⟩
  obtain⟨a1,a2,a3,a4⟩:=sr hu hz
  refine⟨p1,p3,_,_,rfl,rfl,s11 _ _ (s10 _ _ af),h11,sz (by rw[aB,aB,a1,a2,←(eI hu W).1];exact QK (QK (QR ..) T1) (by decide)),fun p hp=>?_⟩
  rw[hZ]
  have s12:=(((s8.trans s9).trans s10).trans s11)
  have s012:=s07.trans s12
  have s13:=aq (o:=.lst (zV ((dU u W zs).take (u.down*W-W)++du ((dU u W zs).drop (u.down*W-W)) (gq u W zs)))) hp
  have s713:=(s7.trans s12).trans s13
  refine⟨_,rfl,_,rfl,D,_,rfl,aF.of (s713 _ _ hD5),fun p4 hp4=>?_⟩
  have e1:j6 (ps.map V.ref) (some (1:Int)) none=(ps.drop 1).map V.ref:=by
   have:=B0 (ps.map V.ref) 1
   rw[←V6]at this
   exact this
  rw[e1]
  have s14:=aq (o:=.lst ((ps.drop 1).map V.ref)) hp4
  have hp':H p=none:=s012.free hp
  refine⟨p4,rfl,⟨_,aF.of af⟩,?_⟩
  refine bC (bw _ p4 ((ps.drop 1).map V.ref)) (fun i σ H2=>∃v,A4 (σ=[some (.ref a),some (.ref b),some (.int W),some (.ref D),some (.ref D2),some (.ref o),some (.ref p),v,none,none]) ((∀b o,b≠p→(upd H11 p (.lst (zV ((dU u W zs).take (u.down*W-W)++du ((dU u W zs).drop (u.down*W-W)) (gq u W zs))))) b=some o→H2 b=some o)) (H2 p4=some (.lst ((ps.drop 1).map V.ref))) (H2 p=some (.lst (zV ((dU u W zs).take (u.down*W-W)++du ((dU u W zs).drop (u.down*W-W)) (gq u W zs)++(Q5 i).flatMap fun j=>cJ u W zs (j+1))))))
   ⟨none,rfl,fun b o _ e=>s14 _ _ e,af,by rw[s14 _ _ af];simp⟩ (fun i σ H2 _ hh=>by obtain⟨v,_,_,h4,_⟩:=hh;exact aF.of h4) (fun i x σ H2 H3 hi pv xy=>?_) (fun σ H2 pv=>?_)
  ·obtain⟨v,rfl,f2,h4,h2⟩:=pv
   obtain⟨rfl,e⟩:=xy
   rw[QH,QY,hplen]at hi
   rw[QI,TJ]at e
   obtain⟨r,er,rfl⟩:=QQ.mp e
   have hrow:=hps _ r er
   unfold Ee at hrow
   have nrp:r≠p:=ao (s7.trans s12 |> fun z=>z _ _ hrow) hp
   have hrow2:=f2 r _ nrp (s713 _ _ hrow)
   refine⟨_,rfl,.inl ⟨rfl,_,aF.of h2⟩,_,rfl,p,r,_,_,rfl,rfl,h2,hrow2,sz ?_,_,rfl,fun b o nb e=>?_,?_,?_⟩
   ·rw[aB,aB,cX hz (by rw[Sw];exact T6 hi),QN,QN,a1,a2,bZ _ (lc u*W) _ (fun a ha=>cX hz (T6 (Nat.lt_trans (Rf.mp ha) hi))),Q6,←(eI hu W).1]
    exact QK (SE (QK (RS (Q7 _ (QK (RI hi) (Rq ..))) _) T1) ll) (by decide)
   ·rw[ah nb];exact f2 b o nb e
   ·rw[ah (fun e=>by rw[e]at hp4;rw[af]at hp4;cases hp4)];exact h4
   ·rw[af,hZ,TN,RH,Rz,R7,Sw 1 i]
  ·obtain⟨v,rfl,f2,h4,h2⟩:=pv
   rw[QH,QY,hplen]at h2
   have F:∀b o,H b=some o→H2 b=some o:=fun b o e=>f2 b o (ao e hp') (s13 _ _ (s012 _ _ e))
   have hS2:dN T.aR.C H2 a u W:=hS.same F
   refine⟨_,rfl,_,rfl,_,rfl,b,_,rfl,aF.of (F _ _ hB),fun g hg=>?_⟩
   rw[K6]
   have s15:=aq (o:=.lst (zV (zs.take W))) hg
   refine⟨_,rfl,KP T (hS2.same s15) (fun oc hoc=>⟨oc,_,rfl,.inl (aF.of hoc),_,rfl,_,_,rfl,rfl,⟨WS.2 W1,bi (QK hW (by decide))⟩,?_⟩)⟩
   rw[aB,cV]
   have tl:=kG hu hz
   have ed:((lc u*W:Nat):Int) / (W:Int)=((lc u:Nat):Int):=by rw[S9,V3 _ (Int.ne_of_gt (WS.2 W1))]
   have l60:=Kc hu
   refine⟨g,((lc u:Nat):Int),_,rfl,vI ed,af,(Qe (QK l60 (by decide))).1,(Qe (QK l60 (by decide))).2,sz (by rw[aB,tl,QW,RP];exact QK ll (by decide)),fun g2 hg2=>?_⟩
   rw[QW,Og]
   have s16:=aq (o:=.lst (zV (zY (lc u) (zs.take W)))) hg2
   have F2:=s15.trans s16
   have nD:D≠p:=ao ((s7.trans s12) _ _ hD5) hp
   have nl:rl≠p:=ao ((s7.trans s12) _ _ hrl) hp
   have hD9:=F2 _ _ (f2 D _ nD (s713 _ _ hD5))
   have hrl9:=F2 _ _ (f2 rl _ nl (s713 _ _ hrl))
   refine⟨_,rfl,_,rfl,_,rfl,D,_,_,_,rfl,rfl,aF.of hD9,yy (n:=u.up-1) (v:=.ref rl) (by rw[QH,hplen,RO up1]) (by rw[QI,erl];rfl),_,rfl,rl,g2,_,_,rfl,hrl9,af,by rw[cX hz ul1];exact QK ll (by decide),fun t H18 s18 ht18 h18=>?_⟩
   have hp18:=s18 _ _ (F2 _ _ h2)
   refine⟨p,t,_,_,rfl,rfl,hp18,h18,sz ?_,fun r hr1=>?_⟩
   ·rw[aB,aB,QN,QN,a1,a2,a3,a4,←(eI hu W).1]
    exact QK (SE (QK (RS (Q7 _ (Rq ..)) _) T1) ll) (by decide)
   rw[hZ]
   have F3:aN H H18:=fun b o e=>s18 _ _ (F2 _ _ (F b o e))
   refine k r _ (F3.trans (aq hr1)) (F3.free hr1) ?_
   rw[af]
   rfl
open Vbbcag (given allModes)
def yO(CS:Addr)(us:List Unit_):Nat→Addr→Hp→Prop:=fun i r H=>∃u,us[i]?=some u∧dN CS H r u (stateCount us / modeCount u)
theorem jc(CS:Addr)(us:List Unit_):xJ (yO CS us):=fun i r H H' s ⟨u,h1,h2⟩=>⟨u,h1,h2.same s⟩
def OG(sl ll:Addr):List (Str×V):=[("steps",.ref sl),("levels",.ref ll)]
def jC(us:List Unit_):List Int:=(allModes us).map fun l=>(given l:Int)
def uw(CG CS:Addr)(H:Hp)(g:Addr)(us:List Unit_):Prop:=∃dx sl ll,H g=some (.ins CG dx (OG sl ll))∧LR (yO CS us) us.length H sl∧H ll=some (.lst (zV (jC us)))
theorem uw.same{CG CS:Addr}{H H':Hp}{g:Addr}{us:List Unit_}(h:uw CG CS H g us)(s:aN H H'):uw CG CS H' g us:=by
 obtain⟨dx,sl,ll,h1,h2,h3⟩:=h
 exact⟨dx,sl,ll,s _ _ h1,h2.same (jc _ _) s,s _ _ h3⟩
abbrev Gr{K:Frg}{mg:Str→Option Value}(T:Tx K mg):Hp→Addr→List Unit_→Prop:=uw T.bQ.C T.aR.C
section
variable{K:Frg}{mg:Str→Option Value}{H:Hp}{a:Addr}{us:List Unit_}{Q:V→Prop}
theorem zi(T:Tx K mg)(h:Gr T H a us)(q:∀sl,LR (yO T.aR.C us) us.length H sl→Q (.ref sl)):ig K H a "steps" Q:=by
 obtain⟨dx,sl,ll,h1,h2,_⟩:=h;exact fc h1 T.bQ.cls T.fi rfl (q sl h2)
theorem wx(T:Tx K mg)(h:Gr T H a us)(q:∀ll,H ll=some (.lst (zV (jC us)))→Q (.ref ll)):ig K H a "levels" Q:=by
 obtain⟨dx,sl,ll,h1,_,h3⟩:=h;exact fc h1 T.bQ.cls T.gi rfl (q ll h3)
end
def BD(C:Addr):Sp:=fun vs H Q _=>E6 fun a b u zs (W:Nat) (fr:Bool)=>A9 (vs=[.ref a,.ref b,.bl fr]) (H a=some (.lst (zV zs))) (dN C H b u W) (Wf u) (1≤W) (W≤600) (zs.length=W*modeCount u) (zs.length≤1000) (mE H Q (zV (rD u fr W zs)))
theorem A1(T:Tx K mg):dJ P w base 5 T.sW (BD T.aR.C):=by
 refine T.sW.fn.ok rH (fun vs H Q E h=>?_) (fun cdv A outer s H vs Q E hr h=>?_)
 ·obtain⟨a,b,u,zs,W,fr,rfl,_⟩:=h
  rfl
 ·obtain⟨a,b,u,zs,W,fr,rfl,hA,hS,hu,W1,hW,hz,hz2,k⟩:=h
  refine⟨_,(ab (ax (i:=3) rH.nd rfl (Or.inl rfl) (aA T.turned (Jf T) hr (aa (pv 0) (aa (aj (pv 1) rfl) ae))))
   (ab (bf (bS (pv 2)) (ag (au (aA T.gr (oU T) hr (aa (pv 1) (aa (pv 3) ae))))) aP)
   (ag (au (aA T.mK (yi T) hr (aa (pv 1) (aa (pv 3) ae))))))),?_⟩
  have mc:=xS hu
  have mp:=cZ hu
  refine⟨_,rfl,_,rfl,vx T hS ⟨a,zs,modeCount u,rfl,hA,mp,by omega,fun i hi=>?_,by omega,fun l H1 s1 hl hl1=>?_⟩⟩
  ·rw[bZ _ W _ (fun m hm=>by rw[k9 hz (by have:=Rf.mp hm;omega)];simp),Q6]
   have:i*W≤modeCount u*W:=Q7 _ hi
   rw[RP]at hz
   omega
  ·have tl:=oE hz
   have tl2:(fL zs (modeCount u)).length≤1000:=by rw[tl,RP];omega
   refine⟨_,rfl,fr,rfl,?_⟩
   cases fr with
   | true =>
    refine bP ?_
    exact⟨_,rfl,_,rfl,b,l,u,_,W,⟨rfl,hS.same s1,hu,W1,hW,hl1,tl,tl2⟩,fun q H2 s2 hq hq2=>k q H2 (s1.trans s2) (s1.free hq) hq2⟩
   | false =>
    refine dg ?_
    exact⟨_,rfl,_,rfl,b,l,u,_,W,⟨rfl,hS.same s1,hu,W1,hW,hl1,tl,tl2⟩,fun q H2 s2 hq hq2=>k q H2 (s1.trans s2) (s1.free hq) hq2⟩
def yV(fs:List Bool):List V:=fs.map V.bl
def yn{mg:Str→Option Value}(T:Tx K mg):Sp:=fun vs H Q _=>E7 fun g a b us fs zs (load:Nat)=>Oz (vs=[.ref g,.int load,.ref a,.ref b]) (Gr T H g us) (lY us) (us.length=fs.length) (us.length≤4) (stateCount us≤600) (H a=some (.lst (yV fs))) (H b=some (.lst (zV zs))) (zs.length=stateCount us) (mE H Q (zV (bH us fs load zs)))
theorem gp(T:Tx K mg):dJ P w base 6 T.fA (yn T):=by
 refine T.fA.fn.ok cN (fun vs H Q E h=>?_) (fun cdv A outer s H vs Q E hr h=>?_)
 ·obtain⟨g,a,b,us,fs,zs,load,rfl,_⟩:=h
  rfl
 ·obtain⟨g,a,b,us,fs,zs,load,rfl,hG,hw,hf,h4,h600,hA,hB,hz,k⟩:=h
  refine⟨_,(ab (pY (i:=4) rfl cN.nd rfl rfl (vy rfl rfl rfl rfl) (tH rfl T.iC (aa (pv 3) (aa (aj (pv 0) rfl) ae))) (bj (own:=[("cost",6),("level",7)]) rfl) (fun _ _ _ _ _=>(dv K (n:=2) rfl rfl (@aV _ _ _ _ _ (@aD _ _ 6 _ cN.nd rfl (Or.inl rfl) (by first|exact .inl rfl|exact .inr rfl)) (@aV _ _ _ _ _ (@aD _ _ 7 _ cN.nd rfl (Or.inl rfl) (by first|exact .inl rfl|exact .inr rfl)) dw rfl) rfl) rfl rfl)) (fun _ _ _ _ _=>bJ) (fun _ _ _ _ _=>(gR (aM EW (pv 7) (pv 1) (aQ _)) (pv 6) (aL (v:=.int (4000000000000000000)) rfl T.fD ⟨_,rfl⟩))))
   (ab (bU PassesOwn.never rfl (wY rfl T.dD (aa (aO de (aH az rfl T.ba bh (aa (aj (pv 0) rfl) ae)) ak) (aa (oN jB ak) (aa (oN jB ak) ae)))) (aD (i:=5) cN.nd rfl (Or.inl rfl)) (ag (ax (i:=4) cN.nd rfl (Or.inl rfl) (aA T.sW (A1 T) hr (aa (pv 4) (aa (aT aG (aj (pv 0) rfl) (pv 5) (fun _ _=>rfl)) (aa (aT aG (pv 2) (pv 5) (fun _ _=>rfl)) ae)))))))
   (ag (au (pv 4))))),?_⟩
  have ll:(jC us).length=stateCount us:=by unfold jC;rw[QH,Bp.cy]
  refine⟨_,rfl,_,rfl,wx T hG fun la hla=>⟨b,la,_,_,rfl,aF.of hB,aF.of hla,fun D hD=>?_⟩⟩
  refine bt (uu _ b la (zV zs) (zV (jC us))) (fun j y _=>(zV (lF us load zs))[j]?=some y) (cI _) (sz (by rw[aB,aB];omega)) hD (fun H2 s2=>⟨aF.of (s2 _ _ hB),aF.of (s2 _ _ hla)⟩) (fun i x H2 H3 R hi s2 hne xy kk=>?_) (fun H2 B=>?_)
  ·obtain⟨t,x1,y1,rfl,ht,rfl,e1,e2⟩:=xy
   rw[aB,aB]at hi
   rw[gE (Sl.1 hi).1]at e1;rw[gE (Sl.1 hi).2]at e2
   cases e1;cases e2
   have el:(zV (lF us load zs))[i]?=some (.int (if rd (jC us) i≥(load:Int)then rd zs i else NP)):=by
    unfold zV lF
    rw[QI,RZ,bO (Sl.1 hi).1]
    have:=bO (zs:=jC us) (i:=i) (Sl.1 hi).2
    unfold jC at this ⊢
    rw[this]
    rfl
   refine⟨t,_,rfl,eQ.of af,rfl,_,_,rfl,_,_,rfl,rfl,rfl,?_⟩
   refine⟨_,rfl,_,rfl,_,_,rfl,rfl,_,rfl,?_⟩
   refine bF (fun c=>?_) (fun c=>?_)
   ·refine⟨_,rfl,kk _ _ (aq ht) ?_⟩
    rw[if_pos (of_decide_eq_true c)]at el
    exact el
   ·refine kk _ _ (aq ht) ?_
    rw[if_neg (fun q=>c (decide_eq_true q))]at el
    exact el
  have eD:=B.eq (by rw[aB,aB,aB,ll,mZ hz];omega)
  have s1:=B.cK
  have rg:Mr ((us.length:Int)-1) (-1) (-1) us.length:=by
   have:=Mr.neg (i:=(us.length:Int)-1) (j:=-1) (by omega) (by omega) (by omega) (by omega)
   have e:((us.length:Int)-1 - -1).toNat=us.length:=(congrArg TV (Int.sub_add_cancel (us.length:Int) 1)).trans (QW _)
   rw[e]at this
   exact this
  refine⟨_,rfl,zi T (hG.same s1) fun sl hsl=>?_⟩
  obtain⟨rs,hrs,hrl,hR⟩:=hsl
  refine⟨sl,_,rfl,.inl (aF.of hrs),_,_,rfl,rfl,_,rfl,_,rfl,(us.length:Int)-1,-1,-1,us.length,?_,rg,?_⟩
  ·rw[QH,hrl]
  refine bC (xG _ _ _) (fun i σ H2=>E2 fun v l=>A4 (σ=[some (.ref g),some (.int load),some (.ref a),some (.ref b),some (.ref l),v,none,none]) (aN H H2) (H l=none) (H2 l=some (.lst (zV (uz us fs (stateCount us) (lF us load zs) i))))) ⟨none,D,rfl,s1,hD,eD⟩ (fun _ _ _ _ _=>trivial) (fun i x σ H2 H3 hi pv xy=>?_) (fun σ H2 pv=>?_)
  ·obtain⟨v,l,rfl,s2,hl,h2⟩:=pv
   obtain⟨rfl,rfl⟩:=xy
   have en:(us.length:Int)-1+(i:Int)*-1=((us.length-(i+1):Nat):Int):=P5 hi
   refine⟨_,rfl,_,rfl,zi T (hG.same s2) fun sl2 hsl2=>?_⟩
   obtain⟨rs2,hrs2,hrl2,hR2⟩:=hsl2
   obtain⟨r,er⟩:∃r,rs2[us.length-(i+1)]?=some r:=⟨_,QJ (by rw[hrl2];exact SS (R8 hi) (UZ i))⟩
   obtain⟨u,eu,hSt⟩:=hR2 _ r er
   obtain⟨f,ef⟩:∃f,fs[us.length-(i+1)]?=some f:=⟨_,QJ (by rw[←hf];exact SS (R8 hi) (UZ i))⟩
   have um:=QL eu
   obtain⟨d1,d2,d3⟩:=KH hw um
   have bl:=Ip (load:=load) hw hf hz (k:=i) (RI hi)
   refine⟨_,rfl,sl2,_,_,_,rfl,rfl,aF.of hrs2,at_of (v:=.ref r) en (by rw[QI,er];rfl),_,rfl,_,rfl,a,_,_,_,rfl,rfl,aF.of (s2 _ _ hA),at_of (v:=.bl f) en (by unfold yV;rw[QI,ef];rfl),?_⟩
   refine⟨l,r,u,_,stateCount us / modeCount u,f,rfl,h2,hSt,hw u um,d2,by omega,by rw[bl];exact d1,by omega,fun q H4 s4 hq hq4=>?_⟩
   refine⟨_,q,rfl,s2.trans s4,s2.free hq,?_⟩
   rw[FW eu ef]
   exact hq4
  ·obtain⟨v,l,rfl,s2,hl,h2⟩:=pv
   exact⟨_,rfl,k l _ s2 hl h2⟩
def UR(C:Addr)(us:List Unit_):Nat→Addr→Hp→Prop:=fun i r H=>∃u,us[i]?=some u∧bq C H r u
theorem Dt(C:Addr)(us:List Unit_):xJ (UR C us):=fun i r H H' s ⟨u,h1,h2⟩=>⟨u,h1,h2.same s⟩
def cQ(C:Addr)(H:Hp)(a:Addr)(us:List Unit_):Prop:=LR (UR C us) us.length H a
theorem cQ.same{C:Addr}{H H':Hp}{a:Addr}{us:List Unit_}(h:cQ C H a us)(s:aN H H'):cQ C H' a us:=LR.same (Dt C us) h s
theorem cQ.get{C:Addr}{H:Hp}{a:Addr}{us:List Unit_}(h:cQ C H a us):∃rs:List Addr,H a=some (.lst (rs.map V.ref))∧rs.length=us.length∧∀(i:Nat)(r:Addr),rs[i]?=some r→∃u,us[i]?=some u∧bq C H r u:=h
theorem br{α:Type}{l:List α}{i:Nat}{x:α}(h:l[i]?=some x):l.take (i+1)=l.take i++[x]:=by
 obtain⟨hi,e⟩:=QO.mp h
 rw[Ur hi,e]
def vw(C:Addr):Sp:=fun vs H Q _=>E2 fun a us=>A4 (vs=[.ref a]) (cQ C H a us) (lY us) (Q (.int (stateCount us:Nat)) H)
theorem gQ(T:Tx K mg):dJ P w base 3 T.fh (vw T.aK.C):=by
 refine T.fh.fn.ok eX (fun vs H Q E h=>?_) (fun cdv A outer s H vs Q E hr h=>?_)
 ·obtain⟨a,us,rfl,_⟩:=h
  rfl
 ·obtain⟨a,us,rfl,hU,hw,k⟩:=h
  refine⟨_,(ab (ax (i:=1) eX.nd rfl (Or.inl rfl) ak)
   (ab (bU PassesOwn.never rfl (bu (pv 0)) (aD (i:=2) eX.nd rfl (Or.inl rfl)) (ag (zT (i:=1) eX.nd rfl (Or.inl rfl) (aA T.fg (fo T) hr (aa (pv 2) ae)) MP)))
   (ag (au (pv 1))))),?_⟩
  obtain⟨rs,h1,h2,h3⟩:=hU.get
  refine⟨_,rfl,a,rfl,⟨_,aF.of h1⟩,?_⟩
  refine bC (bw _ a (rs.map V.ref)) (fun i σ H2=>EA (fun v=>σ=[some (.ref a),some (.int (stateCount (us.take i):Nat)),v]) (fun v=>H2=H)) ⟨none,rfl,rfl⟩ (fun i σ H2 _ hh=>by obtain⟨_,_,rfl⟩:=hh;exact aF.of h1) (fun i x σ H2 H3 hi pv xy=>?_) (fun σ H2 pv=>?_)
  ·obtain⟨v,rfl,rfl⟩:=pv
   obtain⟨rfl,e⟩:=xy
   rw[QI]at e
   obtain⟨r,er,rfl⟩:=QQ.mp e
   obtain⟨u,eu,hA⟩:=h3 i r er
   have hu:=hw u (QL eu)
   have mc:=xS hu
   refine⟨_,rfl,_,rfl,r,u,rfl,hA,hu,_,_,rfl,rfl,.inr ⟨by omega,by omega⟩,some (.ref r),?_,rfl⟩
   rw[br eu,bc,fx,S9]
   rfl
  ·obtain⟨v,rfl,rfl⟩:=pv
   refine⟨_,rfl,?_⟩
   rw[QH,h2,RF]
   exact k
def fE(L:List Int)(u:Unit_):List Int:=L.flatMap fun x=>(modes u).map fun m=>x+(levelOf m:Int)
theorem EK(us:List Unit_):us.foldl fE [0]=jC us:=GA us
theorem HH(us:List Unit_):(us.foldl fE [0]).length=stateCount us:=by
 rw[EK];unfold jC;rw[QH,Bp.cy]
theorem Ag{us:List Unit_}(hw:lY us)(i:Nat):stateCount (us.take i)≤stateCount us:=by
 have e:=congrArg stateCount (TZ i us)
 rw[bc]at e
 have p:0<stateCount (us.drop i):=qz fun v hv=>hw v (VZ hv)
 rw[←e]
 exact Vn _ p
def ue(C:Addr):Sp:=fun vs H Q _=>E2 fun a us=>A5 (vs=[.ref a]) (cQ C H a us) (lY us) (stateCount us≤600) (mE H Q (zV (jC us)))
theorem tG(T:Tx K mg):dJ P w base 3 T.ju (ue T.aK.C):=by
 refine T.ju.fn.ok bD (fun vs H Q E h=>?_) (fun cdv A outer s H vs Q E hr h=>?_)
 ·obtain⟨a,us,rfl,_⟩:=h
  rfl
 ·obtain⟨a,us,rfl,hU,hw,h600,k⟩:=h
  refine⟨_,(ab (ax (i:=1) bD.nd rfl (Or.inl rfl) (aE (aa ak ae)))
   (ab (bU PassesOwn.never rfl (bu (pv 0)) (aD (i:=2) bD.nd rfl (Or.inr rfl)) (ab (ax (i:=3) bD.nd rfl (Or.inl rfl) (aE ae))
   (ab (bU PassesOwn.never rfl (bu (pv 1)) (aD (i:=4) bD.nd rfl (Or.inr rfl)) (ag (aX (dH PySem.F.plainAttrs_list PySem.F.slot_list_extend PySem.F.type_list_extend cB (pv 3) (aa (fN rfl bD.nd (wW rfl T.dD (aa (aA T.fg (fo T) hr (aa (pv 2) ae)) ae)) (bj (own:=[("mode",5)]) rfl) (fun _ _ _ _ _=>(aD (i:=5) bD.nd rfl (Or.inl rfl))) (fun _ _ _ _ _=>bJ) (fun _ _ _ _ _=>(aO bz (pv 4) (aA T.ja (gH T) hr (aa (pv 2) (aa (pv 5) ae)))))) ae)))))
   (ag (ax (i:=1) bD.nd rfl (Or.inl rfl) (pv 3))))))
   (ag (au (pv 1))))),?_⟩
  obtain⟨rs,h1,h2,h3⟩:=hU.get
  refine⟨sz (by simp),fun p hp=>?_⟩
  have s0:=aq (o:=.lst [V.int 0]) hp
  refine⟨_,rfl,a,rfl,⟨_,aF.of (s0 _ _ h1)⟩,?_⟩
  refine bC (bw _ a (rs.map V.ref)) (fun i σ H2=>E4 fun l v v3 v4=>A4 (σ=[some (.ref a),some (.ref l),v,v3,v4,none]) (aN H H2) (H l=none) (H2 l=some (.lst (zV ((us.take i).foldl fE [0]))))) ⟨p,none,none,none,rfl,s0,hp,af⟩ (fun i σ H2 _ hh=>by obtain⟨_,_,_,_,_,s2,_⟩:=hh;exact aF.of (s2 _ _ h1)) (fun i x σ H2 H3 hi pv xy=>?_) (fun σ H2 pv=>?_)
  ·obtain⟨l,v,v3,v4,rfl,s2,hl,hl2⟩:=pv
   obtain⟨rfl,e⟩:=xy
   rw[QH,h2]at hi
   rw[QI]at e
   obtain⟨r,er,rfl⟩:=QQ.mp e
   obtain⟨u,eu,hA⟩:=h3 i r er
   have hu:=hw u (QL eu)
   have mc:=xS hu
   have L1:=HH (us.take i)
   have L2:=HH (us.take (i+1))
   have L3:=Ag hw (i+1)
   have ef:(us.take (i+1)).foldl fE [0]=fE ((us.take i).foldl fE [0]) u:=by rw[br eu,S3];rfl
   generalize hL:(us.take i).foldl fE [0]=L at *
   rw[ef]at L2
   have lenS:∀A:List Int,(fE A u).length=A.length*modeCount u:=fun A=>by
    unfold fE
    rw[bZ _ (modeCount u) _ (fun a _=>by rw[QH,jW])]
   refine⟨sz (by simp),fun q hq=>?_⟩
   have s3:=s2.trans (aq (o:=.lst []) hq)
   have hlq:l≠q:=ao hl2 hq
   have hl3:=(aq (o:=.lst []) hq) _ _ hl2
   refine⟨_,rfl,l,rfl,⟨_,aF.of hl3⟩,?_⟩
   have hq':H q=none:=s2.free hq
   refine bC (bw _ l (zV L)) (fun j σ H4=>∃v4,A4 (σ=[some (.ref a),some (.ref l),some (.ref r),some (.ref q),v4,none]) (aN H H4) (H4 l=some (.lst (zV L))) (H4 q=some (.lst (zV (fE (L.take j) u))))) ⟨v4,rfl,s3,hl3,af⟩ (fun j σ H4 _ hh=>by obtain⟨_,_,_,h4,_⟩:=hh;exact aF.of h4) (fun j x σ H4 H5 hj pv xy=>?_) (fun σ H4 pv=>?_)
   ·obtain⟨v4,rfl,s4,hl4,hq4⟩:=pv
    obtain⟨rfl,e⟩:=xy
    rw[aB]at hj
    rw[gE hj]at e
    cases e
    refine⟨_,rfl,.inl ⟨rfl,_,aF.of hq4⟩,?_⟩
    refine⟨_,rfl,r,u,rfl,hA.same s4,hu,_,rfl,by omega,by omega,fun D hD=>?_⟩
    rw[QW]
    refine bt (mC _ _) (fun n y _=>((modes u).map fun m=>V.int (rd L j+(levelOf m:Int)))[n]?=some y) (cI _) (sz (by omega)) hD (fun _ _=>trivial) (fun n x H6 H7 R hn s6 hne xy kk=>?_) (fun H6 B6=>?_)
    ·obtain⟨rfl,rfl⟩:=xy
     obtain⟨m,em⟩:∃m,(modes u)[n]?=some m:=⟨_,QJ (by rw[jW];exact hn)⟩
     have hm:=qN.mp (QL em)
     have ep:=zR em
     refine⟨rfl,_,rfl,_,rfl,_,rfl,r,u,m,by rw[ep];simp,hA.same (s4.trans s6),hu,hm,_,_,rfl,rfl,kk _ _ (aN.refl _) ?_⟩
     rw[QI,em]
     rfl
    ·have eD:=B6.eq (by rw[QH,jW])
     have s6:=B6.cK
     have Lj:(fE (L.take (j+1)) u)=fE (L.take j) u++(modes u).map fun m=>rd L j+(levelOf m:Int):=by
      rw[br (bO hj)]
      unfold fE
      rw[RH,Rz]
     have lj:=lenS (L.take (j+1))
     refine⟨q,D,_,_,rfl,rfl,s6 _ _ hq4,eD,sz ?_,_,rfl,fun b o e=>?_,?_,?_⟩
     ·rw[aB,QH,jW,lenS,QZ]
      have:min j L.length*modeCount u≤L.length*modeCount u:=Q7 _ (Rn _ _)
      have:=lenS L
      omega
     ·rw[ah (ao e hq')];exact s6 _ _ (s4 _ _ e)
     ·rw[ah hlq];exact s6 _ _ hl4
     ·rw[af,Lj]
      unfold zV
      rw[Rl,Sd]
      rfl
   ·obtain⟨v4,rfl,s4,hl4,hq4⟩:=pv
    refine⟨_,rfl,q,_,_,_,rfl,s4,hq',?_⟩
    rw[aB,RF]at hq4
    rw[ef]
    exact hq4
  ·obtain⟨l,v,v3,v4,rfl,s2,hl,hl2⟩:=pv
   rw[QH,h2,RF,EK]at hl2
   exact⟨_,rfl,k l _ s2 hl hl2⟩
open Vbbcag (index modeRow)
def mV(us:List Unit_)(ms:Modes):List V:=(us.zip ms).map fun x=>V.int (place x.1 x.2:Nat)
theorem lE{us:List Unit_}{ms:Modes}(h:bG us ms):(mV us ms).length=us.length:=by
 unfold mV;rw[QH,VD,h.len,SG]
theorem iA{us:List Unit_}{ms:Modes}{i:Nat}{u:Unit_}{m:Mode}(hu:us[i]?=some u)(hm:ms[i]?=some m):(mV us ms)[i]?=some (.int (place u m:Nat)):=by
 have ez:(us.zip ms)[i]?=some (u,m):=Tn.mpr ⟨hu,hm⟩
 unfold mV;rw[QI,ez];rfl
def D3(C:Addr):Sp:=fun vs H Q _=>E3 fun a u m=>A5 (vs=[.ref a,.int (place u m:Nat)]) (bq C H a u) (Wf u) (rK u m) (mE H Q (nV (modeRow m)))
theorem va(T:Tx K mg):dJ P w base 3 T.qW (D3 T.aK.C):=by
 refine T.qW.fn.ok DR (fun vs H Q E h=>?_) (fun cdv A outer s H vs Q E hr h=>?_)
 ·obtain⟨a,u,m,rfl,_⟩:=h
  rfl
 ·obtain⟨a,u,m,rfl,hU,hw,hm,k⟩:=h
  refine⟨_,(ag (au (aE (aa (gR (bS (aA T.uP (kl T) hr (aa (pv 0) (aa (pv 1) ae)))) ak ak) (aa (aA T.pH (pS T) hr (aa (pv 0) (aa (pv 1) ae))) (aa (aA T.ja (gH T) hr (aa (pv 0) (aa (pv 1) ae))) ae)))))),?_⟩
  refine⟨_,rfl,_,rfl,a,u,m,rfl,hU,hm,_,rfl,?_⟩
  cases m with
  | off h =>
   refine dg ?_
   exact⟨_,rfl,_,rfl,a,u,_,rfl,hU,hw,hm,_,rfl,_,rfl,a,u,_,rfl,hU,hw,hm,sz (by simp),fun p hp=>k p _ (aq hp) hp af⟩
  | on h l =>
   refine bP ?_
   exact⟨_,rfl,_,rfl,a,u,_,rfl,hU,hw,hm,_,rfl,_,rfl,a,u,_,rfl,hU,hw,hm,sz (by simp),fun p hp=>k p _ (aq hp) hp af⟩
def Fx{mg:Str→Option Value}(T:Tx K mg):Sp:=fun vs H Q _=>E4 fun g a us ms=>A6 (vs=[.ref g,.ref a]) (Gr T H g us) (lY us) (bG us ms) (H a=some (.lst (mV us ms))) (∀H',aN H H'→Q (.int (index us ms:Nat)) H')
theorem ET(T:Tx K mg):dJ P w base 1 T.zS (Fx T):=by
 refine T.zS.fn.ok jk (fun vs H Q E h=>?_) (fun cdv A outer s H vs Q E hr h=>?_)
 ·obtain⟨g,a,us,ms,rfl,_⟩:=h
  rfl
 ·obtain⟨g,a,us,ms,rfl,hG,hw,hm,hA,k⟩:=h
  refine⟨_,(ab (ax (i:=2) jk.nd rfl (Or.inl rfl) ak)
   (ab (bU PassesOwn.never rfl (tH rfl T.iC (aa (aj (pv 0) rfl) (aa (pv 1) ae))) (dv K (n:=2) rfl rfl (@aV _ _ _ _ _ (@aD _ _ 3 _ jk.nd rfl (Or.inl rfl) (by first|exact .inl rfl|exact .inr rfl)) (@aV _ _ _ _ _ (@aD _ _ 4 _ jk.nd rfl (Or.inl rfl) (by first|exact .inl rfl|exact .inr rfl)) dw rfl) rfl) rfl rfl) (ag (ax (i:=2) jk.nd rfl (Or.inl rfl) (aO bz (aO jv (pv 2) (aj (pv 3) rfl)) (pv 4)))))
   (ag (au (pv 2))))),?_⟩
  refine⟨_,rfl,zi T hG fun sl hsl=>?_⟩
  obtain⟨rs,hrs,hrl,hR⟩:=hsl
  refine⟨_,rfl,sl,a,_,_,rfl,aF.of hrs,aF.of hA,?_⟩
  have hml:=hm.len
  refine bC (uu _ sl a (rs.map V.ref) (mV us ms)) (fun i σ H2=>E2 fun v v2=>(σ=[some (.ref g),some (.ref a),some (.int ((((us.zip ms).take i).foldl (fun p x=>p*modeCount x.1+place x.1 x.2) 0:Nat):Int)),v,v2])∧(aN H H2)) ⟨none,none,rfl,aN.refl _⟩ (fun i σ H2 _ hh=>by obtain⟨_,_,_,s2⟩:=hh;exact⟨aF.of (s2 _ _ hrs),aF.of (s2 _ _ hA)⟩) (fun i x σ H2 H3 hi pv xy=>?_) (fun σ H2 pv=>?_)
  ·obtain⟨v,v2,rfl,s2⟩:=pv
   obtain⟨t,x1,y1,rfl,ht,rfl,e1,e2⟩:=xy
   rw[QH,hrl,lE hm,SG]at hi
   rw[QI]at e1
   obtain⟨r,er,rfl⟩:=QQ.mp e1
   obtain⟨u,eu,hSt⟩:=hR i r er
   obtain⟨m,em⟩:∃m,ms[i]?=some m:=⟨_,QJ (by omega)⟩
   rw[iA eu em]at e2
   cases e2
   have s3:=s2.trans (aq (o:=.tup [V.ref r,V.int (place u m:Nat)]) ht)
   have hu:=hw u (QL eu)
   have mc:=xS hu
   refine⟨t,_,rfl,eQ.of af,rfl,_,_,rfl,_,_,rfl,rfl,?_⟩
   refine⟨_,rfl,_,rfl,vx T (hSt.same s3) ⟨_,_,rfl,rfl,.inr ⟨by omega,by omega⟩,_,rfl,_,_,rfl,rfl,some (.ref r),some (.int (place u m:Nat)),?_,s3⟩⟩
   have ez:(us.zip ms)[i]?=some (u,m):=Tn.mpr ⟨eu,em⟩
   rw[br ez,S3]
   simp
  ·obtain⟨v,v2,rfl,s2⟩:=pv
   refine⟨_,rfl,?_⟩
   have e:=uN 0 hm
   rw[T8,TF]at e
   rw[QH,hrl,lE hm,SG,Rk (by rw[VD,hml];omega),e]
   exact k _ s2
def eZ(st:List Nat×Nat)(u:Unit_):List Nat×Nat:=(st.1++[st.2 % modeCount u],st.2 / modeCount u)
def Ft{mg:Str→Option Value}(T:Tx K mg):Sp:=fun vs H Q _=>E3 fun g us ms=>A6 (vs=[.ref g,.int (index us ms:Nat)]) (Gr T H g us) (lY us) (bG us ms) (us.length≤4) (mE H Q (mV us ms))
theorem ER(T:Tx K mg):dJ P w base 1 T.zy (Ft T):=by
 refine T.zy.fn.ok kU (fun vs H Q E h=>?_) (fun cdv A outer s H vs Q E hr h=>?_)
 ·obtain⟨g,us,ms,rfl,_⟩:=h
  rfl
 ·obtain⟨g,us,ms,rfl,hG,hw,hm,h4,k⟩:=h
  refine⟨_,(ab (ax (i:=2) kU.nd rfl (Or.inl rfl) (aE ae))
   (ab (bU PassesOwn.never rfl (E1 rfl T.kP (aa (aj (pv 0) rfl) ae)) (aD (i:=3) kU.nd rfl (Or.inl rfl)) (ab (aX (dH PySem.F.plainAttrs_list PySem.F.slot_list_append PySem.F.type_list_append cA (pv 2) (aa (aO Kr (pv 1) (aj (pv 3) rfl)) ae)))
   (ag (ax (i:=1) kU.nd rfl (Or.inl rfl) (aO vb (pv 1) (aj (pv 3) rfl))))))
   (ag (au (wU rfl rfl T.qQ rfl T.kP (aa (pv 2) ae)))))),?_⟩
  refine⟨sz (by simp),fun p hp=>?_⟩
  have s0:=aq (o:=.lst []) hp
  obtain⟨dx,sl,ll,hg1,⟨rs,hrs,hrl,hR⟩,hg3⟩:=id hG
  have hmb:=zx (us:=us) (l:=ms) [] 0 hw hm
  rw[T8,TF,Vz]at hmb
  have hle:∀(L:List Unit_)(st:List Nat×Nat),(L.foldl eZ st).1.length=st.1.length+L.length:=by
   intro L
   induction L with
   | nil=>intro st;rfl
   | cons u L ih=>intro st;rw[RJ,ih];simp[eZ];omega
  refine⟨_,rfl,fc (s0 _ _ hg1) T.bQ.cls T.fi rfl ⟨sl,_,rfl,aF.of (s0 _ _ hrs),?_⟩⟩
  refine bC (Nt _ sl (rs.map V.ref)) (fun i σ H2=>∃v,A3 (σ=[some (.ref g),some (.int (((us.reverse.take i).foldl eZ ([],index us ms)).2:Nat)),some (.ref p),v]) (aN H H2) (H2 p=some (.lst (nV ((us.reverse.take i).foldl eZ ([],index us ms)).1)))) ⟨none,rfl,s0,af⟩ (fun i σ H2 _ hh=>by obtain⟨_,_,s2,_⟩:=hh;exact aF.of (s2 _ _ hrs)) (fun i x σ H2 H3 hi pv xy=>?_) (fun σ H2 pv=>?_)
  ·obtain⟨v,rfl,s2,hp2⟩:=pv
   obtain⟨rfl,e⟩:=xy
   rw[QH,hrl]at hi
   rw[QH,hrl,QI]at e
   obtain⟨r,er,rfl⟩:=QQ.mp e
   obtain⟨u,eu,hSt⟩:=hR _ r er
   have hu:=hw u (QL eu)
   have mc:=xS hu
   have mp:=cZ hu
   have eu2:us.reverse[i]?=some u:=by rw[VH (by omega)];exact eu
   have ef:(us.reverse.take (i+1)).foldl eZ ([],index us ms)=eZ ((us.reverse.take i).foldl eZ ([],index us ms)) u:=by rw[br eu2,S3];rfl
   have hl1:=hle (us.reverse.take i) ([],index us ms)
   rw[QZ,SI]at hl1
   generalize (us.reverse.take i).foldl eZ ([],index us ms)=st at *
   refine⟨_,rfl,.inl ⟨rfl,_,aF.of hp2⟩,?_⟩
   refine⟨_,rfl,_,rfl,vx T (hSt.same s2) ⟨_,_,rfl,rfl,by omega,p,_,_,rfl,rfl,hp2,HZ (by unfold nV;rw[QH];simp at hl1;omega),?_⟩⟩
   have s3:aN H (upd H3 p (.lst (nV st.1++[V.int (((st.2:Nat):Int) % ((modeCount u:Nat):Int))]))):=fun b o e=>by rw[ah (ao e hp)];exact s2 _ _ e
   refine⟨_,rfl,_,rfl,vx T (hSt.same s3) ⟨_,_,rfl,rfl,⟨by omega,by omega⟩,some (.ref r),?_,s3,?_⟩⟩
   ·rw[ef]
    unfold eZ
    rw[Ua]
    rfl
   ·rw[af,ef]
    unfold eZ nV
    rw[Rl,List.map_singleton,WG]
  ·obtain⟨v,rfl,s2,hp2⟩:=pv
   rw[QH,hrl,Rk (by rw[SI];omega)]at hp2
   have hmb2:us.reverse.foldl eZ ([],index us ms)=(((us.zip ms).map fun x=>place x.1 x.2).reverse,0):=hmb
   rw[hmb2]at hp2
   refine⟨_,rfl,p,_,rfl,aF.of hp2,?_,fun l hl=>k l _ (s2.trans (aq hl)) (s2.free hl) ?_⟩
   ·unfold nV
    rw[QH,SI,QH,VD]
    omega
   ·rw[af]
    unfold nV mV
    rw[←List.map_reverse,UM,Sd]
    rfl
def Nw(H0 H:Hp):Hp:=fun b=>if H0 b=none then H b else none
theorem ia{H0 H:Hp}{b:Addr}{o:HO}(h:H b=some o)(n:H0 b=none):Nw H0 H b=some o:=by unfold Nw;rw[if_pos n];exact h
theorem dE{H0 H:Hp}{b:Addr}{o:HO}(h:Nw H0 H b=some o):H b=some o∧H0 b=none:=by
 unfold Nw at h
 split at h
 ·rename_i n;exact⟨h,n⟩
 ·cases h
theorem jO{H0 H H':Hp}(s:aN H H'):aN (Nw H0 H) (Nw H0 H'):=fun b o e=>by
 obtain⟨h1,h2⟩:=dE e
 exact ia (s _ _ h1) h2
def Ai{mg:Str→Option Value}(T:Tx K mg):Sp:=fun vs H Q _=>E4 fun x dx a us=>A8 (vs=[.ref x,.ref a]) (H x=some (.ins T.bQ.C dx [])) (cQ T.aK.C H a us) ((∀H',(∀b o,H b=some o→b≠x→H' b=some o)→cQ T.aK.C H' a us)) (lY us) (stateCount us≤600) (us.length≤4) (∀H' sl ll,H' x=some (.ins T.bQ.C dx (OG sl ll))→LR (yO T.aR.C us) us.length (Nw H H') sl→Nw H H' ll=some (.lst (zV (jC us)))→(∀b o,H b=some o→b≠x→H' b=some o)→Q .non H')
theorem zE(T:Tx K mg):Mo P w base 5 T.bQ (Ai T):=by
 refine T.bQ.fn.ok gY (fun vs H Q E h=>?_) (fun cdv A outer s H vs Q E hr h=>?_)
 ·obtain⟨x,dx,a,us,rfl,_⟩:=h
  rfl
 ·obtain⟨x,dx,a,us,rfl,hx,hU,hfr,hw,h600,h4,k⟩:=h
  refine⟨_,(ab (ax (i:=2) gY.nd rfl (Or.inr rfl) (aA T.fh (gQ T) hr (aa (pv 1) ae)))
   (ab (bK (pv 0) (fN rfl gY.nd (bu (pv 1)) (bj (own:=[("unit",3)]) rfl) (fun _ _ _ _ _=>(aD (i:=3) gY.nd rfl (Or.inl rfl))) (fun _ _ _ _ _=>bJ) (fun _ _ _ _ _=>(Nb T.aR rfl rfl (AX T) hr (aa (pv 3) (aa (aO vb (pv 2) (aA T.fg (fo T) hr (aa (pv 3) ae))) ae))))) rfl)
   (ag (bK (pv 0) (aA T.ju (tG T) hr (aa (pv 1) ae)) rfl)))),?_⟩
  obtain⟨rs,h1,h2,h3⟩:=hU.get
  refine⟨_,rfl,a,us,rfl,hU,hw,?_⟩
  refine⟨_,rfl,a,rfl,⟨_,aF.of h1⟩,fun D hD=>?_⟩
  refine bt (bw _ a (rs.map V.ref)) (JB fun i r Hh=>yO T.aR.C us i r (Nw H Hh)) (jb fun i r _ _ ss h=>jc _ _ i r _ _ (jO ss) h) (sz (by rw[QH];omega)) hD (fun H5 s5=>aF.of (s5 _ _ h1)) (fun i v H5 H6 R hi s5 hne xy kk=>?_) (fun H5 B5=>?_)
  ·obtain⟨rfl,e⟩:=xy
   rw[QI]at e
   obtain⟨r,er,rfl⟩:=QQ.mp e
   obtain⟨u,eu,hA⟩:=h3 i r er
   have um:=QL eu
   have hu:=hw u um
   have mc:=xS hu
   have mp:=cZ hu
   obtain⟨d1,d2,d3⟩:=KH hw um
   have hA5:=hA.same s5
   refine⟨rfl,_,rfl,_,rfl,_,rfl,r,u,rfl,hA5,hu,_,_,rfl,rfl,⟨by omega,by omega⟩,fun y dy hy hdy ndy=>?_⟩
   have sm:aN H6 (upd (upd H6 dy (.own y)) y (.ins T.aR.C dy [])):=fun b o e=>by rw[ah (ao e hy),ah (ao e hdy)];exact e
   have ny:r≠y:=by obtain⟨_,_,q,_⟩:=hA5;exact ao q hy
   refine⟨y,dy,r,u,stateCount us / modeCount u,by rw[Ua];rfl,af,hA5.same sm,ny,hu,by omega,fun H7 oc e1 e2 e3 fr=>⟨rfl,?_⟩⟩
   have s7:aN H6 H7:=aN.made hy hdy fr
   refine kk _ _ s7 ⟨y,rfl,u,eu,dy,oc,?_,?_⟩
   ·refine ia ?_ (s5.free hy)
    rw[kd (fun e=>hne (by rw[←e];exact hy))];exact e1
   ·have noc:H6 oc=none:=sm.free e3
    refine ia ?_ (s5.free noc)
    rw[kd (fun e=>hne (by rw[←e];exact noc))];exact e2
  ·have L:=B5.lr fun i r _ _ ss h=>jc _ _ i r _ _ (jO ss) h
   rw[QH,h2]at L
   have s5:=B5.cK
   refine⟨_,rfl,fR (gs:=[("steps",.ref D)]) (s5 _ _ hx) T.bQ.cls T.fi rfl (by simp) ?_⟩
   have F6:∀b o,H b=some o→b≠x→(upd H5 x (.ins T.bQ.C dx [("steps",.ref D)])) b=some o:=fun b o e ne=>by rw[ah ne];exact s5 _ _ e
   refine⟨_,rfl,a,us,rfl,hfr _ F6,hw,h600,fun l H7 s7 hl hl7=>?_⟩
   refine⟨_,rfl,fR (gs:=OG D l) (s7 _ _ af) T.bQ.cls T.gi rfl (by simp) ?_⟩
   have nlx:l≠x:=fun q=>by rw[q,af]at hl;cases hl
   have hl0:H l=none:=by rw[ah nlx]at hl;exact s5.free hl
   obtain⟨qs,q1,q2,q3⟩:=L
   have nDx:D≠x:=rq q1 (s5 _ _ hx) (by intro z;cases z)
   have nw7:∀b o,Nw H H5 b=some o→Nw H (upd H7 x (.ins T.bQ.C dx (OG D l))) b=some o:=fun b o e=>by
    obtain⟨g1,g2⟩:=dE e
    have nb:b≠x:=fun z=>by rw[z,hx]at g2;cases g2
    refine ia ?_ g2
    rw[ah nb]
    exact s7 _ _ (by rw[ah nb];exact g1)
   refine k _ D l af ?_ (ia (by rw[ah nlx];exact hl7) hl0) (fun b o e ne=>by rw[ah ne];exact s7 _ _ (F6 b o e ne))
   exact⟨qs,nw7 _ _ (ia q1 hD),q2,fun i r er=>jc _ _ i r _ _ nw7 (q3 i r er)⟩
open Vbbcag (State Hour)
def jm(H:Hp)(M:List Addr):Hp:=fun b=>if b∈M then none else H b
theorem js{H:Hp}{M:List Addr}{b:Addr}{o:HO}(h:H b=some o)(n:b∉M):jm H M b=some o:=by unfold jm;rw[if_neg n];exact h
theorem dq{H:Hp}{M:List Addr}{b:Addr}{o:HO}(h:jm H M b=some o):H b=some o∧b∉M:=by
 unfold jm at h
 split at h
 ·cases h
 ·rename_i n;exact⟨h,n⟩
theorem fS(H:Hp)(M:List Addr):aN (jm H M) H:=fun b o h=>(dq h).1
theorem mW{H:Hp}{M:List Addr}{D:Addr}{o:HO}(h:D∈M):jm (upd H D o) M=jm H M:=by
 funext b
 unfold jm
 by_cases hb:b∈M
 ·rw[if_pos hb,if_pos hb]
 ·rw[if_neg hb,if_neg hb,ah (fun e=>hb (by rw[e];exact h))]
structure Frame(M M':List Addr)(H H':Hp):Prop where
 out:∀b o,H b=some o→b∉M→H' b=some o
 new:∀b,b∈M'→b∈M∨H b=none
theorem Frame.trans{M M1 M2:List Addr}{H H1 H2:Hp}(f:Frame M M1 H H1)(g:Frame M1 M2 H1 H2):Frame M M2 H H2:=by
 refine⟨fun b o e n=>g.out b o (f.out b o e n) (fun m=>?_),fun b m=>?_⟩
 ·rcases f.new b m with q|q
  ·exact n q
  ·rw[q]at e;cases e
 ·rcases g.new b m with q|q
  ·exact f.new b q
  ·by_cases z:b∈M
   ·exact .inl z
   ·refine .inr ?_
    cases e:H b with
    | none=>rfl
    | some o=>rw[f.out b o e z]at q;cases q
theorem Frame.of{M:List Addr}{H H':Hp}(s:aN H H'):Frame M M H H':=⟨fun b o e _=>s b o e,fun b m=>.inl m⟩
theorem Frame.AR{M M':List Addr}{H H':Hp}(f:Frame M M' H H')(X:List Addr):aN (jm H (M++X)) (jm H' (M'++X)):=fun b o e=>by
 obtain⟨h1,h2⟩:=dq e
 rw[RB,not_or]at h2
 refine js (f.out b o h1 h2.1) fun m=>?_
 rcases RB.mp m with m|m
 ·rcases f.new b m with q|q
  ·exact h2.1 q
  ·rw[q]at h1;cases h1
 ·exact h2.2 m
theorem Frame.upd{M:List Addr}{H:Hp}{D:Addr}{o:HO}(h:D∈M):Frame M M H (upd H D o):=⟨fun b u e n=>by rw[ah (fun q=>n (by rw[q];exact h))];exact e,fun b m=>.inl m⟩
structure qE where
 pu:Addr
 pm:Addr
 pl:Addr
 pa:Addr
 pt:Addr
 lH:List Addr
 ex:List Addr
def aJ(a:Addr)(A:qE):List Addr:=a::A.pm::A.pl::A.pa::A.pt::A.lH
def cf(a:Addr)(A:qE):List Addr:=aJ a A++A.ex
structure Lo(s:State):Prop where
 wf:lY s.units
 u4:s.units.length≤4
 sc:stateCount s.units≤600
 ms:bG s.units s.modes
 nw:s.now≤s.hours.length
 oJ:s.hours.length≤48
 fr:yN s.units s.hours
 ld:∀h∈s.hours,h.load≤240
def markV:Option (Nat×Nat)→V
 | none=>.non
 | some m=>.int ((m.1+m.2:Nat):Int)
def yg(hs:List Hour):List V:=hs.map fun h=>V.int (h.load:Nat)
def qZ(A:qE)(s:State)(gv:V):List (Str×V):=[("units",.ref A.pu),("modes",.ref A.pm),("now",.int (s.now:Nat)),("spent",.int (s.spent:Nat)),("ground",gv),("loads",.ref A.pl),("available",.ref A.pa),("tables",.ref A.pt),("marked",markV s.mark)]
section
variable{K:Frg}{mg:Str→Option Value}
structure cP(T:Tx K mg)(H:Hp)(a:Addr)(s:State)(A:qE)(k:Nat):Prop where
 obj:∃dx gv,H a=some (.ins T.aw.C dx (qZ A s gv))∧(gv=.non∨∃g,gv=.ref g∧Gr T (jm H (cf a A)) g s.units)
 units:cQ T.aK.C (jm H (cf a A)) A.pu s.units
 modes:H A.pm=some (.lst (mV s.units s.modes))
 loads:H A.pl=some (.lst (yg s.hours))
 eS:H A.pa=some (.lst (A.lH.map V.ref))
 jR:A.lH.length=s.hours.length
 rows:∀(i:Nat)(r:Addr)(h:Hour),A.lH[i]?=some r→s.hours[i]?=some h→H r=some (.lst (yV h.free))
 tabs:∃rts:List Addr,H A.pt=some (.lst (rts.map V.ref))∧rts.length≤s.hours.length+1∧∀(j:Nat)(r:Addr),rts[j]?=some r→j<k→jm H (cf a A) r=some (.lst (zV (cY s.units s.hours j)))
 nd:(aJ a A).Nodup
 vB:∀b,b∈A.ex→b∉aJ a A∧H b≠none
 ok:Lo s
abbrev aI(T:Tx K mg)(H:Hp)(a:Addr)(s:State)(A:qE):Prop:=cP T H a s A 100
theorem cP.same{T:Tx K mg}{H H':Hp}{a:Addr}{s:State}{A:qE}{k:Nat}(p:cP T H a s A k)(e:aN H H'):cP T H' a s A k:=by
 have f:aN (jm H (cf a A)) (jm H' (cf a A)):=(Frame.of e).AR A.ex
 obtain⟨dx,gv,h1,h2⟩:=p.obj
 obtain⟨rts,t1,t2,t3⟩:=p.tabs
 refine⟨⟨dx,gv,e _ _ h1,?_⟩,p.units.same f,e _ _ p.modes,e _ _ p.loads,e _ _ p.eS,p.jR,fun i r h a b=>e _ _ (p.rows i r h a b),⟨rts,e _ _ t1,t2,fun j r x y=>f _ _ (t3 j r x y)⟩,p.nd,fun b hb=>⟨(p.vB b hb).1,fun z=>(p.vB b hb).2 (e.free z)⟩,p.ok⟩
 rcases h2 with h2|⟨g,h2,h3⟩
 ·exact .inl h2
 ·exact .inr ⟨g,h2,h3.same f⟩
section
variable{T:Tx K mg}{H:Hp}{a:Addr}{s:State}{A:qE}{k:Nat}{Q:V→Prop}
theorem cP.dO(p:cP T H a s A k)(q:Q (.ref A.pu)):ig K H a "units" Q:=by obtain⟨dx,gv,h1,_⟩:=p.obj;exact fc h1 T.aw.cls T.fY rfl q
theorem cP.jG(p:cP T H a s A k)(q:Q (.ref A.pm)):ig K H a "modes" Q:=by obtain⟨dx,gv,h1,_⟩:=p.obj;exact fc h1 T.aw.cls T.fW rfl q
theorem cP.oI(p:cP T H a s A k)(q:Q (.int (s.now:Nat))):ig K H a "now" Q:=by obtain⟨dx,gv,h1,_⟩:=p.obj;exact fc h1 T.aw.cls T.jd rfl q
theorem cP.C4(p:cP T H a s A k)(q:Q (.int (s.spent:Nat))):ig K H a "spent" Q:=by obtain⟨dx,gv,h1,_⟩:=p.obj;exact fc h1 T.aw.cls T.fX rfl q
theorem cP.dm(p:cP T H a s A k)(q:Q (.ref A.pl)):ig K H a "loads" Q:=by obtain⟨dx,gv,h1,_⟩:=p.obj;exact fc h1 T.aw.cls T.iV rfl q
theorem cP.jF(p:cP T H a s A k)(q:Q (.ref A.pa)):ig K H a "available" Q:=by obtain⟨dx,gv,h1,_⟩:=p.obj;exact fc h1 T.aw.cls T.eT rfl q
theorem cP.i8(p:cP T H a s A k)(q:Q (.ref A.pt)):ig K H a "tables" Q:=by obtain⟨dx,gv,h1,_⟩:=p.obj;exact fc h1 T.aw.cls T.fk rfl q
theorem cP.Ew(p:cP T H a s A k)(q:Q (markV s.mark)):ig K H a "marked" Q:=by obtain⟨dx,gv,h1,_⟩:=p.obj;exact fc h1 T.aw.cls T.fj rfl q
theorem cP.un(p:cP T H a s A k):cQ T.aK.C H A.pu s.units:=p.units.same (fS _ _)
theorem cP.K3(p:cP T H a s A k):∃rs:List Addr,H A.pu=some (.lst (rs.map V.ref))∧rs.length=s.units.length∧∀(i:Nat)(r:Addr),rs[i]?=some r→∃u,s.units[i]?=some u∧bq T.aK.C H r u:=p.un.get
theorem cP.nm(p:cP T H a s A k){m:Str}(h:∀gv,(qZ A s gv).lookup m=none):∃dx fs,H a=some (.ins T.aw.C dx fs)∧fs.lookup m=none:=by
 obtain⟨dx,gv,h1,_⟩:=p.obj;exact⟨dx,_,h1,h gv⟩
end
end
def G6{mg:Str→Option Value}(T:Tx K mg):Sp:=fun vs H Q _=>E5 fun a s A k (u:Int)=>A3 (vs=[.ref a,.int u]) (cP T H a s A k) (Q (.bl (Vbbcag.isUnit s u)) H)
theorem m6(T:Tx K mg):dJ P w base 1 T.qJ (G6 T):=by
 refine T.qJ.fn.ok G1 (fun vs H Q E h=>?_) (fun cdv A outer s H vs Q E hr h=>?_)
 ·obtain⟨a,s,A,k,u,rfl,_⟩:=h
  rfl
 ·obtain⟨a,s,A,k,u,rfl,p,q⟩:=h
  refine⟨_,(ag (au (mr jf km ak (pv 1) (aH az rfl T.ba bh (aa (aj (pv 0) rfl) ae))))),?_⟩
  obtain⟨rs,h1,h2,_⟩:=p.K3
  have e:Vbbcag.isUnit s u=(decide (0≤u)&&decide (u<(s.units.length:Int))):=by
   unfold Vbbcag.isUnit Vbbcag.from_
   rw[RU,Ro,decide_eq_true_eq,decide_eq_true_eq,decide_eq_true_eq]
   omega
  rw[e]at q
  refine⟨_,rfl,_,_,rfl,rfl,_,rfl,?_⟩
  refine bF (fun c=>?_) (fun c=>?_)
  ·refine⟨_,rfl,p.dO ⟨A.pu,_,rfl,.inl (aF.of h1),_,_,rfl,rfl,?_⟩⟩
   rw[QH,h2]
   rw[c]at q
   exact q
  ·have c:decide (0≤u)=false:=by simpa using c
   rw[c]at q
   exact q
def toCome?(s:State)(h:Int):Bool:=Vbbcag.from_ h (s.now:Int) ((s.hours.length:Int)-1)
def Bz{mg:Str→Option Value}(T:Tx K mg):Sp:=fun vs H Q _=>E5 fun a s A k (u:Int)=>A3 (vs=[.ref a,.int u]) (cP T H a s A k) (Q (.bl (toCome? s u)) H)
theorem c9(T:Tx K mg):dJ P w base 1 T.dP (Bz T):=by
 refine T.dP.fn.ok Bo (fun vs H Q E h=>?_) (fun cdv A outer s H vs Q E hr h=>?_)
 ·obtain⟨a,s,A,k,u,rfl,_⟩:=h
  rfl
 ·obtain⟨a,s,A,k,u,rfl,p,q⟩:=h
  refine⟨_,(ag (au (mr jf km (aj (pv 0) rfl) (pv 1) (aH az rfl T.ba bh (aa (aj (pv 0) rfl) ae))))),?_⟩
  have e:toCome? s u=(decide ((s.now:Int)≤u)&&decide (u<(s.hours.length:Int))):=by
   unfold toCome? Vbbcag.from_
   rw[RU,Ro,decide_eq_true_eq,decide_eq_true_eq,decide_eq_true_eq]
   omega
  rw[e]at q
  refine⟨_,rfl,p.oI ⟨_,rfl,_,_,rfl,rfl,_,rfl,?_⟩⟩
  refine bF (fun c=>?_) (fun c=>?_)
  ·refine⟨_,rfl,p.dm ⟨A.pl,_,rfl,.inl (aF.of p.loads),_,_,rfl,rfl,?_⟩⟩
   unfold yg
   rw[QH]
   rw[c]at q
   exact q
  ·have c:decide ((s.now:Int)≤u)=false:=by simpa using c
   rw[c]at q
   exact q
def oq{mg:Str→Option Value}(T:Tx K mg):Sp:=fun vs H Q _=>E4 fun a s A k=>A3 (vs=[.ref a]) (cP T H a s A k) (mE H Q ((Q5 (s.hours.length-s.now)).map fun i=>V.int ((s.now+i:Nat):Int)))
theorem dY(T:Tx K mg):Ih P w mg base 1 T.cq (oq T):=by
 refine T.cq.fn.ok nZ (fun vs H Q E h=>?_) (fun cdv A outer s H vs Q E hr h=>?_)
 ·obtain⟨a,s,A,k,rfl,_⟩:=h
  rfl
 ·obtain⟨a,s,A,k,rfl,p,q⟩:=h
  refine⟨_,(ag (au (rE rfl rfl T.qQ rfl T.dD (aa (aj (pv 0) rfl) (aa (aH az rfl T.ba bh (aa (aj (pv 0) rfl) ae)) ae))))),?_⟩
  have nw:=p.ok.nw
  have oJ:=p.ok.oJ
  refine⟨_,rfl,p.oI ⟨_,rfl,p.dm ⟨A.pl,_,rfl,.inl (aF.of p.loads),((s.now:Nat):Int),((s.hours.length:Nat):Int),?_,⟨by omega,by omega,by omega,by omega⟩,by omega,fun l hl=>?_⟩⟩⟩
  ·unfold yg;rw[QH]
  ·refine q l _ (aq hl) hl ?_
   rw[af,TR]
   simp
section
variable{K:Frg}{mg:Str→Option Value}{T:Tx K mg}{H:Hp}{a:Addr}{s:State}{A:qE}{k:Nat}
theorem cP.old(p:cP T H a s A k){b:Addr}(h:b∈aJ a A):H b≠none:=by
 unfold aJ at h
 simp only[QM]at h
 rcases h with rfl|rfl|rfl|rfl|rfl|h
 ·obtain⟨dx,gv,h1,_⟩:=p.obj;rw[h1];intro z;cases z
 ·rw[p.modes];intro z;cases z
 ·rw[p.loads];intro z;cases z
 ·rw[p.eS];intro z;cases z
 ·obtain⟨rts,h1,_⟩:=p.tabs;rw[h1];intro z;cases z
 ·obtain⟨i,hi,e⟩:=Tu h
  have hi2:i<s.hours.length:=by rw[←p.jR];exact hi
  rw[p.rows i b s.hours[i] (by rw[QJ hi,e]) (QJ hi2)]
  intro z;cases z
theorem cP.AV(p:cP T H a s A k){b:Addr}(h:H b=none):b∉aJ a A:=fun m=>p.old m h
theorem cP.HK(p:cP T H a s A k){b:Addr}(h:H b=none):b∉cf a A:=fun m=>by
 rcases RB.mp m with m|m
 ·exact p.AV h m
 ·exact(p.vB b m).2 h
theorem cP.Km(p:cP T H a s A k):A.pm≠a∧A.pl≠a∧A.pa≠a∧A.pt≠a∧∀r∈A.lH,r≠a:=by
 have nd:=p.nd
 unfold aJ at nd
 simp only[Rh,QM,not_or]at nd
 obtain⟨⟨a1,a2,a3,a4,a5⟩,_⟩:=nd
 exact⟨Ne.symm a1,Ne.symm a2,Ne.symm a3,Ne.symm a4,fun r hr e=>a5 (by rw[←e];exact hr)⟩
theorem cP.setG(p:cP T H a s A k){dx g:Addr}{gv:V}(h:H a=some (.ins T.aw.C dx (qZ A s gv)))(hg:Gr T (jm H (cf a A)) g s.units):cP T (upd H a (.ins T.aw.C dx (qZ A s (.ref g)))) a s A k:=by
 obtain⟨n1,n2,n3,n4,n5⟩:=p.Km
 have ef:jm (upd H a (.ins T.aw.C dx (qZ A s (.ref g)))) (cf a A)=jm H (cf a A):=mW (by simp[cf,aJ])
 obtain⟨rts,t1,t2,t3⟩:=p.tabs
 refine⟨⟨dx,_,af,.inr ⟨g,rfl,by rw[ef];exact hg⟩⟩,by rw[ef];exact p.units,by rw[ah n1];exact p.modes,by rw[ah n2];exact p.loads,by rw[ah n3];exact p.eS,p.jR,fun i r h x y=>by rw[ah (n5 r (QL x))];exact p.rows i r h x y,⟨rts,by rw[ah n4];exact t1,t2,by rw[ef];exact t3⟩,p.nd,fun b hb=>⟨(p.vB b hb).1,by rw[ah (fun z=>(p.vB b hb).1 (by rw[z];simp[aJ]))];exact(p.vB b hb).2⟩,p.ok⟩
end
def By{mg:Str→Option Value}(T:Tx K mg):Sp:=fun vs H Q _=>E4 fun a s A k=>A3 (vs=[.ref a]) (cP T H a s A k) (∀g H',cP T H' a s A k→Frame (aJ a A) (aJ a A) H H'→Gr T (jm H' (cf a A)) g s.units→Q (.ref g) H')
theorem fZ(T:Tx K mg):dJ P w base 7 T.gw (By T):=by
 refine T.gw.fn.ok Bm (fun vs H Q E h=>?_) (fun cdv A outer s H vs Q E hr h=>?_)
 ·obtain⟨a,s,A,k,rfl,_⟩:=h
  rfl
 ·obtain⟨a,s,A,k,rfl,p,q⟩:=h
  refine⟨_,(ab (bf (aM fP (aj (pv 0) rfl) bR (aQ _)) (ag (bK (pv 0) (HR T.bQ (zE T) hr (aa (aj (pv 0) rfl) ae)) rfl)) aP)
   (ag (au (aj (pv 0) rfl)))),?_⟩
  obtain⟨dx,gv,h1,h2⟩:=p.obj
  refine⟨_,rfl,fc h1 T.aw.cls T.cE rfl ⟨rfl,_,rfl,?_⟩⟩
  rcases h2 with rfl|⟨g,rfl,hg⟩
  ·refine bF (fun c=>?_) (fun c=>absurd (by simp) c)
   refine⟨_,rfl,p.dO fun x dy hx hdy ndy=>?_⟩
   have sm:aN H (upd (upd H dy (.own x)) x (.ins T.bQ.C dy [])):=fun b o e=>by rw[ah (ao e hx),ah (ao e hdy)];exact e
   refine⟨x,dy,A.pu,s.units,rfl,af,p.un.same sm,fun H' fr=>p.un.same (aN.made hx hdy fr),p.ok.wf,p.ok.sc,p.ok.u4,fun H2 sl ll g1 g2 g3 fr=>⟨rfl,?_⟩⟩
   have s2:aN H H2:=aN.made hx hdy fr
   have p2:=p.same s2
   have nx:x∉cf a A:=p.HK hx
   have nwf:∀b o,Nw (upd (upd H dy (.own x)) x (.ins T.bQ.C dy [])) H2 b=some o→jm H2 (cf a A) b=some o:=fun b o e=>by
    obtain⟨e1,e2⟩:=dE e
    exact js e1 (p.HK (sm.free e2))
   have hG:Gr T (jm H2 (cf a A)) x s.units:=⟨dy,sl,ll,js g1 nx,g2.same (jc _ _) nwf,nwf _ _ g3⟩
   refine⟨_,rfl,fR (gs:=qZ A s (.ref x)) (s2 _ _ h1) T.aw.cls T.cE rfl (by simp[qZ]) ?_⟩
   have p3:=p2.setG (s2 _ _ h1) hG
   have ef:jm (upd H2 a (.ins T.aw.C dx (qZ A s (.ref x)))) (cf a A)=jm H2 (cf a A):=mW (by simp[cf,aJ])
   refine⟨_,rfl,fc af T.aw.cls T.cE rfl ?_⟩
   exact q x _ p3 ((Frame.of s2).trans (Frame.upd (by simp[aJ]))) (by rw[ef];exact hG)
  ·refine bF (fun c=>absurd (of_decide_eq_true c) (by intro z;cases z)) (fun c=>?_)
   refine⟨_,rfl,fc h1 T.aw.cls T.cE rfl ?_⟩
   exact q g _ p (Frame.of (aN.refl _)) hg
theorem zX:∀{xs ys:List Addr},xs.map V.ref=ys.map V.ref→xs=ys
 | [],[],_=>rfl
 | [],_::_,h=>by simp at h
 | _::_,[],h=>by simp at h
 | x::xs,y::ys,h=>by
  simp only[RC,VC]at h
  obtain⟨h1,h2⟩:=h
  injection h1 with h1
  rw[h1,zX h2]
theorem xC{us:List Unit_}{hs:List Hour}{j:Nat}{h:Hour}(e:hs[hs.length-(j+1)]?=some h):cY us hs (j+1)=bH us h.free h.load (cY us hs j):=by
 show(match hs[hs.length-(j+1)]? with
  | some h=>bH us h.free h.load (cY us hs j)
  | none=>[])=_
 rw[e]
section
variable{K:Frg}{mg:Str→Option Value}{T:Tx K mg}{H:Hp}{a:Addr}{s:State}{A:qE}{k:Nat}
theorem cP.tab(p:cP T H a s A k){rts:List Addr}(h:H A.pt=some (.lst (rts.map V.ref))):rts.length≤s.hours.length+1∧∀(j:Nat)(r:Addr),rts[j]?=some r→j<k→jm H (cf a A) r=some (.lst (zV (cY s.units s.hours j))):=by
 obtain⟨qs,q1,q2,q3⟩:=p.tabs
 rw[h]at q1
 injection q1 with q1
 injection q1 with q1
 have:=zX q1
 subst this
 exact⟨q2,q3⟩
theorem cP.Ph(p:cP T H a s A k):a≠A.pt∧A.pm≠A.pt∧A.pl≠A.pt∧A.pa≠A.pt∧∀r∈A.lH,r≠A.pt:=by
 have nd:=p.nd
 unfold aJ at nd
 simp only[Rh,QM,not_or]at nd
 obtain⟨⟨a1,a2,a3,a4,a5⟩,⟨b1,b2,b3,b4⟩,⟨c1,c2,c3⟩,⟨d1,d2⟩,e1,_⟩:=nd
 exact⟨a4,b3,c2,d1,fun r hr e=>e1 (by rw[←e];exact hr)⟩
theorem cP.push(p:cP T H a s A k){rts:List Addr}{r:Addr}(h:H A.pt=some (.lst (rts.map V.ref)))(hr:H r=some (.lst (zV (cY s.units s.hours rts.length))))(nr:r∉cf a A)(hl:rts.length≤s.hours.length):cP T (upd H A.pt (.lst (rts.map V.ref++[V.ref r]))) a s A k:=by
 obtain⟨n1,n2,n3,n4,n5⟩:=p.Ph
 have ef:jm (upd H A.pt (.lst (rts.map V.ref++[V.ref r]))) (cf a A)=jm H (cf a A):=mW (by simp[cf,aJ])
 obtain⟨t2,t3⟩:=p.tab h
 obtain⟨dx,gv,o1,o2⟩:=p.obj
 refine⟨⟨dx,gv,by rw[ah n1];exact o1,by rw[ef];exact o2⟩,by rw[ef];exact p.units,by rw[ah n2];exact p.modes,by rw[ah n3];exact p.loads,by rw[ah n4];exact p.eS,p.jR,fun i r h x y=>by rw[ah (n5 r (QL x))];exact p.rows i r h x y,⟨rts++[r],by rw[af,Rl];rfl,by simp;omega,fun j q e hj=>?_⟩,p.nd,fun b hb=>⟨(p.vB b hb).1,by rw[ah (fun z=>(p.vB b hb).1 (by rw[z];simp[aJ]))];exact(p.vB b hb).2⟩,p.ok⟩
 rw[ef]
 by_cases c:j<rts.length
 ·rw[Q0 c]at e
  exact t3 j q e hj
 ·have ej:j=rts.length:=by
   have:=(QO.mp e).1
   simp at this;omega
  subst ej
  rw[QX (QP _),Se]at e
  cases e
  exact js hr nr
end
def xu{mg:Str→Option Value}(T:Tx K mg):Sp:=fun vs H Q _=>E4 fun a s A (h:Nat)=>A4 (vs=[.ref a,.int h]) (aI T H a s A) (h≤s.hours.length) (∀r H',aI T H' a s A→Frame (aJ a A) (aJ a A) H H'→jm H' (cf a A) r=some (.lst (zV (cY s.units s.hours (s.hours.length-h))))→Q (.ref r) H')
theorem fH(T:Tx K mg):dJ P w base 8 T.eE (xu T):=by
 refine T.eE.fn.ok dF (fun vs H Q E h=>?_) (fun cdv A outer s H vs Q E hr h=>?_)
 ·obtain⟨a,s,A,k,rfl,_⟩:=h
  rfl
 ·obtain⟨a,s,A,hour,rfl,p,hh,q⟩:=h
  refine⟨_,(ab (ax (i:=2) dF.nd rfl (Or.inl rfl) (aA T.gw (fZ T) hr (aa (pv 0) ae)))
   (ab (ax (i:=3) dF.nd rfl (Or.inl rfl) (aH az rfl T.ba bh (aa (aj (pv 0) rfl) ae)))
   (ab (bf (aM rC (aH az rfl T.ba bh (aa (aj (pv 0) rfl) ae)) ak (aQ _)) (ag (aX (dH PySem.F.plainAttrs_list PySem.F.slot_list_append PySem.F.type_list_append cA (aj (pv 0) rfl) (aa (aO wQ (aE (aa ak ae)) (aH az rfl T.ba bh (aa (aj (pv 2) rfl) ae))) ae)))) aP)
   (ab (zU PassesOwn.never (aM jf (aH az rfl T.ba bh (aa (aj (pv 0) rfl) ae)) (aO de (pv 3) (pv 1)) (aQ _)) (ab (ax (i:=4) dF.nd rfl (Or.inl rfl) (aO de (pv 3) (aH az rfl T.ba bh (aa (aj (pv 0) rfl) ae))))
   (ab (ax (i:=5) dF.nd rfl (Or.inl rfl) (aT aG (aj (pv 0) rfl) (oN jB ak) (fun _ _=>rfl)))
   (ag (aX (dH PySem.F.plainAttrs_list PySem.F.slot_list_append PySem.F.type_list_append cA (aj (pv 0) rfl) (aa (aA T.fA (gp T) hr (aa (pv 2) (aa (aT aG (aj (pv 0) rfl) (pv 4) (fun _ _=>rfl)) (aa (aT aG (aj (pv 0) rfl) (pv 4) (fun _ _=>rfl)) (aa (pv 5) ae))))) ae)))))))
   (ag (au (aT aG (aj (pv 0) rfl) (aO de (pv 3) (pv 1)) (fun _ _=>rfl)))))))),?_⟩
  have oJ:=p.ok.oJ
  refine⟨_,rfl,a,s,A,100,rfl,p,fun g H1 p1 F1 hG=>?_⟩
  refine⟨_,rfl,p1.dm ⟨A.pl,_,rfl,.inl (aF.of p1.loads),?_⟩⟩
  have el:(yg s.hours).length=s.hours.length:=by unfold yg;rw[QH]
  rw[el]
  obtain⟨rts,t1,t2,t3⟩:=p1.tabs
  dsimp only[kK]
  refine iN (fun σ' H2=>σ'=[some (.ref a),some (.int hour),some (.ref g),some (.int (s.hours.length:Nat)),none,none]∧∃rts:List Addr,aI T H2 a s A∧Frame (aJ a A) (aJ a A) H H2∧Gr T (jm H2 (cf a A)) g s.units∧H2 A.pt=some (.lst (rts.map V.ref))∧1≤rts.length) (fun σ' H2 hM=>?_) (fun N hN=>?_)
  ·obtain⟨rfl,rts,p2,F2,hG2,t2,l1⟩:=hM
   refine⟨fun m σ H3=>∃v4 v5,∃rts:List Addr,σ=[some (.ref a),some (.int hour),some (.ref g),some (.int (s.hours.length:Nat)),v4,v5]∧aI T H3 a s A∧Frame (aJ a A) (aJ a A) H H3∧Gr T (jm H3 (cf a A)) g s.units∧H3 A.pt=some (.lst (rts.map V.ref))∧1≤rts.length∧m=s.hours.length+1-rts.length,⟨_,none,none,rts,rfl,p2,F2,hG2,t2,l1,rfl⟩,?_⟩
   rintro m σ H3 ⟨v4,v5,qs,rfl,p3,F3,hG3,t3,l3,rfl⟩
   obtain⟨ql,qr⟩:=p3.tab t3
   refine⟨_,rfl,p3.i8 ⟨A.pt,_,rfl,.inl (aF.of t3),_,rfl,_,rfl,_,_,rfl,rfl,_,_,rfl,rfl,_,rfl,?_⟩⟩
   rw[QH]
   refine bF (fun c=>?_) (fun c=>?_)
   ·have c:=of_decide_eq_true c
    have cl:qs.length≤s.hours.length-hour:=by omega
    refine⟨fun σ' H'=>∃m',m'<s.hours.length+1-qs.length∧∃v4 v5,∃rts:List Addr,σ'=[some (.ref a),some (.int hour),some (.ref g),some (.int (s.hours.length:Nat)),v4,v5]∧aI T H' a s A∧Frame (aJ a A) (aJ a A) H H'∧Gr T (jm H' (cf a A)) g s.units∧H' A.pt=some (.lst (rts.map V.ref))∧1≤rts.length∧m'=s.hours.length+1-rts.length,fun _ _ h=>h,?_⟩
    refine⟨_,rfl,_,rfl,p3.i8 ⟨A.pt,_,rfl,.inl (aF.of t3),_,_,rfl,rfl,?_⟩⟩
    rw[QH]
    obtain⟨rl,erl⟩:∃r,qs[qs.length-1]?=some r:=⟨_,QJ (by omega)⟩
    refine⟨_,rfl,p3.i8 ⟨_,rfl,A.pt,_,_,_,rfl,rfl,aF.of t3,yy (n:=qs.length-1) (v:=.ref rl) (by rw[QH];omega) (by rw[QI,erl];rfl),?_⟩⟩
    have ee:((s.hours.length:Nat):Int)-((qs.length:Nat):Int)=((s.hours.length-qs.length:Nat):Int):=(R9 (QK cl (Rq ..))).symm
    obtain⟨h,eh⟩:∃h,s.hours[s.hours.length-qs.length]?=some h:=⟨_,QJ (by omega)⟩
    obtain⟨ra,era⟩:∃r,A.lH[s.hours.length-qs.length]?=some r:=⟨_,QJ (by rw[p3.jR];omega)⟩
    have hrl:=qr _ rl erl (by omega)
    have j1:qs.length-1+1=qs.length:=by omega
    have et:cY s.units s.hours qs.length=bH s.units h.free h.load (cY s.units s.hours (qs.length-1)):=by
     have:=xC (us:=s.units) (hs:=s.hours) (j:=qs.length-1) (h:=h) (by rw[j1];exact eh)
     rw[j1]at this
     exact this
    have Rw1:=lq p.ok.wf p.ok.u4 p.ok.fr p.ok.oJ (qs.length-1) (by omega)
    refine⟨_,rfl,p3.i8 ⟨.inl ⟨rfl,_,aF.of t3⟩,?_⟩⟩
    refine⟨_,rfl,_,rfl,p3.dm ⟨_,rfl,A.pl,_,_,_,rfl,rfl,aF.of p3.loads,at_of (v:=.int (h.load:Nat)) ee (by unfold yg;rw[QI,eh];rfl),_,rfl,p3.jF ⟨_,rfl,A.pa,_,_,_,rfl,rfl,aF.of p3.eS,at_of (v:=.ref ra) ee (by rw[QI,era];rfl),_,rfl,?_⟩⟩⟩
    refine⟨g,ra,rl,s.units,h.free,_,h.load,rfl,hG3.same (fS _ _),p.ok.wf,p.ok.fr h (QL eh),p.ok.u4,p.ok.sc,p3.rows _ ra h era eh,fS _ _ _ _ hrl,Rw1.1,fun l H4 s4 hl4 h4=>?_⟩
    have p4:=p3.same s4
    rw[←et]at h4
    refine⟨A.pt,_,_,rfl,rfl,s4 _ _ t3,HZ (by rw[QH];omega),?_⟩
    have p5:=p4.push (s4 _ _ t3) h4 (p3.HK hl4) (by omega)
    have F5:Frame (aJ a A) (aJ a A) H4 (upd H4 A.pt (.lst (qs.map V.ref++[V.ref l]))):=Frame.upd (by simp[aJ])
    refine⟨s.hours.length+1-(qs++[l]).length,by simp;omega,_,_,qs++[l],rfl,p5,(F3.trans (Frame.of s4)).trans F5,?_,by rw[af,Rl];rfl,by simp,rfl⟩
    rw[mW (by simp[cf,aJ])]
    exact hG3.same ((Frame.of s4).AR A.ex)
   ·have c:¬((qs.length:Nat):Int)≤((s.hours.length:Nat):Int)-((hour:Nat):Int):=fun z=>c (decide_eq_true z)
    obtain⟨r,er⟩:∃r,qs[s.hours.length-hour]?=some r:=⟨_,QJ (by omega)⟩
    refine⟨_,rfl,p3.i8 ⟨_,rfl,_,rfl,_,_,rfl,rfl,A.pt,_,_,_,rfl,rfl,aF.of t3,at_of (j:=s.hours.length-hour) (v:=.ref r) (by omega) (by rw[QI,er];rfl),?_⟩⟩
    exact q r _ p3 F3 (qr _ r er (by omega))
  ·refine⟨_,rfl,p1.i8 ⟨A.pt,_,rfl,.inl (aF.of t1),rfl,_,rfl,?_⟩⟩
   rw[QH]
   refine bF (fun c=>?_) (fun c=>?_)
   ·have c:rts.length=0:=dI (j:=0) c
    have er:rts=[]:=RQ c
    subst er
    refine⟨_,rfl,p1.i8 ⟨.inl ⟨rfl,_,aF.of t1⟩,sz (by simp),fun x hx=>?_⟩⟩
    have s2:=aq (o:=.lst [V.int 0]) hx
    have hG2:Gr T (upd H1 x (.lst [V.int 0])) g s.units:=(hG.same (fS _ _)).same s2
    have ll:(jC s.units).length=stateCount s.units:=by unfold jC;rw[QH,Bp.cy]
    have sc:=p.ok.sc
    refine⟨_,rfl,wx T hG2 fun la hla=>⟨la,_,rfl,.inl (aF.of hla),x,((stateCount s.units:Nat):Int),_,rfl,vI (by rw[aB,ll]),af,by omega,by omega,sz (by simp;omega),fun y hy=>?_⟩⟩
    rw[QW,Of]
    have s3:=s2.trans (aq (o:=.lst (zV (QU (stateCount s.units) 0))) hy)
    have p3:=p1.same s3
    refine⟨A.pt,_,_,rfl,rfl,s3 _ _ t1,HZ (by simp),?_⟩
    have p4:=p3.push (rts:=[]) (r:=y) (s3 _ _ t1) af (p1.HK (s2.free hy)) (by simp)
    refine hN _ _ ⟨rfl,[y],p4,(F1.trans (Frame.of s3)).trans (Frame.upd (by simp[aJ])),?_,af,by simp⟩
    rw[mW (by simp[cf,aJ])]
    exact hG.same ((Frame.of s3).AR A.ex)
   ·have c:¬rts.length=0:=Lb (j:=0) c
    exact hN _ _ ⟨rfl,rts,p1,F1,hG,t1,by omega⟩
open Vbbcag (toCome setHour proves costsOf)
def Oy:Option Nat→V
 | none=>.non
 | some c=>.int (c:Nat)
def NB(z:Int):V:=if z<NP then .int z else .non
theorem Ic{s:State}(hw:lY s.units)(h4:s.units.length≤4)(hf:yN s.units s.hours)(oJ:s.hours.length≤48)(hn:s.now≤s.hours.length)(hm:bG s.units s.modes):Oy (toCome s)=NB (rd (cY s.units s.hours (s.hours.length-s.now)) (index s.units s.modes)):=by
 obtain⟨h1,h2⟩:=Hf hw h4 hf oJ hn hm
 rw[h1]
 unfold NB
 split
 ·rename_i c
  have:=h2 c
  show V.int _=V.int _
  congr 1
  omega
 ·rfl
theorem Nm{s:State}(o:Lo s):Oy (toCome s)=NB (rd (cY s.units s.hours (s.hours.length-s.now)) (index s.units s.modes)):=Ic o.wf o.u4 o.fr o.oJ o.nw o.ms
def vt{mg:Str→Option Value}(T:Tx K mg):Sp:=fun vs H Q _=>E5 fun a r s A zs=>A6 (vs=[.ref a,.ref r]) (aI T H a s A) (H r=some (.lst (zV zs))) (r∉aJ a A) (zs.length=stateCount s.units) (∀H',aI T H' a s A→Frame (aJ a A) (aJ a A) H H'→Q (NB (rd zs (index s.units s.modes))) H')
theorem kQ(T:Tx K mg):dJ P w base 8 T.gK (vt T):=by
 refine T.gK.fn.ok kT (fun vs H Q E h=>?_) (fun cdv A outer s H vs Q E hr h=>?_)
 ·obtain⟨a,r,s,A,zs,rfl,_⟩:=h
  rfl
 ·obtain⟨a,r,s,A,zs,rfl,p,hR,nr,hz,q⟩:=h
  refine⟨_,(ab (ax (i:=2) kT.nd rfl (Or.inl rfl) (aT aG (pv 1) (aA T.zS (ET T) hr (aa (aA T.gw (fZ T) hr (aa (pv 0) ae)) (aa (aj (pv 0) rfl) ae))) (fun _ _=>rfl)))
   (ag (au (gR (aM km (pv 2) (aL (v:=.int (4000000000000000000)) rfl T.fD ⟨_,rfl⟩) (aQ _)) (pv 2) bR)))),?_⟩
  refine⟨_,rfl,_,rfl,a,s,A,100,rfl,p,fun g H1 p1 F1 hG=>?_⟩
  refine⟨_,rfl,p1.jG ⟨g,A.pm,s.units,s.modes,rfl,hG.same (fS _ _),p.ok.wf,p.ok.ms,p1.modes,fun H2 s2=>?_⟩⟩
  have hi:index s.units s.modes<zs.length:=by rw[hz];exact cT p.ok.ms
  refine⟨r,_,_,_,rfl,rfl,aF.of (s2 _ _ (F1.out _ _ hR nr)),cR (gE hi),?_⟩
  have p2:=p1.same s2
  have q2:=q H2 p2 (F1.trans (Frame.of s2))
  unfold NB at q2
  refine⟨_,rfl,_,_,rfl,rfl,_,rfl,?_⟩
  refine bF (fun c=>?_) (fun c=>?_)
  ·rw[if_pos (show rd zs (index s.units s.modes)<NP from of_decide_eq_true c)]at q2
   exact⟨_,rfl,q2⟩
  ·rw[if_neg (show ¬rd zs (index s.units s.modes)<NP from fun z=>c (decide_eq_true z))]at q2
   exact q2
def BC{mg:Str→Option Value}(T:Tx K mg):Sp:=fun vs H Q _=>E3 fun a s A=>A3 (vs=[.ref a]) (aI T H a s A) (∀H',aI T H' a s A→Frame (aJ a A) (aJ a A) H H'→Q (Oy (toCome s)) H')
theorem iY(T:Tx K mg):dJ P w base 9 T.iy (BC T):=by
 refine T.iy.fn.ok Bq (fun vs H Q E h=>?_) (fun cdv A outer s H vs Q E hr h=>?_)
 ·obtain⟨a,s,A,rfl,_⟩:=h
  rfl
 ·obtain⟨a,s,A,rfl,p,q⟩:=h
  refine⟨_,(ag (au (aA T.gK (kQ T) hr (aa (pv 0) (aa (aA T.eE (fH T) hr (aa (pv 0) (aa (aj (pv 0) rfl) ae))) ae))))),?_⟩
  have o:=p.ok
  have R:=lq o.wf o.u4 o.fr o.oJ (s.hours.length-s.now) (Rq ..)
  refine⟨_,rfl,_,rfl,_,rfl,p.oI ⟨a,s,A,s.now,rfl,p,o.nw,fun r H1 p1 F1 hr1=>?_⟩⟩
  obtain⟨e1,e2⟩:=dq hr1
  refine⟨a,r,s,A,_,rfl,p1,e1,fun m=>e2 (SX _ m),R.1,fun H2 p2 F2=>?_⟩
  rw[←Nm o]
  exact q H2 p2 (F1.trans F2)
def ud{mg:Str→Option Value}(T:Tx K mg):Sp:=fun vs H Q _=>E5 fun a s A (t:Nat) (load:Nat)=>A5 (vs=[.ref a,.int t,.int load]) (aI T H a s A) (s.now≤t) (t<s.hours.length) (∀H',aI T H' a s A→Frame (aJ a A) (aJ a A) H H'→Q (Oy (toCome (setHour s t fun h=>{h with load:=load}))) H')
theorem tF(T:Tx K mg):dJ P w base 9 T.jt (ud T):=by
 refine T.jt.fn.ok cH (fun vs H Q E h=>?_) (fun cdv A outer s H vs Q E hr h=>?_)
 ·obtain⟨a,s,A,t,load,rfl,_⟩:=h
  rfl
 ·obtain⟨a,s,A,t,load,rfl,p,ht1,ht2,q⟩:=h
  refine⟨_,(ab (ax (i:=3) cH.nd rfl (Or.inl rfl) (aA T.gw (fZ T) hr (aa (pv 0) ae)))
   (ab (ax (i:=4) cH.nd rfl (Or.inl rfl) (aA T.fA (gp T) hr (aa (pv 3) (aa (pv 2) (aa (aT aG (aj (pv 0) rfl) (pv 1) (fun _ _=>rfl)) (aa (aA T.eE (fH T) hr (aa (pv 0) (aa (aO bz (pv 1) ak) ae))) ae))))))
   (ab (bU PassesOwn.never rfl (wY rfl T.dD (aa (aO de (pv 1) ak) (aa (aO de (aj (pv 0) rfl) ak) (aa (oN jB ak) ae)))) (aD (i:=5) cH.nd rfl (Or.inl rfl)) (ag (ax (i:=4) cH.nd rfl (Or.inl rfl) (aA T.fA (gp T) hr (aa (pv 3) (aa (aT aG (aj (pv 0) rfl) (pv 5) (fun _ _=>rfl)) (aa (aT aG (aj (pv 0) rfl) (pv 5) (fun _ _=>rfl)) (aa (pv 4) ae))))))))
   (ag (au (aA T.gK (kQ T) hr (aa (pv 0) (aa (pv 4) ae)))))))),?_⟩
  have o:=p.ok
  have oJ:=o.oJ
  generalize hg':(fun h:Hour=>{h with load:=load})=f at q
  have ff:∀x,(f x).free=x.free∧(f x).load=load:=fun x=>by rw[←hg'];exact⟨rfl,rfl⟩
  have hl':s.hours.length=(s.hours.modify t f).length:=by rw[Rr]
  have f':yN s.units (s.hours.modify t f):=uJ o.fr t f fun x=>by rw[(ff x).1]
  obtain⟨h,eh⟩:∃h,s.hours[t]?=some h:=⟨_,QJ ht2⟩
  have eh':(s.hours.modify t f)[t]?=some (f h):=by rw[S0,eh];simp
  have eo:∀i,i≠t→(s.hours.modify t f)[i]?=s.hours[i]?:=fun i hi=>by rw[S0];cases s.hours[i]?<;>simp[Ne.symm hi]
  have rw':∀j,j≤s.hours.length→(cY s.units (s.hours.modify t f) j).length=stateCount s.units:=fun j hj=>(lq o.wf o.u4 f' (by rw[←hl'];exact oJ) j (by rw[←hl'];exact hj)).1
  refine⟨_,rfl,a,s,A,100,rfl,p,fun g H1 p1 F1 hG=>?_⟩
  obtain⟨ra,era⟩:∃r,A.lH[t]?=some r:=⟨_,QJ (by rw[p.jR];omega)⟩
  refine⟨_,rfl,_,rfl,_,rfl,p1.jF ⟨_,rfl,A.pa,_,_,_,rfl,rfl,aF.of p1.eS,cR (v:=.ref ra) (by rw[QI,era];rfl),_,rfl,_,rfl,_,_,rfl,rfl,a,s,A,t+1,rfl,p1,ht2,fun r H2 p2 F2 hr2=>?_⟩⟩
  obtain⟨e1,e2⟩:=dq hr2
  have hG2:=hG.same (F2.AR A.ex)
  have len0:(cY s.units s.hours (s.hours.length-(t+1))).length=stateCount s.units:=(lq o.wf o.u4 o.fr oJ (s.hours.length-(t+1)) (Rq ..)).1
  refine⟨g,ra,r,s.units,h.free,_,load,rfl,hG2.same (fS _ _),o.wf,o.fr h (QL eh),o.u4,o.sc,p2.rows t ra h era eh,e1,len0,fun l H3 s3 hl3 h3=>?_⟩
  have j1:s.hours.length-(t+1)+1=s.hours.length-t:=(sb ht2).symm
  have et:cY s.units (s.hours.modify t f) (s.hours.length-t)=bH s.units h.free load (cY s.units s.hours (s.hours.length-(t+1))):=by
   have j2:(s.hours.modify t f).length-(s.hours.length-(t+1)+1)=t:=by rw[←hl',j1];exact Te (RI ht2)
   have:=xC (us:=s.units) (hs:=s.hours.modify t f) (j:=s.hours.length-(t+1)) (h:=f h) (by rw[j2];exact eh')
   rw[j1,(ff h).1,(ff h).2,uo hl'.symm (s.hours.length-(t+1)) (fun i hi=>by rw[Rr]at hi;exact eo i (by rw[Te (m:=t+1) ht2]at hi;exact RW hi))]at this
   exact this
  rw[←et]at h3
  have E:=Nat.sub_add_sub_cancel (RI ht2) ht1
  have p3:=p2.same s3
  have F3:=(F1.trans F2).trans (Frame.of s3)
  have rg:Mr ((t:Int)-1) ((s.now:Int)-1) (-1) (t-s.now):=by
   have:=Mr.neg (i:=(t:Int)-1) (j:=(s.now:Int)-1) (by omega) (by omega) (by omega) (by omega)
   have e:((t:Int)-1-((s.now:Int)-1)).toNat=t-s.now:=by rw[U8 (a:=(t:Int)),U8 (a:=(s.now:Int)),Int.add_sub_add_right,TR]
   rw[e]at this
   exact this
  refine⟨_,rfl,_,_,rfl,rfl,_,rfl,p3.oI ⟨_,_,rfl,rfl,_,rfl,(t:Int)-1,(s.now:Int)-1,-1,t-s.now,rfl,rg,?_⟩⟩
  refine bC (xG _ _ _) (fun i σ H4=>E2 fun v l=>A6 (σ=[some (.ref a),some (.int t),some (.int load),some (.ref g),some (.ref l),v]) (aI T H4 a s A) (Frame (aJ a A) (aJ a A) H H4) (Gr T (jm H4 (cf a A)) g s.units) (l∉aJ a A) (H4 l=some (.lst (zV (cY s.units (s.hours.modify t f) (s.hours.length-t+i)))))) ⟨none,l,rfl,p3,F3,hG2.same ((Frame.of s3).AR A.ex),p2.AV hl3,h3⟩ (fun _ _ _ _ _=>trivial) (fun i x σ H4 H5 hi pv xy=>?_) (fun σ H4 pv=>?_)
  ·obtain⟨v,l4,rfl,p4,F4,hG4,nl4,h4⟩:=pv
   obtain⟨rfl,rfl⟩:=xy
   have en:(t:Int)-1+(i:Int)*-1=((t-(i+1):Nat):Int):=P5 (QS hi (Rq ..))
   have tl:=So (Rq t (i+1)) ht2
   obtain⟨h5,eh5⟩:∃h,s.hours[t-(i+1)]?=some h:=⟨_,QJ tl⟩
   obtain⟨r5,er5⟩:∃r,A.lH[t-(i+1)]?=some r:=⟨_,QJ (by rw[p.jR];exact tl)⟩
   refine⟨_,rfl,_,rfl,p4.dm ⟨_,rfl,A.pl,_,_,_,rfl,rfl,aF.of p4.loads,at_of (v:=.int (h5.load:Nat)) en (by unfold yg;rw[QI,eh5];rfl),_,rfl,p4.jF ⟨_,rfl,A.pa,_,_,_,rfl,rfl,aF.of p4.eS,at_of (v:=.ref r5) en (by rw[QI,er5];rfl),_,rfl,?_⟩⟩⟩
   refine⟨g,r5,l4,s.units,h5.free,_,h5.load,rfl,hG4.same (fS _ _),o.wf,o.fr h5 (QL eh5),o.u4,o.sc,p4.rows _ r5 h5 er5 eh5,h4,rw' _ (QK (RS (RI hi) _) (E▸Rq ..)),fun l6 H6 s6 hl6 h6=>?_⟩
   refine⟨_,l6,rfl,p4.same s6,F4.trans (Frame.of s6),hG4.same ((Frame.of s6).AR A.ex),p4.AV hl6,?_⟩
   have:cY s.units (s.hours.modify t f) (s.hours.length-t+(i+1))=bH s.units h5.free h5.load (cY s.units (s.hours.modify t f) (s.hours.length-t+i)):=by
    refine xC (j:=s.hours.length-t+i) ?_
    have e:(s.hours.modify t f).length-(s.hours.length-t+i+1)=t-(i+1):=by rw[←hl',Rp,←UI,Te (RI ht2)]
    rw[e,eo _ (Rj (SS (R8 (QS hi (Rq ..))) (UZ i)))]
    exact eh5
   rw[this]
   exact h6
  ·obtain⟨v,l4,rfl,p4,F4,hG4,nl4,h4⟩:=pv
   rw[E]at h4
   refine⟨_,rfl,_,rfl,a,l4,s,A,_,rfl,p4,h4,nl4,rw' _ (Rq ..),fun H5 p5 F5=>?_⟩
   have e2:Oy (toCome (setHour s t f))=NB (rd (cY s.units (s.hours.modify t f) ((s.hours.modify t f).length-s.now)) (index s.units s.modes)):=Ic (s:=setHour s t f) o.wf o.u4 f' (by show(s.hours.modify t f).length≤48;rw[←hl'];exact oJ) (by show s.now≤(s.hours.modify t f).length;rw[←hl'];exact o.nw) o.ms
   rw[←hl']at e2
   rw[←e2]
   exact q H5 p5 (F4.trans F5)
def DW{mg:Str→Option Value}(T:Tx K mg):Sp:=fun vs H Q _=>E9 fun a x y s A as bs h (t:Nat)=>Oz (vs=[.ref a,.int t,.ref x,.ref y]) (aI T H a s A) (s.hours[t]?=some h) (H x=some (.lst (zV as))) (x∉aJ a A) (H y=some (.lst (zV bs))) (as.length=stateCount s.units) (bs.length=stateCount s.units) ((∀c∈bs,c≤1000000000000000000)) (∀H',aI T H' a s A→Frame (aJ a A) (aJ a A) H H'→Q (.bl (proves s.units h (costsOf as) (costsOf bs))) H')
theorem Dy(T:Tx K mg):dJ P w base 8 T.wz (DW T):=by
 refine T.wz.fn.ok dZ (fun vs H Q E h=>?_) (fun cdv A outer s H vs Q E hr h=>?_)
 ·obtain⟨a,x,y,s,A,as,bs,h,t,rfl,_⟩:=h
  rfl
 ·obtain⟨a,x,y,s,A,as,bs,h,t,rfl,p,eh,hx,nx,hy,la,lb,hb,q⟩:=h
  refine⟨_,(ab (pY (i:=4) rfl dZ.nd rfl rfl (vy rfl rfl rfl rfl) (bu (pv 3)) (bj (own:=[("cost",6)]) rfl) (fun _ _ _ _ _=>(aD (i:=6) dZ.nd rfl (Or.inl rfl))) (fun _ _ _ _ _=>bJ) (fun _ _ _ _ _=>(gR (aM EW (pv 6) ak (aQ _)) (pv 6) (aL (v:=.int (4000000000000000000)) rfl T.fD ⟨_,rfl⟩))))
   (ab (ax (i:=5) dZ.nd rfl (Or.inl rfl) (aA T.fA (gp T) hr (aa (aA T.gw (fZ T) hr (aa (pv 0) ae)) (aa (aT aG (aj (pv 0) rfl) (pv 1) (fun _ _=>rfl)) (aa (aT aG (aj (pv 0) rfl) (pv 1) (fun _ _=>rfl)) (aa (pv 4) ae))))))
   (ag (au (aH (CL rfl) rfl T.wK CD (aa (fN rfl dZ.nd (tH rfl T.iC (aa (pv 2) (aa (pv 5) ae))) (bj (own:=[("cost",6),("least",7)]) rfl) (fun _ _ _ _ _=>(dv K (n:=2) rfl rfl (@aV _ _ _ _ _ (@aD _ _ 6 _ dZ.nd rfl (Or.inl rfl) (by first|exact .inl rfl|exact .inr rfl)) (@aV _ _ _ _ _ (@aD _ _ 7 _ dZ.nd rfl (Or.inl rfl) (by first|exact .inl rfl|exact .inr rfl)) dw rfl) rfl) rfl rfl)) (fun _ _ _ _ _=>bJ) (fun _ _ _ _ _=>(Oc (yF EW (pv 7) (aL (v:=.int (4000000000000000000)) rfl T.fD ⟨_,rfl⟩) (aQ _)) (Kw (mr jf jf ak (pv 6) (pv 7)))))) ae)))))),?_⟩
  have o:=p.ok
  have sc:=o.sc
  have ht:t<s.hours.length:=(QO.mp eh).1
  have hf:=o.fr h (QL eh)
  rw[GY o.wf o.u4 hf la lb hb]at q
  refine⟨_,rfl,y,rfl,⟨_,aF.of hy⟩,fun D hD=>?_⟩
  refine bt (bw _ y (zV bs)) (fun j v _=>(zV (cb bs))[j]?=some v) (cI _) (sz (by rw[aB];omega)) hD (fun H2 s2=>aF.of (s2 _ _ hy)) (fun i v H2 H3 R hi s2 hne xy kk=>?_) (fun H2 B=>?_)
  ·obtain⟨rfl,e⟩:=xy
   rw[aB]at hi
   rw[gE hi]at e
   cases e
   have el:(zV (cb bs))[i]?=some (.int (if rd bs i≥0 then rd bs i else NP)):=by
    unfold zV cb
    rw[QI,QI,bO hi]
    rfl
   refine⟨rfl,_,rfl,_,_,rfl,rfl,_,rfl,?_⟩
   refine bF (fun c=>?_) (fun c=>?_)
   ·refine⟨_,rfl,kk _ _ (aN.refl _) ?_⟩
    rw[if_pos (show rd bs i≥0 from of_decide_eq_true c)]at el
    exact el
   ·refine kk _ _ (aN.refl _) ?_
    rw[if_neg (show ¬rd bs i≥0 from fun z=>c (decide_eq_true z))]at el
    exact el
  have lL:(cb bs).length=stateCount s.units:=by unfold cb;rw[QH,lb]
  have eD:=B.eq (by rw[aB,aB,lL,lb])
  have s2:=B.cK
  have p2:=p.same s2
  refine⟨_,rfl,a,s,A,100,rfl,p2,fun g H3 p3 F3 hG=>?_⟩
  obtain⟨ra,era⟩:∃r,A.lH[t]?=some r:=⟨_,QJ (by rw[p.jR];omega)⟩
  have hD3:=F3.out D _ eD (p.AV hD)
  refine⟨_,rfl,p3.dm ⟨_,rfl,A.pl,_,_,_,rfl,rfl,aF.of p3.loads,cR (v:=.int (h.load:Nat)) (by unfold yg;rw[QI,eh];rfl),_,rfl,p3.jF ⟨_,rfl,A.pa,_,_,_,rfl,rfl,aF.of p3.eS,cR (v:=.ref ra) (by rw[QI,era];rfl),_,rfl,?_⟩⟩⟩
  refine⟨g,ra,D,s.units,h.free,_,h.load,rfl,hG.same (fS _ _),o.wf,hf,o.u4,sc,p3.rows t ra h era eh,hD3,lL,fun l H4 s4 hl4 h4=>?_⟩
  have F4:=((Frame.of (M:=aJ a A) s2).trans F3).trans (Frame.of s4)
  have hx4:=F4.out x _ hx nx
  have bl:=pb (load:=h.load) o.wf hf lL
  refine⟨_,rfl,_,rfl,x,l,_,_,rfl,aF.of hx4,aF.of h4,fun D2 hD2=>?_⟩
  refine bt (uu _ x l _ _) (fun j v _=>((iZ as (bH s.units h.free h.load (cb bs))).map V.bl)[j]?=some v) (cI _) (sz (by rw[aB,aB];omega)) hD2 (fun H5 s5=>⟨aF.of (s5 _ _ hx4),aF.of (s5 _ _ h4)⟩) (fun i v H5 H6 R hi s5 hne xy kk=>?_) (fun H5 B5=>?_)
  ·obtain⟨tt,x1,y1,rfl,ht1,rfl,e1,e2⟩:=xy
   rw[aB,aB]at hi
   rw[gE (Sl.1 hi).1]at e1;rw[gE (Sl.1 hi).2]at e2
   cases e1;cases e2
   have el:((iZ as (bH s.units h.free h.load (cb bs))).map V.bl)[i]?=some (.bl (decide (rd (bH s.units h.free h.load (cb bs)) i≥NP) || (decide (0≤rd as i)&&decide (rd as i≤rd (bH s.units h.free h.load (cb bs)) i)))):=by
    unfold iZ
    rw[QI,RZ,bO (Sl.1 hi).1,bO (Sl.1 hi).2]
    rfl
   refine⟨tt,_,rfl,eQ.of af,rfl,_,_,rfl,_,_,rfl,rfl,rfl,?_⟩
   refine⟨_,rfl,_,_,rfl,rfl,_,rfl,?_⟩
   refine bF (fun c=>?_) (fun c=>?_)
   ·refine kk _ _ (aq ht1) ?_
    rw[show decide (rd (bH s.units h.free h.load (cb bs)) i≥NP)=true from c,Bool.true_or]at el
    exact el
   ·have c:decide (rd (bH s.units h.free h.load (cb bs)) i≥NP)=false:=(Vo _).mp c
    rw[c,Bool.false_or]at el
    refine⟨_,rfl,_,_,rfl,rfl,_,rfl,?_⟩
    refine bF (fun c2=>?_) (fun c2=>?_)
    ·refine⟨_,rfl,_,_,rfl,rfl,kk _ _ (aq ht1) ?_⟩
     rw[c2,UC]at el
     exact el
    ·refine kk _ _ (aq ht1) ?_
     have c2:decide (0≤rd as i)=false:=by simpa using c2
     rw[c2,T4]at el
     exact el
  ·have e5:=B5.eq (by rw[aB,aB,QH];unfold iZ;rw[Tt])
   have s5:=B5.cK
   refine⟨D2,_,rfl,aF.of e5,?_⟩
   exact q _ ((p3.same s4).same s5) (F4.trans (Frame.of s5))
open Vbbcag (moves)
def NH(M:List (Int×Int)):Nat→Addr→Hp→Prop:=fun i t H=>∃x,M[i]?=some x∧H t=some (.tup [.int x.1,.int x.2])
theorem kg(M:List (Int×Int)):xJ (NH M):=fun i t H H' s ⟨x,h1,h2⟩=>⟨x,h1,s _ _ h2⟩
def MA(M:List (Int×Int))(H:Hp)(a:Addr):Prop:=LR (NH M) M.length H a
def pN(us:List Unit_)(fs:List Bool)(ms:Modes):List (Int×Int):=(gf us fs ms).foldl (fun M x=>eH M x.1 x.2.1 x.2.2) [(0,0)]
def BF(C:Addr):Sp:=fun vs H Q _=>E6 fun a b c us ms fs=>A9 (vs=[.ref a,.ref b,.ref c]) (cQ C H a us) (lY us) (bG us ms) (us.length=fs.length) (stateCount us≤600) (H b=some (.lst (mV us ms))) (H c=some (.lst (yV fs))) (∀l H',aN H H'→H l=none→MA (pN us fs ms) H' l→Q (.ref l) H')
theorem Bb(T:Tx K mg):dJ P w base 5 T.tf (BF T.aK.C):=by
 refine T.tf.fn.ok bg (fun vs H Q E h=>?_) (fun cdv A outer s H vs Q E hr h=>?_)
 ·obtain⟨a,b,c,us,ms,fs,rfl,_⟩:=h
  rfl
 ·obtain⟨a,b,c,us,ms,fs,rfl,hU,hw,hm,hf,h600,hB,hC,k⟩:=h
  refine⟨_,(ab (ax (i:=3) bg.nd rfl (Or.inl rfl) (aE (aa (GX (aa ak (aa ak ae))) ae)))
   (ab (bU PassesOwn.never rfl (HN rfl T.iC (aa (pv 0) (aa (pv 1) (aa (pv 2) ae)))) (dv K (n:=3) rfl rfl (@aV _ _ _ _ _ (@aD _ _ 4 _ bg.nd rfl (Or.inr rfl) (by first|exact .inl rfl|exact .inr rfl)) (@aV _ _ _ _ _ (@aD _ _ 5 _ bg.nd rfl (Or.inr rfl) (by first|exact .inl rfl|exact .inr rfl)) (@aV _ _ _ _ _ (@aD _ _ 6 _ bg.nd rfl (Or.inl rfl) (by first|exact .inl rfl|exact .inr rfl)) dw rfl) rfl) rfl) rfl rfl) (ab (ax (i:=7) bg.nd rfl (Or.inr rfl) (aA T.fg (fo T) hr (aa (pv 4) ae)))
   (ab (pY (i:=8) rfl bg.nd rfl rfl (vy rfl rfl rfl rfl) (bu (aA T.uB (tw T) hr (aa (pv 4) (aa (pv 5) (aa (pv 6) ae))))) (bj (own:=[("chosen",12)]) rfl) (fun _ _ _ _ _=>(aD (i:=12) bg.nd rfl (Or.inl rfl))) (fun _ _ _ _ _=>bJ) (fun _ _ _ _ _=>(GX (aa (aA T.mi (m5 T) hr (aa (pv 4) (aa (pv 5) (aa (pv 12) ae)))) (aa (pv 12) ae)))))
   (ab (ax (i:=9) bg.nd rfl (Or.inl rfl) (aE ae))
   (ab (bU PassesOwn.never rfl (bu (pv 3)) (dv K (n:=2) rfl rfl (@aV _ _ _ _ _ (@aD _ _ 10 _ bg.nd rfl (Or.inr rfl) (by first|exact .inl rfl|exact .inr rfl)) (@aV _ _ _ _ _ (@aD _ _ 11 _ bg.nd rfl (Or.inr rfl) (by first|exact .inl rfl|exact .inr rfl)) dw rfl) rfl) rfl rfl) (ag (aX (dH PySem.F.plainAttrs_list PySem.F.slot_list_extend PySem.F.type_list_extend cB (pv 9) (aa (fN rfl bg.nd (bu (pv 8)) (bj (own:=[("cost",13),("chosen",12)]) rfl) (fun _ _ _ _ _=>(dv K (n:=2) rfl rfl (@aV _ _ _ _ _ (@aD _ _ 13 _ bg.nd rfl (Or.inl rfl) (by first|exact .inl rfl|exact .inr rfl)) (@aV _ _ _ _ _ (@aD _ _ 12 _ bg.nd rfl (Or.inl rfl) (by first|exact .inl rfl|exact .inr rfl)) dw rfl) rfl) rfl rfl)) (fun _ _ _ _ _=>bJ) (fun _ _ _ _ _=>(GX (aa (aO bz (pv 10) (pv 13)) (aa (aO bz (aO jv (pv 11) (pv 7)) (pv 12)) ae))))) ae)))))
   (ag (ax (i:=3) bg.nd rfl (Or.inl rfl) (pv 9))))))))
   (ag (au (pv 3))))),?_⟩
  obtain⟨rs,h1,h2,h3⟩:=hU.get
  have hml:=hm.len
  refine⟨(by show 2≤sizeLine;decide),fun t0 ht0=>⟨sz (by simp),fun p hp=>?_⟩⟩
  have s0:=(aq (o:=.tup [V.int 0,V.int 0]) ht0).trans (aq (o:=.lst [V.ref t0]) hp)
  have hp0:H p=none:=(aq (o:=.tup [V.int 0,V.int 0]) ht0).free hp
  refine⟨_,rfl,_,rfl,_,rfl,a,b,c,_,_,_,rfl,aF.of (s0 _ _ h1),aF.of (s0 _ _ hB),aF.of (s0 _ _ hC),?_⟩
  have Y:Yl (OA K a b c) us.length (fun H2=>aN H H2) (fun i v H2 H'=>∃t r u m f,v=.ref t∧H2 t=none∧H'=upd H2 t (.tup [.ref r,.int (place u m:Nat),.bl f])∧rs[i]?=some r∧us[i]?=some u∧ms[i]?=some m∧fs[i]?=some f):=by
   have gets:∀i,i<us.length→∃r u m f,rs[i]?=some r∧us[i]?=some u∧ms[i]?=some m∧fs[i]?=some f:=fun i hi=>⟨_,_,_,_,QJ (by omega),QJ hi,QJ (by omega),QJ (by omega)⟩
   refine⟨fun i H2 s2 hi=>?_,fun H2 s2=>⟨_,_,_,aF.of (s2 _ _ h1),aF.of (s2 _ _ hB),aF.of (s2 _ _ hC),.inl (by rw[QH];omega)⟩,fun i H2 v H' s2 hi y=>?_⟩
   ·obtain⟨r,u,m,f,g1,g2,g3,g4⟩:=gets i hi
    exact⟨_,_,_,.ref r,.int (place u m:Nat),.bl f,aF.of (s2 _ _ h1),aF.of (s2 _ _ hB),aF.of (s2 _ _ hC),by rw[QI,g1];rfl,iA g2 g3,by unfold yV;rw[QI,g4];rfl⟩
   ·obtain⟨r,u,m,f,g1,g2,g3,g4⟩:=gets i hi
    obtain⟨t,x,y,z,e1,e2,e3,y1,y2,y3⟩:=y
    have q1:=y1 _ (aF.of (s2 _ _ h1))
    have q2:=y2 _ (aF.of (s2 _ _ hB))
    have q3:=y3 _ (aF.of (s2 _ _ hC))
    rw[QI,g1]at q1
    rw[iA g2 g3]at q2
    unfold yV at q3
    rw[QI,g4]at q3
    cases q1;cases q2;cases q3
    exact⟨t,r,u,m,f,e1,e2,e3,g1,g2,g3,g4⟩
  refine bC Y (fun i σ H2=>E9 fun l v4 v5 v6 v7 v8 v9 v10 v11=>A4 (σ=[some (.ref a),some (.ref b),some (.ref c),some (.ref l),v4,v5,v6,v7,v8,v9,v10,v11,none,none]) (aN H H2) (H l=none) (MA (pN (us.take i) (fs.take i) (ms.take i)) H2 l))
   ⟨p,none,none,none,none,none,none,none,none,rfl,s0,hp0,[t0],by rw[af];rfl,rfl,fun i r e=>?_⟩ (fun i σ H2 _ hh=>by obtain⟨_,_,_,_,_,_,_,_,_,_,s2,_⟩:=hh;exact s2) (fun i x σ H2 H3 hi pv xy=>?_) (fun σ H2 pv=>?_)
  ·cases i with
   | zero =>
    cases e
    exact⟨(0,0),rfl,by rw[ah (fun q=>by rw[q]at hp;rw[←q]at hp;rw[af]at hp;cases hp),af]⟩
   | succ i=>simp at e
  ·obtain⟨l,v4,v5,v6,v7,v8,v9,v10,v11,rfl,s2,hl,hM⟩:=pv
   obtain⟨t,r,u,m,f,rfl,ht,rfl,er,eu,em,ef⟩:=xy
   have hu:=hw u (QL eu)
   have hmo:=hm.get eu em
   have mc:=xS hu
   obtain⟨u',eu',hA⟩:=h3 i r er
   rw[eu]at eu'
   cases eu'
   have s3:=s2.trans (aq (o:=.tup [V.ref r,V.int (place u m:Nat),V.bl f]) ht)
   have hM3:MA _ _ l:=hM.same (kg _) (aq (o:=.tup [V.ref r,V.int (place u m:Nat),V.bl f]) ht)
   have ez:(gf us fs ms)[i]?=some (u,f,m):=by rw[AH,eu,ef,em]
   have eM:pN (us.take (i+1)) (fs.take (i+1)) (ms.take (i+1))=rk (pN (us.take i) (fs.take i) (ms.take i)) (mB u f m) (modeCount u:Int):=by
    unfold pN
    rw[←xH,←xH,br ez,S3,RJ,W0,HC]
   have eL:(pN (us.take (i+1)) (fs.take (i+1)) (ms.take (i+1))).length≤600:=by
    have:=ED (us.take (i+1)) (fs.take (i+1)) (ms.take (i+1)) [(0,0)] (fun v hv=>hw v (List.mem_of_mem_take hv)) (Cc _ hm) (by rw[QZ,QZ,hf])
    have:=Ag hw (i+1)
    unfold pN
    simp at *
    omega
   rw[eM,wy]at eL
   generalize hG:pN (us.take i) (fs.take i) (ms.take i)=M at *
   generalize hH3:upd H2 t (.tup [V.ref r,V.int (place u m:Nat),V.bl f])=H3 at *
   have hT3:H3 t=some (.tup [V.ref r,V.int (place u m:Nat),V.bl f]):=by rw[←hH3];exact af
   refine⟨t,_,rfl,eQ.of hT3,rfl,_,_,rfl,_,_,rfl,_,_,rfl,rfl,?_⟩
   refine⟨_,rfl,r,u,rfl,hA.same s3,hu,?_⟩
   refine⟨_,rfl,_,rfl,_,rfl,r,u,m,f,rfl,hA.same s3,hu,hmo,fun cl H4 s4 hcl hcl4=>?_⟩
   refine⟨cl,rfl,⟨_,aF.of hcl4⟩,fun D hD=>?_⟩
   have ol:=xV hu (fr:=f) hmo
   refine bt (bw _ cl (DI u (options u f m))) (JB (NH (mB u f m))) (jb (kg _)) (sz (by unfold DI;rw[QH];omega)) hD (fun H5 s5=>aF.of (s5 _ _ hcl4)) (fun j x H5 H6 R hj s5 hne xy kk=>?_) (fun H5 B5=>?_)
   ·obtain⟨rfl,e6⟩:=xy
    unfold DI at e6
    rw[QI]at e6
    obtain⟨y,ey,rfl⟩:=QQ.mp e6
    have hy:=fI hu hmo (QL ey)
    refine⟨rfl,_,rfl,_,rfl,_,rfl,r,u,m,y,rfl,hA.same ((s3.trans s4).trans s5),hu,hmo,hy,_,rfl,(by show 2≤sizeLine;decide),fun tt htt=>kk _ _ (aq htt) ⟨tt,rfl,((costOf u m y:Int),(place u y:Int)),?_,?_⟩⟩
    ·unfold mB;rw[QI,ey];rfl
    ·rw[kd (fun q=>hne (by rw[←q];exact htt)),af]
   have LW:=B5.lr (kg _)
   have lw:(DI u (options u f m)).length=(mB u f m).length:=by unfold DI mB;rw[QH,QH]
   rw[lw]at LW
   have s5:=s4.trans B5.cK
   have s05:=s3.trans s5
   obtain⟨ws,w1,w2,w3⟩:=LW
   refine⟨sz (by simp),fun q hq=>?_⟩
   have hq0:H q=none:=s05.free hq
   have s6:=aq (o:=.lst []) hq
   have hM6:MA M _ l:=hM3.same (kg _) (s5.trans s6)
   obtain⟨ls,g1,g2,g3⟩:=hM6
   refine⟨_,rfl,l,rfl,⟨_,aF.of g1⟩,?_⟩
   have nlq:l≠q:=fun e=>by
    have:=hM3.same (kg _) s5
    obtain⟨_,z,_⟩:=this
    rw[e,hq]at z
    cases z
   have nDq:D≠q:=fun e=>by rw[e,hq]at w1;cases w1
   refine bC (bw _ l (ls.map V.ref)) (fun j σ H7=>E2 fun v10 v11=>A3 (σ=[some (.ref a),some (.ref b),some (.ref c),some (.ref l),some (.ref r),some (.int (place u m:Nat)),some (.bl f),some (.int (modeCount u:Nat)),some (.ref D),some (.ref q),v10,v11,none,none]) ((∀b o,b≠q→(upd H5 q (.lst [])) b=some o→H7 b=some o)) (MA (rk (M.take j) (mB u f m) (modeCount u:Int)) H7 q))
    ⟨v10,v11,rfl,fun b o _ e=>e,[],af,rfl,fun i r e=>by simp at e⟩ (fun j σ H7 _ hh=>by obtain⟨_,_,_,f7,_⟩:=hh;exact aF.of (f7 _ _ nlq g1)) (fun j x σ H7 H8 hj pv xy=>?_) (fun σ H7 pv=>?_)
   ·obtain⟨v10,v11,rfl,f7,hq7⟩:=pv
    obtain⟨rfl,e⟩:=xy
    rw[QH,g2]at hj
    rw[QI]at e
    obtain⟨lr,elr,rfl⟩:=QQ.mp e
    obtain⟨x,ex,hxt⟩:=g3 j lr elr
    have nlr:lr≠q:=rq hxt af (by intro z;cases z)
    have hxt7:=f7 _ _ nlr hxt
    refine⟨lr,_,rfl,eQ.of hxt7,rfl,_,_,rfl,_,_,rfl,rfl,?_⟩
    obtain⟨qs,b1,b2,b3⟩:=hq7
    refine⟨_,rfl,.inl ⟨rfl,_,aF.of b1⟩,?_⟩
    have w1':=f7 _ _ nDq (s6 _ _ w1)
    refine⟨_,rfl,D,rfl,⟨_,aF.of w1'⟩,fun D2 hD2=>?_⟩
    refine bt (bw _ D (ws.map V.ref)) (JB (NH ((mB u f m).map fun y=>(x.1+y.1,x.2*(modeCount u:Int)+y.2)))) (jb (kg _)) (sz (by rw[QH,w2];unfold mB;rw[QH];omega)) hD2 (fun H9 s9=>aF.of (s9 _ _ w1')) (fun n y H9 H10 R hn s9 hne xy kk=>?_) (fun H9 B9=>?_)
    ·obtain⟨rfl,e⟩:=xy
     rw[QI]at e
     obtain⟨wr,ewr,rfl⟩:=QQ.mp e
     obtain⟨y,ey,hyt⟩:=w3 n wr ewr
     have nwr:wr≠q:=fun z=>by rw[z,hq]at hyt;cases hyt
     have hyt9:=s9 _ _ (f7 _ _ nwr (s6 _ _ hyt))
     refine⟨wr,_,rfl,eQ.of hyt9,rfl,_,_,rfl,_,_,rfl,rfl,rfl,?_⟩
     refine⟨_,rfl,_,rfl,_,_,rfl,rfl,_,rfl,_,rfl,_,_,rfl,rfl,.inr ⟨by omega,by omega⟩,_,rfl,_,_,rfl,rfl,(by show 2≤sizeLine;decide),fun tt htt=>kk _ _ (aq htt) ⟨tt,rfl,(x.1+y.1,x.2*(modeCount u:Int)+y.2),?_,?_⟩⟩
     ·rw[QI,ey];rfl
     ·rw[kd (fun q=>hne (by rw[←q];exact htt)),af]
    ·obtain⟨ns,c1,c2,c3⟩:=B9.lr (kg _)
     have s9:=B9.cK
     have hq9:=s9 _ _ b1
     have Lj:rk (M.take (j+1)) (mB u f m) (modeCount u:Int)=rk (M.take j) (mB u f m) (modeCount u:Int)++(mB u f m).map fun y=>(x.1+y.1,x.2*(modeCount u:Int)+y.2):=by
      rw[br ex]
      unfold rk
      rw[RH,Rz]
     have lenj:(rk (M.take j) (mB u f m) (modeCount u:Int)).length≤600:=by
      rw[wy,QZ]
      have:min j M.length*(mB u f m).length≤M.length*(mB u f m).length:=Q7 _ (Rn _ _)
      omega
     have lwl:(mB u f m).length≤61:=by unfold mB;rw[QH];exact ol
     have cl2:ns.length=(mB u f m).length:=by rw[c2,QH,w2]
     refine⟨q,D2,_,_,rfl,rfl,hq9,c1,sz (by rw[QH,QH];omega),_,_,rfl,fun b o nb e=>?_,qs++ns,?_,?_,fun n r e=>?_⟩
     ·rw[ah nb];exact s9 _ _ (f7 _ _ nb e)
     ·rw[af,Rl]
     ·rw[Lj,QN,QN,QH,b2,cl2]
     ·unfold NH
      rw[Lj]
      by_cases cn:n<qs.length
      ·rw[Q0 cn]at e
       obtain⟨z,z1,z2⟩:=b3 n r e
       refine⟨z,by rw[Q0 (by rw[←b2];exact cn)];exact z1,?_⟩
       rw[ah (rq z2 b1 (by intro q;cases q))]
       exact s9 _ _ z2
      ·rw[QX (by omega)]at e
       obtain⟨z,z1,z2⟩:=c3 _ r e
       refine⟨z,by rw[QX (by rw[←b2];omega),←b2];exact z1,?_⟩
       rw[ah (rq z2 hq9 (by intro q;cases q))]
       exact z2
   ·obtain⟨v10,v11,rfl,f7,hq7⟩:=pv
    rw[QH,g2,RF]at hq7
    refine⟨_,rfl,q,_,_,_,_,_,_,_,_,rfl,fun b o e=>f7 b o (ao e hq0) (s6 _ _ (s05 _ _ e)),hq0,?_⟩
    rw[eM]
    exact hq7
  ·obtain⟨l,v4,v5,v6,v7,v8,v9,v10,v11,rfl,s2,hl,hM⟩:=pv
   rw[RF,Rk (by omega),Rk (by omega)]at hM
   exact⟨_,rfl,k l _ s2 hl hM⟩
open Vbbcag (bestMove)
def fV(us:List Unit_):Option (Modes×Nat)→V
 | none=>.non
 | some x=>.int (index us x.1:Nat)
def Le(load:Nat):Modes×Nat→Bool:=fun x=>decide (load≤given x.1)
def zC(us:List Unit_)(zs:List Int):Modes×Nat→Int:=fun x=>(x.2:Int)+zs.getD (index us x.1) 0
def vv{mg:Str→Option Value}(T:Tx K mg):Sp:=fun vs H Q _=>E8 fun g a b us fs ms zs (load:Nat)=>A9 (vs=[.ref g,.ref a,.int load,.ref b]) (Gr T H g us) (lY us) (bG us ms) (us.length=fs.length) (MA (pN us fs ms) H a) (H b=some (.lst (zV zs))) (zs.length=stateCount us) (Q (fV us ((moves us fs ms).foldl (e8 (Le load) (zC us zs)) (NP,none)).2) H)
theorem uZ(T:Tx K mg):dJ P w base 1 T.j8 (vv T):=by
 refine T.j8.fn.ok bT (fun vs H Q E h=>?_) (fun cdv A outer s H vs Q E hr h=>?_)
 ·obtain⟨g,a,b,us,fs,ms,zs,load,rfl,_⟩:=h
  rfl
 ·obtain⟨g,a,b,us,fs,ms,zs,load,rfl,hG,hw,hm,hf,hM,hB,hz,q⟩:=h
  refine⟨_,(ab (ax (i:=4) bT.nd rfl (Or.inl rfl) (aL (v:=.int (4000000000000000000)) rfl T.fD ⟨_,rfl⟩))
   (ab (ax (i:=5) bT.nd rfl (Or.inl rfl) bR)
   (ab (bU PassesOwn.never rfl (bu (pv 1)) (dv K (n:=2) rfl rfl (@aV _ _ _ _ _ (@aD _ _ 6 _ bT.nd rfl (Or.inl rfl) (by first|exact .inl rfl|exact .inr rfl)) (@aV _ _ _ _ _ (@aD _ _ 7 _ bT.nd rfl (Or.inl rfl) (by first|exact .inl rfl|exact .inr rfl)) dw rfl) rfl) rfl rfl) (ag (bf (PW.pt (DK (aM EW (aT aG (aj (pv 0) rfl) (pv 7) (fun _ _=>rfl)) (pv 2) (aQ _)) (yG (aM km (aO bz (pv 6) (aT aG (pv 3) (pv 7) (fun _ _=>rfl))) (pv 4) (aQ _))))) (ab (ax (i:=4) bT.nd rfl (Or.inl rfl) (aO bz (pv 6) (aT aG (pv 3) (pv 7) (fun _ _=>rfl))))
   (ag (ax (i:=5) bT.nd rfl (Or.inl rfl) (pv 7)))) aP)))
   (ag (au (pv 5)))))),?_⟩
  have eM:pN us fs ms=(moves us fs ms).map fun y=>((y.2:Int),(index us y.1:Int)):=Jc hw hm hf
  obtain⟨rs,h1,h2,h3⟩:=hM
  rw[eM,QH]at h2
  refine⟨_,rfl,a,rfl,⟨_,aF.of h1⟩,?_⟩
  refine bC (bw _ a (rs.map V.ref)) (fun i σ H2=>E2 fun v6 v7=>(σ=[some (.ref g),some (.ref a),some (.int load),some (.ref b),some (.int (((moves us fs ms).take i).foldl (e8 (Le load) (zC us zs)) (NP,none)).1),some (fV us (((moves us fs ms).take i).foldl (e8 (Le load) (zC us zs)) (NP,none)).2),v6,v7])∧(H2=H)) ⟨none,none,rfl,rfl⟩ (fun i σ H2 _ hh=>by obtain⟨_,_,_,rfl⟩:=hh;exact aF.of h1) (fun i x σ H2 H3 hi pv xy=>?_) (fun σ H2 pv=>?_)
  ·obtain⟨v6,v7,rfl,rfl⟩:=pv
   obtain⟨rfl,e⟩:=xy
   rw[QH,h2]at hi
   rw[QI]at e
   obtain⟨r,er,rfl⟩:=QQ.mp e
   obtain⟨y,ey,hyt⟩:=h3 i r er
   rw[eM,QI]at ey
   obtain⟨x,ex,rfl⟩:=QQ.mp ey
   have hx:=ki hw hm hf x (QL ex)
   have hi2:=cT hx
   have ef:((moves us fs ms).take (i+1)).foldl (e8 (Le load) (zC us zs)) (NP,none)=e8 (Le load) (zC us zs) (((moves us fs ms).take i).foldl (e8 (Le load) (zC us zs)) (NP,none)) x:=by rw[br ex,S3];rfl
   rw[ef]
   generalize ((moves us fs ms).take i).foldl (e8 (Le load) (zC us zs)) (NP,none)=st
   refine⟨r,_,rfl,eQ.of hyt,rfl,_,_,rfl,_,_,rfl,rfl,?_⟩
   have elv:(zV (jC us))[index us x.1]?=some (.int (given x.1:Nat)):=by
    unfold zV jC
    rw[QI,QI,gJ hx]
    rfl
   have ez:(zV zs)[index us x.1]?=some (.int (zs.getD (index us x.1) 0)):=gE (by rw[hz];exact hi2)
   have eC:e8 (Le load) (zC us zs) st x=if load≤given x.1∧(x.2:Int)+zs.getD (index us x.1) 0<st.1 then((x.2:Int)+zs.getD (index us x.1) 0,some x)else st:=by
    unfold e8 Le zC
    simp only[decide_eq_true_eq]
   refine⟨_,rfl,wx T hG fun la hla=>⟨_,rfl,la,_,_,_,rfl,rfl,aF.of hla,cR elv,_,rfl,_,_,rfl,rfl,_,rfl,?_⟩⟩
   refine bF (fun c=>?_) (fun c=>?_)
   ·have c:(load:Int)≤((given x.1:Nat):Int):=of_decide_eq_true c
    have c1:load≤given x.1:=by omega
    refine⟨_,rfl,_,rfl,_,rfl,b,_,_,_,rfl,rfl,aF.of hB,cR ez,_,_,rfl,rfl,_,rfl,_,_,rfl,rfl,_,rfl,?_⟩
    refine bF (fun c2=>?_) (fun c2=>?_)
    ·have c2:=of_decide_eq_true c2
     rw[eC,if_pos ⟨c1,c2⟩]
     refine⟨_,rfl,_,rfl,_,rfl,b,_,_,_,rfl,rfl,aF.of hB,cR ez,_,_,rfl,rfl,?_⟩
     exact⟨_,rfl,_,_,rfl,rfl⟩
    ·have c2:¬(x.2:Int)+zs.getD (index us x.1) 0<st.1:=fun z=>c2 (decide_eq_true z)
     rw[eC,if_neg (fun z=>c2 z.2)]
     exact⟨_,_,rfl,rfl⟩
   ·have c:¬(load:Int)≤((given x.1:Nat):Int):=fun z=>c (decide_eq_true z)
    rw[eC,if_neg (fun z=>c (by omega))]
    refine dg ?_
    exact⟨_,_,rfl,rfl⟩
  ·obtain⟨v6,v7,rfl,rfl⟩:=pv
   rw[QH,h2,RF]
   exact⟨_,rfl,q⟩
open Vbbcag (coming)
section
variable{K:Frg}{mg:Str→Option Value}{T:Tx K mg}{H:Hp}{a:Addr}{s:State}{A:qE}{k:Nat}
def qE.plus(A:qE)(D:Addr):qE:={ A with ex:=D::A.ex}
theorem J4{H:Hp}{M N:List Addr}(h:∀b,b∈M→b∈N):aN (jm H N) (jm H M):=fun b o e=>by
 obtain⟨e1,e2⟩:=dq e
 exact js e1 fun m=>e2 (h b m)
theorem Fd{D:Addr}{o:HO}(h:H D=none):aN (jm H (cf a A)) (jm (upd H D o) (cf a (A.plus D))):=fun b u e=>by
 obtain⟨e1,e2⟩:=dq e
 have nb:b≠D:=ao e1 h
 refine js (by rw[ah nb];exact e1) fun m=>?_
 rcases RB.mp m with m|m
 ·exact e2 (SX _ m)
 ·rcases QM.mp m with m|m
  ·exact nb m
  ·exact e2 (Ri _ m)
theorem cP.over{H':Hp}{B:qE}(p:cP T H a s A k)(e:aN H H')(f:aN (jm H (cf a A)) (jm H' (cf a B)))(hB:B={ A with ex:=B.ex})(hx:∀b,b∈B.ex→b∉aJ a A∧H' b≠none):cP T H' a s B k:=by
 obtain⟨dx,gv,h1,h2⟩:=p.obj
 obtain⟨rts,t1,t2,t3⟩:=p.tabs
 have em:aJ a B=aJ a A:=by rw[hB];rfl
 have e1:B.pu=A.pu:=by rw[hB]
 have e2:B.pm=A.pm:=by rw[hB]
 have e3:B.pl=A.pl:=by rw[hB]
 have e4:B.pa=A.pa:=by rw[hB]
 have e5:B.pt=A.pt:=by rw[hB]
 have e6:B.lH=A.lH:=by rw[hB]
 refine⟨⟨dx,gv,?_,?_⟩,by rw[e1];exact p.units.same f,by rw[e2];exact e _ _ p.modes,by rw[e3];exact e _ _ p.loads,by rw[e4,e6];exact e _ _ p.eS,by rw[e6];exact p.jR,fun i r h x y=>e _ _ (p.rows i r h (by rw[←e6];exact x) y),⟨rts,by rw[e5];exact e _ _ t1,t2,fun j r x y=>f _ _ (t3 j r x y)⟩,by rw[em];exact p.nd,fun b hb=>by rw[em];exact hx b hb,p.ok⟩
 ·have:qZ B s gv=qZ A s gv:=by unfold qZ;rw[e1,e2,e3,e4,e5]
  rw[this];exact e _ _ h1
 ·rcases h2 with h2|⟨g,h2,h3⟩
  ·exact .inl h2
  ·exact .inr ⟨g,h2,h3.same f⟩
theorem cP.plus(p:cP T H a s A k){D:Addr}{o:HO}(h:H D=none):cP T (upd H D o) a s (A.plus D) k:=by
 refine p.over (aq h) (Fd h) rfl fun b hb=>?_
 rcases QM.mp hb with rfl|hb
 ·exact⟨p.AV h,by rw[af];intro z;cases z⟩
 ·obtain⟨q1,q2⟩:=p.vB b hb
  exact⟨q1,fun z=>q2 ((aq h).free z)⟩
theorem cP.minus{D:Addr}(p:cP T H a s (A.plus D) k):cP T H a s A k:=by
 refine p.over (aN.refl _) (J4 fun b m=>?_) rfl fun b hb=>p.vB b (Q4 _ hb)
 rcases RB.mp m with m|m
 ·exact SX _ m
 ·exact Ri _ (Q4 _ m)
theorem cP.write(p:cP T H a s A k){D:Addr}{o:HO}(h:D∈A.ex):cP T (upd H D o) a s A k:=by
 have nD:=(p.vB D h).1
 have ef:jm (upd H D o) (cf a A)=jm H (cf a A):=mW (Ri _ h)
 have ne:∀b,b∈aJ a A→b≠D:=fun b hb z=>nD (by rw[←z];exact hb)
 obtain⟨dx,gv,h1,h2⟩:=p.obj
 obtain⟨rts,t1,t2,t3⟩:=p.tabs
 refine⟨⟨dx,gv,by rw[ah (ne _ (by simp[aJ]))];exact h1,by rw[ef];exact h2⟩,by rw[ef];exact p.units,by rw[ah (ne _ (by simp[aJ]))];exact p.modes,by rw[ah (ne _ (by simp[aJ]))];exact p.loads,by rw[ah (ne _ (by simp[aJ]))];exact p.eS,p.jR,fun i r h x y=>by rw[ah (ne _ (by have:=QL x;simp[aJ,this]))];exact p.rows i r h x y,⟨rts,by rw[ah (ne _ (by simp[aJ]))];exact t1,t2,by rw[ef];exact t3⟩,p.nd,fun b hb=>⟨(p.vB b hb).1,fun z=>?_⟩,p.ok⟩
 by_cases c:b=D
 ·rw[c,af]at z;cases z
 ·rw[ah c]at z;exact(p.vB b hb).2 z
end
def uR(p:List Modes):List Nat:=p.flatMap fun l=>l.map levelOf
theorem B8(p:List Modes)(l:Modes):uR (p++[l])=uR p++l.map levelOf:=by unfold uR;rw[RH,Rz]
def Ao{mg:Str→Option Value}(T:Tx K mg):Sp:=fun vs H Q _=>E3 fun a s A=>A4 (vs=[.ref a]) (aI T H a s A) ((pW s.units (coming s) s.modes=none→∀H',aI T H' a s A→Frame (aJ a A) (aJ a A) H H'→Q .non H')) ((∀p,pW s.units (coming s) s.modes=some p→∀l H',aI T H' a s A→Frame (aJ a A) (aJ a A) H H'→H l=none→H' l=some (.lst (nV (uR p)))→(uR p).length≤192→Q (.ref l) H'))
theorem zJ(T:Tx K mg):dJ P w base 9 T.pX (Ao T):=by
 refine T.pX.fn.ok bE (fun vs H Q E h=>?_) (fun cdv A outer s H vs Q E hr h=>?_)
 ·obtain⟨a,s,A,rfl,_⟩:=h
  rfl
 ·obtain⟨a,s,A,rfl,p,q0,q1⟩:=h
  refine⟨_,(ab (ax (i:=1) bE.nd rfl (Or.inl rfl) (aA T.gw (fZ T) hr (aa (pv 0) ae)))
   (ab (ax (i:=2) bE.nd rfl (Or.inl rfl) (aj (pv 0) rfl))
   (ab (ax (i:=3) bE.nd rfl (Or.inl rfl) (aE ae))
   (ab (bU PassesOwn.never rfl (bu (wZ (pv 0) T.aw.cls T.cq (dY T) hr)) (aD (i:=4) bE.nd rfl (Or.inl rfl)) (ab (ax (i:=5) bE.nd rfl (Or.inl rfl) (aA T.tf (Bb T) hr (aa (aj (pv 0) rfl) (aa (pv 2) (aa (aT aG (aj (pv 0) rfl) (pv 4) (fun _ _=>rfl)) ae)))))
   (ab (ax (i:=6) bE.nd rfl (Or.inl rfl) (aA T.j8 (uZ T) hr (aa (pv 1) (aa (pv 5) (aa (aT aG (aj (pv 0) rfl) (pv 4) (fun _ _=>rfl)) (aa (aA T.eE (fH T) hr (aa (pv 0) (aa (aO bz (pv 4) ak) ae))) ae))))))
   (ab (bf (aM fP (pv 6) bR (aQ _)) (ag (au bR)) aP)
   (ab (ax (i:=2) bE.nd rfl (Or.inl rfl) (aA T.zy (ER T) hr (aa (pv 1) (aa (pv 6) ae))))
   (ag (aX (dH PySem.F.plainAttrs_list PySem.F.slot_list_extend PySem.F.type_list_extend cB (pv 3) (aa (fN rfl bE.nd (tH rfl T.iC (aa (aj (pv 0) rfl) (aa (pv 2) ae))) (bj (own:=[("unit",7),("mode",8)]) rfl) (fun _ _ _ _ _=>(dv K (n:=2) rfl rfl (@aV _ _ _ _ _ (@aD _ _ 7 _ bE.nd rfl (Or.inl rfl) (by first|exact .inl rfl|exact .inr rfl)) (@aV _ _ _ _ _ (@aD _ _ 8 _ bE.nd rfl (Or.inl rfl) (by first|exact .inl rfl|exact .inr rfl)) dw rfl) rfl) rfl rfl)) (fun _ _ _ _ _=>bJ) (fun _ _ _ _ _=>(aA T.ja (gH T) hr (aa (pv 7) (aa (pv 8) ae))))) ae)))))))))
   (ag (au (pv 3))))))),?_⟩
  have o:=p.ok
  have oJ:=o.oJ
  have nw:=o.nw
  have u4:=o.u4
  refine⟨_,rfl,a,s,A,100,rfl,p,fun g H1 p1 F1 hG=>?_⟩
  refine⟨_,rfl,p1.jG ?_⟩
  refine⟨sz (by simp),fun lv hlv=>?_⟩
  have s2:=aq (o:=.lst []) hlv
  have p2:aI T _ a s (A.plus lv):=p1.plus (o:=.lst []) hlv
  have F2:=F1.trans (Frame.of s2)
  have nlv:=p1.AV hlv
  have hG2:Gr T (jm _ (cf a (A.plus lv))) g s.units:=hG.same (Fd (o:=.lst []) hlv)
  have eB:aJ a (A.plus lv)=aJ a A:=rfl
  generalize hBB:A.plus lv=B at *
  have mlv:lv∈B.ex:=by rw[←hBB];exact Rc ..
  have back:∀H',aI T H' a s B→aI T H' a s A:=fun H' z=>by rw[←hBB]at z;exact z.minus
  have hlv0:H lv=none:=by
   cases e:H lv with
   | none=>rfl
   | some u=>rw[F1.out lv u e nlv]at hlv;cases hlv
  obtain⟨dx,fs,o1,o2⟩:=p2.nm (m:="hours_to_come") (fun gv=>rfl)
  refine⟨_,rfl,a,dx,fs,rfl,o1,o2,a,s,B,100,rfl,p2,fun hl H3 s3 hhl hhl3=>?_⟩
  have p3:=p2.same s3
  have F3:=F2.trans (Frame.of s3)
  have nhl:hl∉aJ a A:=by rw[←eB];exact p2.AV hhl
  have ePm:([some (.ref a),some (.ref g),some (.ref A.pm),some (.ref lv),none,none,none,none,none]:L2.St)=[some (.ref a),some (.ref g),some (.ref B.pm),some (.ref lv),none,none,none,none,none]:=by rw[←hBB];rfl
  refine⟨hl,rfl,⟨_,aF.of hhl3⟩,?_⟩
  have nlh:lv≠hl:=fun e=>by rw[←e,af]at hhl;cases hhl
  refine bC (bw _ hl ((Q5 (s.hours.length-s.now)).map fun i=>V.int ((s.now+i:Nat):Int))) (fun i σ H4=>E6 fun v4 v5 v6 mA (ms:Modes) (pre:List Modes)=>(σ=[some (.ref a),some (.ref g),some (.ref mA),some (.ref lv),v4,v5,v6,none,none])∧A9 (aI T H4 a s B) (Frame (aJ a A) (aJ a A) H H4) (Gr T (jm H4 (cf a B)) g s.units) (H4 hl=some (.lst ((Q5 (s.hours.length-s.now)).map fun i=>V.int ((s.now+i:Nat):Int)))) (H4 lv=some (.lst (nV (uR pre)))) ((uR pre).length=i*s.units.length) (bG s.units ms) ((∀H5,aI T H5 a s B→Frame (aJ a B) (aJ a B) H4 H5→H5 mA=some (.lst (mV s.units ms)))) (pW s.units (coming s) s.modes=(pW s.units (s.hours.drop (s.now+i)) ms).map fun r=>pre++r))
   ⟨none,none,none,B.pm,s.modes,[],ePm,p3,F3,hG2.same ((Frame.of s3).AR B.ex),hhl3,by rw[s3 _ _ af];rfl,by simp[uR],o.ms,fun H5 p5 _=>p5.modes,by simp[coming]⟩ (fun i σ H4 _ hh=>by obtain⟨_,_,_,_,_,_,_,_,_,_,h4,_⟩:=hh;exact aF.of h4) (fun i x σ H4 H5 hi pv xy=>?_) (fun σ H4 pv=>?_)
  ·obtain⟨v4,v5,v6,mA,ms,pre,rfl,p4,F4,hG4,hhl4,hlv4,hlen,hms,hmA,epl⟩:=pv
   obtain⟨rfl,e⟩:=xy
   rw[QH,Q6]at hi
   rw[QI,Rt hi]at e
   cases e
   have ht:s.now+i<s.hours.length:=by omega
   obtain⟨h,eh⟩:∃h,s.hours[s.now+i]?=some h:=⟨_,QJ ht⟩
   obtain⟨ra,era⟩:∃r,B.lH[s.now+i]?=some r:=⟨_,QJ (by rw[p4.jR];omega)⟩
   have hf:=o.fr h (QL eh)
   have ed:s.hours.drop (s.now+i)=h::s.hours.drop (s.now+i+1):=by
    obtain⟨z1,z2⟩:=QO.mp eh
    rw[Ru z1,z2]
   refine⟨_,rfl,p4.dO ⟨_,rfl,_,rfl,p4.jF ⟨_,rfl,B.pa,_,_,_,rfl,rfl,aF.of p4.eS,cR (v:=.ref ra) (by rw[QI,era];rfl),?_⟩⟩⟩
   refine⟨B.pu,mA,ra,s.units,ms,h.free,rfl,p4.un,o.wf,hms,hf,o.sc,hmA _ p4 (Frame.of (aN.refl _)),p4.rows _ ra h era eh,fun mv H6 s6 hmv hM=>?_⟩
   have p6:=p4.same s6
   have F46:=Frame.of (M:=aJ a B) s6
   refine⟨_,rfl,_,rfl,_,rfl,p6.dm ⟨_,rfl,B.pl,_,_,_,rfl,rfl,aF.of p6.loads,cR (v:=.int (h.load:Nat)) (by unfold yg;rw[QI,eh];rfl),_,rfl,_,rfl,_,_,rfl,rfl,a,s,B,s.now+i+1,rfl,p6,by omega,fun r H7 p7 F7 hr7=>?_⟩⟩
   have F47:=F46.trans F7
   obtain⟨r1,r2⟩:=dq hr7
   have hG7:Gr T (jm H7 (cf a B)) g s.units:=hG4.same (F47.AR B.ex)
   have R:=lq o.wf o.u4 o.fr oJ (s.hours.length-(s.now+i+1)) (Rq ..)
   have e3:s.hours.length-(s.hours.length-(s.now+i+1))=s.now+i+1:=Te (TY hi)
   rw[e3]at R
   have hM7:MA (pN s.units h.free ms) H7 mv:=by
    obtain⟨ls,l1,l2,l3⟩:=hM
    refine⟨ls,F7.out _ _ l1 (p4.AV hmv),l2,fun j t et=>?_⟩
    obtain⟨y,y1,y2⟩:=l3 j t et
    refine⟨y,y1,F7.out _ _ y2 fun m=>?_⟩
    unfold aJ at m
    simp only[QM]at m
    rcases m with rfl|rfl|rfl|rfl|rfl|m
    ·obtain⟨d,gv,z,_⟩:=p6.obj;rw[z]at y2;cases y2
    ·rw[p6.modes]at y2;cases y2
    ·rw[p6.loads]at y2;cases y2
    ·rw[p6.eS]at y2;cases y2
    ·obtain⟨_,z,_⟩:=p6.tabs;rw[z]at y2;cases y2
    ·obtain⟨n,hn,en⟩:=Tu m
     have hn2:n<s.hours.length:=by rw[←p6.jR];exact hn
     rw[p6.rows n t s.hours[n] (by rw[QJ hn,en]) (QJ hn2)]at y2
     cases y2
   have bm:=yU (h:=h) o.wf hms hf R (small (QK (Rq ..) (QK oJ (by decide))) u4)
   refine⟨g,mv,r,s.units,h.free,ms,_,h.load,rfl,hG7.same (fS _ _),o.wf,hms,hf,hM7,r1,R.1,?_⟩
   have bm2:((moves s.units h.free ms).foldl (e8 (Le h.load) (zC s.units (cY s.units s.hours (s.hours.length-(s.now+i+1))))) (NP,none)).2=bestMove s.units h (mh s.units (s.hours.drop (s.now+i+1))) ms:=bm
   rw[bm2]
   have epl2:pW s.units (s.hours.drop (s.now+i)) ms=match bestMove s.units h (mh s.units (s.hours.drop (s.now+i+1))) ms with
    | none=>none
    | some x=>(pW s.units (s.hours.drop (s.now+i+1)) x.1).map fun p=>x.1::p:=by rw[ed];rfl
   rw[epl2]at epl
   refine⟨_,rfl,rfl,_,rfl,?_⟩
   cases hb:bestMove s.units h (mh s.units (s.hours.drop (s.now+i+1))) ms with
   | none =>
    rw[hb]at epl
    refine bF (fun c=>?_) (fun c=>absurd (by simp[fV]) c)
    rw[eB]at F47
    exact q0 epl _ (back _ p7) (F4.trans F47)
   | some x =>
    rw[hb]at epl
    refine bF (fun c=>absurd (of_decide_eq_true c) (by intro z;cases z)) (fun c=>?_)
    have hx:=ki o.wf hms hf x (CB hb)
    refine⟨_,rfl,_,rfl,g,s.units,x.1,rfl,hG7.same (fS _ _),o.wf,hx,u4,fun m8 H8 s8 hm8 hm8'=>?_⟩
    have p8:=p7.same s8
    have F48:=F47.trans (Frame.of s8)
    have nlvB:lv∉aJ a B:=by rw[eB];exact nlv
    have hlv8:H8 lv=_:=F48.out _ _ hlv4 nlvB
    refine⟨_,rfl,.inl ⟨rfl,_,aF.of hlv8⟩,?_⟩
    obtain⟨us8,un1,un2,un3⟩:=p8.K3
    have hxl:=hx.len
    refine⟨_,rfl,p8.dO ⟨_,rfl,B.pu,m8,_,_,rfl,aF.of un1,aF.of hm8',fun D hD=>?_⟩⟩
    refine bt (uu _ B.pu m8 _ _) (fun j y _=>(nV (x.1.map levelOf))[j]?=some y) (cI _) (sz (by rw[QH,lE hx];exact QK (Rn ..) (QK u4 (by decide)))) hD (fun H9 s9=>⟨aF.of (s9 _ _ un1),aF.of (s9 _ _ hm8')⟩) (fun j y H9 H10 R' hj s9 hne xy kk=>?_) (fun H9 B9=>?_)
    ·obtain⟨t,x1,y1,rfl,ht1,rfl,e1,e2⟩:=xy
     rw[QH,un2,lE hx,SG]at hj
     rw[QI]at e1
     obtain⟨ur,eur,rfl⟩:=QQ.mp e1
     obtain⟨u,eu,hA⟩:=un3 j ur eur
     obtain⟨m,em⟩:∃m,x.1[j]?=some m:=⟨_,QJ (by omega)⟩
     rw[iA eu em]at e2
     cases e2
     have s10:=aq (o:=.tup [V.ref ur,V.int (place u m:Nat)]) ht1
     refine⟨t,_,rfl,eQ.of af,rfl,_,_,rfl,_,_,rfl,rfl,rfl,?_⟩
     refine⟨_,rfl,_,rfl,ur,u,m,rfl,(hA.same s9).same s10,o.wf u (QL eu),hx.get eu em,kk _ _ s10 ?_⟩
     unfold nV
     rw[QI,QI,em]
     rfl
    ·have eD:=B9.eq (by unfold nV;rw[QH,QH,QH,un2,lE hx,hxl,SG])
     have s9:=B9.cK
     have hlv9:=s9 _ _ hlv8
     have nhlv:hl≠lv:=Ne.symm nlh
     have MU:(uR pre).length≤192:=by
      rw[hlen]
      have:i*s.units.length≤48*4:=Ti (by omega) u4
      omega
     refine⟨lv,D,_,_,rfl,rfl,hlv9,eD,sz (by unfold nV;rw[QH,QH,QH];omega),_,_,_,m8,x.1,pre++[x.1],rfl,?_⟩
     have p9:=p8.same s9
     have p10:=p9.write (o:=.lst (nV (uR pre)++nV (x.1.map levelOf))) mlv
     have F49:=F48.trans (Frame.of s9)
     have Pk:m8≠lv:=fun z=>by
      have:=F47.out _ _ hlv4 nlvB
      rw[←z,hm8]at this;cases this
     have nhB:hl∉aJ a B:=by rw[eB];exact nhl
     refine⟨p10,⟨fun b o e n=>?_,fun b m=>.inl m⟩,?_,?_,?_,?_,hx,fun H11 p11 F11=>?_,?_⟩
     ·have nb:b≠lv:=ao e hlv0
      rw[ah nb]
      rw[eB]at F49
      exact F49.out b o (F4.out b o e n) n
     ·rw[mW (show lv∈cf a B from Ri _ mlv)]
      exact hG7.same (((Frame.of s8).trans (Frame.of s9)).AR B.ex)
     ·rw[ah nhlv];exact F49.out _ _ hhl4 nhB
     ·rw[af,B8];unfold nV;rw[Rl]
     ·rw[B8,QN,hlen,QH,hxl,RD]
     ·refine F11.out m8 _ (by rw[ah Pk];exact s9 _ _ hm8') (p7.AV hm8)
     ·rw[epl,W6]
      congr 1
      funext r
      simp[TU]
  ·obtain⟨v4,v5,v6,mA,ms,pre,rfl,p4,F4,hG4,hhl4,hlv4,hlen,hms,hmA,epl⟩:=pv
   rw[QH,Q6]at epl hlen
   have e:s.now+(s.hours.length-s.now)=s.hours.length:=by omega
   rw[e,SU]at epl
   have epl2:pW s.units (coming s) s.modes=some pre:=by rw[epl];simp[pW]
   refine⟨_,rfl,q1 pre epl2 lv _ (back _ p4) F4 hlv0 hlv4 ?_⟩
   rw[hlen]
   have:(s.hours.length-s.now)*s.units.length≤48*4:=Ti (by omega) u4
   omega
open Vbbcag (toLevel)
def Qa(u:Unit_):Option Mode→V
 | none=>.non
 | some x=>.int (place u x:Nat)
theorem IM{α:Type}{f:α→Bool}{L:List α}{i:Nat}{x:α}(e:L[i]?=some x)(h:(L.take i).find? f=none)(hx:f x=true):L.find? f=some x:=by
 have:L=L.take i++L.drop i:=(TZ i L).symm
 rw[this,Wx,h]
 obtain⟨z1,z2⟩:=QO.mp e
 rw[Ru z1,z2,Sx,hx]
 rfl
theorem C6{α:Type}{f:α→Bool}{L:List α}{i:Nat}{x:α}(e:L[i]?=some x)(h:(L.take i).find? f=none)(hx:f x=false):(L.take (i+1)).find? f=none:=by
 rw[br e,Wx,h,Sx,hx]
 rfl
def G8(C:Addr):Sp:=fun vs H Q _=>E5 fun a u m (fr:Bool) (l:Nat)=>A5 (vs=[.ref a,.int (place u m:Nat),.bl fr,.int l]) (bq C H a u) (Wf u) (rK u m) (∀H',aN H H'→Q (Qa u (toLevel u fr m l)) H')
theorem GR(T:Tx K mg):dJ P w base 5 T.Dr (G8 T.aK.C):=by
 refine T.Dr.fn.ok Ae (fun vs H Q E h=>?_) (fun cdv A outer s H vs Q E hr h=>?_)
 ·obtain⟨a,u,m,fr,l,rfl,_⟩:=h
  rfl
 ·obtain⟨a,u,m,fr,l,rfl,hU,hw,hm,k⟩:=h
  refine⟨_,(ab (bU PassesOwn.never rfl (bu (aA T.uB (tw T) hr (aa (pv 0) (aa (pv 1) (aa (pv 2) ae))))) (aD (i:=4) Ae.nd rfl (Or.inl rfl)) (ag (bf (aM rC (aA T.ja (gH T) hr (aa (pv 0) (aa (pv 4) ae))) (pv 3) (aQ _)) (ag (au (pv 4))) aP)))
   (ag (au bR))),?_⟩
  refine⟨_,rfl,_,rfl,_,rfl,a,u,m,fr,rfl,hU,hw,hm,fun cl H1 s1 hcl hcl1=>?_⟩
  refine⟨cl,rfl,⟨_,aF.of hcl1⟩,?_⟩
  refine bC (bw _ cl (DI u (options u fr m))) (fun i σ H2=>∃v,A3 (σ=[some (.ref a),some (.int (place u m:Nat)),some (.bl fr),some (.int l),v]) (H2=H1) (((options u fr m).take i).find? (fun x=>levelOf x==l)=none)) ⟨none,rfl,rfl,by simp⟩ (fun i σ H2 _ hh=>by obtain⟨_,_,rfl,_⟩:=hh;exact aF.of hcl1) (fun i x σ H2 H3 hi pv xy=>?_) (fun σ H2 pv=>?_)
  ·obtain⟨v,rfl,rfl,hn⟩:=pv
   obtain⟨rfl,e⟩:=xy
   unfold DI at e
   rw[QI]at e
   obtain⟨x,ex,rfl⟩:=QQ.mp e
   have hx:=fI hw hm (QL ex)
   refine⟨_,rfl,_,rfl,a,u,x,rfl,hU.same s1,hw,hx,_,rfl,rfl,_,rfl,?_⟩
   refine bF (fun c=>?_) (fun c=>?_)
   ·have c:levelOf x=l:=dI c
    refine⟨_,rfl,?_⟩
    have e2:toLevel u fr m l=some x:=IM ex hn (by simpa using c)
    have:=k _ s1
    rw[e2]at this
    exact this
   ·have c:¬levelOf x=l:=Lb c
    exact⟨_,rfl,rfl,C6 ex hn (by simpa using c)⟩
  ·obtain⟨v,rfl,rfl,hn⟩:=pv
   have e2:toLevel u fr m l=none:=by
    unfold DI at hn
    rw[QH,RF]at hn
    exact hn
   have:=k _ s1
   rw[e2]at this
   exact this
def Fs{mg:Str→Option Value}(T:Tx K mg):Sp:=fun vs H Q _=>OM fun a b c s A k ms h ls (t:Nat)=>A9 (vs=[.ref a,.ref b,.int t,.ref c]) (cP T H a s A k) (s.hours[t]?=some h) (H b=some (.lst (mV s.units ms))) (bG s.units ms) (H c=some (.lst (nV ls))) (ls.length=s.units.length) ((wD s.units h.free ms ls=none→∀H',aN H H'→Q .non H')) ((∀xs,wD s.units h.free ms ls=some xs→∀l H',aN H H'→H l=none→H' l=some (.lst (mV s.units xs))→Q (.ref l) H'))
theorem xT(T:Tx K mg):dJ P w base 6 T.uV (Fs T):=by
 refine T.uV.fn.ok ji (fun vs H Q E h=>?_) (fun cdv A outer s H vs Q E hr h=>?_)
 ·obtain⟨a,b,c,s,A,k,ms,h,ls,t,rfl,_⟩:=h
  rfl
 ·obtain⟨a,b,c,s,A,k,ms,h,ls,t,rfl,p,eh,hB,hm,hC,hl,q0,q1⟩:=h
  refine⟨_,(ab (ax (i:=4) ji.nd rfl (Or.inl rfl) (aE ae))
   (ab (bU PassesOwn.never rfl (LV rfl T.jN (aa (aj (pv 0) rfl) ae)) (dv K (n:=2) rfl rfl (@aV _ _ _ _ _ (@aD _ _ 5 _ ji.nd rfl (Or.inl rfl) (by first|exact .inl rfl|exact .inr rfl)) (@aV _ _ _ _ _ (@aD _ _ 6 _ ji.nd rfl (Or.inl rfl) (by first|exact .inl rfl|exact .inr rfl)) dw rfl) rfl) rfl rfl) (ab (ax (i:=7) ji.nd rfl (Or.inl rfl) (aA T.Dr (GR T) hr (aa (pv 6) (aa (aT aG (pv 1) (pv 5) (fun _ _=>rfl)) (aa (aT aG (aT aG (aj (pv 0) rfl) (pv 2) (fun _ _=>rfl)) (pv 5) (fun _ _=>rfl)) (aa (aT aG (pv 3) (pv 5) (fun _ _=>rfl)) ae))))))
   (ab (bf (aM fP (pv 7) bR (aQ _)) (ag (au bR)) aP)
   (ag (aX (dH PySem.F.plainAttrs_list PySem.F.slot_list_append PySem.F.type_list_append cA (pv 4) (aa (pv 7) ae)))))))
   (ag (au (pv 4))))),?_⟩
  have o:=p.ok
  have hf:=o.fr h (QL eh)
  have hml:=hm.len
  have ht:t<s.hours.length:=(QO.mp eh).1
  obtain⟨ra,era⟩:∃r,A.lH[t]?=some r:=⟨_,QJ (by rw[p.jR];omega)⟩
  refine⟨sz (by simp),fun lv hlv=>?_⟩
  have s1:=aq (o:=.lst []) hlv
  obtain⟨rs,u1,u2,u3⟩:=p.K3
  refine⟨_,rfl,(p.same s1).dO ⟨A.pu,_,rfl,aF.of (s1 _ _ u1),?_⟩⟩
  refine bC (Mg _ A.pu (rs.map V.ref)) (fun i σ H2=>E4 fun v5 v6 v7 (xs:Modes)=>A6 (σ=[some (.ref a),some (.ref b),some (.int t),some (.ref c),some (.ref lv),v5,v6,v7]) (aN H H2) (xs.length=i) (bG (s.units.take i) xs) (H2 lv=some (.lst (mV (s.units.take i) xs))) (∀(j:Nat) u f m l,j<i→s.units[j]?=some u→h.free[j]?=some f→ms[j]?=some m→ls[j]?=some l→toLevel u f m l=xs[j]?))
   ⟨none,none,none,[],rfl,s1,rfl,by simp[bG],by rw[af];simp[mV],fun j _ _ _ _ hj=>by omega⟩ (fun i σ H2 _ hh=>by obtain⟨_,_,_,_,_,s2,_⟩:=hh;exact aF.of (s2 _ _ u1)) (fun i x σ H2 H3 hi pv xy=>?_) (fun σ H2 pv=>?_)
  ·obtain⟨v5,v6,v7,xs,rfl,s2,hxl,hxo,hlv2,hfx⟩:=pv
   obtain⟨tt,x,rfl,htt,rfl,e⟩:=xy
   rw[QH,u2]at hi
   rw[QI]at e
   obtain⟨r,er,rfl⟩:=QQ.mp e
   obtain⟨u,eu,hA⟩:=u3 i r er
   obtain⟨m,em⟩:∃m,ms[i]?=some m:=⟨_,QJ (by omega)⟩
   obtain⟨f,ef⟩:∃f,h.free[i]?=some f:=⟨_,QJ (by omega)⟩
   obtain⟨l,el⟩:∃l,ls[i]?=some l:=⟨_,QJ (by omega)⟩
   have hu:=o.wf u (QL eu)
   have hmo:=hm.get eu em
   have s3':=aq (o:=.tup [V.int ((i:Nat):Int),V.ref r]) htt
   have s3:=s2.trans s3'
   have p3:=p.same s3
   have hlv3:=s3' _ _ hlv2
   refine⟨tt,_,rfl,eQ.of af,rfl,_,_,rfl,_,_,rfl,rfl,?_⟩
   refine⟨_,rfl,_,rfl,_,rfl,b,_,_,_,rfl,rfl,aF.of (s3 _ _ hB),cR (iA eu em),_,rfl,p3.jF ⟨_,rfl,A.pa,_,_,_,rfl,rfl,aF.of p3.eS,cR (v:=.ref ra) (by rw[QI,era];rfl),_,rfl,ra,_,_,_,rfl,rfl,aF.of (p3.rows t ra h era eh),cR (v:=.bl f) (by unfold yV;rw[QI,ef];rfl),_,rfl,_,rfl,c,_,_,_,rfl,rfl,aF.of (s3 _ _ hC),cR (v:=.int (l:Nat)) (by unfold nV;rw[QI,el];rfl),?_⟩⟩
   refine⟨r,u,m,f,l,rfl,hA.same s3,hu,hmo,fun H4 s4=>?_⟩
   refine⟨_,rfl,rfl,_,rfl,?_⟩
   cases hb:toLevel u f m l with
   | none =>
    refine bF (fun c=>?_) (fun c=>absurd (by simp[Qa]) c)
    exact q0 (B3 i eu ef em el hb) _ (s3.trans s4)
   | some x =>
    refine bF (fun c=>absurd (of_decide_eq_true c) (by intro z;cases z)) (fun c=>?_)
    have hlv4:=s4 _ _ hlv3
    refine⟨_,rfl,.inl ⟨rfl,_,aF.of hlv4⟩,_,rfl,lv,_,_,rfl,rfl,hlv4,HZ ?_,_,_,_,xs++[x],rfl,fun b o e=>?_,by simp[hxl],?_,?_,fun j u' f' m' l' hj a1 a2 a3 a4=>?_⟩
    ·have:=lE hxo
     have:=o.u4
     rw[QZ]at *
     omega
    ·rw[ah (ao e hlv)];exact s4 _ _ (s3 _ _ e)
    ·rw[br eu]
     exact hxo.append ⟨fI hu hmo (ya hb).2,trivial⟩
    ·rw[af,br eu]
     unfold mV
     rw[List.zip_append (by rw[QZ,hxl];exact Q3 (RI hi)),Rl]
     rfl
    ·by_cases cj:j<i
     ·rw[Q0 (by omega)]
      exact hfx j u' f' m' l' cj a1 a2 a3 a4
     ·have ej:j=i:=by omega
      subst ej
      rw[eu]at a1;rw[ef]at a2;rw[em]at a3;rw[el]at a4
      cases a1;cases a2;cases a3;cases a4
      rw[hb,QX (by omega),hxl,Se]
      rfl
  ·obtain⟨v5,v6,v7,xs,rfl,s2,hxl,hxo,hlv2,hfx⟩:=pv
   rw[QH,u2]at *
   rw[RF]at hlv2
   have e:=B4 (xs:=xs) hf (by omega) hl.symm hxl fun j u f m l a1 a2 a3 a4=>hfx j u f m l (by have:=(QO.mp a1).1;exact this) a1 a2 a3 a4
   exact⟨_,rfl,q1 xs e lv _ s2 hlv hlv2⟩
open Vbbcag (look)
def DX{mg:Str→Option Value}(T:Tx K mg):Sp:=fun vs H Q _=>E8 fun a b c s A k ms xs=>A7 (vs=[.ref a,.ref b,.ref c]) (cP T H a s A k) (H b=some (.lst (mV s.units ms))) (bG s.units ms) (H c=some (.lst (mV s.units xs))) (bG s.units xs) (∀H',aN H H'→Q (.int (lg s.units ms xs:Nat)) H')
theorem u9(T:Tx K mg):dJ P w base 4 T.qP (DX T):=by
 refine T.qP.fn.ok hJ (fun vs H Q E h=>?_) (fun cdv A outer s H vs Q E hr h=>?_)
 ·obtain⟨a,b,c,s,A,k,ms,xs,rfl,_⟩:=h
  rfl
 ·obtain⟨a,b,c,s,A,k,ms,xs,rfl,p,hB,hm,hC,hx,q⟩:=h
  refine⟨_,(ag (au (aH (F9 rfl) rfl T.zB FX (aa (fN rfl hJ.nd (HN rfl T.iC (aa (aj (pv 0) rfl) (aa (pv 1) (aa (pv 2) ae)))) (bj (own:=[("unit",3),("before",4),("mode",5)]) rfl) (fun _ _ _ _ _=>(dv K (n:=3) rfl rfl (@aV _ _ _ _ _ (@aD _ _ 3 _ hJ.nd rfl (Or.inl rfl) (by first|exact .inl rfl|exact .inr rfl)) (@aV _ _ _ _ _ (@aD _ _ 4 _ hJ.nd rfl (Or.inl rfl) (by first|exact .inl rfl|exact .inr rfl)) (@aV _ _ _ _ _ (@aD _ _ 5 _ hJ.nd rfl (Or.inl rfl) (by first|exact .inl rfl|exact .inr rfl)) dw rfl) rfl) rfl) rfl rfl)) (fun _ _ _ _ _=>bJ) (fun _ _ _ _ _=>(aA T.mi (m5 T) hr (aa (pv 3) (aa (pv 4) (aa (pv 5) ae)))))) ae)))),?_⟩
  have o:=p.ok
  have u4:=o.u4
  obtain⟨rs,h1,h2,h3⟩:=p.K3
  have hml:=hm.len
  have hxl:=hx.len
  refine⟨_,rfl,p.dO ⟨_,rfl,_,rfl,A.pu,b,c,_,_,_,rfl,aF.of h1,aF.of hB,aF.of hC,fun D hD=>?_⟩⟩
  have Y:Yl (OA K A.pu b c) s.units.length (fun H2=>aN H H2) (fun i v H2 H'=>∃t r u m x,v=.ref t∧H2 t=none∧H'=upd H2 t (.tup [.ref r,.int (place u m:Nat),.int (place u x:Nat)])∧rs[i]?=some r∧s.units[i]?=some u∧ms[i]?=some m∧xs[i]?=some x):=by
   have gets:∀i,i<s.units.length→∃r u m x,rs[i]?=some r∧s.units[i]?=some u∧ms[i]?=some m∧xs[i]?=some x:=fun i hi=>⟨_,_,_,_,QJ (by omega),QJ hi,QJ (by omega),QJ (by omega)⟩
   refine⟨fun i H2 s2 hi=>?_,fun H2 s2=>⟨_,_,_,aF.of (s2 _ _ h1),aF.of (s2 _ _ hB),aF.of (s2 _ _ hC),.inl (by rw[QH];omega)⟩,fun i H2 v H' s2 hi y=>?_⟩
   ·obtain⟨r,u,m,x,g1,g2,g3,g4⟩:=gets i hi
    exact⟨_,_,_,.ref r,.int (place u m:Nat),.int (place u x:Nat),aF.of (s2 _ _ h1),aF.of (s2 _ _ hB),aF.of (s2 _ _ hC),by rw[QI,g1];rfl,iA g2 g3,iA g2 g4⟩
   ·obtain⟨r,u,m,x,g1,g2,g3,g4⟩:=gets i hi
    obtain⟨t,x',y,z,e1,e2,e3,y1,y2,y3⟩:=y
    have q1:=y1 _ (aF.of (s2 _ _ h1))
    have q2:=y2 _ (aF.of (s2 _ _ hB))
    have q3:=y3 _ (aF.of (s2 _ _ hC))
    rw[QI,g1]at q1
    rw[iA g2 g3]at q2
    rw[iA g2 g4]at q3
    cases q1;cases q2;cases q3
    exact⟨t,r,u,m,x,e1,e2,e3,g1,g2,g3,g4⟩
  refine bt Y (fun j y _=>(zV ((gf s.units ms xs).map fun x=>(costOf x.1 x.2.1 x.2.2:Int)))[j]?=some y) (cI _) (sz (by omega)) hD (fun H2 s2=>s2) (fun i v H2 H3 R hi s2 hne xy kk=>?_) (fun H2 B=>?_)
  ·obtain⟨t,r,u,m,x,rfl,ht,rfl,er,eu,em,ex⟩:=xy
   obtain⟨u',eu',hA⟩:=h3 i r er
   rw[eu]at eu'
   cases eu'
   have s3:=aq (o:=.tup [V.ref r,V.int (place u m:Nat),V.int (place u x:Nat)]) ht
   refine⟨t,_,rfl,eQ.of af,rfl,_,_,rfl,_,_,rfl,_,_,rfl,rfl,rfl,?_⟩
   refine⟨_,rfl,_,rfl,_,rfl,r,u,m,x,rfl,(hA.same s2).same s3,o.wf u (QL eu),hm.get eu em,hx.get eu ex,kk _ _ s3 ?_⟩
   unfold zV
   rw[QI,QI,AH,eu,em,ex]
   rfl
  ·have eD:=B.eq (by rw[aB,QH,FL];omega)
   refine⟨D,_,rfl,aF.of eD,?_⟩
   rw[Ay]
   exact q _ B.cK
def Bw:Sp:=fun vs H Q _=>E3 fun a ns (m:Int)=>A4 (vs=[.ref a,.int m]) (H a=some (.lst (zV ns))) (ns.length≤100000) (∀H',aN H H'→Q (.bl (ns.all fun z=>Vbbcag.from_ z 0 m)) H')
theorem lG(T:Tx K mg):dJ P w base 1 T.j4 Bw:=by
 refine T.j4.fn.ok lS (fun vs H Q E h=>?_) (fun cdv A outer s H vs Q E hr h=>?_)
 ·obtain⟨a,ns,m,rfl,_⟩:=h
  rfl
 ·obtain⟨a,ns,m,rfl,hA,hl,q⟩:=h
  refine⟨_,(ag (au (aH (CL rfl) rfl T.wK CD (aa (fN rfl lS.nd (bu (pv 0)) (bj (own:=[("number",2)]) rfl) (fun _ _ _ _ _=>(aD (i:=2) lS.nd rfl (Or.inl rfl))) (fun _ _ _ _ _=>bJ) (fun _ _ _ _ _=>(mr jf jf ak (pv 2) (pv 1)))) ae)))),?_⟩
  refine⟨_,rfl,a,rfl,⟨_,aF.of hA⟩,fun D hD=>?_⟩
  refine bt (bw _ a (zV ns)) (fun j y _=>((ns.map fun z=>Vbbcag.from_ z 0 m).map V.bl)[j]?=some y) (cI _) (sz (by rw[aB];omega)) hD (fun H2 s2=>aF.of (s2 _ _ hA)) (fun i v H2 H3 R hi s2 hne xy kk=>?_) (fun H2 B=>?_)
  ·obtain⟨rfl,e⟩:=xy
   rw[aB]at hi
   rw[gE hi]at e
   cases e
   have el:((ns.map fun z=>Vbbcag.from_ z 0 m).map V.bl)[i]?=some (.bl (decide (0≤rd ns i)&&decide (rd ns i≤m))):=by
    rw[QI,QI,bO hi]
    show some (V.bl (decide (0≤rd ns i∧rd ns i≤m)))=_
    rw[Bool.decide_and]
   refine⟨rfl,_,rfl,_,_,rfl,rfl,_,rfl,?_⟩
   refine bF (fun c=>?_) (fun c=>?_)
   ·refine⟨_,rfl,_,_,rfl,rfl,kk _ _ (aN.refl _) ?_⟩
    rw[c,UC]at el
    exact el
   ·refine kk _ _ (aN.refl _) ?_
    have c:decide (0≤rd ns i)=false:=by simpa using c
    rw[c,T4]at el
    exact el
  ·have eD:=B.eq (by rw[aB,QH,QH])
   refine⟨D,_,rfl,aF.of eD,?_⟩
   have e:(ns.map fun z=>Vbbcag.from_ z 0 m).all id=ns.all fun z=>Vbbcag.from_ z 0 m:=by rw[Vu];rfl
   rw[e]
   exact q _ B.cK
open Vbbcag (toLevels)
def fe(s:State)(ls:List Nat):List Int:=match look s.units 0 0 (coming s) s.modes ls with
 | .ok c=>[1,(c:Int)]
 | .error (t,w)=>[0,if w=3∧s.units.length*(coming s).length<ls.length then -1 else((s.now+t:Nat):Int),(w:Int)]
theorem Kk(ls:List Nat):(ls.map fun(n:Nat)=>(n:Int)).sum=(ls.sum:Int):=by
 induction ls with
 | nil=>rfl
 | cons a r ih=>rw[RC,Vi,Vi,ih];simp
theorem N8(ls:List Nat):nV ls=zV (ls.map fun(n:Nat)=>(n:Int)):=by unfold nV zV;rw[Sd];rfl
theorem MW(ls:List Nat)(a b:Nat):j6 (nV ls) (some (a:Int)) (some (b:Int))=nV ((ls.take b).drop a):=by
 rw[yY];unfold nV;rw[V6,V7]
def BA{mg:Str→Option Value}(T:Tx K mg):Sp:=fun vs H Q _=>E6 fun a b s A k ls=>A5 (vs=[.ref a,.ref b]) (cP T H a s A k) (H b=some (.lst (nV ls))) (ls.length≤1000) (mE H Q (zV (fe s ls)))
theorem AZ(T:Tx K mg):dJ P w base 7 T.sV (BA T):=by
 refine T.sV.fn.ok bL (fun vs H Q E h=>?_) (fun cdv A outer s H vs Q E hr h=>?_)
 ·obtain⟨a,b,s,A,k,ls,rfl,_⟩:=h
  rfl
 ·obtain⟨a,b,s,A,k,ls,rfl,p,hB,hll,q⟩:=h
  refine⟨_,(ab (ax (i:=2) bL.nd rfl (Or.inl rfl) (aH az rfl T.ba bh (aa (aj (pv 0) rfl) ae)))
   (ab (ax (i:=3) bL.nd rfl (Or.inl rfl) (aj (pv 0) rfl))
   (ab (ax (i:=4) bL.nd rfl (Or.inl rfl) ak)
   (ab (ax (i:=5) bL.nd rfl (Or.inl rfl) ak)
   (ab (bU PassesOwn.never rfl (bu (wZ (pv 0) T.aw.cls T.cq (dY T) hr)) (aD (i:=6) bL.nd rfl (Or.inl rfl)) (ab (ax (i:=7) bL.nd rfl (Or.inl rfl) (cW eY (pv 1) (bY (pv 5)) (bY (aO bz (pv 5) (pv 2)))))
   (ab (bf (aM km (aH az rfl T.ba bh (aa (pv 7) ae)) (pv 2) (aQ _)) (ag (au (aE (aa ak (aa (pv 6) (aa (aL (v:=.int (3)) rfl T.gL ⟨_,rfl⟩) ae)))))) aP)
   (ab (ax (i:=8) bL.nd rfl (Or.inl rfl) (aA T.uV (xT T) hr (aa (pv 0) (aa (pv 3) (aa (pv 6) (aa (pv 7) ae))))))
   (ab (bf (aM fP (pv 8) bR (aQ _)) (ag (au (aE (aa ak (aa (pv 6) (aa (aL (v:=.int (1)) rfl T.gu ⟨_,rfl⟩) ae)))))) aP)
   (ab (bf (aM km (aH (F9 rfl) rfl T.zB FX (aa (pv 7) ae)) (aT aG (aj (pv 0) rfl) (pv 6) (fun _ _=>rfl)) (aQ _)) (ag (au (aE (aa ak (aa (pv 6) (aa (aL (v:=.int (2)) rfl T.ka ⟨_,rfl⟩) ae)))))) aP)
   (ab (zT (i:=4) bL.nd rfl (Or.inl rfl) (aA T.qP (u9 T) hr (aa (pv 0) (aa (pv 3) (aa (pv 8) ae)))) Di)
   (ab (ax (i:=3) bL.nd rfl (Or.inl rfl) (pv 8))
   (ag (zT (i:=5) bL.nd rfl (Or.inl rfl) (pv 2) Di))))))))))
   (ab (bf (aM km (pv 5) (aH az rfl T.ba bh (aa (pv 1) ae)) (aQ _)) (ag (au (aE (aa ak (aa (oN jB ak) (aa (aL (v:=.int (3)) rfl T.gL ⟨_,rfl⟩) ae)))))) aP)
   (ag (au (aE (aa ak (aa (pv 4) ae))))))))))),?_⟩
  have o:=p.ok
  have u4:=o.u4
  have oJ:=o.oJ
  have nw:=o.nw
  obtain⟨rs,h1,h2,h3⟩:=p.K3
  have cl:(coming s).length=s.hours.length-s.now:=by unfold coming;rw[QY]
  refine⟨_,rfl,p.dO ⟨A.pu,_,rfl,.inl (aF.of h1),?_⟩⟩
  rw[QH,h2]
  refine⟨_,rfl,p.jG ?_⟩
  obtain⟨dx,fs,o1,o2⟩:=p.nm (m:="hours_to_come") (fun gv=>rfl)
  refine⟨_,rfl,a,dx,fs,rfl,o1,o2,a,s,A,k,rfl,p,fun hl H1 s1 hhl hhl1=>?_⟩
  refine⟨hl,rfl,⟨_,aF.of hhl1⟩,?_⟩
  refine bC (bw _ hl ((Q5 (s.hours.length-s.now)).map fun i=>V.int ((s.now+i:Nat):Int))) (fun i σ H2=>E6 fun v6 v7 v8 mA (ms:Modes) (c:Nat)=>A6 (σ=[some (.ref a),some (.ref b),some (.int (s.units.length:Nat)),some (.ref mA),some (.int (c:Nat)),some (.int ((i*s.units.length:Nat):Int)),v6,v7,v8]) (aN H1 H2) (H2 mA=some (.lst (mV s.units ms))) (bG s.units ms) (i*s.units.length≤ls.length) (look s.units 0 0 (coming s) s.modes ls=look s.units i c (s.hours.drop (s.now+i)) ms (ls.drop (i*s.units.length))))
   ⟨none,none,none,A.pm,s.modes,0,by rw[T8];rfl,aN.refl _,s1 _ _ p.modes,o.ms,by omega,by rw[T8];rfl⟩ (fun i σ H2 _ hh=>by obtain⟨_,_,_,_,_,_,_,s2,_⟩:=hh;exact aF.of (s2 _ _ hhl1)) (fun i x σ H2 H3 hi pv xy=>?_) (fun σ H2 pv=>?_)
  ·obtain⟨v6,v7,v8,mA,ms,c,rfl,s2,hmA,hms,hle,elk⟩:=pv
   obtain⟨rfl,e⟩:=xy
   rw[QH,Q6]at hi
   rw[QI,Rt hi]at e
   cases e
   have S2:=s1.trans s2
   have p2:=p.same S2
   have ht:s.now+i<s.hours.length:=by omega
   obtain⟨h,eh⟩:∃h,s.hours[s.now+i]?=some h:=⟨_,QJ ht⟩
   have ed:s.hours.drop (s.now+i)=h::s.hours.drop (s.now+i+1):=by
    obtain⟨z1,z2⟩:=QO.mp eh
    rw[Ru z1,z2]
   have hf:=o.fr h (QL eh)
   rw[ed,IY]at elk
   refine⟨_,rfl,_,rfl,_,rfl,_,rfl,_,rfl,_,_,rfl,rfl,_,rfl,b,_,rfl,aF.of (S2 _ _ hB),fun pt hpt=>?_⟩
   have e1:((i*s.units.length:Nat):Int)+((s.units.length:Nat):Int)=((i*s.units.length+s.units.length:Nat):Int):=by rw[Sf (i*s.units.length)]
   have e2:((ls.take (i*s.units.length+s.units.length)).drop (i*s.units.length))=(ls.drop (i*s.units.length)).take s.units.length:=by rw[U9,Rg]
   rw[e1,MW,e2]
   have s4:=aq (o:=.lst (nV ((ls.drop (i*s.units.length)).take s.units.length))) hpt
   have S4:=S2.trans s4
   have p4:=p.same S4
   have lp:(nV ((ls.drop (i*s.units.length)).take s.units.length)).length=min s.units.length (ls.length-i*s.units.length):=by unfold nV;rw[QH,QZ,QY]
   refine⟨_,rfl,pt,_,rfl,.inl (aF.of af),_,rfl,_,_,rfl,rfl,_,rfl,?_⟩
   rw[lp]
   refine bF (fun c1=>?_) (fun c1=>?_)
   ·have c1:((min s.units.length (ls.length-i*s.units.length):Nat):Int)<((s.units.length:Nat):Int):=of_decide_eq_true c1
    have c1:ls.length-i*s.units.length<s.units.length:=WE fun q=>Rj (TH.1 c1) (Q3 q)
    rw[if_pos (by rw[QY];exact c1)]at elk
    refine⟨_,rfl,sz (by simp),fun r hr1=>?_⟩
    refine q r _ (S4.trans (aq hr1)) (S4.free hr1) ?_
    rw[af]
    unfold fe
    rw[elk]
    simp only
    rw[if_neg]
    ·rfl
    ·rintro ⟨_,z⟩
     have:(i+1)*s.units.length≤(s.hours.length-s.now)*s.units.length:=Q7 _ (by omega)
     rw[RD]at this
     rw[cl,RP]at z
     exact Wn.2 (Sk (RI (So this z))) c1
   ·have c1:¬((min s.units.length (ls.length-i*s.units.length):Nat):Int)<((s.units.length:Nat):Int):=fun z=>c1 (decide_eq_true z)
    have c1:s.units.length≤ls.length-i*s.units.length:=Q9 fun q=>c1 (TH.2 (So (Rn ..) q))
    rw[if_neg (by rw[QY];exact Wn.2 c1)]at elk
    have lpp:((ls.drop (i*s.units.length)).take s.units.length).length=s.units.length:=by rw[QZ,QY];exact Q3 c1
    rw[qB hf hms.len.symm lpp.symm]at elk
    refine⟨_,rfl,_,rfl,_,rfl,_,rfl,a,mA,pt,s,A,k,ms,h,_,s.now+i,rfl,p4,eh,s4 _ _ hmA,hms,af,lpp,fun hn H5 s5=>?_,fun xs hs' l H5 s5 hl5 hl5'=>?_⟩
    ·rw[hn]at elk
     refine⟨_,rfl,rfl,_,rfl,?_⟩
     refine bF (fun c=>?_) (fun c=>absurd (by simp) c)
     refine⟨_,rfl,sz (by simp),fun r hr1=>?_⟩
     refine q r _ ((S4.trans s5).trans (aq hr1)) ((S4.trans s5).free hr1) ?_
     rw[af]
     unfold fe
     rw[elk]
     rfl
    ·rw[hs']at elk
     obtain⟨hxo,hgv⟩:=Dl o.wf hms hf lpp.symm hs'
     refine⟨_,rfl,rfl,_,rfl,?_⟩
     refine bF (fun c=>absurd (of_decide_eq_true c) (by intro z;cases z)) (fun c2=>?_)
     have S5:=S4.trans s5
     have p5:=p.same S5
     have hpt5:=s5 _ _ (af (H:=H3) (a:=pt) (o:=.lst (nV ((ls.drop (i*s.units.length)).take s.units.length))))
     refine⟨_,rfl,pt,_,rfl,aF.of (by rw[hpt5,N8];rfl),_,rfl,p5.dm ⟨_,rfl,A.pl,_,_,_,rfl,rfl,aF.of p5.loads,cR (v:=.int (h.load:Nat)) (by unfold yg;rw[QI,eh];rfl),_,_,rfl,rfl,_,rfl,?_⟩⟩
     rw[Kk,←hgv]
     simp only[Uh]at elk
     refine bF (fun c3=>?_) (fun c3=>?_)
     ·have c3:((given xs:Nat):Int)<((h.load:Nat):Int):=of_decide_eq_true c3
      rw[if_pos (by omega)]at elk
      refine⟨_,rfl,sz (by simp),fun r hr1=>?_⟩
      refine q r _ (S5.trans (aq hr1)) (S5.free hr1) ?_
      rw[af]
      unfold fe
      rw[elk]
      rfl
     ·have c3:¬((given xs:Nat):Int)<((h.load:Nat):Int):=fun z=>c3 (decide_eq_true z)
      rw[if_neg (by omega)]at elk
      refine⟨_,rfl,_,rfl,_,rfl,_,rfl,a,mA,l,s,A,k,ms,xs,rfl,p5,s5 _ _ (s4 _ _ hmA),hms,hl5',hxo,fun H6 s6=>?_⟩
      refine⟨_,_,rfl,rfl,?_⟩
      refine⟨_,rfl,?_⟩
      refine⟨_,rfl,_,rfl,_,_,rfl,rfl,some (.int ((s.now+i:Nat):Int)),some (.ref pt),some (.ref l),l,xs,c+lg s.units ms xs,?_,((s2.trans s4).trans s5).trans s6,s6 _ _ hl5',hxo,by rw[RD];omega,?_⟩
      ·rw[RD,Sf,Sf (i*s.units.length)]
       rfl
      ·rw[elk,T7,RD]
       rfl
  ·obtain⟨v6,v7,v8,mA,ms,c,rfl,s2,hmA,hms,hle,elk⟩:=pv
   rw[QH,Q6]at elk hle
   have S2:=s1.trans s2
   have e:s.now+(s.hours.length-s.now)=s.hours.length:=by omega
   rw[e,SU,Kf]at elk
   refine⟨_,rfl,_,rfl,b,_,rfl,.inl (aF.of (S2 _ _ hB)),_,_,rfl,rfl,_,rfl,?_⟩
   have lb:(nV ls).length=ls.length:=by unfold nV;rw[QH]
   rw[lb,QH,Q6]
   refine bF (fun c1=>?_) (fun c1=>?_)
   ·have c1:(((s.hours.length-s.now)*s.units.length:Nat):Int)<((ls.length:Nat):Int):=of_decide_eq_true c1
    have c1:(s.hours.length-s.now)*s.units.length<ls.length:=by omega
    rw[if_neg (by
     rw[UA]
     intro z
     have:=congrArg SJ z
     rw[QY]at this
     simp at this
     omega)]at elk
    refine⟨_,rfl,sz (by simp),fun r hr1=>?_⟩
    refine q r _ (S2.trans (aq hr1)) (S2.free hr1) ?_
    rw[af]
    unfold fe
    rw[elk]
    simp only
    rw[if_pos ⟨trivial,by rw[cl,RP];exact c1⟩]
    rfl
   ·have c1:¬(((s.hours.length-s.now)*s.units.length:Nat):Int)<((ls.length:Nat):Int):=fun z=>c1 (decide_eq_true z)
    rw[if_pos (by
     rw[UA]
     exact Ta (by omega))]at elk
    refine⟨_,rfl,sz (by simp),fun r hr1=>?_⟩
    refine q r _ (S2.trans (aq hr1)) (S2.free hr1) ?_
    rw[af]
    unfold fe
    rw[elk]
    rfl
theorem Dk{n j:Nat}(h:j<n):J9 n (j:Int)=some j:=by
 unfold J9
 rw[if_pos (by omega),if_pos (by omega),QW]
section
variable{K:Frg}{mg:Str→Option Value}{T:Tx K mg}{H H':Hp}{a:Addr}{s:State}{A A':qE}{k:Nat}
theorem cP.IC(p:cP T H a s A k)(F:Frame (aJ a A) (aJ a A') H H')(ex:A'.ex=A.ex):∀b,b∈A'.ex→b∉aJ a A'∧H' b≠none:=fun b hb=>by
 rw[ex]at hb
 obtain⟨q1,q2⟩:=p.vB b hb
 refine⟨fun m=>?_,fun z=>?_⟩
 ·rcases F.new b m with r|r
  ·exact q1 r
  ·exact q2 r
 ·cases e:H b with
  | none=>exact q2 e
  | some o=>rw[F.out b o e q1]at z;cases z
theorem cP.IP(p:cP T H a s A k)(F:Frame (aJ a A) (aJ a A') H H')(ex:A'.ex=A.ex):aN (jm H (cf a A)) (jm H' (cf a A')):=by
 have:=F.AR A.ex
 unfold cf
 rw[ex]
 exact this
theorem cP.Pe(p:cP T H a s A k):a≠A.pl∧A.pm≠A.pl∧A.pa≠A.pl∧A.pt≠A.pl∧∀r∈A.lH,r≠A.pl:=by
 have nd:=p.nd
 unfold aJ at nd
 simp only[Rh,QM,not_or]at nd
 obtain⟨⟨a1,a2,a3,a4,a5⟩,⟨b1,b2,b3,b4⟩,⟨c1,c2,c3⟩,⟨d1,d2⟩,e1,_⟩:=nd
 exact⟨a2,b1,Ne.symm c1,Ne.symm c2,fun r hr e=>c3 (by rw[←e];exact hr)⟩
theorem cP.Pg(p:cP T H a s A k){r:Addr}(hr:r∈A.lH):a≠r∧A.pm≠r∧A.pl≠r∧A.pa≠r∧A.pt≠r:=by
 have nd:=p.nd
 unfold aJ at nd
 simp only[Rh,QM,not_or]at nd
 obtain⟨⟨a1,a2,a3,a4,a5⟩,⟨b1,b2,b3,b4⟩,⟨c1,c2,c3⟩,⟨d1,d2⟩,e1,_⟩:=nd
 exact⟨fun e=>a5 (by rw[e];exact hr),fun e=>b4 (by rw[e];exact hr),fun e=>c3 (by rw[e];exact hr),fun e=>d2 (by rw[e];exact hr),fun e=>e1 (by rw[e];exact hr)⟩
theorem cP.Qw(p:cP T H a s A k):A.lH.Nodup:=by
 have nd:=p.nd
 unfold aJ at nd
 simp only[Rh]at nd
 exact nd.2.2.2.2.2
end
def om{mg:Str→Option Value}(T:Tx K mg):Sp:=fun vs H Q _=>E5 fun a s A (k:Nat) (t:Nat)=>A5 (vs=[.ref a,.int t]) (cP T H a s A k) (t<s.hours.length) (s.hours.length-t≤k) (∀H' A',aI T H' a s A'→A'.ex=A.ex→A'.lH=A.lH→Frame (aJ a A) (aJ a A') H H'→Q .non H')
theorem gN(T:Tx K mg):Ih P w mg base 1 T.dh (om T):=by
 refine T.dh.fn.ok nY (fun vs H Q E h=>?_) (fun cdv A outer s H vs Q E hr h=>?_)
 ·obtain⟨a,s,A,k,t,rfl,_⟩:=h
  rfl
 ·obtain⟨a,s,A,k,t,rfl,p,ht,hk,q⟩:=h
  refine⟨_,(ag (bK (pv 0) (cW eY (aj (pv 0) rfl) jP (bY (aO de (aH az rfl T.ba bh (aa (aj (pv 0) rfl) ae)) (pv 1)))) rfl)),?_⟩
  obtain⟨rts,t1,t2,t3⟩:=p.tabs
  obtain⟨dx,gv,o1,o2⟩:=p.obj
  have el:(yg s.hours).length=s.hours.length:=by unfold yg;rw[QH]
  refine⟨_,rfl,p.i8 ⟨_,rfl,p.dm ⟨A.pl,_,rfl,.inl (aF.of p.loads),_,rfl,_,_,rfl,rfl,_,rfl,A.pt,_,rfl,aF.of t1,fun x hx=>?_⟩⟩⟩
  have e1:((yg s.hours).length:Int)-(t:Int)=((s.hours.length-t:Nat):Int):=by rw[el,R9 (RI (by assumption))]
  rw[e1,Hu,←V7]
  have s1:=aq (o:=.lst ((rts.take (s.hours.length-t)).map V.ref)) hx
  refine⟨_,rfl,fR (gs:=qZ { A with pt:=x} s gv) (s1 _ _ o1) T.aw.cls T.fk rfl (by simp[qZ]) ?_⟩
  obtain⟨n1,n2,n3,n4,n5⟩:=p.Km
  have nx:=p.AV hx
  have nxa:x≠a:=fun e=>nx (by rw[e];simp[aJ])
  have F:Frame (aJ a A) (aJ a { A with pt:=x}) H (upd (upd H x (.lst ((rts.take (s.hours.length-t)).map V.ref))) a (.ins T.aw.C dx (qZ { A with pt:=x} s gv))):=by
   refine⟨fun b o e n=>?_,fun b m=>?_⟩
   ·rw[ah (fun z=>n (by rw[z];simp[aJ]))];exact s1 _ _ e
   ·unfold aJ at m ⊢
    simp only[QM]at m ⊢
    rcases m with m|m|m|m|m|m
    ·exact .inl (.inl m)
    ·exact .inl (.inr (.inl m))
    ·exact .inl (.inr (.inr (.inl m)))
    ·exact .inl (.inr (.inr (.inr (.inl m))))
    ·exact .inr (by rw[m];exact hx)
    ·exact .inl (.inr (.inr (.inr (.inr (.inr m)))))
  have f:=p.IP F rfl
  have up:∀b o,b≠a→H b=some o→(upd (upd H x (.lst ((rts.take (s.hours.length-t)).map V.ref))) a (.ins T.aw.C dx (qZ { A with pt:=x} s gv))) b=some o:=fun b o n e=>by rw[ah n];exact s1 _ _ e
  refine q _ { A with pt:=x} ⟨⟨dx,gv,af,?_⟩,p.units.same f,up _ _ n1 p.modes,up _ _ n2 p.loads,up _ _ n3 p.eS,p.jR,fun i r h x y=>up _ _ (n5 r (QL x)) (p.rows i r h x y),⟨rts.take (s.hours.length-t),by rw[ah nxa,af],by rw[QZ];omega,fun j r e _=>?_⟩,?_,p.IC F rfl,p.ok⟩ rfl rfl F
  ·rcases o2 with o2|⟨g,o2,o3⟩
   ·exact .inl o2
   ·exact .inr ⟨g,o2,o3.same f⟩
  ·rw[Wm]at e
   split at e
   ·rename_i c
    exact f _ _ (t3 j r e (by omega))
   ·cases e
  ·have nd:=p.nd
   unfold aJ at nd nx ⊢
   simp only[Rh,QM,not_or]at nd nx ⊢
   obtain⟨⟨a1,a2,a3,a4,a5⟩,⟨b1,b2,b3,b4⟩,⟨c1,c2,c3⟩,⟨d1,d2⟩,e1,e2⟩:=nd
   obtain⟨x1,x2,x3,x4,x5,x6⟩:=nx
   exact⟨⟨a1,a2,a3,Ne.symm x1,a5⟩,⟨b1,b2,Ne.symm x2,b4⟩,⟨c1,Ne.symm x3,c3⟩,⟨Ne.symm x4,d2⟩,x6,e2⟩
theorem iB{hs:List Hour}{t i:Nat}{f:Hour→Hour}:(hs.modify t f)[i]?=(hs[i]?).map fun h=>if t=i then f h else h:=by rw[S0];rfl
theorem Ib{us:List Unit_}{hs:List Hour}{t:Nat}{f:Hour→Hour}{j:Nat}(h:j<hs.length-t):cY us hs j=cY us (hs.modify t f) j :=
 uo (by rw[Rr]) j fun i hi=>by
  rw[iB]
  have:t≠i:=by omega
  cases hs[i]?<;>simp[this]
theorem FC{s:State}(o:Lo s){t:Nat}{f:Hour→Hour}(h1:∀x,(f x).free.length=x.free.length)(h2:∀x∈s.hours,(f x).load≤240):Lo (setHour s t f):=by
 refine⟨o.wf,o.u4,o.sc,o.ms,?_,?_,uJ o.fr t f h1,fun x hx=>?_⟩
 ·show s.now≤(s.hours.modify t f).length;rw[Rr];exact o.nw
 ·show(s.hours.modify t f).length≤48;rw[Rr];exact o.oJ
 ·obtain⟨i,hi,e⟩:=Tu hx
  change i<(s.hours.modify t f).length at hi
  rw[Rr]at hi
  have e2:(s.hours.modify t f)[i]?=some x:=by rw[QJ (by rw[Rr];exact hi)];exact congrArg some e
  rw[iB,QJ hi]at e2
  have e2:=Rb e2
  split at e2
  ·rw[←e2];exact h2 _ (Td _)
  ·rw[←e2];exact o.ld _ (Td _)
def vp{mg:Str→Option Value}(T:Tx K mg):Sp:=fun vs H Q _=>E5 fun a s A (t:Nat) (v:Nat)=>A5 (vs=[.ref a,.int t,.int v]) (aI T H a s A) (t<s.hours.length) (v≤240) (∀H' A',aI T H' a (setHour s t fun h=>{h with load:=v}) A'→A'.ex=A.ex→Frame (aJ a A) (aJ a A') H H'→Q .non H')
theorem uX(T:Tx K mg):Ih P w mg base 2 T.j0 (vp T):=by
 refine T.j0.fn.ok vj (fun vs H Q E h=>?_) (fun cdv A outer s H vs Q E hr h=>?_)
 ·obtain⟨a,s,A,t,v,rfl,_⟩:=h
  rfl
 ·obtain⟨a,s,A,t,v,rfl,p,ht,hv,q⟩:=h
  refine⟨_,(ab (DJ (pv 2) (DG (aj (pv 0) rfl) (pv 1) set_list))
   (ag (aX (mw (pv 0) T.aw.cls T.dh (gN T) hr (aa (pv 1) ae))))),?_⟩
  have el:(yg s.hours).length=s.hours.length:=by unfold yg;rw[QH]
  refine⟨_,rfl,_,rfl,p.dm ⟨_,rfl,A.pl,_,_,t,rfl,rfl,p.loads,Dk (by rw[el];exact ht),?_⟩⟩
  have F:Frame (aJ a A) (aJ a A) H (upd H A.pl (.lst ((yg s.hours).set t (.int v)))):=Frame.upd (by simp[aJ])
  have f:=p.IP F rfl
  obtain⟨n1,n2,n3,n4,n5⟩:=p.Pe
  obtain⟨rts,t1,t2,t3⟩:=p.tabs
  obtain⟨dx,gv,o1,o2⟩:=p.obj
  have oJ:=p.ok.oJ
  have p1:cP T (upd H A.pl (.lst ((yg s.hours).set t (.int v)))) a (setHour s t fun h=>{h with load:=v}) A (s.hours.length-t):=by
   refine⟨⟨dx,gv,by rw[ah n1];exact o1,?_⟩,p.units.same f,by rw[ah n2];exact p.modes,?_,by rw[ah n3];exact p.eS,by show A.lH.length=(s.hours.modify t _).length;rw[Rr];exact p.jR,fun i r h x y=>?_,⟨rts,by rw[ah n4];exact t1,by show _≤(s.hours.modify t _).length+1;rw[Rr];exact t2,fun j r e hj=>?_⟩,p.nd,p.IC F rfl,FC p.ok (fun _=>rfl) (fun _ _=>hv)⟩
   ·rcases o2 with o2|⟨g,o2,o3⟩
    ·exact .inl o2
    ·exact .inr ⟨g,o2,o3.same f⟩
   ·rw[af]
    congr 2
    apply SF
    intro i
    unfold yg
    rw[List.getElem?_set,QI,QI]
    show _=W7 _ ((s.hours.modify t _)[i]?)
    rw[iB,QH]
    by_cases c:t=i
    ·subst c
     rw[if_pos rfl,if_pos ht,QJ ht]
     simp
    ·rw[if_neg c]
     cases s.hours[i]?<;>simp[c]
   ·have y:(s.hours.modify t fun h=>{h with load:=v})[i]?=some h:=y
    rw[iB]at y
    obtain⟨h0,e0,e1⟩:=QQ.mp y
    rw[ah (n5 r (QL x)),p.rows i r h0 x e0,←e1]
    split<;>rfl
   ·rw[show cY (setHour s t fun h=>{h with load:=v}).units (setHour s t fun h=>{h with load:=v}).hours j=cY s.units s.hours j from(Ib hj).symm]
    exact f _ _ (t3 j r e (by omega))
  obtain⟨dx',fs,z1,z2⟩:=p1.nm (m:="forget_tables") (fun gv=>rfl)
  refine⟨_,rfl,a,dx',fs,rfl,z1,z2,_,rfl,a,_,A,_,t,rfl,p1,?_,?_,fun H2 A2 p2 ex _ F2=>q H2 A2 p2 ex (F.trans F2)⟩
  ·show t<(s.hours.modify t _).length;rw[Rr];exact ht
  ·show(s.hours.modify t _).length-t≤_;rw[Rr];omega
theorem Lv(fs:List Bool)(u:Nat)(b:Bool):(yV fs).set u (.bl b)=yV (fs.set u b):=by unfold yV;rw[List.map_set]
theorem cP.L9{T:Tx K mg}{H:Hp}{a:Addr}{s:State}{A:qE}(p:aI T H a s A){t u:Nat}{b:Bool}{r:Addr}{h:Hour}(er:A.lH[t]?=some r)(eh:s.hours[t]?=some h) :
  cP T (upd H r (.lst (yV (h.free.set u b)))) a (setHour s t fun h=>{h with free:=h.free.set u b}) A (s.hours.length-t):=by
 have rm:=QL er
 have F:Frame (aJ a A) (aJ a A) H (upd H r (.lst (yV (h.free.set u b)))):=Frame.upd (by simp[aJ,rm])
 have f:=p.IP F rfl
 obtain⟨n1,n2,n3,n4,n5⟩:=p.Pg rm
 obtain⟨rts,t1,t2,t3⟩:=p.tabs
 obtain⟨dx,gv,o1,o2⟩:=p.obj
 have ht:t<s.hours.length:=(QO.mp eh).1
 have oJ:=p.ok.oJ
 refine⟨⟨dx,gv,by rw[ah n1];exact o1,?_⟩,p.units.same f,by rw[ah n2];exact p.modes,?_,by rw[ah n4];exact p.eS,by show A.lH.length=(s.hours.modify t _).length;rw[Rr];exact p.jR,fun i r' h' x y=>?_,⟨rts,by rw[ah n5];exact t1,by show _≤(s.hours.modify t _).length+1;rw[Rr];exact t2,fun j r e hj=>?_⟩,p.nd,p.IC F rfl,FC p.ok (fun x=>by show(x.free.set u b).length=_;rw[Vy]) (fun x hx=>p.ok.ld x hx)⟩
 ·rcases o2 with o2|⟨g,o2,o3⟩
  ·exact .inl o2
  ·exact .inr ⟨g,o2,o3.same f⟩
 ·rw[ah n3,p.loads]
  congr 2
  apply SF
  intro i
  unfold yg
  rw[QI,QI]
  show _=W7 _ ((s.hours.modify t _)[i]?)
  rw[iB]
  cases s.hours[i]? with
  | none=>rfl
  | some x=>show some _=some _;congr 1;split<;>rfl
 ·have y:(s.hours.modify t fun h=>{h with free:=h.free.set u b})[i]?=some h':=y
  rw[iB]at y
  obtain⟨h0,e0,e1⟩:=QQ.mp y
  by_cases c:t=i
  ·subst c
   rw[eh]at e0
   cases e0
   rw[er]at x
   cases x
   rw[if_pos rfl]at e1
   rw[af,←e1]
  ·rw[if_neg c]at e1
   have nr:r'≠r:=fun z=>c (N9 p.Qw er (by rw[←z];exact x))
   rw[ah nr,p.rows i r' h0 x e0,←e1]
 ·rw[show cY (setHour s t fun h=>{h with free:=h.free.set u b}).units (setHour s t fun h=>{h with free:=h.free.set u b}).hours j=cY s.units s.hours j from(Ib hj).symm]
  exact f _ _ (t3 j r e (by omega))
def ou{mg:Str→Option Value}(T:Tx K mg):Sp:=fun vs H Q _=>E8 fun a c s A (u:Nat) (lo:Nat) (n:Nat) (b:Bool)=>A7 (vs=[.ref a,.int u,.ref c,.bl b]) (aI T H a s A) (u<s.units.length) (lo+n≤s.hours.length) (H c=some (.lst ((Q5 n).map fun i=>V.int ((lo+i:Nat):Int)))) (c∉aJ a A) (∀H' A',aI T H' a {s with hours:=B1 s.hours u b lo n} A'→A'.ex=A.ex→Frame (aJ a A) (aJ a A') H H'→Q .non H')
theorem gO(T:Tx K mg):Ih P w mg base 2 T.di (ou T):=by
 refine T.di.fn.ok gZ (fun vs H Q E h=>?_) (fun cdv A outer s H vs Q E hr h=>?_)
 ·obtain⟨a,c,s,A,u,lo,n,b,rfl,_⟩:=h
  rfl
 ·obtain⟨a,c,s,A,u,lo,n,b,rfl,p,hu,hn,hC,nc,q⟩:=h
  refine⟨_,(ag (bU PassesOwn.never rfl (bu (pv 2)) (aD (i:=4) gZ.nd rfl (Or.inl rfl)) (ab (DJ (pv 3) (DG (aT aG (aj (pv 0) rfl) (pv 4) (fun _ _=>rfl)) (pv 1) set_list))
   (ag (aX (mw (pv 0) T.aw.cls T.dh (gN T) hr (aa (pv 4) ae))))))),?_⟩
  refine⟨_,rfl,c,rfl,⟨_,aF.of hC⟩,?_⟩
  have cold:H c≠none:=by rw[hC];intro z;cases z
  refine bC (bw _ c ((Q5 n).map fun i=>V.int ((lo+i:Nat):Int))) (fun i σ H2=>E2 fun v A2=>A4 (σ=[some (.ref a),some (.int u),some (.ref c),some (.bl b),v]) (aI T H2 a {s with hours:=B1 s.hours u b lo i} A2) (A2.ex=A.ex) (Frame (aJ a A) (aJ a A2) H H2)) ⟨none,A,rfl,by rw[J2];exact p,rfl,Frame.of (aN.refl _)⟩ (fun i σ H2 _ hh=>by obtain⟨_,_,_,_,_,F2⟩:=hh;exact aF.of (F2.out _ _ hC nc)) (fun i x σ H2 H3 hi pv xy=>?_) (fun σ H2 pv=>?_)
  ·obtain⟨v,A2,rfl,p2,ex2,F2⟩:=pv
   obtain⟨rfl,e⟩:=xy
   rw[QH,Q6]at hi
   rw[QI,Rt hi]at e
   cases e
   have hl2:(B1 s.hours u b lo i).length=s.hours.length:=LD ..
   obtain⟨h,eh⟩:∃h,(B1 s.hours u b lo i)[lo+i]?=some h:=⟨_,QJ (by rw[hl2];omega)⟩
   have rl:=p2.jR
   obtain⟨r,er⟩:∃r,A2.lH[lo+i]?=some r:=⟨_,QJ (by rw[rl];show _<(B1 s.hours u b lo i).length;rw[hl2];omega)⟩
   have hrow:=p2.rows (lo+i) r h er eh
   have hfl:=p2.ok.fr h (QL eh)
   refine⟨_,rfl,_,rfl,p2.jF ⟨_,rfl,A2.pa,_,_,_,rfl,rfl,aF.of p2.eS,cR (v:=.ref r) (by rw[QI,er];rfl),_,rfl,r,_,_,u,rfl,rfl,hrow,Dk (by unfold yV;rw[QH,←hfl];exact hu),?_⟩⟩
   rw[Lv]
   have p3:=p2.L9 (u:=u) (b:=b) er eh
   have F3:Frame (aJ a A2) (aJ a A2) H3 (upd H3 r (.lst (yV (h.free.set u b)))):=Frame.upd (by have:=QL er;simp[aJ,this])
   obtain⟨dx',fs,z1,z2⟩:=p3.nm (m:="forget_tables") (fun gv=>rfl)
   refine⟨_,rfl,a,dx',fs,rfl,z1,z2,_,rfl,a,_,A2,_,lo+i,rfl,p3,?_,?_,fun H4 A4 p4 ex4 _ F4=>?_⟩
   ·show lo+i<((B1 s.hours u b lo i).modify _ _).length;rw[Rr,hl2];omega
   ·show((B1 s.hours u b lo i).modify _ _).length-(lo+i)≤_;rw[Rr];exact QP _
   ·refine⟨_,A4,rfl,?_,by rw[ex4,ex2],(F2.trans F3).trans F4⟩
    have e:setHour {s with hours:=B1 s.hours u b lo i} (lo+i) (fun h=>{h with free:=h.free.set u b})={s with hours:=B1 s.hours u b lo (i+1)}:=by unfold setHour;rw[J1]
    rw[←e]
    exact p4
  ·obtain⟨v,A2,rfl,p2,ex2,F2⟩:=pv
   rw[QH,Q6]at p2
   exact q _ A2 p2 ex2 F2
def vq{mg:Str→Option Value}(T:Tx K mg):Sp:=fun vs H Q _=>E4 fun a s A (c:Nat)=>A3 (vs=[.ref a,.int c]) (aI T H a s A) (∀H',aI T H' a {s with mark:=some (s.spent,c)} A→Frame (aJ a A) (aJ a A) H H'→Q .non H')
theorem uY(T:Tx K mg):Ih P w mg base 1 T.j3 (vq T):=by
 refine T.j3.fn.ok vk (fun vs H Q E h=>?_) (fun cdv A outer s H vs Q E hr h=>?_)
 ·obtain⟨a,s,A,c,rfl,_⟩:=h
  rfl
 ·obtain⟨a,s,A,c,rfl,p,q⟩:=h
  refine⟨_,(ag (bK (pv 0) (aO bz (aj (pv 0) rfl) (pv 1)) rfl)),?_⟩
  obtain⟨dx,gv,o1,o2⟩:=p.obj
  refine⟨_,rfl,p.C4 ⟨_,rfl,_,_,rfl,rfl,_,rfl,fR (gs:=qZ A {s with mark:=some (s.spent,c)} gv) o1 T.aw.cls T.fj (by show bA "marked" (V.int (((s.spent:Nat):Int)+((c:Nat):Int))) (qZ A s gv)=_;rw[←Sf];rfl) (by simp[qZ]) ?_⟩⟩
  have F:Frame (aJ a A) (aJ a A) H (upd H a (.ins T.aw.C dx (qZ A {s with mark:=some (s.spent,c)} gv))):=Frame.upd (by simp[aJ])
  have f:=p.IP F rfl
  obtain⟨n1,n2,n3,n4,n5⟩:=p.Km
  obtain⟨rts,t1,t2,t3⟩:=p.tabs
  refine q _ ⟨⟨dx,gv,af,?_⟩,p.units.same f,by rw[ah n1];exact p.modes,by rw[ah n2];exact p.loads,by rw[ah n3];exact p.eS,p.jR,fun i r h x y=>by rw[ah (n5 r (QL x))];exact p.rows i r h x y,⟨rts,by rw[ah n4];exact t1,t2,fun j r x y=>f _ _ (t3 j r x y)⟩,p.nd,p.IC F rfl,⟨p.ok.wf,p.ok.u4,p.ok.sc,p.ok.ms,p.ok.nw,p.ok.oJ,p.ok.fr,p.ok.ld⟩⟩ F
  rcases o2 with o2|⟨g,o2,o3⟩
  ·exact .inl o2
  ·exact .inr ⟨g,o2,o3.same f⟩
def ua{mg:Str→Option Value}(T:Tx K mg):Sp:=fun vs H Q _=>E6 fun(a:Addr)(x:Addr)(s:State)(A:qE)(xs:Modes)(c:Nat)=>A7 (vs=[.ref a,.ref x,.int c]) (aI T H a s (A.plus x)) (x∉A.ex) (H x=some (.lst (mV s.units xs))) (bG s.units xs) (s.now<s.hours.length) (∀H',aI T H' a {s with now:=s.now+1,modes:=xs,spent:=s.spent+c} { A with pm:=x}→(∀b o,H b=some o→b≠a→H' b=some o)→Q .non H')
theorem tq(T:Tx K mg):Ih P w mg base 1 T.jn (ua T):=by
 refine T.jn.fn.ok tV (fun vs H Q E h=>?_) (fun cdv A outer s H vs Q E hr h=>?_)
 ·obtain⟨a,x,s,A,xs,c,rfl,_⟩:=h
  rfl
 ·obtain⟨a,x,s,A,xs,c,rfl,p,nex,hX,hxo,hnw,q⟩:=h
  refine⟨_,(ab (bK (pv 0) (pv 1) rfl)
   (ab (qT (pv 0) (pv 2) Dg)
   (ag (qT (pv 0) ak Dg)))),?_⟩
  obtain⟨dx,gv,o1,o2⟩:=p.obj
  have o1:H a=some (.ins T.aw.C dx (qZ A s gv)):=o1
  refine⟨_,rfl,_,rfl,fR (gs:=qZ { A with pm:=x} s gv) o1 T.aw.cls T.fW rfl (by simp[qZ]) ?_⟩
  refine⟨_,rfl,a,_,dx,_,_,rfl,af,T.aw.cls,T.fX,rfl,_,rfl,_,_,rfl,rfl,dx,_,af,by simp[qZ],?_⟩
  rw[cg]
  refine⟨_,rfl,a,_,dx,_,_,rfl,af,T.aw.cls,T.jd,rfl,_,_,rfl,rfl,dx,_,af,by show(9:Nat)<1000;decide,?_⟩
  rw[cg]
  have eP:bA "now" (V.int (((s.now:Nat):Int)+1)) (bA "spent" (V.int (((s.spent:Nat):Int)+(c:Int))) (qZ { A with pm:=x} s gv))=qZ { A with pm:=x} {s with now:=s.now+1,modes:=xs,spent:=s.spent+c} gv:=by
   unfold qZ
   simp only[Sf]
   rfl
  have nx:=(p.vB x (Rc ..)).1
  have nx:x∉aJ a A:=nx
  obtain⟨n1,n2,n3,n4,n5⟩:=p.Km
  have n2:A.pl≠a:=n2
  have n3:A.pa≠a:=n3
  have n4:A.pt≠a:=n4
  have nxa:x≠a:=fun e=>nx (by rw[e];simp[aJ])
  have up:∀b o,b≠a→H b=some o→(upd H a (.ins T.aw.C dx (qZ { A with pm:=x} {s with now:=s.now+1,modes:=xs,spent:=s.spent+c} gv))) b=some o:=fun b o n e=>by rw[ah n];exact e
  have f:aN (jm H (cf a (A.plus x))) (jm (upd H a (.ins T.aw.C dx (qZ { A with pm:=x} {s with now:=s.now+1,modes:=xs,spent:=s.spent+c} gv))) (cf a { A with pm:=x})):=fun b o e=>by
   obtain⟨e1,e2⟩:=dq e
   have nb:b≠a:=fun z=>e2 (by rw[z];simp[cf,aJ])
   refine js (up b o nb e1) fun m=>e2 ?_
   unfold cf aJ qE.plus at *
   simp only[RB,QM]at m ⊢
   rcases m with(m|m|m|m|m|m)|m
   ·exact .inl (.inl m)
   ·exact .inr (.inl m)
   ·exact .inl (.inr (.inr (.inl m)))
   ·exact .inl (.inr (.inr (.inr (.inl m))))
   ·exact .inl (.inr (.inr (.inr (.inr (.inl m)))))
   ·exact .inl (.inr (.inr (.inr (.inr (.inr m)))))
   ·exact .inr (.inr m)
  obtain⟨rts,t1,t2,t3⟩:=p.tabs
  have goal:=q (upd H a (.ins T.aw.C dx (qZ { A with pm:=x} {s with now:=s.now+1,modes:=xs,spent:=s.spent+c} gv))) ⟨⟨dx,gv,af,?_⟩,p.units.same f,up _ _ nxa hX,up _ _ n2 p.loads,up _ _ n3 p.eS,p.jR,fun i r h x y=>up _ _ (n5 r (QL x)) (p.rows i r h x y),⟨rts,up _ _ n4 t1,t2,fun j r x y=>f _ _ (t3 j r x y)⟩,?_,fun b hb=>⟨fun m=>?_,fun z=>?_⟩,⟨p.ok.wf,p.ok.u4,p.ok.sc,hxo,hnw,p.ok.oJ,p.ok.fr,p.ok.ld⟩⟩ (fun b o e n=>up b o n e)
  ·rw[←eP]at goal
   exact goal
  ·rcases o2 with o2|⟨g,o2,o3⟩
   ·exact .inl o2
   ·exact .inr ⟨g,o2,o3.same f⟩
  ·have nd:=p.nd
   unfold aJ at nd nx ⊢
   unfold qE.plus at nd
   simp only[Rh,QM,not_or]at nd nx ⊢
   obtain⟨⟨a1,a2,a3,a4,a5⟩,⟨b1,b2,b3,b4⟩,cc,dd,ee,e2⟩:=nd
   obtain⟨x1,x2,x3,x4,x5,x6⟩:=nx
   exact⟨⟨Ne.symm x1,a2,a3,a4,a5⟩,⟨x3,x4,x5,x6⟩,cc,dd,ee,e2⟩
  ·have hb2:=(p.vB b (Q4 _ hb)).1
   unfold aJ at hb2 m
   unfold qE.plus at hb2
   simp only[QM,not_or]at hb2 m
   rcases m with m|m|m|m|m|m
   ·exact hb2.1 m
   ·exact nex (by rw[←m];exact hb)
   ·exact hb2.2.2.1 m
   ·exact hb2.2.2.2.1 m
   ·exact hb2.2.2.2.2.1 m
   ·exact hb2.2.2.2.2.2 m
  ·obtain⟨q1,q2⟩:=p.vB b (Q4 _ hb)
   have nb:b≠a:=fun e=>q1 (by rw[e];simp[aJ])
   rw[ah nb]at z
   exact q2 z
open Vbbcag (resting)
def Ly(fs:List (Str×V))(pl pa pt:Addr):List (Str×V):=bA "marked" .non (bA "tables" (.ref pt) (bA "available" (.ref pa) (bA "loads" (.ref pl) fs)))
theorem gS(f:Str)(v:V):∀fs:List (Str×V),(bA f v fs).length≤fs.length+1
 | []=>QP _
 | (g,x)::r=>by
  unfold bA
  split
  ·simp
  ·have:=gS f v r
   simp only[Q2]
   omega
theorem PH(n:Nat)(b:Bool):(QU n [V.bl b]).flatten=yV (QU n b):=by
 induction n with
 | zero=>rfl
 | succ n ih=>rw[RG,Ss,ih,RG];rfl
def xt{mg:Str→Option Value}(T:Tx K mg):Sp:=fun vs H Q _=>E7 fun(a:Addr)(b:Addr)(pu:Addr)(dx:Addr)(fs:List (Str×V))(ns:List Int)(uv:List V)=>A9 (vs=[.ref a,.ref b]) (H a=some (.ins T.aw.C dx fs)) (fs.length<900) (fs.lookup ("units":Str)=some (V.ref pu)) (H pu=some (.lst uv)) (uv.length≤4) (H b=some (.lst (zV ns))) (ns.length≤48) (∀(H':Hp)(pl pa pt:Addr)(lH:List Addr),H' a=some (.ins T.aw.C dx (Ly fs pl pa pt))→H' pl=some (.lst (zV ns))→H' pa=some (.lst (lH.map V.ref))→lH.length=ns.length→(∀r,r∈lH→H' r=some (.lst (yV (QU uv.length true))))→H' pt=some (.lst [])→(pl::pa::pt::lH).Nodup→(∀x,x∈pl::pa::pt::lH→H x=none)→(∀x o,H x=some o→x≠a→H' x=some o)→Q .non H')
theorem mj(T:Tx K mg):Ih P w mg base 1 T.iT (xt T):=by
 refine T.iT.fn.ok iK (fun vs H Q E h=>?_) (fun cdv A outer s H vs Q E hr h=>?_)
 ·obtain⟨a,b,pu,dx,fs,ns,uv,rfl,_⟩:=h
  rfl
 ·obtain⟨a,b,pu,dx,fs,ns,uv,rfl,hA,hfl,hlu,hpu,hul,hB,hnl,q⟩:=h
  refine⟨_,(ab (bK (pv 0) (Cd CI rfl T.qQ Lx (aa (pv 1) ae)) rfl)
   (ab (bK (pv 0) (fN rfl iK.nd (bu (pv 1)) (bj (own:=[("load",2)]) rfl) (fun _ _ _ _ _=>(aD (i:=2) iK.nd rfl (Or.inl rfl))) (fun _ _ _ _ _=>bJ) (fun _ _ _ _ _=>(aO wQ (aE (aa Kt ae)) (aH (BZ K rfl) rfl T.ba bh (aa (DF K rfl (pv 0) rfl) ae))))) rfl)
   (ab (bK (pv 0) (aE ae) rfl)
   (ag (bK (pv 0) bR rfl))))),?_⟩
  have npa:pu≠a:=rq hpu hA (by intro z;cases z)
  have nba:b≠a:=rq hB hA (by intro z;cases z)
  refine⟨_,rfl,b,_,rfl,.inl (aF.of hB),fun pl hpl=>⟨_,rfl,fR (gs:=bA "loads" (.ref pl) fs) ((aq hpl) _ _ hA) T.aw.cls T.iV rfl (by omega) ?_⟩⟩
  have npl:pl≠a:=fun z=>by rw[z,hA]at hpl;cases hpl
  have F1:∀x o,H x=some o→x≠a→(upd (upd H pl (.lst (zV ns))) a (.ins T.aw.C dx (bA "loads" (.ref pl) fs))) x=some o:=fun x o e n=>by rw[ah n];exact(aq hpl) _ _ e
  have l1:(bA "loads" (.ref pl) fs).lookup ("units":Str)=some (.ref pu):=by rw[pJ,if_neg (by decide+kernel)];exact hlu
  have hpl1:(upd (upd H pl (.lst (zV ns))) a (.ins T.aw.C dx (bA "loads" (.ref pl) fs))) pl=some (.lst (zV ns)):=by rw[ah npl,af]
  have hA1:(upd (upd H pl (.lst (zV ns))) a (.ins T.aw.C dx (bA "loads" (.ref pl) fs))) a=some (.ins T.aw.C dx (bA "loads" (.ref pl) fs)):=af
  have hfr1:∀x,(upd (upd H pl (.lst (zV ns))) a (.ins T.aw.C dx (bA "loads" (.ref pl) fs))) x=none→H x=none∧x≠pl∧x≠a:=fun x e=>by
   have n1:x≠a:=fun z=>by rw[z,af]at e;cases e
   rw[ah n1]at e
   have n2:x≠pl:=fun z=>by rw[z,af]at e;cases e
   rw[ah n2]at e
   exact⟨e,n2,n1⟩
  generalize hH1:upd (upd H pl (.lst (zV ns))) a (.ins T.aw.C dx (bA "loads" (.ref pl) fs))=H1 at *
  have hB1:=F1 b _ hB nba
  have hpu1:=F1 pu _ hpu npa
  refine⟨_,rfl,b,rfl,⟨_,aF.of hB1⟩,fun D hD=>?_⟩
  refine Gz (bw _ b (zV ns)) (fun i H2=>∃ys:List Addr,H2 D=some (.lst (ys.map V.ref))∧ys.length=i∧ys.Nodup∧(∀r,r∈ys→H1 r=none∧r≠D∧H2 r=some (.lst (yV (QU uv.length true))))∧∀x o,H1 x=some o→H2 x=some o) ⟨[],af,rfl,SW,fun r hr=>by simp at hr,aq hD⟩ (fun i H2 _ hh=>by obtain⟨_,_,_,_,_,f2⟩:=hh;exact aF.of (f2 _ _ hB1)) (fun i x H2 H3 hi pv xy=>?_) (fun H2 pv=>?_)
  ·obtain⟨ys,y1,y2,y3,y4,f2⟩:=pv
   obtain⟨rfl,e⟩:=xy
   rw[aB]at hi
   refine⟨rfl,?_⟩
   unfold Nl
   dsimp only
   rw[if_pos rfl]
   refine⟨sz (by simp),fun t ht=>?_⟩
   have s3:=aq (o:=.lst [V.bl true]) ht
   refine⟨_,rfl,fc (s3 _ _ (f2 _ _ hA1)) T.aw.cls T.fY l1 ⟨pu,_,rfl,.inl (aF.of (s3 _ _ (f2 _ _ hpu1))),t,(uv.length:Int),_,rfl,rfl,af,by omega,by omega,sz (by simp;omega),fun r hr1=>?_⟩⟩
   rw[QW,PH]
   have s4:=s3.trans (aq (o:=.lst (yV (QU uv.length true))) hr1)
   have hr2:H3 r=none:=s3.free hr1
   have nrD:r≠D:=fun z=>by rw[z,y1]at hr2;cases hr2
   refine⟨ys.map V.ref,s4 _ _ y1,HZ (by rw[QH];omega),ys++[r],?_,by simp[y2],?_,fun r' hr'=>?_,fun x o e=>?_⟩
   ·rw[af,Rl];rfl
   ·rw[List.nodup_append]
    refine⟨y3,by simp,fun x hx y hy e=>?_⟩
    have:y=r:=by simpa using hy
    rw[e,this]at hx
    rw[(y4 r hx).2.2]at hr2
    cases hr2
   ·rcases RB.mp hr' with h|h
    ·obtain⟨a1,a2,a3⟩:=y4 r' h
     exact⟨a1,a2,by rw[ah a2];exact s4 _ _ a3⟩
    ·have:r'=r:=by simpa using h
     subst this
     refine⟨?_,nrD,by rw[ah nrD,af]⟩
     cases e:H1 r' with
     | none=>rfl
     | some o=>rw[f2 _ _ e]at hr2;cases hr2
   ·rw[ah (ao e hD)]
    exact s4 _ _ (f2 _ _ e)
  ·obtain⟨ys,y1,y2,y3,y4,f2⟩:=pv
   rw[aB]at y2
   obtain⟨hD0,nDpl,nDa⟩:=hfr1 D hD
   have lf:=gS "loads" (.ref pl) fs
   refine⟨_,rfl,fR (gs:=bA "available" (.ref D) (bA "loads" (.ref pl) fs)) (f2 _ _ hA1) T.aw.cls T.eT rfl (by omega) ?_⟩
   have lf2:=gS "available" (.ref D) (bA "loads" (.ref pl) fs)
   refine⟨sz (by simp),fun pt hpt=>⟨_,rfl,fR (gs:=bA "tables" (.ref pt) (bA "available" (.ref D) (bA "loads" (.ref pl) fs))) ((aq hpt) _ _ af) T.aw.cls T.fk rfl (by omega) ?_⟩⟩
   have lf3:=gS "tables" (.ref pt) (bA "available" (.ref D) (bA "loads" (.ref pl) fs))
   refine⟨_,rfl,fR (gs:=Ly fs pl D pt) af T.aw.cls T.fj rfl (by omega) ?_⟩
   rw[cg]
   have npta:pt≠a:=fun z=>by rw[z,af]at hpt;cases hpt
   have hpt2:H2 pt=none:=by rw[ah npta]at hpt;exact hpt
   have hpt1:H1 pt=none:=by
    cases e:H1 pt with
    | none=>rfl
    | some o=>rw[f2 _ _ e]at hpt2;cases hpt2
   obtain⟨hpt0,nptpl,_⟩:=hfr1 pt hpt1
   have nptD:pt≠D:=fun z=>by rw[z,y1]at hpt2;cases hpt2
   have up:∀x o,x≠a→H2 x=some o→(upd (upd (upd H2 a (.ins T.aw.C dx (bA "available" (.ref D) (bA "loads" (.ref pl) fs)))) pt (.lst [])) a (.ins T.aw.C dx (Ly fs pl D pt))) x=some o:=fun x o n e=>by
    rw[ah n,ah (ao e hpt2),ah n];exact e
   refine q _ pl D pt ys af (up _ _ npl (f2 _ _ hpl1)) (up _ _ nDa y1) y2 (fun r hr=>?_) (by rw[ah npta,af]) ?_ (fun x hx=>?_) (fun x o e n=>up x o n (f2 _ _ (F1 x o e n)))
   ·obtain⟨a1,a2,a3⟩:=y4 r hr
    exact up _ _ (hfr1 r a1).2.2 a3
   ·simp only[Rh,QM,not_or]
    refine⟨⟨Ne.symm nDpl,Ne.symm nptpl,fun m=>(hfr1 pl (y4 pl m).1).2.1 rfl⟩,⟨Ne.symm nptD,fun m=>(y4 D m).2.1 rfl⟩,fun m=>?_,y3⟩
    rw[(y4 pt m).2.2]at hpt2
    cases hpt2
   ·simp only[QM]at hx
    rcases hx with rfl|rfl|rfl|hx
    ·exact hpl
    ·exact hD0
    ·exact hpt0
    ·exact(hfr1 x (y4 x hx).1).1
theorem DN:∀{us:List Unit_},lY us→bG us (resting us)
 | [],_=>trivial
 | u::r,h=>⟨⟨h.head.CM,QP _⟩,DN h.tail⟩
def GH(us:List Unit_):State:={units:=us,modes:=resting us}
def CA(fs:List (Str×V))(pu pm:Addr):List (Str×V):=bA "ground" .non (bA "spent" (.int 0) (bA "now" (.int 0) (bA "modes" (.ref pm) (bA "units" (.ref pu) fs))))
def Aj{mg:Str→Option Value}(T:Tx K mg):Sp:=fun vs H Q _=>E6 fun(a:Addr)(pu:Addr)(dx:Addr)(fs:List (Str×V))(us:List Unit_)(X:List Addr)=>A9 (vs=[.ref a,.ref pu]) (H a=some (.ins T.aw.C dx fs)) ((fs=[]∨∃A s gv,fs=qZ A s gv)) (cQ T.aK.C (jm H (a::X)) pu us) (lY us) (us.length≤4) (stateCount us≤600) ((∀b,b∈X→b≠a∧H b≠none)) (∀(H':Hp)(A':qE),aI T H' a (GH us) A'→A'.ex=X→(∀b o,H b=some o→b≠a→H' b=some o)→(∀b,b∈aJ a A'→b=a∨H b=none)→Q .non H')
theorem pQ(T:Tx K mg):Ih P w mg base 2 T.kI (Aj T):=by
 refine T.kI.fn.ok kv (fun vs H Q E h=>?_) (fun cdv A outer s H vs Q E hr h=>?_)
 ·obtain⟨a,pu,dx,fs,us,X,rfl,_⟩:=h
  rfl
 ·obtain⟨a,pu,dx,fs,us,X,rfl,hA,hfs,hU,hw,h4,h600,hX,q⟩:=h
  refine⟨_,(ab (bK (pv 0) (pv 1) rfl)
   (ab (bK (pv 0) (fN rfl kv.nd (bu (pv 1)) (bj (own:=[("unit",2)]) rfl) (fun _ _ _ _ _=>(aD (i:=2) kv.nd rfl (Or.inl rfl))) (fun _ _ _ _ _=>bJ) (fun _ _ _ _ _=>(aA T.kj (je T) hr (aa (pv 2) (aa (DF K rfl (pv 2) rfl) ae))))) rfl)
   (ab (bK (pv 0) ak rfl)
   (ab (bK (pv 0) ak rfl)
   (ab (bK (pv 0) bR rfl)
   (ag (aX (mw (pv 0) T.aw.cls T.iT (mj T) hr (aa (aE ae) ae))))))))),?_⟩
  have hfl:fs.length<10:=by
   rcases hfs with rfl|⟨A,s,gv,rfl⟩
   ·simp
   ·simp[qZ]
  have L1:=gS "units" (.ref pu) fs
  have lu:fs.lookup ("begin":Str)=none:=by
   rcases hfs with rfl|⟨A,s,gv,rfl⟩<;>rfl
  obtain⟨rs,h1,h2,h3⟩:=hU.get
  obtain⟨h1a,h1b⟩:=dq h1
  have npa:pu≠a:=fun z=>h1b (by rw[z];exact Rc ..)
  refine⟨_,rfl,_,rfl,fR (gs:=bA "units" (.ref pu) fs) hA T.aw.cls T.fY rfl (by omega) ?_⟩
  have F1:∀b o,H b=some o→b≠a→(upd H a (.ins T.aw.C dx (bA "units" (.ref pu) fs))) b=some o:=fun b o e n=>by rw[ah n];exact e
  have U1:∀H2:Hp,(∀b o,H b=some o→b≠a→H2 b=some o)→∀(i:Nat)(r:Addr),rs[i]?=some r→∃u,us[i]?=some u∧bq T.aK.C H2 r u:=fun H2 F i r er=>by
   obtain⟨u,eu,dy,na,g1,g2⟩:=h3 i r er
   obtain⟨g1a,g1b⟩:=dq g1
   obtain⟨g2a,g2b⟩:=dq g2
   exact⟨u,eu,dy,na,F _ _ g1a (fun z=>g1b (by rw[z];exact Rc ..)),F _ _ g2a (fun z=>g2b (by rw[z];exact Rc ..))⟩
  refine⟨_,rfl,pu,rfl,⟨_,aF.of (F1 _ _ h1a npa)⟩,fun D hD=>?_⟩
  refine bt (bw _ pu (rs.map V.ref)) (fun j y _=>(mV us (resting us))[j]?=some y) (cI _) (sz (by rw[QH];omega)) hD (fun H2 s2=>aF.of (s2 _ _ (F1 _ _ h1a npa))) (fun i x H2 H3 R hi s2 hne xy kk=>?_) (fun H2 B=>?_)
  ·obtain⟨rfl,e⟩:=xy
   rw[QI]at e
   obtain⟨r,er,rfl⟩:=QQ.mp e
   obtain⟨u,eu,hu⟩:=U1 H3 (fun b o e n=>s2 _ _ (F1 b o e n)) i r er
   have wu:=hw u (QL eu)
   refine⟨rfl,_,rfl,_,rfl,lX T hu ⟨r,u,u.down,rfl,hu,wu,wu.CM,kk _ _ (aN.refl _) ?_⟩⟩
   rw[SG]
   refine iA eu ?_
   unfold resting
   rw[QI,eu]
   rfl
  ·have eD:=B.eq (by rw[QH,h2,lE (DN hw)])
   have s2:=B.cK
   have hA2:=s2 _ _ (af (H:=H) (a:=a) (o:=.ins T.aw.C dx (bA "units" (.ref pu) fs)))
   have nDa:D≠a:=fun z=>by rw[z,af]at hD;cases hD
   have hD0:H D=none:=by rw[ah nDa]at hD;exact hD
   have L2:=gS "modes" (.ref D) (bA "units" (.ref pu) fs)
   refine⟨_,rfl,fR (gs:=bA "modes" (.ref D) (bA "units" (.ref pu) fs)) hA2 T.aw.cls T.fW rfl (by omega) ?_⟩
   have L3:=gS "now" (.int 0) (bA "modes" (.ref D) (bA "units" (.ref pu) fs))
   refine⟨_,rfl,fR (gs:=bA "now" (.int 0) (bA "modes" (.ref D) (bA "units" (.ref pu) fs))) af T.aw.cls T.jd rfl (by omega) ?_⟩
   rw[cg]
   have L4:=gS "spent" (.int 0) (bA "now" (.int 0) (bA "modes" (.ref D) (bA "units" (.ref pu) fs)))
   refine⟨_,rfl,fR (gs:=bA "spent" (.int 0) (bA "now" (.int 0) (bA "modes" (.ref D) (bA "units" (.ref pu) fs)))) af T.aw.cls T.fX rfl (by omega) ?_⟩
   rw[cg]
   refine⟨_,rfl,fR (gs:=CA fs pu D) af T.aw.cls T.cE rfl (by omega) ?_⟩
   rw[cg]
   have L5:(CA fs pu D).length<100:=by
    have:=gS "ground" .non (bA "spent" (.int 0) (bA "now" (.int 0) (bA "modes" (.ref D) (bA "units" (.ref pu) fs))))
    unfold CA
    omega
   have lsd:(CA fs pu D).lookup ("set_day":Str)=none:=by
    rcases hfs with rfl|⟨A,s,gv,rfl⟩<;>rfl
   have lun:(CA fs pu D).lookup ("units":Str)=some (V.ref pu):=by
    rcases hfs with rfl|⟨A,s,gv,rfl⟩<;>rfl
   have F5:∀b o,H b=some o→b≠a→(upd H2 a (.ins T.aw.C dx (CA fs pu D))) b=some o:=fun b o e n=>by rw[ah n];exact s2 _ _ (F1 b o e n)
   refine⟨_,rfl,a,dx,_,rfl,af,lsd,sz (by simp),fun e0 he0=>?_⟩
   have s6:=aq (o:=.lst []) he0
   refine⟨a,e0,pu,dx,CA fs pu D,[],rs.map V.ref,rfl,s6 _ _ af,by omega,lun,s6 _ _ (F5 _ _ h1a npa),by rw[QH];omega,af,by simp,fun H7 pl pa pt lH g1 g2 g3 g4 g5 g6 g7 g8 g9=>?_⟩
   have er:lH=[]:=RQ (by simpa using g4)
   subst er
   have F7:∀b o,H b=some o→b≠a→H7 b=some o:=fun b o e n=>g9 b o (s6 _ _ (F5 b o e n)) n
   have hD7:H7 D=some (.lst (mV us (resting us))):=g9 D _ (s6 _ _ (by rw[ah nDa];exact eD)) nDa
   have eF:Ly (CA fs pu D) pl pa pt=qZ ⟨pu,D,pl,pa,pt,[],X⟩ (GH us) .non:=by
    rcases hfs with rfl|⟨A,s,gv,rfl⟩<;>rfl
   rw[eF]at g1
   have olds:∀x,x∈pl::pa::pt::([]:List Addr)→H x=none∧x≠a∧x≠D:=fun x hx=>by
    have e:=g8 x hx
    have na:x≠a:=fun z=>by rw[z,s6 _ _ af]at e;cases e
    refine⟨?_,na,fun z=>?_⟩
    ·cases e2:H x with
     | none=>rfl
     | some o=>rw[s6 _ _ (F5 x o e2 na)]at e;cases e
    ·rw[z,s6 _ _ (show(upd H2 a (.ins T.aw.C dx (CA fs pu D))) D=_ from by rw[ah nDa];exact eD)]at e
     cases e
   obtain⟨pl1,pl2,pl3⟩:=olds pl (by simp)
   obtain⟨pa1,pa2,pa3⟩:=olds pa (by simp)
   obtain⟨pt1,pt2,pt3⟩:=olds pt (by simp)
   have Mn:∀b,b∈aJ a ⟨pu,D,pl,pa,pt,[],X⟩→b=a∨H b=none:=fun b hb=>by
    unfold aJ at hb
    simp only[QM,Q8,or_false]at hb
    rcases hb with rfl|rfl|rfl|rfl|rfl
    ·exact .inl rfl
    ·exact .inr hD0
    ·exact .inr pl1
    ·exact .inr pa1
    ·exact .inr pt1
   have fz:aN (jm H (a::X)) (jm H7 (cf a ⟨pu,D,pl,pa,pt,[],X⟩)):=fun b o e=>by
    obtain⟨e1,e2⟩:=dq e
    have na:b≠a:=fun z=>e2 (by rw[z];exact Rc ..)
    refine js (F7 b o e1 na) fun m=>?_
    rcases RB.mp m with m|m
    ·rcases Mn b m with z|z
     ·exact na z
     ·rw[z]at e1;cases e1
    ·exact e2 (Q4 _ m)
   refine q H7 ⟨pu,D,pl,pa,pt,[],X⟩ ⟨⟨dx,.non,g1,.inl rfl⟩,hU.same fz,hD7,g2,g3,rfl,fun i r h x y=>by simp at x,⟨[],g6,by simp,fun j r e _=>by simp at e⟩,?_,fun b hb=>⟨fun m=>?_,fun z=>?_⟩,⟨hw,h4,h600,DN hw,QP _,by simp[GH],fun h hh=>by simp[GH]at hh,fun h hh=>by simp[GH]at hh⟩⟩ rfl F7 Mn
   ·simp only[Rh,QM,not_or,Q8,or_false,not_false_eq_true,and_true,SW]at g7
    unfold aJ
    simp only[Rh,QM,not_or,Q8,or_false,not_false_eq_true,and_true,SW]
    exact⟨⟨Ne.symm nDa,Ne.symm pl2,Ne.symm pa2,Ne.symm pt2⟩,⟨Ne.symm pl3,Ne.symm pa3,Ne.symm pt3⟩,g7.1,g7.2⟩
   ·rcases Mn b m with z|z
    ·exact(hX b hb).1 z
    ·exact(hX b hb).2 z
   ·cases e:H b with
    | none=>exact(hX b hb).2 e
    | some o=>rw[F7 b o e (hX b hb).1]at z;cases z
def Bu{mg:Str→Option Value}(T:Tx K mg):Sp:=fun vs H Q _=>E3 fun(a:Addr)(dx:Addr)(X:List Addr)=>A4 (vs=[.ref a]) (H a=some (.ins T.aw.C dx [])) ((∀b,b∈X→b≠a∧H b≠none)) (∀(H':Hp)(A':qE),aI T H' a (GH []) A'→A'.ex=X→(∀b o,H b=some o→b≠a→H' b=some o)→(∀b,b∈aJ a A'→b=a∨H b=none)→Q .non H')
theorem AW(T:Tx K mg):Mo P w base 3 T.aw (Bu T):=by
 refine T.aw.fn.ok Bl (fun vs H Q E h=>?_) (fun cdv A outer s H vs Q E hr h=>?_)
 ·obtain⟨a,dx,X,rfl,_⟩:=h
  rfl
 ·obtain⟨a,dx,X,rfl,hA,hX,q⟩:=h
  refine⟨_,(ag (aX (mw (pv 0) T.aw.cls T.kI (pQ T) hr (aa (aE ae) ae)))),?_⟩
  refine⟨_,rfl,a,dx,_,rfl,hA,rfl,sz (by simp),fun pu hpu=>?_⟩
  have s1:=aq (o:=.lst []) hpu
  have npa:pu≠a:=fun z=>by rw[z,hA]at hpu;cases hpu
  refine⟨a,pu,dx,[],[],X,rfl,s1 _ _ hA,.inl rfl,⟨[],js af fun m=>?_,rfl,fun i r e=>by simp at e⟩,fun u hu=>by simp at hu,by simp,by simp[stateCount],fun b hb=>⟨(hX b hb).1,fun z=>(hX b hb).2 (s1.free z)⟩,fun H' A' p ex F Mn=>?_⟩
  ·rcases QM.mp m with m|m
   ·exact npa m
   ·exact(hX pu m).2 hpu
  ·exact q H' A' p ex (fun b o e n=>F b o (s1 _ _ e) n) (fun b hb=>(Mn b hb).imp id fun z=>s1.free z)
open Vbbcag (Text cutAt)
theorem yC(H0 H:Hp):aN (Nw H0 H) H:=fun b o e=>(dE e).1
def OD(ts:List Text):Nat→Addr→Hp→Prop:=fun i r H=>∃t,ts[i]?=some t∧H r=some (.lst (nV t))
theorem pM(ts:List Text):xJ (OD ts):=fun i r H H' s ⟨t,h1,h2⟩=>⟨t,h1,s _ _ h2⟩
def Ea(ts:List Text)(H:Hp)(a:Addr):Prop:=LR (OD ts) ts.length H a
theorem Ea.same{ts:List Text}{H H':Hp}{a:Addr}(h:Ea ts H a)(s:aN H H'):Ea ts H' a:=LR.same (pM ts) h s
theorem Ea.get{ts:List Text}{H:Hp}{a:Addr}(h:Ea ts H a):∃rs:List Addr,H a=some (.lst (rs.map V.ref))∧rs.length=ts.length∧∀(i:Nat)(r:Addr),rs[i]?=some r→∃t,ts[i]?=some t∧H r=some (.lst (nV t)):=h
theorem bx(t:Text):(nV t).length=t.length:=QH ..
theorem pO{t:Text}{i c:Nat}(h:t[i]?=some c):(nV t)[i]?=some (.int (c:Nat)):=by unfold nV;rw[QI,h];rfl
theorem JP(sep:Nat)(acc:Text){t:Text}{i c:Nat}(h:t[i]?=some c):cutAt sep acc (t.drop i)=if c=sep then acc::cutAt sep [] (t.drop (i+1))else cutAt sep (acc++[c]) (t.drop (i+1)):=by
 obtain⟨z1,z2⟩:=QO.mp h
 rw[Ru z1,z2]
 rfl
theorem yz(sep:Nat):∀(t acc:Text),(cutAt sep acc t).length≤t.length+1
 | [],acc=>by simp[cutAt]
 | c::r,acc=>by
  unfold cutAt
  split
  ·have:=yz sep r [];simp;omega
  ·have:=yz sep r (acc++[c]);simp;omega
def Fw:Sp:=fun vs H Q _=>E3 fun(a:Addr)(t:Text)(sep:Nat)=>A4 (vs=[.ref a,.int sep]) (H a=some (.lst (nV t))) (t.length≤1000) (∀l H',aN H H'→Ea (cutAt sep [] t) (Nw H H') l→Q (.ref l) H')
theorem xU(T:Tx K mg):dJ P w base 1 T.vd Fw:=by
 refine T.vd.fn.ok jj (fun vs H Q E h=>?_) (fun cdv A outer s H vs Q E hr h=>?_)
 ·obtain⟨a,t,sep,rfl,_⟩:=h
  rfl
 ·obtain⟨a,t,sep,rfl,hA,hl,q⟩:=h
  refine⟨_,(ab (ax (i:=2) jj.nd rfl (Or.inl rfl) (aE ae))
   (ab (ax (i:=3) jj.nd rfl (Or.inl rfl) (aE ae))
   (ab (bU PassesOwn.never rfl (bu (pv 0)) (aD (i:=4) jj.nd rfl (Or.inl rfl)) (ag (bf (aM rC (pv 4) (pv 1) (aQ _)) (ab (aX (dH PySem.F.plainAttrs_list PySem.F.slot_list_append PySem.F.type_list_append cA (pv 2) (aa (pv 3) ae)))
   (ag (ax (i:=3) jj.nd rfl (Or.inl rfl) (aE ae)))) (ag (aX (dH PySem.F.plainAttrs_list PySem.F.slot_list_append PySem.F.type_list_append cA (pv 3) (aa (pv 4) ae)))))))
   (ab (aX (dH PySem.F.plainAttrs_list PySem.F.slot_list_append PySem.F.type_list_append cA (pv 2) (aa (pv 3) ae)))
   (ag (au (pv 2))))))),?_⟩
  refine⟨sz (by simp),fun p hp=>?_⟩
  have s1:=aq (o:=.lst []) hp
  refine⟨sz (by simp),fun p0 hp0=>?_⟩
  have s2:=s1.trans (aq (o:=.lst []) hp0)
  have np0:p0≠p:=fun z=>by rw[z,af]at hp0;cases hp0
  refine⟨_,rfl,a,rfl,⟨_,aF.of (s2 _ _ hA)⟩,?_⟩
  have cl:=yz sep t []
  refine bC (bw _ a (nV t)) (fun i σ H2=>E5 fun v pa (Ps:List Text) (acc:Text) (ps:List Addr)=>Oz (σ=[some (.ref a),some (.int sep),some (.ref p),some (.ref pa),v]) (aN H H2) (H2 p=some (.lst (ps.map V.ref))) (ps.length=Ps.length) ((∀(j:Nat)(r:Addr),ps[j]?=some r→r≠p∧r≠pa∧H r=none∧∃x,Ps[j]?=some x∧H2 r=some (.lst (nV x)))) (pa≠p) (H pa=none) (H2 pa=some (.lst (nV acc))) (acc.length≤i) (cutAt sep [] t=Ps++cutAt sep acc (t.drop i)))
   ⟨none,p0,[],[],[],rfl,s2,by rw[ah (Ne.symm np0),af];rfl,rfl,fun j r e=>by simp at e,np0,s1.free hp0,af,by simp,rfl⟩ (fun i σ H2 _ hh=>by obtain⟨_,_,_,_,_,_,s2,_⟩:=hh;exact aF.of (s2 _ _ hA)) (fun i x σ H2 H3 hi pv xy=>?_) (fun σ H2 pv=>?_)
  ·obtain⟨v,pa,Ps,acc,ps,rfl,s3,g1,g2,g3,g4,g5,g6,g7,g8⟩:=pv
   obtain⟨rfl,e⟩:=xy
   rw[bx]at hi
   obtain⟨c,ec⟩:∃c,t[i]?=some c:=⟨_,QJ hi⟩
   rw[pO ec]at e
   cases e
   have pl:Ps.length≤1001:=by
    have:=congrArg SJ g8
    rw[QN]at this
    omega
   rw[JP sep acc ec]at g8
   refine⟨_,rfl,_,rfl,rfl,_,rfl,?_⟩
   refine bF (fun c1=>?_) (fun c1=>?_)
   ·have c1:c=sep:=dI c1
    rw[if_pos c1]at g8
    refine⟨_,rfl,.inl ⟨rfl,_,aF.of g1⟩,_,rfl,p,_,_,rfl,rfl,g1,HZ (by rw[QH];omega),?_⟩
    refine⟨sz (by simp),fun pn hpn=>?_⟩
    have npn:pn≠p:=fun z=>by rw[z,af]at hpn;cases hpn
    have hpn3:H3 pn=none:=by rw[ah npn]at hpn;exact hpn
    have up:∀b o,b≠p→H3 b=some o→(upd (upd H3 p (.lst (ps.map V.ref++[V.ref pa]))) pn (.lst [])) b=some o:=fun b o n e=>by rw[ah (ao e hpn3),ah n];exact e
    refine⟨_,pn,Ps++[acc],[],ps++[pa],rfl,fun b o e=>up b o (ao e hp) (s3 _ _ e),by rw[ah (Ne.symm npn),af,Rl];rfl,by simp[g2],fun j r er=>?_,npn,s3.free hpn3,by rw[af];rfl,by simp,by rw[g8];simp⟩
    by_cases cj:j<ps.length
    ·rw[Q0 cj]at er
     obtain⟨r1,r2,r3,x,x1,x2⟩:=g3 j r er
     exact⟨r1,ao x2 hpn3,r3,x,by rw[Q0 (by omega)];exact x1,up _ _ r1 x2⟩
    ·have ej:j=ps.length:=by
      have:=(QO.mp er).1
      simp at this;omega
     subst ej
     rw[QX (QP _),Se]at er
     cases er
     exact⟨g4,ao g6 hpn3,g5,acc,by rw[QX (by omega),g2,Se];rfl,up _ _ g4 g6⟩
   ·have c1:¬c=sep:=Lb c1
    rw[if_neg c1]at g8
    refine⟨_,rfl,.inl ⟨rfl,_,aF.of g6⟩,_,rfl,pa,_,_,rfl,rfl,g6,HZ (by rw[bx];omega),?_⟩
    refine⟨_,pa,Ps,acc++[c],ps,rfl,fun b o e=>by rw[ah (ao e g5)];exact s3 _ _ e,by rw[ah (Ne.symm g4)];exact g1,g2,fun j r er=>?_,g4,g5,by rw[af];unfold nV;rw[Rl];rfl,by simp;omega,g8⟩
    obtain⟨r1,r2,r3,x,x1,x2⟩:=g3 j r er
    exact⟨r1,r2,r3,x,x1,by rw[ah r2];exact x2⟩
  ·obtain⟨v,pa,Ps,acc,ps,rfl,s3,g1,g2,g3,g4,g5,g6,g7,g8⟩:=pv
   rw[bx,SU]at g8
   have g8:cutAt sep [] t=Ps++[acc]:=g8
   have pl:Ps.length≤1001:=by
    have:=congrArg SJ g8
    rw[QN]at this
    omega
   refine⟨_,rfl,.inl ⟨rfl,_,aF.of g1⟩,_,rfl,p,_,_,rfl,rfl,g1,HZ (by rw[QH];omega),?_⟩
   refine⟨_,rfl,q p _ (fun b o e=>by rw[ah (ao e hp)];exact s3 _ _ e) ?_⟩
   rw[g8]
   refine⟨ps++[pa],ia (by rw[af,Rl];rfl) hp,by simp[g2],fun j r er=>?_⟩
   by_cases cj:j<ps.length
   ·rw[Q0 cj]at er
    obtain⟨r1,r2,r3,x,x1,x2⟩:=g3 j r er
    exact⟨x,by rw[Q0 (by omega)];exact x1,ia (by rw[ah r1];exact x2) r3⟩
   ·have ej:j=ps.length:=by
     have:=(QO.mp er).1
     simp at this;omega
    subst ej
    rw[QX (QP _),Se]at er
    cases er
    exact⟨acc,by rw[QX (by omega),g2,Se];rfl,ia (by rw[ah g4];exact g6) g5⟩
open Vbbcag (number digit worth text)
theorem EC{α:Type}(f:α→Bool){l:List α}{i:Nat}{x:α}(h:l[i]?=some x):(l.take (i+1)).filter f=(l.take i).filter f++(if f x=true then [x]else []):=by
 rw[br h,Wl]
 congr 1
 rw[T9]
 split<;>rfl
theorem uD(sep:Nat):∀(t acc:Text),∀x∈cutAt sep acc t,x.length≤acc.length+t.length
 | [],acc,x,hx=>by
  have:x=acc:=by simpa[cutAt]using hx
  subst this;simp
 | c::r,acc,x,hx=>by
  unfold cutAt at hx
  split at hx
  ·rcases QM.mp hx with rfl|hx
   ·simp
   ·have:=uD sep r [] x hx
    simp at this ⊢;omega
  ·have:=uD sep r (acc++[c]) x hx
   simp at this ⊢;omega
def D1:Sp:=fun vs H Q _=>E2 fun(a:Addr)(t:Text)=>A4 (vs=[.ref a]) (H a=some (.lst (nV t))) (t.length≤1000) (∀l H',aN H H'→Ea (toks t) (Nw H H') l→Q (.ref l) H')
theorem DC(T:Tx K mg):dJ P w base 2 T.xD D1:=by
 refine T.xD.fn.ok og (fun vs H Q E h=>?_) (fun cdv A outer s H vs Q E hr h=>?_)
 ·obtain⟨a,t,rfl,_⟩:=h
  rfl
 ·obtain⟨a,t,rfl,hA,hl,q⟩:=h
  refine⟨_,(ag (au (fN rfl og.nd (bu (aA T.vd (xU T) hr (aa (pv 0) (aa (aL (v:=.int (32)) rfl T.uK ⟨_,rfl⟩) ae)))) (bj (own:=[("part",1)]) rfl) (fun _ _ _ _ _=>(aD (i:=1) og.nd rfl (Or.inl rfl))) (fun _ _ _ _ _=>(LX (aM oM (aH (BZ K rfl) rfl T.ba bh (aa (pv 1) ae)) ak (aQ _)))) (fun _ _ _ _ _=>(pv 1))))),?_⟩
  refine⟨_,rfl,a,t,32,rfl,hA,hl,fun l H1 s1 hL=>?_⟩
  obtain⟨rs,h1,h2,h3⟩:=hL.get
  have h1':=(dE h1).1
  have cl:=yz 32 t []
  refine⟨l,rfl,⟨_,aF.of h1'⟩,fun D hD=>?_⟩
  refine Gz (bw _ l (rs.map V.ref)) (fun i H2=>aN H1 (AI H2 D)∧∃ys:List Addr,H2 D=some (.lst (ys.map V.ref))∧ys.length=(((cutAt 32 [] t).take i).filter fun x=>!x.isEmpty).length∧ys.length≤i∧∀(j:Nat)(r:Addr),ys[j]?=some r→∃x,(((cutAt 32 [] t).take i).filter fun x=>!x.isEmpty)[j]?=some x∧Nw H H1 r=some (.lst (nV x))) ⟨by rw[uM];exact Fh (aN.refl _) hD,[],af,rfl,by simp,fun j r e=>by simp at e⟩ (fun i H2 _ hh=>aF.of (pG _ _ _ _ (hh.1 _ _ h1'))) (fun i x H2 H3 hi pv xy=>?_) (fun H2 pv=>?_)
  ·obtain⟨s2,ys,y1,y2,y3,y4⟩:=pv
   obtain⟨rfl,e⟩:=xy
   rw[QH,h2]at hi
   rw[QI]at e
   obtain⟨r,er,rfl⟩:=QQ.mp e
   obtain⟨x,ex,hx⟩:=h3 i r er
   have hx':=pG _ _ _ _ (s2 _ _ (dE hx).1)
   refine⟨rfl,?_⟩
   refine⟨_,rfl,r,_,rfl,.inl (aF.of hx'),_,_,rfl,rfl,_,rfl,?_⟩
   rw[bx,EC _ ex]
   refine bF (fun c=>?_) (fun c=>?_)
   ·have c:(0:Int)<(x.length:Int):=of_decide_eq_true c
    have ne:(!x.isEmpty)=true:=by
     cases x with
     | nil=>simp at c
     | cons a b=>rfl
    rw[if_pos ne]
    refine⟨_,rfl,ys.map V.ref,y1,HZ (by rw[QH];omega),by rw[uM];exact s2,ys++[r],by rw[af,Rl];rfl,by simp[y2],by simp;omega,fun j r' er'=>?_⟩
    by_cases cj:j<ys.length
    ·rw[Q0 cj]at er'
     obtain⟨z,z1,z2⟩:=y4 j r' er'
     exact⟨z,by rw[Q0 (by omega)];exact z1,z2⟩
    ·have ej:j=ys.length:=by
      have:=(QO.mp er').1
      simp at this;omega
     subst ej
     rw[QX (QP _),Se]at er'
     cases er'
     exact⟨x,by rw[QX (by omega),y2,Se];rfl,hx⟩
   ·have c:¬(0:Int)<(x.length:Int):=fun z=>c (decide_eq_true z)
    have ne:¬(!x.isEmpty)=true:=by
     cases x with
     | nil=>simp
     | cons a b=>simp at c
    rw[if_neg ne,S7]
    exact⟨s2,ys,y1,y2,by omega,y4⟩
  ·obtain⟨s2,ys,y1,y2,y3,y4⟩:=pv
   have s3:aN H1 H2:=s2.trans (pG _ _)
   rw[QH,h2,RF]at y2 y4
   refine q D H2 (s1.trans s3) ⟨ys,ia y1 (s1.free hD),y2,fun j r er=>?_⟩
   obtain⟨x,x1,x2⟩:=y4 j r er
   exact⟨x,x1,jO s3 _ _ x2⟩
def md(x:Str):List Nat:=x.cps.toList
def Fn:Sp:=fun vs H Q _=>∃(x:Str),A3 (vs=[.str x]) (x.cps.size≤1000) (∀l H',aN H H'→Nw H H' l=some (.lst (nV (md x)))→Q (.ref l) H')
theorem pR(T:Tx K mg):dJ P w base 1 T.pf Fn:=by
 refine T.pf.fn.ok qo (fun vs H Q E h=>?_) (fun cdv A outer s H vs Q E hr h=>?_)
 ·obtain⟨x,rfl,_⟩:=h
  rfl
 ·obtain⟨x,rfl,hl,q⟩:=h
  refine⟨_,(ag (au (fN rfl qo.nd (M8 (pv 0)) (bj (own:=[("sign",1)]) rfl) (fun _ _ _ _ _=>(aD (i:=1) qo.nd rfl (Or.inl rfl))) (fun _ _ _ _ _=>bJ) (fun _ _ _ _ _=>(aH JL rfl T.GK MI (aa (pv 1) ae)))))),?_⟩
  refine⟨_,rfl,x,rfl,fun D hD=>?_⟩
  have Y:Yl (OS x) x.cps.size (fun _=>True) (fun i v H H'=>H'=H∧∃c,x.cps[i]?=some c∧v=.str ⟨#[c]⟩):=⟨fun i H _ hi=>hi,fun H _=>QP _,fun i H v H' _ _ y=>y⟩
  refine bt Y (fun j y _=>(nV (md x))[j]?=some y) (cI _) (sz (by omega)) hD (fun _ _=>trivial) (fun i v H2 H3 R hi s2 hne xy kk=>?_) (fun H2 B=>?_)
  ·obtain⟨rfl,c,ec,rfl⟩:=xy
   refine⟨rfl,_,rfl,_,rfl,rfl,kk _ _ (aN.refl _) ?_⟩
   have:(md x)[i]?=some c:=by unfold md;rw[VM];exact ec
   rw[pO this]
   rfl
  ·have eD:=B.eq (by rw[bx];unfold md;simp)
   exact q D _ B.cK (ia eD hD)
def G5:Sp:=fun vs H Q _=>E2 fun(a:Addr)(t:Text)=>A4 (vs=[.ref a]) (H a=some (.lst (nV t))) (t.length≤1000) (∀H',aN H H'→Q (.bl (kN t)) H')
theorem GP(T:Tx K mg):dJ P w base 1 T.Dj G5:=by
 refine T.Dj.fn.ok tX (fun vs H Q E h=>?_) (fun cdv A outer s H vs Q E hr h=>?_)
 ·obtain⟨a,t,rfl,_⟩:=h
  rfl
 ·obtain⟨a,t,rfl,hA,hl,q⟩:=h
  refine⟨_,(ag (au (M6 (yF jf (aH az rfl T.ba bh (aa (pv 0) ae)) (aL (v:=.int (8)) rfl T.kb ⟨_,rfl⟩) (aQ _)) (Kw (aH (CL rfl) rfl T.wK CD (aa (fN rfl tX.nd (bu (pv 0)) (bj (own:=[("byte",1)]) rfl) (fun _ _ _ _ _=>(aD (i:=1) tX.nd rfl (Or.inl rfl))) (fun _ _ _ _ _=>bJ) (fun _ _ _ _ _=>(mr jf jf ak (pv 1) ak))) ae)))))),?_⟩
  refine⟨_,rfl,a,_,rfl,.inl (aF.of hA),_,_,rfl,rfl,_,rfl,?_⟩
  rw[bx]
  unfold kN at q
  refine bF (fun c=>?_) (fun c=>?_)
  ·have c:((t.length:Nat):Int)≤8:=of_decide_eq_true c
   rw[decide_eq_true (show t.length≤8 by omega),UC]at q
   refine⟨_,rfl,a,rfl,⟨_,aF.of hA⟩,fun D hD=>?_⟩
   refine bt (bw _ a (nV t)) (fun j y _=>((t.map fun c=>decide (97≤c∧c≤122)).map V.bl)[j]?=some y) (cI _) (sz (by rw[bx];omega)) hD (fun H2 s2=>aF.of (s2 _ _ hA)) (fun i v H2 H3 R hi s2 hne xy kk=>?_) (fun H2 B=>?_)
   ·obtain⟨rfl,e⟩:=xy
    rw[bx]at hi
    obtain⟨x,ex⟩:∃c,t[i]?=some c:=⟨_,QJ hi⟩
    rw[pO ex]at e
    cases e
    have el:((t.map fun c=>decide (97≤c∧c≤122)).map V.bl)[i]?=some (.bl (decide ((97:Int)≤(x:Int))&&decide ((x:Int)≤122))):=by
     rw[QI,QI,ex]
     show some (V.bl _)=some (V.bl _)
     congr 2
     rw[RU]
     simp
     omega
    refine⟨rfl,_,rfl,_,_,rfl,rfl,_,rfl,?_⟩
    refine bF (fun c=>?_) (fun c=>?_)
    ·refine⟨_,_,rfl,rfl,kk _ _ (aN.refl _) ?_⟩
     rw[c,UC]at el
     exact el
    ·refine kk _ _ (aN.refl _) ?_
     have c:decide ((97:Int)≤(x:Int))=false:=(Vo _).mp c
     rw[c,T4]at el
     exact el
   ·have eD:=B.eq (by rw[bx,QH,QH])
    refine⟨D,_,rfl,aF.of eD,?_⟩
    rw[Vu]
    exact q _ B.cK
  ·have c:¬((t.length:Nat):Int)≤8:=fun z=>c (decide_eq_true z)
   rw[decide_eq_false (show ¬t.length≤8 by omega),T4]at q
   exact q _ (aN.refl _)
def Qt:Option Nat→V
 | none=>.non
 | some n=>.int (n:Nat)
theorem Hn(t:Text)(c:Nat):worth (t++[c])=10*worth t+(c-48):=by unfold worth;rw[S3];rfl
def DY:Sp:=fun vs H Q _=>E2 fun(a:Addr)(t:Text)=>A5 (vs=[.ref a]) (H a=some (.lst (nV t))) (t≠[]) (t.length≤1000) (∀H',aN H H'→Q (Qt (number t)) H')
theorem Dz(T:Tx K mg):dJ P w base 1 T.wL DY:=by
 refine T.wL.fn.ok fK (fun vs H Q E h=>?_) (fun cdv A outer s H vs Q E hr h=>?_)
 ·obtain⟨a,t,rfl,_⟩:=h
  rfl
 ·obtain⟨a,t,rfl,hA,hne0,hl,q⟩:=h
  refine⟨_,(ab (bf (PW.pt (jg (aM oM (aH az rfl T.ba bh (aa (pv 0) ae)) (aL (v:=.int (4)) rfl T.lC ⟨_,rfl⟩) (aQ _)) (jw (cF (bS (aH (CL rfl) rfl T.wK CD (aa (fN rfl fK.nd (bu (pv 0)) (bj (own:=[("byte",2)]) rfl) (fun _ _ _ _ _=>(aD (i:=2) fK.nd rfl (Or.inl rfl))) (fun _ _ _ _ _=>bJ) (fun _ _ _ _ _=>(mr jf jf ak (pv 2) ak))) ae))))))) (ag (au bR)) aP)
   (ab (bf (PW.pt (DK (aM oM (aH az rfl T.ba bh (aa (pv 0) ae)) ak (aQ _)) (yG (aM rC (aT aG (pv 0) ak (fun _ _=>rfl)) ak (aQ _))))) (ag (au bR)) aP)
   (ab (ax (i:=1) fK.nd rfl (Or.inl rfl) ak)
   (ab (bU PassesOwn.never rfl (bu (pv 0)) (aD (i:=2) fK.nd rfl (Or.inl rfl)) (ag (ax (i:=1) fK.nd rfl (Or.inl rfl) (aO de (aO bz (aO jv (pv 1) ak) (pv 2)) ak))))
   (ag (au (pv 1))))))),?_⟩
  have lpos:0<t.length:=by cases t with
   | nil=>exact absurd rfl hne0
   | cons a b=>simp
  refine iN (fun σ' H1=>σ'=[some (.ref a),none,none]∧aN H H1∧t.length≤4∧t.all digit=true) (fun σ' H1 hM=>?_) (fun N hN=>?_)
  ·obtain⟨rfl,s1,h4,hd⟩:=hM
   have hA1:=s1 _ _ hA
   refine iN (fun σ' H2=>σ'=[some (.ref a),none,none]∧H2=H1∧number t=some (worth t)) (fun σ' H2 hM=>?_) (fun N hN=>?_)
   ·obtain⟨rfl,rfl,hnum⟩:=hM
    refine⟨_,rfl,a,rfl,⟨_,aF.of hA1⟩,?_⟩
    refine bC (bw _ a (nV t)) (fun i σ H3=>EA (fun v=>σ=[some (.ref a),some (.int (worth (t.take i):Nat)),v]) (fun v=>H3=H2)) ⟨none,rfl,rfl⟩ (fun i σ H3 _ hh=>by obtain⟨_,_,rfl⟩:=hh;exact aF.of hA1) (fun i x σ H3 H4 hi pv xy=>?_) (fun σ H3 pv=>?_)
    ·obtain⟨v,rfl,rfl⟩:=pv
     obtain⟨rfl,e⟩:=xy
     rw[bx]at hi
     obtain⟨c,ec⟩:∃c,t[i]?=some c:=⟨_,QJ hi⟩
     rw[pO ec]at e
     cases e
     have dc:=R3.mp hd c (QL ec)
     unfold digit at dc
     have dc:=of_decide_eq_true dc
     refine⟨_,rfl,_,_,rfl,rfl,.inr ⟨by decide,by decide⟩,_,rfl,_,_,rfl,rfl,_,_,rfl,rfl,some (.int (c:Nat)),?_,rfl⟩
     rw[br ec,Hn]
     have e:((worth (t.take i):Nat):Int)*10+(c:Int)-48=((10*worth (t.take i)+(c-48):Nat):Int):=by omega
     rw[←e]
     rfl
    ·obtain⟨v,rfl,rfl⟩:=pv
     rw[bx,RF]
     have:=q _ s1
     rw[hnum]at this
     exact⟨_,rfl,this⟩
   ·refine⟨_,rfl,a,_,rfl,.inl (aF.of hA1),_,_,rfl,rfl,_,rfl,?_⟩
    rw[bx]
    have num:∀b:Bool,(decide (1<t.length∧t.head?=some 48)=b)→number t=if b=true then none else some (worth t):=fun b hb=>by
     unfold number
     by_cases z:1<t.length∧t.head?=some 48
     ·rw[decide_eq_true z]at hb
      rw[←hb,if_pos (.inr (.inr (.inr z))),if_pos rfl]
     ·rw[decide_eq_false z]at hb
      rw[←hb,if_neg,if_neg (by simp)]
      rintro (y|y|y|y)
      ·exact hne0 y
      ·omega
      ·rw[hd]at y;cases y
      ·exact z y
    refine bF (fun c=>?_) (fun c=>?_)
    ·have c:(1:Int)<((t.length:Nat):Int):=of_decide_eq_true c
     obtain⟨c0,ec⟩:∃c,t[0]?=some c:=⟨_,QJ lpos⟩
     have eh:t.head?=some c0:=by rw[List.head?_eq_getElem?];exact ec
     refine⟨_,rfl,a,_,_,_,rfl,rfl,aF.of hA1,at_of (j:=0) rfl (pO ec),rfl,_,rfl,?_⟩
     refine bF (fun c2=>?_) (fun c2=>?_)
     ·have c2:c0=48:=dI (j:=48) c2
      have:=num true (decide_eq_true ⟨by omega,by rw[eh,c2]⟩)
      have q1:=q _ s1
      rw[this]at q1
      exact q1
     ·have c2:¬c0=48:=Lb (j:=48) c2
      have:=num false (decide_eq_false fun z=>c2 (by rw[eh]at z;exact Rb z.2))
      exact hN _ _ ⟨rfl,rfl,this⟩
    ·have c:¬(1:Int)<((t.length:Nat):Int):=fun z=>c (decide_eq_true z)
     refine dg ?_
     exact hN _ _ ⟨rfl,rfl,num false (decide_eq_false fun z=>c (by omega))⟩
  ·refine⟨_,rfl,a,_,rfl,.inl (aF.of hA),_,_,rfl,rfl,_,rfl,?_⟩
   rw[bx]
   refine bF (fun c=>?_) (fun c=>?_)
   ·have c:(4:Int)<((t.length:Nat):Int):=of_decide_eq_true c
    have:number t=none:=by unfold number;rw[if_pos (.inr (.inl (by omega)))]
    refine bP ?_
    have q1:=q _ (aN.refl _)
    rw[this]at q1
    exact q1
   ·have c:¬(4:Int)<((t.length:Nat):Int):=fun z=>c (decide_eq_true z)
    refine⟨_,rfl,a,rfl,⟨_,aF.of hA⟩,fun D hD=>?_⟩
    refine bt (bw _ a (nV t)) (fun j y _=>((t.map digit).map V.bl)[j]?=some y) (cI _) (sz (by rw[bx];omega)) hD (fun H2 s2=>aF.of (s2 _ _ hA)) (fun i v H2 H3 R hi s2 hne xy kk=>?_) (fun H2 B=>?_)
    ·obtain⟨rfl,e⟩:=xy
     rw[bx]at hi
     obtain⟨x,ex⟩:∃c,t[i]?=some c:=⟨_,QJ hi⟩
     rw[pO ex]at e
     cases e
     have el:((t.map digit).map V.bl)[i]?=some (.bl (decide ((48:Int)≤(x:Int))&&decide ((x:Int)≤57))):=by
      rw[QI,QI,ex]
      show some (V.bl (decide (48≤x∧x≤57)))=some (V.bl _)
      congr 2
      rw[RU]
      simp
      omega
     refine⟨rfl,_,rfl,_,_,rfl,rfl,_,rfl,?_⟩
     refine bF (fun c=>?_) (fun c=>?_)
     ·refine⟨_,_,rfl,rfl,kk _ _ (aN.refl _) ?_⟩
      rw[c,UC]at el
      exact el
     ·refine kk _ _ (aN.refl _) ?_
      have c:decide ((48:Int)≤(x:Int))=false:=(Vo _).mp c
      rw[c,T4]at el
      exact el
    ·have eD:=B.eq (by rw[bx,QH,QH])
     refine⟨D,_,rfl,aF.of eD,_,rfl,?_⟩
     rw[Vu]
     have ea:t.all (id ∘ digit)=t.all digit:=rfl
     rw[ea]
     cases hd:t.all digit with
     | true =>
      refine dg ?_
      exact hN _ _ ⟨rfl,B.cK,by omega,hd⟩
     | false =>
      refine bP ?_
      have:number t=none:=by unfold number;rw[if_pos (.inr (.inr (.inl hd)))]
      have q1:=q _ B.cK
      rw[this]at q1
      exact q1
theorem Ig(k1 k2:Bool)(K:Frg)(a b:Addr)(xs ys:List V):Yl (ON k1 k2 K a b) (min xs.length ys.length) (fun H=>xM k1 K H a xs∧xM k2 K H b ys) (fun i v H H'=>∃t x y,v=.ref t∧H t=none∧H'=upd H t (.tup [x,y])∧xs[i]?=some x∧ys[i]?=some y) :=
 ⟨fun i H h hi=>⟨xs,ys,xs[i]'(by omega),ys[i]'(by omega),h.1,h.2,by simp,by simp⟩,fun H h=>⟨xs,ys,h.1,h.2,by omega⟩,fun i H v H' h hi ⟨t,x,y,h1,h2,h3,h4,h5⟩=>⟨t,x,y,h1,h2,h3,h4 xs h.1,h5 ys h.2⟩⟩
def L0{mg:Str→Option Value}(T:Tx K mg):List V:=[.ref T.rY,.ref T.rZ,.ref T.sf,.ref T.sg,.ref T.sh,.ref T.si,.ref T.sj,.ref T.sk]
theorem L6(T:Tx K mg){i:Nat}(h:i<8):∃(b:Addr)(lo hi:Nat),(L0 T)[i]?=some (.ref b)∧Mq[i]?=some (lo,hi)∧∀H,eQ K H b [.int (lo:Nat),.int (hi:Nat)] :=
 match i,h with
 | 0,_=>⟨_,1,60,rfl,rfl,T.sH⟩
 | 1,_=>⟨_,1,60,rfl,rfl,T.sI⟩
 | 2,_=>⟨_,0,1000,rfl,rfl,T.sJ⟩
 | 3,_=>⟨_,0,1000,rfl,rfl,T.sL⟩
 | 4,_=>⟨_,0,1000,rfl,rfl,T.sM⟩
 | 5,_=>⟨_,1,8,rfl,rfl,T.sN⟩
 | 6,_=>⟨_,1,8,rfl,rfl,T.sO⟩
 | 7,_=>⟨_,1,60,rfl,rfl,T.sP⟩
theorem Jd{ts:List Text}{bs:List (Nat×Nat)}{i:Nat}{t:Text}{b:Nat×Nat}(h1:ts[i]?=some t)(h2:bs[i]?=some b):rA (ts.drop i) (bs.drop i)=(match number t with
  | none=>none
  | some n=>if n<b.1∨n>b.2 then none else(rA (ts.drop (i+1)) (bs.drop (i+1))).map fun l=>n::l):=by
 obtain⟨z1,z2⟩:=QO.mp h1
 obtain⟨y1,y2⟩:=QO.mp h2
 rw[Ru z1,z2,Ru y1,y2]
 rfl
def BH:Sp:=fun vs H Q _=>E2 fun(a:Addr)(ts:List Text)=>A6 (vs=[.ref a]) (Ea ts H a) (ts.length=8) ((∀t∈ts,t≠[]∧t.length≤1000)) ((∀H',aN H H'→rA ts Mq=none→Q .non H')) (∀l H' ns,aN H H'→rA ts Mq=some ns→ns.length=8→Nw H H' l=some (.lst (nV ns))→Q (.ref l) H')
theorem Bd(T:Tx K mg):dJ P w base 2 T.tm BH:=by
 refine T.tm.fn.ok gb (fun vs H Q E h=>?_) (fun cdv A outer s H vs Q E hr h=>?_)
 ·obtain⟨a,ts,rfl,_⟩:=h
  rfl
 ·obtain⟨a,ts,rfl,hA,hl,hne,q0,q1⟩:=h
  refine⟨_,(ab (ax (i:=1) gb.nd rfl (Or.inl rfl) (aE ae))
   (ab (bU PassesOwn.never rfl (HM true false rfl T.iC (aa (pv 0) (aa (aL (v:=.ref T.o9) rfl T.ze rfl) ae))) (dv K (n:=2) rfl rfl (@aV _ _ _ _ _ (@aD _ _ 2 _ gb.nd rfl (Or.inl rfl) (by first|exact .inl rfl|exact .inr rfl)) (@aV _ _ _ _ _ (@aD _ _ 3 _ gb.nd rfl (Or.inl rfl) (by first|exact .inl rfl|exact .inr rfl)) dw rfl) rfl) rfl rfl) (ab (ax (i:=4) gb.nd rfl (Or.inl rfl) (aA T.wL (Dz T) hr (aa (pv 2) ae)))
   (ab (bf (PW.pt (jg (aM fP (pv 4) bR (aQ _)) (jg (aM km (pv 4) (aT wA (pv 3) ak (fun _ _=>rfl)) (aQ _)) (jw (aM oM (pv 4) (aT wA (pv 3) ak (fun _ _=>rfl)) (aQ _)))))) (ag (au bR)) aP)
   (ag (aX (dH PySem.F.plainAttrs_list PySem.F.slot_list_append PySem.F.type_list_append cA (pv 1) (aa (pv 4) ae)))))))
   (ag (au (pv 1))))),?_⟩
  refine⟨sz (by simp),fun p hp=>?_⟩
  have s1:=aq (o:=.lst []) hp
  obtain⟨rs,h1,h2,h3⟩:=hA.get
  refine⟨_,rfl,a,T.o9,rs.map V.ref,L0 T,rfl,aF.of (s1 _ _ h1),T.uA _,?_⟩
  have mn:min (rs.map V.ref).length (L0 T).length=8:=by rw[QH,h2,hl];rfl
  refine bC (Ig true false K a T.o9 (rs.map V.ref) (L0 T)) (fun i σ H2=>E4 fun v1 v2 v3 (ns:List Nat)=>A5 (σ=[some (.ref a),some (.ref p),v1,v2,v3]) (aN H H2) (H2 p=some (.lst (nV ns))) (ns.length=i) (rA ts Mq=(rA (ts.drop i) (Mq.drop i)).map fun l=>ns++l))
   ⟨none,none,none,[],rfl,s1,af,rfl,by simp⟩ (fun i σ H2 _ hh=>by obtain⟨_,_,_,_,_,s2,_⟩:=hh;exact⟨aF.of (s2 _ _ h1),T.uA _⟩) (fun i x σ H2 H3 hi pv xy=>?_) (fun σ H2 pv=>?_)
  ·obtain⟨v1,v2,v3,ns,rfl,s2,hp2,hns,eq⟩:=pv
   obtain⟨t,x',y',rfl,ht,rfl,e1,e2⟩:=xy
   rw[mn]at hi
   obtain⟨b,lo,hi',g1,g2,g3⟩:=L6 T hi
   rw[g1]at e2
   cases e2
   rw[QI]at e1
   obtain⟨r,er,rfl⟩:=QQ.mp e1
   obtain⟨x,ex,hx⟩:=h3 i r er
   rw[Jd ex g2]at eq
   have s3:=aq (o:=.tup [V.ref r,V.ref b]) ht
   have s23:=s2.trans s3
   have hm:=hne x (QL ex)
   refine⟨t,_,rfl,eQ.of af,rfl,_,_,rfl,_,_,rfl,rfl,?_⟩
   refine⟨_,rfl,r,x,rfl,s23 _ _ hx,hm.1,hm.2,fun H4 s4=>?_⟩
   have s5:=s23.trans s4
   have hp5:=s4 _ _ (s3 _ _ hp2)
   cases en:number x with
   | none =>
    rw[en]at eq
    refine⟨_,rfl,rfl,_,rfl,?_⟩
    refine bP (bP ?_)
    exact q0 _ s5 eq
   | some n =>
    rw[en]at eq
    refine⟨_,rfl,rfl,_,rfl,?_⟩
    refine dg ?_
    refine⟨_,rfl,_,rfl,b,_,_,_,rfl,rfl,g3 _,at_of (j:=0) rfl rfl,_,_,rfl,rfl,_,rfl,?_⟩
    refine bF (fun c=>?_) (fun c=>?_)
    ·have c:(n:Int)<(lo:Int):=of_decide_eq_true c
     refine bP ?_
     exact q0 _ s5 (by rw[eq];dsimp only;rw[if_pos (.inl (by omega))];rfl)
    ·have c:¬(n:Int)<(lo:Int):=fun z=>c (decide_eq_true z)
     refine⟨_,rfl,_,rfl,b,_,_,_,rfl,rfl,g3 _,at_of (j:=1) rfl rfl,_,_,rfl,rfl,_,rfl,?_⟩
     refine bF (fun c2=>?_) (fun c2=>?_)
     ·have c2:(hi':Int)<(n:Int):=of_decide_eq_true c2
      exact q0 _ s5 (by rw[eq];dsimp only;rw[if_pos (.inr (by omega))];rfl)
     ·have c2:¬(hi':Int)<(n:Int):=fun z=>c2 (decide_eq_true z)
      dsimp only at eq
      rw[if_neg (by omega)]at eq
      refine⟨_,rfl,.inl ⟨rfl,_,aF.of hp5⟩,_,rfl,p,_,_,rfl,rfl,hp5,HZ (by rw[bx];omega),?_⟩
      refine⟨_,_,_,ns++[n],rfl,fun z o e=>by rw[ah (ao e hp)];exact s5 _ _ e,by rw[af];unfold nV;rw[Rl];rfl,by simp[hns],?_⟩
      rw[eq,W6]
      congr 1
      funext l
      simp
  ·obtain⟨v1,v2,v3,ns,rfl,s2,hp2,hns,eq⟩:=pv
   rw[mn]at hns eq
   have e:rA ts Mq=some ns:=by
    rw[eq,Us (by omega)]
    show W7 _ (some [])=_
    simp
   exact⟨_,rfl,q1 p _ ns s2 e hns (ia hp2 hp)⟩
open Vbbcag (readUnit)
def tD(t:Text):PyData:=.list (t.map fun(n:Nat)=>.int (n:Int))
def Lg(ts:List Text):PyData:=.list (ts.map tD)
theorem Es:∀a b:Text,PyData.eqvAll (a.map fun(n:Nat)=>PyData.int (n:Int)) (b.map fun(n:Nat)=>PyData.int (n:Int))=decide (a=b)
 | [],[]=>by simp[PyData.eqvAll]
 | [],_::_=>by simp[PyData.eqvAll]
 | _::_,[]=>by simp[PyData.eqvAll]
 | x::a,y::b=>by
  simp only[RC,PyData.eqvAll,PyData.eqv,Es a b]
  rw[RU]
  simp
  intro _
  omega
theorem JS(a b:Text):PyData.eqv (tD a) (tD b)=decide (a=b):=by unfold tD;simp only[PyData.eqv];exact Es a b
theorem HA:∀a b:List Text,PyData.eqvAll (a.map tD) (b.map tD)=decide (a=b)
 | [],[]=>by simp[PyData.eqvAll]
 | [],_::_=>by simp[PyData.eqvAll]
 | _::_,[]=>by simp[PyData.eqvAll]
 | x::a,y::b=>by
  simp only[RC,PyData.eqvAll,JS,HA a b]
  rw[RU]
  simp
theorem LB(a b:List Text):PyData.eqv (Lg a) (Lg b)=decide (a=b):=by unfold Lg;simp only[PyData.eqv];exact HA a b
theorem lay_ints:∀a:Text,PyData.canLayAll0 (a.map fun(n:Nat)=>PyData.int (n:Int))=true∧PyData.depthAll (a.map fun(n:Nat)=>PyData.int (n:Int))≤1
 | []=>by simp[PyData.canLayAll0,PyData.depthAll]
 | x::a=>by
  have:=lay_ints a
  simp[PyData.canLayAll0,PyData.depthAll,PyData.canLay0,PyData.depth,this]
theorem Kb(a:Text):(tD a).canLay0=true∧(tD a).depth≤2:=by
 have:=lay_ints a
 unfold tD
 simp only[PyData.canLay0,PyData.depth]
 refine⟨this.1,by omega⟩
theorem HF:∀a:List Text,PyData.canLayAll0 (a.map tD)=true∧PyData.depthAll (a.map tD)≤2
 | []=>by simp[PyData.canLayAll0,PyData.depthAll]
 | x::a=>by
  have h1:=Kb x
  have h2:=HF a
  simp only[RC,PyData.canLayAll0,PyData.depthAll,h1.1,h2.1]
  refine⟨rfl,?_⟩
  omega
theorem Jj(a:Text):SeqAt.shaped (tD a)=true:=by
 have:=Kb a
 unfold SeqAt.shaped
 rw[this.1,decide_eq_true (by omega)]
 rfl
theorem LK(a:List Text):(Lg a).canLay0=true∧(Lg a).depth≤3:=by
 have:=HF a
 unfold Lg
 simp only[PyData.canLay0,PyData.depth]
 refine⟨this.1,by omega⟩
theorem tZ(a:List Text):SeqAt.shaped (Lg a)=true:=by
 have h:=LK a
 unfold SeqAt.shaped
 rw[h.1,decide_eq_true (by omega)]
 rfl
theorem Ep(K:Frg)(H:Hp):∀t:Text,xI K H (nV t) (t.map fun(n:Nat)=>PyData.int (n:Int))
 | []=>.nil
 | x::t=>.cons (.int _) (Ep K H t)
theorem Mu(K:Frg){H:Hp}{a:Addr}{t:Text}(h:H a=some (.lst (nV t))):Dp K H (.ref a) (tD t):=.lst (aF.of h) (Ep K H t)
theorem Hy(K:Frg)(H:Hp):∀(rs:List Addr)(ts:List Text),rs.length=ts.length→(∀(i:Nat)(r:Addr),rs[i]?=some r→∃t,ts[i]?=some t∧H r=some (.lst (nV t)))→xI K H (rs.map V.ref) (ts.map tD)
 | [],[],_,_=>.nil
 | [],_::_,h,_=>by simp at h
 | _::_,[],h,_=>by simp at h
 | r::rs,t::ts,h,g=>.cons (by
   obtain⟨t',e,q⟩:=g 0 r rfl
   cases e
   exact Mu K q) (Hy K H rs ts (by simpa using h) fun i r e=>g (i+1) r e)
theorem Ea.dp(K:Frg){ts:List Text}{H:Hp}{a:Addr}(h:Ea ts H a):Dp K H (.ref a) (Lg ts):=by
 obtain⟨rs,h1,h2,h3⟩:=h.get
 exact .lst (aF.of h1) (Hy K H rs ts h2 h3)
theorem Kd{α:Type}:∀l:List α,l.length=8→∃a0 a1 a2 a3 a4 a5 a6 a7,l=[a0,a1,a2,a3,a4,a5,a6,a7]
 | [a0,a1,a2,a3,a4,a5,a6,a7],_=>⟨_,_,_,_,_,_,_,_,rfl⟩
theorem Dn{α:Type}(l:List α)(h:l.length=18):∃a0 a1 a2 a3 a4 a5 a6 a7 a8 a9 b0 b1 b2 b3 b4 b5 b6 b7,l=[a0,a1,a2,a3,a4,a5,a6,a7,a8,a9,b0,b1,b2,b3,b4,b5,b6,b7]:=by
 match l,h with
 | a0::a1::a2::a3::a4::a5::a6::a7::a8::a9::m,h =>
  have h:m.length=8:=by simpa using h
  obtain⟨b0,b1,b2,b3,b4,b5,b6,b7,rfl⟩:=Kd m h
  exact⟨_,_,_,_,_,_,_,_,_,_,_,_,_,_,_,_,_,_,rfl⟩
theorem Aw(a0 a1 a2 a3 a4 a5 a6 a7 a8 a9 b0 b1 b2 b3 b4 b5 b6 b7:Addr):kZ (W8 V.ref [a0,a1,a2,a3,a4,a5,a6,a7,a8,a9,b0,b1,b2,b3,b4,b5,b6,b7]) 0 2=[V.ref a0,V.ref a2,V.ref a4,V.ref a6,V.ref a8,V.ref b0,V.ref b2,V.ref b4,V.ref b6]:=(uh _ 0 2 (by decide)).trans (by unfold stride;simp only[QH,Q2,Ui];rfl)
theorem Ax(a0 a1 a2 a3 a4 a5 a6 a7 a8 a9 b0 b1 b2 b3 b4 b5 b6 b7:Addr):kZ (W8 V.ref [a0,a1,a2,a3,a4,a5,a6,a7,a8,a9,b0,b1,b2,b3,b4,b5,b6,b7]) 3 2=[V.ref a3,V.ref a5,V.ref a7,V.ref a9,V.ref b1,V.ref b3,V.ref b5,V.ref b7]:=(uh _ 3 2 (by decide)).trans (by unfold stride;simp only[QH,Q2,Ui];rfl)
def DS{mg:Str→Option Value}(T:Tx K mg):Sp:=fun vs H Q _=>E6 fun(x:Addr)(dx:Addr)(na:Addr)(b:Addr)(ns:List Nat)(t:Text)=>A6 (vs=[.ref x,.ref na,.ref b]) (H x=some (.ins T.aK.C dx [])) (H na=some (.lst (nV t))) (H b=some (.lst (nV ns))) (ns.length=8) (∀H',H'=upd H x (.ins T.aK.C dx (uf na (mkUnit t ns)))→Q .non H')
theorem Du(T:Tx K mg):Mo P w base 1 T.aK (DS T):=by
 refine T.aK.fn.ok DQ (fun vs H Q E h=>?_) (fun cdv A outer s H vs Q E hr h=>?_)
 ·obtain⟨x,dx,na,b,ns,t,rfl,_⟩:=h
  rfl
 ·obtain⟨x,dx,na,b,ns,t,rfl,hx,hN,hB,hl,q⟩:=h
  refine⟨_,(ab (bK (pv 0) (pv 1) rfl)
   (ab (bK (pv 0) (aT aG (pv 2) ak (fun _ _=>rfl)) rfl)
   (ab (bK (pv 0) (aT aG (pv 2) ak (fun _ _=>rfl)) rfl)
   (ab (bK (pv 0) (aT aG (pv 2) ak (fun _ _=>rfl)) rfl)
   (ab (bK (pv 0) (aT aG (pv 2) ak (fun _ _=>rfl)) rfl)
   (ab (bK (pv 0) (aT aG (pv 2) ak (fun _ _=>rfl)) rfl)
   (ab (bK (pv 0) (aT aG (pv 2) ak (fun _ _=>rfl)) rfl)
   (ab (bK (pv 0) (aT aG (pv 2) ak (fun _ _=>rfl)) rfl)
   (ag (bK (pv 0) (aT aG (pv 2) ak (fun _ _=>rfl)) rfl)))))))))),?_⟩
  obtain⟨n0,n1,n2,n3,n4,n5,n6,n7,rfl⟩:=Kd ns hl
  have nb:b≠x:=rq hB hx (by intro q;cases q)
  have B:∀fs,(upd H x (.ins T.aK.C dx fs)) b=some (.lst (nV [n0,n1,n2,n3,n4,n5,n6,n7])):=fun fs=>by rw[ah nb];exact hB
  refine⟨_,rfl,_,rfl,fR (gs:=[("name",.ref na)]) hx T.aK.cls T.gG rfl (by simp) ?_⟩
  refine⟨_,rfl,b,_,_,_,rfl,rfl,aF.of (B _),at_of (j:=0) rfl rfl,_,rfl,fR (gs:=[("name",.ref na),("least",.int n0)]) af T.aK.cls T.jM rfl (by simp) ?_⟩
  rw[cg]
  refine⟨_,rfl,b,_,_,_,rfl,rfl,aF.of (B _),at_of (j:=1) rfl rfl,_,rfl,fR (gs:=[("name",.ref na),("least",.int n0),("greatest",.int n1)]) af T.aK.cls T.gk rfl (by simp) ?_⟩
  rw[cg]
  refine⟨_,rfl,b,_,_,_,rfl,rfl,aF.of (B _),at_of (j:=2) rfl rfl,_,rfl,fR (gs:=[("name",.ref na),("least",.int n0),("greatest",.int n1),("start_cost",.int n2)]) af T.aK.cls T.eV rfl (by simp) ?_⟩
  rw[cg]
  refine⟨_,rfl,b,_,_,_,rfl,rfl,aF.of (B _),at_of (j:=3) rfl rfl,_,rfl,fR (gs:=[("name",.ref na),("least",.int n0),("greatest",.int n1),("start_cost",.int n2),("run_cost",.int n3)]) af T.aK.cls T.gn rfl (by simp) ?_⟩
  rw[cg]
  refine⟨_,rfl,b,_,_,_,rfl,rfl,aF.of (B _),at_of (j:=4) rfl rfl,_,rfl,fR (gs:=[("name",.ref na),("least",.int n0),("greatest",.int n1),("start_cost",.int n2),("run_cost",.int n3),("level_cost",.int n4)]) af T.aK.cls T.eU rfl (by simp) ?_⟩
  rw[cg]
  refine⟨_,rfl,b,_,_,_,rfl,rfl,aF.of (B _),at_of (j:=5) rfl rfl,_,rfl,fR (gs:=[("name",.ref na),("least",.int n0),("greatest",.int n1),("start_cost",.int n2),("run_cost",.int n3),("level_cost",.int n4),("hours_on",.int n5)]) af T.aK.cls T.gm rfl (by simp) ?_⟩
  rw[cg]
  refine⟨_,rfl,b,_,_,_,rfl,rfl,aF.of (B _),at_of (j:=6) rfl rfl,_,rfl,fR (gs:=[("name",.ref na),("least",.int n0),("greatest",.int n1),("start_cost",.int n2),("run_cost",.int n3),("level_cost",.int n4),("hours_on",.int n5),("hours_off",.int n6)]) af T.aK.cls T.fG rfl (by simp) ?_⟩
  rw[cg]
  refine⟨_,rfl,b,_,_,_,rfl,rfl,aF.of (B _),at_of (j:=7) rfl rfl,_,rfl,fR (gs:=uf na (mkUnit t [n0,n1,n2,n3,n4,n5,n6,n7])) af T.aK.cls T.kO rfl (by simp) ?_⟩
  rw[cg]
  exact q _ rfl
def oF:List Str:=["unit","from","to","start","run","per","up","down","ramp"]
theorem Cq:oF.map md=eR:=by decide+kernel
def Hb{mg:Str→Option Value}(T:Tx K mg):Sp:=fun vs H Q _=>E2 fun(a:Addr)(t:Text)=>A5 (vs=[.ref a]) (H a=some (.lst (nV t))) (t.length≤1000) ((∀H',aN H H'→readUnit t=none→Q .non H')) (∀r H' u,aN H H'→readUnit t=some u→bq T.aK.C (Nw H H') r u→Q (.ref r) H')
theorem zL(T:Tx K mg):dJ P w base 3 T.yJ (Hb T):=by
 refine T.yJ.fn.ok iM (fun vs H Q E h=>?_) (fun cdv A outer s H vs Q E hr h=>?_)
 ·obtain⟨a,t,rfl,_⟩:=h
  rfl
 ·obtain⟨a,t,rfl,hA,hl,q0,q1⟩:=h
  refine⟨_,(ab (ax (i:=1) iM.nd rfl (Or.inl rfl) (aA T.xD (DC T) hr (aa (pv 0) ae)))
   (ab (bf (PW.pt (jg (aM EY (aH az rfl T.ba bh (aa (pv 1) ae)) (aO jv ak (aH az rfl T.ba bh (aa (aL (v:=.ref T.iU) rfl T.uL rfl) ae))) (aQ _)) (jw (aM (M3 hr.units) (wV (pv 1) ak ak) (fN rfl iM.nd (M9 (aL (v:=.ref T.iU) rfl T.uL rfl)) (bj (own:=[("word",4)]) rfl) (fun _ _ _ _ _=>(aD (i:=4) iM.nd rfl (Or.inl rfl))) (fun _ _ _ _ _=>bJ) (fun _ _ _ _ _=>(aA T.pf (pR T) hr (aa (pv 4) ae)))) (aQ _))))) (ag (au bR)) aP)
   (ab (ax (i:=2) iM.nd rfl (Or.inl rfl) (aT aG (pv 1) ak (fun _ _=>rfl)))
   (ab (ax (i:=3) iM.nd rfl (Or.inl rfl) (aA T.tm (Bd T) hr (aa (wV (pv 1) ak ak) ae)))
   (ab (bf (PW.pt (jg (cF (bS (aA T.Dj (GP T) hr (aa (pv 2) ae)))) (jg (aM fP (pv 3) bR (aQ _)) (jw (aM oM (aT aG (pv 3) ak (fun _ _=>rfl)) (aT aG (pv 3) ak (fun _ _=>rfl)) (aQ _)))))) (ag (au bR)) aP)
   (ag (au (HR T.aK (Du T) hr (aa (pv 2) (aa (pv 3) ae)))))))))),?_⟩
  refine⟨_,rfl,a,t,rfl,hA,hl,fun l H1 s1 hL=>?_⟩
  have hL1:Ea (toks t) H1 l:=hL.same (yC _ _)
  obtain⟨rs,h1,h2,h3⟩:=hL1.get
  have tl:∀x∈toks t,x≠[]∧x.length≤1000:=fun x hx=>by
   obtain⟨m1,m2⟩:=Sv.mp hx
   have:=uD 32 t [] x m1
   refine⟨fun e=>?_,by simp at this;omega⟩
   subst e
   simp at m2
  dsimp only[kK]
  refine iN (fun σ' H2=>σ'=[some (.ref a),some (.ref l),none,none,none]∧aN H1 H2∧(toks t).length=18∧HB (toks t)=eR) (fun σ' H2 hM=>?_) (fun N hN=>?_)
  ·obtain⟨rfl,s2,l18,ev⟩:=hM
   obtain⟨w0,w1,w2,w3,w4,w5,w6,w7,w8,w9,y0,y1,y2,y3,y4,y5,y6,y7,etk⟩:=Dn _ l18
   obtain⟨r0,r1,r2,r3,r4,r5,r6,r7,r8,r9,z0,z1,z2,z3,z4,z5,z6,z7,ers⟩:=Dn rs (by omega)
   subst ers
   have ru:=xX etk
   rw[etk]at ev
   rw[if_pos (show [w0,w2,w4,w6,w8,y0,y2,y4,y6]=eR from ev)]at ru
   have h12:=s2 _ _ h1
   refine⟨_,rfl,l,_,_,_,rfl,rfl,aF.of h12,at_of (j:=1) rfl rfl,?_⟩
   refine⟨_,rfl,_,rfl,_,rfl,3,2,l,_,rfl,rfl,by decide,rfl,aF.of h12,?_,fun p hp=>?_⟩
   ·rw[Ax];simp
   ·dsimp only
    rw[Ax]
    have s3:=aq (o:=.lst [V.ref r3,V.ref r5,V.ref r7,V.ref r9,V.ref z1,V.ref z3,V.ref z5,V.ref z7]) hp
    have g:∀(j:Nat)(r:Addr),[r0,r1,r2,r3,r4,r5,r6,r7,r8,r9,z0,z1,z2,z3,z4,z5,z6,z7][j]?=some r→∃t,[w0,w1,w2,w3,w4,w5,w6,w7,w8,w9,y0,y1,y2,y3,y4,y5,y6,y7][j]?=some t∧H2 r=some (.lst (nV t)):=fun j r e=>by
     obtain⟨t',e1,e2⟩:=h3 j r e
     rw[etk]at e1
     exact⟨t',e1,s2 _ _ e2⟩
    refine⟨p,[w3,w5,w7,w9,y1,y3,y5,y7],rfl,⟨[r3,r5,r7,r9,z1,z3,z5,z7],af,rfl,fun i r er=>?_⟩,rfl,fun x hx=>tl x (by
     rw[etk]
     simp only[QM,Q8,or_false]at hx ⊢
     rcases hx with h|h|h|h|h|h|h|h<;>simp[h]),fun H4 s4 en=>?_,fun m H4 ns s4 en l8 hm=>?_⟩
    ·have gg:∀(j:Nat)(r:Addr),[r0,r1,r2,r3,r4,r5,r6,r7,r8,r9,z0,z1,z2,z3,z4,z5,z6,z7][j]?=some r→∃t,[w0,w1,w2,w3,w4,w5,w6,w7,w8,w9,y0,y1,y2,y3,y4,y5,y6,y7][j]?=some t∧(upd H2 p (.lst [V.ref r3,V.ref r5,V.ref r7,V.ref r9,V.ref z1,V.ref z3,V.ref z5,V.ref z7])) r=some (.lst (nV t)):=fun j r e=>by
      obtain⟨t',e1,e2⟩:=g j r e
      exact⟨t',e1,s3 _ _ e2⟩
     have hi:i<8:=(QO.mp er).1
     match i,hi with
     | 0,_=>exact gg 3 r er
     | 1,_=>exact gg 5 r er
     | 2,_=>exact gg 7 r er
     | 3,_=>exact gg 9 r er
     | 4,_=>exact gg 11 r er
     | 5,_=>exact gg 13 r er
     | 6,_=>exact gg 15 r er
     | 7,_=>exact gg 17 r er
    ·have s14:=(s1.trans s2).trans (s3.trans s4)
     rw[en]at ru
     obtain⟨t1,e1,hn⟩:=g 1 r1 rfl
     cases e1
     have hn4:=s4 _ _ (s3 _ _ hn)
     refine⟨_,rfl,r1,w1,rfl,hn4,(tl w1 (by rw[etk];simp)).2,fun H5 s5=>⟨_,rfl,?_⟩⟩
     refine bF (fun c=>bP ?_) (fun c=>?_)
     ·exact q0 _ (s14.trans s5) ru
     ·refine⟨_,rfl,rfl,_,rfl,bP (bP ?_)⟩
      exact q0 _ (s14.trans s5) ru
    ·have s14:=(s1.trans s2).trans (s3.trans s4)
     rw[en]at ru
     obtain⟨t1,e1,hn⟩:=g 1 r1 rfl
     cases e1
     have hn4:=s4 _ _ (s3 _ _ hn)
     obtain⟨n0,n1,n2,n3,n4,n5,n6,n7,rfl⟩:=Kd ns l8
     obtain⟨hm4,hm3⟩:=dE hm
     refine⟨_,rfl,r1,w1,rfl,hn4,(tl w1 (by rw[etk];simp)).2,fun H5 s5=>⟨_,rfl,?_⟩⟩
     have s15:=s14.trans s5
     dsimp only at ru
     refine bF (fun c=>bP ?_) (fun c=>?_)
     ·have c:kN w1=false:=by simpa using c
      rw[if_neg (by rw[c];simp)]at ru
      exact q0 _ s15 ru
     ·have c:kN w1=true:=by simpa using c
      have hm5:=s5 _ _ hm4
      refine⟨_,rfl,rfl,_,rfl,dg ?_⟩
      refine⟨_,rfl,m,_,_,_,rfl,rfl,aF.of hm5,at_of (j:=0) rfl rfl,_,rfl,m,_,_,_,rfl,rfl,aF.of hm5,at_of (j:=1) rfl rfl,_,_,rfl,rfl,_,rfl,?_⟩
      refine bF (fun c2=>?_) (fun c2=>?_)
      ·have c2:(n1:Int)<(n0:Int):=of_decide_eq_true c2
       rw[if_neg (fun z=>by have:=z.2;change n0≤n1 at this;omega)]at ru
       exact q0 _ s15 ru
      ·have c2:¬(n1:Int)<(n0:Int):=fun z=>c2 (decide_eq_true z)
       rw[if_pos ⟨c,show n0≤n1 by omega⟩]at ru
       refine⟨_,rfl,_,rfl,fun y dy hy hdy ndy=>?_⟩
       have sm:aN H5 (upd (upd H5 dy (.own y)) y (.ins T.aK.C dy [])):=fun b o e=>by rw[ah (ao e hy),ah (ao e hdy)];exact e
       refine⟨y,dy,r1,m,_,w1,rfl,af,sm _ _ (s5 _ _ hn4),sm _ _ hm5,l8,fun H6 e6=>⟨rfl,?_⟩⟩
       have s6:aN H5 H6:=fun b o e=>by
        rw[e6,ah (ao e hy)]
        exact sm _ _ e
       refine q1 _ _ _ (s15.trans s6) ru ⟨dy,r1,ia (by rw[e6,af]) (s15.free hy),?_⟩
       have hr1:Nw H H1 r1=some (.lst (nV w1)):=by
        obtain⟨rs',k1,k2,k3⟩:=hL.get
        have:=(dE k1).1
        rw[h1]at this
        have e:[r0,r1,r2,r3,r4,r5,r6,r7,r8,r9,z0,z1,z2,z3,z4,z5,z6,z7]=rs':=by
         have:=Rb this
         injection this with this
         exact zX this
        subst e
        obtain⟨t',e1,e2⟩:=k3 1 r1 rfl
        rw[etk]at e1
        cases e1
        exact e2
       exact jO ((s2.trans (s3.trans s4)).trans (s5.trans s6)) _ _ hr1
  ·refine⟨_,rfl,l,_,rfl,.inl (aF.of h1),T.iU,_,rfl,.inr (T.mJ _),_,_,rfl,rfl,.inr ⟨by decide,by decide⟩,?_⟩
   refine⟨rfl,_,rfl,?_⟩
   have e18:((9:Nat):Int)=9:=rfl
   refine bF (fun c=>?_) (fun c=>?_)
   ·refine bP ?_
    refine q0 _ s1 (DM fun z=>?_)
    rw[QH,h2,z]at c
    exact absurd c (by decide)
   ·have l18:(toks t).length=18:=by
     rw[QH,h2]at c
     refine SM fun z=>c ?_
     show(!decide (V.int _=V.int _))=true
     rw[decide_eq_false (fun e=>z (by injection e with e;simp at e;omega))]
     rfl
    obtain⟨w0,w1,w2,w3,w4,w5,w6,w7,w8,w9,y0,y1,y2,y3,y4,y5,y6,y7,etk⟩:=Dn _ l18
    obtain⟨r0,r1,r2,r3,r4,r5,r6,r7,r8,r9,z0,z1,z2,z3,z4,z5,z6,z7,ers⟩:=Dn rs (by omega)
    subst ers
    refine⟨_,rfl,_,rfl,_,rfl,0,2,l,_,rfl,rfl,by decide,rfl,aF.of h1,?_,fun p hp=>?_⟩
    ·rw[Aw];simp
    ·dsimp only
     rw[Aw]
     have s2:=aq (o:=.lst [V.ref r0,V.ref r2,V.ref r4,V.ref r6,V.ref r8,V.ref z0,V.ref z2,V.ref z4,V.ref z6]) hp
     refine⟨T.iU,rfl,⟨_,T.mJ _⟩,fun D hD=>?_⟩
     refine bt (Nu _ T.iU (oF.map V.str)) (JB fun i r Hh=>OD eR i r Hh) (jb (pM eR)) (sz (by decide)) hD (fun H5 s5=>T.mJ _) (fun i v H5 H6 R hi s5 hne xy kk=>?_) (fun H5 B5=>?_)
     ·obtain⟨rfl,e⟩:=xy
      rw[QI]at e
      obtain⟨x,ex,rfl⟩:=QQ.mp e
      have xl:x.cps.size≤1000:=by
       have:∀y∈oF,y.cps.size≤1000:=by decide+kernel
       exact this x (QL ex)
      refine⟨rfl,_,rfl,x,rfl,xl,fun m H7 s7 hm=>?_⟩
      obtain⟨m1,m2⟩:=dE hm
      refine kk _ _ s7 ⟨m,rfl,md x,?_,?_⟩
      ·rw[←Cq,QI,ex];rfl
      ·rw[kd (fun e=>hne (by rw[←e];exact m2))];exact m1
     ·have L:=B5.lr (pM eR)
      have s5:=B5.cK
      have L:Ea eR H5 D:=L
      have s15:=s2.trans s5
      have E9:Ea [w0,w2,w4,w6,w8,y0,y2,y4,y6] H5 p:=by
       refine⟨[r0,r2,r4,r6,r8,z0,z2,z4,z6],s5 _ _ af,rfl,fun i r er=>?_⟩
       rw[etk]at h3
       have g:∀(j:Nat)(r:Addr),[r0,r1,r2,r3,r4,r5,r6,r7,r8,r9,z0,z1,z2,z3,z4,z5,z6,z7][j]?=some r→∃t,[w0,w1,w2,w3,w4,w5,w6,w7,w8,w9,y0,y1,y2,y3,y4,y5,y6,y7][j]?=some t∧H5 r=some (.lst (nV t)):=fun j r e=>by
        obtain⟨t',e1,e2⟩:=h3 j r e
        exact⟨t',e1,s15 _ _ e2⟩
       have hi:i<9:=(QO.mp er).1
       match i,hi with
       | 0,_=>exact g 0 r er
       | 1,_=>exact g 2 r er
       | 2,_=>exact g 4 r er
       | 3,_=>exact g 6 r er
       | 4,_=>exact g 8 r er
       | 5,_=>exact g 10 r er
       | 6,_=>exact g 12 r er
       | 7,_=>exact g 14 r er
       | 8,_=>exact g 16 r er
      refine⟨Lg _,Lg _,E9.dp K,L.dp K,tZ _,tZ _,_,rfl,?_⟩
      rw[LB]
      have ru:=xX etk
      refine bF (fun c=>?_) (fun c=>?_)
      ·have c:¬[w0,w2,w4,w6,w8,y0,y2,y4,y6]=eR:=by simpa using c
       rw[if_neg c]at ru
       exact q0 _ (s1.trans s15) ru
      ·have c:[w0,w2,w4,w6,w8,y0,y2,y4,y6]=eR:=by simpa using c
       exact hN _ _ ⟨rfl,s15,l18,by rw[etk];exact c⟩
theorem JN(xs:List V):j6 xs none (some (-1))=xs.dropLast:=by
 unfold j6
 rw[HT.Aa,Tj,UY,VN]
 congr 1
 unfold HT.zZ
 simp
 exact tn (k:=1)
theorem P0{k:Nat}{A:Around}(hr:fy k A):A.units+65<cLine:=by have:=hr.un;omega
theorem K5(K:Frg)(a:Addr)(xs:List V):Yl (OO K a) xs.length (fun H=>aF K H a xs) (fun i v H H'=>∃t x,v=.ref t∧H t=none∧H'=upd H t (.tup [.int ((i+1:Nat):Int),x])∧xs[i]?=some x) :=
 ⟨fun i H h hi=>⟨xs,xs[i],h,by simp[hi]⟩,fun H h=>⟨xs,h,QP _⟩,fun i H v H' h hi ⟨t,x,h1,h2,h3,h4⟩=>⟨t,x,h1,h2,h3,h4 xs h⟩⟩
theorem Gw{ls:List Text}{i:Nat}{t:Text}(k:Nat)(names:List Text)(h:ls[i]?=some t):bo k names (ls.drop i)=(match readUnit t with
  | none=>k
  | some u=>if names.contains u.name=true then k else bo (k+1) (names++[u.name]) (ls.drop (i+1))):=by
 obtain⟨z1,z2⟩:=QO.mp h
 rw[Ru z1,z2]
 rfl
theorem Lq(names:List Text)(n:Text):((names.map tD).any fun z=>PyData.eqv z (tD n))=names.contains n:=by
 rw[List.any_map,RU]
 simp only[List.any_eq_true,Function.comp_apply,JS,decide_eq_true_eq,V0]
 exact⟨fun⟨x,h1,h2⟩=>h2▸h1,fun h=>⟨n,h,rfl⟩⟩
theorem Iz(sep:Nat)(t:Text):∃pre x,cutAt sep [] t=pre++[x]:=by
 obtain⟨pre,x,e,_⟩:=uE sep t []
 exact⟨pre,x,e⟩
def Fq:Sp:=fun vs H Q _=>E2 fun(a:Addr)(t:Text)=>A4 (vs=[.ref a]) (H a=some (.lst (nV t))) (t.length≤1000) (∀l H',aN H H'→Ea (bI t) (Nw H H') l→Q (.ref l) H')
theorem pT(T:Tx K mg):dJ P w base 2 T.pI Fq:=by
 refine T.pI.fn.ok xY (fun vs H Q E h=>?_) (fun cdv A outer s H vs Q E hr h=>?_)
 ·obtain⟨a,t,rfl,_⟩:=h
  rfl
 ·obtain⟨a,t,rfl,hA,hl,q⟩:=h
  refine⟨_,(ab (ax (i:=1) xY.nd rfl (Or.inl rfl) (aA T.vd (xU T) hr (aa (pv 0) (aa (aL (v:=.int (10)) rfl T.j9 ⟨_,rfl⟩) ae))))
   (ag (au (gR (aM oM (aH az rfl T.ba bh (aa (aT aG (pv 1) (oN jB ak) (fun _ _=>rfl)) ae)) ak (aQ _)) (pv 1) (cW eY (pv 1) jP (bY (oN jB ak))))))),?_⟩
  refine⟨_,rfl,a,t,10,rfl,hA,hl,fun l H1 s1 hL=>?_⟩
  obtain⟨rs,g1,g2,g3⟩:=hL.get
  have h1:=(dE g1).1
  obtain⟨pre,x,ec⟩:=Iz 10 t
  rw[ec]at g2 g3
  obtain⟨r,er⟩:∃r,rs[pre.length]?=some r:=⟨_,QJ (by simp at g2;omega)⟩
  obtain⟨x',ex,hx⟩:=g3 _ r er
  rw[QX (QP _),Se]at ex
  cases ex
  have elp:EJ (cutAt 10 [] t)=x:=by unfold EJ;rw[ec];simp
  unfold bI at q
  rw[elp,ec]at q
  rw[ec]at hL
  refine⟨_,rfl,_,rfl,l,_,_,_,rfl,rfl,aF.of h1,yy (n:=pre.length) (v:=.ref r) (by rw[QH,g2];simp) (by rw[QI,er];rfl),r,_,rfl,.inl (aF.of (dE hx).1),_,_,rfl,rfl,_,rfl,?_⟩
  rw[bx]
  refine bF (fun c=>?_) (fun c=>?_)
  ·have c:(0:Int)<(x.length:Int):=of_decide_eq_true c
   rw[if_pos (by omega)]at q
   exact⟨_,rfl,q l H1 s1 hL⟩
  ·have c:¬(0:Int)<(x.length:Int):=fun z=>c (decide_eq_true z)
   rw[if_neg (by omega),V1]at q
   refine⟨_,rfl,_,rfl,_,rfl,l,_,rfl,aF.of h1,fun p hp=>?_⟩
   rw[JN]
   refine q p _ (s1.trans (aq hp)) ⟨rs.dropLast,ia (by rw[af,List.map_dropLast]) (s1.free hp),by simp at g2 ⊢;omega,fun i r' er'=>?_⟩
   have hi:i<pre.length:=by
    have:=(QO.mp er').1
    simp at this g2;omega
   have e2:rs[i]?=some r':=by rw[VN,Vg (by simp at g2;omega)]at er';exact er'
   obtain⟨y,ey,hy⟩:=g3 i r' e2
   rw[Q0 hi]at ey
   exact⟨y,ey,jO (aq hp) _ _ hy⟩
theorem zt(t:Text)(hl:t.length≤1000):∀x∈bI t,x.length≤1000:=fun x hx=>by
 have:x∈cutAt 10 [] t:=by
  unfold bI at hx
  split at hx
  ·exact hx
  ·exact List.dropLast_subset _ hx
 have:=uD 10 t [] x this
 simp at this
 omega
def rh:Sp:=fun vs H Q _=>E2 fun(a:Addr)(ls:List Text)=>A5 (vs=[.ref a]) (Ea ls H a) (ls.length≤1000) ((∀x∈ls,x.length≤1000)) (∀H',aN H H'→Q (.int (bo 1 [] ls:Nat)) H')
theorem qY(T:Tx K mg):dJ P w base 4 T.ir rh:=by
 refine T.ir.fn.ok cx (fun vs H Q E h=>?_) (fun cdv A outer s H vs Q E hr h=>?_)
 ·obtain⟨a,ls,rfl,_⟩:=h
  rfl
 ·obtain⟨a,ls,rfl,hA,hl,hx,q⟩:=h
  refine⟨_,(ab (ax (i:=1) cx.nd rfl (Or.inl rfl) (aE ae))
   (ab (bU PassesOwn.never rfl (Ky rfl T.jN (pv 0)) (dv K (n:=2) rfl rfl (@aV _ _ _ _ _ (@aD _ _ 2 _ cx.nd rfl (Or.inl rfl) (by first|exact .inl rfl|exact .inr rfl)) (@aV _ _ _ _ _ (@aD _ _ 3 _ cx.nd rfl (Or.inl rfl) (by first|exact .inl rfl|exact .inr rfl)) dw rfl) rfl) rfl rfl) (ab (ax (i:=4) cx.nd rfl (Or.inl rfl) (aA T.yJ (zL T) hr (aa (pv 3) ae)))
   (ab (bf (PW.pt (jg (aM fP (pv 4) bR (aQ _)) (jw (aM (M0 (P0 hr)) (aj (pv 4) rfl) (pv 1) (by with_unfolding_all rfl))))) (ag (au (pv 2))) aP)
   (ag (aX (dH PySem.F.plainAttrs_list PySem.F.slot_list_append PySem.F.type_list_append cA (pv 1) (aa (aj (pv 4) rfl) ae)))))))
   (ag (au ak)))),?_⟩
  obtain⟨rs,h1,h2,h3⟩:=hA.get
  refine⟨sz (by simp),fun p hp=>?_⟩
  have s1:=aq (o:=.lst []) hp
  refine⟨_,rfl,a,_,rfl,aF.of (s1 _ _ h1),?_⟩
  refine bC (K5 _ a (rs.map V.ref)) (fun i σ H2=>E5 fun v1 v2 v3 (names:List Text) (nas:List Addr)=>A7 (σ=[some (.ref a),some (.ref p),v1,v2,v3]) (aN H H2) (H2 p=some (.lst (nas.map V.ref))) (nas.length=names.length) (nas.length=i) ((∀(j:Nat)(r:Addr),nas[j]?=some r→∃x,names[j]?=some x∧H2 r=some (.lst (nV x))∧r≠p)) (bo 1 [] ls=bo (i+1) names (ls.drop i)))
   ⟨none,none,none,[],[],rfl,s1,af,rfl,rfl,fun j r e=>by simp at e,rfl⟩ (fun i σ H2 _ hh=>by obtain⟨_,_,_,_,_,_,s2,_⟩:=hh;exact aF.of (s2 _ _ h1)) (fun i x σ H2 H3 hi pv xy=>?_) (fun σ H2 pv=>?_)
  ·obtain⟨v1,v2,v3,names,nas,rfl,s2,n1,n2,n3,n4,n5⟩:=pv
   obtain⟨t,x',rfl,ht,rfl,e1⟩:=xy
   rw[QH,h2]at hi
   rw[QI]at e1
   obtain⟨r,er,rfl⟩:=QQ.mp e1
   obtain⟨x,ex,hr'⟩:=h3 i r er
   rw[Gw _ _ ex]at n5
   have s3:=aq (o:=.tup [.int ((i+1:Nat):Int),.ref r]) ht
   have s23:=s2.trans s3
   refine⟨t,_,rfl,eQ.of af,rfl,_,_,rfl,_,_,rfl,rfl,?_⟩
   refine⟨_,rfl,r,x,rfl,s23 _ _ hr',hx x (QL ex),fun H4 s4 en=>?_,fun y H4 u s4 en hU=>?_⟩
   ·rw[en]at n5
    refine⟨_,rfl,rfl,_,rfl,bP (bP ⟨_,rfl,?_⟩)⟩
    have:=q _ (s23.trans s4)
    rw[n5]at this
    exact this
   ·rw[en]at n5
    dsimp only at n5
    obtain⟨dx,na,u1,u2⟩:=hU
    obtain⟨u1,_⟩:=dE u1
    obtain⟨u2,u2n⟩:=dE u2
    have s5:=s23.trans s4
    have hp4:=s4 _ _ (s3 _ _ n1)
    have N4:Ea names H4 p:=⟨nas,hp4,n2,fun j r' e'=>by
     obtain⟨x',a1,a2,a3⟩:=n4 j r' e'
     exact⟨x',a1,s4 _ _ (s3 _ _ a2)⟩⟩
    refine⟨_,rfl,rfl,_,rfl,dg ⟨_,rfl,fc u1 T.aK.cls T.gG rfl ⟨_,rfl,tD u.name,names.map tD,Mu K u2,N4.dp K,tZ names,Jj _,_,rfl,?_⟩⟩⟩
    rw[Lq]
    refine bF (fun c=>?_) (fun c=>?_)
    ·rw[if_pos c]at n5
     have:=q _ s5
     rw[n5]at this
     exact⟨_,rfl,this⟩
    ·rw[if_neg c]at n5
     refine⟨_,rfl,.inl ⟨rfl,_,aF.of hp4⟩,_,rfl,fc u1 T.aK.cls T.gG rfl ⟨p,_,_,rfl,rfl,hp4,HZ (by rw[QH];omega),?_⟩⟩
     have np:na≠p:=fun z=>by
      rw[z,s3 _ _ n1]at u2n
      cases u2n
     refine⟨_,_,_,names++[u.name],nas++[na],rfl,fun z o e=>by rw[ah (ao e hp)];exact s5 _ _ e,by rw[af,Rl];rfl,by simp[n2],by simp[n3],fun j r' e'=>?_,n5⟩
     by_cases cj:j<nas.length
     ·rw[Q0 cj]at e'
      obtain⟨x',a1,a2,a3⟩:=n4 j r' e'
      exact⟨x',by rw[Q0 (by omega)];exact a1,by rw[ah a3];exact s4 _ _ (s3 _ _ a2),a3⟩
     ·have ej:j=nas.length:=by
       have:=(QO.mp e').1
       simp at this;omega
      subst ej
      rw[QX (QP _),Se]at e'
      cases e'
      exact⟨u.name,by rw[QX (by omega),n2,Se];rfl,by rw[ah np];exact u2,np⟩
  ·obtain⟨v1,v2,v3,names,nas,rfl,s2,n1,n2,n3,n4,n5⟩:=pv
   rw[QH,h2,SU]at n5
   have:=q _ s2
   rw[n5]at this
   exact this
theorem bq.AI{C:Addr}{H H1 H2:Hp}{r D:Addr}{u:Unit_}(h:bq C (Nw H1 H2) r u)(s:aN H H1)(n:H1 D≠none):bq C (Nw H (AI H2 D)) r u:=by
 obtain⟨dx,na,h1,h2⟩:=h
 obtain⟨a1,a2⟩:=dE h1
 obtain⟨b1,b2⟩:=dE h2
 exact⟨dx,na,ia (by rw[kd fun e=>n (by rw[←e];exact a2)];exact a1) (s.free a2),ia (by rw[kd fun e=>n (by rw[←e];exact b2)];exact b1) (s.free b2)⟩
theorem C7{α β:Type}(f:α→Option β):∀(l:List α),(∀x∈l,∃u,f x=some u)→(l.filterMap f).length=l.length∧∀(i:Nat)(x:α)(u:β),l[i]?=some x→f x=some u→(l.filterMap f)[i]?=some u
 | [],_=>⟨rfl,fun i x u e=>by simp at e⟩
 | x::l,h=>by
  obtain⟨u,hu⟩:=h x (by simp)
  obtain⟨h1,h2⟩:=C7 f l fun y hy=>h y (by simp[hy])
  rw[RR,hu]
  refine⟨by simp[h1],fun i y v e1 e2=>?_⟩
  cases i with
  | zero=>simp at e1;subst e1;rw[hu]at e2;cases e2;rfl
  | succ i=>exact h2 i y v e1 e2
theorem IW:bI []=[]:=by rfl
def BP:Sp:=fun vs H Q _=>E2 fun(a:Addr)(t:Text)=>A4 (vs=[.ref a]) (H a=some (.lst (nV t))) (t.length≤1000) (∀H',aN H H'→Q (.int (fQ t:Nat)) H')
theorem rB(T:Tx K mg):dJ P w base 5 T.oG BP:=by
 refine T.oG.fn.ok lV (fun vs H Q E h=>?_) (fun cdv A outer s H vs Q E hr h=>?_)
 ·obtain⟨a,t,rfl,_⟩:=h
  rfl
 ·obtain⟨a,t,rfl,hA,hl,q⟩:=h
  refine⟨_,(ab (ax (i:=1) lV.nd rfl (Or.inl rfl) (aA T.pI (pT T) hr (aa (pv 0) ae)))
   (ab (bf (aM rC (aH az rfl T.ba bh (aa (pv 1) ae)) ak (aQ _)) (ag (au ak)) aP)
   (ab (bf (aM oM (aH az rfl T.ba bh (aa (pv 1) ae)) (aL (v:=.int (4)) rfl T.jJ ⟨_,rfl⟩) (aQ _)) (ag (au (aO bz (aL (v:=.int (4)) rfl T.jJ ⟨_,rfl⟩) ak))) aP)
   (ab (ax (i:=2) lV.nd rfl (Or.inl rfl) (aA T.ir (qY T) hr (aa (pv 1) ae)))
   (ab (bf (PW.pt (DK (aM rC (pv 2) ak (aQ _)) (yG (aM EY (aT aG (pv 0) (oN jB ak) (fun _ _=>rfl)) (aL (v:=.int (10)) rfl T.j9 ⟨_,rfl⟩) (aQ _))))) (ag (au (aH az rfl T.ba bh (aa (pv 1) ae)))) aP)
   (ag (au (pv 2)))))))),?_⟩
  refine⟨_,rfl,a,t,rfl,hA,hl,fun l H1 s1 hL=>?_⟩
  have hL1:Ea (bI t) H1 l:=hL.same (yC _ _)
  obtain⟨rs,h1,h2,h3⟩:=hL1.get
  unfold fQ at q
  refine⟨_,rfl,l,_,rfl,.inl (aF.of h1),rfl,_,rfl,?_⟩
  rw[QH,h2]
  refine bF (fun c=>?_) (fun c=>?_)
  ·have c:(bI t).length=0:=dI (j:=0) c
   rw[if_pos c]at q
   exact q _ s1
  have c:¬(bI t).length=0:=Lb (j:=0) c
  rw[if_neg c]at q
  refine⟨_,rfl,l,_,rfl,.inl (aF.of h1),_,_,rfl,rfl,_,rfl,?_⟩
  rw[QH,h2]
  refine bF (fun c2=>?_) (fun c2=>?_)
  ·have c2:(4:Int)<((bI t).length:Int):=of_decide_eq_true c2
   rw[if_pos (by omega)]at q
   exact⟨_,_,rfl,rfl,q _ s1⟩
  have c2:¬(4:Int)<((bI t).length:Int):=fun z=>c2 (decide_eq_true z)
  rw[if_neg (by omega)]at q
  refine⟨_,rfl,l,bI t,rfl,hL1,by omega,zt t hl,fun H2 s2=>?_⟩
  have s12:=s1.trans s2
  refine⟨_,rfl,rfl,_,rfl,?_⟩
  refine bF (fun c3=>?_) (fun c3=>?_)
  ·have c3:bo 1 [] (bI t)=0:=dI (j:=0) c3
   have tn:t≠[]:=fun e=>by rw[e,IW]at c;exact c rfl
   obtain⟨x,ex⟩:∃x,t[t.length-1]?=some x:=⟨_,QJ (by have:=V4.mpr tn;omega)⟩
   have eg:t.getLast?=some x:=by rw[List.getLast?_eq_getElem?];exact ex
   have tp:=V4.mpr tn
   refine⟨_,rfl,_,rfl,a,_,_,_,rfl,rfl,aF.of (s12 _ _ hA),yy (n:=t.length-1) (v:=.int (x:Nat)) (by rw[bx];omega) (pO ex),rfl,_,rfl,?_⟩
   refine bF (fun c4=>?_) (fun c4=>?_)
   ·rw[if_pos ⟨c3,fun e=>by
     rw[eg]at e
     cases e
     simp at c4⟩]at q
    refine⟨_,rfl,l,_,rfl,.inl (aF.of (s2 _ _ h1)),?_⟩
    rw[QH,h2]
    exact q _ s12
   ·rw[if_neg (fun z=>z.2 (by
     rw[eg]
     have:x=10:=by
      refine SM fun ne=>c4 ?_
      show(!decide (V.int _=V.int _))=true
      rw[decide_eq_false (fun e=>ne (by injection e with e;omega))]
      rfl
     rw[this]))]at q
    exact⟨_,rfl,q _ s12⟩
  ·have c3:¬bo 1 [] (bI t)=0:=Lb (j:=0) c3
   rw[if_neg (fun z=>c3 z.1)]at q
   refine dg ?_
   exact⟨_,rfl,q _ s12⟩
def Fy{mg:Str→Option Value}(T:Tx K mg):Sp:=fun vs H Q _=>E2 fun(a:Addr)(t:Text)=>A5 (vs=[.ref a]) (H a=some (.lst (nV t))) (t.length≤1000) ((∀H',aN H H'→fQ t>0→Q .non H')) (∀l H',aN H H'→fQ t=0→cQ T.aK.C (Nw H H') l ((bI t).filterMap readUnit)→Q (.ref l) H')
theorem EU(T:Tx K mg):dJ P w base 6 T.AE (Fy T):=by
 refine T.AE.fn.ok qt (fun vs H Q E h=>?_) (fun cdv A outer s H vs Q E hr h=>?_)
 ·obtain⟨a,t,rfl,_⟩:=h
  rfl
 ·obtain⟨a,t,rfl,hA,hl,q0,q1⟩:=h
  refine⟨_,(ab (bf (aM oM (aA T.oG (rB T) hr (aa (pv 0) ae)) ak (aQ _)) (ag (au bR)) aP)
   (ag (au (fN rfl qt.nd (bu (aA T.pI (pT T) hr (aa (pv 0) ae))) (bj (own:=[("line",1)]) rfl) (fun _ _ _ _ _=>(aD (i:=1) qt.nd rfl (Or.inl rfl))) (fun _ _ _ _ _=>bJ) (fun _ _ _ _ _=>(aA T.yJ (zL T) hr (aa (pv 1) ae))))))),?_⟩
  refine⟨_,rfl,a,t,rfl,hA,hl,fun H1 s1=>?_⟩
  refine⟨_,_,rfl,rfl,_,rfl,?_⟩
  refine bF (fun c=>?_) (fun c=>?_)
  ·have c:(0:Int)<(fQ t:Int):=of_decide_eq_true c
   exact q0 _ s1 (by omega)
  have c:¬(0:Int)<(fQ t:Int):=fun z=>c (decide_eq_true z)
  have w0:fQ t=0:=by omega
  obtain⟨w1,w2,w3⟩:=Ho w0
  obtain⟨f1,f2⟩:=C7 readUnit _ w3
  refine⟨_,rfl,a,t,rfl,s1 _ _ hA,hl,fun l H2 s2 hL=>?_⟩
  have hL2:Ea (bI t) H2 l:=hL.same (yC _ _)
  obtain⟨rs,h1,h2,h3⟩:=hL2.get
  have s12:=s1.trans s2
  refine⟨l,rfl,⟨_,aF.of h1⟩,fun D hD=>?_⟩
  refine bt (bw _ l (rs.map V.ref)) (JB fun i r Hh=>UR T.aK.C ((bI t).filterMap readUnit) i r (Nw H Hh)) (jb fun i r _ _ ss h=>Dt _ _ i r _ _ (jO ss) h) (sz (by rw[QH];omega)) hD (fun H5 s5=>aF.of (s5 _ _ h1)) (fun i v H5 H6 R hi s5 hne xy kk=>?_) (fun H5 B5=>?_)
  ·obtain⟨rfl,e⟩:=xy
   rw[QI]at e
   obtain⟨r,er,rfl⟩:=QQ.mp e
   obtain⟨x,ex,hx⟩:=h3 i r er
   have xm:=QL ex
   refine⟨rfl,_,rfl,r,x,rfl,s5 _ _ hx,zt t hl x xm,fun H7 s7 en=>?_,fun y H7 u s7 eu hU=>?_⟩
   ·obtain⟨u,hu⟩:=w3 x xm
    rw[hu]at en
    cases en
   ·exact kk _ _ s7 ⟨y,rfl,u,f2 i x u ex eu,hU.AI (s12.trans s5) hne⟩
  ·have L:=B5.lr fun i r _ _ ss h=>Dt _ _ i r _ _ (jO ss) h
   rw[QH,h2,←f1]at L
   have s5:=B5.cK
   obtain⟨us,g1,g2,g3⟩:=L
   exact q1 D _ (s12.trans s5) w0 ⟨us,ia g1 (s12.free hD),g2,g3⟩
open Vbbcag (decimal numbersOf showUnit showUnits)
theorem uF(n:Nat):md (toString ((n:Nat):Int):String)=decimal n:=by
 unfold md decimal
 rw[Str.ofString_eq_toList]
 show(String.toList _).map Char.toNat=_
 have:toString ((n:Nat):Int)=String.ofList (Nat.toDigits 10 n):=rfl
 rw[this,String.toList_ofList]
theorem Hx{n:Nat}(h:n≤1000):(decimal n).length≤4:=by
 have:∀n:Fin 1001,(decimal n.val).length≤4:=by decide+kernel
 exact this ⟨n,by omega⟩
theorem Kp{u:Unit_}(h:Wf u):∀n∈numbersOf u,n≤1000:=by
 obtain⟨b1,b2,b3,b4,b5,b6,b7,b8,b9,b10,b11,b12,a1,a2,a3⟩:=h
 intro n hn
 unfold numbersOf at hn
 simp only[QM,Q8,or_false]at hn
 rcases hn with h|h|h|h|h|h|h|h<;>omega
theorem Ie{u:Unit_}(h:Wf u):∀t∈AB u,t.length≤8:=by
 intro t ht
 unfold AB at ht
 rcases QM.mp ht with rfl|ht
 ·exact h.Pk
 ·obtain⟨n,hn,rfl⟩:=QV.mp ht
  have:=Hx (Kp h n hn)
  omega
def Lf(x:Text×Text):Text:=x.1++[32]++x.2++[32]
theorem Kj(a b:Text):nV a++nV b=nV (a++b):=by unfold nV;rw[Rl]
theorem zP{u:Unit_}(h:Wf u):∀i,((((eR.zip (AB u)).take i).flatMap Lf).length≤i*15):=by
 intro i
 induction i with
 | zero=>simp
 | succ i ih =>
  cases e:(eR.zip (AB u))[i]? with
  | none =>
   rw[Rk (by have:=RT.mp e;omega)]
   rw[Rk (by have:=RT.mp e;omega)]at ih
   omega
  | some x =>
   rw[br e,RH,QN]
   have hx:=QL e
   have h1:=Ie h x.2 (TM hx).2
   have h3:(Lf x).length=x.1.length+x.2.length+2:=by unfold Lf;simp;omega
   have h2:x.1.length≤5:=by
    have:∀t∈eR,t.length≤5:=by decide+kernel
    exact this _ (TM hx).1
   rw[Rz,h3]
   omega
theorem Cr{i:Nat}{x:Str}(h:oF[i]?=some x):eR[i]?=some (md x):=by rw[←Cq,QI,h];rfl
theorem FJ{x:Str}(h:x∈oF):x.cps.size≤1000:=by
 have:∀y∈oF,y.cps.size≤1000:=by decide+kernel
 exact this x h
def BG(C:Addr):Sp:=fun vs H Q _=>E2 fun a u=>A3 (vs=[.ref a]) (bq C H a u) (mE H Q (nV (numbersOf u)))
theorem Bc(T:Tx K mg):dJ P w base 1 T.tj (BG T.aK.C):=by
 refine T.tj.fn.ok Br (fun vs H Q E h=>?_) (fun cdv A outer s H vs Q E hr h=>?_)
 ·obtain⟨a,u,rfl,_⟩:=h
  rfl
 ·obtain⟨a,u,rfl,hU,q⟩:=h
  refine⟨_,(ag (au (aE (aa (aj (pv 0) rfl) (aa (aj (pv 0) rfl) (aa (aj (pv 0) rfl) (aa (aj (pv 0) rfl) (aa (aj (pv 0) rfl) (aa (aj (pv 0) rfl) (aa (aj (pv 0) rfl) (aa (aj (pv 0) rfl) ae))))))))))),?_⟩
  refine⟨_,rfl,ly T hU ⟨_,rfl,kH T hU ⟨_,rfl,D8 T hU ⟨_,rfl,K2 T hU ⟨_,rfl,K1 T hU ⟨_,rfl,Me T hU ⟨_,rfl,lX T hU ⟨_,rfl,AD T hU ⟨sz (by simp),fun p hp=>?_⟩⟩⟩⟩⟩⟩⟩⟩⟩
  exact q p _ (aq hp) hp af
def G7(C:Addr):Sp:=fun vs H Q _=>E2 fun a u=>A4 (vs=[.ref a]) (bq C H a u) (Wf u) (mE H Q (nV (showUnit u++[10])))
theorem GQ(T:Tx K mg):dJ P w base 2 T.qM (G7 T.aK.C):=by
 refine T.qM.fn.ok gC (fun vs H Q E h=>?_) (fun cdv A outer s H vs Q E hr h=>?_)
 ·obtain⟨a,u,rfl,_⟩:=h
  rfl
 ·obtain⟨a,u,rfl,hU,hw,q⟩:=h
  refine⟨_,(ab (ax (i:=1) gC.nd rfl (Or.inl rfl) (aE ae))
   (ab (ax (i:=2) gC.nd rfl (Or.inl rfl) (aO fO (aE (aa (aj (pv 0) rfl) ae)) (fN rfl gC.nd (bu (aA T.tj (Bc T) hr (aa (pv 0) ae))) (bj (own:=[("number",5)]) rfl) (fun _ _ _ _ _=>(aD (i:=5) gC.nd rfl (Or.inl rfl))) (fun _ _ _ _ _=>bJ) (fun _ _ _ _ _=>(aA T.pf (pR T) hr (aa (Cd CJ rfl T.GL MJ (aa (pv 5) ae)) ae))))))
   (ab (bU PassesOwn.never rfl (HM false true rfl T.iC (aa (aL (v:=.ref T.iU) rfl T.uL rfl) (aa (pv 2) ae))) (dv K (n:=2) rfl rfl (@aV _ _ _ _ _ (@aD _ _ 3 _ gC.nd rfl (Or.inl rfl) (by first|exact .inl rfl|exact .inr rfl)) (@aV _ _ _ _ _ (@aD _ _ 4 _ gC.nd rfl (Or.inl rfl) (by first|exact .inl rfl|exact .inr rfl)) dw rfl) rfl) rfl rfl) (ag (aX (dH PySem.F.plainAttrs_list PySem.F.slot_list_extend PySem.F.type_list_extend cB (pv 1) (aa (aO fO (aO fO (aO fO (aA T.pf (pR T) hr (aa (pv 3) ae)) (aE (aa (aL (v:=.int (32)) rfl T.uK ⟨_,rfl⟩) ae))) (pv 4)) (aE (aa (aL (v:=.int (32)) rfl T.uK ⟨_,rfl⟩) ae))) ae)))))
   (ab (DJ (aL (v:=.int (10)) rfl T.j9 ⟨_,rfl⟩) (DG (pv 1) (oN jB ak) set_list))
   (ag (au (pv 1))))))),?_⟩
  refine⟨sz (by simp),fun p hp=>?_⟩
  have s1:=aq (o:=.lst []) hp
  have hU1:=hU.same s1
  obtain⟨dx,na,u1,u2⟩:=hU
  refine⟨_,rfl,fc (s1 _ _ u1) T.aK.cls T.gG rfl ⟨sz (by simp),fun b hb=>?_⟩⟩
  have s2:=s1.trans (aq (o:=.lst [V.ref na]) hb)
  refine⟨_,rfl,a,u,rfl,bq.same ⟨dx,na,u1,u2⟩ s2,fun l H3 s3 hl0 hl=>?_⟩
  have s13:=s2.trans s3
  refine⟨l,rfl,⟨_,aF.of hl⟩,fun D hD=>?_⟩
  refine bt (bw _ l (nV (numbersOf u))) (JB fun i r Hh=>OD ((numbersOf u).map decimal) i r (Nw (upd H p (.lst [])) Hh)) (jb fun i r _ _ ss h=>pM _ i r _ _ (jO ss) h) (sz (by rw[bx];simp[numbersOf])) hD (fun H5 s5=>aF.of (s5 _ _ hl)) (fun i v H5 H6 R hi s5 hne xy kk=>?_) (fun H5 B5=>?_)
  ·obtain⟨rfl,e⟩:=xy
   rw[bx]at hi
   obtain⟨n,en⟩:∃n,(numbersOf u)[i]?=some n:=⟨_,QJ hi⟩
   rw[pO en]at e
   cases e
   have n1000:=Kp hw n (QL en)
   refine⟨rfl,_,rfl,_,rfl,?_,_,rfl,?_,fun m H7 s7 hm=>?_⟩
   ·rw[Int.natAbs_natCast]
    by_cases z:n=0
    ·subst z;decide
    ·exact(Nat.log2_lt z).mpr (So n1000 (by decide+kernel))
   ·have:=Hx n1000
    rw[←uF n]at this
    unfold md at this
    rw[Uc]at this
    omega
   ·rw[uF]at hm
    obtain⟨m1,m2⟩:=dE hm
    refine kk _ _ s7 ⟨m,rfl,decimal n,?_,ia ?_ ((((aq (o:=.lst [V.ref na]) hb).trans s3).trans s5).free m2)⟩
    ·rw[QI,en];rfl
    ·rw[kd (fun e=>hne (by rw[←e];exact m2))];exact m1
  ·have L:=B5.lr fun i r _ _ ss h=>pM _ i r _ _ (jO ss) h
   have s5:=B5.cK
   obtain⟨ms,g1,g2,g3⟩:=L
   have g2:ms.length=8:=g2
   have s15:=s13.trans s5
   refine⟨b,D,[V.ref na],ms.map V.ref,rfl,rfl,s5 _ _ (s3 _ _ af),g1,sz (by rw[QH];simp;omega),fun tk htk=>?_⟩
   have s6:=aq (o:=.lst ([V.ref na]++ms.map V.ref)) htk
   have s16:=s15.trans s6
   have htk5:H5 tk=none:=htk
   have htk0:=s15.free htk
   have TK:∀(i:Nat)(r:Addr),(na::ms)[i]?=some r→∃t,(AB u)[i]?=some t∧(upd H5 tk (.lst ([V.ref na]++ms.map V.ref))) r=some (.lst (nV t))∧r≠p:=fun i r er=>by
    cases i with
    | zero =>
     cases er
     exact⟨u.name,rfl,s16 _ _ u2,ao u2 hp⟩
    | succ i =>
     obtain⟨t,e1,e2⟩:=g3 i r er
     obtain⟨e3,e4⟩:=dE e2
     refine⟨t,e1,s6 _ _ e3,fun z=>?_⟩
     rw[z,af]at e4
     cases e4
   have hpp:=s6 _ _ (s5 _ _ (s3 _ _ ((aq (o:=.lst [V.ref na]) hb) _ _ (af (H:=H) (a:=p) (o:=.lst [])))))
   have ntk:tk≠p:=fun z=>by
    rw[z]at htk
    rw[s5 _ _ (s3 _ _ ((aq (o:=.lst [V.ref na]) hb) _ _ (af (H:=H) (a:=p) (o:=.lst []))))]at htk
    cases htk
   have htkL:(upd H5 tk (.lst ([V.ref na]++ms.map V.ref))) tk=some (.lst ((na::ms).map V.ref)):=af
   generalize upd H5 tk (.lst ([V.ref na]++ms.map V.ref))=HT at *
   refine⟨_,rfl,T.iU,tk,oF.map V.str,(na::ms).map V.ref,rfl,T.mJ _,aF.of htkL,?_⟩
   have mn:min (oF.map V.str).length ((na::ms).map V.ref).length=9:=by rw[QH,QH,Q2,g2];rfl
   refine bC (Ig false true K T.iU tk (oF.map V.str) ((na::ms).map V.ref)) (fun i σ H2=>E3 fun v1 v2 v3=>A3 (σ=[some (.ref a),some (.ref p),some (.ref tk),v1,v2,v3]) ((∀b o,HT b=some o→b≠p→H2 b=some o)) (H2 p=some (.lst (nV (((eR.zip (AB u)).take i).flatMap Lf)))))
    ⟨none,none,none,rfl,fun b o e _=>e,hpp⟩ (fun i σ H2 _ hh=>by obtain⟨_,_,_,_,f2,_⟩:=hh;exact⟨T.mJ _,aF.of (f2 _ _ htkL ntk)⟩) (fun i x σ H2 H3 hi pv xy=>?_) (fun σ H2 pv=>?_)
   ·obtain⟨v1,v2,v3,rfl,f2,hp2⟩:=pv
    obtain⟨t,x',y',rfl,ht,rfl,e1,e2⟩:=xy
    rw[mn]at hi
    rw[QI]at e1 e2
    obtain⟨wd,ew,rfl⟩:=QQ.mp e1
    obtain⟨r,er,rfl⟩:=QQ.mp e2
    obtain⟨tx,etx,htx,nrp⟩:=TK i r er
    have s7:=aq (o:=.tup [V.str wd,V.ref r]) ht
    have pl:=zP hw i
    have ez:(eR.zip (AB u))[i]?=some (md wd,tx):=Tn.mpr ⟨Cr ew,etx⟩
    have l8:=Ie hw tx (QL etx)
    have l5:(md wd).length≤5:=by
     have:∀t∈eR,t.length≤5:=by decide+kernel
     exact this _ (QL (Cr ew))
    refine⟨t,_,rfl,eQ.of af,rfl,_,_,rfl,_,_,rfl,rfl,?_⟩
    refine⟨_,rfl,.inl ⟨rfl,_,aF.of (s7 _ _ hp2)⟩,_,rfl,wd,rfl,FJ (QL ew),fun b1 H8 s8 hb1=>?_⟩
    obtain⟨hb1,_⟩:=dE hb1
    have s78:=s7.trans s8
    refine⟨sz (by simp),fun b2 hb2=>?_⟩
    have s9:=aq (o:=.lst [V.int 32]) hb2
    refine⟨b1,b2,_,_,rfl,rfl,s9 _ _ hb1,af,sz (by rw[bx];simp;omega),fun b3 hb3=>?_⟩
    have s10:=aq (o:=.lst (nV (md wd)++[V.int 32])) hb3
    refine⟨_,rfl,b3,r,_,_,rfl,rfl,af,s10 _ _ (s9 _ _ (s78 _ _ (f2 _ _ htx nrp))),sz (by rw[bx,QN,bx];simp;omega),fun b4 hb4=>?_⟩
    have s11:=aq (o:=.lst (nV (md wd)++[V.int 32]++nV tx)) hb4
    refine⟨sz (by simp),fun b5 hb5=>?_⟩
    have s12:=aq (o:=.lst [V.int 32]) hb5
    refine⟨b4,b5,_,_,rfl,rfl,s12 _ _ af,af,sz (by rw[QN,bx,QN,bx];simp;omega),fun b6 hb6=>?_⟩
    have s17:=(((s78.trans s9).trans s10).trans s11).trans (s12.trans (aq (o:=.lst (nV (md wd)++[V.int 32]++nV tx++[V.int 32])) hb6))
    have eqp:nV (md wd)++[V.int 32]++nV tx++[V.int 32]=nV (Lf (md wd,tx)):=by
     unfold Lf nV
     simp
    have pcl:(Lf (md wd,tx)).length=(md wd).length+tx.length+2:=by unfold Lf;simp;omega
    refine⟨p,b6,_,_,rfl,rfl,s17 _ _ hp2,af,sz (by rw[eqp,bx,bx];omega),_,_,_,rfl,fun b o e n=>by rw[ah n];exact s17 _ _ (f2 _ _ e n),?_⟩
    rw[af,eqp,Kj,br ez,RH,Rz]
   ·obtain⟨v1,v2,v3,rfl,f2,hp2⟩:=pv
    have e9:((eR.zip (AB u)).take 9).flatMap Lf=showUnit u++[32]:=by
     obtain⟨A',p1,p2⟩:=uQ u
     rw[p2,←p1]
     rfl
    rw[mn,e9]at hp2
    refine⟨_,rfl,_,rfl,p,_,_,(showUnit u).length,rfl,rfl,hp2,?_,?_⟩
    ·unfold J9
     rw[bx,QN,TX,if_neg (by decide),if_pos (by omega)]
     congr 1
     omega
    ·refine⟨_,rfl,q p _ (fun b o e=>?_) hp ?_⟩
     ·rw[ah (ao e hp)]
      exact f2 _ _ (s16 _ _ e) (ao e hp)
     ·rw[af]
      congr 2
      unfold nV
      rw[Rl,Rl,List.set_append_right _ _ (by simp)]
      simp
def Ha{mg:Str→Option Value}(T:Tx K mg):Sp:=fun vs H Q _=>E2 fun a us=>A5 (vs=[.ref a]) (cQ T.aK.C H a us) (lY us) (us.length≤4) (mE H Q (nV (showUnits us)))
theorem Fm{u:Unit_}(h:Wf u):(showUnit u++[10]).length≤135:=by
 obtain⟨A',p1,p2⟩:=uQ u
 have:=zP h 9
 have e:((eR.zip (AB u)).take 9).flatMap Lf=wF u:=rfl
 rw[e,p1]at this
 rw[p2]
 simpa using this
theorem Ck{us:List Unit_}(h:lY us):∀i,(showUnits (us.take i)).length≤i*135:=fun i=>by
 induction i with
 | zero=>simp[showUnits]
 | succ i ih =>
  cases e:us[i]? with
  | none =>
   rw[Rk (by have:=RT.mp e;omega)]
   rw[Rk (by have:=RT.mp e;omega)]at ih
   omega
  | some u =>
   have:=Fm (h u (QL e))
   unfold showUnits at ih ⊢
   rw[br e,RH,QN,Rz]
   omega
theorem GS(T:Tx K mg):dJ P w base 3 T.D7 (Ha T):=by
 refine T.D7.fn.ok tY (fun vs H Q E h=>?_) (fun cdv A outer s H vs Q E hr h=>?_)
 ·obtain⟨a,us,rfl,_⟩:=h
  rfl
 ·obtain⟨a,us,rfl,hU,hw,h4,q⟩:=h
  refine⟨_,(ab (ax (i:=1) tY.nd rfl (Or.inl rfl) (aE ae))
   (ab (bU PassesOwn.never rfl (bu (pv 0)) (aD (i:=2) tY.nd rfl (Or.inl rfl)) (ag (aX (dH PySem.F.plainAttrs_list PySem.F.slot_list_extend PySem.F.type_list_extend cB (pv 1) (aa (aA T.qM (GQ T) hr (aa (pv 2) ae)) ae)))))
   (ag (au (pv 1))))),?_⟩
  obtain⟨rs,h1,h2,h3⟩:=hU.get
  refine⟨sz (by simp),fun p hp=>?_⟩
  have s1:=aq (o:=.lst []) hp
  refine⟨_,rfl,a,rfl,⟨_,aF.of (s1 _ _ h1)⟩,?_⟩
  refine bC (bw _ a (rs.map V.ref)) (fun i σ H2=>∃v,A3 (σ=[some (.ref a),some (.ref p),v]) (aN H H2) (H2 p=some (.lst (nV (showUnits (us.take i)))))) ⟨none,rfl,s1,af⟩ (fun i σ H2 _ hh=>by obtain⟨_,_,s2,_⟩:=hh;exact aF.of (s2 _ _ h1)) (fun i x σ H2 H3 hi pv xy=>?_) (fun σ H2 pv=>?_)
  ·obtain⟨v,rfl,s2,hp2⟩:=pv
   obtain⟨rfl,e⟩:=xy
   rw[QI]at e
   obtain⟨r,er,rfl⟩:=QQ.mp e
   obtain⟨u,eu,hA⟩:=h3 i r er
   have hu:=hw u (QL eu)
   have sl:=Fm hu
   have sls:=Ck hw i
   have il:i<us.length:=(QO.mp eu).1
   refine⟨_,rfl,.inl ⟨rfl,_,aF.of hp2⟩,_,rfl,r,u,rfl,hA.same s2,hu,fun l H4 s4 hl0 hl=>?_⟩
   refine⟨p,l,_,_,rfl,rfl,s4 _ _ hp2,hl,sz (by rw[bx,bx];omega),_,rfl,fun b o e=>by rw[ah (ao e hp)];exact s4 _ _ (s2 _ _ e),?_⟩
   rw[af,Kj,br eu]
   unfold showUnits
   rw[RH,Rz]
  ·obtain⟨v,rfl,s2,hp2⟩:=pv
   rw[QH,h2,RF]at hp2
   exact⟨_,rfl,q p _ s2 hp hp2⟩
open Vbbcag (readUnits)
theorem cP.alive{T:Tx K mg}{H:Hp}{a:Addr}{s:State}{A:qE}{k:Nat}(p:cP T H a s A k){b:Addr}(h:b∈aJ a A):H b≠none:=by
 have ne:∀{o:HO},H b=some o→H b≠none:=fun e z=>by rw[e]at z;cases z
 unfold aJ at h
 simp only[QM]at h
 rcases h with rfl|rfl|rfl|rfl|rfl|h
 ·obtain⟨dx,gv,e,_⟩:=p.obj;exact ne e
 ·exact ne p.modes
 ·exact ne p.loads
 ·exact ne p.eS
 ·obtain⟨rts,e,_⟩:=p.tabs;exact ne e
 ·obtain⟨i,hi,e⟩:=List.mem_iff_getElem.mp h
  have e1:A.lH[i]?=some b:=by rw[QJ hi,e]
  have hl:i<s.hours.length:=by rw[←p.jR];exact hi
  exact ne (p.rows i b _ e1 (QJ hl))
def bV(T:Tx K mg)(H:Hp)(Q:VK)(a:Addr)(s:State)(A:qE)(c:Vbbcag.Call):Prop :=
 ∀(l:Addr)(H':Hp)(A':qE),aI T H' a (Vbbcag.step s c).1 A'→A'.ex=A.ex→Frame (aJ a A) (aJ a A') H H'→H' l=some (.lst (zV (Vbbcag.step s c).2))→l∉cf a A'→(Vbbcag.step s c).2.length≤2000→Q (.ref l) H'
theorem zd{T:Tx K mg}{H:Hp}{a:Addr}{s:State}{A:qE}{k:Nat}(p:cP T H a s A k){l:Addr}(h:H l=none):l∉cf a A:=fun m=>by
 unfold cf at m
 rcases RB.mp m with m|m
 ·exact p.alive m h
 ·exact(p.vB _ m).2 h
theorem bV.fin{T:Tx K mg}{H:Hp}{Q:VK}{a:Addr}{s:State}{A:qE}{c:Vbbcag.Call}(q:bV T H Q a s A c){H':Hp}{A':qE}{s':State}{xs:List Int}{l:Addr}(p:aI T H' a s' A')(ex:A'.ex=A.ex)(F:Frame (aJ a A) (aJ a A') H H')(hl:H' l=none)(e:Vbbcag.step s c=(s',xs))(n:xs.length≤2000):Q (.ref l) (upd H' l (.lst (zV xs))):=by
 have sm:=aq (o:=.lst (zV xs)) hl
 unfold bV at q
 rw[e]at q
 exact q l _ A' (p.same sm) ex (F.trans (Frame.of sm)) af (zd p hl) n
theorem bV.put{T:Tx K mg}{H:Hp}{Q:VK}{a:Addr}{s:State}{A:qE}{c:Vbbcag.Call}(q:bV T H Q a s A c){H':Hp}{s':State}{xs:List Int}{l:Addr}(p:aI T H' a s' A)(F:Frame (aJ a A) (aJ a A) H H')(hl:H' l=none)(e:Vbbcag.step s c=(s',xs))(n:xs.length≤2000):Q (.ref l) (upd H' l (.lst (zV xs))):=q.fin p rfl F hl e n
theorem Gx{M:List Addr}(H:Hp):Frame M M H H:=Frame.of (aN.refl H)
def BB(T:Tx K mg):Sp:=fun vs H Q _=>E4 fun a g s A=>A3 (vs=[.ref a,.ref g]) (aI T H a s A) (bV T H Q a s A .least)
theorem A0(T:Tx K mg):dJ P w base 10 T.iw (BB T):=by
 refine T.iw.fn.ok rG (fun vs H Q E h=>?_) (fun cdv A outer s H vs Q E hr h=>?_)
 ·obtain⟨a,g,s,A,rfl,_⟩:=h
  rfl
 ·obtain⟨a,g,s,A,rfl,p,q⟩:=h
  refine⟨_,(ab (ax (i:=2) rG.nd rfl (Or.inl rfl) (aA T.iy (iY T) hr (aa (pv 0) ae)))
   (ab (bf (aM fP (pv 2) bR (aQ _)) (ag (au (aE (aa (aL (v:=.int (-4)) rfl T.i9 ⟨_,rfl⟩) ae)))) aP)
   (ag (au (aE (aa ak (aa (pv 2) ae))))))),?_⟩
  refine⟨_,rfl,a,s,A,rfl,p,fun H1 p1 F1=>?_⟩
  cases e:toCome s with
  | none =>
   refine⟨_,rfl,rfl,_,rfl,bP ⟨sz (by simp),fun l hl=>?_⟩⟩
   exact q.put p1 F1 hl (xs:=[-4]) (by simp only[Vbbcag.step,e];rfl) (by simp)
  | some c =>
   refine⟨_,rfl,rfl,_,rfl,dg ⟨_,rfl,sz (by simp),fun l hl=>?_⟩⟩
   exact q.put p1 F1 hl (xs:=[0,(c:Int)]) (by simp only[Vbbcag.step,e];rfl) (by simp)
def Al(T:Tx K mg):Sp:=fun vs H Q _=>E4 fun a g s A=>A3 (vs=[.ref a,.ref g]) (aI T H a s A) (bV T H Q a s A .anchor)
theorem zG(T:Tx K mg):dJ P w base 10 T.gF (Al T):=by
 refine T.gF.fn.ok qm (fun vs H Q E h=>?_) (fun cdv A outer s H vs Q E hr h=>?_)
 ·obtain⟨a,g,s,A,rfl,_⟩:=h
  rfl
 ·obtain⟨a,g,s,A,rfl,p,q⟩:=h
  refine⟨_,(ab (ax (i:=2) qm.nd rfl (Or.inl rfl) (aA T.iy (iY T) hr (aa (pv 0) ae)))
   (ab (bf (aM fP (pv 2) bR (aQ _)) (ag (au (aE (aa (aL (v:=.int (-4)) rfl T.i9 ⟨_,rfl⟩) ae)))) aP)
   (ab (aX (mw (pv 0) T.aw.cls T.j3 (uY T) hr (aa (pv 2) ae)))
   (ag (au (aE (aa ak (aa (pv 2) ae)))))))),?_⟩
  refine⟨_,rfl,a,s,A,rfl,p,fun H1 p1 F1=>?_⟩
  cases e:toCome s with
  | none =>
   refine⟨_,rfl,rfl,_,rfl,bP ⟨sz (by simp),fun l hl=>?_⟩⟩
   exact q.put p1 F1 hl (xs:=[-4]) (by simp only[Vbbcag.step,e];rfl) (by simp)
  | some c =>
   refine⟨_,rfl,rfl,_,rfl,dg ?_⟩
   obtain⟨dx,fs,hA,hF⟩:=p1.nm (m:="set_mark") fun gv=>rfl
   refine⟨_,rfl,a,dx,fs,rfl,hA,hF,_,rfl,a,s,A,c,rfl,p1,fun H2 p2 F2=>?_⟩
   refine⟨_,rfl,sz (by simp),fun l hl=>?_⟩
   exact q.put p2 (F1.trans F2) hl (xs:=[0,(c:Int)]) (by simp only[Vbbcag.step,e];rfl) (by simp)
def Aq(T:Tx K mg):Sp:=fun vs H Q _=>E4 fun a g s A=>A3 (vs=[.ref a,.ref g]) (aI T H a s A) (bV T H Q a s A .regret)
theorem zK(T:Tx K mg):dJ P w base 10 T.gI (Aq T):=by
 refine T.gI.fn.ok qp (fun vs H Q E h=>?_) (fun cdv A outer s H vs Q E hr h=>?_)
 ·obtain⟨a,g,s,A,rfl,_⟩:=h
  rfl
 ·obtain⟨a,g,s,A,rfl,p,q⟩:=h
  refine⟨_,(ab (bf (aM fP (aj (pv 0) rfl) bR (aQ _)) (ag (au (aE (aa (aL (v:=.int (-3)) rfl T.cD ⟨_,rfl⟩) ae)))) aP)
   (ab (ax (i:=2) qp.nd rfl (Or.inl rfl) (aA T.iy (iY T) hr (aa (pv 0) ae)))
   (ab (bf (aM fP (pv 2) bR (aQ _)) (ag (au (aE (aa (aL (v:=.int (-4)) rfl T.i9 ⟨_,rfl⟩) ae)))) aP)
   (ag (au (aE (aa ak (aa (aO de (aO bz (aj (pv 0) rfl) (pv 2)) (aj (pv 0) rfl)) ae)))))))),?_⟩
  refine⟨_,rfl,p.Ew ⟨rfl,_,rfl,?_⟩⟩
  cases em:s.mark with
  | none =>
   refine bP ⟨sz (by simp),fun l hl=>?_⟩
   exact q.put p (Gx H) hl (xs:=[-3]) (by simp only[Vbbcag.step,em];rfl) (by simp)
  | some m =>
   refine dg ?_
   refine⟨_,rfl,a,s,A,rfl,p,fun H1 p1 F1=>?_⟩
   cases e:toCome s with
   | none =>
    refine⟨_,rfl,rfl,_,rfl,bP ⟨sz (by simp),fun l hl=>?_⟩⟩
    exact q.put p1 F1 hl (xs:=[-4]) (by simp only[Vbbcag.step,em,e];rfl) (by simp)
   | some c =>
    refine⟨_,rfl,rfl,_,rfl,dg ?_⟩
    refine⟨_,rfl,p1.C4 ⟨_,rfl,_,_,rfl,rfl,_,rfl,p1.Ew ?_⟩⟩
    rw[em]
    refine⟨_,_,rfl,rfl,sz (by simp),fun l hl=>?_⟩
    exact q.put p1 F1 hl (xs:=[0,((s.spent:Nat):Int)+(c:Int)-((m.1+m.2:Nat):Int)]) (by simp only[Vbbcag.step,em,e];simp[Vbbcag.yes]) (by simp)
theorem AG:∀{l:List Int},(∀z∈l,0≤z)→zV l=nV (l.map TV)
 | [],_=>rfl
 | z::l,h=>by
  have h1:=h z (by simp)
  have:=AG (l:=l) fun y hy=>h y (by simp[hy])
  unfold zV nV at this ⊢
  rw[RC,RC,RC,this]
  congr 2
  omega
theorem HJ(l:List Nat):nV l=zV (Vbbcag.ints l):=by unfold nV zV Vbbcag.ints;rw[Sd];rfl
theorem ints_app(a b:List Nat):Vbbcag.ints (a++b)=Vbbcag.ints a++Vbbcag.ints b:=by unfold Vbbcag.ints;rw[Rl]
theorem uO(a:List Nat):(Vbbcag.ints a).length=a.length:=by unfold Vbbcag.ints;rw[QH]
theorem lx{s:State}{t:Int}(h:toCome? s t=true):(s.now:Int)≤t∧t<(s.hours.length:Int):=by
 unfold toCome? Vbbcag.from_ at h
 have:=of_decide_eq_true h
 omega
theorem yI{s:State}{t:Int}(h:Vbbcag.isUnit s t=true):0≤t∧t<(s.units.length:Int):=by
 unfold Vbbcag.isUnit Vbbcag.from_ at h
 have:=of_decide_eq_true h
 omega
theorem EM{α:Type}{l:List α}{t:Nat}{x:α}{f g:α→α}(h:l[t]?=some x)(e:f x=g x):l.modify t f=l.modify t g:=by
 apply SF
 intro i
 rw[S0,S0]
 by_cases c:t=i
 ·subst c;rw[h];simp[e]
 ·simp[c]
theorem cP.Dq{T:Tx K mg}{H:Hp}{a:Addr}{s:State}{A:qE}{k:Nat}(p:cP T H a s A k){t:Nat}{h:Hour}(e:s.hours[t]?=some h):(yg s.hours)[t]?=some (.int (h.load:Nat)):=by
 unfold yg;rw[QI,e];rfl
def BO(T:Tx K mg):Sp:=fun vs H Q _=>E5 fun a g s A (t:Int)=>A4 (vs=[.ref a,.ref g]) (aI T H a s A) (H g=some (.lst (zV [t]))) (bV T H Q a s A (.worth t))
theorem Bk(T:Tx K mg):dJ P w base 10 T.iS (BO T):=by
 refine T.iS.fn.ok i7 (fun vs H Q E h=>?_) (fun cdv A outer s H vs Q E hr h=>?_)
 ·obtain⟨a,g,s,A,t,rfl,_⟩:=h
  rfl
 ·obtain⟨a,g,s,A,t,rfl,p,hG,q⟩:=h
  refine⟨_,(ab (ax (i:=2) i7.nd rfl (Or.inl rfl) (aT aG (pv 1) ak (fun _ _=>rfl)))
   (ab (bf (cF (bS (aA T.dP (c9 T) hr (aa (pv 0) (aa (pv 2) ae))))) (ag (au (aE (aa (aL (v:=.int (-1)) rfl T.aZ ⟨_,rfl⟩) ae)))) aP)
   (ab (ax (i:=3) i7.nd rfl (Or.inl rfl) (aA T.iy (iY T) hr (aa (pv 0) ae)))
   (ab (bf (aM fP (pv 3) bR (aQ _)) (ag (au (aE (aa (aL (v:=.int (-4)) rfl T.i9 ⟨_,rfl⟩) ae)))) aP)
   (ab (ax (i:=4) i7.nd rfl (Or.inl rfl) (aA T.jt (tF T) hr (aa (pv 0) (aa (pv 2) (aa (aO bz (aT aG (aj (pv 0) rfl) (pv 2) (fun _ _=>rfl)) ak) ae)))))
   (ab (bf (aM fP (pv 4) bR (aQ _)) (ag (au (aE (aa ak (aa ak ae))))) aP)
   (ag (au (aE (aa ak (aa ak (aa (aO de (pv 4) (pv 3)) ae)))))))))))),?_⟩
  refine⟨_,rfl,g,_,_,_,rfl,rfl,aF.of hG,at_of (j:=0) rfl rfl,?_⟩
  refine⟨_,rfl,_,rfl,a,s,A,100,t,rfl,p,_,rfl,?_⟩
  cases c:toCome? s t with
  | false =>
   refine bP ⟨sz (by simp),fun l hl=>?_⟩
   exact q.put p (Gx H) hl (xs:=[-1]) (by simp only[Vbbcag.step];exact if_pos c) (by simp)
  | true =>
   refine dg ?_
   obtain⟨c1,c2⟩:=lx c
   obtain⟨n,rfl⟩:∃n:Nat,t=(n:Int):=⟨t.toNat,by omega⟩
   obtain⟨h,eh⟩:∃h,s.hours[n]?=some h:=⟨_,QJ (by omega)⟩
   refine⟨_,rfl,a,s,A,rfl,p,fun H1 p1 F1=>?_⟩
   cases e:toCome s with
   | none =>
    refine⟨_,rfl,rfl,_,rfl,bP ⟨sz (by simp),fun l hl=>?_⟩⟩
    exact q.put p1 F1 hl (xs:=[-4]) (by simp only[Vbbcag.step];rw[if_neg (fun z=>by rw[show Vbbcag.from_ _ _ _=true from c]at z;cases z),e];rfl) (by simp)
   | some c0 =>
    refine⟨_,rfl,rfl,_,rfl,dg ?_⟩
    have el:toCome (setHour s n fun h=>{h with load:=h.load+1})=toCome (setHour s n fun h'=>{h' with load:=h.load+1}):=by
     unfold setHour
     rw[EM eh (f:=fun h=>{h with load:=h.load+1}) (g:=fun h'=>{h' with load:=h.load+1}) rfl]
    refine⟨_,rfl,_,rfl,_,rfl,p1.dm ⟨_,rfl,A.pl,_,_,_,rfl,rfl,aF.of p1.loads,at_of (j:=n) rfl (p1.Dq eh),_,_,rfl,rfl,a,s,A,n,h.load+1,rfl,p1,by omega,by omega,fun H2 p2 F2=>?_⟩⟩
    have F:=F1.trans F2
    cases e2:toCome (setHour s n fun h'=>{h' with load:=h.load+1})with
    | none =>
     refine⟨_,rfl,rfl,_,rfl,bP ⟨sz (by simp),fun l hl=>?_⟩⟩
     exact q.put p2 F hl (xs:=[0,0]) (by simp only[Vbbcag.step];rw[if_neg (fun z=>by rw[show Vbbcag.from_ _ _ _=true from c]at z;cases z),e,QW,el,e2];rfl) (by simp)
    | some c1 =>
     refine⟨_,rfl,rfl,_,rfl,dg ?_⟩
     refine⟨_,rfl,_,rfl,_,_,rfl,rfl,sz (by simp),fun l hl=>?_⟩
     exact q.put p2 F hl (xs:=[0,1,(c1:Int)-(c0:Int)]) (by simp only[Vbbcag.step];rw[if_neg (fun z=>by rw[show Vbbcag.from_ _ _ _=true from c]at z;cases z),e,QW,el,e2];rfl) (by simp)
def DZ(T:Tx K mg):Sp:=fun vs H Q _=>E4 fun a g s A=>A3 (vs=[.ref a,.ref g]) (aI T H a s A) (bV T H Q a s A .plan)
theorem DA(T:Tx K mg):dJ P w base 10 T.jX (DZ T):=by
 refine T.jX.fn.ok vn (fun vs H Q E h=>?_) (fun cdv A outer s H vs Q E hr h=>?_)
 ·obtain⟨a,g,s,A,rfl,_⟩:=h
  rfl
 ·obtain⟨a,g,s,A,rfl,p,q⟩:=h
  refine⟨_,(ab (ax (i:=2) vn.nd rfl (Or.inl rfl) (aA T.pX (zJ T) hr (aa (pv 0) ae)))
   (ab (bf (aM fP (pv 2) bR (aQ _)) (ag (au (aE (aa (aL (v:=.int (-4)) rfl T.i9 ⟨_,rfl⟩) ae)))) aP)
   (ag (au (aO fO (aE (aa ak ae)) (pv 2)))))),?_⟩
  refine⟨_,rfl,a,s,A,rfl,p,fun en H1 p1 F1=>?_,fun pl en l H1 p1 F1 hl0 hl1 ln=>?_⟩
  ·refine⟨_,rfl,rfl,_,rfl,bP ⟨sz (by simp),fun l hl=>?_⟩⟩
   exact q.put p1 F1 hl (xs:=[-4]) (by simp only[Vbbcag.step];rw[pV,en];rfl) (by simp)
  ·refine⟨_,rfl,rfl,_,rfl,dg ⟨sz (by simp),fun b hb=>?_⟩⟩
   have s2:=aq (o:=.lst [V.int 0]) hb
   refine⟨_,rfl,b,l,_,_,rfl,rfl,af,s2 _ _ hl1,sz (by rw[bx];simp;omega),fun m hm=>?_⟩
   have e:[V.int 0]++nV (uR pl)=zV (0::Vbbcag.ints (uR pl)):=by rw[HJ];rfl
   rw[e]
   refine q.put (p1.same s2) (F1.trans (Frame.of s2)) hm ?_ (by rw[Q2,uO];omega)
   simp only[Vbbcag.step]
   rw[pV,en]
   have ef:∀pl:List Modes,(pl.flatMap fun l=>Vbbcag.ints (l.map levelOf))=Vbbcag.ints (uR pl):=fun pl=>by
    induction pl with
    | nil=>rfl
    | cons x r ih=>rw[Sm,ih];unfold uR;rw[Sm,ints_app]
   show(s,0::(pl.flatMap fun l=>Vbbcag.ints (l.map levelOf)))=_
   rw[ef]
def Bx(T:Tx K mg):Sp:=fun vs H Q _=>E6 fun a g r s A (l:List Int)=>A6 (vs=[.ref a,.ref g]) (aI T H a s A) (H g=some (.lst [.ref r])) (H r=some (.lst (zV l))) (l.length≤300) (bV T H Q a s A (.check l))
theorem AY(T:Tx K mg):dJ P w base 8 T.ik (Bx T):=by
 refine T.ik.fn.ok rF (fun vs H Q E h=>?_) (fun cdv A outer s H vs Q E hr h=>?_)
 ·obtain⟨a,g,r,s,A,l,rfl,_⟩:=h
  rfl
 ·obtain⟨a,g,r,s,A,ls,rfl,p,hG,hR,hl,q⟩:=h
  refine⟨_,(ab (ax (i:=2) rF.nd rfl (Or.inl rfl) (aT aG (pv 1) ak (fun _ _=>rfl)))
   (ab (bf (cF (bS (aA T.j4 (lG T) hr (aa (pv 2) (aa (aL (v:=.int (60)) rfl T.jI ⟨_,rfl⟩) ae))))) (ag (au (aE (aa (aL (v:=.int (-1)) rfl T.aZ ⟨_,rfl⟩) ae)))) aP)
   (ag (au (aO fO (aE (aa ak ae)) (aA T.sV (AZ T) hr (aa (pv 0) (aa (pv 2) ae)))))))),?_⟩
  refine⟨_,rfl,g,_,_,_,rfl,rfl,aF.of hG,at_of (j:=0) rfl rfl,?_⟩
  refine⟨_,rfl,r,ls,60,rfl,hR,by omega,fun H1 s1=>⟨_,rfl,?_⟩⟩
  have p1:=p.same s1
  have F1:Frame (aJ a A) (aJ a A) H H1:=Frame.of s1
  cases c:ls.all fun z=>Vbbcag.from_ z 0 60 with
  | false =>
   refine bP ⟨sz (by simp),fun l hl=>?_⟩
   exact q.put p1 F1 hl (xs:=[-1]) (by simp only[Vbbcag.step];rw[if_pos c];rfl) (by simp)
  | true =>
   refine dg ⟨sz (by simp),fun b hb=>?_⟩
   have s2:=aq (o:=.lst [V.int 0]) hb
   have nn:zV ls=nV (ls.map TV):=AG fun z hz=>by
    have:=R3.mp c z hz
    unfold Vbbcag.from_ at this
    exact(of_decide_eq_true this).1
   have hR2:=s2 _ _ (s1 _ _ hR)
   rw[nn]at hR2
   refine⟨_,rfl,_,rfl,a,r,s,A,100,ls.map TV,rfl,p1.same s2,hR2,by rw[QH];omega,fun l H3 s3 hl0 hl3=>?_⟩
   have s23:=s2.trans s3
   have jl:(fe s (ls.map TV)).length≤3:=by
    unfold fe
    split<;>simp
   refine⟨b,l,_,_,rfl,rfl,s3 _ _ af,hl3,sz (by rw[aB];simp;omega),fun m hm=>?_⟩
   have e:[V.int 0]++zV (fe s (ls.map TV))=zV (0::fe s (ls.map TV)):=rfl
   rw[e]
   refine q.put (p1.same s23) (F1.trans (Frame.of s23)) hm ?_ (by rw[Q2];omega)
   simp only[Vbbcag.step]
   rw[if_neg (by rw[show(ls.all fun v=>Vbbcag.from_ v 0 60)=true from c];simp)]
   unfold fe
   rw[QH]
   cases Vbbcag.look s.units 0 0 (coming s) s.modes (ls.map TV)with
   | ok c=>rfl
   | error x=>obtain⟨t,w⟩:=x;rfl
def BI(T:Tx K mg):Sp:=fun vs H Q _=>E4 fun a g s A=>A3 (vs=[.ref a,.ref g]) (aI T H a s A) (bV T H Q a s A .print)
theorem Be(T:Tx K mg):dJ P w base 4 T.iD (BI T):=by
 refine T.iD.fn.ok Bs (fun vs H Q E h=>?_) (fun cdv A outer s H vs Q E hr h=>?_)
 ·obtain⟨a,g,s,A,rfl,_⟩:=h
  rfl
 ·obtain⟨a,g,s,A,rfl,p,q⟩:=h
  refine⟨_,(ag (au (aO fO (aE (aa ak ae)) (aA T.D7 (GS T) hr (aa (aj (pv 0) rfl) ae))))),?_⟩
  refine⟨sz (by simp),fun b hb=>?_⟩
  have s1:=aq (o:=.lst [V.int 0]) hb
  have p1:=p.same s1
  have u4:=p.ok.u4
  have sl:=Ck p.ok.wf s.units.length
  rw[RF]at sl
  refine⟨_,rfl,p1.dO ⟨A.pu,s.units,rfl,p1.un,p.ok.wf,p.ok.u4,fun l H3 s3 hl0 hl3=>?_⟩⟩
  have s13:=s1.trans s3
  refine⟨b,l,_,_,rfl,rfl,s3 _ _ af,hl3,sz (by rw[bx];simp;omega),fun m hm=>?_⟩
  have e:[V.int 0]++nV (showUnits s.units)=zV (0::Vbbcag.ints (showUnits s.units)):=by rw[HJ];rfl
  rw[e]
  exact q.put (p.same s13) (Frame.of s13) hm rfl (by rw[Q2,uO];omega)
def D0(T:Tx K mg):Sp:=fun vs H Q _=>E6 fun a g r s A (t:Text)=>A6 (vs=[.ref a,.ref g]) (aI T H a s A) (H g=some (.lst [.ref r])) (H r=some (.lst (nV t))) (t.length≤1000) (bV T H Q a s A (.read t))
theorem DB(T:Tx K mg):dJ P w base 6 T.jY (D0 T):=by
 refine T.jY.fn.ok oa (fun vs H Q E h=>?_) (fun cdv A outer s H vs Q E hr h=>?_)
 ·obtain⟨a,g,r,s,A,t,rfl,_⟩:=h
  rfl
 ·obtain⟨a,g,r,s,A,t,rfl,p,hG,hR,hl,q⟩:=h
  refine⟨_,(ab (ax (i:=2) oa.nd rfl (Or.inl rfl) (aT aG (pv 1) ak (fun _ _=>rfl)))
   (ab (ax (i:=3) oa.nd rfl (Or.inl rfl) (aA T.oG (rB T) hr (aa (pv 2) ae)))
   (ab (bf (aM oM (pv 3) ak (aQ _)) (ag (au (aE (aa ak (aa ak (aa (pv 3) ae)))))) aP)
   (ag (au (aE (aa ak (aa ak (aa (aH az rfl T.ba bh (aa (aA T.pI (pT T) hr (aa (pv 2) ae)) ae)) ae))))))))),?_⟩
  refine⟨_,rfl,g,_,_,_,rfl,rfl,aF.of hG,at_of (j:=0) rfl rfl,?_⟩
  refine⟨_,rfl,r,t,rfl,hR,hl,fun H1 s1=>?_⟩
  refine⟨_,rfl,_,_,rfl,rfl,_,rfl,?_⟩
  refine bF (fun c=>?_) (fun c=>?_)
  ·have c:(0:Int)<(fQ t:Int):=of_decide_eq_true c
   refine⟨_,rfl,sz (by simp),fun l hl=>?_⟩
   exact q.put (p.same s1) (Frame.of s1) hl (xs:=[0,0,(fQ t:Int)]) (by simp only[Vbbcag.step];rw[jQ,if_pos (by omega)];rfl) (by simp)
  ·have c:¬(0:Int)<(fQ t:Int):=fun z=>c (decide_eq_true z)
   have w0:fQ t=0:=by omega
   obtain⟨w1,w2,w3⟩:=Ho w0
   obtain⟨f1,f2⟩:=C7 readUnit _ w3
   refine⟨_,rfl,r,t,rfl,s1 _ _ hR,hl,fun l H2 s2 hL=>?_⟩
   obtain⟨rs,g1,g2,g3⟩:=hL.get
   have s12:=s1.trans s2
   refine⟨l,_,rfl,.inl (aF.of (dE g1).1),sz (by simp),fun m hm=>?_⟩
   rw[QH,g2]
   exact q.put (p.same s12) (Frame.of s12) hm (xs:=[0,1,((bI t).length:Int)]) (by simp only[Vbbcag.step];rw[jQ,if_neg (by omega)];simp only[f1];rfl) (by simp)
def BM(T:Tx K mg):Sp:=fun vs H Q _=>E5 fun a g s A (t:Int)=>A4 (vs=[.ref a,.ref g]) (aI T H a s A) (H g=some (.lst (zV [t]))) (bV T H Q a s A (.table t))
theorem Bi(T:Tx K mg):dJ P w base 9 T.iQ (BM T):=by
 refine T.iQ.fn.ok i5 (fun vs H Q E h=>?_) (fun cdv A outer s H vs Q E hr h=>?_)
 ·obtain⟨a,g,s,A,t,rfl,_⟩:=h
  rfl
 ·obtain⟨a,g,s,A,t,rfl,p,hG,q⟩:=h
  refine⟨_,(ab (ax (i:=2) i5.nd rfl (Or.inl rfl) (aT aG (pv 1) ak (fun _ _=>rfl)))
   (ab (bf (cF (zW jf jf (aj (pv 0) rfl) (pv 2) (aH az rfl T.ba bh (aa (aj (pv 0) rfl) ae)))) (ag (au (aE (aa (aL (v:=.int (-1)) rfl T.aZ ⟨_,rfl⟩) ae)))) aP)
   (ab (bf (aM rC (aH az rfl T.ba bh (aa (aj (pv 0) rfl) ae)) ak (aQ _)) (ag (au (aE (aa (aL (v:=.int (-3)) rfl T.cD ⟨_,rfl⟩) ae)))) aP)
   (ag (au (aO fO (aE (aa ak ae)) (fN rfl i5.nd (bu (aA T.eE (fH T) hr (aa (pv 0) (aa (pv 2) ae)))) (bj (own:=[("cost",3)]) rfl) (fun _ _ _ _ _=>(aD (i:=3) i5.nd rfl (Or.inl rfl))) (fun _ _ _ _ _=>bJ) (fun _ _ _ _ _=>(gR (aM km (pv 3) (aL (v:=.int (4000000000000000000)) rfl T.fD ⟨_,rfl⟩) (aQ _)) (pv 3) (aL (v:=.int (-1)) rfl T.wt ⟨_,rfl⟩)))))))))),?_⟩
  have o:=p.ok
  have sc:=o.sc
  obtain⟨rs,u1,u2,u3⟩:=p.K3
  refine⟨_,rfl,g,_,_,_,rfl,rfl,aF.of hG,at_of (j:=0) rfl rfl,?_⟩
  have hll:(yg s.hours).length=s.hours.length:=QH ..
  have no:¬((s.now:Int)≤t∧t≤(s.hours.length:Int))→∀l,H l=none→Q (.ref l) (upd H l (.lst (zV [-1]))):=fun c l hl=>by
   refine q.put p (Gx H) hl (xs:=[-1]) ?_ (by simp)
   simp only[Vbbcag.step]
   exact if_pos (decide_eq_false c)
  dsimp only[kK]
  refine iN (fun σ' H1=>σ'=[some (.ref a),some (.ref g),some (.int t),none]∧H1=H∧(s.now:Int)≤t∧t≤(s.hours.length:Int)) (fun σ' H1 hM=>?_) (fun N hN=>?_)
  ·obtain⟨rfl,rfl,c1,c2⟩:=hM
   obtain⟨n,rfl⟩:∃n:Nat,t=(n:Int):=⟨t.toNat,by omega⟩
   have st:Vbbcag.step s (.table (n:Int))=if s.units.isEmpty=true then Vbbcag.no s 3 else Vbbcag.yes s ((((Vbbcag.tables s.units (s.hours.drop n)).headD #[]).toList).map Vbbcag.told):=by
    simp only[Vbbcag.step,QW]
    exact if_neg (by rw[show Vbbcag.from_ (n:Int) (s.now:Int) (s.hours.length:Int)=true from decide_eq_true ⟨c1,c2⟩];simp)
   refine⟨_,rfl,p.dO ⟨A.pu,_,rfl,.inl (aF.of u1),rfl,_,rfl,?_⟩⟩
   rw[QH,u2]
   refine bF (fun c=>?_) (fun c=>?_)
   ·have c:s.units.length=0:=dI (j:=0) c
    refine⟨sz (by simp),fun l hl=>?_⟩
    exact q.put p (Gx H1) hl (xs:=[-3]) (by rw[st,RQ c];rfl) (by simp)
   ·have c:¬s.units.length=0:=Lb (j:=0) c
    have ne:¬s.units.isEmpty=true:=fun z=>c (by rw[UA.mp z];rfl)
    rw[if_neg ne]at st
    refine⟨sz (by simp),fun b hb=>?_⟩
    have s1:=aq (o:=.lst [V.int 0]) hb
    refine⟨_,rfl,_,rfl,a,s,A,n,rfl,p.same s1,by omega,fun r H2 p2 F2 hr2=>?_⟩
    obtain⟨e1,e2⟩:=dq hr2
    have hb2:=F2.out b _ af (fun m=>p.alive m hb)
    have R:=lq o.wf o.u4 o.fr o.oJ (s.hours.length-n) (by omega)
    have oJ:=o.oJ
    have u4:=o.u4
    have tr:=KY R (Gy _ _) (by
     have:(s.hours.length-n)*(62000*s.units.length)≤48*(62000*4):=Ti (by omega) (UW _ u4)
     unfold NP
     omega)
    rw[show s.hours.length-(s.hours.length-n)=n from Te (Sq.1 (by assumption))]at tr
    refine⟨r,rfl,⟨_,aF.of e1⟩,fun D hD=>?_⟩
    refine bt (bw _ r (zV (cY s.units s.hours (s.hours.length-n)))) (fun j y _=>(zV ((cY s.units s.hours (s.hours.length-n)).map fun z=>if z<NP then z else -1))[j]?=some y) (cI _) (sz (by rw[aB,R.1];omega)) hD (fun H3 s3=>aF.of (s3 _ _ e1)) (fun i v H3 H4 R' hi s3 hne xy kk=>?_) (fun H3 B=>?_)
    ·obtain⟨rfl,e⟩:=xy
     rw[aB]at hi
     rw[gE hi]at e
     cases e
     refine⟨rfl,_,rfl,_,_,rfl,rfl,_,rfl,?_⟩
     have el:∀z:Int,(if rd (cY s.units s.hours (s.hours.length-n)) i<NP then rd (cY s.units s.hours (s.hours.length-n)) i else -1)=z→(zV ((cY s.units s.hours (s.hours.length-n)).map fun z=>if z<NP then z else -1))[i]?=some (.int z):=fun z hz=>by
      unfold zV
      rw[QI,QI,bO hi]
      simp only[Uh]
      rw[hz]
     refine bF (fun c=>?_) (fun c=>?_)
     ·have c:rd (cY s.units s.hours (s.hours.length-n)) i<NP:=of_decide_eq_true c
      exact⟨_,rfl,kk _ _ (aN.refl _) (el _ (if_pos c))⟩
     ·have c:¬rd (cY s.units s.hours (s.hours.length-n)) i<NP:=fun z=>c (decide_eq_true z)
      exact kk _ _ (aN.refl _) (el _ (if_neg c))
    ·have eD:=B.eq (by rw[aB,aB,QH])
     have s3:=B.cK
     refine⟨b,D,_,_,rfl,rfl,s3 _ _ hb2,eD,sz (by rw[aB,QH,R.1];simp;omega),fun m hm=>?_⟩
     rw[←tr]
     have e:[V.int 0]++zV (W8 Vbbcag.told (mh s.units (Zu n s.hours)).toList)=zV (0::W8 Vbbcag.told (mh s.units (Zu n s.hours)).toList):=rfl
     rw[e]
     refine q.put (p2.same s3) (((Frame.of s1).trans F2).trans (Frame.of s3)) hm (by rw[st];rfl) ?_
     rw[Q2,tr,QH,R.1]
     omega
  ·refine⟨_,rfl,p.oI ⟨_,rfl,_,_,rfl,rfl,_,rfl,?_⟩⟩
   refine bF (fun c=>?_) (fun c=>?_)
   ·have c:(s.now:Int)≤t:=of_decide_eq_true c
    refine⟨_,rfl,p.dm ⟨A.pl,_,rfl,.inl (aF.of p.loads),_,_,rfl,rfl,_,rfl,?_⟩⟩
    rw[hll]
    refine bF (fun c2=>?_) (fun c2=>?_)
    ·have c2:¬t≤(s.hours.length:Int):=by simpa using c2
     exact⟨sz (by simp),fun l hl=>no (fun z=>c2 z.2) l hl⟩
    ·have c2:t≤(s.hours.length:Int):=by simpa using c2
     exact hN _ _ ⟨rfl,rfl,c,c2⟩
   ·have c:¬(s.now:Int)≤t:=fun z=>c (decide_eq_true z)
    refine⟨_,rfl,bP ⟨sz (by simp),fun l hl=>no (fun z=>c z.1) l hl⟩⟩
theorem Pd{i j:Nat}(c:(!decide (V.int (i:Int)=V.int (j:Int)))=true):¬i=j:=fun e=>by rw[e]at c;simp at c
theorem MX{i j:Nat}(c:¬(!decide (V.int (i:Int)=V.int (j:Int)))=true):i=j:=by
 refine SM fun ne=>c ?_
 rw[decide_eq_false (fun e=>ne (by injection e with e;omega))]
 rfl
theorem KG(m:Mode):(modeRow m).length=3:=by cases m<;>rfl
def BJ(T:Tx K mg):Sp:=fun vs H Q _=>E9 fun a g x y s A (t:Int) (as:List Int) (bs:List Int)=>A8 (vs=[.ref a,.ref g]) (aI T H a s A) (H g=some (.lst [.int t,.ref x,.ref y])) (H x=some (.lst (zV as))) (x∉aJ a A) (H y=some (.lst (zV bs))) ((∀c∈bs,c≤1000000000000000000)) (bV T H Q a s A (.prove t as bs))
theorem Bf(T:Tx K mg):dJ P w base 9 T.iE (BJ T):=by
 refine T.iE.fn.ok gc (fun vs H Q E h=>?_) (fun cdv A outer s H vs Q E hr h=>?_)
 ·obtain⟨a,g,x,y,s,A,t,as,bs,rfl,_⟩:=h
  rfl
 ·obtain⟨a,g,x,y,s,A,t,as,bs,rfl,p,hG,hX,nX,hY,hb,q⟩:=h
  refine⟨_,(ab (ax (i:=2) gc.nd rfl (Or.inl rfl) (aT aG (pv 1) ak (fun _ _=>rfl)))
   (ab (ax (i:=3) gc.nd rfl (Or.inl rfl) (aT aG (pv 1) ak (fun _ _=>rfl)))
   (ab (ax (i:=4) gc.nd rfl (Or.inl rfl) (aT aG (pv 1) ak (fun _ _=>rfl)))
   (ab (ax (i:=5) gc.nd rfl (Or.inl rfl) (aA T.fh (gQ T) hr (aa (aj (pv 0) rfl) ae)))
   (ab (bf (PW.pt (jg (cF (bS (aA T.dP (c9 T) hr (aa (pv 0) (aa (pv 2) ae))))) (jg (aM EY (aH az rfl T.ba bh (aa (pv 3) ae)) (pv 5) (aQ _)) (jw (aM EY (aH az rfl T.ba bh (aa (pv 4) ae)) (pv 5) (aQ _)))))) (ag (au (aE (aa (aL (v:=.int (-1)) rfl T.aZ ⟨_,rfl⟩) ae)))) aP)
   (ag (au (aE (aa ak (aa (gR (bS (aA T.wz (Dy T) hr (aa (pv 0) (aa (pv 2) (aa (pv 3) (aa (pv 4) ae)))))) ak ak) ae)))))))))),?_⟩
  have o:=p.ok
  refine⟨_,rfl,g,_,_,_,rfl,rfl,aF.of hG,at_of (j:=0) rfl rfl,?_⟩
  refine⟨_,rfl,g,_,_,_,rfl,rfl,aF.of hG,at_of (j:=1) rfl rfl,?_⟩
  refine⟨_,rfl,g,_,_,_,rfl,rfl,aF.of hG,at_of (j:=2) rfl rfl,?_⟩
  refine⟨_,rfl,p.dO ⟨A.pu,s.units,rfl,p.un,o.wf,?_⟩⟩
  have no:(Vbbcag.from_ t (s.now:Int) ((s.hours.length:Int)-1)=false∨as.length≠stateCount s.units∨bs.length≠stateCount s.units)→∀l,H l=none→Q (.ref l) (upd H l (.lst (zV [-1]))):=fun c l hl=>by
   refine q.put p (Gx H) hl (xs:=[-1]) ?_ (by simp)
   simp only[Vbbcag.step]
   exact if_pos c
  dsimp only[kK]
  refine iN (fun σ' H1=>σ'=[some (.ref a),some (.ref g),some (.int t),some (.ref x),some (.ref y),some (.int (stateCount s.units:Nat))]∧H1=H∧toCome? s t=true∧as.length=stateCount s.units∧bs.length=stateCount s.units) (fun σ' H1 hM=>?_) (fun N hN=>?_)
  ·obtain⟨rfl,rfl,c,la,lb⟩:=hM
   obtain⟨c1,c2⟩:=lx c
   obtain⟨n,rfl⟩:∃n:Nat,t=(n:Int):=⟨t.toNat,by omega⟩
   obtain⟨h,eh⟩:∃h,s.hours[n]?=some h:=⟨_,QJ (by omega)⟩
   have st:Vbbcag.step s (.prove (n:Int) as bs)=Vbbcag.yes s [if proves s.units h (costsOf as) (costsOf bs)=true then 1 else 0]:=by
    simp only[Vbbcag.step,QW]
    rw[if_neg,eh]
    rintro (z|z|z)
    ·rw[show Vbbcag.from_ (n:Int) (s.now:Int) ((s.hours.length:Int)-1)=true from c]at z;cases z
    ·exact z la
    ·exact z lb
   refine⟨_,rfl,_,rfl,_,rfl,_,rfl,a,x,y,s,A,as,bs,h,n,rfl,p,eh,hX,nX,hY,la,lb,hb,fun H2 p2 F2=>⟨_,rfl,?_⟩⟩
   refine bF (fun c=>?_) (fun c=>?_)
   ·refine⟨sz (by simp),fun l hl=>?_⟩
    exact q.put p2 F2 hl (xs:=[0,1]) (by rw[st,if_pos c];rfl) (by simp)
   ·refine⟨sz (by simp),fun l hl=>?_⟩
    exact q.put p2 F2 hl (xs:=[0,0]) (by rw[st,if_neg c];rfl) (by simp)
  ·refine⟨_,rfl,_,rfl,a,s,A,100,t,rfl,p,_,rfl,?_⟩
   cases c:toCome? s t with
   | false=>exact bP (bP ⟨sz (by simp),fun l hl=>no (.inl c) l hl⟩)
   | true =>
    refine dg ?_
    refine⟨_,rfl,x,_,rfl,.inl (aF.of hX),_,rfl,rfl,_,rfl,?_⟩
    rw[aB]
    refine bF (fun c2=>?_) (fun c2=>?_)
    ·exact bP ⟨sz (by simp),fun l hl=>no (.inr (.inl (Pd c2))) l hl⟩
    ·refine⟨_,rfl,y,_,rfl,.inl (aF.of hY),_,rfl,rfl,_,rfl,?_⟩
     rw[aB]
     refine bF (fun c3=>?_) (fun c3=>?_)
     ·exact⟨sz (by simp),fun l hl=>no (.inr (.inr (Pd c3))) l hl⟩
     ·exact hN _ _ ⟨rfl,rfl,c,MX c2,MX c3⟩
def DU(T:Tx K mg):Sp:=fun vs H Q _=>E5 fun a g s A (t:Int)=>A4 (vs=[.ref a,.ref g]) (aI T H a s A) (H g=some (.lst (zV [t]))) (bV T H Q a s A (.hour t))
theorem Dx(T:Tx K mg):dJ P w base 1 T.jV (DU T):=by
 refine T.jV.fn.ok jS (fun vs H Q E h=>?_) (fun cdv A outer s H vs Q E hr h=>?_)
 ·obtain⟨a,g,s,A,t,rfl,_⟩:=h
  rfl
 ·obtain⟨a,g,s,A,t,rfl,p,hG,q⟩:=h
  refine⟨_,(ab (ax (i:=2) jS.nd rfl (Or.inl rfl) (aT aG (pv 1) ak (fun _ _=>rfl)))
   (ab (bf (cF (zW jf km ak (pv 2) (aH az rfl T.ba bh (aa (aj (pv 0) rfl) ae)))) (ag (au (aE (aa (aL (v:=.int (-1)) rfl T.aZ ⟨_,rfl⟩) ae)))) aP)
   (ag (au (aO fO (aE (aa ak (aa (aT aG (aj (pv 0) rfl) (pv 2) (fun _ _=>rfl)) ae))) (fN rfl jS.nd (bu (aT aG (aj (pv 0) rfl) (pv 2) (fun _ _=>rfl))) (bj (own:=[("available",3)]) rfl) (fun _ _ _ _ _=>(aD (i:=3) jS.nd rfl (Or.inl rfl))) (fun _ _ _ _ _=>bJ) (fun _ _ _ _ _=>(gR (bS (pv 3)) ak ak)))))))),?_⟩
  have o:=p.ok
  have u4:=o.u4
  refine⟨_,rfl,g,_,_,_,rfl,rfl,aF.of hG,at_of (j:=0) rfl rfl,?_⟩
  have hll:(yg s.hours).length=s.hours.length:=QH ..
  have no:¬(0≤t∧t≤(s.hours.length:Int)-1)→∀l,H l=none→Q (.ref l) (upd H l (.lst (zV [-1]))):=fun c l hl=>by
   refine q.put p (Gx H) hl (xs:=[-1]) ?_ (by simp)
   simp only[Vbbcag.step]
   exact if_pos (decide_eq_false c)
  dsimp only[kK]
  refine iN (fun σ' H1=>σ'=[some (.ref a),some (.ref g),some (.int t),none]∧H1=H∧0≤t∧t<(s.hours.length:Int)) (fun σ' H1 hM=>?_) (fun N hN=>?_)
  ·obtain⟨rfl,rfl,c1,c2⟩:=hM
   obtain⟨n,rfl⟩:∃n:Nat,t=(n:Int):=⟨t.toNat,by omega⟩
   obtain⟨h,eh⟩:∃h,s.hours[n]?=some h:=⟨_,QJ (by omega)⟩
   obtain⟨ra,er⟩:∃r,A.lH[n]?=some r:=⟨_,QJ (by rw[p.jR];omega)⟩
   have hrow:=p.rows n ra h er eh
   have fl:h.free.length=s.units.length:=by
    have:=o.fr h (QL eh)
    omega
   have st:Vbbcag.step s (.hour (n:Int))=Vbbcag.yes s ((h.load:Int)::h.free.map fun b=>if b=true then 1 else 0):=by
    simp only[Vbbcag.step,QW]
    rw[if_neg (by rw[show Vbbcag.from_ (n:Int) 0 ((s.hours.length:Int)-1)=true from decide_eq_true ⟨c1,by omega⟩];simp),eh]
   refine⟨_,rfl,p.dm ⟨_,rfl,A.pl,_,_,_,rfl,rfl,aF.of p.loads,at_of (j:=n) rfl (p.Dq eh),sz (by simp),fun b hb=>?_⟩⟩
   have s1:=aq (o:=.lst [V.int 0,V.int (h.load:Nat)]) hb
   have p1:=p.same s1
   refine⟨_,rfl,p1.jF ⟨_,rfl,A.pa,_,_,_,rfl,rfl,aF.of p1.eS,at_of (j:=n) (v:=.ref ra) rfl (by rw[QI,er];rfl),ra,rfl,⟨_,aF.of (s1 _ _ hrow)⟩,fun D hD=>?_⟩⟩
   refine bt (bw _ ra (yV h.free)) (fun j y _=>(zV (h.free.map fun b=>if b=true then 1 else 0))[j]?=some y) (cI _) (sz (by unfold yV;rw[QH];omega)) hD (fun H3 s3=>aF.of (s3 _ _ (s1 _ _ hrow))) (fun i v H3 H4 R' hi s3 hne xy kk=>?_) (fun H3 B=>?_)
   ·obtain⟨rfl,e⟩:=xy
    unfold yV at e
    rw[QI]at e
    obtain⟨fb,ef,rfl⟩:=QQ.mp e
    refine⟨rfl,_,rfl,_,rfl,?_⟩
    have el:∀z:Int,(if fb=true then(1:Int)else 0)=z→(zV (h.free.map fun b=>if b=true then(1:Int)else 0))[i]?=some (.int z):=fun z hz=>by
     unfold zV
     rw[QI,QI,ef]
     simp only[Uh]
     rw[hz]
    refine bF (fun c=>?_) (fun c=>?_)
    ·exact kk _ _ (aN.refl _) (el _ (if_pos c))
    ·exact kk _ _ (aN.refl _) (el _ (if_neg c))
   ·have eD:=B.eq (by unfold yV;rw[aB,QH,QH])
    have s3:=B.cK
    have s13:=s1.trans s3
    refine⟨b,D,_,_,rfl,rfl,s3 _ _ af,eD,sz (by rw[aB,QH];simp;omega),fun m hm=>?_⟩
    have e:[V.int 0,V.int (h.load:Nat)]++zV (h.free.map fun b=>if b=true then 1 else 0)=zV (0::(h.load:Int)::h.free.map fun b=>if b=true then 1 else 0):=rfl
    rw[e]
    refine q.put (p.same s13) (Frame.of s13) hm (by rw[st];rfl) ?_
    rw[Q2,Q2,QH]
    omega
  ·refine⟨_,rfl,_,_,rfl,rfl,_,rfl,?_⟩
   refine bF (fun c=>?_) (fun c=>?_)
   ·have c:0≤t:=of_decide_eq_true c
    refine⟨_,rfl,p.dm ⟨A.pl,_,rfl,.inl (aF.of p.loads),_,_,rfl,rfl,_,rfl,?_⟩⟩
    rw[hll]
    refine bF (fun c2=>?_) (fun c2=>?_)
    ·have c2:¬t<(s.hours.length:Int):=by simpa using c2
     exact⟨sz (by simp),fun l hl=>no (fun z=>c2 (by omega)) l hl⟩
    ·have c2:t<(s.hours.length:Int):=by simpa using c2
     exact hN _ _ ⟨rfl,rfl,c,c2⟩
   ·have c:¬0≤t:=fun z=>c (decide_eq_true z)
    exact⟨_,rfl,bP ⟨sz (by simp),fun l hl=>no (fun z=>c z.1) l hl⟩⟩
def Nz(s:State)(i:Nat):List Int:=[0,(s.now:Int),(s.spent:Int),(s.hours.length:Int)]++(s.modes.take i).flatMap fun m=>Vbbcag.ints (modeRow m)
theorem HX(s:State):∀i,(Nz s i).length≤4+3*i:=fun i=>by
 unfold Nz
 rw[QN]
 have:∀l:Modes,(l.flatMap fun m=>Vbbcag.ints (modeRow m)).length=3*l.length:=fun l=>by
  induction l with
  | nil=>rfl
  | cons x r ih=>rw[Sm,QN,ih,uO,KG,Q2];omega
 rw[this,QZ]
 simp
 omega
def BL(T:Tx K mg):Sp:=fun vs H Q _=>E4 fun a g s A=>A3 (vs=[.ref a,.ref g]) (aI T H a s A) (bV T H Q a s A .state)
theorem Bh(T:Tx K mg):dJ P w base 4 T.iO (BL T):=by
 refine T.iO.fn.ok i0 (fun vs H Q E h=>?_) (fun cdv A outer s H vs Q E hr h=>?_)
 ·obtain⟨a,g,s,A,rfl,_⟩:=h
  rfl
 ·obtain⟨a,g,s,A,rfl,p,q⟩:=h
  refine⟨_,(ab (ax (i:=2) i0.nd rfl (Or.inl rfl) (aE (aa ak (aa (aj (pv 0) rfl) (aa (aj (pv 0) rfl) (aa (aH az rfl T.ba bh (aa (aj (pv 0) rfl) ae)) ae))))))
   (ab (bU PassesOwn.never rfl (tH rfl T.iC (aa (aj (pv 0) rfl) (aa (aj (pv 0) rfl) ae))) (dv K (n:=2) rfl rfl (@aV _ _ _ _ _ (@aD _ _ 3 _ i0.nd rfl (Or.inl rfl) (by first|exact .inl rfl|exact .inr rfl)) (@aV _ _ _ _ _ (@aD _ _ 4 _ i0.nd rfl (Or.inl rfl) (by first|exact .inl rfl|exact .inr rfl)) dw rfl) rfl) rfl rfl) (ag (aX (dH PySem.F.plainAttrs_list PySem.F.slot_list_extend PySem.F.type_list_extend cB (pv 2) (aa (aA T.qW (va T) hr (aa (pv 3) (aa (pv 4) ae))) ae)))))
   (ag (au (pv 2))))),?_⟩
  have o:=p.ok
  have u4:=o.u4
  have hll:(yg s.hours).length=s.hours.length:=QH ..
  refine⟨_,rfl,p.oI ⟨_,rfl,p.C4 ⟨_,rfl,p.dm ⟨A.pl,_,rfl,.inl (aF.of p.loads),sz (by simp),fun l hl=>?_⟩⟩⟩⟩
  rw[hll]
  have s1:=aq (o:=.lst [V.int 0,V.int (s.now:Nat),V.int (s.spent:Nat),V.int (s.hours.length:Nat)]) hl
  have p1:=p.same s1
  obtain⟨rs,u1,u2,u3⟩:=p.K3
  refine⟨_,rfl,p1.dO ⟨_,rfl,p1.jG ⟨A.pu,A.pm,_,_,rfl,aF.of (s1 _ _ u1),aF.of p1.modes,?_⟩⟩⟩
  have ml:=o.ms.len
  refine bC (uu _ A.pu A.pm (rs.map V.ref) (mV s.units s.modes)) (fun i σ H2=>E2 fun v v2=>A3 (σ=[some (.ref a),some (.ref g),some (.ref l),v,v2]) (aN H H2) (H2 l=some (.lst (zV (Nz s i))))) ⟨none,none,rfl,s1,af⟩ (fun i σ H2 _ hh=>by obtain⟨_,_,_,s2,_⟩:=hh;exact⟨aF.of (s2 _ _ u1),aF.of (s2 _ _ p.modes)⟩) (fun i x σ H2 H3 hi pv xy=>?_) (fun σ H2 pv=>?_)
  ·obtain⟨v,v2,rfl,s2,hl2⟩:=pv
   obtain⟨t,x1,y1,rfl,ht,rfl,e1,e2⟩:=xy
   rw[QH,u2,lE o.ms,SG]at hi
   rw[QI]at e1
   obtain⟨r,er,rfl⟩:=QQ.mp e1
   obtain⟨u,eu,hU⟩:=u3 i r er
   obtain⟨m,em⟩:∃m,s.modes[i]?=some m:=⟨_,QJ (by omega)⟩
   rw[iA eu em]at e2
   cases e2
   have s3:=s2.trans (aq (o:=.tup [V.ref r,V.int (place u m:Nat)]) ht)
   have hl3:=aq (o:=.tup [V.ref r,V.int (place u m:Nat)]) ht _ _ hl2
   have hu:=o.wf u (QL eu)
   have sl:=HX s i
   refine⟨t,_,rfl,eQ.of af,rfl,_,_,rfl,_,_,rfl,rfl,?_⟩
   refine⟨_,rfl,.inl ⟨rfl,_,aF.of hl3⟩,_,rfl,_,rfl,r,u,m,rfl,hU.same s3,hu,o.ms.get eu em,fun b H4 s4 hb0 hb4=>?_⟩
   refine⟨l,b,_,_,rfl,rfl,s4 _ _ hl3,hb4,sz (by rw[aB,bx,KG];omega),some (.ref r),some (.int (place u m:Nat)),rfl,fun b' o' e=>by rw[ah (ao e hl)];exact s4 _ _ (s3 _ _ e),?_⟩
   rw[af,HJ,hZ]
   unfold Nz
   rw[br em,RH,Rz,R7]
  ·obtain⟨v,v2,rfl,s2,hl2⟩:=pv
   rw[QH,u2,lE o.ms,SG]at hl2
   have sl:=HX s s.units.length
   have e:Nz s s.units.length=(Vbbcag.step s .state).2:=by
    unfold Nz
    rw[←ml,RF]
    rfl
   rw[e]at hl2 sl
   exact⟨_,rfl,q l H2 A (p.same s2) rfl (Frame.of s2) hl2 (zd p hl) (by omega)⟩
theorem Em(s:State):(coming s).head?=s.hours[s.now]?:=by unfold coming;rw[List.head?_drop]
theorem AA{s:State}{t:Int}(h:toCome? s t=false):¬((s.now:Int)≤t∧t<(s.hours.length:Int)):=fun z=>by
 unfold toCome? Vbbcag.from_ at h
 have:=of_decide_eq_false h
 omega
def Oa(u:Unit_)(m:Mode)(os:List Mode):List Int:=0::os.flatMap fun y=>Vbbcag.ints (modeRow y++[costOf u m y])
theorem HL(u:Unit_)(m:Mode)(os:List Mode):(Oa u m os).length=1+4*os.length:=by
 unfold Oa
 rw[Q2]
 have:∀l:List Mode,(l.flatMap fun y=>Vbbcag.ints (modeRow y++[costOf u m y])).length=4*l.length:=fun l=>by
  induction l with
  | nil=>rfl
  | cons x r ih=>rw[Sm,QN,ih,uO,QN,KG,Q2];simp;omega
 rw[this]
 omega
def yr(T:Tx K mg):Sp:=fun vs H Q _=>E5 fun a g s A (t:Int)=>A4 (vs=[.ref a,.ref g]) (aI T H a s A) (H g=some (.lst (zV [t]))) (bV T H Q a s A (.options t))
theorem yj(T:Tx K mg):dJ P w base 5 T.fJ (yr T):=by
 refine T.fJ.fn.ok cO (fun vs H Q E h=>?_) (fun cdv A outer s H vs Q E hr h=>?_)
 ·obtain⟨a,g,s,A,t,rfl,_⟩:=h
  rfl
 ·obtain⟨a,g,s,A,t,rfl,p,hG,q⟩:=h
  refine⟨_,(ab (ax (i:=2) cO.nd rfl (Or.inl rfl) (aT aG (pv 1) ak (fun _ _=>rfl)))
   (ab (bf (cF (bS (aA T.qJ (m6 T) hr (aa (pv 0) (aa (pv 2) ae))))) (ag (au (aE (aa (aL (v:=.int (-1)) rfl T.aZ ⟨_,rfl⟩) ae)))) aP)
   (ab (bf (cF (bS (aA T.dP (c9 T) hr (aa (pv 0) (aa (aj (pv 0) rfl) ae))))) (ag (au (aE (aa (aL (v:=.int (-3)) rfl T.cD ⟨_,rfl⟩) ae)))) aP)
   (ab (ax (i:=3) cO.nd rfl (Or.inl rfl) (aT aG (aj (pv 0) rfl) (pv 2) (fun _ _=>rfl)))
   (ab (ax (i:=4) cO.nd rfl (Or.inl rfl) (aT aG (aj (pv 0) rfl) (pv 2) (fun _ _=>rfl)))
   (ab (ax (i:=5) cO.nd rfl (Or.inl rfl) (aE (aa ak ae)))
   (ab (bU PassesOwn.never rfl (bu (aA T.uB (tw T) hr (aa (pv 3) (aa (pv 4) (aa (aT aG (aT aG (aj (pv 0) rfl) (aj (pv 0) rfl) (fun _ _=>rfl)) (pv 2) (fun _ _=>rfl)) ae))))) (aD (i:=6) cO.nd rfl (Or.inl rfl)) (ag (aX (dH PySem.F.plainAttrs_list PySem.F.slot_list_extend PySem.F.type_list_extend cB (pv 5) (aa (aO fO (aA T.qW (va T) hr (aa (pv 3) (aa (pv 6) ae))) (aE (aa (aA T.mi (m5 T) hr (aa (pv 3) (aa (pv 4) (aa (pv 6) ae)))) ae))) ae)))))
   (ag (au (pv 5)))))))))),?_⟩
  have o:=p.ok
  refine⟨_,rfl,g,_,_,_,rfl,rfl,aF.of hG,at_of (j:=0) rfl rfl,?_⟩
  refine⟨_,rfl,_,rfl,a,s,A,100,t,rfl,p,_,rfl,?_⟩
  cases c:Vbbcag.isUnit s t with
  | false =>
   refine bP ⟨sz (by simp),fun l hl=>?_⟩
   exact q.put p (Gx H) hl (xs:=[-1]) (by simp only[Vbbcag.step];exact if_pos c) (by simp)
  | true =>
   refine dg ?_
   obtain⟨c1,c2⟩:=yI c
   obtain⟨n,rfl⟩:∃n:Nat,t=(n:Int):=⟨t.toNat,by omega⟩
   obtain⟨rs,u1,u2,u3⟩:=p.K3
   obtain⟨r,er⟩:∃r,rs[n]?=some r:=⟨_,QJ (by omega)⟩
   obtain⟨u,eu,hU⟩:=u3 n r er
   have ml:=o.ms.len
   obtain⟨m,em⟩:∃m,s.modes[n]?=some m:=⟨_,QJ (by omega)⟩
   have hu:=o.wf u (QL eu)
   have hm:=o.ms.get eu em
   have st:Vbbcag.step s (.options (n:Int))=(match some u,some m,s.hours[s.now]? with
     | some x,some m,some h=>Vbbcag.yes s ((options x (h.free.getD n true) m).flatMap fun y=>Vbbcag.ints (modeRow y++[costOf x m y]))
     | _,_,_=>Vbbcag.no s 3):=by
    simp only[Vbbcag.step,QW]
    rw[if_neg (by rw[c];simp),eu,em,Em]
    rfl
   refine⟨_,rfl,_,rfl,p.oI ⟨a,s,A,100,(s.now:Int),rfl,p,_,rfl,?_⟩⟩
   cases c3:toCome? s (s.now:Int)with
   | false =>
    have:=AA c3
    have en:s.hours[s.now]?=none:=RT.mpr (by omega)
    rw[en]at st
    refine bP ⟨sz (by simp),fun l hl=>?_⟩
    exact q.put p (Gx H) hl (xs:=[-3]) (by rw[st];rfl) (by simp)
   | true =>
    refine dg ?_
    obtain⟨_,c4⟩:=lx c3
    obtain⟨h,eh⟩:∃h,s.hours[s.now]?=some h:=⟨_,QJ (by omega)⟩
    obtain⟨ra,era⟩:∃r,A.lH[s.now]?=some r:=⟨_,QJ (by rw[p.jR];omega)⟩
    have hrow:=p.rows _ ra h era eh
    have fl:h.free.length=s.units.length:=by
     have:=o.fr h (QL eh)
     omega
    obtain⟨fb,ef⟩:∃b,h.free[n]?=some b:=⟨_,QJ (by omega)⟩
    rw[eh]at st
    have eg:h.free.getD n true=fb:=by rw[RN,ef];rfl
    have st:Vbbcag.step s (.options (n:Int))=(s,Oa u m (options u fb m)):=by
     rw[st]
     dsimp only
     rw[eg]
     rfl
    have ol:=xV hu (fr:=fb) hm
    refine⟨_,rfl,p.dO ⟨_,rfl,A.pu,_,_,_,rfl,rfl,aF.of u1,at_of (j:=n) (v:=.ref r) rfl (by rw[QI,er];rfl),?_⟩⟩
    refine⟨_,rfl,p.jG ⟨_,rfl,A.pm,_,_,_,rfl,rfl,aF.of p.modes,at_of (j:=n) (v:=.int (place u m:Nat)) rfl (iA eu em),?_⟩⟩
    refine⟨sz (by simp),fun l hl=>?_⟩
    have s1:=aq (o:=.lst [V.int 0]) hl
    have p1:=p.same s1
    refine⟨_,rfl,_,rfl,_,rfl,p1.jF ⟨_,rfl,p1.oI ⟨A.pa,_,_,_,rfl,rfl,aF.of p1.eS,at_of (j:=s.now) (v:=.ref ra) rfl (by rw[QI,era];rfl),_,rfl,ra,_,_,_,rfl,rfl,aF.of (s1 _ _ hrow),at_of (j:=n) (v:=.bl fb) rfl (by unfold yV;rw[QI,ef];rfl),r,u,m,fb,rfl,hU.same s1,hu,hm,fun d H2 s2 hd0 hd2=>?_⟩⟩⟩
    have s12:=s1.trans s2
    refine⟨d,rfl,⟨_,aF.of hd2⟩,?_⟩
    have pl:(DI u (options u fb m)).length=(options u fb m).length:=QH ..
    refine bC (bw _ d (DI u (options u fb m))) (fun i σ H3=>∃v,A3 (σ=[some (.ref a),some (.ref g),some (.int (n:Nat)),some (.ref r),some (.int (place u m:Nat)),some (.ref l),v]) ((∀b o,H2 b=some o→b≠l→H3 b=some o)) (H3 l=some (.lst (zV (Oa u m ((options u fb m).take i)))))) ⟨none,rfl,fun b o e _=>e,s2 _ _ af⟩ (fun i σ H3 _ hh=>by
     obtain⟨_,_,f3,_⟩:=hh
     refine aF.of (f3 _ _ hd2 fun z=>?_)
     rw[z,af]at hd0
     cases hd0) (fun i x σ H3 H4 hi pv xy=>?_) (fun σ H3 pv=>?_)
    ·obtain⟨v,rfl,f3,hl3⟩:=pv
     obtain⟨rfl,e⟩:=xy
     rw[pl]at hi
     obtain⟨y,ey⟩:∃y,(options u fb m)[i]?=some y:=⟨_,QJ hi⟩
     have:(DI u (options u fb m))[i]?=some (.int (place u y:Nat)):=by unfold DI;rw[QI,ey];rfl
     rw[this]at e
     cases e
     have hy:=fI hu hm (QL ey)
     have f0:aN H H4:=fun b o e=>f3 _ _ (s12 _ _ e) (ao e hl)
     have oal:=HL u m ((options u fb m).take i)
     rw[QZ]at oal
     refine⟨_,rfl,.inl ⟨rfl,_,aF.of hl3⟩,_,rfl,_,rfl,r,u,y,rfl,hU.same f0,hu,hy,fun b H5 s5 hb0 hb5=>?_⟩
     have f5:=f0.trans s5
     refine⟨_,rfl,_,rfl,_,rfl,r,u,m,y,rfl,hU.same f5,hu,hm,hy,sz (by simp),fun b2 hb2=>?_⟩
     have s6:=aq (o:=.lst [V.int (costOf u m y:Nat)]) hb2
     refine⟨b,b2,_,_,rfl,rfl,s6 _ _ hb5,af,sz (by rw[bx,KG];simp),fun b3 hb3=>?_⟩
     have s7:=s6.trans (aq (o:=.lst (nV (modeRow y)++[V.int (costOf u m y:Nat)])) hb3)
     refine⟨l,b3,_,_,rfl,rfl,s7 _ _ (s5 _ _ hl3),af,sz (by rw[aB,QN,bx,KG];simp;omega),some (.int (place u y:Nat)),rfl,fun b' o' e n=>by rw[ah n];exact s7 _ _ (s5 _ _ (f3 _ _ e n)),?_⟩
     have e1:nV (modeRow y)++[V.int (costOf u m y:Nat)]=zV (Vbbcag.ints (modeRow y++[costOf u m y])):=by
      rw[ints_app,←hZ,←HJ]
      rfl
     rw[af,e1,hZ]
     unfold Oa
     rw[br ey,RH,Rz]
     rfl
    ·obtain⟨v,rfl,f3,hl3⟩:=pv
     rw[pl,RF]at hl3
     have f0:aN H H3:=fun b o e=>f3 _ _ (s12 _ _ e) (ao e hl)
     have oal:=HL u m (options u fb m)
     unfold bV at q
     rw[st]at q
     exact⟨_,rfl,q l H3 A (p.same f0) rfl (Frame.of f0) hl3 (zd p hl) (by dsimp only;omega)⟩
def xw(T:Tx K mg):Sp:=fun vs H Q _=>E6 fun a g s A (t:Int) (v:Int)=>A4 (vs=[.ref a,.ref g]) (aI T H a s A) (H g=some (.lst (zV [t,v]))) (bV T H Q a s A (.forecast t v))
theorem wM(T:Tx K mg):dJ P w base 3 T.eG (xw T):=by
 refine T.eG.fn.ok iL (fun vs H Q E h=>?_) (fun cdv A outer s H vs Q E hr h=>?_)
 ·obtain⟨a,g,s,A,t,v,rfl,_⟩:=h
  rfl
 ·obtain⟨a,g,s,A,t,v,rfl,p,hG,q⟩:=h
  refine⟨_,(ab (ax (i:=2) iL.nd rfl (Or.inl rfl) (aT aG (pv 1) ak (fun _ _=>rfl)))
   (ab (ax (i:=3) iL.nd rfl (Or.inl rfl) (aT aG (pv 1) ak (fun _ _=>rfl)))
   (ab (bf (PW.pt (jg (cF (bS (aA T.dP (c9 T) hr (aa (pv 0) (aa (pv 2) ae))))) (jw (cF (zW jf jf ak (pv 3) (aL (v:=.int (240)) rfl T.kL ⟨_,rfl⟩)))))) (ag (au (aE (aa (aL (v:=.int (-1)) rfl T.aZ ⟨_,rfl⟩) ae)))) aP)
   (ab (aX (mw (pv 0) T.aw.cls T.j0 (uX T) hr (aa (pv 2) (aa (pv 3) ae))))
   (ag (au (aE (aa ak ae)))))))),?_⟩
  refine⟨_,rfl,g,_,_,_,rfl,rfl,aF.of hG,at_of (j:=0) rfl rfl,?_⟩
  refine⟨_,rfl,g,_,_,_,rfl,rfl,aF.of hG,at_of (j:=1) rfl rfl,?_⟩
  have no:(¬(0≤v∧v≤240)∨toCome? s t=false)→∀l,H l=none→Q (.ref l) (upd H l (.lst (zV [-1]))):=fun c l hl=>by
   refine q.put p (Gx H) hl (xs:=[-1]) ?_ (by simp)
   simp only[Vbbcag.step]
   exact if_pos (c.imp (fun z=>decide_eq_false z) id)
  dsimp only[kK]
  refine iN (fun σ' H1=>σ'=[some (.ref a),some (.ref g),some (.int t),some (.int v)]∧H1=H∧toCome? s t=true∧0≤v∧v≤240) (fun σ' H1 hM=>?_) (fun N hN=>?_)
  ·obtain⟨rfl,rfl,c,v1,v2⟩:=hM
   obtain⟨c1,c2⟩:=lx c
   obtain⟨n,rfl⟩:∃n:Nat,t=(n:Int):=⟨t.toNat,by omega⟩
   obtain⟨m,rfl⟩:∃n:Nat,v=(n:Int):=⟨v.toNat,by omega⟩
   obtain⟨dx,fs,hA,hF⟩:=p.nm (m:="set_load") fun gv=>rfl
   refine⟨_,rfl,a,dx,fs,rfl,hA,hF,_,rfl,_,rfl,a,s,A,n,m,rfl,p,by omega,by omega,fun H2 A2 p2 ex F2=>?_⟩
   refine⟨sz (by simp),fun l hl=>?_⟩
   refine q.fin p2 ex F2 hl (xs:=[0]) ?_ (by simp)
   simp only[Vbbcag.step,QW]
   rw[if_neg]
   ·rfl
   ·rintro (z|z)
    ·rw[show Vbbcag.from_ (m:Int) 0 (Vbbcag.LOAD:Nat)=true from decide_eq_true ⟨v1,v2⟩]at z;cases z
    ·rw[show Vbbcag.from_ (n:Int) (s.now:Int) ((s.hours.length:Int)-1)=true from c]at z;cases z
  ·refine⟨_,rfl,_,rfl,a,s,A,100,t,rfl,p,_,rfl,?_⟩
   cases c:toCome? s t with
   | false=>exact bP (bP ⟨sz (by simp),fun l hl=>no (.inr c) l hl⟩)
   | true =>
    refine dg ?_
    refine⟨_,rfl,_,_,rfl,rfl,_,rfl,?_⟩
    refine bF (fun c2=>?_) (fun c2=>?_)
    ·have c2:0≤v:=of_decide_eq_true c2
     refine⟨_,_,rfl,rfl,_,rfl,?_⟩
     refine bF (fun c3=>?_) (fun c3=>?_)
     ·have c3:¬v≤240:=by simpa using c3
      exact⟨sz (by simp),fun l hl=>no (.inl fun z=>c3 z.2) l hl⟩
     ·have c3:v≤240:=by simpa using c3
      exact hN _ _ ⟨rfl,rfl,c,c2,c3⟩
    ·have c2:¬0≤v:=fun z=>c2 (decide_eq_true z)
     exact⟨_,rfl,bP ⟨sz (by simp),fun l hl=>no (.inl fun z=>c2 z.1) l hl⟩⟩
def Fv(T:Tx K mg):Sp:=fun vs H Q _=>E7 fun a g s A (u:Int) (t:Int) (v:Int)=>A4 (vs=[.ref a,.ref g]) (aI T H a s A) (H g=some (.lst (zV [u,t,v]))) (bV T H Q a s A (.out u t v))
theorem ES(T:Tx K mg):dJ P w base 3 T.mq (Fv T):=by
 refine T.mq.fn.ok kW (fun vs H Q E h=>?_) (fun cdv A outer s H vs Q E hr h=>?_)
 ·obtain⟨a,g,s,A,u,t,v,rfl,_⟩:=h
  rfl
 ·obtain⟨a,g,s,A,u,t,v,rfl,p,hG,q⟩:=h
  refine⟨_,(ab (ax (i:=2) kW.nd rfl (Or.inl rfl) (aT aG (pv 1) ak (fun _ _=>rfl)))
   (ab (ax (i:=3) kW.nd rfl (Or.inl rfl) (aT aG (pv 1) ak (fun _ _=>rfl)))
   (ab (ax (i:=4) kW.nd rfl (Or.inl rfl) (aT aG (pv 1) ak (fun _ _=>rfl)))
   (ab (bf (PW.pt (jg (cF (bS (aA T.qJ (m6 T) hr (aa (pv 0) (aa (pv 2) ae))))) (jg (cF (bS (aA T.dP (c9 T) hr (aa (pv 0) (aa (pv 3) ae))))) (jg (cF (bS (aA T.dP (c9 T) hr (aa (pv 0) (aa (pv 4) ae))))) (jw (aM km (pv 4) (pv 3) (aQ _))))))) (ag (au (aE (aa (aL (v:=.int (-1)) rfl T.aZ ⟨_,rfl⟩) ae)))) aP)
   (ab (aX (mw (pv 0) T.aw.cls T.di (gO T) hr (aa (pv 2) (aa (rE rfl rfl T.qQ rfl T.dD (aa (pv 3) (aa (aO bz (pv 4) ak) ae))) (aa Kt ae)))))
   (ag (au (aE (aa ak ae))))))))),?_⟩
  refine⟨_,rfl,g,_,_,_,rfl,rfl,aF.of hG,at_of (j:=0) rfl rfl,?_⟩
  refine⟨_,rfl,g,_,_,_,rfl,rfl,aF.of hG,at_of (j:=1) rfl rfl,?_⟩
  refine⟨_,rfl,g,_,_,_,rfl,rfl,aF.of hG,at_of (j:=2) rfl rfl,?_⟩
  have no:(Vbbcag.isUnit s u=false∨toCome? s t=false∨¬(t≤v∧v≤(s.hours.length:Int)-1))→∀l,H l=none→Q (.ref l) (upd H l (.lst (zV [-1]))):=fun c l hl=>by
   refine q.put p (Gx H) hl (xs:=[-1]) ?_ (by simp)
   simp only[Vbbcag.step]
   exact if_pos (c.imp id fun c=>c.imp id fun z=>decide_eq_false z)
  dsimp only[kK]
  refine iN (fun σ' H1=>σ'=[some (.ref a),some (.ref g),some (.int u),some (.int t),some (.int v)]∧H1=H∧Vbbcag.isUnit s u=true∧toCome? s t=true∧t≤v∧v<(s.hours.length:Int)) (fun σ' H1 hM=>?_) (fun N hN=>?_)
  ·obtain⟨rfl,rfl,cu,c,v1,v2⟩:=hM
   obtain⟨c1,c2⟩:=lx c
   obtain⟨k1,k2⟩:=yI cu
   obtain⟨n,rfl⟩:∃n:Nat,t=(n:Int):=⟨t.toNat,by omega⟩
   obtain⟨m,rfl⟩:∃n:Nat,v=(n:Int):=⟨v.toNat,by omega⟩
   obtain⟨k,rfl⟩:∃n:Nat,u=(n:Int):=⟨u.toNat,by omega⟩
   have oJ:=p.ok.oJ
   obtain⟨dx,fs,hA,hF⟩:=p.nm (m:="set_available") fun gv=>rfl
   refine⟨_,rfl,a,dx,fs,rfl,hA,hF,_,rfl,_,rfl,_,rfl,_,_,rfl,rfl,(n:Int),(m:Int)+1,rfl,⟨by omega,by omega,by omega,by omega⟩,by omega,fun b hb=>?_⟩
   have s1:=aq (o:=.lst ((Q5 ((m:Int)+1-(n:Int)).toNat).map fun k=>V.int ((n:Int)+(k:Nat)))) hb
   have p1:=p.same s1
   have en:((m:Int)+1-(n:Int)).toNat=m+1-n:=TR (m+1) n
   refine⟨a,b,s,A,k,n,m+1-n,false,rfl,p1,by omega,by omega,?_,fun m=>p.alive m hb,fun H2 A2 p2 ex F2=>?_⟩
   ·rw[af,en]
    rfl
   refine⟨sz (by simp),fun l hl=>?_⟩
   refine q.fin p2 ex ((Frame.of s1).trans F2) hl (xs:=[0]) ?_ (by simp)
   simp only[Vbbcag.step,QW]
   rw[if_neg]
   ·rw[LF (by omega) (by omega),QW,show((m:Int)+1).toNat=m+1 from QW (m+1)]
    rfl
   ·rintro (z|z|z)
    ·rw[cu]at z;cases z
    ·rw[show Vbbcag.from_ (n:Int) (s.now:Int) ((s.hours.length:Int)-1)=true from c]at z;cases z
    ·rw[show Vbbcag.from_ (m:Int) (n:Int) ((s.hours.length:Int)-1)=true from decide_eq_true ⟨v1,by omega⟩]at z;cases z
  ·refine⟨_,rfl,_,rfl,a,s,A,100,u,rfl,p,_,rfl,?_⟩
   cases cu:Vbbcag.isUnit s u with
   | false=>exact bP (bP ⟨sz (by simp),fun l hl=>no (.inl cu) l hl⟩)
   | true =>
    refine dg ⟨_,rfl,_,rfl,a,s,A,100,t,rfl,p,_,rfl,?_⟩
    cases c:toCome? s t with
    | false=>exact bP (bP ⟨sz (by simp),fun l hl=>no (.inr (.inl c)) l hl⟩)
    | true =>
     refine dg ⟨_,rfl,_,rfl,a,s,A,100,v,rfl,p,_,rfl,?_⟩
     obtain⟨c1,c2⟩:=lx c
     cases cv:toCome? s v with
     | false =>
      have:=AA cv
      exact bP (bP ⟨sz (by simp),fun l hl=>no (.inr (.inr fun z=>this ⟨by omega,by omega⟩)) l hl⟩)
     | true =>
      obtain⟨d1,d2⟩:=lx cv
      refine dg ⟨_,rfl,_,rfl,_,_,rfl,rfl,_,rfl,?_⟩
      refine bF (fun c3=>?_) (fun c3=>?_)
      ·have c3:v<t:=of_decide_eq_true c3
       exact⟨sz (by simp),fun l hl=>no (.inr (.inr fun z=>by omega)) l hl⟩
      ·have c3:¬v<t:=fun z=>c3 (decide_eq_true z)
       exact hN _ _ ⟨rfl,rfl,cu,c,by omega,d2⟩
def DT(T:Tx K mg):Sp:=fun vs H Q _=>E5 fun a g s A (u:Int)=>A4 (vs=[.ref a,.ref g]) (aI T H a s A) (H g=some (.lst (zV [u]))) (bV T H Q a s A (.back u))
theorem Dv(T:Tx K mg):dJ P w base 3 T.jT (DT T):=by
 refine T.jT.fn.ok vm (fun vs H Q E h=>?_) (fun cdv A outer s H vs Q E hr h=>?_)
 ·obtain⟨a,g,s,A,u,rfl,_⟩:=h
  rfl
 ·obtain⟨a,g,s,A,u,rfl,p,hG,q⟩:=h
  refine⟨_,(ab (ax (i:=2) vm.nd rfl (Or.inl rfl) (aT aG (pv 1) ak (fun _ _=>rfl)))
   (ab (bf (cF (bS (aA T.qJ (m6 T) hr (aa (pv 0) (aa (pv 2) ae))))) (ag (au (aE (aa (aL (v:=.int (-1)) rfl T.aZ ⟨_,rfl⟩) ae)))) aP)
   (ab (aX (mw (pv 0) T.aw.cls T.di (gO T) hr (aa (pv 2) (aa (wZ (pv 0) T.aw.cls T.cq (dY T) hr) (aa Kt ae)))))
   (ag (au (aE (aa ak ae))))))),?_⟩
  refine⟨_,rfl,g,_,_,_,rfl,rfl,aF.of hG,at_of (j:=0) rfl rfl,?_⟩
  refine⟨_,rfl,_,rfl,a,s,A,100,u,rfl,p,_,rfl,?_⟩
  cases cu:Vbbcag.isUnit s u with
  | false =>
   refine bP ⟨sz (by simp),fun l hl=>?_⟩
   exact q.put p (Gx H) hl (xs:=[-1]) (by simp only[Vbbcag.step];exact if_pos cu) (by simp)
  | true =>
   refine dg ?_
   obtain⟨k1,k2⟩:=yI cu
   obtain⟨k,rfl⟩:∃n:Nat,u=(n:Int):=⟨u.toNat,by omega⟩
   have nw:=p.ok.nw
   obtain⟨dx,fs,hA,hF⟩:=p.nm (m:="set_available") fun gv=>rfl
   obtain⟨dx2,fs2,hA2,hF2⟩:=p.nm (m:="hours_to_come") fun gv=>rfl
   refine⟨_,rfl,a,dx,fs,rfl,hA,hF,_,rfl,_,rfl,a,dx2,fs2,rfl,hA2,hF2,a,s,A,100,rfl,p,fun b H1 s1 hb0 hb1=>?_⟩
   have p1:=p.same s1
   refine⟨a,b,s,A,k,s.now,s.hours.length-s.now,true,rfl,p1,by omega,by omega,hb1,fun m=>p.alive m hb0,fun H2 A2 p2 ex F2=>?_⟩
   refine⟨sz (by simp),fun l hl=>?_⟩
   refine q.fin p2 ex ((Frame.of s1).trans F2) hl (xs:=[0]) ?_ (by simp)
   simp only[Vbbcag.step,QW]
   rw[if_neg (by rw[cu];simp),J0 nw]
   rfl
theorem EV:∀{us:List Unit_}{ms:Modes}(i:Nat){u:Unit_}{m:Mode},bG us ms→us[i]?=some u→rK u m→bG us (ms.set i m)
 | [],[],i,_,_,_,e,_=>by simp at e
 | u::r,m::l,0,_,_,h,e,hm=>by
  simp at e
  subst e
  exact⟨hm,h.2⟩
 | u::r,m::l,i+1,_,_,h,e,hm=>⟨h.1,EV i h.2 e hm⟩
 | [],_::_,_,_,_,h,_,_=>h.elim
 | _::_,[],_,_,_,h,_,_=>h.elim
theorem Kh:∀{us:List Unit_}{ms:Modes}(i:Nat){u:Unit_}(m:Mode),us[i]?=some u→(mV us ms).set i (.int (place u m:Nat))=mV us (ms.set i m)
 | [],_,i,_,_,e=>by simp at e
 | u::r,[],i,_,_,e=>by simp[mV]
 | u::r,x::l,0,_,m,e=>by
  simp at e
  subst e
  rfl
 | u::r,x::l,i+1,_,m,e=>by
  have:=Kh (us:=r) (ms:=l) i m e
  show V.int (place u x:Nat)::(mV r l).set i _=V.int (place u x:Nat)::mV r (l.set i m)
  rw[this]
theorem cP.KL{T:Tx K mg}{H:Hp}{a:Addr}{s:State}{A:qE}{k:Nat}(p:cP T H a s A k){ms:Modes}(ok:bG s.units ms):cP T (upd H A.pm (.lst (mV s.units ms))) a {s with modes:=ms} A k∧Frame (aJ a A) (aJ a A) H (upd H A.pm (.lst (mV s.units ms))):=by
 have F:Frame (aJ a A) (aJ a A) H (upd H A.pm (.lst (mV s.units ms))):=Frame.upd (by simp[aJ])
 refine⟨?_,F⟩
 have f:=p.IP F rfl
 obtain⟨dx,gv,o1,o2⟩:=p.obj
 have nd:=p.nd
 unfold aJ at nd
 simp only[Rh,QM,not_or]at nd
 obtain⟨⟨a1,a2,a3,a4,a5⟩,⟨b1,b2,b3,b4⟩,_⟩:=nd
 obtain⟨rts,t1,t2,t3⟩:=p.tabs
 refine⟨⟨dx,gv,by rw[ah a1];exact o1,?_⟩,p.units.same f,af,by rw[ah (Ne.symm b1)];exact p.loads,by rw[ah (Ne.symm b2)];exact p.eS,p.jR,fun i r h x y=>by rw[ah (fun z=>b4 (by rw[←z];exact QL x))];exact p.rows i r h x y,⟨rts,by rw[ah (Ne.symm b3)];exact t1,t2,fun j r x y=>f _ _ (t3 j r x y)⟩,p.nd,p.IC F rfl,⟨p.ok.wf,p.ok.u4,p.ok.sc,ok,p.ok.nw,p.ok.oJ,p.ok.fr,p.ok.ld⟩⟩
 rcases o2 with o2|⟨g,o2,o3⟩
 ·exact .inl o2
 ·exact .inr ⟨g,o2,o3.same f⟩
def D4(T:Tx K mg):Sp:=fun vs H Q _=>E5 fun a g s A (u:Int)=>A4 (vs=[.ref a,.ref g]) (aI T H a s A) (H g=some (.lst (zV [u]))) (bV T H Q a s A (.trip u))
theorem DD(T:Tx K mg):dJ P w base 2 T.jZ (D4 T):=by
 refine T.jZ.fn.ok oh (fun vs H Q E h=>?_) (fun cdv A outer s H vs Q E hr h=>?_)
 ·obtain⟨a,g,s,A,u,rfl,_⟩:=h
  rfl
 ·obtain⟨a,g,s,A,t,rfl,p,hG,q⟩:=h
  refine⟨_,(ab (ax (i:=2) oh.nd rfl (Or.inl rfl) (aT aG (pv 1) ak (fun _ _=>rfl)))
   (ab (bf (cF (bS (aA T.qJ (m6 T) hr (aa (pv 0) (aa (pv 2) ae))))) (ag (au (aE (aa (aL (v:=.int (-1)) rfl T.aZ ⟨_,rfl⟩) ae)))) aP)
   (ab (ax (i:=3) oh.nd rfl (Or.inl rfl) (aT aG (aj (pv 0) rfl) (pv 2) (fun _ _=>rfl)))
   (ab (bf (cF (bS (aA T.uP (kl T) hr (aa (pv 3) (aa (aT aG (aj (pv 0) rfl) (pv 2) (fun _ _=>rfl)) ae))))) (ag (au (aE (aa (aL (v:=.int (-4)) rfl T.i9 ⟨_,rfl⟩) ae)))) aP)
   (ab (DJ (aA T.kj (je T) hr (aa (pv 3) (aa ak ae))) (DG (aj (pv 0) rfl) (pv 2) set_list))
   (ag (au (aE (aa ak ae))))))))),?_⟩
  have o:=p.ok
  refine⟨_,rfl,g,_,_,_,rfl,rfl,aF.of hG,at_of (j:=0) rfl rfl,?_⟩
  refine⟨_,rfl,_,rfl,a,s,A,100,t,rfl,p,_,rfl,?_⟩
  cases cu:Vbbcag.isUnit s t with
  | false =>
   refine bP ⟨sz (by simp),fun l hl=>?_⟩
   exact q.put p (Gx H) hl (xs:=[-1]) (by simp only[Vbbcag.step];exact if_pos cu) (by simp)
  | true =>
   refine dg ?_
   obtain⟨k1,k2⟩:=yI cu
   obtain⟨n,rfl⟩:∃n:Nat,t=(n:Int):=⟨t.toNat,by omega⟩
   obtain⟨rs,u1,u2,u3⟩:=p.K3
   obtain⟨r,er⟩:∃r,rs[n]?=some r:=⟨_,QJ (by omega)⟩
   obtain⟨u,eu,hU⟩:=u3 n r er
   have ml:=o.ms.len
   obtain⟨m,em⟩:∃m,s.modes[n]?=some m:=⟨_,QJ (by omega)⟩
   have hu:=o.wf u (QL eu)
   have hm:=o.ms.get eu em
   have CM:=hu.CM
   have st:Vbbcag.step s (.trip (n:Int))=(match some m with
     | some (.on _ _)=>Vbbcag.yes {s with modes:=s.modes.set n (.off 1)} []
     | _=>Vbbcag.no s 4):=by
    simp only[Vbbcag.step,QW]
    rw[if_neg (by rw[cu];simp),em]
    rfl
   refine⟨_,rfl,p.dO ⟨_,rfl,A.pu,_,_,_,rfl,rfl,aF.of u1,at_of (j:=n) (v:=.ref r) rfl (by rw[QI,er];rfl),?_⟩⟩
   refine⟨_,rfl,_,rfl,p.jG ⟨_,rfl,A.pm,_,_,_,rfl,rfl,aF.of p.modes,at_of (j:=n) (v:=.int (place u m:Nat)) rfl (iA eu em),r,u,m,rfl,hU,hm,_,rfl,?_⟩⟩
   cases m with
   | off h =>
    refine bP ⟨sz (by simp),fun l hl=>?_⟩
    exact q.put p (Gx H) hl (xs:=[-4]) (by rw[st];rfl) (by simp)
   | on h lv =>
    refine dg ?_
    refine⟨_,rfl,r,u,1,rfl,hU,hu,QP _,?_⟩
    have e1:min 1 u.down=1:=by omega
    rw[e1]
    have ok1:rK u (.off 1):=⟨QP _,CM⟩
    obtain⟨p2,F2⟩:=p.KL (EV n o.ms eu ok1)
    refine⟨_,rfl,p.jG ⟨_,rfl,A.pm,_,_,n,rfl,rfl,p.modes,Dk (by rw[lE o.ms];omega),?_⟩⟩
    rw[Kh n (.off 1) eu]
    refine⟨sz (by simp),fun l hl=>?_⟩
    exact q.fin p2 rfl F2 hl (xs:=[0]) (by rw[st];rfl) (by simp)
open Vbbcag (freeAll)
def BN(T:Tx K mg):Sp:=fun vs H Q _=>E6 fun a g r s A (t:Text)=>A6 (vs=[.ref a,.ref g]) (aI T H a s A) (H g=some (.lst [.ref r])) (H r=some (.lst (nV t))) (t.length≤1000) (bV T H Q a s A (.units t))
theorem Bj(T:Tx K mg):dJ P w base 7 T.iR (BN T):=by
 refine T.iR.fn.ok lU (fun vs H Q E h=>?_) (fun cdv A outer s H vs Q E hr h=>?_)
 ·obtain⟨a,g,r,s,A,t,rfl,_⟩:=h
  rfl
 ·obtain⟨a,g,r,s,A,t,rfl,p,hG,hR,hl,q⟩:=h
  refine⟨_,(ab (ax (i:=2) lU.nd rfl (Or.inl rfl) (aA T.AE (EU T) hr (aa (aT aG (pv 1) ak (fun _ _=>rfl)) ae)))
   (ab (bf (aM fP (pv 2) bR (aQ _)) (ag (au (aE (aa (aL (v:=.int (-2)) rfl T.sU ⟨_,rfl⟩) ae)))) aP)
   (ab (ax (i:=3) lU.nd rfl (Or.inl rfl) (aA T.fh (gQ T) hr (aa (pv 2) ae)))
   (ab (bf (aM oM (pv 3) (aL (v:=.int (600)) rfl T.mY ⟨_,rfl⟩) (aQ _)) (ag (au (aE (aa (aL (v:=.int (-5)) rfl T.sT ⟨_,rfl⟩) ae)))) aP)
   (ab (aX (mw (pv 0) T.aw.cls T.kI (pQ T) hr (aa (pv 2) ae)))
   (ag (au (aE (aa ak (aa (aH az rfl T.ba bh (aa (pv 2) ae)) (aa (pv 3) ae))))))))))),?_⟩
  refine⟨_,rfl,g,_,_,_,rfl,rfl,aF.of hG,at_of (j:=0) rfl rfl,?_⟩
  refine⟨r,t,rfl,hR,hl,fun H1 s1 w1=>?_,fun ul H1 s1 w0 hU=>?_⟩
  ·refine⟨_,rfl,rfl,_,rfl,bP ⟨sz (by simp),fun l hl=>?_⟩⟩
   exact q.put (p.same s1) (Frame.of s1) hl (xs:=[-2]) (by simp only[Vbbcag.step];rw[jQ,if_pos w1];rfl) (by simp)
  ·obtain⟨x1,x2,x3⟩:=Ho w0
   obtain⟨f1,f2⟩:=C7 readUnit _ x3
   have st:Vbbcag.step s (.units t)=if Vbbcag.STATES<stateCount ((bI t).filterMap readUnit)then Vbbcag.no s 5 else Vbbcag.yes (GH ((bI t).filterMap readUnit)) [(((bI t).filterMap readUnit).length:Int),(stateCount ((bI t).filterMap readUnit):Int)]:=by
    simp only[Vbbcag.step]
    rw[jQ,if_neg (by omega)]
    rfl
   have hw:lY ((bI t).filterMap readUnit):=fun u hu=>by
    obtain⟨x,_,e⟩:=U4.mp hu
    exact Ff e
   generalize (bI t).filterMap readUnit=us at *
   have u4:us.length≤4:=by omega
   refine⟨_,rfl,rfl,_,rfl,dg ?_⟩
   have hU1:cQ T.aK.C H1 ul us:=hU.same (yC _ _)
   refine⟨_,rfl,ul,us,rfl,hU1,hw,?_⟩
   refine⟨_,rfl,_,_,rfl,rfl,_,rfl,?_⟩
   refine bF (fun c=>?_) (fun c=>?_)
   ·have c:(600:Int)<(stateCount us:Int):=of_decide_eq_true c
    refine⟨sz (by simp),fun l hl=>?_⟩
    exact q.put (p.same s1) (Frame.of s1) hl (xs:=[-5]) (by rw[st];exact if_pos (show(600:Nat)<_ by omega)) (by simp)
   ·have c:¬(600:Int)<(stateCount us:Int):=fun z=>c (decide_eq_true z)
    have p1:=p.same s1
    obtain⟨dx,gv,o1,_⟩:=p1.obj
    obtain⟨dx2,fs,hA,hF⟩:=p1.nm (m:="begin") fun gv=>rfl
    have hU2:cQ T.aK.C (jm H1 (a::A.ex)) ul us:=hU.same fun b o e=>by
     obtain⟨e1,e2⟩:=dE e
     refine js e1 fun m=>?_
     rcases QM.mp m with m|m
     ·exact p.alive (b:=b) (by rw[m];simp[aJ]) e2
     ·exact(p.vB b m).2 e2
    refine⟨_,rfl,a,dx2,fs,rfl,hA,hF,_,rfl,a,ul,dx,_,us,A.ex,rfl,o1,.inr ⟨A,s,gv,rfl⟩,hU2,hw,u4,by omega,fun b hb=>⟨fun e=>(p1.vB b hb).1 (by rw[e];simp[aJ]),(p1.vB b hb).2⟩,fun H2 A2 p2 ex fr nw=>?_⟩
    obtain⟨rs,g1,g2,g3⟩:=hU2.get
    obtain⟨g1,g1n⟩:=dq g1
    have nul:ul≠a:=fun e=>g1n (by rw[e];simp)
    refine⟨_,rfl,ul,_,rfl,.inl (aF.of (fr _ _ g1 nul)),_,rfl,sz (by simp),fun l hl=>?_⟩
    rw[QH,g2]
    have F2:Frame (aJ a A) (aJ a A2) H1 H2:=⟨fun b o e n=>fr b o e fun z=>n (by rw[z];simp[aJ]),fun b hb=>(nw b hb).imp (fun z=>by rw[z];simp[aJ]) id⟩
    exact q.fin p2 ex ((Frame.of s1).trans F2) hl (xs:=[0,(us.length:Int),(stateCount us:Int)]) (by rw[st];exact if_neg (show ¬(600:Nat)<_ by omega)) (by simp)
def G4(T:Tx K mg):Sp:=fun vs H Q _=>E6 fun a g r s A (l:List Int)=>A6 (vs=[.ref a,.ref g]) (aI T H a s A) (H g=some (.lst [.ref r])) (H r=some (.lst (zV l))) (l.length≤300) (bV T H Q a s A (.go l))
theorem GO(T:Tx K mg):dJ P w base 7 T.qI (G4 T):=by
 refine T.qI.fn.ok n8 (fun vs H Q E h=>?_) (fun cdv A outer s H vs Q E hr h=>?_)
 ·obtain⟨a,g,r,s,A,l,rfl,_⟩:=h
  rfl
 ·obtain⟨a,g,r,s,A,ls,rfl,p,hG,hR,hl,q⟩:=h
  refine⟨_,(ab (ax (i:=2) n8.nd rfl (Or.inl rfl) (aT aG (pv 1) ak (fun _ _=>rfl)))
   (ab (bf (PW.pt (jg (aM EY (aH az rfl T.ba bh (aa (pv 2) ae)) (aH az rfl T.ba bh (aa (aj (pv 0) rfl) ae)) (aQ _)) (jw (cF (bS (aA T.j4 (lG T) hr (aa (pv 2) (aa (aL (v:=.int (60)) rfl T.jI ⟨_,rfl⟩) ae)))))))) (ag (au (aE (aa (aL (v:=.int (-1)) rfl T.aZ ⟨_,rfl⟩) ae)))) aP)
   (ab (bf (cF (bS (aA T.dP (c9 T) hr (aa (pv 0) (aa (aj (pv 0) rfl) ae))))) (ag (au (aE (aa (aL (v:=.int (-3)) rfl T.cD ⟨_,rfl⟩) ae)))) aP)
   (ab (ax (i:=3) n8.nd rfl (Or.inl rfl) (aA T.uV (xT T) hr (aa (pv 0) (aa (aj (pv 0) rfl) (aa (aj (pv 0) rfl) (aa (pv 2) ae))))))
   (ab (bf (PW.pt (jg (aM fP (pv 3) bR (aQ _)) (jw (aM km (aH (F9 rfl) rfl T.zB FX (aa (pv 2) ae)) (aT aG (aj (pv 0) rfl) (aj (pv 0) rfl) (fun _ _=>rfl)) (aQ _))))) (ag (au (aE (aa (aL (v:=.int (-6)) rfl T.iu ⟨_,rfl⟩) ae)))) aP)
   (ab (ax (i:=4) n8.nd rfl (Or.inl rfl) (aA T.qP (u9 T) hr (aa (pv 0) (aa (aj (pv 0) rfl) (aa (pv 3) ae)))))
   (ab (aX (mw (pv 0) T.aw.cls T.jn (tq T) hr (aa (pv 3) (aa (pv 4) ae))))
   (ag (au (aE (aa ak (aa (pv 4) ae)))))))))))),?_⟩
  have o:=p.ok
  obtain⟨rs,u1,u2,u3⟩:=p.K3
  refine⟨_,rfl,g,_,_,_,rfl,rfl,aF.of hG,at_of (j:=0) rfl rfl,?_⟩
  have no:((ls.all fun v=>Vbbcag.from_ v 0 60)=false∨ls.length≠s.units.length)→∀H1,aN H H1→∀l,H1 l=none→Q (.ref l) (upd H1 l (.lst (zV [-1]))):=fun c H1 s1 l hl=>by
   refine q.put (p.same s1) (Frame.of s1) hl (xs:=[-1]) ?_ (by simp)
   simp only[Vbbcag.step]
   exact if_pos c
  dsimp only[kK]
  refine iN (fun σ' H1=>σ'=[some (.ref a),some (.ref g),some (.ref r),none,none]∧aN H H1∧(ls.all fun v=>Vbbcag.from_ v 0 60)=true∧ls.length=s.units.length) (fun σ' H1 hM=>?_) (fun N hN=>?_)
  ·obtain⟨rfl,s1,call,clen⟩:=hM
   have p1:=p.same s1
   have nn:zV ls=nV (ls.map TV):=AG fun z hz=>by
    have:=R3.mp call z hz
    unfold Vbbcag.from_ at this
    exact(of_decide_eq_true this).1
   have st:Vbbcag.step s (.go ls)=(match coming s with
     | []=>Vbbcag.no s 3
     | h::_=>match Vbbcag.toLevels s.units h.free s.modes (ls.map TV)with
      | none=>Vbbcag.no s 6
      | some x=>if given x.1<h.load then Vbbcag.no s 6 else Vbbcag.yes {s with now:=s.now+1,modes:=x.1,spent:=s.spent+x.2} [(x.2:Int)]):=by
    simp only[Vbbcag.step]
    rw[if_neg]
    ·rfl
    ·rintro (z|z)
     ·rw[call]at z;cases z
     ·exact z clen
   refine⟨_,rfl,_,rfl,p1.oI ⟨a,s,A,100,(s.now:Int),rfl,p1,_,rfl,?_⟩⟩
   cases c3:toCome? s (s.now:Int)with
   | false =>
    have:=AA c3
    have en:coming s=[]:=by unfold coming;exact Us (by omega)
    rw[en]at st
    refine bP ⟨sz (by simp),fun l hl=>?_⟩
    exact q.put p1 (Frame.of s1) hl (xs:=[-3]) (by rw[st];rfl) (by simp)
   | true =>
    refine dg ?_
    obtain⟨_,c4⟩:=lx c3
    obtain⟨h,eh⟩:∃h,s.hours[s.now]?=some h:=⟨_,QJ (by omega)⟩
    have ec:coming s=h::s.hours.drop (s.now+1):=by
     obtain⟨z1,z2⟩:=QO.mp eh
     unfold coming
     rw[Ru z1,z2]
    have hf:s.units.length=h.free.length:=o.fr h (QL eh)
    have ll:(ls.map TV).length=s.units.length:=by rw[QH];exact clen
    rw[ec]at st
    dsimp only at st
    rw[qB hf o.ms.len.symm ll.symm]at st
    have hR1:=s1 _ _ hR
    rw[nn]at hR1
    refine⟨_,rfl,_,rfl,p1.jG ⟨_,rfl,p1.oI ⟨_,rfl,a,A.pm,r,s,A,100,s.modes,h,_,s.now,rfl,p1,eh,p1.modes,o.ms,hR1,ll,fun hn H2 s2=>?_,fun xs hs' x H2 s2 hx0 hx2=>?_⟩⟩⟩
    ·rw[hn]at st
     refine⟨_,rfl,rfl,_,rfl,bP (bP ⟨sz (by simp),fun l hl=>?_⟩)⟩
     exact q.put (p1.same s2) (Frame.of (s1.trans s2)) hl (xs:=[-6]) (by rw[st];rfl) (by simp)
    ·rw[hs']at st
     obtain⟨hxo,hgv⟩:=Dl o.wf o.ms hf ll.symm hs'
     have p2:=p1.same s2
     have s12:=s1.trans s2
     refine⟨_,rfl,rfl,_,rfl,dg ?_⟩
     refine⟨_,rfl,r,_,rfl,aF.of (by rw[s2 _ _ hR1,N8];rfl),_,rfl,p2.dm ⟨_,rfl,p2.oI ⟨A.pl,_,_,_,rfl,rfl,aF.of p2.loads,cR (v:=.int (h.load:Nat)) (p2.Dq eh),_,_,rfl,rfl,_,rfl,?_⟩⟩⟩
     rw[Kk,←hgv]
     simp only[Uh]at st
     refine bF (fun c5=>?_) (fun c5=>?_)
     ·have c5:((given xs:Nat):Int)<((h.load:Nat):Int):=of_decide_eq_true c5
      rw[if_pos (by omega)]at st
      refine⟨sz (by simp),fun l hl=>?_⟩
      exact q.put p2 (Frame.of s12) hl (xs:=[-6]) (by rw[st];rfl) (by simp)
     ·have c5:¬((given xs:Nat):Int)<((h.load:Nat):Int):=fun z=>c5 (decide_eq_true z)
      rw[if_neg (by omega)]at st
      refine⟨_,rfl,_,rfl,p2.jG ⟨_,rfl,a,A.pm,x,s,A,100,s.modes,xs,rfl,p2,p2.modes,o.ms,hx2,hxo,fun H3 s3=>?_⟩⟩
      have s13:=s2.trans s3
      have pp:aI T H3 a s (A.plus x):=by
       refine p1.over s13 (fun b oo e=>?_) rfl fun b hb=>?_
       ·obtain⟨e1,e2⟩:=dq e
        refine js (s13 _ _ e1) fun m=>?_
        rcases RB.mp m with m|m
        ·exact e2 (SX _ m)
        ·rcases QM.mp m with m|m
         ·rw[m,hx0]at e1;cases e1
         ·exact e2 (Ri _ m)
       ·rcases QM.mp hb with rfl|hb
        ·exact⟨fun m=>p1.alive m hx0,fun z=>by rw[s3 _ _ hx2]at z;cases z⟩
        ·exact⟨(p1.vB b hb).1,fun z=>(p1.vB b hb).2 (s13.free z)⟩
      obtain⟨dx,fs,hA,hF⟩:=pp.nm (m:="pass_hour") fun gv=>rfl
      refine⟨_,rfl,a,dx,fs,rfl,hA,hF,_,rfl,_,rfl,a,x,s,A,xs,lg s.units s.modes xs,rfl,pp,fun m=>(p1.vB x m).2 hx0,s3 _ _ hx2,hxo,by omega,fun H4 p4 fr=>?_⟩
      refine⟨_,rfl,sz (by simp),fun l hl=>?_⟩
      have F4:Frame (aJ a A) (aJ a { A with pm:=x}) H H4:=by
       refine⟨fun b oo e n=>fr b oo (s13 _ _ (s1 _ _ e)) fun z=>n (by rw[z];simp[aJ]),fun b hb=>?_⟩
       unfold aJ at hb ⊢
       simp only[QM]at hb ⊢
       rcases hb with hb|hb|hb|hb|hb|hb
       ·exact .inl (.inl hb)
       ·exact .inr (by rw[hb];exact s1.free hx0)
       ·exact .inl (.inr (.inr (.inl hb)))
       ·exact .inl (.inr (.inr (.inr (.inl hb))))
       ·exact .inl (.inr (.inr (.inr (.inr (.inl hb)))))
       ·exact .inl (.inr (.inr (.inr (.inr (.inr hb)))))
      exact q.fin p4 rfl F4 hl (xs:=[0,(lg s.units s.modes xs:Int)]) (by rw[st];rfl) (by simp)
  ·refine⟨_,rfl,r,_,rfl,.inl (aF.of hR),_,rfl,p.dO ⟨A.pu,_,rfl,.inl (aF.of u1),rfl,_,rfl,?_⟩⟩
   rw[aB,QH,u2]
   refine bF (fun c=>?_) (fun c=>?_)
   ·exact bP ⟨sz (by simp),fun l hl=>no (.inr (Pd c)) H (aN.refl _) l hl⟩
   ·refine⟨_,rfl,r,ls,60,rfl,hR,by omega,fun H1 s1=>⟨_,rfl,?_⟩⟩
    cases c2:ls.all fun z=>Vbbcag.from_ z 0 60 with
    | false=>exact bP ⟨sz (by simp),fun l hl=>no (.inl c2) H1 s1 l hl⟩
    | true=>exact dg (hN _ _ ⟨rfl,s1,c2,MX c⟩)
def Lz(s:State)(l:List Int):State:={s with hours:=l.map (fun v=>{free:=freeAll s.units,load:=v.toNat}),mark:=none}
theorem EE(us:List Unit_):freeAll us=QU us.length true:=by
 unfold freeAll
 induction us with
 | nil=>rfl
 | cons u r ih=>rw[RC,ih];rfl
def BE(T:Tx K mg):Sp:=fun vs H Q _=>E6 fun a g r s A (l:List Int)=>A7 (vs=[.ref a,.ref g]) (aI T H a s A) (H g=some (.lst [.ref r])) (H r=some (.lst (zV l))) (r≠a) (l.length≤300) (bV T H Q a s A (.loads l))
theorem Ba(T:Tx K mg):dJ P w base 2 T.iz (BE T):=by
 refine T.iz.fn.ok rJ (fun vs H Q E h=>?_) (fun cdv A outer s H vs Q E hr h=>?_)
 ·obtain⟨a,g,r,s,A,l,rfl,_⟩:=h
  rfl
 ·obtain⟨a,g,r,s,A,ls,rfl,p,hG,hR,nra,hl,q⟩:=h
  refine⟨_,(ab (ax (i:=2) rJ.nd rfl (Or.inl rfl) (aT aG (pv 1) ak (fun _ _=>rfl)))
   (ab (bf (PW.pt (jg (aM oM (aH az rfl T.ba bh (aa (pv 2) ae)) (aL (v:=.int (48)) rfl T.mX ⟨_,rfl⟩) (aQ _)) (jw (cF (bS (aA T.j4 (lG T) hr (aa (pv 2) (aa (aL (v:=.int (240)) rfl T.kL ⟨_,rfl⟩) ae)))))))) (ag (au (aE (aa (aL (v:=.int (-1)) rfl T.aZ ⟨_,rfl⟩) ae)))) aP)
   (ab (bf (PW.pt (jg (aM rC (aH az rfl T.ba bh (aa (aj (pv 0) rfl) ae)) ak (aQ _)) (jw (aM oM (aj (pv 0) rfl) ak (aQ _))))) (ag (au (aE (aa (aL (v:=.int (-3)) rfl T.cD ⟨_,rfl⟩) ae)))) aP)
   (ab (aX (mw (pv 0) T.aw.cls T.iT (mj T) hr (aa (pv 2) ae)))
   (ag (au (aE (aa ak (aa (aH az rfl T.ba bh (aa (pv 2) ae)) ae))))))))),?_⟩
  have o:=p.ok
  obtain⟨rs,u1,u2,u3⟩:=p.K3
  refine⟨_,rfl,g,_,_,_,rfl,rfl,aF.of hG,at_of (j:=0) rfl rfl,?_⟩
  have no:((ls.all fun v=>Vbbcag.from_ v 0 240)=false∨48<ls.length)→∀H1,aN H H1→∀l,H1 l=none→Q (.ref l) (upd H1 l (.lst (zV [-1]))):=fun c H1 s1 l hl=>by
   refine q.put (p.same s1) (Frame.of s1) hl (xs:=[-1]) ?_ (by simp)
   simp only[Vbbcag.step]
   exact if_pos c
  dsimp only[kK]
  refine iN (fun σ' H1=>σ'=[some (.ref a),some (.ref g),some (.ref r)]∧aN H H1∧(ls.all fun v=>Vbbcag.from_ v 0 240)=true∧ls.length≤48) (fun σ' H1 hM=>?_) (fun N hN=>?_)
  ·obtain⟨rfl,s1,call,clen⟩:=hM
   have p1:=p.same s1
   have st:Vbbcag.step s (.loads ls)=if s.units.isEmpty=true∨s.now≠0 then Vbbcag.no s 3 else Vbbcag.yes (Lz s ls) [(ls.length:Int)]:=by
    simp only[Vbbcag.step]
    rw[if_neg]
    ·rfl
    ·rintro (z|z)
     ·rw[show(ls.all fun v=>Vbbcag.from_ v 0 (Vbbcag.LOAD:Nat))=true from call]at z;cases z
     ·exact absurd (show 48<ls.length from z) (by omega)
   have no3:(s.units.isEmpty=true∨s.now≠0)→∀l,H1 l=none→Q (.ref l) (upd H1 l (.lst (zV [-3]))):=fun c l hl =>
    q.put p1 (Frame.of s1) hl (xs:=[-3]) (by rw[st];exact if_pos c) (by simp)
   have inr:∀v∈ls,0≤v∧v≤240:=fun z hz=>by
    have:=R3.mp call z hz
    unfold Vbbcag.from_ at this
    exact of_decide_eq_true this
   refine iN (fun σ' H2=>σ'=[some (.ref a),some (.ref g),some (.ref r)]∧H2=H1∧¬(s.units.isEmpty=true∨s.now≠0)) (fun σ' H2 hM=>?_) (fun N hN=>?_)
   ·obtain⟨rfl,rfl,ne⟩:=hM
    rw[if_neg ne]at st
    obtain⟨dx,gv,o1,o2⟩:=p1.obj
    obtain⟨dx2,fs,hA,hF⟩:=p1.nm (m:="set_day") fun gv=>rfl
    have u4:=o.u4
    refine⟨_,rfl,a,dx2,fs,rfl,hA,hF,_,rfl,a,r,A.pu,dx,_,ls,rs.map V.ref,rfl,o1,by simp[qZ],rfl,s1 _ _ u1,by rw[QH];omega,s1 _ _ hR,clen,fun H3 pl pa pt lH d1 d2 d3 d4 d5 d6 d7 d8 fr=>?_⟩
    have now0:s.now=0:=SM fun z=>ne (.inr z)
    have F:Frame (aJ a A) (aJ a { A with pl:=pl,pa:=pa,pt:=pt,lH:=lH}) H2 H3:=by
     refine⟨fun b oo e n=>fr b oo e fun z=>n (by rw[z];simp[aJ]),fun b hb=>?_⟩
     have dd:=d8 b
     unfold aJ at hb ⊢
     simp only[QM]at hb dd ⊢
     rcases hb with hb|hb|hb
     ·exact .inl (.inl hb)
     ·exact .inl (.inr (.inl hb))
     ·exact .inr (dd hb)
    have f:=p1.IP (A':={ A with pl:=pl,pa:=pa,pt:=pt,lH:=lH}) F rfl
    obtain⟨n1,n2,n3,n4,n5⟩:=p1.Km
    have nd:=p1.nd
    have new:∀x,x∈pl::pa::pt::lH→x≠a∧x≠A.pm:=fun x hx=>⟨fun z=>(by have:=d8 x hx;rw[z,o1]at this;cases this),fun z=>(by have:=d8 x hx;rw[z,p1.modes]at this;cases this)⟩
    have pn:aI T H3 a (Lz s ls) { A with pl:=pl,pa:=pa,pt:=pt,lH:=lH}:=by
     refine⟨⟨dx,gv,d1,?_⟩,p1.units.same f,fr _ _ p1.modes n1,?_,d3,?_,fun i r' h x y=>?_,⟨[],d6,by simp,fun j r' x=>by simp at x⟩,?_,p1.IC F rfl,?_⟩
     ·rcases o2 with o2|⟨gg,o2,o3⟩
      ·exact .inl o2
      ·exact .inr ⟨gg,o2,o3.same f⟩
     ·show H3 pl=_
      rw[d2,AG fun z hz=>(inr z hz).1]
      unfold nV yg Lz
      simp only[Sd]
      rfl
     ·show lH.length=(ls.map _).length
      rw[QH];exact d4
     ·have:=d5 r' (QL x)
      rw[QH,u2,←EE]at this
      unfold Lz at y
      simp only[QI]at y
      obtain⟨v,_,rfl⟩:=QQ.mp y
      exact this
     ·unfold aJ at nd ⊢
      simp only[Rh,QM,not_or]at nd d7 ⊢
      have m1:=new pl (by simp)
      have m2:=new pa (by simp)
      have m3:=new pt (by simp)
      exact⟨⟨nd.1.1,Ne.symm m1.1,Ne.symm m2.1,Ne.symm m3.1,fun z=>(new a (by simp[z])).1 rfl⟩,⟨Ne.symm m1.2,Ne.symm m2.2,Ne.symm m3.2,fun z=>(new A.pm (by simp[z])).2 rfl⟩,d7⟩
     ·refine⟨o.wf,o.u4,o.sc,o.ms,by show s.now≤_;omega,by show(ls.map _).length≤48;rw[QH];exact clen,fun h hh=>?_,fun h hh=>?_⟩
      ·obtain⟨v,_,rfl⟩:=QV.mp hh
       show s.units.length=(freeAll s.units).length
       unfold freeAll
       rw[QH]
      ·obtain⟨v,hv,rfl⟩:=QV.mp hh
       have:=inr v hv
       show v.toNat≤240
       omega
    refine⟨_,rfl,r,_,rfl,.inl (aF.of (fr _ _ (s1 _ _ hR) nra)),sz (by simp),fun l hl=>?_⟩
    rw[aB]
    exact q.fin pn rfl ((Frame.of s1).trans F) hl (xs:=[0,(ls.length:Int)]) (by rw[st];rfl) (by simp)
   ·refine⟨_,rfl,p1.dO ⟨A.pu,_,rfl,.inl (aF.of (s1 _ _ u1)),rfl,_,rfl,?_⟩⟩
    rw[QH,u2]
    refine bF (fun c=>?_) (fun c=>?_)
    ·have c:s.units.length=0:=dI (j:=0) c
     exact bP ⟨sz (by simp),fun l hl=>no3 (.inl (by rw[RQ c];rfl)) l hl⟩
    ·have c:¬s.units.length=0:=Lb (j:=0) c
     refine⟨_,rfl,p1.oI ⟨_,_,rfl,rfl,_,rfl,?_⟩⟩
     refine bF (fun c2=>?_) (fun c2=>?_)
     ·have c2:(0:Int)<(s.now:Int):=of_decide_eq_true c2
      exact⟨sz (by simp),fun l hl=>no3 (.inr (by omega)) l hl⟩
     ·have c2:¬(0:Int)<(s.now:Int):=fun z=>c2 (decide_eq_true z)
      refine hN _ _ ⟨rfl,rfl,?_⟩
      rintro (z|z)
      ·exact c (by rw[UA.mp z];rfl)
      ·omega
  ·refine⟨_,rfl,r,_,rfl,.inl (aF.of hR),_,_,rfl,rfl,_,rfl,?_⟩
   rw[aB]
   refine bF (fun c=>?_) (fun c=>?_)
   ·have c:(48:Int)<(ls.length:Int):=of_decide_eq_true c
    exact bP ⟨sz (by simp),fun l hl=>no (.inr (by omega)) H (aN.refl _) l hl⟩
   ·have c:¬(48:Int)<(ls.length:Int):=fun z=>c (decide_eq_true z)
    refine⟨_,rfl,r,ls,240,rfl,hR,by omega,fun H1 s1=>⟨_,rfl,?_⟩⟩
    cases c2:ls.all fun z=>Vbbcag.from_ z 0 240 with
    | false=>exact bP ⟨sz (by simp),fun l hl=>no (.inl c2) H1 s1 l hl⟩
    | true=>exact dg (hN _ _ ⟨rfl,s1,c2,by omega⟩)
def KA(cl:Addr)(i:Nat):List (Str×V):=[("calls",.ref cl),("place",.int (i:Nat))]
def mF(T:Tx K mg)(H:Hp)(r dx cl:Addr)(l:List Int)(i:Nat):Prop:=H r=some (.ins T.aU.C dx (KA cl i))∧aF K H cl (zV l)
theorem mF.CQ{T:Tx K mg}{H:Hp}{r dx cl:Addr}{l:List Int}{i:Nat}{Q:V→Prop}(p:mF T H r dx cl l i)(q:Q (.ref cl)):ig K H r "calls" Q:=fc p.1 T.aU.cls T.gM rfl q
theorem mF.yA{T:Tx K mg}{H:Hp}{r dx cl:Addr}{l:List Int}{i:Nat}{Q:V→Prop}(p:mF T H r dx cl l i)(q:Q (.int (i:Nat))):ig K H r "place" Q:=fc p.1 T.aU.cls T.dB rfl q
theorem KO{H H':Hp}{a:Addr}{xs:List V}(h:aF K H a xs)(k:∀o,H a=some o→H' a=some o):aF K H' a xs:=by
 rcases h with(h|⟨o,h⟩)|h
 ·exact .inl (.inl (k _ h))
 ·exact .inl (.inr ⟨o,k _ h⟩)
 ·exact .inr h
theorem mF.move{T:Tx K mg}{H H':Hp}{r dx cl:Addr}{l:List Int}{i j:Nat}(p:mF T H r dx cl l i)(h:H' r=some (.ins T.aU.C dx (KA cl j)))(f:∀b o,H b=some o→b≠r→H' b=some o):mF T H' r dx cl l j:=by
 refine⟨h,?_⟩
 rcases p.2 with(e|⟨o,e⟩)|e
 ·exact .inl (.inl (f _ _ e (rq e p.1 (by intro q;cases q))))
 ·exact .inl (.inr ⟨o,f _ _ e (rq e p.1 (by intro q;cases q))⟩)
 ·exact .inr e
theorem mF.same{T:Tx K mg}{H H':Hp}{r dx cl:Addr}{l:List Int}{i:Nat}(p:mF T H r dx cl l i)(s:aN H H'):mF T H' r dx cl l i:=⟨s _ _ p.1,KO p.2 fun o e=>s _ _ e⟩
def Ak(T:Tx K mg):Sp:=fun vs H Q _=>E3 fun(r:Addr)(dx:Addr)(cl:Addr)=>A3 (vs=[.ref r,.ref cl]) (H r=some (.ins T.aU.C dx [])) (∀H',H'=upd H r (.ins T.aU.C dx (KA cl 0))→Q .non H')
theorem zF(T:Tx K mg):Mo P w base 1 T.aU (Ak T):=by
 refine T.aU.fn.ok Ad (fun vs H Q E h=>?_) (fun cdv A outer s H vs Q E hr h=>?_)
 ·obtain⟨r,dx,cl,rfl,_⟩:=h
  rfl
 ·obtain⟨r,dx,cl,rfl,hR,q⟩:=h
  refine⟨_,(ab (bK (pv 0) (pv 1) rfl)
   (ag (bK (pv 0) ak rfl))),?_⟩
  refine⟨_,rfl,_,rfl,fR (gs:=[("calls",.ref cl)]) hR T.aU.cls T.gM rfl (by simp) ?_⟩
  refine⟨_,rfl,fR (gs:=KA cl 0) af T.aU.cls T.dB rfl (by simp) ?_⟩
  rw[cg]
  exact q _ rfl
def ub(T:Tx K mg):Sp:=fun vs H Q _=>E5 fun(r:Addr)(dx:Addr)(cl:Addr)(l:List Int)(i:Nat)=>A3 (vs=[.ref r]) (mF T H r dx cl l i) (Q (.bl (decide (i<l.length))) H)
theorem tu(T:Tx K mg):Ih P w mg base 1 T.jo (ub T):=by
 refine T.jo.fn.ok tW (fun vs H Q E h=>?_) (fun cdv A outer s H vs Q E hr h=>?_)
 ·obtain⟨r,dx,cl,l,i,rfl,_⟩:=h
  rfl
 ·obtain⟨r,dx,cl,l,i,rfl,p,q⟩:=h
  refine⟨_,(ag (au (yF km (aj (pv 0) rfl) (aH az rfl T.ba bh (aa (aj (pv 0) rfl) ae)) (aQ _)))),?_⟩
  refine⟨_,rfl,p.yA ⟨_,rfl,p.CQ ⟨cl,_,rfl,.inl (p.2),_,_,rfl,rfl,?_⟩⟩⟩
  rw[aB]
  have e:decide ((i:Int)<(l.length:Int))=decide (i<l.length):=by rw[RU];simp
  dsimp only
  rw[e]
  exact q
def oY(T:Tx K mg):Sp:=fun vs H Q _=>E6 fun(r:Addr)(dx:Addr)(cl:Addr)(l:List Int)(i:Nat)(z:Int)=>A4 (vs=[.ref r]) (mF T H r dx cl l i) (l[i]?=some z) (∀H',H'=upd H r (.ins T.aU.C dx (KA cl (i+1)))→Q (.int z) H')
theorem ib(T:Tx K mg):Ih P w mg base 1 T.dM (oY T):=by
 refine T.dM.fn.ok ic (fun vs H Q E h=>?_) (fun cdv A outer s H vs Q E hr h=>?_)
 ·obtain⟨r,dx,cl,l,i,z,rfl,_⟩:=h
  rfl
 ·obtain⟨r,dx,cl,l,i,z,rfl,p,e,q⟩:=h
  refine⟨_,(ab (ax (i:=1) ic.nd rfl (Or.inl rfl) (aT aG (aj (pv 0) rfl) (aj (pv 0) rfl) (fun _ _=>rfl)))
   (ab (qT (pv 0) ak Dg)
   (ag (au (pv 1))))),?_⟩
  refine⟨_,rfl,p.CQ ⟨_,rfl,p.yA ⟨cl,_,_,_,rfl,rfl,p.2,at_of (j:=i) (v:=.int z) rfl (by unfold zV;rw[QI,e];rfl),?_⟩⟩⟩
  refine⟨_,rfl,r,_,dx,_,_,rfl,p.1,T.aU.cls,T.dB,rfl,_,_,rfl,rfl,dx,_,p.1,by simp[KA],?_⟩
  exact⟨_,rfl,q _ rfl⟩
def ow(T:Tx K mg):Sp:=fun vs H Q _=>E6 fun(r:Addr)(dx:Addr)(cl:Addr)(l:List Int)(i:Nat)(n:Nat)=>A3 (vs=[.ref r,.int (n:Nat)]) (mF T H r dx cl l i) (∀p H',H p=none→H'=upd (upd H p (.lst (zV ((l.drop i).take n)))) r (.ins T.aU.C dx (KA cl (i+n)))→Q (.ref p) H')
theorem gP(T:Tx K mg):Ih P w mg base 1 T.dk (ow T):=by
 refine T.dk.fn.ok g0 (fun vs H Q E h=>?_) (fun cdv A outer s H vs Q E hr h=>?_)
 ·obtain⟨r,dx,cl,l,i,n,rfl,_⟩:=h
  rfl
 ·obtain⟨r,dx,cl,l,i,n,rfl,p,q⟩:=h
  refine⟨_,(ab (ax (i:=2) g0.nd rfl (Or.inl rfl) (cW eY (aj (pv 0) rfl) (bY (aj (pv 0) rfl)) (bY (aO bz (aj (pv 0) rfl) (pv 1)))))
   (ab (qT (pv 0) (pv 1) Dg)
   (ag (au (pv 2))))),?_⟩
  refine⟨_,rfl,p.CQ ⟨_,rfl,p.yA ⟨_,rfl,_,rfl,p.yA ⟨_,rfl,_,_,rfl,rfl,_,rfl,cl,_,rfl,p.2,fun b hb=>?_⟩⟩⟩⟩
  have e:j6 (zV l) (some (i:Int)) (some ((i:Int)+(n:Int)))=zV ((l.drop i).take n):=by
   rw[←Sf,yY,yM,yL,U9]
   congr 2
   omega
  rw[e]
  have p1:=p.same (aq (o:=.lst (zV ((l.drop i).take n))) hb)
  refine⟨_,rfl,r,_,dx,_,_,rfl,p1.1,T.aU.cls,T.dB,rfl,_,rfl,_,_,rfl,rfl,dx,_,p1.1,by simp[KA],?_⟩
  refine⟨_,rfl,q b _ hb ?_⟩
  rw[show(i:Int)+(n:Int)=((i+n:Nat):Int)from(Sf i n).symm]
  rfl
def JD(H0 H:Hp)(g:Addr)(ns:List Int)(xs:List (List Int)):Prop:=∃rs:List Addr,H g=some (.lst (zV ns++rs.map V.ref))∧H0 g=none∧rs.length=xs.length∧∀(j:Nat)(r:Addr),rs[j]?=some r→∃x,xs[j]?=some x∧H r=some (.lst (zV x))∧H0 r=none
theorem vh:∀{k:Nat}{l t:List Int}{xs:List (List Int)},PyFlat.rows k l=some (xs,t)→xs.length=k
 | 0,l,t,xs,h=>by
  simp only[PyFlat.rows,S6,UD]at h
  rw[←h.1];rfl
 | k+1,l,t,xs,h=>by
  unfold PyFlat.rows at h
  split at h
  ·cases h
  ·split at h
   ·cases h
   ·rename_i h2
    simp only[S6,UD]at h
    rw[←h.1,Q2,vh h2]
theorem Ji{k:Nat}{l t:List Int}{xs:List (List Int)}(h:PyFlat.rows (k+1) l=some (xs,t)):∃(z:Nat)(r:List Int)(ys:List (List Int)),l=(z:Int)::r∧z≤r.length∧xs=r.take z::ys∧PyFlat.rows k (r.drop z)=some (ys,t):=by
 unfold PyFlat.rows at h
 split at h
 ·cases h
 ·rename_i x s' h1
  split at h
  ·cases h
  ·rename_i ys t' h2
   simp only[S6,UD]at h
   obtain⟨rfl,rfl⟩:=h
   cases l with
   | nil=>simp[PyFlat.row]at h1
   | cons n r =>
    change (if 0≤n∧n.toNat≤r.length then some (r.take n.toNat,r.drop n.toNat)else none)=_ at h1
    by_cases hc:0≤n∧n.toNat≤r.length
    ·rw[if_pos hc]at h1
     simp only[S6,UD]at h1
     obtain⟨rfl,rfl⟩:=h1
     exact⟨n.toNat,r,ys,by congr 1;omega,hc.2,rfl,h2⟩
    ·rw[if_neg hc]at h1
     cases h1
def BK(T:Tx K mg):Sp:=fun vs H Q _=>OM fun(r:Addr)(f:Addr)(dx:Addr)(cl:Addr)(l:List Int)(i:Nat)(n:Nat)(k:Nat)(xs:List (List Int))(t:List Int)=>A8 (vs=[.ref r,.ref f]) (mF T H r dx cl l i) ((∀H,eQ K H f [.int (n:Nat),.int (k:Nat)])) (n≤10) (k≤10) (n≤(l.drop i).length) (PyFlat.rows k ((l.drop i).drop n)=some (xs,t)) (∀g H' i',mF T H' r dx cl l i'→l.drop i'=t→(∀b o,H b=some o→b≠r→H' b=some o)→JD H H' g ((l.drop i).take n) xs→Q (.ref g) H')
theorem Bg(T:Tx K mg):dJ P w base 2 T.tJ (BK T):=by
 refine T.tJ.fn.ok lT (fun vs H Q E h=>?_) (fun cdv A outer s H vs Q E hr h=>?_)
 ·obtain⟨r,f,dx,cl,l,i,n,k,xs,t,rfl,_⟩:=h
  rfl
 ·obtain⟨r,f,dx,cl,l,i,n,k,xs,t,rfl,p,hF,n10,k10,hn,hR,q⟩:=h
  refine⟨_,(ab (ax (i:=2) lT.nd rfl (Or.inl rfl) (mw (pv 0) T.aU.cls T.dk (gP T) hr (aa (aT wA (pv 1) ak (fun _ _=>rfl)) ae)))
   (ab (bU PassesOwn.never rfl (wW rfl T.dD (aa (aT wA (pv 1) ak (fun _ _=>rfl)) ae)) (aD (i:=3) lT.nd rfl (Or.inl rfl)) (ag (aX (dH PySem.F.plainAttrs_list PySem.F.slot_list_append PySem.F.type_list_append cA (pv 2) (aa (mw (pv 0) T.aU.cls T.dk (gP T) hr (aa (wZ (pv 0) T.aU.cls T.dM (ib T) hr) ae)) ae)))))
   (ag (au (pv 2))))),?_⟩
  refine⟨_,rfl,r,dx,_,rfl,p.1,rfl,_,rfl,f,_,_,_,rfl,rfl,hF _,at_of (j:=0) rfl rfl,r,dx,cl,l,i,n,rfl,p,fun g H1 hg e1=>?_⟩
  have nrg:g≠r:=fun z=>by rw[z,p.1]at hg;cases hg
  have f1:∀b o,H b=some o→b≠r→H1 b=some o:=fun b o e ne=>by rw[e1,ah ne];exact aq hg _ _ e
  have xl:=vh hR
  refine⟨_,rfl,f,_,_,_,rfl,rfl,hF _,at_of (j:=1) rfl rfl,(k:Int),rfl,by omega,by omega,?_⟩
  have ek:(k:Int).toNat=k:=QW k
  rw[ek]
  refine bC (mC _ _) (fun j σ H2=>E3 fun v ij (rs:List Addr)=>A7 (σ=[some (.ref r),some (.ref f),some (.ref g),v]) (mF T H2 r dx cl l ij) (PyFlat.rows (k-j) (l.drop ij)=some (xs.drop j,t)) ((∀b o,H b=some o→b≠r→H2 b=some o)) (H2 g=some (.lst (zV ((l.drop i).take n)++rs.map V.ref))) (rs.length=j) (∀(m:Nat)(b:Addr),rs[m]?=some b→b≠g∧∃x,xs[m]?=some x∧H2 b=some (.lst (zV x))∧H b=none))
   ⟨none,i+n,[],rfl,p.move (by rw[e1,af]) f1,by rw[UY,Tj,←T7];exact hR,f1,by rw[e1,ah nrg,af];simp,rfl,fun m b e=>by simp at e⟩ (fun _ _ _ _ _=>trivial) (fun j x σ H2 H3 hj pv xy=>?_) (fun σ H2 pv=>?_)
  ·obtain⟨v,ij,rs,rfl,p2,hr2,f2,hg2,rl,hrs⟩:=pv
   obtain⟨rfl,rfl⟩:=xy
   rw[show k-j=(k-(j+1))+1 from sb hj]at hr2
   obtain⟨z,r',ys,el,hz,exs,hr3⟩:=Ji hr2
   have l0:l[ij]?=some (z:Int):=by
    have:(l.drop ij)[0]?=some (z:Int):=by rw[el];rfl
    rw[TJ]at this
    exact this
   have l1:l.drop (ij+1)=r':=by
    rw[←T7,el];rfl
   have xj:xs[j]?=some (r'.take z):=by
    have:(xs.drop j)[0]?=some (r'.take z):=by rw[exs];rfl
    rw[TJ]at this
    exact this
   have xd:xs.drop (j+1)=ys:=by rw[←T7,exs];rfl
   refine⟨_,rfl,.inl ⟨rfl,_,aF.of hg2⟩,_,rfl,r,dx,_,rfl,p2.1,rfl,_,rfl,r,dx,_,rfl,p2.1,rfl,r,dx,cl,l,ij,_,rfl,p2,l0,fun H4 e4=>?_⟩
   have p4:mF T H4 r dx cl l (ij+1):=p2.move (by rw[e4,af]) fun b o e ne=>by rw[e4,ah ne];exact e
   have f4:∀b o,H3 b=some o→b≠r→H4 b=some o:=fun b o e ne=>by rw[e4,ah ne];exact e
   refine⟨r,dx,cl,l,ij+1,z,rfl,p4,fun b H5 hb e5=>?_⟩
   have nrb:b≠r:=fun e=>by rw[e,p4.1]at hb;cases hb
   have f5:∀c o,H3 c=some o→c≠r→H5 c=some o:=fun c o e ne=>by rw[e5,ah ne];exact aq hb _ _ (f4 _ _ e ne)
   have hb5:H5 b=some (.lst (zV (r'.take z))):=by rw[e5,ah nrb,af,l1]
   have hg5:=f5 _ _ hg2 nrg
   have hb3:H3 b=none:=by
    cases e:H3 b with
    | none=>rfl
    | some o=>rw[f4 _ _ e nrb]at hb;cases hb
   have ngb:b≠g:=fun e=>by rw[e,hg2]at hb3;cases hb3
   refine⟨g,_,_,rfl,rfl,hg5,HZ (by rw[QN,aB,QH,QZ];omega),?_⟩
   refine⟨_,ij+1+z,rs++[b],rfl,p.move (by rw[ah (Ne.symm nrg),e5,af]) (fun c o e ne=>by rw[ah (ao e hg)];exact f5 _ _ (f2 _ _ e ne) ne),by rw[←T7,l1,xd];exact hr3,fun c o e ne=>by rw[ah (ao e hg)];exact f5 _ _ (f2 _ _ e ne) ne,by rw[af,Rl,R7];rfl,by simp[rl],fun m c ec=>?_⟩
   by_cases cm:m<rs.length
   ·rw[Q0 cm]at ec
    obtain⟨a1,x,a2,a3,a4⟩:=hrs m c ec
    have ncr:c≠r:=fun e=>by rw[e,p.1]at a4;cases a4
    exact⟨a1,x,a2,by rw[ah a1];exact f5 _ _ a3 ncr,a4⟩
   ·have em:m=rs.length:=by
     have:=(QO.mp ec).1
     simp at this;omega
    subst em
    rw[QX (QP _),Se]at ec
    cases ec
    refine⟨ngb,_,by rw[rl];exact xj,by rw[ah ngb];exact hb5,?_⟩
    cases e:H b with
    | none=>rfl
    | some o=>rw[f2 _ _ e nrb]at hb3;cases hb3
  ·obtain⟨v,ij,rs,rfl,p2,hr2,f2,hg2,rl,hrs⟩:=pv
   rw[Se,←xl,SU]at hr2
   have et:l.drop ij=t:=by
    simp only[PyFlat.rows,S6,UD]at hr2
    exact hr2.2
   refine⟨_,rfl,q g H2 ij p2 et f2 ⟨rs,hg2,hg,by omega,fun m b e=>?_⟩⟩
   obtain⟨_,x,a2,a3,a4⟩:=hrs m b e
   exact⟨x,a2,a3,a4⟩
def Sh(c:List (List Int)):Prop:=∃(p:Int)(n k:Nat)(ns:List Int)(xs:List (List Int)),c=(p::ns)::xs∧PyVbbcag.shape p=some (n,k)∧ns.length=n∧xs.length=k
theorem MU{α:Type}:∀{l:List α},l.length=2→∃a b,l=[a,b]
 | [a,b],_=>⟨a,b,rfl⟩
theorem Pc{α:Type}:∀{l:List α},l.length=3→∃a b c,l=[a,b,c]
 | [a,b,c],_=>⟨a,b,c,rfl⟩
theorem HW{R:List (List Int)→Prop}(f0:∀(x:List Int),R [[0],x])(f1:∀(x:List Int),R [[1],x])(f2:∀(a:Int)(b:Int),R [[2,a,b]])(f3:∀(a:Int)(b:Int)(c:Int),R [[3,a,b,c]])(f4:∀(a:Int),R [[4,a]])(f5:R [[5]])(f6:R [[6]])(f7:∀(x:List Int),R [[7],x])(f8:∀(x:List Int),R [[8],x])(f9:∀(a:Int),R [[9,a]])(f10:∀(a:Int),R [[10,a]])(f11:∀(a:Int)(x:List Int)(y:List Int),R [[11,a],x,y])(f12:R [[12]])(f13:R [[13]])(f14:R [[14]])(f15:∀(a:Int),R [[15,a]])(f16:R [[16]])(f17:∀(a:Int),R [[17,a]])(f18:∀(x:List Int),R [[18],x])(f19:∀(a:Int),R [[19,a]]){c:List (List Int)}(h:Sh c):R c:=by
 obtain⟨p,n,k,ns,xs,rfl,hs,h1,h2⟩:=h
 unfold PyVbbcag.shape at hs
 by_cases e:p=0
 ·rw[if_pos e]at hs;cases hs;subst e;obtain rfl:=QT.mp h1;obtain⟨x,rfl⟩:=RA.mp h2;exact f0 x
 rw[if_neg e]at hs;clear e
 by_cases e:p=1
 ·rw[if_pos e]at hs;cases hs;subst e;obtain rfl:=QT.mp h1;obtain⟨x,rfl⟩:=RA.mp h2;exact f1 x
 rw[if_neg e]at hs;clear e
 by_cases e:p=2
 ·rw[if_pos e]at hs;cases hs;subst e;obtain⟨a,b,rfl⟩:=MU h1;obtain rfl:=QT.mp h2;exact f2 a b
 rw[if_neg e]at hs;clear e
 by_cases e:p=3
 ·rw[if_pos e]at hs;cases hs;subst e;obtain⟨a,b,c,rfl⟩:=Pc h1;obtain rfl:=QT.mp h2;exact f3 a b c
 rw[if_neg e]at hs;clear e
 by_cases e:p=4
 ·rw[if_pos e]at hs;cases hs;subst e;obtain⟨a,rfl⟩:=RA.mp h1;obtain rfl:=QT.mp h2;exact f4 a
 rw[if_neg e]at hs;clear e
 by_cases e:p=5
 ·rw[if_pos e]at hs;cases hs;subst e;obtain rfl:=QT.mp h1;obtain rfl:=QT.mp h2;exact f5
 rw[if_neg e]at hs;clear e
 by_cases e:p=6
 ·rw[if_pos e]at hs;cases hs;subst e;obtain rfl:=QT.mp h1;obtain rfl:=QT.mp h2;exact f6
 rw[if_neg e]at hs;clear e
 by_cases e:p=7
 ·rw[if_pos e]at hs;cases hs;subst e;obtain rfl:=QT.mp h1;obtain⟨x,rfl⟩:=RA.mp h2;exact f7 x
 rw[if_neg e]at hs;clear e
 by_cases e:p=8
 ·rw[if_pos e]at hs;cases hs;subst e;obtain rfl:=QT.mp h1;obtain⟨x,rfl⟩:=RA.mp h2;exact f8 x
 rw[if_neg e]at hs;clear e
 by_cases e:p=9
 ·rw[if_pos e]at hs;cases hs;subst e;obtain⟨a,rfl⟩:=RA.mp h1;obtain rfl:=QT.mp h2;exact f9 a
 rw[if_neg e]at hs;clear e
 by_cases e:p=10
 ·rw[if_pos e]at hs;cases hs;subst e;obtain⟨a,rfl⟩:=RA.mp h1;obtain rfl:=QT.mp h2;exact f10 a
 rw[if_neg e]at hs;clear e
 by_cases e:p=11
 ·rw[if_pos e]at hs;cases hs;subst e;obtain⟨a,rfl⟩:=RA.mp h1;obtain⟨x,y,rfl⟩:=MU h2;exact f11 a x y
 rw[if_neg e]at hs;clear e
 by_cases e:p=12
 ·rw[if_pos e]at hs;cases hs;subst e;obtain rfl:=QT.mp h1;obtain rfl:=QT.mp h2;exact f12
 rw[if_neg e]at hs;clear e
 by_cases e:p=13
 ·rw[if_pos e]at hs;cases hs;subst e;obtain rfl:=QT.mp h1;obtain rfl:=QT.mp h2;exact f13
 rw[if_neg e]at hs;clear e
 by_cases e:p=14
 ·rw[if_pos e]at hs;cases hs;subst e;obtain rfl:=QT.mp h1;obtain rfl:=QT.mp h2;exact f14
 rw[if_neg e]at hs;clear e
 by_cases e:p=15
 ·rw[if_pos e]at hs;cases hs;subst e;obtain⟨a,rfl⟩:=RA.mp h1;obtain rfl:=QT.mp h2;exact f15 a
 rw[if_neg e]at hs;clear e
 by_cases e:p=16
 ·rw[if_pos e]at hs;cases hs;subst e;obtain rfl:=QT.mp h1;obtain rfl:=QT.mp h2;exact f16
 rw[if_neg e]at hs;clear e
 by_cases e:p=17
 ·rw[if_pos e]at hs;cases hs;subst e;obtain⟨a,rfl⟩:=RA.mp h1;obtain rfl:=QT.mp h2;exact f17 a
 rw[if_neg e]at hs;clear e
 by_cases e:p=18
 ·rw[if_pos e]at hs;cases hs;subst e;obtain rfl:=QT.mp h1;obtain⟨x,rfl⟩:=RA.mp h2;exact f18 x
 rw[if_neg e]at hs;clear e
 by_cases e:p=19
 ·rw[if_pos e]at hs;cases hs;subst e;obtain⟨a,rfl⟩:=RA.mp h1;obtain rfl:=QT.mp h2;exact f19 a
 rw[if_neg e]at hs;clear e
 cases hs
theorem K4{c:List (List Int)}(h:Sh c):PyVbbcag.whole c=c:=by
 refine HW (R:=fun c=>PyVbbcag.whole c=c) ?_ ?_ ?_ ?_ ?_ ?_ ?_ ?_ ?_ ?_ ?_ ?_ ?_ ?_ ?_ ?_ ?_ ?_ ?_ ?_ h<;>intros<;>rfl
theorem yX{f:Nat}{l:List Int}{cs:List (List (List Int))}(h:PyFlat.calls PyVbbcag.shape f l=some cs):(l=[]∧cs=[])∨∃(p:Int)(r:List Int)(n k:Nat)(xs:List (List Int))(t:List Int)(cs':List (List (List Int)))(f':Nat),l=p::r∧PyVbbcag.shape p=some (n,k)∧n≤r.length∧PyFlat.rows k (r.drop n)=some (xs,t)∧cs=((p::r.take n)::xs)::cs'∧PyFlat.calls PyVbbcag.shape f' t=some cs':=by
 cases l with
 | nil =>
  cases f<;>(simp only[PyFlat.calls,S6]at h;exact .inl ⟨rfl,h.symm⟩)
 | cons p r =>
  cases f with
  | zero=>simp[PyFlat.calls]at h
  | succ f =>
   unfold PyFlat.calls at h
   split at h
   ·cases h
   ·rename_i c t h1
    split at h
    ·cases h
    ·rename_i cs' h2
     simp only[S6]at h
     unfold PyFlat.call at h1
     dsimp only at h1
     cases h3:PyVbbcag.shape p with
     | none=>rw[h3]at h1;cases h1
     | some nk =>
      obtain⟨n,k⟩:=nk
      rw[h3]at h1
      dsimp only at h1
      by_cases hn:r.length<n
      ·rw[if_pos hn]at h1;cases h1
      ·rw[if_neg hn]at h1
       cases h4:PyFlat.rows k (r.drop n)with
       | none=>rw[h4]at h1;cases h1
       | some x =>
        obtain⟨xs,t'⟩:=x
        rw[h4]at h1
        cases h1
        exact .inr ⟨p,r,n,k,xs,t,cs',f,rfl,h3,by omega,h4,h.symm,h2⟩
theorem Ej:∀{cs:List (List (List Int))}{f:Nat}{l:List Int},PyFlat.calls PyVbbcag.shape f l=some cs→∀c∈cs,Sh c
 | [],_,_,_,c,hc=>nomatch hc
 | d::cs,f,l,h,c,hc=>by
  rcases yX h with⟨_,e⟩|⟨p,r,n,k,xs,t,cs',f',_,e1,e2,e3,e4,e5⟩
  ·cases e
  ·cases e4
   rcases QM.mp hc with rfl|hc
   ·exact⟨p,n,k,_,xs,rfl,e1,by rw[QZ];omega,vh e3⟩
   ·exact Ej e5 c hc
theorem Jo(a:List Int)(l:List (List Int)):PyFlat.told (a::l)=(a.length:Int)::a++PyFlat.told l:=by unfold PyFlat.told;rw[Sm]
theorem Ei{t:List Int}(h:(t.all fun(z:Int)=>VbbcagNeutral.natural z 8)=true):zV t=nV (VbbcagNeutral.text t):=AG fun z hz=>by
 have:=R3.mp h z hz
 unfold VbbcagNeutral.natural at this
 exact of_decide_eq_true (Rm.mp this).1
theorem xZ(t:List Int):(VbbcagNeutral.text t).length=t.length:=QH ..
def Ll(T:Tx K mg)(vs:List V)(H:Hp)(Q:VK)(c:List (List Int))(ns:List Int)(xs:List (List Int)):Prop:=∃(a g:Addr)(s:State)(A:qE)(H0:Hp),vs=[.ref a,.ref g]∧aI T H a s A∧JD H0 H g ns xs∧(∀b,H0 b=none→b∉aJ a A)∧∀d,VbbcagNeutral.callOf c=some d→bV T H Q a s A d
def JM(T:Tx K mg):List V:=[.ref T.iR.f,.ref T.iz.f,.ref T.eG.f,.ref T.mq.f,.ref T.jT.f,.ref T.iw.f,.ref T.jX.f,.ref T.ik.f,.ref T.qI.f,.ref T.jZ.f,.ref T.iQ.f,.ref T.iE.f,.ref T.iO.f,.ref T.gF.f,.ref T.gI.f,.ref T.iS.f,.ref T.iD.f,.ref T.fJ.f,.ref T.jY.f,.ref T.jV.f]
def JZ(T:Tx K mg):List V:=[.ref T.vE,.ref T.vF,.ref T.vG,.ref T.vH,.ref T.vJ,.ref T.vK,.ref T.vL,.ref T.vM,.ref T.vN,.ref T.vO,.ref T.rM,.ref T.rN,.ref T.rO,.ref T.rP,.ref T.rQ,.ref T.rR,.ref T.rS,.ref T.rT,.ref T.rV,.ref T.rX]
structure NC(P:Program)(w:World)(base:Heap)(T:Tx K mg)(c:List (List Int))(n nn kk:Nat)(ns:List Int)(xs:List (List Int))(k:Nat)(f:Addr)(fd:FuncData)(sp:Sp)(fm:Addr):Prop where
 eq:c=((n:Int)::ns)::xs
 Qy:PyVbbcag.shape (n:Int)=some (nn,kk)
 Pl:nn≤10
 Pb:kk≤10
 Gx:(JZ T)[n]?=some (.ref fm)
 sq:∀H,eQ K H fm [.int (nn:Nat),.int (kk:Nat)]
 Qn:(JM T)[n]?=some (.ref f)
 Qp:k≤10
 ok:oP P w K mg base Lk k f fd ["plant","given"] sp
 kp:PySem.W.keepIn K (.ref f)=true
 bd:Binds K fd ["plant","given"] []
 cl:(VbbcagNeutral.callOf c).isSome=true
 pre:∀vs H Q,Ll T vs H Q c ns xs→sp vs H Q E0
theorem kM{H0 H:Hp}{g:Addr}{ns:List Int}(h:JD H0 H g ns []):H g=some (.lst (zV ns))∧H0 g=none:=by
 obtain⟨rs,h1,h2,h3,h4⟩:=h
 have:rs=[]:=RQ (by simpa using h3)
 subst this
 exact⟨by rw[h1];simp,h2⟩
theorem zj{H0 H:Hp}{g:Addr}{t:List Int}(h:JD H0 H g [] [t]):∃r,H g=some (.lst [.ref r])∧H r=some (.lst (zV t))∧H0 r=none:=by
 obtain⟨rs,h1,h2,h3,h4⟩:=h
 match rs,h3 with
 | [r],_ =>
  obtain⟨x,e1,e2,e3⟩:=h4 0 r rfl
  cases e1
  exact⟨r,h1,e2,e3⟩
theorem MN{H0 H:Hp}{g:Addr}{t:Int}{x y:List Int}(h:JD H0 H g [t] [x,y]):∃r q,H g=some (.lst [.int t,.ref r,.ref q])∧H r=some (.lst (zV x))∧H0 r=none∧H q=some (.lst (zV y)):=by
 obtain⟨rs,h1,h2,h3,h4⟩:=h
 match rs,h3 with
 | [r,q],_ =>
  obtain⟨x,e1,e2,e3⟩:=h4 0 r rfl
  cases e1
  obtain⟨y,f1,f2,f3⟩:=h4 1 q rfl
  cases f1
  exact⟨r,q,h1,e2,e3,f2⟩
theorem JR(T:Tx K mg){c:List (List Int)}(hs:Sh c)(h:VbbcagNeutral.asked1 c=true):∃n nn kk ns xs k f fd sp fm,NC P w base T c n nn kk ns xs k f fd sp fm:=by
 refine HW (R:=fun c=>VbbcagNeutral.asked1 c=true→∃n nn kk ns xs k f fd sp fm,NC P w base T c n nn kk ns xs k f fd sp fm) ?_ ?_ ?_ ?_ ?_ ?_ ?_ ?_ ?_ ?_ ?_ ?_ ?_ ?_ ?_ ?_ ?_ ?_ ?_ ?_ hs h
 ·intro r0 h
  refine⟨0,0,1,[],[r0],_,_,_,_,_,rfl,by decide,by decide,by decide,rfl,T.vS,rfl,by decide,Bj T,T.iR.fn.kp,T.iR.bd,rfl,?_⟩
  rintro _ H Q ⟨a,g,s,A,H0,rfl,p,gv,nM,q⟩
  have q:=q _ rfl
  obtain⟨h1,h2⟩:=Rm.mp h
  obtain⟨r,g1,g2,g3⟩:=zj gv
  rw[Ei h2]at g2
  exact⟨a,g,r,s,A,_,rfl,p,g1,g2,by rw[xZ];exact of_decide_eq_true h1,q⟩
 ·intro r0 h
  refine⟨1,0,1,[],[r0],_,_,_,_,_,rfl,by decide,by decide,by decide,rfl,T.vT,rfl,by decide,Ba T,T.iz.fn.kp,T.iz.bd,rfl,?_⟩
  rintro _ H Q ⟨a,g,s,A,H0,rfl,p,gv,nM,q⟩
  have q:=q _ rfl
  obtain⟨h1,h2⟩:=Rm.mp h
  obtain⟨r,g1,g2,g3⟩:=zj gv
  exact⟨a,g,r,s,A,_,rfl,p,g1,g2,fun z=>nM r g3 (by rw[z];simp[aJ]),of_decide_eq_true h1,q⟩
 ·intro x0 x1 h
  refine⟨2,2,0,[x0,x1],[],_,_,_,_,_,rfl,by decide,by decide,by decide,rfl,T.vU,rfl,by decide,wM T,T.eG.fn.kp,T.eG.bd,rfl,?_⟩
  rintro _ H Q ⟨a,g,s,A,H0,rfl,p,gv,nM,q⟩
  have q:=q _ rfl
  exact⟨a,g,s,A,_,_,rfl,p,(kM gv).1,q⟩
 ·intro x0 x1 x2 h
  refine⟨3,3,0,[x0,x1,x2],[],_,_,_,_,_,rfl,by decide,by decide,by decide,rfl,T.vV,rfl,by decide,ES T,T.mq.fn.kp,T.mq.bd,rfl,?_⟩
  rintro _ H Q ⟨a,g,s,A,H0,rfl,p,gv,nM,q⟩
  have q:=q _ rfl
  exact⟨a,g,s,A,_,_,_,rfl,p,(kM gv).1,q⟩
 ·intro x0 h
  refine⟨4,1,0,[x0],[],_,_,_,_,_,rfl,by decide,by decide,by decide,rfl,T.vW,rfl,by decide,Dv T,T.jT.fn.kp,T.jT.bd,rfl,?_⟩
  rintro _ H Q ⟨a,g,s,A,H0,rfl,p,gv,nM,q⟩
  have q:=q _ rfl
  exact⟨a,g,s,A,_,rfl,p,(kM gv).1,q⟩
 ·intro h
  refine⟨5,0,0,[],[],_,_,_,_,_,rfl,by decide,by decide,by decide,rfl,T.vX,rfl,by decide,A0 T,T.iw.fn.kp,T.iw.bd,rfl,?_⟩
  rintro _ H Q ⟨a,g,s,A,H0,rfl,p,gv,nM,q⟩
  have q:=q _ rfl
  exact⟨a,g,s,A,rfl,p,q⟩
 ·intro h
  refine⟨6,0,0,[],[],_,_,_,_,_,rfl,by decide,by decide,by decide,rfl,T.vY,rfl,by decide,DA T,T.jX.fn.kp,T.jX.bd,rfl,?_⟩
  rintro _ H Q ⟨a,g,s,A,H0,rfl,p,gv,nM,q⟩
  have q:=q _ rfl
  exact⟨a,g,s,A,rfl,p,q⟩
 ·intro r0 h
  refine⟨7,0,1,[],[r0],_,_,_,_,_,rfl,by decide,by decide,by decide,rfl,T.vZ,rfl,by decide,AY T,T.ik.fn.kp,T.ik.bd,rfl,?_⟩
  rintro _ H Q ⟨a,g,s,A,H0,rfl,p,gv,nM,q⟩
  have q:=q _ rfl
  obtain⟨h1,h2⟩:=Rm.mp h
  obtain⟨r,g1,g2,g3⟩:=zj gv
  exact⟨a,g,r,s,A,_,rfl,p,g1,g2,of_decide_eq_true h1,q⟩
 ·intro r0 h
  refine⟨8,0,1,[],[r0],_,_,_,_,_,rfl,by decide,by decide,by decide,rfl,T.wa,rfl,by decide,GO T,T.qI.fn.kp,T.qI.bd,rfl,?_⟩
  rintro _ H Q ⟨a,g,s,A,H0,rfl,p,gv,nM,q⟩
  have q:=q _ rfl
  obtain⟨h1,h2⟩:=Rm.mp h
  obtain⟨r,g1,g2,g3⟩:=zj gv
  exact⟨a,g,r,s,A,_,rfl,p,g1,g2,of_decide_eq_true h1,q⟩
 ·intro x0 h
  refine⟨9,1,0,[x0],[],_,_,_,_,_,rfl,by decide,by decide,by decide,rfl,T.wb,rfl,by decide,DD T,T.jZ.fn.kp,T.jZ.bd,rfl,?_⟩
  rintro _ H Q ⟨a,g,s,A,H0,rfl,p,gv,nM,q⟩
  have q:=q _ rfl
  exact⟨a,g,s,A,_,rfl,p,(kM gv).1,q⟩
 ·intro x0 h
  refine⟨10,1,0,[x0],[],_,_,_,_,_,rfl,by decide,by decide,by decide,rfl,T.su,rfl,by decide,Bi T,T.iQ.fn.kp,T.iQ.bd,rfl,?_⟩
  rintro _ H Q ⟨a,g,s,A,H0,rfl,p,gv,nM,q⟩
  have q:=q _ rfl
  exact⟨a,g,s,A,_,rfl,p,(kM gv).1,q⟩
 ·intro x0 r0 r1 h
  refine⟨11,1,2,[x0],[r0,r1],_,_,_,_,_,rfl,by decide,by decide,by decide,rfl,T.sv,rfl,by decide,Bf T,T.iE.fn.kp,T.iE.bd,rfl,?_⟩
  rintro _ H Q ⟨a,g,s,A,H0,rfl,p,gv,nM,q⟩
  have q:=q _ rfl
  obtain⟨h1,h2⟩:=Rm.mp h
  obtain⟨h3,h4⟩:=Rm.mp h2
  obtain⟨h5,h6⟩:=Rm.mp h4
  obtain⟨h7,h8⟩:=Rm.mp h6
  obtain⟨x,y,g1,g2,g3,g4⟩:=MN gv
  refine⟨a,g,x,y,s,A,_,_,_,rfl,p,g1,g2,nM x g3,g4,fun z hz=>?_,q⟩
  have:=R3.mp h8 z hz
  unfold VbbcagNeutral.whole60 at this
  have:=of_decide_eq_true (Rm.mp this).2
  exact this
 ·intro h
  refine⟨12,0,0,[],[],_,_,_,_,_,rfl,by decide,by decide,by decide,rfl,T.sx,rfl,by decide,Bh T,T.iO.fn.kp,T.iO.bd,rfl,?_⟩
  rintro _ H Q ⟨a,g,s,A,H0,rfl,p,gv,nM,q⟩
  have q:=q _ rfl
  exact⟨a,g,s,A,rfl,p,q⟩
 ·intro h
  refine⟨13,0,0,[],[],_,_,_,_,_,rfl,by decide,by decide,by decide,rfl,T.sy,rfl,by decide,zG T,T.gF.fn.kp,T.gF.bd,rfl,?_⟩
  rintro _ H Q ⟨a,g,s,A,H0,rfl,p,gv,nM,q⟩
  have q:=q _ rfl
  exact⟨a,g,s,A,rfl,p,q⟩
 ·intro h
  refine⟨14,0,0,[],[],_,_,_,_,_,rfl,by decide,by decide,by decide,rfl,T.sA,rfl,by decide,zK T,T.gI.fn.kp,T.gI.bd,rfl,?_⟩
  rintro _ H Q ⟨a,g,s,A,H0,rfl,p,gv,nM,q⟩
  have q:=q _ rfl
  exact⟨a,g,s,A,rfl,p,q⟩
 ·intro x0 h
  refine⟨15,1,0,[x0],[],_,_,_,_,_,rfl,by decide,by decide,by decide,rfl,T.sC,rfl,by decide,Bk T,T.iS.fn.kp,T.iS.bd,rfl,?_⟩
  rintro _ H Q ⟨a,g,s,A,H0,rfl,p,gv,nM,q⟩
  have q:=q _ rfl
  exact⟨a,g,s,A,_,rfl,p,(kM gv).1,q⟩
 ·intro h
  refine⟨16,0,0,[],[],_,_,_,_,_,rfl,by decide,by decide,by decide,rfl,T.sD,rfl,by decide,Be T,T.iD.fn.kp,T.iD.bd,rfl,?_⟩
  rintro _ H Q ⟨a,g,s,A,H0,rfl,p,gv,nM,q⟩
  have q:=q _ rfl
  exact⟨a,g,s,A,rfl,p,q⟩
 ·intro x0 h
  refine⟨17,1,0,[x0],[],_,_,_,_,_,rfl,by decide,by decide,by decide,rfl,T.sE,rfl,by decide,yj T,T.fJ.fn.kp,T.fJ.bd,rfl,?_⟩
  rintro _ H Q ⟨a,g,s,A,H0,rfl,p,gv,nM,q⟩
  have q:=q _ rfl
  exact⟨a,g,s,A,_,rfl,p,(kM gv).1,q⟩
 ·intro r0 h
  refine⟨18,0,1,[],[r0],_,_,_,_,_,rfl,by decide,by decide,by decide,rfl,T.sF,rfl,by decide,DB T,T.jY.fn.kp,T.jY.bd,rfl,?_⟩
  rintro _ H Q ⟨a,g,s,A,H0,rfl,p,gv,nM,q⟩
  have q:=q _ rfl
  obtain⟨h1,h2⟩:=Rm.mp h
  obtain⟨r,g1,g2,g3⟩:=zj gv
  rw[Ei h2]at g2
  exact⟨a,g,r,s,A,_,rfl,p,g1,g2,by rw[xZ];exact of_decide_eq_true h1,q⟩
 ·intro x0 h
  refine⟨19,1,0,[x0],[],_,_,_,_,_,rfl,by decide,by decide,by decide,rfl,T.sG,rfl,by decide,Dx T,T.jV.fn.kp,T.jV.bd,rfl,?_⟩
  rintro _ H Q ⟨a,g,s,A,H0,rfl,p,gv,nM,q⟩
  have q:=q _ rfl
  exact⟨a,g,s,A,_,rfl,p,(kM gv).1,q⟩
theorem cP.ME{T:Tx K mg}{H H':Hp}{a:Addr}{s:State}{A:qE}{k:Nat}(p:cP T H a s A k)(fr:∀b o,H b=some o→b∉A.ex→H' b=some o)(al:∀b,b∈A.ex→H' b≠none):cP T H' a s A k:=by
 have nx:∀b,b∈aJ a A→b∉A.ex:=fun b hb hx=>(p.vB b hx).1 hb
 have f:aN (jm H (cf a A)) (jm H' (cf a A)):=fun b o e=>by
  obtain⟨e1,e2⟩:=dq e
  exact js (fr b o e1 fun m=>e2 (Ri _ m)) e2
 have up:∀b o,b∈aJ a A→H b=some o→H' b=some o:=fun b o m e=>fr b o e (nx b m)
 obtain⟨dx,gv,h1,h2⟩:=p.obj
 obtain⟨rts,t1,t2,t3⟩:=p.tabs
 refine⟨⟨dx,gv,up _ _ (by simp[aJ]) h1,?_⟩,p.units.same f,up _ _ (by simp[aJ]) p.modes,up _ _ (by simp[aJ]) p.loads,up _ _ (by simp[aJ]) p.eS,p.jR,fun i r h x y=>up _ _ (by have:=QL x;simp[aJ,this]) (p.rows i r h x y),⟨rts,up _ _ (by simp[aJ]) t1,t2,fun j r x y=>f _ _ (t3 j r x y)⟩,p.nd,fun b hb=>⟨(p.vB b hb).1,al b hb⟩,p.ok⟩
 rcases h2 with h2|⟨g,h2,h3⟩
 ·exact .inl h2
 ·exact .inr ⟨g,h2,h3.same f⟩
def Wi(T:Tx K mg)(H:Hp)(EX:List Addr)(cs:List (List (List Int)))(l:List Int)(cl r dr a an:Addr)(m:Nat)(σ:L2.St)(H4:Hp):Prop:=∃v4 v5 v6 i fu,∃(st:State)(A4:qE)(dn:List Int)(rest:List (List (List Int))),m=rest.length∧σ=[some (.ref cl),some (.ref r),some (.ref a),some (.ref an),v4,v5,v6]∧H4 r=some (.ins T.aU.C dr (KA cl i))∧(∀b o,b∈EX→H b=some o→H4 b=some o)∧PyFlat.calls PyVbbcag.shape fu (l.drop i)=some rest∧(∀c∈rest,VbbcagNeutral.asked1 c=true)∧aI T H4 a st A4∧A4.ex=an::r::EX∧H4 an=some (.lst (zV dn))∧dn.length+rest.length*2001≤400200∧PyFlat.told (PyFlat.played VbbcagNeutral.step VbbcagNeutral.start cs)=dn++PyFlat.told (PyFlat.played VbbcagNeutral.step st rest)
def ox(K:Frg):Sp:=fun vs H Q _=>E2 fun(cl:Addr)(l:List Int)=>A4 (vs=[.ref cl]) (aF K H cl (zV l)) (PyVbbcag.answers_asked l=true) (∀p H',H' p=some (.lst (zV (PyVbbcag.answers l)))→Q (.ref p) H')
theorem GN(T:Tx K mg):dJ P w base 11 T.answers (ox K):=by
 refine T.answers.fn.ok gB (fun vs H Q E h=>?_) (fun cdv A outer s H vs Q E hr h=>?_)
 ·obtain⟨cl,l,rfl,_⟩:=h
  rfl
 ·obtain⟨cl,l,rfl,hL,hask,q⟩:=h
  refine⟨_,(ab (ax (i:=1) gB.nd rfl (Or.inl rfl) (HR T.aU (zF T) hr (aa (pv 0) ae)))
   (ab (ax (i:=2) gB.nd rfl (Or.inl rfl) (Na T.aw (AW T) hr))
   (ab (ax (i:=3) gB.nd rfl (Or.inl rfl) (aE ae))
   (ab (zU PassesOwn.never (bS (wZ (pv 1) T.aU.cls T.jo (tu T) hr)) (ab (ax (i:=4) gB.nd rfl (Or.inl rfl) (wZ (pv 1) T.aU.cls T.dM (ib T) hr))
   (ab (ax (i:=5) gB.nd rfl (Or.inl rfl) (aT wA (aL (v:=.ref T.yt) rfl T.Dc rfl) (pv 4) (fun _ _=>rfl)))
   (ab (ax (i:=6) gB.nd rfl (Or.inl rfl) (M5 (i:=5) hr rfl (Or.inl rfl) (aa (pv 2) (aa (aA T.tJ (Bg T) hr (aa (pv 1) (aa (aT wA (aL (v:=.ref T.yu) rfl T.Dd rfl) (pv 4) (fun _ _=>rfl)) ae))) ae))))
   (ab (aX (dH PySem.F.plainAttrs_list PySem.F.slot_list_append PySem.F.type_list_append cA (pv 3) (aa (aH az rfl T.ba bh (aa (pv 6) ae)) ae)))
   (ag (aX (dH PySem.F.plainAttrs_list PySem.F.slot_list_extend PySem.F.type_list_extend cB (pv 3) (aa (pv 6) ae)))))))))
   (ag (au (pv 3))))))),?_⟩
  obtain⟨cs,hcs,hans,hlen,hall⟩:∃cs,PyFlat.calls PyVbbcag.shape l.length l=some cs∧PyVbbcag.answers l=PyFlat.told (PyFlat.played VbbcagNeutral.step VbbcagNeutral.start cs)∧cs.length≤200∧∀c∈cs,VbbcagNeutral.asked1 c=true:=by
   unfold PyVbbcag.answers_asked PyVbbcag.calls at hask
   cases e:PyFlat.calls PyVbbcag.shape l.length l with
   | none=>rw[e]at hask;cases hask
   | some cs =>
    rw[e]at hask
    have em:cs.map PyVbbcag.whole=cs:=by
     rw[RL (f:=PyVbbcag.whole) (g:=id) fun c hc=>K4 (Ej e c hc)]
     exact List.map_id cs
    dsimp only at hask
    rw[em]at hask
    obtain⟨h1,h2⟩:=Rm.mp hask
    unfold VbbcagNeutral.asked at h2
    obtain⟨h3,_⟩:=Rm.mp h2
    refine⟨cs,rfl,?_,of_decide_eq_true h1,fun c hc=>R3.mp h3 c hc⟩
    unfold PyVbbcag.answers PyVbbcag.calls
    rw[e]
    dsimp only
    rw[em]
  rw[hans]at q
  refine⟨_,rfl,fun r dr hr0 hdr ndr=>?_⟩
  have s1:aN H (upd (upd H dr (.own r)) r (.ins T.aU.C dr [])):=fun b o e=>by rw[ah (ao e hr0),ah (ao e hdr)];exact e
  refine⟨r,dr,cl,rfl,af,fun H1 e1=>⟨rfl,?_⟩⟩
  have S1:aN H H1:=fun b o e=>by rw[e1,ah (ao e hr0)];exact s1 _ _ e
  have r1:H1 r=some (.ins T.aU.C dr (KA cl 0)):=by rw[e1,af]
  obtain⟨EX,x1,x2⟩:∃EX:List Addr,(∀b∈EX,H b≠none)∧∀H',(∀b o,b∈EX→H b=some o→H' b=some o)→aF K H' cl (zV l):=by
   rcases hL with(h|⟨o,h⟩)|h
   ·exact⟨[cl],fun b hb z=>(by rw[Sa.mp hb,h]at z;cases z),fun H' k=>.inl (.inl (k _ _ (Sa.mpr rfl) h))⟩
   ·exact⟨[cl],fun b hb z=>(by rw[Sa.mp hb,h]at z;cases z),fun H' k=>.inl (.inr ⟨o,k _ _ (Sa.mpr rfl) h⟩)⟩
   ·exact⟨[],fun b hb=>by simp at hb,fun H' _=>.inr h⟩
  refine fun a da ha hda nda=>?_
  have s2:aN H1 (upd (upd H1 da (.own a)) a (.ins T.aw.C da [])):=fun b o e=>by rw[ah (ao e ha),ah (ao e hda)];exact e
  have nra:r≠a:=ao r1 ha
  have xa:∀b∈EX,b≠a∧H b≠none:=fun b hb=>⟨fun z=>x1 b hb (by rw[z];exact S1.free ha),x1 b hb⟩
  refine⟨a,da,r::EX,rfl,af,fun b hb=>?_,fun H2 A2 p2 ex2 fr2 nw2=>⟨rfl,?_⟩⟩
  ·rcases QM.mp hb with rfl|hb
   ·exact⟨nra,by rw[s2 _ _ r1];intro z;cases z⟩
   ·exact⟨(xa b hb).1,fun z=>(xa b hb).2 (S1.free (s2.free z))⟩
  have r2:H2 r=some (.ins T.aU.C dr (KA cl 0)):=fr2 _ _ (s2 _ _ r1) nra
  have c2:∀b o,b∈EX→H b=some o→H2 b=some o:=fun b o m e=>fr2 _ _ (s2 _ _ (S1 _ _ e)) (xa b m).1
  refine⟨sz (by simp),fun an han=>?_⟩
  have p3:=p2.plus (o:=.lst []) han
  have nar:an≠r:=fun z=>by rw[z,r2]at han;cases han
  have nac:∀b∈EX,b≠an:=fun b hb z=>by
   cases e:H b with
   | none=>exact x1 b hb e
   | some o=>rw[←z,c2 b o hb e]at han;cases han
  refine⟨Wi T H EX cs l cl r dr a an,⟨cs.length,none,none,none,0,l.length,_,A2.plus an,[],cs,rfl,rfl,aq han _ _ r2,fun b o m e=>aq han _ _ (c2 b o m e),by rw[Tj];exact hcs,hall,p3,by show an::A2.ex=_;rw[ex2],af,by simp;omega,rfl⟩,?_⟩
  rintro m σ H4 ⟨v4,v5,v6,i,fu,st,A4,dn,rest,rfl,rfl,r4,c4,hc,ha1,p4,ex4,hn4,hsz,htold⟩
  have R4:mF T H4 r dr cl l i:=⟨r4,x2 _ c4⟩
  refine⟨_,rfl,r,dr,_,rfl,R4.1,rfl,r,dr,cl,l,i,rfl,R4,_,rfl,?_⟩
  rcases yX hc with⟨e1,e2⟩|⟨pn,rr,n,k,xs,t,cs',f',el,esh,hn,hrows,ecs,hc'⟩
  ·have:¬i<l.length:=fun z=>by
    have:=congrArg SJ e1
    rw[QY]at this
    simp at this
    omega
   rw[decide_eq_false this]
   refine dg ?_
   subst e2
   rw[htold]at q
   refine⟨_,rfl,q an H4 ?_⟩
   rw[hn4]
   show _=some (HO.lst (zV (dn++[])))
   rw[S7]
  ·have il:i<l.length:=by
    refine SM fun z=>?_
    rw[Us (by omega)]at el
    cases el
   rw[decide_eq_true il]
   refine bP ?_
   have l0:l[i]?=some pn:=by
    have:(l.drop i)[0]?=some pn:=by rw[el];rfl
    rw[TJ]at this
    exact this
   have l1:l.drop (i+1)=rr:=by rw[←T7,el];rfl
   obtain⟨nn,n',k',ns,xs',lv,f,fd,sp,fm,D⟩:=JR (P:=P) (w:=w) (base:=base) T ⟨pn,n,k,_,xs,rfl,esh,by rw[QZ];omega,vh hrows⟩ (ha1 ((pn::rr.take n)::xs) (by rw[ecs];simp))
   have De:=D.eq
   simp only[VC]at De
   obtain⟨⟨rfl,ens⟩,rfl⟩:=De
   subst ens
   have Ds:=D.Qy
   rw[esh]at Ds
   cases Ds
   have an_ex:an∈A4.ex:=by rw[ex4];simp
   have r_ex:r∈A4.ex:=by rw[ex4];simp
   have x_ex:∀b∈EX,b∈A4.ex:=fun b hb=>by rw[ex4];simp[hb]
   have x_r:∀b∈EX,b≠r:=fun b hb z=>x1 b hb (by rw[z];exact hr0)
   refine⟨Wi T H EX cs l cl r dr a an cs'.length,fun σ' H' h=>⟨cs'.length,by rw[ecs];simp,h⟩,?_⟩
   refine⟨_,rfl,r,dr,_,rfl,R4.1,rfl,r,dr,cl,l,i,_,rfl,R4,l0,fun H5 e5=>?_⟩
   have R5:mF T H5 r dr cl l (i+1):=R4.move (by rw[e5,af]) fun b o e ne=>by rw[e5,ah ne];exact e
   have c5:∀b o,b∈EX→H b=some o→H5 b=some o:=fun b o m e=>by rw[e5,ah (x_r b m)];exact c4 b o m e
   have p5:aI T H5 a st A4:=by rw[e5];exact p4.write r_ex
   have hn5:H5 an=some (.lst (zV dn)):=by rw[e5,ah nar];exact hn4
   refine⟨_,rfl,T.yt,JM T,_,_,rfl,rfl,T.CF _,at_of (j:=nn) rfl D.Qn,?_⟩
   refine⟨lv,f,fd,["plant","given"],sp,rfl,D.Qp,D.ok,D.kp,D.bd,_,rfl,_,rfl,_,rfl,T.yu,JZ T,_,_,rfl,rfl,T.CH _,at_of (j:=nn) rfl D.Gx,?_⟩
   refine⟨r,fm,dr,cl,l,i+1,n,k,xs,t,rfl,R5,D.sq,D.Pl,D.Pb,by rw[l1];exact hn,by rw[l1];exact hrows,fun g H6 i6 R6 et fr6 gv=>?_⟩
   rw[l1]at gv
   have p6:aI T H6 a st A4:=p5.ME (fun b o e n=>fr6 b o e fun z=>n (by rw[z];exact r_ex)) fun b hb=>by
    rw[ex4]at hb
    rcases QM.mp hb with rfl|hb
    ·rw[fr6 _ _ hn5 nar];intro z;cases z
    ·rcases QM.mp hb with rfl|hb
     ·rw[R6.1];intro z;cases z
     ·cases e:H b with
      | none=>exact absurd e (x1 b hb)
      | some o=>rw[fr6 _ _ (c5 b o hb e) (x_r b hb)];intro z;cases z
   have hn6:=fr6 _ _ hn5 nar
   refine D.pre _ _ _ ⟨a,g,st,A4,H5,rfl,p6,gv,fun b hb m=>p5.alive m hb,fun d ed l7 H7 A7 p7 ex7 F7 hl7 nl7 ln7=>?_⟩
   have stp:VbbcagNeutral.step st (((nn:Int)::rr.take n)::xs)=Vbbcag.step st d:=by unfold VbbcagNeutral.step;rw[ed]
   have out7:∀b o,H6 b=some o→b∈A4.ex→H7 b=some o:=fun b o e m=>F7.out b o e (p6.vB b m).1
   have r7:=out7 _ _ R6.1 r_ex
   have c7:∀b o,b∈EX→H b=some o→H7 b=some o:=fun b o m e=>out7 _ _ (fr6 _ _ (c5 b o m e) (x_r b m)) (x_ex b m)
   have hn7:=out7 _ _ hn6 an_ex
   have an7:an∈A7.ex:=by rw[ex7];exact an_ex
   have nl:l7≠an:=fun z=>nl7 (by rw[z];exact Ri _ an7)
   rw[ecs]at hsz htold
   rw[Q2,RD]at hsz
   refine⟨_,rfl,.inl ⟨rfl,_,aF.of hn7⟩,_,rfl,l7,_,rfl,.inl (aF.of hl7),an,_,_,rfl,rfl,hn7,HZ (by rw[aB];omega),?_⟩
   refine⟨_,rfl,.inl ⟨rfl,_,aF.of af⟩,_,rfl,an,l7,_,_,rfl,rfl,af,by rw[ah nl];exact hl7,sz (by rw[QN,aB,aB,TX];omega),?_⟩
   rw[cg]
   have rd_ne:r≠an:=Ne.symm nar
   refine⟨_,_,_,i6,f',(Vbbcag.step st d).1,A7,dn++((Vbbcag.step st d).2.length:Int)::(Vbbcag.step st d).2,cs',rfl,rfl,by rw[ah rd_ne];exact r7,fun b o m e=>by rw[ah (nac b m)];exact c7 b o m e,by rw[et];exact hc',fun c hc=>ha1 c (by rw[ecs];simp[hc]),p7.write an7,by rw[ex7];exact ex4,?_,?_,?_⟩
   ·rw[af,aB]
    congr 2
    rw[R7]
    show zV dn++zV (((Vbbcag.step st d).2.length:Int)::(Vbbcag.step st d).2)=_
    rw[hZ]
   ·rw[QN,Q2]
    omega
   ·rw[htold]
    show dn++PyFlat.told ((VbbcagNeutral.step st _).2::PyFlat.played VbbcagNeutral.step (VbbcagNeutral.step st _).1 cs')=_
    rw[stp,Jo,R7]
section
variable{K:Frg}{h:Heap}{mg:Str→Option Value}
abbrev d9(X:K.In h)(mg:Str→Option Value)(x:Str)(st:Stmt)(ps:List Str):=Gf K mg x st ps
abbrev mD(x qual:Str)(st:Stmt)(ps:List Str):Prop:=∀(kV doc pm:Value)(an:Option Addr)(cdv ct:Value)(us:List Value),us.length=ps.length→bindArgs (PySem.W.fnOf x qual (gh st) (fB st) (ai st) .none kV doc pm an cdv ct) ⟨us,[]⟩=pure (ps.zip us)
def aS(X:K.In h)(G:h.Ns mainGlobals mg){x:Str}{st:Stmt}{ps:List Str}{f:Addr}{oc:Value}{od an:Option Addr}{osl:Array (Option Value)}{kV doc pm cdv ct:Value}
  (a:PySem.W.nsIn K mainGlobals x=some (some (.ref f)))(l:K.lookup f=some ⟨oc,od,.func (PySem.W.fnOf x x (gh st) (fB st) (ai st) .none kV doc pm an cdv ct),osl⟩)
  (c:PySem.W.codeIn K cdv x=true)(k:PySem.W.keepIn K (.ref f)=true)(b:mD x x st ps):Gf K mg x st ps :=
 ⟨f,_,wq l c k,(wq l c k).binds b,PySem.W.mg_of X G a⟩
theorem yc{x qual:Str}{st:Stmt}{p0:Str}(h:∀{kV doc pm:Value}{an:Option Addr}{cdv ct u0:Value},bindArgs (PySem.W.fnOf x qual (gh st) (fB st) (ai st) .none kV doc pm an cdv ct) ⟨[u0],[]⟩=pure [(p0,u0)]):mD x qual st [p0]:=fun _ _ _ _ _ _ us hl=>match us,hl with|[_],_=>h
theorem jD{x qual:Str}{st:Stmt}{p0 p1:Str}(h:∀{kV doc pm:Value}{an:Option Addr}{cdv ct u0 u1:Value},bindArgs (PySem.W.fnOf x qual (gh st) (fB st) (ai st) .none kV doc pm an cdv ct) ⟨[u0,u1],[]⟩=pure [(p0,u0),(p1,u1)]):mD x qual st [p0,p1]:=fun _ _ _ _ _ _ us hl=>match us,hl with|[_,_],_=>h
theorem Iq{x qual:Str}{st:Stmt}{p0 p1 p2:Str}(h:∀{kV doc pm:Value}{an:Option Addr}{cdv ct u0 u1 u2:Value},bindArgs (PySem.W.fnOf x qual (gh st) (fB st) (ai st) .none kV doc pm an cdv ct) ⟨[u0,u1,u2],[]⟩=pure [(p0,u0),(p1,u1),(p2,u2)]):mD x qual st [p0,p1,p2]:=fun _ _ _ _ _ _ us hl=>match us,hl with|[_,_,_],_=>h
theorem MG{x qual:Str}{st:Stmt}{p0 p1 p2 p3:Str}(h:∀{kV doc pm:Value}{an:Option Addr}{cdv ct u0 u1 u2 u3:Value},bindArgs (PySem.W.fnOf x qual (gh st) (fB st) (ai st) .none kV doc pm an cdv ct) ⟨[u0,u1,u2,u3],[]⟩=pure [(p0,u0),(p1,u1),(p2,u2),(p3,u3)]):mD x qual st [p0,p1,p2,p3]:=fun _ _ _ _ _ _ us hl=>match us,hl with|[_,_,_,_],_=>h
theorem vA{goal:Prop}(X:K.In h)(G:h.Ns mainGlobals mg){x qual:Str}{st:Stmt}{ps:List Str}{C f:Addr}{oc:Value}{od an:Option Addr}{osl:Array (Option Value)}{kV doc pm cdv ct:Value}
  (aC:PySem.W.nsIn K mainGlobals x=some (some (.ref C)))(a1:PySem.W.findIn K (.ref C) "__init__"=some (some (.ref f)))(i1:PySem.W.isFn K (.ref f)=true)
  (l1:K.lookup f=some ⟨oc,od,.func (PySem.W.fnOf "__init__" qual (gh st) (fB st) (ai st) .none kV doc pm an cdv ct),osl⟩)(c1:PySem.W.codeIn K cdv qual=true)(k1:PySem.W.keepIn K (.ref f)=true)
  (pg:PySem.W.plainGet K C Str.empty=true)(hd:PySem.W.hasDictIn K C=true)(po:PySem.W.plainOver K C=true)(sa:PySem.W.findIn K (.ref C) "__setattr__"=some (some (.builtin "object.__setattr__")))(mk:PySem.W.makesIn K C=true)(kc:PySem.W.keepIn K (.ref C)=true)
  (b:mD "__init__" qual st ps)(cont:∀k:Gc K mg x qual st ps,k.C=C→goal):goal :=
 cont ⟨C,⟨pg,hd,po,sa⟩,f,_,wq l1 c1 k1,(wq l1 c1 k1).binds b,⟨mk,a1,i1,kc⟩,PySem.W.mg_of X G aC⟩ rfl
theorem bN{goal:Prop}(X:K.In h)(G:h.Ns mainGlobals mg){x:Str}{i:Int}{t:Tok}(a:PySem.W.nsIn K mainGlobals x=some (some (.int i t)))(cont:∀t,mg x=some (.int i t)→goal):goal:=cont t (PySem.W.mg_of X G a)
theorem df{x qual:Str}{st:Stmt}{ps:List Str}{k:Gc K mg x qual st ps}{C:Addr}{n:Str}(hC:k.C=C)(e:PySem.W.findIn K (.ref C) n=some none):bp K k.C n:=by rw[hC];exact e
abbrev JC{x qual':Str}{st':Stmt}{ps':List Str}(k:Gc K mg x qual' st' ps')(m qual:Str)(st:Stmt)(ps:List Str):=Gm K k.C m qual st ps
def pF{x qual':Str}{st':Stmt}{ps':List Str}{k:Gc K mg x qual' st' ps'}{C:Addr}(hC:k.C=C){m qual:Str}{st:Stmt}{ps:List Str}{f:Addr}{oc:Value}{od an:Option Addr}{osl:Array (Option Value)}{kV doc pm cdv ct:Value}
  (a2:PySem.W.findIn K (.ref C) m=some (some (.ref f)))(i2:PySem.W.isFn K (.ref f)=true)(l2:K.lookup f=some ⟨oc,od,.func (PySem.W.fnOf m qual (gh st) (fB st) (ai st) .none kV doc pm an cdv ct),osl⟩)(c2:PySem.W.codeIn K cdv qual=true)(k2:PySem.W.keepIn K (.ref f)=true)
  (b:mD m qual st ps):Gm K k.C m qual st ps :=
 ⟨f,_,wq l2 c2 k2,(wq l2 c2 k2).binds b,by rw[hC];exact⟨a2,i2,k2⟩⟩
theorem Ar{H:Hp}{a:Addr}{xs:List V}{od:Option Addr}{its:Array Value}{n:Nat}{sl:Array (Option Value)}(l:K.lookup a=some ⟨.type "tuple",od,.seq its n,sl⟩)(z:its.size≤sizeLine)(v:Vals xs its.toList):eQ K H a xs :=
 .inr ⟨_,its,n,l,rfl,rfl,z,v⟩
theorem h9{a:Addr}{i j:Int}{t u:Tok}{od:Option Addr}{n:Nat}{sl:Array (Option Value)}(l:K.lookup a=some ⟨.type "tuple",od,.seq #[.int i t,.int j u] n,sl⟩):∀H,eQ K H a [.int i,.int j]:=fun H=>Ar l (show 2≤sizeLine by decide) (.cons ⟨_,rfl⟩ (.cons ⟨_,rfl⟩ .nil))
abbrev rj(X:K.In h)(a:Addr)(xs:List V):Prop:=∀H,eQ K H a xs
theorem mf{x:Str}{st:Stmt}{ps:List Str}(g:Gf K mg x st ps){n:Addr}(e:mg x=some (.ref n)):RelV (.ref g.f) (.ref n):=by
 have:=g.Ny
 rw[e]at this
 cases this
 rfl
end
theorem all_mk{P:Program}{w:World}{K:Frg}{h:Heap}{mg:Str→Option Value}{fa:Addr}(X:K.In h)(G:h.Ns mainGlobals mg)(hfa:mg "answers"=some (.ref fa))(N:Nonempty (Tx K mg)) :
  ∃fd:FuncData,(∀(s:Shared)(us:List Value),us.length=(["calls"]:List Str).length→BindsTo s fd ⟨us,[]⟩ ((["calls"]:List Str).zip us))∧∀base:Heap,K.In base→base.Ns mainGlobals mg→oP P w K mg base Lk 11 fa fd ["calls"] (ox K):=by
 obtain⟨T⟩:=N
 have e:=hfa.symm.trans T.answers.Ny
 cases e
 obtain⟨oc,od,kV,doc,pm,an,cdv,ct,osl,e,lk,hcd⟩:=T.answers.fn.ex
 refine⟨T.answers.fd,fun s us hu=>?_,fun base _ _=>GN T⟩
 rw[e]
 match us,hu with
 | [_],_=>exact .of_eq rfl
open PySem.W (Codec)
theorem asks(K:Frg)(H:Hp)(xs:List V)(a:Codec.denoteAll PySem.Challenge.rw_boilerplans_s01_answers.args)(hask:Codec.app PySem.Challenge.rw_boilerplans_s01_answers.args PySem.Challenge.rw_boilerplans_s01_answers.asked a=true)(hx:lZ K H xs (Codec.encAll PySem.Challenge.rw_boilerplans_s01_answers.args a)) :
  ox K xs H (fun v H'=>Dw K H' v (PySem.Challenge.rw_boilerplans_s01_answers.ret.enc (Codec.app PySem.Challenge.rw_boilerplans_s01_answers.args PySem.Challenge.rw_boilerplans_s01_answers.f a))) fun _ _ _=>False:=by
 cases hx with
 | cons h1 h2 =>
  cases h2
  cases h1 with
  | lst hs ha =>
   have e:=L2.HD a.1 _ ha
   subst e
   exact⟨_,a.1,rfl,hs,hask,fun p H' hp=>.lst (L2.aF.of hp) (L2.Hz _)⟩
end
end Bp
namespace PySem.W.Fast
def tw13543396089237825246:=0
def tw1100747403757622082:=0
def tw11664469329799331605:=0
def tw4316822409954971950:=0
def tw10169145375583674911:=0
def tw8869314530384581203:=0
def tw11619235306641282000:=0
def tw16959097136700145863:=0
def tw18269210903293193307:=0
def tw16969159906158358524:=0
def tw12038030952731796921:=0
def tw4583435500499064323:=0
def tw1206868822687236736:=0
def tw6762661347584582480:=0
def tw13936185194829780510:=0
def tw10977624378188719857:=0
def tw7823200485482686115:=0
def tw16107980045508228051:=0
def tw3222285538327258245:=0
def tw1917693925141758541:=0
def tw2667738867240577916:=0
def tw16732602264492434515:=0
def tw9892446779436032484:=0
def tw12875773939626086253:=0
def tw11596938806500709119:=0
def tw7124229727175800:=0
def tw3631919801570158802:=0
def tw1087478150683483650:=0
def tw14341957223280157210:=0
def tw13560815728766614136:=0
def tw11671392342450511029:=0
def tw10576971356962496028:=0
def tw14041417302497069642:=0
def tw16626179541386208077:=0
def tw18422803844139576897:=0
def tw8551963697384729681:=0
def tw16371235395161890448:=0
def tw2048515820068957104:=0
def tw4431632402548782503:=0
def tw18205686070217243231:=0
def tw3431782803581081104:=0
def tw12217247240762655251:=0
def tw17941660661620813424:=0
def tw18035967396125141172:=0
def tw11760062158529319104:=0
def tw12234578181925036264:=0
def tw6565833473062265523:=0
def tw15116582524389113538:=0
def tw5867286521120992025:=0
def tw173273843204302220:=0
def tw17373150388303730074:=0
def tw15695031092152939027:=0
def tw9978884809081575038:=0
def tw1140667536250579774:=0
def tw17357575181015398497:=0
def tw4318660532921775363:=0
def tw10828100770179884610:=0
def tw1946417883176523993:=0
def tw16781354183521172065:=0
def tw1307006188899461514:=0
def tw7933340410375538929:=0
def tw10840680775367254995:=0
def tw1513108462187053725:=0
def tw7568869858419965454:=0
def tw8411935351904956190:=0
def tw3287670329751340799:=0
def tw5646463648851041438:=0
def tw2049501324789321299:=0
def tw1310037676260946340:=0
def tw17220181910278264714:=0
def tw11550407142942353566:=0
def tw8905482871206566014:=0
def tw12382690652697668485:=0
def tw5801312010268082559:=0
def tw5596546577726185480:=0
def tw11214095857756507705:=0
def tw14074735551962552273:=0
def tw8599737244979768223:=0
def tw1525305972397068113:=0
def tw4169258446849927218:=0
def tw18062409272178439206:=0
def tw6990807599766207703:=0
def tw17039320273187963306:=0
def tw9137335188937524426:=0
def tw5758743126805595428:=0
def tw12732043160793770558:=0
def tw1242649798097235259:=0
def tw11038913350905895519:=0
def tw17540682576997923994:=0
def tw8123952389279726797:=0
def tw5902846299091302374:=0
def tw2841568924532906932:=0
def tw10536115969441585374:=0
def tw253864923908831239:=0
def tw5392412163934504970:=0
def tw16921766782319661173:=0
def tw12725208040637724232:=0
def tw17027815486621097427:=0
def tw9272188481449808555:=0
def tw12130574174306936405:=0
def tw18186671042565432919:=0
def tw5539105126742335497:=0
def tw14519288888895566540:=0
def tw16948379896476600340:=0
def tw15966989772911859334:=0
def tw12390094295417108489:=0
def tw14468431190977826912:=0
def tw13785606222647202051:=0
def tw14932859361539524100:=0
def tw8406655353438634137:=0
def tw16824861557998006958:=0
def tw2781959333665597757:=0
def tw3415021648364724596:=0
def tw14488646779349111450:=0
def tw13758750634832714526:=0
def tw17497871453932085654:=0
def tw10730317143792631802:=0
def tw3820272356756001620:=0
def tw1792253599851812565:=0
def tw15720285212529619614:=0
def tw8230930514340708776:=0
def tw14451362684592967249:=0
def tw9201079675199807525:=0
def tw7544861097064728142:=0
def tw14444164821581440069:=0
def tw3884188100253781318:=0
def tw17627831666540895872:=0
def tw5994061739470790417:=0
def tw12192566699327830791:=0
def tw10713817601581198599:=0
def tw12067487757076091549:=0
def tw11318125049206791138:=0
def tw6556536189188564281:=0
def tw14293044931463189108:=0
def tw10213810133921506876:=0
def tw2676733343728626269:=0
def tw4459023053341456101:=0
def tw436700010257000630:=0
def tw10652753766133602025:=0
def tw11348297749836943646:=0
def tw9519399438331304195:=0
def tw5614055235431993531:=0
def tw9328877698513931159:=0
def tw5132122276785804238:=0
def tw177348394918082101:=0
def tw14734648349446952367:=0
def tw15614598597060954996:=0
def tw18158908484920346526:=0
def tw1343520219001034116:=0
def tw9923404492313219744:=0
def tw8619283143233690196:=0
def tw4400323498362513953:=0
def tw7563703076154986152:=0
def tw5899446286087052519:=0
def tw2980598752135694797:=0
def tw16283202944831432499:=0
def tw18224358948867065403:=0
def tw11625463280906336174:=0
def tw3324843570640954461:=0
end PySem.W.Fast
open PySem PySem.W PyProof.Rows Bp
set_option maxRecDepth 100000 in
set_option maxHeartbeats 0 in
theorem PySem.Challenge.cw_boilerplans_s01_answers_holds : PySem.Challenge.rw_boilerplans_s01_answers.Holds := by
 w_on;k_headS;(case hw=>exact⟨[.list [.int 5]],by decide+kernel,by decide+kernel⟩)
 k_fillS
 refine L2.Hm (r:=PySem.Challenge.rw_boilerplans_s01_answers) (k:=11) (CX:=L2.Lk) (ps:=["calls"]) (sp:=ox) (by decide+kernel) rfl rfl ⟨rfl,by decide,by decide⟩ (fun w h Y=>PySem.W.kIn_of Y) ?F ?S (fun _ _ _ _ z=>z)
 case F =>
  intro w mg fa h Y KX G hmg
  refine all_mk KX G hmg ?_
  refine' vA KX G (x:="Steps") (qual:="Steps.__init__") (st:=nj) ?aC ?a1 ?i1 ?l1 ?c1 ?k1 ?pg ?hd ?po ?sa ?mk ?kc (ps:=["self","unit","width"]) (Iq rfl) ?cont_Steps
  (case aC=>k_is);(case a1=>k_is);(case i1=>k_is);(case l1=>k_is);(case c1=>k_is);(case k1=>k_is);(case pg=>k_is);(case hd=>k_is);(case po=>k_is);(case sa=>k_is);(case mk=>k_is);(case kc=>k_is)
  intro aR qH
  have jL:=df (n:="size") qH (by k_is)
  have iX:=df (n:="width") qH (by k_is)
  have gj:=df (n:="off_end") qH (by k_is)
  have dS:=df (n:="start_cost") qH (by k_is)
  have iW:=df (n:="reach") qH (by k_is)
  have dC:=df (n:="on_costs") qH (by k_is)
  refine' vA KX G (x:="Ground") (qual:="Ground.__init__") (st:=lI) ?aC ?a1 ?i1 ?l1 ?c1 ?k1 ?pg ?hd ?po ?sa ?mk ?kc (ps:=["self","units"]) (jD rfl) ?cont_Ground
  (case aC=>k_is);(case a1=>k_is);(case i1=>k_is);(case l1=>k_is);(case c1=>k_is);(case k1=>k_is);(case pg=>k_is);(case hd=>k_is);(case po=>k_is);(case sa=>k_is);(case mk=>k_is);(case kc=>k_is)
  intro bQ Er
  have fi:=df (n:="steps") Er (by k_is)
  have gi:=df (n:="levels") Er (by k_is)
  refine' vA KX G (x:="Plant") (qual:="Plant.__init__") (st:=nh) ?aC ?a1 ?i1 ?l1 ?c1 ?k1 ?pg ?hd ?po ?sa ?mk ?kc (ps:=["self"]) (yc rfl) ?cont_Plant
  (case aC=>k_is);(case a1=>k_is);(case i1=>k_is);(case l1=>k_is);(case c1=>k_is);(case k1=>k_is);(case pg=>k_is);(case hd=>k_is);(case po=>k_is);(case sa=>k_is);(case mk=>k_is);(case kc=>k_is)
  intro aw cS
  have fY:=df (n:="units") cS (by k_is)
  have fW:=df (n:="modes") cS (by k_is)
  have jd:=df (n:="now") cS (by k_is)
  have fX:=df (n:="spent") cS (by k_is)
  have cE:=df (n:="ground") cS (by k_is)
  have iV:=df (n:="loads") cS (by k_is)
  have eT:=df (n:="available") cS (by k_is)
  have fk:=df (n:="tables") cS (by k_is)
  have fj:=df (n:="marked") cS (by k_is)
  refine' vA KX G (x:="Unit") (qual:="Unit.__init__") (st:=pZ) ?aC ?a1 ?i1 ?l1 ?c1 ?k1 ?pg ?hd ?po ?sa ?mk ?kc (ps:=["self","name","numbers"]) (Iq rfl) ?cont_Unit
  (case aC=>k_is);(case a1=>k_is);(case i1=>k_is);(case l1=>k_is);(case c1=>k_is);(case k1=>k_is);(case pg=>k_is);(case hd=>k_is);(case po=>k_is);(case sa=>k_is);(case mk=>k_is);(case kc=>k_is)
  intro aK mL
  have gG:=df (n:="name") mL (by k_is)
  have jM:=df (n:="least") mL (by k_is)
  have gk:=df (n:="greatest") mL (by k_is)
  have eV:=df (n:="start_cost") mL (by k_is)
  have gn:=df (n:="run_cost") mL (by k_is)
  have eU:=df (n:="level_cost") mL (by k_is)
  have gm:=df (n:="hours_on") mL (by k_is)
  have fG:=df (n:="hours_off") mL (by k_is)
  have kO:=df (n:="ramp") mL (by k_is)
  refine' vA KX G (x:="Reader") (qual:="Reader.__init__") (st:=lK) ?aC ?a1 ?i1 ?l1 ?c1 ?k1 ?pg ?hd ?po ?sa ?mk ?kc (ps:=["self","calls"]) (jD rfl) ?cont_Reader
  (case aC=>k_is);(case a1=>k_is);(case i1=>k_is);(case l1=>k_is);(case c1=>k_is);(case k1=>k_is);(case pg=>k_is);(case hd=>k_is);(case po=>k_is);(case sa=>k_is);(case mk=>k_is);(case kc=>k_is)
  intro aU pq
  have gM:=df (n:="calls") pq (by k_is)
  have dB:=df (n:="place") pq (by k_is)
  have zb:d9 KX mg "levels_count" kr ["unit"]:=by refine' aS KX G ?_ ?_ ?_ ?_ (yc rfl)<;>try k_is
  have AN:d9 KX mg "modes_count" lO ["unit"]:=by refine' aS KX G ?_ ?_ ?_ ?_ (yc rfl)<;>try k_is
  have Gq:d9 KX mg "off_mode" tQ ["unit","hours"]:=by refine' aS KX G ?_ ?_ ?_ ?_ (jD rfl)<;>try k_is
  have IJ:d9 KX mg "on_mode" xo ["unit","hours","level"]:=by refine' aS KX G ?_ ?_ ?_ ?_ (Iq rfl)<;>try k_is
  have LC:d9 KX mg "is_on" DP ["unit","mode"]:=by refine' aS KX G ?_ ?_ ?_ ?_ (jD rfl)<;>try k_is
  have Gi:d9 KX mg "hours_in" tL ["unit","mode"]:=by refine' aS KX G ?_ ?_ ?_ ?_ (jD rfl)<;>try k_is
  have Gj:d9 KX mg "level_in" tM ["unit","mode"]:=by refine' aS KX G ?_ ?_ ?_ ?_ (jD rfl)<;>try k_is
  have EB:d9 KX mg "told_mode" qj ["unit","mode"]:=by refine' aS KX G ?_ ?_ ?_ ?_ (jD rfl)<;>try k_is
  have sQ:d9 KX mg "choices_from_off" gz ["unit","hours","available"]:=by refine' aS KX G ?_ ?_ ?_ ?_ (Iq rfl)<;>try k_is
  have uG:d9 KX mg "choices_from_on" gV ["unit","hours","level","available"]:=by refine' aS KX G ?_ ?_ ?_ ?_ (MG rfl)<;>try k_is
  have IE:d9 KX mg "choices" xf ["unit","mode","available"]:=by refine' aS KX G ?_ ?_ ?_ ?_ (Iq rfl)<;>try k_is
  have Et:d9 KX mg "hour_cost" qc ["unit","before","chosen"]:=by refine' aS KX G ?_ ?_ ?_ ?_ (Iq rfl)<;>try k_is
  have wo:d9 KX mg "modes_together" iJ ["units"]:=by refine' aS KX G ?_ ?_ ?_ ?_ (yc rfl)<;>try k_is
  have uI:d9 KX mg "levels_together" gX ["units"]:=by refine' aS KX G ?_ ?_ ?_ ?_ (yc rfl)<;>try k_is
  have Gu:d9 KX mg "place_of" tT ["ground","modes"]:=by refine' aS KX G ?_ ?_ ?_ ?_ (jD rfl)<;>try k_is
  have Gp:d9 KX mg "modes_of" tP ["ground","place"]:=by refine' aS KX G ?_ ?_ ?_ ?_ (jD rfl)<;>try k_is
  have JV:d9 KX mg "turned" Ac ["costs","size"]:=by refine' aS KX G ?_ ?_ ?_ ?_ (jD rfl)<;>try k_is
  have JU:d9 KX mg "lesser" Ab ["some","others"]:=by refine' aS KX G ?_ ?_ ?_ ?_ (jD rfl)<;>try k_is
  have ye:d9 KX mg "least_of_many" jA ["costs","width","many"]:=by refine' aS KX G ?_ ?_ ?_ ?_ (Iq rfl)<;>try k_is
  have pA:d9 KX mg "least_within_reach" fw ["steps","costs"]:=by refine' aS KX G ?_ ?_ ?_ ?_ (jD rfl)<;>try k_is
  have AM:d9 KX mg "costs_of_on" lN ["steps","later"]:=by refine' aS KX G ?_ ?_ ?_ ?_ (jD rfl)<;>try k_is
  have y9:d9 KX mg "costs_if_off" ko ["steps","later"]:=by refine' aS KX G ?_ ?_ ?_ ?_ (jD rfl)<;>try k_is
  have za:d9 KX mg "costs_if_out" kq ["steps","later"]:=by refine' aS KX G ?_ ?_ ?_ ?_ (jD rfl)<;>try k_is
  have px:d9 KX mg "costs_if_available" fv ["steps","later"]:=by refine' aS KX G ?_ ?_ ?_ ?_ (jD rfl)<;>try k_is
  have CZ:d9 KX mg "least_over" nH ["costs","steps","available"]:=by refine' aS KX G ?_ ?_ ?_ ?_ (Iq rfl)<;>try k_is
  have y8:d9 KX mg "costs_before" kn ["ground","load","available","later"]:=by refine' aS KX G ?_ ?_ ?_ ?_ (MG rfl)<;>try k_is
  have CT:d9 KX mg "ground_for" nA ["plant"]:=by refine' aS KX G ?_ ?_ ?_ ?_ (yc rfl)<;>try k_is
  have yd:d9 KX mg "costs_to_come" jy ["plant","hour"]:=by refine' aS KX G ?_ ?_ ?_ ?_ (jD rfl)<;>try k_is
  have wj:d9 KX mg "cost_from_here" iH ["plant","costs"]:=by refine' aS KX G ?_ ?_ ?_ ?_ (jD rfl)<;>try k_is
  have CY:d9 KX mg "least_cost" nG ["plant"]:=by refine' aS KX G ?_ ?_ ?_ ?_ (yc rfl)<;>try k_is
  have uH:d9 KX mg "least_cost_with" gW ["plant","changed","load"]:=by refine' aS KX G ?_ ?_ ?_ ?_ (Iq rfl)<;>try k_is
  have Eu:d9 KX mg "is_proved" qd ["plant","hour","told","told_later"]:=by refine' aS KX G ?_ ?_ ?_ ?_ (MG rfl)<;>try k_is
  have C0:d9 KX mg "moves_from" nJ ["units","modes","available"]:=by refine' aS KX G ?_ ?_ ?_ ?_ (Iq rfl)<;>try k_is
  have wk:d9 KX mg "first_cheapest" iI ["ground","moves","load","later"]:=by refine' aS KX G ?_ ?_ ?_ ?_ (MG rfl)<;>try k_is
  have AO:d9 KX mg "plan_levels" lP ["plant"]:=by refine' aS KX G ?_ ?_ ?_ ?_ (yc rfl)<;>try k_is
  have AS:JC aw "begin" "Plant.begin" lJ ["self","units"]:=by refine' pF cS ?_ ?_ ?_ ?_ ?_ (jD rfl)<;>try k_is
  have yh:JC aw "set_day" "Plant.set_day" jx ["self","loads"]:=by refine' pF cS ?_ ?_ ?_ ?_ ?_ (jD rfl)<;>try k_is
  have wG:JC aw "set_load" "Plant.set_load" iF ["self","hour","load"]:=by refine' pF cS ?_ ?_ ?_ ?_ ?_ (Iq rfl)<;>try k_is
  have oS:JC aw "set_available" "Plant.set_available" eN ["self","unit","hours","available"]:=by refine' pF cS ?_ ?_ ?_ ?_ ?_ (MG rfl)<;>try k_is
  have oQ:JC aw "forget_tables" "Plant.forget_tables" eJ ["self","hour"]:=by refine' pF cS ?_ ?_ ?_ ?_ ?_ (jD rfl)<;>try k_is
  have oR:JC aw "hours_to_come" "Plant.hours_to_come" eK ["self"]:=by refine' pF cS ?_ ?_ ?_ ?_ ?_ (yc rfl)<;>try k_is
  have wH:JC aw "set_mark" "Plant.set_mark" iG ["self","cost"]:=by refine' pF cS ?_ ?_ ?_ ?_ ?_ (jD rfl)<;>try k_is
  have uS:JC aw "pass_hour" "Plant.pass_hour" gT ["self","chosen","cost"]:=by refine' pF cS ?_ ?_ ?_ ?_ ?_ (Iq rfl)<;>try k_is
  have II:d9 KX mg "mode_at" xn ["unit","mode","available","level"]:=by refine' aS KX G ?_ ?_ ?_ ?_ (MG rfl)<;>try k_is
  have Gn:d9 KX mg "modes_at" tO ["plant","modes","hour","levels"]:=by refine' aS KX G ?_ ?_ ?_ ?_ (MG rfl)<;>try k_is
  have Ex:d9 KX mg "move_cost" qe ["plant","modes","chosen"]:=by refine' aS KX G ?_ ?_ ?_ ?_ (Iq rfl)<;>try k_is
  have Gs:d9 KX mg "parts_of" tS ["row","between"]:=by refine' aS KX G ?_ ?_ ?_ ?_ (jD rfl)<;>try k_is
  have Ez:d9 KX mg "tokens_of" qi ["line"]:=by refine' aS KX G ?_ ?_ ?_ ?_ (yc rfl)<;>try k_is
  have Gh:d9 KX mg "bytes_of" tK ["word"]:=by refine' aS KX G ?_ ?_ ?_ ?_ (yc rfl)<;>try k_is
  have IF:d9 KX mg "is_name" xh ["token"]:=by refine' aS KX G ?_ ?_ ?_ ?_ (yc rfl)<;>try k_is
  have Ey:d9 KX mg "number_of" qf ["token"]:=by refine' aS KX G ?_ ?_ ?_ ?_ (yc rfl)<;>try k_is
  have C2:d9 KX mg "numbers_of" nN ["tokens"]:=by refine' aS KX G ?_ ?_ ?_ ?_ (yc rfl)<;>try k_is
  have IL:d9 KX mg "unit_of" xq ["line"]:=by refine' aS KX G ?_ ?_ ?_ ?_ (yc rfl)<;>try k_is
  have Gk:d9 KX mg "lines_of" tN ["text"]:=by refine' aS KX G ?_ ?_ ?_ ?_ (yc rfl)<;>try k_is
  have sR:d9 KX mg "first_wrong_line" gA ["lines"]:=by refine' aS KX G ?_ ?_ ?_ ?_ (yc rfl)<;>try k_is
  have C5:d9 KX mg "wrong_line" nW ["text"]:=by refine' aS KX G ?_ ?_ ?_ ?_ (yc rfl)<;>try k_is
  have Gv:d9 KX mg "units_of" tU ["text"]:=by refine' aS KX G ?_ ?_ ?_ ?_ (yc rfl)<;>try k_is
  have C1:d9 KX mg "numbers_in" nL ["unit"]:=by refine' aS KX G ?_ ?_ ?_ ?_ (yc rfl)<;>try k_is
  have IH:d9 KX mg "line_of" xk ["unit"]:=by refine' aS KX G ?_ ?_ ?_ ?_ (yc rfl)<;>try k_is
  have IK:d9 KX mg "text_of" xp ["units"]:=by refine' aS KX G ?_ ?_ ?_ ?_ (yc rfl)<;>try k_is
  have CP:d9 KX mg "all_within" nu ["numbers","most"]:=by refine' aS KX G ?_ ?_ ?_ ?_ (jD rfl)<;>try k_is
  have IG:d9 KX mg "is_unit" xi ["plant","number"]:=by refine' aS KX G ?_ ?_ ?_ ?_ (jD rfl)<;>try k_is
  have CV:d9 KX mg "is_to_come" nB ["plant","hour"]:=by refine' aS KX G ?_ ?_ ?_ ?_ (jD rfl)<;>try k_is
  have mT:d9 KX mg "units_call" nT ["plant","given"]:=by refine' aS KX G ?_ ?_ ?_ ?_ (jD rfl)<;>try k_is
  have mO:d9 KX mg "loads_call" nI ["plant","given"]:=by refine' aS KX G ?_ ?_ ?_ ?_ (jD rfl)<;>try k_is
  have jr:d9 KX mg "forecast_call" jz ["plant","given"]:=by refine' aS KX G ?_ ?_ ?_ ?_ (jD rfl)<;>try k_is
  have sS:d9 KX mg "out_call" tR ["plant","given"]:=by refine' aS KX G ?_ ?_ ?_ ?_ (jD rfl)<;>try k_is
  have pw:d9 KX mg "back_call" qa ["plant","given"]:=by refine' aS KX G ?_ ?_ ?_ ?_ (jD rfl)<;>try k_is
  have mN:d9 KX mg "least_call" nF ["plant","given"]:=by refine' aS KX G ?_ ?_ ?_ ?_ (jD rfl)<;>try k_is
  have pB:d9 KX mg "plan_call" qg ["plant","given"]:=by refine' aS KX G ?_ ?_ ?_ ?_ (jD rfl)<;>try k_is
  have CW:d9 KX mg "judge_plan" nE ["plant","levels"]:=by refine' aS KX G ?_ ?_ ?_ ?_ (jD rfl)<;>try k_is
  have mM:d9 KX mg "check_call" nv ["plant","given"]:=by refine' aS KX G ?_ ?_ ?_ ?_ (jD rfl)<;>try k_is
  have wm:d9 KX mg "go_call" xg ["plant","given"]:=by refine' aS KX G ?_ ?_ ?_ ?_ (jD rfl)<;>try k_is
  have pD:d9 KX mg "trip_call" qk ["plant","given"]:=by refine' aS KX G ?_ ?_ ?_ ?_ (jD rfl)<;>try k_is
  have mS:d9 KX mg "table_call" nS ["plant","given"]:=by refine' aS KX G ?_ ?_ ?_ ?_ (jD rfl)<;>try k_is
  have mQ:d9 KX mg "prove_call" nP ["plant","given"]:=by refine' aS KX G ?_ ?_ ?_ ?_ (jD rfl)<;>try k_is
  have mR:d9 KX mg "state_call" nR ["plant","given"]:=by refine' aS KX G ?_ ?_ ?_ ?_ (jD rfl)<;>try k_is
  have lA:d9 KX mg "anchor_call" lM ["plant","given"]:=by refine' aS KX G ?_ ?_ ?_ ?_ (jD rfl)<;>try k_is
  have lB:d9 KX mg "regret_call" lQ ["plant","given"]:=by refine' aS KX G ?_ ?_ ?_ ?_ (jD rfl)<;>try k_is
  have mU:d9 KX mg "worth_call" nU ["plant","given"]:=by refine' aS KX G ?_ ?_ ?_ ?_ (jD rfl)<;>try k_is
  have mP:d9 KX mg "print_call" nO ["plant","given"]:=by refine' aS KX G ?_ ?_ ?_ ?_ (jD rfl)<;>try k_is
  have j7:d9 KX mg "options_call" ku ["plant","given"]:=by refine' aS KX G ?_ ?_ ?_ ?_ (jD rfl)<;>try k_is
  have pC:d9 KX mg "read_call" qh ["plant","given"]:=by refine' aS KX G ?_ ?_ ?_ ?_ (jD rfl)<;>try k_is
  have pz:d9 KX mg "hour_call" qb ["plant","given"]:=by refine' aS KX G ?_ ?_ ?_ ?_ (jD rfl)<;>try k_is
  have uT:JC aU "has_more" "Reader.has_more" gU ["self"]:=by refine' pF pq ?_ ?_ ?_ ?_ ?_ (yc rfl)<;>try k_is
  have pL:JC aU "take_number" "Reader.take_number" fq ["self"]:=by refine' pF pq ?_ ?_ ?_ ?_ ?_ (yc rfl)<;>try k_is
  have oT:JC aU "take_numbers" "Reader.take_numbers" eO ["self","many"]:=by refine' pF pq ?_ ?_ ?_ ?_ ?_ (jD rfl)<;>try k_is
  have C3:d9 KX mg "read_given" nQ ["reader","form"]:=by refine' aS KX G ?_ ?_ ?_ ?_ (jD rfl)<;>try k_is
  have ID:d9 KX mg "answers" xc ["calls"]:=by refine' aS KX G ?_ ?_ ?_ ?_ (yc rfl)<;>try k_is
  have wK:mg "all"=none:=mg_none_of KX G (by k_is)
  have jN:mg "enumerate"=none:=mg_none_of KX G (by k_is)
  have ba:mg "len"=none:=mg_none_of KX G (by k_is)
  have qQ:mg "list"=none:=mg_none_of KX G (by k_is)
  have GJ:mg "max"=none:=mg_none_of KX G (by k_is)
  have pP:mg "min"=none:=mg_none_of KX G (by k_is)
  have GK:mg "ord"=none:=mg_none_of KX G (by k_is)
  have dD:mg "range"=none:=mg_none_of KX G (by k_is)
  have kP:mg "reversed"=none:=mg_none_of KX G (by k_is)
  have GL:mg "str"=none:=mg_none_of KX G (by k_is)
  have zB:mg "sum"=none:=mg_none_of KX G (by k_is)
  have iC:mg "zip"=none:=mg_none_of KX G (by k_is)
  refine' bN KX G (x:="NO_PLAN") (i:=4000000000000000000) ?Il ?ct_NO_PLAN;(case Il=>k_is);intro xB fD
  refine' bN KX G (x:="BLANK") (i:=32) ?Lp ?ct_BLANK;(case Lp=>k_is);intro D5 uK
  refine' bN KX G (x:="LINE_END") (i:=10) ?FQ ?ct_LINE_END;(case FQ=>k_is);intro ui j9
  refine' bN KX G (x:="MOST_UNITS") (i:=4) ?Cw ?ct_MOST_UNITS;(case Cw=>k_is);intro oC jJ
  refine' bN KX G (x:="LONGEST_NAME") (i:=8) ?yQ ?ct_LONGEST_NAME;(case yQ=>k_is);intro kC kb
  refine' bN KX G (x:="MOST_DIGITS") (i:=4) ?AK ?ct_MOST_DIGITS;(case AK=>k_is);intro lW lC
  have uL:mg "WORDS"=some (.ref 372):=mg_of KX G (by k_is)
  have mJ:rj KX 372 [.str "unit",.str "from",.str "to",.str "start",.str "run",.str "per",.str "up",.str "down",.str "ramp"]:=by
   intro H;refine' Ar ?l ?z ?v
   (case l=>k_is);(case z=>decide);(case v=>exact .cons ⟨_,rfl⟩ (.cons ⟨_,rfl⟩ (.cons ⟨_,rfl⟩ (.cons ⟨_,rfl⟩ (.cons ⟨_,rfl⟩ (.cons ⟨_,rfl⟩ (.cons ⟨_,rfl⟩ (.cons ⟨_,rfl⟩ (.cons ⟨_,rfl⟩ (.nil))))))))))
  have ze:mg "RANGES"=some (.ref 381):=mg_of KX G (by k_is)
  have sH:rj KX 373 [.int 1,.int 60]:=by
   refine' h9 ?l;(case l=>k_is)
  have sI:rj KX 374 [.int 1,.int 60]:=by
   refine' h9 ?l;(case l=>k_is)
  have sJ:rj KX 375 [.int 0,.int 1000]:=by
   refine' h9 ?l;(case l=>k_is)
  have sL:rj KX 376 [.int 0,.int 1000]:=by
   refine' h9 ?l;(case l=>k_is)
  have sM:rj KX 377 [.int 0,.int 1000]:=by
   refine' h9 ?l;(case l=>k_is)
  have sN:rj KX 378 [.int 1,.int 8]:=by
   refine' h9 ?l;(case l=>k_is)
  have sO:rj KX 379 [.int 1,.int 8]:=by
   refine' h9 ?l;(case l=>k_is)
  have sP:rj KX 380 [.int 1,.int 60]:=by
   refine' h9 ?l;(case l=>k_is)
  have uA:rj KX 381 [.ref 373,.ref 374,.ref 375,.ref 376,.ref 377,.ref 378,.ref 379,.ref 380]:=by
   intro H;refine' Ar ?l ?z ?v
   (case l=>k_is);(case z=>decide);(case v=>exact .cons rfl (.cons rfl (.cons rfl (.cons rfl (.cons rfl (.cons rfl (.cons rfl (.cons rfl (.nil)))))))))
  refine' bN KX G (x:="MOST_MODES") (i:=600) ?Cv ?ct_MOST_MODES;(case Cv=>k_is);intro oB mY
  refine' bN KX G (x:="MOST_HOURS") (i:=48) ?Ct ?ct_MOST_HOURS;(case Ct=>k_is);intro oy mX
  refine' bN KX G (x:="MOST_LOAD") (i:=240) ?Ef ?ct_MOST_LOAD;(case Ef=>k_is);intro qA kL
  refine' bN KX G (x:="MOST_LEVEL") (i:=60) ?Cu ?ct_MOST_LEVEL;(case Cu=>k_is);intro oz jI
  refine' bN KX G (x:="NOT_IN_RANGE") (i:=(-1)) ?yR ?ct_NOT_IN_RANGE;(case yR=>k_is);intro kD aZ
  refine' bN KX G (x:="NO_UNITS") (i:=(-2)) ?FT ?ct_NO_UNITS;(case FT=>k_is);intro uk sU
  refine' bN KX G (x:="NOT_THE_TIME") (i:=(-3)) ?yS ?ct_NOT_THE_TIME;(case yS=>k_is);intro kE cD
  refine' bN KX G (x:="NOT_SO") (i:=(-4)) ?JE ?ct_NOT_SO;(case JE=>k_is);intro Az i9
  refine' bN KX G (x:="NO_PLACE") (i:=(-5)) ?FR ?ct_NO_PLACE;(case FR=>k_is);intro uj sT
  refine' bN KX G (x:="NOT_TO_BE_DONE") (i:=(-6)) ?vP ?ct_NOT_TO_BE_DONE;(case vP=>k_is);intro iP iu
  refine' bN KX G (x:="CANT_BE_AT_LEVEL") (i:=1) ?rL ?ct_CANT_BE_AT_LEVEL;(case rL=>k_is);intro gD gu
  refine' bN KX G (x:="LOAD_NOT_MET") (i:=2) ?yP ?ct_LOAD_NOT_MET;(case yP=>k_is);intro kz ka
  refine' bN KX G (x:="WRONG_LENGTH") (i:=3) ?yT ?ct_WRONG_LENGTH;(case yT=>k_is);intro kF gL
  refine' bN KX G (x:="NO_COST") (i:=(-1)) ?Ik ?ct_NO_COST;(case Ik=>k_is);intro xA wt
  have Dc:mg "CALLS"=some (.ref 649):=mg_of KX G (by k_is)
  have CF:rj KX 649 [.ref mT.f,.ref mO.f,.ref jr.f,.ref sS.f,.ref pw.f,.ref mN.f,.ref pB.f,.ref mM.f,.ref wm.f,.ref pD.f,.ref mS.f,.ref mQ.f,.ref mR.f,.ref lA.f,.ref lB.f,.ref mU.f,.ref mP.f,.ref j7.f,.ref pC.f,.ref pz.f]:=by
   intro H;refine' Ar ?l ?z ?v
   (case l=>k_is);(case z=>decide);(case v=>exact .cons (mf mT (mg_of KX G (by k_is))) (.cons (mf mO (mg_of KX G (by k_is))) (.cons (mf jr (mg_of KX G (by k_is))) (.cons (mf sS (mg_of KX G (by k_is))) (.cons (mf pw (mg_of KX G (by k_is))) (.cons (mf mN (mg_of KX G (by k_is))) (.cons (mf pB (mg_of KX G (by k_is))) (.cons (mf mM (mg_of KX G (by k_is))) (.cons (mf wm (mg_of KX G (by k_is))) (.cons (mf pD (mg_of KX G (by k_is))) (.cons (mf mS (mg_of KX G (by k_is))) (.cons (mf mQ (mg_of KX G (by k_is))) (.cons (mf mR (mg_of KX G (by k_is))) (.cons (mf lA (mg_of KX G (by k_is))) (.cons (mf lB (mg_of KX G (by k_is))) (.cons (mf mU (mg_of KX G (by k_is))) (.cons (mf mP (mg_of KX G (by k_is))) (.cons (mf j7 (mg_of KX G (by k_is))) (.cons (mf pC (mg_of KX G (by k_is))) (.cons (mf pz (mg_of KX G (by k_is))) (.nil)))))))))))))))))))))
  have Dd:mg "FORMS"=some (.ref 670):=mg_of KX G (by k_is)
  have vS:rj KX 650 [.int 0,.int 1]:=by
   refine' h9 ?l;(case l=>k_is)
  have vT:rj KX 651 [.int 0,.int 1]:=by
   refine' h9 ?l;(case l=>k_is)
  have vU:rj KX 652 [.int 2,.int 0]:=by
   refine' h9 ?l;(case l=>k_is)
  have vV:rj KX 653 [.int 3,.int 0]:=by
   refine' h9 ?l;(case l=>k_is)
  have vW:rj KX 654 [.int 1,.int 0]:=by
   refine' h9 ?l;(case l=>k_is)
  have vX:rj KX 655 [.int 0,.int 0]:=by
   refine' h9 ?l;(case l=>k_is)
  have vY:rj KX 656 [.int 0,.int 0]:=by
   refine' h9 ?l;(case l=>k_is)
  have vZ:rj KX 657 [.int 0,.int 1]:=by
   refine' h9 ?l;(case l=>k_is)
  have wa:rj KX 658 [.int 0,.int 1]:=by
   refine' h9 ?l;(case l=>k_is)
  have wb:rj KX 659 [.int 1,.int 0]:=by
   refine' h9 ?l;(case l=>k_is)
  have su:rj KX 660 [.int 1,.int 0]:=by
   refine' h9 ?l;(case l=>k_is)
  have sv:rj KX 661 [.int 1,.int 2]:=by
   refine' h9 ?l;(case l=>k_is)
  have sx:rj KX 662 [.int 0,.int 0]:=by
   refine' h9 ?l;(case l=>k_is)
  have sy:rj KX 663 [.int 0,.int 0]:=by
   refine' h9 ?l;(case l=>k_is)
  have sA:rj KX 664 [.int 0,.int 0]:=by
   refine' h9 ?l;(case l=>k_is)
  have sC:rj KX 665 [.int 1,.int 0]:=by
   refine' h9 ?l;(case l=>k_is)
  have sD:rj KX 666 [.int 0,.int 0]:=by
   refine' h9 ?l;(case l=>k_is)
  have sE:rj KX 667 [.int 1,.int 0]:=by
   refine' h9 ?l;(case l=>k_is)
  have sF:rj KX 668 [.int 0,.int 1]:=by
   refine' h9 ?l;(case l=>k_is)
  have sG:rj KX 669 [.int 1,.int 0]:=by
   refine' h9 ?l;(case l=>k_is)
  have CH:rj KX 670 [.ref 650,.ref 651,.ref 652,.ref 653,.ref 654,.ref 655,.ref 656,.ref 657,.ref 658,.ref 659,.ref 660,.ref 661,.ref 662,.ref 663,.ref 664,.ref 665,.ref 666,.ref 667,.ref 668,.ref 669]:=by
   intro H;refine' Ar ?l ?z ?v
   (case l=>k_is);(case z=>decide);(case v=>exact .cons rfl (.cons rfl (.cons rfl (.cons rfl (.cons rfl (.cons rfl (.cons rfl (.cons rfl (.cons rfl (.cons rfl (.cons rfl (.cons rfl (.cons rfl (.cons rfl (.cons rfl (.cons rfl (.cons rfl (.cons rfl (.cons rfl (.cons rfl (.nil)))))))))))))))))))))
  exact⟨Tx.mk aR jL iX gj dS iW dC bQ fi gi aw fY fW jd fX cE iV eT fk fj aK gG jM gk eV gn eU gm fG kO aU gM dB zb AN Gq IJ LC Gi Gj EB sQ uG IE Et wo uI Gu Gp JV JU ye pA AM y9 za px CZ y8 CT yd wj CY uH Eu C0 wk AO AS yh wG oS oQ oR wH uS II Gn Ex Gs Ez Gh IF Ey C2 IL Gk sR C5 Gv C1 IH IK CP IG CV mT mO jr sS pw mN pB CW mM wm pD mS mQ mR lA lB mU mP j7 pC pz uT pL oT C3 ID wK jN ba qQ GJ pP GK dD kP GL zB iC xB fD D5 uK ui j9 oC jJ kC kb lW lC 372 uL mJ 381 ze 373 sH 374 sI 375 sJ 376 sL 377 sM 378 sN 379 sO 380 sP uA oB mY oy mX qA kL oz jI kD aZ uk sU kE cD Az i9 uj sT iP iu gD gu kz ka kF gL xA wt 649 Dc CF 670 Dd 650 vS 651 vT 652 vU 653 vV 654 vW 655 vX 656 vY 657 vZ 658 wa 659 wb 660 su 661 sv 662 sx 663 sy 664 sA 665 sC 666 sD 667 sE 668 sF 669 sG CH⟩
 case S =>
  intro K H xs a hO hwi hask hx
  exact asks K H xs a hask hx
#print axioms PySem.Challenge.cw_boilerplans_s01_answers_holds
