import PyProof.Rows.All
import Wide.All
import OpenK.AllK
import Wide.FinOn
import Lean
import PyProof.EqAt
import PyProof.EqKinds
import PyProof.TupleCall
import PyProof.EqLayable
import PySem.PyData
import PyProof.Rows.SortKey
import KE.KSortTup
import PyProof.ZipIter
import PyProof.Draws
import PyProof.ExcAttrAll.ValueError
import PyProof.ExcBaseAll.ValueError
import PyProof.NsDelKeeps
import PyProof.StrOps2
import PyProof.ListRange
import PyProof.FString
import PyProof.StrCalls3
import PyProof.Rows.StrJoin2
import PyProof.StrLaws
import PyProof.Fits
import PyProof.AutoSeq1
import PyProof.CollectWalk
import PyProof.DictWalks
import PyProof.MinMaxWalk
import PyProof.P3Eq
import PyProof.Rows.CallKwBuiltin
import PyProof.Rows.SortRuns
import PyProof.StrCalls2
import PyProof.SumAny
import PyProof.TupleOfGen
import PyProof.WalkInts
import PySem.Challenge.RW_sandyard_k21_whole_lasting
set_option compiler.extract_closed false
set_option Elab.async false
set_option linter.all false
set_option maxRecDepth 100000
local macro_rules | `(tactic| omega)=>`(tactic| first | lia | omega (splitNatSub:=true))
noncomputable section
open PySem renaming Value→Za,wpAny_bind→Zc,Shared→Zf,Addr→Zh,wpAny_pure→Zj,PyData→Zm,sizeLine→Zu,wpAny→ZF,mainGlobals→ZL,Program→Qc,starEach→Qm,Around→QB,World→QG,FuncData→QK,Heap→Je,wpAny_newObj_type→Jo,wpAny_call_entry→JK,wpAny_callSpecial?_slot→JR,compareOp→JS,wpAny_holding→JW,bootBuiltins→JX,assignEach→Vb,NameKind→Vd,wpAny_field→Vg,sysModules→Vq,wpAny_seqItems→Vu,codeAny_builtin→Vy,cLine→VF,wpAny_mono→VL,wpAny_loadPart'→Wh,mem_of_lookup→Wi,binaryOp→Wl,swapsWithSole→Wq,swappedStores→Wr,wpAny_typeNameOfWhole_keyiter→WL,wpAny_setField_rec→WP,wpAny_Call_Name_kw→WQ,wpAny_passesOwn→WW,foldedSetIterable→Yc,call_meets→Yn,wpAny_isInstance→Yq,wpAny_typeNameOf_keyiter→Yy,sizeLine_eq→YT,Stmt→YZ,wpAny_typeOf→Uc,wpAny_truthy_bool→Ud,IsPair→Uh,wpAny_newList→Uu,wpAny_attempt→Uv,behindInMarks→Uw,sliceBounds→Uy,Scope→Uz,ReadsAll→UG,backTo→Ke,codeAny→Kr,tupleKind→Kw,wpAny_rule→KC,wpAny_pyIter_tuple→KD,typeIs_int→KH,rawInt→KJ,wpAny_binaryOp_repeat_ref→Gb,getItem→Gf,pyNext→Gi,plainId_quiet→Gj,attributeBase→Gk,swapsWith→Gw,noFill_tuple_add→Gx,codeAny_mono→GQ,Paired→GR,wpAny_updateSeq→Eb,wpAny_execs_nil→Ec,wpAny_updateSeq_pair→Ey,wpAny_setField→Ez,isSubtype_type→EY,firstArgMember→Bb,IsZip→Bj,IsPart→Bk,DictEntry→Bp,wpAny_standAt→Bw,wpAny_onRaise→Bx,seq_tuple_add→By,Reads→BK,tupleKind_room_in1→BW,wpAny_dictEntries→Mv,valueAt→Mw,concat_meets→My,callerA→Mz,boot_len→MF,ZipApart→MJ,Keyword→La,wpAny_eqBool_int→Lr,wpAny_of_eq→LQ,wpAny_letGo→LR,Model→Te,wpAny_dictEpoch→Tj,letOwnedTupleGo→Tn,ItemsOf→Ra,BindsTo→Rb,wpAny_runValue→Rc,wpAny_load→Rf,compEnvC→Rm,atKey→Rp,wpAny_comprehension_free→RN,rangeSize_one→RQ,call→RT,seqItems?→Ng,bindL→Ni,bindC→Nj,PassesOwn→Nk,typeOf→Nz,seqIndex_neg→NK,richCompare_meets_room→NP,newList→NT,seqSlot_of→Df,Fin→Dh,wpAny_isOneOf_keyiter→Dp,int___rmul___int_list→Dq,wpAny_pyIter_keyiter→Pb,seqIndex_of→Pg,keywordEach→Pk,GenState→PL,CmpOp→PP,wpAny_Name→Hs,entryOfKey→Hu,checkCount→Hv,builtinsNs→Hw,Result→HB,Within→HD,wpAny_sequenceKey→Cd,wpAny_pyIter_list→Ce,wpAny_assign_Name→Cg,standAt→Ci,slot_list_getitem→Cj,setItem→Ck,Meets→Cw,wpAny_pyIter_zip→CT,wpAny_forIn_list→CV,wpAny_execs_cons→CW,updateSeq→CZ,small_one→Sg,isSubtype→Sh,checkBuiltinCall→Ss,cellsFrom→Su,wpAny_specialOf→Fi,wpAny_ite_split→Fj,noFill_list_mul→Fl
open Option renaming bind_eq_some_iff→Zb,bind_some→Zd,map_eq_some_iff→ZG,map_some→Uo,isSome_iff_exists→Kq,isSome_some→Ed,isSome_map→Eu,getD_some→Nm,getD_none→Np
open PySem.Heap renaming get?_push_of_some→Ze,get?_push_size→Zy,lt_size→ZD,get?_update_other→JV,get?_update_self→Vm,size_push→YG,SameBut→Gg,get?_update_ne→Ei,size_update→DY,IsTuple→CK,ExtBut→Fd
open Nat renaming le_refl→Zg,lt_of_lt_of_le→Zo,le_trans→Zt,lt_of_le_of_ne→Qo,zero_le→Qp,le_add_right→Qy,ne_of_lt→QD,zero_add→QH,add_lt_add_left→QX,lt_trans→Jb,lt_of_le_of_lt→Jj,add_le_add_left→Jr,le_of_not_lt→Ju,le_of_lt_succ→Jv,succ_le_succ→JF,le_of_lt→JL,lt_irrefl→Vc,le_sub_one_of_lt→Vr,le_max_right→Vz,le_antisymm→Wa,lt_of_not_le→Ws,sub_le→Wx,zero_lt_one→WK,lt_of_succ_lt→WR,sub_self→Yi,le_of_eq→Yj,le_succ→Yw,ne_of_gt→YJ,mul_comm→YK,le_of_succ_le→YL,add_sub_cancel'→Ux,add_le_add→Kg,sub_lt_left_of_lt_add→Ku,not_lt_of_le→Gd,add_sub_cancel_left→Ge,eq_zero_of_not_pos→Gm,add_lt_of_lt_sub'→Gy,pow_le_pow_right→GX,mul_le_mul_right→GZ,sub_lt→Be,pos_of_ne_zero→Bf,sub_zero→Bu,sub_pos_of_lt→Bv,pred_le_pred→Ma,not_le_of_lt→Mf,max_eq_right→Mi,strongRecOn→MN,not_lt_zero→MP,min_eq_left→MT,sub_lt_sub_right→RW,sub_le_sub_left→Nq,sub_add_cancel→Di,lt_succ_of_lt→Dt,le_succ_of_le→Du,le_pred_of_lt→Dv,add_sub_assoc→Dw,min_le_right→Py,min_eq_right→Pz,le_of_not_le→PJ,zero_lt_two→Hc,max_eq_left→Hd,le_max_left→Hf,le_add_left→Hg,div_lt_self→Hh,mul_assoc→Cu,add_assoc→Cv,succ_mul→Sv,pow_succ→Sw,add_zero→Sx,one_mul→Fw,le_zero→Fy
open List renaming length_map→Zi,map_cons→Zk,mem_cons_self→Zn,mem_cons_of_mem→Zq,size_toArray→Zv,mem_singleton→Zw,length_append→Zx,length_cons→Zz,range→ZJ,mem_range→ZR,mem_cons→ZS,mem_append→ZW,map_congr_left→ZZ,getElem?_eq_some_iff→Qa,mem_map→Qd,map_map→Qe,getElem?_set_ne→Qg,mem_filter→Qk,getElem?_map→Ql,filter_cons_of_pos→Qs,replicate→Qv,map_append→Qw,filter_cons_of_neg→QC,lookup_cons→QJ,mem_append_right→QV,append_assoc→QW,sum_cons→Jc,mapM_cons→Jh,getElem?_append_right→Ji,length_singleton→Jk,getElem?_eq_none→Jl,nodup_cons→Js,length_take→Jt,mem_of_getElem?→Jw,getElem?_append_left→Jx,extract_eq_take_drop→Jy,zip_cons_cons→Jz,filter_cons→JC,pairwise_map→JG,length_range→JH,mem_append_left→JN,length_set→JP,length_nil→JQ,getElem?_eq_getElem→Va,getD_eq_getElem?_getD→Vh,filter_congr→Vi,replicate_succ→Vj,find?_cons→Vl,ext_getElem?→Vt,length_pos_of_mem→Vx,length_filter_le→VD,pairwise_iff_getElem→VG,drop_eq_getElem_cons→VH,sum_append→VN,flatten_cons→Wb,length_erase_of_mem→Wg,getElem_of_mem→Wm,length_drop→Wo,take_of_length_le→Wt,filter_filter→Wu,filter_eq_nil_iff→Wv,countP_eq_length_filter→Wz,take_append_drop→WM,length_replicate→WN,any_eq_true→Ye,filter_eq_self→Ym,nil_append→Yr,forIn_cons→Ys,append_nil→Yt,pairwise_cons→Yu,pairwise_lt_range→YB,nodup_append→YC,map_nil→YD,getElem?_set_self→YF,take_length→Ua,mem_nil_iff→Ub,any_cons→Ug,pairwise_append→Up,range_succ→Uq,nodup_nil→UV,foldl→UW,pairwise_singleton→KR,mem_flatMap→KY,getElem_mem→KZ,getElem?_replicate→Ga,foldl_cons→Gn,perm_append_comm→Gr,pairwise_flatMap→Gs,contains_iff_mem→Gu,length→Gz,forIn_nil→GC,drop_zero→GD,getElem?_range→Ef,flatMap_append→Eg,filterMap_cons→Eh,Pairwise→Ek,getElem?_drop→Ew,filter_append→Ex,set_eq_take_append_cons_drop→Bg,take_add_one→Bo,zipIdx_cons→BL,not_mem_nil→BP,getElem_inj→BR,all_eq_true→BV,of_mem_zip→Mm,filter_map→Mp,perm_ext_iff_of_nodup→Lj,Nodup→Ln,set_eq_of_length_le→Tf,getElem?_take_of_lt→Tg,length_eq_zero_iff→Tr,eraseIdx_cons_succ→Tt,range_succ_eq_map→TQ,length_eq_one_iff→TV,drop_of_length_le→TX,any_map→TY,dropLast_eq_take→Rt,countP_mono_left→Ru,range_eq_range'→RC,mem_erase_of_ne→RD,length_dropLast→RG,getLast?_concat→RJ,getElem?_append→RK,dropLast_concat→RL,reverse_append→RX,map_eq_nil_iff→RZ,length_pos_iff→Nb,flatten_append→Nf,zip_nil_right→Nr,mem_filterMap→Nt,map_singleton→Nu,getElem?_take→Nv,zip_nil_left→Dj,foldl_append→Dk,flatMap_cons→Dl,range'_succ→Dy,perm_middle→Dz,nodup_range→DG,mem_reverse→DK,map_fst_zip→DN,flatMap_def→DP,ext_getElem→DQ,drop_length→DR,Perm→DW,zipIdx_nil→PK,take_succ→Hj,drop_drop→Hk,take_nil→HJ,drop_nil→HN,sum_nil→Cy,map_id'→Cz,any_nil→CG,all_map→CJ,range'→Sy,map_id→SJ
open PySem.W renaming fnOf→Zr,Frag→ZM,nsIn→ZX,keepIn→Qf,codeIn→Qj,mg_of→Qt,mg_none_of→Jg,kia_one→JM,kitOne→Us,methodObj→Ej,instObj→Bs,OpenLaw→Bt,lookIn→BZ,cellsFrom_some→Lw,kitx_tuple→Rr,kitx_list→Rx,kitx_dict→Ry,plainGet→RV,findIn→Dg,WalkO→Dr,kat_nil→Cm
open PyProof.Rows renaming wpS_pure→ZC,Keyed→ZK,arrOf→ZV,pendingOf→Qi,SortSt→Qn,wpS_bind→Qx,callWith_type1→Jm,seqObj→Jp,slot_tuple_getitem→JD,boot_tuple→VM,IsTup→VP,elem'→Wk,IntsAre→Wn,wpS_modify→YH,failedOf→Ue,wpS_get→Ut,SortKind→KN,wpS_forRange→GK,minRun'→GP,AllBare→Ea,envOfC→Bc,boot_sum→Bd,listUpdate_at→BJ,setArr→BX,wpS_mono→Mu,tuples'→Mx,entry_list_sort→Tq,sortedHeap→Rh,slot_list_sort→Ri,mergeAt'→Rj,gallopOf→Rk,boot_range→Ro,args_list_sort→Rq,subscriptTail→RP,ltAt'→Nh,subscriptTail_builtinR→NB,plain_sorted→NQ,listItems_at→NZ,entry_sorted→Dc,args_sorted1→Dd,seqEpoch_at→Ph,kind_sorted→Pj,entry_proto_collect'→Pn,elem'_eq→Pq,boot_sorted→Pr,binarySort'→Pu,entry_tuple_getitem→PQ,size_push'→Ht,args_tuple_getitem→Hx,Subscript_→Hy,entry_list_iadd'→Sq,get?_update_seq→Fo,boot_isinstance→Fp,lt_int→Fq,callWith_builtin1→Ft
open PySem.PyData renaming eqv→ZP,depthAll→Qz,canLay0→QF,eqvAll→QQ,canLayAll0→QZ,depth→Vo
open PySem.SeqAt renaming shaped→ZQ,canLay_of_shaped→QL,eqAt_reads→De
open Array renaming length_toList→Qh,getElem?_toList→QS,toList_extract→Ve,perm_iff_toList_perm→VB,toList_push→VR,toList_append→Wj,toList_reverse→WX,toList_inj→Yb,getElem?_eq_none→Yz,reverse_reverse→YX,reverse_append→Ul,append_assoc→UT,getElem?_eq_getElem→Ko,size_setIfInBounds→LK,getElem?_extract→TF,mem_toList_iff→Rw,toList_zip→Dm,toList_map→Do,toList→Ca
open Bool renaming false_eq_true→Qq,and_eq_true→QM,false_ne_true→Jd,not_eq_true'→Wc,and_eq_true_iff→Wd,eq_iff_iff→WF,true_and→Uk,or_eq_true→Ur,false_and→Kd,or_false→Kz,and_true→Et,not_eq_true→Pa,and_self→HX,and_comm→HY,true_or→CQ
open PySem.Obj renaming mapSeq→QR,data_mapFields→Kf,isFreed_of_fields→RB,cls_mapFields→Ds,mapFields→Cr
open Option.some renaming inj→QT
open Classical renaming byContradiction→Ja,choose→Kl,choose_spec→Lq
open PySem.PassesOwn renaming never→Jf
open PySem.Builtin.SmallTypes renaming nextOf→Jq,ownedTupleIsFree→Vn,ownedTupleHandOut→Kc
open Int renaming emod_lt_of_pos→JB,emod_nonneg→JT,mul_le_mul_of_nonneg_left→Vs,le_refl→Ww,zero_add→Wy,mul_comm→Yk,toNat_natCast→YM,mul_le_mul_of_nonneg_right→Ui,mul_zero→UJ,mul_nonneg→Kh,add_mul→Ky,le_trans→Gp,toNat_of_nonneg→El,not_lt→Bl,one_mul→Mq,mul_one→Mr,mul_neg→Ms,mul_add→Mt,natCast_mul→Lb,mul_assoc→Tv,zero_mul→Rv,sub_self→SN,pow_succ→SQ,le_of_eq→SX,add_zero→Fb,sub_mul→Fz
open PySem.Builtin.List renaming listExtendWith→JZ,listTooLong→WT,listLengthHint→Es,listSameRef→Bq,listTouch→FN
open List.cons renaming inj→Vf
open PySem.Builtin.Tuple renaming tupleExact→Vk,tupleCompareSizes→Gv,tupleTooMany→Eo,tupleItemsOf→Ep,tupleIsExact→Fe
open PySem.Str renaming ofString→Vp,empty→TJ
open MonadState renaming get→Vv
open PySem.F renaming slot_dict_keyiterator_next→Vw,args_tuple_add_2→Yh,slot_tuple_iterator_next→Yl,entry_tuple_add→Yp,slot_tuple_add→Yv,slot_int_rmul→Yx,plainAttrs_list→Ks,plain_sum_loop→Gq,slot_zip_next→GF,args_int_rmul_2→Mj,slot_list_extend→MK,slot_int_index→Ld,entry_int_rmul→Le,args_dict_keyiterator_next_1→Lf,slot_tuple_rmul→Lh,args_tuple_lt_2→Li,entry_dict_keyiterator_next→Lp,slot_tuple_mul→Lx,entry_tuple_lt→Ly,fills_int_mul→Lz,args_tuple_iterator_next_1→LC,slot_tuple_lt→Td,entry_tuple_iterator_next→Ti,called_tuple→Tw,args_tuple_mul_2→PN,plain_tuple_new→Hl,plain_list_iadd→Hm,entry_tuple_mul→Hn,args_zip_next_1→Ho,args_list_mul_2→Hq,slot_dict_iter→HQ,entry_zip_next→HR,entry_sum_loop→HS,entry_list_mul→HW,slot_list_mul→CP
open PySem.Around renaming under_plainId→VJ,in1_units→Br
open False renaming elim→We
open Ne renaming symm→Wf
open PySem.Builtin.Slice renaming slicePlaces→WD,sliceAdjust→Uj,sliceApplied→Er,slicePartIndex→Ff,sliceFields→Fg
open PySem.Builtin.Range renaming rangeSize→WY,small→KQ
open PySem.AutoSeq1 renaming sub_tuple_tuple→Yg,idx_int→RM
open PySem.SeqAt.ReadsAll renaming length→Yo
open PySem.Heap.SameBut renaming update→YQ
open PyProof.Rows.SortSt renaming mk'→YW
open PySem.Challenge renaming rw_sandyard_k21_whole_lasting→Um,pw_sandyard_k21_whole_lasting→HF
open Function renaming comp→Ka
open PySem.Calls renaming call_function_entry→Km,spliced_cons→Em,spliced_nil→Bm,Name_function_global→Lg,callWith_builtin→Tz
open PySem.Paired renaming length→Kp,snoc→HH
open Array.Perm renaming refl→Kv
open PySem.Builtin.Dict_items renaming ownsTuple→Gh
open PySem.AutoListH renaming list___mul___list_int_3→GJ
open ForIn renaming forIn→Ba
open PySem.Builtin.Dict renaming showsAll→Ml,dictSlotNone→FP
open List.Perm renaming append_left→Lk
open LawfulBEq renaming eq_of_beq→Ls
open PyProof.Rows.IsTup renaming new→Th
open PySem.IsRange renaming new→Tu
open Prod renaming ext→Rz
open PySem.Code renaming quiet_builtin→Ny
open Iff renaming rfl→DX
open PySem.Shared renaming TypeIs→Px,heap→Hz
open PySem.Value renaming isStrOf→PX,isInt→Cq
open PyProof.Rows.LSm renaming range_all→Ha,kept_iter→Hb
open PySem.Builtin.Builtins renaming bindParams→Hr
open PySem.W.WShape renaming has→Cp
open PySem.Heap.IsSliceOf renaming new→CN
open List.Pairwise renaming map→SM
open PySem.PyData.tuple renaming inj→Fv
open PySem.Heap.IsTuple renaming push→FJ
namespace aT
theorem a (h:True:=by first | exact Or.inl rfl | exact Or.inr rfl | exact Or.inr (Or.inl rfl) | exact Or.inr (Or.inr rfl) | assumption):True:=trivial
theorem b (h:True:=by decide +kernel):True:=trivial
theorem c (h:True:=by rfl):True:=trivial
theorem d (h:True:=by intros;rfl):True:=trivial
theorem e (h:True:=by exact yH rfl):True:=trivial
end aT
open aT renaming a._auto_1→aTa,b._auto_1→aTb,c._auto_1→aTc,d._auto_1→aTd,e._auto_1→aTe
namespace HT
noncomputable def lexLt:List Int→List Int→Bool
 | [],[]=>false
 | [],_::_=>true
 | _::_,[]=>false
 | x::xs,y::ys=>if x=y then lexLt xs ys else decide (x<y)
noncomputable def sIx (n d:Nat):Option Int→Nat
 | none=>d
 | some v=>if v<0 then(v+(n:Int)).toNat else min v.toNat n
end HT
namespace L2
open PySem
noncomputable abbrev Key:=Sum Int Str
noncomputable def CMul (i j:Int):Prop:=(-(2^64)<i∧i<2^64)∨(-(2^64)<j∧j<2^64)
noncomputable def CPow (i j:Int):Prop:=0≤j∧j≤1000000∧i.natAbs<2^64
noncomputable def ixN (n:Nat) (i:Int):Option Nat:=if 0≤i then(if i<n then some i.toNat else none) else if -(n:Int)≤i then some (i+n).toNat else none
noncomputable def atI {α:Type}(xs:List α) (i:Int):Option α:=(ixN xs.length i).bind fun j=>xs[j]?
end L2
namespace L2.Y
open PySem
noncomputable abbrev D:=Zm
noncomputable def keyD:Key→D
 | .inl i=>.int i
 | .inr x=>.str x
noncomputable def xA (ks:List Key):D:=.tuple (ks.map keyD)
inductive En where
 | val (d:D)
 | own (d:D)
noncomputable abbrev Env':=List (Option En)
noncomputable def gVar (i:Nat):Env'→Option D:=fun ρ=>match ρ[i]? with
 | some (some (.val d))=>some d
 | _=>none
noncomputable def xm (i:Nat):Env'→Option D:=fun ρ=>match ρ[i]? with
 | some (some (.val d))=>some d
 | some (some (.own d))=>some d
 | _=>none
noncomputable def g2 (h:D→D→Option D) (ga gb:Env'→Option D):Env'→Option D:=fun ρ=>(ga ρ).bind fun x=>(gb ρ).bind fun y=>h x y
noncomputable def g1 (h:D→Option D) (ga:Env'→Option D):Env'→Option D:=fun ρ=>(ga ρ).bind h
noncomputable def gA (h:List D→Option D) (ga:Env'→Option (List D)):Env'→Option D:=fun ρ=>(ga ρ).bind h
noncomputable def gNil:Env'→Option (List D):=fun _=>some []
noncomputable def zc (ga:Env'→Option D) (gr:Env'→Option (List D)):Env'→Option (List D):=fun ρ=>(ga ρ).bind fun x=>(gr ρ).bind fun xs=>some (x::xs)
noncomputable def tupD (ds:List D):Option D:=if ds.length≤Zu then some (.tuple ds) else none
noncomputable def gLst (g:Env'→Option (List D)):Env'→Option (List D):=fun ρ=>(g ρ).bind fun ds=>if ds.length≤Zu then some ds else none
noncomputable def frz (i:Nat) (ρ:Env'):Env':=match ρ[i]? with
 | some (some (.own d))=>ρ.set i (some (.val d))
 | _=>ρ
inductive Out where
 | nxt (ρ:Env')
 | ret (d:D)
 | brk (ρ:Env')
 | cnt (ρ:Env')
noncomputable abbrev GS:=Env'→Option Out
noncomputable def sNil:GS:=fun ρ=>some (.nxt ρ)
noncomputable def sSeq (g h:GS):GS:=fun ρ=>(g ρ).bind fun
 | .nxt ρ'=>h ρ'
 | o=>some o
noncomputable abbrev GT:=D→Env'→Option Env'
noncomputable def hName (i:Nat):GT:=fun d ρ=>some (ρ.set i (some (.val d)))
noncomputable def hNil:List D→Env'→Option Env':=fun ds ρ=>match ds with
 | []=>some ρ
 | _=>none
noncomputable def zQ (h:GT) (k:List D→Env'→Option Env'):List D→Env'→Option Env':=fun ds ρ=>match ds with
 | d::r=>(h d ρ).bind fun ρ'=>k r ρ'
 | []=>none
noncomputable def hTup (n:Nat) (k:List D→Env'→Option Env'):GT:=fun d ρ=>match d with
 | .tuple ds=>if ds.length=n then k ds ρ else none
 | _=>none
noncomputable def sAsg (h:GT) (ge:Env'→Option D):GS:=fun ρ=>(ge ρ).bind fun d=>(h d ρ).map Out.nxt
noncomputable def sOwn (i:Nat) (ge:Env'→Option (List D)):GS:=fun ρ=>(ge ρ).map fun ds=>Out.nxt (ρ.set i (some (.own (.list ds))))
noncomputable def zjo:D→Option Bool
 | .none=>some false
 | .bool b=>some b
 | .int i=>some (i != 0)
 | .str y=>if y.length≤Zu then some ((y.length:Int) != 0) else none
 | .list ds=>some (!ds.isEmpty)
 | .tuple ds=>some (!ds.isEmpty)
 | .dict _=>none
noncomputable def gTr (g:Env'→Option D):Env'→Option Bool:=fun ρ=>(g ρ).bind zjo
noncomputable def za7:D→Option Bool
 | .bool b=>some b
 | _=>none
noncomputable def gBo (g:Env'→Option D):Env'→Option Bool:=fun ρ=>(g ρ).bind za7
noncomputable def zdY (g h:Env'→Option Bool):Env'→Option Bool:=fun ρ=>(g ρ).bind fun b=>if b then h ρ else some false
noncomputable def zfl (g:Env'→Option Bool):Env'→Option Bool:=fun ρ=>(g ρ).map fun b=>!b
noncomputable def zcd (g h:Env'→Option D):Env'→Option D:=fun ρ=>(gBo g ρ).bind fun b=>if b then h ρ else some (.bool false)
noncomputable def zfm (g:Env'→Option D):Env'→Option D:=fun ρ=>(gBo g ρ).map fun b=>.bool !b
noncomputable def gIf (c:Env'→Option Bool) (g h:Env'→Option D):Env'→Option D:=fun ρ=>(c ρ).bind fun b=>if b then g ρ else h ρ
noncomputable def sIf (c:Env'→Option Bool) (g h:GS):GS:=fun ρ=>(c ρ).bind fun b=>if b then g ρ else h ρ
noncomputable def zA (lo:Int) (n:Nat):List D:=(ZJ n).map fun(i:Nat)=>Zm.int (lo+i)
noncomputable def seqD:D→Option (List D)
 | .tuple ds=>some ds
 | .list ds=>some ds
 | _=>none
noncomputable def gIt (f:D→Option (List D)) (g:Env'→Option D):Env'→Option (List D):=fun ρ=>(g ρ).bind f
noncomputable def qH (ds:List D):Option (List D):=match ds with
 | [.int j]=>if -(2^62)≤j∧j<2^62 then some (zA 0 j.toNat) else none
 | _=>none
noncomputable def qZ (ds:List D):Option (List D):=match ds with
 | [.int i,.int j]=>if -(2^62)≤i∧i<2^62∧-(2^62)≤j∧j<2^62 then some (zA i (j-i).toNat) else none
 | _=>none
noncomputable def gItA (f:List D→Option (List D)) (g:Env'→Option (List D)):Env'→Option (List D):=fun ρ=>(g ρ).bind f
noncomputable def forF (h:GT) (gb:GS):List D→Env'→Option Out
 | [],ρ=>some (.nxt ρ)
 | d::ds,ρ=>(h d ρ).bind fun ρ1=>(gb ρ1).bind fun
  | .nxt ρ2=>forF h gb ds ρ2
  | .cnt ρ2=>forF h gb ds ρ2
  | .brk ρ2=>some (.nxt ρ2)
  | .ret d=>some (.ret d)
noncomputable def sFor (g:Env'→Option (List D)) (h:GT) (gb:GS):GS:=fun ρ=>(g ρ).bind fun ds=>forF h gb ds ρ
noncomputable def jT (c:Env'→Option Bool) (gb:GS):Nat→Env'→Option Out
 | 0,_=>none
 | n+1,ρ=>(c ρ).bind fun b=>if b then(gb ρ).bind fun
  | .nxt ρ2=>jT c gb n ρ2
  | .cnt ρ2=>jT c gb n ρ2
  | .brk ρ2=>some (.nxt ρ2)
  | .ret d=>some (.ret d) else some (.nxt ρ)
open Classical in
noncomputable def yi (c:Env'→Option Bool) (gb:GS):GS:=fun ρ=>if h:∃n o,jT c gb n ρ=some o then some h.choose_spec.choose else none
noncomputable def ownL (i:Nat) (ρ:Env'):Option (List D):=match ρ[i]? with
 | some (some (.own (.list ds)))=>some ds
 | _=>none
noncomputable def sApp (i:Nat) (ge:Env'→Option D):GS:=fun ρ=>(ge ρ).bind fun d=>(ownL i ρ).bind fun ds=>if ds.length<Zu then some (.nxt (ρ.set i (some (.own (.list (ds++[d])))))) else none
noncomputable def eqD (a b:D):Option D:=if ZQ a&&ZQ b then some (.bool (ZP a b)) else none
noncomputable def neD (a b:D):Option D:=if ZQ a&&ZQ b then some (.bool (!PyData.eqv a b)) else none
noncomputable def keyQ:D→Option Key
 | .int i=>some (.inl i)
 | .str x=>some (.inr x)
 | _=>none
noncomputable def zd3:D→Option (List Key)
 | .tuple ds=>ds.mapM keyQ
 | _=>none
noncomputable def yF (kds:List (D×D)) (x:D):Option D:=(kds.find? fun p=>ZP p.1 x).map (·.2)
noncomputable def putD (kds:List (D×D)) (x y:D):List (D×D):=if(kds.any fun p=>ZP p.1 x)=true then kds.map (fun p=>if ZP p.1 x=true then(p.1,y) else p) else kds++[(x,y)]
noncomputable def hasD (x:D):D→Option Bool
 | .list ds=>if(ds.all ZQ&&ZQ x)=true then some (ds.any fun y=>ZP y x) else none
 | .tuple ds=>if(ds.all ZQ&&ZQ x)=true then some (ds.any fun y=>ZP y x) else none
 | _=>none
noncomputable def inD (x c:D):Option D:=(hasD x c).map Zm.bool
noncomputable def yN (x c:D):Option D:=(hasD x c).map fun b=>Zm.bool !b
noncomputable def wZ (f:Int→Int→Option D):D→D→Option D
 | .int i,.int j=>f i j
 | _,_=>none
noncomputable def subD:=wZ fun i j=>some (.int (i-j))
noncomputable def zhu:=wZ fun i j=>if 0<j∧j<1073741824 then some (.int (i / j)) else none
noncomputable def modD:=wZ fun i j=>if 0<j then some (.int (i%j)) else none
instance (i j:Int):Decidable (CMul i j):=by unfold CMul;exact inferInstance
instance (i j:Int):Decidable (CPow i j):=by unfold CPow;exact inferInstance
noncomputable def mulI (i j:Int):Option D:=if CMul i j then some (.int (i*j)) else none
noncomputable def repD (ds:List D) (k:Int):Option (List D):=if -(2^63)≤k∧k<2^63∧ds.length*k.toNat≤Zu then some (Qv k.toNat ds).flatten else none
noncomputable def addD:D→D→Option D
 | .int i,.int j=>some (.int (i+j))
 | .tuple xs,.tuple ys=>if xs.length+ys.length≤Zu then some (.tuple (xs++ys)) else none
 | .list xs,.list ys=>if xs.length+ys.length≤Zu then some (.list (xs++ys)) else none
 | _,_=>none
noncomputable def wR (ds:List D):Option (List Int):=ds.mapM fun
 | .int i=>some i
 | _=>none
noncomputable def ltD:=wZ fun i j=>some (.bool (decide (i<j)))
noncomputable def geD:=wZ fun i j=>some (.bool (decide (j≤i)))
noncomputable def leD:=wZ fun i j=>some (.bool (decide (i≤j)))
noncomputable def gtD:=wZ fun i j=>some (.bool (decide (j<i)))
noncomputable def ixD:D→D→Option D
 | .tuple ds,.int i=>atI ds i
 | .list ds,.int i=>atI ds i
 | _,_=>none
noncomputable def lenD:List D→Option D
 | [.tuple ds]=>some (.int ds.length)
 | [.list ds]=>some (.int ds.length)
 | _=>none
noncomputable def minD:List D→Option D
 | [.int i,.int j]=>some (.int (if j<i then j else i))
 | _=>none
noncomputable def maxD:List D→Option D
 | [.int i,.int j]=>some (.int (if j>i then j else i))
 | _=>none
noncomputable def qt:List D→Option D
 | [.tuple ds]=>some (.tuple ds)
 | [.list ds]=>some (.tuple ds)
 | _=>none
noncomputable def zhU:List D→Option (List D)
 | [.tuple ds]=>some ds
 | [.list ds]=>some ds
 | _=>none
noncomputable def gItL (h:List D→Option (List D)) (g:Env'→Option (List D)):Env'→Option (List D):=fun ρ=>(g ρ).bind h
noncomputable def capS {α:Type}(n:Nat) (caps:List Nat) (σ:List (Option α)):List (Option α):=Qv n none++caps.map fun j=>(σ[j]?).join
noncomputable def qv (h:GT) (gt:Env'→Option Bool) (ge:Env'→Option D) (ρ:Env'):List D→Option (List D)
 | []=>some []
 | d::ds=>(h d ρ).bind fun ρ1=>(gt ρ1).bind fun b=>if b then(ge ρ1).bind fun y=>(qv h gt ge ρ ds).map (y :: ·) else qv h gt ge ρ ds
noncomputable def jX (n:Nat) (caps:List Nat) (gi:Env'→Option (List D)) (h:GT) (gt:Env'→Option Bool) (ge:Env'→Option D):Env'→Option (List D):=fun ρ=>(gi ρ).bind fun ds=>if ds.length≤Zu then qv h gt ge (capS n caps ρ) ds else none
noncomputable def zeg (i:Nat) (gi ge:Env'→Option D):GS:=fun ρ=>(ge ρ).bind fun d=>(gi ρ).bind fun k=>match k with
 | .int j=>(ownL i ρ).bind fun ds=>(ixN ds.length j).bind fun n=>some (.nxt (ρ.set i (some (.own (.list (ds.set n d))))))
 | _=>none
noncomputable def wb (n:Nat) (ds:List D):Env':=ds.map (fun d=>some (.val d))++Qv (n-ds.length) none
noncomputable def jD (n:Nat) (g:GS) (ds:List D):Option D:=(g (wb n ds)).bind fun
 | .ret d=>some d
 | .nxt _=>some .none
 | _=>none
noncomputable def zH (n:Nat) (f:List D→Option D):List D→Option D:=fun ds=>if ds.length=n then f ds else none
noncomputable def zfz:D→Bool
 | .bool _=>true
 | .int _=>true
 | _=>false
noncomputable def zcg:D→Bool
 | .bool _=>true
 | _=>false
noncomputable def isI (f:D→Bool):D→Option D
 | .dict _=>none
 | d=>some (.bool (f d))
noncomputable def sumD:List D→Option D
 | [.list ds]=>(wR ds).map fun is=>.int is.sum
 | [.tuple ds]=>(wR ds).map fun is=>.int is.sum
 | _=>none
noncomputable def kM (ds:List D):Option (List Bool):=ds.mapM za7
noncomputable def allD:List D→Option D
 | [.list ds]=>(kM ds).map fun bs=>.bool (bs.all id)
 | _=>none
noncomputable def cutD (ds:List D) (lo hi:Option Int):List D:=(ds.drop (HT.sIx ds.length 0 lo)).take (HT.sIx ds.length ds.length hi-HT.sIx ds.length 0 lo)
noncomputable abbrev GO:=Env'→Option (Option Int)
noncomputable def qU:GO:=fun _=>some none
noncomputable def qF (g:Env'→Option D):GO:=fun ρ=>(g ρ).bind fun
 | .int i=>some (some i)
 | _=>none
noncomputable def slD (d:D) (lo hi:Option Int):Option D:=match d with
 | .tuple ds=>some (.tuple (cutD ds lo hi))
 | .list ds=>some (.list (cutD ds lo hi))
 | _=>none
noncomputable def gSl (ga:Env'→Option D) (gl gh:GO):Env'→Option D:=fun ρ=>(ga ρ).bind fun d=>(gl ρ).bind fun lo=>(gh ρ).bind fun hi=>slD d lo hi
noncomputable def xB:D→D→Option D
 | .int i,.int j=>mulI i j
 | .list ds,.int k=>(repD ds k).map Zm.list
 | .tuple ds,.int k=>if 0<k then(repD ds k).map Zm.tuple else none
 | _,_=>none
noncomputable def tabT:D→Option (List (D×D))
 | .dict ((.none,.none)::r)=>some r
 | .dict ((.none,.int _)::r)=>some r
 | _=>none
noncomputable def zhq (x c:D):Option D:=(tabT c).bind fun kds=>(zd3 x).bind fun _=>some (.bool !(yF kds x).isSome)
noncomputable def zhn (c x:D):Option D:=(tabT c).bind fun kds=>(zd3 x).bind fun _=>yF kds x
noncomputable def ownD (i:Nat) (ρ:Env'):Option D:=match ρ[i]? with
 | some (some (.own d))=>some d
 | _=>none
noncomputable def yS (i:Nat) (gk ge:Env'→Option D):GS:=fun ρ=>(ge ρ).bind fun d=>(gk ρ).bind fun key=>(ownD i ρ).bind fun dd=>(tabT dd).bind fun kds=>(zd3 key).bind fun _ =>
 if kds.length<Zu then some (.nxt (ρ.set i (some (.own (.dict ((.none,.none)::putD kds key d)))))) else none
noncomputable def zjh (i:Nat):GS:=fun ρ=>some (.nxt (ρ.set i (some (.own (.dict [(.none,.none)])))))
noncomputable def scrD (ds:List D):D:=.dict ((.none,.bool true)::ds.map fun d=>(.none,d))
noncomputable def scrQ:D→Option (List D)
 | .dict ((.none,.bool true)::r)=>some (r.map (·.2))
 | _=>none
noncomputable def ixS (c i:D):Option D:=(scrQ c).bind fun ds=>match i with
 | .int j=>atI ds j
 | _=>none
noncomputable def lenS:List D→Option D
 | [c]=>(scrQ c).map fun ds=>.int ds.length
 | _=>none
noncomputable def insL (x:List Int):List (List Int)→List (List Int)
 | []=>[x]
 | y::r=>if HT.lexLt y x=true then y::insL x r else x::y::r
noncomputable def qo:List (List Int)→List (List Int)
 | []=>[]
 | x::r=>insL x (qo r)
noncomputable def qp:D→Option (List Int)
 | .tuple ds=>(wR ds).bind fun is=>if is=[] then none else some is
 | _=>none
noncomputable def zgI (ds:List D):Option (List D):=(ds.mapM qp).bind fun ks=>if ks.length<64∧ks.Nodup then some ((qo ks).map fun k=>.tuple (k.map Zm.int)) else none
noncomputable def zaP:List D→Option (List D)
 | [.list ds]=>zgI ds
 | [.tuple ds]=>zgI ds
 | _=>none
noncomputable def frzT (i:Nat) (ρ:Env'):Env':=match ρ[i]? with
 | some (some (.own (.dict ((.none,.none)::r))))=>ρ.set i (some (.val (.dict ((.none,.int 0)::r))))
 | _=>ρ
noncomputable def ziY:D→Option (List D)
 | .dict ((.none,.int _)::r)=>some (r.map (·.1))
 | _=>none
noncomputable def zip2:List D→List D→List D
 | x::xs,y::ys=>.tuple [x,y]::zip2 xs ys
 | _,_=>[]
noncomputable def zcz (i:Nat) (ge:Env'→Option (List D)):GS:=fun ρ=>(ge ρ).map fun ds=>Out.nxt (ρ.set i (some (.val (.list ds))))
noncomputable def gK (d:D):Env'→Option D:=fun _=>some d
noncomputable def gLs (g:Env'→Option (List D)):Env'→Option D:=fun ρ=>(g ρ).map Zm.list
noncomputable def xy:Env'→Option Bool:=fun _=>some true
noncomputable def sRet (g:Env'→Option D):GS:=fun ρ=>(g ρ).map Out.ret
noncomputable def sFrz (i:Nat) (g:GS):GS:=fun ρ=>g (frz i ρ)
noncomputable def zml (i:Nat) (g:GS):GS:=fun ρ=>g (frzT i ρ)
noncomputable def sNo:GS:=fun _=>none
noncomputable def gF2 (h:D→D→Option (List D)) (ga gb:Env'→Option D):Env'→Option (List D):=fun ρ=>(ga ρ).bind fun x=>(gb ρ).bind fun y=>h x y
noncomputable def mulL:D→D→Option (List D)
 | .list ds,.int k=>repD ds k
 | _,_=>none
noncomputable def zipT:List D→Option (List D)
 | [.tuple ds,.tuple es]=>some (zip2 ds es)
 | _=>none
noncomputable def intOfD:List D→Option D
 | [.bool b]=>some (.int (if b then 1 else 0))
 | [.int i]=>some (.int i)
 | _=>none
noncomputable def zjT (g:Env'→Option (List D)):Env'→Option D:=fun ρ=>(g ρ).bind fun ds=>if ds.length≤Zu then some (.tuple ds) else none
noncomputable def zh9:D→Option (List Int)
 | .tuple [.int a,.int b]=>some [a,b]
 | _=>none
noncomputable def zau (m:Nat):D→Option (List Int)
 | .tuple [.tuple ps,.int w]=>if ps.length=m then(ps.mapM zh9).map fun ks=>ks.flatten++[w] else none
 | _=>none
noncomputable def prsD:List Int→List D
 | a::b::r=>.tuple [.int a,.int b]::prsD r
 | _=>[]
noncomputable def qu (k:List Int):D:=.tuple [.tuple (prsD k.dropLast),.int (k.getLast?.getD 0)]
noncomputable def ziA (m:Nat) (ds:List D):Option (List D):=(ds.mapM (zau m)).bind fun ks=>if ks.length<64∧ks.Nodup then some ((qo ks).map qu) else none
noncomputable def zaQ:List D→Option (List D)
 | [.list []]=>some []
 | [.list (.tuple [.tuple ps,.int w]::ds)]=>ziA ps.length (.tuple [.tuple ps,.int w]::ds)
 | _=>none
noncomputable def sExt (i:Nat) (ge:Env'→Option D):GS:=fun ρ=>(ge ρ).bind fun d=>match d with
 | .list es=>(ownL i ρ).bind fun ds=>if ds.length+es.length≤Zu then some (.nxt (ρ.set i (some (.own (.list (ds++es)))))) else none
 | _=>none
noncomputable def zcJ (ds:List D):Option (List (List D)):=ds.mapM fun
 | .tuple es=>some es
 | _=>none
noncomputable def zgO:List D→Option D
 | [.tuple ds]=>(zcJ ds).bind fun ls=>if ls.flatten.length≤Zu then some (.tuple ls.flatten) else none
 | _=>none
noncomputable def sPop (i j:Nat):GS:=fun ρ=>(ownL i ρ).bind fun ds=>match ds[ds.length-1]? with
 | some d=>some (.nxt ((ρ.set i (some (.own (.list ds.dropLast)))).set j (some (.val d))))
 | none=>none
noncomputable def zcy (i:Nat) (gk ge:Env'→Option D):GS:=fun ρ=>(gk ρ).bind fun key=>(ge ρ).bind fun d=>(zd3 key).bind fun _=>some (.nxt (ρ.set i (some (.own (.dict [(.none,.none),(key,d)])))))
open Classical in
noncomputable def kr:List D→Option (List D)
 | [d]=>(tabT d).bind fun kds=>((kds.map (·.1)).mapM qp).bind fun ks=>if ks.Nodup then some ((qo ks).map fun k=>.tuple (k.map Zm.int)) else none
 | _=>none
section
variable {prog:Qc}{w:QG}{A:QB}{E:Za→Zf→Prop}{s:Zf}{it t:Zh}{i:Nat}{xs:Array Za}{Q:Za→Zf→Prop}
theorem zaY {x:Za}(W:s.heap.IsTupleIter it t i) (T:s.heap.IsTuple t xs) (hx:xs[i]?=some x) (k:∀h',h'.IsTupleIter it t (i+1)→Gg it s.heap h'→Q x { s with heap:=h' }):ZF (model prog w) A (Jq (.ref it)) Q E s:=by
 obtain⟨ow,hw,hc,hd⟩:=id W;obtain⟨ot,ht,_,n,hdt⟩:=T;unfold Jq;refine Zc (JR (name:=Vp "__next__") W.typeIs Yl (JK Yl W.typeIs Ti ?_ (LC _)));show ZF _ _ (field (.ref it) 0 >>= _) _ _ s;refine Zc (Vg hw hd (x:=.ref t) rfl ?_);show ZF _ _ (if(Za.ref t == Za.none)=true then _ else _) _ _ s;rw[if_neg (by simp)];show ZF _ _ (field (.ref it) 1 >>= _) _ _ s;refine Zc (Vg hw hd (x:=.int i 0) rfl ?_);show ZF _ _ (Ng (.ref t) >>= _) _ _ s;refine Zc (Vu ht hdt ?_);simp only[YM,hx];refine Zc (Ez hw hd (by simp) (Zj ⟨x,rfl,Zj (k _ ⟨_,Vm _ hw (RB (Kf hd _)),(Ds ..).trans hc,?_⟩ (YQ ..))⟩));rw[Kf hd];simp[KJ]
theorem zdG (hh:A.handled=none) (W:s.heap.IsTupleIter it t i) (T:s.heap.IsTuple t xs) (hx:xs[i]?=none) (k:∀h' e,Fd it s.heap h'→(∃o,h'.get? e=some o∧o.cls=.type "StopIteration")→E (.ref e) { s with heap:=h' }):ZF (model prog w) A (Jq (.ref it)) Q E s:=by
 obtain⟨ow,hw,hc,hd⟩:=id W;obtain⟨ot,ht,_,n,hdt⟩:=T;unfold Jq;refine Zc (JR (name:=Vp "__next__") W.typeIs Yl (JK Yl W.typeIs Ti ?_ (LC _)));show ZF _ _ (field (.ref it) 0 >>= _) _ _ s;refine Zc (Vg hw hd (x:=.ref t) rfl ?_);show ZF _ _ (if(Za.ref t == Za.none)=true then _ else _) _ _ s;rw[if_neg (by simp)];show ZF _ _ (field (.ref it) 1 >>= _) _ _ s;refine Zc (Vg hw hd (x:=.int i 0) rfl ?_);show ZF _ _ (Ng (.ref t) >>= _) _ _ s;refine Zc (Vu ht hdt ?_);simp only[YM,hx];refine Zc (KC (Zc (Ez hw hd (by simp) ?_)));show ZF _ _ (newExc (.type "StopIteration") [] >>= _) _ _ _;refine Zc ?_;simp only[newExc,newTuple];refine Zc (Jo (Zc (m:=Bb _ _) (LQ (a:=Za.none) (by first | rfl | (simp only[Bb];rfl)) (Jo ?_ (by size_fits)))) (by size_fits));simp only[raiseNew];refine Zc (wpAny_handled ?_)
 first | rw[show A.in1.handled=none from hh] | rw[hh]
 exact Zc (Zj (wpAny_throw (k _ _ (((YQ ..).extBut.push _).push _) ⟨_,Zy _ rfl,rfl⟩)))
end
end L2.Y
namespace L2
open PySem PySem.Spec PyProof.Rows
theorem xe3 {α:Type}{A B:α→Prop}{P:Prop}(f:∀a,A a→B a→P):(∃a,A a∧B a)→P:=by
 rintro⟨a,h1,h2⟩;exact f a h1 h2
theorem xe4 {α β:Type}{A B:α→β→Prop}{P:Prop}(f:∀a b,A a b→B a b→P):(∃a b,A a b∧B a b)→P:=by
 rintro⟨a,b,h1,h2⟩;exact f a b h1 h2
theorem xe5 {α β:Type}{A B C:α→β→Prop}{P:Prop}(f:∀a b,A a b→B a b→C a b→P):(∃a b,A a b∧B a b∧C a b)→P:=by
 rintro⟨a,b,h1,h2,h3⟩;exact f a b h1 h2 h3
noncomputable def zd2:Key→Za→Bool
 | .inl k,v=>Cq k v
 | .inr x,v=>PX x v
noncomputable def keyH (w:QG):Key→Int
 | .inl k=>hashInt k
 | .inr x=>hashStr w x
theorem jo:∀ {k:Key}{v:Za},zd2 k v=true→(∃i t,k=Sum.inl i∧v=Za.int i t)∨(∃x t,k=Sum.inr x∧v=Za.str x t)
 | .inl i,v,h=>by
  obtain⟨t,e⟩:=Value.isInt_shape (k:=i) (v:=v) h;exact .inl ⟨i,t,rfl,e⟩
 | .inr x,v,h=>by
  obtain⟨t,e⟩:=Value.isStrOf_shape (x:=x) (v:=v) h;exact .inr ⟨x,t,rfl,e⟩
theorem zfF (i:Int) (t:Tok):zd2 (.inl i) (.int i t)=true:=by simp[zd2,Cq]
theorem zfG (x:Str) (t:Tok):zd2 (.inr x) (.str x t)=true:=by simp[zd2,PX]
theorem zlz (a b:Int):decide ((Sum.inl a:Key)=Sum.inl b)=(a == b):=by
 by_cases e:a=b
 ·subst e;simp
 ·have h:¬(Sum.inl a:Key)=Sum.inl b:=fun q=>e (Sum.inl.inj q);rw[decide_eq_false h];exact(beq_eq_false_iff_ne.mpr e).symm
theorem zlC (a b:Str):decide ((Sum.inr a:Key)=Sum.inr b)=decide (a=b):=by
 by_cases e:a=b
 ·subst e;simp
 ·have h:¬(Sum.inr a:Key)=Sum.inr b:=fun q=>e (Sum.inr.inj q);rw[decide_eq_false h,decide_eq_false e]
theorem zlA (a:Int) (b:Str):decide ((Sum.inl a:Key)=Sum.inr b)=false:=decide_eq_false (fun q=>nomatch q)
theorem zlB (a:Str) (b:Int):decide ((Sum.inr a:Key)=Sum.inl b)=false:=decide_eq_false (fun q=>nomatch q)
noncomputable def jx (prog:Qc) (w:QG):PySem.KeyKind prog w Key where
 is:=zd2
 hash:=keyH w
 inj:=fun v a b ha hb=>by
  rcases jo ha with⟨i,t,rfl,rfl⟩ | ⟨x,t,rfl,rfl⟩
  ·rcases jo hb with⟨j,u,rfl,e⟩ | ⟨y,u,rfl,e⟩
   ·injection e with e1 _;rw[e1]
   ·exact nomatch e
  ·rcases jo hb with⟨j,u,rfl,e⟩ | ⟨y,u,rfl,e⟩
   ·exact nomatch e
   ·injection e with e1 _;rw[e1]
 byValue:=fun k v h=>by
  rcases jo h with⟨i,t,rfl,rfl⟩ | ⟨x,t,rfl,rfl⟩ <;> rfl
 pyHash:=fun hv h=>by
  rcases jo hv with⟨i,t,rfl,rfl⟩ | ⟨x,t,rfl,rfl⟩
  ·exact wpAny_pyHash_int h
  ·exact wpAny_pyHash_str h
 eqBool:=fun hu hv h=>by
  rcases jo hu with⟨i,t,rfl,rfl⟩ | ⟨x,t,rfl,rfl⟩
  ·rcases jo hv with⟨j,u,rfl,rfl⟩ | ⟨y,u,rfl,rfl⟩
   ·rw[zlz]at h;exact Lr h
   ·rw[zlA]at h;exact SeqAt.EqAt.int_str i t y u _ _ _ _ h
  ·rcases jo hv with⟨j,u,rfl,rfl⟩ | ⟨y,u,rfl,rfl⟩
   ·rw[zlB]at h;exact SeqAt.EqAt.str_int x t j u _ _ _ _ h
   ·rw[zlC]at h;exact wpAny_eqBool_str h
 «strs»:=fun k x t v h=>by
  rcases jo h with⟨i,u,rfl,e⟩ | ⟨y,u,rfl,e⟩
  ·exact nomatch e
  ·injection e with e1 _
   subst e1;cases v <;> rfl
theorem zcl (prog:Qc) (w:QG) (i:Int) (t:Tok):(jx prog w).is (.inl i) (.int i t)=true:=zfF i t
theorem zcm (prog:Qc) (w:QG) (x:Str) (t:Tok):(jx prog w).is (.inr x) (.str x t)=true:=zfG x t
inductive V where
 | non | bl (b:Bool) | int (i:Int) | str (x:Str) | byt (b:Array UInt8) | flt (b:UInt64) | ref (a:Zh) | ty (n:String)
 deriving DecidableEq
noncomputable def RelV:V→Za→Prop
 | .non,u=>u=Za.none
 | .bl b,u=>u=Za.bool b
 | .int i,u=>∃t,u=Za.int i t
 | .str x,u=>∃t,u=Za.str x t
 | .byt b,u=>∃t,u=Za.bytes b t
 | .flt b,u=>∃t,u=Za.float b t
 | .ref a,u=>u=Za.ref a
 | .ty n,u=>u=Za.type n
noncomputable abbrev Vals:List V→List Za→Prop:=GR RelV
theorem Vals.length {xs:List V}{us:List Za}(r:Vals xs us):xs.length=us.length:=Kp r
theorem Vals.get {xs:List V}{us:List Za}{i:Nat}{x:V}(r:Vals xs us):xs[i]?=some x→∃u,us[i]?=some u∧RelV x u:=by
 induction r generalizing i with
 | nil=>intro e;simp at e
 | cons r _ ih =>
  intro e;cases i with
  | zero=>simp at e;subst e;exact⟨_,rfl,r⟩
  | succ i =>
   obtain⟨u,h1,h2⟩:=ih (i:=i) (by simpa using e);exact⟨u,by simpa using h1,h2⟩
theorem Vals.set {x:V}{u:Za}(r:RelV x u):∀ {xs:List V}{us:List Za}(i:Nat),Vals xs us→Vals (xs.set i x) (us.set i u)
 | _,_,_,.nil=>.nil
 | _,_,0,.cons _ t=>.cons r t
 | _,_,i+1,.cons q t=>.cons q (Vals.set r i t)
theorem Vals.append {xs ys:List V}{us ws:List Za}(r:Vals xs us) (s:Vals ys ws):Vals (xs++ys) (us++ws):=by
 induction r with
 | nil=>exact s
 | cons r _ ih=>exact .cons r ih
theorem Vals.take:∀ {xs:List V}{us:List Za}(n:Nat),Vals xs us→Vals (xs.take n) (us.take n)
 | _,_,0,_=>.nil
 | _,_,_+1,.nil=>.nil
 | _,_,n+1,.cons r t=>.cons r (Vals.take n t)
theorem Vals.drop:∀ {xs:List V}{us:List Za}(n:Nat),Vals xs us→Vals (xs.drop n) (us.drop n)
 | _,_,0,r=>r
 | _,_,_+1,.nil=>.nil
 | _,_,n+1,.cons _ t=>Vals.drop n t
noncomputable def RelO:Option V→Option Za→Prop
 | some v,some u=>RelV v u
 | none,none=>True
 | _,_=>False
noncomputable def KV {κ:Type}:List (κ×V)→List (κ×Za)→Prop:=GR fun(p:κ×V) (q:κ×Za)=>p.1=q.1∧RelV p.2 q.2
noncomputable def kV:Key→V
 | .inl i=>.int i
 | .inr x=>.str x
inductive HO where
 /-- a list -/
 | lst (xs:List V)
 /-- a tuple (never changes) -/
 | tup (xs:List V)
 /-- a dict whose keys are ints and texts;one whose keys are tuples of ints and texts (the empty one is both) -/
 | dK (kvs:List (Key×V)) | dT (kvs:List (List Key×V))
 /-- a set of ints: its members,its size -/
 | set (S:Int→Bool) (n:Nat)
 /-- an instance of the class at C,its dict at dx,its attributes -/
 | ins (C dx:Zh) (fs:List (Str×V))
 /-- the dict of the instance at x -/
 | own (x:Zh)
 /-- the dict of an exception -/
 | xd (fs:List (Str×V))
 /-- a bound method,f of x -/
 | met (f x:Zh)
 /-- a range object lo,lo+1,.. below hi -/
 | rng (lo hi:Int)
 /-- a thing that is known to the object (the script;a dict while a loop walks it): read,never written while it is so -/
 | frz (o:Obj) (u:HO)
 /-- a code object's table -/
 | tbl (ps:Array Za)
 /-- any other thing,by what is true of its one object (a def of one's own: SetO a S n:=HO.ext fun h=>..) -/
 | ext (φ:Je→Prop)
noncomputable abbrev Hp:=Zh→Option HO
noncomputable def upd (H:Hp) (a:Zh) (o:HO):Hp:=fun b=>if b=a then some o else H b
theorem zR {H:Hp}{a:Zh}{o:HO}:upd H a o a=some o:=by unfold upd;rw[if_pos rfl]
theorem zu {H:Hp}{a b:Zh}{o:HO}(h:b≠a):upd H a o b=H b:=by unfold upd;rw[if_neg h]
theorem zka {H:Hp}{a b:Zh}{o u:HO}(h:H a=some o) (h' : H b=some u) (d:o≠u):a≠b:=by
 intro e;subst e;rw[h]at h';exact d (QT h')
theorem zJ {H:Hp}{a b:Zh}{o:HO}(h:H a=some o) (h' : H b=none):a≠b:=by
 intro e;subst e;rw[h]at h';cases h'
section
variable (P:Qc) (w:QG)
noncomputable def jA (H:Hp) (h:Je) (a:Zh):HO→Prop
 | .lst xs=>xs.length≤Zu∧∃(its:List Za) (n:Nat),Vals xs its∧h.get? a=some { cls:=.type "list",data:=.seq its.toArray n }
 | .tup xs=>xs.length≤Zu∧∃its:List Za,Vals xs its∧VP h a its.toArray
 | .dK kvs=>kvs.length≤Zu∧(a == Vq)=false∧∃vs,KV kvs vs∧h.DictOf (jx P w) a vs
 | .dT kvs=>kvs.length≤Zu∧(a == Vq)=false∧∃xs:List (List Key×Zh×Za),
   GR (fun(p:List Key×V) (q:List Key×Zh×Za)=>p.1=q.1∧H q.2.1=some (.tup (p.1.map kV))∧RelV p.2 q.2.2) kvs xs ∧
   ∃o es ep,h.get? a=some o∧o.ExactDict∧o.data=.dict es ep∧es.toList=xs.map (Hu (Kw (jx P w)))∧(xs.map (·.1)).Nodup
 | .set S n=>h.SetOf (intKind P w) a S n
 | .ins C dx fs=>H dx=some (.own a)∧fs.length≤1000∧dx≠a∧h.get? a=some (Bs C dx) ∧
   ∃mA,h.Ns1 dx mA∧(∀f,RelO (fs.lookup f) (mA f))∧HD mA (fs.map (·.1))
 | .own _=>∃o,h.get? a=some o
 | .xd fs=>∃mA,h.Ns1 a mA∧∀f,RelO (fs.lookup f) (mA f)
 | .rng lo hi=>∃t u v,h.get? a=some { cls:=.type "range",data:=.fields #[.int lo t,.int hi u,.int 1 v] }
 | .frz o u=>h.get? a=some o∧jA H h a u
 | .tbl ps=>h.get? a=some { cls:=.none,data:=.fields ps }
 | .met f x=>h.get? a=some (Ej (.ref f) (.ref x))
 | .ext φ=>φ h∧(∃o,h.get? a=some o)∧∀h1 h2:Je,φ h1→(∀o,h1.get? a=some o→h2.get? a=some o)→φ h2
noncomputable def HOk (H:Hp) (h:Je):Prop:=∀a o,H a=some o→jA P w H h a o
end
section
variable {P:Qc}{w:QG}{H H' : Hp}{h h' : Je}{a:Zh}{o:HO}
theorem jA.lt (x:jA P w H h a o):a<h.objs.size:=by
 cases o with
 | lst xs=>obtain⟨_,_,_,_,e⟩:=x;exact ZD e
 | tup xs=>obtain⟨_,_,_,p⟩:=x;exact p.lt
 | dK kvs=>obtain⟨_,_,_,_,o,_,_,e,_⟩:=x;exact ZD e
 | dT kvs=>obtain⟨_,_,_,_,o,_,_,e,_⟩:=x;exact ZD e
 | set S n=>obtain⟨o,_,_,_,e,_⟩:=x;exact ZD e
 | ins C dx fs=>obtain⟨_,_,_,e,_⟩:=x;exact ZD e
 | own y=>obtain⟨_,e⟩:=x;exact ZD e
 | xd fs=>obtain⟨_,⟨_,_,_,e,_⟩,_⟩:=x;exact ZD e
 | rng lo hi=>obtain⟨_,_,_,e⟩:=x;exact ZD e
 | frz ob u=>obtain⟨e,_⟩:=x;exact ZD e
 | tbl ps=>exact ZD (show h.get? a=some _ from x)
 | met f y=>exact ZD (show h.get? a=some _ from x)
 | ext φ=>obtain⟨_,⟨_,e⟩,_⟩:=x;exact ZD e
theorem GR.mapP {α β:Type}{F G:α→β→Prop}{l₁:List α}{l₂:List β}(r:GR F l₁ l₂) (f:∀a b,F a b→G a b):GR G l₁ l₂:=by
 induction r with
 | nil=>exact .nil
 | cons r _ ih=>exact .cons (f _ _ r) ih
theorem jA.stay (x:jA P w H h a o) (k:∀b u,(b=a∨H b=some (.own a))→h.get? b=some u→h'.get? b=some u)
  (ho:∀b,H b=some (.own a)→H' b=some (.own a)) (ht:∀b xs,H b=some (.tup xs)→H' b=some (.tup xs)):jA P w H' h' a o:=by
 induction o with
 | lst xs=>obtain⟨z,its,n,r,e⟩:=x;exact⟨z,its,n,r,k _ _ (.inl rfl) e⟩
 | tup xs=>obtain⟨z,its,r,ob,e,c⟩:=x;exact⟨z,its,r,ob,k _ _ (.inl rfl) e,c⟩
 | dK kvs=>obtain⟨z,y,vs,r,ob,es,ep,e,c⟩:=x;exact⟨z,y,vs,r,ob,es,ep,k _ _ (.inl rfl) e,c⟩
 | dT kvs =>
  obtain⟨z,y,xs,r,ob,es,ep,e,c⟩:=x;exact⟨z,y,xs,GR.mapP r fun p q z=>⟨z.1,ht _ _ z.2.1,z.2.2⟩,ob,es,ep,k _ _ (.inl rfl) e,c⟩
 | set S n=>obtain⟨ob,es,ep,t,e,c⟩:=x;exact⟨ob,es,ep,t,k _ _ (.inl rfl) e,c⟩
 | ins C dx fs =>
  obtain⟨d,z,ne,e,mA,⟨od,es,ep,e2,c⟩,r⟩:=x;exact⟨ho _ d,z,ne,k _ _ (.inl rfl) e,mA,⟨od,es,ep,k _ _ (.inr d) e2,c⟩,r⟩
 | own y=>obtain⟨ob,e⟩:=x;exact⟨ob,k _ _ (.inl rfl) e⟩
 | xd fs=>obtain⟨mA,⟨od,es,ep,e,c⟩,r⟩:=x;exact⟨mA,⟨od,es,ep,k _ _ (.inl rfl) e,c⟩,r⟩
 | rng lo hi=>obtain⟨t,u,v,e⟩:=x;exact⟨t,u,v,k _ _ (.inl rfl) e⟩
 | frz ob u ih=>obtain⟨e,q⟩:=x;exact⟨k _ _ (.inl rfl) e,ih q⟩
 | tbl ps =>
  have e:h.get? a=some { cls:=.none,data:=.fields ps }:=x;show h'.get? a=some { cls:=.none,data:=.fields ps };exact k a _ (.inl rfl) e
 | met f y =>
  have e:h.get? a=some (Ej (.ref f) (.ref y)):=x;show h'.get? a=some (Ej (.ref f) (.ref y));exact k a _ (.inl rfl) e
 | ext φ=>obtain⟨p,⟨o,e⟩,st⟩:=x;exact⟨st _ _ p fun o q=>k _ _ (.inl rfl) q,⟨o,k _ _ (.inl rfl) e⟩,st⟩
theorem HOk.lt (x:HOk P w H h) (e:H a=some o):a<h.objs.size:=(x a o e).lt
theorem HOk.fresh (x:HOk P w H h) (e:h.objs.size≤a):H a=none:=by
 cases q:H a with
 | none=>rfl
 | some u=>exact absurd (Zo (x.lt q) e) (Vc _)
theorem HOk.kept (x:HOk P w H h) (k:∀b u,h.get? b=some u→h'.get? b=some u):HOk P w H h':=fun a o e =>
 (x a o e).stay (fun b u _ q=>k b u q) (fun _ q=>q) fun _ _ q=>q
theorem HOk.laid (x:HOk P w H h) (k:∀b u,h.get? b=some u→h'.get? b=some u) (hp:h.objs.size≤a) (new:jA P w (upd H a o) h' a o):HOk P w (upd H a o) h':=fun b u e=>by
 have hn:=x.fresh hp
 by_cases hb:b=a
 ·subst hb;rw[zR]at e;cases e;exact new
 ·rw[zu hb]at e;exact(x b u e).stay (fun c v _ q=>k c v q) (fun c q=>by rw[zu (zJ q hn)];exact q) fun c xs q=>by rw[zu (zJ q hn)];exact q
end
noncomputable def Rd (H:Hp) (a:Zh) (u:HO):Prop:=H a=some u∨∃o,H a=some (.frz o u)
theorem Rd.of {H:Hp}{a:Zh}{u:HO}(h:H a=some u):Rd H a u:=.inl h
theorem Rd.ok {P:Qc}{w:QG}{H:Hp}{h:Je}{a:Zh}{u:HO}(r:Rd H a u) (x:HOk P w H h):jA P w H h a u:=by
 rcases r with r | ⟨o,r⟩
 ·exact x a u r
 ·obtain⟨_,q⟩:=x a _ r;exact q
noncomputable def Mut:Option HO→Prop
 | some (.lst _)=>True
 | some (.dK _)=>True
 | some (.dT _)=>True
 | some (.set _ _)=>True
 | some (.ins _ _ _)=>True
 | some (.ext _)=>True
 | _=>False
section
variable {P:Qc}{w:QG}{H:Hp}{h h' : Je}{x e:Zh}{o' : HO}
theorem HOk.write (ok:HOk P w H h) (mu:Mut (H x)) (he:e=x∨H e=some (.own x)) (k:∀b u,b≠e→h.get? b=some u→h'.get? b=some u) (heo:∃u,h'.get? e=some u)
  (new:jA P w (upd H x o') h' x o'):HOk P w (upd H x o') h':=fun b u q=>by
 have nown:∀c y,H c=some (.own y)→c≠x:=fun c y r z=>by subst z;rw[r]at mu;exact mu
 have ntup:∀c xs,H c=some (.tup xs)→c≠x:=fun c xs r z=>by subst z;rw[r]at mu;exact mu
 by_cases hb:b=x
 ·subst hb;rw[zR]at q;cases q;exact new
 ·rw[zu hb]at q
  by_cases hbe:b=e
  ·have q' : H b=some (.own x):=by
    rcases he with z | z
    ·exact absurd (hbe.trans z) hb
    ·rw[hbe];exact z
   rw[q]at q';cases q';obtain⟨v,hv⟩:=heo;exact⟨v,by rw[hbe];exact hv⟩
  ·refine(ok b u q).stay (fun c v hc r=>k c v ?_ r) (fun c r=>by rw[zu (nown c b r)];exact r) fun c xs r=>by rw[zu (ntup c xs r)];exact r
   rcases hc with rfl | hc
   ·exact hbe
   ·rintro rfl;rcases he with z | z
    ·exact nown c b hc z
    ·rw[hc]at z;cases z;exact hb rfl
end
structure Un (fs ex:List Zh) (H H' : Hp) (h h' : Je):Prop where
 keep:∀b o,h.get? b=some o→H b=none→b∉fs→b∉ex→h'.get? b=some o
 slot:∀b o,h.get? b=some o→H b=none→b∈fs→b∉ex→∃sl,h'.get? b=some { o with slots:=sl }
 free:∀b o,h.get? b=some o→H b=none→b∉ex→H' b=none
 there:∀b o,h.get? b=some o→b∉ex→∃o',h'.get? b=some o'
 tups:∀b xs,H b=some (.tup xs)→H' b=some (.tup xs)
 frzs:∀b o u,H b=some (.frz o u)→H' b=some (.frz o u)
 tbls:∀b ps,H b=some (.tbl ps)→∃more,H' b=some (.tbl (ps++more))
section
variable {fs fs' ex ex' : List Zh}{H H1 H2:Hp}{h h1 h2 h' : Je}{a x e:Zh}{o:HO}
theorem Un.any (u:Un fs ex H H1 h h1) {b:Zh}{ob:Obj}(q:h.get? b=some ob) (n:H b=none) (hx:b∉ex):∃sl,h1.get? b=some { ob with slots:=sl }:=by
 by_cases hb:b∈fs
 ·exact u.slot b ob q n hb hx
 ·exact⟨ob.slots,u.keep b ob q n hb hx⟩
theorem Un.trans (a:Un fs ex H H1 h h1) (b:Un fs ex H1 H2 h1 h2):Un fs ex H H2 h h2 where
 keep:=fun c ob q n hc hx=>b.keep c ob (a.keep c ob q n hc hx) (a.free c ob q n hx) hc hx
 slot:=fun c ob q n hc hx=>by
  obtain⟨sl,e1⟩:=a.slot c ob q n hc hx;obtain⟨sl',e2⟩:=b.slot c _ e1 (a.free c ob q n hx) hc hx;exact⟨sl',e2⟩
 free:=fun c ob q n hx=>by
  obtain⟨o',e1⟩:=a.there c ob q hx;exact b.free c o' e1 (a.free c ob q n hx) hx
 there:=fun c ob q hx=>by
  obtain⟨o',e1⟩:=a.there c ob q hx;exact b.there c o' e1 hx
 tups:=fun c xs q=>b.tups c xs (a.tups c xs q)
 frzs:=fun c ob xs q=>b.frzs c ob xs (a.frzs c ob xs q)
 tbls:=fun c ps q=>by
  obtain⟨m1,e1⟩:=a.tbls c ps q;obtain⟨m2,e2⟩:=b.tbls c _ e1;exact⟨m1++m2,by rw[e2,UT]⟩
theorem Un.kept (k:∀b u,h.get? b=some u→h'.get? b=some u):Un fs ex H H h h' :=
 ⟨fun b ob q _ _ _=>k b ob q,fun b ob q _ _ _=>⟨ob.slots,k b ob q⟩,fun _ _ _ n _=>n,fun b ob q _=>⟨ob,k b ob q⟩,fun _ _ q=>q,fun _ _ _ q=>q,fun _ ps q=>⟨#[],by rw[q];simp⟩⟩
theorem Un.refl:Un fs ex H H h h:=Un.kept fun _ _ q=>q
theorem Un.laid (k:∀b u,h.get? b=some u→h'.get? b=some u) (hp:h.objs.size≤a) (hn:H a=none):Un fs ex H (upd H a o) h h' where
 keep:=fun b u q _ _ _=>k b u q
 slot:=fun b u q _ _ _=>⟨u.slots,k b u q⟩
 free:=fun b u q n _=>by rw[zu (QD (Zo (ZD q) hp))];exact n
 there:=fun b u q _=>⟨u,k b u q⟩
 tups:=fun b xs q=>by rw[zu (zJ q hn)];exact q
 frzs:=fun b u xs q=>by rw[zu (zJ q hn)];exact q
 tbls:=fun b ps q=>⟨#[],by rw[zu (zJ q hn),q];simp⟩
theorem Un.write (mu:Mut (H x)) (he:e=x∨H e=some (.own x)) (k:∀b u,b≠e→h.get? b=some u→h'.get? b=some u) (heo:∃u,h'.get? e=some u):Un fs ex H (upd H x o) h h':=by
 have hx:∀b,H b=none→b≠x:=fun b n z=>by subst z;rw[n]at mu;exact mu
 have hb:∀b,H b=none→b≠e:=fun b n z=>by
  subst z;rcases he with r | r
  ·exact hx b n r
  ·rw[n]at r;cases r
 have hm:∀b u,H b=some u→¬Mut (some u)→b≠x:=fun b u q nm z=>by subst z;rw[q]at mu;exact nm mu
 refine⟨fun b u q n _ _=>k b u (hb b n) q,fun b u q n _ _=>⟨u.slots,k b u (hb b n) q⟩,fun b u q n _=>by rw[zu (hx b n)];exact n,fun b u q _ => ?_,
  fun b xs q=>by rw[zu (hm b _ q fun z=>z)];exact q,fun b u xs q=>by rw[zu (hm b _ q fun z=>z)];exact q,fun b ps q=>⟨#[],by rw[zu (hm b _ q fun z=>z),q];simp⟩⟩
 by_cases hbe:b=e
 ·subst hbe;exact heo
 ·exact⟨u,k b u hbe q⟩
theorem Un.mono (u:Un fs ex H H1 h h1) (hs:∀b∈fs,b∈fs') (hx:∀b∈ex,b∈ex'):Un fs' ex' H H1 h h1 :=
 ⟨fun b ob q n hb he=>u.keep b ob q n (fun z=>hb (hs b z)) fun z=>he (hx b z),fun _ _ q n _ he=>u.any q n fun z=>he (hx _ z),fun b ob q n he=>u.free b ob q n fun z=>he (hx b z),fun b ob q he=>u.there b ob q fun z=>he (hx b z),u.tups,u.frzs,u.tbls⟩
end
noncomputable def trk (h:Je) (H:Hp):List Zh:=(ZJ h.objs.size).filter fun a=>(H a).isSome
noncomputable def hidT (h:Je) (H:Hp):Je:=PySem.W.hideAll h (trk h H)
theorem zfu (h:Je) (H:Hp):(hidT h H).objs.size=h.objs.size:=PySem.W.hideAll_size _ _
theorem zhF {h:Je}{H:Hp}{b:Zh}{o:Obj}(e:h.get? b=some o) (n:H b=none):(hidT h H).get? b=some o :=
 PySem.W.hideAll_get _ e fun hm=>by
  have q:(H b).isSome=true:=(Qk.mp hm).2;rw[n]at q;simp at q
theorem zke {h:Je}{H:Hp}{b:Zh}{o:Obj}(e:(hidT h H).get? b=some o):h.get? b=some o∧H b=none:=by
 have e' : h.get? b=some o:=PySem.W.of_hideAll (trk h H) e;refine⟨e',?_⟩;cases q:H b with
 | none=>rfl
 | some x =>
  have hm:b∈trk h H:=Qk.mpr ⟨ZR.mpr (ZD e'),by simp[q]⟩;have z:(hidT h H).get? b=none:=PySem.W.hideAll_none (trk h H) hm;rw[z]at e;cases e
end L2
namespace L2
open PySem PySem.Spec PyProof.Rows
structure Mod (K:ZM) (mg:Str→Option Za) (base:Je):Prop where
 kin:K.In base
 glob:base.Ns ZL mg
 blt:∃mb,base.Ns Hw mb∧∀x:Str,x ≠ "__name__" → mb x=JX x
 nolimit:base.NoLimit
set_option genInjectivity false in
set_option genSizeOf false in
structure Cx where
 prog:Qc
 w:QG
 K:ZM
 mg:Str→Option Za
 base:Je
 A:QB
 N:List Str
 s₀:Zf
 H₀:Hp
 env:Env
 outer:List Env
 stack:List Env
 ex:List Zh
 fn:Str→Bool
 calm:Bool
 pn:List (Zh×Obj)
 xe:Za→Zf→Prop
noncomputable def frs (l:List Env):List Zh:=l.filterMap (·.frame)
noncomputable abbrev Cx.fs (X:Cx):List Zh:=frs X.outer
noncomputable def Vis (sc:Uz) (x:Str):Prop:=sc.names.lookup x=some .local ∨ sc.names.lookup x=some .cell∨sc.names.lookup x=some .free
noncomputable def Loc (sc:Uz) (x:Str):Prop:=sc.names.lookup x=some .local ∨ sc.names.lookup x=some .cell
noncomputable def Look (env:Env) (h:Je) (m:Str→Option Za) (x:Str) (u:Za):Prop :=
 (env.kindOf x=some .local∧m x=some u)∨((env.kindOf x=some .cell∨env.kindOf x=some .free)∧∃c,env.cells.lookup x=some c∧h.IsCell c (some u))
structure Cx.Ok (X:Cx):Prop where
 mod:Mod X.K X.mg X.base
 kind:X.env.scope.kind=.function
 glob:X.env.globals=ZL
 blt:X.env.builtins=Hw
 above:X.s₀.heap.objs.size≤X.env.locals
 inj:∀x y c,X.env.cells.lookup x=some c→X.env.cells.lookup y=some c→x=y
 has:∀x,(X.env.kindOf x=some .cell∨X.env.kindOf x=some .free)→∃c,X.env.cells.lookup x=some c
 cab:∀x c,X.fn x=true→X.env.cells.lookup x=some c→X.s₀.heap.objs.size≤c
 hd:X.calm=true→X.A.handled=none
 frames:X.A.frames=some X.stack
 stk:X.stack=X.outer∨(X.stack=X.env::X.outer∧X.env.frame=some X.env.locals)
 exf:∀b∈X.ex,b≠X.env.locals∧∀x c,X.env.cells.lookup x=some c→c≠b
 bs:∀b o,X.base.get? b=some o→X.s₀.heap.get? b=some o∧X.H₀ b=none
 bsz:X.base.objs.size≤X.s₀.heap.objs.size
 noex:∀b o,X.base.get? b=some o→b∉X.ex
 exfs:∀b∈X.ex,b∉X.fs
 funs:X.s₀.heap.FunFrames X.base X.outer
 frf:∀b∈X.fs,X.H₀ b=none
structure Inv (X:Cx) (pins:List (Zh×Obj)) (σ:List (Option V)) (H:Hp) (s:Zf):Prop where
 ok:X.Ok
 os:s.os=X.s₀.os
 bare:Ea s.gens
 base:Un X.fs X.ex X.H₀ H X.s₀.heap s.heap
 loc:∃m,s.heap.Ns X.env.locals m∧∀(i:Nat) (x:Str) (v:V),X.N[i]?=some x→σ[i]?=some (some v)→Vis X.env.scope x→∃u,RelV v u∧Look X.env s.heap m x u
 cell:∀x c,X.env.cells.lookup x=some c→∃v,s.heap.IsCell c v
 free:H X.env.locals=none
 freeC:∀x c,X.env.cells.lookup x=some c→H c=none
 pin:∀p∈X.pn++pins,s.heap.get? p.1=some p.2∧H p.1=none∧p.1≠X.env.locals∧p.1∉X.fs∧∀v,p.2.data≠.cell v
 hok:HOk X.prog X.w H s.heap
 len:σ.length=X.N.length
section
variable {X:Cx}{pins:List (Zh×Obj)}{σ:List (Option V)}{H H' : Hp}{s:Zf}{h' : Je}
theorem Cx.Ok.nofr (ok:X.Ok) {b:Zh}{o:Obj}(e:X.base.get? b=some o):b∉X.fs:=fun hb=>by
 have:=(ok.funs.mem hb).1;rw[e]at this;cases this
theorem Inv.bs (I:Inv X pins σ H s):∀b o,X.base.get? b=some o→s.heap.get? b=some o∧H b=none:=fun b o e =>
 ⟨I.base.keep b o (I.ok.bs b o e).1 (I.ok.bs b o e).2 (I.ok.nofr e) (I.ok.noex b o e),I.base.free b o (I.ok.bs b o e).1 (I.ok.bs b o e).2 (I.ok.noex b o e)⟩
theorem Inv.bk (I:Inv X pins σ H s):∀b o,X.base.get? b=some o→s.heap.get? b=some o:=fun b o e=>(I.bs b o e).1
theorem Inv.mod (I:Inv X pins σ H s):Mod X.K X.mg X.base:=I.ok.mod
theorem Inv.kIn (I:Inv X pins σ H s):X.K.In s.heap:=I.ok.mod.kin.keeps I.bk
theorem Inv.nolimit (I:Inv X pins σ H s):s.heap.NoLimit:=I.ok.mod.nolimit.keeps I.bk
theorem Inv.lt (I:Inv X pins σ H s):X.env.locals<s.heap.objs.size:=let ⟨_,hn,_⟩:=I.loc;hn.lt
theorem Inv.sz (I:Inv X pins σ H s):X.s₀.heap.objs.size≤s.heap.objs.size:=Zt I.ok.above (JL I.lt)
theorem Inv.nofs (I:Inv X pins σ H s) {a:Zh}(h:s.heap.objs.size≤a):a∉X.fs:=fun hb=>by
 obtain⟨_,o,ho,_⟩:=I.ok.funs.mem hb;exact absurd (Zo (ZD ho) (Zt I.sz h)) (Vc _)
theorem Inv.cne (I:Inv X pins σ H s):∀x c,X.env.cells.lookup x=some c→c≠X.env.locals:=fun x c e z=>by
 obtain⟨v,o,ho,hd⟩:=I.cell x c e;obtain⟨m,⟨o',es,ep,ho',hd',_⟩,_⟩:=I.loc;rw[z,ho']at ho;cases ho;rw[hd']at hd;cases hd
theorem Inv.funs (I:Inv X pins σ H s):s.heap.FunFrames X.base X.outer:=by
 have all:∀(l:List Env),(∀b∈frs l,b∈X.fs)→X.s₀.heap.FunFrames X.base l→s.heap.FunFrames X.base l:=by
  intro l
  induction l with
  | nil=>intro _ _;trivial
  | cons env r ih =>
   intro hs hl;obtain⟨hk,⟨L,o,hf,hn,ho,hd⟩,hr⟩:=hl;have hL:L∈X.fs:=hs L (by unfold frs;rw[Eh,hf];exact Zn);obtain⟨sl,e⟩:=I.base.slot L o ho (I.ok.frf L hL) hL fun z=>I.ok.exfs L z hL;exact⟨hk,⟨L,_,hf,hn,e,hd⟩,ih (fun b hb=>hs b (by unfold frs;rw[Eh,hf];exact Zq _ hb)) hr⟩
 exact all X.outer (fun _ hb=>hb) I.ok.funs
theorem Inv.stack (I:Inv X pins σ H s):s.heap.FunFrames X.base X.stack:=by
 rcases I.ok.stk with e | ⟨e,hf⟩
 ·rw[e];exact I.funs
 ·rw[e];obtain⟨m,hn,_⟩:=I.loc;refine .cons (by rw[I.ok.kind];decide) hf hn ?_ I.funs;exact Heap.get?_none_of_le (Zt I.ok.bsz I.ok.above)
theorem Inv.stkSub (I:Inv X pins σ H s):∀b∈frs X.stack,b∈X.env.locals::X.fs:=fun b hb=>by
 rcases I.ok.stk with e | ⟨e,hf⟩
 ·rw[e]at hb;exact Zq _ hb
 ·rw[e]at hb;unfold frs at hb;rw[Eh,hf]at hb;exact hb
theorem Inv.stkFree (I:Inv X pins σ H s):∀b∈frs X.stack,H b=none:=fun b hb=>by
 rcases ZS.mp (I.stkSub b hb) with e | hb
 ·rw[e];exact I.free
 ·obtain⟨_,o,ho,_⟩:=I.ok.funs.mem hb;exact I.base.free b o ho (I.ok.frf b hb) fun z=>I.ok.exfs b z hb
theorem Inv.step {g' : Array PL}{t' : Nat}{d' : Drawn}{ch:List Zh}(I:Inv X pins σ H s)
  (hch:∀b∈ch,(b∈X.ex∨X.s₀.heap.objs.size≤b)∧b≠X.env.locals∧(∀x c,X.env.cells.lookup x=some c→c≠b)∧∀p∈X.pn++pins,p.1≠b)
  (keep:∀b o,b≠X.env.locals→b∉X.fs→b∉ch→s.heap.get? b=some o→H b=none→h'.get? b=some o)
  (slot:∀b o,b≠X.env.locals→b∈X.fs→b∉ch→s.heap.get? b=some o→H b=none→∃sl,h'.get? b=some { o with slots:=sl }) (free:∀b o,b∉ch→s.heap.get? b=some o→H b=none→H' b=none)
  (there:∀b o,b∉ch→s.heap.get? b=some o→∃o',h'.get? b=some o')
  (tups:∀b xs,H b=some (.tup xs)→H' b=some (.tup xs)) (frzs:∀b o u,H b=some (.frz o u)→H' b=some (.frz o u)) (tbls:∀b ps,H b=some (.tbl ps)→∃more,H' b=some (.tbl (ps++more)))
  (ns:∀m,s.heap.Ns X.env.locals m→h'.Ns X.env.locals m) (hok:HOk X.prog X.w H' h') (hg:Ea g') :
  Inv X pins σ H' { s with heap:=h',gens:=g',drawn:=d',toks:=t' }:=by
 have neL:∀b o,X.s₀.heap.get? b=some o→b≠X.env.locals:=fun b o e=>QD (Zo (ZD e) I.ok.above);have neC:∀b o,X.s₀.heap.get? b=some o→b∉X.ex→b∉ch:=fun b o e hx hb=>by
  rcases (hch b hb).1 with z | z
  ·exact hx z
  ·exact absurd (Zo (ZD e) z) (Vc _)
 have cellK:∀x c,X.env.cells.lookup x=some c→∀v,s.heap.IsCell c v→h'.IsCell c v:=fun x c e v hZq=>by
  obtain⟨o,ho,hd⟩:=hZq;have nch:c∉ch:=fun z=>(hch c z).2.2.1 x c e rfl
  by_cases hc:c∈X.fs
  ·obtain⟨sl,q⟩:=slot c o (I.cne x c e) hc nch ho (I.freeC x c e);exact⟨_,q,hd⟩
  ·exact⟨o,keep c o (I.cne x c e) hc nch ho (I.freeC x c e),hd⟩
 refine⟨I.ok,I.os,hg,⟨fun b o e n hb hx => ?_,fun b o e n hb hx => ?_,fun b o e n hx => ?_,fun b o e hx => ?_,fun b xs e=>tups b xs (I.base.tups b xs e),fun b o xs e=>frzs b o xs (I.base.frzs b o xs e),fun b ps e => ?_⟩,?_,fun x c e => ?_,?_,fun x c e => ?_,fun p hp => ?_,hok,I.len⟩
 ·exact keep b o (neL b o e) hb (neC b o e hx) (I.base.keep b o e n hb hx) (I.base.free b o e n hx)
 ·obtain⟨sl,e1⟩:=I.base.slot b o e n hb hx;obtain⟨sl',e2⟩:=slot b _ (neL b o e) hb (neC b o e hx) e1 (I.base.free b o e n hx);exact⟨sl',e2⟩
 ·obtain⟨o',e1⟩:=I.base.there b o e hx;exact free b o' (neC b o e hx) e1 (I.base.free b o e n hx)
 ·obtain⟨o',e1⟩:=I.base.there b o e hx;exact there b o' (neC b o e hx) e1
 ·obtain⟨m1,e1⟩:=I.base.tbls b ps e;obtain⟨m2,e2⟩:=tbls b _ e1;exact⟨m1++m2,by rw[e2,UT]⟩
 ·obtain⟨m,hn,hl⟩:=I.loc;refine⟨m,ns m hn,fun i x v e1 e2 e3 => ?_⟩;obtain⟨u,r,l⟩:=hl i x v e1 e2 e3;refine⟨u,r,?_⟩;rcases l with l | ⟨k,c,e,z⟩
  ·exact .inl l
  ·exact .inr ⟨k,c,e,cellK x c e _ z⟩
 ·obtain⟨v,z⟩:=I.cell x c e;exact⟨v,cellK x c e v z⟩
 ·obtain⟨m,⟨o,_,_,ho,_⟩,_⟩:=I.loc;exact free _ o (fun z=>(hch _ z).2.1 rfl) ho I.free
 ·obtain⟨v,o,ho,hd⟩:=I.cell x c e;exact free c o (fun z=>(hch c z).2.2.1 x c e rfl) ho (I.freeC x c e)
 ·obtain⟨e,n,ne,nf,d⟩:=I.pin p hp;have nch:p.1∉ch:=fun z=>(hch p.1 z).2.2.2 p hp rfl;exact⟨keep p.1 p.2 ne nf nch e n,free p.1 p.2 nch e n,ne,nf,d⟩
theorem Inv.un {t' : Nat}(I:Inv X pins σ H s) (u:Un X.fs [] H H' s.heap h') (hok:HOk X.prog X.w H' h'):Inv X pins σ H' { s with heap:=h',toks:=t' }:=by
 obtain⟨m,⟨o,es,ep,ho,r⟩,_⟩:=id I.loc;obtain⟨sl,hL⟩:=u.any ho I.free (by simp);exact I.step (g':=s.gens) (d':=s.drawn) (ch:=[]) (fun _ z=>nomatch z) (fun b o _ hb _ e n=>u.keep b o e n hb (by simp)) (fun b o _ hb _ e n=>u.slot b o e n hb (by simp)) (fun b o _ e n=>u.free b o e n (by simp)) (fun b o _ e=>u.there b o e (by simp)) u.tups u.frzs u.tbls (fun m' hm=>by
  obtain⟨o',es',ep',ho',r'⟩:=hm;rw[ho]at ho';cases ho';exact⟨_,es',ep',hL,r'⟩) hok I.bare
theorem Inv.call {g' : Array PL}{t' : Nat}{d' : Drawn}{ch:List Zh}(I:Inv X pins σ H s) (u:Un (frs X.stack) ch H H' s.heap h') (hok:HOk X.prog X.w H' h') (hg:Ea g')
  (hch:∀b∈ch,(b∈X.ex∨X.s₀.heap.objs.size≤b)∧b≠X.env.locals∧(∀x c,X.env.cells.lookup x=some c→c≠b)∧∀p∈X.pn++pins,p.1≠b) :
  Inv X pins σ H' { s with heap:=h',gens:=g',drawn:=d',toks:=t' }:=by
 obtain⟨m,⟨o,es,ep,ho,r⟩,_⟩:=id I.loc;obtain⟨sl,hL⟩:=u.any ho I.free fun z=>(hch _ z).2.1 rfl;exact I.step (ch:=ch) hch (fun b o hL hb hc e n=>u.keep b o e n (fun z=>(ZS.mp (I.stkSub b z)).elim hL hb) hc) (fun b o _ _ hc e n=>u.any e n hc) (fun b o hc e n=>u.free b o e n hc) (fun b o hc e=>u.there b o e hc) u.tups u.frzs u.tbls (fun m' hm=>by
  obtain⟨o',es',ep',ho',r'⟩:=hm;rw[ho]at ho';cases ho';exact⟨_,es',ep',hL,r'⟩) hok hg
theorem Inv.turned {t' : Nat}{it:Zh}(I:Inv X pins σ H s) (k:∀b o,b≠it→s.heap.get? b=some o→h'.get? b=some o) (hn:H it=none) (hL:it≠X.env.locals)
  (h1:it∈X.ex∨X.s₀.heap.objs.size≤it) (h2:∀x c,X.env.cells.lookup x=some c→c≠it) (h3:∀p∈X.pn++pins,p.1≠it):Inv X pins σ H { s with heap:=h',toks:=t' }:=by
 have nit:∀b u,H b=some u→b≠it:=fun b u e z=>by rw[z,hn]at e;cases e
 refine I.step (g':=s.gens) (d':=s.drawn) (ch:=[it]) (fun b hb => ?_) (fun b o _ _ hc e _=>k b o (fun z=>hc (by simp[z])) e) (fun b o _ _ hc e _=>⟨o.slots,k b o (fun z=>hc (by simp[z])) e⟩) (fun _ _ _ _ n=>n)
  (fun b o hc e=>⟨o,k b o (fun z=>hc (by simp[z])) e⟩) (fun _ _ e=>e) (fun _ _ _ e=>e) (fun b ps e=>⟨#[],by rw[e];simp⟩) (fun m hm => ?_) (fun b u e => ?_) I.bare
 ·have e:b=it:=by simpa using hb
  subst e;exact⟨h1,hL,h2,h3⟩
 ·obtain⟨o,es,ep,ho,r⟩:=hm;exact⟨o,es,ep,k _ o (Wf hL) ho,r⟩
 ·refine(I.hok b u e).stay (fun c v hc q=>k c v ?_ q) (fun _ q=>q) fun _ _ q=>q;rcases hc with z | z
  ·rw[z];exact nit b u e
  ·exact nit c _ z
theorem Inv.tok (I:Inv X pins σ H s) (t:Nat):Inv X pins σ H { s with toks:=t }:=I.un (h':=s.heap) (t':=t) Un.refl I.hok
theorem Inv.kept {t' : Nat}(I:Inv X pins σ H s) (k:∀b u,s.heap.get? b=some u→h'.get? b=some u):Inv X pins σ H { s with heap:=h',toks:=t' }:=I.un (Un.kept k) (I.hok.kept k)
theorem Inv.laid {a:Zh}{o:HO}{t' : Nat}(I:Inv X pins σ H s) (k:∀b u,s.heap.get? b=some u→h'.get? b=some u) (hp:s.heap.objs.size≤a) (new:jA X.prog X.w (upd H a o) h' a o) :
  Inv X pins σ (upd H a o) { s with heap:=h',toks:=t' }:=I.un (Un.laid k hp (I.hok.fresh hp)) (I.hok.laid k hp new)
theorem Inv.write {x e:Zh}{o:HO}{t' : Nat}(I:Inv X pins σ H s) (mu:Mut (H x)) (he:e=x∨H e=some (.own x)) (k:∀b u,b≠e→s.heap.get? b=some u→h'.get? b=some u) (heo:∃u,h'.get? e=some u)
  (new:jA X.prog X.w (upd H x o) h' x o):Inv X pins σ (upd H x o) { s with heap:=h',toks:=t' }:=I.un (Un.write mu he k heo) (I.hok.write mu he k heo new)
theorem Inv.pins_of {pins' : List (Zh×Obj)}(I:Inv X pins σ H s) (h:∀p∈pins',s.heap.get? p.1=some p.2∧H p.1=none∧p.1≠X.env.locals∧p.1∉X.fs∧∀v,p.2.data≠.cell v):Inv X pins' σ H s :=
 ⟨I.ok,I.os,I.bare,I.base,I.loc,I.cell,I.free,I.freeC,fun p hp=>(ZW.mp hp).elim (fun z=>I.pin p (JN _ z)) (h p),I.hok,I.len⟩
theorem zdj {N:List Str}(hN:N.Nodup) {i j:Nat}{x:Str}(a:N[i]?=some x) (b:N[j]?=some x):i=j:=by
 obtain⟨h1,e1⟩:=Qa.mp a;obtain⟨h2,e2⟩:=Qa.mp b;exact(BR hN).mp (e1.trans e2.symm)
theorem zbW {M:Te}{A:QB}{E:Za→Zf→Prop}{i:Nat}{x:Str}{v:V}{u:Za}{Q:Unit→Zf→Prop}(I:Inv X pins σ H s) (hN:X.N.Nodup) (hi:X.N[i]?=some x) (hx:Loc X.env.scope x) (r:RelV v u)
  (h:∀s',Inv X pins (σ.set i (some v)) H s'→(∃a,Gg a s.heap s'.heap∧(a=X.env.locals∨X.env.cells.lookup x=some a))→Q () s') (hf:autoParam (X.fn x=true∨X.env.scope.names.lookup x=some .local) aTa):ZF M A (storeName X.env x u) Q E s:=by
 obtain⟨m,hn,hl⟩:=id I.loc;have hcls:(X.env.scope.kind == .class||(X.env.scope.kind == .module&&X.env.locals != X.env.globals))=false:=by rw[I.ok.kind];rfl
 have hiσ:i<σ.length:=by rw[I.len];exact(Qa.mp hi).1
 have cne:=I.cne;have tracked:∀ {a:Zh}{h' : Je},(∃o,s.heap.get? a=some o∧H a=none)→Gg a s.heap h'→HOk X.prog X.w H h':=fun {a h'} ha hs b ob e=>by
  obtain⟨_,_,hfree⟩:=ha;refine(I.hok b ob e).stay (fun c w' hc q=>(hs.2 c ?_).trans q) (fun _ q=>q) fun _ _ q=>q;rintro rfl;rcases hc with rfl | hc
  ·rw[hfree]at e;cases e
  ·rw[hfree]at hc;cases hc
 rcases hx with hk | hk
 ·refine wpAny_storeName_local hk hn (fun h' hn' hs => ?_) hcls;obtain⟨oL,_,_,hoL,_⟩:=id hn;refine h _ ⟨I.ok,I.os,I.bare,⟨fun b o e n hb hx => ?_,fun b o e n hb hx => ?_,I.base.free,fun b o e hx => ?_,I.base.tups,I.base.frzs,I.base.tbls⟩,⟨_,hn',fun j y v' e1 e2 e3 => ?_⟩,fun y c e => ?_,I.free,I.freeC,fun p hp => ?_,tracked ⟨oL,hoL,I.free⟩ hs,by simpa using I.len⟩ ⟨_,hs,.inl rfl⟩
  ·exact(hs.2 b (QD (Zo (ZD e) I.ok.above))).trans (I.base.keep b o e n hb hx)
  ·obtain⟨sl,e1⟩:=I.base.slot b o e n hb hx;exact⟨sl,(hs.2 b (QD (Zo (ZD e) I.ok.above))).trans e1⟩
  ·obtain⟨o',e1⟩:=I.base.there b o e hx;exact⟨o',(hs.2 b (QD (Zo (ZD e) I.ok.above))).trans e1⟩
  ·by_cases hj:j=i
   ·subst hj;rw[hi]at e1;cases e1;rw[YF hiσ]at e2;cases e2;exact⟨u,r,.inl ⟨hk,by simp⟩⟩
   ·rw[Qg (Wf hj)]at e2;obtain⟨u',r',q⟩:=hl j y v' e1 e2 e3;refine⟨u',r',?_⟩;rcases q with⟨k,e⟩ | ⟨k,c,e,z⟩
    ·refine .inl ⟨k,?_⟩;have:y≠x:=fun e=>hj (zdj hN e1 (e▸hi));simp[this,e]
    ·exact .inr ⟨k,c,e,z.sameBut hs (cne y c e)⟩
  ·obtain⟨w',z⟩:=I.cell y c e;exact⟨w',z.sameBut hs (cne y c e)⟩
  ·obtain⟨e,n,ne,nf,d⟩:=I.pin p hp;exact⟨(hs.2 p.1 ne).trans e,n,ne,nf,d⟩
 ·have hfn:X.fn x=true:=by
   rcases hf with z | z
   ·exact z
   ·rw[z]at hk;cases hk
  obtain⟨c,hc⟩:=I.ok.has x (.inl hk);obtain⟨w',z⟩:=I.cell x c hc;refine wpAny_storeName_cell I.ok.kind hk hc z (fun h' hc' hs => ?_);obtain⟨oc,hoc,hocd⟩:=id z;refine h { s with heap:=h' } ⟨I.ok,I.os,I.bare,⟨fun b o e n hb hx => ?_,fun b o e n hb hx => ?_,I.base.free,fun b o e hx => ?_,I.base.tups,I.base.frzs,I.base.tbls⟩,⟨m,hn.sameBut hs (Wf (cne x c hc)),fun j y v' e1 e2 e3 => ?_⟩,fun y c' e => ?_,I.free,I.freeC,fun p hp => ?_,tracked ⟨oc,hoc,I.freeC x c hc⟩ hs,by simpa using I.len⟩ ⟨c,hs,.inr hc⟩
  ·exact(hs.2 b (QD (Zo (ZD e) (I.ok.cab x c hfn hc)))).trans (I.base.keep b o e n hb hx)
  ·obtain⟨sl,e1⟩:=I.base.slot b o e n hb hx;exact⟨sl,(hs.2 b (QD (Zo (ZD e) (I.ok.cab x c hfn hc)))).trans e1⟩
  ·obtain⟨o',e1⟩:=I.base.there b o e hx;exact⟨o',(hs.2 b (QD (Zo (ZD e) (I.ok.cab x c hfn hc)))).trans e1⟩
  ·by_cases hj:j=i
   ·subst hj;rw[hi]at e1;cases e1;rw[YF hiσ]at e2;cases e2;exact⟨u,r,.inr ⟨.inl hk,c,hc,hc'⟩⟩
   ·rw[Qg (Wf hj)]at e2;obtain⟨u',r',q⟩:=hl j y v' e1 e2 e3;refine⟨u',r',?_⟩;rcases q with q | ⟨k,c',e,z'⟩
    ·exact .inl q
    ·refine .inr ⟨k,c',e,z'.sameBut hs ?_⟩;rintro rfl;exact hj (zdj hN e1 (I.ok.inj _ _ _ e hc▸hi))
  ·by_cases hcc:c'=c
   ·subst hcc;exact⟨_,hc'⟩
   ·obtain⟨w2,z2⟩:=I.cell y c' e;exact⟨w2,z2.sameBut hs hcc⟩
  ·obtain⟨e,n,ne,nf,d⟩:=I.pin p hp;refine⟨(hs.2 p.1 ?_).trans e,n,ne,nf,d⟩;intro q;rw[q,hoc]at e;have q' : oc=p.2:=QT e;exact d w' (by rw[←q'];exact hocd)
theorem ziG {M:Te}{A:QB}{E:Za→Zf→Prop}{i:Nat}{x:Str}{v:V}{u:Za}{Q:Unit→Zf→Prop}(I:Inv X pins σ H s) (hN:X.N.Nodup) (hi:X.N[i]?=some x) (hx:Loc X.env.scope x) (r:RelV v u)
  (h:∀s',Inv X pins (σ.set i (some v)) H s'→Q () s') (hf:autoParam (X.fn x=true∨X.env.scope.names.lookup x=some .local) aTa):ZF M A (storeName X.env x u) Q E s :=
 zbW I hN hi hx r (fun s' I' _=>h s' I') hf
theorem Inv.call' {s' : Zf}{ch:List Zh}(I:Inv X pins σ H s) (ho:s'.os=s.os) (u:Un (frs X.stack) ch H H' s.heap s'.heap) (hok:HOk X.prog X.w H' s'.heap) (hg:Ea s'.gens)
  (hch:∀b∈ch,(b∈X.ex∨X.s₀.heap.objs.size≤b)∧b≠X.env.locals∧(∀x c,X.env.cells.lookup x=some c→c≠b)∧∀p∈X.pn++pins,p.1≠b):Inv X pins σ H' s':=by
 obtain⟨h',g',d',t',o'⟩:=s';have e:o'=s.os:=ho;subst e;exact I.call (g':=g') (t':=t') (d':=d') u hok hg hch
end
noncomputable abbrev XK:=Za→Option Zh→Hp→Prop
noncomputable abbrev St:=List (Option V)
noncomputable abbrev VK:=V→Hp→Prop
noncomputable abbrev TE:=St→Hp→VK→Prop
noncomputable abbrev TT:=St→Hp→(Bool→Hp→Prop)→Prop
noncomputable abbrev TA:=St→Hp→(List V→Hp→Prop)→Prop
set_option genInjectivity false in
set_option genSizeOf false in
structure Ends where
 nx:St→Hp→Prop
 rt:VK
 bk:St→Hp→Prop:=fun _ _=>False
 ct:St→Hp→Prop:=fun _ _=>False
noncomputable abbrev TS:=Ends→St→Hp→Prop
noncomputable def EP (X:Cx) (pins:List (Zh×Obj)) (σ:St) (Q:VK) (u:Za) (s' : Zf):Prop:=∃v H',Inv X pins σ H' s'∧RelV v u∧Q v H'
noncomputable def TP (X:Cx) (pins:List (Zh×Obj)) (σ:St) (Q:Bool→Hp→Prop) (b:Bool) (s' : Zf):Prop:=∃H',Inv X pins σ H' s'∧Q b H'
noncomputable def AP (X:Cx) (pins:List (Zh×Obj)) (σ:St) (Q:List V→Hp→Prop) (us:List Za) (s' : Zf):Prop:=∃vs H',Inv X pins σ H' s'∧Vals vs us∧Q vs H'
noncomputable def SP (X:Cx) (pins:List (Zh×Obj)) (D:Ends) (f:Flow) (s' : Zf):Prop :=
 match f with
 | .next=>∃σ' H',Inv X pins σ' H' s'∧D.nx σ' H'
 | .brk=>∃σ' H',Inv X pins σ' H' s'∧D.bk σ' H'
 | .cont=>∃σ' H',Inv X pins σ' H' s'∧D.ct σ' H'
 | .ret u=>∃v σ' H',Inv X pins σ' H' s'∧RelV v u∧D.rt v H'
noncomputable def PE (X:Cx) (e:Expr) (t:TE):Prop :=
 ∀(pins:List (Zh×Obj)) (s:Zf) (σ:St) (H:Hp) (Q:VK),Inv X pins σ H s→t σ H Q→ZF (model X.prog X.w) X.A (eval e X.env) (EP X pins σ Q) X.xe s
noncomputable def PT (X:Cx) (e:Expr) (t:TT):Prop :=
 ∀(pins:List (Zh×Obj)) (s:Zf) (σ:St) (H:Hp) (Q:Bool→Hp→Prop),Inv X pins σ H s→t σ H Q→ZF (model X.prog X.w) X.A (isTrue e X.env (eval e X.env)) (TP X pins σ Q) X.xe s
noncomputable def PW (X:Cx) (e:Expr) (t:TT):Prop :=
 ∀(whole:Sem Za) (pins:List (Zh×Obj)) (s:Zf) (σ:St) (H:Hp) (Q:Bool→Hp→Prop),Inv X pins σ H s→t σ H Q→ZF (model X.prog X.w) X.A (isTrue e X.env whole) (TP X pins σ Q) X.xe s
theorem PW.pt {X:Cx}{e:Expr}{t:TT}(h:PW X e t):PT X e t:=h _
noncomputable def PA (X:Cx) (es:List Expr) (t:TA):Prop :=
 ∀(pos:Pos) (pins:List (Zh×Obj)) (s:Zf) (σ:St) (H:Hp) (Q:List V→Hp→Prop),Inv X pins σ H s→t σ H Q→ZF (model X.prog X.w) X.A (spliced (Ke pos (Qm es X.env))) (AP X pins σ Q) X.xe s
noncomputable def PS (X:Cx) (st:YZ) (t:TS):Prop :=
 ∀(pins:List (Zh×Obj)) (s:Zf) (σ:St) (H:Hp) (D:Ends),Inv X pins σ H s→t D σ H→ZF (model X.prog X.w) X.A (exec st X.env) (SP X pins D) X.xe s
noncomputable def PSs (X:Cx) (st:List YZ) (t:TS):Prop :=
 ∀(pins:List (Zh×Obj)) (s:Zf) (σ:St) (H:Hp) (D:Ends),Inv X pins σ H s→t D σ H→ZF (model X.prog X.w) X.A (execs st X.env) (SP X pins D) X.xe s
theorem thn {α:Type}{t:Sem α}{Q Q' : α→Zf→Prop}{M:Te}{A:QB}{E:Za→Zf→Prop}{s:Zf}(h:ZF M A t Q E s) (hQ:∀a s,Q a s→Q' a s):ZF M A t Q' E s:=VL h hQ fun _ _ x=>x
end L2
namespace L2
open PySem PySem.Spec PyProof.Rows
section
variable {X:Cx}
noncomputable def tVar (i:Nat):TE:=fun σ H Q=>∃v,σ[i]?=some (some v)∧Q v H
noncomputable def tC (v:V):TE:=fun _ H Q=>Q v H
theorem zl6 {i:Nat}{x:Str}{pos:Pos}(hN:X.N[i]?=some x) (hv:Vis X.env.scope x) (hd:autoParam ((x == ("__debug__" : Str))=false) aTb) (hcd:autoParam ((x == ("__classdict__" : Str))=false) aTb):PE X (.Name x pos) (tVar i):=by
 intro pins s σ H Q I h;obtain⟨v,e,h⟩:=h;obtain⟨m,hn,hl⟩:=I.loc;obtain⟨u,r,l⟩:=hl i x v hN e hv;have fin:EP X pins σ Q u s:=⟨v,H,I,r,h⟩
 rcases l with⟨hk,hm⟩ | ⟨hk,c,hc,hcell⟩
 ·exact Hs (wpAny_loadName_local I.ok.kind hk hn hm fin) hd
 ·rcases hk with hk | hk
  ·exact Hs (wpAny_loadName_cell I.ok.kind hk hc hcell fin) hd
  ·exact Hs (wpAny_loadName_free I.ok.kind hk hc hcell fin hcd) hd
theorem zlZ {i j pos}:PE X (.Constant (.int i) j pos) (tC (.int i)):=fun _ _ _ H _ I h=>wpAny_Constant_int ⟨.int i,H,I.tok _,⟨_,rfl⟩,h⟩
theorem zmU {b j pos}:PE X (.Constant (.bool b) j pos) (tC (.bl b)):=fun _ _ _ H _ I h=>Constant_bool ⟨.bl b,H,I,rfl,h⟩
noncomputable def Gl (X:Cx) (x:Str):Prop:=X.env.kindOf x=some .globalImplicit
theorem zj2 {E:Za→Zf→Prop}{pins:List (Zh×Obj)}{s:Zf}{σ:St}{H:Hp}{x:Str}{u:Za}{pos:Pos}{Q:Za→Zf→Prop}(I:Inv X pins σ H s) (hg:Gl X x) (hm:X.mg x=some u) (h:Q u s)
  (hd:autoParam ((x == ("__debug__" : Str))=false) aTb):ZF (model X.prog X.w) X.A (eval (.Name x pos) X.env) Q E s :=
 Lg I.ok.kind hg (Calls.loadGlobal_global (by rw[I.ok.glob];exact I.mod.glob.keeps I.bk) hm h) hd
theorem xU {E:Za→Zf→Prop}{pins:List (Zh×Obj)}{s:Zf}{σ:St}{H:Hp}{x:Str}{u:Za}{pos:Pos}{Q:Za→Zf→Prop}(I:Inv X pins σ H s) (hg:Gl X x) (hm:X.mg x=none) (hv:JX x=some u) (h:Q u s)
  (hn:autoParam (x ≠ "__name__") aTb) (hd:autoParam ((x == ("__debug__" : Str))=false) aTb):ZF (model X.prog X.w) X.A (eval (.Name x pos) X.env) Q E s:=by
 obtain⟨mb,h1,h2⟩:=I.mod.blt;exact Lg I.ok.kind hg (Calls.loadGlobal_builtin (by rw[I.ok.glob];exact I.mod.glob.keeps I.bk) hm (by rw[I.ok.blt];exact h1.keeps I.bk) ((h2 x hn).trans hv) h) hd
theorem zkj {x:Str}{v:V}{u:Za}{pos:Pos}(hg:Gl X x) (hm:X.mg x=none) (hv:JX x=some u) (r:RelV v u) (hn:autoParam (x ≠ "__name__") aTb) (hd:autoParam ((x == ("__debug__" : Str))=false) aTb):PE X (.Name x pos) (tC v) :=
 fun _ _ _ H _ I h=>xU I hg hm hv ⟨v,H,I,r,h⟩ hn hd
variable {a b:Expr}{ta tb:TE}{pos:Pos}
variable {tA tB' : TT}{rest:List Expr}
noncomputable def tAnd (t u:TT):TT:=fun σ H Q=>t σ H fun c H1=>if c=true then u σ H1 Q else Q false H1
noncomputable def tNot (t:TT):TT:=fun σ H Q=>t σ H fun c H1=>Q (!c) H1
theorem zkK (ha:PT X a tA):PW X (.BoolOp .And [a] pos) tA:=by
 intro wh pins s σ H Q I h;refine isTrue_and (thn (ha pins s σ H Q I h) fun c s1 e => ?_);cases c with
 | true=>exact isTrue_and_nil e
 | false=>exact e
theorem zmg (ha:PT X a tA) (hb:PW X (.BoolOp .And (b::rest) pos) tB'):PW X (.BoolOp .And (a::b::rest) pos) (tAnd tA tB'):=by
 intro wh pins s σ H Q I h;refine isTrue_and (thn (ha pins s σ H _ I h) fun c s1=>xe3 fun H1 I1 q1 => ?_);cases c with
 | true=>exact hb wh pins s1 σ H1 Q I1 q1
 | false=>exact⟨H1,I1,q1⟩
theorem zmd (ha:PT X a tA):PT X (.UnaryOp .Not a pos) (tNot tA):=by
 intro pins s σ H Q I h;exact isTrue_not (ha pins s σ H (fun c H1=>Q (!c) H1) I h)
noncomputable def zm1 (ta tb:TE):TE:=fun σ H Q=>ta σ H fun x H1=>∃c,x=.bl c∧if c=true then tb σ H1 Q else Q (.bl false) H1
noncomputable def zm7 (ta:TE):TE:=fun σ H Q=>ta σ H fun x H1=>∃c,x=.bl c∧Q (.bl (!c)) H1
theorem zl3 {op}{t:TE}(h:PE X a t):PE X (.BoolOp op [a] pos) t:=fun pins s σ H Q I hw=>BoolOp_one (h pins s σ H Q I hw)
theorem zlW (ha:PE X a ta) (hb:PE X (.BoolOp .And (b::rest) pos) tb):PE X (.BoolOp .And (a::b::rest) pos) (zm1 ta tb):=by
 intro pins s σ H Q I h;refine BoolOp_and (thn (ha pins s σ H _ I h) fun v s1=>xe5 fun x H1 I1 r1 q1 => ?_);obtain⟨c,rfl,q1⟩:=q1;cases r1;refine Ud ?_;cases c with
 | true=>exact hb pins s1 σ H1 Q I1 q1
 | false=>exact⟨.bl false,H1,I1,rfl,q1⟩
theorem zl2 (ha:PE X a ta):PE X (.UnaryOp .Not a pos) (zm7 ta):=by
 intro pins s σ H Q I h;refine UnaryOp_ (thn (ha pins s σ H _ I h) fun v s1=>xe5 fun x H1 I1 r1 q1 => ?_);obtain⟨c,rfl,q1⟩:=q1;cases r1;exact not_of (Ud ⟨.bl (!c),H1,I1,rfl,q1⟩)
noncomputable def tIf (t:TT) (ta tb:TE):TE:=fun σ H Q=>t σ H fun c H1=>if c=true then ta σ H1 Q else tb σ H1 Q
theorem zid {c:Expr}(hc:PT X c tA) (ha:PE X a ta) (hb:PE X b tb):PE X (.IfExp c a b pos) (tIf tA ta tb):=by
 intro pins s σ H Q I h;refine wpAny_IfExp (thn (hc pins s σ H _ I h) fun d s1=>xe3 fun H1 I1 q1 => ?_);cases d with
 | true=>exact ha pins s1 σ H1 Q I1 q1
 | false=>exact hb pins s1 σ H1 Q I1 q1
end
end L2
namespace L2
open PySem PySem.Spec PyProof.Rows
noncomputable def SqL (K:ZM) (H:Hp) (a:Zh) (xs:List V):Prop :=
 Rd H a (.lst xs) ∨
  ∃(o:Obj) (its:Array Za) (n:Nat),K.lookup a=some o∧o.cls=.type "list" ∧ o.dict=none∧o.data=.seq its n∧its.size≤Zu∧Vals xs its.toList
noncomputable def SqT (K:ZM) (H:Hp) (a:Zh) (xs:List V):Prop :=
 Rd H a (.tup xs) ∨
  ∃(o:Obj) (its:Array Za) (n:Nat),K.lookup a=some o∧o.cls=.type "tuple" ∧ o.data=.seq its n∧its.size≤Zu∧Vals xs its.toList
noncomputable def absV:Za→Option V
 | .none=>some .non
 | .bool b=>some (.bl b)
 | .int i _=>some (.int i)
 | .str x _=>some (.str x)
 | .bytes b _=>some (.byt b)
 | .float b _=>some (.flt b)
 | .ref a=>some (.ref a)
 | .type n=>some (.ty n)
 | _=>none
theorem RelV.abs {x:V}{u:Za}(r:RelV x u):absV u=some x:=by
 cases x with
 | non=>cases r;rfl
 | bl _=>cases r;rfl
 | int _=>obtain⟨t,rfl⟩:=r;rfl
 | str _=>obtain⟨t,rfl⟩:=r;rfl
 | byt _=>obtain⟨t,rfl⟩:=r;rfl
 | flt _=>obtain⟨t,rfl⟩:=r;rfl
 | ref _=>cases r;rfl
 | ty _=>cases r;rfl
theorem RelV.inj {x y:V}{u:Za}(r:RelV x u) (q:RelV y u):x=y:=QT (r.abs.symm.trans q.abs)
theorem Vals.inj {xs ys:List V}{us:List Za}(r:Vals xs us):Vals ys us→xs=ys:=by
 induction r generalizing ys with
 | nil=>intro q;cases q;rfl
 | cons r _ ih =>
  intro q;cases q with
  | cons r' t'=>rw[r.inj r',ih t']
section
variable {X:Cx}{pins:List (Zh×Obj)}{σ:St}{H:Hp}{s:Zf}{a:Zh}{xs ys:List V}
theorem SqL.of {K:ZM}(h:H a=some (.lst xs)):SqL K H a xs:=.inl (.inl h)
theorem SqT.of {K:ZM}(h:H a=some (.tup xs)):SqT K H a xs:=.inl (.inl h)
theorem Inv.list (I:Inv X pins σ H s) (h:SqL X.K H a xs):∃its:List Za,Vals xs its∧PlainL s.heap a its.toArray∧xs.length≤Zu:=by
 rcases h with h | ⟨o,its,n,hk,hc,hd,hs,hz,r⟩
 ·obtain⟨z,its,n,r,e⟩:=h.ok I.hok;exact⟨its,r,⟨_,n,e,rfl,rfl,rfl⟩,z⟩
 ·refine⟨its.toList,r,⟨o,n,I.kIn a o hk,hc,hd,by simpa using hs⟩,?_⟩;have e:=r.length;simp only[Qh]at e;omega
theorem Inv.tuple (I:Inv X pins σ H s) (h:SqT X.K H a xs):∃its:List Za,Vals xs its∧VP s.heap a its.toArray∧xs.length≤Zu:=by
 rcases h with h | ⟨o,its,n,hk,hc,hs,hz,r⟩
 ·obtain⟨z,its,r,p⟩:=h.ok I.hok;exact⟨its,r,p,z⟩
 ·refine⟨its.toList,r,⟨o,I.kIn a o hk,hc,n,by simpa using hs⟩,?_⟩;have e:=r.length;simp only[Qh]at e;omega
theorem Inv.list_inj (I:Inv X pins σ H s) (h:SqL X.K H a xs) (h' : SqL X.K H a ys):xs=ys:=by
 obtain⟨its,r,⟨o,n,e,_,_,d⟩,_⟩:=I.list h;obtain⟨its',r',⟨o',n',e',_,_,d'⟩,_⟩:=I.list h';rw[e]at e';cases e';rw[d]at d';injection d' with d1 _
 have:its=its':=by simpa using congrArg Ca d1
 subst this;exact r.inj r'
theorem Inv.tuple_inj (I:Inv X pins σ H s) (h:SqT X.K H a xs) (h' : SqT X.K H a ys):xs=ys:=by
 obtain⟨its,r,⟨o,e,_,n,d⟩,_⟩:=I.tuple h;obtain⟨its',r',⟨o',e',_,n',d'⟩,_⟩:=I.tuple h';rw[e]at e';cases e';rw[d]at d';injection d' with d1 _
 have:its=its':=by simpa using congrArg Ca d1
 subst this;exact r.inj r'
end
noncomputable abbrev Cx.wish (X:Cx) (E:Za→Zf→Prop):Cx:={ X with xe:=E }
noncomputable abbrev Cx.nox (X:Cx):Cx:=X.wish fun _ _=>False
theorem Cx.Ok.wish {X:Cx}(ok:X.Ok) (E:Za→Zf→Prop):(X.wish E).Ok :=
 ⟨ok.mod,ok.kind,ok.glob,ok.blt,ok.above,ok.inj,ok.has,ok.cab,ok.hd,ok.frames,ok.stk,ok.exf,ok.bs,ok.bsz,ok.noex,ok.exfs,ok.funs,ok.frf⟩
theorem Cx.Ok.unwish {X:Cx}{E:Za→Zf→Prop}(ok:(X.wish E).Ok):X.Ok :=
 ⟨ok.mod,ok.kind,ok.glob,ok.blt,ok.above,ok.inj,ok.has,ok.cab,ok.hd,ok.frames,ok.stk,ok.exf,ok.bs,ok.bsz,ok.noex,ok.exfs,ok.funs,ok.frf⟩
section
variable {X:Cx}{pins:List (Zh×Obj)}{σ:St}{H:Hp}{s:Zf}{E:Za→Zf→Prop}
theorem Inv.wish (I:Inv X pins σ H s) (E:Za→Zf→Prop):Inv (X.wish E) pins σ H s:=⟨I.ok.wish E,I.os,I.bare,I.base,I.loc,I.cell,I.free,I.freeC,I.pin,I.hok,I.len⟩
theorem Inv.unwish (I:Inv (X.wish E) pins σ H s):Inv X pins σ H s:=⟨I.ok.unwish,I.os,I.bare,I.base,I.loc,I.cell,I.free,I.freeC,I.pin,I.hok,I.len⟩
theorem SP.unwish {D:Ends}{f:Flow}{s' : Zf}(h:SP (X.wish E) pins D f s'):SP X pins D f s':=by
 cases f with
 | next=>obtain⟨σ',H',I,q⟩:=h;exact⟨σ',H',I.unwish,q⟩
 | brk=>obtain⟨σ',H',I,q⟩:=h;exact⟨σ',H',I.unwish,q⟩
 | cont=>obtain⟨σ',H',I,q⟩:=h;exact⟨σ',H',I.unwish,q⟩
 | ret u=>obtain⟨v,σ',H',I,r,q⟩:=h;exact⟨v,σ',H',I.unwish,r,q⟩
theorem PE.nox {e:Expr}{t:TE}(h:PE X.nox e t):PE X e t:=fun pins s σ H Q I hw =>
 VL (h pins s σ H Q (I.wish _) hw) (fun _ _=>xe5 fun v H' I' r q=>⟨v,H',I'.unwish,r,q⟩) fun _ _ z=>We z
theorem PT.nox {e:Expr}{t:TT}(h:PT X.nox e t):PT X e t:=fun pins s σ H Q I hw =>
 VL (h pins s σ H Q (I.wish _) hw) (fun _ _=>xe3 fun H' I' q=>⟨H',I'.unwish,q⟩) fun _ _ z=>We z
theorem PSs.nox {st:List YZ}{t:TS}(h:PSs X.nox st t):PSs X st t:=fun pins s σ H D I hw =>
 VL (h pins s σ H D (I.wish _) hw) (fun _ _ q=>q.unwish) fun _ _ z=>We z
end
section
variable {X:Cx}{st:YZ}{rest:List YZ}{t u:TS}{e:Expr}{te:TE}{pos:Pos}
noncomputable def zm6:TS:=fun D σ H=>D.nx σ H
noncomputable def tSeq (t u:TS):TS:=fun D σ H=>t { D with nx:=u D } σ H
theorem zkE:PSs X [] zm6:=fun _ _ σ H _ I h=>Ec ⟨σ,H,I,h⟩
theorem zir (h1:PS X st t) (h2:PSs X rest u):PSs X (st::rest) (tSeq t u):=by
 intro pins s σ H D I h;refine CW (thn (h1 pins s σ H { D with nx:=u D } I h) fun f s1 q => ?_);cases f with
 | next =>
  obtain⟨σ',H',I',q⟩:=q;exact h2 pins s1 σ' H' D I' q
 | ret v=>exact q
 | brk=>exact q
 | cont=>exact q
theorem zkF (h1:PS X st t):PSs X [st] t:=by
 intro pins s σ H D I h;refine CW (thn (h1 pins s σ H D I h) fun f s1 q => ?_);cases f with
 | next=>exact Ec q
 | ret v=>exact q
 | brk=>exact q
 | cont=>exact q
theorem Inv.quiet {pins:List (Zh×Obj)}{σ:St}{H:Hp}{s:Zf}(I:Inv X pins σ H s):interactive X.env=false:=by simp[interactive,I.ok.kind]
noncomputable def zm5 (te:TE):TS:=fun D σ H=>te σ H fun _ H1=>D.nx σ H1
theorem zgm (he:PE X e te) (hs:autoParam (Gw e none pos.line X.env=pure false) aTc):PS X (.Expr e pos) (zm5 te):=by
 intro pins s σ H D I h;exact wpAny_Expr_any (thn (he pins s σ H _ I h) fun v s1=>xe5 fun x H1 I1 r1 q1=>⟨σ,H1,I1,q1⟩) I.quiet hs
noncomputable def tRet (te:TE):TS:=fun D σ H=>te σ H D.rt
theorem zmc (he:PE X e te):PS X (.Return (some e) pos) (tRet te):=by
 intro pins s σ H D I h;exact wpAny_Return_some (thn (he pins s σ H _ I h) fun v s1=>xe5 fun x H1 I1 r1 q1=>⟨x,σ,H1,I1,r1,q1⟩)
noncomputable def tIfS (c:TT) (t u:TS):TS:=fun D σ H=>c σ H fun b H1=>if b=true then t D σ H1 else u D σ H1
theorem zmV {c:Expr}{a b:List YZ}{tc:TT}(hc:PT X c tc) (ha:PSs X a t) (hb:PSs X b u):PS X (.If c a b pos) (tIfS tc t u):=by
 intro pins s σ H D I h;refine wpAny_If (thn (hc pins s σ H _ I h) fun d s1=>xe3 fun H1 I1 q1 => ?_);cases d with
 | true=>exact ha pins s1 σ H1 D I1 q1
 | false=>exact hb pins s1 σ H1 D I1 q1
end
noncomputable abbrev TG:=V→St→Hp→(St→Hp→Prop)→Prop
noncomputable abbrev TGs:=List V→St→Hp→(St→Hp→Prop)→Prop
noncomputable def PG (X:Cx) (target:Expr) (t:TG):Prop :=
 ∀(pins:List (Zh×Obj)) (s:Zf) (σ:St) (H:Hp) (v:V) (u:Za) (Q:St→Hp→Prop),Inv X pins σ H s→RelV v u→t v σ H Q →
  ZF (model X.prog X.w) X.A (assign target X.env u) (fun _ s'=>∃σ' H',Inv X pins σ' H' s'∧Q σ' H') X.xe s
noncomputable def PGs (X:Cx) (ts:List Expr) (t:TGs):Prop :=
 ∀(pins:List (Zh×Obj)) (s:Zf) (σ:St) (H:Hp) (vs:List V) (us:List Za) (Q:St→Hp→Prop),Inv X pins σ H s→Vals vs us→t vs σ H Q →
  ZF (model X.prog X.w) X.A (assignInOrder ((Vb ts X.env).map (·.2)) us) (fun _ s'=>∃σ' H',Inv X pins σ' H' s'∧Q σ' H') X.xe s
noncomputable abbrev TSet:=V→V→V→Hp→(Hp→Prop)→Prop
noncomputable def PSet (X:Cx) (t:TSet):Prop :=
 ∀(pins:List (Zh×Obj)) (s:Zf) (σ:St) (H:Hp) (o i v:V) (ov iv u:Za) (Q:Hp→Prop),Inv X pins σ H s→RelV o ov→RelV i iv→RelV v u→t o i v H Q →
  ZF (model X.prog X.w) X.A (Ck ov iv u) (fun _ s'=>∃H',Inv X pins σ H' s'∧Q H') X.xe s
section
variable {X:Cx}{pos:Pos}
noncomputable def ky (i:Nat):TG:=fun v σ H Q=>Q (σ.set i (some v)) H
theorem zM {i:Nat}{x:Str}(hN:X.N.Nodup) (hi:X.N[i]?=some x) (hx:Loc X.env.scope x) (hf:autoParam (X.fn x=true∨X.env.scope.names.lookup x=some .local) aTa):PG X (.Name x pos) (ky i):=by
 intro pins s σ H v u Q I r h;exact Cg (ziG I hN hi hx r (fun s' I'=>⟨_,H,I',h⟩) hf)
noncomputable def gNil:TGs:=fun vs σ H Q=>vs=[]∧Q σ H
noncomputable def zc (t:TG) (u:TGs):TGs:=fun vs σ H Q=>∃v r,vs=v::r∧t v σ H fun σ' H'=>u r σ' H' Q
theorem zkp:PGs X [] gNil:=by
 intro pins s σ H vs us Q I r h;obtain⟨e,h⟩:=h;subst e;cases r;exact assignInOrder_nil ⟨σ,H,I,h⟩
theorem zih {e:Expr}{es:List Expr}{t:TG}{u:TGs}(h1:PG X e t) (h2:PGs X es u)
  (hs:autoParam ((Vb (e::es) X.env).map (·.2)=assign e X.env::(Vb es X.env).map (·.2)) aTc):PGs X (e::es) (zc t u):=by
 intro pins s σ H vs us Q I r h;obtain⟨v,vr,e1,h⟩:=h;subst e1;cases r with
 | cons r rr =>
  rw[hs];refine assignInOrder_cons (thn (h1 pins s σ H _ _ _ I r h) fun _ s1=>xe4 fun σ1 H1 I1 q1 => ?_);exact h2 pins s1 σ1 H1 _ _ Q I1 rr q1
noncomputable def gTup (K:ZM) (n:Nat) (t:TGs):TG:=fun v σ H Q=>∃a xs,v=.ref a∧SqT K H a xs∧xs.length=n∧t xs σ H Q
theorem zma {es:List Expr}{k:Nat}{t:TGs}{n:Nat}(hc:X.calm=true) (h:PGs X es t)
  (hn:autoParam ((Vb es X.env).length=n) aTc) (hst:autoParam ((Vb es X.env).findIdx? (·.1)=none) aTc):PG X (.Tuple es k pos) (gTup X.K n t):=by
 intro pins s σ H v u Q I r hw;obtain⟨a,xs,e1,hq,hl,hw⟩:=hw;subst e1;cases r;obtain⟨its,rv,ht,hz⟩:=I.tuple hq;refine assign_Tuple_tuple (I.ok.hd hc) ht (by simp[hn,←hl,rv.length]) hst fun h' hx => ?_;have I1:Inv X pins σ H { s with heap:=h' }:=I.kept (t':=s.toks) fun b o e=>hx b o (QD (ZD e)) e;exact h pins _ σ H xs _ Q I1 (by simpa using rv) hw
noncomputable def gSub (to ti:TE) (t:TSet):TG:=fun v σ H Q=>to σ H fun o H1=>ti σ H1 fun i H2=>t o i v H2 fun H3=>Q σ H3
theorem zl9 {o i:Expr}{to ti:TE}{t:TSet}(ho:PE X o to) (hi:PE X i ti) (hs:PSet X t)
  (ha:autoParam (∀v,assign (.Subscript o i pos) X.env v=(do
   let ov ←holding [v] (eval o X.env);let iv ←holding [v,ov] (eval i X.env)
   Ci pos
   holding [v,ov,iv] (Ck ov iv v)
   release [v,ov,iv] [])) aTd):PG X (.Subscript o i pos) (gSub to ti t):=by
 intro pins s σ H v u Q I r h;rw[ha];refine Zc (JW (thn (ho pins s σ H _ I h) fun ov s1=>xe5 fun x H1 I1 r1 q1 => ?_));refine Zc (JW (thn (hi pins s1 σ H1 _ I1 q1) fun iv s2=>xe5 fun y H2 I2 r2 q2 => ?_));refine Zc (Bw (Zc (JW (thn (hs pins s2 σ H2 x y v ov iv u _ I2 r1 r2 r q2) fun _ s3=>xe3 fun H3 I3 q3 => ?_))));exact wpAny_release ⟨σ,H3,I3,q3⟩
noncomputable def tAsg (te:TE) (g:TG):TS:=fun D σ H=>te σ H fun x H1=>g x σ H1 D.nx
theorem zae {tg e:Expr}{te:TE}{g:TG}(he:PE X e te) (hg:PG X tg g) (hs:autoParam (Wq [tg] e pos.line X.env=pure false) aTc) (hw:autoParam (Wr [tg] e X.env=pure none) aTc)
  (h1:autoParam ((Vb [tg] X.env).map (·.2)=[assign tg X.env]) aTc):PS X (.Assign [tg] e pos) (tAsg te g):=by
 intro pins s σ H D I h;refine wpAny_Assign_stores (thn (he pins s σ H _ I h) fun v s1=>xe5 fun x H1 I1 r1 q1 => ?_) hs hw;rw[h1];exact thn (hg pins s1 σ H1 x v _ I1 r1 q1) fun _ s2 q=>q
end
section
variable {X:Cx}{pos:Pos}
noncomputable def zjk (c:TT) (tb:TS):TS:=fun D σ H=>∃W:Nat→St→Hp→Prop,(∃m,W m σ H)∧∀m σ H,W m σ H →
 c σ H fun b H1=>if b=true then ∃N:St→Hp→Prop,(∀σ' H',N σ' H'→∃m',m'<m∧W m' σ' H')∧tb { D with nx:=N,ct:=N,bk:=D.nx } σ H1 else D.nx σ H1
theorem zio {c:Expr}{body:List YZ}{tc:TT}{tb:TS}(hp:Nk (model X.prog X.w) X.A X.env X.xe) (hc:PT X c tc) (hb:PSs X body tb):PS X (.While c body [] pos) (zjk tc tb):=by
 intro pins s σ H D I h;obtain⟨W,⟨m0,w0⟩,turn⟩:=h;refine wpAny_While (codeAny_whileLoop (fun n s'=>∃σ' H',Inv X pins σ' H' s'∧W n σ' H') ?_ m0 ⟨σ,H,I,w0⟩);rintro n s1 ⟨σ1,H1,I1,w1⟩;refine WW hp (thn (hc pins s1 σ1 H1 _ I1 (turn n σ1 H1 w1)) fun b s2=>xe3 fun H2 I2 q2 => ?_);cases b with
 | true =>
  obtain⟨N,hN,q2⟩:=q2;rw[if_pos rfl];refine WW hp (thn (hb pins s2 σ1 H2 _ I2 q2) fun f s3 q3 => ?_);cases f with
  | next =>
   obtain⟨σ3,H3,I3,n3⟩:=q3;obtain⟨m',hm,w3⟩:=hN σ3 H3 n3;exact⟨m',hm,σ3,H3,I3,w3⟩
  | cont =>
   obtain⟨σ3,H3,I3,n3⟩:=q3;obtain⟨m',hm,w3⟩:=hN σ3 H3 n3;exact⟨m',hm,σ3,H3,I3,w3⟩
  | brk=>exact q3
  | ret v=>exact q3
 | false =>
  rw[if_neg Jd];exact Ec ⟨σ1,H2,I2,q2⟩
end
set_option genInjectivity false in
set_option genSizeOf false in
structure It where
 go:Nat→Hp→Prop
 yld:Nat→Hp→V→Hp→Prop
 stop:Nat→Hp→Prop
noncomputable def FpOk (X:Cx) (pins:List (Zh×Obj)) (H:Hp) (b:Zh):Prop :=
 H b=none∧b≠X.env.locals∧b∉X.fs∧(b∈X.ex∨X.s₀.heap.objs.size≤b)∧(∀x c,X.env.cells.lookup x=some c→c≠b)∧∀p∈X.pn++pins,p.1≠b
theorem Inv.fpOk {X:Cx}{pins:List (Zh×Obj)}{σ:St}{H H' : Hp}{s:Zf}{b:Zh}(I:Inv X pins σ H s) (hb:s.heap.objs.size≤b) (hn:H' b=none):FpOk X pins H' b:=by
 refine⟨hn,YJ (Zo I.lt hb),I.nofs hb,.inr (Zt I.sz hb),fun x c e z => ?_,fun p hp z => ?_⟩
 ·obtain⟨v,q⟩:=I.cell x c e;exact absurd (Zo q.lt (by rw[z];exact hb)) (Vc _)
 ·exact absurd (Zo (ZD (I.pin p hp).1) (by rw[z];exact hb)) (Vc _)
structure Turn (P:Qc) (w:QG) (K:ZM) (tg:Expr) (J:It) (fp:List Zh) (it:Zh) (tn:Nat→Je→Prop):Prop where
 mem:it∈fp
 obj:∀i h,tn i h→∀b∈fp,∃o,h.get? b=some o∧∀v,o.data≠.cell v
 keep:∀i h h',tn i h→(∀b∈fp,∀o,h.get? b=some o→h'.get? b=some o)→tn i h'
 item:∀(X:Cx),X.prog=P→X.w=w→X.K=K→X.calm=true→∀(i:Nat) (pins:List (Zh×Obj)) (s:Zf) (σ:St) (H:Hp) (E:Za→Zf→Prop),Inv X pins σ H s→(∀b∈fp,FpOk X pins H b)→tn i s.heap→J.go i H →
  ZF (model P w) X.A (Gi (.ref it)) (fun r s1=>∃u,r=some u ∧
   ZF (model P w) X.A (Tn tg (.ref it) u) (fun _ s2=>∃x H',Inv X pins σ H' s2∧RelV x u∧J.yld i H x H'∧tn (i+1) s2.heap∧∀b∈fp,H' b=none) E s1) E s
 done:∀(X:Cx),X.prog=P→X.w=w→X.K=K→X.calm=true→∀(i:Nat) (pins:List (Zh×Obj)) (s:Zf) (σ:St) (H:Hp) (E:Za→Zf→Prop),Inv X pins σ H s→(∀b∈fp,FpOk X pins H b)→tn i s.heap→J.stop i H →
  ZF (model P w) X.A (Gi (.ref it)) (fun r s1=>r=none∧Inv X pins σ H s1) E s
 self:∀(A:QB) (i:Nat) (s:Zf) (Q:Za→Zf→Prop) (E:Za→Zf→Prop),tn i s.heap→Q (.ref it) s→ZF (model P w) A (pyIter (.ref it)) Q E s
noncomputable abbrev TI:=St→Hp→(It→Hp→Prop)→Prop
noncomputable def PIE (X:Cx) (pins:List (Zh×Obj)) (σ:St) (tg:Expr) (R:It→Hp→Prop) (itv:Za) (s2:Zf):Prop :=
 ∃(it:Zh) (fp:List Zh) (tn:Nat→Je→Prop) (J:It) (H' : Hp),itv=.ref it∧Inv X pins σ H' s2∧Turn X.prog X.w X.K tg J fp it tn∧tn 0 s2.heap∧(∀b∈fp,FpOk X pins H' b)∧R J H'
noncomputable def PI (X:Cx) (tg iter:Expr) (wi:TI):Prop :=
 ∀(pins:List (Zh×Obj)) (s:Zf) (σ:St) (H:Hp) (R:It→Hp→Prop),Inv X pins σ H s→wi σ H R →
  ZF (model X.prog X.w) X.A (eval iter X.env) (fun v s1=>ZF (model X.prog X.w) X.A (pyIter v) (PIE X pins σ tg R) X.xe s1) X.xe s
theorem zhA {M:Te}{A:QB}{E:Za→Zf→Prop}{s:Zf}{tg:Expr}{it:Zh}{u:Za}{o:Obj}{n:String}{vs:Array Za}{Q:Unit→Zf→Prop}(ho:s.heap.get? it=some o) (hc:o.cls=.type n) (hd:o.data=.fields vs)
  (hn:["enumerate", "zip", "dict_itemiterator", "dict_reverseitemiterator", "odict_iterator", "itertools.zip_longest", "itertools.pairwise"].contains n=false) (hQ:Q () s):ZF M A (Tn tg (.ref it) u) Q E s:=by
 unfold Tn;cases tg <;> first
  | exact Zj hQ
  | (cases u <;> first
    | exact Zj hQ
    | (refine Zc (Rf ho ?_)
       rw[hc,hd];show ZF M A (if(["enumerate", "zip", "dict_itemiterator", "dict_reverseitemiterator", "odict_iterator", "itertools.zip_longest", "itertools.pairwise"].contains n&&vs[0]? == some (KJ _))=true then _ else _) Q E s;rw[if_neg (by intro h;rw[hn,Kd]at h;cases h)];exact Zj hQ))
noncomputable def Itl (K:ZM) (a:Zh):It :=
 ⟨fun i H=>∃xs x,SqL K H a xs∧xs[i]?=some x,fun i H x H'=>H'=H∧∀xs,SqL K H a xs→xs[i]?=some x,fun i H=>∃xs,SqL K H a xs∧xs.length≤i⟩
noncomputable def Itt (K:ZM) (a:Zh):It :=
 ⟨fun i H=>∃xs x,SqT K H a xs∧xs[i]?=some x,fun i H x H'=>H'=H∧∀xs,SqT K H a xs→xs[i]?=some x,fun i H=>∃xs,SqT K H a xs∧xs.length≤i⟩
noncomputable def Itr (lo:Int) (n:Nat):It:=⟨fun i _=>i<n,fun i H x H'=>H'=H∧x=.int (lo+i),fun i _=>n≤i⟩
theorem zgY {P:Qc}{w:QG}{K:ZM}{tg:Expr}(a it:Zh):Turn P w K tg (Itl K a) [it] it (fun i h=>h.IsListIter it a i) where
 mem:=by simp
 obj:=fun i h st b hb=>by
  have e:b=it:=by simpa using hb
  subst e;obtain⟨o,e,c,d⟩:=st;exact⟨o,e,fun v z=>by rw[d]at z;cases z⟩
 keep:=fun i h h' st k=>st.at fun o e=>k it (by simp) o e
 item:=by
  intro X hP hw hK hc i pins s σ H E I hf st hg;subst hP hw hK;obtain⟨xs,x,hq,hx⟩:=hg;obtain⟨its,rv,p,hz⟩:=I.list hq;obtain⟨u,hu,ru⟩:=rv.get hx;obtain⟨f0,f1,f2,f3,f4,f5⟩:=hf it (by simp);refine wpAny_pyNext_list_item st p.isList (x:=u) (by simpa using hu) fun h' st' sb => ?_;have I1:Inv X pins σ H { s with heap:=h' }:=I.turned (t':=s.toks) (fun b o hb e=>(sb.2 b hb).trans e) f0 f1 f3 f4 f5;obtain⟨o,e,c,d⟩:=id st';exact⟨u,rfl,zhA (s:={ s with heap:=h' }) e c d (by decide) ⟨x,H,I1,ru,⟨rfl,fun ys hy=>by rw[I.list_inj hy hq];exact hx⟩,st',fun b hb=>(hf b hb).1⟩⟩
 done:=by
  intro X hP hw hK hc i pins s σ H E I hf st hg;subst hP hw hK;obtain⟨xs,hq,hx⟩:=hg;obtain⟨its,rv,p,hz⟩:=I.list hq;obtain⟨f0,f1,f2,f3,f4,f5⟩:=hf it (by simp);have hl:=rv.length;exact wpAny_pyNext_list_end (I.ok.hd hc) st p.isList (by simp;omega) fun h' eb=>⟨rfl,I.turned (t':=s.toks) (fun b o hb e=>eb b o hb e) f0 f1 f3 f4 f5⟩
 self:=fun _ _ _ _ _ st h=>wpAny_pyIter_listiter st h
theorem zen {P:Qc}{w:QG}{K:ZM}{tg:Expr}(a it:Zh):Turn P w K tg (Itt K a) [it] it (fun i h=>h.IsTupleIter it a i) where
 mem:=by simp
 obj:=fun i h st b hb=>by
  have e:b=it:=by simpa using hb
  subst e;obtain⟨o,e,c,d⟩:=st;exact⟨o,e,fun v z=>by rw[d]at z;cases z⟩
 keep:=fun i h h' st k=>st.at fun o e=>k it (by simp) o e
 item:=by
  intro X hP hw hK hc i pins s σ H E I hf st hg;subst hP hw hK;obtain⟨xs,x,hq,hx⟩:=hg;obtain⟨its,rv,p,hz⟩:=I.tuple hq;obtain⟨u,hu,ru⟩:=rv.get hx;obtain⟨f0,f1,f2,f3,f4,f5⟩:=hf it (by simp);refine wpAny_pyNext_tuple_item st (show s.heap.IsTuple a its.toArray from p) (x:=u) (by simpa using hu) fun h' st' sb => ?_;have I1:Inv X pins σ H { s with heap:=h' }:=I.turned (t':=s.toks) (fun b o hb e=>(sb.2 b hb).trans e) f0 f1 f3 f4 f5;obtain⟨o,e,c,d⟩:=id st';exact⟨u,rfl,zhA (s:={ s with heap:=h' }) e c d (by decide) ⟨x,H,I1,ru,⟨rfl,fun ys hy=>by rw[I.tuple_inj hy hq];exact hx⟩,st',fun b hb=>(hf b hb).1⟩⟩
 done:=by
  intro X hP hw hK hc i pins s σ H E I hf st hg;subst hP hw hK;obtain⟨xs,hq,hx⟩:=hg;obtain⟨its,rv,p,hz⟩:=I.tuple hq;obtain⟨f0,f1,f2,f3,f4,f5⟩:=hf it (by simp);have hl:=rv.length;exact wpAny_pyNext_tuple_end (I.ok.hd hc) st (show s.heap.IsTuple a its.toArray from p) (by simp;omega) fun h' eb=>⟨rfl,I.turned (t':=s.toks) (fun b o hb e=>eb b o hb e) f0 f1 f3 f4 f5⟩
 self:=fun _ _ _ _ _ st h=>wpAny_pyIter_tupleiter st h
theorem zem {P:Qc}{w:QG}{K:ZM}{tg:Expr}(it:Zh) (lo:Int) (n:Nat):Turn P w K tg (Itr lo n) [it] it (fun i h=>IsRangeIter h it (lo+(i:Nat)*1) ((n:Int)-(i:Nat)) 1) where
 mem:=by simp
 obj:=fun i h st b hb=>by
  have e:b=it:=by simpa using hb
  subst e;exact⟨_,st,fun v z=>by
   have z' : Data.fields _=Data.cell v:=z;cases z'⟩
 keep:=fun i h h' st k=>k it (by simp) _ st
 item:=by
  intro X hP hw hK hc i pins s σ H E I hf st hg;subst hP hw hK;obtain⟨f0,f1,f2,f3,f4,f5⟩:=hf it (by simp);have W:=Walks.range (prog:=X.prog) (w:=X.w) (I.ok.hd hc) it lo 1 n;refine W.item i s _ _ hg st fun v h' tk hv st' kk => ?_;obtain⟨t,rfl⟩:=hv;have I1:Inv X pins σ H { s with heap:=h',toks:=tk }:=I.turned (fun b o hb e=>kk b o (by simpa using hb) e) f0 f1 f3 f4 f5;refine⟨_,rfl,zhA (s:={ s with heap:=h',toks:=tk }) (n := "range_iterator") st' rfl rfl (by decide) ⟨.int (lo+i),H,I1,⟨t,?_⟩,⟨rfl,rfl⟩,st',fun b hb=>(hf b hb).1⟩⟩;rw[Mr]
 done:=by
  intro X hP hw hK hc i pins s σ H E I hf st hg;subst hP hw hK;obtain⟨f0,f1,f2,f3,f4,f5⟩:=hf it (by simp);exact wpAny_pyNext_range_end (I.ok.hd hc) st (by have:n≤i:=hg;omega) fun h' eb=>⟨rfl,I.turned (t':=s.toks) (fun b o hb e=>eb b o hb e) f0 f1 f3 f4 f5⟩
 self:=fun _ _ _ _ _ st h=>wpAny_pyIter_rangeiter st h
end L2
namespace L2
open PySem PySem.Spec PyProof.Rows
section
variable {X:Cx}{tg:Expr}
theorem zds {pins:List (Zh×Obj)}{σ:St}{H:Hp}{s:Zf}{R:It→Hp→Prop}{E:Za→Zf→Prop}{lo hi:Int}{t u v:Tok}{tk:Nat}(I:Inv X pins σ H s) (h1:-(2^62)≤lo) (h2:lo<2^62) (h3:-(2^62)≤hi) (h4:hi<2^62)
  (q:R (Itr lo (hi-lo).toNat) H):ZF (model X.prog X.w) X.A (pyIter (.ref s.heap.objs.size)) (PIE X pins σ tg R) E { s with heap:=s.heap.push { cls:=.type "range",data:=.fields #[.int lo t,.int hi u,.int 1 v] },toks:=tk }:=by
 refine wpAny_pyIter_range (Tu ..) (Sg h1 h2 h3 h4) ?_;have I1:Inv X pins σ H { s with heap:=s.heap.push { cls:=.type "range",data:=.fields #[.int lo t,.int hi u,.int 1 v] },toks:=tk }:=I.kept fun b o e=>Ze _ e;refine⟨(s.heap.push { cls:=.type "range",data:=.fields #[.int lo t,.int hi u,.int 1 v] }).objs.size,[(s.heap.push { cls:=.type "range",data:=.fields #[.int lo t,.int hi u,.int 1 v] }).objs.size],_,_,H,rfl,
  I1.kept (t':=tk) fun b o e=>Ze _ e,zem _ lo (hi-lo).toNat,?_,fun b hb => ?_,q⟩
 ·have e1:lo+((0:Nat):Int)*1=lo:=by simp
  have e2:(((hi-lo).toNat:Nat):Int)-((0:Nat):Int)=WY lo hi 1:=by rw[RQ];split <;> omega
  show IsRangeIter _ _ (lo+((0:Nat):Int)*1) ((((hi-lo).toNat:Nat):Int)-((0:Nat):Int)) 1;rw[e1,e2];exact Zy _ rfl
 ·have e:b=(s.heap.push { cls:=.type "range",data:=.fields #[.int lo t,.int hi u,.int 1 v] }).objs.size:=by simpa using hb
  subst e;exact I1.fpOk (Zg _) (I1.hok.fresh (Zg _))
noncomputable def zmK (ta:TA):TI:=fun σ H R=>ta σ H fun vs H1=>∃j:Int,vs=[.int j]∧-(2^62)≤j∧j<2^62∧R (Itr 0 j.toNat) H1
noncomputable def zmL (ta:TA):TI:=fun σ H R=>ta σ H fun vs H1=>∃i j:Int,vs=[.int i,.int j]∧(-(2^62)≤i∧i<2^62∧-(2^62)≤j∧j<2^62)∧R (Itr i (j-i).toNat) H1
theorem zgf {a:Expr}{ta:TA}{p pos:Pos}(hg:Gl X "range") (hm:X.mg "range" = none) (ha:PA X [a] ta) (hs:autoParam (Qm [a] X.env=[(false,eval a X.env)]) aTc):PI X tg (.Call (.Name "range" p) [a] [] pos) (zmK ta):=by
 intro pins s σ H R I h;refine Call_ (xU I hg hm Ro (Jm (thn (ha pos pins s σ H _ I h) fun us s1=>xe5 fun vs H1 I1 r1 q1 => ?_) hs rfl));obtain⟨j,e,q1,q2,q⟩:=q1;subst e;cases r1 with
 | cons r rr =>
  cases rr;obtain⟨t,rfl⟩:=r;exact call_range_1 (zds I1 (by omega) (by omega) q1 q2 (by simpa using q))
theorem zgg {a b:Expr}{ta:TA}{p pos:Pos}(hg:Gl X "range") (hm:X.mg "range" = none) (ha:PA X [a,b] ta) (hs:autoParam (Qm [a,b] X.env=[(false,eval a X.env),(false,eval b X.env)]) aTc) (hs2:autoParam (Qm [b] X.env=[(false,eval b X.env)]) aTc) :
  PI X tg (.Call (.Name "range" p) [a,b] [] pos) (zmL ta):=by
 intro pins s σ H R I h;refine Call_ (xU I hg hm Ro (Jm (thn (ha pos pins s σ H _ I h) fun us s1=>xe5 fun vs H1 I1 r1 q1 => ?_) (by rw[hs,hs2]) (by rw[hs2];rfl)));obtain⟨i,j,e,⟨q1,q2,q3,q4⟩,q⟩:=q1;subst e;cases r1 with
 | cons r rr =>
  cases rr with
  | cons r' rr =>
   cases rr;obtain⟨t,rfl⟩:=r;obtain⟨t',rfl⟩:=r';exact call_range_2 (zds I1 q1 q2 q3 q4 q)
noncomputable def tFor (wi:TI) (g:TG) (tb:TS):TS:=fun D σ H=>wi σ H fun J H1=>∃W:Nat→Nat→St→Hp→Prop,(∃m,W 0 m σ H1)∧∀i m σ H,W i m σ H →
 (J.stop i H∧D.nx σ H)∨(J.go i H∧∃N:St→Hp→Prop,(∀σ' H',N σ' H'→∃m',m'<m∧W (i+1) m' σ' H')∧∀x H',J.yld i H x H'→g x σ H' fun σ2 H2=>tb { D with nx:=N,ct:=N,bk:=D.nx } σ2 H2)
noncomputable def zbF (fp:List Zh) (h:Je):List (Zh×Obj):=fp.filterMap fun b=>(h.get? b).map fun o=>(b,o)
theorem wo {fp:List Zh}{h:Je}{b:Zh}{o:Obj}(hb:b∈fp) (e:h.get? b=some o):(b,o)∈zbF fp h:=Nt.mpr ⟨b,hb,by rw[e];rfl⟩
theorem zf2 {fp:List Zh}{h:Je}{p:Zh×Obj}(hp:p∈zbF fp h):p.1∈fp∧h.get? p.1=some p.2:=by
 obtain⟨b,hb,e⟩:=Nt.mp hp;cases q:h.get? b with
 | none=>rw[q]at e;cases e
 | some o =>
  rw[q]at e;have e' : (b,o)=p:=QT e;subst e';exact⟨hb,q⟩
theorem Inv.pinned {pins:List (Zh×Obj)}{σ:St}{H:Hp}{s:Zf}{fp:List Zh}(I:Inv X pins σ H s) (hf:∀b∈fp,FpOk X pins H b) (ho:∀b∈fp,∃o,s.heap.get? b=some o∧∀v,o.data≠.cell v):Inv X (pins++zbF fp s.heap) σ H s :=
 I.pins_of fun p hp=>(ZW.mp hp).elim (fun z=>I.pin p (QV _ z)) fun z=>by
  obtain⟨hb,e⟩:=zf2 z;obtain⟨f0,f1,f2,_⟩:=hf p.1 hb;obtain⟨o,e',d⟩:=ho p.1 hb;rw[e]at e';cases e';exact⟨e,f0,f1,f2,d⟩
theorem Inv.unpinned {pins pl:List (Zh×Obj)}{σ:St}{H:Hp}{s:Zf}(I:Inv X (pins++pl) σ H s):Inv X pins σ H s:=I.pins_of fun p hp=>I.pin p (QV _ (JN _ hp))
theorem zmb {iter:Expr}{body:List YZ}{wi:TI}{g:TG}{tb:TS}{pos:Pos}(hp:Nk (model X.prog X.w) X.A X.env X.xe) (hc:X.calm=true) (hi:PI X tg iter wi) (hg:PG X tg g) (hb:PSs X body tb)
  (hs:autoParam (∀x,Yc iter X.env x=pure x) aTd):PS X (.For tg iter body [] pos) (tFor wi g tb):=by
 intro pins s σ H D I h;refine wpAny_For (thn (hi pins s σ H _ I h) fun v s1 h1=>thn h1 fun itv s2 h2 => ?_) hs;obtain⟨it,fp,tn,J,H2,e,I2,T,st2,f2,W,⟨m0,w0⟩,turn⟩:=h2;subst e
 -- what stays true of the iterator's objects through the loop
 have stat:∀ {H' : Hp},(∀b∈fp,H' b=none)→∀b∈fp,FpOk X pins H' b:=fun hn b hb=>⟨hn b hb,(f2 b hb).2⟩
 refine codeAny_forLoop_any (fun n s'=>∃i σ' H',Inv X pins σ' H' s'∧tn i s'.heap∧(∀b∈fp,H' b=none)∧W i n σ' H') ?_ m0 ⟨0,σ,H2,I2,st2,fun b hb=>(f2 b hb).1,w0⟩;rintro n s3 ⟨i,σ3,H3,I3,st3,fr3,w3⟩;rcases turn i n σ3 H3 w3 with⟨stop,qn⟩ | ⟨go,N,hN,step⟩
 ·refine WW hp (thn (T.done X rfl rfl rfl hc i pins s3 σ3 H3 X.xe I3 (stat fr3) st3 stop) fun r s4 ⟨hr,I4⟩ => ?_);subst hr;exact Ec ⟨σ3,H3,I4,qn⟩
 ·refine WW hp (thn (T.item X rfl rfl rfl hc i pins s3 σ3 H3 X.xe I3 (stat fr3) st3 go) fun r s4 ⟨u,hr,h4⟩ => ?_);subst hr;refine WW hp (thn h4 fun _ s5 hZq => ?_);obtain⟨x,H5,I5,r5,y5,st5,fr5⟩:=hZq;have I5':=I5.pinned (stat fr5) (T.obj _ _ st5);refine WW hp (thn (hg _ s5 σ3 H5 x u _ I5' r5 (step x H5 y5)) fun _ s6=>xe4 fun σ6 H6 I6 q6 => ?_);refine WW hp (thn (hb _ s6 σ6 H6 _ I6 q6) fun f s7 q7 => ?_);have again:∀ {σ7:St}{H7:Hp},Inv X (pins++zbF fp s5.heap) σ7 H7 s7→N σ7 H7→∃m,m<n∧∃i σ' H',Inv X pins σ' H' s7∧tn i s7.heap∧(∀b∈fp,H' b=none)∧W i m σ' H':=fun {σ7 H7} I7 n7=>by
   obtain⟨m',hm,w7⟩:=hN σ7 H7 n7;refine⟨m',hm,i+1,σ7,H7,I7.unpinned,T.keep _ _ _ st5 fun b hb o e=>(I7.pin (b,o) (QV _ (QV _ (wo hb e)))).1,fun b hb => ?_,w7⟩;obtain⟨o,e,d⟩:=T.obj _ _ st5 b hb;exact(I7.pin (b,o) (QV _ (QV _ (wo hb e)))).2.1
  cases f with
  | next=>obtain⟨σ7,H7,I7,n7⟩:=q7;exact again I7 n7
  | cont=>obtain⟨σ7,H7,I7,n7⟩:=q7;exact again I7 n7
  | brk=>obtain⟨σ7,H7,I7,q7⟩:=q7;exact⟨σ7,H7,I7.unpinned,q7⟩
  | ret v=>obtain⟨x7,σ7,H7,I7,r7,q7⟩:=q7;exact⟨x7,σ7,H7,I7.unpinned,r7,q7⟩
end
end L2
namespace L2
open PySem PySem.Spec PyProof.Rows
noncomputable abbrev R2:=V→V→Hp→VK→Prop
noncomputable def OpR (X:Cx) (f:Za→Za→Sem Za) (r:R2):Prop :=
 ∀(pins:List (Zh×Obj)) (s:Zf) (σ:St) (H:Hp) (x y:V) (v u:Za) (Q:VK),Inv X pins σ H s→RelV x v→RelV y u→r x y H Q →
  ZF (model X.prog X.w) X.A (f v u) (EP X pins σ Q) X.xe s
noncomputable def UnR (X:Cx) (f:Za→Sem Za) (r:V→Hp→VK→Prop):Prop :=
 ∀(pins:List (Zh×Obj)) (s:Zf) (σ:St) (H:Hp) (x:V) (v:Za) (Q:VK),Inv X pins σ H s→RelV x v→r x H Q →
  ZF (model X.prog X.w) X.A (f v) (EP X pins σ Q) X.xe s
noncomputable def xH (X:Cx) (f:Za) (r:List V→Hp→VK→Prop):Prop :=
 ∀(pins:List (Zh×Obj)) (s:Zf) (σ:St) (H:Hp) (xs:List V) (us:List Za) (Q:VK),Inv X pins σ H s→Vals xs us→r xs H Q →
  ZF (model X.prog X.w) X.A (call f us) (EP X pins σ Q) X.xe s
noncomputable def TruR (X:Cx) (r:V→Hp→(Bool→Hp→Prop)→Prop):Prop :=
 ∀(pins:List (Zh×Obj)) (s:Zf) (σ:St) (H:Hp) (x:V) (v:Za) (Q:Bool→Hp→Prop),Inv X pins σ H s→RelV x v→r x H Q →
  ZF (model X.prog X.w) X.A (truthy v) (TP X pins σ Q) X.xe s
noncomputable def tOp (r:R2) (ta tb:TE):TE:=fun σ H Q=>ta σ H fun x H1=>tb σ H1 fun y H2=>r x y H2 Q
noncomputable def rI (C:Int→Int→Prop) (g:Int→Int→V):R2:=fun x y H Q=>∃i j,x=.int i∧y=.int j∧C i j∧Q (g i j) H
noncomputable def rI0 (g:Int→Int→V):R2:=fun x y H Q=>∃i j,x=.int i∧y=.int j∧Q (g i j) H
section
variable {X:Cx}{a b c:Expr}{ta tb tc:TE}{pos:Pos}
theorem binT (ha:PE X a ta) (hb:PE X b tb) {pins:List (Zh×Obj)}{s:Zf}{σ:St}{H:Hp}{R:V→V→Hp→Prop}(I:Inv X pins σ H s)
  (h:ta σ H fun x H1=>tb σ H1 fun y H2=>R x y H2) {Q:Za→Zf→Prop}{f:Za→Za→Sem Za}
  (hf:∀v u s2 x y H2,Inv X pins σ H2 s2→RelV x v→RelV y u→R x y H2→ZF (model X.prog X.w) X.A (f v u) Q X.xe s2) :
  ZF (model X.prog X.w) X.A (eval a X.env) (fun v s₁=>ZF (model X.prog X.w) X.A (eval b X.env) (fun u s₂=>ZF (model X.prog X.w) X.A (f v u) Q X.xe s₂) X.xe s₁) X.xe s:=by
 refine thn (ha pins s σ H _ I h) fun v s1=>xe5 fun x H1 I1 r1 q1 => ?_;refine thn (hb pins s1 σ H1 _ I1 q1) fun u s2=>xe5 fun y H2 I2 r2 q2 => ?_;exact hf v u s2 x y H2 I2 r1 r2 q2
theorem zl4 {op:Operator}{r:R2}(ho:OpR X (Wl op) r) (ha:PE X a ta) (hb:PE X b tb):PE X (.BinOp a op b pos) (tOp r ta tb):=by
 intro pins s σ H Q I h;exact wpAny_BinOp (binT ha hb I h fun v u s2 x y H2 I2 rx ry q=>ho pins s2 σ H2 x y v u Q I2 rx ry q)
theorem opI {f:Za→Za→Sem Za}{C:Int→Int→Prop}{g:Int→Int→Int}
  (rule:∀(i j:Int) (t u:Tok) (s:Zf) (Q:Za→Zf→Prop) (E:Za→Zf→Prop),C i j→Q (.int (g i j) s.toks) { s with toks:=s.toks+1 }→ZF (model X.prog X.w) X.A (f (.int i t) (.int j u)) Q E s) :
  OpR X f (rI C fun i j=>.int (g i j)):=by
 intro pins s σ H x y v u Q I rx ry h;obtain⟨i,j,rfl,rfl,hc,q⟩:=h;obtain⟨t,rfl⟩:=rx;obtain⟨t',rfl⟩:=ry;exact rule i j t t' s _ _ hc ⟨.int (g i j),H,I.tok _,⟨_,rfl⟩,q⟩
theorem opI0 {f:Za→Za→Sem Za}{g:Int→Int→Int}
  (rule:∀(i j:Int) (t u:Tok) (s:Zf) (Q:Za→Zf→Prop) (E:Za→Zf→Prop),Q (.int (g i j) s.toks) { s with toks:=s.toks+1 }→ZF (model X.prog X.w) X.A (f (.int i t) (.int j u)) Q E s) :
  OpR X f (rI0 fun i j=>.int (g i j)):=by
 intro pins s σ H x y v u Q I rx ry h;obtain⟨i,j,rfl,rfl,q⟩:=h;obtain⟨t,rfl⟩:=rx;obtain⟨t',rfl⟩:=ry;exact rule i j t t' s _ _ ⟨.int (g i j),H,I.tok _,⟨_,rfl⟩,q⟩
theorem opB0 {f:Za→Za→Sem Za}{g:Int→Int→Bool}
  (rule:∀(i j:Int) (t u:Tok) (s:Zf) (Q:Za→Zf→Prop) (E:Za→Zf→Prop),Q (.bool (g i j)) s→ZF (model X.prog X.w) X.A (f (.int i t) (.int j u)) Q E s) :
  OpR X f (rI0 fun i j=>.bl (g i j)):=by
 intro pins s σ H x y v u Q I rx ry h;obtain⟨i,j,rfl,rfl,q⟩:=h;obtain⟨t,rfl⟩:=rx;obtain⟨t',rfl⟩:=ry;exact rule i j t t' s _ _ ⟨.bl (g i j),H,I,rfl,q⟩
noncomputable def CDiv (i j:Int):Prop:=0<j∧j<1073741824
theorem CMul.ok {i j:Int}(h:CMul i j):IntMulOk i j:=by
 rcases h with⟨h1,h2⟩ | ⟨h1,h2⟩
 ·exact .of_left (intBits_le_64 h1 h2)
 ·exact .of_right (intBits_le_64 h1 h2)
theorem zlM:OpR X (Wl .Add) (rI0 fun i j=>.int (i+j)):=opI0 fun _ _ _ _ _ _ _ q=>add_int q
theorem zlQ:OpR X (Wl .Sub) (rI0 fun i j=>.int (i-j)):=opI0 fun _ _ _ _ _ _ _ q=>sub_int q
theorem zlO:OpR X (Wl .Mult) (rI CMul fun i j=>.int (i*j)):=opI fun _ _ _ _ _ _ _ hc q=>mul_int q hc.ok
theorem zkg:OpR X (Wl .FloorDiv) (rI CDiv fun i j=>.int (i / j)):=opI fun i j _ _ _ _ _ hc q=>by
 have h1:(0:Int)<j:=hc.1;have h2:j<1073741824:=hc.2;exact floordiv_int (by omega) (by rw[Int.fdiv_eq_ediv_of_nonneg i (by omega)];exact q) (.inl (PyProof.noPylong_small (by omega)))
theorem zlN:OpR X (Wl .Mod) (rI (fun _ j=>0<j) fun i j=>.int (i%j)):=opI fun i j _ _ _ _ _ hc q=>by
 have h1:(0:Int)<j:=hc;exact mod_int' (by omega) (by rw[Int.fmod_eq_emod_of_nonneg i (by omega)];exact q)
end
section
variable {X:Cx}{a b c:Expr}{ta tb tc:TE}{pos:Pos}
theorem zmQ:OpR X (JS .Lt) (rI0 fun i j=>.bl (decide (i<j))):=opB0 fun _ _ _ _ _ _ _ q=>lt_int q
theorem zmP:OpR X (JS .LtE) (rI0 fun i j=>.bl (decide (i≤j))):=opB0 fun _ _ _ _ _ _ _ q=>le_int q
theorem zmO:OpR X (JS .Gt) (rI0 fun i j=>.bl (decide (j<i))):=opB0 fun _ _ _ _ _ _ _ q=>gt_int q
theorem zmN:OpR X (JS .GtE) (rI0 fun i j=>.bl (decide (j≤i))):=opB0 fun _ _ _ _ _ _ _ q=>ge_int q
theorem OpR.or {f:Za→Za→Sem Za}{r r' : R2}(h:OpR X f r) (h' : OpR X f r'):OpR X f (fun x y H Q=>r x y H Q∨r' x y H Q):=by
 intro pins s σ H x y v u Q I rx ry q;rcases q with q | q
 ·exact h pins s σ H x y v u Q I rx ry q
 ·exact h' pins s σ H x y v u Q I rx ry q
theorem jN (b:Expr) {op:PP}(h:autoParam (op≠.In) aTb) (h2:autoParam (op≠.NotIn) aTb):Uw op b=false:=by
 have e1:(op == PP.In)=false:=by cases op <;> first | rfl | exact absurd rfl h
 have e2:(op == PP.NotIn)=false:=by cases op <;> first | rfl | exact absurd rfl h2
 cases b <;> simp[Uw,e1,e2]
theorem zkl {op:PP}{r:R2}(ho:OpR X (JS op) r) (ha:PE X a ta) (hb:PE X b tb) (hm:Uw op b=false):PE X (.Compare a [op] [b] pos) (tOp r ta tb):=by
 intro pins s σ H Q I h;exact wpAny_Compare1 (binT ha hb I h fun v u s2 x y H2 I2 rx ry q=>ho pins s2 σ H2 x y v u Q I2 rx ry q) hm
noncomputable def zm9 (t:TE):TT:=fun σ H Q=>t σ H fun x H'=>∃k,x=.bl k∧Q k H'
theorem zkG {op:PP}{r:R2}(ho:OpR X (JS op) r) (ha:PE X a ta) (hb:PE X b tb) (hm:Uw op b=false):PT X (.Compare a [op] [b] pos) (zm9 (tOp r ta tb)):=by
 intro pins s σ H Q I h;refine wpAny_isTrue_Compare1 (thn (ha pins s σ H _ I h) fun v s1=>xe5 fun x H1 I1 r1 q1=>thn (hb pins s1 σ H1 _ I1 q1) fun u s2=>xe5 fun y H2 I2 r2 q2 =>
  thn (ho pins s2 σ H2 x y v u _ I2 r1 r2 q2) fun c s3 ⟨z,H3,I3,r3,k,e,q3⟩ => ?_) hm
 subst e;cases r3;exact Ud ⟨H3,I3,q3⟩
noncomputable def TruV (K:ZM) (x:V) (H:Hp) (k:Bool):Prop :=
 match x with
 | .non=>k=false
 | .bl b=>k=b
 | .int i=>k=(i != 0)
 | .str y=>y.length≤Zu∧k=((y.length:Int) != 0)
 | .byt y=>y.size≤Zu∧k=((y.size:Int) != 0)
 | .ref p=>(∃xs,SqL K H p xs∧k=!xs.isEmpty)∨(∃xs,SqT K H p xs∧k=!xs.isEmpty)∨∃kvs,H p=some (.dK kvs)∧k=!kvs.isEmpty
 | _=>False
theorem zd0 {κ:Type}{kvs:List (κ×V)}{vs:List (κ×Za)}(r:KV kvs vs):(!vs.isEmpty)=!kvs.isEmpty:=by
 cases r <;> rfl
theorem kW {xs:List V}{its:List Za}(r:Vals xs its):(!its.toArray.isEmpty)=!xs.isEmpty:=by
 cases r <;> simp
theorem kX:(Zu:Nat)<2^63:=by rw[YT];decide
theorem zmr:TruR X (fun x H Q=>∃k,TruV X.K x H k∧Q k H):=by
 intro pins s σ H x v Q I rx h;obtain⟨k,e,q⟩:=h;have hl:=kX;have hs:Zu=16777216:=YT;cases x with
 | non =>
  cases rx;have e' : k=false:=e;subst e';exact truthy_none ⟨H,I,q⟩
 | bl b =>
  cases rx;have e' : k=b:=e;subst e';exact Ud ⟨H,I,q⟩
 | int i =>
  obtain⟨t,rfl⟩:=rx;have e' : k=(i != 0):=e;subst e';exact PySem.P.truthy_int ⟨H,I,q⟩
 | str y =>
  obtain⟨t,rfl⟩:=rx;obtain⟨hy,e'⟩:y.length≤Zu∧k=((y.length:Int) != 0):=e;subst e';exact PySem.P.truthy_str (by omega) ⟨H,I.tok _,q⟩
 | byt y =>
  obtain⟨t,rfl⟩:=rx;obtain⟨hy,e'⟩:y.size≤Zu∧k=((y.size:Int) != 0):=e;subst e';exact PySem.W.truthy_bytes (by omega) ⟨H,I.tok _,q⟩
 | ref p =>
  cases rx;have e' : (∃xs,SqL X.K H p xs∧k=!xs.isEmpty)∨(∃xs,SqT X.K H p xs∧k=!xs.isEmpty)∨∃kvs,H p=some (.dK kvs)∧k=!kvs.isEmpty:=e;rcases e' with⟨xs,hx,e'⟩ | ⟨xs,hx,e'⟩ | ⟨kvs,hx,e'⟩
  ·subst e';obtain⟨its,r,pl,hz⟩:=I.list hx;have hlen:=r.length;exact wpAny_truthy_list pl.isList (by simp only[Zv];omega) ⟨H,I.tok _,by rw[kW r];exact q⟩
  ·subst e';obtain⟨its,r,pl,hz⟩:=I.tuple hx;have hlen:=r.length;exact truthy_tuple pl (by simp only[Zv];omega) ⟨H,I.tok _,by rw[kW r];exact q⟩
  ·subst e';obtain⟨hz,hS,vs,r,m⟩:kvs.length≤Zu∧(p == Vq)=false∧∃vs,KV kvs vs∧s.heap.DictOf (jx X.prog X.w) p vs:=I.hok p _ hx;have hlen:kvs.length=vs.length:=Kp r;exact wpAny_truthy_dict hS m (by omega) ⟨H,I.tok _,by rw[zd0 r];exact q⟩
 | _=>exact(show False from e).elim
theorem zis (ha:PE X a ta) (he:∀whole,isTrue a X.env whole=(do let v ←whole;Ci a.pos;holding [v] (truthy v))) :
  PT X a (fun σ H Q=>ta σ H fun x H'=>∃k,TruV X.K x H' k∧Q k H'):=by
 intro pins s σ H Q I h;exact isTrue_plain (thn (ha pins s σ H _ I h) fun v s1=>xe5 fun x H1 I1 r1 q1=>zmr pins s1 σ H1 x v Q I1 r1 q1) (he _)
theorem vals1 {x:V}{us:List Za}(r:Vals [x] us):∃u,us=[u]∧RelV x u:=by
 cases r with
 | cons r1 r2=>cases r2;exact⟨_,rfl,r1⟩
theorem vals2 {x y:V}{us:List Za}(r:Vals [x,y] us):∃u w',us=[u,w']∧RelV x u∧RelV y w':=by
 cases r with
 | cons r1 r2 =>
  cases r2 with
  | cons r3 r4=>cases r4;exact⟨_,_,rfl,r1,r3⟩
theorem zeH (hc:X.calm=true):xH X (.builtin "max") (fun xs H Q=>∃i j,xs=[.int i,.int j]∧Q (.int (if j>i then j else i)) H):=by
 intro pins s σ H xs us Q I r h;obtain⟨i,j,rfl,q⟩:=h;obtain⟨u,w',rfl,⟨t,rfl⟩,⟨t',rfl⟩⟩:=vals2 r;refine max_two_ints (I.ok.hd hc) fun h' tk k=>⟨_,H,I.kept k,?_,q⟩
 by_cases hj:j>i
 ·rw[if_pos hj,if_pos hj];exact⟨_,rfl⟩
 ·rw[if_neg hj,if_neg hj];exact⟨_,rfl⟩
theorem zeI (hc:X.calm=true):xH X (.builtin "min") (fun xs H Q=>∃i j,xs=[.int i,.int j]∧Q (.int (if j<i then j else i)) H):=by
 intro pins s σ H xs us Q I r h;obtain⟨i,j,rfl,q⟩:=h;obtain⟨u,w',rfl,⟨t,rfl⟩,⟨t',rfl⟩⟩:=vals2 r;refine min_two_ints (I.ok.hd hc) fun h' tk k=>⟨_,H,I.kept k,?_,q⟩
 by_cases hj:j<i
 ·rw[if_pos hj,if_pos hj];exact⟨_,rfl⟩
 ·rw[if_neg hj,if_neg hj];exact⟨_,rfl⟩
theorem za9:xH X (.type "int") (fun xs H Q=>(∃i,xs=[.int i]∧Q (.int i) H)∨∃k,xs=[.bl k]∧Q (.int (if k then 1 else 0)) H):=by
 intro pins s σ H xs us Q I r h;rcases h with⟨i,rfl,q⟩ | ⟨k,rfl,q⟩
 ·obtain⟨u,rfl,t,rfl⟩:=vals1 r;exact call_int_int ⟨.int i,H,I,⟨_,rfl⟩,q⟩
 ·obtain⟨u,rfl,r1⟩:=vals1 r;cases r1;exact call_int_bool ⟨.int (if k then 1 else 0),H,I.tok _,⟨_,rfl⟩,q⟩
end
end L2
namespace L2
open PySem PySem.Spec PyProof.Rows
structure ObjM (h:Je) (x dx C:Zh) (mA:Str→Option Za):Prop where
 obj:h.get? x=some (Bs C dx)
 ns:h.Ns1 dx mA
 ne:dx≠x
theorem zfT {h:Je}{dx:Zh}{mA:Str→Option Za}(n:h.Ns1 dx mA):∃od,h.get? dx=some od∧∀name,BZ name od=some (mA name):=by
 obtain⟨o,es,ep,ho,hd,hk,_,hm⟩:=n;refine⟨o,ho,fun name => ?_⟩;have e:=hm name;unfold nsFind findBy at e;rw[←Array.find?_toList]at e;unfold BZ;rw[hd];dsimp only;split
 ·rename_i y q;rw[q]at e;exact congrArg some e
 ·rename_i q;rw[q]at e;have a:es.toList.any (·.refKey)=false:=by
   rw[List.any_eq_false];intro y hy;obtain⟨z,t,hkey⟩:=hk y (Rw.mp hy);simp[DictEntry.refKey,hkey]
  have a' : ¬es.toList.any (·.refKey)=true:=by rw[a];exact Jd
  rw[if_neg a'];exact congrArg some e
theorem ObjM.look {h:Je}{x dx C:Zh}{mA:Str→Option Za}(I:ObjM h x dx C mA):∃od,PySem.W.InstAt h x (Bs C dx) C (some od)∧∀name,BZ name od=some (mA name) :=
 let ⟨od,ho,hl⟩:=zfT I.ns
 ⟨od,⟨I.obj,rfl,rfl,ho⟩,hl⟩
section
variable {prog:Qc}{w:QG}{A:QB}{E:Za→Zf→Prop}{s:Zf}{K:ZM}{x dx C f:Zh}{mA:Str→Option Za}{name:Str}{v:Za}
end
theorem RelO.some_of {v:V}{o:Option Za}(r:RelO (some v) o):∃u,o=some u∧RelV v u:=by
 cases o with
 | none=>exact(show False from r).elim
 | some u=>exact⟨u,rfl,r⟩
section
variable {P:Qc}{w:QG}{H H' : Hp}{h h' : Je}{a C dx:Zh}{fs fs' : List (Str×V)}
theorem zjV (hok:HOk P w H h) (e:H a=some (.ins C dx fs)):∃mA,ObjM h a dx C mA∧(∀f,RelO (fs.lookup f) (mA f))∧HD mA (fs.map (·.1))∧fs.length≤1000∧H dx=some (.own a):=by
 obtain⟨d,z,ne,ob,mA,n,r,q⟩:=(show jA P w H h a (.ins C dx fs) from hok a _ e)
 exact⟨mA,⟨ob,n,ne⟩,r,q,z,d⟩
end
structure Cls (K:ZM) (C:Zh):Prop where
 pg:RV K C TJ=true
 hd:PySem.W.hasDictIn K C=true
 po:PySem.W.plainOver K C=true
 sa:Dg K (.ref C) "__setattr__" = some (some (.builtin "object.__setattr__"))
theorem Cls.get {K:ZM}{C:Zh}(c:Cls K C) (f:Str):RV K C f=true:=c.pg
section
variable {X:Cx}{pins:List (Zh×Obj)}{σ:St}{H:Hp}{s:Zf}{a C dx:Zh}{fs:List (Str×V)}{f:Str}{v:V}{A:QB}{E:Za→Zf→Prop}
end
section
variable {X:Cx}{o e value:Expr}{f:Str}{pos pos' tpos:Pos}{ta tv:TE}
end
section
variable {X:Cx}{pins:List (Zh×Obj)}{σ:St}{H:Hp}{s:Zf}{A:QB}{E:Za→Zf→Prop}{Q:Za→Zf→Prop}{c:Za}{b:Bool}
inductive TyOf (K:ZM) (H:Hp):V→Za→Prop where
 | non:TyOf K H .non (.type "NoneType")
 | bl (x:Bool):TyOf K H (.bl x) (.type "bool")
 | int (i:Int):TyOf K H (.int i) (.type "int")
 | str (x:Str):TyOf K H (.str x) (.type "str")
 | flt (x:UInt64):TyOf K H (.flt x) (.type "float")
 | lst {a:Zh}{xs:List V}(e:H a=some (.lst xs)):TyOf K H (.ref a) (.type "list")
 | frz {a:Zh}{o:Obj}{xs:List V}(e:H a=some (.frz o (.lst xs))):TyOf K H (.ref a) (.type "list")
 | tup {a:Zh}{xs:List V}(e:H a=some (.tup xs)):TyOf K H (.ref a) (.type "tuple")
 | dK {a:Zh}{kvs:List (Key×V)}(e:H a=some (.dK kvs)):TyOf K H (.ref a) (.type "dict")
 | dT {a:Zh}{kvs:List (List Key×V)}(e:H a=some (.dT kvs)):TyOf K H (.ref a) (.type "dict")
 | ins {a C dx:Zh}{fs:List (Str×V)}(e:H a=some (.ins C dx fs)) (cl:Cls K C) (ha:Dg K (.ref C) "__class__" = some (some (.builtin "object.__class__")))
   (hn:PySem.W.specialIn K (.builtin "object.__class__") "__get__" = some (some (.builtin "getset_descriptor.__get__"))) (htk:PySem.W.takesIn K (.builtin "object.__class__")=some true)
   (hm:PySem.W.mroIn K C (.type "object")=some true):TyOf K H (.ref a) (.ref C)
theorem qV {x:V}{u t:Za}(I:Inv X pins σ H s) (rx:RelV x u) (ty:TyOf X.K H x t) (e:Us X.K t c=some b) (h:∀tk,Q (.bool b) { s with toks:=tk }) :
  ZF (model X.prog X.w) A (call (.builtin "isinstance") [u,c]) Q E s:=by
 cases ty with
 | non=>cases (show u=Za.none from rx);exact JM PySem.W.kitx_none I.kIn True.intro e (fun z=>nomatch z) h
 | bl y=>cases (show u=Za.bool y from rx);exact JM PySem.W.kitx_bool I.kIn True.intro e (fun z=>nomatch z) h
 | int i=>obtain⟨t,q⟩:=(show ∃t,u=Za.int i t from rx);cases q;exact JM PySem.W.kitx_int I.kIn True.intro e (fun z=>nomatch z) h
 | str y=>obtain⟨t,q⟩:=(show ∃t,u=Za.str y t from rx);cases q;exact JM PySem.W.kitx_str I.kIn True.intro e (fun z=>nomatch z) h
 | flt y=>obtain⟨t,q⟩:=(show ∃t,u=Za.float y t from rx);cases q;exact JM PySem.W.kitx_float I.kIn True.intro e (fun z=>nomatch z) h
 | @lst a xs ea =>
  cases (show u=Za.ref a from rx);obtain⟨_,_,n,_,h1⟩:=(show jA X.prog X.w H s.heap a (.lst xs) from I.hok a _ ea)
  exact JM Rx I.kIn ⟨_,h1,rfl⟩ e (fun z=>nomatch z) h
 | @frz a ob xs ea =>
  cases (show u=Za.ref a from rx);obtain⟨_,_,_,n,_,h1⟩:=(show jA X.prog X.w H s.heap a (.frz ob (.lst xs)) from I.hok a _ ea)
  exact JM Rx I.kIn ⟨_,h1,rfl⟩ e (fun z=>nomatch z) h
 | @tup a xs ea =>
  cases (show u=Za.ref a from rx);obtain⟨_,_,_,p⟩:=(show jA X.prog X.w H s.heap a (.tup xs) from I.hok a _ ea)
  obtain⟨o,h1,h2,_⟩:=p;exact JM Rr I.kIn ⟨o,h1,h2⟩ e (fun z=>nomatch z) h
 | @dK a kvs ea =>
  cases (show u=Za.ref a from rx);obtain⟨_,_,vs,_,p⟩:=(show jA X.prog X.w H s.heap a (.dK kvs) from I.hok a _ ea)
  obtain⟨o,es,ep,h1,h2,_⟩:=p;exact JM Ry I.kIn ⟨o,h1,h2.1⟩ e (fun z=>nomatch z) h
 | @dT a kvs ea =>
  cases (show u=Za.ref a from rx);obtain⟨_,_,xs,_,o,es,ep,h1,h2,_⟩:=(show jA X.prog X.w H s.heap a (.dT kvs) from I.hok a _ ea)
  exact JM Ry I.kIn ⟨o,h1,h2.1⟩ e (fun z=>nomatch z) h
 | @ins a C dx fs ea cl ha hn htk hm =>
  cases (show u=Za.ref a from rx);obtain⟨mA,O,_⟩:=zjV I.hok ea;obtain⟨od,J,_⟩:=O.look;exact JM (PySem.W.kitx_own (cl.get _) cl.hd ha hn htk hm) I.kIn J e (fun z=>nomatch z) h
end
end L2
namespace L2
open PySem PySem.Spec PyProof.Rows
structure Room (k:Nat) (A:QB):Prop where
 hd:A.handled=none
 dp:A.depth+3*k+5<recursionLimit
 un:A.units+16*k+200<VF
theorem Room.mono {j k:Nat}{A:QB}(r:Room k A) (h:j≤k):Room j A:=⟨r.hd,by have:=r.dp;omega,by have:=r.un;omega⟩
theorem Room.deeper {k:Nat}{A:QB}(r:Room (k+1) A) (env:Env):Room k (A.deeper env) :=
 ⟨r.hd,by have:=r.dp;show A.depth+1+3*k+5<_;omega,by have:=r.un;show A.units+3+16*k+200<_;omega⟩
theorem Room.in1 {k:Nat}{A:QB}(r:Room (k+1) A):Room k A.in1 :=
 ⟨r.hd,by have:=r.dp;show A.depth+3*k+5<_;omega,by have:=r.un;show A.units+1+16*k+200<_;omega⟩
theorem Room.depth {k:Nat}{A:QB}(r:Room k A):A.depth<recursionLimit:=by have:=r.dp;omega
theorem Room.units {k:Nat}{A:QB}(r:Room k A):A.units+64<VF:=by have:=r.un;omega
noncomputable def tNil:TA:=fun _ H Q=>Q [] H
noncomputable def zm3 (ta:TE) (tr:TA):TA:=fun σ H Q=>ta σ H fun x H1=>tr σ H1 fun xs H2=>Q (x::xs) H2
section
variable {X:Cx}{e:Expr}{es:List Expr}{te:TE}{t:TA}{pos:Pos}
theorem zbC:PA X [] tNil:=fun _ _ _ _ H Q I h=>Bm ⟨[],H,I,.nil,h⟩
theorem yG (ha:PE X e te) (hr:PA X es t) (hs:autoParam (Qm (e::es) X.env=(false,eval e X.env)::Qm es X.env) aTc):PA X (e::es) (zm3 te t):=by
 intro pos pins s σ H Q I h;rw[hs];show ZF _ _ (spliced ((false,eval e X.env)::Ke pos (Qm es X.env))) _ _ s;refine Em (thn (ha pins s σ H _ I h) fun u s1=>xe5 fun x H1 I1 r1 q1 => ?_);exact thn (hr pos pins s1 σ H1 _ I1 q1) fun us s2=>xe5 fun xs H2 I2 r2 q2=>⟨x::xs,H2,I2,.cons r1 r2,q2⟩
noncomputable def tTup (t:TA):TE:=fun σ H Q=>t σ H fun xs H1=>xs.length≤Zu∧∀p,H1 p=none→Q (.ref p) (upd H1 p (.tup xs))
noncomputable def tLst (t:TA):TE:=fun σ H Q=>t σ H fun xs H1=>xs.length≤Zu∧∀p,H1 p=none→Q (.ref p) (upd H1 p (.lst xs))
theorem zl5 {x1}(h:PA X es t):PE X (.Tuple es x1 pos) (tTup t):=by
 intro pins s σ H Q I hq;refine wpAny_Tuple_spliced (thn (h pos pins s σ H _ I hq) fun us s1 ⟨xs,H1,I1,r,z,q⟩=>⟨by rw[←r.length];exact z,?_⟩);have hf:H1 s1.heap.objs.size=none:=I1.hok.fresh (Zg _);refine⟨.ref s1.heap.objs.size,upd H1 s1.heap.objs.size (.tup xs),I1.laid (t':=s1.toks) (fun b u e=>Ze _ e) (Zg _) ?_,rfl,q _ hf⟩;exact⟨z,us,r,⟨_,Zy _ rfl,rfl,_,rfl⟩⟩
theorem zl1 (h:PA X es t):PE X (.List es pos) (tLst t):=by
 intro pins s σ H Q I hq;refine wpAny_List_spliced (thn (h pos pins s σ H _ I hq) fun us s1 ⟨xs,H1,I1,r,z,q⟩=>⟨by rw[←r.length];exact z,?_⟩);have hf:H1 s1.heap.objs.size=none:=I1.hok.fresh (Zg _);refine⟨.ref s1.heap.objs.size,upd H1 s1.heap.objs.size (.lst xs),I1.laid (t':=s1.toks) (fun b u e=>Ze _ e) (Zg _) ?_,rfl,q _ hf⟩;exact⟨z,us,0,r,Zy _ rfl⟩
end
noncomputable abbrev Sp:=List V→Hp→VK→XK→Prop
noncomputable abbrev CXT:=List Env→Hp→Zf→XK→Za→Zf→Prop
structure Env0 (P:Qc) (w:QG) (K:ZM) (mg:Str→Option Za) (base:Je) (A:QB) (outer:List Env) (s:Zf) (H:Hp):Prop where
 frames:A.frames=some outer
 mod:Mod K mg base
 bs:∀b o,base.get? b=some o→s.heap.get? b=some o∧H b=none
 bsz:base.objs.size≤s.heap.objs.size
 funs:s.heap.FunFrames base outer
 frf:∀b∈frs outer,H b=none
 hok:HOk P w H s.heap
 bare:Ea s.gens
noncomputable def CE (outer:List Env) (P:Qc) (w:QG) (H:Hp) (s:Zf) (Q:VK) (u:Za) (s' : Zf):Prop :=
 ∃v H',s'.os=s.os∧Ea s'.gens∧Un (frs outer) [] H H' s.heap s'.heap∧HOk P w H' s'.heap∧RelV v u∧Q v H'
noncomputable def CR (CX:CXT) (outer:List Env) (P:Qc) (w:QG) (H:Hp) (s:Zf) (Q:VK) (E:XK) (r:HB) (s' : Zf):Prop :=
 match r with
 | .ok (.ret u)=>CE outer P w H s Q u s'
 | .ok _=>False
 | .error e=>CX outer H s E e s'
structure FnOk (P:Qc) (w:QG) (K:ZM) (mg:Str→Option Za) (base:Je) (CX:CXT) (k:Nat) (f:Zh) (fd:QK) (ps:List Str) (sp:Sp):Prop where
 len:∀vs H Q E,sp vs H Q E→vs.length=ps.length
 run:∀(A:QB) (outer:List Env) (s:Zf) (H:Hp) (args:Args) (us:List Za) (vs:List V) (Q:VK) (E:XK),Room k A→Env0 P w K mg base A outer s H→Rb s fd args (ps.zip us)→Vals vs us→sp vs H Q E →
  Kr (model P w) A (.call (.ref f) args) (CR CX outer P w H s Q E) s
theorem FnOk.mono {P:Qc}{w:QG}{K:ZM}{mg:Str→Option Za}{base:Je}{CX:CXT}{j k:Nat}{f:Zh}{fd:QK}{ps:List Str}{sp:Sp}(F:FnOk P w K mg base CX j f fd ps sp) (h:j≤k) :
  FnOk P w K mg base CX k f fd ps sp:=⟨F.len,fun A outer s H args us vs Q E hr=>F.run A outer s H args us vs Q E (hr.mono h)⟩
theorem FnOk.imp {P:Qc}{w:QG}{K:ZM}{mg:Str→Option Za}{base:Je}{CX:CXT}{k:Nat}{f:Zh}{fd:QK}{ps:List Str}{sp sp' : Sp}(F:FnOk P w K mg base CX k f fd ps sp)
  (h:∀vs H Q E,sp' vs H Q E→sp vs H Q E):FnOk P w K mg base CX k f fd ps sp' :=
 ⟨fun vs H Q E q=>F.len vs H Q E (h _ _ _ _ q),fun A outer s H args us vs Q E hr he hb hv hs=>F.run A outer s H args us vs Q E hr he hb hv (h _ _ _ _ hs)⟩
theorem Env0.in1 {P:Qc}{w:QG}{K:ZM}{mg:Str→Option Za}{base:Je}{A:QB}{outer:List Env}{s:Zf}{H:Hp}(e:Env0 P w K mg base A outer s H) :
  Env0 P w K mg base A.in1 outer s H:=⟨e.frames,e.mod,e.bs,e.bsz,e.funs,e.frf,e.hok,e.bare⟩
section
variable {X:Cx}{pins:List (Zh×Obj)}{σ:St}{H:Hp}{s s' : Zf}
theorem Inv.env0 (I:Inv X pins σ H s):Env0 X.prog X.w X.K X.mg X.base X.A X.stack s H :=
 ⟨I.ok.frames,I.ok.mod,I.bs,Zt I.ok.bsz I.sz,I.stack,I.stkFree,I.hok,I.bare⟩
theorem Inv.after {Q:VK}{u:Za}(I:Inv X pins σ H s) (h:CE X.stack X.prog X.w H s Q u s'):EP X pins σ Q u s':=by
 obtain⟨v,H',os,bare,un,hok,r,q⟩:=h;obtain⟨hh,g,d,t,os'⟩:=s';obtain rfl:os'=s.os:=os;exact⟨v,H',I.call (h':=hh) (g':=g) (d':=d) (t':=t) (ch:=[]) un hok bare (fun b z=>absurd z (by simp)),r,q⟩
end
noncomputable def zm2 (sp:Sp) (dvs:List V) (E:XK) (t:TA):TE:=fun σ H Q=>t σ H fun vs H1=>sp (vs++dvs) H1 Q E
noncomputable def Binds (K:ZM) (fd:QK) (ps:List Str) (ds:List Za):Prop :=
 ∀(s:Zf) (us:List Za),K.In s.heap→(us++ds).length=ps.length→Rb s fd ⟨us,[]⟩ (ps.zip (us++ds))
theorem Binds.all {K:ZM}{fd:QK}{ps:List Str}(h:∀us:List Za,us.length=ps.length→bindArgs fd ⟨us,[]⟩=pure (ps.zip us)):Binds K fd ps []:=fun s us _ hl=>by
 rw[Yt]at hl ⊢;exact .of_eq (h us hl)
noncomputable def zez (CX:CXT) (X:Cx) (E:XK):Prop:=∀(pins:List (Zh×Obj)) (σ:St) (H:Hp) (s:Zf) (e:Za) (s' : Zf),Inv X pins σ H s→CX X.stack H s E e s'→X.xe e s'
section
variable {X:Cx}{CX:CXT}{k:Nat}{f C:Zh}{fd:QK}{ps:List Str}{sp:Sp}{dvs:List V}{ds:List Za}{E:XK}{x m:Str}{p pos apos:Pos}{e o:Expr}{es:List Expr}{ta:TE}{t:TA}
theorem zmk {pins:List (Zh×Obj)}{σ:St}{H:Hp}{s:Zf}{Q:VK}{us:List Za}{vs:List V}(F:FnOk X.prog X.w X.K X.mg X.base CX k f fd ps sp) (hr:Room k X.A) (hb:Binds X.K fd ps ds) (hd:Vals dvs ds) (hx:zez CX X E)
  (I:Inv X pins σ H s) (r:Vals vs us) (h:sp (vs++dvs) H Q E):ZF (model X.prog X.w) X.A (call (.ref f) us) (EP X pins σ Q) X.xe s:=by
 have r2:Vals (vs++dvs) (us++ds):=r.append hd;have hl:(us++ds).length=ps.length:=by rw[←r2.length];exact F.len _ _ _ _ h
 refine wpAny_call (GQ (F.run X.A X.stack s H ⟨us,[]⟩ (us++ds) (vs++dvs) Q E hr I.env0 (hb s us I.kIn hl) r2 h) fun r s' hq => ?_);cases r with
 | error e=>exact hx pins σ H s e s' I hq
 | ok fl =>
  cases fl with
  | ret u=>exact I.after hq
  | next=>exact We hq
  | brk=>exact We hq
  | cont=>exact We hq
theorem zkk (F:FnOk X.prog X.w X.K X.mg X.base CX k f fd ps sp) (hr:Room k X.A) (hg:Gl X x) (hm:X.mg x=some (.ref f)) (hk:Qf X.K (.ref f)=true) (hb:Binds X.K fd ps ds) (hd:Vals dvs ds) (hx:zez CX X E)
  (ha:PA X (e::es) t) (hdb:autoParam ((x == ("__debug__" : Str))=false) aTb) (he:autoParam (Qm (e::es) X.env=(false,eval e X.env)::Qm es X.env) aTc) (hpl:autoParam ((Ke pos (Qm es X.env)).any (·.1)=false) aTc) :
  PE X (.Call (.Name x p) (e::es) [] pos) (zm2 sp dvs E t):=by
 intro pins s σ H Q I h;refine WQ (zj2 I hg hm ?_ hdb);refine PySem.W.callWith_K (h₀:=X.base) I.ok.mod.kin hk (thn (ha pos pins s σ H _ I h) fun us s1=>xe5 fun vs H1 I1 r q=>⟨I1.kIn,?_⟩) he hpl;exact zmk F hr hb hd hx I1 r q
end
section
variable {X:Cx}{CX:CXT}{k:Nat}{f C:Zh}{fd:QK}{ps ks:List Str}{sp:Sp}{E:XK}{x m:Str}{p pos apos kpos:Pos}{e o:Expr}{es:List Expr}{kws:List La}{te ta:TE}{t tk:TA}{nm:Option Str}
variable {g:List Za→List Za→List Za}{gV:List V→List V→List V}
end
structure FnScope (N P:List Str) (sc:Uz):Prop where
 kind:sc.kind=.function
 co:sc.isCoroutine=false
 gen:sc.isGenerator=false
 nd:N.Nodup
 pre:N.take P.length=P
 par:∀x∈P,sc.names.lookup x=some .local ∨ sc.names.lookup x=some .cell
 nofree:∀y∈sc.names,y.2≠.free
theorem za6 {kindOf:Str→Option Vd}{x:Str}:∀ {binds:List (Str×Za)}{m:Str→Option Za},(∀v,(x,v)∉binds)→Ni kindOf binds m x=m x
 | [],_,_=>rfl
 | (n,v)::r,m,h=>by
  unfold Ni;rw[za6 fun w hw=>h w (Zq _ hw)];split
  ·have:x≠n:=by rintro rfl;exact h v Zn
   simp[this]
  ·rfl
theorem za4 {kindOf:Str→Option Vd}{x:Str}:∀ {binds:List (Str×Za)}{m:Str→Option Za},(∀v,(x,v)∉binds)→Nj kindOf binds m x=m x
 | [],_,_=>rfl
 | (n,v)::r,m,h=>by
  unfold Nj;rw[za4 fun w hw=>h w (Zq _ hw)];split
  ·rfl
  ·have:x≠n:=by rintro rfl;exact h v Zn
   simp[this]
theorem za5 {kindOf:Str→Option Vd}{x:Str}{v:Za}:∀ {P:List Str}{vs:List Za}{i:Nat}{m:Str→Option Za},P.Nodup→P[i]?=some x→vs[i]?=some v→kindOf x=some .local →
  Ni kindOf (P.zip vs) m x=some v
 | [],_,_,_,_,h,_,_=>by simp at h
 | _::_,[],_,_,_,_,h,_=>by simp at h
 | p::P,w::vs,0,m,nd,h1,h2,hk=>by
  simp at h1 h2;subst h1;subst h2;show Ni kindOf ((p,w)::P.zip vs) m p=_;unfold Ni;rw[za6 fun v hv=>(Js.mp nd).1 (Mm hv).1,if_pos hk];simp
 | p::P,w::vs,i+1,m,nd,h1,h2,hk=>by
  show Ni kindOf ((p,w)::P.zip vs) m x=_;unfold Ni;exact za5 (i:=i) (Js.mp nd).2 (by simpa using h1) (by simpa using h2) hk
theorem za3 {kindOf:Str→Option Vd}{x:Str}{v:Za}:∀ {P:List Str}{vs:List Za}{i:Nat}{m:Str→Option Za},P.Nodup→P[i]?=some x→vs[i]?=some v→kindOf x≠some .local →
  Nj kindOf (P.zip vs) m x=some v
 | [],_,_,_,_,h,_,_=>by simp at h
 | _::_,[],_,_,_,_,h,_=>by simp at h
 | p::P,w::vs,0,m,nd,h1,h2,hk=>by
  simp at h1 h2;subst h1;subst h2;show Nj kindOf ((p,w)::P.zip vs) m p=_;unfold Nj;rw[za4 fun v hv=>(Js.mp nd).1 (Mm hv).1,if_neg hk];simp
 | p::P,w::vs,i+1,m,nd,h1,h2,hk=>by
  show Nj kindOf ((p,w)::P.zip vs) m x=_;unfold Nj;exact za3 (i:=i) (Js.mp nd).2 (by simpa using h1) (by simpa using h2) hk
noncomputable def start (N:List Str) (vs:List V):St:=vs.map some++Qv (N.length-vs.length) none
noncomputable def cxOf (CX:CXT) (P:Qc) (w:QG) (K:ZM) (mg:Str→Option Za) (base:Je) (N:List Str) (qual:Str) (scope:Uz) (f:Zh) (cd:Za) (A:QB) (outer:List Env) (s:Zf) (H:Hp) (E:XK):Cx where
 prog:=P
 w:=w
 K:=K
 mg:=mg
 base:=base
 A:=A.deeper (Bc qual scope s.heap.objs.size f cd)
 N:=N
 s₀:=s
 H₀:=H
 env:=Bc qual scope s.heap.objs.size f cd
 outer:=outer
 stack:=Bc qual scope s.heap.objs.size f cd::outer
 ex:=[]
 calm:=true
 fn:=fun _=>true
 pn:=[]
 xe:=fun e s'=>ZF (model P w) (A.deeper (Bc qual scope s.heap.objs.size f cd)) (leaving (Bc qual scope s.heap.objs.size f cd) e) (fun _ s''=>CX outer H s E e s'') (fun e' s''=>CX outer H s E e' s'') s'
theorem zcR {sc:Uz}{n:Nat}{x:Str}(h:sc.names.lookup x=some .cell):∃c,(Su n sc.names []).lookup x=some c:=by
 have q:=Lw sc.names n [] (.inl h);exact Kq.mp q
theorem zfx {CX:CXT}{P:Qc}{w:QG}{K:ZM}{mg:Str→Option Za}{base:Je}{N ps:List Str}{qual:Str}{scope:Uz}{f:Zh}{cd:Za}{A:QB}{outer:List Env}{s s1:Zf}{H:Hp}{E:XK}{us:List Za}{vs:List V}
  (S:FnScope N ps scope) (hd:A.handled=none) (e0:Env0 P w K mg base A outer s H) (hl:vs.length=ps.length) (r:Vals vs us)
  (x:InCallC s s.heap.objs.size (Ni (Bc qual scope s.heap.objs.size f cd).kindOf (ps.zip us) fun _=>none) (Su (s.heap.objs.size+1) scope.names []) (Nj (Bc qual scope s.heap.objs.size f cd).kindOf (ps.zip us) fun _=>none) s1) :
  Inv (cxOf CX P w K mg base N qual scope f cd A outer s H E) [] (start N vs) H s1:=by
 have hpl:ps.length≤N.length:=by have:=congrArg Gz S.pre;rw[Jt]at this;omega
 obtain⟨h1,tk,rfl,hk⟩:=x.done;have noA:∀b:Zh,b∉(cxOf CX P w K mg base N qual scope f cd A outer s H E).ex:=fun b z=>absurd (show b∈([]:List Zh) from z) (by simp);refine⟨⟨e0.mod,S.kind,rfl,rfl,Zg _,fun y z c h1 h2 => ?_,fun y hy => ?_,fun y c _ h => ?_,fun _=>hd,Around.frames_deeper e0.frames,.inr ⟨rfl,rfl⟩,fun b z=>absurd z (noA b),e0.bs,e0.bsz,fun b _ _=>noA b,fun b z=>absurd z (noA b),e0.funs,e0.frf⟩,
  rfl,e0.bare,Un.kept hk,⟨_,x.toInCall.ns,fun i y v h1 h2 h3 => ?_⟩,fun y c h=>⟨_,x.cell y c h⟩,e0.hok.fresh (Zg _),fun y c h => ?_,fun p hp=>absurd (show p∈([]:List (Zh×Obj)) from hp) (by simp),e0.hok.kept hk,?_⟩
 ·exact name_of_addr x.apart (Wi h1) (Wi h2)
 ·have hy:scope.names.lookup y=some .cell∨scope.names.lookup y=some .free:=hy;rcases hy with hy | hy
  ·exact zcR hy
  ·exact absurd rfl (S.nofree _ (Wi hy))
 ·exact JL (x.above y c (Wi h))
 ·have hi:i<vs.length:=by
   unfold start at h2
   by_cases hi:i<vs.length
   ·exact hi
   ·rw[Ji (by simpa using hi)]at h2;rw[Ga]at h2;split at h2 <;> cases h2
  have ha:vs[i]?=some v:=by
   unfold start at h2;rw[Jx (by simpa using hi),Ql]at h2;cases e:vs[i]? with
   | none=>rw[e]at h2;cases h2
   | some a=>rw[e]at h2;cases h2;rfl
  obtain⟨u,hu,rv⟩:=r.get ha;have hp:ps[i]?=some y:=by
   rw[←S.pre,Tg (by omega)];exact h1
  have ndP:ps.Nodup:=by rw[←S.pre];exact S.nd.sublist (List.take_sublist _ _)
  refine⟨u,rv,?_⟩;rcases S.par y (Jw hp) with k | k
  ·exact .inl ⟨k,za5 ndP hp hu k⟩
  ·obtain⟨c,e⟩:=zcR (n:=s.heap.objs.size+1) k;refine .inr ⟨.inl k,c,e,?_⟩;have q:=x.cell y c e;rw[za3 ndP hp hu (by show scope.names.lookup y≠_;rw[k];decide)]at q;exact q
 ·exact e0.hok.fresh (JL (x.above y c (Wi h)))
 ·unfold start;show _=N.length;rw[Zx,Zi,WN];omega
theorem zmJ {CX:CXT}{P:Qc}{w:QG}{K:ZM}{mg:Str→Option Za}{base:Je}{k:Nat}{f:Zh}{name qual:Str}{params:Arguments}{body:List YZ}{scope:Uz}{dV kV doc pm cdv ct oc:Za}{an od:Option Zh}
  {osl:Array (Option Za)}{N ps:List Str}{sp:Sp}(lk:K.lookup f=some ⟨oc,od,.func (Zr name qual params body scope dV kV doc pm an cdv ct),osl⟩) (hcd:Qj K cdv qual=true) (S:FnScope N ps scope)
  (len:∀vs H Q E,sp vs H Q E→vs.length=ps.length)
  (hbody:∀(A:QB) (outer:List Env) (s:Zf) (H:Hp) (vs:List V) (Q:VK) (E:XK),Room k (A.deeper (Bc qual scope s.heap.objs.size f cdv))→sp vs H Q E →
   ∃t,PSs (cxOf CX P w K mg base N qual scope f cdv A outer s H E) body t∧t { nx:=fun _ H'=>Q .non H',rt:=Q } (start N vs) H) :
  FnOk P w K mg base CX (k+1) f (Zr name qual params body scope dV kV doc pm an cdv ct) ps sp:=by
 refine⟨len,fun A outer s H args us vs Q E hr e0 hb r hsp => ?_⟩;have hl:=len _ _ _ _ hsp;have KX:K.In s.heap:=e0.mod.kin.keeps fun b o e=>(e0.bs b o e).1;have lim:s.heap.NoLimit:=e0.mod.nolimit.keeps fun b o e=>(e0.bs b o e).1;have hkind:∀y∈ps.zip us,scope.names.lookup y.1=some .local ∨ (scope.names.lookup y.1=some .cell∧((Su (s.heap.objs.size+1) scope.names []).lookup y.1).isSome=true):=fun⟨n,v⟩ hy=>by
  rcases S.par n (Mm hy).1 with q | q
  ·exact .inl q
  ·exact .inr ⟨q,Lw _ _ _ (.inl q)⟩
 refine codeAny_call_function hr.depth (KX _ _ lk) rfl S.co S.gen rfl (PySem.W.codeRec_of KX hcd) (hb _ _ _ _ ?_);refine wpAny_newFunctionEnv_cells S.kind hkind fun env he s1 x => ?_;subst he;refine⟨lim.keeps x.toInCall.keep,codeAny_func ?_⟩;obtain⟨t,ht,hq⟩:=hbody A outer s H vs Q E (hr.deeper _) hsp;have I:Inv (cxOf CX P w K mg base N qual scope f cdv A outer s H E) [] (start N vs) H s1:=zfx S hr.hd e0 hl r x;refine VL (ht [] s1 (start N vs) H _ I hq) (fun fl s' hs => ?_) fun e s' hs=>hs;have fin:∀ {σ' : St}{H' : Hp}{v:V}{u:Za},Inv (cxOf CX P w K mg base N qual scope f cdv A outer s H E) [] σ' H' s'→RelV v u→Q v H'→CE outer P w H s Q u s' :=
  fun {σ' H' v u} J rv q=>⟨v,H',J.os,J.bare,J.base,J.hok,rv,q⟩
 cases fl with
 | ret u =>
  obtain⟨v,σ',H',J,rv,q⟩:=hs;exact fin J rv q
 | next =>
  obtain⟨σ',H',J,q⟩:=hs;exact fin (v:=V.non) (u:=Za.none) J rfl q
 | brk =>
  obtain⟨_,_,_,q⟩:=hs;exact We q
 | cont =>
  obtain⟨_,_,_,q⟩:=hs;exact We q
end L2
namespace L2
open PySem PySem.Spec PyProof.Rows
section
variable {X:Cx}{x:Str}{p pos:Pos}{e:Expr}{es:List Expr}{t:TA}{id T:String}{r:List V→Hp→VK→Prop}
noncomputable def tCB (r:List V→Hp→VK→Prop) (t:TA):TE:=fun σ H Q=>t σ H fun vs H1=>r vs H1 Q
theorem ye (hc:xH X (.builtin id) r) (hg:Gl X x) (hm:X.mg x=none) (hv:JX x=some (.builtin id)) (ha:PA X (e::es) t) (hn:autoParam (x ≠ "__name__") aTb) (hdb:autoParam ((x == ("__debug__" : Str))=false) aTb)
  (he:autoParam (Qm (e::es) X.env=(false,eval e X.env)::Qm es X.env) aTc) (hpl:autoParam ((Ke pos (Qm es X.env)).any (·.1)=false) aTc):PE X (.Call (.Name x p) (e::es) [] pos) (tCB r t):=by
 intro pins s σ H Q I h;refine WQ (xU I hg hm hv ?_ hn hdb);exact Ft (thn (ha pos pins s σ H _ I h) fun us s1=>xe5 fun vs H1 I1 r1 q1=>hc pins s1 σ H1 vs us Q I1 r1 q1) he hpl
theorem zbE (hc:xH X (.type T) r) (hg:Gl X x) (hm:X.mg x=none) (hv:JX x=some (.type T)) (ha:PA X (e::es) t) (hn:autoParam (x ≠ "__name__") aTb) (hdb:autoParam ((x == ("__debug__" : Str))=false) aTb)
  (he:autoParam (Qm (e::es) X.env=(false,eval e X.env)::Qm es X.env) aTc) (hpl:autoParam ((Ke pos (Qm es X.env)).any (·.1)=false) aTc):PE X (.Call (.Name x p) (e::es) [] pos) (tCB r t):=by
 intro pins s σ H Q I h;refine WQ (xU I hg hm hv ?_ hn hdb);exact Jm (thn (ha pos pins s σ H _ I h) fun us s1=>xe5 fun vs H1 I1 r1 q1=>hc pins s1 σ H1 vs us Q I1 r1 q1) he hpl
end
end L2
namespace HT
open PySem PyProof.Rows
theorem lexLt_cons (x y:Int) (xs ys:List Int):lexLt (x::xs) (y::ys)=if x=y then lexLt xs ys else decide (x<y):=rfl
theorem zaD:lexLt [] []=false:=rfl
theorem kC (y:Int) (ys:List Int):lexLt [] (y::ys)=true:=rfl
theorem kB (x:Int) (xs:List Int):lexLt (x::xs) []=false:=rfl
theorem zhr (A:QB) (s:Zf) (a:Int) (t:Tok) (c:Int) (u:Tok):∃e,SeqAt.EqAt A s (.int a t) (.int c u) e∧(e=true↔a=c) :=
 ⟨(a == c),SeqAt.EqAt.int_int a t c u,by simp⟩
theorem ziw (A:QB) (s:Zf) (a:Int) (t:Tok) (c:Int) (u:Tok) (prog:Qc) (w:QG) (E:Za→Zf→Prop) (Q:Za→Zf→Prop) (h:Q (.bool (decide (a<c))) s) :
  ZF (model prog w) A (richCompare .Lt (.int a t) (.int c u)) Q E s :=
 (Fq h:ZF (model prog w) A (JS .Lt (.int a t) (.int c u)) Q E s)
section
open PySem.SeqAt
open PySem.AutoSeq1 (wpAny_loadPart')
open PySem.MeetsSeq PySem.MeetsSeq2 PySem.MeetsSeq3
theorem zaZ (l b:Zh) (items items2:Array Za) (n n2:Nat) (dd dd2:Option Zh) (sl sl2:Array (Option Za)) (ns ms:List Int) (hi:Wn items.toList ns) (hj:Wn items2.toList ms) :
  Cw (Builtin.«tuple.__lt__» ⟨[.ref l,.ref b],[]⟩)
   (fun _ R s=>s.heap.get? l=some { cls:=.type "tuple",dict:=dd,data:=.seq items n,slots:=sl }∧s.heap.get? b=some { cls:=.type "tuple",dict:=dd2,data:=.seq items2 n2,slots:=sl2 } ∧
    R (.ok (.ret (.bool (lexLt ns ms)))) s) :=
 .of_wp fun prog w A R s h=>by
  obtain⟨hp,g,d,tk,os⟩:=s;obtain⟨hl,hb,h⟩:=h;have f2:=Yg;have z1:items.size=ns.length:=by rw[←hi.length];simp
  have z2:items2.size=ms.length:=by rw[←hj.length];simp
  wp_walk using Wh hl,Wh hb,CV _ (fun rest b s'=>b.1=none∧s'=⟨hp,g,d,tk,os⟩∧∃(vs ws:List Za) (ns' ms' : List Int),rest=vs.zip ws ∧
   Wn vs ns'∧Wn ws ms'∧ns'.length+items2.size=ms'.length+items.size∧R (.ok (.ret (.bool (lexLt ns' ms')))) ⟨hp,g,d,tk,os⟩) _
  case turn =>
   rintro⟨y,x⟩ rest b s' ⟨hb',rfl,vs,ws,ns',ms',hz,hvi,hwi,hlen,hR⟩;cases hvi with
   | nil=>rw[Dj]at hz;cases hz
   | cons a t hvi' =>
    cases hwi with
    | nil=>rw[Nr]at hz;cases hz
    | cons c u hwi' =>
     rw[Jz]at hz;injection hz with hyx hrest
     injection hyx with hy hx
     subst hy hx;rw[lexLt_cons]at hR;simp only[Zz]at hlen;obtain⟨e,he,hiff⟩:=zhr A.in1 ⟨hp,g,d,tk,os⟩ a t c u;refine Zc (he prog w _ _ ?_);cases e with
     | true =>
      rw[if_pos (hiff.mp rfl)]at hR
      wp_walk
      exact⟨rfl,rfl,_,_,_,_,hrest,hvi',hwi',by omega,hR⟩
     | false =>
      rw[if_neg (fun q=>absurd (hiff.mpr q) Jd)]at hR;have hri:=ziw A.in1 ⟨hp,g,d,tk,os⟩ a t c u prog w
      wp_walk using hri
      exact⟨_,rfl,by simpa using hR⟩
  case fin =>
   rintro⟨b1,b2⟩ s' ⟨hb',rfl,vs,ws,ns',ms',hz,hvi,hwi,hlen,hR⟩;simp only at hb';subst hb';have hv:lexLt ns' ms'=decide (items.size<items2.size):=by
    cases hvi with
    | nil =>
     cases hwi with
     | nil =>
      simp only[JQ]at hlen;rw[zaD];exact(decide_eq_false (by omega)).symm
     | cons c u hw =>
      simp only[JQ,Zz]at hlen;rw[kC];exact(decide_eq_true (by omega)).symm
    | cons a t hv =>
     cases hwi with
     | nil =>
      simp only[JQ,Zz]at hlen;rw[kB];exact(decide_eq_false (by omega)).symm
     | cons c u hw =>
      rw[Jz]at hz;cases hz
   rw[hv]at hR
   wp_walk
   exact⟨_,rfl,by simpa[Gv] using hR⟩
  case h =>
   exact⟨rfl,rfl,items.toList,items2.toList,ns,ms,rfl,hi,hj,by omega,h⟩
end
section
variable {prog:Qc}{w:QG}{A:QB}{E:Za→Zf→Prop}{s:Zf}
theorem lt_tupInts {l b:Zh}{items items2:Array Za}{ns ms:List Int}{Q:Za→Zf→Prop}(hl:VP s.heap l items) (hb:VP s.heap b items2) (hi:Wn items.toList ns) (hj:Wn items2.toList ms)
  (hu:A.units<VF) (h:Q (.bool (lexLt ns ms)) s):ZF (model prog w) A (JS .Lt (.ref l) (.ref b)) Q E s:=by
 obtain⟨⟨cls,dd,data,sl⟩,ho,hc,n,hd⟩:=id hl;obtain⟨⟨cls2,dd2,data2,sl2⟩,ho2,hc2,n2,hd2⟩:=id hb;simp only at hc hd hc2 hd2;subst hc hd hc2 hd2;exact NP (op:=.Lt) ⟨_,ho,rfl⟩ ⟨_,ho2,rfl⟩ Td Ly (Li _ _) (zaZ l b items items2 n n2 dd dd2 sl sl2 ns ms hi hj)
  ⟨ho,ho2,show Za.bool (lexLt ns ms)≠Za.notImplemented∧Q (.bool (lexLt ns ms)) s from⟨(fun x=>nomatch x),h⟩⟩ hu
theorem cat_tup {t b:Zh}{vs ws:List Za}{Q:Za→Zf→Prop}(ht:VP s.heap t vs.toArray) (hb:VP s.heap b ws.toArray) (hv:vs≠[])
  (h1:ws=[]→Q (.ref t) s) (h2:ws≠[]→Q (.ref s.heap.objs.size) { s with heap:=s.heap.push { cls:=.type "tuple",data:=.seq (vs++ws).toArray } })
  (hsz:vs.length+ws.length≤Zu):ZF (model prog w) A (Wl .Add (.ref t) (.ref b)) Q E s:=by
 obtain⟨⟨cls,dd,data,sl⟩,ho,hc,n,hd⟩:=id ht;obtain⟨⟨cls2,dd2,data2,sl2⟩,ho2,hc2,n2,hd2⟩:=id hb;simp only at hc hd hc2 hd2;subst hc hd hc2 hd2;have e:vs.toArray++ws.toArray=(vs++ws).toArray:=by simp
 by_cases hw:ws=[]
 ·exact My ⟨_,ho,rfl⟩ ⟨_,ho2,rfl⟩ Gx By Yv Yp (Yh _ _)
   (tuple_addW1 t b vs.toArray ws.toArray n n2 dd dd2 sl sl2 (by simpa using hv) (by simp[hw])) ⟨ho,ho2,h1 hw⟩
 ·refine My ⟨_,ho,rfl⟩ ⟨_,ho2,rfl⟩ Gx By Yv Yp (Yh _ _)
   (tuple_addW2 t b vs.toArray ws.toArray n n2 dd dd2 sl sl2 (by simpa using hv) (by simpa using hw) (by rw[Zv,Zv];exact hsz)) ⟨ho,ho2,?_⟩
  rw[e];exact h2 hw
theorem zmm (n d:Nat) (hd:d≤n) (o:Option Int):sIx n d o≤n:=by
 cases o with
 | none=>exact hd
 | some v =>
  show(if v<0 then(v+(n:Int)).toNat else min v.toNat n)≤n
  by_cases hv:v<0
  ·rw[if_pos hv];omega
  ·rw[if_neg hv];exact Py _ _
theorem zeP (v:Int) (n d:Nat):(if v<0 then max (v+(n:Int)) 0 else min v (n:Int))=((sIx n d (some v):Nat):Int):=by
 show(if v<0 then max (v+(n:Int)) 0 else min v (n:Int))=(((if v<0 then(v+(n:Int)).toNat else min v.toNat n):Nat):Int)
 by_cases hv:v<0
 ·simp only[if_pos hv];omega
 ·simp only[if_neg hv];omega
theorem zdP (lo hi:Option Int) (n:Nat):Uj lo hi 1 (n:Int)=(((sIx n 0 lo:Nat):Int),((sIx n n hi:Nat):Int)):=by
 have h1:¬((1:Int)<0):=by omega
 unfold Uj;simp only[h1,if_false];refine Rz ?_ ?_
 ·cases lo with
  | none=>rfl
  | some v=>exact zeP v n 0
 ·cases hi with
  | none=>rfl
  | some v=>exact zeP v n n
theorem zec (i j:Nat):WD (i:Int) (j:Int) 1=j-i:=by
 unfold WD;have h1:(1:Int)>0:=by omega
 simp only[h1,if_true,Int.ediv_one];split <;> omega
theorem zaj {v:Za}{o:Option Int}{Q:Option Int→Zf→Prop}(p:Bk v o) (h:Q o s):ZF (model prog w) A (Ff v) Q E s:=by
 cases p with
 | none=>exact slicePart_none h
 | int i t=>exact slicePart_int h
theorem sliceApplied_gen {sl:Zh}{vl vu:Za}{lo hi:Option Int}{n:Nat}{Q:Int×Int×Nat→Zf→Prop}(hs:s.heap.IsSliceOf sl vl vu .none) (pl:Bk vl lo) (pu:Bk vu hi)
  (h:Q (((sIx n 0 lo:Nat):Int),1,sIx n n hi-sIx n 0 lo) s):ZF (model prog w) A (Er (.ref sl) (pure (n:Int))) Q E s:=by
 obtain⟨os,hos,hcs,hds⟩:=id hs;unfold Er Fg;refine Zc (Zc (Vg hos hds (x:=vl) rfl (Zc (Vg hos hds (x:=vu) rfl (Zc (Vg hos hds (x:=.none) rfl (Zj ?_)))))));refine Zc (slicePart_none ?_);show ZF _ _ (if((1:Int) == 0)=true then _ else _) _ _ s;rw[if_neg (by decide)];refine Zc (zaj pl (Zc (zaj pu (Zc (Zj ?_)))));show ZF _ _ (match Uj lo hi 1 (n:Int) with | (lo,hi)=>pure (lo,(1:Int),WD lo hi 1)) _ _ s;rw[zdP lo hi n];show ZF _ _ (pure (((sIx n 0 lo:Nat):Int),(1:Int),WD ((sIx n 0 lo:Nat):Int) ((sIx n n hi:Nat):Int) 1)) _ _ s;rw[zec];exact Zj h
theorem zii (xs:Array Za) (i k:Nat):((ZJ k).filterMap fun(m:Nat)=>xs[((i:Int)+(m:Int)*1).toNat]?).toArray=((xs.toList.drop i).take k).toArray:=by
 have e:(fun(m:Nat)=>xs[((i:Int)+(m:Int)*1).toNat]?)=fun m=>xs[i+m]?:=by
  funext m;have:((i:Int)+(m:Int)*1).toNat=i+m:=by omega
  rw[this]
 rw[e];have:=pick_run xs i k;rw[List.filterMap_map]at this;have e2:((fun x=>xs[x]?)∘fun x=>i+x)=fun m=>xs[i+m]?:=rfl;rw[e2]at this;rw[this]
theorem getItem_tuple_cut {t sl:Zh}{items:Array Za}{vl vu:Za}{lo hi:Option Int}{Q:Za→Zf→Prop}(ht:VP s.heap t items) (hs:s.heap.IsSliceOf sl vl vu .none) (pl:Bk vl lo) (pu:Bk vu hi)
  (hw:¬(sIx items.size 0 lo=0∧sIx items.size items.size hi=items.size))
  (h:Q (.ref s.heap.objs.size) { s with heap:=s.heap.push { cls:=.type "tuple",data:=.seq ((items.toList.drop (sIx items.size 0 lo)).take (sIx items.size items.size hi-sIx items.size 0 lo)).toArray } })
  (hsz:items.size≤Zu):ZF (model prog w) A (Gf (.ref t) (.ref sl)) Q E s:=by
 have htake:sizeOk (.seq ((items.toList.drop (sIx items.size 0 lo)).take (sIx items.size items.size hi-sIx items.size 0 lo)).toArray):=by
  show((items.toList.drop (sIx items.size 0 lo)).take (sIx items.size items.size hi-sIx items.size 0 lo)).toArray.size≤Zu;rw[Zv,Jt,Wo,Qh];omega
 have hj:sIx items.size items.size hi≤items.size:=zmm _ _ (Zg _) hi;obtain⟨os,hos,hcs,hds⟩:=id hs;have hTs:s.TypeIs (.ref sl) "slice" := ⟨os,hos,hcs⟩
 unfold Gf
 try with_reducible refine JW ?_
 first | refine Zc (Zj ?_) | skip
 refine Zc (Cd ht.typeIs (by decide) ?_);refine Zc (JR (name:=Vp "__getitem__") ht.typeIs JD
  (JK JD ht.typeIs PQ ?_ (Hx _ _)))
 show ZF _ _ (Ep (.ref t) >>= _) _ _ s;refine Zc (tupleItemsOf_ ht ?_);refine Zc (Uc hTs ?_);rw[if_pos (by decide)];refine Zc (sliceApplied_gen hs pl pu ?_);have hno:¬((((sIx items.size 0 lo:Nat):Int) == 0&&(1:Int) == 1&&(sIx items.size items.size hi-sIx items.size 0 lo) == items.size)=true):=by
  intro q;rw[QM,QM]at q;have q1:((sIx items.size 0 lo:Nat):Int)=0:=Ls q.1.1;have q2:sIx items.size items.size hi-sIx items.size 0 lo=items.size:=Ls q.2;exact hw ⟨by omega,by omega⟩
 show ZF _ _ (if(((sIx items.size 0 lo:Nat):Int) == 0&&(1:Int) == 1&&(sIx items.size items.size hi-sIx items.size 0 lo) == items.size)=true then _ else _) _ _ s;rw[if_neg hno,zii]
 first
  | exact Zc (m:=Vk _) (Jo (Zj ⟨_,rfl,Zj h⟩) htake)
  | exact Zc (m:=Vk _) (Jo (Zc (Zj (Zj ⟨_,rfl,Zj h⟩))) htake)
  | exact Zc (Zc (m:=Vk _) (Jo (Zj (Zj ⟨_,rfl,Zj h⟩)) htake))
  | exact Zc (Zc (m:=Vk _) (Jo (Zj ⟨_,rfl,Zj h⟩) htake))
end
end HT
namespace L2
open PySem PySem.Spec PyProof.Rows
noncomputable abbrev TO:=St→Hp→(Option Int→Hp→Prop)→Prop
noncomputable def PO (X:Cx) (e:Option Expr) (t:TO):Prop :=
 ∀(pins:List (Zh×Obj)) (s:Zf) (σ:St) (H:Hp) (Q:Option Int→Hp→Prop),Inv X pins σ H s→t σ H Q →
  ZF (model X.prog X.w) X.A (evalPart e X.env) (fun u s'=>∃o H',Inv X pins σ H' s'∧Bk u o∧Q o H') X.xe s
noncomputable def zkX:TO:=fun _ H Q=>Q none H
noncomputable def zm8 (t:TE):TO:=fun σ H Q=>t σ H fun x H1=>∃i,x=.int i∧Q (some i) H1
theorem intsAre_of {ns:List Int}:∀ {us:List Za},Vals (ns.map V.int) us→Wn us ns:=by
 induction ns with
 | nil=>intro us r;rw[YD]at r;cases r;exact .nil
 | cons n ns ih =>
  intro us r;rw[Zk]at r;cases r with
  | cons r1 r2 =>
   obtain⟨t,e⟩:=r1;subst e;exact .cons n t (ih r2)
section
variable {X:Cx}{e:Expr}{te:TE}{lo hi:Option Expr}{tl th:TO}{pos p2:Pos}
theorem zkt:PO X none zkX:=by
 intro pins s σ H Q I h;rw[evalPart_none];exact Zj ⟨none,H,I,.none,h⟩
theorem zku (h:PE X e te):PO X (some e) (zm8 te):=by
 intro pins s σ H Q I hw;rw[evalPart_some];refine thn (h pins s σ H _ I hw) fun u s1=>xe5 fun x H1 I1 r1 q1 => ?_;obtain⟨i,rfl,q⟩:=q1;obtain⟨t,rfl⟩:=r1;exact⟨some i,H1,I1,.int i t,q⟩
noncomputable def SlR (X:Cx) (r:V→Option Int→Option Int→Hp→VK→Prop):Prop :=
 ∀(pins:List (Zh×Obj)) (s:Zf) (σ:St) (H:Hp) (x:V) (v vl vu:Za) (lo hi:Option Int) (sl:Zh) (Q:VK),Inv X pins σ H s→RelV x v→s.heap.IsSliceOf sl vl vu .none→Bk vl lo→Bk vu hi→r x lo hi H Q →
  ∃T id,typeLookup (.type T) "__getitem__" = pure (some (.builtin id))∧s.TypeIs v T∧ZF (model X.prog X.w) X.A (Gf v (.ref sl)) (EP X pins σ Q) X.xe s
theorem SlR.or {r r' : V→Option Int→Option Int→Hp→VK→Prop}(h:SlR X r) (h' : SlR X r'):SlR X (fun x lo hi H Q=>r x lo hi H Q∨r' x lo hi H Q):=by
 intro pins s σ H x v vl vu lo hi sl Q I rx hs pl pu q;rcases q with q | q
 ·exact h pins s σ H x v vl vu lo hi sl Q I rx hs pl pu q
 ·exact h' pins s σ H x v vl vu lo hi sl Q I rx hs pl pu q
noncomputable def tSl (r:V→Option Int→Option Int→Hp→VK→Prop) (te:TE) (tl th:TO):TE:=fun σ H Q=>te σ H fun x H1=>tl σ H1 fun l H2=>th σ H2 fun u H3=>r x l u H3 Q
theorem zie {r:V→Option Int→Option Int→Hp→VK→Prop}(hr:SlR X r) (he:PE X e te) (hl:PO X lo tl) (hu:PO X hi th):PE X (.Subscript e (.Slice lo hi none p2) pos) (tSl r te tl th):=by
 intro pins s σ H Q I h;refine Hy (thn (he pins s σ H _ I h) fun v s1=>xe5 fun x H1 I1 r1 q1 => ?_);refine wpAny_Slice (thn (hl pins s1 σ H1 _ I1 q1) fun vl s2 ⟨l,H2,I2,pl,q2⟩=>thn (hu pins s2 σ H2 _ I2 q2) fun vu s3 hZq => ?_);obtain⟨u,H3,I3,pu,q3⟩:=hZq;rw[evalPart_none];refine Zj ?_;have I4:Inv X pins σ H3 { s3 with heap:=s3.heap.push { cls:=.type "slice",data:=.fields #[vl,vu,.none] } }:=I3.kept (t':=s3.toks) fun b ob q=>Ze _ q;obtain⟨T,id,hT,ht,hg⟩:=hr pins { s3 with heap:=s3.heap.push { cls:=.type "slice",data:=.fields #[vl,vu,.none] } } σ H3 x v vl vu l u s3.heap.objs.size Q I4 r1 (CN ..) pl pu q3;show ZF (model X.prog X.w) X.A (RP e (.Slice lo hi none p2) v (.ref s3.heap.objs.size)) (EP X pins σ Q) X.xe { s3 with heap:=s3.heap.push { cls:=.type "slice",data:=.fields #[vl,vu,.none] } };exact tail_any (ops:=[.ref s3.heap.objs.size,v]) ht hT hg (by with_unfolding_all rfl)
noncomputable def cutV (xs:List V) (lo hi:Option Int):List V:=(xs.drop (HT.sIx xs.length 0 lo)).take (HT.sIx xs.length xs.length hi-HT.sIx xs.length 0 lo)
theorem vO (xs:List V) (lo hi:Option Int):(cutV xs lo hi).length≤xs.length:=by
 unfold cutV;rw[Jt,Wo];omega
noncomputable def rSlT (K:ZM):V→Option Int→Option Int→Hp→VK→Prop:=fun x lo hi H Q=>∃a xs,x=.ref a∧SqT K H a xs ∧
 ¬(HT.sIx xs.length 0 lo=0∧HT.sIx xs.length xs.length hi=xs.length)∧∀p,H p=none→Q (.ref p) (upd H p (.tup (cutV xs lo hi)))
theorem zmn:SlR X (rSlT X.K):=by
 intro pins s σ H x v vl vu lo hi sl Q I rx hs pl pu h;obtain⟨a,xs,rfl,hx,hw,q⟩:=h;cases rx;obtain⟨its,r,ht,hz⟩:=I.tuple hx;have hlen:its.toArray.size=xs.length:=by rw[Zv];exact r.length.symm
 refine⟨"tuple",_,JD.lookup,ht.typeIs,?_⟩;refine HT.getItem_tuple_cut ht hs pl pu (by rw[hlen];exact hw) ?_ (by rw[hlen];exact hz);rw[hlen];refine⟨.ref s.heap.objs.size,_,I.laid (t':=s.toks) (o:=.tup (cutV xs lo hi)) (fun b ob q=>Ze _ q) (Zg _) ?_,rfl,q _ (I.hok.fresh (Zg _))⟩;exact⟨Zt (vO xs lo hi) hz,_,(r.drop (HT.sIx xs.length 0 lo)).take (HT.sIx xs.length xs.length hi-HT.sIx xs.length 0 lo),Th _ _⟩
theorem Vals.nil_iff {xs:List V}{us:List Za}(r:Vals xs us):us=[]↔xs=[]:=by
 cases r with
 | nil=>simp
 | cons _ _=>simp
end
end L2
namespace L2
open PySem PySem.Spec PyProof.Rows
theorem zfB {n:Nat}{i:Int}{j:Nat}(h:ixN n i=some j):seqIndex? i n=some j∧j<n∧-(n:Int)≤i∧i<n:=by
 unfold ixN at h
 by_cases h0:0≤i
 ·rw[if_pos h0]at h
  by_cases h1:i<n
  ·rw[if_pos h1]at h;have e:i.toNat=j:=QT h;exact⟨by rw[Pg h0 h1,e],by omega,by omega,h1⟩
  ·rw[if_neg h1]at h;cases h
 ·rw[if_neg h0]at h
  by_cases h1:-(n:Int)≤i
  ·rw[if_pos h1]at h;have e:(i+n).toNat=j:=QT h;exact⟨by rw[NK (by omega) h1,e],by omega,h1,by omega⟩
  ·rw[if_neg h1]at h;cases h
theorem wD {α:Type}{xs:List α}{i:Int}{v:α}(h:atI xs i=some v):∃j,seqIndex? i xs.length=some j∧xs[j]?=some v∧j<xs.length∧-(xs.length:Int)≤i∧i<xs.length:=by
 unfold atI at h;cases e:ixN xs.length i with
 | none=>rw[e]at h;cases h
 | some j =>
  rw[e]at h;obtain⟨h1,h2,h3,h4⟩:=zfB e;exact⟨j,h1,h,h2,h3,h4⟩
theorem yz {α:Type}{xs:List α}{j:Nat}{v:α}(h:xs[j]?=some v):atI xs (j:Int)=some v:=by
 have hj:j<xs.length:=(Qa.mp h).1;have e:ixN xs.length (j:Int)=some j:=by
  unfold ixN;rw[if_pos (by omega),if_pos (by omega)];simp
 unfold atI;rw[e];exact h
noncomputable def zb5 (b:Expr):Prop:=∀o i,subscripted b false o i=operate [o,i] (Gf o i)
noncomputable def IxR (X:Cx) (r:R2):Prop :=
 ∀(value slice:Expr) (pins:List (Zh×Obj)) (s:Zf) (σ:St) (H:Hp) (x y:V) (v u:Za) (Q:VK),Inv X pins σ H s→RelV x v→RelV y u→r x y H Q →
  subscripted slice false v u=operate [v,u] (Gf v u)→ZF (model X.prog X.w) X.A (RP value slice v u) (EP X pins σ Q) X.xe s
noncomputable def MtR (X:Cx) (id:String) (r:V→List V→Hp→VK→Prop):Prop :=
 ∀(pins:List (Zh×Obj)) (s:Zf) (σ:St) (H:Hp) (x:V) (xs:List V) (v:Za) (us:List Za) (Q:VK),Inv X pins σ H s→RelV x v→Vals xs us→r x xs H Q →
  ZF (model X.prog X.w) X.A (call (.builtin id) (v::us)) (EP X pins σ Q) X.xe s
section
variable {X:Cx}{a b:Expr}{ta tb:TE}{pos:Pos}
theorem IxR.or {r r' : R2}(h:IxR X r) (h' : IxR X r'):IxR X (fun x y H Q=>r x y H Q∨r' x y H Q):=by
 intro value slice pins s σ H x y v u Q I rx ry q hs;rcases q with q | q
 ·exact h value slice pins s σ H x y v u Q I rx ry q hs
 ·exact h' value slice pins s σ H x y v u Q I rx ry q hs
theorem MtR.or {id:String}{r r' : V→List V→Hp→VK→Prop}(h:MtR X id r) (h' : MtR X id r'):MtR X id (fun x xs H Q=>r x xs H Q∨r' x xs H Q):=by
 intro pins s σ H x xs v us Q I rx rs q;rcases q with q | q
 ·exact h pins s σ H x xs v us Q I rx rs q
 ·exact h' pins s σ H x xs v us Q I rx rs q
theorem zl0 {r:R2}(hr:IxR X r) (ha:PE X a ta) (hb:PE X b tb) (hs:zb5 b):PE X (.Subscript a b pos) (tOp r ta tb):=by
 intro pins s σ H Q I h;exact Hy (binT ha hb I h fun v u s2 x y H2 I2 rx ry q=>hr a b pins s2 σ H2 x y v u Q I2 rx ry q (hs _ _))
noncomputable def rIxL (K:ZM):R2:=fun x y H Q=>∃p xs i v,x=.ref p∧y=.int i∧SqL K H p xs∧atI xs i=some v∧Q v H
noncomputable def rIxT (K:ZM):R2:=fun x y H Q=>∃p xs i v,x=.ref p∧y=.int i∧SqT K H p xs∧atI xs i=some v∧Q v H
noncomputable def rIxS:R2:=fun x y H Q=>∃z i c,x=.str z∧y=.int i∧z.length≤Zu∧atI z.cps.toList i=some c∧Q (.str ⟨#[c]⟩) H
theorem zfC:IxR X (rIxL X.K):=by
 intro value slice pins s σ H x y v u Q I rx ry h hs;obtain⟨p,xs,i,z,rfl,rfl,hq,he,q⟩:=h;cases rx;obtain⟨t,rfl⟩:=ry;obtain⟨its,r,pl,hz⟩:=I.list hq;obtain⟨j,h1,h2,h3,h4,h5⟩:=wD he;obtain⟨w,ew,rw'⟩:=r.get h2;have hl:=r.length;have hn:=kX;have fin:EP X pins σ Q w s:=⟨z,H,I,rw',q⟩
 by_cases h0:0≤i
 ·have hj:i.toNat=j:=by
   rw[Pg h0 h5]at h1;exact QT h1
  exact item_listR pl.isList h0 (by omega) (by rw[hj];simpa using ew) fin hs
 ·have hj:(i+(its.toArray.size:Int)).toNat=j:=by
   rw[NK (by omega) h4]at h1;rw[Zv,←hl];exact QT h1
  exact NB (x:=w) pl.isList.typeIs Cj.lookup
   (wpAny_getItem_list_neg (Q:=fun r s'=>r=w∧EP X pins σ Q r s') pl.isList (by omega) (by rw[Zv] <;> omega) (by omega) (by rw[hj];simpa using ew) ⟨rfl,fin⟩) hs
theorem zlx:IxR X (rIxT X.K):=by
 intro value slice pins s σ H x y v u Q I rx ry h hs;obtain⟨p,xs,i,z,rfl,rfl,hq,he,q⟩:=h;cases rx;obtain⟨t,rfl⟩:=ry;obtain⟨its,r,pl,hz⟩:=I.tuple hq;obtain⟨j,h1,h2,h3,h4,h5⟩:=wD he;obtain⟨w,ew,rw'⟩:=r.get h2;have hl:=r.length;have hn:=kX;have fin:EP X pins σ Q w s:=⟨z,H,I,rw',q⟩
 exact NB (x:=w) pl.typeIs JD.lookup
  (getItem_tuple (j:=j) (Q:=fun r s'=>r=w∧EP X pins σ Q r s') pl (by omega) (by omega) (by rw[Zv,←hl];exact h1) (by simpa using ew) ⟨rfl,fin⟩) hs
theorem zlw:IxR X rIxS:=by
 intro value slice pins s σ H x y v u Q I rx ry h hs;obtain⟨z,i,c,rfl,rfl,hz,he,q⟩:=h;obtain⟨t,rfl⟩:=rx;obtain⟨t',rfl⟩:=ry;obtain⟨j,h1,h2,h3,h4,h5⟩:=wD he;have hl:z.cps.toList.length=z.length:=by simp[Str.length]
 rw[hl]at h1 h4 h5;have hn:=kX;exact tail_any (typeIs_str s z t) slot_str_getitem.lookup (getItem_str (c:=c) (by
  have e1:decide (i < -(2^63:Int))=false:=decide_eq_false (by omega);have e2:decide (i≥2^63)=false:=decide_eq_false (by omega);rw[e1,e2,Kz]) (by rw[h1];simpa using h2) ⟨.str ⟨#[c]⟩,H,I.tok _,⟨_,rfl⟩,q⟩) hs
noncomputable def rIx (K:ZM):R2:=fun x y H Q=>rIxL K x y H Q∨rIxT K x y H Q∨rIxS x y H Q
theorem zlv:IxR X (rIx X.K):=zfC.or (zlx.or zlw)
theorem zd4 (its:List Za) (n j:Nat) (u:Za):QR (·.setIfInBounds j u) { cls:=.type "list",data:=.seq its.toArray n }={ cls:=.type "list",data:=.seq (its.set j u).toArray n }:=by
 simp[QR]
theorem Inv.lst {pins:List (Zh×Obj)}{σ:St}{H:Hp}{s:Zf}{p:Zh}{xs:List V}(I:Inv X pins σ H s) (h:H p=some (.lst xs)) :
  ∃(its:List Za) (n:Nat),Vals xs its∧s.heap.get? p=some { cls:=.type "list",data:=.seq its.toArray n }∧xs.length≤Zu:=by
 obtain⟨z,its,n,r,e⟩:=I.hok p _ h;exact⟨its,n,r,e,z⟩
theorem Inv.lstUpd {pins:List (Zh×Obj)}{σ:St}{H:Hp}{s:Zf}{p:Zh}{xs ys:List V}{its its' : List Za}{n n' : Nat}{f:Obj→Obj}(I:Inv X pins σ H s) (h:H p=some (.lst xs))
  (ho:s.heap.get? p=some { cls:=.type "list",data:=.seq its.toArray n }) (hf:f { cls:=.type "list",data:=.seq its.toArray n }={ cls:=.type "list",data:=.seq its'.toArray n' }) (r:Vals ys its') (hz:ys.length≤Zu) (t:Nat) :
  Inv X pins σ (upd H p (.lst ys)) { s with heap:=s.heap.update p f,toks:=t }:=by
 have e:(s.heap.update p f).get? p=some { cls:=.type "list",data:=.seq its'.toArray n' }:=by
  rw[Vm f ho (by rw[hf] <;> rfl),hf]
 refine I.write (x:=p) (e:=p) (by rw[h];trivial) (.inl rfl) (fun b u hb q=>(JV _ _ (Wf hb)).trans q) ⟨_,e⟩ ?_;exact⟨hz,its',n',r,e⟩
noncomputable def zmX:V→V→V→Hp→(Hp→Prop)→Prop:=fun o i v H Q=>∃p xs k j,o=.ref p∧i=.int k∧H p=some (.lst xs)∧ixN xs.length k=some j∧Q (upd H p (.lst (xs.set j v)))
theorem set_list:PSet X zmX:=by
 intro pins s σ H o i v ov iv u Q I ro ri rv h;obtain⟨p,xs,k,j,rfl,rfl,hp,hj,q⟩:=h;cases ro;obtain⟨t,rfl⟩:=ri;obtain⟨its,n,r,ho,hz⟩:=I.lst hp;obtain⟨h1,h2,h3,h4⟩:=zfB hj;have hl:=r.length;have hn:=kX;have I' : Inv X pins σ (upd H p (.lst (xs.set j v))) { s with heap:=s.heap.update p (QR (·.setIfInBounds j u)) } :=
  I.lstUpd hp ho (zd4 its n j u) (r.set rv j) (by rw[JP];exact hz) s.toks
 by_cases h0:0≤k
 ·have hk:k.toNat=j:=by
   rw[Pg h0 h4]at h1;exact QT h1
  exact PySem.W.ki_setAt ho h0 (by omega) (by rw[Zv,←hl];exact h4) (by rw[hk];exact⟨_,I',q⟩)
 ·have hk:(k+(its.toArray.size:Int)).toNat=j:=by
   rw[NK (by omega) h3]at h1;rw[Zv,←hl];exact QT h1
  exact PySem.W.ki_setBack ho (by omega) (by rw[Zv,←hl];exact h3) (by omega) (by rw[hk];exact⟨_,I',q⟩)
theorem zbR (lo hi:Option Int) (n:Nat):(Uy lo hi none n).1=((HT.sIx n 0 lo:Nat):Int)∧(Uy lo hi none n).2.1=((HT.sIx n n hi:Nat):Int)∧(Uy lo hi none n).2.2=1:=by
 refine⟨?_,?_,rfl⟩
 ·cases lo with
  | none=>simp[Uy,HT.sIx]
  | some i =>
   simp only[Uy,HT.sIx,Np,show(1:Int)>0 by decide,if_true]
   by_cases h:i<0
   ·simp only[h,if_true] <;> omega
   ·simp only[h,if_false] <;> omega
 ·cases hi with
  | none=>simp[Uy,HT.sIx]
  | some i =>
   simp only[Uy,HT.sIx,Np,show(1:Int)>0 by decide,if_true]
   by_cases h:i<0
   ·simp only[h,if_true] <;> omega
   ·simp only[h,if_false] <;> omega
theorem zaO (its:List Za) (lo hi:Option Int):slicePick its.toArray lo hi none=((its.drop (HT.sIx its.length 0 lo)).take (HT.sIx its.length its.length hi-HT.sIx its.length 0 lo)).toArray:=by
 obtain⟨h1,h2,h3⟩:=zbR lo hi its.toArray.size;unfold slicePick;rw[h1,h2,h3];simp only[sliceRange_one,pick_run,Zv] <;> rfl
noncomputable def rSlL (K:ZM):V→Option Int→Option Int→Hp→VK→Prop:=fun x lo hi H Q=>∃a xs,x=.ref a∧SqL K H a xs∧∀p,H p=none→Q (.ref p) (upd H p (.lst (cutV xs lo hi)))
theorem zkQ:SlR X (rSlL X.K):=by
 intro pins s σ H x v vl vu lo hi sl Q I rx hs pl pu h;obtain⟨a,xs,rfl,hx,q⟩:=h;cases rx;obtain⟨its,r,ht,hz⟩:=I.list hx;have hlen:=r.length;refine⟨"list",_,Cj.lookup,ht.isList.typeIs,?_⟩;refine wpAny_getItem_list_slice ht.isList hs pl pu .none (by simp) ?_ (by rw[Zv] <;> omega);rw[zaO,←hlen];refine⟨.ref s.heap.objs.size,_,I.laid (t':=s.toks) (o:=.lst (cutV xs lo hi)) (fun b ob q=>Ze _ q) (Zg _) ?_,rfl,q _ (I.hok.fresh (Zg _))⟩;exact⟨Zt (vO xs lo hi) hz,_,0,(r.drop (HT.sIx xs.length 0 lo)).take (HT.sIx xs.length xs.length hi-HT.sIx xs.length 0 lo),Zy _ rfl⟩
theorem xM:xH X (.builtin "len") (fun xs H Q=>∃p ys,xs=[.ref p]∧(SqL X.K H p ys∨SqT X.K H p ys)∧Q (.int ys.length) H):=by
 intro pins s σ H xs us Q I r h;obtain⟨p,ys,rfl,hq,q⟩:=h;obtain⟨u,rfl,rx⟩:=vals1 r;cases rx;have hn:=kX;rcases hq with hq | hq
 ·obtain⟨its,r',pl,hz⟩:=I.list hq;have hlen:=r'.length;exact Calls.call_len_list pl.isList (by simp only[Zv] <;> omega) ⟨.int ys.length,H,I.tok _,⟨s.toks+1,by rw[Zv,hlen]⟩,q⟩
 ·obtain⟨its,r',pl,hz⟩:=I.tuple hq;have hlen:=r'.length;exact len_tuple pl (by simp only[Zv] <;> omega) ⟨.int ys.length,H,I.tok _,⟨s.toks+1,by rw[Zv,hlen]⟩,q⟩
theorem xH.or {f:Za}{r r' : List V→Hp→VK→Prop}(h:xH X f r) (h' : xH X f r'):xH X f (fun xs H Q=>r xs H Q∨r' xs H Q):=by
 intro pins s σ H xs us Q I rs q;rcases q with q | q
 ·exact h pins s σ H xs us Q I rs q
 ·exact h' pins s σ H xs us Q I rs q
theorem zba:xH X (.type "list") (fun xs H Q=>∃p ys,xs=[.ref p]∧(SqL X.K H p ys∨SqT X.K H p ys)∧∀l,H l=none→Q (.ref l) (upd H l (.lst ys))):=by
 intro pins s σ H xs us Q I r h;obtain⟨p,ys,rfl,hq,q⟩:=h;obtain⟨u,rfl,rx⟩:=vals1 r;cases rx;have fin:∀(its:List Za),Vals ys its→ys.length≤Zu→∀(h' : Je) (c' : Nat),(∀b o',s.heap.get? b=some o'→h'.get? b=some o') →
   h'.get? s.heap.objs.size=some { cls:=.type "list",dict:=none,data:=.seq its.toArray c',slots:=#[] }→EP X pins σ Q (.ref s.heap.objs.size) { s with heap:=h' }:=fun its r' hz h' c' kp e =>
  ⟨.ref s.heap.objs.size,_,I.laid (t':=s.toks) kp (Zg _) (show jA X.prog X.w _ h' _ (.lst ys) from⟨hz,its,c',r',e⟩),rfl,q _ (I.hok.fresh (Zg _))⟩
 rcases hq with hq | hq
 ·obtain⟨its,r',pl,hz⟩:=I.list hq;have hlen:=r'.length;obtain⟨o,ho,hc,n,hd⟩:=pl.isList;exact call_list_seq p (.inl rfl) ho hc hd (fun h' c' kp e=>fin its r' hz h' c' kp e) (by simp only[Zv] <;> omega)
 ·obtain⟨its,r',pl,hz⟩:=I.tuple hq;have hlen:=r'.length;obtain⟨o,ho,hc,n,hd⟩:=pl;exact call_list_seq p (.inr rfl) ho hc hd (fun h' c' kp e=>fin its r' hz h' c' kp e) (by simp only[Zv] <;> omega)
theorem wL:xH X (.type "tuple") (fun xs H Q=>∃p ys,xs=[.ref p]∧((SqL X.K H p ys∧∀l,H l=none→Q (.ref l) (upd H l (.tup ys)))∨(SqT X.K H p ys∧Q (.ref p) H))):=by
 intro pins s σ H xs us Q I r h;obtain⟨p,ys,rfl,h⟩:=h;obtain⟨u,rfl,rx⟩:=vals1 r;cases rx;rcases h with⟨hq,q⟩ | ⟨hq,q⟩
 ·obtain⟨its,r',pl,hz⟩:=I.list hq;have hlen:=r'.length;refine call_tuple_list pl.isList (fun h' kp => ?_) (by simp only[Zv] <;> omega);have I1:Inv X pins σ H { s with heap:=h' }:=I.kept (t':=s.toks) kp;have I2:Inv X pins σ (upd H h'.objs.size (.tup ys)) { s with heap:=h'.push { cls:=.type "tuple",data:=.seq its.toArray } } :=
   I1.laid (t':=s.toks) (fun b o e=>Ze _ e) (Zg _) (show jA X.prog X.w _ _ _ (.tup ys) from⟨hz,its,r',Th _ _⟩)
  exact⟨.ref h'.objs.size,_,I2,rfl,q _ (I1.hok.fresh (Zg _))⟩
 ·obtain⟨its,r',pl,hz⟩:=I.tuple hq;exact call_tuple_same pl ⟨.ref p,H,I,rfl,q⟩
noncomputable def tyV (K:ZM) (T:String) (x:V) (H:Hp):Prop:=match x with
 | .str _=>T = "str"
 | .int _=>T = "int"
 | .ref p=>(T = "list" ∧ ∃xs,SqL K H p xs)∨(T = "tuple" ∧ ∃o,K.lookup p=some o∧o.cls=.type "tuple" ∧ o.dict=none) ∨
   (T = "dict" ∧ ((∃kvs,H p=some (.dK kvs))∨∃kvs,H p=some (.dT kvs)))∨(T = "set" ∧ ∃S n,H p=some (.set S n))
 | _=>False
theorem zjp {pins:List (Zh×Obj)}{σ:St}{H:Hp}{s:Zf}{T:String}{x:V}{v:Za}(I:Inv X pins σ H s) (r:RelV x v) (ty:tyV X.K T x H) :
  s.TypeIs v T∧∀a,v=.ref a→∃ob,s.heap.get? a=some ob∧ob.dict=none:=by
 cases x with
 | str z =>
  obtain⟨t,rfl⟩:=r;cases (show T = "str" from ty);exact⟨typeIs_str s z t,fun _ e=>nomatch e⟩
 | int i =>
  obtain⟨t,rfl⟩:=r;cases (show T = "int" from ty);exact⟨KH s i t,fun _ e=>nomatch e⟩
 | ref p =>
  cases r;rcases ty with⟨rfl,xs,hq⟩ | ⟨rfl,o,hk,hc,hd⟩ | ⟨rfl,hk⟩ | ⟨rfl,S,n,hk⟩
  ·obtain⟨its,_,pl,_⟩:=I.list hq;refine⟨pl.isList.typeIs,fun a e => ?_⟩;cases e;obtain⟨o,n,e,c,hd,_⟩:=pl;exact⟨o,e,hd⟩
  ·refine⟨⟨o,I.kIn p o hk,hc⟩,fun a e => ?_⟩;cases e;exact⟨o,I.kIn _ o hk,hd⟩
  ·have z:∃o,s.heap.get? p=some o∧o.ExactDict:=by
    rcases hk with⟨kvs,hk⟩ | ⟨kvs,hk⟩
    ·obtain⟨_,_,_,_,o,_,_,e,ex,_⟩:=I.hok p _ hk;exact⟨o,e,ex⟩
    ·obtain⟨_,_,_,_,o,_,_,e,ex,_⟩:=I.hok p _ hk;exact⟨o,e,ex⟩
   obtain⟨o,e,ex⟩:=z;refine⟨⟨o,e,ex.1⟩,fun a e2 => ?_⟩;cases e2;exact⟨o,e,ex.2.1⟩
  ·obtain⟨o,_,_,_,e,ex,_⟩:=I.hok p _ hk;refine⟨⟨o,e,ex.1⟩,fun a e2 => ?_⟩;cases e2;exact⟨o,e,ex.2.1⟩
 | _=>exact We ty
noncomputable def tBM0 (K:ZM) (T:String) (r:V→List V→Hp→VK→Prop) (to:TE):TE:=fun σ H Q=>to σ H fun x H1=>tyV K T x H1∧r x [] H1 Q
noncomputable def tBM (K:ZM) (T:String) (r:V→List V→Hp→VK→Prop) (to:TE) (t:TA):TE:=fun σ H Q=>to σ H fun x H1=>tyV K T x H1∧t σ H1 fun xs H2=>r x xs H2 Q
variable {o e:Expr}{es:List Expr}{to:TE}{t:TA}{name:Str}{apos cpos:Pos}{T id:String}{r:V→List V→Hp→VK→Prop}
theorem zlY (pa:PlainAttrs T) (slot:Slot T name id) (hty:Nz (.builtin id)=pure (.type "method_descriptor")) (hm:MtR X id r) (ho:PE X o to)
  (hbase:autoParam (Gk o name X.env (eval o X.env)=eval o X.env) aTc) (hline:autoParam ((apos.endLine == cpos.line)=true) aTc):PE X (.Call (.Attribute o name apos) [] [] cpos) (tBM0 X.K T r to):=by
 intro pins s σ H Q I h;refine wpAny_Call_method0_late hbase hline (thn (ho pins s σ H _ I h) fun v s1 hZq => ?_);obtain⟨x,H1,I1,r1,ty,q1⟩:=hZq;obtain⟨h1,h2⟩:=zjp I1 r1 ty;exact⟨T,id,pa,slot,hty,h1,h2,Tz rfl (PySem.evalArgs_none (hm pins s1 σ H1 x [] v [] Q I1 r1 .nil q1))⟩
theorem zlX (pa:PlainAttrs T) (slot:Slot T name id) (hty:Nz (.builtin id)=pure (.type "method_descriptor")) (hm:MtR X id r) (ho:PE X o to) (ha:PA X (e::es) t)
  (hbase:autoParam (Gk o name X.env (eval o X.env)=eval o X.env) aTc)
  (hfew:autoParam (((Ke cpos (Qm (e::es) X.env)).all (fun x=>!x.1)&&(backToKw cpos (Pk [] X.env)).all (fun x=>x.1.isSome)
   && decide ((e::es).length+([]:List La).length+(if([]:List La).isEmpty then 0 else 1)<30))=true) aTc)
  (hline:autoParam ((apos.endLine == cpos.line)=true) aTc) (hs:autoParam (Qm (e::es) X.env=(false,eval e X.env)::Qm es X.env) aTc) (hplain:autoParam ((Ke cpos (Qm es X.env)).any (·.1)=false) aTc) :
  PE X (.Call (.Attribute o name apos) (e::es) [] cpos) (tBM X.K T r to t):=by
 intro pins s σ H Q I h;refine wpAny_Call_method_late hbase hfew hline rfl (thn (ho pins s σ H _ I h) fun v s1 hZq => ?_);obtain⟨x,H1,I1,r1,ty,q1⟩:=hZq;obtain⟨h1,h2⟩:=zjp I1 r1 ty;refine⟨T,id,pa,slot,hty,h1,h2,?_⟩;have hA:=ha cpos pins s1 σ H1 _ I1 q1;rw[hs]at hA ⊢;refine Tz (by show(false||(Ke cpos (Qm es X.env)).any (·.1))=false;rw[hplain] <;> rfl) (Calls.evalArgs_plain ?_);exact thn hA fun us s2=>xe5 fun vs H2 I2 r2 q2=>hm pins s2 σ H2 x vs v us Q I2 r1 r2 q2
end
end L2
namespace L2
open PySem PySem.Spec PyProof.Rows
noncomputable def MtM (X:Cx) (id:String) (r:V→List V→Hp→VK→Prop):Prop :=
 ∀(pins:List (Zh×Obj)) (s:Zf) (σ:St) (H:Hp) (x:V) (xs:List V) (v:Za) (us:List Za) (Q:VK),Inv X pins σ H s→RelV x v→Vals xs us→r x xs H Q →
  ZF (model X.prog X.w) X.A (call (.builtin id) (v::us)) (EP X pins σ Q) X.xe s
theorem Vals.one {x:V}{us:List Za}(r:Vals [x] us):∃u,us=[u]∧RelV x u:=vals1 r
theorem Vals.zero:∀ {us:List Za},Vals [] us→us=[]
 | _,.nil=>rfl
theorem Vals.dropLast {xs:List V}{us:List Za}(h:Vals xs us):Vals xs.dropLast us.dropLast:=by
 induction h with
 | nil=>exact .nil
 | cons r t ih =>
  cases t with
  | nil=>exact .nil
  | cons q t'=>exact .cons r ih
theorem Vals.rep {xs:List V}{us:List Za}(h:Vals xs us):∀k:Nat,Vals (Qv k xs).flatten (Qv k us).flatten
 | 0=>.nil
 | k+1=>by
  rw[Vj,Vj,Wb,Wb];exact Vals.append h (Vals.rep h k)
theorem zdT {α:Type}(l:List α):l.eraseIdx (l.length-1)=l.dropLast:=by
 induction l with
 | nil=>rfl
 | cons a r ih =>
  cases r with
  | nil=>rfl
  | cons b r =>
   have e:(a::b::r).length-1=((b::r).length-1)+1:=by
    have h1:(a::b::r).length=r.length+2:=rfl;have h2:(b::r).length=r.length+1:=rfl;omega
   rw[e,Tt,ih]
   all_goals rfl
theorem foldl_rep (its:List Za):∀(k:Nat) (acc:List Za),
  UW (fun x1 x2=>x1++x2) acc.toArray (Qv k its.toArray)=(acc++(Qv k its).flatten).toArray
 | 0,acc=>by simp
 | k+1,acc=>by
  have e:acc.toArray++its.toArray=(acc++its).toArray:=by simp
  have e2:(acc++its)++(Qv k its).flatten=acc++(Qv (k+1) its).flatten:=by
   rw[Vj,Wb,QW]
  rw[←e2,←foldl_rep its k (acc++its),←e,Vj,Gn]
section
variable {X:Cx}{pins:List (Zh×Obj)}{σ:St}{H:Hp}{s:Zf}{l b:Zh}{xs ys zs:List V}
theorem Inv.lset {its its' : List Za}{n:Nat}{f:Array Za→Array Za}{t' : Nat}(I:Inv X pins σ H s) (hH:H l=some (.lst xs))
  (e:s.heap.get? l=some { cls:=.type "list",data:=.seq its.toArray n }) (hf:f its.toArray=its'.toArray) (hv:Vals ys its') (hz:ys.length≤Zu) :
  Inv X pins σ (upd H l (.lst ys)) { s with heap:=s.heap.update l (QR f),toks:=t' }:=by
 have q:=PySem.IsL.update e f;rw[hf]at q;refine I.write (x:=l) (e:=l) (by rw[hH];exact trivial) (.inl rfl) (fun b' u hb hu=>(JV s.heap (QR f) (Wf hb)).trans hu) ⟨_,q⟩ ?_;exact⟨hz,its',_,hv,q⟩
theorem Inv.lnew {its:List Za}{t' : Nat}(I:Inv X pins σ H s) (hv:Vals ys its) (hz:ys.length≤Zu) :
  Inv X pins σ (upd H s.heap.objs.size (.lst ys)) { s with heap:=s.heap.push { cls:=.type "list",data:=.seq its.toArray },toks:=t' } :=
 I.laid (fun _ _ q=>Ze _ q) (Zg _) ⟨hz,its,0,hv,Zy _ rfl⟩
theorem Inv.fresh (I:Inv X pins σ H s):H s.heap.objs.size=none:=I.hok.fresh (Zg _)
theorem Inv.lstM (I:Inv X pins σ H s) (hH:H l=some (.lst xs)):xs.length≤Zu∧∃(its:List Za) (n:Nat),Vals xs its∧xs.length=its.length∧s.heap.get? l=some { cls:=.type "list",data:=.seq its.toArray n }:=by
 obtain⟨z,its,n,r,e⟩:=I.hok l _ hH;exact⟨z,its,n,r,r.length,e⟩
theorem zaH {n:Nat}(h:n≤Zu):WT n=false:=by
 unfold WT;exact decide_eq_false (by omega)
end
section
variable {X:Cx}
noncomputable def zkL:V→List V→Hp→VK→Prop:=fun x vs H Q=>∃l xs y,x=.ref l∧vs=[y]∧H l=some (.lst xs)∧xs.length<Zu∧Q .non (upd H l (.lst (xs++[y])))
theorem zbx:MtM X "list.append" zkL:=by
 intro pins s σ H x vs v us Q I rx rv h;obtain⟨l,xs,y,rfl,rfl,hH,hz,q⟩:=h;cases rx;obtain⟨u,rfl,ru⟩:=rv.one;obtain⟨z,its,n,r,hl,e⟩:=I.lstM hH;refine Yn F.slot_list_append ⟨_,e,rfl⟩ F.entry_list_append (F.args_list_append_2 _ _) (PySem.list_append l its.toArray n u (by rw[Zv];omega)) ⟨e,?_⟩;refine⟨.non,_,I.lset (its':=its++[u]) hH e (by simp) (r.append (.cons ru .nil)) ?_,rfl,q⟩;rw[Zx,Jk];omega
noncomputable def rPop:V→List V→Hp→VK→Prop:=fun x vs H Q=>∃l xs y,x=.ref l∧vs=[]∧H l=some (.lst xs)∧xs[xs.length-1]?=some y∧Q y (upd H l (.lst xs.dropLast))
theorem zlG:MtM X "list.pop" rPop:=by
 intro pins s σ H x vs v us Q I rx rv h;obtain⟨l,xs,y,rfl,rfl,hH,hy,q⟩:=h;cases rx;have hus:=rv.zero;subst hus;obtain⟨z,its,n,r,hl,e⟩:=I.lstM hH;obtain⟨u,hu,ru⟩:=r.get hy;have hy' : its.toArray[its.toArray.size-1]?=some u:=by
  show its.toArray[its.length-1]?=some u;rw[←QS,←hl];exact hu
 refine Yn F.slot_list_pop ⟨_,e,rfl⟩ F.entry_list_pop (F.args_list_pop_1 _) (MeetsSeq.list_pop_last l its.toArray n u hy' (by rw[Zv];omega)) ⟨e,?_⟩;refine⟨y,_,I.lset (its':=its.dropLast) hH e ?_ r.dropLast ?_,ru,q⟩
 ·show its.toArray.eraseIdxIfInBounds (its.toArray.size-1)=its.dropLast.toArray;rw[Zv,List.eraseIdxIfInBounds_toArray,zdT]
 ·rw[RG];omega
noncomputable def rRep:R2:=fun x y H Q=>∃l k xs,x=.ref l∧y=.int k∧H l=some (.lst xs)∧-(2^63)≤k∧k<2^63∧xs.length*k.toNat≤Zu ∧
 ∀p,H p=none→Q (.ref p) (upd H p (.lst (Qv k.toNat xs).flatten))
theorem len_rep {α:Type}(xs:List α) (k:Nat):(Qv k xs).flatten.length=k*xs.length:=by
 induction k with
 | zero=>simp
 | succ k ih=>rw[Vj,Wb,Zx,ih,Sv,Nat.add_comm]
theorem zlP:OpR X (Wl .Mult) rRep:=by
 intro pins s σ H x y v u Q I rx ry h;obtain⟨l,k,xs,rfl,rfl,hH,h1,h2,hz,q⟩:=h;cases rx;obtain⟨t,rfl⟩:=ry;obtain⟨z,its,n,r,hl,e⟩:=I.lstM hH;have hlen:its.toArray.size*k.toNat≤Zu:=by rw[Zv,←hl];exact hz
 have hcap:¬its.toArray.size*k.toNat>(2^63-1) / 8:=by
  have:(Zu:Nat)≤(2^63-1) / 8:=by decide
  omega
 have hfit:¬(!Builtin.List.listFitsIndex k)=true:=by
  rw[fitsIndex_both h1 h2];exact Jd
 have hlong:¬WT (its.toArray.size*k.toNat)=true:=by
  rw[zaH hlen];exact Jd
 have hnew:UW (fun x1 x2=>x1++x2) #[] (Qv (if its.toArray.isEmpty=true then 0 else k.toNat) its.toArray)=(Qv k.toNat its).flatten.toArray:=by
  have f0:∀m:Nat,UW (fun x1 x2=>x1++x2) #[] (Qv m its.toArray)=(Qv m its).flatten.toArray:=fun m=>by
   have:=foldl_rep its m [];rw[Yr]at this;exact this
  rw[f0];cases its with
  | nil=>simp
  | cons a r'=>rw[if_neg (by simp)]
 refine Gb (T := "list") (U := "int") (by decide) ⟨_,e,rfl⟩ (fun s'=>KH s' k t) Fl Lz Yx repeat_list Ld.lookup
  (Yn Yx (KH s k t) Le (Mj _ _) (Dq k t l its.toArray n)
   ⟨e,rfl,⟨_,e,rfl⟩,Yn CP ⟨_,e,rfl⟩ HW (Hq _ _) (GJ l its.toArray n k t hfit hcap hlong) ⟨e,?_⟩⟩)
 rw[hnew];exact⟨.ref _,_,I.lnew (t':=s.toks) (r.rep k.toNat) (by rw[len_rep,YK];exact hz),rfl,q _ I.fresh⟩
end
section
variable {prog:Qc}{w:QG}{A:QB}{E:Za→Zf→Prop}{s:Zf}
end
section
variable {X:Cx}
end
end L2
namespace L2
open PySem PySem.Spec PyProof.Rows
section
variable {κ:Type} [DecidableEq κ]
noncomputable def valV (kvs:List (κ×V)) (k:κ):Option V:=(kvs.find? fun kv=>decide (kv.1=k)).map (·.2)
noncomputable def putK (kvs:List (κ×V)) (k:κ) (v:V):List (κ×V) :=
 if(kvs.any fun kv=>decide (kv.1=k))=true then kvs.map (fun kv=>if kv.1=k then(kv.1,v) else kv) else kvs++[(k,v)]
noncomputable def zli (kvs:List (κ×V)) (k:κ):List (κ×V):=kvs.filter fun kv=>decide (kv.1≠k)
theorem vm {p:κ×V}{r:List (κ×V)}{k:κ}(e:p.1=k):valV (p::r) k=some p.2:=by simp[valV,Vl,e]
theorem vk {p:κ×V}{r:List (κ×V)}{k:κ}(e:¬p.1=k):valV (p::r) k=valV r k:=by simp[valV,Vl,e]
theorem zdI (k:κ):∀kvs:List (κ×V),(kvs.any fun kv=>decide (kv.1=k))=(valV kvs k).isSome
 | []=>rfl
 | p::r=>by
  rw[Ug]
  by_cases e:p.1=k
  ·simp only[vm e,decide_eq_true e,CQ,Ed]
  ·rw[vk e,decide_eq_false e,Bool.false_or];exact zdI k r
theorem ka (kvs:List (κ×V)) (k:κ) (v:V):(putK kvs k v).length≤kvs.length+1:=by
 unfold putK;split
 ·rw[Zi];omega
 ·rw[Zx,Zz,JQ];omega
theorem RelO.isSome_eq {o:Option V}{u:Option Za}(r:RelO o u):o.isSome=u.isSome:=by
 cases o with
 | none=>cases u with
  | none=>rfl
  | some _=>exact(show False from r).elim
 | some _=>cases u with
  | none=>exact(show False from r).elim
  | some _=>rfl
theorem RelO.getD {o:Option V}{u:Option Za}{d:V}{d' : Za}(r:RelO o u) (rd:RelV d d'):RelV (o.getD d) (u.getD d'):=by
 cases o with
 | none=>cases u with
  | none=>exact rd
  | some _=>exact(show False from r).elim
 | some _=>cases u with
  | none=>exact(show False from r).elim
  | some _=>exact r
theorem KV.val {kvs:List (κ×V)}{vs:List (κ×Za)}(r:KV kvs vs) (k:κ):RelO (valV kvs k) (Mw vs k):=by
 unfold KV at r
 induction r with
 | nil=>exact True.intro
 | @cons p q ps qs h t ih =>
  obtain⟨h1,h2⟩:=h
  by_cases e:p.1=k
  ·have e' : q.1=k:=h1.symm.trans e;have b:Mw (q::qs) k=some q.2:=by simp[Mw,Vl,e']
   rw[vm e,b];exact h2
  ·have e' : ¬q.1=k:=fun z=>e (h1.trans z);have b:Mw (q::qs) k=Mw qs k:=by simp[Mw,Vl,e']
   rw[vk e,b];exact ih
theorem KV.any {kvs:List (κ×V)}{vs:List (κ×Za)}(r:KV kvs vs) (k:κ):(kvs.any fun kv=>decide (kv.1=k))=vs.any fun kv=>decide (kv.1=k):=by
 unfold KV at r
 induction r with
 | nil=>rfl
 | cons h t ih=>rw[Ug,Ug,ih,h.1]
theorem KV.repl {kvs:List (κ×V)}{vs:List (κ×Za)}(r:KV kvs vs) (k:κ) {y:V}{u:Za}(ry:RelV y u) :
  KV (kvs.map fun kv=>if kv.1=k then(kv.1,y) else kv) (vs.map fun kv=>if kv.1=k then(kv.1,u) else kv):=by
 unfold KV at r ⊢
 induction r with
 | nil=>exact .nil
 | @cons p q ps qs h t ih =>
  rw[Zk,Zk];refine .cons ?_ ih;obtain⟨h1,h2⟩:=h
  by_cases e:p.1=k
  ·rw[if_pos e,if_pos (h1.symm.trans e)];exact⟨h1,ry⟩
  ·rw[if_neg e,if_neg (fun z=>e (h1.trans z))];exact⟨h1,h2⟩
theorem KV.put {kvs:List (κ×V)}{vs:List (κ×Za)}(r:KV kvs vs) (k:κ) {y:V}{u:Za}(ry:RelV y u):KV (putK kvs k y) (stored vs k u):=by
 unfold putK stored;rw[r.any k]
 by_cases e:(vs.any fun kv=>decide (kv.1=k))=true
 ·rw[if_pos e,if_pos e];exact r.repl k ry
 ·rw[if_neg e,if_neg e];exact HH r ⟨rfl,ry⟩
theorem KV.drop {kvs:List (κ×V)}{vs:List (κ×Za)}(r:KV kvs vs) (k:κ):KV (zli kvs k) (without vs k):=by
 unfold KV at r ⊢;unfold zli without
 induction r with
 | nil=>exact .nil
 | @cons p q ps qs h t ih =>
  obtain⟨h1,h2⟩:=h;rw[JC,JC]
  by_cases e:p.1=k
  ·have a:¬decide (p.1≠k)=true:=by simp[e]
   have b:¬decide (q.1≠k)=true:=by simp[h1.symm.trans e]
   rw[if_neg a,if_neg b];exact ih
  ·have e' : ¬q.1=k:=fun z=>e (h1.trans z);have a:decide (p.1≠k)=true:=by simp[e]
   have b:decide (q.1≠k)=true:=by simp[e']
   rw[if_pos a,if_pos b];exact .cons ⟨h1,h2⟩ ih
theorem KV.length {kvs:List (κ×V)}{vs:List (κ×Za)}(r:KV kvs vs):kvs.length=vs.length:=Kp r
end
theorem zhO {P:Qc}{w:QG}{k:Key}{u:Za}(r:RelV (kV k) u):(jx P w).is k u=true:=by
 cases k with
 | inl i=>obtain⟨t,e⟩:=(show ∃t,u=Za.int i t from r);subst e;exact zcl P w i t
 | inr x=>obtain⟨t,e⟩:=(show ∃t,u=Za.str x t from r);subst e;exact zcm P w x t
theorem zbo {P:Qc}{w:QG}:∀ {ks:List Key}{us:List Za},Vals (ks.map kV) us→ItemsAre (jx P w) ks us
 | [],_,r=>by rw[YD]at r;cases r;exact .nil
 | k::ks,_,r=>by
  rw[Zk]at r;cases r with
  | cons h t=>exact .cons (zhO h) (zbo t)
noncomputable abbrev KT (H:Hp):List (List Key×V)→List (List Key×Zh×Za)→Prop:=GR fun p q=>p.1=q.1∧H q.2.1=some (.tup (p.1.map kV))∧RelV p.2 q.2.2
theorem KT.val {H:Hp}{kvs:List (List Key×V)}{xs:List (List Key×Zh×Za)}(r:KT H kvs xs) (k:List Key):RelO (valV kvs k) ((Rp xs k).map (·.2)):=by
 induction r with
 | nil=>exact True.intro
 | @cons p q ps qs h t ih =>
  obtain⟨h1,_,h2⟩:=h
  by_cases e:p.1=k
  ·have e' : q.1=k:=h1.symm.trans e;have b:Rp (q::qs) k=some q.2:=by simp[Rp,Vl,e']
   rw[vm e,b];exact h2
  ·have e' : ¬q.1=k:=fun z=>e (h1.trans z);have b:Rp (q::qs) k=Rp qs k:=by simp[Rp,Vl,e']
   rw[vk e,b];exact ih
theorem KT.repl {H:Hp}{kvs:List (List Key×V)}{xs:List (List Key×Zh×Za)}(r:KT H kvs xs) (k:List Key) {y:V}{u:Za}(ry:RelV y u) :
  KT H (kvs.map fun kv=>if kv.1=k then(kv.1,y) else kv) (xs.map (putAt k u)):=by
 induction r with
 | nil=>exact .nil
 | @cons p q ps qs h t ih =>
  rw[Zk,Zk];refine .cons ?_ ih;obtain⟨h1,h2,h3⟩:=h;unfold putAt
  by_cases e:p.1=k
  ·rw[if_pos e,if_pos (h1.symm.trans e)];exact⟨h1,h2,ry⟩
  ·rw[if_neg e,if_neg (fun z=>e (h1.trans z))];exact⟨h1,h2,h3⟩
theorem KT.put {H:Hp}{kvs:List (List Key×V)}{xs:List (List Key×Zh×Za)}(r:KT H kvs xs) (k:List Key) {b:Zh}{y:V}{u:Za}(hb:H b=some (.tup (k.map kV))) (ry:RelV y u) :
  KT H (putK kvs k y) (storedH xs k b u):=by
 have e:(kvs.any fun kv=>decide (kv.1=k))=(Rp xs k).isSome:=by
  rw[zdI,(r.val k).isSome_eq,Eu]
 unfold putK storedH;rw[e]
 by_cases q:(Rp xs k).isSome=true
 ·rw[if_pos q,if_pos q];exact r.repl k ry
 ·rw[if_neg q,if_neg q];exact HH r ⟨rfl,hb,ry⟩
theorem KT.keeps {H H' : Hp}{kvs:List (List Key×V)}{xs:List (List Key×Zh×Za)}(r:KT H kvs xs) (ht:∀b ys,H b=some (.tup ys)→H' b=some (.tup ys)):KT H' kvs xs :=
 GR.mapP r fun _ _ z=>⟨z.1,ht _ _ z.2.1,z.2.2⟩
section
variable {P:Qc}{w:QG}{H:Hp}{h:Je}{a:Zh}
theorem zmh {u:HO}(ok:HOk P w H h) (e:Rd H a u):jA P w H h a u:=e.ok ok
theorem zhp {kvs:List (Key×V)}(ok:HOk P w H h) (e:Rd H a (.dK kvs)):kvs.length≤Zu∧(a == Vq)=false∧∃vs,KV kvs vs∧h.DictOf (jx P w) a vs :=
 show jA P w H h a (.dK kvs) from zmh ok e
theorem zmH {kvs:List (Key×V)}(ok:HOk P w H h) (e:H a=some (.dK kvs)):kvs.length≤Zu∧(a == Vq)=false∧∃vs,KV kvs vs∧h.DictOf (jx P w) a vs:=zhp ok (.inl e)
theorem zbr {ks:List Key}(ok:HOk P w H h) (e:H a=some (.tup (ks.map kV))):(Kw (jx P w)).is h ks a:=by
 obtain⟨_,its,r,o,h1,h2,n,h3⟩:=(show jA P w H h a (.tup (ks.map kV)) from ok a _ e)
 exact⟨o,its.toArray,n,h1,h2,h3,by simpa using zbo r⟩
theorem ze3 {kvs:List (List Key×V)}(ok:HOk P w H h) (e:Rd H a (.dT kvs)):kvs.length≤Zu∧(a == Vq)=false ∧
  ∃xs,KT H kvs xs∧h.DictOfH (Kw (jx P w)) a xs:=by
 obtain⟨z,y,xs,r,o,es,ep,h1,h2,h3,h4,h5⟩:=(show jA P w H h a (.dT kvs) from zmh ok e)
 refine⟨z,y,xs,r,o,es,ep,h1,h2,h3,h4,fun x hx => ?_,h5⟩;have all:∀ {l:List (List Key×V)}{m:List (List Key×Zh×Za)},KT H l m→∀x∈m,(Kw (jx P w)).is h x.1 x.2.1:=by
  intro l m q
  induction q with
  | nil=>intro x hx;exact nomatch hx
  | @cons p q ps qs hq t ih =>
   intro x hx;rcases ZS.mp hx with e | hx
   ·subst e;exact zbr ok (by rw[←hq.1];exact hq.2.1)
   ·exact ih x hx
 exact all r x hx
theorem zlj {kvs:List (List Key×V)}(ok:HOk P w H h) (e:H a=some (.dT kvs)):kvs.length≤Zu∧(a == Vq)=false ∧
  ∃xs,KT H kvs xs∧h.DictOfH (Kw (jx P w)) a xs:=ze3 ok (.inl e)
end
noncomputable def DGet (H:Hp) (a:Zh) (y:V) (r:Option V):Prop :=
 (∃kvs k,Rd H a (.dK kvs)∧y=kV k∧r=valV kvs k)∨∃kvs k b,Rd H a (.dT kvs)∧y=.ref b∧H b=some (.tup (k.map kV))∧r=valV kvs k
noncomputable def DPut (H:Hp) (a:Zh) (y v:V) (H' : Hp):Prop :=
 (∃kvs k,H a=some (.dK kvs)∧y=kV k∧kvs.length<Zu∧H'=upd H a (.dK (putK kvs k v))) ∨
 ∃kvs k b,H a=some (.dT kvs)∧y=.ref b∧H b=some (.tup (k.map kV))∧kvs.length<Zu∧H'=upd H a (.dT (putK kvs k v))
theorem DGet.k {H:Hp}{a:Zh}{kvs:List (Key×V)}{k:Key}(e:H a=some (.dK kvs)):DGet H a (kV k) (valV kvs k):=.inl ⟨kvs,k,.inl e,rfl,rfl⟩
theorem DGet.t {H:Hp}{a b:Zh}{kvs:List (List Key×V)}{k:List Key}(e:H a=some (.dT kvs)) (eb:H b=some (.tup (k.map kV))):DGet H a (.ref b) (valV kvs k):=.inr ⟨kvs,k,b,.inl e,rfl,eb,rfl⟩
theorem DPut.k {H:Hp}{a:Zh}{kvs:List (Key×V)}{k:Key}{v:V}(e:H a=some (.dK kvs)) (hl:kvs.length<Zu):DPut H a (kV k) v (upd H a (.dK (putK kvs k v))):=.inl ⟨kvs,k,e,rfl,hl,rfl⟩
theorem DPut.t {H:Hp}{a b:Zh}{kvs:List (List Key×V)}{k:List Key}{v:V}(e:H a=some (.dT kvs)) (eb:H b=some (.tup (k.map kV))) (hl:kvs.length<Zu) :
  DPut H a (.ref b) v (upd H a (.dT (putK kvs k v))):=.inr ⟨kvs,k,b,e,rfl,eb,hl,rfl⟩
section
variable {X:Cx}{pins:List (Zh×Obj)}{σ:St}{H:Hp}{s:Zf}{a:Zh}{y v:V}{u r:Za}{o:Option V}{A:QB}{E:Za→Zf→Prop}
theorem Inv.big (I:Inv X pins σ H s):Vq<s.heap.objs.size:=by
 have h:ZL<s.heap.objs.size:=(I.mod.glob.keeps I.bk).lt;exact Jb (by decide) h
theorem zeX {Q:Za→Zf→Prop}(hu:A.units+1<VF) (I:Inv X pins σ H s) (g:DGet H a y (some v)) (ry:RelV y u) (h:∀w' s',Inv X pins σ H s'→RelV v w'→Q w' s') :
  ZF (model X.prog X.w) A (Gf (.ref a) u) Q E s:=by
 rcases g with⟨kvs,k,e,ey,l⟩ | ⟨kvs,k,b,e,ey,eb,l⟩
 ·subst ey;obtain⟨z,hd,vs,rel,dd⟩:=zhp I.hok e;obtain⟨w',hw,rw'⟩:=RelO.some_of (v:=v) (o:=Mw vs k) (by rw[l];exact rel.val k);exact wpAny_getItem_of (zhO ry) dd.mapOf hw (h w' _ (I.tok _) rw')
 ·subst ey;cases (show u=Za.ref b from ry);obtain⟨z,hd,xs,rel,dd⟩:=ze3 I.hok e;obtain⟨w',hw,rw'⟩:=RelO.some_of (v:=v) (o:=(Rp xs k).map (·.2)) (by rw[l];exact rel.val k);obtain⟨p,hp,hp2⟩:=ZG.mp hw;refine wpAny_getItem_heap (BW hu) (zbr I.hok eb) dd hp ?_;rw[hp2];exact h w' _ (I.tok _) rw'
theorem zjE {Q:Za→Zf→Prop}(hu:A.units+1<VF) (I:Inv X pins σ H s) (g:DGet H a y o) (ry:RelV y u) (h:∀s',Inv X pins σ H s'→Q (.bool (!o.isSome)) s') :
  ZF (model X.prog X.w) A (JS .NotIn u (.ref a)) Q E s:=by
 rcases g with⟨kvs,k,e,ey,l⟩ | ⟨kvs,k,b,e,ey,eb,l⟩
 ·subst ey;obtain⟨z,hd,vs,rel,dd⟩:=zhp I.hok e;refine wpAny_notIn_of (zhO ry) hd dd.mapOf ?_;rw[←(rel.val k).isSome_eq,←l];exact h _ (I.tok _)
 ·subst ey;cases (show u=Za.ref b from ry);obtain⟨z,hd,xs,rel,dd⟩:=ze3 I.hok e;refine wpAny_notIn_heap (BW hu) (zbr I.hok eb) hd dd ?_;have q:=(rel.val k).isSome_eq;rw[Eu]at q;rw[←q,←l];exact h _ (I.tok _)
theorem zb8 {h' : Je}{t' : Nat}{ob:HO}(I:Inv X pins σ H s) (mu:Mut (H a)) (hs:Gg a s.heap h') (he:∃q,h'.get? a=some q) (new:jA X.prog X.w (upd H a ob) h' a ob) :
  Inv X pins σ (upd H a ob) { s with heap:=h',toks:=t' } :=
 I.write (x:=a) (e:=a) mu (.inl rfl) (fun b q hb z=>(hs.2 b hb).trans z) he new
theorem zlh {P:Qc}{w:QG}{H' : Hp}{h' : Je}{kvs:List (Key×V)}{vs:List (Key×Za)}(z:kvs.length≤Zu) (hd:(a == Vq)=false) (rel:KV kvs vs) (dd:h'.DictOf (jx P w) a vs) :
  jA P w H' h' a (.dK kvs):=⟨z,hd,vs,rel,dd⟩
theorem zeY {H' : Hp}{Q:Unit→Zf→Prop}(hu:A.units+1<VF) (I:Inv X pins σ H s) (g:DPut H a y v H') (ry:RelV y u) (rv:RelV v r) (h:∀s',Inv X pins σ H' s'→Q () s') :
  ZF (model X.prog X.w) A (Ck (.ref a) u r) Q E s:=by
 rcases g with⟨kvs,k,e,ey,l,eH⟩ | ⟨kvs,k,b,e,ey,eb,l,eH⟩
 ·subst ey eH;obtain⟨z,hd,vs,rel,dd⟩:=zmH I.hok e;have hz:vs.length≤Zu:=by rw[←rel.length];exact z
  have hl:(putK kvs k v).length≤Zu:=by have:=ka kvs k v;omega
  refine wpAny_setItem_pairs (hsz:=hz) (zhO ry) dd fun h' dd' hs=>h _ ?_;have he:∃q,h'.get? a=some q:=let ⟨q,_,_,hq,_⟩:=dd';⟨q,hq⟩;exact zb8 I (by rw[e];exact True.intro) hs he (zlh hl hd (rel.put k rv) dd')
 ·subst ey eH;cases (show u=Za.ref b from ry);obtain⟨z,hd,xs,rel,dd⟩:=zlj I.hok e;have hz:xs.length≤Zu:=by rw[←Kp rel];exact z
  have hl:(putK kvs k v).length≤Zu:=by have:=ka kvs k v;omega
  refine wpAny_setItem_heap (hsz:=hz) (BW hu) (zbr I.hok eb) dd fun h' dd' hs=>h _ ?_;obtain⟨q,es,ep,hq,h2,h3,h4,_,h5⟩:=dd';refine zb8 I (by rw[e];exact True.intro) hs ⟨q,hq⟩ ⟨hl,hd,_,(rel.put k eb rv).keeps fun c ys ec => ?_,q,es,ep,hq,h2,h3,h4,h5⟩;rw[zu (zka ec e (fun z=>nomatch z))];exact ec
end
section
variable {X:Cx}{pins:List (Zh×Obj)}{σ:St}{H:Hp}{s:Zf}{a:Zh}{kvs:List (Key×V)}{k:Key}{u:Za}{A:QB}{E:Za→Zf→Prop}
end
noncomputable def NoSl (i:Expr):Prop:=∀ov iv,subscripted i false ov iv=operate [ov,iv] (Gf ov iv)
theorem zkR {prog:Qc}{w:QG}{A:QB}{E:Za→Zf→Prop}{s:Zf}{env:Env}{value slice:Expr}{pos:Pos}{T id:String}{Q:Za→Zf→Prop}
  (hl:typeLookup (.type T) "__getitem__" = pure (some (.builtin id))) (hs:NoSl slice)
  (h:ZF (model prog w) A (eval value env) (fun o s₁=>ZF (model prog w) A (eval slice env) (fun i s₂=>s₂.TypeIs o T∧ZF (model prog w) A (Gf o i) Q E s₂) E s₁) E s) :
  ZF (model prog w) A (eval (.Subscript value slice pos) env) Q E s:=by
 refine Hy (VL h (fun o s₁ h₁=>VL h₁ (fun i s₂ h₂ => ?_) fun _ _ x=>x) fun _ _ x=>x);obtain⟨hT,h₂⟩:=h₂;unfold RP;refine Zc ?_;rw[getitemInPython_of_ne hT.not_modules];refine Zc (Fi hT hl ?_);have fin:ZF (model prog w) A (subscripted slice false o i) (fun r s₃=>ZF (model prog w) A (letTemporaryGo value o r >>= fun _=>pure r) Q E s₃) E s₂:=by
  rw[hs o i];exact wpAny_operating (VL h₂ (fun r s₃ h₃=>Zc (wpAny_letTemporaryGo (Zj h₃))) fun _ _ x=>x)
 first
  | exact Zj (Zc fin)
  | exact Zc (Zj (Zc fin))
  | exact Zc fin
theorem zb9 {X:Cx}{pins:List (Zh×Obj)}{σ:St}{H:Hp}{s:Zf}{a:Zh}{y:V}{o:Option V}(I:Inv X pins σ H s) (g:DGet H a y o):s.TypeIs (.ref a) "dict" := by
 rcases g with⟨kvs,k,e,_,_⟩ | ⟨kvs,k,b,e,_,_,_⟩
 ·obtain⟨_,_,vs,_,dd⟩:=zhp I.hok e;exact dd.typeIs
 ·obtain⟨_,_,xs,_,dd⟩:=ze3 I.hok e;exact dd.typeIs
noncomputable def zm4 (td ty:TE):TE:=fun σ H Q=>td σ H fun x H1=>ty σ H1 fun y H2=>∃a v,x=.ref a∧DGet H2 a y (some v)∧Q v H2
noncomputable def zmZ (td ty tv:TE):TS:=fun D σ H=>tv σ H fun v H1=>td σ H1 fun x H2=>ty σ H2 fun y H3=>∃a H4,x=.ref a∧DPut H3 a y v H4∧D.nx σ H4
section
variable {X:Cx}{o i e value:Expr}{pos pos' tpos:Pos}{td ty tv:TE}
theorem zkn (hu:X.A.units+1<VF) (ho:PE X o td) (hi:PE X i ty) (hs:NoSl i):PE X (.Subscript o i pos) (zm4 td ty):=by
 intro pins s σ H Q I h;refine zkR PySem.F.slot_dict_getitem.lookup hs (thn (ho pins s σ H _ I h) fun u s1=>xe5 fun x H1 I1 rx q1=>thn (hi pins s1 σ H1 _ I1 q1) fun iv s2 hZq => ?_);obtain⟨y,H2,I2,ry,a,v,ex,g,q2⟩:=hZq;subst ex;obtain rfl:u=Za.ref a:=rx;exact⟨zb9 I2 g,zeX hu I2 g ry fun w' s3 I3 rw'=>⟨v,H2,I3,rw',q2⟩⟩
theorem zkx (hu:X.A.units+1<VF) (ho:PE X o td) (hi:PE X i ty) (hv:PE X value tv) (hs:Gw value (some (.Subscript o i pos')) pos.line X.env=pure false) :
  PS X (.Assign [.Subscript o i pos'] value pos) (zmZ td ty tv):=by
 intro pins s σ H D I h;refine wpAny_Assign_Subscript (thn (hv pins s σ H _ I h) fun r s1=>xe5 fun v H1 I1 rv q1=>thn (ho pins s1 σ H1 _ I1 q1) fun u s2=>xe5 fun x H2 I2 rx q2=>thn (hi pins s2 σ H2 _ I2 q2) fun iv s3 ⟨y,H3,I3,ry,a,H4,ex,g,q3⟩ => ?_) hs;subst ex;obtain rfl:u=Za.ref a:=rx;exact zeY hu I3 g ry rv fun s4 I4=>⟨σ,H4,I4,q3⟩
end
theorem zc1 {P:Qc}{w:QG}{H:Hp}(h:Je) (hb:Vq<h.objs.size):jA P w H (h.push { cls:=.type "dict",data:=.dict #[] }) h.objs.size (.dT []) :=
 ⟨Qp _,beq_eq_false_iff_ne.mpr (Wf (QD hb)),[],.nil,_,#[],0,Zy _ rfl,⟨rfl,rfl,rfl⟩,rfl,rfl,UV⟩
noncomputable def zmo:TE:=fun _ H Q=>∀p,H p=none→Q (.ref p) (upd H p (.dT []))
section
variable {X:Cx}{pos:Pos}
theorem zic:PE X (.Dict [] [] pos) zmo:=fun pins s σ H Q I h =>
 wpAny_Dict_empty ⟨.ref s.heap.objs.size,_,I.laid (a:=s.heap.objs.size) (o:=.dT []) (t':=s.toks) (fun _ _ q=>Ze _ q) (Zg _) (zc1 s.heap I.big),rfl,h _ (I.hok.fresh (Zg _))⟩
end
noncomputable def zjj:List (TE×TE)→St→Hp→(List (V×V)→Hp→Prop)→Prop
 | [],_,H,Q=>Q [] H
 | (tk,tv)::r,σ,H,Q=>tk σ H fun x H1=>tv σ H1 fun y H2=>zjj r σ H2 fun ps H3=>Q ((x,y)::ps) H3
noncomputable abbrev VV:List (V×V)→List (Za×Za)→Prop:=GR fun p q=>RelV p.1 q.1∧RelV p.2 q.2
noncomputable def PPs (X:Cx) (pos:Pos) (keys:List (Option Expr)) (values:List Expr) (trs:List (TE×TE)):Prop :=
 ∀(pins:List (Zh×Obj)) (s:Zf) (σ:St) (H:Hp) (Q:List (V×V)→Hp→Prop),Inv X pins σ H s→zjj trs σ H Q →
  ZF (model X.prog X.w) X.A (evalPairs (pairTrees keys values X.env pos)) (fun vs s'=>∃ps H',Inv X pins σ H' s'∧VV ps vs∧Q ps H') X.xe s
theorem zkv {X:Cx}{pos:Pos}:PPs X pos [] [] []:=fun pins s σ H Q I h=>pairTrees_nil_walk ⟨[],H,I,.nil,h⟩
theorem zim {X:Cx}{pos:Pos}{k v:Expr}{ks:List (Option Expr)}{vs:List Expr}{tk tv:TE}{trs:List (TE×TE)}(hk:PE X k tk) (hv:PE X v tv) (hr:PPs X pos ks vs trs) :
  PPs X pos (some k::ks) (v::vs) ((tk,tv)::trs):=fun pins s σ H Q I h =>
 pairTrees_cons_walk (thn (hk pins s σ H _ I h) fun u s1=>xe5 fun x H1 I1 rx q1=>thn (hv pins s1 σ H1 _ I1 q1) fun w2 s2=>xe5 fun y H2 I2 ry q2 =>
  thn (hr pins s2 σ H2 _ I2 q2) fun ws s3=>xe5 fun ps H3 I3 rel q3=>⟨(x,y)::ps,H3,I3,.cons ⟨rx,ry⟩ rel,q3⟩)
section
variable {X:Cx}{pins:List (Zh×Obj)}{σ:St}{H:Hp}{s:Zf}{a:Zh}{y d:V}{u r:Za}{o:Option V}{A:QB}{E:Za→Zf→Prop}
end
section
variable {X:Cx}{o e f:Expr}{apos cpos:Pos}{td ty tx:TE}
end
section
variable {X:Cx}{pins:List (Zh×Obj)}{σ:St}{H:Hp}{s:Zf}{a:Zh}{kvs:List (Key×V)}{A:QB}{E:Za→Zf→Prop}
end
section
variable {X:Cx}{pins:List (Zh×Obj)}{σ:St}{H:Hp}{s:Zf}{a:Zh}{y:V}{u:Za}{A:QB}{E:Za→Zf→Prop}
end
end L2
namespace Att
open PySem PySem.W PySem.Calls PyProof.Rows
theorem vX {P:Params}{h:Je}:∀(ns:List Int) (vs:List Za),WellAll P h vs (ns.map WData.int)→Wn vs ns:=by
 intro ns
 induction ns with
 | nil =>
  intro vs w;rw[YD]at w;cases w;exact .nil
 | cons n ns ih =>
  intro vs w;rw[Zk]at w;cases w with
  | cons a b =>
   cases a;exact .cons _ _ (ih _ b)
theorem zgD {l:Bt}{n:Nat}(hn:l.most=some n) {P:Params}{h:Je}{args:List WData}{vals:List Za}
  (hpre:l.row.toRowW.claim.pre args=true) (hwl:WellAll P h vals args) :
  ∃a vs ns,vals=[Za.ref a]∧args=[WData.list (ns.map WData.int)]∧h.get? a=some { cls:=.type "list",data:=.seq vs.toArray }∧Wn vs ns∧ns.length≤n:=by
 have hsh:WShape.hasAll [] args [.list .int]=true:=(pre_splitW hpre).1;have hc:l.pre.holds [] { args:=args }=true:=(pre_splitW hpre).2;obtain⟨d,r,rfl,h1,h2⟩:=hasAllW_cons hsh;obtain rfl:=hasAllW_nil h2;obtain⟨xs,rfl,h3⟩:=hasW_list h1;obtain⟨ns,rfl⟩:=items_int h3;have hlen:ns.length≤n:=by
  unfold Bt.pre at hc;have h4:(WTm.not (.lt (.lit (.int (n:Int))) (.len (.arg 0)))).holds [] { args:=[.list (ns.map .int)] }=true:=by
   have h4:=(holds_andW hc).1;rw[hn]at h4;exact h4
  have h5:=condW_of h4 (w_not (w_lt w_lit (w_len_list (w_arg rfl))));rw[Zi]at h5;refine Ju fun q => ?_;have q' : (n:Int)<((ns.length:Nat):Int):=by omega
  first
   | (rw[decide_eq_true q']at h5;exact absurd h5 (by decide))
   | (simp at h5;omega)
 cases hwl with
 | cons w1 w2 =>
  cases w2;cases w1 with
  | list ho hall=>exact⟨_,_,ns,rfl,rfl,ho,vX ns _ hall,hlen⟩
theorem zgk (l:Bt) (args:List WData):l.row.toRowW.claim.post args (.bool true) args=true :=
 postW_of (r:=l.row.toRowW) (X:=(true == true))
  (show Cp [] (.bool true) .bool=true by first | rfl | decide | simp[Cp,WShape.arms,WShape.armsAll])
  (show(WTm.eq .res (.lit (.bool true))).value [] { args:=args,res:=some (.bool true),after:=args }=some (.bool (true == true)) from w_eq_bool (w_res rfl) w_lit) rfl
theorem attach_call {l:Bt}{n:Nat}{q:Qc}{loose:List Str}{XP:(Str→Option Za)→Je→Prop}{YP:QG→Je→Prop}{d:DefRec}
  (hn:l.most=some n) (hdf:d.params.defaults=[])
  (call:∀(w:QG) (s₀ s₁:Zf) (mg mb:Str→Option Za) (fa:Zh) (o:Obj) (pm cd doc:Za) (a:Zh) (vs:List Za) (ns:List Int),
   Ground q loose [] XP w s₀ mg mb s₁.heap→YP w s₁.heap →
   s₁.heap.get? fa=some o→o.data=.func (docDef d.name d.params d.body d.scope pm cd doc)→s₁.heap.CodeRec cd d.name→mg d.name=some (.ref fa) →
   s₁.heap.get? a=some { cls:=.type "list",data:=.seq vs.toArray }→Wn vs ns→ns.length≤n→s₁.gens=#[] →
   Kr (model l.prog w) Mz (.call (.ref fa) ⟨[.ref a],[]⟩) (fun r s'=>r=.ok (.ret (.bool true))∧OldK s₁.heap s'.heap∧s'.os=s₁.os∧Ea s'.gens) s₁) :
  WalkO q loose XP YP l.row.toRowW d [] (fun f vs=>RT f vs):=by
 intro w s₀ s₁ mg mb G Y fa o pm cd doc dV kV ho hd hcd hD hmg hg args vals as hpre hlay hrd hwl hlo;obtain rfl:dV=.none:=Dflts.none hD hdf;obtain rfl:kV=.none:=Dflts.noKw hD;obtain⟨a,vs,ns,rfl,rfl,hobj,hints,hlen⟩:=zgD hn hpre hwl;refine enter_call (GQ (call w s₀ s₁ mg mb fa o pm cd doc a vs ns G Y ho (fd_plain hd) hcd hmg hobj hints hlen hg) fun r s' hq => ?_);obtain⟨rfl,h2,h3,h4⟩:=hq;exact⟨.inl ⟨.bool true,.bool true,[],rfl,fun _=>rfl,.bool true,zgk l _,fun _=>⟨Ek.nil,fun _ hm=>(nomatch hm)⟩⟩,h2,h3,h4⟩
section
variable {prog:Qc}{w:QG}{A:QB}{E:Za→Zf→Prop}{s:Zf}{K:Frag}
end
end Att
namespace L2
open PySem PySem.Spec PyProof.Rows
theorem zg3 {vs:List Za}{ns:List Int}(r:Wn vs ns):Vals (ns.map V.int) vs:=by
 induction r with
 | nil=>exact .nil
 | cons n t _ ih=>exact .cons ⟨t,rfl⟩ ih
noncomputable def Only (H:Hp):Prop:=∀b,H b=none∨∃o xs,H b=some (.frz o (.lst xs))
theorem zhQ {P:Qc}{w:QG}{K:ZM}{mg mb:Str→Option Za}{CX:CXT}{k:Nat}{fa a:Zh}{fd:QK}{x:Str}{sp:Sp}{s₁:Zf}{vs:List Za}{ns:List Int}
  (KX:K.In s₁.heap) (hns:s₁.heap.Ns ZL mg) (hb:s₁.heap.Ns Hw mb) (hbb:∀x:Str,x ≠ "__name__" → mb x=JX x) (hlim:s₁.heap.NoLimit) (hg:s₁.gens=#[])
  (ha:s₁.heap.get? a=some { cls:=.type "list",data:=.seq vs.toArray }) (hi:Wn vs ns) (hl:ns.length≤Zu) (hr:Room k Mz)
  (F:∀base:Je,K.In base→base.Ns ZL mg→FnOk P w K mg base CX k fa fd [x] sp) (hbind:∀(s:Zf) (u:Za),Rb s fd ⟨[u],[]⟩ [(x,u)])
  (hsp:∀H:Hp,Only H→SqL K H a (ns.map V.int)→sp [.ref a] H (fun v _=>v=.bl true) fun _ _ _=>False)
  (hCX:∀H e s',CX [] H s₁ (fun _ _ _=>False) e s'→False) :
  Kr (model P w) Mz (.call (.ref fa) ⟨[.ref a],[]⟩) (fun r s'=>r=.ok (.ret (.bool true))∧OldK s₁.heap s'.heap∧s'.os=s₁.os∧Ea s'.gens) s₁:=by
 have rv:=zg3 hi;have lenV:=hi.length
 -- from an abstract heap in which nothing but the script may be tracked
 have core:∀H:Hp,Only H→SqL K H a (ns.map V.int)→HOk P w H s₁.heap→(∀b,H b≠none→b=a)→(H a≠none→K.lookup a=none) →
   Kr (model P w) Mz (.call (.ref fa) ⟨[.ref a],[]⟩) (fun r s'=>r=.ok (.ret (.bool true))∧OldK s₁.heap s'.heap∧s'.os=s₁.os∧Ea s'.gens) s₁:=by
  intro H hO hS hok hA hK;have base_of:∀ {b:Zh}{o:Obj},s₁.heap.get? b=some o→H b=none→(hidT s₁.heap H).get? b=some o:=fun e n=>zhF e n;have noA:∀ {b:Zh}{o:Obj}{es:Array Bp}{ep:Nat},s₁.heap.get? b=some o→o.data=.dict es ep→H b=none:=fun {b o es ep} e d=>by
   cases q:H b with
   | none=>rfl
   | some u =>
    have e' : b=a:=hA b (by rw[q];simp);subst e';rw[ha]at e;cases e;have d' : Data.seq vs.toArray _=Data.dict es ep:=d;cases d'
  have nsK:∀ {b:Zh}{m:Str→Option Za},s₁.heap.Ns b m→(hidT s₁.heap H).Ns b m:=fun {b m} ⟨o,es,ep,e,d,r⟩=>⟨o,es,ep,base_of e (noA e d),d,r⟩
  have hKb:K.In (hidT s₁.heap H):=fun b o e=>base_of (KX b o e) (by
   cases q:H b with
   | none=>rfl
   | some u =>
    have e' : b=a:=hA b (by rw[q];simp);subst e';rw[hK (by rw[q];simp)]at e;cases e)
  have hM:Mod K mg (hidT s₁.heap H):=⟨hKb,nsK hns,⟨mb,nsK hb,hbb⟩,let ⟨mc,h1,h2⟩:=hlim;⟨mc,nsK h1,h2⟩⟩
  have e0:Env0 P w K mg (hidT s₁.heap H) Mz [] s₁ H:=⟨rfl,hM,fun b o e=>zke e,Yj (zfu _ _),trivial,fun b hb=>absurd (show b∈([]:List Zh) from hb) (by simp),hok,.of_eq hg⟩
  refine GQ ((F _ hKb (nsK hns)).run Mz [] s₁ H ⟨[.ref a],[]⟩ [.ref a] [.ref a] _ _ hr e0 (hbind s₁ (.ref a)) (.cons rfl .nil) (hsp H hO hS)) fun r s' h => ?_;cases r with
  | error e=>exact(hCX H e s' h).elim
  | ok fl =>
   cases fl with
   | next=>exact We h
   | brk=>exact We h
   | cont=>exact We h
   | ret u =>
    obtain⟨v,H',os,bare,un,hok',r',q⟩:=h;have q' : v=.bl true:=q;subst q';obtain rfl:u=Za.bool true:=r';refine⟨rfl,OldK.of_keep fun b o e => ?_,os,bare⟩;cases q:H b with
    | none=>exact un.keep b o e q (by intro z;exact absurd (show b∈([]:List Zh) from z) (by simp)) (by simp)
    | some u =>
     rcases hO b with z | ⟨ob,xs,z⟩
     ·rw[q]at z;cases z
     ·have z2:=un.frzs b ob _ z;obtain⟨e1,_⟩:=hok b _ z;obtain⟨e2,_⟩:=hok' b _ z2;rw[e]at e1;cases e1;exact e2
 cases hk:K.lookup a with
 | some o =>
  -- the script is one of the module's own objects
  have e:=KX a o hk;rw[ha]at e;cases e;refine core (fun _=>none) (fun _=>.inl rfl) (.inr ⟨_,vs.toArray,_,hk,rfl,rfl,rfl,by rw[Zv,lenV];exact hl,by simpa using rv⟩) (fun b u z=>by have z' : (none:Option HO)=some u:=z;cases z') (fun b z=>absurd rfl z) fun z=>absurd rfl z
 | none =>
  refine core (fun b=>if b=a then some (.frz { cls:=.type "list",data:=.seq vs.toArray } (.lst (ns.map V.int))) else none) (fun b => ?_) (.inl (.inr ⟨{ cls:=.type "list",data:=.seq vs.toArray },if_pos rfl⟩)) (fun b u z => ?_) (fun b z => ?_) fun _=>hk
  ·by_cases hb:b=a
   ·exact .inr ⟨_,_,if_pos hb⟩
   ·exact .inl (if_neg hb)
  ·by_cases hb:b=a
   ·have z':=(if_pos hb).symm.trans z;cases z';subst hb;exact⟨ha,by rw[Zi];exact hl,vs,_,rv,ha⟩
   ·have z':=(if_neg hb).symm.trans z;cases z'
  ·by_cases hb:b=a
   ·exact hb
   ·exact absurd (if_neg hb) z
theorem walk_of {l:Bt}{n k:Nat}{q:Qc}{loose:List Str}{XP:(Str→Option Za)→Je→Prop}{YP:QG→Je→Prop}{d:DefRec}{K:Params→ZM}{CX:QG→CXT}{sp:QG→Sp}{x:Str}
  (hn:l.most=some n) (hn2:n≤Zu) (hdf:d.params.defaults=[]) (hr:Room k Mz)
  (hY:∀(w:QG) (h:Je),YP w h→(K w.params).In h)
  (F:∀(w:QG) (mg:Str→Option Za) (fa:Zh) (h:Je),(K w.params).In h→h.Ns ZL mg→mg d.name=some (.ref fa) →
   ∃fd:QK,(∀(s:Zf) (u:Za),Rb s fd ⟨[u],[]⟩ [(x,u)]) ∧
    ∀base:Je,(K w.params).In base→base.Ns ZL mg→FnOk l.prog w (K w.params) mg base (CX w) k fa fd [x] (sp w))
  (hsp:∀(w:QG) (H:Hp) (a:Zh) (ns:List Int),ns.length≤n→Only H→SqL (K w.params) H a (ns.map V.int)→sp w [.ref a] H (fun v _=>v=.bl true) fun _ _ _=>False)
  (hCX:∀(w:QG) (H:Hp) (s:Zf) (e:Za) (s' : Zf),CX w [] H s (fun _ _ _=>False) e s'→False) :
  Dr q loose XP YP l.row.toRowW d [] (fun f vs=>RT f vs):=by
 refine Att.attach_call hn hdf fun w s₀ s₁ mg mb fa o pm cd doc a vs ns G Y ho hd hcd hmg hobj hints hlen hg => ?_;have KX:=hY w _ Y;obtain⟨fd,hb,hF⟩:=F w mg fa _ KX G.T.g hmg;exact zhQ KX G.T.g G.T.b G.T.builtins G.T.nolimit hg hobj hints (Zt hlen hn2) hr hF hb (fun H hO hS=>hsp w H a ns hlen hO hS) fun H e s'=>hCX w H s₁ e s'
noncomputable def zp (s:YZ):Arguments:=match s with
 | .FunctionDef _ a _ _ _ _ _ _ _ _=>a
 | _=>{ posonlyargs:=[],args:=[],vararg:=none,kwonlyargs:=[],kw_defaults:=[],kwarg:=none,defaults:=[] }
noncomputable def zj (s:YZ):List YZ:=match s with
 | .FunctionDef _ _ b _ _ _ _ _ _ _=>b
 | _=>[]
noncomputable def zd (s:YZ):Uz:=match s with
 | .FunctionDef _ _ _ _ _ _ sc _ _ _=>sc
 | _=>{ kind:=.function,names:=[],isGenerator:=false,isCoroutine:=false }
noncomputable abbrev CX0:CXT:=fun _ _ _ _ _ _=>False
noncomputable abbrev E0:XK:=fun _ _ _=>False
theorem zmR {X:Cx}:zez CX0 X E0:=fun _ _ _ _ _ _ _ h=>h.elim
structure Fun (K:ZM) (x qual:Str) (st:YZ) (f:Zh) (fd:QK):Prop where
 ex:∃(oc:Za) (od:Option Zh) (kV doc pm:Za) (an:Option Zh) (cdv ct:Za) (osl:Array (Option Za)),
  fd=Zr x qual (zp st) (zj st) (zd st) .none kV doc pm an cdv ct∧K.lookup f=some ⟨oc,od,.func fd,osl⟩∧Qj K cdv qual=true
 kp:Qf K (.ref f)=true
section
variable {P:Qc}{w:QG}{K:ZM}{mg:Str→Option Za}{base:Je}
theorem Fun.ok {x qual:Str}{st:YZ}{f:Zh}{fd:QK}{N ps:List Str}{k:Nat}{sp:Sp}(F:Fun K x qual st f fd) (S:FnScope N ps (zd st)) (len:∀vs H Q E,sp vs H Q E→vs.length=ps.length)
  (hbody:∀(cdv:Za) (A:QB) (outer:List Env) (s:Zf) (H:Hp) (vs:List V) (Q:VK) (E:XK),Room k (A.deeper (Bc qual (zd st) s.heap.objs.size f cdv))→sp vs H Q E →
   ∃t,PSs (cxOf CX0 P w K mg base N qual (zd st) f cdv A outer s H E).nox (zj st) t∧t { nx:=fun _ H'=>Q .non H',rt:=Q } (start N vs) H):FnOk P w K mg base CX0 (k+1) f fd ps sp:=by
 obtain⟨oc,od,kV,doc,pm,an,cdv,ct,osl,rfl,lk,hcd⟩:=F.ex;refine zmJ lk hcd S len fun A outer s H vs Q E hr hsp => ?_;obtain⟨t,h,q⟩:=hbody cdv A outer s H vs Q E hr hsp;exact⟨t,h.nox,q⟩
theorem Fun.binds {x qual:Str}{st:YZ}{f:Zh}{fd:QK}{ps:List Str}(F:Fun K x qual st f fd)
  (h:∀(kV doc pm:Za) (an:Option Zh) (cdv ct:Za) (us:List Za),us.length=ps.length→bindArgs (Zr x qual (zp st) (zj st) (zd st) .none kV doc pm an cdv ct) ⟨us,[]⟩=pure (ps.zip us)):Binds K fd ps []:=by
 obtain⟨oc,od,kV,doc,pm,an,cdv,ct,osl,rfl,lk,hcd⟩:=F.ex;exact .all (h kV doc pm an cdv ct)
theorem jh {x qual:Str}{st:YZ}{f:Zh}{oc:Za}{od an:Option Zh}{osl:Array (Option Za)}{kV doc pm cdv ct:Za}(l:K.lookup f=some ⟨oc,od,.func (Zr x qual (zp st) (zj st) (zd st) .none kV doc pm an cdv ct),osl⟩)
  (c:Qj K cdv qual=true) (k:Qf K (.ref f)=true):Fun K x qual st f (Zr x qual (zp st) (zj st) (zd st) .none kV doc pm an cdv ct):=⟨⟨oc,od,kV,doc,pm,an,cdv,ct,osl,rfl,l,c⟩,k⟩
end
theorem zlu {A:QB}{k:Nat}(hr:Room k A):A.units+1<VF:=Jj (Jr (by decide:1≤64) _) hr.units
section
variable {X:Cx}
theorem pv (i:Nat) {x:Str}{pos:Pos}(hN:autoParam (X.N[i]?=some x) aTc) (hv:autoParam (Vis X.env.scope x) aTa) (hd:autoParam ((x == ("__debug__" : Str))=false) aTb)
  (hcd:autoParam ((x == ("__classdict__" : Str))=false) aTb):PE X (.Name x pos) (tVar i):=zl6 hN hv hd hcd
end
theorem iteF {A B:Prop}(h:B):if false=true then A else B:=by
 rw[if_neg Jd];exact h
theorem iteT {A B:Prop}(h:A):if true=true then A else B:=by
 rw[if_pos rfl];exact h
noncomputable def Same (H H' : Hp):Prop:=∀b o,H b=some o→H' b=some o
theorem Same.refl (H:Hp):Same H H:=fun _ _ h=>h
theorem Same.trans {H H1 H2:Hp}(a:Same H H1) (b:Same H1 H2):Same H H2:=fun c o h=>b c o (a c o h)
theorem Same.free {H H' : Hp}(e:Same H H') {l:Zh}(h:H' l=Option.none):H l=Option.none:=by
 cases q:H l with
 | none=>rfl
 | some o =>
  rw[e l o q]at h;cases h
end L2
namespace L2
open PySem PySem.Spec PyProof.Rows
section
variable {X:Cx}
end
section
variable {κ:Type} [DecidableEq κ]
end
end L2
namespace L2.Y
open PySem PySem.Spec PyProof.Rows
noncomputable abbrev Frag:=ZM
mutual
/-- the value v is worth d over the heap H -/
inductive Rep (K:Frag) (H:Hp):D→V→Prop
 | non:Rep K H .none .non
 | bl (b:Bool):Rep K H (.bool b) (.bl b)
 | int (i:Int):Rep K H (.int i) (.int i)
 | str (x:Str):Rep K H (.str x) (.str x)
 | tup {a:Zh}{xs:List V}{ds:List D}:H a=some (.tup xs)→Reps K H ds xs→Rep K H (.tuple ds) (.ref a)
 | lst {a:Zh}{xs:List V}{ds:List D}:Rd H a (.lst xs)→Reps K H ds xs→Rep K H (.list ds) (.ref a)
 | dK {a:Zh}{kvs:List (Key×V)}{ds:List D}:H a=some (.dK kvs)→Reps K H ds (kvs.map (·.2))→Rep K H (.dict ((kvs.map fun p=>keyD p.1).zip ds)) (.ref a)
 | dT {a:Zh}{kvs:List (List Key×V)}{ds:List D}:H a=some (.dT kvs)→Reps K H ds (kvs.map (·.2))→Rep K H (.dict ((.none,.none)::(kvs.map fun p=>xA p.1).zip ds)) (.ref a)
 | dF {a:Zh}{o:Obj}{kvs:List (List Key×V)}{ds:List D}:H a=some (.frz o (.dT kvs))→Reps K H ds (kvs.map (·.2))→Rep K H (.dict ((.none,.int 0)::(kvs.map fun p=>xA p.1).zip ds)) (.ref a)
 | adr (a:Zh):Rep K H (.dict [(.none,.str "e"),(.none,.int a)]) (.ref a)
 | scr {a:Zh}{xs:List V}{ds:List D}:SqL K H a xs→Reps K H ds xs→Rep K H (.dict ((.none,.bool true)::ds.map fun d=>(.none,d))) (.ref a)
inductive Reps (K:Frag) (H:Hp):List D→List V→Prop
 | nil:Reps K H [] []
 | cons {d:D}{v:V}{ds:List D}{vs:List V}:Rep K H d v→Reps K H ds vs→Reps K H (d::ds) (v::vs)
end
section
variable {K:Frag}{H H' : Hp}{d:D}{v:V}{ds:List D}{vs:List V}
theorem Rd.same {a:Zh}{u:HO}(s:Same H H') (h:Rd H a u):Rd H' a u:=by
 rcases h with h | ⟨o,h⟩
 ·exact .inl (s _ _ h)
 ·exact .inr ⟨o,s _ _ h⟩
theorem SqT.same {a:Zh}{xs:List V}(s:Same H H') (h:SqT K H a xs):SqT K H' a xs:=by
 rcases h with h | h
 ·exact .inl (Rd.same s h)
 ·exact .inr h
theorem SqL.same {a:Zh}{xs:List V}(s:Same H H') (h:SqL K H a xs):SqL K H' a xs:=by
 rcases h with h | h
 ·exact .inl (Rd.same s h)
 ·exact .inr h
theorem zbM (s:Same H H'):(∀ {d:D}{v:V},Rep K H d v→Rep K H' d v)∧∀ {ds:List D}{vs:List V},Reps K H ds vs→Reps K H' ds vs:=by
 constructor
 ·intro d v r;exact Rep.rec (motive_1:=fun d v _=>Rep K H' d v) (motive_2:=fun ds vs _=>Reps K H' ds vs) .non .bl .int .str (fun h _ ih=>.tup (s _ _ h) ih) (fun h _ ih=>.lst (Rd.same s h) ih) (fun h _ ih=>.dK (s _ _ h) ih) (fun h _ ih=>.dT (s _ _ h) ih) (fun h _ ih=>.dF (s _ _ h) ih) .adr (fun h _ ih=>.scr (SqL.same s h) ih) .nil (fun _ _ a b=>.cons a b) r
 ·intro d v r;exact Reps.rec (motive_1:=fun d v _=>Rep K H' d v) (motive_2:=fun ds vs _=>Reps K H' ds vs) .non .bl .int .str (fun h _ ih=>.tup (s _ _ h) ih) (fun h _ ih=>.lst (Rd.same s h) ih) (fun h _ ih=>.dK (s _ _ h) ih) (fun h _ ih=>.dT (s _ _ h) ih) (fun h _ ih=>.dF (s _ _ h) ih) .adr (fun h _ ih=>.scr (SqL.same s h) ih) .nil (fun _ _ a b=>.cons a b) r
theorem Rep.same (s:Same H H') {d:D}{v:V}(r:Rep K H d v):Rep K H' d v:=(zbM s).1 r
theorem Reps.same (s:Same H H') {ds:List D}{vs:List V}(r:Reps K H ds vs):Reps K H' ds vs:=(zbM s).2 r
theorem Reps.ind {P:List D→List V→Prop}(n:P [] []) (c:∀d v ds vs,Rep K H d v→Reps K H ds vs→P ds vs→P (d::ds) (v::vs)) {ds:List D}{vs:List V}(r:Reps K H ds vs):P ds vs :=
 Reps.rec (motive_1:=fun _ _ _=>True) (motive_2:=fun ds vs _=>P ds vs) trivial (fun _=>trivial) (fun _=>trivial) (fun _=>trivial) (fun _ _ _=>trivial) (fun _ _ _=>trivial) (fun _ _ _=>trivial) (fun _ _ _=>trivial) (fun _ _ _=>trivial) (fun _=>trivial) (fun _ _ _=>trivial) n (fun a b _ ih=>c _ _ _ _ a b ih) r
theorem Reps.length {ds:List D}{vs:List V}(r:Reps K H ds vs):ds.length=vs.length:=r.ind (P:=fun ds vs=>ds.length=vs.length) rfl fun _ _ _ _ _ _ ih=>by rw[Zz,Zz,ih]
theorem Reps.get {ds:List D}{vs:List V}{i:Nat}{d:D}(r:Reps K H ds vs):ds[i]?=some d→∃v,vs[i]?=some v∧Rep K H d v:=by
 refine r.ind (P:=fun ds vs=>∀i,ds[i]?=some d→∃v,vs[i]?=some v∧Rep K H d v) (fun i e=>by simp at e) (fun d' v' ds vs h _ ih i e => ?_) i;cases i with
 | zero=>simp at e;subst e;exact⟨_,rfl,h⟩
 | succ i =>
  obtain⟨v,h1,h2⟩:=ih i (by simpa using e);exact⟨v,by simpa using h1,h2⟩
theorem Reps.getV {ds:List D}{vs:List V}{i:Nat}{v:V}(r:Reps K H ds vs):vs[i]?=some v→∃d,ds[i]?=some d∧Rep K H d v:=by
 refine r.ind (P:=fun ds vs=>∀i,vs[i]?=some v→∃d,ds[i]?=some d∧Rep K H d v) (fun i e=>by simp at e) (fun d' v' ds vs h _ ih i e => ?_) i;cases i with
 | zero=>simp at e;subst e;exact⟨_,rfl,h⟩
 | succ i =>
  obtain⟨v,h1,h2⟩:=ih i (by simpa using e);exact⟨v,by simpa using h1,h2⟩
theorem Reps.append {ds es:List D}{vs ws:List V}(r:Reps K H ds vs) (s:Reps K H es ws):Reps K H (ds++es) (vs++ws):=r.ind (P:=fun ds vs=>Reps K H (ds++es) (vs++ws)) s fun _ _ _ _ a _ ih=>.cons a ih
theorem Reps.take {ds:List D}{vs:List V}(n:Nat) (r:Reps K H ds vs):Reps K H (ds.take n) (vs.take n):=by
 refine r.ind (P:=fun ds vs=>∀n,Reps K H (ds.take n) (vs.take n)) (fun n=>by rw[HJ,HJ];exact .nil) (fun _ _ _ _ a _ ih n => ?_) n;cases n with
 | zero=>exact .nil
 | succ n=>exact .cons a (ih n)
theorem Reps.drop {ds:List D}{vs:List V}(n:Nat) (r:Reps K H ds vs):Reps K H (ds.drop n) (vs.drop n):=by
 refine r.ind (P:=fun ds vs=>∀n,Reps K H (ds.drop n) (vs.drop n)) (fun n=>by rw[HN,HN];exact .nil) (fun _ _ _ _ a b ih n => ?_) n;cases n with
 | zero=>exact .cons a b
 | succ n=>exact ih n
theorem Reps.set {ds:List D}{vs:List V}(i:Nat) {d:D}{v:V}(r:Reps K H ds vs) (q:Rep K H d v):Reps K H (ds.set i d) (vs.set i v):=by
 refine r.ind (P:=fun ds vs=>∀i,Reps K H (ds.set i d) (vs.set i v)) (fun n=>.nil) (fun _ _ _ _ a b ih n => ?_) i;cases n with
 | zero=>exact .cons q b
 | succ n=>exact .cons a (ih n)
theorem Reps.one (h:Rep K H d v):Reps K H [d] [v]:=.cons h .nil
theorem Reps.inv1 (h:Reps K H [d] vs):∃v,vs=[v]∧Rep K H d v:=by
 cases h with
 | cons h r=>cases r;exact⟨_,rfl,h⟩
theorem Reps.ints:∀ {is:List Int}{vs:List V},Reps K H (is.map Zm.int) vs→vs=is.map V.int
 | [],_,h=>by cases h;rfl
 | i::is,_,h=>by
  cases h with
  | cons h r=>cases h;rw[Reps.ints r];rfl
end
noncomputable def hide (O:List Zh) (H:Hp):Hp:=fun a=>if a∈O then none else H a
section
variable {O O' : List Zh}{H H' : Hp}{a:Zh}{o:HO}
theorem jQ (h:a∉O):hide O H a=H a:=if_neg h
theorem qh (h:hide O H a=some o):a∉O∧H a=some o:=by
 unfold hide at h;split at h
 ·cases h
 ·exact⟨by assumption,h⟩
theorem zP (s:Same H H'):Same (hide O H) (hide O H'):=fun b o e=>by
 obtain⟨h1,h2⟩:=qh e;rw[jQ h1];exact s _ _ h2
theorem jg:Same (hide O H) H:=fun _ _ e=>(qh e).2
theorem qy (h:∀p∈O',p∈O):Same (hide O H) (hide O' H):=fun b o e=>by
 obtain⟨h1,h2⟩:=qh e;rw[jQ fun z=>h1 (h b z)];exact h2
theorem zhG:hide [] H=H:=by funext a;exact jQ (by simp)
theorem zL (h:a∈O):hide O (upd H a o)=hide O H:=by
 funext b;unfold hide;split
 ·rfl
 ·rw[zu];rintro rfl;contradiction
theorem zY (h:H a=none):Same H (upd H a o):=fun b u e=>by
 rw[zu (zJ e h)];exact e
end
inductive OwnAt (K:Frag) (O:List Zh) (H:Hp):D→Zh→Prop
 | lst {p:Zh}{xs:List V}{ds:List D}:H p=some (.lst xs)→Reps K (hide O H) ds xs→OwnAt K O H (.list ds) p
 | dK {p:Zh}{kvs:List (Key×V)}{ds:List D}:H p=some (.dK kvs)→Reps K (hide O H) ds (kvs.map (·.2))→OwnAt K O H (.dict ((kvs.map fun q=>keyD q.1).zip ds)) p
 | dT {p:Zh}{kvs:List (List Key×V)}{ds:List D}:H p=some (.dT kvs)→Reps K (hide O H) ds (kvs.map (·.2))→OwnAt K O H (.dict ((.none,.none)::(kvs.map fun q=>xA q.1).zip ds)) p
noncomputable def Dom (O:List Zh) (H:Hp):Prop:=∀p∈O,∃o,H p=some o∧∀xs,o≠.tup xs
theorem Dom.same {O:List Zh}{H H' : Hp}(h:Dom O H) (s:Same H H'):Dom O H':=fun p hp=>let ⟨o,e,n⟩:=h p hp;⟨o,s _ _ e,n⟩
theorem Dom.out {O:List Zh}{H:Hp}(h:Dom O H) {p:Zh}(e:H p=none):p∉O:=fun z=>by
 obtain⟨o,e',_⟩:=h p z;rw[e]at e';cases e'
theorem Dom.tup {O:List Zh}{H:Hp}(h:Dom O H) {p:Zh}{xs:List V}(e:H p=some (.tup xs)):p∉O:=fun z=>by
 obtain⟨o,e',n⟩:=h p z;rw[e]at e';cases e';exact n xs rfl
set_option genInjectivity false in
set_option genSizeOf false in
structure Fx where
 H0:Hp
 Oc:List Zh
 V0:Hp
structure SR (K:Frag) (F:Fx) (O:List Zh) (ρ:Env') (σ:St) (H:Hp):Prop where
 hb:Same F.H0 H
 vb:Same F.V0 (hide O H)
 oc:∀p∈F.Oc,p∈O
 dom:Dom O H
 len:σ.length=ρ.length
 val:∀(i:Nat) d,ρ[i]?=some (some (.val d))→∃v,σ[i]?=some (some v)∧Rep K (hide O H) d v
 own:∀(i:Nat) d,ρ[i]?=some (some (.own d))→∃p,σ[i]?=some (some (.ref p))∧p∈O∧(p∉F.Oc∧F.H0 p=none)∧OwnAt K O H d p
 sep:∀(i j:Nat) d d' p,ρ[i]?=some (some (.own d))→ρ[j]?=some (some (.own d'))→σ[i]?=some (some (.ref p))→σ[j]?=some (some (.ref p))→i=j
theorem OwnAt.same {K:Frag}{O:List Zh}{H H' : Hp}{d:D}{p:Zh}(s:Same H H') (h:OwnAt K O H d p):OwnAt K O H' d p:=by
 cases h with
 | lst h r=>exact .lst (s _ _ h) (r.same (zP s))
 | dK h r=>exact .dK (s _ _ h) (r.same (zP s))
 | dT h r=>exact .dT (s _ _ h) (r.same (zP s))
section
variable {K:Frag}{F:Fx}{O:List Zh}{ρ:Env'}{σ:St}{H H' : Hp}
theorem SR.same (r:SR K F O ρ σ H) (s:Same H H'):SR K F O ρ σ H' where
 hb:=r.hb.trans s
 vb:=r.vb.trans (zP s)
 oc:=r.oc
 dom:=r.dom.same s
 len:=r.len
 val:=fun i d e=>let ⟨v,h1,h2⟩:=r.val i d e;⟨v,h1,h2.same (zP s)⟩
 own:=fun i d e=>let ⟨p,h1,h2,h3,h4⟩:=r.own i d e;⟨p,h1,h2,h3,h4.same s⟩
 sep:=r.sep
theorem SR.fresh (r:SR K F O ρ σ H) {p:Zh}(h:H p=none):p∉O:=r.dom.out h
end
inductive RepB (K:Frag) (O:List Zh) (H:Hp):D→V→Prop
 | val {d:D}{v:V}:Rep K (hide O H) d v→RepB K O H d v
 | own {d:D}{p:Zh}:p∈O→OwnAt K O H d p→RepB K O H d (.ref p)
inductive RepBs (K:Frag) (O:List Zh) (H:Hp):List D→List V→Prop
 | nil:RepBs K O H [] []
 | cons {d:D}{v:V}{ds:List D}{vs:List V}:RepB K O H d v→RepBs K O H ds vs→RepBs K O H (d::ds) (v::vs)
theorem RepB.same {K:Frag}{O:List Zh}{H H' : Hp}{d:D}{v:V}(s:Same H H') (h:RepB K O H d v):RepB K O H' d v:=by
 cases h with
 | val h=>exact .val (h.same (zP s))
 | own h h'=>exact .own h (h'.same s)
section
variable {K:Frag}{O:List Zh}{H:Hp}{v:V}
theorem RepB.non (h:RepB K O H .none v):v=.non:=by
 cases h with
 | val h=>cases h;rfl
 | own _ h=>cases h
theorem RepB.bl {b:Bool}(h:RepB K O H (.bool b) v):v=.bl b:=by
 cases h with
 | val h=>cases h;rfl
 | own _ h=>cases h
theorem RepB.int {i:Int}(h:RepB K O H (.int i) v):v=.int i:=by
 cases h with
 | val h=>cases h;rfl
 | own _ h=>cases h
theorem RepB.str {x:Str}(h:RepB K O H (.str x) v):v=.str x:=by
 cases h with
 | val h=>cases h;rfl
 | own _ h=>cases h
theorem RepB.tup {ds:List D}(h:RepB K O H (.tuple ds) v):∃a xs,v=.ref a∧SqT K H a xs∧Reps K (hide O H) ds xs:=by
 cases h with
 | val h =>
  cases h with
  | tup h r=>exact⟨_,_,rfl,.inl (.inl (jg _ _ h)),r⟩
 | own _ h=>cases h
theorem RepB.lstR {ds:List D}(h:RepB K O H (.list ds) v):∃a xs,v=.ref a∧Rd H a (.lst xs)∧Reps K (hide O H) ds xs:=by
 cases h with
 | val h =>
  cases h with
  | lst h r=>exact⟨_,_,rfl,Rd.same jg h,r⟩
 | own _ h =>
  cases h with
  | lst h r=>exact⟨_,_,rfl,.inl h,r⟩
theorem RepB.lst {ds:List D}(h:RepB K O H (.list ds) v):∃a xs,v=.ref a∧SqL K H a xs∧Reps K (hide O H) ds xs:=by
 obtain⟨a,xs,e,h1,h2⟩:=h.lstR;exact⟨a,xs,e,.inl h1,h2⟩
end
noncomputable def tD (K:Frag) (g:Env'→Option D):TE:=fun σ H Q=>∃F O ρ d,SR K F O ρ σ H∧g ρ=some d∧∀v H',Same H H'→Rep K (hide O H') d v→Q v H'
noncomputable def tBo (K:Frag) (g:Env'→Option D):TE:=fun σ H Q=>∃F O ρ d,SR K F O ρ σ H∧g ρ=some d∧∀v H',Same H H'→RepB K O H' d v→Q v H'
noncomputable def tTd (K:Frag) (g:Env'→Option Bool):TT:=fun σ H Q=>∃F O ρ b,SR K F O ρ σ H∧g ρ=some b∧∀H',Same H H'→Q b H'
noncomputable def tAd (K:Frag) (g:Env'→Option (List D)):TA:=fun σ H Q=>∃F O ρ ds,SR K F O ρ σ H∧g ρ=some ds∧∀vs H',Same H H'→Reps K (hide O H') ds vs→Q vs H'
noncomputable def tAb (K:Frag) (g:Env'→Option (List D)):TA:=fun σ H Q=>∃F O ρ ds,SR K F O ρ σ H∧g ρ=some ds∧∀vs H',Same H H'→RepBs K O H' ds vs→Q vs H'
noncomputable def PD (X:Cx) (e:Expr) (g:Env'→Option D):Prop:=PE X e (tD X.K g)
noncomputable def PB (X:Cx) (e:Expr) (g:Env'→Option D):Prop:=PE X e (tBo X.K g)
noncomputable def PTd (X:Cx) (e:Expr) (g:Env'→Option Bool):Prop:=PT X e (tTd X.K g)
noncomputable def PAd (X:Cx) (es:List Expr) (g:Env'→Option (List D)):Prop:=PA X es (tAd X.K g)
noncomputable def PAb (X:Cx) (es:List Expr) (g:Env'→Option (List D)):Prop:=PA X es (tAb X.K g)
theorem PE.imp {X:Cx}{e:Expr}{t t' : TE}(h:PE X e t) (k:∀σ H Q,t' σ H Q→t σ H Q):PE X e t':=fun pins s σ H Q I h'=>h pins s σ H Q I (k σ H Q h')
theorem PT.imp {X:Cx}{e:Expr}{t t' : TT}(h:PT X e t) (k:∀σ H Q,t' σ H Q→t σ H Q):PT X e t':=fun pins s σ H Q I h'=>h pins s σ H Q I (k σ H Q h')
theorem PA.imp {X:Cx}{es:List Expr}{t t' : TA}(h:PA X es t) (k:∀σ H Q,t' σ H Q→t σ H Q):PA X es t':=fun pos pins s σ H Q I h'=>h pos pins s σ H Q I (k σ H Q h')
theorem PS.imp {X:Cx}{e:YZ}{t t' : TS}(h:PS X e t) (k:∀D σ H,t' D σ H→t D σ H):PS X e t':=fun pins s σ H D I h'=>h pins s σ H D I (k D σ H h')
theorem PSs.imp {X:Cx}{e:List YZ}{t t' : TS}(h:PSs X e t) (k:∀D σ H,t' D σ H→t D σ H):PSs X e t':=fun pins s σ H D I h'=>h pins s σ H D I (k D σ H h')
theorem PD.b {X:Cx}{e:Expr}{g:Env'→Option D}(h:PD X e g):PB X e g:=by
 refine PE.imp h fun σ H Q hz => ?_;obtain⟨F,O,ρ,d,r,e,k⟩:=hz;exact⟨F,O,ρ,d,r,e,fun v H' s q=>k v H' s (.val q)⟩
section
variable {X:Cx}{e a b:Expr}{es:List Expr}{pos:Pos}
theorem za {i:Nat}{x:Str}(h:PE X (.Name x pos) (tVar i)):PD X (.Name x pos) (gVar i):=PE.imp h fun σ H Q hZq=>by
 obtain⟨F,O,ρ,d,r,e,k⟩:=hZq;unfold gVar at e;split at e
 ·rename_i d' q;cases e;obtain⟨v,h1,h2⟩:=r.val i _ q;exact⟨v,h1,k v H (Same.refl _) h2⟩
 ·cases e
theorem xx {i:Nat}{x:Str}(h:PE X (.Name x pos) (tVar i)):PB X (.Name x pos) (xm i):=PE.imp h fun σ H Q hZq=>by
 obtain⟨F,O,ρ,d,r,e,k⟩:=hZq;unfold xm at e;split at e
 ·rename_i d' q;cases e;obtain⟨v,h1,h2⟩:=r.val i _ q;exact⟨v,h1,k v H (Same.refl _) (.val h2)⟩
 ·rename_i d' q;cases e;obtain⟨p,h1,h2,h3,h4⟩:=r.own i _ q;exact⟨_,h1,k _ H (Same.refl _) (.own h2 h4)⟩
 ·cases e
theorem zdm {v:V}{d:D}(h:PE X e (tC v)) (r:∀H,Rep X.K H d v):PD X e (fun _=>some d):=PE.imp h fun σ H Q hZq=>by
 obtain⟨F,O,ρ,d',_,e,k⟩:=hZq;cases e;exact k v H (Same.refl _) (r _)
theorem zlS {i j}:PD X (.Constant (.int i) j pos) (fun _=>some (.int i)):=zdm zlZ fun _=>.int i
theorem zmS {i j}:PD X (.Constant (.bool i) j pos) (fun _=>some (.bool i)):=zdm zmU fun _=>.bl i
noncomputable def OpD (X:Cx) (f:Za→Za→Sem Za) (h:D→D→Option D):Prop :=
 ∀(pins:List (Zh×Obj)) (s:Zf) (σ:St) (H:Hp) (O:List Zh) (x y:V) (v u:Za) (dx dy d:D) (Q:VK),Inv X pins σ H s→Dom O H→RelV x v→RelV y u→RepB X.K O H dx x→RepB X.K O H dy y→h dx dy=some d →
  (∀z H',Same H H'→Rep X.K (hide O H') d z→Q z H')→ZF (model X.prog X.w) X.A (f v u) (EP X pins σ Q) X.xe s
noncomputable def UnD (X:Cx) (f:Za→Sem Za) (h:D→Option D):Prop :=
 ∀(pins:List (Zh×Obj)) (s:Zf) (σ:St) (H:Hp) (O:List Zh) (x:V) (v:Za) (dx d:D) (Q:VK),Inv X pins σ H s→Dom O H→RelV x v→RepB X.K O H dx x→h dx=some d →
  (∀z H',Same H H'→Rep X.K (hide O H') d z→Q z H')→ZF (model X.prog X.w) X.A (f v) (EP X pins σ Q) X.xe s
noncomputable def yT (X:Cx) (f:Za) (h:List D→Option D):Prop :=
 ∀(pins:List (Zh×Obj)) (s:Zf) (σ:St) (H:Hp) (O:List Zh) (xs:List V) (us:List Za) (ds:List D) (d:D) (Q:VK),Inv X pins σ H s→Dom O H→Vals xs us→RepBs X.K O H ds xs→h ds=some d →
  (∀z H',Same H H'→Rep X.K (hide O H') d z→Q z H')→ZF (model X.prog X.w) X.A (call f us) (EP X pins σ Q) X.xe s
theorem zay {h:D→D→Option D}{ga gb:Env'→Option D}{ρ:Env'}{d:D}(e:g2 h ga gb ρ=some d):∃x y,ga ρ=some x∧gb ρ=some y∧h x y=some d:=by
 unfold g2 at e;obtain⟨x,h1,e⟩:=Zb.mp e;obtain⟨y,h2,e⟩:=Zb.mp e;exact⟨x,y,h1,h2,e⟩
theorem zjS {h:D→Option D}{ga:Env'→Option D}{ρ:Env'}{d:D}(e:g1 h ga ρ=some d):∃x,ga ρ=some x∧h x=some d:=Zb.mp e
theorem vT {h:List D→Option D}{ga:Env'→Option (List D)}{ρ:Env'}{d:D}(e:gA h ga ρ=some d):∃x,ga ρ=some x∧h x=some d:=Zb.mp e
theorem OpD.r {f:Za→Za→Sem Za}{h:D→D→Option D}(o:OpD X f h):OpR X f (fun x y H Q=>∃O dx dy d,Dom O H∧RepB X.K O H dx x∧RepB X.K O H dy y∧h dx dy=some d∧∀z H',Same H H'→Rep X.K (hide O H') d z→Q z H'):=by
 intro pins s σ H x y v u Q I rx ry hz;obtain⟨O,dx,dy,d,hO,bx,by',e,k⟩:=hz;exact o pins s σ H O x y v u dx dy d Q I hO rx ry bx by' e k
theorem UnD.r {f:Za→Sem Za}{h:D→Option D}(o:UnD X f h):UnR X f (fun x H Q=>∃O dx d,Dom O H∧RepB X.K O H dx x∧h dx=some d∧∀z H',Same H H'→Rep X.K (hide O H') d z→Q z H'):=by
 intro pins s σ H x v Q I rx hz;obtain⟨O,dx,d,hO,bx,e,k⟩:=hz;exact o pins s σ H O x v dx d Q I hO rx bx e k
theorem yT.r {f:Za}{h:List D→Option D}(o:yT X f h):xH X f (fun xs H Q=>∃O ds d,Dom O H∧RepBs X.K O H ds xs∧h ds=some d∧∀z H',Same H H'→Rep X.K (hide O H') d z→Q z H'):=by
 intro pins s σ H xs us Q I rx hz;obtain⟨O,ds,d,hO,bx,e,k⟩:=hz;exact o pins s σ H O xs us ds d Q I hO rx bx e k
theorem zf4 {h:D→D→Option D}{ga gb:Env'→Option D}{σ:St}{H:Hp}{Q:VK}(q:tD X.K (g2 h ga gb) σ H Q) :
  tOp (fun x y H Q=>∃O dx dy d,Dom O H∧RepB X.K O H dx x∧RepB X.K O H dy y∧h dx dy=some d∧∀z H',Same H H'→Rep X.K (hide O H') d z→Q z H') (tBo X.K ga) (tBo X.K gb) σ H Q:=by
 obtain⟨F,O,ρ,d,r,e,k⟩:=q;obtain⟨dx,dy,e1,e2,e3⟩:=zay e;refine⟨F,O,ρ,dx,r,e1,fun x H1 s1 b1=>⟨F,O,ρ,dy,r.same s1,e2,fun y H2 s2 b2 => ?_⟩⟩;exact⟨O,dx,dy,d,(r.same (s1.trans s2)).dom,b1.same s2,b2,e3,fun z H' s3 b3=>k z H' (s1.trans (s2.trans s3)) b3⟩
theorem zx {op:Operator}{h:D→D→Option D}{ga gb:Env'→Option D}(ho:OpD X (Wl op) h) (ha:PB X a ga) (hb:PB X b gb):PD X (.BinOp a op b pos) (g2 h ga gb) :=
 PE.imp (zl4 ho.r ha hb) fun _ _ _ q=>zf4 q
theorem zgb {op:PP}{h:D→D→Option D}{ga gb:Env'→Option D}(ho:OpD X (JS op) h) (ha:PB X a ga) (hb:PB X b gb) (hm:Uw op b=false):PD X (.Compare a [op] [b] pos) (g2 h ga gb) :=
 PE.imp (zkl ho.r ha hb hm) fun _ _ _ q=>zf4 q
noncomputable def zf1:Expr→Bool
 | .Starred ..=>false
 | _=>true
theorem yH {e:Expr}{es:List Expr}{env:Env}(h:zf1 e=true):Qm (e::es) env=(false,eval e env)::Qm es env:=by
 cases e <;> first | rfl | cases h
theorem kT {ga:Env'→Option D}{gr:Env'→Option (List D)}{ρ:Env'}{ds:List D}(e:zc ga gr ρ=some ds):∃x xs,ga ρ=some x∧gr ρ=some xs∧ds=x::xs:=by
 unfold zc at e;obtain⟨x,h1,e⟩:=Zb.mp e;obtain⟨y,h2,e⟩:=Zb.mp e;exact⟨x,y,h1,h2,(QT e).symm⟩
theorem zi:PAd X [] gNil:=PA.imp zbC fun σ H Q hZq=>by
 obtain⟨F,O,ρ,ds,r,e,k⟩:=hZq;cases e;exact k [] H (Same.refl _) .nil
theorem zh8 {ga:Env'→Option D}{gr:Env'→Option (List D)}(ha:PD X e ga) (hr:PAd X es gr) (hs:autoParam (Qm (e::es) X.env=(false,eval e X.env)::Qm es X.env) aTe):PAd X (e::es) (zc ga gr) :=
 PA.imp (yG ha hr hs) fun σ H Q hZq=>by
  obtain⟨F,O,ρ,ds,r,e,k⟩:=hZq;obtain⟨x,xs,e1,e2,rfl⟩:=kT e;exact⟨F,O,ρ,x,r,e1,fun v H1 s1 b1=>⟨F,O,ρ,xs,r.same s1,e2,fun vs H2 s2 b2=>k _ _ (s1.trans s2) (.cons (b1.same (zP s2)) b2)⟩⟩
theorem zE:PAb X [] gNil:=PA.imp zbC fun σ H Q hZq=>by
 obtain⟨F,O,ρ,ds,r,e,k⟩:=hZq;cases e;exact k [] H (Same.refl _) .nil
theorem zh7 {ga:Env'→Option D}{gr:Env'→Option (List D)}(ha:PB X e ga) (hr:PAb X es gr) (hs:autoParam (Qm (e::es) X.env=(false,eval e X.env)::Qm es X.env) aTe):PAb X (e::es) (zc ga gr) :=
 PA.imp (yG ha hr hs) fun σ H Q hZq=>by
  obtain⟨F,O,ρ,ds,r,e,k⟩:=hZq;obtain⟨x,xs,e1,e2,rfl⟩:=kT e;exact⟨F,O,ρ,x,r,e1,fun v H1 s1 b1=>⟨F,O,ρ,xs,r.same s1,e2,fun vs H2 s2 b2=>k _ _ (s1.trans s2) (.cons (b1.same s2) b2)⟩⟩
theorem yL {K:Frag}{O:List Zh}{H:Hp}{p:Zh}{o:HO}(hp:p∉O):hide O (upd H p o) p=some o:=by rw[jQ hp,zR]
theorem xw {K:Frag}{O:List Zh}{H:Hp}{p:Zh}{ds:List D}{xs:List V}(hp:H p=none) (hO:p∉O) (r:Reps K (hide O H) ds xs):Rep K (hide O (upd H p (.tup xs))) (.tuple ds) (.ref p) :=
 .tup (yL (K:=K) hO) (r.same (zP (zY hp)))
theorem vf {K:Frag}{O:List Zh}{H:Hp}{p:Zh}{ds:List D}{xs:List V}(hp:H p=none) (hO:p∉O) (r:Reps K (hide O H) ds xs):Rep K (hide O (upd H p (.lst xs))) (.list ds) (.ref p) :=
 .lst (.inl (yL (K:=K) hO)) (r.same (zP (zY hp)))
theorem jm {x1}{g:Env'→Option (List D)}(h:PAd X es g):PD X (.Tuple es x1 pos) (gA tupD g):=PE.imp (zl5 h) fun σ H Q hZq=>by
 obtain⟨F,O,ρ,d,r,e,k⟩:=hZq;obtain⟨ds,e1,e2⟩:=vT e;unfold tupD at e2;split at e2
 ·rename_i hl;cases e2;refine⟨F,O,ρ,ds,r,e1,fun vs H1 s1 b1=>⟨by rw[←b1.length];exact hl,fun p hp => ?_⟩⟩;exact k _ _ (s1.trans (zY hp)) (xw hp ((r.same s1).fresh hp) b1)
 ·cases e2
noncomputable def tFr (K:Frag) (g:Env'→Option (List D)):TE:=fun σ H Q=>∃F O ρ ds,SR K F O ρ σ H∧g ρ=some ds∧∀p xs H1,Same H H1→H1 p=none→Reps K (hide O H1) ds xs→Q (.ref p) (upd H1 p (.lst xs))
noncomputable def PFr (X:Cx) (e:Expr) (g:Env'→Option (List D)):Prop:=PE X e (tFr X.K g)
theorem PFr.d {g:Env'→Option (List D)}(h:PFr X e g):PD X e (fun ρ=>(g ρ).map Zm.list):=PE.imp h fun σ H Q hZq=>by
 obtain⟨F,O,ρ,d,r,e,k⟩:=hZq;obtain⟨ds,e1,e2⟩:=ZG.mp e;subst e2;exact⟨F,O,ρ,ds,r,e1,fun p xs H1 s1 hp b1=>k _ _ (s1.trans (zY hp)) (vf hp ((r.same s1).fresh hp) b1)⟩
theorem qW {g:Env'→Option (List D)}(h:PAd X es g):PFr X (.List es pos) (gLst g):=PE.imp (zl1 h) fun σ H Q hZq=>by
 obtain⟨F,O,ρ,d,r,e,k⟩:=hZq;obtain⟨ds,e1,e2⟩:=Zb.mp e;split at e2
 ·rename_i hl;cases e2;exact⟨F,O,ρ,_,r,e1,fun vs H1 s1 b1=>⟨by rw[←b1.length];exact hl,fun p hp=>k _ _ _ s1 hp b1⟩⟩
 ·cases e2
end
end L2.Y
namespace L2.Y
open PySem PySem.Spec PyProof.Rows
theorem get_set {α:Type}{l:List α}{i j:Nat}{a b:α}(h:(l.set i a)[j]?=some b):(i=j∧b=a∧j<l.length)∨(i≠j∧l[j]?=some b):=by
 by_cases e:i=j
 ·subst e;left;rw[List.getElem?_set_self']at h;cases q:l[i]? with
  | none=>rw[q]at h;cases h
  | some c =>
   rw[q]at h;exact⟨rfl,(QT h).symm,(Qa.mp q).1⟩
 ·right;rw[Qg e]at h;exact⟨e,h⟩
theorem zcB {α:Type}{l:List α}{i:Nat}{a:α}(h:i<l.length):(l.set i a)[i]?=some a:=YF h
section
variable {K:Frag}{F:Fx}{O:List Zh}{ρ:Env'}{σ:St}{H:Hp}{i:Nat}{d:D}{v:V}{p:Zh}
theorem SR.setVal (r:SR K F O ρ σ H) (h:Rep K (hide O H) d v):SR K F O (ρ.set i (some (.val d))) (σ.set i (some v)) H where
 hb:=r.hb
 vb:=r.vb
 oc:=r.oc
 dom:=r.dom
 len:=by rw[JP,JP];exact r.len
 val:=fun j d' e=>by
  rcases get_set e with⟨rfl,e2,hl⟩ | ⟨ne,e2⟩
  ·cases e2;exact⟨v,zcB (by rw[r.len];exact hl),h⟩
  ·rw[Qg ne];exact r.val j d' e2
 own:=fun j d' e=>by
  rcases get_set e with⟨rfl,e2,hl⟩ | ⟨ne,e2⟩
  ·cases e2
  ·rw[Qg ne];exact r.own j d' e2
 sep:=fun j k d1 d2 q e1 e2 f1 f2=>by
  rcases get_set e1 with⟨rfl,e1,_⟩ | ⟨ne1,e1⟩
  ·cases e1
  rcases get_set e2 with⟨rfl,e2,_⟩ | ⟨ne2,e2⟩
  ·cases e2
  rw[Qg ne1]at f1;rw[Qg ne2]at f2;exact r.sep j k d1 d2 q e1 e2 f1 f2
theorem qO (h:H p=none):hide (p::O) H=hide O H:=by
 funext b;unfold hide
 by_cases e:b=p
 ·subst e;simp[h]
 ·simp[e]
theorem OwnAt.mut {O:List Zh}(h:OwnAt K O H d p):∃o,H p=some o∧∀xs,o≠.tup xs:=by
 cases h with
 | lst h _=>exact⟨_,h,fun _ z=>nomatch z⟩
 | dK h _=>exact⟨_,h,fun _ z=>nomatch z⟩
 | dT h _=>exact⟨_,h,fun _ z=>nomatch z⟩
theorem SR.newOwn {o:HO}(r:SR K F O ρ σ H) (hp:H p=none) (ho:OwnAt K (p::O) (upd H p o) d p):SR K F (p::O) (ρ.set i (some (.own d))) (σ.set i (some (.ref p))) (upd H p o):=by
 have hO:p∉O:=r.fresh hp;have eh:hide (p::O) (upd H p o)=hide O H:=by rw[zL Zn,qO hp]
 refine⟨r.hb.trans (zY hp),by rw[eh];exact r.vb,fun q hq=>Zq _ (r.oc q hq),fun q hq => ?_,by rw[JP,JP];exact r.len,fun j d' e => ?_,fun j d' e => ?_,fun j k d1 d2 q e1 e2 f1 f2 => ?_⟩
 ·by_cases e:q=p
  ·subst e;exact ho.mut
  ·rw[zu e];exact r.dom q ((ZS.mp hq).resolve_left e)
 ·rcases get_set e with⟨rfl,e2,hl⟩ | ⟨ne,e2⟩
  ·cases e2
  ·rw[Qg ne,eh];exact r.val j d' e2
 ·rcases get_set e with⟨rfl,e2,hl⟩ | ⟨ne,e2⟩
  ·cases e2;refine⟨p,zcB (by rw[r.len];exact hl),Zn,?_,ho⟩;exact⟨fun z=>hO (r.oc p z),r.hb.free hp⟩
  ·obtain⟨q,h1,h2,h3,h4⟩:=r.own j d' e2;refine⟨q,by rw[Qg ne];exact h1,Zq _ h2,h3,?_⟩;have hq:q≠p:=fun z=>hO (z▸h2);cases h4 with
   | lst h r=>exact .lst (by rw[zu hq];exact h) (by rw[eh];exact r)
   | dK h r=>exact .dK (by rw[zu hq];exact h) (by rw[eh];exact r)
   | dT h r=>exact .dT (by rw[zu hq];exact h) (by rw[eh];exact r)
 ·rcases get_set e1 with⟨rfl,e1,_⟩ | ⟨ne1,e1⟩
  ·rcases get_set e2 with⟨rfl,e2,_⟩ | ⟨ne2,e2⟩
   ·rfl
   ·rw[Qg ne2]at f2;rcases get_set f1 with⟨_,f1,_⟩ | ⟨z,_⟩
    ·cases f1;obtain⟨q,h1,h2,_⟩:=r.own k d2 e2;rw[f2]at h1;cases h1;exact absurd h2 hO
    ·exact absurd rfl z
  ·rcases get_set e2 with⟨rfl,e2,_⟩ | ⟨ne2,e2⟩
   ·rw[Qg ne1]at f1;rcases get_set f2 with⟨_,f2,_⟩ | ⟨z,_⟩
    ·cases f2;obtain⟨q,h1,h2,_⟩:=r.own j d1 e1;rw[f1]at h1;cases h1;exact absurd h2 hO
    ·exact absurd rfl z
   ·rw[Qg ne1]at f1;rw[Qg ne2]at f2;exact r.sep j k d1 d2 q e1 e2 f1 f2
theorem SR.mut {o:HO}{d' : D}(r:SR K F O ρ σ H) (he:ρ[i]?=some (some (.own d))) (hs:σ[i]?=some (some (.ref p))) (ho:OwnAt K O (upd H p o) d' p):SR K F O (ρ.set i (some (.own d'))) σ (upd H p o):=by
 obtain⟨p',h1,hO,h0,_⟩:=r.own i d he;rw[hs]at h1;cases h1;have eh:hide O (upd H p o)=hide O H:=zL hO;have hil:i<ρ.length:=(Qa.mp he).1;refine⟨fun b u e => ?_,by rw[eh];exact r.vb,r.oc,fun q hq => ?_,by rw[JP];exact r.len,fun j d' e => ?_,fun j d' e => ?_,fun j k d1 d2 q e1 e2 f1 f2 => ?_⟩
 ·rw[zu (zJ e h0.2)];exact r.hb _ _ e
 ·by_cases e:q=p
  ·subst e;exact ho.mut
  ·rw[zu e];exact r.dom q hq
 ·rcases get_set e with⟨rfl,e2,hl⟩ | ⟨ne,e2⟩
  ·cases e2
  ·rw[eh];exact r.val j d' e2
 ·rcases get_set e with⟨rfl,e2,hl⟩ | ⟨ne,e2⟩
  ·cases e2;exact⟨p,hs,hO,h0,ho⟩
  ·obtain⟨q,h1,h2,h3,h4⟩:=r.own j d' e2;have hq:q≠p:=fun z=>by subst z;exact ne (r.sep i j d d' q he e2 hs h1)
   refine⟨q,h1,h2,h3,?_⟩;cases h4 with
   | lst h r=>exact .lst (by rw[zu hq];exact h) (by rw[eh];exact r)
   | dK h r=>exact .dK (by rw[zu hq];exact h) (by rw[eh];exact r)
   | dT h r=>exact .dT (by rw[zu hq];exact h) (by rw[eh];exact r)
 ·have back:∀ {j:Nat}{dj:D},(ρ.set i (some (.own d')))[j]?=some (some (.own dj))→∃dj',ρ[j]?=some (some (.own dj')):=fun {j dj} e=>by
   rcases get_set e with⟨rfl,_,_⟩ | ⟨ne,e2⟩
   ·exact⟨d,he⟩
   ·exact⟨_,e2⟩
  obtain⟨_,e1⟩:=back e1;obtain⟨_,e2⟩:=back e2;exact r.sep j k _ _ q e1 e2 f1 f2
theorem OwnAt.rep {O' : List Zh}(h:OwnAt K O H d p) (hs:∀q∈O',q∈O) (hp:p∉O'):Rep K (hide O' H) d (.ref p):=by
 cases h with
 | lst h r=>exact .lst (.inl (by rw[jQ hp];exact h)) (r.same (qy hs))
 | dK h r=>exact .dK (by rw[jQ hp];exact h) (r.same (qy hs))
 | dT h r=>exact .dT (by rw[jQ hp];exact h) (r.same (qy hs))
theorem OwnAt.sub {O' : List Zh}{q:Zh}(h:OwnAt K O H d q) (hs:∀q∈O',q∈O):OwnAt K O' H d q:=by
 cases h with
 | lst h r=>exact .lst h (r.same (qy hs))
 | dK h r=>exact .dK h (r.same (qy hs))
 | dT h r=>exact .dT h (r.same (qy hs))
theorem SR.frz (r:SR K F O ρ σ H) (i:Nat):∃O',SR K F O' (frz i ρ) σ H:=by
 unfold Y.frz;split
 ·rename_i d he;obtain⟨p,hs,hO,h0,ho⟩:=r.own i d he;have sub:∀q∈O.filter (·≠p),q∈O:=fun q hq=>(Qk.mp hq).1;have np:p∉O.filter (·≠p):=fun z=>by simpa using (Qk.mp z).2
  refine⟨O.filter (·≠p),r.hb,r.vb.trans (qy sub),fun q hq=>Qk.mpr ⟨r.oc q hq,?_⟩,fun q hq=>r.dom q (sub q hq),by rw[JP];exact r.len,fun j d' e => ?_,fun j d' e => ?_,fun j k d1 d2 q e1 e2 f1 f2 => ?_⟩
  ·have:q≠p:=fun z=>h0.1 (z▸hq);simpa using this
  ·rcases get_set e with⟨rfl,e2,hl⟩ | ⟨ne,e2⟩
   ·cases e2;exact⟨_,hs,ho.rep sub np⟩
   ·obtain⟨v,h1,h2⟩:=r.val j d' e2;exact⟨v,h1,h2.same (qy sub)⟩
  ·rcases get_set e with⟨rfl,e2,hl⟩ | ⟨ne,e2⟩
   ·cases e2
   ·obtain⟨q,h1,h2,h3,h4⟩:=r.own j d' e2;have hq:q≠p:=fun z=>by subst z;exact ne (r.sep i j d d' q he e2 hs h1)
    exact⟨q,h1,Qk.mpr ⟨h2,by simpa using hq⟩,h3,h4.sub sub⟩
  ·rcases get_set e1 with⟨rfl,e1,_⟩ | ⟨ne1,e1⟩
   ·cases e1
   rcases get_set e2 with⟨rfl,e2,_⟩ | ⟨ne2,e2⟩
   ·cases e2
   exact r.sep j k d1 d2 q e1 e2 f1 f2
 ·exact⟨O,r⟩
theorem SR.base (r:SR K F O ρ σ H):SR K { F with V0:=hide O H } O ρ σ H:=⟨r.hb,Same.refl _,r.oc,r.dom,r.len,r.val,r.own,r.sep⟩
theorem SR.back {V:Hp}(r:SR K { F with V0:=V } O ρ σ H) (s:Same F.V0 V):SR K F O ρ σ H:=⟨r.hb,s.trans r.vb,r.oc,r.dom,r.len,r.val,r.own,r.sep⟩
end
noncomputable def zmB (K:Frag) (F:Fx) (D:Ends):Out→Prop
 | .nxt ρ=>∀O σ H,SR K F O ρ σ H→D.nx σ H
 | .ret d=>∀v H,Same F.H0 H→Rep K (hide F.Oc H) d v→D.rt v H
 | .brk ρ=>∀O σ H,SR K F O ρ σ H→D.bk σ H
 | .cnt ρ=>∀O σ H,SR K F O ρ σ H→D.ct σ H
noncomputable def tSd (K:Frag) (g:GS):TS:=fun D σ H=>∃F O ρ out,SR K F O ρ σ H∧g ρ=some out∧zmB K F D out
noncomputable def PSd (X:Cx) (st:YZ) (g:GS):Prop:=PS X st (tSd X.K g)
noncomputable def PSsd (X:Cx) (st:List YZ) (g:GS):Prop:=PSs X st (tSd X.K g)
section
variable {X:Cx}{st:YZ}{rest:List YZ}{g h:GS}{e:Expr}{pos:Pos}
theorem qz:PSsd X [] sNil:=PSs.imp zkE fun D σ H hZq=>by
 obtain⟨F,O,ρ,out,r,e,k⟩:=hZq;cases e;exact k O σ H r
theorem zf (h1:PSd X st g) (h2:PSsd X rest h):PSsd X (st::rest) (sSeq g h):=PSs.imp (zir h1 h2) fun D σ H hZq=>by
 obtain⟨F,O,ρ,out,r,e,k⟩:=hZq;obtain⟨o1,e1,e2⟩:=Zb.mp e;refine⟨F,O,ρ,o1,r,e1,?_⟩;cases o1 with
 | nxt ρ'=>exact fun O' σ' H' r'=>⟨F,O',ρ',out,r',e2,k⟩
 | ret d=>cases e2;exact k
 | brk ρ'=>cases e2;exact k
 | cnt ρ'=>cases e2;exact k
theorem zn (h1:PSd X st g):PSsd X [st] g:=PSs.imp (zkF h1) fun _ _ _ q=>q
theorem zkA (i:Nat) (h1:PSd X st g):PSd X st (fun ρ=>g (frz i ρ)):=PS.imp h1 fun D σ H hZq=>by
 obtain⟨F,O,ρ,out,r,e,k⟩:=hZq;obtain⟨O',r'⟩:=r.frz i;exact⟨F,O',_,out,r',e,k⟩
theorem zkD {ge:Env'→Option D}(he:PD X e ge):PSd X (.Return (some e) pos) (fun ρ=>(ge ρ).map Out.ret):=PS.imp (zmc he) fun D σ H hZq=>by
 obtain⟨F,O,ρ,out,r,e,k⟩:=hZq;obtain⟨d,e1,e2⟩:=ZG.mp e;subst e2;exact⟨F,O,ρ,d,r,e1,fun v H' s b=>k v H' (r.hb.trans s) (b.same (qy fun p hp=>r.oc p hp))⟩
noncomputable def tGd (K:Frag) (h:GT):TG:=fun v σ H Q=>∃F O ρ d ρ',SR K F O ρ σ H∧Rep K (hide O H) d v∧h d ρ=some ρ'∧∀σ',SR K F O ρ' σ' H→Q σ' H
noncomputable def tGds (K:Frag) (h:List D→Env'→Option Env'):TGs:=fun vs σ H Q=>∃F O ρ ds ρ',SR K F O ρ σ H∧Reps K (hide O H) ds vs∧h ds ρ=some ρ'∧∀σ',SR K F O ρ' σ' H→Q σ' H
noncomputable def PGd (X:Cx) (tg:Expr) (h:GT):Prop:=PG X tg (tGd X.K h)
noncomputable def PGds (X:Cx) (tgs:List Expr) (h:List D→Env'→Option Env'):Prop:=PGs X tgs (tGds X.K h)
theorem PG.imp {tg:Expr}{t t' : TG}(h:PG X tg t) (k:∀v σ H Q,t' v σ H Q→t v σ H Q):PG X tg t':=fun pins s σ H v u Q I r q=>h pins s σ H v u Q I r (k v σ H Q q)
theorem PGs.imp {tg:List Expr}{t t' : TGs}(h:PGs X tg t) (k:∀v σ H Q,t' v σ H Q→t v σ H Q):PGs X tg t':=fun pins s σ H v u Q I r q=>h pins s σ H v u Q I r (k v σ H Q q)
theorem ze {i:Nat}{x:Str}(h:PG X (.Name x pos) (ky i)):PGd X (.Name x pos) (hName i):=PG.imp h fun v σ H Q hZq=>by
 obtain⟨F,O,ρ,d,ρ',r,b,e,k⟩:=hZq;cases e;exact k _ (r.setVal b)
theorem jR:PGds X [] hNil:=PGs.imp zkp fun vs σ H Q hZq=>by
 obtain⟨F,O,ρ,ds,ρ',r,b,e,k⟩:=hZq;unfold hNil at e;split at e
 ·cases e;cases b;exact⟨rfl,k _ r⟩
 ·cases e
theorem zw {tg:Expr}{tgs:List Expr}{h:GT}{hk:List D→Env'→Option Env'}(h1:PGd X tg h) (h2:PGds X tgs hk) (hs:autoParam ((Vb (tg::tgs) X.env).map (·.2)=assign tg X.env::(Vb tgs X.env).map (·.2)) aTc):PGds X (tg::tgs) (zQ h hk) :=
 PGs.imp (zih h1 h2 hs) fun vs σ H Q hZq=>by
  obtain⟨F,O,ρ,ds,ρ',r,b,e,k⟩:=hZq;unfold zQ at e;split at e
  ·rename_i d rest;obtain⟨ρ1,e1,e2⟩:=Zb.mp e;cases b with
   | cons b bs =>
    refine⟨_,_,rfl,F,O,ρ,_,ρ1,r,b,e1,fun σ1 r1 => ?_⟩;exact⟨F,O,ρ1,_,ρ',r1,bs,e2,k⟩
  ·cases e
theorem qG {tgs:List Expr}{kk:Nat}{n:Nat}{hk:List D→Env'→Option Env'}(hc:X.calm=true) (h:PGds X tgs hk) (hn:autoParam ((Vb tgs X.env).length=n) aTc) (hst:autoParam ((Vb tgs X.env).findIdx? (·.1)=none) aTc) :
  PGd X (.Tuple tgs kk pos) (hTup n hk):=PG.imp (zma hc h hn hst) fun v σ H Q hZq=>by
 obtain⟨F,O,ρ,d,ρ',r,b,e,k⟩:=hZq;unfold hTup at e;split at e
 ·split at e
  ·rename_i ds hl;obtain⟨a,xs,rfl,sq,rs⟩:=(RepB.val b).tup;exact⟨a,xs,rfl,sq,by rw[←rs.length];exact hl,F,O,ρ,ds,ρ',r,rs,e,k⟩
  ·cases e
 ·cases e
theorem zjz {h:GT}{ge:Env'→Option D}{D:Ends}{σ:St}{H:Hp}(q:tSd X.K (sAsg h ge) D σ H):tAsg (tD X.K ge) (tGd X.K h) D σ H:=by
 obtain⟨F,O,ρ,out,r,e,k⟩:=q;obtain⟨d,e1,e2⟩:=Zb.mp e;obtain⟨ρ',e3,e4⟩:=ZG.mp e2;subst e4;exact⟨F,O,ρ,d,r,e1,fun v H' s b=>⟨F,O,ρ,d,ρ',r.same s,b,e3,fun σ' r'=>k O σ' H' r'⟩⟩
theorem zky {tg:Expr}{h:GT}{ge:Env'→Option D}(hg:PGd X tg h) (he:PD X e ge) (hs:autoParam (Wq [tg] e pos.line X.env=pure false) aTc) (hw:autoParam (Wr [tg] e X.env=pure none) aTc)
  (h1:autoParam ((Vb [tg] X.env).map (·.2)=[assign tg X.env]) aTc):PSd X (.Assign [tg] e pos) (sAsg h ge):=PS.imp (zae he hg hs hw h1) fun _ _ _ q=>zjz q
theorem zkh {i:Nat}{ge:Env'→Option (List D)}{D:Ends}{σ:St}{H:Hp}(q:tSd X.K (sOwn i ge) D σ H):tAsg (tFr X.K ge) (ky i) D σ H:=by
 obtain⟨F,O,ρ,out,r,e,k⟩:=q;obtain⟨ds,e1,e2⟩:=ZG.mp e;subst e2;refine⟨F,O,ρ,ds,r,e1,fun p xs H1 s hp b => ?_⟩;refine k (p::O) _ _ ((r.same s).newOwn hp (.lst zR ?_));rw[zL Zn,qO hp];exact b
theorem zkB {tg:Expr}{i:Nat}{ge:Env'→Option (List D)}(hg:PG X tg (ky i)) (he:PFr X e ge) (hs:autoParam (Wq [tg] e pos.line X.env=pure false) aTc) (hw:autoParam (Wr [tg] e X.env=pure none) aTc)
  (h1:autoParam ((Vb [tg] X.env).map (·.2)=[assign tg X.env]) aTc):PSd X (.Assign [tg] e pos) (sOwn i ge):=PS.imp (zae he hg hs hw h1) fun _ _ _ q=>zkh q
theorem zda {K:Frag}{H:Hp}{ds:List D}{xs:List V}(r:Reps K H ds xs):(!ds.isEmpty)=!xs.isEmpty:=by cases r <;> rfl
theorem zmq {K:Frag}{O:List Zh}{H:Hp}{d:D}{v:V}{b:Bool}(r:RepB K O H d v) (e:zjo d=some b):TruV K v H b:=by
 cases d with
 | none=>cases r.non;cases e;rfl
 | bool c=>cases r.bl;cases e;rfl
 | int i=>cases r.int;cases e;rfl
 | str y =>
  cases r.str;have e:(if y.length≤Zu then some ((y.length:Int) != 0) else none)=some b:=e;split at e
  ·cases e;exact⟨by assumption,rfl⟩
  ·cases e
 | list ds =>
  obtain⟨a,xs,rfl,sq,rs⟩:=r.lst;cases e;exact .inl ⟨xs,sq,zda rs⟩
 | tuple ds =>
  obtain⟨a,xs,rfl,sq,rs⟩:=r.tup;cases e;exact .inr (.inl ⟨xs,sq,zda rs⟩)
 | dict _=>cases e
theorem zgp {g:Env'→Option D}(h:PB X e g) (he:autoParam (∀whole,isTrue e X.env whole=(do let v ←whole;Ci e.pos;holding [v] (truthy v))) aTd):PTd X e (gTr g) :=
 PT.imp (zis h he) fun σ H Q hZq=>by
  obtain⟨F,O,ρ,b,r,e,k⟩:=hZq;obtain⟨d,e1,e2⟩:=Zb.mp e;exact⟨F,O,ρ,d,r,e1,fun v H' s rb=>⟨b,zmq rb e2,k H' s⟩⟩
theorem yA {d:D}{b:Bool}(h:za7 d=some b):d=.bool b:=by
 cases d <;> first | (cases h;rfl) | cases h
theorem vd {K:Frag}{H:Hp}{b:Bool}{v:V}(h:Rep K H (.bool b) v):v=.bl b:=by cases h;rfl
theorem ja {a b:Expr}{op:PP}{h:D→D→Option D}{ga gb:Env'→Option D}(ho:OpD X (JS op) h) (ha:PB X a ga) (hb:PB X b gb) (hm:Uw op b=false):PTd X (.Compare a [op] [b] pos) (gBo (g2 h ga gb)) :=
 PT.imp (zkG ho.r ha hb hm) fun σ H Q hZq=>by
  obtain⟨F,O,ρ,b,r,e,k⟩:=hZq;obtain⟨d,e1,e2⟩:=Zb.mp e;cases yA e2;exact zf4 (Q:=fun x H'=>∃k,x=.bl k∧Q k H') ⟨F,O,ρ,_,r,e1,fun v H' s rb=>⟨b,vd rb,k H' s⟩⟩
noncomputable def PWd (X:Cx) (e:Expr) (g:Env'→Option Bool):Prop:=PW X e (tTd X.K g)
theorem PW.imp {e:Expr}{t t' : TT}(h:PW X e t) (k:∀σ H Q,t' σ H Q→t σ H Q):PW X e t':=fun wh pins s σ H Q I q=>h wh pins s σ H Q I (k σ H Q q)
theorem PWd.t {g:Env'→Option Bool}(h:PWd X e g):PTd X e g:=h.pt
section
variable {a b:Expr}{rest:List Expr}{gt ht:Env'→Option Bool}
theorem zdr (ha:PTd X a gt):PWd X (.BoolOp .And [a] pos) gt:=zkK ha
theorem zgq (ha:PTd X a gt) (hb:PWd X (.BoolOp .And (b::rest) pos) ht):PWd X (.BoolOp .And (a::b::rest) pos) (zdY gt ht):=PW.imp (zmg ha hb) fun σ H Q hZq=>by
 obtain⟨F,O,ρ,c,r,e,k⟩:=hZq;obtain⟨b1,e1,e2⟩:=Zb.mp e;refine⟨F,O,ρ,b1,r,e1,fun H1 s1 => ?_⟩;cases b1 with
 | true=>exact iteT ⟨F,O,ρ,c,r.same s1,e2,fun H2 s2=>k H2 (s1.trans s2)⟩
 | false=>cases e2;exact iteF (k H1 s1)
theorem zkH (ha:PTd X a gt):PTd X (.UnaryOp .Not a pos) (zfl gt):=PT.imp (zmd ha) fun σ H Q hZq=>by
 obtain⟨F,O,ρ,c,r,e,k⟩:=hZq;obtain⟨b1,e1,e2⟩:=ZG.mp e;subst e2;exact⟨F,O,ρ,b1,r,e1,fun H1 s1=>k H1 s1⟩
theorem zc7 {g:Env'→Option D}{ρ:Env'}{b:Bool}(e:gBo g ρ=some b):g ρ=some (.bool b):=by
 obtain⟨d,e1,e2⟩:=Zb.mp e;rw[yA e2]at e1;exact e1
variable {ga gb:Env'→Option D}
theorem zlV {op}(ha:PD X a ga):PD X (.BoolOp op [a] pos) ga:=zl3 ha
theorem zja (ha:PD X a ga) (hb:PD X (.BoolOp .And (b::rest) pos) gb):PD X (.BoolOp .And (a::b::rest) pos) (zcd ga gb):=PE.imp (zlW ha hb) fun σ H Q hZq=>by
 obtain⟨F,O,ρ,c,r,e,k⟩:=hZq;obtain⟨b1,e1,e2⟩:=Zb.mp e;refine⟨F,O,ρ,_,r,zc7 e1,fun v H1 s1 rb=>⟨b1,vd rb,?_⟩⟩;cases b1 with
 | true=>exact iteT ⟨F,O,ρ,c,r.same s1,e2,fun v H2 s2=>k v H2 (s1.trans s2)⟩
 | false=>cases e2;exact iteF (k _ H1 s1 (.bl false))
theorem zlU (ha:PD X a ga):PD X (.UnaryOp .Not a pos) (zfm ga):=PE.imp (zl2 ha) fun σ H Q hZq=>by
 obtain⟨F,O,ρ,c,r,e,k⟩:=hZq;obtain⟨b1,e1,e2⟩:=ZG.mp e;subst e2;exact⟨F,O,ρ,_,r,zc7 e1,fun v H1 s1 rb=>⟨b1,vd rb,k _ H1 s1 (.bl _)⟩⟩
theorem zmT {c:Expr}(hc:PTd X c gt) (ha:PD X a ga) (hb:PD X b gb):PD X (.IfExp c a b pos) (gIf gt ga gb):=PE.imp (zid hc ha hb) fun σ H Q hZq=>by
 obtain⟨F,O,ρ,c,r,e,k⟩:=hZq;obtain⟨b1,e1,e2⟩:=Zb.mp e;refine⟨F,O,ρ,b1,r,e1,fun H1 s1 => ?_⟩;cases b1 with
 | true=>exact iteT ⟨F,O,ρ,c,r.same s1,e2,fun v H2 s2=>k v H2 (s1.trans s2)⟩
 | false=>exact iteF ⟨F,O,ρ,c,r.same s1,e2,fun v H2 s2=>k v H2 (s1.trans s2)⟩
end
theorem yg {c:Expr}{a b:List YZ}{gt:Env'→Option Bool}(hc:PTd X c gt) (ha:PSsd X a g) (hb:PSsd X b h):PSd X (.If c a b pos) (sIf gt g h):=PS.imp (zmV hc ha hb) fun D σ H hZq=>by
 obtain⟨F,O,ρ,out,r,e,k⟩:=hZq;obtain⟨b1,e1,e2⟩:=Zb.mp e;refine⟨F,O,ρ,b1,r,e1,fun H1 s1 => ?_⟩;cases b1 with
 | true=>exact iteT ⟨F,O,ρ,out,r.same s1,e2,k⟩
 | false=>exact iteF ⟨F,O,ρ,out,r.same s1,e2,k⟩
end
end L2.Y
namespace L2.Y
open PySem PySem.Spec PyProof.Rows
inductive Yield (K:Frag) (B:Hp) (H:Hp):D→V→Hp→Prop
 | old {d:D}{x:V}:(∀O,Same B (hide O H)→Dom O H→Rep K (hide O H) d x)→Yield K B H d x H
 | new {ds:List D}{ys:List V}{p:Zh}:H p=none→Reps K B ds ys→Yield K B H (.tuple ds) (.ref p) (upd H p (.tup ys))
structure ItD (K:Frag) (B:Hp) (J:It) (ds:List D):Prop where
 go:∀i H,Same B H→i<ds.length→J.go i H
 yld:∀i H x H' d,Same B H→ds[i]?=some d→J.yld i H x H'→Yield K B H d x H'
 stop:∀H,Same B H→J.stop ds.length H
noncomputable def tId (K:Frag) (g:Env'→Option (List D)):TI:=fun σ H R=>∃F O ρ ds,SR K F O ρ σ H∧g ρ=some ds∧∀J H',Same H H'→ItD K (hide O H') J ds→R J H'
noncomputable def PId (X:Cx) (tg iter:Expr) (g:Env'→Option (List D)):Prop:=PI X tg iter (tId X.K g)
theorem PI.imp {X:Cx}{tg iter:Expr}{t t' : TI}(h:PI X tg iter t) (k:∀σ H R,t' σ H R→t σ H R):PI X tg iter t':=fun pins s σ H R I q=>h pins s σ H R I (k σ H R q)
section
variable {K:Frag}{B H:Hp}
theorem zjX {a:Zh}{xs:List V}{ds:List D}(sq:SqT K B a xs) (rs:Reps K B ds xs):ItD K B (Itt K a) ds where
 go:=fun i H s hi=>by
  obtain⟨v,hv,_⟩:=rs.get (i:=i) (d:=ds[i]) (by simp[hi]);exact⟨xs,v,SqT.same s sq,hv⟩
 yld:=fun i H x H' d s hd y=>by
  obtain⟨rfl,y⟩:=y;have hx:=y xs (SqT.same s sq);obtain⟨d',h1,h2⟩:=rs.getV hx;rw[hd]at h1;cases h1;exact .old fun O sm _=>h2.same sm
 stop:=fun H s=>⟨xs,SqT.same s sq,by rw[rs.length];exact Zg _⟩
theorem zjW {a:Zh}{xs:List V}{ds:List D}(sq:SqL K B a xs) (rs:Reps K B ds xs):ItD K B (Itl K a) ds where
 go:=fun i H s hi=>by
  obtain⟨v,hv,_⟩:=rs.get (i:=i) (d:=ds[i]) (by simp[hi]);exact⟨xs,v,SqL.same s sq,hv⟩
 yld:=fun i H x H' d s hd y=>by
  obtain⟨rfl,y⟩:=y;have hx:=y xs (SqL.same s sq);obtain⟨d',h1,h2⟩:=rs.getV hx;rw[hd]at h1;cases h1;exact .old fun O sm _=>h2.same sm
 stop:=fun H s=>⟨xs,SqL.same s sq,by rw[rs.length];exact Zg _⟩
theorem jS (lo:Int) (n:Nat):(zA lo n).length=n:=by simp[zA]
theorem zfA (lo:Int) (n:Nat):ItD K B (Itr lo n) (zA lo n) where
 go:=fun i H s hi=>by rw[jS]at hi;exact hi
 yld:=fun i H x H' d s hd y=>by
  obtain⟨rfl,rfl⟩:=y;have hi:i<n:=by
   have:=(Qa.mp hd).1;rw[jS]at this;exact this
  have e:(zA lo n)[i]?=some (.int (lo+i)):=by simp[zA,hi]
  rw[hd]at e;cases e;exact .old fun _ _ _=>.int _
 stop:=fun H s=>by rw[jS];exact Zg _
end
section
variable {X:Cx}{tg e:Expr}{pos p:Pos}{ge:Env'→Option D}
theorem jy (h:PD X e ge):PId X tg e (gIt seqD ge):=by
 intro pins s σ H R I hZq;obtain⟨F,O,ρ,ds,r,e,k⟩:=hZq;obtain⟨d,e1,e2⟩:=Zb.mp e;refine thn (h pins s σ H (fun v H1=>Same H H1∧Rep X.K (hide O H1) d v) I ⟨F,O,ρ,d,r,e1,fun v H1 s1 rb=>⟨s1,rb⟩⟩) fun v s1 ⟨x,H1,I1,r1,sm,rb⟩ => ?_;cases d with
 | tuple es =>
  cases e2;cases rb with
  | tup sq rs =>
   rename_i a xs;obtain rfl:v=Za.ref a:=r1;have sq' : SqT X.K (hide O H1) a xs:=.inl (.inl sq);obtain⟨its,rv,p,hz⟩:=I1.tuple (SqT.same jg sq');refine KD (show s1.heap.IsTuple a its.toArray from p) ?_;refine⟨s1.heap.objs.size,[s1.heap.objs.size],_,_,H1,rfl,I1.kept (t':=s1.toks) fun b o e=>Ze _ e,zen a _,⟨_,Zy _ rfl,rfl,rfl⟩,fun b hb => ?_,k _ H1 sm (zjX sq' rs)⟩;have e:b=s1.heap.objs.size:=by simpa using hb
   subst e;exact I1.fpOk (Zg _) (I1.hok.fresh (Zg _))
 | list es =>
  cases e2;cases rb with
  | lst sq rs =>
   rename_i a xs;obtain rfl:v=Za.ref a:=r1;obtain⟨its,rv,p,hz⟩:=I1.list (SqL.same jg (.inl sq));refine Ce p.isList ?_;refine⟨s1.heap.objs.size,[s1.heap.objs.size],_,_,H1,rfl,I1.kept (t':=s1.toks) fun b o e=>Ze _ e,zgY a _,⟨_,Zy _ rfl,rfl,rfl⟩,fun b hb => ?_,k _ H1 sm (zjW (.inl sq) rs)⟩;have e:b=s1.heap.objs.size:=by simpa using hb
   subst e;exact I1.fpOk (Zg _) (I1.hok.fresh (Zg _))
 | _=>cases e2
theorem xq {a:Expr}{ga:Env'→Option (List D)}(hg:Gl X "range") (hm:X.mg "range" = none) (ha:PAd X [a] ga) (hs:autoParam (Qm [a] X.env=[(false,eval a X.env)]) aTc) :
  PId X tg (.Call (.Name "range" p) [a] [] pos) (gItA qH ga):=PI.imp (zgf (tg:=tg) hg hm ha hs) fun σ H R hZq=>by
 obtain⟨F,O,ρ,ds,r,e,k⟩:=hZq;obtain⟨as,e1,e2⟩:=Zb.mp e;refine⟨F,O,ρ,as,r,e1,fun vs H1 s1 rb => ?_⟩;unfold qH at e2;split at e2
 ·split at e2
  ·rename_i j hj;cases e2;obtain⟨v,rfl,rv⟩:=rb.inv1;cases rv;exact⟨j,rfl,hj.1,hj.2,k _ H1 s1 (zfA 0 _)⟩
  ·cases e2
 ·cases e2
theorem xr {a b:Expr}{ga:Env'→Option (List D)}(hg:Gl X "range") (hm:X.mg "range" = none) (ha:PAd X [a,b] ga) (hs:autoParam (Qm [a,b] X.env=[(false,eval a X.env),(false,eval b X.env)]) aTc) (hs2:autoParam (Qm [b] X.env=[(false,eval b X.env)]) aTc) :
  PId X tg (.Call (.Name "range" p) [a,b] [] pos) (gItA qZ ga):=PI.imp (zgg (tg:=tg) hg hm ha hs hs2) fun σ H R hZq=>by
 obtain⟨F,O,ρ,ds,r,e,k⟩:=hZq;obtain⟨as,e1,e2⟩:=Zb.mp e;refine⟨F,O,ρ,as,r,e1,fun vs H1 s1 rb => ?_⟩;unfold qZ at e2;split at e2
 ·split at e2
  ·rename_i i j hj;cases e2;cases rb with
   | cons r1 rb =>
    obtain⟨v,rfl,rv⟩:=rb.inv1;cases r1;cases rv;exact⟨i,j,rfl,hj,k _ H1 s1 (zfA i _)⟩
  ·cases e2
 ·cases e2
theorem zdK {K:Frag}{F:Fx}{O:List Zh}{ρ:Env'}{σ:St}{H H' : Hp}{d:D}{x:V}(r:SR K F O ρ σ H) (y:Yield K F.V0 H d x H'):Same H H'∧SR K F O ρ σ H'∧Rep K (hide O H') d x:=by
 cases y with
 | old h=>exact⟨Same.refl _,r,h O r.vb r.dom⟩
 | new hp rs=>exact⟨zY hp,r.same (zY hp),xw hp (r.fresh hp) (rs.same r.vb)⟩
theorem zjN {K:Frag}{g:Env'→Option (List D)}{h:GT}{gb:GS}{D:Ends}{σ:St}{H:Hp}(q:tSd K (sFor g h gb) D σ H):tFor (tId K g) (tGd K h) (tSd K gb) D σ H:=by
 obtain⟨F,O,ρ,out,r,e,k⟩:=q;obtain⟨ds,e1,e2⟩:=Zb.mp e;refine⟨F,O,ρ,ds,r,e1,fun J H1 s1 it => ?_⟩;have r1:=r.same s1;have sb:Same F.V0 (hide O H1):=r1.vb;refine⟨fun i m σ H=>m=ds.length-i∧i≤ds.length∧∃O' ρ',SR K { F with V0:=hide O H1 } O' ρ' σ H∧forF h gb (ds.drop i) ρ'=some out,⟨ds.length,rfl,Qp _,O,ρ,r1.base,e2⟩,?_⟩;rintro i m σ2 H2 ⟨rfl,hi,O',ρ',r2,e3⟩;have sB:Same (hide O H1) H2:=r2.vb.trans jg
 by_cases hlt:i<ds.length
 ·refine .inr ⟨it.go i H2 sB hlt,?_⟩;rw[VH hlt]at e3;obtain⟨ρ3,e4,e5⟩:=Zb.mp e3;obtain⟨o1,e6,e7⟩:=Zb.mp e5;refine⟨fun σ' H'=>∃O' ρ',SR K { F with V0:=hide O H1 } O' ρ' σ' H'∧forF h gb (ds.drop (i+1)) ρ'=some out,fun σ' H' ⟨O4,ρ4,r4,e8⟩=>⟨ds.length-(i+1),by omega,rfl,hlt,O4,ρ4,r4,e8⟩,fun x H' y => ?_⟩;obtain⟨s5,r5,b5⟩:=zdK r2 (it.yld i H2 x H' ds[i] sB (by simp[hlt]) y);refine⟨_,O',ρ',ds[i],ρ3,r5,b5,e4,fun σ' r6=>⟨_,O',ρ3,o1,r6,e6,?_⟩⟩;cases o1 with
  | nxt ρ7=>exact fun O8 σ8 H8 r8=>⟨O8,ρ7,r8,e7⟩
  | cnt ρ7=>exact fun O8 σ8 H8 r8=>⟨O8,ρ7,r8,e7⟩
  | brk ρ7=>cases e7;exact fun O8 σ8 H8 r8=>k O8 σ8 H8 (r8.back sb)
  | ret d=>cases e7;exact k
 ·have ei:i=ds.length:=by omega
  subst ei;rw[DR]at e3;cases e3;exact .inl ⟨it.stop H2 sB,k O' σ2 H2 (r2.back sb)⟩
theorem jZ {iter:Expr}{body:List YZ}{g:Env'→Option (List D)}{h:GT}{gb:GS}(hp:Nk (model X.prog X.w) X.A X.env X.xe) (hc:X.calm=true) (hi:PId X tg iter g) (hg:PGd X tg h) (hb:PSsd X body gb)
  (hs:autoParam (∀x,Yc iter X.env x=pure x) aTd):PSd X (.For tg iter body [] pos) (sFor g h gb):=PS.imp (zmb hp hc hi hg hb hs) fun _ _ _ q=>zjN q
theorem zcA {c:Env'→Option Bool}{gb:GS}{ρ:Env'}{o:Out}(h:yi c gb ρ=some o):∃n,jT c gb n ρ=some o:=by
 unfold yi at h;split at h
 ·rename_i hx;cases h;exact⟨hx.choose,hx.choose_spec.choose_spec⟩
 ·cases h
theorem zg5 {K:Frag}{c:Env'→Option Bool}{gb:GS}{D:Ends}{σ:St}{H:Hp}(q:tSd K (yi c gb) D σ H):zjk (tTd K c) (tSd K gb) D σ H:=by
 obtain⟨F,O,ρ,out,r,e,k⟩:=q;obtain⟨n,e1⟩:=zcA e;refine⟨fun m σ H=>∃O' ρ',SR K F O' ρ' σ H∧jT c gb m ρ'=some out,⟨n,O,ρ,r,e1⟩,?_⟩;rintro m σ2 H2 ⟨O',ρ',r2,e2⟩;cases m with
 | zero=>cases e2
 | succ m =>
  unfold jT at e2;obtain⟨b,e3,e4⟩:=Zb.mp e2;refine⟨F,O',ρ',b,r2,e3,fun H3 s3 => ?_⟩;cases b with
  | false =>
   simp only[Qq,if_false]at e4 ⊢;cases e4;exact k O' σ2 H3 (r2.same s3)
  | true =>
   simp only[if_true]at e4 ⊢;obtain⟨o1,e5,e6⟩:=Zb.mp e4;refine⟨fun σ' H'=>∃O' ρ',SR K F O' ρ' σ' H'∧jT c gb m ρ'=some out,fun σ' H' ⟨O4,ρ4,r4,e8⟩=>⟨m,by omega,O4,ρ4,r4,e8⟩,F,O',ρ',o1,r2.same s3,e5,?_⟩;cases o1 with
   | nxt ρ7=>exact fun O8 σ8 H8 r8=>⟨O8,ρ7,r8,e6⟩
   | cnt ρ7=>exact fun O8 σ8 H8 r8=>⟨O8,ρ7,r8,e6⟩
   | brk ρ7=>cases e6;exact fun O8 σ8 H8 r8=>k O8 σ8 H8 r8
   | ret d=>cases e6;exact k
theorem kh {c:Expr}{body:List YZ}{gc:Env'→Option Bool}{gb:GS}(hp:Nk (model X.prog X.w) X.A X.env X.xe) (hc:PTd X c gc) (hb:PSsd X body gb):PSd X (.While c body [] pos) (yi gc gb) :=
 PS.imp (zio hp hc hb) fun _ _ _ q=>zg5 q
theorem yc {i:Nat}{ρ:Env'}{ds:List D}(h:ownL i ρ=some ds):ρ[i]?=some (some (.own (.list ds))):=by
 unfold ownL at h;split at h
 ·cases h;assumption
 ·cases h
end
end L2.Y
namespace L2.Y
open PySem PySem.Spec PyProof.Rows
section
variable {X:Cx}{pins:List (Zh×Obj)}{σ:St}{H:Hp}{s:Zf}
theorem Rep.reads (I:Inv X pins σ H s) {d:D}{v:V}{u:Za}(r0:Rep X.K H d v):RelV v u→d.canLay0=true→∃as,BK s.heap u d as :=
 Rep.rec (motive_1:=fun d v _=>∀u,RelV v u→d.canLay0=true→∃as,BK s.heap u d as) (motive_2:=fun ds vs _=>∀us,Vals vs us→QZ ds=true→∃as,UG s.heap us ds as)
  (fun u r _=>by cases r;exact⟨_,.none⟩) (fun b u r _=>by cases r;exact⟨_,.bool b⟩) (fun i u r _=>by obtain⟨t,rfl⟩:=r;exact⟨_,.int i t⟩) (fun x u r _=>by obtain⟨t,rfl⟩:=r;exact⟨_,.str x t⟩)
  (fun h _ ih u r hc=>by
   cases r;obtain⟨its,rv,⟨o,e,c,n,dd⟩,_⟩:=I.tuple (.inl (.inl h));obtain⟨as,q⟩:=ih _ rv (by simpa[QF] using hc);exact⟨_,.tuple e c dd (by simpa using q)⟩)
  (fun h _ ih u r hc=>by
   cases r;obtain⟨its,rv,⟨o,n,e,c,_,dd⟩,_⟩:=I.list (SqL.same (Same.refl _) (.inl h));obtain⟨as,q⟩:=ih _ rv (by simpa[QF] using hc);exact⟨_,.list e c dd (by simpa using q)⟩)
  (fun _ _ _ _ _ hc=>by simp[QF]at hc) (fun _ _ _ _ _ hc=>by simp[QF]at hc) (fun _ _ _ _ _ hc=>by simp[QF]at hc) (fun _ _ _ hc=>by simp[QF]at hc) (fun _ _ _ _ _ hc=>by simp[QF]at hc)
  (fun u r _=>by cases r;exact⟨_,.nil⟩)
  (fun _ _ a b us r hc=>by
   cases r with
   | cons r rr =>
    simp only[QZ,QM]at hc;have hc':=hc;obtain⟨as,q⟩:=a _ r hc'.1;obtain⟨bs,q'⟩:=b _ rr hc'.2;exact⟨_,.cons q q'⟩) r0 u
theorem RepB.full {K:Frag}{O:List Zh}{d:D}{v:V}(h:RepB K O H d v):Rep K H d v:=by
 cases h with
 | val h=>exact h.same jg
 | own _ h =>
  cases h with
  | lst h r=>exact .lst (.inl h) (r.same jg)
  | dK h r=>exact .dK h (r.same jg)
  | dT h r=>exact .dT h (r.same jg)
theorem RepB.reads {O:List Zh}{d:D}{v:V}{u:Za}(I:Inv X pins σ H s) (h:RepB X.K O H d v) (r:RelV v u) (hc:d.canLay0=true):∃as,BK s.heap u d as:=h.full.reads I r hc
end
section
variable {X:Cx}
theorem xP {pins:List (Zh×Obj)}{σ:St}{H:Hp}{s:Zf}{O:List Zh}{b:Bool}{Q:VK}(I:Inv X pins σ H s) (k:∀z H',Same H H'→Rep X.K (hide O H') (.bool b) z→Q z H'):EP X pins σ Q (.bool b) s :=
 ⟨.bl b,H,I,rfl,k _ H (Same.refl _) (.bl b)⟩
theorem zll {pins:List (Zh×Obj)}{σ:St}{H:Hp}{s:Zf}{O:List Zh}{i:Int}{t:Tok}{Q:VK}(I:Inv X pins σ H s) (k:∀z H',Same H H'→Rep X.K (hide O H') (.int i) z→Q z H'):EP X pins σ Q (.int i t) s :=
 ⟨.int i,H,I,⟨t,rfl⟩,k _ H (Same.refl _) (.int i)⟩
theorem zac (hu:X.A.units+64<VF):OpD X (JS .Eq) eqD:=by
 intro pins s σ H O x y v u dx dy d Q I hO rx ry bx by' e k;unfold eqD at e;split at e
 ·rename_i hs;obtain⟨h1,h2⟩:=Wd.mp hs;cases e;obtain⟨as,ra⟩:=bx.reads I rx (QL h1);obtain⟨bs,rb⟩:=by'.reads I ry (QL h2);exact SeqAt.compareEq_shaped ra rb h1 h2 hu (xP I k)
 ·cases e
theorem zbA (hu:X.A.units+64<VF):OpD X (JS .NotEq) neD:=by
 intro pins s σ H O x y v u dx dy d Q I hO rx ry bx by' e k;unfold neD at e;split at e
 ·rename_i hs;obtain⟨h1,h2⟩:=Wd.mp hs;cases e;obtain⟨as,ra⟩:=bx.reads I rx (QL h1);obtain⟨bs,rb⟩:=by'.reads I ry (QL h2);exact SeqAt.compareNe_shaped ra rb h1 h2 hu (xP I k)
 ·cases e
theorem zfH {d:D}{k:Key}(h:keyQ d=some k):d=keyD k:=by
 cases d <;> first | (cases h;rfl) | cases h
theorem zbw:∀ {ds:List D}{ks:List Key},ds.mapM keyQ=some ks→ds=ks.map keyD
 | [],ks,h=>by cases h;rfl
 | d::ds,ks,h=>by
  rw[Jh]at h;obtain⟨k,h1,h⟩:=Zb.mp h;obtain⟨r,h2,h⟩:=Zb.mp h;cases h;rw[zfH h1,zbw h2];rfl
theorem wm {d:D}{ks:List Key}(h:zd3 d=some ks):d=xA ks:=by
 cases d with
 | tuple ds=>rw[zbw (show ds.mapM keyQ=some ks from h)];rfl
 | _=>cases h
theorem zht (a b:Key):ZP (keyD a) (keyD b)=decide (a=b):=by
 cases a <;> cases b
 ·rename_i i j
  by_cases e:i=j
  ·subst e;simp[keyD,ZP]
  ·simp[keyD,ZP,e]
 ·simp[keyD,ZP]
 ·simp[keyD,ZP]
 ·rename_i i j
  by_cases e:i=j
  ·subst e;simp[keyD,ZP]
  ·simp[keyD,ZP,e]
theorem vR:∀(a b:List Key),QQ (a.map keyD) (b.map keyD)=decide (a=b)
 | [],[]=>by simp[QQ]
 | [],_::_=>by simp[QQ]
 | _::_,[]=>by simp[QQ]
 | x::xs,y::ys=>by
  simp only[Zk,QQ,zht,vR xs ys]
  by_cases e:x=y <;> by_cases e' : xs=ys <;> simp[e,e']
theorem vS (a b:List Key):ZP (xA a) (xA b)=decide (a=b):=by
 unfold xA;rw[show ZP (.tuple (a.map keyD)) (.tuple (b.map keyD))=QQ (a.map keyD) (b.map keyD) from by simp only[ZP],vR]
section
variable {κ:Type} [DecidableEq κ] {f:κ→D}{K:Frag}{H:Hp}
theorem zaE (hf:∀a b,ZP (f a) (f b)=decide (a=b)) (k:κ):∀ {kvs:List (κ×V)}{ds:List D},Reps K H ds (kvs.map (·.2)) →
  (∀d,yF ((kvs.map fun p=>f p.1).zip ds) (f k)=some d→∃v,valV kvs k=some v∧Rep K H d v)∧(yF ((kvs.map fun p=>f p.1).zip ds) (f k)=none→valV kvs k=none)
 | [],_,r=>by cases r;exact⟨fun d h=>(nomatch h),fun _=>rfl⟩
 | (k',v)::kvs,_,r=>by
  cases r with
  | cons r rr =>
   rename_i d ds;have ih:=zaE hf k rr;have e1:yF (((k',v)::kvs).map (fun p=>f p.1) |>.zip (d::ds)) (f k)=if k'=k then some d else yF ((kvs.map fun p=>f p.1).zip ds) (f k):=by
    simp only[Zk,Jz,yF,Vl,hf]
    by_cases e:k'=k <;> simp[e]
   rw[e1]
   by_cases e:k'=k
   ·rw[if_pos e];exact⟨fun d' h=>by cases h;exact⟨v,vm (p:=(k',v)) e,r⟩,fun h=>(nomatch h)⟩
   ·rw[if_neg e,vk (p:=(k',v)) e];exact ih
theorem zeD (hf:∀a b,ZP (f a) (f b)=decide (a=b)) (k:κ):∀ {kvs:List (κ×V)}{ds:List D},Reps K H ds (kvs.map (·.2)) →
  (((kvs.map fun p=>f p.1).zip ds).any fun p=>ZP p.1 (f k))=kvs.any fun kv=>decide (kv.1=k)
 | [],_,r=>by cases r;rfl
 | (k',v)::kvs,_,r=>by
  cases r with
  | cons r rr=>simp only[Zk,Jz,Ug,hf,zeD hf k rr]
theorem zkJ (hf:∀a b,ZP (f a) (f b)=decide (a=b)) (k:κ) {y:D}{w:V}(ry:Rep K H y w) {kvs:List (κ×V)}{ds:List D}(r:Reps K H ds (kvs.map (·.2))) :
  ∃ds',putD ((kvs.map fun p=>f p.1).zip ds) (f k) y=((putK kvs k w).map fun p=>f p.1).zip ds'∧Reps K H ds' ((putK kvs k w).map (·.2)):=by
 have ha:=zeD (f:=f) hf k r;unfold putD putK;rw[ha]
 by_cases e:(kvs.any fun kv=>decide (kv.1=k))=true
 ·rw[if_pos e,if_pos e];clear ha e;have go:∀ {kvs:List (κ×V)}{ds:List D},Reps K H ds (kvs.map (·.2))→∃ds',(((kvs.map fun p=>f p.1).zip ds).map fun p=>if ZP p.1 (f k)=true then(p.1,y) else p) =
    ((kvs.map fun kv=>if kv.1=k then(kv.1,w) else kv).map fun p=>f p.1).zip ds'∧Reps K H ds' ((kvs.map fun kv=>if kv.1=k then(kv.1,w) else kv).map (·.2)):=by
   intro kvs
   induction kvs with
   | nil=>intro ds r;cases r;exact⟨[],rfl,.nil⟩
   | cons p kvs ih =>
    intro ds r;obtain⟨k',v⟩:=p;cases r with
    | cons r rr =>
     rename_i d1 ds1;obtain⟨ds',e1,e2⟩:=ih rr
     by_cases e:k'=k
     ·refine⟨y::ds',?_,?_⟩
      ·simp only[Zk,Jz,e1,hf,e,decide_true,if_true]
      ·simp only[Zk,e,if_true];exact .cons ry e2
     ·refine⟨d1::ds',?_,?_⟩
      ·simp only[Zk,Jz,e1,hf,e,decide_false,Qq,if_false]
      ·simp only[Zk,e,if_false];exact .cons r e2
  exact go r
 ·rw[if_neg e,if_neg e];refine⟨ds++[y],?_,?_⟩
  ·rw[Qw,List.zip_append (by rw[Zi,r.length,Zi])];rfl
  ·rw[Qw];exact r.append (.cons ry .nil)
end
end
end L2.Y
namespace L2.Y
open PySem PySem.Spec PyProof.Rows
section
variable {X:Cx}
theorem yk {ds:List D}(h:ds.all ZQ=true):QZ ds=true∧Qz ds≤64:=by
 induction ds with
 | nil=>exact⟨rfl,Qp _⟩
 | cons d ds ih =>
  simp only[List.all_cons,QM]at h;obtain⟨h1,h2⟩:=ih h.2;have a:=QL h.1;have b:=SeqAt.depth_of_shaped h.1;refine⟨by simp only[QZ,a,h1,HX],?_⟩;simp only[Qz];omega
theorem room_in {A:QB}{ds:List D}{x:D}(hu:A.units+66<VF) (h:Qz ds≤64):A.units+1+min (Qz ds) x.depth<VF:=by
 have:min (Qz ds) x.depth≤Qz ds:=Nat.min_le_left _ _;omega
theorem zf6 (hu:X.A.units+66<VF):OpD X (JS .In) inD:=by
 intro pins s σ H O x y v u dx dy d Q I hO rx ry bx by' e k;obtain⟨b,e1,rfl⟩:=ZG.mp e;cases dy with
 | list ds =>
  have e1:(if(ds.all ZQ&&ZQ dx)=true then some (ds.any fun y=>ZP y dx) else none)=some b:=e1;split at e1
  ·rename_i hs;obtain⟨h1,h2⟩:=Wd.mp hs;obtain⟨c1,c2⟩:=yk h1;cases e1;obtain⟨as,ra⟩:=bx.reads I rx (QL h2);obtain⟨bs,rb⟩:=by'.reads I ry (by simpa only [QF] using c1);exact SeqAt.in_list_reads rb ra c1 (QL h2) (room_in hu c2) (xP I k)
  ·cases e1
 | tuple ds =>
  have e1:(if(ds.all ZQ&&ZQ dx)=true then some (ds.any fun y=>ZP y dx) else none)=some b:=e1;split at e1
  ·rename_i hs;obtain⟨h1,h2⟩:=Wd.mp hs;obtain⟨c1,c2⟩:=yk h1;cases e1;obtain⟨as,ra⟩:=bx.reads I rx (QL h2);obtain⟨bs,rb⟩:=by'.reads I ry (by simpa only [QF] using c1);exact SeqAt.in_tuple_reads rb ra c1 (QL h2) (room_in hu c2) (xP I k)
  ·cases e1
 | _=>cases e1
theorem zbB (hu:X.A.units+66<VF):OpD X (JS .NotIn) yN:=by
 intro pins s σ H O x y v u dx dy d Q I hO rx ry bx by' e k;obtain⟨b,e1,rfl⟩:=ZG.mp e;cases dy with
 | list ds =>
  have e1:(if(ds.all ZQ&&ZQ dx)=true then some (ds.any fun y=>ZP y dx) else none)=some b:=e1;split at e1
  ·rename_i hs;obtain⟨h1,h2⟩:=Wd.mp hs;obtain⟨c1,c2⟩:=yk h1;cases e1;obtain⟨as,ra⟩:=bx.reads I rx (QL h2);obtain⟨bs,rb⟩:=by'.reads I ry (by simpa only [QF] using c1);exact SeqAt.notIn_list_reads rb ra c1 (QL h2) (room_in hu c2) (xP I k)
  ·cases e1
 | tuple ds =>
  have e1:(if(ds.all ZQ&&ZQ dx)=true then some (ds.any fun y=>ZP y dx) else none)=some b:=e1;split at e1
  ·rename_i hs;obtain⟨h1,h2⟩:=Wd.mp hs;obtain⟨c1,c2⟩:=yk h1;cases e1;obtain⟨as,ra⟩:=bx.reads I rx (QL h2);obtain⟨bs,rb⟩:=by'.reads I ry (by simpa only [QF] using c1);exact SeqAt.notIn_tuple_reads rb ra c1 (QL h2) (room_in hu c2) (xP I k)
  ·cases e1
 | _=>cases e1
theorem wH {f:Za→Za→Sem Za}{C:Int→Int→Prop}{g:Int→Int→V}{h:D→D→Option D}(ho:OpR X f (rI C g)) (hd:∀dx dy d,h dx dy=some d→∃i j,dx=.int i∧dy=.int j∧C i j∧∀K H,Rep K H d (g i j)):OpD X f h:=by
 intro pins s σ H O x y v u dx dy d Q I hO rx ry bx by' e k;obtain⟨i,j,rfl,rfl,hc,r⟩:=hd dx dy d e;cases bx.int;cases by'.int;exact ho pins s σ H _ _ v u Q I rx ry ⟨i,j,rfl,rfl,hc,k _ H (Same.refl _) (r _ _)⟩
theorem zbH {f:Za→Za→Sem Za}{g:Int→Int→V}(h:OpR X f (rI0 g)):OpR X f (rI (fun _ _=>True) g):=fun pins s σ H x y v u Q I rx ry ⟨i,j,e1,e2,_,q⟩=>h pins s σ H x y v u Q I rx ry ⟨i,j,e1,e2,q⟩
theorem jL {f:Int→Int→Option D}{a b d:D}(h:wZ f a b=some d):∃i j,a=.int i∧b=.int j∧f i j=some d:=by
 unfold wZ at h;split at h
 ·exact⟨_,_,rfl,rfl,h⟩
 ·cases h
theorem qQ:OpD X (Wl .Sub) subD:=wH (zbH zlQ) fun dx dy d h=>by
 obtain⟨i,j,rfl,rfl,e⟩:=jL h;cases e;exact⟨i,j,rfl,rfl,trivial,fun _ _=>.int _⟩
theorem zh6:OpD X (Wl .FloorDiv) zhu:=wH zkg fun dx dy d h=>by
 obtain⟨i,j,rfl,rfl,e⟩:=jL h;split at e
 ·cases e;exact⟨i,j,rfl,rfl,by assumption,fun _ _=>.int _⟩
 ·cases e
theorem jM:OpD X (Wl .Mod) modD:=wH zlN fun dx dy d h=>by
 obtain⟨i,j,rfl,rfl,e⟩:=jL h;split at e
 ·cases e;exact⟨i,j,rfl,rfl,by assumption,fun _ _=>.int _⟩
 ·cases e
theorem zgu {pins:List (Zh×Obj)}{σ:St}{H:Hp}{s:Zf}{a:Zh}{xs:List V}(I:Inv X pins σ H s) (h:Rd H a (.lst xs)):xs.length≤Zu∧∃its n,Vals xs its∧s.heap.get? a=some { cls:=.type "list",data:=.seq its.toArray n }:=by
 obtain⟨z,its,n,r,e⟩:=h.ok I.hok;exact⟨z,its,n,r,e⟩
end
end L2.Y
namespace L2.Y
open PySem PySem.Spec PyProof.Rows
section
variable {X:Cx}
theorem Inv.newL {pins:List (Zh×Obj)}{σ:St}{H:Hp}{s:Zf}{xs:List V}{its:List Za}(I:Inv X pins σ H s) (r:Vals xs its) (hz:xs.length≤Zu) (t' : Nat) :
  Inv X pins σ (upd H s.heap.objs.size (.lst xs)) { s with heap:=s.heap.push { cls:=.type "list",data:=.seq its.toArray },toks:=t' } :=
 I.laid (t':=t') (fun b u e=>Ze _ e) (Zg _) ⟨hz,its,0,r,Zy _ rfl⟩
theorem Inv.newT {pins:List (Zh×Obj)}{σ:St}{H:Hp}{s:Zf}{xs:List V}{its:List Za}(I:Inv X pins σ H s) (r:Vals xs its) (hz:xs.length≤Zu) (t' : Nat) :
  Inv X pins σ (upd H s.heap.objs.size (.tup xs)) { s with heap:=s.heap.push { cls:=.type "tuple",data:=.seq its.toArray },toks:=t' } :=
 I.laid (t':=t') (fun b u e=>Ze _ e) (Zg _) ⟨hz,its,r,Th _ _⟩
theorem ze4 {pins:List (Zh×Obj)}{σ:St}{H:Hp}{s:Zf}{O:List Zh}{xs:List V}{its:List Za}{ds:List D}{Q:VK}{t' : Nat}(I:Inv X pins σ H s) (hO:Dom O H) (r:Vals xs its) (hz:xs.length≤Zu) (rs:Reps X.K (hide O H) ds xs)
  (k:∀z H',Same H H'→Rep X.K (hide O H') (.list ds) z→Q z H'):EP X pins σ Q (.ref s.heap.objs.size) { s with heap:=s.heap.push { cls:=.type "list",data:=.seq its.toArray },toks:=t' }:=by
 have hf:H s.heap.objs.size=none:=I.hok.fresh (Zg _);exact⟨.ref s.heap.objs.size,_,Inv.newL I r hz t',rfl,k _ _ (zY hf) (vf hf (hO.out hf) rs)⟩
theorem ze5 {pins:List (Zh×Obj)}{σ:St}{H:Hp}{s:Zf}{O:List Zh}{xs:List V}{its:List Za}{ds:List D}{Q:VK}{t' : Nat}(I:Inv X pins σ H s) (hO:Dom O H) (r:Vals xs its) (hz:xs.length≤Zu) (rs:Reps X.K (hide O H) ds xs)
  (k:∀z H',Same H H'→Rep X.K (hide O H') (.tuple ds) z→Q z H'):EP X pins σ Q (.ref s.heap.objs.size) { s with heap:=s.heap.push { cls:=.type "tuple",data:=.seq its.toArray },toks:=t' }:=by
 have hf:H s.heap.objs.size=none:=I.hok.fresh (Zg _);exact⟨.ref s.heap.objs.size,_,Inv.newT I r hz t',rfl,k _ _ (zY hf) (xw hf (hO.out hf) rs)⟩
theorem yp {O:List Zh}{H:Hp}{ds:List D}{v:V}(h:RepB X.K O H (.tuple ds) v):Rep X.K (hide O H) (.tuple ds) v:=by
 cases h with
 | val h=>exact h
 | own _ h=>cases h
theorem zt:OpD X (Wl .Add) addD:=by
 intro pins s σ H O x y v u dx dy d Q I hO rx ry bx by' e k;unfold addD at e;split at e
 ·rename_i i j;cases e;cases bx.int;cases by'.int;exact zlM pins s σ H _ _ v u Q I rx ry ⟨i,j,rfl,rfl,k _ H (Same.refl _) (.int _)⟩
 ·rename_i xs ys;split at e
  ·rename_i hl;cases e;obtain⟨a,vx,rfl,sa,ra⟩:=bx.tup;obtain⟨b,vy,rfl,sb,rb⟩:=by'.tup;obtain rfl:v=Za.ref a:=rx;obtain rfl:u=Za.ref b:=ry;obtain⟨its,r1,p1,_⟩:=I.tuple sa;obtain⟨its2,r2,p2,_⟩:=I.tuple sb
   by_cases he:its=[]
   ·have:vx=[]:=(r1.nil_iff).mp he;subst this;cases ra;obtain⟨⟨cls,dd,data,sl⟩,ho,hc,n,hd⟩:=id p1;obtain⟨⟨cls2,dd2,data2,sl2⟩,ho2,hc2,n2,hd2⟩:=id p2;simp only at hc hd hc2 hd2;subst hc hd hc2 hd2;refine My ⟨_,ho,rfl⟩ ⟨_,ho2,rfl⟩ Gx By Yv Yp (Yh _ _)
     (tuple_addW0 a b its.toArray its2.toArray n n2 dd dd2 sl sl2 (by simp[he])) ⟨ho,ho2,?_⟩
    exact⟨.ref b,H,I,rfl,k _ H (Same.refl _) (yp by')⟩
   ·refine HT.cat_tup p1 p2 he (fun z => ?_) (fun z => ?_) (by rw[←r1.length,←r2.length,←ra.length,←rb.length];exact hl)
    ·have:vy=[]:=(r2.nil_iff).mp z;subst this;cases rb;rw[Yt]at k;exact⟨.ref a,H,I,rfl,k _ H (Same.refl _) (yp bx)⟩
    ·exact ze5 (t':=s.toks) I hO (r1.append r2) (by rw[Zx,←ra.length,←rb.length];exact hl) (ra.append rb) k
  ·cases e
 ·rename_i xs ys;split at e
  ·rename_i hl;cases e;obtain⟨a,vx,rfl,sa,ra⟩:=bx.lstR;obtain⟨b,vy,rfl,sb,rb⟩:=by'.lstR;obtain rfl:v=Za.ref a:=rx;obtain rfl:u=Za.ref b:=ry;obtain⟨_,its,n,r1,e1⟩:=zgu I sa;obtain⟨_,its2,n2,r2,e2⟩:=zgu I sb;refine PySem.P.add_list e1 e2 ?_ (by rw[Zv,Zv,←r1.length,←r2.length,←ra.length,←rb.length];exact hl);have ea:its.toArray++its2.toArray=(its++its2).toArray:=by simp
   rw[ea];exact ze4 (t':=s.toks) I hO (r1.append r2) (by rw[Zx,←ra.length,←rb.length];exact hl) (ra.append rb) k
  ·cases e
 ·cases e
theorem wk:∀ {ds:List D}{is:List Int},wR ds=some is→ds=is.map Zm.int
 | [],_,h=>by cases h;rfl
 | d::ds,_,h=>by
  unfold wR at h;rw[Jh]at h;obtain⟨i,h1,h⟩:=Zb.mp h;obtain⟨r,h2,h⟩:=Zb.mp h;cases h;cases d <;> first | (cases h1;rw[wk (ds:=ds) h2];rfl) | cases h1
theorem zlR:OpD X (JS .LtE) leD:=wH (zbH zmP) fun dx dy d h=>by
 obtain⟨i,j,rfl,rfl,e⟩:=jL h;cases e;exact⟨i,j,rfl,rfl,trivial,fun _ _=>.bl _⟩
theorem zi9:OpD X (JS .Gt) gtD:=wH (zbH zmO) fun dx dy d h=>by
 obtain⟨i,j,rfl,rfl,e⟩:=jL h;cases e;exact⟨i,j,rfl,rfl,trivial,fun _ _=>.bl _⟩
theorem zf7 (hu:X.A.units<VF):OpD X (JS .Lt) ltD:=wH (zbH zmQ) fun dx dy d h=>by
 obtain⟨i,j,rfl,rfl,e⟩:=jL h;cases e;exact⟨i,j,rfl,rfl,trivial,fun _ _=>.bl _⟩
end
end L2.Y
namespace L2.Y
open PySem PySem.Spec PyProof.Rows
section
open PySem.SeqAt
open PySem.AutoSeq1 (wpAny_loadPart')
open PySem.MeetsSeq PySem.MeetsSeq2 PySem.MeetsSeq3
end
section
variable {X:Cx}
theorem zf5 (hu:X.A.units<VF):OpD X (JS .GtE) geD:=wH (zbH zmN) fun dx dy d h=>by
 obtain⟨i,j,rfl,rfl,e⟩:=jL h;cases e;exact⟨i,j,rfl,rfl,trivial,fun _ _=>.bl _⟩
theorem wD {K:Frag}{H:Hp}{ds:List D}{xs:List V}{i:Int}{d:D}(r:Reps K H ds xs) (e:atI ds i=some d):∃v,atI xs i=some v∧Rep K H d v:=by
 unfold atI at e ⊢;rw[←r.length];obtain⟨j,e1,e2⟩:=Zb.mp e;obtain⟨v,h1,h2⟩:=r.get e2;exact⟨v,by rw[e1];exact h1,h2⟩
theorem jq {a b:Expr}{pos:Pos}{ga gb:Env'→Option D}(ha:PB X a ga) (hb:PB X b gb) (hs:zb5 b):PD X (.Subscript a b pos) (g2 ixD ga gb) :=
 PE.imp (zl0 zlv ha hb hs) fun σ H Q hZq=>by
  obtain⟨F,O,ρ,d,r,e,k⟩:=hZq;obtain⟨dx,dy,e1,e2,e3⟩:=zay e;refine⟨F,O,ρ,dx,r,e1,fun x H1 s1 b1=>⟨F,O,ρ,dy,r.same s1,e2,fun y H2 s2 b2 => ?_⟩⟩;have b1':=b1.same s2;unfold ixD at e3;split at e3
  ·rename_i ds i;obtain⟨p,xs,rfl,sq,rs⟩:=b1'.tup;cases b2.int;obtain⟨v,h1,h2⟩:=wD rs e3;exact .inr (.inl ⟨p,xs,i,v,rfl,rfl,sq,h1,k v H2 (s1.trans s2) h2⟩)
  ·rename_i ds i;obtain⟨p,xs,rfl,sq,rs⟩:=b1'.lst;cases b2.int;obtain⟨v,h1,h2⟩:=wD rs e3;exact .inl ⟨p,xs,i,v,rfl,rfl,sq,h1,k v H2 (s1.trans s2) h2⟩
  ·cases e3
theorem jd {x:Str}{p pos:Pos}{e:Expr}{es:List Expr}{id:String}{h:List D→Option D}{g:Env'→Option (List D)}(hc:yT X (.builtin id) h) (hg:Gl X x) (hm:X.mg x=none) (hv:JX x=some (.builtin id)) (ha:PAb X (e::es) g) (hn:autoParam (x ≠ "__name__") aTb) (hdb:autoParam ((x == ("__debug__" : Str))=false) aTb)
  (he:autoParam (Qm (e::es) X.env=(false,eval e X.env)::Qm es X.env) aTe) (hpl:autoParam ((Ke pos (Qm es X.env)).any (·.1)=false) aTc):PD X (.Call (.Name x p) (e::es) [] pos) (gA h g) :=
 PE.imp (ye hc.r hg hm hv ha hn hdb he hpl) fun σ H Q hZq=>by
  obtain⟨F,O,ρ,d,r,e,k⟩:=hZq;obtain⟨ds,e1,e2⟩:=vT e;exact⟨F,O,ρ,ds,r,e1,fun vs H1 s1 b1=>⟨O,ds,d,(r.same s1).dom,b1,e2,fun z H' s2 b2=>k z H' (s1.trans s2) b2⟩⟩
theorem jk {x:Str}{p pos:Pos}{e:Expr}{es:List Expr}{T:String}{h:List D→Option D}{g:Env'→Option (List D)}(hc:yT X (.type T) h) (hg:Gl X x) (hm:X.mg x=none) (hv:JX x=some (.type T)) (ha:PAb X (e::es) g) (hn:autoParam (x ≠ "__name__") aTb) (hdb:autoParam ((x == ("__debug__" : Str))=false) aTb)
  (he:autoParam (Qm (e::es) X.env=(false,eval e X.env)::Qm es X.env) aTe) (hpl:autoParam ((Ke pos (Qm es X.env)).any (·.1)=false) aTc):PD X (.Call (.Name x p) (e::es) [] pos) (gA h g) :=
 PE.imp (zbE hc.r hg hm hv ha hn hdb he hpl) fun σ H Q hZq=>by
  obtain⟨F,O,ρ,d,r,e,k⟩:=hZq;obtain⟨ds,e1,e2⟩:=vT e;exact⟨F,O,ρ,ds,r,e1,fun vs H1 s1 b1=>⟨O,ds,d,(r.same s1).dom,b1,e2,fun z H' s2 b2=>k z H' (s1.trans s2) b2⟩⟩
theorem RepBs.inv1 {O:List Zh}{H:Hp}{d:D}{vs:List V}(h:RepBs X.K O H [d] vs):∃v,vs=[v]∧RepB X.K O H d v:=by
 cases h with
 | cons h r=>cases r;exact⟨_,rfl,h⟩
theorem RepBs.inv2 {O:List Zh}{H:Hp}{d e:D}{vs:List V}(h:RepBs X.K O H [d,e] vs):∃v w,vs=[v,w]∧RepB X.K O H d v∧RepB X.K O H e w:=by
 cases h with
 | cons h r =>
  obtain⟨w,rfl,hw⟩:=r.inv1;exact⟨_,w,rfl,h,hw⟩
theorem xN:yT X (.builtin "len") lenD:=by
 intro pins s σ H O xs us ds d Q I hO rv bs e k;unfold lenD at e;split at e
 ·cases e;obtain⟨v,rfl,b⟩:=bs.inv1;obtain⟨a,ys,rfl,sq,rs⟩:=b.tup;exact xM pins s σ H _ us Q I rv ⟨a,ys,rfl,.inr sq,by rw[←rs.length];exact k _ H (Same.refl _) (.int _)⟩
 ·cases e;obtain⟨v,rfl,b⟩:=bs.inv1;obtain⟨a,ys,rfl,sq,rs⟩:=b.lst;exact xM pins s σ H _ us Q I rv ⟨a,ys,rfl,.inl sq,by rw[←rs.length];exact k _ H (Same.refl _) (.int _)⟩
 ·cases e
theorem zbd (hc:X.calm=true):yT X (.builtin "min") minD:=by
 intro pins s σ H O xs us ds d Q I hO rv bs e k;unfold minD at e;split at e
 ·rename_i i j;cases e;obtain⟨v,w,rfl,b1,b2⟩:=bs.inv2;cases b1.int;cases b2.int;exact zeI hc pins s σ H _ us Q I rv ⟨i,j,rfl,k _ H (Same.refl _) (.int _)⟩
 ·cases e
theorem zbc (hc:X.calm=true):yT X (.builtin "max") maxD:=by
 intro pins s σ H O xs us ds d Q I hO rv bs e k;unfold maxD at e;split at e
 ·rename_i i j;cases e;obtain⟨v,w,rfl,b1,b2⟩:=bs.inv2;cases b1.int;cases b2.int;exact zeH hc pins s σ H _ us Q I rv ⟨i,j,rfl,k _ H (Same.refl _) (.int _)⟩
 ·cases e
theorem zV:yT X (.type "tuple") qt:=by
 intro pins s σ H O xs us ds d Q I hO rv bs e k;unfold qt at e;split at e
 ·cases e;obtain⟨v,rfl,b⟩:=bs.inv1;obtain⟨a,ys,rfl,sq,rs⟩:=b.tup;exact wL pins s σ H _ us Q I rv ⟨a,ys,rfl,.inr ⟨sq,k _ H (Same.refl _) (yp b)⟩⟩
 ·cases e;obtain⟨v,rfl,b⟩:=bs.inv1;obtain⟨a,ys,rfl,sq,rs⟩:=b.lst;exact wL pins s σ H _ us Q I rv ⟨a,ys,rfl,.inl ⟨sq,fun l hl=>k _ _ (zY hl) (xw hl (hO.out hl) rs)⟩⟩
 ·cases e
theorem zko {p pos:Pos}{e:Expr}{g:Env'→Option (List D)}(hg:Gl X "list") (hm:X.mg "list" = none) (hv:JX "list" = some (.type "list")) (ha:PAb X [e] g) (he:autoParam (Qm [e] X.env=[(false,eval e X.env)]) aTc) :
  PFr X (.Call (.Name "list" p) [e] [] pos) (gItL zhU g):=PE.imp (zbE zba hg hm hv ha (by decide) (by decide) he (by rfl)) fun σ H Q hZq=>by
 obtain⟨F,O,ρ,ds,r,e,k⟩:=hZq;obtain⟨as,e1,e2⟩:=Zb.mp e;refine⟨F,O,ρ,as,r,e1,fun vs H1 s1 b1 => ?_⟩;unfold zhU at e2;split at e2
 ·cases e2;obtain⟨v,rfl,b⟩:=b1.inv1;obtain⟨a,ys,rfl,sq,rs⟩:=b.tup;exact⟨a,ys,rfl,.inr sq,fun l hl=>k l ys H1 s1 hl rs⟩
 ·cases e2;obtain⟨v,rfl,b⟩:=b1.inv1;obtain⟨a,ys,rfl,sq,rs⟩:=b.lst;exact⟨a,ys,rfl,.inl sq,fun l hl=>k l ys H1 s1 hl rs⟩
 ·cases e2
end
end L2.Y
namespace L2.Y
open PySem PySem.Spec PyProof.Rows
theorem yR {env:Env}:∀ {names:List (Str×Vd)}{x:Str},names.lookup x=some .free →
  ((names.map fun(n,k)=>if(k == Vd.free&&env.scope.kind == .function&&env.kindOf n == some .cell) then(n,Vd.cell) else(n,k)).lookup x=some .cell ∨
    (names.map fun(n,k)=>if(k == Vd.free&&env.scope.kind == .function&&env.kindOf n == some .cell) then(n,Vd.cell) else(n,k)).lookup x=some .free)
 | [],_,h=>by simp at h
 | (n,k)::r,x,h=>by
  have ih:=@yR env r x;rw[Zk];cases hx:x == n with
  | true =>
   simp only[QJ,hx]at h;cases h
   by_cases hc:(Vd.free == Vd.free&&env.scope.kind == .function&&env.kindOf n == some .cell)=true
   ·left;simp only[hc,if_true,QJ,hx]
   ·right;simp only[hc,Qq,if_false,QJ,hx]
  | false =>
   simp only[QJ,hx]at h
   by_cases hc:(k == Vd.free&&env.scope.kind == .function&&env.kindOf n == some .cell)=true
   ·simp only[hc,if_true,QJ,hx];exact ih h
   ·simp only[hc,Qq,if_false,QJ,hx];exact ih h
theorem yQ {env:Env}:∀ {names:List (Str×Vd)}{x:Str},(∀y∈names,y.2≠.cell) →
  ((names.map fun(n,k)=>if(k == Vd.free&&env.scope.kind == .function&&env.kindOf n == some .cell) then(n,Vd.cell) else(n,k)).lookup x=some .cell ∨
    (names.map fun(n,k)=>if(k == Vd.free&&env.scope.kind == .function&&env.kindOf n == some .cell) then(n,Vd.cell) else(n,k)).lookup x=some .free)→names.lookup x=some .free
 | [],_,_,h=>by simp at h
 | (n,k)::r,x,hn,h=>by
  have ih:=@yQ env r x fun y hy=>hn y (Zq _ hy);rw[Zk]at h;cases hx:x == n with
  | true =>
   simp only[QJ,hx]
   by_cases hc:(k == Vd.free&&env.scope.kind == .function&&env.kindOf n == some .cell)=true
   ·simp only[QM,beq_iff_eq]at hc;rw[hc.1.1]
   ·simp only[hc,Qq,if_false,QJ,hx]at h;rcases h with h | h
    ·cases h;exact absurd rfl (hn (n,.cell) Zn)
    ·exact h
  | false =>
   simp only[QJ,hx]
   by_cases hc:(k == Vd.free&&env.scope.kind == .function&&env.kindOf n == some .cell)=true
   ·simp only[hc,if_true,QJ,hx]at h;exact ih h
   ·simp only[hc,Qq,if_false,QJ,hx]at h;exact ih h
theorem yB {env:Env}:∀(names:List (Str×Vd)) (acc:List (Str×Zh)),(∀y∈names,y.2=.free→∃c,env.cells.lookup y.1=some c)→(∀x c,acc.lookup x=some c→env.cells.lookup x=some c) →
  ∃cl,(Ba names acc fun(x:Str×Vd) (cs:List (Str×Zh))=>if(x.2 == Vd.free)=true then(do let c ←cellOf env x.1;pure (ForInStep.yield ((x.1,c)::cs)):Sem (ForInStep (List (Str×Zh)))) else pure (ForInStep.yield cs))=pure cl ∧
   (∀x c,cl.lookup x=some c→env.cells.lookup x=some c)∧(∀x,(acc.lookup x).isSome=true→(cl.lookup x).isSome=true)∧∀x,names.lookup x=some .free→(cl.lookup x).isSome=true
 | [],acc,_,ha=>⟨acc,rfl,ha,fun _ h=>h,fun x h=>by simp at h⟩
 | (n,k)::r,acc,hn,ha=>by
  have hr:∀y∈r,y.2=.free→∃c,env.cells.lookup y.1=some c:=fun y hy=>hn y (Zq _ hy)
  by_cases hk:k=.free
  ·subst hk;obtain⟨c,hc⟩:=hn (n,.free) Zn rfl;have ha' : ∀x d,((n,c)::acc).lookup x=some d→env.cells.lookup x=some d:=fun x d h=>by
    cases hx:x == n with
    | true =>
     simp only[QJ,hx]at h;cases h;rw[Ls hx];exact hc
    | false =>
     simp only[QJ,hx]at h;exact ha x d h
   obtain⟨cl,e,h1,h2,h3⟩:=yB r ((n,c)::acc) hr ha';refine⟨cl,?_,h1,fun x h=>h2 x ?_,fun x h => ?_⟩
   ·rw[Ys];have ec:cellOf env n=pure c:=by unfold cellOf;rw[hc]
    simp only[beq_self_eq_true,if_true,ec,pure_bind];exact e
   ·cases hx:x == n with
    | true=>simp only[QJ,hx,Ed]
    | false=>simp only[QJ,hx];exact h
   ·cases hx:x == n with
    | true=>exact h2 x (by simp only[QJ,hx,Ed])
    | false=>simp only[QJ,hx]at h;exact h3 x h
  ·obtain⟨cl,e,h1,h2,h3⟩:=yB r acc hr ha;refine⟨cl,?_,h1,h2,fun x h => ?_⟩
   ·rw[Ys];have:(k == Vd.free)=false:=by simpa using hk
    simp only[this,Qq,if_false,pure_bind];exact e
   ·cases hx:x == n with
    | true=>simp only[QJ,hx]at h;cases h;exact absurd rfl hk
    | false=>simp only[QJ,hx]at h;exact h3 x h
theorem wM {env:Env}{scope:Uz}(h:∀y∈scope.names,y.2=.free→∃c,env.cells.lookup y.1=some c) :
  ∃cl,closureFor scope env=pure cl∧(∀x c,cl.lookup x=some c→env.cells.lookup x=some c)∧∀x,scope.names.lookup x=some .free→(cl.lookup x).isSome=true:=by
 obtain⟨cl,e,h1,_,h3⟩:=yB scope.names [] h (fun x c h=>by simp at h);refine⟨cl,?_,h1,h3⟩;unfold closureFor;simp only[bind_pure];exact e
structure CompOk (X:Cx) (scope:Uz) (own:List Str) (caps:List Nat) (N:List Str):Prop where
 kind:scope.kind=.function
 nocell:∀y∈scope.names,y.2≠.cell
 names:∀y∈scope.names,y.2=.local→scope.names.lookup y.1=some .local
 free:∀y∈scope.names,y.2=.free→X.env.kindOf y.1=some .cell∨X.env.kindOf y.1=some .free
 nd:N.Nodup
 len:N.length=own.length+caps.length
 cap:∀(k j:Nat),caps[k]?=some j→∃x,X.N[j]?=some x∧N[own.length+k]?=some x∧scope.names.lookup x=some .free
noncomputable def cxC (X:Cx) (N:List Str) (scope:Uz) (cl:List (Str×Zh)) (C:Zh) (s:Zf) (H:Hp) (fp:List Zh):Cx where
 prog:=X.prog
 w:=X.w
 K:=X.K
 mg:=X.mg
 base:=X.base
 A:=X.A
 N:=N
 s₀:=s
 H₀:=H
 env:=Rm scope cl C X.env
 outer:=X.stack
 stack:=X.stack
 ex:=fp
 fn:=fun _=>false
 calm:=X.calm
 pn:=[]
 xe:=fun _ _=>False
section
variable {X:Cx}{pins:List (Zh×Obj)}{σ:St}{H:Hp}{s s1:Zf}{scope:Uz}{own N:List Str}{caps:List Nat}{cl:List (Str×Zh)}{fp:List Zh}
theorem qK {α:Type}{n:Nat}{σ:List (Option α)}{i:Nat}{v:α}(h:(capS n caps σ)[i]?=some (some v)):∃k j,i=n+k∧caps[k]?=some j∧σ[j]?=some (some v):=by
 unfold capS at h
 by_cases hi:i<n
 ·rw[Jx (by simpa using hi),Ga,if_pos hi]at h;cases h
 ·rw[Ji (by simpa using hi),WN,Ql]at h;obtain⟨j,h1,h2⟩:=ZG.mp h;refine⟨i-n,j,by omega,h1,?_⟩;cases e:σ[j]? with
  | none=>rw[e]at h2;cases h2
  | some o=>rw[e]at h2;exact congrArg some h2
theorem zhJ (S:CompOk X scope own caps N) (I:Inv X pins σ H s) (hcl1:∀x c,cl.lookup x=some c→X.env.cells.lookup x=some c) (hcl2:∀x,scope.names.lookup x=some .free→(cl.lookup x).isSome=true)
  (hfp:∀b∈fp,FpOk X pins H b) (hlt:∀b∈fp,b<s.heap.objs.size) {h1:Je}{m:Str→Option Za}{tk:Nat}(hn:h1.Ns s.heap.objs.size m) (hk:∀b o,s.heap.get? b=some o→h1.get? b=some o) :
  Inv (cxC X N scope cl s.heap.objs.size s H fp) [] (capS own.length caps σ) H { s with heap:=h1,toks:=tk }:=by
 have cellEq:∀ {x:Str}{c c' : Zh},cl.lookup x=some c→X.env.cells.lookup x=some c'→c=c':=fun h1 h2=>by rw[hcl1 _ _ h1]at h2;exact QT h2
 refine⟨⟨I.ok.mod,S.kind,I.ok.glob,I.ok.blt,Zg _,fun x y c e1 e2=>I.ok.inj x y c (hcl1 _ _ e1) (hcl1 _ _ e2),fun x hx => ?_,fun x c h _=>absurd (show false=true from h) (by decide),I.ok.hd,I.ok.frames,.inl rfl,fun b hb=>⟨QD (hlt b hb),fun x c e=>(hfp b hb).2.2.2.2.1 x c (hcl1 _ _ e)⟩,
  I.bs,Zt I.ok.bsz I.sz,fun b o e hb => ?_,fun b hb hb' => ?_,I.stack,I.stkFree⟩,rfl,I.bare,Un.kept hk,⟨m,hn,fun i x v e1 e2 e3 => ?_⟩,fun x c e => ?_,I.hok.fresh (Zg _),fun x c e=>I.freeC x c (hcl1 _ _ e),fun p hp=>absurd (show p∈([]:List (Zh×Obj)) from hp) (by simp),I.hok.kept hk,?_⟩
 ·have hx' : (relabel scope X.env).names.lookup x=some .cell∨(relabel scope X.env).names.lookup x=some .free:=hx;have hf:=yQ S.nocell hx';exact Kq.mp (hcl2 x hf)
 ·obtain⟨_,_,_,f3,_,_⟩:=hfp b hb;rcases f3 with z | z
  ·exact I.ok.noex b o e z
  ·exact absurd (Zo (ZD e) (Zt I.ok.bsz z)) (Vc _)
 ·obtain⟨_,f1,f2,_⟩:=hfp b hb;rcases ZS.mp (I.stkSub b hb') with z | z
  ·exact f1 z
  ·exact f2 z
 ·obtain⟨k,j,rfl,hj,hv⟩:=qK e2;obtain⟨y,hy,hy2,hfree⟩:=S.cap k j hj;have e1:N[own.length+k]?=some x:=e1;have hxy:y=x:=QT (hy2.symm.trans e1);subst hxy;have hkind:=S.free (y,.free) (Wi hfree) rfl;obtain⟨m0,_,hl⟩:=I.loc;have hvis:Vis X.env.scope y:=Or.inr hkind;obtain⟨u,ru,lk⟩:=hl j y v hy hv hvis;refine⟨u,ru,?_⟩;rcases lk with⟨kk,_⟩ | ⟨_,c,hc,hcell⟩
  ·rcases hkind with z | z <;> (rw[z]at kk;cases kk)
  ·refine .inr ⟨yR hfree,?_⟩;obtain⟨c',hc'⟩:=Kq.mp (hcl2 y hfree);have:=cellEq hc' hc;subst this;obtain⟨o,ho,hd⟩:=hcell;exact⟨c',hc',o,hk _ _ ho,hd⟩
 ·obtain⟨v,o,ho,hd⟩:=I.cell x c (hcl1 _ _ e);exact⟨v,o,hk _ _ ho,hd⟩
 ·show(capS own.length caps σ).length=N.length;rw[S.len];unfold capS;simp
theorem zdZ {H' : Hp}{σ' : St}(I:Inv X pins σ H s) (hfp:∀b∈fp,FpOk X pins H b) (J:Inv (cxC X N scope cl s.heap.objs.size s H fp) [] σ' H' s1):Inv X pins σ H' s1 :=
 I.call' (ch:=fp) J.os J.base J.hok J.bare fun b hb=>let ⟨_,f1,_,f3,f4,f5⟩:=hfp b hb;⟨f3,f1,f4,f5⟩
end
noncomputable def PIf (X:Cx) (ifs:List Expr) (t:TT):Prop :=
 ∀(pins:List (Zh×Obj)) (s:Zf) (σ:St) (H:Hp) (Q:Bool→Hp→Prop),Inv X pins σ H s→t σ H Q →
  ZF (model X.prog X.w) X.A (Ba ifs true fun c r=>if r=true then do let ok ←isTrue c X.env (eval c X.env);pure (ForInStep.yield ok) else pure (ForInStep.yield r)) (TP X pins σ Q) X.xe s
theorem zkq {X:Cx}:PIf X [] (fun _ H Q=>Q true H):=fun pins s σ H Q I h=>wpAny_tests_nil ⟨H,I,h⟩
theorem zkr {X:Cx}{c:Expr}{t:TT}(hc:PT X c t):PIf X [c] t:=fun pins s σ H Q I h=>wpAny_tests_one (hc pins s σ H Q I h)
noncomputable def zgS (g:TG) (tt:TT) (te:TE) (J:It) (D:Zh) (σ:St) (H:Hp) (Q:Hp→Prop):Prop :=
 ∃W:Nat→Nat→St→Hp→Prop,(∃m,W 0 m σ H)∧∀i m σ H,W i m σ H →
  (J.stop i H∧Q H)∨(J.go i H∧∃Nx:St→Hp→Prop,(∀σ' H',Nx σ' H'→∃m',m'<m∧W (i+1) m' σ' H')∧∀x H',J.yld i H x H'→g x σ H' fun σ2 H2=>tt σ2 H2 fun b H3 =>
   if b=true then te σ2 H3 fun y H4=>∃ys,H4 D=some (.lst ys)∧ys.length<Zu∧Nx σ2 (upd H4 D (.lst (ys++[y]))) else Nx σ2 H3)
section
variable {X:Cx}{pins:List (Zh×Obj)}{σ:St}{H:Hp}{s:Zf}{scope:Uz}{own N:List Str}{caps:List Nat}{cl:List (Str×Zh)}{fp:List Zh}
variable {tg iter elt:Expr}{ifs:List Expr}{pos:Pos}{g:TG}{tt:TT}{te:TE}{J:It}{it:Zh}{tn:Nat→Je→Prop}
theorem zeU {D C:Zh}{R:HB→Zf→Prop}(hc:X.calm=true) (T:Turn X.prog X.w X.K tg J fp it tn)
  (hg:PG (cxC X N scope cl C s H fp) tg g) (ht:PIf (cxC X N scope cl C s H fp) ifs tt) (he:PE (cxC X N scope cl C s H fp) elt te) {Q:Hp→Prop}{σ0:St}{H0:Hp}{s1:Zf}(I0:Inv (cxC X N scope cl C s H fp) [] σ0 H0 s1) (t0:tn 0 s1.heap)
  (f0:∀b∈fp,H0 b=none) (hfp:∀b∈fp,b≠C∧b∉frs X.stack∧∀x c,cl.lookup x=some c→c≠b) (hw:zgS g tt te J D σ0 H0 Q)
  (hR:∀σ' H' s',Inv (cxC X N scope cl C s H fp) [] σ' H' s'→Q H'→R (.ok .next) s') :
  Kr (model X.prog X.w) X.A (.compLoop (.ListComp elt [⟨tg,iter,ifs,0⟩] scope pos) 0 (.ref it) (.ref D) (Rm scope cl C X.env)) R s1:=by
 obtain⟨W,⟨m0,w0⟩,turn⟩:=hw;have stat:∀ {H' : Hp},(∀b∈fp,H' b=none)→∀b∈fp,FpOk (cxC X N scope cl C s H fp) [] H' b:=fun hn b hb=>⟨hn b hb,(hfp b hb).1,(hfp b hb).2.1,.inl hb,(hfp b hb).2.2,fun p hp=>absurd (show p∈([]:List (Zh×Obj)) from hp) (by simp)⟩
 have nox:∀ {α:Type}{t:Sem α}{Q:α→Zf→Prop}{E:Za→Zf→Prop}{s:Zf},ZF (model X.prog X.w) X.A t Q (fun _ _=>False) s→ZF (model X.prog X.w) X.A t Q E s:=fun h=>VL h (fun _ _ q=>q) fun _ _ q=>q.elim;refine codeAny_loop rfl (fun n s'=>∃i σ' H',Inv (cxC X N scope cl C s H fp) [] σ' H' s'∧tn i s'.heap∧(∀b∈fp,H' b=none)∧W i n σ' H') (fun n s3 hI => ?_) m0 ⟨0,σ0,H0,I0,t0,f0,w0⟩;obtain⟨i,σ3,H3,I3,st3,fr3,w3⟩:=hI;show ZF _ X.A ((compTurn (.ListComp elt [⟨tg,iter,ifs,0⟩] scope pos) 0 (.ref it) (.ref D) (Rm scope cl C X.env)).onRaise (fun x=>do noteFrame x (Rm scope cl C X.env);theTreesLotGoes x)) _ _ s3;refine wpAny_noted ?_;rw[compTurn_list];refine Zc (Bw (Zc ?_));rcases turn i n σ3 H3 w3 with⟨stop,qn⟩ | ⟨go,Nx,hN,step⟩
 ·refine nox (thn (T.done (cxC X N scope cl C s H fp) rfl rfl rfl hc i [] s3 σ3 H3 _ I3 (stat fr3) st3 stop) fun r s4 ⟨hr,I4⟩ => ?_);subst hr;exact Zj (hR _ _ _ I4 qn)
 ·refine nox (thn (T.item (cxC X N scope cl C s H fp) rfl rfl rfl hc i [] s3 σ3 H3 _ I3 (stat fr3) st3 go) fun r s4 ⟨u,hr,h4⟩ => ?_);subst hr;refine Zc (nox (thn h4 fun _ s5 hZq => ?_));obtain⟨x,H5,I5,r5,y5,st5,fr5⟩:=hZq;have I5':=I5.pinned (stat fr5) (T.obj _ _ st5);refine Zc (nox (thn (hg _ s5 σ3 H5 x u _ I5' r5 (step x H5 y5)) fun _ s6=>xe4 fun σ6 H6 I6 q6 => ?_));refine Zc (nox (thn (ht _ s6 σ6 H6 _ I6 q6) fun ok s7=>xe3 fun H7 I7 q7 => ?_));have again:∀ {σ7:St}{H7:Hp}{s7:Zf},Inv (cxC X N scope cl C s H fp) ([]++zbF fp s5.heap) σ7 H7 s7→Nx σ7 H7→∃m,m<n∧∃i σ' H',Inv (cxC X N scope cl C s H fp) [] σ' H' s7∧tn i s7.heap∧(∀b∈fp,H' b=none)∧W i m σ' H':=fun {σ7 H7 s7} I7 n7=>by
   obtain⟨m',hm,w7⟩:=hN σ7 H7 n7;refine⟨m',hm,i+1,σ7,H7,I7.unpinned,T.keep _ _ _ st5 fun b hb o e=>(I7.pin (b,o) (QV _ (QV _ (wo hb e)))).1,fun b hb => ?_,w7⟩;obtain⟨o,e,d⟩:=T.obj _ _ st5 b hb;exact(I7.pin (b,o) (QV _ (QV _ (wo hb e)))).2.1
  cases ok with
  | false =>
   simp only[Qq,if_false]at q7 ⊢;exact Zj ⟨rfl,again I7 q7⟩
  | true =>
   simp only[if_true]at q7 ⊢;refine Zc (Zc (nox (thn (he _ s7 σ6 H7 _ I7 q7) fun v s8 hZq => ?_)));obtain⟨y,H8,I8,r8,ys,e8,z8,n8⟩:=hZq;refine Zc (nox (thn (zbx (X:=cxC X N scope cl C s H fp) _ s8 σ6 H8 (.ref D) [y] (.ref D) [v] (fun _ H'=>Nx σ6 H') I8 rfl (.cons r8 .nil) ⟨D,ys,y,rfl,rfl,e8,z8,n8⟩) fun _ s9 hZq => ?_));obtain⟨_,H9,I9,_,n9⟩:=hZq;exact Zj (Zj ⟨rfl,again I9 n9⟩)
noncomputable def zkV (n:Nat) (caps:List Nat) (wi:TI) (g:TG) (tt:TT) (te:TE):TE:=fun σ H Q=>wi σ H fun J H1=>∀D,H1 D=none→zgS g tt te J D (capS n caps σ) (upd H1 D (.lst [])) fun H'=>Q (.ref D) H'
noncomputable def jK (X:Cx) (N:List Str) (scope:Uz) (P:Cx→Prop):Prop:=∀cl C s H fp,P (cxC X N scope cl C s H fp)
theorem zbf {Q:VK}{use:Option (Za→Sem Unit)}{Qu:Za→Zf→Prop}{E:Za→Zf→Prop}{itv:Za}{s2:Zf}(S:CompOk X scope own caps N) (hc:X.calm=true)
  (hg:jK X N scope fun Y=>PG Y tg g) (ht:jK X N scope fun Y=>PIf Y ifs tt) (he:jK X N scope fun Y=>PE Y elt te)
  (hcl1:∀x c,cl.lookup x=some c→X.env.cells.lookup x=some c) (hcl2:∀x,scope.names.lookup x=some .free→(cl.lookup x).isSome=true)
  (h:PIE X pins σ tg (fun J H1=>∀D,H1 D=none→zgS g tt te J D (capS own.length caps σ) (upd H1 D (.lst [])) fun H'=>Q (.ref D) H') itv s2)
  (fin:∀D C s' H',Inv X pins σ H' s'→Q (.ref D) H'→(∃m,s'.heap.Ns C m)→FpOk X pins H' C→compPost (model X.prog X.w) X.A E use Qu (.ref D) C (.ok .next) s') :
  ZF (model X.prog X.w) X.A (NT []) (fun acc s₃=>ZF (model X.prog X.w) X.A (newFunctionEnv scope X.env.globals cl [] X.env.qual none .none (some X.env)) (fun cenv s₄ =>
   Kr (model X.prog X.w) X.A (.compStart (.ListComp elt [⟨tg,iter,ifs,0⟩] scope pos) 0 itv acc { cenv with scope:=relabel scope X.env }) (compPost (model X.prog X.w) X.A E use Qu acc cenv.locals) s₄) E s₃) E s2:=by
 obtain⟨it,fp,tn,J,H2,rfl,I2,T,st2,f2,rr⟩:=h;have hD:H2 s2.heap.objs.size=none:=I2.hok.fresh (Zg _);have ltf:∀b∈fp,b<s2.heap.objs.size:=fun b hb=>by
  obtain⟨o,e,_⟩:=T.obj _ _ st2 b hb;exact ZD e
 refine Jo (wpAny_newFunctionEnv S.nocell (by intro y hy;simp at hy) (fun h₁ hns₁ hsb₁ => ?_) S.kind);dsimp only at hns₁ hsb₁ ⊢;have I3:Inv X pins σ (upd H2 s2.heap.objs.size (.lst [])) { s2 with heap:=s2.heap.push { cls:=.type "list",dict:=none,data:=.seq ([]:List Za).toArray } }:=Inv.newL (its:=[]) I2 .nil (Qp _) s2.toks;generalize hs3:({ s2 with heap:=s2.heap.push { cls:=.type "list",dict:=none,data:=.seq ([]:List Za).toArray } }:Zf)=s3 at I3;have e3:s3.heap=s2.heap.push { cls:=.type "list",dict:=none,data:=.seq ([]:List Za).toArray }:=by rw[←hs3]
 rw[←e3]at hns₁ hsb₁ ⊢;have fp3:∀b∈fp,FpOk X pins (upd H2 s2.heap.objs.size (.lst [])) b:=fun b hb=>⟨by rw[zu (QD (ltf b hb))];exact(f2 b hb).1,(f2 b hb).2⟩
 have old3:∀b o,s2.heap.get? b=some o→s3.heap.get? b=some o:=fun b o e=>by rw[e3];exact Ze _ e
 have lt3:∀b∈fp,b<s3.heap.objs.size:=fun b hb=>by rw[e3,YG];exact Dt (ltf b hb)
 have hk:∀b o,s3.heap.get? b=some o→h₁.get? b=some o:=fun b o e=>hsb₁.extBut b o (QD (ZD e)) (Ze _ e);have I4:Inv (cxC X N scope cl s3.heap.objs.size s3 (upd H2 s2.heap.objs.size (.lst [])) fp) [] (capS own.length caps σ) (upd H2 s2.heap.objs.size (.lst [])) { s3 with heap:=h₁,toks:=s3.toks+([]:List (Str×Za)).length }:=zhJ S I3 hcl1 hcl2 fp3 lt3 hns₁ hk;have st4:tn 0 h₁:=T.keep _ _ _ st2 fun b hb o e=>hk b o (old3 b o e);have loop:Kr (model X.prog X.w) X.A (.compLoop (.ListComp elt [⟨tg,iter,ifs,0⟩] scope pos) 0 (.ref it) (.ref s2.heap.objs.size) (Rm scope cl s3.heap.objs.size X.env)) (compPost (model X.prog X.w) X.A E use Qu (.ref s2.heap.objs.size) s3.heap.objs.size) { s3 with heap:=h₁,toks:=s3.toks+([]:List (Str×Za)).length }:=by
  refine zeU (D:=s2.heap.objs.size) hc T (hg _ _ _ _ _) (ht _ _ _ _ _) (he _ _ _ _ _) I4 st4 (fun b hb=>(fp3 b hb).1) (fun b hb=>⟨QD (lt3 b hb),fun hb' => ?_,fun x c e=>(fp3 b hb).2.2.2.2.1 x c (hcl1 _ _ e)⟩) (rr _ hD) fun σ' H' s' J q => ?_
  ·obtain⟨_,f1,f2,_⟩:=fp3 b hb;rcases ZS.mp (I3.stkSub b hb') with z | z
   ·exact f1 z
   ·exact f2 z
  ·obtain⟨m,hm,_⟩:=J.loc;exact fin _ _ s' H' (zdZ I3 fp3 J) q ⟨m,hm⟩ (I3.fpOk (Zg _) J.free)
 have es:({ s2 with heap:=h₁,toks:=s2.toks+([]:List (Str×Za)).length }:Zf)={ s3 with heap:=h₁,toks:=s3.toks+([]:List (Str×Za)).length }:=by rw[←hs3]
 rw[es];exact codeAny_compStart_list loop (T.self X.A 0 _ _ _ st4 loop)
theorem zkm {wi:TI}(S:CompOk X scope own caps N) (hc:X.calm=true) (hi:PI X tg iter wi) (hg:jK X N scope fun Y=>PG Y tg g) (ht:jK X N scope fun Y=>PIf Y ifs tt) (he:jK X N scope fun Y=>PE Y elt te)
  (hs:autoParam (∀x,Yc iter X.env x=pure x) aTd):PE X (.ListComp elt [⟨tg,iter,ifs,0⟩] scope pos) (zkV own.length caps wi g tt te):=by
 intro pins s σ H Q I h;obtain⟨cl,hcl,hcl1,hcl2⟩:=wM (env:=X.env) (scope:=scope) fun y hy hf=>I.ok.has y.1 (S.free y hy hf);rw[eval_ListComp];refine RN (use:=none) rfl hs hcl S.kind S.names (thn (hi pins s σ H _ I h) fun xv s1 h1=>thn h1 fun itv s2 h2 => ?_);refine zbf (Q:=Q) S hc hg ht he hcl1 hcl2 h2 fun D C s' H' I' q hm f => ?_;obtain⟨m,hm⟩:=hm;refine⟨m,hm,fun h' sb=>⟨.ref D,H',?_,rfl,q⟩⟩;obtain⟨f0,f1,f2,f3,f4,f5⟩:=f;exact I'.turned (t':=s'.toks) (fun b o hb e=>(sb.2 b hb).trans e) f0 f1 f3 f4 f5
theorem zin {wi:TI}{i:Nat}{x:Str}{px spos:Pos}(S:CompOk X scope own caps N) (hc:X.calm=true) (hi:PI X tg iter wi) (hg:jK X N scope fun Y=>PG Y tg g) (ht:jK X N scope fun Y=>PIf Y ifs tt) (he:jK X N scope fun Y=>PE Y elt te)
  (hN:X.N.Nodup) (hx:X.N[i]?=some x) (hl:X.env.scope.names.lookup x=some .local) (hsw:Gw (.ListComp elt [⟨tg,iter,ifs,0⟩] scope pos) (some (.Name x px)) spos.line X.env=pure true)
  (hs:autoParam (∀x,Yc iter X.env x=pure x) aTd):PS X (.Assign [.Name x px] (.ListComp elt [⟨tg,iter,ifs,0⟩] scope pos) spos) (tAsg (zkV own.length caps wi g tt te) (ky i)):=by
 intro pins s σ H D I h;obtain⟨cl,hcl,hcl1,hcl2⟩:=wM (env:=X.env) (scope:=scope) fun y hy hf=>I.ok.has y.1 (S.free y hy hf);rw[exec_Assign_Name_used _ _ _ _ hsw];refine Zc (Bw (Zc ?_));show ZF _ X.A (do let _ ←comprehension (.ListComp elt [⟨tg,iter,ifs,0⟩] scope pos) scope X.env _ (NT []) false (eval iter X.env) (some (assign (.Name x px) X.env))) _ _ s;refine Zc (VL (RN (use:=some (assign (.Name x px) X.env)) (Q:=fun _ s'=>SP X pins D .next s') rfl hs hcl S.kind S.names
  (thn (hi pins s σ H _ I h) fun xv s1 h1=>thn h1 fun itv s2 h2 => ?_)) (fun _ s' hq=>Zj (Zj hq)) fun _ _ e=>e)
 refine zbf (Q:=fun v H'=>D.nx (σ.set i (some v)) H') S hc hg ht he hcl1 hcl2 h2 fun D' C s' H' I' q hm f => ?_;obtain⟨m,hm⟩:=hm;obtain⟨f0,f1,f2,f3,f4,f5⟩:=f;refine Cg (zbW (v:=.ref D') I' hN hx (.inl hl) rfl (fun s'' I'' ⟨a,sb,ha⟩ => ?_) (.inr hl));have hCa:C≠a:=by
  rcases ha with z | z
  ·rw[z];exact f1
  ·exact Wf (f4 _ _ z)
 refine⟨m,hm.sameBut sb hCa,fun h' sb'=>⟨_,H',?_,q⟩⟩;exact I''.turned (t':=s''.toks) (fun b o hb e=>(sb'.2 b hb).trans e) f0 f1 f3 f4 f5
end
end L2.Y
namespace L2.Y
open PySem PySem.Spec PyProof.Rows
noncomputable def Over (n:Nat) (h:GT):Prop:=∀d ρ ρ1,h d ρ=some ρ1→ρ1.length=ρ.length∧∀i,n≤i→ρ1[i]?=ρ[i]?
noncomputable def zhe (n:Nat) (h:List D→Env'→Option Env'):Prop:=∀d ρ ρ1,h d ρ=some ρ1→ρ1.length=ρ.length∧∀i,n≤i→ρ1[i]?=ρ[i]?
theorem zv {n i:Nat}(hi:i<n):Over n (hName i):=fun d ρ ρ1 e=>by
 cases e;exact⟨JP ..,fun j hj=>Qg (by omega)⟩
theorem ya {n:Nat}:zhe n hNil:=fun d ρ ρ1 e=>by
 unfold hNil at e;split at e
 ·cases e;exact⟨rfl,fun _ _=>rfl⟩
 ·cases e
theorem ji {n:Nat}{h:GT}{k:List D→Env'→Option Env'}(h1:Over n h) (h2:zhe n k):zhe n (zQ h k):=fun d ρ ρ1 e=>by
 unfold zQ at e;split at e
 ·obtain⟨ρ2,e1,e2⟩:=Zb.mp e;obtain⟨a1,a2⟩:=h1 _ _ _ e1;obtain⟨b1,b2⟩:=h2 _ _ _ e2;exact⟨b1.trans a1,fun i hi=>(b2 i hi).trans (a2 i hi)⟩
 ·cases e
theorem yb {n m:Nat}{k:List D→Env'→Option Env'}(h2:zhe n k):Over n (hTup m k):=fun d ρ ρ1 e=>by
 unfold hTup at e;split at e
 ·split at e
  ·exact h2 _ _ _ e
  ·cases e
 ·cases e
section
variable {K:Frag}{F:Fx}{O:List Zh}{ρ ρ0:Env'}{σ:St}{H:Hp}
theorem SR.forget (r:SR K F O ρ σ H) (hl:ρ0.length=ρ.length) (h:∀(i:Nat) e,ρ0[i]?=some (some e)→ρ[i]?=some (some e)):SR K F O ρ0 σ H :=
 ⟨r.hb,r.vb,r.oc,r.dom,r.len.trans hl.symm,fun i d e=>r.val i d (h i _ e),fun i d e=>r.own i d (h i _ e),fun i j d d' p e1 e2=>r.sep i j d d' p (h i _ e1) (h j _ e2)⟩
theorem zcQ {α:Type}{n:Nat}{caps:List Nat}{l:List (Option α)}:(capS n caps l).length=n+caps.length:=by unfold capS;simp
theorem zeN {α:Type}{n:Nat}{caps:List Nat}{l:List (Option α)}{k j:Nat}{o:Option α}(h:caps[k]?=some j) (e:l[j]?=some o):(capS n caps l)[n+k]?=some o:=by
 unfold capS;rw[Ji (by simp),WN,Ge,Ql,h];simp[e]
theorem SR.comp {D:Zh}{n:Nat}{caps:List Nat}(nd:caps.Nodup) (r:SR K F O ρ σ H) (hD:H D=none):SR K { H0:=F.H0,Oc:=D::F.Oc,V0:=hide O H } (D::O) (capS n caps ρ) (capS n caps σ) (upd H D (.lst [])):=by
 have eh:hide (D::O) (upd H D (.lst []))=hide O H:=by rw[zL Zn,qO hD]
 have hO:D∉O:=r.fresh hD;refine⟨r.hb.trans (zY hD),by rw[eh];exact Same.refl _,fun q hq => ?_,fun q hq => ?_,by rw[zcQ,zcQ],fun i d e => ?_,fun i d e => ?_,fun i j d d' p e1 e2 f1 f2 => ?_⟩
 ·rcases ZS.mp hq with z | z
  ·rw[z];exact Zn
  ·exact Zq _ (r.oc q z)
 ·by_cases e:q=D
  ·subst e;exact⟨_,zR,fun _ z=>nomatch z⟩
  ·rw[zu e];exact r.dom q ((ZS.mp hq).resolve_left e)
 ·obtain⟨k,j,rfl,hj,hv⟩:=qK e;obtain⟨v,h1,h2⟩:=r.val j d hv;exact⟨v,zeN hj h1,by rw[eh];exact h2⟩
 ·obtain⟨k,j,rfl,hj,hv⟩:=qK e;obtain⟨p,h1,h2,h3,h4⟩:=r.own j d hv;have hp:p≠D:=fun z=>hO (z▸h2);refine⟨p,zeN hj h1,Zq _ h2,⟨fun z=>(ZS.mp z).elim hp h3.1,h3.2⟩,?_⟩;cases h4 with
  | lst h r=>exact .lst (by rw[zu hp];exact h) (by rw[eh];exact r)
  | dK h r=>exact .dK (by rw[zu hp];exact h) (by rw[eh];exact r)
  | dT h r=>exact .dT (by rw[zu hp];exact h) (by rw[eh];exact r)
 ·obtain⟨k,a,rfl,ha,hva⟩:=qK e1;obtain⟨l,b,rfl,hb,hvb⟩:=qK e2;obtain⟨k',a',ek,ha',ga⟩:=qK f1;obtain⟨l',b',el,hb',gb⟩:=qK f2;have:k'=k:=by omega
  subst this;have:l'=l:=by omega
  subst this;rw[ha]at ha';cases ha';rw[hb]at hb';cases hb';have:=r.sep a b d d' p hva hvb ga gb;subst this;have h1:=(Qa.mp ha)
  have h2:=(Qa.mp hb)
  have:=(BR (h₀:=h1.1) (h₁:=h2.1) nd).mp (h1.2.trans h2.2.symm);omega
theorem SR.accUpd {D:Zh}{o:HO}(r:SR K F (D::O) ρ σ H) (h0:F.H0 D=none) (hc:D∈F.Oc) (ho:∀xs,o≠.tup xs):SR K F (D::O) ρ σ (upd H D o):=by
 have eh:hide (D::O) (upd H D o)=hide (D::O) H:=zL Zn;refine⟨fun b u e => ?_,by rw[eh];exact r.vb,r.oc,fun q hq => ?_,r.len,fun i d e => ?_,fun i d e => ?_,r.sep⟩
 ·rw[zu (zJ e h0)];exact r.hb _ _ e
 ·by_cases e:q=D
  ·subst e;exact⟨_,zR,ho⟩
  ·rw[zu e];exact r.dom q hq
 ·rw[eh];exact r.val i d e
 ·obtain⟨p,h1,h2,h3,h4⟩:=r.own i d e;have hp:p≠D:=fun z=>h3.1 (z▸hc);refine⟨p,h1,h2,h3,?_⟩;cases h4 with
  | lst h r=>exact .lst (by rw[zu hp];exact h) (by rw[eh];exact r)
  | dK h r=>exact .dK (by rw[zu hp];exact h) (by rw[eh];exact r)
  | dT h r=>exact .dT (by rw[zu hp];exact h) (by rw[eh];exact r)
end
theorem zcV {K:Frag}{n:Nat}{caps:List Nat}{gi:Env'→Option (List D)}{h:GT}{gt:Env'→Option Bool}{ge:Env'→Option D}{σ:St}{H:Hp}{Q:VK}(nd:caps.Nodup) (ov:Over n h) (q:tFr K (jX n caps gi h gt ge) σ H Q) :
  zkV n caps (tId K gi) (tGd K h) (tTd K gt) (tD K ge) σ H Q:=by
 obtain⟨F,O,ρ,out,r,e,k⟩:=q;obtain⟨ds,e1,e2⟩:=Zb.mp e;split at e2
 ·rename_i hz;refine⟨F,O,ρ,ds,r,e1,fun J H1 s1 it D hD => ?_⟩;have r1:=r.same s1;have hHD:H D=none:=s1.free hD;have h0D:F.H0 D=none:=r1.hb.free hD;have hDO:D∉O:=r1.fresh hD;refine⟨fun i m σ' H'=>m=ds.length-i∧i≤ds.length∧Same H1 H'∧∃dn vs,H' D=some (.lst vs)∧Reps K (hide (D::O) H') dn vs∧dn.length≤i∧SR K { H0:=F.H0,Oc:=D::F.Oc,V0:=hide O H1 } (D::O) (capS n caps ρ) σ' H'∧∃rest,qv h gt ge (capS n caps ρ) (ds.drop i)=some rest∧out=dn++rest,
   ⟨ds.length,rfl,Qp _,zY hD,[],[],zR,.nil,Zg _,SR.comp nd r1 hD,out,e2,rfl⟩,?_⟩
  rintro i m σ2 H2 ⟨rfl,hi,sm,dn,vs,hD2,rd,hdn,r2,rest,e3,ho⟩;have sB:Same (hide O H1) H2:=r2.vb.trans jg
  by_cases hlt:i<ds.length
  ·refine .inr ⟨it.go i H2 sB hlt,?_⟩;rw[VH hlt]at e3;obtain⟨ρ3,e4,e5⟩:=Zb.mp e3;obtain⟨b,e6,e7⟩:=Zb.mp e5;obtain⟨ol,oo⟩:=ov _ _ _ e4;have back:∀ {σ' H'},SR K { H0:=F.H0,Oc:=D::F.Oc,V0:=hide O H1 } (D::O) ρ3 σ' H'→SR K { H0:=F.H0,Oc:=D::F.Oc,V0:=hide O H1 } (D::O) (capS n caps ρ) σ' H':=fun {σ' H'} r'=>r'.forget ol.symm fun j en ej=>by
    obtain⟨kk,jj,rfl,hj,hv⟩:=qK ej;rw[oo _ (Qy _ _)];exact ej
   refine⟨fun σ' H'=>Same H1 H'∧∃dn vs,H' D=some (.lst vs)∧Reps K (hide (D::O) H') dn vs∧dn.length≤i+1∧SR K { H0:=F.H0,Oc:=D::F.Oc,V0:=hide O H1 } (D::O) (capS n caps ρ) σ' H'∧∃rest',qv h gt ge (capS n caps ρ) (ds.drop (i+1))=some rest'∧out=dn++rest',
    fun σ' H' hh=>⟨ds.length-(i+1),by omega,rfl,hlt,hh⟩,fun x H' y => ?_⟩
   obtain⟨s5,r5,b5⟩:=zdK r2 (it.yld i H2 x H' ds[i] sB (by simp[hlt]) y);refine⟨_,_,_,ds[i],ρ3,r5,b5,e4,fun σ6 r6=>⟨_,_,ρ3,b,r6,e6,fun H7 s7 => ?_⟩⟩;have s27:Same H2 H7:=s5.trans s7;cases b with
   | false =>
    refine iteF ⟨sm.trans s27,dn,vs,s27 _ _ hD2,rd.same (zP s27),Du hdn,back (r6.same s7),rest,e7,ho⟩
   | true =>
    obtain⟨yd,e8,e9⟩:=Zb.mp e7;obtain⟨rest',e10,e11⟩:=ZG.mp e9;refine iteT ⟨_,_,ρ3,yd,r6.same s7,e8,fun v H8 s8 b8=>⟨vs,s8 _ _ (s27 _ _ hD2),?_,?_⟩⟩
    ·rw[←rd.length];omega
    ·have s28:Same H2 H8:=s27.trans s8;have eh:hide (D::O) (upd H8 D (.lst (vs++[v])))=hide (D::O) H8:=zL Zn;refine⟨fun bb u eb => ?_,dn++[yd],vs++[v],zR,?_,?_,?_,rest',e10,?_⟩
     ·rw[zu (zJ eb hD)];exact s28 _ _ (sm _ _ eb)
     ·rw[eh];exact(rd.same (zP s28)).append (.cons b8 .nil)
     ·rw[Zx,Jk];omega
     ·exact SR.accUpd (back ((r6.same s7).same s8)) h0D Zn fun _ z=>nomatch z
     ·rw[ho,←e11,QW];rfl
  ·have ei:i=ds.length:=by omega
   subst ei;rw[DR]at e3;cases e3;refine .inl ⟨it.stop H2 sB,?_⟩;rw[Yt]at ho;subst ho;have hH:upd (fun b=>if b=D then none else H2 b) D (.lst vs)=H2:=by
    funext b
    by_cases e:b=D
    ·subst e;rw[zR];exact hD2.symm
    ·rw[zu e];exact if_neg e
   have hh:hide O (fun b=>if b=D then none else H2 b)=hide (D::O) H2:=by
    funext b;unfold hide
    by_cases e:b=D
    ·subst e;simp
    ·simp[e]
   have q:=k D vs (fun b=>if b=D then none else H2 b) (fun b o eb=>by
    have:b≠D:=zJ eb hHD;show(if b=D then none else H2 b)=some o;rw[if_neg this];exact sm _ _ (s1 _ _ eb)) (if_pos rfl) (by rw[hh];exact rd)
   rw[hH]at q;exact q
 ·cases e2
section
variable {X:Cx}{scope:Uz}{own N:List Str}{caps:List Nat}{tg iter elt:Expr}{pos:Pos}{gi:Env'→Option (List D)}{h:GT}{gt:Env'→Option Bool}{ge:Env'→Option D}
noncomputable def PIfd (X:Cx) (ifs:List Expr) (g:Env'→Option Bool):Prop:=PIf X ifs (tTd X.K g)
theorem zil:PIfd X [] (fun _=>some true):=fun pins s σ H Q I hZq=>by
 obtain⟨F,O,ρ,b,r,e,k⟩:=hZq;cases e;exact zkq pins s σ H Q I (k H (Same.refl _))
theorem qd {c:Expr}{g:Env'→Option Bool}(hc:PTd X c g):PIfd X [c] g:=zkr hc
theorem jG {ifs:List Expr}(S:CompOk X scope own caps N) (nd:caps.Nodup) (ov:Over own.length h) (hc:X.calm=true) (hi:PId X tg iter gi) (hg:jK X N scope fun Y=>PGd Y tg h) (ht:jK X N scope fun Y=>PIfd Y ifs gt) (he:jK X N scope fun Y=>PD Y elt ge)
  (hs:autoParam (∀x,Yc iter X.env x=pure x) aTd):PFr X (.ListComp elt [⟨tg,iter,ifs,0⟩] scope pos) (jX own.length caps gi h gt ge) :=
 PE.imp (zkm (g:=tGd X.K h) (tt:=tTd X.K gt) (te:=tD X.K ge) S hc hi (fun cl C s H fp=>hg cl C s H fp) (fun cl C s H fp=>ht cl C s H fp) (fun cl C s H fp=>he cl C s H fp) hs) fun _ _ _ q=>zcV nd ov q
end
end L2.Y
namespace L2.Y
open PySem PySem.Spec PyProof.Rows
section
variable {X:Cx}
theorem kf {i:Nat}{x:Str}{e:Expr}{p apos cpos pos:Pos}{ge:Env'→Option D}(hv:PE X (.Name x p) (tVar i)) (he:PD X e ge)
  (hbase:autoParam (Gk (.Name x p) "append" X.env (eval (.Name x p) X.env)=eval (.Name x p) X.env) aTc)
  (hfew:autoParam (((Ke cpos (Qm [e] X.env)).all (fun x=>!x.1)&&(backToKw cpos (Pk [] X.env)).all (fun x=>x.1.isSome)
   && decide (([e]:List Expr).length+([]:List La).length+(if([]:List La).isEmpty then 0 else 1)<30))=true) aTc)
  (hline:autoParam ((apos.endLine == cpos.line)=true) aTc) (hs:autoParam (Qm [e] X.env=[(false,eval e X.env)]) aTc)
  (hsw:autoParam (Gw (.Call (.Attribute (.Name x p) "append" apos) [e] [] cpos) none pos.line X.env=pure false) aTc) :
  PSd X (.Expr (.Call (.Attribute (.Name x p) "append" apos) [e] [] cpos) pos) (sApp i ge) :=
 PS.imp (zgm (zlX Ks PySem.F.slot_list_append PySem.F.type_list_append zbx hv (yG he zbC hs) hbase hfew hline hs (by rfl)) hsw) fun D σ H hZq=>by
  obtain⟨F,O,ρ,out,r,e,k⟩:=hZq;obtain⟨d,e1,e2⟩:=Zb.mp e;obtain⟨ds,e3,e4⟩:=Zb.mp e2;split at e4
  ·rename_i hl;cases e4;have ho:=yc e3;obtain⟨q,h1,h2,h3,h4⟩:=r.own i _ ho;cases h4 with
   | lst hq rq =>
    rename_i xs;refine⟨_,h1,.inl ⟨rfl,xs,SqL.of hq⟩,F,O,ρ,d,r,e1,fun v H1 s1 b1 => ?_⟩;refine⟨q,xs,v,rfl,rfl,s1 _ _ hq,by rw[←rq.length];exact hl,?_⟩;refine k O σ _ ((r.same s1).mut ho h1 (.lst zR ?_));rw[zL h2];exact(rq.same (zP s1)).append (.cons b1 .nil)
  ·cases e4
theorem zaL {i:Nat}{x:Str}{e ix:Expr}{p spos pos:Pos}{gi ge:Env'→Option D}(hv:PE X (.Name x p) (tVar i)) (hi:PB X ix gi) (he:PD X e ge)
  (hs:autoParam (Wq [.Subscript (.Name x p) ix spos] e pos.line X.env=pure false) aTc) (hw:autoParam (Wr [.Subscript (.Name x p) ix spos] e X.env=pure none) aTc)
  (h1:autoParam ((Vb [.Subscript (.Name x p) ix spos] X.env).map (·.2)=[assign (.Subscript (.Name x p) ix spos) X.env]) aTc)
  (ha:autoParam (∀v,assign (.Subscript (.Name x p) ix spos) X.env v=(do
   let ov ←holding [v] (eval (.Name x p) X.env);let iv ←holding [v,ov] (eval ix X.env)
   Ci spos
   holding [v,ov,iv] (Ck ov iv v)
   release [v,ov,iv] [])) aTd) :
  PSd X (.Assign [.Subscript (.Name x p) ix spos] e pos) (zeg i gi ge) :=
 PS.imp (zae he (zl9 hv hi set_list ha) hs hw h1) fun D σ H hZq=>by
  obtain⟨F,O,ρ,out,r,e,k⟩:=hZq;obtain⟨d,e1,e2⟩:=Zb.mp e;obtain⟨kd,e3,e4⟩:=Zb.mp e2;split at e4
  ·rename_i j;obtain⟨ds,e5,e6⟩:=Zb.mp e4;obtain⟨n,e7,e8⟩:=Zb.mp e6;cases e8;have ho:=yc e5;refine⟨F,O,ρ,d,r,e1,fun v H1 s1 b1 => ?_⟩;have r1:=r.same s1;obtain⟨q,g1,g2,g3,g4⟩:=r1.own i _ ho;cases g4 with
   | lst hq rq =>
    rename_i xs;refine⟨_,g1,F,O,ρ,_,r1,e3,fun iv H2 s2 b2 => ?_⟩;cases b2.int;refine⟨q,xs,j,n,rfl,rfl,s2 _ _ hq,by rw[←rq.length];exact e7,?_⟩;refine k O σ _ ((r1.same s2).mut ho g1 (.lst zR ?_));rw[zL g2];exact(rq.same (zP s2)).set n (b1.same (zP s2))
  ·cases e4
end
noncomputable def spD (K:Frag) (n:Nat) (f:List D→Option D):Sp:=fun vs H Q _=>∃O ds d,Dom O H∧Reps K (hide O H) ds vs∧ds.length=n∧f ds=some d∧∀v H',Same H H'→Rep K (hide O H') d v→Q v H'
theorem ziD {K:Frag}{O:List Zh}{H:Hp}{N:List Str}{ds:List D}{vs:List V}(hO:Dom O H) (r:Reps K (hide O H) ds vs) (hl:ds.length≤N.length):SR K ⟨H,O,hide O H⟩ O (wb N.length ds) (start N vs) H:=by
 have elen:=r.length;have split:∀ {i:Nat}{e:En},(wb N.length ds)[i]?=some (some e)→∃d,ds[i]?=some d∧e=.val d:=fun {i e} h=>by
  unfold wb at h
  by_cases hi:i<ds.length
  ·rw[Jx (by simpa using hi),Ql]at h;obtain⟨d,h1,h2⟩:=ZG.mp h;exact⟨d,h1,(QT h2).symm⟩
  ·rw[Ji (by simpa using hi),Ga]at h;split at h <;> cases h
 refine⟨Same.refl _,Same.refl _,fun _ h=>h,hO,?_,fun i d h => ?_,fun i d h => ?_,fun i j d d' p h => ?_⟩
 ·unfold start wb;rw[Zx,Zx,Zi,Zi,WN,WN];omega
 ·obtain⟨d',h1,h2⟩:=split h;cases h2;obtain⟨v,g1,g2⟩:=r.get h1;refine⟨v,?_,g2⟩;unfold start;have hi:i<vs.length:=(Qa.mp g1).1;rw[Jx (by simpa using hi),Ql,g1];rfl
 ·obtain⟨d',h1,h2⟩:=split h;cases h2
 ·obtain⟨d',h1,h2⟩:=split h;cases h2
noncomputable abbrev cxD (P:Qc) (w:QG) (K:Frag) (mg:Str→Option Za) (base:Je) (N:List Str) (qual:Str) (st:YZ) (f:Zh) (cdv:Za) (A:QB) (outer:List Env) (s:Zf) (H:Hp) (E:XK):Cx :=
 (cxOf CX0 P w K mg base N qual (zd st) f cdv A outer s H E).nox
section
variable {P:Qc}{w:QG}{K:Frag}{mg:Str→Option Za}{base:Je}
theorem jW {x qual:Str}{st:YZ}{f:Zh}{fd:QK}{N ps:List Str}{k:Nat}{g:GS}(F:Fun K x qual st f fd) (S:FnScope N ps (zd st))
  (hb:∀(cdv:Za) (A:QB) (outer:List Env) (s:Zf) (H:Hp) (E:XK),Room k (A.deeper (Bc qual (zd st) s.heap.objs.size f cdv))→PSsd (cxD P w K mg base N qual st f cdv A outer s H E) (zj st) g) :
  FnOk P w K mg base CX0 (k+1) f fd ps (spD K ps.length (jD N.length g)):=by
 have hpl:ps.length≤N.length:=by have:=congrArg Gz S.pre;rw[Jt]at this;omega
 refine F.ok S (fun vs H Q E h => ?_) (fun cdv A outer s H vs Q E hr h => ?_)
 ·obtain⟨O,ds,d,_,r,hl,_⟩:=h;rw[←r.length];exact hl
 ·obtain⟨O,ds,d,hO,r,hl,e,k⟩:=h;obtain⟨o,e1,e2⟩:=Zb.mp e;refine⟨_,hb cdv A outer s H E hr,⟨H,O,hide O H⟩,O,wb N.length ds,o,ziD hO r (by omega),e1,?_⟩;cases o with
  | ret d'=>cases e2;exact fun v H' s b=>k v H' s b
  | nxt ρ' =>
   cases e2;exact fun O' σ' H' r'=>k .non H' r'.hb .non
  | brk _=>cases e2
  | cnt _=>cases e2
end
section
variable {X:Cx}
theorem zy {k n:Nat}{f:Zh}{fd:QK}{ps:List Str}{fn:List D→Option D}{x:Str}{p pos:Pos}{e:Expr}{es:List Expr}{g:Env'→Option (List D)}(F:FnOk X.prog X.w X.K X.mg X.base CX0 k f fd ps (spD X.K n fn)) (hr:Room k X.A) (hg:Gl X x) (hm:X.mg x=some (.ref f)) (hk:Qf X.K (.ref f)=true) (hb:Binds X.K fd ps [])
  (ha:PAd X (e::es) g) (hdb:autoParam ((x == ("__debug__" : Str))=false) aTb) (he:autoParam (Qm (e::es) X.env=(false,eval e X.env)::Qm es X.env) aTe) (hpl:autoParam ((Ke pos (Qm es X.env)).any (·.1)=false) aTc) :
  PD X (.Call (.Name x p) (e::es) [] pos) (gA (zH n fn) g) :=
 PE.imp (zkk F hr hg hm hk hb .nil zmR ha hdb he hpl) fun σ H Q hZq=>by
  obtain⟨F',O,ρ,d,r,e,k⟩:=hZq;obtain⟨ds,e1,e2⟩:=vT e;unfold zH at e2;split at e2
  ·rename_i hl;refine⟨F',O,ρ,ds,r,e1,fun vs H1 s1 b1 => ?_⟩;show spD X.K n fn (vs++[]) H1 Q E0;rw[Yt];exact⟨O,ds,d,(r.same s1).dom,b1,hl,e2,fun v H' s2 b2=>k v H' (s1.trans s2) b2⟩
  ·cases e2
noncomputable def tyN:D→String
 | .none => "NoneType"
 | .bool _ => "bool"
 | .int _ => "int"
 | .str _ => "str"
 | .list _ => "list"
 | .tuple _ => "tuple"
 | .dict _ => "dict"
theorem zjZ (K:Frag) (d:D):Us K (.type (tyN d)) (.type "int")=some (zfz d):=by cases d <;> rfl
theorem zhP (K:Frag) (d:D):Us K (.type (tyN d)) (.type "bool")=some (zcg d):=by cases d <;> rfl
theorem zd1 {pins:List (Zh×Obj)}{σ:St}{H:Hp}{s:Zf}{d:D}{x:V}{u c:Za}{b:Bool}{Q:Za→Zf→Prop}{E:Za→Zf→Prop}(I:Inv X pins σ H s) (r:Rep X.K H d x) (nd:∀z,d≠.dict z) (rx:RelV x u) (e:Us X.K (.type (tyN d)) c=some b) (h:∀tk,Q (.bool b) { s with toks:=tk }) :
  ZF (model X.prog X.w) X.A (call (.builtin "isinstance") [u,c]) Q E s:=by
 cases r with
 | non=>exact qV I rx .non e h
 | bl y=>exact qV I rx (.bl y) e h
 | int i=>exact qV I rx (.int i) e h
 | str y=>exact qV I rx (.str y) e h
 | @tup a xs ds sq _ =>
  obtain rfl:u=Za.ref a:=rx;obtain⟨its,_,⟨o,h1,h2,_⟩,_⟩:=I.tuple (.inl (.inl sq));exact JM Rr I.kIn ⟨o,h1,h2⟩ e (fun z=>nomatch z) h
 | lst rd _ =>
  rcases rd with rd | ⟨o,rd⟩
  ·exact qV I rx (.lst rd) e h
  ·exact qV I rx (.frz rd) e h
 | dK hd _=>exact absurd rfl (nd _)
 | dT hd _=>exact absurd rfl (nd _)
 | dF hd _=>exact absurd rfl (nd _)
 | scr hd _=>exact absurd rfl (nd _)
 | adr _=>exact absurd rfl (nd _)
theorem zhL {f:D→Bool}{d r:D}(h:isI f d=some r):r=.bool (f d)∧∀z,d≠.dict z:=by
 cases d <;> first | (cases h;exact⟨rfl,fun z e=>nomatch e⟩) | cases h
theorem zbD {T:String}{x:Str}{f:D→Bool}{a:Expr}{p q pos:Pos}{ga:Env'→Option D}(hk:∀d,Us X.K (.type (tyN d)) (.type T)=some (f d)) (ha:PB X a ga) (hg:Gl X "isinstance") (hm:X.mg "isinstance" = none) (hg2:Gl X x) (hm2:X.mg x=none)
  (hv:JX "isinstance" = some (.builtin "isinstance")) (hv2:JX x=some (.type T)) (hn:autoParam (x ≠ "__name__") aTb) (hdb:autoParam ((x == ("__debug__" : Str))=false) aTb)
  (he:autoParam (Qm [a,.Name x q] X.env=(false,eval a X.env)::Qm [.Name x q] X.env) aTc) (hpl:autoParam ((Ke pos (Qm [.Name x q] X.env)).any (·.1)=false) aTc):PD X (.Call (.Name "isinstance" p) [a,.Name x q] [] pos) (g1 (isI f) ga):=by
 have hc:xH X (.builtin "isinstance") (fun xs H Q=>∃y O d,xs=[y,.ty T]∧RepB X.K O H d y∧(∀z,d≠.dict z)∧Q (.bl (f d)) H):=by
  intro pins s σ H xs us Q I rv hZq;obtain⟨y,O,d,e,rb,nd,q⟩:=hZq;subst e;cases rv with
  | cons r1 rr =>
   obtain⟨u2,rfl,r2⟩:=vals1 rr;obtain rfl:u2=Za.type T:=r2;exact zd1 I rb.full nd r1 (hk d) fun tk=>⟨.bl (f d),H,I.tok tk,rfl,q⟩
 exact PE.imp (ye hc hg hm hv (yG ha (yG (zkj (v:=.ty T) hg2 hm2 hv2 rfl hn hdb) zbC) he) (by decide) (by decide) he hpl) fun σ H Q hZq=>by
  obtain⟨F,O,ρ,d,r,e,k⟩:=hZq;obtain⟨dx,e1,e2⟩:=zjS e;obtain⟨rfl,nd⟩:=zhL e2;exact⟨F,O,ρ,dx,r,e1,fun v H1 s1 b1=>⟨v,O,dx,rfl,b1,nd,k _ H1 s1 (.bl _)⟩⟩
end
end L2.Y
namespace L2.Y
open PySem PyProof.Rows
theorem adl {lo n z k:Nat}(h1:lo+n≤z) (h2:k<n):lo+k<z:=Zo (QX h2 lo) h1
theorem pn {lo n:Nat}(h:1≤n):lo+n-1<lo+n:=Be (Zo h (Hg n lo)) WK
theorem prd {a b c:Nat}(h:a<b) (h2:b≤c):b-1<c:=Zo (Be (Jj (Qp _) h) WK) h2
theorem shr {l r n x m:Nat}(a:r-l≤n-x) (h:l≤m):r-(m+1)≤n-(x+1):=Zt (Nq (JF h) r) (Ma a)
theorem shut {l r n:Nat}(a:l≤r) (b:r-l≤n-max 0 n):l=r:=Wa a (Nat.le_of_sub_eq_zero (Fy.mp (Zt b (Yj (Nat.sub_eq_zero_of_le (Vz 0 n))))))
theorem avl {l r:Nat}(h:l<r):l≤(l+r) / 2:=(Nat.le_div_iff_mul_le Hc).mpr (by rw[Nat.mul_two];exact Jr (JL h) l)
theorem avr {l r:Nat}(h:l<r):(l+r) / 2<r:=Nat.div_lt_of_lt_mul (by rw[Nat.two_mul];exact Nat.add_lt_add_right h r)
section
variable {σ β ρ δ ζ:Type}{M:Te}{A:QB}{E:Za→Zf→Prop}{s:Zf}{Q:β→σ→Prop}{st:σ}
theorem bGet {f:σ→StateT σ Sem β}(h:wpS M A E s (f st) Q st):wpS M A E s ((get:StateT σ Sem σ) >>= f) Q st:=Qx (Ut h)
theorem bMod {g:σ→σ}{f:PUnit→StateT σ Sem β}(h:wpS M A E s (f ⟨⟩) Q (g st)):wpS M A E s ((modify g:StateT σ Sem PUnit) >>= f) Q st:=Qx (YH h)
theorem zeF {t:String}{f:Unit→StateT σ Sem β}(h:wpS M A E s (f ()) Q st):wpS M A E s ((liftM (rule t):StateT σ Sem Unit) >>= f) Q st:=Qx (wpS_lift (KC ⟨rfl,h⟩))
theorem bIte {c:Prop} [Decidable c] {t e:StateT σ Sem β}(h1:c→wpS M A E s t Q st) (h2:¬c→wpS M A E s e Q st):wpS M A E s (if c then t else e) Q st:=by
 split
 ·exact h1 (by assumption)
 ·exact h2 (by assumption)
inductive Out3 (g:ζ→σ) (R:ρ→ζ→Prop) (N Y:δ→ζ→Prop):ForInStep (Option ρ×δ)→σ→Prop
 | ret {r:ρ}{d:δ}{z:ζ}(h:R r z):Out3 g R N Y (.done (some r,d)) (g z)
 | brk {d:δ}{z:ζ}(h:N d z):Out3 g R N Y (.done (none,d)) (g z)
 | yld {d:δ}{z:ζ}(h:Y d z):Out3 g R N Y (.yield (none,d)) (g z)
theorem bFor {a b:Nat}{f:Nat→Option ρ×δ→StateT σ Sem (ForInStep (Option ρ×δ))}{k:Option ρ×δ→StateT σ Sem β}(g:ζ→σ) (R:ρ→ζ→Prop) (N:δ→ζ→Prop) (Y:Nat→δ→ζ→Prop) {d:δ}{z:ζ}
  (h0:Y a d z) (hs:∀i d z,a≤i→i<b→Y i d z→wpS M A E s (f i (none,d)) (Out3 g R N (Y (i+1))) (g z)) (he:∀d z,Y (max a b) d z→N d z)
  (hr:∀r d z,R r z→wpS M A E s (k (some r,d)) Q (g z)) (hn:∀d z,N d z→wpS M A E s (k (none,d)) Q (g z)):wpS M A E s (Ba [a:b] ((none,d):Option ρ×δ) f >>= k) Q (g z):=by
 refine Qx (Mu (GK (I:=fun i c st'=>∃d z,c=(none,d)∧st'=g z∧Y i d z) (Q:=fun c st'=>(∃r d z,c=(some r,d)∧st'=g z∧R r z)∨∃d z,c=(none,d)∧st'=g z∧N d z) ?_ ?_ ⟨d,z,rfl,rfl,h0⟩) ?_)
 ·rintro i c st' h1 h2 ⟨d,z,rfl,rfl,h⟩;refine Mu (hs i d z h1 h2 h) fun r st' o => ?_;cases o with
  | ret h=>exact .inl ⟨_,_,_,rfl,rfl,h⟩
  | brk h=>exact .inr ⟨_,_,rfl,rfl,h⟩
  | yld h=>exact⟨_,_,rfl,rfl,h⟩
 ·rintro c st' ⟨d,z,rfl,rfl,h⟩;exact .inr ⟨_,_,rfl,rfl,he d z h⟩
 ·rintro c st' (⟨r,d,z,rfl,rfl,h⟩ | ⟨d,z,rfl,rfl,h⟩)
  ·exact hr r d z h
  ·exact hn d z h
end
section
variable {prog:Qc}{w:QG}{A:QB}{E:Za→Zf→Prop}{s:Zf}{a0:Array ZK}{rk:ZK→Nat}{kd:KN}
noncomputable def CmpR (prog:Qc) (w:QG) (A:QB) (E:Za→Zf→Prop) (s:Zf) (a0:Array ZK) (rk:ZK→Nat) (kd:KN):Prop :=
 ∀(x y:ZK) (st:Qn) (Q:Option Bool→Qn→Prop),x∈a0.toList→y∈a0.toList→kindOf st=kd→Q (some (decide (rk x<rk y))) st→wpS (model prog w) A E s (lt' x y) Q st
structure SB (a0:Array ZK) (kd:KN) (st:Qn):Prop where
 perm:(ZV st).Perm a0
 kind:kindOf st=kd
 fail:Ue st=none
noncomputable def rR (rk:ZK→Nat) (xs:Array ZK) (i:Nat):Nat:=match xs[i]? with
 | some p=>rk p
 | none=>0
theorem zbI {xs ys:Array ZK}{i j:Nat}(h:xs[i]?=ys[j]?):rR rk xs i=rR rk ys j:=by unfold rR;rw[h]
theorem SB.size {st:Qn}(h:SB a0 kd st):(ZV st).size=a0.size:=h.perm.size_eq
theorem SB.set {st:Qn}(h:SB a0 kd st) {xs:Array ZK}(hp:xs.Perm (ZV st)):SB a0 kd (BX st xs):=⟨hp.trans h.perm,h.kind,h.fail⟩
theorem SB.get {st:Qn}(h:SB a0 kd st) {i:Nat}(hi:i<a0.size):∃x,(ZV st)[i]?=some x∧x∈a0.toList∧rR rk (ZV st) i=rk x:=by
 have hi' : i<(ZV st).size:=by rw[h.size];exact hi
 refine⟨(ZV st)[i],getElem?_pos _ i hi',(VB.mp h.perm).mem_iff.mp (by simp),?_⟩;unfold rR;rw[getElem?_pos _ i hi']
theorem zmw (hc:CmpR prog w A E s a0 rk kd) {st:Qn}{i j:Nat}{Q:Option Bool→Qn→Prop}(hB:SB a0 kd st) (hi:i<a0.size) (hj:j<a0.size)
  (h:Q (some (decide (rR rk (ZV st) i<rR rk (ZV st) j))) st):wpS (model prog w) A E s (Nh i j) Q st:=by
 obtain⟨x,e1,m1,r1⟩:=hB.get (rk:=rk) hi;obtain⟨y,e2,m2,r2⟩:=hB.get (rk:=rk) hj;rw[ltAt'_eq];refine Qx (Ut ?_);show wpS _ _ _ _ (do let x ←Wk (ZV st) i;let y ←Wk (ZV st) j;lt' x y) Q st;rw[Pq,Pq,e1,e2];refine Qx (ZC (Qx (ZC (hc x y st Q m1 m2 hB.kind ?_))));rw[←r1,←r2];exact h
theorem bLtR {β:Type}(hc:CmpR prog w A E s a0 rk kd) {st:Qn}{i j:Nat}{f:Option Bool→StateT Qn Sem β}{Q:β→Qn→Prop}(hB:SB a0 kd st) (hi:i<a0.size) (hj:j<a0.size)
  (h1:rR rk (ZV st) i<rR rk (ZV st) j→wpS (model prog w) A E s (f (some true)) Q st) (h2:¬rR rk (ZV st) i<rR rk (ZV st) j→wpS (model prog w) A E s (f (some false)) Q st):wpS (model prog w) A E s (Nh i j >>= f) Q st:=by
 refine Qx (zmw hc hB hi hj ?_)
 by_cases q:rR rk (ZV st) i<rR rk (ZV st) j
 ·rw[decide_eq_true q];exact h1 q
 ·rw[decide_eq_false q];exact h2 q
noncomputable def Asc (rk:ZK→Nat) (xs:Array ZK) (i j:Nat):Prop:=∀k l,i≤k→k<l→l<j→rR rk xs k<rR rk xs l
noncomputable def Dif (rk:ZK→Nat) (xs:Array ZK):Prop:=∀k l,k<l→l<xs.size→rR rk xs k≠rR rk xs l
theorem zho {xs:Array ZK}:Dif rk xs↔(xs.toList.map rk).Nodup:=by
 unfold Ln;rw[VG];constructor
 ·intro h i j hi hj hij;simp only[Zi,Qh]at hi hj;have:=h i j hij hj;unfold rR at this;rw[getElem?_pos xs i hi,getElem?_pos xs j hj]at this;simpa using this
 ·intro h i j hij hj;have hi:i<xs.size:=Jb hij hj;have:=h i j (by simpa using hi) (by simpa using hj) hij;unfold rR;rw[getElem?_pos xs i hi,getElem?_pos xs j hj];simpa using this
theorem Dif.perm {xs ys:Array ZK}(h:Dif rk xs) (p:ys.Perm xs):Dif rk ys:=by
 rw[zho]at h ⊢;exact(((VB.mp p).map rk).nodup_iff).mpr h
theorem SB.dif (d:Dif rk a0) {st:Qn}(h:SB a0 kd st):Dif rk (ZV st):=d.perm h.perm
theorem zgs {xs:Array ZK}{i j:Nat}(hj:j≤xs.size) (k:Nat):rR rk (mirror xs i j ((j-i) / 2)) k=if i≤k∧k<j then rR rk xs (i+j-1-k) else rR rk xs k:=by
 have e:=getElem?_mirror_all (i:=i) hj k;split
 ·rename_i h1;rw[if_pos h1]at e;exact zbI e
 ·rename_i h1;rw[if_neg h1]at e;exact zbI e
theorem zgr {xs:Array ZK}{src d:Nat}(hs:src<xs.size) (hd:d≤src) (k:Nat):rR rk (bubble xs src d) k=if k=src-d then rR rk xs src else if src-d<k∧k≤src then rR rk xs (k-1) else rR rk xs k:=by
 have e:=getElem?_bubble hs d hd k;split
 ·rename_i h1;rw[if_pos h1]at e;exact zbI e
 ·rename_i h1;rw[if_neg h1]at e;split
  ·rename_i h2;rw[if_pos h2]at e;exact zbI e
  ·rename_i h2;rw[if_neg h2]at e;exact zbI e
theorem zhi {xs:Array ZK}{lo n:Nat}(h1:1≤n) (h:Asc rk xs lo (lo+n)) (l:rR rk xs (lo+n-1)<rR rk xs (lo+n)):Asc rk xs lo (lo+(n+1)):=fun k m hk hkm hm=>by
 by_cases e:m<lo+n
 ·exact h k m hk hkm e
 ·obtain rfl:m=lo+n:=Wa (Jv hm) (Ju e)
  by_cases e2:k=lo+n-1
  ·rw[e2];exact l
  ·exact Jb (h k (lo+n-1) hk (Qo (Vr hkm) e2) (pn h1)) l
theorem bAsc {α β:Type}(d:Dif rk a0) {lo nrem a:Nat}{st:Qn}(hn:lo+nrem≤a0.size) (h1:1≤a) (han:a≤nrem) (hB:SB a0 kd st) (hs:Asc rk (ZV st) lo (lo+a)) {f:Nat→Option α×Nat→StateT Qn Sem (ForInStep (Option α×Nat))}
  (hf:∀(x n:Nat) (Q:ForInStep (Option α×Nat)→Qn→Prop),lo+n<a0.size→lo+n-1<a0.size→(rR rk (ZV st) (lo+n)<rR rk (ZV st) (lo+n-1)→Q (.done (none,n)) st)→(¬rR rk (ZV st) (lo+n)<rR rk (ZV st) (lo+n-1)→Q (.yield (none,n+1)) st)→wpS (model prog w) A E s (f x (none,n)) Q st)
  {k:Option α×Nat→StateT Qn Sem β}{Q:β→Qn→Prop}(h:∀n,a≤n→n≤nrem→Asc rk (ZV st) lo (lo+n)→(n=nrem∨rR rk (ZV st) (lo+n)<rR rk (ZV st) (lo+n-1))→wpS (model prog w) A E s (k (none,n)) Q st) :
  wpS (model prog w) A E s (Ba [a:nrem] ((none,a):Option α×Nat) f >>= k) Q st:=by
 refine bFor (fun _:Unit=>st) (fun _ _=>False) (fun n _=>a≤n∧n≤nrem∧Asc rk (ZV st) lo (lo+n)∧(n=nrem∨rR rk (ZV st) (lo+n)<rR rk (ZV st) (lo+n-1))) (fun x n _=>n=x∧Asc rk (ZV st) lo (lo+n)) (z:=()) ⟨rfl,hs⟩ ?_ ?_ (fun _ _ _ h=>h.elim) fun n _ hh=>h n hh.1 hh.2.1 hh.2.2.1 hh.2.2.2
 ·rintro x n _ ax xn ⟨rfl,hs'⟩;refine hf n n _ (adl hn xn) (Jj (Wx _ _) (adl hn xn)) (fun q=>.brk (z:=()) ⟨ax,JL xn,hs',.inr q⟩) fun q=>.yld (z:=()) ⟨rfl,?_⟩;have:=hB.dif d (lo+n-1) (lo+n) (pn (Zt h1 ax)) (by rw[hB.size];exact adl hn xn);exact zhi (Zt h1 ax) hs' (Qo (Ju q) this)
 ·rintro n _ ⟨rfl,hs'⟩;rw[Mi han]at hs' ⊢;exact⟨han,Zg _,hs',.inl rfl⟩
theorem ziS (d:Dif rk a0) (hc:CmpR prog w A E s a0 rk kd) {lo nrem:Nat}{st:Qn}(h1:1≤nrem) (hn:lo+nrem≤a0.size) (hB:SB a0 kd st) {Q:Option Nat→Qn→Prop}
  (h:∀m xs,xs.Perm (ZV st)→1≤m→m≤nrem→Asc rk xs lo (lo+m)→(∀k,k<lo∨lo+nrem≤k→rR rk xs k=rR rk (ZV st) k)→Q (some m) (BX st xs)):wpS (model prog w) A E s (countRun' lo nrem) Q st:=by
 have same:BX st (ZV st)=st:=by cases st;rfl
 rw[countRun'_eq];refine bAsc d hn (Zg 1) h1 hB (fun k l a b c=>absurd (Zo b (Jv c)) (Gd a)) (fun _ n Q n1 n2 k1 k2=>by
  refine(show wpS _ _ _ _ (Nh (lo+n) (lo+n-1) >>= _) _ _ from bLtR hc hB n1 n2 (fun q => ?_) fun q => ?_)
  ·exact ZC (k1 q)
  ·exact ZC (k2 q)) fun n n1 n2 hs' hor => ?_
 have fin0:Q (some n) st:=by
  have:=h n (ZV st) (Kv _) n1 n2 hs' fun _ _=>rfl
  rwa [same]at this
 refine(show wpS _ _ _ _ (ite _ _ _) _ _ from bIte (fun _ => ?_) fun e => ?_)
 ·exact ZC fin0
 refine(show wpS _ _ _ _ (ite (n>1) _ _) _ _ from bIte (fun g => ?_) fun g => ?_)
 ·refine(show wpS _ _ _ _ (Nh lo (lo+n-1) >>= _) _ _ from bLtR hc hB (Zo (Nat.lt_add_of_pos_right h1) hn) (Zo (pn n1) (Zt (Jr n2 lo) hn)) (fun _ => ?_) fun z=>absurd (hs' lo (lo+n-1) (Zg _) (Nat.lt_sub_of_add_lt (QX g lo)) (pn n1)) z);exact ZC fin0
 have lt0:=hor.resolve_left (by simpa using e);obtain rfl:n=1:=Wa (Ju g) n1;have n2:2≤nrem:=Qo h1 (by simpa using e);have sz:=hB.size;refine zeF (bFor (fun _:Unit=>st) (fun _ _=>False) (fun c _=>c.2=0∧2≤c.1∧c.1≤nrem∧∀k l,lo≤k→k<l→l<lo+c.1→rR rk (ZV st) l<rR rk (ZV st) k)
  (fun x c _=>c.2=0∧c.1=x∧∀k l,lo≤k→k<l→l<lo+x→rR rk (ZV st) l<rR rk (ZV st) k) (z:=()) ⟨rfl,rfl,fun k l a b c => ?_⟩ ?_ ?_ (fun _ _ _ h=>h.elim) ?_)
 ·obtain rfl:k=lo:=Wa (Jv (Zo b (Jv c))) a;obtain rfl:l=k+1:=Wa (Jv c) b;exact lt0
 ·rintro x ⟨y,z⟩ _ hax hxn ⟨rfl,rfl,dd⟩;refine(show wpS _ _ _ _ (Nh (lo+y) (lo+y-1) >>= _) _ _ from bLtR hc hB (adl hn hxn) (Jj (Wx _ _) (adl hn hxn)) (fun q => ?_) fun q => ?_)
  ·refine ZC (.yld (z:=()) ⟨rfl,rfl,fun k l a b c => ?_⟩)
   by_cases z:l<lo+y
   ·exact dd k l a b z
   ·obtain rfl:l=lo+y:=Wa (Jv c) (Ju z)
    by_cases z2:k=lo+y-1
    ·rw[z2];exact q
    ·exact Jb q (dd k (lo+y-1) a (Qo (Vr b) z2) (pn (YL hax)))
  ·refine(show wpS _ _ _ _ (Nh (lo+y-1) (lo+y) >>= _) _ _ from bLtR hc hB (Jj (Wx _ _) (adl hn hxn)) (adl hn hxn) (fun _ => ?_) fun q2=>absurd (Wa (Ju q) (Ju q2)) (hB.dif d (lo+y-1) (lo+y) (pn (YL hax)) (by rw[sz];exact adl hn hxn)));exact ZC (.brk (z:=()) ⟨rfl,hax,JL hxn,dd⟩)
 ·rintro⟨y,z⟩ _ ⟨rfl,rfl,dd⟩;rw[Mi n2]at dd ⊢;exact⟨rfl,n2,Zg nrem,dd⟩
 ·rintro⟨x,z⟩ _ ⟨rfl,x2,xn,dd⟩;have x2:2≤x:=x2;have xn:x≤nrem:=xn;have mp:(mirror (ZV st) lo (lo+x) ((lo+x-lo) / 2)).Perm (ZV st):=mirror_perm _ _ _ _;have hB':=hB.set mp;have ms:=fun k=>zgs (rk:=rk) (xs:=ZV st) (i:=lo) (j:=lo+x) (by rw[sz];exact Zt (Jr xn lo) hn) k;refine Qx (wpS_reverse ?_);refine bAsc d hn (a:=x) (YL x2) xn hB' (fun k l a b c => ?_) (fun _ n Q n1 n2 k1 k2=>by
    refine(show wpS _ _ _ _ (Nh (lo+n) (lo+n-1) >>= _) _ _ from bLtR hc hB' n1 n2 (fun q => ?_) fun q => ?_)
    ·exact ZC (k1 q)
    ·exact ZC (k2 q)) fun m m1 m2 hm _ => ?_
  ·show rR rk (mirror (ZV st) lo (lo+x) ((lo+x-lo) / 2)) k<rR rk (mirror (ZV st) lo (lo+x) ((lo+x-lo) / 2)) l;rw[ms,ms,if_pos ⟨a,Jb b c⟩,if_pos ⟨Zt a (JL b),c⟩];have le1:l≤lo+(lo+x)-1:=Zt (Vr c) (Nat.sub_le_sub_right (Hg _ lo) 1);refine dd _ _ ?_ (Nat.sub_lt_sub_left (Zo b le1) b) (Ku (Zt (JL b) le1) (Zo (pn (Jj (Qp _) c)) (Nat.add_le_add_right a _)));rw[Dw (Jj (Qp _) c),Dw (Vr c)];exact Qy _ _
  ·refine ZC (h m _ mp (Zt (YL x2) m1) m2 hm fun k hk => ?_);rw[ms,if_neg fun z=>hk.elim (fun q=>Mf q z.1) fun q=>Gd (Zt (Jr xn lo) q) z.2]
theorem zjy {xs:Array ZK}{lo k l:Nat}(hk:lo+k<xs.size) (hl:l≤k) (ax:Asc rk xs lo (lo+k)) (hlo:∀i,i<l→rR rk xs (lo+i)<rR rk xs (lo+k)) (hhi:∀i,l≤i→i<k→rR rk xs (lo+k)<rR rk xs (lo+i)) :
  Asc rk (bubble xs (lo+k) (lo+k-(lo+l))) lo (lo+(k+1))∧∀j,j<lo∨lo+k<j→rR rk (bubble xs (lo+k) (lo+k-(lo+l))) j=rR rk xs j:=by
 have pq:=Jr hl lo;have bb:=fun j=>zgr (rk:=rk) (xs:=xs) (src:=lo+k) (d:=lo+k-(lo+l)) hk (Wx _ _) j;rw[Nat.sub_sub_self pq]at bb;refine⟨fun i j a b c => ?_,fun j hj => ?_⟩
 ·have c:j≤lo+k:=Jv c;rw[bb,bb]
  by_cases i1:i=lo+l
  ·rw[i1]at b;have j1:=prd b c;have l1:=Vr b;rw[if_pos i1,if_neg (YJ b),if_pos ⟨b,c⟩];have:=hhi (j-1-lo) (Nat.le_sub_of_add_le' l1) (Ku (Zt (Qy _ _) l1) j1)
   rwa [Ux (Zt (Qy _ _) l1)]at this
  ·rw[if_neg i1]
   by_cases i2:lo+l<i∧i≤lo+k
   ·rw[if_pos i2,if_neg (YJ (Jb i2.1 b)),if_pos ⟨Jb i2.1 b,c⟩];exact ax _ _ (Vr (Jj (Qy lo l) i2.1)) (RW (Jj (Qp _) i2.1) b) (prd b c)
   ·rw[if_neg i2];have ip:i<lo+l:=Qo (Ju fun z=>i2 ⟨z,JL (Zo b c)⟩) i1
    by_cases j1:j=lo+l
    ·rw[if_pos j1];have:=hlo (i-lo) (Ku a ip)
     rwa [Ux a]at this
    ·rw[if_neg j1]
     by_cases j2:lo+l<j∧j≤lo+k
     ·rw[if_pos j2];exact ax _ _ a (Zo ip (Vr j2.1)) (prd b c)
     ·rw[if_neg j2];exact ax _ _ a b (Zo (Qo (Ju fun z=>j2 ⟨z,c⟩) j1) pq)
 ·rw[bb,if_neg (hj.elim (fun h=>QD (Zo h (Qy lo l))) fun h=>YJ (Jj pq h)),if_neg fun z=>hj.elim (fun h=>Gd (Qy lo l) (Jb z.1 h)) fun h=>Mf h z.2]
theorem zmv (d:Dif rk a0) (hc:CmpR prog w A E s a0 rk kd) {lo n ok:Nat}{st:Qn}(hn:lo+n≤a0.size) (h0:1≤ok) (hok:ok≤n) (hB:SB a0 kd st) (hs:Asc rk (ZV st) lo (lo+ok)) {Q:Bool→Qn→Prop}
  (h:∀xs,xs.Perm (ZV st)→Asc rk xs lo (lo+n)→(∀k,k<lo∨lo+n≤k→rR rk xs k=rR rk (ZV st) k)→Q true (BX st xs)):wpS (model prog w) A E s (Pu lo n ok) Q st:=by
 have same:BX st (ZV st)=st:=by cases st;rfl
 have key:wpS (model prog w) A E s (Pu lo n ok) Q (BX st (ZV st)):=by
  rw[binarySort'_eq];refine bFor (BX st) (fun _ _=>False) (fun _ xs=>xs.Perm (ZV st)∧Asc rk xs lo (lo+n)∧∀k,k<lo∨lo+n≤k→rR rk xs k=rR rk (ZV st) k) (fun k _ xs=>xs.Perm (ZV st)∧Asc rk xs lo (lo+k)∧∀k,k<lo∨lo+n≤k→rR rk xs k=rR rk (ZV st) k) ⟨Kv _,by rw[Hd h0];exact hs,fun _ _=>rfl⟩ ?_ (fun _ xs h => ?_) (fun _ _ _ h=>h.elim) fun _ xs hh=>ZC (h xs hh.1 hh.2.1 hh.2.2)
  ·intro k _ xs hak hkn hh;have px:=hh.1;have ax:=hh.2.1;have ox:=hh.2.2;clear hh;have hB':=hB.set px;have sx:xs.size=a0.size:=hB'.size;have hk:lo+k<a0.size:=adl hn hkn;refine bFor (fun _:Unit=>BX st xs) (fun _ _=>False) (fun c _=>c.1≤k∧(∀i,i<c.1→rR rk xs (lo+i)<rR rk xs (lo+k))∧∀i,c.1≤i→i<k→rR rk xs (lo+k)<rR rk xs (lo+i))
    (fun x c _=>c.1≤c.2∧c.2≤k∧c.2-c.1≤k-x∧(∀i,i<c.1→rR rk xs (lo+i)<rR rk xs (lo+k))∧∀i,c.2≤i→i<k→rR rk xs (lo+k)<rR rk xs (lo+i)) (z:=())
    ⟨Qp _,Zg _,Zg _,fun i hi=>absurd hi (MP _),fun i h1 h2=>absurd h1 (Mf h2)⟩ ?_ ?_ (fun _ _ _ h=>h.elim) ?_
   ·intro x c _ _ hxk hh;have hlr:=hh.1;have hrk:=hh.2.1;have hm:=hh.2.2.1;have hlo:=hh.2.2.2.1;have hhi:=hh.2.2.2.2;clear hh;dsimp only;refine bIte (fun q => ?_) fun q => ?_
    ·exact ZC (.brk (z:=()) ⟨Zt hlr hrk,hlo,fun i h1 h2=>hhi i (Zt q h1) h2⟩)
    have q:c.1<c.2:=Ws q;have mk:=Zo (avr q) hrk;refine(show wpS _ _ _ _ (Nh (lo+k) (lo+(c.1+c.2) / 2) >>= _) _ _ from bLtR hc hB' hk (Jb (QX mk lo) hk) (fun y => ?_) fun y => ?_)
    ·refine ZC (.yld (z:=()) ⟨?_,?_,?_,hlo,fun i h1 h2 => ?_⟩)
     ·exact avl q
     ·exact JL mk
     ·exact Zt (Dv (RW (avl q) (avr q))) (Ma hm)
     ·have y:rR rk xs (lo+k)<rR rk xs (lo+(c.1+c.2) / 2):=y;have h1:(c.1+c.2) / 2≤i:=h1
      by_cases z:i=(c.1+c.2) / 2
      ·rw[z];exact y
      ·exact Jb y (ax _ _ (Qy _ _) (QX (Qo h1 (Wf z)) lo) (QX h2 lo))
    ·refine ZC (.yld (z:=()) ⟨?_,hrk,?_,fun i h1 => ?_,hhi⟩)
     ·exact avr q
     ·exact shr hm (avl q)
     ·have y:¬rR rk xs (lo+k)<rR rk xs (lo+(c.1+c.2) / 2):=y;have df:rR rk xs (lo+(c.1+c.2) / 2)≠rR rk xs (lo+k):=hB'.dif d (lo+(c.1+c.2) / 2) (lo+k) (QX mk lo) (by rw[hB'.size];exact hk);have h1:i<(c.1+c.2) / 2+1:=h1
      by_cases z:i=(c.1+c.2) / 2
      ·rw[z];exact Qo (Ju y) df
      ·exact Zo (ax (lo+i) (lo+(c.1+c.2) / 2) (Qy _ _) (QX (Qo (Jv h1) z) lo) (QX mk lo)) (Ju y)
   ·intro c _ hh;have e:c.1=c.2:=shut hh.1 hh.2.2.1;exact⟨Zt hh.1 hh.2.1,hh.2.2.2.1,e▸hh.2.2.2.2⟩
   ·intro c _ hh;have ab:=zjy (rk:=rk) (by rw[sx];exact hk) hh.1 ax hh.2.1 hh.2.2;refine(show wpS _ _ _ _ (moveDown' (lo+k) (lo+c.1) >>= fun _=>pure (ForInStep.yield (none,()))) _ _ from ?_);rw[moveDown'_eq];exact bMod (ZC (.yld (z:=bubble xs (lo+k) (lo+k-(lo+c.1))) ⟨(bubble_perm _ _ _).trans px,ab.1,fun j hj=>(ab.2 j (hj.imp id fun z=>Zo (QX hkn lo) z)).trans (ox j hj)⟩))
  ·rw[Hd h0,Mi hok]at h;exact h
 rwa [same]at key
end
end L2.Y
namespace L2.Y
open PySem PyProof.Rows
noncomputable def gal:Bool→ZK→Array ZK→Nat→Nat→Nat→StateT Qn Sem (Option Nat):=sortPriv% PySem.Builtin.gallop
noncomputable def bey (left:Bool) (key:ZK) (arr:Array ZK) (base i:Nat):StateT Qn Sem (Option Bool):=do
 let e ←Wk arr (base+i)
 if left then lt' e key else do
  let r ←lt' key e
  pure (r.map (!·))
section
variable {prog:Qc}{w:QG}{A:QB}{E:Za→Zf→Prop}{s:Zf}{a0:Array ZK}{rk:ZK→Nat}{kd:KN}
theorem zmu (hc:CmpR prog w A E s a0 rk kd) {left:Bool}{key:ZK}{arr:Array ZK}{base i:Nat}{st:Qn}{Q:Option Bool→Qn→Prop}(hk:kindOf st=kd) (km:key∈a0.toList) (am:∀x∈arr.toList,x∈a0.toList) (hi:base+i<arr.size) (ne:rR rk arr (base+i)≠rk key)
  (h:Q (some (decide (rR rk arr (base+i)<rk key))) st):wpS (model prog w) A E s (bey left key arr base i) Q st:=by
 have e:=getElem?_pos arr (base+i) hi;have m:arr[base+i]∈a0.toList:=am _ (by simp);have r:rR rk arr (base+i)=rk arr[base+i]:=by unfold rR;rw[e]
 rw[r]at ne h;unfold bey;rw[Pq,e];refine Qx (ZC ?_);cases left with
 | true=>exact hc _ _ st _ m km hk h
 | false =>
  simp only[Qq,if_false];refine Qx (hc _ _ st _ km m hk (ZC ?_));have:(!decide (rk key<rk arr[base+i]))=decide (rk arr[base+i]<rk key):=by
   by_cases q:rk key<rk arr[base+i]
   ·rw[decide_eq_true q,decide_eq_false (Nat.lt_asymm q)];rfl
   ·rw[decide_eq_false q,decide_eq_true (Qo (Ju q) ne)];rfl
  show Q (some (!decide (rk key<rk arr[base+i]))) st;rw[this];exact h
theorem mid {l r:Nat}(h:l<r):l+(r-l) / 2<r:=Gy (Hh (Bv h) (Zg 2))
theorem dbl (n:Nat):n<2*n+1:=Nat.lt_succ_of_le (Nat.le_mul_of_pos_left n Hc)
theorem far {n c:Nat}(a:max 0 n+1≤c):n≤c:=Zt (Vz 0 n) (YL a)
theorem half {l r n x:Nat}(a:r-l≤n-x) (h:l<r):l+(r-l) / 2-l≤n-(x+1):=Zt (Yj (Ge _ _)) (Zt (Dv (Hh (Bv h) (Zg 2))) (Ma a))
theorem bBey {β:Type}(hc:CmpR prog w A E s a0 rk kd) {left:Bool}{key:ZK}{arr:Array ZK}{base i:Nat}{st:Qn}{f:Option Bool→StateT Qn Sem β}{Q:β→Qn→Prop}(hk:kindOf st=kd) (km:key∈a0.toList) (am:∀x∈arr.toList,x∈a0.toList) (hi:base+i<arr.size) (ne:rR rk arr (base+i)≠rk key)
  (h1:rR rk arr (base+i)<rk key→wpS (model prog w) A E s (f (some true)) Q st) (h2:rk key<rR rk arr (base+i)→wpS (model prog w) A E s (f (some false)) Q st):wpS (model prog w) A E s (bey left key arr base i >>= f) Q st:=by
 refine Qx (zmu hc hk km am hi ne ?_)
 by_cases q:rR rk arr (base+i)<rk key
 ·rw[decide_eq_true q];exact h1 q
 ·rw[decide_eq_false q];exact h2 (Qo (Ju q) (Wf ne))
theorem zle {α β:Type}{key:ZK}{arr:Array ZK}{base n:Nat}{st:Qn}(up:∀i j,i≤j→j<n→rR rk arr (base+j)<rk key→rR rk arr (base+i)<rk key) (dn:∀i j,i≤j→j<n→rk key<rR rk arr (base+i)→rk key<rR rk arr (base+j))
  {f:Nat→Option α×Nat×Nat→StateT Qn Sem (ForInStep (Option α×Nat×Nat))}{k:Option α×Nat×Nat→StateT Qn Sem β}{Q:β→Qn→Prop}{lo hi:Nat}
  (hf:∀(x l r:Nat) (Q:ForInStep (Option α×Nat×Nat)→Qn→Prop),r≤n→(l≥r→Q (.done (none,l,r)) st)→(l<r→rR rk arr (base+(l+(r-l) / 2))<rk key→Q (.yield (none,l+(r-l) / 2+1,r)) st)→(l<r→rk key<rR rk arr (base+(l+(r-l) / 2))→Q (.yield (none,l,l+(r-l) / 2)) st)→wpS (model prog w) A E s (f x (none,l,r)) Q st)
  (l1:lo≤hi) (l2:hi≤n) (f1:∀i,i<lo→rR rk arr (base+i)<rk key) (f2:∀i,hi≤i→i<n→rk key<rR rk arr (base+i))
  (h:∀l,l≤n→(∀i,i<l→rR rk arr (base+i)<rk key)→(∀i,l≤i→i<n→rk key<rR rk arr (base+i))→wpS (model prog w) A E s (k (none,l,l)) Q st):wpS (model prog w) A E s (Ba [0:n] ((none,lo,hi):Option α×Nat×Nat) f >>= k) Q st:=by
 refine bFor (fun _:Unit=>st) (fun _ _=>False) (fun c _=>c.1=c.2∧c.2≤n∧(∀i,i<c.1→rR rk arr (base+i)<rk key)∧∀i,c.2≤i→i<n→rk key<rR rk arr (base+i)) (fun x c _=>c.1≤c.2∧c.2≤n∧c.2-c.1≤n-x∧(∀i,i<c.1→rR rk arr (base+i)<rk key)∧∀i,c.2≤i→i<n→rk key<rR rk arr (base+i)) (z:=()) ⟨l1,l2,show hi-lo≤n-0 from Zt (Wx _ _) l2,f1,f2⟩ ?_ ?_ (fun _ _ _ h=>h.elim) ?_
 ·rintro x ⟨l,r⟩ _ _ hx ⟨a1,a2,a3,a4,a5⟩;have a1:l≤r:=a1;have a2:r≤n:=a2;have a3:r-l≤n-x:=a3;refine hf x l r _ a2 (fun q=>.brk (z:=()) ⟨Wa a1 q,a2,a4,a5⟩) (fun q z=>.yld (z:=()) ⟨?_,a2,?_,fun i hi => ?_,a5⟩) fun q z=>.yld (z:=()) ⟨?_,?_,?_,a4,fun i h1 h2=>dn (l+(r-l) / 2) i h1 h2 z⟩
  ·exact mid q
  ·exact shr a3 (Qy _ _)
  ·exact up i (l+(r-l) / 2) (Jv hi) (Zo (mid q) a2) z
  ·exact Qy _ _
  ·exact Zt (JL (mid q)) a2
  ·exact half a3 q
 ·rintro⟨l,r⟩ _ ⟨a1,a2,a3,a4,a5⟩;have a1:l≤r:=a1;exact⟨shut a1 a3,a2,a4,a5⟩
 ·rintro⟨l,r⟩ _ ⟨a1,a2,a4,a5⟩;obtain rfl:l=r:=a1;exact h l a2 a4 a5
theorem zg6 (hc:CmpR prog w A E s a0 rk kd) {left:Bool}{key:ZK}{arr:Array ZK}{base n hint:Nat}{st:Qn}{Q:Option Nat→Qn→Prop}(hk:kindOf st=kd) (km:key∈a0.toList) (am:∀x∈arr.toList,x∈a0.toList) (hz:base+n≤arr.size) (hh:hint<n) (as:Asc rk arr base (base+n)) (ne:∀i,i<n→rR rk arr (base+i)≠rk key)
  (h:∀k,k≤n→(∀i,i<k→rR rk arr (base+i)<rk key)→(∀i,k≤i→i<n→rk key<rR rk arr (base+i))→Q (some k) st):wpS (model prog w) A E s (gal left key arr base n hint) Q st:=by
 have up:∀i j,i≤j→j<n→rR rk arr (base+j)<rk key→rR rk arr (base+i)<rk key:=fun i j hij hj q=>by
  by_cases e:i=j
  ·rw[e];exact q
  ·exact Jb (as _ _ (Qy _ _) (QX (Qo hij e) _) (QX hj _)) q
 have dn:∀i j,i≤j→j<n→rk key<rR rk arr (base+i)→rk key<rR rk arr (base+j):=fun i j hij hj q=>by
  by_cases e:i=j
  ·rw[←e];exact q
  ·exact Jb q (as _ _ (Qy _ _) (QX (Qo hij e) _) (QX hj _))
 have bb:∀ {β:Type}{f:Option Bool→StateT Qn Sem β}{Q:β→Qn→Prop}(i:Nat),i<n→(rR rk arr (base+i)<rk key→wpS (model prog w) A E s (f (some true)) Q st)→(rk key<rR rk arr (base+i)→wpS (model prog w) A E s (f (some false)) Q st)→wpS (model prog w) A E s (bey left key arr base i >>= f) Q st:=fun i hi h1 h2=>bBey hc hk km am (Zo (QX hi _) hz) (ne i hi) h1 h2;clear ne as am km hk hc hz;refine(show wpS _ _ _ _ (bey left key arr base hint >>= _) _ _ from bb hint hh (fun z => ?_) fun z => ?_)
 ·refine(show wpS _ _ _ _ (Ba [0:n] (none,0,1) _ >>= _) _ _ from bFor (fun _:Unit=>st) (fun _ _=>False) (fun c _=>c.1<n-hint∧rR rk arr (base+(hint+c.1))<rk key∧c.1<c.2∧(c.2≥n-hint∨rk key<rR rk arr (base+(hint+c.2)))) (fun x c _=>c.1<n-hint∧rR rk arr (base+(hint+c.1))<rk key∧c.1<c.2∧x+1≤c.2) (z:=()) ⟨Bv hh,z,WK,Zg 1⟩ ?_ ?_ (fun _ _ _ h=>h.elim) ?_)
  ·intro x c _ _ hx e;have a3:=e.2.2.2;dsimp only;refine bIte (fun q => ?_) fun q => ?_
   ·exact ZC (.brk (z:=()) ⟨e.1,e.2.1,e.2.2.1,.inl q⟩)
   have q:c.2<n-hint:=Ws q;refine(show wpS _ _ _ _ (bey left key arr base (hint+c.2) >>= _) _ _ from bb (hint+c.2) (Gy q) (fun y => ?_) fun y => ?_)
   ·exact ZC (.yld (z:=()) ⟨q,y,dbl c.2,Zt (JF a3) (dbl c.2)⟩)
   ·exact ZC (.brk (z:=()) ⟨e.1,e.2.1,e.2.2.1,.inr y⟩)
  ·intro c _ e;have a3:=e.2.2.2;exact⟨e.1,e.2.1,e.2.2.1,.inl (Zt (Wx _ _) (far a3))⟩
  ·intro c _ e;have a1:=e.1;have a2:=e.2.2.1;refine(show wpS _ _ _ _ (Ba [0:n] (none,hint+c.1+1,hint+min c.2 (n-hint)) _ >>= _) _ _ from zle up dn (fun x l r Q b q1 q2 q3=>by
    dsimp only;refine bIte (fun q => ?_) fun q => ?_
    ·exact ZC (q1 q)
    have q:l<r:=Ws q;refine(show wpS _ _ _ _ (bey left key arr base (l+(r-l) / 2) >>= _) _ _ from bb _ (Zo (mid q) b) (fun z => ?_) fun z => ?_)
    ·exact ZC (q2 q z)
    ·exact ZC (q3 q z)) (Jr (Nat.le_min.mpr ⟨a2,a1⟩) hint) (Zt (Jr (Py _ _) _) (Yj (Ux (JL hh)))) (fun i hi=>up i (hint+c.1) (Jv hi) (Gy a1) e.2.1) (fun i h1 h2 => ?_) fun k k1 k2 k3=>ZC (h k k1 k2 k3))
   by_cases y:c.2≥n-hint
   ·rw[Pz y,Ux (JL hh)]at h1;exact absurd h2 (Gd h1)
   ·rw[MT (PJ y)]at h1;exact dn (hint+c.2) i h1 h2 (e.2.2.2.resolve_left y)
 ·refine(show wpS _ _ _ _ (Ba [0:n] (none,0,1) _ >>= _) _ _ from bFor (fun _:Unit=>st) (fun _ _=>False) (fun c _=>c.1<hint+1∧rk key<rR rk arr (base+(hint-c.1))∧c.1<c.2∧(c.2≥hint+1∨rR rk arr (base+(hint-c.2))<rk key)) (fun x c _=>c.1<hint+1∧rk key<rR rk arr (base+(hint-c.1))∧c.1<c.2∧x+1≤c.2) (z:=()) ⟨Nat.succ_pos _,z,WK,Zg 1⟩ ?_ ?_ (fun _ _ _ h=>h.elim) ?_)
  ·intro x c _ _ hx e;have a3:=e.2.2.2;dsimp only;refine bIte (fun q => ?_) fun q => ?_
   ·exact ZC (.brk (z:=()) ⟨e.1,e.2.1,e.2.2.1,.inl q⟩)
   have q:c.2<hint+1:=Ws q;refine(show wpS _ _ _ _ (bey left key arr base (hint-c.2) >>= _) _ _ from bb (hint-c.2) (Jj (Wx _ _) hh) (fun y => ?_) fun y => ?_)
   ·exact ZC (.brk (z:=()) ⟨e.1,e.2.1,e.2.2.1,.inr y⟩)
   ·exact ZC (.yld (z:=()) ⟨q,y,dbl c.2,Zt (JF a3) (dbl c.2)⟩)
  ·intro c _ e;have a3:=e.2.2.2;exact⟨e.1,e.2.1,e.2.2.1,.inl (Zt hh (far a3))⟩
  ·intro c _ e;have a1:=e.1;have a2:=e.2.2.1;refine(show wpS _ _ _ _ (Ba [0:n] (none,hint+1-min c.2 (hint+1),hint-c.1) _ >>= _) _ _ from zle up dn (fun x l r Q b q1 q2 q3=>by
    dsimp only;refine bIte (fun q => ?_) fun q => ?_
    ·exact ZC (q1 q)
    have q:l<r:=Ws q;refine(show wpS _ _ _ _ (bey left key arr base (l+(r-l) / 2) >>= _) _ _ from bb _ (Zo (mid q) b) (fun z => ?_) fun z => ?_)
    ·exact ZC (q2 q z)
    ·exact ZC (q3 q z)) (Zt (Nq (Nat.le_min.mpr ⟨a2,a1⟩) (hint+1)) (Yj (Nat.add_sub_add_right _ 1 _))) (Zt (Wx _ _) (JL hh)) (fun i hi => ?_) (fun i h1 h2=>dn (hint-c.1) i h1 h2 e.2.1) fun k k1 k2 k3=>ZC (h k k1 k2 k3))
   by_cases y:c.2≥hint+1
   ·rw[Pz y,Yi]at hi;exact absurd hi (MP _)
   ·rw[MT (PJ y),Nat.succ_sub (Jv (Ws y))]at hi;exact up i (hint-c.2) (Jv hi) (Jj (Wx _ _) hh) (e.2.2.2.resolve_left y)
theorem bGal {β:Type}(hc:CmpR prog w A E s a0 rk kd) {left:Bool}{key:ZK}{arr:Array ZK}{base n hint:Nat}{st:Qn}{f:Option Nat→StateT Qn Sem β}{Q:β→Qn→Prop}(hk:kindOf st=kd) (km:key∈a0.toList) (am:∀x∈arr.toList,x∈a0.toList) (hz:base+n≤arr.size) (hh:hint<n) (as:Asc rk arr base (base+n)) (ne:∀i,i<n→rR rk arr (base+i)≠rk key)
  (h:∀k,k≤n→(∀i,i<k→rR rk arr (base+i)<rk key)→(∀i,k≤i→i<n→rk key<rR rk arr (base+i))→wpS (model prog w) A E s (f (some k)) Q st):wpS (model prog w) A E s (gal left key arr base n hint >>= f) Q st:=Qx (zg6 hc hk km am hz hh as ne h)
end
end L2.Y
namespace L2.Y
open PySem PyProof.Rows
section
variable {prog:Qc}{w:QG}{A:QB}{E:Za→Zf→Prop}{s:Zf}{a0:Array ZK}{rk:ZK→Nat}{kd:KN}{a b:Array ZK}
noncomputable def mLo:Array ZK→Array ZK→StateT Qn Sem (Array ZK):=sortPriv% PySem.Builtin.mergeLo
noncomputable def mHi:Array ZK→Array ZK→StateT Qn Sem (Array ZK):=sortPriv% PySem.Builtin.mergeHi
noncomputable def Rg (rk:ZK→Nat) (l:List ZK):Prop:=l.Pairwise fun x y=>rk x<rk y
structure Two (a0:Array ZK) (rk:ZK→Nat) (a b:Array ZK):Prop where
 a1:1≤a.size
 b1:1≤b.size
 am:∀x∈a.toList,x∈a0.toList
 bm:∀x∈b.toList,x∈a0.toList
 aa:Asc rk a 0 a.size
 ba:Asc rk b 0 b.size
 ne:∀i j,i<a.size→j<b.size→rR rk a i≠rR rk b j
 fst:rR rk b 0<rR rk a 0
 lst:rR rk b (b.size-1)<rR rk a (a.size-1)
theorem qj {xs:Array ZK}{i:Nat}(h:i<xs.size):xs[i]?=some xs[i]∧rR rk xs i=rk xs[i]:=by
 refine⟨getElem?_pos xs i h,?_⟩;unfold rR;rw[getElem?_pos xs i h]
structure Mg (rk:ZK→Nat) (a b out:Array ZK) (i j:Nat):Prop where
 perm:out.toList.Perm (a.toList.take i++b.toList.take j)
 ris:Rg rk out.toList
 la:∀x∈out.toList,∀k,i≤k→k<a.size→rk x<rR rk a k
 lb:∀x∈out.toList,∀k,j≤k→k<b.size→rk x<rR rk b k
 ia:i≤a.size
 jb:j≤b.size
theorem ku {α:Type}{l:List α}{i:Nat}{x:α}(h:l[i]?=some x):l.take (i+1)=l.take i++[x]:=by rw[Bo,h];rfl
theorem Mg.pushA {out:Array ZK}{i j:Nat}(T:Two a0 rk a b) (m:Mg rk a b out i j) (h:i<a.size) (l:j<b.size→rR rk a i<rR rk b j):Mg rk a b (out.push a[i]) (i+1) j:=by
 have g:=qj (rk:=rk) h;have e:(out.push a[i]).toList=out.toList++[a[i]]:=VR;refine⟨?_,?_,fun x hx k h1 h2 => ?_,fun x hx k h1 h2 => ?_,h,m.jb⟩
 ·rw[e,ku (l:=a.toList) (x:=a[i]) (by simp[h])];refine(m.perm.append_right _).trans ?_;rw[QW,QW];exact Lk _ Gr
 ·unfold Rg;rw[e];refine Up.mpr ⟨m.ris,by simp,fun x hx y hy => ?_⟩;rw[Zw.mp hy,←g.2];exact m.la x hx i (Zg _) h
 ·rw[e]at hx;rcases ZW.mp hx with hx | hx
  ·exact m.la x hx k (by omega) h2
  ·rw[Zw.mp hx,←g.2];exact T.aa i k (Qp _) (by omega) h2
 ·rw[e]at hx;rcases ZW.mp hx with hx | hx
  ·exact m.lb x hx k h1 h2
  ·rw[Zw.mp hx,←g.2]
   by_cases q:k=j
   ·rw[q];exact l (by omega)
   ·exact Jb (l (by omega)) (T.ba j k (Qp _) (by omega) h2)
theorem Mg.pushB {out:Array ZK}{i j:Nat}(T:Two a0 rk a b) (m:Mg rk a b out i j) (h:j<b.size) (l:i<a.size→rR rk b j<rR rk a i):Mg rk a b (out.push b[j]) i (j+1):=by
 have g:=qj (rk:=rk) h;have e:(out.push b[j]).toList=out.toList++[b[j]]:=VR;refine⟨?_,?_,fun x hx k h1 h2 => ?_,fun x hx k h1 h2 => ?_,m.ia,h⟩
 ·rw[e,ku (l:=b.toList) (x:=b[j]) (by simp[h]),←QW];exact m.perm.append_right _
 ·unfold Rg;rw[e];refine Up.mpr ⟨m.ris,by simp,fun x hx y hy => ?_⟩;rw[Zw.mp hy,←g.2];exact m.lb x hx j (Zg _) h
 ·rw[e]at hx;rcases ZW.mp hx with hx | hx
  ·exact m.la x hx k h1 h2
  ·rw[Zw.mp hx,←g.2]
   by_cases q:k=i
   ·rw[q];exact l (by omega)
   ·exact Jb (l (by omega)) (T.aa i k (Qp _) (by omega) h2)
 ·rw[e]at hx;rcases ZW.mp hx with hx | hx
  ·exact m.lb x hx k (by omega) h2
  ·rw[Zw.mp hx,←g.2];exact T.ba j k (Qp _) (by omega) h2
theorem zc3 {xs:Array ZK}{i e:Nat}(hi:i≤e) (h:e<xs.size) (out:Array ZK):out++xs.extract i (e+1)=(out++xs.extract i e).push xs[e]:=by
 apply Yb.mp;rw[VR,Wj,Wj,Ve,Ve,Jy,Jy,QW];congr 1;rw[show e+1-i=(e-i)+1 by omega,ku (x:=xs[e])];rw[Ew,show i+(e-i)=e by omega];simp[h]
theorem wj {xs:Array ZK}{i:Nat}(out:Array ZK):out++xs.extract i i=out:=by
 apply Yb.mp;rw[Wj,Ve,Jy];simp
theorem Mg.appA (T:Two a0 rk a b) {out:Array ZK}{i j:Nat}(m:Mg rk a b out i j):∀(e:Nat),i≤e→e≤a.size→(∀k,i≤k→k<e→j<b.size→rR rk a k<rR rk b j)→Mg rk a b (out++a.extract i e) e j:=by
 intro e
 induction e with
 | zero =>
  intro h1 _ _;obtain rfl:i=0:=by omega
  rw[wj];exact m
 | succ e ih =>
  intro h1 h2 h3
  by_cases q:i=e+1
  ·rw[q,wj];rw[q]at m;exact m
  ·rw[zc3 (by omega) (by omega)];exact(ih (by omega) (by omega) fun k a b c=>h3 k a (by omega) c).pushA T (by omega) fun hj=>h3 e (by omega) (by omega) hj
theorem Mg.appB (T:Two a0 rk a b) {out:Array ZK}{i j:Nat}(m:Mg rk a b out i j):∀(e:Nat),j≤e→e≤b.size→(∀k,j≤k→k<e→i<a.size→rR rk b k<rR rk a i)→Mg rk a b (out++b.extract j e) i e:=by
 intro e
 induction e with
 | zero =>
  intro h1 _ _;obtain rfl:j=0:=by omega
  rw[wj];exact m
 | succ e ih =>
  intro h1 h2 h3
  by_cases q:j=e+1
  ·rw[q,wj];rw[q]at m;exact m
  ·rw[zc3 (by omega) (by omega)];exact(ih (by omega) (by omega) fun k a b c=>h3 k a (by omega) c).pushB T (by omega) fun hj=>h3 e (by omega) (by omega) hj
noncomputable def Dn (rk:ZK→Nat) (a b out:Array ZK):Prop:=out.toList.Perm (a.toList++b.toList)∧Rg rk out.toList
theorem Mg.dn {out:Array ZK}(m:Mg rk a b out a.size b.size):Dn rk a b out:=⟨by
 have:=m.perm
 rwa [Wt (by simp),Wt (by simp)]at this,m.ris⟩
theorem Mg.done (T:Two a0 rk a b) {out:Array ZK}{i j:Nat}(m:Mg rk a b out i j) (h:i=a.size∨j=b.size):Dn rk a b (out++a.extract i a.size++b.extract j b.size):=by
 have:=m.ia;have:=m.jb;refine((m.appA T a.size m.ia (Zg _) fun k h1 h2 h3 => ?_).appB T b.size m.jb (Zg _) fun k h1 h2 h3 => ?_).dn <;> omega
theorem Mg.lastA (T:Two a0 rk a b) {out:Array ZK}{i j:Nat}(m:Mg rk a b out i j) (h:i+1=a.size):Dn rk a b (out++b.extract j b.size++a.extract i a.size):=by
 refine((m.appB T b.size m.jb (Zg _) fun k h1 h2 h3 => ?_).appA T a.size m.ia (Zg _) fun k h1 h2 h3=>by omega).dn;have l:=T.lst;rw[show a.size-1=i by omega]at l
 by_cases q:k=b.size-1
 ·rw[q];exact l
 ·exact Jb (T.ba k (b.size-1) (Qp _) (by omega) (by omega)) l
theorem zcM {xs:Array ZK}{i:Nat}{st:Qn}{Q:ZK→Qn→Prop}(h:i<xs.size) (k:Q xs[i] st):wpS (model prog w) A E s (Wk xs i) Q st:=by
 rw[Pq,getElem?_pos xs i h];exact ZC k
theorem wt {β:Type}{xs:Array ZK}{i:Nat}{st:Qn}{f:ZK→StateT Qn Sem β}{Q:β→Qn→Prop}(h:i<xs.size) (k:wpS (model prog w) A E s (f xs[i]) Q st):wpS (model prog w) A E s (Wk xs i >>= f) Q st:=Qx (zcM h k)
theorem iteS {β:Type}{c:Prop} [Decidable c] {T:Nat→StateT Qn Sem β}{x y:Nat}{Q:β→Qn→Prop}{st:Qn}(h:∀g,wpS (model prog w) A E s (T g) Q st):wpS (model prog w) A E s (if c then T x else T y) Q st:=by
 split <;> exact h _
theorem iteA {β:Type}{c c1 c2:Prop} [Decidable c] [Decidable c1] [Decidable c2] {r1 r2:StateT Qn Sem β}{T:Array ZK→Nat→StateT Qn Sem β}{o o' : Array ZK}{i i' : Nat}{Q:β→Qn→Prop}{st:Qn}(G:Array ZK→Nat→Prop) (h1:c→c1→wpS (model prog w) A E s r1 Q st) (h2:c→¬c1→c2→wpS (model prog w) A E s r2 Q st) (g1:c→¬c1→¬c2→G o i) (g2:¬c→G o' i')
  (h:∀o i,G o i→wpS (model prog w) A E s (T o i) Q st):wpS (model prog w) A E s (if c then(if c1 then r1 else if c2 then r2 else T o i) else T o' i') Q st:=by
 split
 ·split
  ·exact h1 (by assumption) (by assumption)
  ·split
   ·exact h2 (by assumption) (by assumption) (by assumption)
   ·exact h _ _ (g1 (by assumption) (by assumption) (by assumption))
 ·exact h _ _ (g2 (by assumption))
theorem iteB {β:Type}{c c1:Prop} [Decidable c] [Decidable c1] {r1:StateT Qn Sem β}{T:Array ZK→Nat→StateT Qn Sem β}{o o' : Array ZK}{i i' : Nat}{Q:β→Qn→Prop}{st:Qn}(G:Array ZK→Nat→Prop) (h1:c→c1→wpS (model prog w) A E s r1 Q st) (g1:c→¬c1→G o i) (g2:¬c→G o' i')
  (h:∀o i,G o i→wpS (model prog w) A E s (T o i) Q st):wpS (model prog w) A E s (if c then(if c1 then r1 else T o i) else T o' i') Q st:=by
 split
 ·split
  ·exact h1 (by assumption) (by assumption)
  ·exact h _ _ (g1 (by assumption) (by assumption))
 ·exact h _ _ (g2 (by assumption))
noncomputable def sS (st:Qn) (g:Nat):Qn:=YW (kindOf st) (ZV st) (Qi st) g (Ue st)
theorem zgB (st:Qn):sS st (Rk st)=st:=by cases st;rfl
theorem bCmp {β:Type}(hc:CmpR prog w A E s a0 rk kd) (T:Two a0 rk a b) {st:Qn}(hk:kindOf st=kd) {i j:Nat}(hj:j<b.size) (hi:i<a.size) {f:Option Bool→StateT Qn Sem β}{Q:β→Qn→Prop}
  (h1:rR rk b j<rR rk a i→wpS (model prog w) A E s (f (some true)) Q st) (h2:rR rk a i<rR rk b j→wpS (model prog w) A E s (f (some false)) Q st):wpS (model prog w) A E s (Wk b j >>= fun x=>Wk a i >>= fun y=>lt' x y >>= f) Q st:=by
 refine wt hj (wt hi (Qx (hc _ _ _ _ (T.bm _ (by simp)) (T.am _ (by simp)) hk ?_)));rw[←(qj (rk:=rk) hj).2,←(qj (rk:=rk) hi).2]
 by_cases q:rR rk b j<rR rk a i
 ·rw[decide_eq_true q];exact h1 q
 ·rw[decide_eq_false q];exact h2 (by have:=T.ne i j hi hj;omega)
theorem zmD {β:Type}(hc:CmpR prog w A E s a0 rk kd) (T:Two a0 rk a b) {st:Qn}(hk:kindOf st=kd) {out:Array ZK}{i j:Nat}(m:Mg rk a b out i j) (hj:j<b.size) (hi:i<a.size) {f:Option Nat→StateT Qn Sem β}{Q:β→Qn→Prop}
  (h:∀k,Mg rk a b (out++a.extract i (i+k)) (i+k) j→(i+k<a.size→rR rk b j<rR rk a (i+k))→wpS (model prog w) A E s (f (some k)) Q st):wpS (model prog w) A E s (Wk b j >>= fun x=>gal false x a i (a.size-i) 0 >>= f) Q st:=by
 have g:=(qj (rk:=rk) hj).2;refine wt hj (bGal hc hk (T.bm _ (by simp)) T.am (by omega) (by omega) (fun p q h1 h2 h3=>T.aa p q (Qp _) h2 (by omega)) (fun q hq => ?_) fun k k1 k2 k3=>h k (m.appA T (i+k) (Qy _ _) (by omega) fun p h1 h2 _ => ?_) fun z => ?_)
 ·rw[←g];exact T.ne _ _ (by omega) hj
 ·have:=k2 (p-i) (by omega)
  rwa [show i+(p-i)=p by omega,←g]at this
 ·rw[g];exact k3 k (Zg _) (by omega)
theorem zmE {β:Type}(hc:CmpR prog w A E s a0 rk kd) (T:Two a0 rk a b) {st:Qn}(hk:kindOf st=kd) {out:Array ZK}{i j:Nat}(m:Mg rk a b out i j) (hj:j<b.size) (hi:i<a.size) {f:Option Nat→StateT Qn Sem β}{Q:β→Qn→Prop}
  (h:∀k,Mg rk a b (out++b.extract j (j+k)) i (j+k)→(j+k<b.size→rR rk a i<rR rk b (j+k))→wpS (model prog w) A E s (f (some k)) Q st):wpS (model prog w) A E s (Wk a i >>= fun x=>gal true x b j (b.size-j) 0 >>= f) Q st:=by
 have g:=(qj (rk:=rk) hi).2;refine wt hi (bGal hc hk (T.am _ (by simp)) T.bm (by omega) (by omega) (fun p q h1 h2 h3=>T.ba p q (Qp _) h2 (by omega)) (fun q hq => ?_) fun k k1 k2 k3=>h k (m.appB T (j+k) (Qy _ _) (by omega) fun p h1 h2 _ => ?_) fun z => ?_)
 ·rw[←g];exact Wf (T.ne _ _ hi (by omega))
 ·have:=k2 (p-j) (by omega)
  rwa [show j+(p-j)=p by omega,←g]at this
 ·rw[g];exact k3 k (Zg _) (by omega)
structure Lo (rk:ZK→Nat) (a b:Array ZK) (n:Nat) (out:Array ZK) (i j:Nat):Prop where
 m:Mg rk a b out i j
 i1:i+1<a.size
 j1:j<b.size
 n1:n≤i+j
theorem Lo.i0 {n i j:Nat}{out:Array ZK}(l:Lo rk a b n out i j):i<a.size:=WR l.i1
theorem Lo.le {n k i j:Nat}{out:Array ZK}(l:Lo rk a b n out i j) (h:k≤n):Lo rk a b k out i j:=⟨l.m,l.i1,l.j1,Zt h l.n1⟩
theorem Lo.stB (T:Two a0 rk a b) {n i j:Nat}{out:Array ZK}(l:Lo rk a b n out i j) (q:rR rk b j<rR rk a i) (e:¬(j+1 == b.size)=true):Lo rk a b (n+1) (out.push (b[j]'l.j1)) i (j+1):=⟨l.m.pushB T l.j1 fun _=>q,l.i1,Qo l.j1 fun z=>e (beq_iff_eq.mpr z),JF l.n1⟩
theorem Lo.bD (T:Two a0 rk a b) {n i j:Nat}{out:Array ZK}(l:Lo rk a b n out i j) (q:rR rk b j<rR rk a i) (e:(j+1 == b.size)=true):Dn rk a b (out.push (b[j]'l.j1)++a.extract i a.size++b.extract (j+1) b.size):=(l.m.pushB T l.j1 fun _=>q).done T (.inr (beq_iff_eq.mp e))
theorem Lo.stA (T:Two a0 rk a b) {n i j:Nat}{out:Array ZK}(l:Lo rk a b n out i j) (q:rR rk a i<rR rk b j) (e:¬(i+1+1 == a.size)=true):Lo rk a b (n+1) (out.push (a[i]'l.i0)) (i+1) j:=⟨l.m.pushA T l.i0 fun _=>q,Qo l.i1 fun z=>e (beq_iff_eq.mpr z),l.j1,Zt (JF l.n1) (Yj (Nat.add_right_comm i j 1))⟩
theorem Lo.aD (T:Two a0 rk a b) {n i j:Nat}{out:Array ZK}(l:Lo rk a b n out i j) (q:rR rk a i<rR rk b j) (e:(i+1+1 == a.size)=true):Dn rk a b (out.push (a[i]'l.i0)++b.extract j b.size++a.extract (i+1) a.size):=(l.m.pushA T l.i0 fun _=>q).lastA T (beq_iff_eq.mp e)
section
variable {σ β ρ ζ X0 X1 X2 X3 X4 X5:Type}{M:Te}{Q:β→σ→Prop}{lo hi:Nat}{z:ζ}(g:ζ→σ) (R:ρ→ζ→Prop)
theorem zlb {f:Nat→Option ρ×X0×X1×X2×X3→StateT σ Sem (ForInStep (Option ρ×X0×X1×X2×X3))}{k:Option ρ×X0×X1×X2×X3→StateT σ Sem β}(N:X0×X1×X2×X3→ζ→Prop) (Y:Nat→X0×X1×X2×X3→ζ→Prop) {d:X0×X1×X2×X3}
  (h0:Y lo d z) (hs:∀i x0 x1 x2 x3 z,lo≤i→i<hi→Y i (x0,x1,x2,x3) z→wpS M A E s (f i (none,x0,x1,x2,x3)) (Out3 g R N (Y (i+1))) (g z)) (he:∀d z,Y (max lo hi) d z→N d z)
  (hr:∀r d z,R r z→wpS M A E s (k (some r,d)) Q (g z)) (hn:∀d z,N d z→wpS M A E s (k (none,d)) Q (g z)):wpS M A E s (Ba [lo:hi] ((none,d):Option ρ×X0×X1×X2×X3) f >>= k) Q (g z) :=
 bFor g R N Y h0 (fun i d z=>hs i d.1 d.2.1 d.2.2.1 d.2.2.2 z) he hr hn
theorem zlc {f:Nat→Option ρ×X0×X1×X2×X3×X4→StateT σ Sem (ForInStep (Option ρ×X0×X1×X2×X3×X4))}{k:Option ρ×X0×X1×X2×X3×X4→StateT σ Sem β}(N:X0×X1×X2×X3×X4→ζ→Prop) (Y:Nat→X0×X1×X2×X3×X4→ζ→Prop) {d:X0×X1×X2×X3×X4}
  (h0:Y lo d z) (hs:∀i x0 x1 x2 x3 x4 z,lo≤i→i<hi→Y i (x0,x1,x2,x3,x4) z→wpS M A E s (f i (none,x0,x1,x2,x3,x4)) (Out3 g R N (Y (i+1))) (g z)) (he:∀d z,Y (max lo hi) d z→N d z)
  (hr:∀r d z,R r z→wpS M A E s (k (some r,d)) Q (g z)) (hn:∀x0 x1 x2 x3 x4 z,N (x0,x1,x2,x3,x4) z→wpS M A E s (k (none,x0,x1,x2,x3,x4)) Q (g z)):wpS M A E s (Ba [lo:hi] ((none,d):Option ρ×X0×X1×X2×X3×X4) f >>= k) Q (g z) :=
 bFor g R N Y h0 (fun i d z=>hs i d.1 d.2.1 d.2.2.1 d.2.2.2.1 d.2.2.2.2 z) he hr fun d z=>hn d.1 d.2.1 d.2.2.1 d.2.2.2.1 d.2.2.2.2 z
theorem zld {f:Nat→Option ρ×X0×X1×X2×X3×X4×X5→StateT σ Sem (ForInStep (Option ρ×X0×X1×X2×X3×X4×X5))}{k:Option ρ×X0×X1×X2×X3×X4×X5→StateT σ Sem β}(N:X0×X1×X2×X3×X4×X5→ζ→Prop) (Y:Nat→X0×X1×X2×X3×X4×X5→ζ→Prop) {d:X0×X1×X2×X3×X4×X5}
  (h0:Y lo d z) (hs:∀i x0 x1 x2 x3 x4 x5 z,lo≤i→i<hi→Y i (x0,x1,x2,x3,x4,x5) z→wpS M A E s (f i (none,x0,x1,x2,x3,x4,x5)) (Out3 g R N (Y (i+1))) (g z)) (he:∀d z,Y (max lo hi) d z→N d z)
  (hr:∀r d z,R r z→wpS M A E s (k (some r,d)) Q (g z)) (hn:∀x0 x1 x2 x3 x4 x5 z,N (x0,x1,x2,x3,x4,x5) z→wpS M A E s (k (none,x0,x1,x2,x3,x4,x5)) Q (g z)):wpS M A E s (Ba [lo:hi] ((none,d):Option ρ×X0×X1×X2×X3×X4×X5) f >>= k) Q (g z) :=
 bFor g R N Y h0 (fun i d z=>hs i d.1 d.2.1 d.2.2.1 d.2.2.2.1 d.2.2.2.2.1 d.2.2.2.2.2 z) he hr fun d z=>hn d.1 d.2.1 d.2.2.1 d.2.2.2.1 d.2.2.2.2.1 d.2.2.2.2.2 z
end
theorem zmy (hc:CmpR prog w A E s a0 rk kd) {st:Qn}(hk:kindOf st=kd) (T:Two a0 rk a b) {Q:Array ZK→Qn→Prop}
  (h:∀out g,Dn rk a b out→Q out (sS st g)):wpS (model prog w) A E s (mLo a b) Q st:=by
 have b1:=T.b1;have a1:=T.a1;have m0:Mg rk a b #[b[0]'T.b1] 0 1:=Mg.pushB T ⟨by simp,Ek.nil,fun x hx=>by simp at hx,fun x hx=>by simp at hx,Qp _,Qp _⟩ T.b1 fun _=>T.fst;have kS:∀g,kindOf (sS st g)=kd:=fun _=>hk;have key:wpS (model prog w) A E s (mLo a b) Q (sS st (Rk st)):=by
  refine(show wpS _ _ _ _ (liftM (rule _) >>= _) _ _ from zeF ?_);refine(show wpS _ _ _ _ (Wk b 0 >>= _) _ _ from wt T.b1 ?_);refine(show wpS _ _ _ _ (ite _ _ _) _ _ from bIte (fun e => ?_) fun e => ?_)
  ·exact ZC (h _ _ (m0.done T (.inr (beq_iff_eq.mp e))))
  refine(show wpS _ _ _ _ (ite _ _ _) _ _ from bIte (fun e => ?_) fun e2 => ?_)
  ·exact ZC (h _ _ (m0.lastA T (beq_iff_eq.mp e)))
  refine(show wpS _ _ _ _ (get >>= _) _ _ from bGet ?_);have e:1<b.size:=Qo b1 fun z=>e (beq_iff_eq.mpr z);have e2:1<a.size:=Qo a1 fun z=>e2 (beq_iff_eq.mpr z);refine zlb (sS st) (fun r _=>Dn rk a b r) (fun _ _=>False) (fun x d _=>Lo rk a b (x+1) d.1 d.2.1 d.2.2.1) ⟨m0,e2,e,Zg 1⟩ ?_ ?_ (fun r _ g dn=>ZC (h r g dn)) fun _ _ h=>h.elim
  ·intro x out ia ib mg g _ _ l;have l:Lo rk a b (x+1) out ia ib:=l;refine zlc (sS st) (fun r _=>Dn rk a b r) (fun d _=>Lo rk a b (ia+ib+1) d.1 d.2.1 d.2.2.1) (fun y d _=>Lo rk a b (ia+ib+y) d.1 d.2.1 d.2.2.1) (show Lo rk a b (ia+ib+0) out ia ib from⟨l.m,l.i1,l.j1,Zg _⟩) ?_ ?_ (fun r _ g dn=>ZC (.ret dn)) ?_
   ·intro y out ia' ib' ac bc g _ _ l;have l:Lo rk a b (ia+ib+y) out ia' ib':=l;dsimp only;refine(show wpS _ _ _ _ (Wk b ib' >>= fun x=>Wk a ia' >>= fun y=>lt' x y >>= _) _ _ from bCmp hc T (kS _) l.j1 l.i0 (fun q => ?_) fun q => ?_)
    ·refine(show wpS _ _ _ _ (Wk b ib' >>= _) _ _ from wt l.j1 ?_);refine(show wpS _ _ _ _ (ite _ _ _) _ _ from bIte (fun e => ?_) fun e => ?_)
     ·exact ZC (.ret (l.bD T q e))
     refine(show wpS _ _ _ _ (ite _ _ _) _ _ from bIte (fun _ => ?_) fun _ => ?_)
     ·exact ZC (.brk ((l.stB T q e).le (JF (Qy _ _))))
     ·exact ZC (.yld (l.stB T q e))
    ·refine(show wpS _ _ _ _ (Wk a ia' >>= _) _ _ from wt l.i0 ?_);refine(show wpS _ _ _ _ (ite _ _ _) _ _ from bIte (fun e => ?_) fun e => ?_)
     ·exact ZC (.ret (l.aD T q e))
     refine(show wpS _ _ _ _ (ite _ _ _) _ _ from bIte (fun _ => ?_) fun _ => ?_)
     ·exact ZC (.brk ((l.stA T q e).le (JF (Qy _ _))))
     ·exact ZC (.yld (l.stA T q e))
   ·intro d _ l;exact Lo.le l (Jr (Zt a1 (Zt (Qy _ _) (Vz _ _))) (ia+ib))
   ·intro out2 ia2 ib2 ac bc g l2;refine(show wpS _ _ _ _ (liftM (rule _) >>= _) _ _ from zeF ?_);refine zld (sS st) (fun r _=>Dn rk a b r) (fun d _=>Lo rk a b (ia+ib+1) d.1 d.2.1 d.2.2.1) (fun _ d _=>Lo rk a b (ia+ib+1) d.1 d.2.1 d.2.2.1) l2 ?_ (fun _ _ h=>h) (fun r _ g dn=>ZC (.ret dn)) ?_
    ·clear l2;intro y out ia' ib' mg ac bc g _ _ l;have l:Lo rk a b (ia+ib+1) out ia' ib':=l;refine(show wpS _ _ _ _ (ite (mg>1) _ _) _ _ from ?_);dsimp only;generalize mg-1=mg1;apply iteS (x:=mg1) (y:=mg);intro g';refine(show wpS _ _ _ _ (modify _ >>= _) _ _ from bMod ?_);refine(show wpS _ _ _ _ (Wk b ib' >>= fun x=>gal false x a ia' (a.size-ia') 0 >>= _) _ (sS st g') from zmD hc T (kS _) l.m l.j1 l.i0 fun k m1 r1 => ?_);have o0:¬k>0→out++a.extract ia' (ia'+k)=out∧ia'+k=ia':=fun z=>by rw[Gm z];exact⟨wj _,rfl⟩
     have i1:ia'≤ia'+k:=Qy _ _;dsimp only;generalize out++a.extract ia' (ia'+k)=out1 at m1 o0;generalize ia'+k=ia1 at m1 r1 i1 o0;apply iteA (o:=out1) (i:=ia1) (o':=out) (i':=ia') (fun o i=>Mg rk a b o i ib'∧i+1<a.size∧rR rk b ib'<rR rk a i∧ia'≤i)
     ·exact fun _ e=>ZC (.ret (m1.lastA T (beq_iff_eq.mp e)))
     ·exact fun _ _ e=>ZC (.ret (m1.done T (.inl (beq_iff_eq.mp e))))
     ·intro _ e1 e2;have e2:ia1<a.size:=Qo m1.ia fun z=>e2 (beq_iff_eq.mpr z);exact⟨m1,Qo e2 fun z=>e1 (beq_iff_eq.mpr z),r1 e2,i1⟩
     ·intro e;obtain⟨rfl,rfl⟩:=o0 e;exact⟨m1,l.i1,r1 l.i0,Zg _⟩
     ·clear m1 r1 o0 i1;intro out2 ia2 gd;have lA:ia2<a.size:=WR gd.2.1;have m2:=gd.1.pushB T l.j1 fun _=>gd.2.2.1;refine(show wpS _ _ _ _ (Wk b ib' >>= _) _ _ from wt l.j1 ?_);refine(show wpS _ _ _ _ (ite _ _ _) _ _ from bIte (fun e => ?_) fun e => ?_)
      ·exact ZC (.ret (m2.done T (.inr (beq_iff_eq.mp e))))
      have j1:ib'+1<b.size:=Qo l.j1 fun z=>e (beq_iff_eq.mpr z);refine(show wpS _ _ _ _ (Wk a ia2 >>= fun x=>gal true x b (ib'+1) (b.size-(ib'+1)) 0 >>= _) _ _ from zmE hc T (kS _) m2 j1 lA fun k m3 r3 => ?_);have m4:=m3.pushA T lA r3;have p0:¬k>0→out2.push (b[ib']'l.j1)++b.extract (ib'+1) (ib'+1+k)=out2.push (b[ib']'l.j1)∧ib'+1+k=ib'+1:=fun z=>by rw[Gm z];exact⟨wj _,rfl⟩
      have i1:ib'+1≤ib'+1+k:=Qy _ _;dsimp only;generalize out2.push (b[ib']'l.j1)++b.extract (ib'+1) (ib'+1+k)=out3 at m3 m4 p0;generalize ib'+1+k=ib3 at m3 m4 r3 p0 i1;generalize out2.push (b[ib']'l.j1)=out4 at p0;generalize hq4:ib'+1=ib4 at p0 i1 j1;apply iteB (o:=out3) (i:=ib3) (o':=out4) (i':=ib4) (fun o i=>Mg rk a b (o.push (a[ia2]'lA)) (ia2+1) i∧i<b.size∧ib4≤i)
      ·exact fun _ e=>ZC (.ret (m3.done T (.inr (beq_iff_eq.mp e))))
      ·intro _ e;exact⟨m4,Qo m3.jb fun z=>e (beq_iff_eq.mpr z),i1⟩
      ·intro e;obtain⟨rfl,rfl⟩:=p0 e;exact⟨m4,j1,Zg _⟩
      ·intro out5 ib5 gd5;refine(show wpS _ _ _ _ (Wk a ia2 >>= _) _ _ from wt lA ?_);refine(show wpS _ _ _ _ (ite _ _ _) _ _ from bIte (fun e => ?_) fun e => ?_)
       ·exact ZC (.ret (gd5.1.lastA T (beq_iff_eq.mp e)))
       have L:Lo rk a b (ia+ib+1) (out5.push (a[ia2]'lA)) (ia2+1) ib5:=⟨gd5.1,Qo gd.2.1 fun z=>e (beq_iff_eq.mpr z),gd5.2.1,Zt l.n1 (Kg (Du gd.2.2.2) (Zt (hq4▸Yw ib') gd5.2.2))⟩
       refine(show wpS _ _ _ _ (ite _ _ _) _ _ from bIte (fun _ => ?_) fun _ => ?_)
       ·exact ZC (.brk L)
       ·exact ZC (.yld L)
    ·intro out3 ia3 ib3 mg ac bc g l3;refine(show wpS _ _ _ _ (modify _ >>= _) _ _ from bMod ?_);exact ZC (.yld (z:=mg+1) (Lo.le l3 (JF l.n1)))
  ·intro d _ l;exact Vc _ (Jj (Zt (Zt (Vz 0 _) (Yw _)) (Lo.n1 l)) (Nat.add_lt_add (Lo.i0 l) (Lo.j1 l)))
 rwa [zgB]at key
end
end L2.Y
namespace L2.Y
open PySem PyProof.Rows
section
variable {prog:Qc}{w:QG}{A:QB}{E:Za→Zf→Prop}{s:Zf}{a0:Array ZK}{rk:ZK→Nat}{kd:KN}{a b:Array ZK}
structure Mh (rk:ZK→Nat) (a b out:Array ZK) (i j:Nat):Prop where
 perm:out.toList.Perm (a.toList.drop i++b.toList.drop j)
 ris:Rg rk out.toList.reverse
 la:∀x∈out.toList,∀k,k<i→rR rk a k<rk x
 lb:∀x∈out.toList,∀k,k<j→rR rk b k<rk x
 ia:i≤a.size
 jb:j≤b.size
theorem vP {α:Type}{l:List α}{i:Nat}{x:α}(h:l[i]?=some x):l.drop i=x::l.drop (i+1):=by
 obtain⟨h1,h2⟩:=Qa.mp h;rw[VH h1,h2]
theorem Mh.pushA {out:Array ZK}{i j:Nat}(T:Two a0 rk a b) (m:Mh rk a b out (i+1) j) (h:i<a.size) (l:0<j→rR rk b (j-1)<rR rk a i):Mh rk a b (out.push a[i]) i j:=by
 have g:=qj (rk:=rk) h;have e:(out.push a[i]).toList=out.toList++[a[i]]:=VR;have jb:=m.jb;refine⟨?_,?_,fun x hx k h1 => ?_,fun x hx k h1 => ?_,by omega,m.jb⟩
 ·rw[e,vP (l:=a.toList) (i:=i) (x:=a[i]) (by simp[h])];exact Gr.trans (m.perm.cons _)
 ·unfold Rg;rw[e,RX];refine Up.mpr ⟨by simp,m.ris,fun x hx y hy => ?_⟩;rw[show x=a[i] by simpa using hx,←g.2];exact m.la y (DK.mp hy) i (by omega)
 ·rw[e]at hx;rcases ZW.mp hx with hx | hx
  ·exact m.la x hx k (by omega)
  ·rw[Zw.mp hx,←g.2];exact T.aa k i (Qp _) h1 h
 ·rw[e]at hx;rcases ZW.mp hx with hx | hx
  ·exact m.lb x hx k h1
  ·rw[Zw.mp hx,←g.2]
   by_cases q:k=j-1
   ·rw[q];exact l (by omega)
   ·exact Jb (T.ba k (j-1) (Qp _) (by omega) (by omega)) (l (by omega))
theorem Mh.pushB {out:Array ZK}{i j:Nat}(T:Two a0 rk a b) (m:Mh rk a b out i (j+1)) (h:j<b.size) (l:0<i→rR rk a (i-1)<rR rk b j):Mh rk a b (out.push b[j]) i j:=by
 have g:=qj (rk:=rk) h;have e:(out.push b[j]).toList=out.toList++[b[j]]:=VR;have ia:=m.ia;refine⟨?_,?_,fun x hx k h1 => ?_,fun x hx k h1 => ?_,m.ia,by omega⟩
 ·rw[e,vP (l:=b.toList) (i:=j) (x:=b[j]) (by simp[h])];exact Gr.trans ((m.perm.cons _).trans Dz.symm)
 ·unfold Rg;rw[e,RX];refine Up.mpr ⟨by simp,m.ris,fun x hx y hy => ?_⟩;rw[show x=b[j] by simpa using hx,←g.2];exact m.lb y (DK.mp hy) j (by omega)
 ·rw[e]at hx;rcases ZW.mp hx with hx | hx
  ·exact m.la x hx k h1
  ·rw[Zw.mp hx,←g.2]
   by_cases q:k=i-1
   ·rw[q];exact l (by omega)
   ·exact Jb (T.aa k (i-1) (Qp _) (by omega) (by omega)) (l (by omega))
 ·rw[e]at hx;rcases ZW.mp hx with hx | hx
  ·exact m.lb x hx k (by omega)
  ·rw[Zw.mp hx,←g.2];exact T.ba k j (Qp _) h1 h
theorem zdw {xs:Array ZK}{e i:Nat}(hi:e<i) (h:i≤xs.size) (out:Array ZK):out++(xs.extract e i).reverse=(out++(xs.extract (e+1) i).reverse).push (xs[e]'(by omega)):=by
 apply Yb.mp;rw[VR,Wj,Wj,WX,WX,Ve,Ve,Jy,Jy,QW];congr 1;rw[vP (l:=xs.toList) (i:=e) (x:=xs[e]'(by omega)) (by simp),show i-e=(i-(e+1))+1 by omega,List.take_succ_cons,List.reverse_cons]
theorem zdx {xs:Array ZK}{i:Nat}(out:Array ZK):out++(xs.extract i i).reverse=out:=by
 apply Yb.mp;rw[Wj,WX,Ve,Jy];simp
theorem Mh.appA (T:Two a0 rk a b) {i j:Nat}:∀(d:Nat) {out:Array ZK},Mh rk a b out i j→d≤i→(∀k,i-d≤k→k<i→0<j→rR rk b (j-1)<rR rk a k)→Mh rk a b (out++(a.extract (i-d) i).reverse) (i-d) j
 | 0,out,m,_,_=>by rw[Bu,zdx];exact m
 | d+1,out,m,h,l=>by
  have ia:=m.ia;have:=Mh.appA T d m (by omega) fun k h1 h2 h3=>l k (by omega) h2 h3;rw[zdw (by omega) m.ia];rw[show i-d=i-(d+1)+1 by omega]at this;exact this.pushA T (by omega) fun hj=>l _ (by omega) (by omega) hj
theorem Mh.appB (T:Two a0 rk a b) {i j:Nat}:∀(d:Nat) {out:Array ZK},Mh rk a b out i j→d≤j→(∀k,j-d≤k→k<j→0<i→rR rk a (i-1)<rR rk b k)→Mh rk a b (out++(b.extract (j-d) j).reverse) i (j-d)
 | 0,out,m,_,_=>by rw[Bu,zdx];exact m
 | d+1,out,m,h,l=>by
  have jb:=m.jb;have:=Mh.appB T d m (by omega) fun k h1 h2 h3=>l k (by omega) h2 h3;rw[zdw (by omega) m.jb];rw[show j-d=j-(d+1)+1 by omega]at this;exact this.pushB T (by omega) fun hj=>l _ (by omega) (by omega) hj
theorem Mh.dn {out:Array ZK}(m:Mh rk a b out 0 0):Dn rk a b out.reverse:=⟨by
 have:=m.perm;rw[GD,GD]at this;rw[WX];exact(List.reverse_perm _).trans this,by rw[WX];exact m.ris⟩
theorem Mh.done (T:Two a0 rk a b) {out:Array ZK}{i j:Nat}(m:Mh rk a b out i j) (h:i=0∨j=0):Dn rk a b (a.extract 0 i++b.extract 0 j++out.reverse):=by
 have m1:=m.appB T j (Zg _) fun k h1 h2 h3=>by omega
 rw[Yi]at m1;have m2:=m1.appA T i (Zg _) fun k h1 h2 h3=>by omega
 rw[Yi]at m2;have:=m2.dn;rw[Ul,Ul,YX,YX,←UT]at this;exact this
theorem Mh.firstB (T:Two a0 rk a b) {out:Array ZK}{i j:Nat}(m:Mh rk a b out i j) (h:j=1):Dn rk a b (b.extract 0 j++a.extract 0 i++out.reverse):=by
 have ia:=m.ia;have m1:=m.appA T i (Zg _) fun k h1 h2 h3=>by
  have l:=T.fst;rw[show j-1=0 by omega]
  by_cases q:k=0
  ·rw[q];exact l
  ·exact Jb l (T.aa 0 k (Zg _) (by omega) (by omega))
 rw[Yi]at m1;have m2:=m1.appB T j (Zg _) fun k h1 h2 h3=>by omega
 rw[Yi]at m2;have:=m2.dn;rw[Ul,Ul,YX,YX,←UT]at this;exact this
theorem Mh.pA (T:Two a0 rk a b) {out:Array ZK}{i j:Nat}(m:Mh rk a b out i j) (h:0<i) (hi:i-1<a.size) (l:0<j→rR rk b (j-1)<rR rk a (i-1)):Mh rk a b (out.push (a[i-1]'hi)) (i-1) j:=(show Mh rk a b out (i-1+1) j by rw[Di h];exact m).pushA T hi l
theorem Mh.pB (T:Two a0 rk a b) {out:Array ZK}{i j:Nat}(m:Mh rk a b out i j) (h:0<j) (hj:j-1<b.size) (l:0<i→rR rk a (i-1)<rR rk b (j-1)):Mh rk a b (out.push (b[j-1]'hj)) i (j-1):=(show Mh rk a b out i (j-1+1) by rw[Di h];exact m).pushB T hj l
theorem zmF {β:Type}(hc:CmpR prog w A E s a0 rk kd) (T:Two a0 rk a b) {st:Qn}(hk:kindOf st=kd) {out:Array ZK}{i j:Nat}(m:Mh rk a b out i j) (hj:j-1<b.size) (h0:0<i) {f:Option Nat→StateT Qn Sem β}{Q:β→Qn→Prop}
  (h:∀k,k≤i→Mh rk a b (out++(a.extract k i).reverse) k j→(0<k→rR rk a (k-1)<rR rk b (j-1))→wpS (model prog w) A E s (f (some k)) Q st):wpS (model prog w) A E s (Wk b (j-1) >>= fun x=>gal false x a 0 i (i-1) >>= f) Q st:=by
 have g:=(qj (rk:=rk) hj).2;have ia:=m.ia;refine wt hj (bGal hc hk (T.bm _ (by simp)) T.am (by omega) (by omega) (fun p q h1 h2 h3=>T.aa p q h1 h2 (by omega)) (fun q hq => ?_) fun k k1 k2 k3=>h k k1 ?_ fun z => ?_)
 ·rw[←g,QH];exact T.ne _ _ (by omega) hj
 ·have m1:=m.appA T (i-k) (Wx _ _) fun p h1 h2 _=>by
   have:=k3 p (by omega) h2
   rwa [←g,QH]at this
  rwa [show i-(i-k)=k by omega]at m1
 ·have:=k2 (k-1) (by omega)
  rwa [←g,QH]at this
theorem zmG {β:Type}(hc:CmpR prog w A E s a0 rk kd) (T:Two a0 rk a b) {st:Qn}(hk:kindOf st=kd) {out:Array ZK}{i j:Nat}(m:Mh rk a b out i j) (hi:i-1<a.size) (h0:0<j) {f:Option Nat→StateT Qn Sem β}{Q:β→Qn→Prop}
  (h:∀k,k≤j→Mh rk a b (out++(b.extract k j).reverse) i k→(0<k→rR rk b (k-1)<rR rk a (i-1))→wpS (model prog w) A E s (f (some k)) Q st):wpS (model prog w) A E s (Wk a (i-1) >>= fun x=>gal true x b 0 j (j-1) >>= f) Q st:=by
 have g:=(qj (rk:=rk) hi).2;have jb:=m.jb;refine wt hi (bGal hc hk (T.am _ (by simp)) T.bm (by omega) (by omega) (fun p q h1 h2 h3=>T.ba p q h1 h2 (by omega)) (fun q hq => ?_) fun k k1 k2 k3=>h k k1 ?_ fun z => ?_)
 ·rw[←g,QH];exact Wf (T.ne _ _ hi (by omega))
 ·have m1:=m.appB T (j-k) (Wx _ _) fun p h1 h2 _=>by
   have:=k3 p (by omega) h2
   rwa [←g,QH]at this
  rwa [show j-(j-k)=k by omega]at m1
 ·have:=k2 (k-1) (by omega)
  rwa [←g,QH]at this
structure Hi (rk:ZK→Nat) (a b:Array ZK) (S n:Nat) (out:Array ZK) (i j:Nat):Prop where
 m:Mh rk a b out i j
 i1:0<i
 j1:1<j
 n1:i+j+n≤S
theorem Hi.ia {S n i j:Nat}{out:Array ZK}(l:Hi rk a b S n out i j):i-1<a.size:=Zo (Be l.i1 WK) l.m.ia
theorem Hi.j0 {S n i j:Nat}{out:Array ZK}(l:Hi rk a b S n out i j):0<j:=WR l.j1
theorem Hi.jb {S n i j:Nat}{out:Array ZK}(l:Hi rk a b S n out i j):j-1<b.size:=Zo (Be l.j0 WK) l.m.jb
theorem Hi.le {S n k i j:Nat}{out:Array ZK}(l:Hi rk a b S n out i j) (h:k≤n):Hi rk a b S k out i j:=⟨l.m,l.i1,l.j1,Zt (Jr h _) l.n1⟩
theorem Hi.next {S n i j i' j' : Nat}{out out' : Array ZK}(l:Hi rk a b S n out i j) (l' : Hi rk a b (i+j) 1 out' i' j'):Hi rk a b S (n+1) out' i' j':=⟨l'.m,l'.i1,l'.j1,by have:=l.n1;have:=l'.n1;omega⟩
theorem Hi.stA (T:Two a0 rk a b) {S n i j:Nat}{out:Array ZK}(l:Hi rk a b S n out i j) (q:rR rk b (j-1)<rR rk a (i-1)) (e:¬(i-1 == 0)=true):Hi rk a b S (n+1) (out.push (a[i-1]'l.ia)) (i-1) j:=⟨l.m.pA T l.i1 l.ia fun _=>q,Bf fun z=>e (beq_iff_eq.mpr z),l.j1,by have:=l.n1;have:=l.i1;omega⟩
theorem Hi.aD (T:Two a0 rk a b) {S n i j:Nat}{out:Array ZK}(l:Hi rk a b S n out i j) (q:rR rk b (j-1)<rR rk a (i-1)) (e:(i-1 == 0)=true):Dn rk a b (a.extract 0 (i-1)++b.extract 0 j++(out.push (a[i-1]'l.ia)).reverse):=(l.m.pA T l.i1 l.ia fun _=>q).done T (.inl (beq_iff_eq.mp e))
theorem Hi.stB (T:Two a0 rk a b) {S n i j:Nat}{out:Array ZK}(l:Hi rk a b S n out i j) (q:rR rk a (i-1)<rR rk b (j-1)) (e:¬(j-1 == 1)=true):Hi rk a b S (n+1) (out.push (b[j-1]'l.jb)) i (j-1):=⟨l.m.pB T l.j0 l.jb fun _=>q,l.i1,by have:¬j-1=1:=fun z=>e (beq_iff_eq.mpr z);have:=l.j1;omega,by have:=l.n1;have:=l.j1;omega⟩
theorem Hi.bD (T:Two a0 rk a b) {S n i j:Nat}{out:Array ZK}(l:Hi rk a b S n out i j) (q:rR rk a (i-1)<rR rk b (j-1)) (e:(j-1 == 1)=true):Dn rk a b (b.extract 0 (j-1)++a.extract 0 i++(out.push (b[j-1]'l.jb)).reverse):=(l.m.pB T l.j0 l.jb fun _=>q).firstB T (beq_iff_eq.mp e)
theorem zmx (hc:CmpR prog w A E s a0 rk kd) {st:Qn}(hk:kindOf st=kd) (T:Two a0 rk a b) {Q:Array ZK→Qn→Prop}
  (h:∀out g,Dn rk a b out→Q out (sS st g)):wpS (model prog w) A E s (mHi a b) Q st:=by
 have a1:=T.a1;have b1:=T.b1;have la:a.size-1<a.size:=by omega
 have m0:Mh rk a b #[a[a.size-1]'la] (a.size-1) b.size:=Mh.pA T (out:=#[]) (i:=a.size) ⟨by
   rw[TX (by simp),TX (by simp)];simp,Ek.nil,fun x hx=>by simp at hx,fun x hx=>by simp at hx,Zg _,Zg _⟩ a1 la fun _=>T.lst
 have kS:∀g,kindOf (sS st g)=kd:=fun _=>hk;have key:wpS (model prog w) A E s (mHi a b) Q (sS st (Rk st)):=by
  refine(show wpS _ _ _ _ (liftM (rule _) >>= _) _ _ from zeF (show wpS _ _ _ _ (Wk a (a.size-1) >>= _) _ _ from wt la (show wpS _ _ _ _ (ite _ _ _) _ _ from bIte (fun e=>ZC (h _ _ (m0.done T (.inl (beq_iff_eq.mp e))))) fun e=>(show wpS _ _ _ _ (ite _ _ _) _ _ from bIte (fun e=>ZC (h _ _ (m0.firstB T (beq_iff_eq.mp e)))) fun e2=>(show wpS _ _ _ _ (get >>= _) _ _ from bGet ?_)))));have e:¬a.size-1=0:=fun z=>e (beq_iff_eq.mpr z);have e2:¬b.size=1:=fun z=>e2 (beq_iff_eq.mpr z);refine zlb (sS st) (fun r _=>Dn rk a b r) (fun _ _=>False) (fun x d _=>Hi rk a b (a.size+b.size) (x+1) d.2.2.1 d.1 d.2.1) ⟨m0,show 0<a.size-1 by omega,show 1<b.size by omega,show a.size-1+b.size+(0+1)≤a.size+b.size by omega⟩ ?_ ?_ (fun r _ g dn=>ZC (h r g dn)) fun _ _ h=>h.elim
  ·intro x na nb out mg g _ _ l;have l:Hi rk a b (a.size+b.size) (x+1) out na nb:=l;refine zlc (sS st) (fun r _=>Dn rk a b r) (fun d _=>Hi rk a b (na+nb) 1 d.2.2.1 d.1 d.2.1) (fun y d _=>Hi rk a b (na+nb) y d.2.2.1 d.1 d.2.1) (show Hi rk a b (na+nb) 0 out na nb from⟨l.m,l.i1,l.j1,Zg _⟩) ?_ ?_ (fun r _ g dn=>ZC (.ret dn)) ?_
   ·intro y na' nb' out ac bc g _ _ l;have l:Hi rk a b (na+nb) y out na' nb':=l;refine(show wpS _ _ _ _ (Wk b (nb'-1) >>= fun x=>Wk a (na'-1) >>= fun y=>lt' x y >>= _) _ _ from bCmp hc T (kS _) l.jb l.ia (fun q => ?_) fun q => ?_)
    ·exact(show wpS _ _ _ _ (Wk a (na'-1) >>= _) _ _ from wt l.ia (show wpS _ _ _ _ (ite _ _ _) _ _ from bIte (fun e=>ZC (.ret (l.aD T q e))) fun e=>(show wpS _ _ _ _ (ite _ _ _) _ _ from bIte (fun _=>ZC (.brk ((l.stA T q e).le (JF (Qp _))))) fun _=>ZC (.yld (l.stA T q e)))))
    ·exact(show wpS _ _ _ _ (Wk b (nb'-1) >>= _) _ _ from wt l.jb (show wpS _ _ _ _ (ite _ _ _) _ _ from bIte (fun e=>ZC (.ret (l.bD T q e))) fun e=>(show wpS _ _ _ _ (ite _ _ _) _ _ from bIte (fun _=>ZC (.brk ((l.stB T q e).le (JF (Qp _))))) fun _=>ZC (.yld (l.stB T q e)))))
   ·intro d _ l;exact Hi.le l (show 1≤max 0 (a.size+b.size) by omega)
   ·intro na2 nb2 out2 ac bc g l2;refine(show wpS _ _ _ _ (liftM (rule _) >>= _) _ _ from zeF (zld (sS st) (fun r _=>Dn rk a b r) (fun d _=>Hi rk a b (na+nb) 1 d.2.2.1 d.1 d.2.1) (fun _ d _=>Hi rk a b (na+nb) 1 d.2.2.1 d.1 d.2.1) l2 ?_ (fun _ _ h=>h) (fun r _ g dn=>ZC (.ret dn)) ?_))
    ·clear l2;intro y na' nb' out mg ac bc g _ _ l;have l:Hi rk a b (na+nb) 1 out na' nb':=l;refine(show wpS _ _ _ _ (ite (mg>1) _ _) _ _ from ?_);dsimp only;generalize mg-1=mg1;apply iteS (x:=mg1) (y:=mg);intro g';refine(show wpS _ _ _ _ (modify _ >>= _) _ _ from bMod (show wpS _ _ _ _ (Wk b (nb'-1) >>= fun x=>gal false x a 0 na' (na'-1) >>= _) _ (sS st g') from zmF hc T (kS _) l.m l.jb l.i1 fun at1 k1 m1 r1 => ?_));have i0:¬na'-at1>0→at1=na':=fun z=>by omega
     dsimp only;generalize out++(a.extract at1 na').reverse=out1 at m1;generalize na'-at1=kk1 at i0;apply iteB (o:=out1) (i:=at1) (o':=out) (i':=na') (fun o i=>Mh rk a b o i nb'∧0<i∧(0<i→rR rk a (i-1)<rR rk b (nb'-1))∧i≤na')
     ·exact fun _ e=>ZC (.ret (m1.done T (.inl (beq_iff_eq.mp e))))
     ·exact fun _ e=>⟨m1,Bf fun z=>e (beq_iff_eq.mpr z),r1,k1⟩
     ·intro e;rw[i0 e]at r1;exact⟨l.m,l.i1,r1,Zg _⟩
     ·clear m1 r1 i0 k1;intro out2 na2 gd;have lA:na2-1<a.size:=Zo (Be gd.2.1 WK) gd.1.ia;have m2:=gd.1.pB T l.j0 l.jb gd.2.2.1;have n1:=l.n1;have n2:=gd.2.2.2;have n3:=l.j1;refine(show wpS _ _ _ _ (Wk b (nb'-1) >>= _) _ _ from wt l.jb (show wpS _ _ _ _ (ite _ _ _) _ _ from bIte (fun e=>ZC (.ret (m2.firstB T (beq_iff_eq.mp e)))) fun e=>(show wpS _ _ _ _ (Wk a (na2-1) >>= fun x=>gal true x b 0 (nb'-1) (nb'-1-1) >>= _) _ _ from zmG hc T (kS _) m2 lA (by omega) fun at2 k1 m3 r3 => ?_)));have e:1<nb'-1:=by have:¬nb'-1=1:=fun z=>e (beq_iff_eq.mpr z);omega
      have j0:¬nb'-1-at2>0→at2=nb'-1:=fun z=>by omega
      have q4:nb'-1<nb':=by omega
      dsimp only;generalize out2.push (b[nb'-1]'l.jb)++(b.extract at2 (nb'-1)).reverse=out3 at m3;generalize out2.push (b[nb'-1]'l.jb)=out4 at m2;generalize nb'-1-at2=kk2 at j0;generalize nb'-1=nb4 at j0 m2 k1 q4 e;apply iteA (o:=out3) (i:=at2) (o':=out4) (i':=nb4) (fun o i=>Mh rk a b o na2 i∧1<i∧(0<i→rR rk b (i-1)<rR rk a (na2-1))∧i≤nb4)
      ·exact fun _ e=>ZC (.ret (m3.firstB T (beq_iff_eq.mp e)))
      ·exact fun _ _ e=>ZC (.ret (m3.done T (.inr (beq_iff_eq.mp e))))
      ·intro _ e e';have e:¬at2=1:=fun z=>e (beq_iff_eq.mpr z);have e' : ¬at2=0:=fun z=>e' (beq_iff_eq.mpr z);exact⟨m3,by omega,r3,k1⟩
      ·intro z;rw[j0 z]at r3;exact⟨m2,e,r3,Zg _⟩
      ·intro out5 nb5 gd5;have n4:=gd5.2.2.2;have m4:=gd5.1.pA T gd.2.1 lA gd5.2.2.1;refine(show wpS _ _ _ _ (Wk a (na2-1) >>= _) _ _ from wt lA (show wpS _ _ _ _ (ite _ _ _) _ _ from bIte (fun e=>ZC (.ret (m4.done T (.inl (beq_iff_eq.mp e))))) fun e => ?_));have L:Hi rk a b (na+nb) 1 (out5.push (a[na2-1]'lA)) (na2-1) nb5:=⟨m4,Bf fun z=>e (beq_iff_eq.mpr z),gd5.2.1,by omega⟩
       exact(show wpS _ _ _ _ (ite _ _ _) _ _ from bIte (fun _=>ZC (.brk L)) fun _=>ZC (.yld L))
    ·intro na3 nb3 out3 mg ac bc g l3;exact(show wpS _ _ _ _ (modify _ >>= _) _ _ from bMod (ZC (.yld (z:=mg+1) (l.next l3))))
  ·intro d _ l;have n1:=Hi.n1 l;omega
 rwa [zgB]at key
end
end L2.Y
namespace L2.Y
open PySem PyProof.Rows
section
variable {prog:Qc}{w:QG}{A:QB}{E:Za→Zf→Prop}{s:Zf}{a0:Array ZK}{rk:ZK→Nat}{kd:KN}
noncomputable def wrt (xs:Array ZK) (p:Nat) (ms:List ZK):Array ZK:=(ms.zipIdx).foldl (fun a (q:ZK×Nat)=>a.setIfInBounds (p+q.2) q.1) xs
theorem zjr:∀(ms:List ZK) (k:Nat) (xs:Array ZK) (p:Nat) (j:Nat),((ms.zipIdx k).foldl (fun a (q:ZK×Nat)=>a.setIfInBounds (p+q.2) q.1) xs)[j]?=if p+k≤j∧j<p+k+ms.length∧j<xs.size then ms[j-(p+k)]? else xs[j]?
 | [],k,xs,p,j=>by
  rw[if_neg (by simp;omega)];rfl
 | m::ms,k,xs,p,j=>by
  rw[BL,Gn,zjr ms (k+1) _ p j,LK,Array.getElem?_setIfInBounds,Zz]
  by_cases h1:p+(k+1)≤j∧j<p+(k+1)+ms.length∧j<xs.size
  ·rw[if_pos h1,if_pos (by omega),show j-(p+k)=(j-(p+(k+1)))+1 by omega,List.getElem?_cons_succ]
  ·rw[if_neg h1]
   by_cases h2:p+k=j
   ·rw[if_pos h2]
    by_cases h3:j<xs.size
    ·rw[if_pos (h2▸h3),if_pos (by omega),show j-(p+k)=0 by omega];rfl
    ·rw[if_neg (h2▸h3),if_neg (by omega)];exact(Yz (by omega)).symm
   ·rw[if_neg h2,if_neg (by omega)]
theorem zg7 (xs:Array ZK) (p:Nat) (ms:List ZK) (j:Nat):(wrt xs p ms)[j]?=if p≤j∧j<p+ms.length∧j<xs.size then ms[j-p]? else xs[j]?:=by
 have:=zjr ms 0 xs p j;rw[Sx]at this;exact this
theorem ziT {xs:Array ZK}{p:Nat}{ms:List ZK}(h:p+ms.length≤xs.size):(wrt xs p ms).toList=xs.toList.take p++ms++xs.toList.drop (p+ms.length):=by
 apply Vt;intro j;have lx:xs.toList.length=xs.size:=Qh;rw[QS,zg7,QW,RK,Jt,lx]
 by_cases h1:j<p
 ·rw[if_neg (by omega),if_pos (by omega),Tg h1,QS]
 ·rw[if_neg (c:=j<min p xs.size) (by omega),RK,show min p xs.size=p by omega]
  by_cases h2:j-p<ms.length
  ·rw[if_pos (by omega),if_pos h2]
  ·rw[if_neg (by omega),if_neg h2,Ew,QS];congr 1;omega
theorem zaG {xs:Array ZK}{i e:Nat}{x:ZK}(he:e≤xs.size) (h:x∈(xs.extract i e).toList):∃k,i≤k∧k<e∧rk x=rR rk xs k∧x∈xs.toList:=by
 obtain⟨j,hj⟩:=List.mem_iff_getElem?.mp h;rw[QS,TF]at hj
 by_cases q:j<min e xs.size-i
 ·rw[if_pos q]at hj;refine⟨i+j,by omega,by omega,?_,Rw.mpr (Array.mem_of_getElem? hj)⟩;unfold rR;rw[hj]
 ·rw[if_neg q]at hj;cases hj
theorem zje {xs:Array ZK}{i e k:Nat}(he:e≤xs.size) (hk:i+k<e):rR rk (xs.extract i e) k=rR rk xs (i+k):=by
 refine zbI ?_;rw[TF,if_pos (by omega)]
theorem vh {xs:Array ZK}{i e:Nat}(he:e≤xs.size):(xs.extract i e).size=e-i:=by rw[Array.size_extract];omega
structure Mgd (rk:ZK→Nat) (xs ys:Array ZK) (sa na nb:Nat):Prop where
 perm:ys.Perm xs
 asc:Asc rk ys sa (sa+na+nb)
 out:∀k,k<sa∨sa+na+nb≤k→rR rk ys k=rR rk xs k
theorem zfX {xs m:Array ZK}{sa na nb k nb' : Nat}(h1:sa+na+nb≤xs.size) (hk:k<na) (hb:1≤nb') (hb2:nb'≤nb) (asA:Asc rk xs sa (sa+na)) (asB:Asc rk xs (sa+na) (sa+na+nb))
  (k2:∀i,i<k→rR rk xs (sa+i)<rR rk xs (sa+na)) (b3:∀i,nb'≤i→i<nb→rR rk xs (sa+na-1)<rR rk xs (sa+na+i)) (dn:Dn rk (xs.extract (sa+k) (sa+na)) (xs.extract (sa+na) (sa+na+nb')) m) :
  Mgd rk xs (wrt xs (sa+k) m.toList) sa na nb:=by
 obtain⟨pm,rg⟩:=dn;have z1:(xs.extract (sa+k) (sa+na)).size=na-k:=by rw[vh (by omega)];omega
 have z2:(xs.extract (sa+na) (sa+na+nb')).size=nb':=by rw[vh (by omega)];omega
 have ml:m.toList.length=na-k+nb':=by rw[pm.length_eq,Zx,Qh,Qh,z1,z2]
 have el:(xs.extract (sa+k) (sa+na)).toList++(xs.extract (sa+na) (sa+na+nb')).toList=(xs.toList.drop (sa+k)).take (na-k+nb'):=by
  rw[Ve,Ve,Jy,Jy,List.take_add,Hk];congr 2
  ·omega
  ·omega
  ·congr 1;omega
 have wl:=ziT (xs:=xs) (p:=sa+k) (ms:=m.toList) (by omega);have wg:∀j,rR rk (wrt xs (sa+k) m.toList) j=if sa+k≤j∧j<sa+na+nb' then rR rk m (j-(sa+k)) else rR rk xs j:=fun j=>by
  have:=zg7 xs (sa+k) m.toList j
  by_cases q:sa+k≤j∧j<sa+na+nb'
  ·rw[if_pos (by omega),QS]at this;rw[if_pos q];exact zbI this
  ·rw[if_neg (by omega)]at this;rw[if_neg q];exact zbI this
 have mem:∀j,j<na-k+nb'→∃q,sa+k≤q∧q<sa+na+nb'∧rR rk m j=rR rk xs q:=fun j hj=>by
  have hj' : j<m.size:=by rw[←Qh];omega
  have hm:=pm.mem_iff.mp (show m[j]∈m.toList by simp);rw[(qj (rk:=rk) hj').2];rcases ZW.mp hm with hm | hm
  ·obtain⟨q,a,b,c,_⟩:=zaG (rk:=rk) (by omega) hm;exact⟨q,by omega,by omega,c⟩
  ·obtain⟨q,a,b,c,_⟩:=zaG (rk:=rk) (by omega) hm;exact⟨q,by omega,by omega,c⟩
 refine⟨?_,fun p q hp hpq hq => ?_,fun j hj => ?_⟩
 ·refine VB.mpr ?_;rw[wl];have e0:xs.toList=xs.toList.take (sa+k)++(xs.toList.drop (sa+k)).take (na-k+nb')++xs.toList.drop (sa+k+m.toList.length):=by
   rw[ml,QW,←Hk (i:=na-k+nb') (j:=sa+k),WM,WM]
  refine DW.trans ?_ (List.Perm.of_eq e0.symm);refine List.Perm.append_right _ (Lk _ ?_);rw[←el];exact pm
 ·rw[wg,wg];have lowA:∀i,sa≤i→i<sa+k→∀q,sa+k≤q→q<sa+na+nb→rR rk xs i<rR rk xs q:=fun i h1 h2 q h3 h4=>by
   by_cases z:q<sa+na
   ·exact asA i q h1 (by omega) z
   ·have:=k2 (i-sa) (by omega);rw[show sa+(i-sa)=i by omega]at this
    by_cases z2:q=sa+na
    ·rw[z2];exact this
    ·exact Jb this (asB _ q (Zg _) (by omega) h4)
  have highB:∀q,sa+k≤q→q<sa+na+nb'→∀i,sa+na+nb'≤i→i<sa+na+nb→rR rk xs q<rR rk xs i:=fun q h1 h2 i h3 h4=>by
   by_cases z:q<sa+na
   ·have:=b3 (i-(sa+na)) (by omega) (by omega);rw[show sa+na+(i-(sa+na))=i by omega]at this
    by_cases z2:q=sa+na-1
    ·rw[z2];exact this
    ·exact Jb (asA q (sa+na-1) (by omega) (by omega) (by omega)) this
   ·exact asB q i (by omega) (by omega) h4
  by_cases p1:sa+k≤p∧p<sa+na+nb'
  ·rw[if_pos p1]
   by_cases q1:sa+k≤q∧q<sa+na+nb'
   ·rw[if_pos q1];have i1:p-(sa+k)<m.size:=by rw[←Qh];omega
    have i2:q-(sa+k)<m.size:=by rw[←Qh];omega
    rw[(qj (rk:=rk) i1).2,(qj (rk:=rk) i2).2];have:=VG.mp rg (p-(sa+k)) (q-(sa+k)) (by rw[Qh];exact i1) (by rw[Qh];exact i2) (by omega);simpa using this
   ·rw[if_neg q1];obtain⟨r,r1,r2,r3⟩:=mem (p-(sa+k)) (by omega);rw[r3];exact highB r r1 r2 q (by omega) hq
  ·rw[if_neg p1]
   by_cases q1:sa+k≤q∧q<sa+na+nb'
   ·rw[if_pos q1];obtain⟨r,r1,r2,r3⟩:=mem (q-(sa+k)) (by omega);rw[r3];exact lowA p hp (by omega) r r1 (by omega)
   ·rw[if_neg q1]
    by_cases z:p<sa+k
    ·by_cases z2:q<sa+k
     ·exact asA p q hp hpq (by omega)
     ·exact lowA p hp z q (by omega) hq
    ·exact asB p q (by omega) hpq hq
 ·rw[wg,if_neg (by omega)]
end
end L2.Y
namespace L2.Y
open PySem PyProof.Rows
section
variable {prog:Qc}{w:QG}{A:QB}{E:Za→Zf→Prop}{s:Zf}{a0:Array ZK}{rk:ZK→Nat}{kd:KN}
theorem zk6 {M:Te}{σ:Type}{x:σ}{Q:PUnit→σ→Prop}{st:σ}(h:Q ⟨⟩ x):wpS M A E s (set x:StateT σ Sem PUnit) Q st:=by
 unfold wpS;rw[StateT.run_set];exact Zj ⟨rfl,h⟩
noncomputable abbrev P3:=Array (Nat×Nat×Nat)
noncomputable def zbq (p:P3) (i:Nat) (x:Nat×Nat×Nat):P3:=(p.setIfInBounds i x).eraseIdxIfInBounds (i+1)
theorem zeq (d:Dif rk a0) (hc:CmpR prog w A E s a0 rk kd) {st:Qn}(hB:SB a0 kd st) {i sa na pw nb pb:Nat}(e1:(Qi st)[i]?=some (sa,na,pw)) (e2:(Qi st)[i+1]?=some (sa+na,nb,pb)) (h1:sa+na+nb≤a0.size) (na1:1≤na) (nb1:1≤nb) (asA:Asc rk (ZV st) sa (sa+na)) (asB:Asc rk (ZV st) (sa+na) (sa+na+nb)) {Q:Bool→Qn→Prop}
  (h:∀ys g,Mgd rk (ZV st) ys sa na nb→Q true (YW (kindOf st) ys (zbq (Qi st) i (sa,na+nb,pw)) g (Ue st))):wpS (model prog w) A E s (Rj i) Q st:=by
 have sz:=hB.size;have df:=hB.dif d;have all:∀x∈(ZV st).toList,x∈a0.toList:=fun x hx=>(VB.mp hB.perm).mem_iff.mp hx;have get:∀k,(hk:k<(ZV st).size)→(ZV st)[k]∈a0.toList:=fun k hk=>all _ (by simp);have nil:∀ {xs:Array ZK}{sa na nb:Nat},Asc rk xs sa (sa+na+nb)→Mgd rk xs xs sa na nb:=fun a=>⟨Kv _,a,fun _ _=>rfl⟩
 refine(show wpS _ _ _ _ (Vv >>= _) _ _ from Qx (Ut ?_));dsimp only;rw[e1,e2];refine(show wpS _ _ _ _ (set _ >>= _) _ _ from Qx (zk6 ?_));refine(show wpS _ _ _ _ (Wk (ZV st) (sa+na) >>= _) _ _ from Qx (zcM (by omega) ?_));have lb:sa+na<(ZV st).size:=by omega
 refine(show wpS _ _ _ _ (gal false _ (ZV st) sa na 0 >>= _) _ _ from Qx (zg6 hc hB.kind (get _ lb) all (by omega) (by omega) asA (fun j hj => ?_) fun k k1 k2 k3 => ?_))
 ·rw[←(qj (rk:=rk) lb).2];exact df _ _ (by omega) (by omega)
 ·rw[←(qj (rk:=rk) lb).2]at k2 k3
  by_cases q:na-k=0
  ·refine(show wpS _ _ _ _ (ite _ _ _) _ _ from ?_);rw[if_pos (by simpa using q)];refine ZC (h _ _ (nil fun p r hp hpr hr => ?_))
   by_cases z:r<sa+na
   ·exact asA p r hp hpr z
   ·by_cases z2:p<sa+na
    ·have:=k2 (p-sa) (by omega);rw[show sa+(p-sa)=p by omega]at this
     by_cases z3:r=sa+na
     ·rw[z3];exact this
     ·exact Jb this (asB _ r (Zg _) (by omega) hr)
    ·exact asB p r (by omega) hpr hr
  ·refine(show wpS _ _ _ _ (ite _ _ _) _ _ from ?_);rw[if_neg (by simpa using q)];have la:sa+k+(na-k)-1<(ZV st).size:=by omega
   have ea:sa+k+(na-k)-1=sa+na-1:=by omega
   have r0:=k3 k (Zg _) (by omega);have b0:rR rk (ZV st) (sa+na)<rR rk (ZV st) (sa+na-1):=by
    by_cases z:sa+k=sa+na-1
    ·rw[←z];exact r0
    ·exact Jb r0 (asA _ _ (by omega) (by omega) (by omega))
   refine(show wpS _ _ _ _ (Wk (ZV st) (sa+k+(na-k)-1) >>= _) _ _ from Qx (zcM la ?_));refine(show wpS _ _ _ _ (gal true _ (ZV st) (sa+na) nb (nb-1) >>= _) _ _ from Qx (zg6 hc hB.kind (get _ la) all (by omega) (by omega) asB (fun j hj => ?_) fun nb' b1 b2 b3 => ?_))
   ·rw[←(qj (rk:=rk) la).2];exact Wf (df _ _ (by omega) (by omega))
   ·rw[←(qj (rk:=rk) la).2,ea]at b2 b3
    by_cases q2:nb'=0
    ·have:=b3 0 (by omega) (by omega);rw[Sx]at this;omega
    ·refine(show wpS _ _ _ _ (ite _ _ _) _ _ from ?_);rw[if_neg (by simpa using q2)];have z1:((ZV st).extract (sa+k) (sa+na)).size=na-k:=by rw[vh (by omega)];omega
     have z2:((ZV st).extract (sa+na) (sa+na+nb')).size=nb':=by rw[vh (by omega)];omega
     have X:∀j,j<na-k→rR rk ((ZV st).extract (sa+k) (sa+na)) j=rR rk (ZV st) (sa+k+j):=fun j hj=>zje (by omega) (by omega);have Y:∀j,j<nb'→rR rk ((ZV st).extract (sa+na) (sa+na+nb')) j=rR rk (ZV st) (sa+na+j):=fun j hj=>zje (by omega) (by omega);have T:Two a0 rk ((ZV st).extract (sa+k) (sa+na)) ((ZV st).extract (sa+na) (sa+na+nb')):={
      a1:=by omega
      b1:=by omega
      am:=fun x hx=>by obtain⟨_,_,_,_,m⟩:=zaG (rk:=rk) (by omega) hx;exact all x m
      bm:=fun x hx=>by obtain⟨_,_,_,_,m⟩:=zaG (rk:=rk) (by omega) hx;exact all x m
      aa:=fun p r _ hpr hr=>by rw[z1]at hr;rw[X p (by omega),X r hr];exact asA _ _ (by omega) (by omega) (by omega)
      ba:=fun p r _ hpr hr=>by rw[z2]at hr;rw[Y p (by omega),Y r hr];exact asB _ _ (by omega) (by omega) (by omega)
      ne:=fun p r hp hr=>by rw[z1]at hp;rw[z2]at hr;rw[X p hp,Y r hr];exact df _ _ (by omega) (by omega)
      fst:=by rw[X 0 (by omega),Y 0 (by omega)];exact r0
      lst:=by
       rw[z1,z2,X _ (by omega),Y _ (by omega),show sa+k+(na-k-1)=sa+na-1 by omega];exact b2 (nb'-1) (by omega) }
     have fin:∀out g,Dn rk ((ZV st).extract (sa+k) (sa+na)) ((ZV st).extract (sa+na) (sa+na+nb')) out→Q true (YW (kindOf st) (wrt (ZV st) (sa+k) out.toList) (zbq (Qi st) i (sa,na+nb,pw)) g (Ue st)):=fun out g dn =>
      h _ g (zfX (by omega) (by omega) (by omega) b1 asA asB k2 b3 dn)
     have fl:(Ue st).isNone=true:=by rw[hB.fail];rfl
     by_cases q3:na-k≤nb'
     ·refine(show wpS _ _ _ _ (ite _ _ _) _ _ from ?_);rw[if_pos q3];refine(show wpS _ _ _ _ (mLo _ _ >>= _) _ _ from Qx (zmy hc (st:=YW (kindOf st) (ZV st) (zbq (Qi st) i (sa,na+nb,pw)) (Rk st) (Ue st)) hB.kind T fun out g dn => ?_));refine(show wpS _ _ _ _ (modify _ >>= _) _ _ from Qx (YH ?_));refine(show wpS _ _ _ _ (Vv >>= _) _ _ from Qx (Ut ?_));refine ZC ?_;have:=fin out g dn;show Q ((Ue st).isNone) _;rw[fl];exact this
     ·refine(show wpS _ _ _ _ (ite _ _ _) _ _ from ?_);rw[if_neg q3];refine(show wpS _ _ _ _ (mHi _ _ >>= _) _ _ from Qx (zmx hc (st:=YW (kindOf st) (ZV st) (zbq (Qi st) i (sa,na+nb,pw)) (Rk st) (Ue st)) hB.kind T fun out g dn => ?_));refine(show wpS _ _ _ _ (modify _ >>= _) _ _ from Qx (YH ?_));refine(show wpS _ _ _ _ (Vv >>= _) _ _ from Qx (Ut ?_));refine ZC ?_;have:=fin out g dn;show Q ((Ue st).isNone) _;rw[fl];exact this
end
end L2.Y
namespace L2.Y
open PySem PyProof.Rows
section
variable {prog:Qc}{w:QG}{A:QB}{E:Za→Zf→Prop}{s:Zf}{a0:Array ZK}{rk:ZK→Nat}{kd:KN}
noncomputable def Rn (rk:ZK→Nat) (xs:Array ZK):Nat→List (Nat×Nat×Nat)→Nat→Prop
 | b,[],e=>b=e
 | b,q::l,e=>q.1=b∧1≤q.2.1∧Asc rk xs b (b+q.2.1)∧Rn rk xs (b+q.2.1) l e
theorem Rn.app {xs:Array ZK}:∀ {l m:List (Nat×Nat×Nat)}{b e:Nat},Rn rk xs b (l++m) e↔∃c,Rn rk xs b l c∧Rn rk xs c m e
 | [],m,b,e=>⟨fun h=>⟨b,rfl,h⟩,fun⟨c,h1,h2⟩=>by cases (show b=c from h1);exact h2⟩
 | q::l,m,b,e=>by
  constructor
  ·rintro⟨h1,h2,h3,h4⟩;obtain⟨c,h5,h6⟩:=Rn.app.mp h4;exact⟨c,⟨h1,h2,h3,h5⟩,h6⟩
  ·rintro⟨c,⟨h1,h2,h3,h4⟩,h5⟩;exact⟨h1,h2,h3,Rn.app.mpr ⟨c,h4,h5⟩⟩
theorem Rn.le {xs:Array ZK}:∀ {l:List (Nat×Nat×Nat)}{b e:Nat},Rn rk xs b l e→b+l.length≤e
 | [],b,e,h=>Yj h
 | q::l,b,e,⟨_,h2,_,h4⟩=>by
  have:=h4.le;rw[Zz];omega
theorem Rn.same {xs ys:Array ZK}:∀ {l:List (Nat×Nat×Nat)}{b e:Nat},Rn rk xs b l e→(∀k,b≤k→k<e→rR rk ys k=rR rk xs k)→Rn rk ys b l e
 | [],b,e,h,_=>h
 | q::l,b,e,⟨h1,h2,h3,h4⟩,hs=>by
  have:=h4.le;exact⟨h1,h2,fun p r a b c=>by rw[hs p a (by omega),hs r (by omega) (by omega)];exact h3 p r a b c,h4.same fun k a b=>hs k (by omega) b⟩
theorem join_list {p:P3}{i:Nat}{x:Nat×Nat×Nat}(h:i+1<p.size):(zbq p i x).toList=p.toList.take i++x::p.toList.drop (i+2):=by
 unfold zbq Array.eraseIdxIfInBounds;rw[dif_pos (by rw[LK];exact h),Array.toList_eraseIdx,Array.toList_setIfInBounds,Bg,if_pos (by rw[Qh];omega),List.eraseIdx_append_of_length_le (by rw[Jt];omega)];congr 1;rw[Jt,Qh,show i+1-min i p.size=1 by omega,Tt,List.eraseIdx_zero,List.tail_drop]
theorem zcN (d:Dif rk a0) (hc:CmpR prog w A E s a0 rk kd) {st:Qn}(hB:SB a0 kd st) {i e:Nat}(hi:i+1<(Qi st).size) (he:e≤a0.size) (rn:Rn rk (ZV st) 0 (Qi st).toList e) {Q:Bool→Qn→Prop}
  (h:∀st',SB a0 kd st'→Rn rk (ZV st') 0 (Qi st').toList e→(Qi st').size+1=(Qi st).size→(∀k,e≤k→rR rk (ZV st') k=rR rk (ZV st) k)→Q true st'):wpS (model prog w) A E s (Rj i) Q st:=by
 obtain⟨p,hp⟩:∃p,p=Qi st:=⟨_,rfl⟩
 rw[←hp]at hi rn;have l0:p.toList.length=p.size:=Qh;have sp:p.toList=p.toList.take i++(p[i]'(by omega))::(p[i+1]'hi)::p.toList.drop (i+2):=by
  have e1:p.toList.drop i=p[i]'(by omega)::p.toList.drop (i+1):=by rw[VH (by omega)];simp
  have e2:p.toList.drop (i+1)=p[i+1]'hi::p.toList.drop (i+2):=by rw[VH (by omega)];simp
  rw[←e2,←e1,WM]
 rw[sp]at rn;obtain⟨c,r1,r2⟩:=Rn.app.mp rn;have g1:p[i]?=some (p[i]'(by omega)):=getElem?_pos p i (by omega);have g2:p[i+1]?=some (p[i+1]'hi):=getElem?_pos p (i+1) hi;generalize p[i]'(by omega)=x at g1 r2;generalize p[i+1]'hi=y at g2 r2;obtain⟨sa,na,pw⟩:=x;obtain⟨sb,nb,pb⟩:=y;obtain⟨x1,x2,x3,y1,y2,y3,r3⟩:=r2;obtain rfl:sa=c:=x1;obtain rfl:sb=sa+na:=y1;have x2:1≤na:=x2;have y2:1≤nb:=y2;have x3:Asc rk (ZV st) sa (sa+na):=x3;have y3:Asc rk (ZV st) (sa+na) (sa+na+nb):=y3;have r3:Rn rk (ZV st) (sa+na+nb) (p.toList.drop (i+2)) e:=r3;have le3:=r3.le;rw[hp]at g1 g2;refine zeq d hc hB g1 g2 (by omega) x2 y2 x3 y3 fun ys g M => ?_;refine h _ ⟨M.perm.trans hB.perm,hB.kind,hB.fail⟩ ?_ ?_ fun k hk=>M.out k (by omega)
 ·show Rn rk ys 0 (zbq (Qi st) i (sa,na+nb,pw)).toList e;rw[←hp,join_list hi];refine Rn.app.mpr ⟨sa,r1.same fun k _ hk=>M.out k (.inl hk),rfl,show 1≤na+nb by omega,?_,?_⟩
  ·show Asc rk ys sa (sa+(na+nb));rw[←Cv];exact M.asc
  ·show Rn rk ys (sa+(na+nb)) _ e;rw[←Cv];exact r3.same fun k hk _=>M.out k (.inr hk)
 ·show(zbq (Qi st) i (sa,na+nb,pw)).size+1=(Qi st).size;rw[←hp,←Qh,join_list hi,Zx,Zz,Jt,Wo,l0];omega
theorem zaa:∀(f n r:Nat),1≤n→1≤GP f n r
 | 0,n,r,h=>by show 1≤n+r;omega
 | f+1,n,r,h=>by
  rw[minRun'_succ];split
  ·omega
  ·exact zaa f (n / 2) _ (by omega)
theorem Rn.pw {xs:Array ZK}:∀ {l m:List (Nat×Nat×Nat)}{b e:Nat},Rn rk xs b l e→l.map (fun q=>(q.1,q.2.1))=m.map (fun q=>(q.1,q.2.1))→Rn rk xs b m e
 | [],[],b,e,h,_=>h
 | [],_::_,_,_,_,q=>by cases q
 | _::_,[],_,_,_,q=>by cases q
 | x::l,y::m,b,e,⟨h1,h2,h3,h4⟩,q=>by
  rw[Zk,Zk]at q;obtain⟨q1,q2⟩:=Vf q;obtain⟨q3,q4⟩:=Prod.mk.inj q1;refine⟨by rw[←q3];exact h1,by rw[←q4];exact h2,by rw[←q4];exact h3,?_⟩;rw[←q4];exact h4.pw q2
theorem zjd (p:P3) (i w:Nat):(p.modify i fun q=>(q.1,q.2.1,w)).toList.map (fun q=>(q.1,q.2.1))=p.toList.map fun q=>(q.1,q.2.1):=by
 rw[Array.toList_modify];apply Vt;intro j;rw[Ql,Ql,List.getElem?_modify];cases p.toList[j]? with
 | none=>rfl
 | some q=>simp;split <;> exact⟨rfl,rfl⟩
theorem Rn.push {xs:Array ZK}{p:P3}{lo n:Nat}(h:Rn rk xs 0 p.toList lo) (n1:1≤n) (a:Asc rk xs lo (lo+n)):Rn rk xs 0 (p.push (lo,n,0)).toList (lo+n):=by
 rw[VR];exact Rn.app.mpr ⟨lo,h,rfl,n1,a,rfl⟩
theorem zk7 (d:Dif rk a0) (hc:CmpR prog w A E s a0 rk kd) {st:Qn}(hB:SB a0 kd st) (hp:Qi st=#[]) (h2:1≤a0.size) {Q:Unit→Qn→Prop}(h:∀st',SB a0 kd st'→Asc rk (ZV st') 0 a0.size→Q () st'):wpS (model prog w) A E s sortRuns' Q st:=by
 have sz:=hB.size;have mr:=zaa (ZV st).size (ZV st).size 0 (by omega);refine(show wpS _ _ _ _ (Vv >>= _) _ _ from Qx (Ut ?_));refine Qx (Mu (GK (I:=fun x c st'=>∃lo,c=(none,lo)∧SB a0 kd st'∧Rn rk (ZV st') 0 (Qi st').toList lo∧lo≤a0.size∧(x≤lo∨lo=a0.size))
  (Q:=fun c st'=>c=(none,a0.size)∧SB a0 kd st'∧Rn rk (ZV st') 0 (Qi st').toList a0.size) ?_ ?_ ⟨0,rfl,hB,by rw[hp];rfl,Qp _,.inl (Zg _)⟩) ?_)
 ·rintro x c st1 _ hx ⟨lo,rfl,hB1,rn,le,pr⟩;refine(show wpS _ _ _ _ (ite _ _ _) _ _ from ?_)
  by_cases q:lo≥(ZV st).size
  ·rw[if_pos q];obtain rfl:lo=a0.size:=by have q:(ZV st).size≤lo:=q;omega
   exact ZC ⟨rfl,hB1,rn⟩
  ·rw[if_neg q];have q:¬(ZV st).size≤lo:=q;refine(show wpS _ _ _ _ (countRun' lo ((ZV st).size-lo) >>= _) _ _ from Qx (ziS d hc (by omega) (by omega) hB1 fun m xs px m1 m2 am om => ?_));have hB2:=hB1.set px;have rn2:Rn rk xs 0 (Qi st1).toList lo:=rn.same fun k _ hk=>om k (.inl hk)
   by_cases mm:m<GP (ZV st).size (ZV st).size 0
   ·refine(show wpS _ _ _ _ (ite (m<GP (ZV st).size (ZV st).size 0) _ _) _ _ from ?_);rw[if_pos mm];refine(show wpS _ _ _ _ (liftM (rule _) >>= _) _ _ from Qx (wpS_lift (KC ⟨rfl,?_⟩)));have n2:m≤min ((ZV st).size-lo) (GP (ZV st).size (ZV st).size 0):=by omega
    have n3:lo+min ((ZV st).size-lo) (GP (ZV st).size (ZV st).size 0)≤a0.size:=by omega
    refine(show wpS _ _ _ _ (Pu lo (min ((ZV st).size-lo) (GP (ZV st).size (ZV st).size 0)) m >>= _) _ _ from Qx (zmv d hc n3 m1 n2 hB2 am fun ys py ay oy => ?_));refine(show wpS _ _ _ _ (ite _ _ _) _ _ from ?_);rw[if_neg (by decide)];have n1:1≤min ((ZV st).size-lo) (GP (ZV st).size (ZV st).size 0):=by omega
    have hBn:SB a0 kd (BX st1 ys):=hB2.set py;have rnn:Rn rk ys 0 (Qi st1).toList lo:=rn2.same fun k _ hk=>oy k (.inl hk);have ln:=n3;have an:=ay;obtain⟨nn,en⟩:∃z,z=min ((ZV st).size-lo) (GP (ZV st).size (ZV st).size 0):=⟨_,rfl⟩
    refine(show wpS _ _ _ _ (Vv >>= _) _ _ from Qx (Ut ?_));cases hbk:(Qi st1).back? with
    | none =>
     try dsimp only
     try rw[hbk]
     refine(show wpS _ _ _ _ (modify _ >>= _) _ _ from Qx (YH (ZC ⟨_,rfl,⟨hBn.perm,hBn.kind,hBn.fail⟩,rnn.push n1 an,ln,.inl (Kg (pr.resolve_right (by omega)) n1)⟩)))
    | some v =>
     obtain⟨s1,l1,w1⟩:=v
     try dsimp only
     try rw[hbk]
     try dsimp only
     refine Qx (Mu (GK (I:=fun _ c st3=>c=(none,())∧SB a0 kd st3∧Rn rk (ZV st3) 0 (Qi st3).toList lo∧Asc rk (ZV st3) lo (lo+nn))
      (Q:=fun c st3=>c=(none,())∧SB a0 kd st3∧Rn rk (ZV st3) 0 (Qi st3).toList lo∧Asc rk (ZV st3) lo (lo+nn)) ?_ ?_ ⟨rfl,hBn,rnn,by rw[en];exact an⟩) ?_)
     ·rintro x3 c3 st3 _ hx3 ⟨rfl,hB3,rn3,an3⟩;refine(show wpS _ _ _ _ (Vv >>= _) _ _ from Qx (Ut ?_))
      by_cases p1:(Qi st3).size>1
      ·try dsimp only
       rw[if_pos p1,getElem?_pos (Qi st3) ((Qi st3).size-2) (by omega)];generalize (Qi st3)[(Qi st3).size-2]'(by omega)=u;obtain⟨u1,u2,u3⟩:=u
       try dsimp only
       split
       ·exact ZC ⟨rfl,hB3,rn3,an3⟩
       ·refine(show wpS _ _ _ _ (Rj ((Qi st3).size-2) >>= _) _ _ from Qx (zcN d hc hB3 (by omega) le rn3 fun st4 hB4 rn4 _ sm4 => ?_));refine(show wpS _ _ _ _ (ite _ _ _) _ _ from ?_);rw[if_neg (by decide)];exact ZC ⟨rfl,hB4,rn4,fun p r a b c=>by rw[sm4 p a,sm4 r (by omega)];exact an3 p r a b c⟩
      ·try dsimp only
       rw[if_neg p1];exact ZC ⟨rfl,hB3,rn3,an3⟩
     ·exact fun c st3 h=>h
     ·rintro c3 st3 ⟨rfl,hB3,rn3,an3⟩;refine(show wpS _ _ _ _ (modify _ >>= _) _ _ from Qx (YH ?_));refine(show wpS _ _ _ _ (modify _ >>= _) _ _ from Qx (YH (ZC ⟨_,rfl,⟨hB3.perm,hB3.kind,hB3.fail⟩,(rn3.pw (zjd _ _ _).symm).push n1 (by rw[en]at an3;exact an3),ln,.inl (Kg (pr.resolve_right (by omega)) n1)⟩)))
   ·refine(show wpS _ _ _ _ (ite (m<GP (ZV st).size (ZV st).size 0) _ _) _ _ from ?_);rw[if_neg mm];have n1:=m1;have hBn:=hB2;have rnn:=rn2;have ln:lo+m≤a0.size:=by omega
    have an:=am;obtain⟨nn,en⟩:∃z,z=m:=⟨_,rfl⟩
    refine(show wpS _ _ _ _ (Vv >>= _) _ _ from Qx (Ut ?_));cases hbk:(Qi st1).back? with
    | none =>
     try dsimp only
     try rw[hbk]
     refine(show wpS _ _ _ _ (modify _ >>= _) _ _ from Qx (YH (ZC ⟨_,rfl,⟨hBn.perm,hBn.kind,hBn.fail⟩,rnn.push n1 an,ln,.inl (Kg (pr.resolve_right (by omega)) n1)⟩)))
    | some v =>
     obtain⟨s1,l1,w1⟩:=v
     try dsimp only
     try rw[hbk]
     try dsimp only
     refine Qx (Mu (GK (I:=fun _ c st3=>c=(none,())∧SB a0 kd st3∧Rn rk (ZV st3) 0 (Qi st3).toList lo∧Asc rk (ZV st3) lo (lo+nn))
      (Q:=fun c st3=>c=(none,())∧SB a0 kd st3∧Rn rk (ZV st3) 0 (Qi st3).toList lo∧Asc rk (ZV st3) lo (lo+nn)) ?_ ?_ ⟨rfl,hBn,rnn,by rw[en];exact an⟩) ?_)
     ·rintro x3 c3 st3 _ hx3 ⟨rfl,hB3,rn3,an3⟩;refine(show wpS _ _ _ _ (Vv >>= _) _ _ from Qx (Ut ?_))
      by_cases p1:(Qi st3).size>1
      ·try dsimp only
       rw[if_pos p1,getElem?_pos (Qi st3) ((Qi st3).size-2) (by omega)];generalize (Qi st3)[(Qi st3).size-2]'(by omega)=u;obtain⟨u1,u2,u3⟩:=u
       try dsimp only
       split
       ·exact ZC ⟨rfl,hB3,rn3,an3⟩
       ·refine(show wpS _ _ _ _ (Rj ((Qi st3).size-2) >>= _) _ _ from Qx (zcN d hc hB3 (by omega) le rn3 fun st4 hB4 rn4 _ sm4 => ?_));refine(show wpS _ _ _ _ (ite _ _ _) _ _ from ?_);rw[if_neg (by decide)];exact ZC ⟨rfl,hB4,rn4,fun p r a b c=>by rw[sm4 p a,sm4 r (by omega)];exact an3 p r a b c⟩
      ·try dsimp only
       rw[if_neg p1];exact ZC ⟨rfl,hB3,rn3,an3⟩
     ·exact fun c st3 h=>h
     ·rintro c3 st3 ⟨rfl,hB3,rn3,an3⟩;refine(show wpS _ _ _ _ (modify _ >>= _) _ _ from Qx (YH ?_));refine(show wpS _ _ _ _ (modify _ >>= _) _ _ from Qx (YH (ZC ⟨_,rfl,⟨hB3.perm,hB3.kind,hB3.fail⟩,(rn3.pw (zjd _ _ _).symm).push n1 (by rw[en]at an3;exact an3),ln,.inl (Kg (pr.resolve_right (by omega)) n1)⟩)))
 ·rintro c st' ⟨lo,rfl,hB',rn,le,pr⟩;have pr:(ZV st).size≤lo∨lo=a0.size:=pr.imp (fun h=>Zt (Vz 0 _) h) id;obtain rfl:lo=a0.size:=by omega
  exact⟨rfl,hB',rn⟩
 ·rintro c st1 ⟨rfl,hB1,rn⟩;have le1:=rn.le;refine(show wpS _ _ _ _ (Ba [0:(ZV st).size] _ _ >>= _) _ _ from ?_);refine Qx (Mu (GK (I:=fun x c st2=>c=(none,())∧SB a0 kd st2∧Rn rk (ZV st2) 0 (Qi st2).toList a0.size∧((Qi st2).size+x≤a0.size∨(Qi st2).size≤1))
   (Q:=fun c st2=>c=(none,())∧SB a0 kd st2∧Rn rk (ZV st2) 0 (Qi st2).toList a0.size∧(Qi st2).size≤1) ?_ ?_ ⟨rfl,hB1,rn,.inl (by rw[←Qh];omega)⟩) ?_)
  ·rintro x c st2 _ hx ⟨rfl,hB2,rn2,pr⟩;refine(show wpS _ _ _ _ (Vv >>= _) _ _ from Qx (Ut ?_));refine(show wpS _ _ _ _ (ite _ _ _) _ _ from ?_)
   by_cases q:(Qi st2).size≤1
   ·rw[if_pos q];exact ZC ⟨rfl,hB2,rn2,q⟩
   ·rw[if_neg q];refine(show wpS _ _ _ _ (Rj _ >>= _) _ _ from Qx (zcN d hc hB2 ?_ (Zg _) rn2 fun st4 hB4 rn4 z4 _ => ?_))
    ·have aux:∀ {c:Prop}{dc:Decidable c},(if c then(Qi st2).size-2-1 else(Qi st2).size-2)+1<(Qi st2).size:=fun {c dc}=>by split <;> omega
     exact aux
    ·refine(show wpS _ _ _ _ (ite _ _ _) _ _ from ?_);rw[if_neg (by decide)];exact ZC ⟨rfl,hB4,rn4,by omega⟩
  ·rintro c st2 ⟨rfl,hB2,rn2,pr⟩;have m0:(ZV st).size≤max 0 (ZV st).size:=Vz _ _;have pr:(Qi st2).size+(ZV st).size≤a0.size∨(Qi st2).size≤1:=pr.imp (fun h=>Zt (Jr m0 _) h) id;exact⟨rfl,hB2,rn2,by omega⟩
  ·rintro c st2 ⟨rfl,hB2,rn2,q⟩;refine ZC (h st2 hB2 ?_);have l0:(Qi st2).toList.length≤1:=by rw[Qh];exact q
   cases hl:(Qi st2).toList with
   | nil =>
    rw[hl]at rn2;have:0=a0.size:=rn2;omega
   | cons v l =>
    rw[hl,Zz]at l0;obtain rfl:l=[]:=Tr.mp (by omega);rw[hl]at rn2;obtain⟨_,_,r3,r4⟩:=rn2;have r4:0+v.2.1=a0.size:=r4;rw[r4]at r3;exact r3
end
end L2.Y
namespace L2.Y
open PySem PySem.Spec PyProof.Rows
section
variable {X:Cx}
variable {a b c:Expr}{pos:Pos}{ga gb gc:Env'→Option D}
noncomputable def zlg (oscope:Uz) (oN:List Str) (scope:Uz) (own:List Str) (caps:List Nat) (N:List Str):Bool :=
 decide (scope.kind=.function)&&scope.names.all (fun y=>decide (y.2≠.cell))&&scope.names.all (fun y=>decide (y.2=.local→scope.names.lookup y.1=some .local)) &&
 scope.names.all (fun y=>decide (y.2=.free→oscope.names.lookup y.1=some .cell∨oscope.names.lookup y.1=some .free))&&decide N.Nodup&&decide (N=own++caps.map fun j=>oN.getD j TJ) &&
 caps.all (fun j=>decide (j<oN.length)&&decide (scope.names.lookup (oN.getD j TJ)=some .free))&&decide caps.Nodup
theorem zI {oscope scope:Uz}{oN own N:List Str}{caps:List Nat}(h:zlg oscope oN scope own caps N=true) (h1:X.env.scope=oscope) (h2:X.N=oN):CompOk X scope own caps N:=by
 unfold zlg at h;simp only[QM,decide_eq_true_eq,BV]at h;obtain⟨⟨⟨⟨⟨⟨⟨a1,a2⟩,a3⟩,a4⟩,a5⟩,a6⟩,a7⟩,a8⟩:=h;subst h1 h2;refine⟨a1,a2,a3,a4,a5,by rw[a6];simp,fun k j hk => ?_⟩;obtain⟨b1,b2⟩:=a7 j (Jw hk);refine⟨X.N.getD j TJ,by simp[List.getD,b1],?_,b2⟩;rw[a6,Ji (Qy _ _),Ge,Ql,hk];rfl
theorem vH:∀ {ds:List D}{bs:List Bool},kM ds=some bs→ds=bs.map Zm.bool
 | [],_,h=>by cases h;rfl
 | d::ds,_,h=>by
  unfold kM at h;rw[Jh]at h;obtain⟨i,h1,h⟩:=Zb.mp h;obtain⟨r,h2,h⟩:=Zb.mp h;cases h;rw[yA h1,vH (ds:=ds) h2];rfl
theorem zcP {K:Frag}{H:Hp}:∀ {bs:List Bool}{xs:List V}{us:List Za},Reps K H (bs.map Zm.bool) xs→Vals xs us→us=bs.map Za.bool
 | [],_,_,r,v=>by cases r;cases v;rfl
 | b::bs,_,_,r,v=>by
  cases r with
  | cons r rr =>
   cases r;cases v with
   | cons v vv=>cases v;rw[zcP rr vv];rfl
theorem zfw {K:Frag}{H:Hp}{is:List Int}{xs:List V}{us:List Za}(r:Reps K H (is.map Zm.int) xs) (v:Vals xs us):Wn us is:=by
 cases r.ints;exact intsAre_of v
theorem qE (hc:X.calm=true):yT X (.builtin "sum") sumD:=by
 intro pins s σ H O xs us ds d Q I hO rv bs e k;have fin:∀ {is:List Int}{h' : Je}{tk:Nat}{t' : Tok},d=.int is.sum→(∀b o,s.heap.get? b=some o→h'.get? b=some o)→EP X pins σ Q (.int is.sum t') { s with heap:=h',toks:=tk }:=fun {is h' tk t'} ed hk=>by
  subst ed;exact zll (I.kept (t':=tk) hk) k
 unfold sumD at e;split at e
 ·obtain⟨is,e1,e2⟩:=ZG.mp e;cases wk e1;obtain⟨v,rfl,b⟩:=bs.inv1;obtain⟨a,ys,rfl,sq,rs⟩:=b.lst;obtain⟨u,rfl,ru⟩:=vals1 rv;obtain rfl:u=Za.ref a:=ru;obtain⟨its,r,pl,hz⟩:=I.list sq;have hi:=zfw rs r;obtain⟨zs,hx⟩:=hi.allInts.items;have hl' : s.heap.IsList a (intItems zs):=hx▸pl.isList;refine sum_intListG (I.ok.hd hc) hl' fun h' tk t' hk => ?_;have e1:is=zs.toList.map (·.1):=by
   rw[←nums_intItems,←hx];exact(show numsOf its.toArray.toList=is from hi.numsOf).symm
  have e3:preSum (numAt zs) zs.size=is.sum:=by
   rw[preSum_eq,Wt (by simp),e1]
  rw[e3];exact fin e2.symm hk
 ·obtain⟨is,e1,e2⟩:=ZG.mp e;cases wk e1;obtain⟨v,rfl,b⟩:=bs.inv1;obtain⟨a,ys,rfl,sq,rs⟩:=b.tup;obtain⟨u,rfl,ru⟩:=vals1 rv;obtain rfl:u=Za.ref a:=ru;obtain⟨its,r,pl,hz⟩:=I.tuple sq;have hi:=zfw rs r;obtain⟨zs,hx⟩:=hi.allInts.items;have hl' : s.heap.IsTuple a (intItems zs):=hx▸pl;refine PySem.W.ktm_sumG (I.ok.hd hc) hl' fun h' tk t' hk => ?_;have e1:is=zs.toList.map (·.1):=by
   rw[←nums_intItems,←hx];exact(show numsOf its.toArray.toList=is from hi.numsOf).symm
  have e3:preSum (numAt zs) zs.size=is.sum:=by
   rw[preSum_eq,Wt (by simp),e1]
  rw[e3];exact fin e2.symm hk
 ·cases e
end
end L2.Y
namespace L2.Y
open PySem PySem.Spec PyProof.Rows
section
variable {X:Cx}
theorem zeL (hc:X.calm=true):yT X (.builtin "all") allD:=by
 intro pins s σ H O xs us ds d Q I hO rv bs e k;unfold allD at e;split at e
 ·obtain⟨bl,e1,e2⟩:=ZG.mp e;subst e2;cases vH e1;obtain⟨v,rfl,b⟩:=bs.inv1;obtain⟨a,ys,rfl,sq,rs⟩:=b.lst;obtain⟨u,rfl,ru⟩:=vals1 rv;obtain rfl:u=Za.ref a:=ru;obtain⟨its,r,pl,hz⟩:=I.list sq;have hb:=zcP rs r;subst hb;have hl:=pl.isList;have hlt:a<s.heap.objs.size:=by obtain⟨_,e,_⟩:=hl;exact ZD e
  refine call_all_walk (Ce hl ?_);refine⟨s.heap.objs.size,[s.heap.objs.size,a],[s.heap.objs.size],(bl.map Za.bool).toArray.size,_,_,fun i=>(bl[i]?).getD true,rfl,Walks.list (A:=X.A.in1) (I.ok.hd hc) _ a (QD hlt) _,
   ⟨⟨_,Zy _ rfl,rfl,rfl⟩,hl.push _⟩,fun i v s' Q' E' hP hQ => ?_,fun h' tk hk => ?_⟩
  ·have hP' : (bl.map Za.bool)[i]?=some v:=by simpa using hP
   rw[Ql]at hP';obtain⟨b0,hb0,rfl⟩:=ZG.mp hP';simp only[hb0,Nm]at hQ;exact Ud hQ
  ·have e:((ZJ (bl.map Za.bool).toArray.size).all fun i=>(bl[i]?).getD true)=bl.all id:=by
    rw[Zv,Zi];exact Ha bl
   rw[e];exact xP (I.kept (t':=tk) (Hb hk)) k
 ·cases e
noncomputable def tOd (K:Frag) (g:GO):TO:=fun σ H Q=>∃F O ρ o,SR K F O ρ σ H∧g ρ=some o∧∀H',Same H H'→Q o H'
noncomputable def POd (X:Cx) (e:Option Expr) (g:GO):Prop:=PO X e (tOd X.K g)
theorem PO.imp {e:Option Expr}{t t' : TO}(h:PO X e t) (k:∀σ H Q,t' σ H Q→t σ H Q):PO X e t':=fun pins s σ H Q I q=>h pins s σ H Q I (k σ H Q q)
theorem xt:POd X none qU:=PO.imp zkt fun σ H Q hZq=>by
 obtain⟨F,O,ρ,o,r,e,k⟩:=hZq;cases e;exact k H (Same.refl _)
theorem xu {e:Expr}{g:Env'→Option D}(h:PB X e g):POd X (some e) (qF g):=PO.imp (zku h) fun σ H Q hZq=>by
 obtain⟨F,O,ρ,o,r,e,k⟩:=hZq;obtain⟨d,e1,e2⟩:=Zb.mp e;split at e2
 ·rename_i i;cases e2;exact⟨F,O,ρ,_,r,e1,fun v H' s b=>⟨i,b.int,k H' s⟩⟩
 ·cases e2
theorem wF {t sl:Zh}{items:Array Za}{vl vu:Za}{lo hi:Option Int}{prog:Qc}{w:QG}{A:QB}{E:Za→Zf→Prop}{s:Zf}{Q:Za→Zf→Prop}(ht:VP s.heap t items) (hs:s.heap.IsSliceOf sl vl vu .none) (pl:Bk vl lo) (pu:Bk vu hi)
  (hw:HT.sIx items.size 0 lo=0∧HT.sIx items.size items.size hi=items.size) (h:Q (.ref t) s):ZF (model prog w) A (Gf (.ref t) (.ref sl)) Q E s:=by
 obtain⟨os,hos,hcs,hds⟩:=id hs;have hTs:s.TypeIs (.ref sl) "slice" := ⟨os,hos,hcs⟩
 unfold Gf
 try with_reducible refine JW ?_
 first | refine Zc (Zj ?_) | skip
 refine Zc (Cd ht.typeIs (by decide) ?_);refine Zc (JR (name:=Vp "__getitem__") ht.typeIs JD
  (JK JD ht.typeIs PQ ?_ (Hx _ _)))
 show ZF _ _ (Ep (.ref t) >>= _) _ _ s;refine Zc (tupleItemsOf_ ht ?_);refine Zc (Uc hTs ?_);rw[if_pos (by decide)];refine Zc (HT.sliceApplied_gen hs pl pu ?_);have hyes:(((HT.sIx items.size 0 lo:Nat):Int) == 0&&(1:Int) == 1&&(HT.sIx items.size items.size hi-HT.sIx items.size 0 lo) == items.size)=true:=by
  rw[hw.1,hw.2];simp
 show ZF _ _ (if(((HT.sIx items.size 0 lo:Nat):Int) == 0&&(1:Int) == 1&&(HT.sIx items.size items.size hi-HT.sIx items.size 0 lo) == items.size)=true then _ else _) _ _ s;rw[if_pos hyes];refine Zc ?_;unfold Fe;refine Zc (Uc ht.typeIs (Zj ?_));rw[if_pos (by decide)];exact Zc (KC (Zj ⟨_,rfl,Zj h⟩))
theorem zbg {K:Frag}{H:Hp}{ds:List D}{xs:List V}{lo hi:Option Int}(r:Reps K H ds xs):Reps K H (cutD ds lo hi) (cutV xs lo hi):=by
 unfold cutD cutV;rw[r.length];exact(r.drop _).take _
theorem zm0:SlR X (fun x lo hi H Q=>∃O dx d,Dom O H∧RepB X.K O H dx x∧slD dx lo hi=some d∧∀z H',Same H H'→Rep X.K (hide O H') d z→Q z H'):=by
 intro pins s σ H x v vl vu lo hi sl Q I rx hs pl pu hZq;obtain⟨O,dx,d,hO,b,e,k⟩:=hZq;unfold slD at e;split at e
 ·rename_i ds;cases e;obtain⟨a,xs,rfl,sq,rs⟩:=b.tup
  by_cases hw:HT.sIx xs.length 0 lo=0∧HT.sIx xs.length xs.length hi=xs.length
  ·obtain rfl:v=Za.ref a:=rx;obtain⟨its,r,ht,hz⟩:=I.tuple sq;have hlen:its.toArray.size=xs.length:=by rw[Zv];exact r.length.symm
   refine⟨"tuple",_,JD.lookup,ht.typeIs,?_⟩;refine wF ht hs pl pu (by rw[hlen];exact hw) ⟨.ref a,H,I,rfl,k _ H (Same.refl _) ?_⟩;have:cutD ds lo hi=ds:=by
    unfold cutD;rw[rs.length,hw.1,hw.2,Bu,GD,←rs.length,Ua]
   rw[this];exact yp b
  ·exact zmn pins s σ H _ v vl vu lo hi sl Q I rx hs pl pu ⟨a,xs,rfl,sq,hw,fun p hp=>k _ _ (zY hp) (xw hp (hO.out hp) (zbg rs))⟩
 ·cases e;obtain⟨a,xs,rfl,sq,rs⟩:=b.lst;exact zkQ pins s σ H _ v vl vu lo hi sl Q I rx hs pl pu ⟨a,xs,rfl,sq,fun p hp=>k _ _ (zY hp) (vf hp (hO.out hp) (zbg rs))⟩
 ·cases e
theorem xp {e:Expr}{lo hi:Option Expr}{p2 pos:Pos}{ga:Env'→Option D}{gl gh:GO}(he:PB X e ga) (hl:POd X lo gl) (hu:POd X hi gh):PD X (.Subscript e (.Slice lo hi none p2) pos) (gSl ga gl gh) :=
 PE.imp (zie zm0 he hl hu) fun σ H Q hZq=>by
  obtain⟨F,O,ρ,d,r,e,k⟩:=hZq;obtain⟨dx,e1,e⟩:=Zb.mp e;obtain⟨l,e2,e⟩:=Zb.mp e;obtain⟨h,e3,e⟩:=Zb.mp e;refine⟨F,O,ρ,dx,r,e1,fun x H1 s1 b1=>⟨F,O,ρ,l,r.same s1,e2,fun H2 s2=>⟨F,O,ρ,h,(r.same s1).same s2,e3,fun H3 s3 => ?_⟩⟩⟩;exact⟨O,dx,d,(((r.same s1).same s2).same s3).dom,b1.same (s2.trans s3),e,fun z H' s4 b4=>k z H' (s1.trans (s2.trans (s3.trans s4))) b4⟩
end
end L2.Y
namespace L2.Y
open PySem PySem.Spec PyProof.Rows
theorem yV:fillsNumberSlot (.type "tuple") "mul" = pure false :=
 PySem.fillsNumberSlot_seq (id := "tuple.__mul__") (r:=some (.builtin "tuple.__rmul__")) Lx.lookup (by decide +kernel) Lh.lookup (by decide +kernel)
theorem zbL:seqRepeat? (.type "tuple")=pure (some (.builtin "tuple.__mul__")):=by
 unfold seqRepeat?;rw[Df (T := "tuple") (name := "__mul__") (id := "tuple.__mul__") Lx.lookup (by decide +kernel),Df (T := "tuple") (name := "__rmul__") (id := "tuple.__rmul__") Lh.lookup (by decide +kernel)];rfl
section
open PySem.SeqAt
open PySem.AutoSeq1 (wpAny_loadPart')
open PySem.MeetsSeq PySem.MeetsSeq2 PySem.MeetsSeq3
theorem kz (a:Int) (t:Tok) (l:Zh) (items:Array Za) (n:Nat) (dd:Option Zh) (sl:Array (Option Za)) :
  Cw (Builtin.«int.__rmul__» ⟨[.int a t,.ref l],[]⟩) (fun _ R s=>s.heap.get? l=some { cls:=.type "tuple",dict:=dd,data:=.seq items n,slots:=sl }∧R (.ok (.ret Za.notImplemented)) s) :=
 .of_wp fun prog w A R s h=>by obtain⟨hp,g,d,tk,os⟩:=s;obtain⟨hl,h⟩:=h;wp_walk;exact⟨_,rfl,h⟩
theorem kK (l:Zh) (items:Array Za) (n:Nat) (dd:Option Zh) (sl:Array (Option Za)) (x:Int) (u:Tok) (h1:(decide (x < -(2^63))||decide (x≥2^63))=false) (h2:(items.isEmpty||x == 1)=true) :
  Cw (Builtin.«tuple.__mul__» ⟨[.ref l,.int x u],[]⟩) (fun _ R s=>s.heap.get? l=some { cls:=.type "tuple",dict:=dd,data:=.seq items n,slots:=sl }∧R (.ok (.ret (.ref l))) s) :=
 .of_wp fun prog w A R s h=>by
  obtain⟨hp,g,d,tk,os⟩:=s;obtain⟨hl,h⟩:=h;have f1:=RM;have f2:=Yg
  wp_walk using Wh hl
  rw[if_neg (by rw[h1];exact Jd)]
  wp_walk using Wh hl
  exact⟨_,rfl,h⟩
theorem kJ (l:Zh) (items:Array Za) (n:Nat) (dd:Option Zh) (sl:Array (Option Za)) (x:Int) (u:Tok) (h1:(decide (x < -(2^63))||decide (x≥2^63))=false) (h2:(items.isEmpty||x == 1)=false) (h3:(decide (x≤0)||items.isEmpty)=false)
  (h4:¬(items.size:Int)*x>(2^63-1) / 8) (h5:Eo (items.size*x)=false) (hsz:(UW (fun x1 x2=>x1++x2) #[] (Qv x.toNat items)).size≤Zu) :
  Cw (Builtin.«tuple.__mul__» ⟨[.ref l,.int x u],[]⟩) (fun _ R s=>s.heap.get? l=some { cls:=.type "tuple",dict:=dd,data:=.seq items n,slots:=sl } ∧
   R (.ok (.ret (.ref s.heap.objs.size))) { s with heap:=s.heap.push { cls:=.type "tuple",data:=.seq (UW (fun x1 x2=>x1++x2) #[] (Qv x.toNat items)) } }) :=
 .of_wp fun prog w A R s h=>by
  obtain⟨hp,g,d,tk,os⟩:=s;obtain⟨hl,h⟩:=h;have f1:=RM;have f2:=Yg
  wp_walk using Wh hl
  rw[if_neg (by rw[h1];exact Jd)]
  wp_walk using Wh hl
  rw[if_neg h4]
  wp_walk
  exact⟨_,rfl,h⟩
end
section
variable {X:Cx}
theorem Reps.rep {K:Frag}{H:Hp}{ds:List D}{xs:List V}(r:Reps K H ds xs):∀k:Nat,Reps K H (Qv k ds).flatten (Qv k xs).flatten
 | 0=>.nil
 | k+1=>by
  rw[Vj,Vj,Wb,Wb];exact r.append (Reps.rep r k)
theorem zax (its:List Za) (m:Nat):UW (fun x1 x2=>x1++x2) #[] (Qv m its.toArray)=(Qv m its).flatten.toArray:=by
 have:=foldl_rep its m [];rw[Yr]at this;exact this
theorem qm:OpD X (Wl .Mult) xB:=by
 intro pins s σ H O x y v u dx dy d Q I hO rx ry bx by' e k;unfold xB at e;split at e
 ·rename_i i j;unfold mulI at e;split at e
  ·cases e;cases bx.int;cases by'.int;exact zlO pins s σ H _ _ v u Q I rx ry ⟨i,j,rfl,rfl,by assumption,k _ H (Same.refl _) (.int _)⟩
  ·cases e
 ·rename_i ds j;obtain⟨es,e1,rfl⟩:=ZG.mp e;unfold repD at e1;split at e1
  ·rename_i hc;obtain⟨c1,c2,c3⟩:=hc;cases e1;obtain⟨l,xs,rfl,sq,rs⟩:=bx.lstR;cases by'.int;obtain rfl:v=Za.ref l:=rx;obtain⟨t,rfl⟩:=ry;obtain⟨z,its,n,r,e⟩:=zgu I sq;have hlen:its.toArray.size*j.toNat≤Zu:=by rw[Zv,←r.length,←rs.length];exact c3
   have hcap:¬its.toArray.size*j.toNat>(2^63-1) / 8:=by
    have:(Zu:Nat)≤(2^63-1) / 8:=by decide
    omega
   have hfit:¬(!Builtin.List.listFitsIndex j)=true:=by
    rw[fitsIndex_both c1 c2];exact Jd
   have hlong:¬WT (its.toArray.size*j.toNat)=true:=by
    rw[zaH hlen];exact Jd
   have hnew:UW (fun x1 x2=>x1++x2) #[] (Qv (if its.toArray.isEmpty=true then 0 else j.toNat) its.toArray)=(Qv j.toNat its).flatten.toArray:=by
    rw[zax];cases its with
    | nil=>simp
    | cons a r'=>rw[if_neg (by simp)]
   refine Gb (T := "list") (U := "int") (by decide) ⟨_,e,rfl⟩ (fun s'=>KH s' j t) Fl Lz Yx repeat_list Ld.lookup
    (Yn Yx (KH s j t) Le (Mj _ _) (Dq j t l its.toArray n)
     ⟨e,rfl,⟨_,e,rfl⟩,Yn CP ⟨_,e,rfl⟩ HW (Hq _ _) (GJ l its.toArray n j t hfit hcap hlong) ⟨e,?_⟩⟩)
   rw[hnew];exact ze4 (t':=s.toks) I hO (r.rep j.toNat) (by rw[len_rep,YK,←rs.length];exact c3) (rs.rep j.toNat) k
  ·cases e1
 ·rename_i ds j;split at e
  ·rename_i hj;obtain⟨es,e1,rfl⟩:=ZG.mp e;unfold repD at e1;split at e1
   ·rename_i hc;obtain⟨c1,c2,c3⟩:=hc;cases e1;obtain⟨l,xs,rfl,sq,rs⟩:=bx.tup;cases by'.int;obtain rfl:v=Za.ref l:=rx;obtain⟨t,rfl⟩:=ry;obtain⟨its,r,ht,hz⟩:=I.tuple sq;obtain⟨⟨cls,dd,data,sl⟩,ho,hcl,n,hd⟩:=id ht;simp only at hcl hd;subst hcl hd;have hlen:its.toArray.size*j.toNat≤Zu:=by rw[Zv,←r.length,←rs.length];exact c3
    have h1:(decide (j < -(2^63))||decide (j≥2^63))=false:=by simp;omega
    refine Gb (T := "tuple") (U := "int") (by decide) ⟨_,ho,rfl⟩ (fun s'=>KH s' j t) yV Lz Yx zbL Ld.lookup
     (Yn Yx (KH s j t) Le (Mj _ _) (kz j t l its.toArray n dd sl) ⟨ho,rfl,⟨_,ho,rfl⟩,?_⟩)
    by_cases h2:(its.toArray.isEmpty||j == 1)=true
    ·refine Yn Lx ⟨_,ho,rfl⟩ Hn (PN _ _) (kK l its.toArray n dd sl j t h1 h2) ⟨ho,?_⟩;have eq:(Qv j.toNat ds).flatten=ds:=by
      rcases Bool.or_eq_true_iff.mp h2 with q | q
      ·have:its=[]:=by simpa using q
       have:xs=[]:=(r.nil_iff).mp this;subst this;cases rs;simp
      ·have:j=1:=by simpa using q
       subst this;simp
     rw[eq]at k;exact⟨.ref l,H,I,rfl,k _ H (Same.refl _) (yp bx)⟩
    ·have h2:(its.toArray.isEmpty||j == 1)=false:=by simpa using h2
     have h2':=Bool.or_eq_false_iff.mp h2;have ej:((its.toArray.size:Nat):Int)*j=((its.toArray.size*j.toNat:Nat):Int):=by
      rw[Lb,El (by omega)]
     refine Yn Lx ⟨_,ho,rfl⟩ Hn (PN _ _) (kJ l its.toArray n dd sl j t h1 h2 ?_ ?_ ?_ ?_) ⟨ho,?_⟩
     ·rw[h2'.1,Kz];exact decide_eq_false (by omega)
     ·rw[ej];have:(Zu:Nat)≤(2^63-1) / 8:=by decide
      omega
     ·unfold Eo;rw[ej];exact decide_eq_false (by omega)
     ·rw[zax,Zv,len_rep,YK];simpa using hlen
     ·rw[zax];exact ze5 (t':=s.toks) I hO (r.rep j.toNat) (by rw[len_rep,YK,←rs.length];exact c3) (rs.rep j.toNat) k
   ·cases e1
  ·cases e
 ·cases e
end
end L2.Y
namespace L2.Y
open PySem PySem.Spec PyProof.Rows
theorem yC {A:QB}{k:Nat}(hr:Room k A):A.units+66<VF:=by have:=hr.un;omega
theorem xT {A:QB}{k:Nat}(hr:Room k A):A.units+64<VF:=by have:=hr.un;omega
theorem zbm {A:QB}{k:Nat}(hr:Room k A):A.units<VF:=by have:=hr.un;omega
end L2.Y
namespace L2.Y
open PySem
theorem jP {h:GT}{gb:GS}(P:Nat→Env'→Prop):∀(ds:List D) (i:Nat) (ρ:Env'),P i ρ→(∀k d ρ,ds[k]?=some d→P (i+k) ρ→∃ρ1 ρ2,h d ρ=some ρ1∧gb ρ1=some (.nxt ρ2)∧P (i+k+1) ρ2)→∃ρ',forF h gb ds ρ=some (.nxt ρ')∧P (i+ds.length) ρ'
 | [],i,ρ,h0,_=>⟨ρ,rfl,h0⟩
 | d::ds,i,ρ,h0,step=>by
  obtain⟨ρ1,ρ2,e1,e2,h2⟩:=step 0 d ρ rfl h0;obtain⟨ρ',e3,h3⟩:=jP P ds (i+1) ρ2 h2 (fun k d' ρ' hk hp=>by
   have:=step (k+1) d' ρ' (by simpa using hk) (by rw[show i+(k+1)=i+1+k by omega];exact hp);rw[show i+(k+1)+1=i+1+k+1 by omega]at this;exact this)
  refine⟨ρ',?_,by rw[Zz,show i+(ds.length+1)=i+1+ds.length by omega];exact h3⟩;show(h d ρ).bind _=_;rw[e1,Zd,e2,Zd];exact e3
theorem wN {h:GT}{gt:Env'→Option Bool}{ge:Env'→Option D}{ρ:Env'}(p:D→Bool) (f:D→D):∀(ds:List D),(∀d∈ds,∃ρ1,h d ρ=some ρ1∧gt ρ1=some (p d)∧(p d=true→ge ρ1=some (f d)))→qv h gt ge ρ ds=some ((ds.filter p).map f)
 | [],_=>rfl
 | d::ds,hh=>by
  obtain⟨ρ1,e1,e2,e3⟩:=hh d Zn;have ih:=wN p f ds fun d' hd=>hh d' (Zq _ hd);show(h d ρ).bind _=_;rw[e1,Zd,e2,Zd];cases q:p d with
  | true=>simp only[if_true];rw[e3 q,Zd,ih,Qs q];rfl
  | false=>simp only[Qq,if_false];rw[ih,QC (by simp[q])]
theorem vL {h:GT}{ge:Env'→Option D}{ρ:Env'}(f:D→D) (ds:List D) (hh:∀d∈ds,∃ρ1,h d ρ=some ρ1∧ge ρ1=some (f d)):qv h (fun _=>some true) ge ρ ds=some (ds.map f):=by
 rw[wN (fun _=>true) f ds fun d hd=>let ⟨ρ1,e1,e2⟩:=hh d hd;⟨ρ1,e1,rfl,fun _=>e2⟩];rw[Ym.mpr (fun _ _=>rfl)]
theorem zaf {lo:Int}{n:Nat}{d:D}(h:d∈zA lo n):∃k:Nat,k<n∧d=.int (lo+k):=by
 unfold zA at h;obtain⟨k,hk,rfl⟩:=Qd.mp h;exact⟨k,ZR.mp hk,rfl⟩
theorem qX {lo:Int}{n k:Nat}{d:D}(h:(zA lo n)[k]?=some d):k<n∧d=.int (lo+k):=by
 unfold zA at h;rw[Ql]at h;obtain⟨j,hj,rfl⟩:=ZG.mp h;have:=Qa.mp hj;obtain⟨h1,h2⟩:=this;simp at h1 h2;subst h2;exact⟨h1,rfl⟩
theorem zU (lo:Int) (n:Nat):(zA lo n).length=n:=by simp[zA]
theorem zgC (ds:List D):scrQ (scrD ds)=some ds:=by
 show some ((ds.map fun d=>((.none:D),d)).map (·.2))=some ds;rw[Qe];exact congrArg some (SJ ds)
theorem xb (i:Int):ZQ (.int i)=true:=by simp[ZQ,QF,Vo]
theorem vQ (i j:Int):eqD (.int i) (.int j)=some (.bool (decide (i=j))):=by
 simp only[eqD,xb,ZP]
 by_cases q:i=j <;> simp[q]
theorem zfZ (i j:Int):neD (.int i) (.int j)=some (.bool (!decide (i=j))):=by
 simp only[neD,xb,ZP]
 by_cases q:i=j <;> simp[q]
theorem zF (i j:Int):addD (.int i) (.int j)=some (.int (i+j)):=rfl
theorem qB (i j:Int):subD (.int i) (.int j)=some (.int (i-j)):=rfl
theorem jf {i j:Int}(h:0<j):modD (.int i) (.int j)=some (.int (i%j)):=if_pos h
theorem zfb {i j:Int}(h:0<j) (h2:j<1073741824):zhu (.int i) (.int j)=some (.int (i / j)):=if_pos ⟨h,h2⟩
theorem xX {i j:Int}(h1:-(2^64)<i) (h2:i<2^64):xB (.int i) (.int j)=some (.int (i*j)):=if_pos (.inl ⟨h1,h2⟩)
theorem wq {i j:Int}(h1:-(2^64)<j) (h2:j<2^64):xB (.int i) (.int j)=some (.int (i*j)):=if_pos (.inr ⟨h1,h2⟩)
theorem zcj (i j:Int):ltD (.int i) (.int j)=some (.bool (decide (i<j))):=rfl
theorem zj3 (i j:Int):leD (.int i) (.int j)=some (.bool (decide (i≤j))):=rfl
theorem zfs (i j:Int):gtD (.int i) (.int j)=some (.bool (decide (j<i))):=rfl
theorem zfn (i j:Int):geD (.int i) (.int j)=some (.bool (decide (j≤i))):=rfl
theorem wv (f:List D→Option D) (a:D):zH 1 f [a]=f [a]:=rfl
theorem qr (f:List D→Option D) (a b:D):zH 2 f [a,b]=f [a,b]:=rfl
theorem qT (f:List D→Option D) (a b c:D):zH 3 f [a,b,c]=f [a,b,c]:=rfl
theorem ziK (a:D):tupD [a]=some (.tuple [a]):=rfl
theorem zaX (a b:D):tupD [a,b]=some (.tuple [a,b]):=rfl
theorem zms (a b c:D):tupD [a,b,c]=some (.tuple [a,b,c]):=rfl
theorem zi6 (ds:List D):lenS [scrD ds]=some (.int ds.length):=by
 simp only[lenS,zgC,Uo]
theorem zmM (ds:List D) (j:Int):ixS (scrD ds) (.int j)=atI ds j:=by
 simp only[ixS,zgC,Zd]
theorem yz {α:Type}{xs:List α}{j:Int}{x:α}(h0:0≤j) (h:xs[j.toNat]?=some x):atI xs j=some x:=by
 have hlt:j.toNat<xs.length:=(Qa.mp h).1;unfold atI ixN;rw[if_pos h0,if_pos (by omega),Zd,h]
section
variable {ρ:Env'}
theorem zb {ga:Env'→Option D}{gr:Env'→Option (List D)}{x:D}{xs:List D}(h1:ga ρ=some x) (h2:gr ρ=some xs):zc ga gr ρ=some (x::xs):=by
 unfold zc;rw[h1,Zd,h2,Zd]
theorem zh:gNil ρ=some []:=rfl
theorem zG {d:D}:gK d ρ=some d:=rfl
theorem zD {h:List D→Option D}{g:Env'→Option (List D)}{xs:List D}{d:D}(h1:g ρ=some xs) (h2:h xs=some d):gA h g ρ=some d:=by
 unfold gA;rw[h1,Zd,h2]
theorem jY {h:List D→Option (List D)}{g:Env'→Option (List D)}{xs ds:List D}(h1:g ρ=some xs) (h2:h xs=some ds):gItA h g ρ=some ds:=by
 unfold gItA;rw[h1,Zd,h2]
theorem zce {h:List D→Option (List D)}{g:Env'→Option (List D)}{xs ds:List D}(h1:g ρ=some xs) (h2:h xs=some ds):gItL h g ρ=some ds:=by
 unfold gItL;rw[h1,Zd,h2]
theorem qg {f:D→Option (List D)}{g:Env'→Option D}{x:D}{ds:List D}(h1:g ρ=some x) (h2:f x=some ds):gIt f g ρ=some ds:=by
 unfold gIt;rw[h1,Zd,h2]
theorem zlr {h:D→Option D}{g:Env'→Option D}{x d:D}(h1:g ρ=some x) (h2:h x=some d):g1 h g ρ=some d:=by
 unfold g1;rw[h1,Zd,h2]
theorem zr {h:D→D→Option D}{ga gb:Env'→Option D}{x y d:D}(h1:ga ρ=some x) (h2:gb ρ=some y) (h3:h x y=some d):g2 h ga gb ρ=some d:=by
 unfold g2;rw[h1,Zd,h2,Zd,h3]
theorem ju {g:Env'→Option (List D)}{ds:List D}(h1:g ρ=some ds):gLs g ρ=some (.list ds):=by
 unfold gLs;rw[h1,Uo]
theorem jF {g:Env'→Option D}{b:Bool}(h1:g ρ=some (.bool b)):gBo g ρ=some b:=by
 unfold gBo;rw[h1];rfl
theorem zlt {g:Env'→Option D}{b:Bool}(h1:g ρ=some (.bool b)):gTr g ρ=some b:=by
 unfold gTr;rw[h1];rfl
theorem zhy {g:Env'→Option Bool}{b:Bool}(h1:g ρ=some b):zfl g ρ=some (!b):=by
 unfold zfl;rw[h1];rfl
theorem zc5 {g h:Env'→Option Bool}{a b:Bool}(h1:g ρ=some a) (h2:a=true→h ρ=some b):zdY g h ρ=some (a&&b):=by
 unfold zdY;rw[h1];cases a with
 | true=>exact h2 rfl
 | false=>rfl
theorem zc6 {g h:Env'→Option D}{a b:Bool}(h1:g ρ=some (.bool a)) (h2:a=true→h ρ=some (.bool b)):zcd g h ρ=some (.bool (a&&b)):=by
 unfold zcd;rw[jF h1];cases a with
 | true=>exact h2 rfl
 | false=>rfl
theorem zhz {g:Env'→Option D}{b:Bool}(h1:g ρ=some (.bool b)):zfm g ρ=some (.bool !b):=by
 unfold zfm;rw[jF h1];rfl
theorem zX {n:Nat}{caps:List Nat}{gi:Env'→Option (List D)}{h:GT}{gt:Env'→Option Bool}{ge:Env'→Option D}{ds r:List D}(h1:gi ρ=some ds) (h2:ds.length≤16777216) (h3:qv h gt ge (capS n caps ρ) ds=some r):jX n caps gi h gt ge ρ=some r:=by
 unfold jX;rw[h1,Zd,if_pos (show ds.length≤Zu from h2),h3]
theorem zbl {ga:Env'→Option D}{gl gh:GO}{d r:D}{lo hi:Option Int}(h1:ga ρ=some d) (h2:gl ρ=some lo) (h3:gh ρ=some hi) (h4:slD d lo hi=some r):gSl ga gl gh ρ=some r:=by
 unfold gSl;rw[h1,Zd,h2,Zd,h3,Zd,h4]
theorem xS {g:Env'→Option D}{i:Int}(h1:g ρ=some (.int i)):qF g ρ=some (some i):=by
 unfold qF;rw[h1];rfl
theorem xR {g:Env'→Option (List D)}{ds:List D}(h1:g ρ=some ds) (h2:ds.length≤16777216):gLst g ρ=some ds:=by
 unfold gLst;rw[h1,Zd];exact if_pos h2
theorem je {g:Env'→Option D}{d:D}(h:g ρ=some d):sRet g ρ=some (.ret d):=by
 unfold sRet;rw[h];rfl
theorem zdB {c:Env'→Option Bool}{g h:GS}{b:Bool}(h1:c ρ=some b):sIf c g h ρ=if b then g ρ else h ρ:=by
 unfold sIf;rw[h1,Zd]
theorem zT {h:GT}{g:Env'→Option D}{d:D}{ρ' : Env'}(h1:g ρ=some d) (h2:h d ρ=some ρ'):sAsg h g ρ=some (.nxt ρ'):=by
 unfold sAsg;rw[h1,Zd,h2];rfl
theorem zaM {i:Nat}{g:Env'→Option (List D)}{ds:List D}(h1:g ρ=some ds):sOwn i g ρ=some (.nxt (ρ.set i (some (.own (.list ds))))):=by
 unfold sOwn;rw[h1];rfl
theorem vg {i:Nat}{g:Env'→Option (List D)}{ds:List D}(h1:g ρ=some ds):zcz i g ρ=some (.nxt (ρ.set i (some (.val (.list ds))))):=by
 unfold zcz;rw[h1];rfl
end
end L2.Y
namespace L2.Y
open PySem PySem.Spec PyProof.Rows
theorem zjl (kvs:List (Key×V)) (ds:List D):tabT (.dict ((kvs.map fun p=>keyD p.1).zip ds))=none:=by
 cases kvs with
 | nil=>rfl
 | cons p r =>
  obtain⟨k,v⟩:=p;cases ds with
  | nil=>rfl
  | cons d ds=>cases k <;> rfl
theorem zmA {κ:Type}{f:κ→D}{K:Frag}{H:Hp}{kvs:List (κ×V)}{ds:List D}(r:Reps K H ds (kvs.map (·.2))):((kvs.map fun p=>f p.1).zip ds).length=kvs.length:=by
 have:=r.length;rw[Zi]at this;rw[List.length_zip,Zi,this,Nat.min_self]
section
variable {K:Frag}{O:List Zh}{H:Hp}{d:D}{v:V}{p:Zh}{kds:List (D×D)}
theorem OwnAt.tabT (h:OwnAt K O H d p) (e:Y.tabT d=some kds):∃kvs ds,H p=some (.dT kvs)∧Reps K (hide O H) ds (kvs.map (·.2))∧kds=(kvs.map fun q=>xA q.1).zip ds:=by
 cases h with
 | lst h r=>cases e
 | dK h r=>rw[zjl]at e;cases e
 | dT h r=>cases e;exact⟨_,_,h,r,rfl⟩
theorem RepB.tabT (h:RepB K O H d v) (e:Y.tabT d=some kds):∃a kvs ds,v=.ref a∧Rd H a (.dT kvs)∧Reps K (hide O H) ds (kvs.map (·.2))∧kds=(kvs.map fun q=>xA q.1).zip ds:=by
 cases h with
 | val h =>
  cases h with
  | dK h r=>rw[zjl]at e;cases e
  | dT h r=>cases e;exact⟨_,_,_,rfl,.inl (qh h).2,r,rfl⟩
  | dF h r=>cases e;exact⟨_,_,_,rfl,.inr ⟨_,(qh h).2⟩,r,rfl⟩
  | _=>cases e
 | own _ h =>
  obtain⟨kvs,ds,h1,h2,h3⟩:=h.tabT e;exact⟨_,kvs,ds,rfl,.inl h1,h2,h3⟩
theorem Rep.keyV {k:Key}(h:Rep K H (keyD k) v):v=kV k:=by
 cases k with
 | inl i=>cases h;rfl
 | inr x=>cases h;rfl
theorem RepB.keyV {k:Key}(h:RepB K O H (keyD k) v):v=kV k:=by
 cases k with
 | inl i=>exact RepB.int h
 | inr x=>exact RepB.str h
theorem Reps.keysV:∀ {ks:List Key}{vs:List V},Reps K H (ks.map keyD) vs→vs=ks.map kV
 | [],_,h=>by cases h;rfl
 | k::ks,_,h=>by
  cases h with
  | cons h r=>rw[h.keyV,Reps.keysV r];rfl
theorem RepB.tupH {ds:List D}(h:RepB K O H (.tuple ds) v):∃a xs,v=.ref a∧H a=some (.tup xs)∧Reps K (hide O H) ds xs:=by
 cases h with
 | val h =>
  cases h with
  | tup h r=>exact⟨_,_,rfl,(qh h).2,r⟩
 | own _ h=>cases h
theorem RepB.keysV {ks:List Key}(h:RepB K O H (xA ks) v):∃b,v=.ref b∧H b=some (.tup (ks.map kV)):=by
 obtain⟨a,xs,e,h1,h2⟩:=RepB.tupH h;rw[h2.keysV]at h1;exact⟨a,e,h1⟩
end
theorem zfU {κ:Type} [DecidableEq κ] {f:κ→D}{K:Frag}{H:Hp}(hf:∀a b,ZP (f a) (f b)=decide (a=b)) (k:κ) {kvs:List (κ×V)}{ds:List D}(r:Reps K H ds (kvs.map (·.2))) :
  (valV kvs k).isSome=(yF ((kvs.map fun p=>f p.1).zip ds) (f k)).isSome:=by
 obtain⟨h1,h2⟩:=zaE hf k r;cases e:yF ((kvs.map fun p=>f p.1).zip ds) (f k) with
 | none=>rw[h2 e];rfl
 | some d=>obtain⟨v,hv,_⟩:=h1 d e;rw[hv];rfl
section
variable {X:Cx}
theorem zct (hu:X.A.units+1<VF):OpD X (JS .NotIn) zhq:=by
 intro pins s σ H O x y v u dx dy d Q I hO rx ry bx by' e k;obtain⟨kds,e1,e⟩:=Zb.mp e;obtain⟨key,e2,e⟩:=Zb.mp e;cases e;obtain⟨a,kvs,ds,rfl,ha,rs,rfl⟩:=by'.tabT e1;cases wm e2;obtain⟨b,rfl,hb⟩:=bx.keysV;obtain rfl:u=Za.ref a:=ry;refine zjE hu I (.inr ⟨kvs,key,b,ha,rfl,hb,rfl⟩) rx fun s' I' => ?_;rw[zfU vS key rs];exact xP I' k
theorem zia {a b:Expr}{pos:Pos}{ga gb:Env'→Option D}(hu:X.A.units+1<VF) (ha:PB X a ga) (hb:PB X b gb) (hs:NoSl b):PD X (.Subscript a b pos) (g2 zhn ga gb) :=
 PE.imp (zkn hu ha hb hs) fun σ H Q hZq=>by
  obtain⟨F,O,ρ,d,r,e,k⟩:=hZq;obtain⟨dx,dy,e1,e2,e3⟩:=zay e;refine⟨F,O,ρ,dx,r,e1,fun x H1 s1 b1=>⟨F,O,ρ,dy,r.same s1,e2,fun y H2 s2 b2 => ?_⟩⟩;obtain⟨kds,e4,e⟩:=Zb.mp e3;obtain⟨key,e5,e⟩:=Zb.mp e;obtain⟨a,kvs,ds,rfl,ha,rs,rfl⟩:=(b1.same s2).tabT e4;cases wm e5;obtain⟨b,rfl,hb⟩:=b2.keysV;obtain⟨v,hv,rv⟩:=(zaE vS key rs).1 d e;exact⟨a,v,rfl,.inr ⟨kvs,key,b,ha,rfl,hb,hv.symm⟩,k v H2 (s1.trans s2) rv⟩
theorem zf8 {i:Nat}{ρ:Env'}{d:D}(h:ownD i ρ=some d):ρ[i]?=some (some (.own d)):=by
 unfold ownD at h;split at h
 ·cases h;assumption
 ·cases h
theorem kg {i:Nat}{x:Str}{e ix:Expr}{p spos pos:Pos}{gk ge:Env'→Option D}(hu:X.A.units+1<VF) (hv:PE X (.Name x p) (tVar i)) (hk:PD X ix gk) (he:PD X e ge)
  (hs:autoParam (Gw e (some (.Subscript (.Name x p) ix spos)) pos.line X.env=pure false) aTc):PSd X (.Assign [.Subscript (.Name x p) ix spos] e pos) (yS i gk ge) :=
 PS.imp (zkx hu hv hk he hs) fun D σ H hZq=>by
  obtain⟨F,O,ρ,out,r,e,k⟩:=hZq;obtain⟨d,e1,e⟩:=Zb.mp e;obtain⟨key,e2,e⟩:=Zb.mp e;obtain⟨dd,e3,e⟩:=Zb.mp e;obtain⟨kds,e4,e⟩:=Zb.mp e;obtain⟨kk,e5,e⟩:=Zb.mp e;split at e
  ·rename_i hl;cases e;have ho:=zf8 e3;refine⟨F,O,ρ,d,r,e1,fun v H1 s1 b1 => ?_⟩;have r1:=r.same s1;obtain⟨q,g1,g2,g3,g4⟩:=r1.own i _ ho;refine⟨_,g1,F,O,ρ,key,r1,e2,fun y H2 s2 b2 => ?_⟩;obtain⟨kvs,ds,hq,rq,rfl⟩:=(g4.same s2).tabT e4;cases wm e5;obtain⟨b,rfl,hb⟩:=(RepB.val b2).keysV;obtain⟨ds',e',rs'⟩:=zkJ vS kk (b1.same (zP s2)) rq;refine⟨q,_,rfl,DPut.t hq hb (by rw[zmA rq]at hl;exact hl),k O σ _ ((r1.same s2).mut ho g1 ?_)⟩;rw[e'];exact .dT zR (by rw[zL g2];exact rs')
  ·cases e
theorem zgn {tg:Expr}{i:Nat}{dpos pos:Pos}(hg:PG X tg (ky i)) (hs:autoParam (Wq [tg] (.Dict [] [] dpos) pos.line X.env=pure false) aTc) (hw:autoParam (Wr [tg] (.Dict [] [] dpos) X.env=pure none) aTc)
  (h1:autoParam ((Vb [tg] X.env).map (·.2)=[assign tg X.env]) aTc):PSd X (.Assign [tg] (.Dict [] [] dpos) pos) (zjh i):=PS.imp (zae zic hg hs hw h1) fun D σ H hZq=>by
 obtain⟨F,O,ρ,out,r,e,k⟩:=hZq;cases e;intro p hp;exact k (p::O) _ _ (r.newOwn hp (.dT (kvs:=[]) (ds:=[]) zR .nil))
theorem SR.adopt {K:Frag}{F:Fx}{O:List Zh}{ρ:Env'}{σ:St}{H:Hp}{p:Zh}{o:HO}{d:D}{i:Nat}(r:SR K F O ρ σ H) (hO:p∈O) (h0:p∉F.Oc∧F.H0 p=none)
  (free:∀(j:Nat) d',ρ[j]?=some (some (.own d'))→σ[j]?≠some (some (.ref p))) (ho:OwnAt K O (upd H p o) d p):SR K F O (ρ.set i (some (.own d))) (σ.set i (some (.ref p))) (upd H p o):=by
 have eh:hide O (upd H p o)=hide O H:=zL hO;refine⟨fun b u e => ?_,by rw[eh];exact r.vb,r.oc,fun q hq => ?_,by rw[JP,JP];exact r.len,fun j d' e => ?_,fun j d' e => ?_,fun j k d1 d2 q e1 e2 f1 f2 => ?_⟩
 ·rw[zu (zJ e h0.2)];exact r.hb _ _ e
 ·by_cases e:q=p
  ·subst e;exact ho.mut
  ·rw[zu e];exact r.dom q hq
 ·rcases get_set e with⟨rfl,e2,hl⟩ | ⟨ne,e2⟩
  ·cases e2
  ·rw[Qg ne,eh];exact r.val j d' e2
 ·rcases get_set e with⟨rfl,e2,hl⟩ | ⟨ne,e2⟩
  ·cases e2;exact⟨p,zcB (by rw[r.len];exact hl),hO,h0,ho⟩
  ·obtain⟨q,h1,h2,h3,h4⟩:=r.own j d' e2;have hq:q≠p:=fun z=>free j d' e2 (z▸h1);refine⟨q,by rw[Qg ne];exact h1,h2,h3,?_⟩;cases h4 with
   | lst h r=>exact .lst (by rw[zu hq];exact h) (by rw[eh];exact r)
   | dK h r=>exact .dK (by rw[zu hq];exact h) (by rw[eh];exact r)
   | dT h r=>exact .dT (by rw[zu hq];exact h) (by rw[eh];exact r)
 ·rcases get_set e1 with⟨rfl,_,_⟩ | ⟨ne1,e1⟩
  ·rcases get_set e2 with⟨rfl,_,_⟩ | ⟨ne2,e2⟩
   ·rfl
   ·rw[Qg ne2]at f2;rcases get_set f1 with⟨_,f1,_⟩ | ⟨z,_⟩
    ·cases f1;exact absurd f2 (free k d2 e2)
    ·exact absurd rfl z
  ·rcases get_set e2 with⟨rfl,_,_⟩ | ⟨ne2,e2⟩
   ·rw[Qg ne1]at f1;rcases get_set f2 with⟨_,f2,_⟩ | ⟨z,_⟩
    ·cases f2;exact absurd f1 (free j d1 e1)
    ·exact absurd rfl z
   ·rw[Qg ne1]at f1;rw[Qg ne2]at f2;exact r.sep j k d1 d2 q e1 e2 f1 f2
theorem RepB.scr {K:Frag}{O:List Zh}{H:Hp}{d:D}{v:V}{ds:List D}(h:RepB K O H d v) (e:scrQ d=some ds):∃a xs,v=.ref a∧SqL K H a xs∧Reps K (hide O H) ds xs:=by
 cases h with
 | val h =>
  cases h with
  | @dK a kvs es h r =>
   cases kvs with
   | nil=>cases e
   | cons p r =>
    obtain⟨k,w⟩:=p;cases es with
    | nil=>cases e
    | cons d es=>cases k <;> cases e
  | dT h r=>cases e
  | @scr a xs es h r =>
   have e':=(zgC es).symm.trans e;cases e';exact⟨_,_,rfl,SqL.same jg h,r⟩
  | _=>cases e
 | own _ h =>
  cases h with
  | lst h r=>cases e
  | @dK p kvs es h r =>
   cases kvs with
   | nil=>cases e
   | cons p r =>
    obtain⟨k,w⟩:=p;cases es with
    | nil=>cases e
    | cons d es=>cases k <;> cases e
  | dT h r=>cases e
theorem zlT {a b:Expr}{pos:Pos}{ga gb:Env'→Option D}(ha:PB X a ga) (hb:PB X b gb) (hs:zb5 b):PD X (.Subscript a b pos) (g2 ixS ga gb) :=
 PE.imp (zl0 zfC ha hb hs) fun σ H Q hZq=>by
  obtain⟨F,O,ρ,d,r,e,k⟩:=hZq;obtain⟨dx,dy,e1,e2,e3⟩:=zay e;obtain⟨ds,e4,e5⟩:=Zb.mp e3;refine⟨F,O,ρ,dx,r,e1,fun x H1 s1 b1=>⟨F,O,ρ,dy,r.same s1,e2,fun y H2 s2 b2 => ?_⟩⟩;split at e5
  ·rename_i i;obtain⟨p,xs,rfl,sq,rs⟩:=(b1.same s2).scr e4;cases b2.int;obtain⟨v,h1,h2⟩:=wD rs e5;exact⟨p,xs,i,v,rfl,rfl,sq,h1,k v H2 (s1.trans s2) h2⟩
  ·cases e5
theorem zdR:yT X (.builtin "len") lenS:=by
 intro pins s σ H O xs us ds d Q I hO rv bs e k;unfold lenS at e;split at e
 ·obtain⟨es,e1,rfl⟩:=ZG.mp e;obtain⟨v,rfl,b⟩:=bs.inv1;obtain⟨a,ys,rfl,sq,rs⟩:=b.scr e1;exact xM pins s σ H _ us Q I rv ⟨a,ys,rfl,.inl sq,by rw[←rs.length];exact k _ H (Same.refl _) (.int _)⟩
 ·cases e
end
end L2.Y
namespace L2.Y
open PySem PyProof.Rows
theorem xW (x y:Int) (xs ys:List Int):HT.lexLt (x::xs) (y::ys)=if x=y then HT.lexLt xs ys else decide (x<y):=rfl
theorem zck:HT.lexLt [] []=false:=rfl
theorem zj7 (y:Int) (ys:List Int):HT.lexLt [] (y::ys)=true:=rfl
theorem zh0 (x:Int) (xs:List Int):HT.lexLt (x::xs) []=false:=rfl
theorem wn:∀a:List Int,HT.lexLt a a=false
 | []=>rfl
 | x::xs=>by rw[xW,if_pos rfl,wn xs]
theorem wV:∀a b c:List Int,HT.lexLt a b=true→HT.lexLt b c=true→HT.lexLt a c=true
 | _,[],[],_,h=>by rw[zck]at h;cases h
 | [],[],_,h,_=>by rw[zck]at h;cases h
 | x::xs,[],_,h,_=>by rw[zh0]at h;cases h
 | _,y::ys,[],_,h=>by rw[zh0]at h;cases h
 | [],y::ys,z::zs,_,_=>rfl
 | x::xs,y::ys,z::zs,h1,h2=>by
  rw[xW]at h1 h2 ⊢
  by_cases e1:x=y
  ·subst e1;rw[if_pos rfl]at h1
   by_cases e2:x=z
   ·rw[if_pos e2]at h2 ⊢;exact wV xs ys zs h1 h2
   ·rw[if_neg e2]at h2 ⊢;exact h2
  ·rw[if_neg e1,decide_eq_true_eq]at h1
   by_cases e2:y=z
   ·subst e2;rw[if_neg e1,decide_eq_true_eq];exact h1
   ·rw[if_neg e2,decide_eq_true_eq]at h2;rw[if_neg (by omega),decide_eq_true_eq];omega
theorem zfP:∀a b c:List Int,HT.lexLt a c=true→HT.lexLt a b=true∨HT.lexLt b c=true
 | [],_,[],h=>by rw[zck]at h;cases h
 | x::xs,_,[],h=>by rw[zh0]at h;cases h
 | _,[],z::zs,_=>.inr rfl
 | [],y::ys,z::zs,_=>.inl rfl
 | x::xs,y::ys,z::zs,h=>by
  rw[xW]at h;rw[xW,xW]
  by_cases e1:x=y
  ·subst e1;rw[if_pos rfl]
   by_cases e2:x=z
   ·rw[if_pos e2]at h ⊢;exact zfP xs ys zs h
   ·rw[if_neg e2]at h ⊢;exact .inr h
  ·rw[if_neg e1]
   by_cases e2:x=z
   ·subst e2;rw[if_neg (fun z=>e1 z.symm)];rcases Int.lt_or_gt_of_ne e1 with q | q
    ·exact .inl (decide_eq_true q)
    ·exact .inr (decide_eq_true q)
   ·rw[if_neg e2,decide_eq_true_eq]at h
    by_cases q:x<y
    ·exact .inl (decide_eq_true q)
    ·refine .inr ?_;rw[if_neg (by omega),decide_eq_true_eq];omega
theorem kb:∀a b:List Int,HT.lexLt a b=false→HT.lexLt b a=false→a=b
 | [],[],_,_=>rfl
 | [],y::ys,h,_=>by rw[zj7]at h;cases h
 | x::xs,[],_,h=>by rw[zj7]at h;cases h
 | x::xs,y::ys,h1,h2=>by
  rw[xW]at h1 h2
  by_cases e:x=y
  ·subst e;rw[if_pos rfl]at h1 h2;rw[kb xs ys h1 h2]
  ·rw[if_neg e,decide_eq_false_iff_not]at h1;rw[if_neg (fun z=>e z.symm),decide_eq_false_iff_not]at h2;omega
noncomputable def zdf:KeyOrd:=⟨List Int,HT.lexLt,wn,wV,zfP,kb⟩
noncomputable def LeL (a b:List Int):Prop:=HT.lexLt b a=false
theorem vV (x:List Int):∀l,(insL x l).Perm (x::l)
 | []=>.refl _
 | y::r=>by
  unfold insL;split
  ·exact((vV x r).cons y).trans (.swap x y r)
  ·exact .refl _
theorem xf:∀l,(qo l).Perm l
 | []=>.refl _
 | x::r=>(vV x (qo r)).trans ((xf r).cons x)
theorem vW (x:List Int):∀l,l.Pairwise LeL→(insL x l).Pairwise LeL
 | [],_=>KR _ _
 | y::r,h=>by
  rw[Yu]at h;unfold insL;split
  ·rename_i hy;rw[Yu];refine⟨fun z hz => ?_,vW x r h.2⟩;rcases ZS.mp ((vV x r).mem_iff.mp hz) with e | e
   ·subst e;exact KeyOrd.klt_asymm (O:=zdf) hy
   ·exact h.1 z e
  ·rename_i hy;have hxy:LeL x y:=by unfold LeL;simpa using hy
   rw[Yu,Yu];refine⟨fun z hz => ?_,h.1,h.2⟩;rcases ZS.mp hz with e | e
   ·subst e;exact hxy
   ·exact KeyOrd.kle_trans (O:=zdf) (a:=x) (b:=y) (c:=z) hxy (h.1 z e)
theorem wa:∀l,(qo l).Pairwise LeL
 | []=>.nil
 | x::r=>vW x _ (wa r)
theorem zal:∀ {a b:List (List Int)},a.Pairwise LeL→b.Pairwise LeL→a.Perm b→a=b
 | [],b,_,_,p=>(List.nil_perm.mp p).symm
 | x::a,[],_,_,p=>absurd p.length_eq (by simp)
 | x::a,y::b,ha,hb,p=>by
  rw[Yu]at ha hb;have e:x=y:=by
   have hx:x∈y::b:=p.mem_iff.mp Zn;have hy:y∈x::a:=p.mem_iff.mpr Zn;rcases ZS.mp hx with z | z
   ·exact z
   rcases ZS.mp hy with w | w
   ·exact w.symm
   exact kb x y (hb.1 x z) (ha.1 y w)
  subst e;rw[zal ha.2 hb.2 ((List.perm_cons x).mp p)]
theorem vj {a b:List (List Int)}(p:a.Perm b) (h:a.Pairwise LeL):a=qo b:=zal h (wa b) (p.trans (xf b).symm)
open PySem.Spec PySem.W
theorem range_getD {α:Type}(l:List α) (d:α):(ZJ l.length).map (fun i=>l.getD i d)=l:=by
 apply DQ
 ·simp
 ·intro i h1 h2;simp[h2]
section
variable {prog:Qc}{w:QG}{A:QB}{E:Za→Zf→Prop}{s:Zf}
theorem zhT {b fin:Bool}{Q:Bool→Zf→Prop}:∀ {us vs:List Za}{is js:List Int}(i:Nat),Wn us is→Wn vs js→fin=decide (us.length<vs.length)→Q (HT.lexLt is js) s→KatLex prog w A b fin Q (us.zip vs) i s:=by
 intro us vs is js i hu
 induction hu generalizing vs js i with
 | nil =>
  intro hv hf h;cases hv with
  | nil=>subst hf;exact Cm h
  | cons c u hv=>subst hf;exact Cm h
 | cons a t hu ih =>
  intro hv hf h;cases hv with
  | nil=>subst hf;exact Cm h
  | cons c u hv =>
   rw[HT.lexLt_cons]at h;rw[Jz];refine kat_cons (Lr (kat_go (fun e=>kat_yes ?_) fun e=>kat_no ?_))
   ·rw[if_pos (Ls e)]at h;exact ih (i+1) hv (by rw[hf];simp) h
   ·have ne:¬a=c:=fun z=>by subst z;simp at e
    rw[if_neg ne]at h;cases hb:(b&&i == 0) with
    | true=>exact oneLt_int h
    | false=>exact kat_one _ _ (lt_int h)
noncomputable def TupI (h:Je) (v:Za) (is:List Int):Prop:=∃b o xs m,v=.ref b∧h.get? b=some o∧o.cls=.type "tuple" ∧ o.data=.seq xs m∧Wn xs.toList is∧is≠[]
theorem TupI.lt {b:Bool}{u v:Za}{is js:List Int}{Q:Bool→Zf→Prop}(h1:TupI s.heap u is) (h2:TupI s.heap v js) (h:Q (HT.lexLt is js) s):ZF (model prog w) A (keyLt' (Mx b) u v) Q E s:=by
 obtain⟨x,ox,xs,n,rfl,g1,c1,d1,i1,_⟩:=h1;obtain⟨y,oy,ys,m,rfl,g2,c2,d2,i2,_⟩:=h2;exact kat_lt g1 d1 g2 d2 (zhT 0 i1 i2 (by simp) h)
theorem TupI.keeps {h h' : Je}{v:Za}{is:List Int}{a:Zh}(x:TupI h v is) (k:∀b o,b≠a→h.get? b=some o→h'.get? b=some o) (hv:v≠.ref a):TupI h' v is:=by
 obtain⟨b,o,xs,n,rfl,g,r⟩:=x;exact⟨b,o,xs,n,rfl,k b o (fun z=>hv (by rw[z])) g,r⟩
theorem zgW {h:Je}:∀ {vs:List Za}{ks:List (List Int)},vs.length=ks.length→(∀(i:Nat) v k,vs[i]?=some v→ks[i]?=some k→TupI h v k)→∃fs,KatTups h vs fs∧fs.length=vs.length∧∀f∈fs,∃z t,f=.int z t
 | [],[],_,_=>⟨[],trivial,rfl,fun _ h=>by simp at h⟩
 | [],_::_,hl,_=>by simp at hl
 | _::_,[],hl,_=>by simp at hl
 | v::vs,k::ks,hl,hk=>by
  obtain⟨fs,t,l,q⟩:=zgW (vs:=vs) (ks:=ks) (by simpa using hl) (fun i u c h1 h2=>hk (i+1) u c (by simpa using h1) (by simpa using h2));obtain⟨b,o,xs,n,rfl,g,c,d,hi,hn⟩:=hk 0 v k rfl rfl;have hx:∃z t,xs[0]?=some (.int z t):=by
   rw[←QS];generalize xs.toList=zs at hi;cases hi with
   | nil=>exact absurd rfl hn
   | cons z t r=>exact⟨z,t,rfl⟩
  obtain⟨z,t',hz⟩:=hx;exact⟨.int z t'::fs,.cons g c d hz t,by simp[l],fun f hf=>by
   rcases ZS.mp hf with e | e
   ·exact⟨z,t',e⟩
   ·exact q f e⟩
theorem zhX {M:Te}{h:Je}(z:Int) (t:Tok):Looks M h (Nz (.int z t)) (.type "int"):=fun _ _ _ _ _ q=>Zj q
noncomputable def jB (ks:List (List Int)) (i:Nat):List Int:=ks.getD i []
theorem vK {l:Zh}{T:String}{o:Obj}{vs:List Za}{n:Nat}{Q:List Za→Zf→Prop}(hT:T = "list" ∨ T = "tuple") (ho:s.heap.get? l=some o) (hc:o.cls=.type T) (hd:o.data=.seq vs.toArray n) (hz:vs.length≤Zu)
  (h:Q vs { s with heap:=(s.heap.push (Jp "list" #[] 0)).update s.heap.objs.size (QR (·++vs.toArray)) }):ZF (model prog w) A (collect (.ref l)) Q E s:=by
 unfold collect;refine Zc (Rc (Vy Pn ?_));show ZF _ _ (do again (.builtin "list.__iadd__" ⟨[←NT [],.ref l],[]⟩)) _ _ s;refine Zc (Uu (Zj ⟨Ny _ (by decide +kernel),Vy Sq ?_⟩));show ZF _ _ (JZ (.ref s.heap.objs.size) (.ref l) (.ref s.heap.objs.size)) _ _ { s with heap:=s.heap.push (Jp "list" #[] 0) };unfold JZ;have ho' : (s.heap.push (Jp "list" #[] 0)).get? l=some o:=Ze _ ho;refine Zc (Uc (T:=T) ⟨o,ho',hc⟩ ?_);have y1:(Za.type "list" == Za.type "list")=true:=rfl;have y2:(Za.type "tuple" == Za.type "tuple")=true:=rfl;rw[if_pos (by rcases hT with rfl | rfl <;> simp only[y1,y2,Bool.or_true,CQ])];refine Zc (NZ ho' hd (Zc (NZ (xs:=#[]) (n:=0) (Zy _ rfl) rfl ?_)));rw[if_neg (by simp)];refine Zc (BJ (xs:=#[]) (n:=0) (Zy _ rfl) rfl ?_ (Qp _) (by show(#[]++vs.toArray).size≤Zu+1;simp only[Array.size_append,Zv,JQ];omega));refine Zj (Zc (Rf (Fo (Zy _ rfl) _) ?_));show ZF _ _ (pure ((#[]:Array Za)++vs.toArray).toList) Q E _;rw[show((#[]:Array Za)++vs.toArray).toList=vs by simp];exact Zj h
end
section
variable {X:Cx}
theorem zb0 {d:D}{is:List Int}(h:qp d=some is):d=.tuple (is.map Zm.int)∧is≠[]:=by
 unfold qp at h;split at h
 ·obtain⟨js,e1,e2⟩:=Zb.mp h;split at e2
  ·cases e2
  ·cases e2;exact⟨by rw[wk e1],by assumption⟩
 ·cases h
theorem zaF:∀ {ds:List D}{ks:List (List Int)},ds.mapM qp=some ks→ds=ks.map (fun k=>.tuple (k.map Zm.int))∧∀k∈ks,k≠[]
 | [],_,h=>by cases h;exact⟨rfl,fun _ h=>by simp at h⟩
 | d::ds,_,h=>by
  rw[Jh]at h;obtain⟨k,h1,h⟩:=Zb.mp h;obtain⟨r,h2,h⟩:=Zb.mp h;cases h;obtain⟨e1,e2⟩:=zb0 h1;obtain⟨e3,e4⟩:=zaF (ds:=ds) h2;exact⟨by rw[e1,e3];rfl,fun k' hk=>by
   rcases ZS.mp hk with e | e
   ·subst e;exact e2
   ·exact e4 k' e⟩
theorem yh {K:Frag}{H:Hp}{ds:List D}{vs:List V}(r:Reps K H ds vs):∀p:List Nat,(∀i∈p,i<ds.length)→Reps K H (p.map fun i=>ds.getD i .none) (p.map fun i=>vs.getD i .non)
 | [],_=>.nil
 | i::p,h=>by
  have hi:=h i Zn;obtain⟨v,h1,h2⟩:=r.get (i:=i) (d:=ds[i]) (by simp[hi]);refine .cons ?_ (yh r p fun j hj=>h j (Zq _ hj));have e1:ds.getD i .none=ds[i]:=by simp[hi]
  have e2:vs.getD i .non=v:=by rw[Vh,h1];rfl
  show Rep K H (ds.getD i .none) (vs.getD i .non);rw[e1,e2];exact h2
theorem kx {vs:List V}{us:List Za}{i:Nat}{u:Za}(r:Vals vs us) (h:us[i]?=some u):∃v,vs[i]?=some v∧RelV v u:=by
 have hi:i<us.length:=(Qa.mp h).1;have hl:vs.length=us.length:=r.length;obtain⟨u',h1,h2⟩:=r.get (i:=i) (x:=vs[i]'(by omega)) (by simp[hl,hi]);rw[h]at h1;cases h1;exact⟨_,by simp[hl,hi],h2⟩
theorem yr {vs:List V}{us:List Za}(r:Vals vs us):∀p:List Nat,(∀i∈p,i<vs.length)→Vals (p.map fun i=>vs.getD i .non) (p.map fun i=>us.getD i Za.none)
 | [],_=>.nil
 | i::p,h=>by
  have hi:=h i Zn;obtain⟨u,h1,h2⟩:=r.get (i:=i) (x:=vs[i]) (by simp[hi]);refine .cons ?_ (yr r p fun j hj=>h j (Zq _ hj));have e1:vs.getD i .non=vs[i]:=by simp[hi]
  have e2:us.getD i Za.none=u:=by rw[Vh,h1];rfl
  show RelV (vs.getD i .non) (us.getD i Za.none);rw[e1,e2];exact h2
theorem zaK {α:Type}{p:List Nat}{n:Nat}(h:p.Perm (ZJ n)) (f:Nat→α):(p.map f).Perm ((ZJ n).map f):=h.map f
end
end L2.Y
namespace L2.Y
open PySem PySem.Spec PyProof.Rows PySem.W
noncomputable def rkK (ks:List (List Int)) (k:List Int):Nat:=(ks.filter fun x=>HT.lexLt x k).length
theorem zfc {α:Type}{p q:α→Bool}(h:∀x,p x=true→q x=true):∀l:List α,(l.filter p).length≤(l.filter q).length
 | []=>Zg _
 | x::l=>by
  have:=zfc h l;cases hp:p x
  ·rw[QC (by rw[hp];decide)];cases hq:q x
   ·rw[QC (by rw[hq];decide)];exact this
   ·rw[Qs hq,Zz];omega
  ·rw[Qs hp,Qs (h x hp),Zz,Zz];omega
theorem zfd {α:Type}{p q:α→Bool}(h:∀x,p x=true→q x=true) {a:α}(hp:p a=false) (hq:q a=true):∀ {l:List α},a∈l→(l.filter p).length<(l.filter q).length
 | x::l,m=>by
  have le:=zfc h l;rcases ZS.mp m with e | m
  ·subst e;rw[QC (by rw[hp];decide),Qs hq,Zz];omega
  ·have:=zfd h hp hq m;cases hp' : p x
   ·rw[QC (by rw[hp'];decide)];cases hq' : q x
    ·rw[QC (by rw[hq'];decide)];exact this
    ·rw[Qs hq',Zz];omega
   ·rw[Qs hp',Qs (h x hp'),Zz,Zz];omega
theorem zmj {ks:List (List Int)}{a b:List Int}(ha:a∈ks):HT.lexLt a b=true→rkK ks a<rkK ks b:=fun h =>
 zfd (fun x hx=>wV x a b hx h) (wn a) h ha
theorem zdy {ks:List (List Int)}{a b:List Int}(ha:a∈ks) (hb:b∈ks):HT.lexLt a b=decide (rkK ks a<rkK ks b):=by
 cases h:HT.lexLt a b with
 | true=>exact(decide_eq_true (zmj ha h)).symm
 | false =>
  refine(decide_eq_false ?_).symm;cases h2:HT.lexLt b a with
  | true=>have:=zmj hb h2;omega
  | false =>
   obtain rfl:a=b:=zdf.total a b h h2;omega
theorem zif {α β:Type}(f:α→β) {l:List β}:∀ {m:List β},l.Perm m→∀(a:List α),m=a.map f→∃p:List α,p.Perm a∧l=p.map f:=fun h=>by
 induction h with
 | nil=>intro a e;cases a with
  | nil=>exact⟨[],.nil,rfl⟩
  | cons=>cases e
 | cons x _ ih =>
  intro a e;cases a with
  | nil=>cases e
  | cons y a =>
   obtain⟨e1,e2⟩:=Vf e;obtain⟨p,h1,h2⟩:=ih a e2;exact⟨y::p,h1.cons y,by rw[Zk,←e1,h2]⟩
 | swap x y l =>
  intro a e
  match a,e with
  | u::v::a,e =>
   obtain⟨e1,e2⟩:=Vf e;obtain⟨e3,e4⟩:=Vf e2;exact⟨v::u::a,.swap ..,by rw[Zk,Zk,←e1,←e3,e4]⟩
 | trans _ _ ih1 ih2 =>
  intro a e;obtain⟨p,h1,h2⟩:=ih2 a e;obtain⟨q,h3,h4⟩:=ih1 p h2;exact⟨q,h3.trans h1,h4⟩
section
variable {prog:Qc}{w:QG}{A:QB}{E:Za→Zf→Prop}{s:Zf}
theorem zaz:∀ {zs:List Za}{is js:List Int},Wn zs is→Wn zs js→is=js
 | _,_,_,.nil,.nil=>rfl
 | _,_,_,.cons n t r,.cons _ _ r'=>by rw[zaz r r']
theorem TupI.one {h:Je}{v:Za}{is js:List Int}(a:TupI h v is) (b:TupI h v js):is=js:=by
 obtain⟨x,o,xs,m,rfl,g,_,d,i,_⟩:=a;obtain⟨y,o',ys,m',e,g',_,d',i',_⟩:=b;cases e;rw[g]at g';cases g';rw[d]at d';cases d';exact zaz i i'
open Classical in
noncomputable def keyV (TP:Za→List Int→Prop) (v:Za):List Int:=if q:∃k,TP v k then Kl q else []
theorem zaA {TP:Za→List Int→Prop}(one:∀v a b,TP v a→TP v b→a=b) {v:Za}{k:List Int}(t:TP v k):keyV TP v=k:=by
 unfold keyV;rw[dif_pos ⟨k,t⟩];exact one _ _ _ (Lq (⟨k,t⟩:∃k,TP v k)) t
theorem zix {TP:Za→List Int→Prop}{vs:List Za}{ks:List (List Int)}{b:Bool}(one:∀v a b,TP v a→TP v b→a=b) (ltr:∀u v k j (Q:Bool→Zf→Prop) (E' : Za→Zf→Prop),TP u k→TP v j→Q (HT.lexLt k j) s→ZF (model prog w) A (keyLt' (Mx b) u v) Q E' s) (hl:vs.length=ks.length) (hk:∀(i:Nat) v k,vs[i]?=some v→ks[i]?=some k→TP v k) (nd:ks.Nodup) (h1:1≤vs.length) :
  ZF (model prog w) A (sortRuns'.run (YW (Mx b) (vs.toArray.zip vs.toArray) #[] 7 none)) (fun r s'=>s'=s∧Ue r.2=none∧∃p:List Nat,p.Perm (ZJ vs.length)∧(p.map (jB ks)).Pairwise LeL∧(ZV r.2).map (·.2)=(p.map fun i=>vs.getD i Za.none).toArray) E s:=by
 let a0:Array ZK:=vs.toArray.zip vs.toArray;have ea:a0.toList=(ZJ vs.length).map fun i=>(vs.getD i Za.none,vs.getD i Za.none):=by
  show(vs.toArray.zip vs.toArray).toList=_;rw[Dm];apply DQ
  ·simp
  ·intro i h1 h2;simp at h1 h2;simp[h1]
 have az:a0.size=vs.length:=by rw[←Qh,ea];simp
 have at' : ∀i,i<vs.length→TP (vs.getD i Za.none) (jB ks i)∧jB ks i∈ks:=fun i hi=>by
  have hi' : i<ks.length:=by omega
  have e2:ks[i]?=some (jB ks i):=by unfold jB;simp[hi']
  exact⟨hk i _ _ (by simp[hi]) e2,Jw e2⟩
 let rk:ZK→Nat:=fun x=>rkK ks (keyV TP x.1);have mem:∀x∈a0.toList,∃k,TP x.1 k∧k∈ks:=fun x hx=>by
  rw[ea]at hx;obtain⟨i,hi,rfl⟩:=Qd.mp hx;exact⟨_,at' i (ZR.mp hi)⟩
 have hc:CmpR prog w A E s a0 rk (Mx b):=fun x y st Q hx hy hkd q=>by
  obtain⟨k1,t1,m1⟩:=mem x hx;obtain⟨k2,t2,m2⟩:=mem y hy;rw[lt'_eq];refine Qx (Ut ?_);rw[hkd];refine Qx (wpS_lift (Uv (ltr _ _ _ _ _ _ t1 t2 ?_)));refine⟨rfl,ZC ?_⟩;have:decide (rk x<rk y)=HT.lexLt k1 k2:=by
   show decide (rkK ks (keyV TP x.1)<rkK ks (keyV TP y.1))=_;rw[zaA one t1,zaA one t2,zdy m1 m2]
  rw[←this];exact q
 have rkA:∀i,i<vs.length→rR rk a0 i=rkK ks (jB ks i):=fun i hi=>by
  unfold rR;have e:a0[i]?=some (vs.getD i Za.none,vs.getD i Za.none):=by
   rw[←QS,ea,Ql,Ef hi];rfl
  rw[e];show rkK ks (keyV TP (vs.getD i Za.none))=_;rw[zaA one (at' i hi).1]
 have dif:Dif rk a0:=fun i j hij hj=>by
  rw[az]at hj;rw[rkA i (by omega),rkA j hj];intro z;have m1:=(at' i (by omega)).2;have m2:=(at' j hj).2;have l1:=zdy m1 m2;have l2:=zdy m2 m1;rw[z,decide_eq_false (Vc _)]at l1;rw[z,decide_eq_false (Vc _)]at l2;have e:jB ks i=jB ks j:=zdf.total _ _ l1 l2;have i1:i<ks.length:=by omega
  have i2:j<ks.length:=by omega
  unfold jB at e;simp only[Vh,Va i1,Va i2,Nm]at e;exact(VG.mp nd) i j i1 i2 hij e
 have:=zk7 (prog:=prog) (w:=w) (A:=A) (E:=E) (s:=s) dif hc (st:=YW (Mx b) a0 #[] 7 none) ⟨Kv _,rfl,rfl⟩ rfl (by omega) (Q:=fun _ st'=>Ue st'=none∧∃p:List Nat,p.Perm (ZJ vs.length)∧(p.map (jB ks)).Pairwise LeL∧(ZV st').map (·.2)=(p.map fun i=>vs.getD i Za.none).toArray) fun st' hB asc=>by
  refine⟨hB.fail,?_⟩;obtain⟨p,pp,ep⟩:=zif (fun i=>(vs.getD i Za.none,vs.getD i Za.none)) (VB.mp hB.perm) (ZJ vs.length) ea;refine⟨p,pp,?_,?_⟩
  ·rw[JG,VG];intro i j hi hj hij;have pl:p.length=vs.length:=by rw[pp.length_eq,JH]
   have rp:∀i,(hi:i<p.length)→rR rk (ZV st') i=rkK ks (jB ks p[i]):=fun i hi=>by
    unfold rR;have e:(ZV st')[i]?=some (vs.getD p[i] Za.none,vs.getD p[i] Za.none):=by
     rw[←QS,ep,Ql,Va hi];rfl
    rw[e];show rkK ks (keyV TP (vs.getD p[i] Za.none))=_;rw[zaA one (at' p[i] (ZR.mp (pp.mem_iff.mp (KZ hi)))).1]
   have l:=asc i j (Qp _) hij (by omega);rw[rp i hi,rp j hj]at l;have q1:=(at' p[i] (ZR.mp (pp.mem_iff.mp (KZ hi)))).2;have q2:=(at' p[j] (ZR.mp (pp.mem_iff.mp (KZ hj)))).2;show HT.lexLt (jB ks p[j]) (jB ks p[i])=false;rw[zdy q2 q1];exact decide_eq_false (by omega)
  ·apply Yb.mp;rw[Do,ep,Qe];rfl
 exact this
end
end L2.Y
namespace L2.Y
open PySem PySem.Spec PyProof.Rows
section
variable {prog:Qc}{w:QG}{A:QB}{E:Za→Zf→Prop}{s:Zf}{it d:Zh}{i ep:Nat}{es:Array Bp}{od:Obj}{Q:Option Za→Zf→Prop}
theorem zbt {Q:Za→Zf→Prop}(hT:s.TypeIs (.ref d) "dict") (hd:(d == Vq)=false) (hod:s.heap.get? d=some od) (hdd:od.data=.dict es ep)
  (hQ:Q (.ref s.heap.objs.size) { s with heap:=s.heap.push { cls:=.type "dict_keyiterator",data:=.fields #[.ref d,.int 0 0,.int es.size 0,.int ep 0] } }):ZF (model prog w) A (pyIter (.ref d)) Q E s:=by
 refine wpAny_pyIter_slot hT HQ (JK HQ hT F.entry_dict_iter ?_ (F.args_dict_iter_1 _));unfold Builtin.«dict.__iter__» FP;refine Zc (Zc (wpAny_notOrdered_dict hT (Zj ?_)));show ZF _ _ (Ml d >>= _) _ _ s;unfold Ml;rw[if_neg (by rw[hd];exact Jd)];refine Zc (Zj (Zc (Mv hod hdd (Zc (Tj hod hdd ?_)))));refine Zc (Jo (Zj ⟨_,rfl, "dict_keyiterator",_,⟨_,Zy _ rfl,rfl⟩,Vw.lookup,?_⟩));simpa[KJ] using hQ
theorem zbs {e:Bp}(hit:s.heap.IsKeyIter it d i es.size ep) (hod:s.heap.get? d=some od) (hdd:od.data=.dict es ep) (he:es[i]?=some e)
  (hQ:∀h',h'.IsKeyIter it d (i+1) es.size ep→Gg it s.heap h'→Q (some e.key) { s with heap:=h' }):ZF (model prog w) A (Gi (.ref it)) Q E s:=by
 obtain⟨o,ho,hc,hd⟩:=id hit;have hlt:i<es.size:=(Array.getElem?_eq_some_iff.mp he).1;have hown:Gh "dict_keyiterator" = false:=by decide
 unfold Gi;refine Zc (Uv (JR (name:=Vp "__next__") hit.typeIs Vw (JK Vw hit.typeIs Lp ?_ (Lf _))));refine Zc (Zj (Zc (Zc ?_)))
 first | refine Zc (WL hit.typeIs (Zj ?_)) | refine Zc (Yy hit.typeIs (Zj (?_)))
 refine Zc (wpAny_fieldsOf ho hd ?_);simp only[hown,Qq,if_false];show ZF _ _ (if(Za.ref d == Za.none)=true then _ else _) _ _ s;rw[if_neg (show ¬((Za.ref d == Za.none)=true) from Jd)];refine Zc (Zj (Zc (Mv hod hdd ?_)));rw[if_neg (by simp)];refine Zc (Zj (Zc (Tj hod hdd ?_)));rw[if_neg (by simp)];refine Zj ?_;simp only[show ¬((i:Int)<0) from by omega,if_false,YM,he];refine Zc ?_
 first | refine Zc (WL hit.typeIs (Zj ?_)) | refine Zc (Yy hit.typeIs (Zj (?_)))
 refine Zc (Dp hit.typeIs ?_);show ZF _ _ (setField (.ref it) 1 (KJ ((i:Int)+1)) >>= _) _ _ s;have hit' : (s.heap.update it (Cr (·.setIfInBounds 1 (KJ ((i:Int)+1))))).IsKeyIter it d (i+1) es.size ep :=
  ⟨_,Vm _ ho (RB (Kf hd _)),(Ds ..).trans hc,by rw[Kf hd];simp[KJ]⟩
 refine Zc (Ez ho hd (by simp) (Zc (JW ?_)));refine Zc (Dp (s:={ s with heap:=s.heap.update it (Cr (·.setIfInBounds 1 (KJ ((i:Int)+1)))) }) hit'.typeIs ?_);show ZF _ _ (pure e.key) _ _ _;exact Zj (Zj ⟨_,rfl,Zj (hQ _ hit' (YQ ..))⟩)
theorem zdc (hh:A.handled=none) (hit:s.heap.IsKeyIter it d i es.size ep) (hod:s.heap.get? d=some od) (hdd:od.data=.dict es ep) (he:es.size≤i)
  (hQ:∀h',Fd it s.heap h'→Q none { s with heap:=h' }):ZF (model prog w) A (Gi (.ref it)) Q E s:=by
 obtain⟨o,ho,hc,hd⟩:=id hit;have hown:Gh "dict_keyiterator" = false:=by decide
 unfold Gi;refine Zc (Uv (JR (name:=Vp "__next__") hit.typeIs Vw (JK Vw hit.typeIs Lp ?_ (Lf _))));refine Zc (Zj (Zc (Zc ?_)))
 first | refine Zc (WL hit.typeIs (Zj ?_)) | refine Zc (Yy hit.typeIs (Zj (?_)))
 refine Zc (wpAny_fieldsOf ho hd ?_);simp only[hown,Qq,if_false];show ZF _ _ (if(Za.ref d == Za.none)=true then _ else _) _ _ s;rw[if_neg (show ¬((Za.ref d == Za.none)=true) from Jd)];refine Zc (Zj (Zc (Mv hod hdd ?_)));rw[if_neg (by simp)];refine Zc (Zj (Zc (Tj hod hdd ?_)));rw[if_neg (by simp)];refine Zj ?_;simp only[show ¬((i:Int)<0) from by omega,if_false,YM,Yz he];refine Zc ?_
 first | refine Zc (WL hit.typeIs (Zj ?_)) | refine Zc (Yy hit.typeIs (Zj (?_)))
 show ZF _ _ (setField (.ref it) 0 .none >>= _) _ _ s;refine Zc (Ez ho hd (by simp) ?_);show ZF _ _ (newExc (.type "StopIteration") [] >>= _) _ _ _;refine Zc ?_;simp only[newExc,newTuple];refine Zc (Jo (Zc (m:=Bb _ _) (LQ (a:=Za.none) (by first | rfl | (simp only[Bb];rfl)) (Jo ?_ (by size_fits)))) (by size_fits));simp only[raiseNew];refine Zc (wpAny_handled ?_);rw[show A.in1.handled=none from hh];refine Zc (Zj (wpAny_throw ?_));refine Zc (Yq (T := "StopIteration") (b:=true) ⟨_,Zy _ rfl,rfl⟩ isSubtype_stop (Zj ?_));exact hQ _ (((YQ ..).extBut.push _).push _)
end
theorem kP {P:Qc}{w:QG}{H:Hp}{h:Je}{a:Zh}{kvs:List (List Key×V)}(ok:jA P w H h a (.dT kvs)):∃o es ep,h.get? a=some o∧o.cls=.type "dict" ∧ o.data=.dict es ep∧(a == Vq)=false∧es.size=kvs.length ∧
  ∀(i:Nat) p,kvs[i]?=some p→∃b ent,es[i]?=some ent∧ent.key=.ref b∧H b=some (.tup (p.1.map kV)):=by
 obtain⟨z,hs,xs,rel,o,es,ep,h1,h2,h3,h4,h5⟩:=ok;have hl:=Kp rel;refine⟨o,es,ep,h1,h2.1,h3,hs,?_,fun i p hp => ?_⟩
 ·have:=congrArg Gz h4;rw[Zi,Qh]at this;omega
 ·have get:∀ {kvs:List (List Key×V)}{xs:List (List Key×Zh×Za)}{i:Nat},GR (fun(p:List Key×V) (q:List Key×Zh×Za)=>p.1=q.1∧H q.2.1=some (.tup (p.1.map kV))∧RelV p.2 q.2.2) kvs xs→kvs[i]?=some p→∃q,xs[i]?=some q∧H q.2.1=some (.tup (p.1.map kV)):=by
   intro kvs xs i r
   induction r generalizing i with
   | nil=>intro hp;simp at hp
   | cons hh t ih =>
    intro hp;cases i with
    | zero=>simp at hp;subst hp;exact⟨_,rfl,hh.2.1⟩
    | succ i=>obtain⟨q,a1,a2⟩:=ih (i:=i) (by simpa using hp);exact⟨q,by simpa using a1,a2⟩
  obtain⟨q,a1,a2⟩:=get rel hp;refine⟨q.2.1,Hu (Kw (jx P w)) q,?_,rfl,a2⟩;rw[←QS,h4,Ql,a1];rfl
theorem Inv.hold {X:Cx}{pins:List (Zh×Obj)}{σ:St}{H:Hp}{s:Zf}{a:Zh}{kvs:List (List Key×V)}(I:Inv X pins σ H s) (e:H a=some (.dT kvs)):∃o,Inv X pins σ (upd H a (.frz o (.dT kvs))) s:=by
 have ok:jA X.prog X.w H s.heap a (.dT kvs):=I.hok a _ e;obtain⟨z,hs,xs,rel,o,es,ep,h1,h2⟩:=id ok;refine⟨o,I.write (x:=a) (e:=a) (t':=s.toks) (h':=s.heap) (by rw[e];exact True.intro) (.inl rfl) (fun b u _ q=>q) ⟨o,h1⟩ ⟨h1,z,hs,xs,?_,o,es,ep,h1,h2⟩⟩;exact KT.keeps rel fun c ys ec=>by
  rw[zu (zka ec e (fun z=>nomatch z))];exact ec
theorem SR.hold {K:Frag}{F:Fx}{O:List Zh}{ρ:Env'}{σ:St}{H:Hp}{i:Nat}{p:Zh}{o:Obj}{kvs:List (List Key×V)}{ds:List D}{d:D}(r:SR K F O ρ σ H) (he:ρ[i]?=some (some (.own d))) (hs:σ[i]?=some (some (.ref p))) (hp:H p=some (.dT kvs)) (rd:Reps K (hide O H) ds (kvs.map (·.2))) :
  SR K F (O.filter (·≠p)) (ρ.set i (some (.val (.dict ((.none,.int 0)::(kvs.map fun q=>xA q.1).zip ds))))) σ (upd H p (.frz o (.dT kvs))):=by
 obtain⟨p',h1,hO,h0,_⟩:=r.own i _ he;rw[hs]at h1;cases h1;have sub:∀q∈O.filter (·≠p),q∈O:=fun q hq=>(Qk.mp hq).1;have np:p∉O.filter (·≠p):=fun z=>by simpa using (Qk.mp z).2
 have grow:Same (hide O H) (hide (O.filter (·≠p)) (upd H p (.frz o (.dT kvs)))):=fun b u e=>by
  obtain⟨e1,e2⟩:=qh e;rw[jQ (fun z=>e1 (sub b z)),zu (fun z:b=p=>e1 (by rw[z];exact hO))];exact e2
 refine⟨fun b u e => ?_,r.vb.trans grow,fun q hq=>Qk.mpr ⟨r.oc q hq,?_⟩,fun q hq => ?_,by rw[JP];exact r.len,fun j d' e => ?_,fun j d' e => ?_,fun j k d1 d2 q e1 e2 f1 f2 => ?_⟩
 ·rw[zu (zJ e h0.2)];exact r.hb _ _ e
 ·have:q≠p:=fun z=>h0.1 (z▸hq);simpa using this
 ·rw[zu (fun z:q=p=>np (by rw[z]at hq;exact hq))];exact r.dom q (sub q hq)
 ·rcases get_set e with⟨rfl,e2,hl⟩ | ⟨ne,e2⟩
  ·cases e2;exact⟨_,hs,.dF (o:=o) (by rw[jQ np,zR]) (rd.same grow)⟩
  ·obtain⟨v,h1,h2⟩:=r.val j d' e2;exact⟨v,h1,h2.same grow⟩
 ·rcases get_set e with⟨rfl,e2,hl⟩ | ⟨ne,e2⟩
  ·cases e2
  ·obtain⟨q,h1,h2,h3,h4⟩:=r.own j d' e2;have hq:q≠p:=fun z=>by subst z;exact ne (r.sep i j _ d' q he e2 hs h1)
   refine⟨q,h1,Qk.mpr ⟨h2,by simpa using hq⟩,h3,?_⟩;cases h4 with
   | lst h r=>exact .lst (by rw[zu hq];exact h) (r.same grow)
   | dK h r=>exact .dK (by rw[zu hq];exact h) (r.same grow)
   | dT h r=>exact .dT (by rw[zu hq];exact h) (r.same grow)
 ·rcases get_set e1 with⟨rfl,e1,_⟩ | ⟨ne1,e1⟩
  ·cases e1
  rcases get_set e2 with⟨rfl,e2,_⟩ | ⟨ne2,e2⟩
  ·cases e2
  exact r.sep j k d1 d2 q e1 e2 f1 f2
section
variable {X:Cx}
theorem zjP (i:Nat) (ρ:Env'):frzT i ρ=ρ∨∃r,ρ[i]?=some (some (.own (.dict ((.none,.none)::r))))∧frzT i ρ=ρ.set i (some (.val (.dict ((.none,.int 0)::r)))):=by
 unfold frzT;split
 ·exact .inr ⟨_,by assumption,rfl⟩
 ·exact .inl rfl
theorem ziq {st:YZ}{g:GS}(i:Nat) (h1:PSd X st g):PSd X st (fun ρ=>g (frzT i ρ)):=fun pins s σ H D I hZq=>by
 obtain⟨F,O,ρ,out,r,e,k⟩:=hZq;have e:g (frzT i ρ)=some out:=e;rcases zjP i ρ with q | ⟨rr,he,q⟩
 ·rw[q]at e;exact h1 pins s σ H D I ⟨F,O,ρ,out,r,e,k⟩
 ·rw[q]at e;obtain⟨p,hs,hO,h0,ho⟩:=r.own i _ he;obtain⟨kvs,ds,hp,rd,rfl⟩:=ho.tabT rfl;obtain⟨o,I'⟩:=Inv.hold I hp;exact h1 pins s σ _ D I' ⟨F,_,_,out,r.hold he hs hp rd,e,k⟩
noncomputable def ItF (a:Zh) (o:Obj) (kvs:List (List Key×V)):It :=
 ⟨fun i H=>H a=some (.frz o (.dT kvs))∧i<kvs.length,fun i H x H'=>H'=H∧∃p b,kvs[i]?=some p∧x=.ref b∧H b=some (.tup (p.1.map kV)),fun i H=>H a=some (.frz o (.dT kvs))∧kvs.length≤i⟩
theorem yK {P:Qc}{w:QG}{H:Hp}{h:Je}{a:Zh}{o:Obj}{kvs:List (List Key×V)}{es:Array Bp}{ep:Nat}(ok:HOk P w H h) (e:H a=some (.frz o (.dT kvs))) (hd:o.data=.dict es ep):h.get? a=some o∧es.size=kvs.length ∧
  ∀(i:Nat) p,kvs[i]?=some p→∃b ent,es[i]?=some ent∧ent.key=.ref b∧H b=some (.tup (p.1.map kV)):=by
 obtain⟨h1,h2⟩:=(show jA P w H h a (.frz o (.dT kvs)) from ok a _ e)
 obtain⟨o',es',ep',g1,g2,g3,g4,g5,g6⟩:=kP h2;rw[h1]at g1;cases g1;rw[hd]at g3;cases g3;exact⟨h1,g5,g6⟩
theorem zgX {P:Qc}{w:QG}{K:Frag}{tg:Expr}{a it:Zh}{o:Obj}{kvs:List (List Key×V)}{es:Array Bp}{ep:Nat}(hd:o.data=.dict es ep):Turn P w K tg (ItF a o kvs) [it] it (fun i h=>h.IsKeyIter it a i es.size ep) where
 mem:=by simp
 obj:=fun i h st b hb=>by
  have e:b=it:=by simpa using hb
  subst e;obtain⟨o,e,c,d⟩:=st;exact⟨o,e,fun v z=>by rw[d]at z;cases z⟩
 keep:=fun i h h' st k=>st.at fun o e=>k it (by simp) o e
 item:=by
  intro X hP hw hK hc i pins s σ H E I hf st hZq;obtain⟨ha,hi⟩:=hZq;subst hP hw hK;obtain⟨e1,e2,e3⟩:=yK I.hok ha hd;obtain⟨b,ent,g1,g2,g3⟩:=e3 i kvs[i] (by simp[hi]);obtain⟨f0,f1,f2,f3,f4,f5⟩:=hf it (by simp);refine zbs st e1 hd g1 fun h' st' sb => ?_;rw[g2];have I1:Inv X pins σ H { s with heap:=h' }:=I.turned (t':=s.toks) (fun b o hb e=>(sb.2 b hb).trans e) f0 f1 f3 f4 f5;obtain⟨o',e,c,d⟩:=id st';exact⟨_,rfl,zhA (s:={ s with heap:=h' }) e c d (by decide) ⟨.ref b,H,I1,rfl,⟨rfl,kvs[i],b,by simp[hi],rfl,g3⟩,st',fun b hb=>(hf b hb).1⟩⟩
 done:=by
  intro X hP hw hK hc i pins s σ H E I hf st hZq;obtain⟨ha,hi⟩:=hZq;subst hP hw hK;obtain⟨e1,e2,e3⟩:=yK I.hok ha hd;obtain⟨f0,f1,f2,f3,f4,f5⟩:=hf it (by simp);exact zdc (I.ok.hd hc) st e1 hd (by omega) fun h' eb=>⟨rfl,I.turned (t':=s.toks) (fun b o hb e=>eb b o hb e) f0 f1 f3 f4 f5⟩
 self:=fun _ _ _ _ _ st h=>Pb st h
theorem kj {K:Frag}{H:Hp}:∀ks:List Key,Reps K H (ks.map keyD) (ks.map kV)
 | []=>.nil
 | .inl i::ks=>.cons (.int i) (kj ks)
 | .inr x::ks=>.cons (.str x) (kj ks)
theorem zhM {K:Frag}{B:Hp}{a:Zh}{o:Obj}{kvs:List (List Key×V)}(h:B a=some (.frz o (.dT kvs))):ItD K B (ItF a o kvs) (kvs.map fun p=>xA p.1) where
 go:=fun i H s hi=>⟨s _ _ h,by simpa using hi⟩
 yld:=fun i H x H' d s hd y=>by
  obtain⟨rfl,p,b,hp,rfl,hb⟩:=y;rw[Ql,hp]at hd;cases hd;exact .old fun O sm dm=>.tup (by rw[jQ (dm.tup hb)];exact hb) (kj p.1)
 stop:=fun H s=>⟨s _ _ h,by simp⟩
theorem zgh {tg e:Expr}{ge:Env'→Option D}(h:PD X e ge):PId X tg e (gIt ziY ge):=by
 intro pins s σ H R I hZq;obtain⟨F,O,ρ,ds,r,e,k⟩:=hZq;obtain⟨d,e1,e2⟩:=Zb.mp e;refine thn (h pins s σ H (fun v H1=>Same H H1∧Rep X.K (hide O H1) d v) I ⟨F,O,ρ,d,r,e1,fun v H1 s1 rb=>⟨s1,rb⟩⟩) fun v s1 hZq => ?_;obtain⟨x,H1,I1,r1,sm,rb⟩:=hZq;have hF:∃a o kvs,x=.ref a∧hide O H1 a=some (.frz o (.dT kvs))∧ds=kvs.map (fun p=>xA p.1):=by
  cases rb with
  | @dF a o kvs ds' h r =>
   refine⟨a,o,kvs,rfl,h,?_⟩;have hl:=r.length;rw[Zi]at hl;have e2' : some (((kvs.map fun p=>xA p.1).zip ds').map (·.1))=some ds:=e2;rw[←QT e2'];exact DN (by simp[hl])
  | @dK a kvs es h r =>
   exfalso;cases kvs with
   | nil=>cases e2
   | cons p r =>
    obtain⟨k,w⟩:=p;cases es with
    | nil=>cases e2
    | cons d es=>cases k <;> cases e2
  | _=>cases e2
 obtain⟨a,o,kvs,rfl,ha,rfl⟩:=hF;obtain rfl:v=Za.ref a:=r1;have ok:=I1.hok a _ (qh ha).2;obtain⟨q1,q2⟩:=(show jA X.prog X.w H1 s1.heap a (.frz o (.dT kvs)) from ok)
 obtain⟨o',es,ep,g1,g2,g3,g4,g5,g6⟩:=kP q2;rw[q1]at g1;cases g1;refine zbt ⟨o,q1,g2⟩ g4 q1 g3 ?_;refine⟨s1.heap.objs.size,[s1.heap.objs.size],_,_,H1,rfl,I1.kept (t':=s1.toks) fun b o e=>Ze _ e,zgX (kvs:=kvs) g3,⟨_,Zy _ rfl,rfl,rfl⟩,fun b hb => ?_,k _ H1 sm (zhM ha)⟩;have e:b=s1.heap.objs.size:=by simpa using hb
 subst e;exact I1.fpOk (Zg _) (I1.hok.fresh (Zg _))
end
end L2.Y
namespace L2.Y
open PySem PySem.Spec PyProof.Rows PySem.W
section
variable {prog:Qc}{w:QG}{A:QB}{E:Za→Zf→Prop}{s:Zf}
theorem wX {T:Za}{a:Zh}{vs:List Za}{ks:List (List Int)}{n:Nat}{P:Dh→Zf→Prop}(ho:s.heap.get? a=some (Jp "list" vs.toArray n)) (hl:vs.length=ks.length) (hT:(T == T)=true) (H6:∀s6:Zf,(∀b o,b≠a→s.heap.get? b=some o→s6.heap.get? b=some o)→∃(TP:Za→List Int→Prop) (fs:List Za),(∀v a b,TP v a→TP v b→a=b)∧(∀u v k j (Q:Bool→Zf→Prop) (E' : Za→Zf→Prop),TP u k→TP v j→Q (HT.lexLt k j) s6→ZF (model prog w) A (keyLt' (Mx (T != Za.type "tuple")) u v) Q E' s6)∧(∀(i:Nat) v k,vs[i]?=some v→ks[i]?=some k→TP v k)∧KatTups s6.heap vs fs∧fs.length=vs.length∧∀f∈fs,Looks (model prog w) s6.heap (Nz f) T) (nd:ks.Nodup) (hz:vs.length≤Zu)
  (h:∀p:List Nat,p.Perm (ZJ vs.length)→(p.map (jB ks)).Pairwise LeL→P (.done (.ret .none)) { s with heap:=Rh s.heap a vs (p.map fun i=>vs.getD i Za.none).toArray }) :
  ZF (model prog w) A (Builtin.«list.sort» ⟨[.ref a],[]⟩) P E s:=by
 have lta:a<s.heap.objs.size:=ZD ho;have fit:vs.toArray.size≤Zu:=by rw[Zv];exact hz
 rw[list_sort_plain];refine Zc (NZ ho rfl (Zc (BJ ho rfl ?_ fit (Qp _))));obtain⟨e1,ho1⟩:∃e1,(s.heap.update a (QR fun _=>(#[]:Array Za))).get? a=some (Jp "list" #[] e1):=⟨_,Fo ho (fun _=>#[])⟩
 refine Zc (Ph ho1 rfl (Zc (wpAny_newTuple ?_ fit)));refine Zc (Uu ?_ (Qp _));refine JW ?_;have keep:∀b o,b≠a→s.heap.get? b=some o→(((s.heap.update a (QR fun _=>(#[]:Array Za))).push (Jp "tuple" vs.toArray 0)).push (Jp "list" #[] 0)).get? b=some o:=fun b o hb e =>
  Ze _ (Ze _ (by rw[Ei _ _ _ _ hb];exact e))
 have ho6:(((s.heap.update a (QR fun _=>(#[]:Array Za))).push (Jp "tuple" vs.toArray 0)).push (Jp "list" #[] 0)).get? a=some (Jp "list" #[] e1):=Ze _ (Ze _ ho1);show ZF (model prog w) A _ P E { s with heap:=((s.heap.update a (QR fun _=>(#[]:Array Za))).push (Jp "tuple" vs.toArray 0)).push (Jp "list" #[] 0) };generalize hg:({ s with heap:=((s.heap.update a (QR fun _=>(#[]:Array Za))).push (Jp "tuple" vs.toArray 0)).push (Jp "list" #[] 0) }:Zf)=s6;have eh:s6.heap=((s.heap.update a (QR fun _=>(#[]:Array Za))).push (Jp "tuple" vs.toArray 0)).push (Jp "list" #[] 0):=by rw[←hg]
 have fin:∀out:Array Za,({ s6 with heap:=s6.heap.update a (QR fun _=>out) }:Zf)={ s with heap:=Rh s.heap a vs out }:=fun out=>by rw[←hg];rfl
 rw[←eh]at ho6 keep;dsimp only
 by_cases h2:vs.toArray.size<2
 ·rw[if_pos h2,if_pos h2];refine Zc (Zj ?_);rw[StateT.run_pure];refine Zc (Zj ?_);dsimp only;have e0:(ZV (YW general' (vs.toArray.zip vs.toArray) #[] 7 none)).map (·.2)=((ZJ vs.length).map fun i=>vs.getD i Za.none).toArray:=by
   rw[range_getD];show(vs.toArray.zip vs.toArray).map (·.2)=vs.toArray;apply Yb.mp;rw[Do,Dm];exact List.map_snd_zip (Zg _)
  rw[e0];refine Zc (Ph ho6 rfl (Zc (BJ ho6 rfl ?_ (Qp _) (by simp;omega))));simp only[bne_self_eq_false,Qq,if_false];rw[fin];refine Zj (h (ZJ vs.length) (.refl _) ?_);rw[Zv]at h2
  match vs.length,h2 with
  | 0,_=>exact .nil
  | 1,_=>exact KR _ _
 ·rw[if_neg h2,if_neg h2];have h2' : 2≤vs.length:=by rw[Zv]at h2;omega
  obtain⟨TP,fs,one,ltr,hk6,tf,lf,qf⟩:=H6 s6 keep;refine Zc (kat_kind tf (by omega) (T:=T) qf hT ?_);refine Zc (VL (zix (s:=s6) one ltr hl hk6 nd (by omega)) ?_ fun _ _ e=>e);rintro⟨⟨⟩,st'⟩ s' ⟨rfl,hf,q,pq,sq,hout⟩;dsimp only;have hqs:q.length=vs.length:=by have:=pq.length_eq;simpa using this
  rw[hout];refine Zc (Ph ho6 rfl (Zc (BJ ho6 rfl ?_ (Qp _) (by simp[hqs];omega))));rw[hf];simp only[bne_self_eq_false,Qq,if_false];rw[fin];exact Zj (h q pq sq)
theorem wW {a:Zh}{vs:List Za}{ks:List (List Int)}{n:Nat}{P:Dh→Zf→Prop}(ho:s.heap.get? a=some (Jp "list" vs.toArray n)) (hl:vs.length=ks.length) (hk:∀(i:Nat) v k,vs[i]?=some v→ks[i]?=some k→TupI s.heap v k) (ha:∀v∈vs,v≠.ref a) (nd:ks.Nodup) (hz:vs.length≤Zu)
  (h:∀p:List Nat,p.Perm (ZJ vs.length)→(p.map (jB ks)).Pairwise LeL→P (.done (.ret .none)) { s with heap:=Rh s.heap a vs (p.map fun i=>vs.getD i Za.none).toArray }) :
  ZF (model prog w) A (Builtin.«list.sort» ⟨[.ref a],[]⟩) P E s :=
 wX (T:=.type "int") ho hl rfl (fun s6 keep=>by
  have hk6:∀(i:Nat) v k,vs[i]?=some v→ks[i]?=some k→TupI s6.heap v k:=fun i v k g1 g2=>(hk i v k g1 g2).keeps keep (ha v (Jw g1));obtain⟨fs,tf,lf,qf⟩:=zgW hl hk6;exact⟨TupI s6.heap,fs,fun v a b h1 h2=>h1.one h2,fun u v k j Q E' h1 h2 h=>TupI.lt h1 h2 h,hk6,tf,lf,fun v hv=>by
   obtain⟨z,t,rfl⟩:=qf v hv;exact zhX z t⟩) nd hz h
end
end L2.Y
namespace L2.Y
open PySem PySem.Spec PyProof.Rows PySem.W
section
variable {prog:Qc}{w:QG}{A:QB}{E:Za→Zf→Prop}{s:Zf}
theorem zcG {l:Zh}{T:String}{o:Obj}{vs:List Za}{ks:List (List Int)}{n:Nat}{Q:Za→Zf→Prop}(hT:T = "list" ∨ T = "tuple") (ho:s.heap.get? l=some o) (hc:o.cls=.type T) (hd:o.data=.seq vs.toArray n)
  (hl:vs.length=ks.length) (hk:∀(i:Nat) v k,vs[i]?=some v→ks[i]?=some k→TupI s.heap v k) (nd:ks.Nodup) (fit:vs.length≤Zu)
  (h:∀p:List Nat,p.Perm (ZJ vs.length)→(p.map (jB ks)).Pairwise LeL→Q (.ref (s.heap.objs.size+1)) { s with heap:=sortedAll s.heap vs (p.map fun i=>vs.getD i Za.none).toArray }) :
  ZF (model prog w) A (call (.builtin "sorted") [.ref l]) Q E s:=by
 refine Km Pj NQ Dc (Dd _) ?_;unfold Builtin.«sorted»;refine Zc (m:=Hv "sorted" 1 1 _) (Zj (Zc (vK hT ho hc hd fit (Zc (Uu ?_ (by simpa using fit))))));have hsz:((s.heap.push (Jp "list" #[] 0)).update s.heap.objs.size (QR (·++vs.toArray))).objs.size=s.heap.objs.size+1:=by rw[DY,Ht]
 have hoL:(((s.heap.push (Jp "list" #[] 0)).update s.heap.objs.size (QR (·++vs.toArray))).push (Jp "list" vs.toArray 0)).get? (s.heap.objs.size+1)=some (Jp "list" vs.toArray 0):=by
  rw[←hsz];exact Zy _ rfl
 have keep:∀b u,s.heap.get? b=some u→(((s.heap.push (Jp "list" #[] 0)).update s.heap.objs.size (QR (·++vs.toArray))).push (Jp "list" vs.toArray 0)).get? b=some u:=fun b u e =>
  Ze _ (by rw[Ei _ _ _ _ (QD (ZD e))];exact Ze _ e)
 have ltv:∀v∈vs,v≠.ref (s.heap.objs.size+1):=fun v hv z=>by
  obtain⟨i,hi,e⟩:=Wm hv;obtain⟨b,ob,_,_,eb,g,_⟩:=hk i v (ks[i]'(by omega)) (by rw[←e];simp[hi]) (by simp[←hl,hi]);rw[z]at eb;cases eb;exact absurd (WR (ZD g)) (Vc _)
 show ZF _ _ _ _ _ { s with heap:=((s.heap.push (Jp "list" #[] 0)).update s.heap.objs.size (QR (·++vs.toArray))).push (Jp "list" vs.toArray 0) };rw[hsz];refine Zc (JW (JK Ri ⟨_,hoL,rfl⟩ Tq (wW (ks:=ks) hoL hl (fun i v k g1 g2 => ?_) ltv nd fit fun p a1 a2=>⟨_,rfl,Zj ⟨_,rfl,h p a1 a2⟩⟩) (Rq _)));obtain⟨b,ob,xs,m,eb,g,r⟩:=hk i v k g1 g2;exact⟨b,ob,xs,m,eb,keep b ob g,r⟩
end
section
variable {X:Cx}
theorem zge {p pos:Pos}{e:Expr}{g:Env'→Option (List D)}(hg:Gl X "sorted") (hm:X.mg "sorted" = none) (ha:PAb X [e] g) (he:autoParam (Qm [e] X.env=[(false,eval e X.env)]) aTc) :
  PFr X (.Call (.Name "sorted" p) [e] [] pos) (gItL zaP g):=by
 have hc:xH X (.builtin "sorted") (fun xs H Q=>∃O a ds ks ys,xs=[.ref a]∧Dom O H∧(SqL X.K H a ys∨SqT X.K H a ys)∧Reps X.K (hide O H) ds ys∧ds.mapM qp=some ks∧(ks.length<64∧ks.Nodup) ∧
   ∀l zs,H l=none→Reps X.K (hide O H) ((qo ks).map fun k=>.tuple (k.map Zm.int)) zs→Q (.ref l) (upd H l (.lst zs))):=by
  intro pins s σ H xs us Q I rv hZq;obtain⟨O,a,ds,ks,ys,e,hO,sq,rs,em,h64,k⟩:=hZq;subst e;obtain⟨u,rfl,ru⟩:=vals1 rv;obtain rfl:u=Za.ref a:=ru;obtain⟨eds,kne⟩:=zaF em;have hseq:∃T o its n,(T = "list" ∨ T = "tuple")∧s.heap.get? a=some o∧o.cls=.type T∧o.data=.seq its.toArray n∧Vals ys its:=by
   rcases sq with sq | sq
   ·obtain⟨its,r,⟨o,n,e,c,_,dd⟩,_⟩:=I.list sq;exact⟨"list",o,its,n,.inl rfl,e,c,dd,r⟩
   ·obtain⟨its,r,⟨o,e,c,n,dd⟩,_⟩:=I.tuple sq;exact⟨"tuple",o,its,n,.inr rfl,e,c,dd,r⟩
  obtain⟨T,o,its,n,hT,ho,hcl,hd,rv⟩:=hseq;have l1:ds.length=ys.length:=rs.length;have l2:ys.length=its.length:=rv.length;have l3:ds.length=ks.length:=by rw[eds];simp
  have hfree:H (s.heap.objs.size+1)=none:=I.hok.fresh (Yw _);refine zcG hT ho hcl hd (ks:=ks) (by omega) (fun i v c g1 g2 => ?_) h64.2 (by rw[YT];have:=h64.1;omega) fun q pq sq => ?_
  ·obtain⟨y,gy,ry⟩:=kx rv g1;obtain⟨d,gd,rd⟩:=rs.getV gy;rw[eds,Ql,g2]at gd;cases gd;cases rd with
   | tup ht rt =>
    rename_i b zs;obtain rfl:v=Za.ref b:=ry;cases rt.ints;obtain⟨its',r',⟨o',e',c',n',dd'⟩,_⟩:=I.tuple (.inl (.inl (jg _ _ ht)));exact⟨b,o',its'.toArray,n',rfl,e',c',dd',by simpa using intsAre_of r',kne c (Jw g2)⟩
  ·have inq:∀i∈q,i<ys.length:=fun i hi=>by have:=ZR.mp (pq.mem_iff.mp hi);omega
   obtain⟨e2,he2⟩:=sortedAll_at s.heap its (q.map fun i=>its.getD i Za.none).toArray;have ek:q.map (jB ks)=qo ks:=vj (by
    have:=zaK pq (jB ks);rw[show its.length=ks.length by omega]at this;unfold jB at this ⊢;rw[range_getD]at this;exact this) sq
   have hR:Reps X.K (hide O H) ((qo ks).map fun k=>.tuple (k.map Zm.int)) (q.map fun i=>ys.getD i .non):=by
    have:=yh rs q (fun i hi=>by have:=inq i hi;omega);rw[←ek,Qe];have ee:q.map (fun i=>ds.getD i .none)=q.map ((fun k=>Zm.tuple (k.map Zm.int))∘jB ks):=by
     apply ZZ;intro i hi;have hi' : i<ks.length:=by have:=inq i hi;omega
     unfold jB;simp[eds,hi']
    rw[←ee];exact this
   refine⟨.ref (s.heap.objs.size+1),upd H (s.heap.objs.size+1) (.lst (q.map fun i=>ys.getD i .non)),?_,rfl,k _ _ hfree hR⟩;refine I.laid (t':=s.toks) (fun b u e=>sortedAll_old e) (Yw _) ⟨by rw[Zi,pq.length_eq,JH,YT];have:=h64.1;omega,q.map fun i=>its.getD i Za.none,e2,yr rv q inq,he2⟩
 exact PE.imp (ye hc hg hm Pr ha (by decide) (by decide) he (by rfl)) fun σ H Q hZq=>by
  obtain⟨F,O,ρ,ds,r,e,k⟩:=hZq;obtain⟨as,e1,e2⟩:=Zb.mp e;refine⟨F,O,ρ,as,r,e1,fun vs H1 s1 b1 => ?_⟩;have go:∀ {es:List D},zgI es=some ds→∃ks,es.mapM qp=some ks∧(ks.length<64∧ks.Nodup)∧ds=(qo ks).map fun k=>.tuple (k.map Zm.int):=fun {es} h=>by
   obtain⟨ks,a1,a2⟩:=Zb.mp h;split at a2
   ·cases a2;exact⟨ks,a1,by assumption,rfl⟩
   ·cases a2
  unfold zaP at e2;split at e2
  ·obtain⟨ks,a1,a2,rfl⟩:=go e2;obtain⟨v,rfl,b⟩:=b1.inv1;obtain⟨a,ys,rfl,sq,rs⟩:=b.lst;exact⟨O,a,_,ks,ys,rfl,(r.same s1).dom,.inl sq,rs,a1,a2,fun l zs hl rz=>k l zs H1 s1 hl rz⟩
  ·obtain⟨ks,a1,a2,rfl⟩:=go e2;obtain⟨v,rfl,b⟩:=b1.inv1;obtain⟨a,ys,rfl,sq,rs⟩:=b.tup;exact⟨O,a,_,ks,ys,rfl,(r.same s1).dom,.inr sq,rs,a1,a2,fun l zs hl rz=>k l zs H1 s1 hl rz⟩
  ·cases e2
end
end L2.Y
namespace L2.Y
open PySem PySem.Spec PyProof.Rows PySem.W
section
variable {prog:Qc}{w:QG}{A:QB}{E:Za→Zf→Prop}{s:Zf}{es:Array Bp}{ep:Nat}{od:Obj}{d:Zh}
theorem zep (hh:A.handled=none) (I:Zh) (hne:d≠I) (hdd:od.data=.dict es ep) :
  Walks prog w A I [I,d] [I] es.size (fun i v=>∃e,es[i]?=some e∧v=e.key) (fun i h=>h.IsKeyIter I d i es.size ep∧h.get? d=some od) where
 sub:=fun b hb=>by simp at hb;simp[hb]
 frame:=fun _ _ _ st hk=>⟨st.1.at fun o e=>hk I (by simp) o e,hk d (by simp) _ st.2⟩
 item:=fun i s Q E hi st hQ=>by
  have he:=Ko hi;exact zbs st.1 st.2 hdd he fun h' hit' sb=>hQ _ h' s.toks ⟨_,he,rfl⟩ ⟨hit',(sb.2 d hne).trans st.2⟩ fun b o hb e=>sb.extBut b o (fun h=>hb (by simp[h])) e
 done:=fun s Q E st hQ=>zdc hh st.1 st.2 hdd (Zg _) fun h' he'=>hQ h' s.toks fun b o hb e=>he' b o (fun h=>hb (by simp[h])) e
 self:=fun _ _ _ _ st hQ=>Pb st.1 hQ
theorem zfv {Q:Bool→Zf→Prop}(hT:s.TypeIs (.ref d) "dict") (h:Q false s):ZF (model prog w) A (Es (.ref d)) Q E s:=by
 unfold Es;refine Zc (Fi hT PySem.F.slot_dict_len.lookup ?_);generalize hid:("dict.__len__" : String)=id0
 wp_delta
 rw[show splitId id0=some ("dict", "__len__") from by subst hid;decide +kernel];subst hid;refine Zc (Yq (T := "dict") (b:=true) hT (by rw[EY];kernel_rfl) ?_);refine Fj (fun z=>absurd z (by decide)) (fun _ => ?_);refine Fj (fun _ => ?_) (fun z=>absurd (by decide +kernel) z);exact Zc (Uc hT (Zj h))
theorem zca {R:HB→Zf→Prop}(hh:A.handled=none) (hT:s.TypeIs (.ref d) "dict") (hs:(d == Vq)=false) (hod:s.heap.get? d=some od) (hdd:od.data=.dict es ep) (hz:es.size≤Zu) (S:Zh) (res:Za) (hS:s.heap.get? S=some (Jp "list" #[] 0))
  (k:∀h' tk acc c,(∀b o,b≠S→s.heap.get? b=some o→h'.get? b=some o)→h'.get? S=some (Jp "list" acc c)→acc.toList=es.toList.map (·.key)→R (.ok (.ret res)) { s with heap:=h',toks:=tk }) :
  ZF (model prog w) A.in1 (JZ (.ref S) (.ref d) res)
   (fun fin s'=>match fin with | .done f=>R (.ok f) s' | .again c'=>c'.quiet=true∧Kr (model prog w) A c' R s') (fun e s'=>R (.error e) s') s:=by
 have hSd:S≠d:=fun e=>by
  rw[←e,hS]at hod;cases hod;cases hdd
 have lS:=ZD hS;have ld:=ZD hod;unfold JZ;refine Zc (Uc hT ?_);have y1:Bq (.ref S) (.ref d)=false:=by simp[Bq,hSd]
 have y2:(Za.type "dict" == Za.type "list")=false:=by decide
 have y3:(Za.type "dict" == Za.type "tuple")=false:=by decide
 simp only[y1,y2,y3,Kz,Qq,if_false];refine Zc (zbt hT hs hod hdd ?_);refine Zc (JW (zfv (by obtain⟨o,e,c⟩:=hT;exact⟨o,Ze _ e,c⟩) ?_));refine(show ZF _ A.in1 (rule _ >>= fun _=>FN (.ref S) >>= fun _=>again _) _ _ _ from ?_);refine Zc (KC (Zc ?_));refine(show ZF _ A.in1 (CZ S (·.push .none) >>= fun _=>CZ S (·.pop)) _ _ _ from ?_);have hS1:=Ze { cls:=.type "dict_keyiterator",data:=.fields #[.ref d,.int 0 0,.int es.size 0,.int ep 0] } hS;refine Zc (Eb hS1 rfl ?_);have hS2:=Vm (QR (·.push Za.none)) hS1 rfl;refine Eb (hz:=by seq_fits) hS2 rfl ?_;have hS3:=Vm (QR (·.pop)) hS2 rfl;have oth:∀b o,b≠S→(s.heap.push { cls:=.type "dict_keyiterator",data:=.fields #[.ref d,.int 0 0,.int es.size 0,.int ep 0] }).get? b=some o→(((s.heap.push { cls:=.type "dict_keyiterator",data:=.fields #[.ref d,.int 0 0,.int es.size 0,.int ep 0] }).update S (QR (·.push Za.none))).update S (QR (·.pop))).get? b=some o:=fun b o hb e =>
  (JV _ _ (Wf hb)).trans ((JV _ _ (Wf hb)).trans e)
 have nI:d≠s.heap.objs.size:=QD ld;have nS:S∉[s.heap.objs.size,d]:=fun m=>by
  rcases ZS.mp m with m | m
  ·exact absurd m (QD lS)
  ·exact hSd (Zw.mp m)
 have it0:(s.heap.push { cls:=.type "dict_keyiterator",data:=.fields #[.ref d,.int 0 0,.int es.size 0,.int ep 0] }).IsKeyIter s.heap.objs.size d 0 es.size ep:=⟨_,Zy _ rfl,rfl,rfl⟩
 refine Zj ⟨Gj PySem.F.plain_extend_loop _,codeAny_extend_loopS (zep (A:=A.in1) hh s.heap.objs.size nI hdd).toS hz S nS res es.size 0 _ _ _ rfl (Qp _) ⟨it0.at fun o e=>oth _ o (Wf (QD lS)) e,oth d od (Wf hSd) (Ze _ hod)⟩ hS3 (Ra.nil _) fun s' acc c hm hS' ha => ?_⟩;obtain⟨h',g',d',tk',os'⟩:=s';obtain rfl:g'=s.gens:=hm.gens;obtain rfl:d'=s.drawn:=hm.drawn;obtain rfl:os'=s.os:=hm.os;refine k h' tk' acc c (fun b o hb e=>hm.heap b o (fun m => ?_) (oth b o hb (Ze _ e))) hS' ?_
 ·rcases ZS.mp m with m | m
  ·exact hb m
  ·exact absurd (Zw.mp m) (QD (ZD e))
 ·apply Vt;intro i;rw[QS,Ql,QS]
  by_cases hi:i<es.size
  ·have hi' : i<acc.size:=by rw[ha.1];exact hi
   obtain⟨e,h1,h2⟩:=ha.2 i acc[i] (Ko hi');rw[h1,Ko hi',h2];rfl
  ·rw[Yz (by rw[ha.1];omega),Yz (by omega)];rfl
theorem zbe {Q:List Za→Zf→Prop}(hh:A.handled=none) (hT:s.TypeIs (.ref d) "dict") (hs:(d == Vq)=false) (hod:s.heap.get? d=some od) (hdd:od.data=.dict es ep) (hz:es.size≤Zu)
  (k:∀h' tk,(∀b o,s.heap.get? b=some o→h'.get? b=some o)→s.heap.objs.size≤h'.objs.size→Q (es.toList.map (·.key)) { s with heap:=h',toks:=tk }):ZF (model prog w) A (collect (.ref d)) Q E s:=by
 unfold collect;refine Zc (Rc (Vy Pn ?_));refine(show ZF _ _ (do again (.builtin "list.__iadd__" ⟨[←NT [],.ref d],[]⟩)) _ _ s from ?_);have up:∀b o,s.heap.get? b=some o→(s.heap.push (Jp "list" #[] 0)).get? b=some o:=fun b o e=>Ze _ e;refine Zc (Uu (Zj ⟨Ny _ (by decide +kernel),Vy Sq ?_⟩));have hT' : Px { s with heap:=s.heap.push (Jp "list" #[] 0) } (.ref d) "dict" := by obtain⟨o,e,c⟩:=hT;exact⟨o,up _ _ e,c⟩
 rw[VJ (by decide +kernel:plainId "list.__iadd__" = true) _];have fin:∀s',(∃h' tk acc c,(∀b o,s.heap.get? b=some o→h'.get? b=some o)∧h'.get? s.heap.objs.size=some (Jp "list" acc c)∧acc.toList=es.toList.map (·.key)∧s'={ s with heap:=h',toks:=tk })→ZF (model prog w) A (load s.heap.objs.size >>= fun o=>match o.data with | .seq xs _=>pure xs.toList | _=>unsupported "internal:collect") Q E s':=by
  rintro s' ⟨h',tk,acc,c,old,hS,ha,rfl⟩;refine Zc (Rf hS ?_);refine(show ZF _ _ (pure acc.toList) Q E _ from ?_);rw[ha];exact Zj (k h' tk old (JL (ZD hS)))
 refine VL (show ZF _ _ (JZ (.ref s.heap.objs.size) (.ref d) (.ref s.heap.objs.size)) _ _ _ from zca (s:={ s with heap:=s.heap.push (Jp "list" #[] 0) }) (A:=A) (R:=fun r s'=>r=.ok (.ret (.ref s.heap.objs.size))∧∃h' tk acc c,(∀b o,s.heap.get? b=some o→h'.get? b=some o)∧h'.get? s.heap.objs.size=some (Jp "list" acc c)∧acc.toList=es.toList.map (·.key)∧s'={ s with heap:=h',toks:=tk }) hh hT' hs (up _ _ hod) hdd hz s.heap.objs.size _ (Zy _ rfl) fun h' tk acc c old hS ha=>⟨rfl,h',tk,acc,c,fun b o e=>old b o (QD (ZD e)) (up b o e),hS,ha,rfl⟩) (fun f s' hf => ?_) fun e s' he => ?_
 ·cases f with
  | done f =>
   obtain⟨e,q⟩:=hf;cases e;exact fin s' q
  | again c =>
   refine⟨hf.1,GQ hf.2 fun r s2 hr => ?_⟩;obtain⟨e,q⟩:=hr;cases e;exact fin s2 q
 ·cases he.1
theorem zcF {ks:List (List Int)}{Q:Za→Zf→Prop}(hh:A.handled=none) (hT:s.TypeIs (.ref d) "dict") (hs:(d == Vq)=false) (hod:s.heap.get? d=some od) (hdd:od.data=.dict es ep) (hz:es.size≤Zu)
  (hl:es.size=ks.length) (hk:∀(i:Nat) v k,(es.toList.map (·.key))[i]?=some v→ks[i]?=some k→TupI s.heap v k) (nd:ks.Nodup)
  (h:∀r h' tk (p:List Nat) c,s.heap.objs.size≤r→(∀b o,s.heap.get? b=some o→h'.get? b=some o)→p.Perm (ZJ es.size)→(p.map (jB ks)).Pairwise LeL→h'.get? r=some (Jp "list" (p.map fun i=>(es.toList.map (·.key)).getD i Za.none).toArray c)→Q (.ref r) { s with heap:=h',toks:=tk }) :
  ZF (model prog w) A (call (.builtin "sorted") [.ref d]) Q E s:=by
 have vl:(es.toList.map (·.key)).length=es.size:=by simp
 refine Km Pj NQ Dc (Dd _) ?_;unfold Builtin.«sorted»;refine Zc (m:=Hv "sorted" 1 1 _) (Zj (Zc (zbe (A:=A.in1) hh hT hs hod hdd hz fun h1 tk old sz=>Zc (Uu ?_ (by rw[vl];exact hz)))));have hoL:(h1.push (Jp "list" (es.toList.map (·.key)).toArray 0)).get? h1.objs.size=some (Jp "list" (es.toList.map (·.key)).toArray 0):=Zy _ rfl;have keep:∀b u,s.heap.get? b=some u→(h1.push (Jp "list" (es.toList.map (·.key)).toArray 0)).get? b=some u:=fun b u e=>Ze _ (old b u e);have ltv:∀v∈es.toList.map (·.key),v≠.ref h1.objs.size:=fun v hv z=>by
  obtain⟨i,hi,e⟩:=Wm hv;obtain⟨b,ob,_,_,eb,g,_⟩:=hk i v (ks[i]'(by omega)) (by rw[←e];exact Va hi) (Va (by omega));rw[z]at eb;cases eb;exact absurd (Zo (ZD g) sz) (Vc _)
 refine Zc (JW (JK Ri ⟨_,hoL,rfl⟩ Tq (wW (s:={ s with heap:=h1.push (Jp "list" (es.toList.map (·.key)).toArray 0),toks:=tk }) (ks:=ks) hoL (by omega) (fun i v k g1 g2 => ?_) ltv nd (by omega) fun p a1 a2=>⟨_,rfl,Zj ⟨_,rfl,?_⟩⟩) (Rq _)))
 ·obtain⟨b,ob,xs,m,eb,g,r⟩:=hk i v k g1 g2;exact⟨b,ob,xs,m,eb,keep b ob g,r⟩
 ·obtain⟨c,hc⟩:=sortedHeap_at (out:=(p.map fun i=>(es.toList.map (·.key)).getD i Za.none).toArray) hoL;refine h h1.objs.size _ tk p c sz (fun b o e => ?_) (by rw[vl]at a1;exact a1) a2 hc;have lb:=ZD e;rw[sortedHeap_old (QD (Zo lb sz)) (by rw[Ht];exact Dt (Zo lb sz))];exact keep b o e
end
end L2.Y
namespace L2.Y
open PySem PySem.Spec PyProof.Rows PySem.W
section
variable {X:Cx}
theorem zkC {tg:Expr}{i j:Nat}{x:Str}{p apos cpos pos:Pos}(hg:PG X tg (ky j)) (hv:PE X (.Name x p) (tVar i))
  (hbase:autoParam (Gk (.Name x p) "pop" X.env (eval (.Name x p) X.env)=eval (.Name x p) X.env) aTc) (hline:autoParam ((apos.endLine == cpos.line)=true) aTc)
  (hs:autoParam (Wq [tg] (.Call (.Attribute (.Name x p) "pop" apos) [] [] cpos) pos.line X.env=pure false) aTc) (hw:autoParam (Wr [tg] (.Call (.Attribute (.Name x p) "pop" apos) [] [] cpos) X.env=pure none) aTc)
  (h1:autoParam ((Vb [tg] X.env).map (·.2)=[assign tg X.env]) aTc):PSd X (.Assign [tg] (.Call (.Attribute (.Name x p) "pop" apos) [] [] cpos) pos) (sPop i j) :=
 PS.imp (zae (zlY Ks PySem.F.slot_list_pop PySem.F.type_list_pop zlG hv hbase hline) hg hs hw h1) fun D σ H hZq=>by
  obtain⟨F,O,ρ,out,r,e,k⟩:=hZq;obtain⟨ds,e3,e4⟩:=Zb.mp e;split at e4
  ·rename_i d hd;cases e4;have ho:=yc e3;obtain⟨q,h1,h2,h3,h4⟩:=r.own i _ ho;cases h4 with
   | lst hq rq =>
    rename_i xs;have hl:=rq.length;obtain⟨y,g1,g2⟩:=rq.get hd;rw[hl]at g1;refine⟨_,h1,.inl ⟨rfl,xs,SqL.of hq⟩,q,xs,y,rfl,rfl,hq,g1,?_⟩;have r1:=r.mut ho h1 (d':=.list ds.dropLast) (o:=.lst xs.dropLast) (.lst zR (by
     rw[zL h2,Rt,Rt,hl];exact rq.take _))
    exact k O _ _ (r1.setVal (by rw[zL h2];exact g2))
  ·cases e4
noncomputable def zkW (tk tv:TE):TE:=fun σ H Q=>∀p,H p=none→tk σ (upd H p (.dT [])) fun x H1=>tv σ H1 fun y H2=>H2 p=some (.dT [])∧∃(kk:List Key) (b:Zh),x=.ref b∧H2 b=some (.tup (kk.map kV))∧Q (.ref p) (upd H2 p (.dT [(kk,y)]))
theorem zgc {k v:Expr}{tk tv:TE}{pos:Pos}(hu:X.A.units+1<VF) (hk:PE X k tk) (hv:PE X v tv):PE X (.Dict [some k] [v] pos) (zkW tk tv):=by
 intro pins s σ H Q I q;have hn:=I.hok.fresh (Zg s.heap.objs.size);have I1:=I.laid (a:=s.heap.objs.size) (o:=.dT []) (h':=s.heap.push { cls:=.type "dict",data:=.dict #[] }) (t':=s.toks) (fun _ _ q=>Ze _ q) (Zg _) (zc1 s.heap I.big);have ln:=pairTrees_length [some k] [v] X.env pos rfl rfl;rw[arm_eval_Dict,zip_pairTrees [some k] [v] X.env pos rfl rfl,dictDisplay_pairs _ (fun z=>by rw[z]at ln;cases ln) (by rw[ln];show 1<17;decide)];refine Zc (Bw (Zc ?_));unfold subDict;refine Zc (wpAny_alloc (Zc (JW ?_)));rw[if_pos (by rw[ln];show 1≤15;decide)];refine Zc (thn ((zim hk hv zkv) pins _ σ _ (fun ps H2=>match ps with
  | [(x,y)]=>H2 s.heap.objs.size=some (.dT [])∧∃(kk:List Key) (b:Zh),x=.ref b∧H2 b=some (.tup (kk.map kV))∧Q (.ref s.heap.objs.size) (upd H2 s.heap.objs.size (.dT [(kk,y)]))
  | _=>False) I1 (q _ hn)) fun ws s2 ⟨ps,H2,I2,rel,qq⟩ => ?_)
 split at qq
 ·rename_i x y;obtain⟨e2,kk,b,e3,e4,q2⟩:=qq;subst e3;cases rel with
  | @cons _ w0 _ _ h1 t =>
   cases t;obtain⟨w1,w2⟩:=w0;obtain rfl:w1=Za.ref b:=h1.1;obtain⟨z,hd,xs,rx,dd⟩:=zlj I2.hok e2;cases rx;refine JW ?_;rw[Ys];refine Zc (Zc (Zc (wpAny_dictSet_heap (knd:=Kw (jx X.prog X.w)) (show X.A.units<VF by omega) (zbr I2.hok e4) dd (fun h' dd' hs=>Zj ?_) (Qp _))));dsimp only;rw[GC];refine Zj (Zj (Zj (Zj ⟨.ref s.heap.objs.size,_,?_,rfl,q2⟩)));obtain⟨o,es,ep,hq,h2,h3,h4,_,h5⟩:=dd';refine zb8 I2 (by rw[e2];exact True.intro) hs ⟨o,hq⟩ ⟨by rw[YT];show 1≤16777216;decide,hd,_,.cons ⟨rfl,?_,h1.2⟩ .nil,o,es,ep,hq,h2,h3,h4,h5⟩;rw[zu (zka e4 e2 (fun z=>nomatch z))];exact e4
 ·exact qq.elim
theorem SR.hideNewT {K:Frag}{F:Fx}{O:List Zh}{ρ:Env'}{σ:St}{H:Hp}{p:Zh}(r:SR K F O ρ σ H) (hp:H p=none):SR K F (p::O) ρ σ (upd H p (.dT [])):=by
 have q:=r.newOwn (i:=ρ.length) (d:=.dict [(.none,.none)]) hp (.dT (kvs:=[]) (ds:=[]) zR .nil);rw[Tf (Zg _),Tf (Yj r.len)]at q;exact q
theorem zed {tg ke ve:Expr}{i:Nat}{dpos pos:Pos}{gk ge:Env'→Option D}(hu:X.A.units+1<VF) (hg:PG X tg (ky i)) (hk:PD X ke gk) (he:PD X ve ge) (hs:autoParam (Wq [tg] (.Dict [some ke] [ve] dpos) pos.line X.env=pure false) aTc) (hw:autoParam (Wr [tg] (.Dict [some ke] [ve] dpos) X.env=pure none) aTc)
  (h1:autoParam ((Vb [tg] X.env).map (·.2)=[assign tg X.env]) aTc):PSd X (.Assign [tg] (.Dict [some ke] [ve] dpos) pos) (zcy i gk ge) :=
 PS.imp (zae (zgc hu hk he) hg hs hw h1) fun D σ H hZq=>by
  obtain⟨F,O,ρ,out,r,e,k⟩:=hZq;obtain⟨key,e1,e⟩:=Zb.mp e;obtain⟨d,e2,e⟩:=Zb.mp e;obtain⟨kk,e3,e⟩:=Zb.mp e;cases e;intro p hp;have hpO:p∉O:=r.fresh hp;have r1:=SR.hideNewT r hp;refine⟨F,p::O,ρ,key,r1,e1,fun x H1 s1 b1=>⟨F,p::O,ρ,d,r1.same s1,e2,fun y H2 s2 b2 => ?_⟩⟩;cases wm e3;have s12:=s1.trans s2;obtain⟨b,rfl,hb⟩:=(RepB.val b1).keysV;refine⟨s12 _ _ zR,kk,b,rfl,s2 _ _ hb,?_⟩;refine k (p::O) _ _ (SR.adopt (r1.same s12) Zn ⟨fun z=>hpO (r.oc p z),r.hb.free hp⟩ (fun j d' ej z => ?_) ?_)
  ·obtain⟨q,h1,h2,_⟩:=r.own j d' ej;rw[z]at h1;cases h1;exact hpO h2
  ·exact .dT (kvs:=[(kk,y)]) (ds:=[d]) zR (by rw[zL Zn];exact .cons b2 .nil)
theorem zc9:∀ {ks:List Key}{is:List Int},wR (ks.map keyD)=some is→ks=is.map Sum.inl
 | [],_,h=>by cases h;rfl
 | k::ks,_,h=>by
  unfold wR at h;rw[Zk,Jh]at h;obtain⟨x,h1,h2⟩:=Zb.mp h;obtain⟨xs,h3,h4⟩:=Zb.mp h2;cases h4;have:=zc9 (ks:=ks) h3;cases k with
  | inl i=>cases h1;rw[this];rfl
  | inr z=>cases h1
theorem zjH {O:List Zh}{H:Hp}{b:Zh}{xs:List V}(hO:Dom O H) (e:H b=some (.tup xs)):hide O H b=some (.tup xs):=by
 rw[jQ (hO.tup e)];exact e
theorem kU:∀k:List Int,wR (k.map Zm.int)=some k
 | []=>rfl
 | i::k=>by
  unfold wR;rw[Zk,Jh];show(wR (k.map Zm.int)).bind _=_;rw[kU k];rfl
theorem zly {kk:List Key}{k:List Int}(h:xA kk=.tuple (k.map Zm.int)):kk.map kV=k.map V.int:=by
 unfold xA at h;have h:=Fv h;have e:kk=k.map Sum.inl:=zc9 (by rw[h];exact kU k);rw[e,Qe];rfl
theorem zfI {K:Frag}{O:List Zh}{H:Hp}(hO:Dom O H):∀ {kvs:List (List Key×V)}{xs:List (List Key×Zh×Za)}{ks:List (List Int)},KT H kvs xs→kvs.map (fun q=>xA q.1)=ks.map (fun k=>(.tuple (k.map Zm.int):D))→Reps K (hide O H) (ks.map fun k=>.tuple (k.map Zm.int)) (xs.map fun x=>V.ref x.2.1):=by
 intro kvs xs ks r
 induction r generalizing ks with
 | nil =>
  intro e;cases ks with
  | nil=>exact .nil
  | cons=>cases e
 | @cons p q ps qs h t ih =>
  intro e;cases ks with
  | nil=>cases e
  | cons k ks =>
   rw[Zk,Zk]at e;obtain⟨e1,e2⟩:=Vf e;refine .cons (.tup (zjH hO h.2.1) ?_) (ih e2);rw[zly e1];have:∀l:List Int,Reps K (hide O H) (l.map Zm.int) (l.map V.int):=fun l=>by
    induction l with
    | nil=>exact .nil
    | cons a l ih=>exact .cons (.int a) ih
   exact this k
theorem zbu {knd:HeapKind X.prog X.w (List Key)}:∀xs:List (List Key×Zh×Za),Vals (xs.map fun x=>V.ref x.2.1) ((xs.map (Hu knd)).map (·.key))
 | []=>.nil
 | x::xs=>.cons rfl (zbu xs)
theorem zea {p pos:Pos}{e:Expr}{g:Env'→Option (List D)}(hc:X.calm=true) (hg:Gl X "sorted") (hm:X.mg "sorted" = none) (ha:PAb X [e] g) (he:autoParam (Qm [e] X.env=[(false,eval e X.env)]) aTc) :
  PFr X (.Call (.Name "sorted" p) [e] [] pos) (gItL kr g):=by
 have hR:xH X (.builtin "sorted") (fun xs H Q=>∃O a kvs ks,xs=[.ref a]∧Dom O H∧Rd H a (.dT kvs)∧(kvs.map fun q=>xA q.1).mapM qp=some ks∧ks.Nodup ∧
   ∀l zs,H l=none→Reps X.K (hide O H) ((qo ks).map fun k=>.tuple (k.map Zm.int)) zs→Q (.ref l) (upd H l (.lst zs))):=by
  intro pins s σ H xs us Q I rv hZq;obtain⟨O,a,kvs,ks,e,hO,rd,em,nd,k⟩:=hZq;subst e;obtain⟨u,rfl,ru⟩:=vals1 rv;obtain rfl:u=Za.ref a:=ru;obtain⟨eds,kne⟩:=zaF em;obtain⟨z,hd,xs,rx,o,es,ep,h1,h2,h3,h4,h5,h6⟩:=ze3 I.hok rd;have rs:=zfI (K:=X.K) hO rx eds;have rv:=zbu (knd:=Kw (jx X.prog X.w)) xs;rw[←h4]at rv;have l1:=rs.length;have l2:=rv.length;have l0:(es.toList.map (·.key)).length=es.size:=by simp
  rw[Zi]at l1;have l4:kvs.length=ks.length:=by have:=congrArg Gz eds;simpa using this
  refine zcF (ks:=ks) (I.ok.hd hc) ⟨o,h1,h2.1⟩ hd h1 h3 (by omega) (by omega) (fun i v c g1 g2 => ?_) nd fun r h' tk q c hr old pq sq hL => ?_
  ·obtain⟨y,gy,ry⟩:=kx rv g1;obtain⟨d,gd,rd⟩:=rs.getV gy;rw[Ql,g2]at gd;cases gd;cases rd with
   | tup ht rt =>
    rename_i b zs;obtain rfl:v=Za.ref b:=ry;cases rt.ints;obtain⟨its',r',⟨o',e',c',n',dd'⟩,_⟩:=I.tuple (.inl (.inl (jg _ _ ht)));exact⟨b,o',its'.toArray,n',rfl,e',c',dd',by simpa using intsAre_of r',kne c (Jw g2)⟩
  ·have inq:∀i∈q,i<(xs.map fun x=>V.ref x.2.1).length:=fun i hi=>by have:=ZR.mp (pq.mem_iff.mp hi);omega
   have hfree:H r=none:=I.hok.fresh hr;have ek:q.map (jB ks)=qo ks:=vj (by
    have:=zaK pq (jB ks);rw[show es.size=ks.length by omega]at this;unfold jB at this ⊢;rw[range_getD]at this;exact this) sq
   have hR:Reps X.K (hide O H) ((qo ks).map fun k=>.tuple (k.map Zm.int)) (q.map fun i=>(xs.map fun x=>V.ref x.2.1).getD i .non):=by
    have:=yh rs q (fun i hi=>by have:=inq i hi;rw[Zi];omega);rw[←ek,Qe];have ee:q.map (fun i=>(ks.map fun k=>(.tuple (k.map Zm.int):D)).getD i .none)=q.map ((fun k=>Zm.tuple (k.map Zm.int))∘jB ks):=by
     apply ZZ;intro i hi;have hi' : i<ks.length:=by have:=inq i hi;omega
     unfold jB;simp[hi']
    rw[←ee];exact this
   refine⟨.ref r,upd H r (.lst (q.map fun i=>(xs.map fun x=>V.ref x.2.1).getD i .non)),?_,rfl,k _ _ hfree hR⟩;exact I.laid (t':=tk) (fun b u e=>old b u e) hr ⟨by rw[Zi,pq.length_eq,JH];omega,q.map fun i=>(es.toList.map (·.key)).getD i Za.none,c,yr rv q inq,hL⟩
 exact PE.imp (ye hR hg hm Pr ha (by decide) (by decide) he (by rfl)) fun σ H Q hZq=>by
  obtain⟨F,O,ρ,ds,r,e,k⟩:=hZq;obtain⟨as,e1,e2⟩:=Zb.mp e;refine⟨F,O,ρ,as,r,e1,fun vs H1 s1 b1 => ?_⟩;unfold kr at e2;split at e2
  ·obtain⟨kds,a1,e2⟩:=Zb.mp e2;obtain⟨ks,a2,a3⟩:=Zb.mp e2;split at a3
   case isFalse=>cases a3
   rename_i nd;cases a3;obtain⟨v,rfl,b⟩:=b1.inv1;obtain⟨a,kvs,ds,rfl,rd,rq,rfl⟩:=b.tabT a1;refine⟨O,a,kvs,ks,rfl,(r.same s1).dom,rd,?_,nd,fun l zs hl rz=>k l zs H1 s1 hl rz⟩;rw[DN (by rw[Zi];have:=rq.length;rw[Zi]at this;omega)]at a2;exact a2
  ·cases e2
end
end L2.Y
namespace L2.Y
open PySem PySem.Spec PyProof.Rows
theorem zk3 {fs ch:List Zh}{H:Hp}{h h' : Je}{a:Zh}{o:HO}(k:∀b u,b∉ch→h.get? b=some u→h'.get? b=some u) (hp:h.objs.size≤a) (hn:H a=none):Un fs ch H (upd H a o) h h' where
 keep:=fun b u q _ _ hx=>k b u hx q
 slot:=fun b u q _ _ hx=>⟨u.slots,k b u hx q⟩
 free:=fun b u q n _=>by rw[zu (QD (Zo (ZD q) hp))];exact n
 there:=fun b u q hx=>⟨u,k b u hx q⟩
 tups:=fun b xs q=>by rw[zu (zJ q hn)];exact q
 frzs:=fun b u xs q=>by rw[zu (zJ q hn)];exact q
 tbls:=fun b ps q=>⟨#[],by rw[zu (zJ q hn),q];simp⟩
theorem zhH {P:Qc}{w:QG}{ch:List Zh}{H:Hp}{h h' : Je}{a:Zh}{o:HO}(ok:HOk P w H h) (k:∀b u,b∉ch→h.get? b=some u→h'.get? b=some u) (hc:∀b∈ch,H b=none) (hn:H a=none) (new:jA P w (upd H a o) h' a o):HOk P w (upd H a o) h':=fun b u q=>by
 by_cases e:b=a
 ·subst e;rw[zR]at q;cases q;exact new
 ·rw[zu e]at q;refine(ok b u q).stay (fun c v hcc r=>k c v (fun z => ?_) r) (fun c r=>by rw[zu (zJ r hn)];exact r) fun c xs r=>by rw[zu (zJ r hn)];exact r
  have z0:=hc c z;rcases hcc with rfl | hcc
  ·rw[q]at z0;cases z0
  ·rw[hcc]at z0;cases z0
theorem za0:∀(xs ys:List D) (i:Nat) {d:D},(zip2 xs ys)[i]?=some d→∃x y,xs[i]?=some x∧ys[i]?=some y∧d=.tuple [x,y]
 | x::xs,y::ys,0,d,h=>by simp[zip2]at h;exact⟨x,y,rfl,rfl,h.symm⟩
 | x::xs,y::ys,i+1,d,h=>by
  obtain⟨a,b,h1,h2,h3⟩:=za0 xs ys i (d:=d) (by simpa[zip2] using h);exact⟨a,b,by simpa using h1,by simpa using h2,h3⟩
 | [],_,_,_,h=>by simp[zip2]at h
 | _::_,[],_,_,h=>by simp[zip2]at h
theorem zdL:∀(xs ys:List D),(zip2 xs ys).length=min xs.length ys.length
 | x::xs,y::ys=>by simp only[zip2,Zz,zdL xs ys];omega
 | [],_=>by simp[zip2]
 | _::_,[]=>by simp[zip2]
section
variable {X:Cx}
theorem zhc (I a b:Nat) (h1:a<I) (h2:b<I):MJ (I+4) (I+2) (I+3) I (I+1) a b:=by
 constructor <;> (intro z;have z' : (_:Nat)=_:=z;omega)
end
end L2.Y
namespace L2.Y
open PySem PySem.Spec PyProof.Rows
section
variable {prog:Qc}{w:QG}{A:QB}{E:Za→Zf→Prop}{s:Zf}
end
section
variable {X:Cx}
theorem yf {scope:Uz}{own N:List Str}{caps:List Nat}{tg iter elt:Expr}{pos:Pos}{gi:Env'→Option (List D)}{h:GT}{gt:Env'→Option Bool}{ge:Env'→Option D}{ifs:List Expr}{i:Nat}{x:Str}{px spos:Pos}(S:CompOk X scope own caps N) (nd:caps.Nodup) (ov:Over own.length h) (hc:X.calm=true) (hi:PId X tg iter gi) (hg:jK X N scope fun Y=>PGd Y tg h) (ht:jK X N scope fun Y=>PIfd Y ifs gt) (he:jK X N scope fun Y=>PD Y elt ge)
  (hN:X.N.Nodup) (hx:X.N[i]?=some x) (hl:X.env.scope.names.lookup x=some .local) (hsw:Gw (.ListComp elt [⟨tg,iter,ifs,0⟩] scope pos) (some (.Name x px)) spos.line X.env=pure true)
  (hs:autoParam (∀x,Yc iter X.env x=pure x) aTd):PSd X (.Assign [.Name x px] (.ListComp elt [⟨tg,iter,ifs,0⟩] scope pos) spos) (zcz i (jX own.length caps gi h gt ge)) :=
 PS.imp (zin (g:=tGd X.K h) (tt:=tTd X.K gt) (te:=tD X.K ge) S hc hi (fun cl C s H fp=>hg cl C s H fp) (fun cl C s H fp=>ht cl C s H fp) (fun cl C s H fp=>he cl C s H fp) hN hx hl hsw hs) fun D σ H hZq=>by
  obtain⟨F,O,ρ,out,r,e,k⟩:=hZq;obtain⟨ds,e1,e2⟩:=ZG.mp e;subst e2;refine zcV nd ov ⟨F,O,ρ,ds,r,e1,fun p xs H1 s1 hp b1 => ?_⟩;exact k O _ _ ((r.same (s1.trans (zY hp))).setVal (vf hp ((r.same s1).fresh hp) b1))
end
section
variable {P:Qc}{w:QG}{K:Frag}{mg:Str→Option Za}{base:Je}
end
theorem zbN {K:Frag}{H:Hp}:∀ns:List Int,Reps K H (ns.map Zm.int) (ns.map V.int)
 | []=>.nil
 | n::ns=>.cons (.int n) (zbN ns)
theorem zgE {K:Frag}{H:Hp}{a:Zh}{ns:List Int}{f:List D→Option D}{E:XK}(hS:SqL K H a (ns.map V.int)) (h:f [scrD (ns.map Zm.int)]=some (.bool true)):spD K 1 f [.ref a] H (fun v _=>v=.bl true) E :=
 ⟨[],[scrD (ns.map Zm.int)],.bool true,fun p hp=>absurd hp (by simp),.cons (.scr (by rw[zhG];exact hS) (zbN ns)) .nil,rfl,h,fun v H' s b=>vd b⟩
theorem nd_ (l:List Str) (h:autoParam (l.Nodup) aTb):l.Nodup:=h
theorem zm {X:Cx}{e:Expr}{es:List Expr}{ga:Env'→Option D}{gr:Env'→Option (List D)}(hs:zf1 e=true) (ha:PD X e ga) (hr:PAd X es gr):PAd X (e::es) (zc ga gr):=zh8 ha hr (yH hs)
theorem jp {X:Cx}{e:Expr}{es:List Expr}{ga:Env'→Option D}{gr:Env'→Option (List D)}(hs:zf1 e=true) (ha:PB X e ga) (hr:PAb X es gr):PAb X (e::es) (zc ga gr):=zh7 ha hr (yH hs)
section
variable {X:Cx}{tg e:Expr}{pos:Pos}
theorem zq {h:GT}{ge:Env'→Option D}(hs:Wq [tg] e pos.line X.env=pure false) (hw:Wr [tg] e X.env=pure none) (h1:(Vb [tg] X.env).map (·.2)=[assign tg X.env]) (hg:PGd X tg h) (he:PD X e ge):PSd X (.Assign [tg] e pos) (sAsg h ge):=zky hg he hs hw h1
theorem qM {i:Nat}{ge:Env'→Option (List D)}(hs:Wq [tg] e pos.line X.env=pure false) (hw:Wr [tg] e X.env=pure none) (h1:(Vb [tg] X.env).map (·.2)=[assign tg X.env]) (hg:PG X tg (ky i)) (he:PFr X e ge):PSd X (.Assign [tg] e pos) (sOwn i ge):=zkB hg he hs hw h1
end
section
variable {X:Cx}{e:Expr}{pos:Pos}{st:YZ}
theorem zg {i j}:PD X (.Constant (.int i) j pos) (gK (.int i)):=zlS
theorem zga {i j}:PD X (.Constant (.bool i) j pos) (gK (.bool i)):=zmS
theorem PFr.d_ {g:Env'→Option (List D)}(h:PFr X e g):PD X e (gLs g):=PFr.d h
theorem zB {ge:Env'→Option D}(he:PD X e ge):PSd X (.Return (some e) pos) (sRet ge):=zkD he
theorem zdo {g:GS}(i:Nat) (h1:PSd X st g):PSd X st (sFrz i g):=zkA i h1
theorem zgo {g:GS}(i:Nat) (h1:PSd X st g):PSd X st (zml i g):=ziq i h1
theorem jI:PIfd X [] xy:=zil
end
end L2.Y
namespace L2.Y
open PySem PySem.Spec PyProof.Rows
theorem zmW {X:Cx}{st:YZ}:PSd X st sNo:=by
 intro pins s σ H D I h;obtain⟨F,O,ρ,o,r,e,k⟩:=h;cases e
end L2.Y
namespace L2.Y
open PySem
section
variable {prog:Qc}{w:QG}{A:QB}{E:Za→Zf→Prop}{s:Zf}{z TI TO i1 i2 l1 l2:Zh}{k1 k2:Nat}{xs ys:Array Za}{u v:Za}
structure ZT (s:Zf) (z TI TO i1 i2 l1 l2:Zh) (k1 k2:Nat) (xs ys:Array Za) (u v:Za):Prop where
 z:Bj s.heap z TI TO .none
 ti:Uh s.heap TI (.ref i1) (.ref i2)
 to:Uh s.heap TO u v
 w1:s.heap.IsTupleIter i1 l1 k1
 w2:s.heap.IsTupleIter i2 l2 k2
 t1:s.heap.IsTuple l1 xs
 t2:s.heap.IsTuple l2 ys
noncomputable def But4 (z TO i1 i2:Zh) (h h' : Je):Prop:=∀c o,c≠z→c≠TO→c≠i1→c≠i2→h.get? c=some o→h'.get? c=some o
theorem yE {h h' : Je}{a t:Zh}{i:Nat}(x:h.IsTupleIter a t i) (k:∀o,h.get? a=some o→h'.get? a=some o):h'.IsTupleIter a t i:=let ⟨o,ho,r⟩:=x;⟨o,k o ho,r⟩
theorem zha {x y:Za}{Q:Za→Zf→Prop}(D:MJ z TI TO i1 i2 l1 l2) (Z:ZT s z TI TO i1 i2 l1 l2 k1 k2 xs ys u v) (hx:xs[k1]?=some x) (hy:ys[k2]?=some y)
  (k:∀h',Bj h' z TI TO (KJ s.heap.objs.size)→Uh h' TO x y→h'.IsTupleIter i1 l1 (k1+1)→h'.IsTupleIter i2 l2 (k2+1)→Uh h' s.heap.objs.size x y→But4 z TO i1 i2 s.heap h'→Q (.ref s.heap.objs.size) { s with heap:=h' }) :
  ZF (model prog w) A (Builtin.«zip.__next__» ⟨[.ref z],[]⟩) (fun fin s'=>∃r,fin=.done (.ret r)∧Q r s') E s:=by
 obtain⟨hz,hTI,hTO,h1,h2,hl1,hl2⟩:=Z;show ZF _ _ (field (.ref z) 2 >>= _) _ _ _;refine Zc (Vg hz rfl (x:=.bool false) rfl ?_);show ZF _ _ (field (.ref z) 3 >>= _) _ _ _;refine Zc (Vg hz rfl (x:=.ref TI) rfl (Zc (Vu hTI rfl ?_)));show ZF _ _ (Vn (.ref z) >>= _) _ _ _;refine Zc ?_;unfold Vn;refine Zc (Vg hz rfl (x:=.none) rfl (Zj ?_));simp only[if_true];refine Zc (KC (Zc (Vg hz rfl (x:=.ref TO) rfl (Zc (WP hz (by simp) fun a₁ hz₁ b₁=>Zc ?_)))))
 replace hz₁:Bj a₁ z TI TO .ellipsis:=hz₁
 simp only[BL,PK,Ys,GC];refine Zc (Zc (Bx ?_));show ZF _ _ (Jq (.ref i1) >>= _) _ _ _;refine Zc (zaY (h1.extBut b₁.extBut D.i1z) (hl1.extBut b₁.extBut D.l1z) hx fun a₂ w₂ b₂=>Zj ?_);have hTO₂:Uh a₂ TO u v:=b₂.extBut _ _ D.TOi1 (b₁.extBut _ _ D.TOz hTO);refine Zc (Vu hTO₂ rfl (Zc (Ey hTO₂ fun a₃ hTO₃ b₃=>Zc (LR (Zj ?_)))))
 replace hTO₃:Uh a₃ TO x v:=hTO₃
 refine Zc (Zc (Bx ?_));show ZF _ _ (Jq (.ref i2) >>= _) _ _ _;refine Zc (zaY (((h2.extBut b₁.extBut D.i2z).extBut b₂.extBut D.i12.symm).extBut b₃.extBut D.TOi2.symm) (((hl2.extBut b₁.extBut D.l2z).extBut b₂.extBut D.l2i1).extBut b₃.extBut D.l2TO) hy fun a₄ w₄ b₄=>Zj ?_);have hTO₄:Uh a₄ TO x v:=b₄.extBut _ _ D.TOi2 hTO₃;refine Zc (Vu hTO₄ rfl (Zc (Ey hTO₄ fun a₅ hTO₅ b₅=>Zc (LR (Zj (Zj ?_))))))
 replace hTO₅:Uh a₅ TO x y:=hTO₅
 refine Zc (Vu hTO₅ rfl (Zc (wpAny_newTuple ?_)));have sz:a₅.objs.size=s.heap.objs.size:=by rw[b₅.1,b₄.1,b₃.1,b₂.1,b₁.1]
 have hz₅:Bj a₅ z TI TO .ellipsis:=b₅.extBut _ _ D.TOz.symm (b₄.extBut _ _ D.i2z.symm (b₃.extBut _ _ D.TOz.symm (b₂.extBut _ _ D.i1z.symm hz₁)));have keep:But4 z TO i1 i2 s.heap a₅:=fun c o c1 c2 c3 c4 e=>b₅.extBut _ _ c2 (b₄.extBut _ _ c4 (b₃.extBut _ _ c2 (b₂.extBut _ _ c3 (b₁.extBut _ _ c1 e))));have v1:a₅.IsTupleIter i1 l1 (k1+1):=((w₂.extBut b₃.extBut D.TOi1.symm).extBut b₄.extBut D.i12).extBut b₅.extBut D.TOi1.symm;have v2:a₅.IsTupleIter i2 l2 (k2+1):=w₄.extBut b₅.extBut D.TOi2.symm;have ltz:z<a₅.objs.size:=ZD hz₅;show ZF _ _ (Kc (.ref z) (.ref a₅.objs.size) >>= _) _ _ _;refine Zc ?_;unfold Kc;have hz₆:Bj (a₅.push { cls:=.type "tuple",data:=.seq #[x,y] }) z TI TO .ellipsis:=Ze _ hz₅;refine Zc (WP hz₆ (by simp) fun a₇ hz₇ b₇ => ?_)
 replace hz₇:Bj a₇ z TI TO (KJ a₅.objs.size):=hz₇
 refine WP hz₇ (by simp) fun a₈ hz₈ b₈ => ?_
 replace hz₈:Bj a₈ z TI TO (KJ a₅.objs.size):=hz₈
 have up:∀c o,c≠z→a₅.get? c=some o→a₈.get? c=some o:=fun c o c1 e=>b₈.extBut _ _ c1 (b₇.extBut _ _ c1 (Ze _ e));have pr:Uh a₈ a₅.objs.size x y:=b₈.extBut _ _ (YJ ltz) (b₇.extBut _ _ (YJ ltz) (Zy _ rfl));rw[sz]at hz₈ pr;refine Zj ⟨_,rfl,?_⟩;show Q (.ref a₅.objs.size) _;rw[sz];exact k a₈ hz₈ (up _ _ D.TOz hTO₅) (yE v1 fun o e=>up _ o D.i1z e) (yE v2 fun o e=>up _ o D.i2z e) pr fun c o c1 c2 c3 c4 e=>up c o c1 (keep c o c1 c2 c3 c4 e)
theorem zhb {Q:Fin→Zf→Prop}(hh:A.handled=none) (D:MJ z TI TO i1 i2 l1 l2) (Z:ZT s z TI TO i1 i2 l1 l2 k1 k2 xs ys u v) (hend:xs[k1]?=none∨ys[k2]?=none)
  (k:∀h' e,But4 z TO i1 i2 s.heap h'→(∃o,h'.get? e=some o∧o.cls=.type "StopIteration")→E (.ref e) { s with heap:=h' }):ZF (model prog w) A (Builtin.«zip.__next__» ⟨[.ref z],[]⟩) Q E s:=by
 obtain⟨hz,hTI,hTO,h1,h2,hl1,hl2⟩:=Z;show ZF _ _ (field (.ref z) 2 >>= _) _ _ _;refine Zc (Vg hz rfl (x:=.bool false) rfl ?_);show ZF _ _ (field (.ref z) 3 >>= _) _ _ _;refine Zc (Vg hz rfl (x:=.ref TI) rfl (Zc (Vu hTI rfl ?_)));show ZF _ _ (Vn (.ref z) >>= _) _ _ _;refine Zc ?_;unfold Vn;refine Zc (Vg hz rfl (x:=.none) rfl (Zj ?_));simp only[if_true];refine Zc (KC (Zc (Vg hz rfl (x:=.ref TO) rfl (Zc (WP hz (by simp) fun a₁ hz₁ b₁=>Zc ?_)))))
 replace hz₁:Bj a₁ z TI TO .ellipsis:=hz₁
 simp only[BL,PK,Ys,GC];refine Zc (Zc (Bx ?_));show ZF _ _ (Jq (.ref i1) >>= _) _ _ _;have nz:∀ {h:Je}{e:Zh}{o:Obj},Bj h z TI TO .ellipsis→h.get? e=some o→o.cls=.type "StopIteration" → e≠z:=fun a b c q=>by subst q;rw[a]at b;cases b;simp at c
 cases hx:xs[k1]? with
 | none =>
  refine Zc (zdG hh (h1.extBut b₁.extBut D.i1z) (hl1.extBut b₁.extBut D.l1z) hx fun a₂ e b₂ hZq => ?_);obtain⟨oe,hoe,hce⟩:=hZq;have hz₂:Bj a₂ z TI TO .ellipsis:=b₂ _ _ D.i1z.symm hz₁;exact WP hz₂ (by simp) fun a₃ _ b₃=>k a₃ e (fun c o c1 _ c3 _ q=>b₃.extBut _ _ c1 (b₂ _ _ c3 (b₁.extBut _ _ c1 q))) ⟨oe,b₃.extBut _ _ (nz hz₂ hoe hce) hoe,hce⟩
 | some x =>
  have hy:ys[k2]?=none:=by rcases hend with q | q;rw[hx]at q;cases q;exact q
  refine Zc (zaY (h1.extBut b₁.extBut D.i1z) (hl1.extBut b₁.extBut D.l1z) hx fun a₂ w₂ b₂=>Zj ?_);have hTO₂:Uh a₂ TO u v:=b₂.extBut _ _ D.TOi1 (b₁.extBut _ _ D.TOz hTO);refine Zc (Vu hTO₂ rfl (Zc (Ey hTO₂ fun a₃ hTO₃ b₃=>Zc (LR (Zj ?_)))));refine Zc (Zc (Bx ?_));show ZF _ _ (Jq (.ref i2) >>= _) _ _ _;refine Zc (zdG hh (((h2.extBut b₁.extBut D.i2z).extBut b₂.extBut D.i12.symm).extBut b₃.extBut D.TOi2.symm) (((hl2.extBut b₁.extBut D.l2z).extBut b₂.extBut D.l2i1).extBut b₃.extBut D.l2TO) hy fun a₄ e b₄ hZq => ?_);obtain⟨oe,hoe,hce⟩:=hZq;have hz₄:Bj a₄ z TI TO .ellipsis:=b₄ _ _ D.i2z.symm (b₃.extBut _ _ D.TOz.symm (b₂.extBut _ _ D.i1z.symm hz₁));exact WP hz₄ (by simp) fun a₅ _ b₅=>k a₅ e (fun c o c1 c2 c3 c4 q=>b₅.extBut _ _ c1 (b₄ _ _ c4 (b₃.extBut _ _ c2 (b₂.extBut _ _ c3 (b₁.extBut _ _ c1 q))))) ⟨oe,b₅.extBut _ _ (nz hz₄ hoe hce) hoe,hce⟩
theorem zex {x y:Za}{Q:Option Za→Zf→Prop}(D:MJ z TI TO i1 i2 l1 l2) (Z:ZT s z TI TO i1 i2 l1 l2 k1 k2 xs ys u v) (hx:xs[k1]?=some x) (hy:ys[k2]?=some y)
  (k:∀h',Bj h' z TI TO (KJ s.heap.objs.size)→Uh h' TO x y→h'.IsTupleIter i1 l1 (k1+1)→h'.IsTupleIter i2 l2 (k2+1)→Uh h' s.heap.objs.size x y→But4 z TO i1 i2 s.heap h'→Q (some (.ref s.heap.objs.size)) { s with heap:=h' }):ZF (model prog w) A (Gi (.ref z)) Q E s:=by
 have T:s.TypeIs (.ref z) "zip" := ⟨_,Z.z,rfl⟩
 unfold Gi;exact Zc (Uv (JR (name:=Vp "__next__") T GF (JK GF T HR (zha D Z hx hy fun h' p1 p2 p3 p4 p5 p6=>Zj (k h' p1 p2 p3 p4 p5 p6)) (Ho _))))
theorem zew {Q:Option Za→Zf→Prop}(hh:A.handled=none) (D:MJ z TI TO i1 i2 l1 l2) (Z:ZT s z TI TO i1 i2 l1 l2 k1 k2 xs ys u v) (hend:xs[k1]?=none∨ys[k2]?=none) (k:∀h',But4 z TO i1 i2 s.heap h'→Q none { s with heap:=h' }):ZF (model prog w) A (Gi (.ref z)) Q E s:=by
 have T:s.TypeIs (.ref z) "zip" := ⟨_,Z.z,rfl⟩
 unfold Gi;refine Zc (Uv (JR (name:=Vp "__next__") T GF (JK GF T HR (zhb hh D Z hend fun h' e b ⟨o,ho,hc⟩ => ?_) (Ho _))));exact Zc (Yq (T := "StopIteration") (b:=true) ⟨o,ho,hc⟩ isSubtype_stop (Zj (k _ b)))
end
noncomputable def zt1 (h:Je) (l1:Zh):Je:=h.push { cls:=.type "tuple_iterator",data:=.fields #[.ref l1,.int 0 0] }
noncomputable def zt2 (h:Je) (l1 l2:Zh):Je:=(zt1 h l1).push { cls:=.type "tuple_iterator",data:=.fields #[.ref l2,.int 0 0] }
noncomputable def zt3 (h:Je) (l1 l2:Zh):Je:=(zt2 h l1 l2).push { cls:=.type "tuple",data:=.seq #[.ref h.objs.size,.ref (zt1 h l1).objs.size] }
noncomputable def zt4 (h:Je) (l1 l2:Zh):Je:=(zt3 h l1 l2).push { cls:=.type "tuple",data:=.seq #[.none,.none] }
noncomputable def zt5 (h:Je) (l1 l2:Zh):Je:=(zt4 h l1 l2).push { cls:=.type "zip",data:=.fields #[.none,.bool false,.bool false,.ref (zt2 h l1 l2).objs.size,.ref (zt3 h l1 l2).objs.size] }
theorem ziU (l1 l2:Zh) (xs ys:Array Za):Cw (Builtin.«zip.__new__» ⟨[.type "zip",.ref l1,.ref l2],[]⟩) (fun _ R s=>s.heap.IsTuple l1 xs∧s.heap.IsTuple l2 ys∧R (.ok (.ret (.ref (zt4 s.heap l1 l2).objs.size))) { s with heap:=zt5 s.heap l1 l2 }) :=
 .of_wp fun prog w A R s h=>by
  obtain⟨hp,g,d,tk,os⟩:=s;obtain⟨t1,t2,h⟩:=h;have sub:=sub_zip;have T1:CK (Hz ⟨hp,g,d,tk,os⟩) l1 xs:=t1;have T2:CK (Hz ⟨hp.push { cls:=.type "tuple_iterator",data:=.fields #[.ref l1,.int 0 0] },g,d,tk,os⟩) l2 ys:=FJ t2 _
  wp_walk using KD T1,KD T2
  exact⟨_,rfl,h⟩
section
variable {prog:Qc}{w:QG}{A:QB}{E:Za→Zf→Prop}{s:Zf}{l1 l2:Zh}{xs ys:Array Za}{Q:Za→Zf→Prop}
theorem zeK (t1:s.heap.IsTuple l1 xs) (t2:s.heap.IsTuple l2 ys)
  (k:∀h',ZT { s with heap:=h' } (s.heap.objs.size+4) (s.heap.objs.size+2) (s.heap.objs.size+3) s.heap.objs.size (s.heap.objs.size+1) l1 l2 0 0 xs ys .none .none→(∀c o,s.heap.get? c=some o→h'.get? c=some o)→Q (.ref (s.heap.objs.size+4)) { s with heap:=h' }) :
  ZF (model prog w) A (call (.type "zip") [.ref l1,.ref l2]) Q E s:=by
 refine callType_new F.called_zip (by decide) (F.typeCall_zip_2 _ _) (F.newCall_zip_2 _ _) (fun obj=>F.args_object_init_3 obj _ _) F.entry_zip_new (ziU l1 l2 xs ys) ⟨t1,t2,?_⟩;have z1:(zt1 s.heap l1).objs.size=s.heap.objs.size+1:=YG ..;have z2:(zt2 s.heap l1 l2).objs.size=s.heap.objs.size+2:=by unfold zt2;rw[YG,z1]
 have z3:(zt3 s.heap l1 l2).objs.size=s.heap.objs.size+3:=by unfold zt3;rw[YG,z2]
 have z4:(zt4 s.heap l1 l2).objs.size=s.heap.objs.size+4:=by unfold zt4;rw[YG,z3]
 have up:∀c o,s.heap.get? c=some o→(zt5 s.heap l1 l2).get? c=some o:=fun c o q=>Ze _ (Ze _ (Ze _ (Ze _ (Ze _ q))));have g5:(zt5 s.heap l1 l2).get? (zt4 s.heap l1 l2).objs.size=some _:=Zy _ rfl;have g4:(zt5 s.heap l1 l2).get? (zt3 s.heap l1 l2).objs.size=some _:=Ze _ (Zy _ rfl);have g3:(zt5 s.heap l1 l2).get? (zt2 s.heap l1 l2).objs.size=some _:=Ze _ (Ze _ (Zy _ rfl));have g2:(zt5 s.heap l1 l2).get? (zt1 s.heap l1).objs.size=some _:=Ze _ (Ze _ (Ze _ (Zy _ rfl)));have g1:(zt5 s.heap l1 l2).get? s.heap.objs.size=some _:=Ze _ (Ze _ (Ze _ (Ze _ (Zy _ rfl))));show _∧_;rw[z2,z3,z4]at g5;rw[z1,z2]at g3;rw[z3]at g4;rw[z1]at g2;rw[z4];exact⟨⟨_,g5,rfl⟩,k _ ⟨g5,g3,g4,⟨_,g1,rfl,rfl⟩,⟨_,g2,rfl,rfl⟩,let ⟨o,e,r⟩:=t1;⟨o,up _ _ e,r⟩,let ⟨o,e,r⟩:=t2;⟨o,up _ _ e,r⟩⟩ up⟩
end
end L2.Y
namespace L2.Y
open PySem
open AutoSeq1 (wpAny_loadPart')
section
variable {prog:Qc}{w:QG}{A:QB}{E:Za→Zf→Prop}{s:Zf}{l:Zh}{xs:Array Za}{Q:Za→Zf→Prop}
end
end L2.Y
namespace L2.Y
open PySem PySem.Spec PyProof.Rows
noncomputable def ItzT (K:Frag) (a b:Zh):It :=
 ⟨fun i H=>∃xs ys x y,SqT K H a xs∧SqT K H b ys∧xs[i]?=some x∧ys[i]?=some y,
   fun i H v H'=>∃p x y,v=.ref p∧H p=none∧H'=upd H p (.tup [x,y])∧(∀xs,SqT K H a xs→xs[i]?=some x)∧∀ys,SqT K H b ys→ys[i]?=some y,
   fun i H=>∃xs ys,SqT K H a xs∧SqT K H b ys∧(xs.length≤i∨ys.length≤i)⟩
theorem zhK {X:Cx}{pins:List (Zh×Obj)}{σ:St}{H:Hp}{s:Zf}{h' : Je}{tk:Nat}{fp:List Zh}(I:Inv X pins σ H s) (hf:∀b∈fp,FpOk X pins H b) (k:∀c o,c∉fp→s.heap.get? c=some o→h'.get? c=some o):Inv X pins σ H { s with heap:=h',toks:=tk }:=by
 refine I.call' (ch:=fp) rfl ⟨fun b u q _ _ hx=>k b u hx q,fun b u q _ _ hx=>⟨u.slots,k b u hx q⟩,fun b u q n _=>n,fun b u q hx=>⟨u,k b u hx q⟩,fun _ _ q=>q,fun _ _ _ q=>q,fun b ps q=>⟨#[],by rw[q];simp⟩⟩ (fun b u q => ?_) I.bare
  fun c hcm=>let ⟨_,f1,_,f3,f4,f5⟩:=hf c hcm;⟨f3,f1,f4,f5⟩
 refine(I.hok b u q).stay (fun c v hcc r=>k c v (fun zz => ?_) r) (fun c r=>r) fun c xs r=>r;have z0:=(hf c zz).1;rcases hcc with rfl | hcc
 ·rw[q]at z0;cases z0
 ·rw[hcc]at z0;cases z0
theorem zfy {X:Cx}{pins:List (Zh×Obj)}{σ:St}{H:Hp}{s:Zf}{h' : Je}{tk:Nat}{fp:List Zh}{x y:V}{ux uy:Za}(I:Inv X pins σ H s) (hf:∀b∈fp,FpOk X pins H b) (k:∀c o,c∉fp→s.heap.get? c=some o→h'.get? c=some o) (rx:RelV x ux) (ry:RelV y uy) (g:Uh h' s.heap.objs.size ux uy) :
  Inv X pins σ (upd H s.heap.objs.size (.tup [x,y])) { s with heap:=h',toks:=tk }:=by
 have hfree:H s.heap.objs.size=none:=I.hok.fresh (Zg _);have new:jA X.prog X.w (upd H s.heap.objs.size (.tup [x,y])) h' s.heap.objs.size (.tup [x,y]):=⟨by show 2≤Zu;decide,[ux,uy],.cons rx (.cons ry .nil),⟨_,g,rfl,0,rfl⟩⟩
 exact I.call' (s':={ s with heap:=h',toks:=tk }) (ch:=fp) rfl (zk3 k (Zg _) hfree) (zhH I.hok k (fun c hcm=>(hf c hcm).1) hfree new) I.bare fun c hcm=>let ⟨_,f1,_,f3,f4,f5⟩:=hf c hcm;⟨f3,f1,f4,f5⟩
theorem zgZ {P:Qc}{w:QG}{K:Frag}{elts:List Expr}{k:Nat}{pos:Pos}{z TI TO i1 i2 a b:Zh}(D:MJ z TI TO i1 i2 a b):Turn P w K (.Tuple elts k pos) (ItzT K a b) [z,TI,TO,i1,i2] z
  (fun i h=>Bj h z TI TO .none∧Uh h TI (.ref i1) (.ref i2)∧(∃u v,Uh h TO u v)∧h.IsTupleIter i1 a i∧h.IsTupleIter i2 b i) where
 mem:=by simp
 obj:=fun i h st c hc=>by
  obtain⟨s1,s2,⟨u,v,s3⟩,⟨o4,e4,c4,d4⟩,⟨o5,e5,c5,d5⟩⟩:=st;simp only[ZS,Ub,or_false]at hc;rcases hc with rfl | rfl | rfl | rfl | rfl
  ·exact⟨_,s1,fun v q=>by have q' : Data.fields _=Data.cell v:=q;cases q'⟩
  ·exact⟨_,s2,fun v q=>by have q' : Data.seq _ _=Data.cell v:=q;cases q'⟩
  ·exact⟨_,s3,fun v q=>by have q' : Data.seq _ _=Data.cell v:=q;cases q'⟩
  ·exact⟨o4,e4,fun v q=>by rw[d4]at q;cases q⟩
  ·exact⟨o5,e5,fun v q=>by rw[d5]at q;cases q⟩
 keep:=fun i h h' st kk=>by
  obtain⟨s1,s2,⟨u,v,s3⟩,s4,s5⟩:=st;exact⟨kk z (by simp) _ s1,kk TI (by simp) _ s2,⟨u,v,kk TO (by simp) _ s3⟩,yE s4 fun o e=>kk i1 (by simp) o e,yE s5 fun o e=>kk i2 (by simp) o e⟩
 item:=by
  intro X hP hw hK hc i pins s σ H E I hf st hg;subst hP hw hK;obtain⟨s1,s2,⟨u,v,s3⟩,s4,s5⟩:=st;obtain⟨xs,ys,x,y,q1,q2,hx,hy⟩:=hg;obtain⟨its,rv,p,hz⟩:=I.tuple q1;obtain⟨its',rv',p',hz'⟩:=I.tuple q2;obtain⟨ux,hux,rux⟩:=rv.get hx;obtain⟨uy,huy,ruy⟩:=rv'.get hy;have hfree:H s.heap.objs.size=none:=I.hok.fresh (Zg _);refine zex D ⟨s1,s2,s3,s4,s5,(show s.heap.IsTuple a its.toArray from p),(show s.heap.IsTuple b its'.toArray from p')⟩ (x:=ux) (y:=uy) (by simpa using hux) (by simpa using huy) fun h' a1 a2 a3 a4 a5 hk => ?_;refine⟨_,rfl,wpAny_letOwnedTupleGo_zip (s:={ s with heap:=h' }) a1 fun h'' b1 sb => ?_⟩;have hTz:s.heap.objs.size≠z:=YJ (ZD s1);have keep2:∀c o,c∉[z,TI,TO,i1,i2]→s.heap.get? c=some o→h''.get? c=some o:=fun c o hcn e=>by
   simp only[ZS,Ub,or_false,not_or]at hcn;exact(sb.2 c hcn.1).trans (hk c o hcn.1 hcn.2.2.1 hcn.2.2.2.1 hcn.2.2.2.2 e)
  have g5:Uh h'' s.heap.objs.size ux uy:=(sb.2 _ hTz).trans a5;refine⟨.ref s.heap.objs.size,_,zfy (s:=s) (tk:=s.toks) I hf keep2 rux ruy g5,rfl,⟨_,x,y,rfl,hfree,rfl,fun xs' h1=>by rw[I.tuple_inj h1 q1];exact hx,fun ys' h2=>by rw[I.tuple_inj h2 q2];exact hy⟩,
   ⟨b1,(sb.2 TI D.TIz).trans (hk TI _ D.TIz D.TITO D.TIi1 D.TIi2 s2),⟨_,_,(sb.2 TO D.TOz).trans a2⟩,yE a3 (fun o e=>(sb.2 i1 D.i1z).trans e),yE a4 fun o e=>(sb.2 i2 D.i2z).trans e⟩,fun c hcm => ?_⟩
  have lt:∃o,s.heap.get? c=some o:=by
   simp only[ZS,Ub,or_false]at hcm;rcases hcm with rfl | rfl | rfl | rfl | rfl
   ·exact⟨_,s1⟩
   ·exact⟨_,s2⟩
   ·exact⟨_,s3⟩
   ·obtain⟨o,e,_⟩:=s4;exact⟨o,e⟩
   ·obtain⟨o,e,_⟩:=s5;exact⟨o,e⟩
  obtain⟨o,e⟩:=lt;rw[zu (QD (ZD e))];exact(hf c hcm).1
 done:=by
  intro X hP hw hK hc i pins s σ H E I hf st hg;subst hP hw hK;obtain⟨s1,s2,⟨u,v,s3⟩,s4,s5⟩:=st;obtain⟨xs,ys,q1,q2,hl⟩:=hg;obtain⟨its,rv,p,hz⟩:=I.tuple q1;obtain⟨its',rv',p',hz'⟩:=I.tuple q2;have l1:=rv.length;have l2:=rv'.length;refine zew (I.ok.hd hc) D ⟨s1,s2,s3,s4,s5,(show s.heap.IsTuple a its.toArray from p),(show s.heap.IsTuple b its'.toArray from p')⟩ (hl.imp (fun q=>by simp;omega) fun q=>by simp;omega) fun h' hk=>⟨rfl,zhK (s:=s) (tk:=s.toks) I hf fun c o hcn e => ?_⟩
  simp only[ZS,Ub,or_false,not_or]at hcn;exact hk c o hcn.1 hcn.2.2.1 hcn.2.2.2.1 hcn.2.2.2.2 e
 self:=fun _ _ _ _ _ st h=>CT st.1 h
theorem zhN {K:Frag}{B:Hp}{a b:Zh}{xs ys:List V}{ds es:List D}(s1:SqT K B a xs) (r1:Reps K B ds xs) (s2:SqT K B b ys) (r2:Reps K B es ys):ItD K B (ItzT K a b) (zip2 ds es) where
 go:=fun i H s hi=>by
  obtain⟨x,y,h1,h2,_⟩:=za0 ds es i (d:=(zip2 ds es)[i]) (by simp[hi]);obtain⟨v,g1,_⟩:=r1.get h1;obtain⟨u,g2,_⟩:=r2.get h2;exact⟨xs,ys,v,u,SqT.same s s1,SqT.same s s2,g1,g2⟩
 yld:=fun i H x H' d s hd y=>by
  obtain⟨p,vx,vy,rfl,hp,rfl,f1,f2⟩:=y;obtain⟨dx,dy,h1,h2,rfl⟩:=za0 ds es i hd;obtain⟨d1,e1,q1⟩:=r1.getV (f1 xs (SqT.same s s1));obtain⟨d2,e2,q2⟩:=r2.getV (f2 ys (SqT.same s s2));rw[h1]at e1;cases e1;rw[h2]at e2;cases e2;exact .new hp (.cons q1 (.cons q2 .nil))
 stop:=fun H s=>⟨xs,ys,SqT.same s s1,SqT.same s s2,by
  rw[zdL,r1.length,r2.length];omega⟩
section
variable {X:Cx}
theorem zik {a b:Expr}{elts:List Expr}{k:Nat}{tpos p pos:Pos}{ga:Env'→Option (List D)}(hg:Gl X "zip") (hm:X.mg "zip" = none) (ha:PAd X [a,b] ga) (hs:autoParam (Qm [a,b] X.env=[(false,eval a X.env),(false,eval b X.env)]) aTc) (hs2:autoParam (Qm [b] X.env=[(false,eval b X.env)]) aTc) :
  PId X (.Tuple elts k tpos) (.Call (.Name "zip" p) [a,b] [] pos) (gItA zipT ga):=by
 intro pins s σ H R I hZq;obtain⟨F,O,ρ,ds,r,e,kk⟩:=hZq;obtain⟨as,e1,e2⟩:=Zb.mp e;refine Call_ (xU I hg hm (by decide +kernel:JX "zip" = some (.type "zip")) (Jm (thn (ha pos pins s σ H (fun vs H1=>Same H H1∧Reps X.K (hide O H1) as vs) I ⟨F,O,ρ,as,r,e1,fun vs H1 s1 rb=>⟨s1,rb⟩⟩) fun us s1 ⟨vs,H1,I1,r1,sm,rb⟩ => ?_) (by rw[hs,hs2]) (by rw[hs2];rfl)));unfold zipT at e2;split at e2
 ·cases e2;cases rb with
  | cons b1 rb =>
   cases rb with
   | cons b2 rb =>
    cases rb;cases r1 with
    | @cons _ u1 _ _ q1 rr =>
     cases rr with
     | @cons _ u2 _ _ q2 rr =>
      cases rr;cases b1 with
      | @tup la xs d1 sq1 rs1 =>
       cases b2 with
       | @tup lb ys d2 sq2 rs2 =>
        obtain rfl:u1=Za.ref la:=q1;obtain rfl:u2=Za.ref lb:=q2;have t1:SqT X.K (hide O H1) la xs:=.inl (.inl sq1);have t2:SqT X.K (hide O H1) lb ys:=.inl (.inl sq2);obtain⟨its,rv,p,_⟩:=I1.tuple (SqT.same jg t1);obtain⟨its',rv',p',_⟩:=I1.tuple (SqT.same jg t2);have lta:la<s1.heap.objs.size:=by obtain⟨o,e,_⟩:=p;exact ZD e
        have ltb:lb<s1.heap.objs.size:=by obtain⟨o,e,_⟩:=p';exact ZD e
        refine zeK (show s1.heap.IsTuple la its.toArray from p) (show s1.heap.IsTuple lb its'.toArray from p') fun h' Z kp=>CT Z.z ?_;refine⟨_,[s1.heap.objs.size+4,s1.heap.objs.size+2,s1.heap.objs.size+3,s1.heap.objs.size,s1.heap.objs.size+1],_,_,H1,rfl,I1.kept (t':=s1.toks) kp,zgZ (zhc _ _ _ lta ltb),⟨Z.z,Z.ti,⟨_,_,Z.to⟩,Z.w1,Z.w2⟩,fun c hc => ?_,kk _ H1 sm (zhN t1 rs1 t2 rs2)⟩;have le:s1.heap.objs.size≤c:=by
         simp only[ZS,Ub,or_false]at hc;have go:∀n x:Nat,(x=n+4∨x=n+2∨x=n+3∨x=n∨x=n+1)→n≤x:=fun n x h=>by omega
         exact go _ _ hc
        exact I1.fpOk le (I1.hok.fresh le)
 ·cases e2
end
end L2.Y
namespace L2.Y
open PySem PySem.Spec PyProof.Rows
section
variable {X:Cx}
end
end L2.Y
namespace L2.Y
open PySem PySem.Spec PyProof.Rows
section
variable {X:Cx}
theorem zl7 {a b:Expr}{pos:Pos}{gl:Env'→Option (List D)}{gb:Env'→Option D}(ha:PFr X a gl) (hb:PB X b gb):PFr X (.BinOp a .Mult b pos) (gF2 mulL (gLs gl) gb) :=
 PE.imp (zl4 zlP ha hb) fun σ H Q hZq=>by
  obtain⟨F,O,ρ,es,r,e,k⟩:=hZq;obtain⟨dl,e1,e2⟩:=Zb.mp e;obtain⟨db,e3,e4⟩:=Zb.mp e2;obtain⟨ds,e5,rfl⟩:=ZG.mp e1;unfold mulL at e4;split at e4
  ·rename_i ds' kk q;cases q;unfold repD at e4;split at e4
   ·rename_i hc;cases e4;refine⟨F,O,ρ,ds,r,e5,fun p xs H1 s1 hp b1 => ?_⟩;have sm:=s1.trans (zY (o:=.lst xs) hp);refine⟨F,O,ρ,_,r.same sm,e3,fun v H2 s2 b2 => ?_⟩;cases b2.int;refine⟨p,kk,xs,rfl,rfl,s2 _ _ zR,hc.1,hc.2.1,by rw[←b1.length];exact hc.2.2,fun q hq=>k q _ H2 (sm.trans s2) hq ?_⟩;exact(b1.same (zP ((zY hp).trans s2))).rep kk.toNat
   ·cases e4
  ·cases e4
theorem zeM:yT X (.type "int") intOfD:=by
 intro pins s σ H O xs us ds d Q I hO rv bs e k;unfold intOfD at e;split at e
 ·cases e;obtain⟨v,rfl,b⟩:=bs.inv1;cases b.bl;exact za9 pins s σ H _ us Q I rv (.inr ⟨_,rfl,k _ H (Same.refl _) (.int _)⟩)
 ·cases e;obtain⟨v,rfl,b⟩:=bs.inv1;cases b.int;exact za9 pins s σ H _ us Q I rv (.inl ⟨_,rfl,k _ H (Same.refl _) (.int _)⟩)
 ·cases e
end
end L2.Y
namespace L2.Y
open PySem PySem.Spec PyProof.Rows PySem.W
section
variable {X:Cx}
end
section
variable {prog:Qc}{w:QG}{A:QB}{E:Za→Zf→Prop}{s:Zf}{xs:Array (Int×Tok)}
end
section
variable {X:Cx}
end
end L2.Y
namespace L2.Y
open PySem PySem.Spec PyProof.Rows PySem.W
section
variable {X:Cx}
noncomputable def rExt:V→List V→Hp→VK→Prop:=fun x vs H Q=>∃l b xs zs,x=.ref l∧vs=[.ref b]∧H l=some (.lst xs)∧Rd H b (.lst zs)∧xs.length+zs.length≤Zu∧Q .non (upd H l (.lst (xs++zs)))
theorem zlF:MtM X "list.extend" rExt:=by
 intro pins s σ H x vs v us Q I rx rv h;obtain⟨l,b,xs,zs,rfl,rfl,hH,hB,hz,q⟩:=h;cases rx;obtain⟨u,rfl,ru⟩:=rv.one;cases ru;obtain⟨z,its,n,r,hl,e⟩:=I.lstM hH;obtain⟨z2,its2,n2,r2,e2⟩:=hB.ok I.hok;have hl2:=r2.length;have hsz:its.toArray.size+its2.toArray.size≤Zu:=by rw[Zv,Zv];omega
 refine Yn MK ⟨_,e,rfl⟩ PySem.F.entry_list_extend (PySem.F.args_list_extend_2 _ _)
  (AutoSeq1.list_extend_list_list_0 l its.toArray n b its2.toArray n2 (by rw[zaH hsz,Bool.and_false];exact Jd) (by rw[Zv];omega) (by omega)) ⟨e,e2,?_⟩
 refine⟨.non,_,I.lset (its':=its++its2) hH e (by simp) (r.append r2) ?_,rfl,q⟩;rw[Zx];omega
theorem zkz {i:Nat}{x:Str}{e:Expr}{p apos cpos pos:Pos}{ge:Env'→Option D}(hv:PE X (.Name x p) (tVar i)) (he:PD X e ge)
  (hbase:autoParam (Gk (.Name x p) "extend" X.env (eval (.Name x p) X.env)=eval (.Name x p) X.env) aTc)
  (hfew:autoParam (((Ke cpos (Qm [e] X.env)).all (fun x=>!x.1)&&(backToKw cpos (Pk [] X.env)).all (fun x=>x.1.isSome)
   && decide (([e]:List Expr).length+([]:List La).length+(if([]:List La).isEmpty then 0 else 1)<30))=true) aTc)
  (hline:autoParam ((apos.endLine == cpos.line)=true) aTc) (hs:autoParam (Qm [e] X.env=[(false,eval e X.env)]) aTc)
  (hsw:autoParam (Gw (.Call (.Attribute (.Name x p) "extend" apos) [e] [] cpos) none pos.line X.env=pure false) aTc) :
  PSd X (.Expr (.Call (.Attribute (.Name x p) "extend" apos) [e] [] cpos) pos) (sExt i ge) :=
 PS.imp (zgm (zlX Ks MK PySem.F.type_list_extend zlF hv (yG he zbC hs) hbase hfew hline hs (by rfl)) hsw) fun D σ H hZq=>by
  obtain⟨F,O,ρ,out,r,e,k⟩:=hZq;obtain⟨d,e1,e2⟩:=Zb.mp e;split at e2
  ·rename_i es;obtain⟨ds,e3,e4⟩:=Zb.mp e2;split at e4
   ·rename_i hl;cases e4;have ho:=yc e3;obtain⟨q,h1,h2,h3,h4⟩:=r.own i _ ho;cases h4 with
    | lst hq rq =>
     rename_i xs;refine⟨_,h1,.inl ⟨rfl,xs,SqL.of hq⟩,F,O,ρ,_,r,e1,fun v H1 s1 b1 => ?_⟩;cases b1 with
     | @lst b zs _ sq rs =>
      refine⟨q,b,xs,zs,rfl,rfl,s1 _ _ hq,sq.imp (jg _ _) fun⟨o,q⟩=>⟨o,jg _ _ q⟩,by rw[←rq.length,←rs.length];exact hl,?_⟩;refine k O σ _ ((r.same s1).mut ho h1 (.lst zR ?_));rw[zL h2];exact(rq.same (zP s1)).append rs
   ·cases e4
  ·cases e2
end
end L2.Y
namespace L2.Y
open PySem PySem.Spec PyProof.Rows PySem.W
section
variable {prog:Qc}{w:QG}{A:QB}{E:Za→Zf→Prop}{s:Zf}
theorem zk2 {a b:Zh}{xs ys:List Za}{Q:Za→Zf→Prop}(p1:VP s.heap a xs.toArray) (p2:VP s.heap b ys.toArray) (hl:xs.length+ys.length≤Zu)
  (k:∀r h',(∀c o,s.heap.get? c=some o→h'.get? c=some o)→VP h' r (xs++ys).toArray→(r=a∨r=b∨s.heap.objs.size≤r)→Q (.ref r) { s with heap:=h' }):ZF (model prog w) A (Wl .Add (.ref a) (.ref b)) Q E s:=by
 by_cases he:xs=[]
 ·obtain⟨⟨cls,dd,data,sl⟩,ho,hc,n,hd⟩:=id p1;obtain⟨⟨cls2,dd2,data2,sl2⟩,ho2,hc2,n2,hd2⟩:=id p2;simp only at hc hd hc2 hd2;subst hc hd hc2 hd2;refine My ⟨_,ho,rfl⟩ ⟨_,ho2,rfl⟩ Gx By Yv Yp (Yh _ _)
   (tuple_addW0 a b xs.toArray ys.toArray n n2 dd dd2 sl sl2 (by simp[he])) ⟨ho,ho2,?_⟩
  exact k b s.heap (fun _ _ q=>q) (by rw[he];exact p2) (.inr (.inl rfl))
 ·refine HT.cat_tup p1 p2 he (fun z => ?_) (fun z => ?_) hl
  ·exact k a s.heap (fun _ _ q=>q) (by rw[z,Yt];exact p1) (.inl rfl)
  ·exact k _ _ (fun c o q=>Ze _ q) ⟨_,Zy _ rfl,rfl,_,rfl⟩ (.inr (.inr (Zg _)))
end
end L2.Y
namespace L2.Y
open PySem PySem.Spec PyProof.Rows PySem.W
noncomputable def preC (con:Nat→List Za):Nat→List Za
 | 0=>[]
 | i+1=>preC con i++con i
theorem zkw (con:Nat→List Za):∀ {i n:Nat},i≤n→(preC con i).length≤(preC con n).length:=fun {i n} h=>by
 induction n with
 | zero=>rw[show i=0 by omega];exact Zg _
 | succ n ih =>
  by_cases e:i=n+1
  ·rw[e];exact Zg _
  ·have:=ih (by omega);show _≤(preC con n++con n).length;rw[Zx];omega
section
variable {prog:Qc}{w:QG}{A:QB}{R:HB→Zf→Prop}{I:Zh}{fp wr:List Zh}{G:Array PL→Array PL→Prop}{n:Nat}{P:Nat→Za→Prop}{St:Nat→Zf→Prop}
theorem zlE (W:WalksS prog w A.in1 I fp wr G n P St) (live:∀i s,St i s→∀b∈wr,∃o,s.heap.get? b=some o) (ad:Nat→Zh) (con:Nat→List Za) (hval:∀i v,P i v→v=.ref (ad i)) (S:Zh) (hSf:S∉fp) (Lc:Zh→Prop) (lc1:∀i,i<n→Lc (ad i)) (lc2:∀r,S<r→Lc r) (hz:(preC con n).length≤Zu) :
  ∀(k i:Nat) (s:Zf) (T:Zh) (c:Nat),n-i=k→i≤n→St i s→s.heap.get? S=some { cls:=.type "list",dict:=none,data:=.seq #[.ref T] c,slots:=#[] }→VP s.heap T (preC con i).toArray→Lc T→T∉wr→(∀j,j<n→VP s.heap (ad j) (con j).toArray∧ad j∉wr) →
  (∀s' T',Moved (S::wr) G s s'→VP s'.heap T' (preC con n).toArray→Lc T'→T'∉wr→R (.ok (.ret (.ref T'))) s')→Kr (model prog w) A (.builtin "sum.loop" ⟨[.ref I,.ref S,KJ 2,KJ 0],[]⟩) R s:=by
 have hSw:S∉wr:=fun h=>hSf (W.sub _ h);have hsub:∀b∈wr,b∈S::wr:=fun b hb=>Zq _ hb;have neS:∀ {h:Je}{T' T:Zh}{c:Nat}{xs:Array Za},h.get? S=some { cls:=.type "list",dict:=none,data:=.seq #[.ref T] c,slots:=#[] }→VP h T' xs→T'≠S:=fun a b q=>by
  subst q;obtain⟨o,e,hc,_⟩:=b;rw[a]at e;cases e;simp at hc
 intro k
 induction k with
 | zero =>
  intro i s T c hk hi hst hS hT hLc hTw hcon hR;have hin:i=n:=by omega
  subst hin;refine Vy HS ?_;rw[VJ Gq _];show ZF _ A.in1 (Ng (.ref S) >>= _) _ _ s;refine Zc (Vu hS rfl ?_);show ZF _ A.in1 (tryCatch (Gi (.ref I)) _ >>= _) _ _ s;refine Zc (wpAny_tryCatch (W.done s _ _ hst fun s' hm => ?_));obtain⟨o,e,r⟩:=hT;exact Zj (hR s' T (hm.mono hsub) ⟨o,hm.heap T o hTw e,r⟩ hLc hTw)
 | succ k ih =>
  intro i s T c hk hi hst hS hT hLc hTw hcon hR;have hlt:i<n:=by omega
  refine Vy HS ?_;rw[VJ Gq _];show ZF _ A.in1 (Ng (.ref S) >>= _) _ _ s;refine Zc (Vu hS rfl ?_);show ZF _ A.in1 (tryCatch (Gi (.ref I)) _ >>= _) _ _ s;refine Zc (wpAny_tryCatch (W.item i s _ _ hlt hst fun v s' hP hst' hm => ?_));obtain rfl:=hval i v hP;have hS':=hm.heap S _ hSw hS;have keep:∀ {b:Zh}{xs:Array Za},VP s.heap b xs→b∉wr→VP s'.heap b xs:=fun {b xs} ⟨o,e,r⟩ hb=>⟨o,hm.heap b o hb e,r⟩
  have hT':=keep hT hTw;have hA:=keep (hcon i hlt).1 (hcon i hlt).2;show ZF _ A.in1 ((holding [Za.ref (ad i)] (Wl .Add (.ref T) (.ref (ad i)))).attempt >>= _) _ _ _;refine Zc (Uv (JW (zk2 hT' hA (by
   have:=zkw con (show i+1≤n from hlt);rw[show preC con (i+1)=preC con i++con i from rfl,Zx]at this;omega) fun r h' up hr hw => ?_)))
  have hrw:r∉wr:=by
   rcases hw with rfl | rfl | hw
   ·exact hTw
   ·exact(hcon i hlt).2
   ·intro z;obtain⟨o,e⟩:=live _ _ hst' r z;exact absurd (ZD e) (Nat.not_lt.mpr hw)
  have hLr:Lc r:=by
   rcases hw with rfl | rfl | hw
   ·exact hLc
   ·exact lc1 i hlt
   ·exact lc2 r (Zo (ZD hS') hw)
  have hS1:=up S _ hS';have hrS:r≠S:=neS hS1 hr;show ZF _ A.in1 (CZ S (fun _=>#[.ref r]) >>= _) _ _ _;refine Zc (Eb hS1 rfl ?_);have hS₂:=Vm (QR fun _=>#[Za.ref r]) hS1 rfl;refine Zc (LR ?_);have two:∀ {b:Zh}{o:Obj},b≠S→s'.heap.get? b=some o→((h'.update S (QR fun _=>#[Za.ref r])).update S (QR fun _=>#[Za.ref r])).get? b=some o:=fun {b o} hb e =>
   (JV _ _ (fun h:S=b=>hb h.symm)).trans ((JV _ _ (fun h:S=b=>hb h.symm)).trans (up b o e))
  have twoT:∀ {b:Zh}{xs:Array Za},b≠S→VP h' b xs→VP ((h'.update S (QR fun _=>#[Za.ref r])).update S (QR fun _=>#[Za.ref r])) b xs:=fun {b xs} hb ⟨o,e,q⟩ =>
   ⟨o,(JV _ _ (fun h:S=b=>hb h.symm)).trans ((JV _ _ (fun h:S=b=>hb h.symm)).trans e),q⟩
  refine Zc (Eb hS₂ rfl (Zj ⟨Gj Gq _,ih (i+1) _ r _ (by omega) hlt (W.frame _ s' _ _ hst' (by first | exact Zg _ | exact Yw _ | omega) fun b hb o e => ?_) (Vm _ hS₂ rfl) (twoT hrS hr) hLr hrw (fun j hj => ?_) fun s'' T'' hm'' hT'' hL'' hw'' => ?_⟩))
  ·exact two (fun h=>hSf (h▸hb)) e
  ·have q:=hcon j hj;obtain⟨o,e,z⟩:=keep q.1 q.2;exact⟨⟨o,two (neS hS' ⟨o,e,z⟩) e,z⟩,q.2⟩
  ·refine hR s'' T'' (Moved.trans W.gtrans ((hm.mono hsub).then_heap (by first | exact Zg _ | exact Yw _ | omega) fun b o hb e => ?_) hm'') hT'' hL'' hw'';exact two (fun h=>hb (by rw[h];exact Zn)) e
end
end L2.Y
namespace L2.Y
open PySem PySem.Spec PyProof.Rows PySem.W
theorem zeE (a b:Za):argsOk "sum" ⟨[a],[(Vp "start",b)]⟩:=by unfold argsOk;kernel_rfl
section
variable {prog:Qc}{w:QG}{A:QB}{E:Za→Zf→Prop}{s:Zf}
theorem zbb {id:String}{b:Builtin}{args:List Za}{kw:List (Str×Za)}{Q:Za→Zf→Prop}(hk:builtinKind id=none) (hp:plainId id=true)
  (hb:entryFor table id=some b) (ha:argsOk id ⟨args,kw⟩)
  (hc:ZF (model prog w) A.in1 (b ⟨args,kw⟩) (fun fin s'=>match fin with
   | .done f=>(match (Except.ok f:HB) with | .ok (.ret v)=>Q v s' | .ok _=>False | .error e=>E e s')
   | .again c'=>c'.quiet=true∧Kr (model prog w) A c' (fun r s'=>match r with | .ok (.ret v)=>Q v s' | .ok _=>False | .error e=>E e s') s') E s) :
  ZF (model prog w) A (call (.builtin id) args kw) Q E s:=by
 refine wpAny_call (codeAny_call_builtin hp hb ?_);simp only[Ss,hk];cases hsig:Manifest.signature? id with
 | none=>exact Zj hc
 | some sig =>
  simp only[argsOk,hsig]at ha;have h2:Bind.checkArgs id sig ⟨args,kw⟩=pure ():=ha;simp only[h2];exact Zj hc
theorem sub_tuple_str:Sh (.type "tuple") (.type "str")=pure false:=by rw[EY];kernel_rfl
theorem sub_tuple_bytes:Sh (.type "tuple") (.type "bytes")=pure false:=by rw[EY];kernel_rfl
theorem sub_tuple_bytearray:Sh (.type "tuple") (.type "bytearray")=pure false:=by rw[EY];kernel_rfl
theorem zeJ {t e0:Zh}{items:List Za}{Q:Za→Zf→Prop}(hh:A.handled=none) (ad:Nat→Zh) (con:Nat→List Za) (ht:VP s.heap t items.toArray) (he:VP s.heap e0 #[])
  (hit:∀(i:Nat) (v:Za),items[i]?=some v→v=.ref (ad i)) (hcon:∀j,j<items.length→VP s.heap (ad j) (con j).toArray) (hz:(preC con items.length).length≤Zu)
  (k:∀T' h' tk,(∀b o,s.heap.get? b=some o→h'.get? b=some o)→VP h' T' (preC con items.length).toArray→(T'=e0∨(∃j,j<items.length∧T'=ad j)∨s.heap.objs.size≤T')→Q (.ref T') { s with heap:=h',toks:=tk }) :
  ZF (model prog w) A (call (.builtin "sum") [.ref t] [(Vp "start",.ref e0)]) Q E s:=by
 refine zbb F.kind_sum F.plain_sum F.entry_sum (zeE _ _) ?_;unfold Builtin.«sum»;simp only[Zz,JQ];rw[if_neg (by decide)];refine Zc (LQ (show Hr "sum" ["start"] 0 ⟨[],[(Vp "start",Za.ref e0)]⟩=pure [some (.ref e0)] from by first | rfl | kernel_rfl) ?_);refine Zc (KD (show s.heap.IsTuple t items.toArray from ht) ?_);refine Zc (Zj ?_);simp only[Ys,GC];have te:Px { s with heap:=s.heap.push { cls:=.type "tuple_iterator",data:=.fields #[.ref t,.int 0 0] } } (.ref e0) "tuple" := by
  obtain⟨o,e,hc,_⟩:=he;exact⟨o,Ze _ e,hc⟩
 refine Zc (Zc (Zc (Yq (T := "tuple") (b:=false) te sub_tuple_str ?_)));simp only[Qq,if_false];refine Zj (Zc (Zc (Yq (T := "tuple") (b:=false) te sub_tuple_bytes ?_)));simp only[Qq,if_false];refine Zj (Zc (Zc (Yq (T := "tuple") (b:=false) te sub_tuple_bytearray ?_)));simp only[Qq,if_false];refine Zj (Zj ?_);refine Zc (Jo ?_);have lt:∀ {b:Zh}{xs:Array Za},VP s.heap b xs→b<s.heap.objs.size:=fun⟨o,e,_⟩=>ZD e;have up2:∀ {b:Zh}{xs:Array Za},VP s.heap b xs→VP ((s.heap.push { cls:=.type "tuple_iterator",data:=.fields #[.ref t,.int 0 0] }).push { cls:=.type "list",data:=.seq #[.ref e0] }) b xs:=fun⟨o,e,q⟩=>⟨o,Ze _ (Ze _ e),q⟩
 have z1:(s.heap.push { cls:=.type "tuple_iterator",data:=.fields #[.ref t,.int 0 0] }).objs.size=s.heap.objs.size+1:=YG ..;have nt:t≠s.heap.objs.size:=QD (lt ht);have nw:∀ {b:Zh}{xs:Array Za},VP s.heap b xs→b∉[s.heap.objs.size]:=fun h m=>Vc _ ((Zw.mp m)▸lt h);refine Zj ⟨Gj Gq _,zlE ((Walks.tuple (A:=A.in1) hh s.heap.objs.size t nt items.toArray).toS) (fun i s' st b hb => ?_) ad con (fun i v h=>hit i v (by simpa using h)) (s.heap.push { cls:=.type "tuple_iterator",data:=.fields #[.ref t,.int 0 0] }).objs.size ?_ (fun T'=>T'=e0∨(∃j,j<items.length∧T'=ad j)∨s.heap.objs.size≤T') (fun i hi=>.inr (.inl ⟨i,by simpa using hi,rfl⟩)) (fun r hr=>.inr (.inr (by rw[z1]at hr;exact JL (WR hr)))) (by simpa using hz) items.toArray.size 0 _ e0 0 (by simp) (Qp _)
  ⟨⟨_,Ze _ (Zy _ rfl),rfl,rfl⟩,up2 ht⟩ (Zy _ rfl) (up2 he) (.inl rfl) (nw he) (fun j hj=>⟨up2 (hcon j (by simpa using hj)),nw (hcon j (by simpa using hj))⟩) fun s' T' hm hT' hl' hw' => ?_⟩
 ·rw[Zw.mp hb];obtain⟨o,e,_⟩:=st.1;exact⟨o,e⟩
 ·rw[z1];intro m;rcases ZS.mp m with m | m
  ·exact(fun(x:Nat) (h:x+1=x)=>by omega:∀x:Nat,x+1=x→False) _ m
  ·exact(fun(x y:Nat) (h:x+1=y) (h2:y<x)=>by omega:∀x y:Nat,x+1=y→y<x→False) _ _ (Zw.mp m) (lt ht)
 ·obtain⟨h',g',d',tk',os'⟩:=s';have eg:g'=s.gens:=hm.gens;have ed:d'=s.drawn:=hm.drawn;have eo:os'=s.os:=hm.os;subst eg;subst ed;subst eo;refine k T' h' tk' (fun b o e => ?_) (by simpa using hT') hl';have lb:=ZD e;refine hm.heap b o (fun m => ?_) (Ze _ (Ze _ e));rw[z1]at m;rcases ZS.mp m with m | m
  ·exact(fun(x y:Nat) (h:y=x+1) (h2:y<x)=>by omega:∀x y:Nat,y=x+1→y<x→False) _ _ m lb
  ·exact(fun(x y:Nat) (h:y=x) (h2:y<x)=>by omega:∀x y:Nat,y=x→y<x→False) _ _ (Zw.mp m) lb
end
end L2.Y
namespace L2.Y
open PySem PySem.Spec PyProof.Rows PySem.W
theorem zao:∀ {ds:List D}{ls:List (List D)},zcJ ds=some ls→ds=ls.map Zm.tuple
 | [],ls,h=>by cases h;rfl
 | d::ds,ls,h=>by
  unfold zcJ at h;rw[Jh]at h;obtain⟨x,h1,h2⟩:=Zb.mp h;obtain⟨xs,h3,h4⟩:=Zb.mp h2;cases h4;have:=zao (ds:=ds) h3;cases d <;> simp at h1
  subst h1;rw[this];rfl
theorem ziL {h:Je}{a:Zh}{xs ys:List Za}(p:VP h a xs.toArray) (q:VP h a ys.toArray):xs=ys:=by
 obtain⟨o,e,_,n,d⟩:=p;obtain⟨o',e',_,n',d'⟩:=q;rw[e]at e';cases e';rw[d]at d';cases d';rfl
noncomputable def preV (con:Nat→List V):Nat→List V
 | 0=>[]
 | i+1=>preV con i++con i
section
variable {X:Cx}
theorem zkS (hc:X.calm=true) {pins:List (Zh×Obj)}{s:Zf}{σ:St}{H:Hp}{O:List Zh}{a e0:Zh}{ds:List D}{d:D}{Q:VK}(I:Inv X pins σ H s) (hO:Dom O H) (ra:Rep X.K (hide O H) (.tuple ds) (.ref a)) (re:Rep X.K (hide O H) (.tuple []) (.ref e0)) (e:zgO [.tuple ds]=some d)
  (k:∀z H',Same H H'→Rep X.K (hide O H') d z→Q z H'):ZF (model X.prog X.w) X.A (call (.builtin "sum") [.ref a] [(Vp "start",.ref e0)]) (EP X pins σ Q) X.xe s:=by
 obtain⟨ls,e1,e2⟩:=Zb.mp (show(zcJ ds).bind _=some d from e);split at e2
 case isFalse=>cases e2
 rename_i hz;cases e2;obtain rfl:=zao e1;cases ra with
 | @tup _ vx _ sq rs =>
  cases re with
  | @tup _ v0 _ sq0 rs0 =>
   cases rs0;obtain⟨its,r1,p1,_⟩:=I.tuple (X:=X) (.inl (.inl (jg _ _ sq)));obtain⟨its0,r0,p0,_⟩:=I.tuple (X:=X) (.inl (.inl (jg _ _ sq0)));cases r0;have nl:vx.length=ls.length:=by rw[←rs.length,Zi]
   have ni:its.length=ls.length:=by rw[←r1.length,nl]
   have item:∀i,∃q:Zh×List Za×List V,i<ls.length→(vx[i]?=some (.ref q.1)∧hide O H q.1=some (.tup q.2.2)∧Vals q.2.2 q.2.1∧VP s.heap q.1 q.2.1.toArray∧Reps X.K (hide O H) (ls.getD i []) q.2.2):=fun i=>by
    by_cases h:i<ls.length
    ·obtain⟨v,g1,g2⟩:=rs.get (i:=i) (d:=.tuple ls[i]) (by simp[h]);cases g2 with
     | @tup b vs _ sb rb =>
      obtain⟨itb,rb1,pb,_⟩:=I.tuple (X:=X) (.inl (.inl (jg _ _ sb)));exact⟨(b,itb,vs),fun _=>⟨g1,sb,rb1,pb,by simpa[h] using rb⟩⟩
    ·exact⟨(0,[],[]),fun z=>absurd z h⟩
   let ad:Nat→Zh:=fun i=>(Kl (item i)).1;let con:Nat→List Za:=fun i=>(Kl (item i)).2.1;let cv:Nat→List V:=fun i=>(Kl (item i)).2.2;have sp:∀i,i<ls.length→vx[i]?=some (.ref (ad i))∧hide O H (ad i)=some (.tup (cv i))∧Vals (cv i) (con i)∧VP s.heap (ad i) (con i).toArray∧Reps X.K (hide O H) (ls.getD i []) (cv i):=fun i hi=>Lq (item i) hi;have pre:∀i,i≤ls.length→Vals (preV cv i) (preC con i)∧Reps X.K (hide O H) (ls.take i).flatten (preV cv i):=by
    intro i
    induction i with
    | zero=>exact fun _=>⟨.nil,.nil⟩
    | succ i ih =>
     intro hi;obtain⟨q1,q2⟩:=ih (by omega);obtain⟨_,_,q3,_,q4⟩:=sp i (by omega);refine⟨q1.append q3,?_⟩;have et:(ls.take (i+1)).flatten=(ls.take i).flatten++ls.getD i []:=by
      have hi' : i<ls.length:=hi;rw[Bo,Nf];simp[hi']
     rw[et];exact q2.append q4
   obtain⟨pv,pr⟩:=pre ls.length (Zg _);rw[Ua]at pr;have zl:(preC con its.length).length≤Zu:=by
    rw[ni,←pv.length,←pr.length];exact hz
   refine zeJ (I.ok.hd hc) ad con (show VP s.heap a its.toArray from p1) p0 (fun i v h => ?_) (fun j hj=>(sp j (by omega)).2.2.2.1) zl fun T' h' tk up hT' hl => ?_
   ·have hi:i<ls.length:=by
     have:=(Qa.mp h).1;omega
    obtain⟨u,g1,g2⟩:=r1.get (sp i hi).1;rw[h]at g1;cases g1;exact g2
   ·rw[ni]at hT' hl;have old:∀ {b:Zh}{xs:List V}{vs:List Za},hide O H b=some (.tup xs)→Vals xs vs→VP s.heap b vs.toArray→T'=b→EP X pins σ Q (.ref T') { s with heap:=h',toks:=tk }:=fun {b xs vs} hb rv p eq=>by
     subst eq;obtain⟨o,eo,q⟩:=p;have:vs=preC con ls.length:=ziL ⟨o,up _ _ eo,q⟩ hT';subst this;have ev:=Vals.inj rv pv;subst ev;exact⟨.ref T',H,I.kept (t':=tk) up,rfl,k _ H (Same.refl _) (.tup hb pr)⟩
    rcases hl with q | ⟨j,hj,q⟩ | hl
    ·exact old sq0 .nil p0 q
    ·obtain⟨_,s2,s3,s4,_⟩:=sp j hj;exact old s2 s3 s4 q
    ·have hf:H T'=none:=I.hok.fresh hl;exact⟨.ref T',_,I.laid (o:=.tup (preV cv ls.length)) (t':=tk) up hl ⟨by rw[←pr.length];exact hz,_,pv,hT'⟩,rfl,k _ _ (zY hf) (xw hf (hO.out hf) pr)⟩
end
end L2.Y
namespace L2.Y
open PySem PySem.Spec PyProof.Rows PySem.W
section
variable {X:Cx}
theorem zki {e:Expr}{ga:Env'→Option (List D)}{p pos kp tp:Pos}{x1}(hg:Gl X "sum") (hm:X.mg "sum" = none) (ha:PAd X [e] ga) (hc:autoParam (X.calm=true) aTc) (hs:autoParam (Qm [e] X.env=[(false,eval e X.env)]) aTc) :
  PD X (.Call (.Name "sum" p) [e] [⟨some "start",.Tuple [] x1 tp,kp⟩] pos) (gA zgO ga):=by
 intro pins s σ H Q I hZq;obtain⟨F,O,ρ,d,r,e',k⟩:=hZq;obtain⟨ds,e1,e2⟩:=vT e';refine WQ (xU I hg hm (by decide +kernel:JX "sum" = some (.builtin "sum")) ?_);refine callWith_kw (thn (ha pos pins s σ H (fun vs H1=>Same H H1∧Reps X.K (hide O H1) ds vs) I ⟨F,O,ρ,ds,r,e1,fun vs H1 s1 rb=>⟨s1,rb⟩⟩) fun us s1 ⟨vs,H1,I1,r1,sm,rb⟩ => ?_) (by rw[hs];rfl) (by rw[hs];rfl);refine kws_cons (thn ((jm zi) pins s1 σ H1 (fun v H2=>Same H1 H2∧Rep X.K (hide O H2) (.tuple []) v) I1 ⟨F,O,ρ,.tuple [],r.same sm,rfl,fun v H2 s2 rb2=>⟨s2,rb2⟩⟩) fun u s2 ⟨v,H2,I2,r2,sm2,rb2⟩=>kws_nil ?_);have e3:=e2;unfold zgO at e2;split at e2
 case h_2=>cases e2
 rename_i xs;cases rb with
 | cons b1 rb =>
  cases rb;cases r1 with
  | @cons _ u1 _ _ q1 rr =>
   cases rr;have b1':=b1.same (zP sm2);cases b1 with
   | @tup la ys _ sq1 rs1 =>
    cases rb2 with
    | @tup lb zs _ sq2 rs2 =>
     obtain rfl:u1=Za.ref la:=q1;obtain rfl:u=Za.ref lb:=r2;exact zkS hc I2 ((r.same (sm.trans sm2)).dom) b1' (.tup sq2 rs2) e3 fun z H' s3 b3=>k z H' (sm.trans (sm2.trans s3)) b3
end
end L2.Y
namespace L2.Y
open PySem PySem.Spec PySem.Calls PyProof.Rows PySem.W
theorem zdu {K:ZM}{H:Hp}(lo:Int):∀l:List Nat,Reps K H (l.map fun(k:Nat)=>.int (lo+k)) (l.map fun(k:Nat)=>V.int (lo+k))
 | []=>.nil
 | k::l=>.cons (.int _) (zdu lo l)
theorem zg4 {P:Nat→Za→Prop}{f:Nat→V}(hp:∀i v,P i v→RelV (f i) v):∀(l:List Za) (i:Nat),(∀j v,l[j]?=some v→P (i+j) v)→Vals ((Sy i l.length).map f) l
 | [],_,_=>.nil
 | v::l,i,h=>by
  have h0:=h 0 v rfl;have h1:=zg4 hp l (i+1) fun j w hj=>by have:=h (j+1) w (by simpa using hj);rwa [show i+(j+1)=i+1+j by omega]at this
  rw[Zz,Dy,Zk];exact .cons (hp i v h0) h1
section
variable {X:Cx}
theorem zgd {a b:Expr}{ga:Env'→Option (List D)}{p pos p2 pos2:Pos}(hc:X.calm=true) (hgl:Gl X "list") (hml:X.mg "list" = none) (hbl:JX "list" = some (.type "list")) (hgr:Gl X "range") (hmr:X.mg "range" = none) (ha:PAd X [a,b] ga)
  (hs:autoParam (Qm [a,b] X.env=[(false,eval a X.env),(false,eval b X.env)]) aTc) (hs2:autoParam (Qm [b] X.env=[(false,eval b X.env)]) aTc)
  (hs3:autoParam (Qm [.Call (.Name "range" p2) [a,b] [] pos2] X.env=[(false,eval (.Call (.Name "range" p2) [a,b] [] pos2) X.env)]) aTc) :
  PFr X (.Call (.Name "list" p) [.Call (.Name "range" p2) [a,b] [] pos2] [] pos) (gLst (gItA qZ ga)):=by
 intro pins s σ H Q I hZq;obtain⟨F,O,ρ,ds,r,e,k⟩:=hZq;obtain⟨ds',e1,e2⟩:=Zb.mp e;obtain⟨as,e3,e4⟩:=Zb.mp e1;split at e2
 case isFalse=>cases e2
 rename_i hlen;cases e2;unfold qZ at e4;split at e4
 case h_2=>cases e4
 rename_i i j;split at e4
 case isFalse=>cases e4
 rename_i hb;cases e4;have hn:(zA i (j-i).toNat).length=(j-i).toNat:=jS _ _;rw[hn]at hlen;refine WQ (xU I hgl hml hbl ?_);refine Jm ?_ hs3 rfl;rw[hs3];refine Em ?_;refine Call_ (xU I hgr hmr Ro (Jm (thn (ha pos2 pins s σ H (fun vs H1=>vs=[.int i,.int j]∧Same H H1) I ⟨F,O,ρ,[.int i,.int j],r,e3,fun vs H' sm rb=>⟨by
  cases rb with
  | cons r1 rb =>
   obtain⟨v,rfl,rv⟩:=rb.inv1;cases r1;cases rv;rfl,sm⟩⟩) fun us s1 ⟨vs,H1,I1,r1,q1,sm⟩ => ?_) (by rw[hs,hs2]) (by rw[hs2];rfl)))
 subst q1;cases r1 with
 | cons r1 rr =>
  cases rr with
  | cons r2 rr =>
   cases rr;obtain⟨t,rfl⟩:=r1;obtain⟨t',rfl⟩:=r2;refine call_range_2 (Bm ?_);have I2:Inv X pins σ H1 { s1 with heap:=s1.heap.push { cls:=.type "range",data:=.fields #[.int i t,.int j t',.int 1 s1.toks] },toks:=s1.toks+1 }:=I1.kept fun b o e=>Ze _ e;refine call_list_range (n:=(j-i).toNat) (I.ok.hd hc) (Tu ..) (Sg hb.1 hb.2.1 hb.2.2.1 hb.2.2.2) (by rw[RQ];split <;> omega) hlen fun h' tk acc' c' kp el hit => ?_;have hv:Vals ((ZJ (j-i).toNat).map fun(m:Nat)=>V.int (i+m)) acc'.toList:=by
    have:=zg4 (P:=fun(m:Nat) v=>∃t,v=.int (i+m*1) t) (f:=fun m=>V.int (i+m)) (fun m v ⟨t,e⟩=>⟨t,by rw[e,Mr]⟩) acc'.toList 0 fun m v hm=>by rw[QH];exact hit.2 m v (by simpa using hm)
    rw[show acc'.toList.length=(j-i).toNat by rw[Qh];exact hit.1,←RC]at this;exact this
   refine⟨.ref _,_,I2.laid (o:=.lst ((ZJ (j-i).toNat).map fun(m:Nat)=>V.int (i+m))) kp (Zg _) ?_,rfl,?_⟩
   ·exact⟨by rw[Zi,JH];exact hlen,acc'.toList,c',hv,by simpa using el⟩
   ·exact k _ _ _ sm (I2.hok.fresh (Zg _)) (zdu i _)
end
end L2.Y
namespace L2.Y
open PySem PySem.Spec PySem.Calls PyProof.Rows PySem.W
section
open PySem.AutoSeq1 (wpAny_loadPart')
variable {prog:Qc}{w:QG}{A:QB}{E:Za→Zf→Prop}{s:Zf}
theorem zat {Q:List Za→Zf→Prop}{r:Zh}{a b c:Int}{t u v:Tok}{n:Nat}(hh:A.handled=none) (hr:IsRange s.heap r a b c t u v) (hsmall:KQ a b c=true)
  (hn:WY a b c=n) (hlen:n≤2^24)
  (hQ:∀(h' : Je) (tk:Nat) (acc:Array Za),(∀b o,s.heap.get? b=some o→h'.get? b=some o)→Ra (fun i v=>∃t,v=.int (a+i*c) t) acc n→Q acc.toList { s with heap:=h',toks:=tk }) :
  ZF (model prog w) A (collect (.ref r)) Q E s:=by
 unfold collect;refine Zc (Rc (Vy F.entry_proto_collect ?_));rw[VJ F.plain_proto_collect _];show ZF _ A.in1 (NT [] >>= fun l=>again (.builtin "list.__iadd__" ⟨[l,.ref r],[]⟩)) _ _ s;refine Zc (Jo ?_);refine Zj ⟨Gj Hm _,Vy F.entry_list_iadd ?_⟩;rw[VJ Hm _];show ZF _ A.in1 (JZ (.ref s.heap.objs.size) (.ref r) (.ref s.heap.objs.size)) _ _ _;have hS:(s.heap.push { cls:=.type "list",data:=.seq ([]:List Za).toArray }).get? s.heap.objs.size=some { cls:=.type "list",data:=.seq #[] 0 }:=Zy _ rfl;have fin' : ∀(h' : Je) (tk:Nat) (acc' : Array Za) (c' : Nat),(∀b o,b≠s.heap.objs.size→(s.heap.push { cls:=.type "list",data:=.seq ([]:List Za).toArray }).get? b=some o→h'.get? b=some o) →
   h'.get? s.heap.objs.size=some { cls:=.type "list",dict:=none,data:=.seq acc' c',slots:=#[] }→Ra (fun i v=>∃t,v=.int (a+i*c) t) acc' n→ZF (model prog w) A (match Za.ref s.heap.objs.size with
   | Za.ref a=>do
    match (←load a).data with
     | Data.seq xs _=>pure xs.toList
     | _=>unsupported "internal:collect"
   | _=>unsupported "internal:collect") Q E { s with heap:=h',toks:=tk }:=fun h' tk acc' c' kp hS' it=>by
  show ZF _ A (load s.heap.objs.size >>= _) _ _ _;refine Zc (Rf hS' ?_);refine Zj ?_;exact hQ h' tk acc' (fun b o e=>kp b o (QD (ZD e)) (Ze _ e)) it
 refine VL (wpAny_extend_range (A:=A) (R:=fun r s'=>r=.ok (.ret (.ref s.heap.objs.size))∧∃(h' : Je) (tk:Nat) (acc' : Array Za) (c' : Nat),s'={ s with heap:=h',toks:=tk }∧(∀b o,b≠s.heap.objs.size→(s.heap.push { cls:=.type "list",data:=.seq ([]:List Za).toArray }).get? b=some o→h'.get? b=some o) ∧
   h'.get? s.heap.objs.size=some { cls:=.type "list",dict:=none,data:=.seq acc' c',slots:=#[] }∧Ra (fun i v=>∃t,v=.int (a+i*c) t) acc' n)
  (s:={ s with heap:=s.heap.push { cls:=.type "list",data:=.seq ([]:List Za).toArray } }) hh (Ze _ hr) hsmall hn hlen s.heap.objs.size (.ref s.heap.objs.size) 0 hS (fun h' tk acc' c' kp hS' it=>⟨rfl,h',tk,acc',c',rfl,kp,hS',it⟩)) (fun fin s' h => ?_) (fun e s' h => ?_)
 ·cases fin with
  | done f =>
   obtain⟨e,h',tk,acc',c',rfl,kp,hS',it⟩:=h;cases e;exact fin' h' tk acc' c' kp hS' it
  | again c'=>exact⟨h.1,GQ h.2 fun r s'' hr=>by obtain⟨rfl,h',tk,acc',c',rfl,kp,hS',it⟩:=hr;exact fin' h' tk acc' c' kp hS' it⟩
 ·exact absurd h.1 (by simp)
theorem wu {Q₁:Za→Zf→Prop}{r:Zh}{a b c:Int}{t u v:Tok}{n:Nat}(hh:A.handled=none) (hr:IsRange s.heap r a b c t u v) (hsmall:KQ a b c=true)
  (hn:WY a b c=n) (hlen:n≤2^24)
  (h:∀(h' : Je) (tk:Nat) (acc:Array Za),(∀b o,s.heap.get? b=some o→h'.get? b=some o)→Ra (fun i v=>∃t,v=.int (a+i*c) t) acc n→Q₁ (.ref h'.objs.size) { s with heap:=h'.push { cls:=.type "tuple",data:=.seq acc },toks:=tk }) :
  Kr (model prog w) A (.call (.builtin "tuple.__new__") ⟨[.type "tuple",.ref r],[]⟩) (wants Q₁ E) s:=by
 refine codeAny_of_tree ?_;show ZF _ A.in1 (do Ss "tuple.__new__" ⟨[.type "tuple",.ref r],[]⟩;again (.builtin "tuple.__new__" ⟨[.type "tuple",.ref r],[]⟩)) _ _ s;refine Zc (LQ (F.newCall_tuple_1 _) (Zj ⟨Gj Hl _,Vy F.entry_tuple_new ?_⟩));rw[VJ Hl _];have hsub:=sub_tuple_self;have hinit:=init_tuple_lookup;have hmh:=madeHere_tuple;have hTI:s.TypeIs (.ref r) "range" := ⟨_,hr,rfl⟩
 have hh' : A.in1.handled=none:=hh
 wp_walk using Uc hTI,zat hh' hr hsmall hn hlen
 intro h' tk acc kp it;show ZF _ _ (Vk acc.toList.toArray >>= fun v=>ret v) _ _ _;unfold Vk;refine Zc (Jo ?_ (by show acc.toList.toArray.size≤Zu;simp only[Array.toArray_toList];rw[it.1,YT];exact hlen));refine Zj ?_;have e:acc.toList.toArray=acc:=by simp
 rw[e];exact h h' tk acc kp it
theorem yU {Q:Za→Zf→Prop}{r:Zh}{a b c:Int}{t u v:Tok}{n:Nat}(hh:A.handled=none) (hr:IsRange s.heap r a b c t u v) (hsmall:KQ a b c=true)
  (hn:WY a b c=n) (hlen:n≤2^24)
  (hQ:∀(h' : Je) (tk:Nat) (acc:Array Za),(∀b o,s.heap.get? b=some o→h'.get? b=some o)→Ra (fun i v=>∃t,v=.int (a+i*c) t) acc n→Q (.ref h'.objs.size) { s with heap:=h'.push { cls:=.type "tuple",data:=.seq acc },toks:=tk }) :
  ZF (model prog w) A (call (.type "tuple") [.ref r]) Q E s:=by
 refine callType_codes (Q₁:=fun obj s₁=>s₁.TypeIs obj "tuple" ∧ Q obj s₁) Tw (F.typeCall_tuple_1 _) F.entry_object_init
  (wu (A:=A.in1) hh hr hsmall hn hlen fun h' tk acc kp it=>⟨⟨_,Zy _ rfl,rfl⟩,hQ h' tk acc kp it⟩) fun obj s₁ h₁ => ?_
 exact⟨h₁.1,F.args_object_init_2 obj _,object_init_meets Tw.init.lookup Tw.made (by decide) prog w A.in1 _ s₁ ⟨h₁.1,rfl,h₁.2⟩⟩
end
theorem zbO {K:ZM}{H:Hp}:∀l:List Nat,Reps K H (l.map fun(k:Nat)=>.int (0+(k:Int))) (l.map fun(k:Nat)=>V.int (0+(k:Int)))
 | []=>.nil
 | k::l=>.cons (.int _) (zbO l)
theorem zdJ {P:Nat→Za→Prop}{f:Nat→V}(hp:∀i v,P i v→RelV (f i) v):∀(l:List Za) (i:Nat),(∀j v,l[j]?=some v→P (i+j) v)→Vals ((Sy i l.length).map f) l
 | [],_,_=>.nil
 | v::l,i,h=>by
  have h0:=h 0 v rfl;have h1:=zdJ hp l (i+1) fun j w hj=>by have:=h (j+1) w (by simpa using hj);rwa [show i+(j+1)=i+1+j by omega]at this
  rw[Zz,Dy,Zk];exact .cons (hp i v h0) h1
section
variable {X:Cx}
theorem zib {a:Expr}{ga:Env'→Option (List D)}{p pos p2 pos2:Pos}(hc:X.calm=true) (hgl:Gl X "tuple") (hml:X.mg "tuple" = none) (hbl:JX "tuple" = some (.type "tuple")) (hgr:Gl X "range") (hmr:X.mg "range" = none) (ha:PAd X [a] ga)
  (hs:autoParam (Qm [a] X.env=[(false,eval a X.env)]) aTc)
  (hs3:autoParam (Qm [.Call (.Name "range" p2) [a] [] pos2] X.env=[(false,eval (.Call (.Name "range" p2) [a] [] pos2) X.env)]) aTc) :
  PD X (.Call (.Name "tuple" p) [.Call (.Name "range" p2) [a] [] pos2] [] pos) (zjT (gItA qH ga)):=by
 intro pins s σ H Q I hZq;obtain⟨F,O,ρ,d,r,e,k⟩:=hZq;obtain⟨ds',e1,e2⟩:=Zb.mp e;obtain⟨as,e3,e4⟩:=Zb.mp e1;split at e2
 case isFalse=>cases e2
 rename_i hlen;cases e2;unfold qH at e4;split at e4
 case h_2=>cases e4
 rename_i j;split at e4
 case isFalse=>cases e4
 rename_i hb;cases e4;have hn:(zA 0 j.toNat).length=j.toNat:=jS _ _;rw[hn]at hlen;refine WQ (xU I hgl hml hbl ?_);refine Jm ?_ hs3 rfl;rw[hs3];refine Em ?_;refine Call_ (xU I hgr hmr Ro (Jm (thn (ha pos2 pins s σ H (fun vs H1=>vs=[.int j]∧Same H H1) I ⟨F,O,ρ,[.int j],r,e3,fun vs H' sm rb=>⟨by
  cases rb with
  | cons r1 rb =>
   cases rb;cases r1;rfl,sm⟩⟩) fun us s1 ⟨vs,H1,I1,r1,q1,sm⟩ => ?_) hs rfl))
 subst q1;cases r1 with
 | cons r1 rr =>
  cases rr;obtain⟨t,rfl⟩:=r1;refine call_range_1 (Bm ?_);have I2:Inv X pins σ H1 { s1 with heap:=s1.heap.push { cls:=.type "range",data:=.fields #[.int 0 s1.toks,.int j t,.int 1 (s1.toks+1)] },toks:=s1.toks+1+1 }:=I1.kept fun b o e=>Ze _ e;refine yU (n:=j.toNat) (I.ok.hd hc) (Tu ..) (Sg (by omega) (by omega) hb.1 hb.2) (by rw[RQ];split <;> omega) hlen fun h' tk acc kp it => ?_;have hv:Vals ((ZJ j.toNat).map fun(m:Nat)=>V.int (0+(m:Int))) acc.toList:=by
   have:=zdJ (P:=fun(m:Nat) v=>∃t,v=.int (0+m*1) t) (f:=fun(m:Nat)=>V.int (0+(m:Int))) (fun m v ⟨t,e⟩=>⟨t,by rw[e,Mr]⟩) acc.toList 0 fun m v hm=>by rw[QH];exact it.2 m v (by simpa using hm)
   rw[show acc.toList.length=j.toNat by rw[Qh];exact it.1,←RC]at this;exact this
  have I3:Inv X pins σ H1 { s1 with heap:=h',toks:=tk }:=I2.kept kp;have I4:Inv X pins σ (upd H1 h'.objs.size (.tup ((ZJ j.toNat).map fun(m:Nat)=>V.int (0+(m:Int))))) { s1 with heap:=h'.push { cls:=.type "tuple",data:=.seq acc },toks:=tk } :=
   I3.laid (fun b o e=>Ze _ e) (Zg _) (show jA X.prog X.w _ _ _ (.tup _) from⟨by rw[Zi,JH];exact hlen,acc.toList,hv,by simpa using Th h' acc⟩)
  exact⟨.ref h'.objs.size,_,I4,rfl,k _ _ (sm.trans (zY (I3.hok.fresh (Zg _)))) (xw (I3.hok.fresh (Zg _)) ((r.same sm).fresh (I3.hok.fresh (Zg _))) (zbO _))⟩
end
end L2.Y
namespace L2.Y
open PySem PySem.Spec PyProof.Rows PySem.W
noncomputable def pqD (p:Int×Int):D:=.tuple [.int p.1,.int p.2]
noncomputable def flP (ps:List (Int×Int)):List Int:=ps.flatMap fun p=>[p.1,p.2]
theorem zfe (p:Int×Int) (ps:List (Int×Int)):flP (p::ps)=p.1::p.2::flP ps:=rfl
theorem zci (a b c d:Int) (r r' : List Int):HT.lexLt (a::b::r) (c::d::r')=if a=c∧b=d then HT.lexLt r r' else HT.lexLt [a,b] [c,d]:=by
 rw[xW,xW,xW,xW,zck]
 by_cases h1:a=c
 ·by_cases h2:b=d
  ·rw[if_pos h1,if_pos h2,if_pos ⟨h1,h2⟩]
  ·rw[if_pos h1,if_neg h2,if_neg fun h=>h2 h.2,if_pos h1,if_neg h2]
 ·rw[if_neg h1,if_neg fun h=>h1 h.1,if_neg h1]
theorem zi0 (p q:Int×Int):ZP (pqD p) (pqD q)=decide (p.1=q.1∧p.2=q.2):=by
 unfold pqD;simp only[ZP,QQ,Et]
 by_cases h1:p.1=q.1 <;> by_cases h2:p.2=q.2 <;> simp[h1,h2]
theorem zfL (p:Int×Int):(pqD p).canLay0=true:=rfl
theorem zaC:∀ps:List (Int×Int),QZ (ps.map pqD)=true
 | []=>rfl
 | p::ps=>by rw[Zk,QZ,zfL,zaC ps];rfl
theorem zeZ (p:Int×Int):(pqD p).depth=1:=by simp[pqD,Vo,Qz]
theorem ze0:∀ps:List (Int×Int),Qz (ps.map pqD)≤1
 | []=>by rw[YD,Qz];omega
 | p::ps=>by rw[Zk,Qz,zeZ];have:=ze0 ps;omega
theorem ze7:∀ps qs:List (Int×Int),QQ (ps.map pqD) (qs.map pqD)=decide (ps=qs)
 | [],[]=>rfl
 | [],q::qs=>by simp[QQ]
 | p::ps,[]=>by simp[QQ]
 | (a,b)::ps,(c,d)::qs=>by
  rw[Zk,Zk,QQ,zi0,ze7 ps qs]
  by_cases h1:a=c <;> by_cases h2:b=d <;> by_cases h3:ps=qs <;> simp[h1,h2,h3]
theorem vc {h:Je}{vs:List Za}{a b:Int}{as:List Zh}(r:UG h vs [.int a,.int b] as):Wn vs [a,b]:=by
 cases r with
 | cons r1 r =>
  cases r with
  | cons r2 r =>
   cases r;cases r1;cases r2;exact .cons _ _ (.cons _ _ .nil)
section
variable {prog:Qc}{w:QG}{A:QB}{E:Za→Zf→Prop}{s:Zf}
theorem zgt (A:QB) (s:Zf) (y x:Za) (p q:Int×Int) (as bs:List Zh) (ra:BK s.heap y (pqD p) as) (rb:BK s.heap x (pqD q) bs) (hu:A.units<VF) (prog:Qc) (w:QG) (E:Za→Zf→Prop) (Q:Za→Zf→Prop) (h:Q (.bool (HT.lexLt [p.1,p.2] [q.1,q.2])) s) :
  ZF (model prog w) A (richCompare .Lt y x) Q E s:=by
 cases ra with
 | tuple g1 c1 d1 r1 =>
  cases rb with
  | tuple g2 c2 d2 r2 =>
   exact(HT.lt_tupInts ⟨_,g1,c1,_,d1⟩ ⟨_,g2,c2,_,d2⟩ (vc r1) (vc r2) hu h:ZF (model prog w) A (JS .Lt _ _) Q E s)
end
section
open PySem.SeqAt
open PySem.AutoSeq1 (wpAny_loadPart')
open PySem.MeetsSeq PySem.MeetsSeq2 PySem.MeetsSeq3
theorem kI (l b:Zh) (items items2:Array Za) (n n2:Nat) (dd dd2:Option Zh) (sl sl2:Array (Option Za)) (ps qs:List (Int×Int)) :
  Cw (Builtin.«tuple.__lt__» ⟨[.ref l,.ref b],[]⟩)
   (fun A R s=>s.heap.get? l=some { cls:=.type "tuple",dict:=dd,data:=.seq items n,slots:=sl }∧s.heap.get? b=some { cls:=.type "tuple",dict:=dd2,data:=.seq items2 n2,slots:=sl2 } ∧
    (∃as,UG s.heap items.toList (ps.map pqD) as)∧(∃bs,UG s.heap items2.toList (qs.map pqD) bs)∧A.units+8<VF ∧
    R (.ok (.ret (.bool (HT.lexLt (flP ps) (flP qs))))) s) :=
 .of_wp fun prog w A R s h=>by
  obtain⟨hp,g,d,tk,os⟩:=s;obtain⟨hl,hb,⟨as,hi⟩,⟨bs,hj⟩,hu,h⟩:=h;have f2:=Yg;have z1:items.size=ps.length:=by have:=Yo _ _ _ hi;simpa using this
  have z2:items2.size=qs.length:=by have:=Yo _ _ _ hj;simpa using this
  wp_walk using Wh hl,Wh hb,CV _ (fun rest b s'=>b.1=none∧s'=⟨hp,g,d,tk,os⟩∧∃(vs ws:List Za) (ps' qs' : List (Int×Int)),rest=vs.zip ws ∧
   (∃as,UG hp vs (ps'.map pqD) as)∧(∃bs,UG hp ws (qs'.map pqD) bs)∧ps'.length+items2.size=qs'.length+items.size∧R (.ok (.ret (.bool (HT.lexLt (flP ps') (flP qs'))))) ⟨hp,g,d,tk,os⟩) _
  case turn =>
   rintro⟨y,x⟩ rest b s' ⟨hb',rfl,vs,ws,ps',qs',hz,⟨as,hvi⟩,⟨bs,hwi⟩,hlen,hR⟩;cases ps' with
   | nil=>cases hvi;rw[Dj]at hz;cases hz
   | cons p ps' =>
    cases qs' with
    | nil=>cases hwi;rw[Nr]at hz;cases hz
    | cons q qs' =>
     rw[Zk]at hvi hwi;cases hvi with
     | cons ra hvi' =>
      cases hwi with
      | cons rb hwi' =>
       rw[Jz]at hz;injection hz with hyx hrest
       injection hyx with hy hx
       subst hy hx;rw[zfe,zfe,zci]at hR;simp only[Zz]at hlen;have he:=De (pqD p) (pqD q) A.in1 ⟨hp,g,d,tk,os⟩ y x _ _ ra rb (zfL p) (zfL q) (by rw[zeZ,zeZ,Br];omega);rw[zi0]at he;refine Zc (he prog w _ _ ?_)
       by_cases e:p.1=q.1∧p.2=q.2
       ·rw[decide_eq_true e];rw[if_pos e]at hR
        wp_walk
        exact⟨rfl,rfl,_,_,_,_,hrest,⟨_,hvi'⟩,⟨_,hwi'⟩,by omega,hR⟩
       ·rw[decide_eq_false e];rw[if_neg e]at hR;have hri:=zgt A.in1 ⟨hp,g,d,tk,os⟩ y x p q _ _ ra rb (by rw[Br];omega) prog w
        wp_walk using hri
        exact⟨_,rfl,by simpa using hR⟩
  case fin =>
   rintro⟨b1,b2⟩ s' ⟨hb',rfl,vs,ws,ps',qs',hz,⟨as,hvi⟩,⟨bs,hwi⟩,hlen,hR⟩;simp only at hb';subst hb';have hv:HT.lexLt (flP ps') (flP qs')=decide (items.size<items2.size):=by
    cases ps' with
    | nil =>
     cases qs' with
     | nil =>
      simp only[JQ]at hlen;show HT.lexLt [] []=_;rw[zck];exact(decide_eq_false (by omega)).symm
     | cons q qs' =>
      simp only[JQ,Zz]at hlen;rw[zfe];show HT.lexLt [] (_::_)=_;rw[zj7];exact(decide_eq_true (by omega)).symm
    | cons p ps' =>
     cases qs' with
     | nil =>
      simp only[JQ,Zz]at hlen;rw[zfe];show HT.lexLt (_::_) []=_;rw[zh0];exact(decide_eq_false (by omega)).symm
     | cons q qs' =>
      rw[Zk]at hvi hwi;cases hvi with
      | cons ra hvi' =>
       cases hwi with
       | cons rb hwi' =>
        rw[Jz]at hz;cases hz
   rw[hv]at hR
   wp_walk
   exact⟨_,rfl,by simpa[Gv] using hR⟩
  case h =>
   exact⟨rfl,rfl,items.toList,items2.toList,ps,qs,rfl,⟨as,hi⟩,⟨bs,hj⟩,by omega,h⟩
end
section
variable {prog:Qc}{w:QG}{A:QB}{E:Za→Zf→Prop}{s:Zf}
theorem zhZ {u v:Za}{ps qs:List (Int×Int)}{as bs:List Zh}{Q:Za→Zf→Prop}(ra:BK s.heap u (.tuple (ps.map pqD)) as) (rb:BK s.heap v (.tuple (qs.map pqD)) bs)
  (hu:A.units+8<VF) (h:Q (.bool (HT.lexLt (flP ps) (flP qs))) s):ZF (model prog w) A (JS .Lt u v) Q E s:=by
 cases ra with
 | tuple g1 c1 d1 r1 =>
  cases rb with
  | tuple g2 c2 d2 r2 =>
   rename_i o1 vs1 n1 b o2 vs2 n2;obtain⟨cls,dd,data,sl⟩:=o1;obtain⟨cls2,dd2,data2,sl2⟩:=o2;simp only at c1 d1 c2 d2;subst c1 d1 c2 d2;exact NP (op:=.Lt) ⟨_,g1,rfl⟩ ⟨_,g2,rfl⟩ Td Ly (Li _ _) (kI _ _ vs1 vs2 n1 n2 dd dd2 sl sl2 ps qs)
    ⟨g1,g2,⟨_,r1⟩,⟨_,r2⟩,hu,show Za.bool (HT.lexLt (flP ps) (flP qs))≠Za.notImplemented∧Q (.bool (HT.lexLt (flP ps) (flP qs))) s from⟨(fun x=>nomatch x),h⟩⟩ (by omega)
noncomputable def TupK (m:Nat) (h:Je) (v:Za) (k:List Int):Prop:=∃ps z as,k=flP ps++[z]∧ps.length=m∧BK h v (.tuple [.tuple (ps.map pqD),.int z]) as
theorem zmY {h:Je}{v:Za}{p q:Int×Int}{as bs:List Zh}(a:BK h v (pqD p) as) (b:BK h v (pqD q) bs):p=q:=by
 cases a with
 | tuple g c d r =>
  cases b with
  | tuple g' c' d' r' =>
   rw[g]at g';cases g';rw[d]at d';cases d';have e:=zaz (vc r) (vc r');have e1:=(Vf e).1;have e2:=(Vf (Vf e).2).1;exact Rz e1 e2
theorem zjf {h:Je}:∀ {ps qs:List (Int×Int)}{vs:List Za}{as bs:List Zh},UG h vs (ps.map pqD) as→UG h vs (qs.map pqD) bs→ps=qs
 | [],[],_,_,_,_,_=>rfl
 | [],_::_,_,_,_,a,b=>by cases a;cases b
 | _::_,[],_,_,_,a,b=>by cases b;cases a
 | p::ps,q::qs,_,_,_,a,b=>by
  cases a with
  | cons a1 a2 =>
   cases b with
   | cons b1 b2=>rw[zmY a1 b1,zjf a2 b2]
theorem TupK.one {m:Nat}{h:Je}{v:Za}{k j:List Int}(a:TupK m h v k) (b:TupK m h v j):k=j:=by
 obtain⟨ps,z,as,rfl,_,r1⟩:=a;obtain⟨qs,y,bs,rfl,_,r2⟩:=b;cases r1 with
 | tuple g c d r1 =>
  cases r2 with
  | tuple g' c' d' r2 =>
   rw[g]at g';cases g';rw[d]at d';cases d';rename_i xs _;generalize xs.toList=XS at r1 r2;cases r1 with
   | cons p1 r1 =>
    cases r1 with
    | cons i1 r1 =>
     cases r2 with
     | cons p2 r2 =>
      cases r2 with
      | cons i2 r2 =>
       cases i1;cases i2;cases p1 with
       | tuple g c d p1 =>
        cases p2 with
        | tuple g' c' d' p2 =>
         rw[g]at g';cases g';rw[d]at d';cases d';rw[zjf p1 p2]
theorem zfO:∀(ps qs:List (Int×Int)) (r r' : List Int),ps.length=qs.length→HT.lexLt (flP ps++r) (flP qs++r')=if ps=qs then HT.lexLt r r' else HT.lexLt (flP ps) (flP qs)
 | [],[],_,_,_=>rfl
 | [],_::_,_,_,h=>by simp at h
 | _::_,[],_,_,h=>by simp at h
 | (a,b)::ps,(c,d)::qs,r,r',h=>by
  have ih:=zfO ps qs r r' (by simpa using h);show HT.lexLt (a::b::(flP ps++r)) (c::d::(flP qs++r'))=if(a,b)::ps=(c,d)::qs then HT.lexLt r r' else HT.lexLt (a::b::flP ps) (c::d::flP qs)
  rw[zci a b c d (flP ps++r) (flP qs++r'),zci a b c d (flP ps) (flP qs),ih]
  by_cases e:a=c∧b=d
  ·obtain⟨h1,h2⟩:=e;subst h1 h2
   by_cases e2:ps=qs
   ·simp[e2]
   ·simp[e2]
  ·rw[if_neg e,if_neg e,if_neg fun z=>e (by have:=(Vf z).1;injection this with h1 h2;exact⟨h1,h2⟩)]
theorem TupK.lt {m:Nat}{u v:Za}{k j:List Int}{Q:Bool→Zf→Prop}(h1:TupK m s.heap u k) (h2:TupK m s.heap v j) (hu:A.units+20<VF) (h:Q (HT.lexLt k j) s):ZF (model prog w) A (keyLt' (Mx false) u v) Q E s:=by
 obtain⟨ps,z,as,rfl,l1,r1⟩:=h1;obtain⟨qs,y,bs,rfl,l2,r2⟩:=h2;rw[zfO ps qs [z] [y] (by omega)]at h;cases r1 with
 | tuple g1 c1 d1 r1 =>
  cases r2 with
  | tuple g2 c2 d2 r2 =>
   rename_i o1 xs n1 b o2 ys n2;refine kat_lt g1 d1 g2 d2 ?_;have sx:xs.size=2:=by have:=Yo _ _ _ r1;simpa using this
   have sy:ys.size=2:=by have:=Yo _ _ _ r2;simpa using this
   rw[show decide (xs.size<ys.size)=false from decide_eq_false (by omega)];clear d1 d2 sx sy;generalize xs.toList=XS at r1;generalize ys.toList=YS at r2;cases r1 with
   | cons p1 r1 =>
    cases r1 with
    | cons i1 r1 =>
     cases r1;cases i1;cases r2 with
     | cons p2 r2 =>
      cases r2 with
      | cons i2 r2 =>
       cases r2;cases i2;rw[Jz];have he:=De _ _ A s _ _ _ _ p1 p2 (by rw[QF];exact zaC ps) (by rw[QF];exact zaC qs) (by
        rw[Vo,Vo];have:=ze0 ps;omega)
       have ev:ZP (.tuple (ps.map pqD)) (.tuple (qs.map pqD))=decide (ps=qs):=by rw[ZP,ze7]
       rw[ev]at he;refine kat_cons (he prog w _ _ ?_)
       by_cases e:ps=qs
       ·rw[decide_eq_true e];rw[if_pos e]at h;refine kat_yes ?_;rw[Jz];refine kat_cons (Lr (kat_go (fun e=>kat_yes ?_) fun e=>kat_no ?_))
        ·rw[xW,if_pos (Ls e),zck]at h;exact Cm h
        ·have ne:¬z=y:=fun q=>by subst q;simp at e
         rw[xW,if_neg ne]at h;exact kat_one _ _ (lt_int h)
       ·rw[decide_eq_false e];rw[if_neg e]at h;exact kat_no (kat_one _ _ (zhZ p1 p2 (by omega) h))
end
end L2.Y
namespace L2.Y
open PySem PySem.Spec PyProof.Rows PySem.W
section
variable {h h' : Je}
theorem zf9 (P:Zh→Prop) (k:∀b o,h.get? b=some o→o.cls=.type "tuple" → h'.get? b=some o) {v:Za}{p:Int×Int}{as:List Zh}(r:BK h v (pqD p) as):BK h' v (pqD p) as:=by
 unfold pqD at r ⊢;cases r with
 | tuple g c d ra =>
  refine .tuple (k _ _ g c) c d ?_;generalize (_:Array Za).toList=vs at ra;cases ra with
  | cons r1 ra =>
   cases ra with
   | cons r2 ra =>
    cases ra;cases r1;cases r2;exact .cons (.int _ _) (.cons (.int _ _) .nil)
theorem zad (k:∀b o,h.get? b=some o→o.cls=.type "tuple" → h'.get? b=some o):∀ {ps:List (Int×Int)}{vs:List Za}{as:List Zh},UG h vs (ps.map pqD) as→UG h' vs (ps.map pqD) as
 | [],_,_,r=>by cases r;exact .nil
 | p::ps,_,_,r=>by
  rw[Zk]at r ⊢;cases r with
  | cons r1 r=>exact .cons (zf9 (fun _=>True) k r1) (zad k r)
theorem TupK.grow' {m:Nat}{v:Za}{x:List Int}(k:∀b o,h.get? b=some o→o.cls=.type "tuple" → h'.get? b=some o) (r:TupK m h v x):TupK m h' v x:=by
 obtain⟨ps,z,as,e,l,r⟩:=r;refine⟨ps,z,as,e,l,?_⟩;cases r with
 | tuple g c d ra =>
  refine .tuple (k _ _ g c) c d ?_;generalize (_:Array Za).toList=vs at ra;cases ra with
  | cons r1 ra =>
   cases ra with
   | cons r2 ra =>
    cases ra;cases r2;cases r1 with
    | tuple g c d ra=>exact .cons (.tuple (k _ _ g c) c d (zad k ra)) (.cons (.int _ _) .nil)
theorem TupK.grow {m:Nat}{v:Za}{x:List Int}(r:TupK m h v x) (k:∀b o,h.get? b=some o→h'.get? b=some o):TupK m h' v x:=r.grow' fun b o g _=>k b o g
theorem TupK.keeps {m:Nat}{v:Za}{x:List Int}{a:Zh}{ol:Obj}(r:TupK m h v x) (ha:h.get? a=some ol) (hc:ol.cls=.type "list") (k:∀b o,b≠a→h.get? b=some o→h'.get? b=some o):TupK m h' v x:=r.grow' fun b o g c=>k b o (fun e=>by
 subst e;rw[ha]at g;cases g;rw[hc]at c;exact absurd c (by decide)) g
theorem zhY {M:Te}{a:Zh}{o:Obj}(g:h.get? a=some o) (c:o.cls=.type "tuple"):Looks M h (Nz (.ref a)) (.type "tuple"):=by
 rw[←c];exact(Looks.ld g).andThen .now
theorem zdH {M:Te}{m:Nat}:∀ {vs:List Za}{ks:List (List Int)},vs.length=ks.length→(∀(i:Nat) v k,vs[i]?=some v→ks[i]?=some k→TupK m h v k)→∃fs,KatTups h vs fs∧fs.length=vs.length∧∀f∈fs,Looks M h (Nz f) (.type "tuple")
 | [],[],_,_=>⟨[],trivial,rfl,fun _ h=>by simp at h⟩
 | [],_::_,hl,_=>by simp at hl
 | _::_,[],hl,_=>by simp at hl
 | v::vs,k::ks,hl,hk=>by
  obtain⟨fs,t,l,q⟩:=zdH (M:=M) (vs:=vs) (ks:=ks) (by simpa using hl) (fun i u c h1 h2=>hk (i+1) u c (by simpa using h1) (by simpa using h2));obtain⟨ps,z,as,_,_,r⟩:=hk 0 v k rfl rfl;cases r with
  | tuple g c d ra =>
   rename_i o xs n;have hx:∃b o',xs[0]?=some (.ref b)∧h.get? b=some o'∧o'.cls=.type "tuple" := by
    rw[←QS];generalize xs.toList=zs at ra;cases ra with
    | cons r1 ra =>
     cases r1 with
     | tuple g1 c1 d1 _=>exact⟨_,_,rfl,g1,c1⟩
   obtain⟨b,o',hz,g',c'⟩:=hx;exact⟨.ref b::fs,.cons g c d hz t,by simp[l],fun f hf=>by
    rcases ZS.mp hf with e | e
    ·rw[e];exact zhY g' c'
    ·exact q f e⟩
end
section
variable {prog:Qc}{w:QG}{A:QB}{E:Za→Zf→Prop}{s:Zf}
theorem kD {a:Zh}{vs:List Za}{ks:List (List Int)}{n m:Nat}{P:Dh→Zf→Prop}(ho:s.heap.get? a=some (Jp "list" vs.toArray n)) (hl:vs.length=ks.length) (hk:∀(i:Nat) v k,vs[i]?=some v→ks[i]?=some k→TupK m s.heap v k) (ha:∀v∈vs,v≠.ref a) (nd:ks.Nodup) (fit:vs.length≤Zu) (hu:A.units+20<VF)
  (h:∀p:List Nat,p.Perm (ZJ vs.length)→(p.map (jB ks)).Pairwise LeL→P (.done (.ret .none)) { s with heap:=Rh s.heap a vs (p.map fun i=>vs.getD i Za.none).toArray }) :
  ZF (model prog w) A (Builtin.«list.sort» ⟨[.ref a],[]⟩) P E s :=
 wX (T:=.type "tuple") ho hl rfl (fun s6 keep=>by
  have hk6:∀(i:Nat) v k,vs[i]?=some v→ks[i]?=some k→TupK m s6.heap v k:=fun i v k g1 g2=>(hk i v k g1 g2).keeps ho rfl keep;obtain⟨fs,tf,lf,qf⟩:=zdH (M:=model prog w) hl hk6;exact⟨TupK m s6.heap,fs,fun v a b h1 h2=>h1.one h2,fun u v k j Q E' h1 h2 h=>TupK.lt h1 h2 hu h,hk6,tf,lf,qf⟩) nd fit h
theorem zbU {l:Zh}{T:String}{o:Obj}{vs:List Za}{ks:List (List Int)}{n m:Nat}{Q:Za→Zf→Prop}(hT:T = "list" ∨ T = "tuple") (ho:s.heap.get? l=some o) (hc:o.cls=.type T) (hd:o.data=.seq vs.toArray n)
  (hl:vs.length=ks.length) (hk:∀(i:Nat) v k,vs[i]?=some v→ks[i]?=some k→TupK m s.heap v k) (nd:ks.Nodup) (fit:vs.length≤Zu) (hu:A.units+40<VF)
  (h:∀p:List Nat,p.Perm (ZJ vs.length)→(p.map (jB ks)).Pairwise LeL→Q (.ref (s.heap.objs.size+1)) { s with heap:=sortedAll s.heap vs (p.map fun i=>vs.getD i Za.none).toArray }) :
  ZF (model prog w) A (call (.builtin "sorted") [.ref l]) Q E s:=by
 refine Km Pj NQ Dc (Dd _) ?_;unfold Builtin.«sorted»;refine Zc (m:=Hv "sorted" 1 1 _) (Zj (Zc (vK hT ho hc hd fit (Zc (Uu ?_ (by simpa using fit))))));have hsz:((s.heap.push (Jp "list" #[] 0)).update s.heap.objs.size (QR (·++vs.toArray))).objs.size=s.heap.objs.size+1:=by rw[DY,Ht]
 have hoL:(((s.heap.push (Jp "list" #[] 0)).update s.heap.objs.size (QR (·++vs.toArray))).push (Jp "list" vs.toArray 0)).get? (s.heap.objs.size+1)=some (Jp "list" vs.toArray 0):=by
  rw[←hsz];exact Zy _ rfl
 have keep:∀b u,s.heap.get? b=some u→(((s.heap.push (Jp "list" #[] 0)).update s.heap.objs.size (QR (·++vs.toArray))).push (Jp "list" vs.toArray 0)).get? b=some u:=fun b u e =>
  Ze _ (by rw[Ei _ _ _ _ (QD (ZD e))];exact Ze _ e)
 have ltv:∀v∈vs,v≠.ref (s.heap.objs.size+1):=fun v hv z=>by
  obtain⟨i,hi,e⟩:=Wm hv;obtain⟨ps,y,as,_,_,r⟩:=hk i v (ks[i]'(by omega)) (by rw[←e];simp[hi]) (by simp[←hl,hi]);rw[z]at r;cases r with
  | tuple g _ _ _=>exact absurd (WR (ZD g)) (Vc _)
 show ZF _ _ _ _ _ { s with heap:=((s.heap.push (Jp "list" #[] 0)).update s.heap.objs.size (QR (·++vs.toArray))).push (Jp "list" vs.toArray 0) };rw[hsz];refine Zc (JW (JK Ri ⟨_,hoL,rfl⟩ Tq (kD (ks:=ks) (m:=m) hoL hl (fun i v k g1 g2 => ?_) ltv nd fit ?_ fun p a1 a2=>⟨_,rfl,Zj ⟨_,rfl,h p a1 a2⟩⟩) (Rq _)))
 ·exact(hk i v k g1 g2).grow keep
 ·show _+20<VF;simp only[Br];omega
end
section
theorem zfV:∀ {ds:List D}{ks:List (List Int)},ds.mapM zh9=some ks→∃ps:List (Int×Int),ds=ps.map pqD∧ks=ps.map fun p=>[p.1,p.2]
 | [],_,h=>by cases h;exact⟨[],rfl,rfl⟩
 | d::ds,_,h=>by
  rw[Jh]at h;obtain⟨k,h1,h⟩:=Zb.mp h;obtain⟨r,h2,h⟩:=Zb.mp h;cases h;obtain⟨ps,rfl,rfl⟩:=zfV h2;unfold zh9 at h1;split at h1
  ·rename_i a b;cases h1;exact⟨(a,b)::ps,rfl,rfl⟩
  ·cases h1
theorem zjc:∀ps:List (Int×Int),prsD (flP ps)=ps.map pqD
 | []=>rfl
 | p::ps=>by rw[zfe,Zk,←zjc ps];rfl
theorem zmt (ps:List (Int×Int)) (z:Int):qu (flP ps++[z])=.tuple [.tuple (ps.map pqD),.int z]:=by
 unfold qu;rw[RL,zjc,RJ];rfl
theorem zdV {m:Nat}{d:D}{k:List Int}(h:zau m d=some k):∃ps z,k=flP ps++[z]∧ps.length=m∧qu k=.tuple [.tuple (ps.map pqD),.int z]∧d=qu k:=by
 unfold zau at h;split at h
 ·rename_i ps w;split at h
  ·rename_i hl;obtain⟨ks,e,rfl⟩:=ZG.mp h;obtain⟨qs,rfl,rfl⟩:=zfV e;have ek:(qs.map fun p=>[p.1,p.2]).flatten++[w]=flP qs++[w]:=by unfold flP;rw[DP]
   rw[ek];exact⟨qs,w,rfl,by simpa using hl,zmt qs w,(zmt qs w).symm⟩
  ·cases h
 ·cases h
theorem zbv {m:Nat}:∀ {ds:List D}{ks:List (List Int)},ds.mapM (zau m)=some ks→ds=ks.map qu∧∀k∈ks,∃ps z,k=flP ps++[z]∧ps.length=m∧qu k=.tuple [.tuple (ps.map pqD),.int z]
 | [],_,h=>by cases h;exact⟨rfl,fun _ h=>by simp at h⟩
 | d::ds,_,h=>by
  rw[Jh]at h;obtain⟨k,h1,h⟩:=Zb.mp h;obtain⟨r,h2,h⟩:=Zb.mp h;cases h;obtain⟨ps,z,e1,e2,e3,e4⟩:=zdV h1;obtain⟨a1,a2⟩:=zbv h2;exact⟨by rw[Zk,←e4,←a1],fun k' hk=>by
   rcases ZS.mp hk with e | e
   ·subst e;exact⟨ps,z,e1,e2,e3⟩
   ·exact a2 k' e⟩
theorem zlD (ps:List (Int×Int)) (z:Int):(Zm.tuple [.tuple (ps.map pqD),.int z]).canLay0=true:=by
 rw[QF,QZ,QF,zaC];rfl
end
section
variable {X:Cx}
theorem zd9 (hu:X.A.units+66<VF) {p pos:Pos}{e:Expr}{g:Env'→Option (List D)}(hg:Gl X "sorted") (hm:X.mg "sorted" = none) (ha:PAb X [e] g) (he:autoParam (Qm [e] X.env=[(false,eval e X.env)]) aTc) :
  PFr X (.Call (.Name "sorted" p) [e] [] pos) (gItL zaQ g):=by
 have hc:xH X (.builtin "sorted") (fun xs H Q=>∃O a ds ks ys m,xs=[.ref a]∧Dom O H∧(SqL X.K H a ys∨SqT X.K H a ys)∧Reps X.K (hide O H) ds ys∧ds.mapM (zau m)=some ks∧(ks.length<64∧ks.Nodup) ∧
   ∀l zs,H l=none→Reps X.K (hide O H) ((qo ks).map qu) zs→Q (.ref l) (upd H l (.lst zs))):=by
  intro pins s σ H xs us Q I rv hZq;obtain⟨O,a,ds,ks,ys,m,e,hO,sq,rs,em,h64,k⟩:=hZq;subst e;obtain⟨u,rfl,ru⟩:=vals1 rv;obtain rfl:u=Za.ref a:=ru;obtain⟨eds,kne⟩:=zbv em;have hseq:∃T o its n,(T = "list" ∨ T = "tuple")∧s.heap.get? a=some o∧o.cls=.type T∧o.data=.seq its.toArray n∧Vals ys its:=by
   rcases sq with sq | sq
   ·obtain⟨its,r,⟨o,n,e,c,_,dd⟩,_⟩:=I.list sq;exact⟨"list",o,its,n,.inl rfl,e,c,dd,r⟩
   ·obtain⟨its,r,⟨o,e,c,n,dd⟩,_⟩:=I.tuple sq;exact⟨"tuple",o,its,n,.inr rfl,e,c,dd,r⟩
  obtain⟨T,o,its,n,hT,ho,hcl,hd,rv⟩:=hseq;have l1:ds.length=ys.length:=rs.length;have l2:ys.length=its.length:=rv.length;have l3:ds.length=ks.length:=by rw[eds];simp
  have hfree:H (s.heap.objs.size+1)=none:=I.hok.fresh (Yw _);refine zbU (m:=m) hT ho hcl hd (ks:=ks) (by omega) (fun i v c g1 g2 => ?_) h64.2 (by rw[YT];have:=h64.1;omega) (by omega) fun q pq sq => ?_
  ·obtain⟨y,gy,ry⟩:=kx rv g1;obtain⟨d,gd,rd⟩:=rs.getV gy;have gd':=gd;rw[eds,Ql,g2]at gd';cases gd';obtain⟨ps,z,e1,e2,e3⟩:=kne c (Jw g2);obtain⟨as,ra⟩:=(rd.same jg).reads I ry (by rw[e3];exact zlD ps z);rw[e3]at ra;exact⟨ps,z,as,e1,e2,ra⟩
  ·have inq:∀i∈q,i<ys.length:=fun i hi=>by have:=ZR.mp (pq.mem_iff.mp hi);omega
   obtain⟨e2,he2⟩:=sortedAll_at s.heap its (q.map fun i=>its.getD i Za.none).toArray;have ek:q.map (jB ks)=qo ks:=vj (by
    have:=zaK pq (jB ks);rw[show its.length=ks.length by omega]at this;unfold jB at this ⊢;rw[range_getD]at this;exact this) sq
   have hR:Reps X.K (hide O H) ((qo ks).map qu) (q.map fun i=>ys.getD i .non):=by
    have:=yh rs q (fun i hi=>by have:=inq i hi;omega);rw[←ek,Qe];have ee:q.map (fun i=>ds.getD i .none)=q.map (qu∘jB ks):=by
     apply ZZ;intro i hi;have hi' : i<ks.length:=by have:=inq i hi;omega
     unfold jB;simp[eds,hi']
    rw[←ee];exact this
   refine⟨.ref (s.heap.objs.size+1),upd H (s.heap.objs.size+1) (.lst (q.map fun i=>ys.getD i .non)),?_,rfl,k _ _ hfree hR⟩;refine I.laid (t':=s.toks) (fun b u e=>sortedAll_old e) (Yw _) ⟨by rw[Zi,pq.length_eq,JH,YT];have:=h64.1;omega,q.map fun i=>its.getD i Za.none,e2,yr rv q inq,he2⟩
 exact PE.imp (ye hc hg hm Pr ha (by decide) (by decide) he (by rfl)) fun σ H Q hZq=>by
  obtain⟨F,O,ρ,ds,r,e,k⟩:=hZq;obtain⟨as,e1,e2⟩:=Zb.mp e;refine⟨F,O,ρ,as,r,e1,fun vs H1 s1 b1 => ?_⟩;have go:∀ {m:Nat}{es:List D},ziA m es=some ds→∃ks,es.mapM (zau m)=some ks∧(ks.length<64∧ks.Nodup)∧ds=(qo ks).map qu:=fun {m es} h=>by
   obtain⟨ks,a1,a2⟩:=Zb.mp h;split at a2
   ·cases a2;exact⟨ks,a1,by assumption,rfl⟩
   ·cases a2
  unfold zaQ at e2;split at e2
  ·cases e2;obtain⟨v,rfl,b⟩:=b1.inv1;obtain⟨a,ys,rfl,sq,rs⟩:=b.lst;exact⟨O,a,_,[],ys,0,rfl,(r.same s1).dom,.inl sq,rs,rfl,⟨by decide,UV⟩,fun l zs hl rz=>k l zs H1 s1 hl rz⟩
  ·obtain⟨ks,a1,a2,rfl⟩:=go e2;obtain⟨v,rfl,b⟩:=b1.inv1;obtain⟨a,ys,rfl,sq,rs⟩:=b.lst;exact⟨O,a,_,ks,ys,_,rfl,(r.same s1).dom,.inl sq,rs,a1,a2,fun l zs hl rz=>k l zs H1 s1 hl rz⟩
  ·cases e2
end
end L2.Y
set_option maxHeartbeats 4000000
section
namespace L2.Y
open PySem
noncomputable def vw:GS :=
  (sRet (gA sumD (zc (gLs (jX 3 [1] (gIt seqD (g2 ixD (gVar 0) (gK (.int 1)))) (hTup 3 (zQ (hName 0) (zQ (hName 1) (zQ (hName 2) hNil)))) (gBo (g2 inD (gVar 3) (gA tupD (zc (gVar 0) (zc (gVar 1) gNil))))) (gVar 2))) gNil)))
noncomputable def F_size_of:List D→Option D:=jD 2 vw
noncomputable def zb3:GS :=
  (sRet (gA qt (zc (gLs (jX 1 [0] (gItA qZ (zc (gK (.int 1)) (zc (g2 addD (g2 ixD (gVar 0) (gK (.int 0))) (gK (.int 1))) gNil))) (hName 0) xy (gA (zH 2 F_size_of) (zc (gVar 1) (zc (gVar 0) gNil))))) gNil)))
noncomputable def F_sizes:List D→Option D:=jD 1 zb3
noncomputable def vn:GS :=
  (sSeq (sAsg (hName 3) (gA tupD (zc (gA minD (zc (gVar 1) (zc (gVar 2) gNil))) (zc (gA maxD (zc (gVar 1) (zc (gVar 2) gNil))) gNil))))
  (sRet (gA sumD (zc (gLs (jX 1 [3] (gIt seqD (g2 ixD (gVar 0) (gK (.int 1)))) (hName 0) (gBo (g2 eqD (gSl (gVar 0) qU (qF (gK (.int 2)))) (gVar 1))) (g2 ixD (gVar 0) (gK (.int 2))))) gNil))))
noncomputable def F_between:List D→Option D:=jD 4 vn
noncomputable def wz:GS :=
  (sRet (gA allD (zc (gLs (jX 2 [] (gItA zipT (zc (gVar 0) (zc (gVar 1) gNil))) (hTup 2 (zQ (hName 0) (zQ (hName 1) hNil))) xy (g2 ltD (gVar 0) (gVar 1)))) gNil)))
noncomputable def F_all_below:List D→Option D:=jD 2 wz
noncomputable def zb2:GS :=
  (sRet (gA (zH 2 F_all_below) (zc (gVar 1) (zc (gA (zH 1 F_sizes) (zc (gVar 0) gNil)) gNil))))
noncomputable def F_rests:List D→Option D:=jD 2 zb2
noncomputable def vz:GS :=
  (sRet (gA sumD (zc (gLs (jX 1 [0,1] (gIt seqD (gVar 2)) (hName 0) xy (gA (zH 3 F_between) (zc (gVar 1) (zc (gVar 2) (zc (gVar 0) gNil)))))) gNil)))
noncomputable def F_ties_to:List D→Option D:=jD 3 vz
noncomputable def yt:GS :=
  (sRet (gA qt (zc (gLs (jX 1 [1,0,2] (gIt seqD (gVar 2)) (hName 0) (gBo (g2 geD (g2 ixD (gVar 1) (g2 subD (gVar 0) (gK (.int 1)))) (gA (zH 3 F_ties_to) (zc (gVar 2) (zc (gVar 0) (zc (gVar 3) gNil)))))) (gVar 0))) gNil)))
noncomputable def F_catching:List D→Option D:=jD 3 yt
noncomputable def yY:GS :=
  (sSeq (sApp 3 (gVar 4))
  (sSeq (zcz 2 (jX 1 [4] (gIt seqD (gVar 2)) (hName 0) (gBo (g2 yN (gVar 0) (gVar 1))) (gVar 0)))
  (sAsg (hName 4) (gA (zH 3 F_catching) (zc (gVar 0) (zc (gVar 1) (zc (gVar 2) gNil)))))))
noncomputable def zey:GS :=
  (sSeq (sIf (zfl (gTr (gA (zH 2 F_rests) (zc (gVar 0) (zc (gVar 1) gNil)))))
  sNo
  sNil)
  (sSeq (sAsg (hName 2) (gLs (gLst (gItA qZ (zc (gK (.int 1)) (zc (g2 addD (g2 ixD (gVar 0) (gK (.int 0))) (gK (.int 1))) gNil))))))
  (sSeq (sOwn 3 (gLst gNil))
  (sSeq (sAsg (hName 4) (gA (zH 3 F_catching) (zc (gVar 0) (zc (gVar 1) (zc (gVar 2) gNil)))))
  (sSeq (yi (gTr (gVar 4))
  yY)
  (sRet (gA qt (zc (xm 3) gNil))))))))
noncomputable def F_burn:List D→Option D:=jD 5 zey
noncomputable def vo:GS :=
  (sRet (gA qt (zc (gLs (jX 1 [] (gIt seqD (gA (zH 1 F_sizes) (zc (gVar 0) gNil))) (hName 0) xy (g2 subD (gVar 0) (gK (.int 1))))) gNil)))
noncomputable def F_fullest:List D→Option D:=jD 1 vo
noncomputable def xJ:GS :=
  (sSeq (sAsg (hName 3) (gA zgO (zc (gA (zH 2 F_burn) (zc (gVar 0) (zc (g2 addD (g2 addD (gVar 1) (gA tupD (zc (gK (.int 0)) gNil))) (gVar 2)) gNil))) gNil)))
  (sSeq (zcz 4 (jX 1 [3] (gItA qZ (zc (gK (.int 1)) (zc (g2 addD (g2 ixD (gVar 0) (gK (.int 0))) (gK (.int 1))) gNil))) (hName 0) (gBo (g2 yN (gVar 0) (gVar 1))) (gVar 0)))
  (sRet (gA (zH 3 F_ties_to) (zc (gVar 0) (zc (g2 addD (gA lenD (zc (gVar 1) gNil)) (gK (.int 1))) (zc (gVar 4) gNil)))))))
noncomputable def F_least_heap:List D→Option D:=jD 5 xJ
noncomputable def jU:GS :=
  (sSeq (sAsg (hName 3) (gA lenD (zc (gVar 1) gNil)))
  (sSeq (sAsg (hName 4) (gA (zH 3 F_least_heap) (zc (gVar 0) (zc (gVar 1) (zc (gSl (gVar 2) (qF (g2 addD (gVar 3) (gK (.int 1)))) qU) gNil)))))
  (sRet (gLs (jX 1 [1] (gItA qZ (zc (gVar 4) (zc (g2 addD (g2 ixD (gVar 2) (gVar 3)) (gK (.int 1))) gNil))) (hName 0) xy (g2 addD (gVar 1) (gA tupD (zc (gVar 0) gNil))))))))
noncomputable def F_one_heap_longer:List D→Option D:=jD 5 jU
noncomputable def ww:GS :=
  (sExt 4 (gA (zH 3 F_one_heap_longer) (zc (gVar 0) (zc (gVar 5) (zc (gVar 1) gNil)))))
noncomputable def wx:GS :=
  (sSeq (sOwn 4 (gLst gNil))
  (sSeq (sFor (gIt seqD (gVar 2)) (hName 5)
  ww)
  (sFrz 4 (sAsg (hName 2) (gVar 4)))))
noncomputable def vp:GS :=
  (sSeq (sAsg (hName 1) (gA (zH 1 F_fullest) (zc (gVar 0) gNil)))
  (sSeq (sAsg (hName 2) (gLs (gLst (zc (gA tupD gNil) gNil))))
  (sSeq (sFor (gItA qH (zc (g2 ixD (gVar 0) (gK (.int 0))) gNil)) (hName 3)
  wx)
  (sRet (gA qt (zc (gVar 2) gNil))))))
noncomputable def F_lasting:List D→Option D:=jD 6 vp
noncomputable def zap:GS :=
  (sRet (gA qt (zc (gLs (jX 1 [0,1,2] (gIt seqD (gVar 0)) (hName 0) xy (gIf (gBo (g2 eqD (gVar 0) (g2 ixD (gVar 1) (gVar 3)))) (g2 ixD (gVar 1) (gVar 2)) (gVar 0)))) gNil)))
noncomputable def F_joined:List D→Option D:=jD 3 zap
noncomputable def qS:GS :=
  (sIf (gBo (g2 neD (g2 ixD (gVar 8) (gVar 2)) (g2 ixD (gVar 8) (gVar 3))))
  (sApp 5 (gA tupD (zc (g2 addD (gVar 6) (gA tupD (zc (gA tupD (zc (gVar 2) (zc (gVar 3) gNil))) gNil))) (zc (g2 xB (gVar 7) (gVar 4)) (zc (gA (zH 3 F_joined) (zc (gVar 8) (zc (gVar 2) (zc (gVar 3) gNil)))) gNil)))))
  sNil)
noncomputable def zb1:GS :=
  (sSeq (sAsg (hTup 3 (zQ (hName 2) (zQ (hName 3) (zQ (hName 4) hNil)))) (gVar 1))
  (sSeq (sOwn 5 (gLst gNil))
  (sSeq (sFor (gIt seqD (gVar 0)) (hTup 3 (zQ (hName 6) (zQ (hName 7) (zQ (hName 8) hNil))))
  qS)
  (sRet (g2 addD (gVar 0) (xm 5))))))
noncomputable def F_grown:List D→Option D:=jD 9 zb1
noncomputable def xF:GS :=
  (sAsg (hName 3) (gA (zH 2 F_grown) (zc (gVar 3) (zc (gVar 4) gNil))))
noncomputable def zb4:GS :=
  (sSeq (sAsg (hTup 2 (zQ (hName 1) (zQ (hName 2) hNil))) (gVar 0))
  (sSeq (sAsg (hName 3) (gLs (gLst (zc (gA tupD (zc (gA tupD gNil) (zc (gK (.int 1)) (zc (zjT (gItA qH (zc (g2 addD (gVar 1) (gK (.int 1))) gNil))) gNil)))) gNil))))
  (sSeq (sFor (gIt seqD (gVar 2)) (hName 4)
  xF)
  (sRet (gA qt (zc (gLs (gItL zaQ (zc (gLs (jX 3 [1] (gIt seqD (gVar 3)) (hTup 3 (zQ (hName 0) (zQ (hName 1) (zQ (hName 2) hNil)))) (gBo (g2 eqD (gA lenD (zc (gVar 0) gNil)) (gVar 3))) (gA tupD (zc (gVar 0) (zc (gVar 1) gNil))))) gNil))) gNil))))))
noncomputable def F_trees:List D→Option D:=jD 5 zb4
noncomputable def yu:GS :=
  (sRet (gA sumD (zc (gLs (jX 2 [] (gIt seqD (gA (zH 1 F_trees) (zc (gVar 0) gNil))) (hTup 2 (zQ (hName 0) (zQ (hName 1) hNil))) xy (gVar 1))) gNil)))
noncomputable def F_count_of:List D→Option D:=jD 1 yu
noncomputable def xi:GS :=
  (sSeq (sIf (gBo (g2 ltD (gVar 1) (gA lenS (zc (gVar 0) gNil))))
  (sRet (g2 ixS (gVar 0) (gVar 1)))
  sNil)
  (sRet (gK (.int 0))))
noncomputable def F_law_cell_at:List D→Option D:=jD 2 xi
noncomputable def vt:GS :=
  (sSeq (sAsg (hName 2) (g2 modD (g2 xB (g2 addD (g2 addD (gA (zH 2 F_law_cell_at) (zc (gVar 0) (zc (gVar 1) gNil))) (g2 xB (gK (.int 7919)) (gVar 1))) (gK (.int 1))) (gK (.int 48271))) (gK (.int 2147483647))))
  (sRet (g2 modD (g2 addD (g2 addD (g2 xB (gVar 2) (gVar 2)) (g2 xB (gK (.int 7)) (gVar 2))) (gVar 1)) (gK (.int 2147483629)))))
noncomputable def F_law_mixed:List D→Option D:=jD 3 vt
noncomputable def vq:GS :=
  (sSeq (sAsg (hName 2) (g2 modD (g2 xB (g2 addD (g2 addD (gVar 0) (g2 xB (gK (.int 104729)) (gVar 1))) (gK (.int 17))) (gK (.int 69621))) (gK (.int 2147483647))))
  (sRet (g2 modD (g2 addD (g2 addD (g2 xB (gVar 2) (gVar 2)) (g2 xB (gK (.int 3)) (gVar 2))) (gVar 1)) (gK (.int 2147483629)))))
noncomputable def F_law_drawn:List D→Option D:=jD 3 vq
noncomputable def xE:GS :=
  (yS 4 (gA tupD (zc (g2 modD (gA (zH 2 F_law_drawn) (zc (gVar 0) (zc (gVar 5) gNil))) (gVar 5)) (zc (gVar 5) gNil))) (g2 addD (gK (.int 1)) (g2 modD (gA (zH 2 F_law_drawn) (zc (gVar 0) (zc (g2 addD (gK (.int 10)) (gVar 5)) gNil))) (gVar 2))))
noncomputable def jv:GS :=
  (sSeq (sAsg (hName 7) (g2 modD (gA (zH 2 F_law_drawn) (zc (gVar 0) (zc (g2 addD (gK (.int 20)) (gVar 6)) gNil))) (g2 addD (gVar 3) (gK (.int 1)))))
  (sSeq (sAsg (hName 8) (g2 modD (gA (zH 2 F_law_drawn) (zc (gVar 0) (zc (g2 addD (gK (.int 30)) (gVar 6)) gNil))) (g2 addD (gVar 3) (gK (.int 1)))))
  (sIf (gBo (g2 ltD (gVar 7) (gVar 8)))
  (yS 4 (gA tupD (zc (gVar 7) (zc (gVar 8) gNil))) (g2 addD (gK (.int 1)) (g2 modD (gA (zH 2 F_law_drawn) (zc (gVar 0) (zc (g2 addD (gK (.int 40)) (gVar 6)) gNil))) (gVar 2))))
  sNil)))
noncomputable def qe:GS :=
  (sSeq (sAsg (hName 10) (g2 addD (gK (.int 1)) (g2 modD (gA (zH 2 F_law_drawn) (zc (gVar 0) (zc (g2 addD (gK (.int 60)) (gVar 5)) gNil))) (gVar 5))))
  (sAsg (hName 9) (g2 addD (g2 addD (gSl (gVar 9) qU (qF (gVar 10))) (gLs (gLst (zc (gVar 5) gNil)))) (gSl (gVar 9) (qF (gVar 10)) qU))))
noncomputable def qJ:GS :=
  (sSeq (sAsg (hName 12) (g2 ixD (gVar 9) (gVar 7)))
  (sSeq (sAsg (hName 13) (g2 ixD (gVar 9) (gVar 8)))
  (sApp 11 (gA tupD (zc (gA minD (zc (gVar 12) (zc (gVar 13) gNil))) (zc (gA maxD (zc (gVar 12) (zc (gVar 13) gNil))) (zc (g2 zhn (xm 4) (gA tupD (zc (gVar 7) (zc (gVar 8) gNil)))) gNil)))))))
noncomputable def yx:GS :=
  (sSeq (sAsg (hName 3) (g2 addD (gK (.int 1)) (g2 modD (gVar 0) (gVar 1))))
  (sSeq (zjh 4)
  (sSeq (sFor (gItA qZ (zc (gK (.int 1)) (zc (g2 addD (gVar 3) (gK (.int 1))) gNil))) (hName 5)
  xE)
  (sSeq (sFor (gItA qH (zc (g2 modD (g2 zhu (gVar 0) (gK (.int 7))) (gK (.int 4))) gNil)) (hName 6)
  jv)
  (sSeq (sAsg (hName 9) (gLs (gLst (zc (gK (.int 0)) gNil))))
  (sSeq (sFor (gItA qZ (zc (gK (.int 1)) (zc (g2 addD (gVar 3) (gK (.int 1))) gNil))) (hName 5)
  qe)
  (sSeq (sOwn 11 (gLst gNil))
  (sSeq (zml 4 (sFor (gIt ziY (gVar 4)) (hTup 2 (zQ (hName 7) (zQ (hName 8) hNil)))
  qJ))
  (sRet (gA tupD (zc (gVar 3) (zc (gA qt (zc (gLs (gItL zaP (zc (xm 11) gNil))) gNil)) gNil))))))))))))
noncomputable def F_law_yard:List D→Option D:=jD 14 yx
noncomputable def xh:GS :=
  (sRet (gA sumD (zc (gLs (jX 3 [1,2] (gIt seqD (g2 ixD (gVar 0) (gK (.int 1)))) (hTup 3 (zQ (hName 0) (zQ (hName 1) (zQ (hName 2) hNil)))) (zdY (gBo (g2 neD (gVar 0) (gVar 1))) (gBo (g2 inD (gA tupD (zc (gVar 0) (zc (gVar 1) gNil))) (gA tupD (zc (gA tupD (zc (gVar 3) (zc (gVar 4) gNil))) (zc (gA tupD (zc (gVar 4) (zc (gVar 3) gNil))) gNil)))))) (gVar 2))) gNil)))
noncomputable def F_law_between:List D→Option D:=jD 3 xh
noncomputable def xg:GS :=
  (sApp 1 (gA sumD (zc (gLs (jX 1 [0,2] (gItA qH (zc (g2 addD (g2 ixD (gVar 0) (gK (.int 0))) (gK (.int 1))) gNil)) (hName 0) xy (gA (zH 3 F_law_between) (zc (gVar 1) (zc (gVar 2) (zc (gVar 0) gNil)))))) gNil)))
noncomputable def wA:GS :=
  (sSeq (sOwn 1 (gLst gNil))
  (sSeq (sFor (gItA qZ (zc (gK (.int 1)) (zc (g2 addD (g2 ixD (gVar 0) (gK (.int 0))) (gK (.int 1))) gNil))) (hName 2)
  xg)
  (sFrz 1 (sRet (gVar 1)))))
noncomputable def F_law_sizes:List D→Option D:=jD 3 wA
noncomputable def jH:GS :=
  (sIf (gBo (g2 gtD (gVar 7) (gK (.int 0))))
  (sSeq (zeg 3 (g2 subD (gVar 7) (gK (.int 1))) (g2 subD (g2 ixD (xm 3) (g2 subD (gVar 7) (gK (.int 1)))) (g2 xB (gVar 6) (g2 ixD (gVar 2) (g2 subD (gVar 7) (gK (.int 1)))))))
  (sIf (gBo (g2 gtD (gVar 8) (gK (.int 0))))
  (zeg 3 (g2 subD (gVar 8) (gK (.int 1))) (g2 addD (g2 ixD (xm 3) (g2 subD (gVar 8) (gK (.int 1)))) (g2 xB (gVar 6) (g2 ixD (gVar 2) (g2 subD (gVar 7) (gK (.int 1)))))))
  sNil))
  sNil)
noncomputable def qc:GS :=
  (sFor (gIt seqD (gA tupD (zc (gA tupD (zc (gVar 4) (zc (gVar 5) gNil))) (zc (gA tupD (zc (gVar 5) (zc (gVar 4) gNil))) gNil)))) (hTup 2 (zQ (hName 7) (zQ (hName 8) hNil)))
  jH)
noncomputable def xI:GS :=
  (sSeq (sOwn 3 (gItL zhU (zc (gVar 1) gNil)))
  (sSeq (sFor (gIt seqD (g2 ixD (gVar 0) (gK (.int 1)))) (hTup 3 (zQ (hName 4) (zQ (hName 5) (zQ (hName 6) hNil))))
  qc)
  (sRet (gA qt (zc (xm 3) gNil)))))
noncomputable def F_law_forced:List D→Option D:=jD 9 xI
noncomputable def qI:GS :=
  (sSeq (sAsg (hName 8) (g2 ixD (gVar 6) (g2 modD (gA (zH 2 F_law_drawn) (zc (gVar 2) (zc (g2 modD (gVar 7) (gK (.int 97))) gNil))) (gA lenD (zc (gVar 6) gNil)))))
  (sSeq (sAsg (hName 3) (gA (zH 3 F_law_forced) (zc (gVar 0) (zc (gVar 3) (zc (gLs (jX 1 [8] (gItA qH (zc (g2 ixD (gVar 0) (gK (.int 0))) gNil)) (hName 0) xy (gA intOfD (zc (g2 eqD (gVar 0) (gVar 1)) gNil)))) gNil)))))
  (sSeq (zeg 4 (gVar 8) (g2 addD (g2 ixD (xm 4) (gVar 8)) (gK (.int 1))))
  (sSeq (sAsg (hName 7) (g2 addD (gVar 7) (gK (.int 1))))
  (zcz 6 (jX 1 [3,5] (gItA qH (zc (g2 ixD (gVar 0) (gK (.int 0))) gNil)) (hName 0) (gBo (g2 geD (g2 ixD (gVar 1) (gVar 0)) (g2 ixD (gVar 2) (gVar 0)))) (gVar 0)))))))
noncomputable def yv:GS :=
  (sSeq (sAsg (hName 3) (gVar 1))
  (sSeq (sOwn 4 (gF2 mulL (gLs (gLst (zc (gK (.int 0)) gNil))) (g2 ixD (gVar 0) (gK (.int 0)))))
  (sSeq (sAsg (hName 5) (gA (zH 1 F_law_sizes) (zc (gVar 0) gNil)))
  (sSeq (zcz 6 (jX 1 [3,5] (gItA qH (zc (g2 ixD (gVar 0) (gK (.int 0))) gNil)) (hName 0) (gBo (g2 geD (g2 ixD (gVar 1) (gVar 0)) (g2 ixD (gVar 2) (gVar 0)))) (gVar 0)))
  (sSeq (sAsg (hName 7) (gK (.int 0)))
  (sSeq (yi (gBo (g2 neD (gVar 6) (gLs (gLst gNil))))
  qI)
  (sRet (gA tupD (zc (gVar 3) (zc (gA qt (zc (xm 4) gNil)) gNil))))))))))
noncomputable def F_law_rest:List D→Option D:=jD 9 yv
noncomputable def jO:GS :=
  (sSeq (sAsg (hName 7) (g2 addD (g2 addD (gSl (gVar 5) qU (qF (gVar 6))) (gA tupD (zc (g2 addD (g2 ixD (gVar 5) (gVar 6)) (gK (.int 1))) gNil))) (gSl (gVar 5) (qF (g2 addD (gVar 6) (gK (.int 1)))) qU)))
  (sSeq (sAsg (hName 8) (g2 ixD (gA (zH 3 F_law_rest) (zc (gVar 0) (zc (gVar 7) (zc (gK (.int 5)) gNil)))) (gK (.int 0))))
  (sIf (gBo (g2 zhq (gVar 8) (xm 3)))
  (sSeq (yS 3 (gVar 8) (gK (.bool true)))
  (sApp 4 (gVar 8)))
  sNil)))
noncomputable def qC:GS :=
  (sSeq (sPop 4 5)
  (sFor (gItA qH (zc (g2 ixD (gVar 0) (gK (.int 0))) gNil)) (hName 6)
  jO))
noncomputable def xj:GS :=
  (sSeq (sAsg (hName 1) (gA (zH 1 F_law_sizes) (zc (gVar 0) gNil)))
  (sSeq (sAsg (hName 2) (gA qt (zc (gLs (jX 1 [] (gIt seqD (gVar 1)) (hName 0) xy (g2 subD (gVar 0) (gK (.int 1))))) gNil)))
  (sSeq (zcy 3 (gVar 2) (gK (.bool true)))
  (sSeq (sOwn 4 (gLst (zc (gVar 2) gNil)))
  (sSeq (yi (gBo (g2 neD (xm 4) (gLs (gLst gNil))))
  qC)
  (sRet (gLs (gItL kr (zc (xm 3) gNil)))))))))
noncomputable def F_law_reached:List D→Option D:=jD 9 xj
noncomputable def xD:GS :=
  (sAsg (hName 1) (g2 xB (gVar 1) (gA sumD (zc (gLs (jX 1 [2] (gIt seqD (g2 ixD (gVar 0) (gK (.int 1)))) (hName 0) (gBo (g2 inD (gVar 1) (gSl (gVar 0) qU (qF (gK (.int 2)))))) (g2 ixD (gVar 0) (gK (.int 2))))) gNil))))
noncomputable def yw:GS :=
  (sSeq (sAsg (hName 1) (gK (.int 1)))
  (sSeq (sFor (gItA qZ (zc (gK (.int 1)) (zc (g2 addD (g2 ixD (gVar 0) (gK (.int 0))) (gK (.int 1))) gNil))) (hName 2)
  xD)
  (sRet (gVar 1))))
noncomputable def F_law_room:List D→Option D:=jD 3 yw
noncomputable def zjs:GS :=
  (sSeq (sAsg (hName 1) (gA (zH 3 F_law_yard) (zc (gA (zH 2 F_law_mixed) (zc (gVar 0) (zc (gK (.int 0)) gNil))) (zc (gK (.int 3)) (zc (gK (.int 2)) gNil)))))
  (sSeq (sAsg (hName 2) (gA (zH 3 F_law_yard) (zc (gA (zH 2 F_law_mixed) (zc (gVar 0) (zc (gK (.int 0)) gNil))) (zc (gK (.int 5)) (zc (gK (.int 1)) gNil)))))
  (sSeq (sIf (zdY (gBo (g2 eqD (g2 modD (gA (zH 2 F_law_mixed) (zc (gVar 0) (zc (gK (.int 8)) gNil))) (gK (.int 3))) (gK (.int 1)))) (gBo (g2 leD (gA (zH 1 F_law_room) (zc (gVar 2) gNil)) (gK (.int 200)))))
  (sAsg (hName 1) (gVar 2))
  sNil)
  (sSeq (sAsg (hName 3) (gA (zH 1 F_law_reached) (zc (gVar 1) gNil)))
  (sSeq (sIf (gBo (g2 neD (gA (zH 1 F_lasting) (zc (gVar 1) gNil)) (gA qt (zc (gVar 3) gNil))))
  (sRet (gK (.bool false)))
  sNil)
  (sSeq (sAsg (hName 4) (gA (zH 1 F_count_of) (zc (gVar 1) gNil)))
  (sRet (zcd (g1 (isI zfz) (gVar 4)) (zcd (zfm (g1 (isI zcg) (gVar 4))) (g2 eqD (gVar 4) (gA lenD (zc (gVar 3) gNil))))))))))))
noncomputable def F_law:List D→Option D:=jD 5 zjs
end L2.Y
end
namespace L2.Y
open PySem PySem.Spec PyProof.Rows
theorem pgn {X:Cx}{i:Nat}{x:Str}{pos:Pos}(nd:X.N.Nodup) (hi:autoParam (X.N[i]?=some x) aTc) (hx:autoParam (Loc X.env.scope x) aTa) (hf:autoParam (X.fn x=true∨X.env.scope.names.lookup x=some .local) aTa):PG X (.Name x pos) (ky i):=zM nd hi hx hf
theorem us1 {us:List Za}(h:us.length=1):∃a,us=[a]:=TV.mp h
theorem usC {us:List Za}{n:Nat}(h:us.length=n+1):∃a r,us=a::r∧r.length=n:=by
 cases us with
 | nil=>cases h
 | cons a r=>exact⟨a,r,rfl,Nat.succ.inj h⟩
theorem us2 {us:List Za}(h:us.length=2):∃a b,us=[a,b]:=by
 obtain⟨a,r,rfl,hr⟩:=usC h;obtain⟨b,rfl⟩:=us1 hr;exact⟨a,b,rfl⟩
theorem us3 {us:List Za}(h:us.length=3):∃a b c,us=[a,b,c]:=by
 obtain⟨a,r,rfl,hr⟩:=usC h;obtain⟨b,c,rfl⟩:=us2 hr;exact⟨a,b,c,rfl⟩
end L2.Y
namespace L2.Sd
noncomputable def sm (n:Nat) (f:Nat→Int):Int:=((ZJ n).map f).sum
theorem zcE (f:Nat→Int):sm 0 f=0:=rfl
theorem jz (n:Nat) (f:Nat→Int):sm (n+1) f=sm n f+f n:=by
 unfold sm;rw[Uq,Qw,VN];simp
theorem zO {n:Nat}{f g:Nat→Int}(h:∀k,k<n→f k=g k):sm n f=sm n g:=by
 induction n with
 | zero=>rfl
 | succ n ih=>rw[jz,jz,ih fun k hk=>h k (by omega),h n (by omega)]
theorem yl (n:Nat) (f g:Nat→Int):sm n (fun k=>f k+g k)=sm n f+sm n g:=by
 induction n with
 | zero=>rfl
 | succ n ih=>rw[jz,jz,jz,ih];omega
theorem xc (n:Nat) (c:Int) (f:Nat→Int):sm n (fun k=>c*f k)=c*sm n f:=by
 induction n with
 | zero=>simp[zcE]
 | succ n ih=>rw[jz,jz,ih,Mt]
theorem ym {n:Nat}{f:Nat→Int}(h:∀k,k<n→0≤f k):0≤sm n f:=by
 induction n with
 | zero=>exact Ww _
 | succ n ih =>
  rw[jz];have:=ih fun k hk=>h k (by omega);have:=h n (by omega);omega
theorem zej {n:Nat}{f g:Nat→Int}(h:∀k,k<n→f k≤g k):sm n f≤sm n g:=by
 induction n with
 | zero=>exact Ww _
 | succ n ih =>
  rw[jz,jz];have:=ih fun k hk=>h k (by omega);have:=h n (by omega);omega
theorem zgG {n:Nat}{f:Nat→Int}{i:Nat}(hi:i<n) (h:∀k,k<n→k≠i→0≤f k):f i≤sm n f:=by
 induction n with
 | zero=>omega
 | succ n ih =>
  rw[jz]
  by_cases e:i=n
  ·subst e;have:=ym (n:=i) (f:=f) fun k hk=>h k (by omega) (by omega);omega
  ·have:=ih (by omega) fun k hk ne=>h k (by omega) ne;have:=h n (by omega) (Wf e);omega
theorem zcD {n:Nat}{i:Nat}(hi:i<n) (f:Nat→Int) (c:Int):sm n (fun k=>if k=i then f k+c else f k)=sm n f+c:=by
 induction n with
 | zero=>omega
 | succ n ih =>
  rw[jz,jz]
  by_cases e:n=i
  ·subst e;rw[if_pos rfl,zO (g:=f) fun k hk=>if_neg (by omega)];omega
  ·rw[if_neg e,ih (by omega)];omega
structure Yd (n:Nat) (M:Nat→Nat→Int) (s:Nat→Int):Prop where
 pos:∀i,i<n→1≤s i
 dia:∀i,i<n→M i i=-s i
 off:∀i j,i<n→j<n→i≠j→0≤M i j
variable {n:Nat}{M:Nat→Nat→Int}{s:Nat→Int}
noncomputable def fc (n:Nat) (M:Nat→Nat→Int) (g t:Nat→Int) (j:Nat):Int:=g j+sm n fun k=>t k*M k j
theorem zi1 (g t u:Nat→Int) (j:Nat):fc n M (fc n M g t) u j=fc n M g (fun k=>t k+u k) j:=by
 unfold fc;have:(fun k=>(t k+u k)*M k j)=fun k=>t k*M k j+u k*M k j:=funext fun k=>Ky ..;rw[this,yl];omega
theorem qx {g g' t t' : Nat→Int}{j:Nat}(hg:g j=g' j) (ht:∀k,k<n→t k=t' k):fc n M g t j=fc n M g' t' j:=by
 unfold fc;rw[hg,zO fun k hk=>by rw[ht k hk]]
theorem zcb (g:Nat→Int) (j:Nat):fc n M g (fun _=>0) j=g j:=by
 unfold fc;have:(fun k=>(0:Int)*M k j)=fun k=>(0:Int)*(fun k=>M k j) k:=rfl;rw[this,xc];omega
theorem fc_g (g h t:Nat→Int) (j:Nat):fc n M (fun k=>g k+h k) t j=fc n M g t j+h j:=by
 unfold fc;show g j+h j+_=_;omega
theorem zlo {i:Nat}(hi:i<n) (g t:Nat→Int) (c:Int) (j:Nat):fc n M g (fun k=>if k=i then t k+c else t k) j=fc n M g t j+c*M i j:=by
 unfold fc;have:(fun k=>(if k=i then t k+c else t k)*M k j)=fun k=>if k=i then(t k*M k j)+c*M i j else t k*M k j:=funext fun k=>by
  by_cases e:k=i
  ·subst e;rw[if_pos rfl,if_pos rfl,Ky]
  ·rw[if_neg e,if_neg e]
 rw[this,zcD hi];omega
noncomputable def zbV (n:Nat) (s h:Nat→Int):Prop:=∀j,j<n→h j<s j
noncomputable def xG (n:Nat) (M:Nat→Nat→Int) (s g t:Nat→Int):Prop:=(∀k,k<n→0≤t k)∧zbV n s (fc n M g t)
theorem least (Y:Yd n M s) {g t σ:Nat→Int}(B:xG n M s g σ) (hle:∀k,k<n→t k≤σ k) {i:Nat}(hi:i<n) {c:Int}(hc:c*s i≤fc n M g t i) (h0:0≤c):t i+c≤σ i:=by
 apply Bl.mp;intro hlt;have hs:=B.2 i hi;have e:fc n M g σ i=fc n M (fc n M g t) (fun k=>σ k-t k) i:=by
  rw[zi1];exact qx rfl fun k _=>by omega
 have hge:(σ i-t i)*M i i≤sm n fun k=>(σ k-t k)*M k i:=zgG (f:=fun k=>(σ k-t k)*M k i) hi fun k hk ne=>Kh (by have:=hle k hk;omega) (Y.off k i hk hi ne);have e2:fc n M (fc n M g t) (fun k=>σ k-t k) i=fc n M g t i+sm n fun k=>(σ k-t k)*M k i:=rfl;rw[Y.dia i hi,Ms]at hge;have hp:=Y.pos i hi;have h2:(σ i-t i)*s i≤(c-1)*s i:=Ui (by omega) (by omega);rw[Fz c 1,Mq]at h2;omega
structure Odo (n:Nat) (M:Nat→Nat→Int) (s g t:Nat→Int):Prop where
 br:xG n M s g t
 le:∀σ,xG n M s g σ→∀k,k<n→t k≤σ k
theorem Odo.one {g t u:Nat→Int}(a:Odo n M s g t) (b:Odo n M s g u):∀k,k<n→t k=u k:=fun k hk=>by
 have:=a.le u b.br k hk;have:=b.le t a.br k hk;omega
theorem xG.congr {g g' t t' : Nat→Int}(hg:∀k,k<n→g k=g' k) (ht:∀k,k<n→t k=t' k) (b:xG n M s g t):xG n M s g' t' :=
 ⟨fun k hk=>by rw[←ht k hk];exact b.1 k hk,fun j hj=>by rw[←qx (hg j hj) ht];exact b.2 j hj⟩
theorem Odo.congr {g g' t t' : Nat→Int}(hg:∀k,k<n→g k=g' k) (ht:∀k,k<n→t k=t' k) (a:Odo n M s g t):Odo n M s g' t' :=
 ⟨a.br.congr hg ht,fun σ b k hk=>by rw[←ht k hk];exact a.le σ (b.congr (fun k hk=>(hg k hk).symm) fun _ _=>rfl) k hk⟩
theorem Odo.put {g h t u:Nat→Int}(hh:∀k,k<n→0≤h k) (a:Odo n M s g t) (b:Odo n M s (fun k=>fc n M g t k+h k) u):Odo n M s (fun k=>g k+h k) (fun k=>t k+u k):=by
 have e:∀(v:Nat→Int) j,fc n M (fun k=>fc n M g t k+h k) v j=fc n M (fun k=>g k+h k) (fun k=>t k+v k) j:=fun v j=>by
  rw[fc_g,fc_g,zi1]
 refine⟨⟨fun k hk => ?_,fun j hj => ?_⟩,fun σ B k hk => ?_⟩
 ·show 0≤t k+u k;have:=a.br.1 k hk;have:=b.br.1 k hk;omega
 ·rw[←e];exact b.br.2 j hj
 ·have B1:xG n M s g σ:=⟨B.1,fun j hj=>by
   have q:=B.2 j hj;rw[fc_g]at q;have:=hh j hj;omega⟩
  have l1:=a.le σ B1;have B2:xG n M s (fun k=>fc n M g t k+h k) (fun k=>σ k-t k):=⟨fun k hk=>by show 0≤σ k-t k;have:=l1 k hk;omega,fun j hj=>by
   rw[e];rw[qx (g':=fun k=>g k+h k) (t':=σ) rfl fun k _=>by omega];exact B.2 j hj⟩
  have:=b.le _ B2 k hk;omega
structure Way (n:Nat) (M:Nat→Nat→Int) (s g:Nat→Int) (t:Nat→Int):Prop where
 nn:∀k,k<n→0≤t k
 le:∀σ,xG n M s g σ→∀k,k<n→t k≤σ k
theorem Way.start {g:Nat→Int}:Way n M s g (fun _=>0):=⟨fun _ _=>Ww _,fun σ B k hk=>B.1 k hk⟩
theorem Way.step (Y:Yd n M s) {g t:Nat→Int}(W:Way n M s g t) {i:Nat}(hi:i<n) {c:Int}(h0:0≤c) (hc:c*s i≤fc n M g t i):Way n M s g (fun k=>if k=i then t k+c else t k) :=
 ⟨fun k hk=>by
  have:=W.nn k hk
  by_cases e:k=i
  ·simp only[if_pos e];omega
  ·simp only[if_neg e];omega,fun σ B k hk=>by
  by_cases e:k=i
  ·subst e;simp only[if_true];exact least Y B (W.le σ B) hk hc h0
  ·simp only[if_neg e];exact W.le σ B k hk⟩
theorem Way.odo {g t:Nat→Int}(W:Way n M s g t) (h:zbV n s (fc n M g t)):Odo n M s g t:=⟨⟨W.nn,h⟩,W.le⟩
structure Net (n:Nat) (B:Nat→Nat→Int):Prop where
 sym:∀p q,B p q=B q p
 nn:∀p q,0≤B p q
 no:∀p,B p p=0
 conn:∀S:Nat→Prop,S 0→(∀p q,p≤n→q≤n→1≤B p q→S p→S q)→∀p,p≤n→S p
noncomputable def szB (n:Nat) (B:Nat→Nat→Int) (i:Nat):Int:=sm (n+1) (B (i+1))
noncomputable def chB (n:Nat) (B:Nat→Nat→Int) (i j:Nat):Int:=if i=j then -szB n B i else B (i+1) (j+1)
variable {B:Nat→Nat→Int}
noncomputable def reach (n:Nat) (B:Nat→Nat→Int):Nat→Nat→Prop
 | 0,p=>p=0
 | k+1,p=>reach n B k p∨∃q,q≤n∧1≤B q p∧reach n B k q
theorem zbi {P:Nat→Prop}(h:∃k,P k):∃k,P k∧∀j,j<k→¬P j:=by
 obtain⟨k,hk⟩:=h
 induction k using MN with
 | _ k ih =>
  by_cases q:∃j,j<k∧P j
  ·obtain⟨j,h1,h2⟩:=q;exact ih j h1 h2
  ·exact⟨k,hk,fun j hj z=>q ⟨j,hj,z⟩⟩
theorem Net.rank (N:Net n B):∃r:Nat→Nat,r 0=0∧∀p,p≤n→0<p→∃q,q≤n∧1≤B q p∧r q<r p:=by
 have all:∀p,p≤n→∃k,reach n B k p:=N.conn (fun p=>∃k,reach n B k p) ⟨0,rfl⟩ fun p q hp hq hb ⟨k,hk⟩=>⟨k+1,.inr ⟨p,hp,hb,hk⟩⟩
 have al:∀p,∃k,p≤n→reach n B k p∧∀j,j<k→¬reach n B j p:=fun p=>by
  by_cases hp:p≤n
  ·obtain⟨k,h1,h2⟩:=zbi (all p hp);exact⟨k,fun _=>⟨h1,h2⟩⟩
  ·exact⟨0,fun z=>absurd z hp⟩
 have h:∃r:Nat→Nat,∀p,p≤n→reach n B (r p) p∧∀j,j<r p→¬reach n B j p:=⟨fun p=>(al p).choose,fun p hp=>(al p).choose_spec hp⟩
 obtain⟨r,hr⟩:=h;refine⟨r,?_,fun p hp h0 => ?_⟩
 ·apply Gm;intro z;exact(hr 0 (by omega)).2 0 z rfl
 ·obtain⟨h1,h2⟩:=hr p hp;cases e:r p with
  | zero =>
   rw[e]at h1;have:p=0:=h1;omega
  | succ k =>
   rw[e]at h1 h2;rcases h1 with h1 | ⟨q,hq,hb,h3⟩
   ·exact absurd h1 (h2 k (by omega))
   ·refine⟨q,hq,hb,?_⟩;apply Ws;intro z;exact(hr q hq).2 k (by omega) h3
theorem Net.yd (N:Net n B):(∀i,i<n→1≤szB n B i)→Yd n (chB n B) (szB n B):=fun h =>
 ⟨h,fun i _=>if_pos rfl,fun i j _ _ ne=>by rw[chB,if_neg ne];exact N.nn _ _⟩
theorem Net.size_pos (N:Net n B):∀i,i<n→1≤szB n B i:=fun i hi=>by
 obtain⟨r,h0,h⟩:=N.rank;obtain⟨q,hq,hb,_⟩:=h (i+1) (by omega) (by omega);have:=zgG (n:=n+1) (f:=B (i+1)) (i:=q) (by omega) fun k _ _=>N.nn _ _;rw[N.sym]at hb;exact Gp hb this
theorem zhj (n:Nat) (f:Nat→Nat):∃D,∀p,p≤n→f p≤D:=by
 induction n with
 | zero=>exact⟨f 0,fun p hp=>by rw[Fy.mp hp];exact Zg _⟩
 | succ n ih =>
  obtain⟨D,h⟩:=ih;refine⟨max D (f (n+1)),fun p hp => ?_⟩
  by_cases e:p=n+1
  ·subst e;exact Vz _ _
  ·exact Zt (h p (by omega)) (Hf _ _)
theorem za8 (n:Nat) (f:Nat→Int):∃D:Int,0≤D∧∀p,p<n→f p≤D:=by
 induction n with
 | zero=>exact⟨0,Ww _,fun p hp=>by omega⟩
 | succ n ih =>
  obtain⟨D,h0,h⟩:=ih;refine⟨max D (f n),by omega,fun p hp => ?_⟩
  by_cases e:p=n
  ·subst e;omega
  ·have:=h p (by omega);omega
theorem vi (n:Nat) (f:Nat→Int):sm (n+1) f=f 0+sm n fun k=>f (k+1):=by
 induction n with
 | zero=>rw[jz,zcE,zcE];omega
 | succ n ih=>rw[jz,ih,jz];omega
theorem Net.flow (N:Net n B) (h:Nat→Int) (h0:h 0=0) {i:Nat}(hi:i<n):(sm n fun k=>h (k+1)*chB n B k i)=-(sm (n+1) fun p=>(h (i+1)-h p)*B (i+1) p):=by
 have e1:(sm (n+1) fun p=>(h (i+1)-h p)*B (i+1) p)=h (i+1)*szB n B i + -(sm (n+1) fun p=>h p*B (i+1) p):=by
  have:(fun p=>(h (i+1)-h p)*B (i+1) p)=fun p=>h (i+1)*B (i+1) p+(-1)*(h p*B (i+1) p):=funext fun p=>by rw[Fz];omega
  rw[this,yl,xc,xc];unfold szB;omega
 have e2:(sm n fun k=>h (k+1)*chB n B k i)=(sm n fun k=>h (k+1)*B (i+1) (k+1)) + -(h (i+1)*szB n B i):=by
  rw[←zcD hi];refine zO fun k _ => ?_
  by_cases e:k=i
  ·subst e;rw[if_pos rfl,chB,if_pos rfl,N.no,Ms];omega
  ·rw[if_neg e,chB,if_neg e,N.sym]
 rw[e1,e2,vi,h0];omega
theorem Net.brings (N:Net n B) (g:Nat→Int):∃σ,xG n (chB n B) (szB n B) g σ:=by
 obtain⟨r,r0,hr⟩:=N.rank;obtain⟨D,hD⟩:=zhj n r;obtain⟨P0,hP0,hP⟩:=za8 n (szB n B);obtain⟨G,hG0,hG⟩:=za8 n g;have hp1:1≤P0+1:=by omega
 have pw:∀k:Nat,1≤(P0+1)^k:=fun k=>by
  induction k with
  | zero=>simp
  | succ k ih =>
   rw[SQ];have:=Int.mul_le_mul ih hp1 (by omega) (by omega);omega
 have mono:∀a b:Nat,a≤b→(P0+1)^a≤(P0+1)^b:=fun a b hab=>by
  obtain⟨c,rfl⟩:=Nat.exists_eq_add_of_le hab;rw[Int.pow_add];have h1:=pw a;have:=Vs (pw c) (by omega:0≤(P0+1)^a);omega
 let h:Nat→Int:=fun p=>(P0+1)^D-(P0+1)^(D-r p);have hh0:h 0=0:=by show(P0+1)^D-(P0+1)^(D-r 0)=0;rw[r0];exact SN _
 have hnn:∀p,0≤h p:=fun p=>by
  have:=mono (D-r p) D (by omega);show 0≤(P0+1)^D-(P0+1)^(D-r p);omega
 have key:∀i,i<n→1≤sm (n+1) fun p=>(h (i+1)-h p)*B (i+1) p:=fun i hi=>by
  obtain⟨q,hq,hb,hlt⟩:=hr (i+1) (by omega) (by omega);let A:=(P0+1)^(D-r (i+1));have hA:1≤A:=pw _;have f0:∀p,0≤(h (i+1)-h p)*B (i+1) p+A*B (i+1) p:=fun p=>by
   rw[←Ky];refine Kh ?_ (N.nn _ _);have:=pw (D-r p);show 0≤((P0+1)^D-(P0+1)^(D-r (i+1)))-((P0+1)^D-(P0+1)^(D-r p))+(P0+1)^(D-r (i+1));omega
  have fq:(P0+1)*A≤(h (i+1)-h q)*B (i+1) q+A*B (i+1) q:=by
   rw[←Ky];have hle:(P0+1)*A≤h (i+1)-h q+A:=by
    have hD1:=hD (i+1) (by omega);have m:=mono (D-r (i+1)+1) (D-r q) (by omega);rw[SQ,Yk]at m;show(P0+1)*(P0+1)^(D-r (i+1))≤((P0+1)^D-(P0+1)^(D-r (i+1)))-((P0+1)^D-(P0+1)^(D-r q))+(P0+1)^(D-r (i+1));omega
   have hb' : 1≤B (i+1) q:=by rw[N.sym];exact hb
   have h1:0≤(P0+1)*A:=Kh (by omega) (by omega);have:=Vs hb' (show 0≤h (i+1)-h q+A by omega);omega
  have tot:(P0+1)*A≤sm (n+1) fun p=>(h (i+1)-h p)*B (i+1) p+A*B (i+1) p:=Gp fq (zgG (f:=fun p=>(h (i+1)-h p)*B (i+1) p+A*B (i+1) p) (i:=q) (by omega) fun k _ _=>f0 k);rw[yl,xc]at tot;have hs:A*szB n B i≤A*P0:=Vs (hP i hi) (by omega);have e:szB n B i=sm (n+1) (B (i+1)):=rfl;rw[e]at hs;have e3:(P0+1)*A=A*P0+A:=by rw[Ky,Mq,Yk]
  have e4:(sm (n+1) fun k=>B (i+1) k)=sm (n+1) (B (i+1)):=rfl;rw[e4]at tot;omega
 refine⟨fun k=>(G+1)*h (k+1),fun k _=>Kh (by omega) (hnn _),fun j hj => ?_⟩;have e:fc n (chB n B) g (fun k=>(G+1)*h (k+1)) j=g j+(G+1) * -(sm (n+1) fun p=>(h (j+1)-h p)*B (j+1) p):=by
  rw[←N.flow h hh0 hj,←xc];unfold fc;congr 1;exact zO fun k _=>Tv ..
 rw[e,Ms];have:=Vs (key j hj) (show 0≤G+1 by omega);have:=hG j hj;have:=N.size_pos j hj;omega
end L2.Sd
namespace L2.Y
open PySem
noncomputable def zas (ns:List Int) (k:Int):Int:=if k<ns.length then ns.getD k.toNat 0 else 0
theorem zjB (ns:List Int) (k:Int) (h0:0≤k):F_law_cell_at [scrD (ns.map .int),.int k]=some (.int (zas ns k)):=by
 by_cases q:k<ns.length
 ·have hk:k.toNat<ns.length:=by omega
  have e:atI (ns.map Zm.int) k=some (.int (ns.getD k.toNat 0)):=yz h0 (by simp[hk]);simp[F_law_cell_at,xi,jD,wb,sSeq,sIf,sRet,gBo,g2,zcj,gVar,gA,zc,gNil,zi6,zmM,e,za7,q,zas]
 ·simp[F_law_cell_at,xi,jD,wb,sSeq,sIf,sRet,gK,gBo,g2,zcj,gVar,gA,zc,gNil,zi6,za7,q,zas,sNil]
noncomputable def mixI (ns:List Int) (k:Int):Int:=(((zas ns k+7919*k+1)*48271%2147483647)*((zas ns k+7919*k+1)*48271%2147483647)+7*((zas ns k+7919*k+1)*48271%2147483647)+k)%2147483629
theorem zh1 (ns:List Int) (k:Int) (h0:0≤k):F_law_mixed [scrD (ns.map .int),.int k]=some (.int (mixI ns k)):=by
 have b1:=JT ((zas ns k+7919*k+1)*48271) (b:=2147483647) (by decide);have b2:=JB ((zas ns k+7919*k+1)*48271) (b:=2147483647) (by decide);unfold mixI;simp[F_law_mixed,vt,jD,wb,sSeq,sAsg,sRet,gK,hName,gVar,gA,zc,gNil,g2,qr,zjB ns k h0,xX,wq,zF,jf];generalize (zas ns k+7919*k+1)*48271%2147483647=z at *;rw[xX (by omega) (by omega)];simp[zF,jf]
noncomputable def zK (n k:Int):Int:=(((n+104729*k+17)*69621%2147483647)*((n+104729*k+17)*69621%2147483647)+3*((n+104729*k+17)*69621%2147483647)+k)%2147483629
theorem qw (n k:Int):F_law_drawn [.int n,.int k]=some (.int (zK n k)):=by
 have b1:=JT ((n+104729*k+17)*69621) (b:=2147483647) (by decide);have b2:=JB ((n+104729*k+17)*69621) (b:=2147483647) (by decide);unfold zK;simp[F_law_drawn,vq,jD,wb,sSeq,sAsg,sRet,gK,hName,gVar,g2,xX,wq,zF,jf];generalize (n+104729*k+17)*69621%2147483647=z at *;rw[xX (by omega) (by omega)];simp[zF,jf]
theorem zc0 (n k:Int):0≤zK n k:=JT _ (by decide)
noncomputable def pk (k:Int×Int):D:=.tuple [.int k.1,.int k.2]
noncomputable def fk (l:List ((Int×Int)×Int)):List (D×D):=l.map fun e=>(pk e.1,.int e.2)
theorem ze6 (a b:Int×Int):ZP (pk a) (pk b)=decide (a=b):=by
 obtain⟨a1,a2⟩:=a;obtain⟨b1,b2⟩:=b;simp only[pk,ZP,QQ,Prod.mk.injEq]
 by_cases h1:a1=b1 <;> by_cases h2:a2=b2 <;> simp[h1,h2]
noncomputable def putL (l:List ((Int×Int)×Int)) (k:Int×Int) (m:Int):List ((Int×Int)×Int):=if(l.any fun e=>decide (e.1=k))=true then l.map (fun e=>if e.1=k then(e.1,m) else e) else l++[(k,m)]
theorem zkI (l:List ((Int×Int)×Int)) (k:Int×Int) (m:Int):putD (fk l) (pk k) (.int m)=fk (putL l k m):=by
 have ha:((fk l).any fun p=>ZP p.1 (pk k))=l.any fun e=>decide (e.1=k):=by
  unfold fk;rw[TY];congr 1;funext e;exact ze6 e.1 k
 unfold putD putL;rw[ha]
 by_cases q:(l.any fun e=>decide (e.1=k))=true
 ·rw[if_pos q,if_pos q];unfold fk;rw[Qe,Qe];apply ZZ;intro e _;simp only[Ka,ze6]
  by_cases h:e.1=k <;> simp[h]
 ·rw[if_neg q,if_neg q];unfold fk;rw[Qw];rfl
theorem zhW (l:List ((Int×Int)×Int)) (k:Int×Int):yF (fk l) (pk k)=(l.find? fun e=>decide (e.1=k)).map fun e=>.int e.2:=by
 induction l with
 | nil=>rfl
 | cons e l ih =>
  unfold yF fk at ih ⊢;rw[Zk,Vl,Vl];simp only[ze6]
  by_cases h:e.1=k
  ·simp[h]
  ·simp[h];simpa using ih
theorem ki (l:List ((Int×Int)×Int)) (k:Int×Int) (m:Int):(putL l k m).map (·.1)=if k∈l.map (·.1) then l.map (·.1) else l.map (·.1)++[k]:=by
 unfold putL
 by_cases q:(l.any fun e=>decide (e.1=k))=true
 ·have hm:k∈l.map (·.1):=by
   obtain⟨e,he,h⟩:=Ye.mp q;exact Qd.mpr ⟨e,he,of_decide_eq_true h⟩
  rw[if_pos q,if_pos hm,Qe];apply ZZ;intro e _;simp only[Ka];split <;> rfl
 ·have hm:k∉l.map (·.1):=fun h=>by
   obtain⟨e,he,h⟩:=Qd.mp h;exact q (Ye.mpr ⟨e,he,decide_eq_true h⟩)
  rw[if_neg q,if_neg hm,Qw];rfl
theorem zee {l:List ((Int×Int)×Int)}{k:Int×Int}{m:Int}(h:(l.map (·.1)).Nodup):((putL l k m).map (·.1)).Nodup:=by
 rw[ki];split
 ·exact h
 ·rename_i hk;rw[YC];exact⟨h,by simp,fun a ha b hb=>by simp at hb;subst hb;exact fun z=>hk (z▸ha)⟩
theorem zdp (l:List ((Int×Int)×Int)) (k:Int×Int) (m:Int):(putL l k m).length≤l.length+1:=by
 unfold putL;split
 ·simp
 ·simp
theorem ziu {l:List ((Int×Int)×Int)}{k:Int×Int}{m:Int}{e:(Int×Int)×Int}(h:e∈putL l k m):e=(k,m)∨e∈l:=by
 unfold putL at h;split at h
 ·obtain⟨e',he,rfl⟩:=Qd.mp h
  by_cases q:e'.1=k
  ·rw[if_pos q];left;rw[q]
  ·rw[if_neg q];exact .inr he
 ·rcases ZW.mp h with h | h
  ·exact .inr h
  ·left;simpa using h
theorem zit {l:List ((Int×Int)×Int)}{k:Int×Int}{m:Int}:k∈(putL l k m).map (·.1):=by
 rw[ki];split
 ·assumption
 ·simp
theorem zdq {l:List ((Int×Int)×Int)}{k j:Int×Int}{m:Int}(h:j∈l.map (·.1)):j∈(putL l k m).map (·.1):=by
 rw[ki];split
 ·exact h
 ·exact JN _ h
noncomputable abbrev vI (i:Int):Option En:=some (.val (.int i))
noncomputable abbrev dT (l:List ((Int×Int)×Int)):Option En:=some (.own (.dict ((.none,.none)::fk l)))
structure FoundOk (count wide:Int) (l:List ((Int×Int)×Int)):Prop where
 nd:(l.map (·.1)).Nodup
 rng:∀e∈l,0≤e.1.1∧e.1.1<e.1.2∧e.1.2≤count∧1≤e.2∧e.2≤wide
theorem FoundOk.put {count wide:Int}{l:List ((Int×Int)×Int)}{a b m:Int}(h:FoundOk count wide l) (h1:0≤a) (h2:a<b) (h3:b≤count) (h4:1≤m) (h5:m≤wide):FoundOk count wide (putL l (a,b) m):=by
 refine⟨zee h.nd,fun e he => ?_⟩;rcases ziu he with q | q
 ·subst q;exact⟨h1,h2,h3,h4,h5⟩
 ·exact h.rng e q
theorem zcZ {i:Nat}{gk ge:Env'→Option D}{ρ:Env'}{l:List ((Int×Int)×Int)}{a b m:Int}(h1:ge ρ=some (.int m)) (h2:gk ρ=some (.tuple [.int a,.int b])) (h3:ρ[i]?=some (dT l)) (h4:l.length<16777216):yS i gk ge ρ=some (.nxt (ρ.set i (dT (putL l (a,b) m)))):=by
 have e3:ownD i ρ=some (.dict ((.none,.none)::fk l)):=by unfold ownD;rw[h3]
 have hl:(fk l).length<Zu:=by unfold fk;rw[Zi];exact h4
 unfold yS;rw[h1,Zd,h2,Zd,e3,Zd];show(if(fk l).length<Zu then _ else none)=_;rw[if_pos hl];have:=zkI l (a,b) m;unfold pk at this;rw[this]
theorem zer (n most wide count:Int) (hw:1≤wide) (hc:0≤count) (hc5:count≤100):∃l x5,forF (hName 5) xE (zA 1 count.toNat) [vI n,vI most,vI wide,vI count,dT [],none,none,none,none,none,none,none,none,none] =
  some (.nxt [vI n,vI most,vI wide,vI count,dT l,x5,none,none,none,none,none,none,none,none])∧FoundOk count wide l∧(∀p:Int,1≤p→p≤count→∃a,(a,p)∈l.map (·.1))∧(l.length:Int)≤count:=by
 obtain⟨ρ',e,l,x5,rfl,h1,h2,h3⟩:=jP (h:=hName 5) (gb:=xE) (fun i ρ=>∃l x5,ρ=[vI n,vI most,vI wide,vI count,dT l,x5,none,none,none,none,none,none,none,none]∧FoundOk count wide l∧(∀p:Int,1≤p→p≤i→∃a,(a,p)∈l.map (·.1))∧l.length≤i)
  (zA 1 count.toNat) 0 [vI n,vI most,vI wide,vI count,dT [],none,none,none,none,none,none,none,none,none] ⟨[],none,rfl,⟨UV,fun e h=>by simp at h⟩,fun p h1 h2=>by omega,Zg _⟩ (fun k d ρ hk hZq=>by
   obtain⟨l,x5,hr,f1,f2,f3⟩:=hZq;obtain⟨hlt,rfl⟩:=qX hk;subst hr;rw[QH]at f2 f3 ⊢;have b1:=zc0 n (1+k);have b2:=zc0 n (10+(1+k));have m1:=JT (zK n (1+k)) (b:=1+(k:Int)) (by omega);have m2:=JB (zK n (1+k)) (b:=1+(k:Int)) (by omega);have m3:=JT (zK n (10+(1+k))) (b:=wide) (by omega);have m4:=JB (zK n (10+(1+k))) (b:=wide) (by omega);refine⟨_,_,rfl,zcZ (l:=l) (a:=zK n (1+k)%(1+k)) (b:=1+k) (m:=1+zK n (10+(1+k))%wide) ?_ ?_ rfl (by omega),putL l (zK n (1+k)%(1+k),1+k) (1+zK n (10+(1+k))%wide),_,rfl,f1.put m1 m2 (by omega) (by omega) (by omega),fun p p1 p2 => ?_,?_⟩
   ·have hw' : 0<wide:=by omega
    simp[g2,gK,gA,zc,gNil,gVar,qr,zF,qw,jf hw']
   ·have hk' : (0:Int)<1+k:=by omega
    simp[g2,gK,gA,zc,gNil,gVar,qr,qw,jf hk',zaX]
   ·by_cases q:p=1+k
    ·subst q;exact⟨_,zit⟩
    ·obtain⟨a,ha⟩:=f2 p p1 (by push_cast at p2;omega);exact⟨a,zdq ha⟩
   ·have:=zdp l (zK n (1+k)%(1+k),1+(k:Int)) (1+zK n (10+(1+k))%wide);omega)
 rw[zU,QH]at h2 h3;exact⟨l,x5,e,h1,fun p p1 p2=>h2 p p1 (by omega),by omega⟩
theorem zes (n most wide count:Int) (hw:1≤wide) (hc:0≤count) (hc5:count≤100) (t:Nat) (ht:t≤100) (l0:List ((Int×Int)×Int)) (x5:Option En) (h0:FoundOk count wide l0) (hl0:(l0.length:Int)≤count):∃l x6 x7 x8,forF (hName 6) jv (zA 0 t) [vI n,vI most,vI wide,vI count,dT l0,x5,none,none,none,none,none,none,none,none] =
  some (.nxt [vI n,vI most,vI wide,vI count,dT l,x5,x6,x7,x8,none,none,none,none,none])∧FoundOk count wide l∧(∀k∈l0.map (·.1),k∈l.map (·.1))∧(l.length:Int)≤count+t:=by
 obtain⟨ρ',e,l,x6,x7,x8,rfl,h1,h2,h3⟩:=jP (h:=hName 6) (gb:=jv) (fun i ρ=>∃l x6 x7 x8,ρ=[vI n,vI most,vI wide,vI count,dT l,x5,x6,x7,x8,none,none,none,none,none]∧FoundOk count wide l∧(∀k∈l0.map (·.1),k∈l.map (·.1))∧(l.length:Int)≤count+i)
  (zA 0 t) 0 [vI n,vI most,vI wide,vI count,dT l0,x5,none,none,none,none,none,none,none,none] ⟨l0,none,none,none,rfl,h0,fun _ h=>h,by omega⟩ (fun k d ρ hk hZq=>by
   obtain⟨l,x6,x7,x8,hr,f1,f2,f3⟩:=hZq;obtain⟨hlt,rfl⟩:=qX hk;subst hr;have m1:=JT (zK n (20+(0+k))) (b:=count+1) (by omega);have m2:=JB (zK n (20+(0+k))) (b:=count+1) (by omega);have m3:=JT (zK n (30+(0+k))) (b:=count+1) (by omega);have m4:=JB (zK n (30+(0+k))) (b:=count+1) (by omega);have m5:=JT (zK n (40+(0+k))) (b:=wide) (by omega);have m6:=JB (zK n (40+(0+k))) (b:=wide) (by omega);have hc' : 0<count+1:=by omega
   have hw' : 0<wide:=by omega
   by_cases q:zK n (20+(0+k))%(count+1)<zK n (30+(0+k))%(count+1)
   ·refine⟨_,_,rfl,?_,putL l (zK n (20+(0+k))%(count+1),zK n (30+(0+k))%(count+1)) (1+zK n (40+(0+k))%wide),vI (0+k),vI (zK n (20+(0+k))%(count+1)),vI (zK n (30+(0+k))%(count+1)),rfl,f1.put m1 q (by omega) (by omega) (by omega),fun j hj=>zdq (f2 j hj),?_⟩
    ·have ed:=zcZ (i:=4) (gk:=gA tupD (zc (gVar 7) (zc (gVar 8) gNil))) (ge:=g2 addD (gK (.int 1)) (g2 modD (gA (zH 2 F_law_drawn) (zc (gVar 0) (zc (g2 addD (gK (.int 40)) (gVar 6)) gNil))) (gVar 2)))
      (ρ:=[vI n,vI most,vI wide,vI count,dT l,x5,vI (0+k),vI (zK n (20+(0+k))%(count+1)),vI (zK n (30+(0+k))%(count+1)),none,none,none,none,none]) (l:=l) (a:=zK n (20+(0+k))%(count+1)) (b:=zK n (30+(0+k))%(count+1)) (m:=1+zK n (40+(0+k))%wide)
      (by simp[g2,gK,gA,zc,gNil,gVar,qr,zF,qw,jf hw']) (by simp[g2,gK,gA,zc,gNil,gVar,zaX]) rfl (by omega)
     have e1:sAsg (hName 7) (g2 modD (gA (zH 2 F_law_drawn) (zc (gVar 0) (zc (g2 addD (gK (.int 20)) (gVar 6)) gNil))) (g2 addD (gVar 3) (gK (.int 1)))) [vI n,vI most,vI wide,vI count,dT l,x5,vI (0+k),x7,x8,none,none,none,none,none]=some (.nxt [vI n,vI most,vI wide,vI count,dT l,x5,vI (0+k),vI (zK n (20+(0+k))%(count+1)),x8,none,none,none,none,none]):=by
      simp[sAsg,hName,g2,gK,gA,zc,gNil,gVar,qr,zF,qw,jf hc']
     have e2:sAsg (hName 8) (g2 modD (gA (zH 2 F_law_drawn) (zc (gVar 0) (zc (g2 addD (gK (.int 30)) (gVar 6)) gNil))) (g2 addD (gVar 3) (gK (.int 1)))) [vI n,vI most,vI wide,vI count,dT l,x5,vI (0+k),vI (zK n (20+(0+k))%(count+1)),x8,none,none,none,none,none]=some (.nxt [vI n,vI most,vI wide,vI count,dT l,x5,vI (0+k),vI (zK n (20+(0+k))%(count+1)),vI (zK n (30+(0+k))%(count+1)),none,none,none,none,none]):=by
      simp[sAsg,hName,g2,gK,gA,zc,gNil,gVar,qr,zF,qw,jf hc']
     show jv [vI n,vI most,vI wide,vI count,dT l,x5,vI (0+k),x7,x8,none,none,none,none,none]=_;unfold jv;rw[sSeq,e1,Zd];show sSeq _ _ _=_;rw[sSeq,e2,Zd];show sIf _ _ _ _=_;have e3:gBo (g2 ltD (gVar 7) (gVar 8)) [vI n,vI most,vI wide,vI count,dT l,x5,vI (0+k),vI (zK n (20+(0+k))%(count+1)),vI (zK n (30+(0+k))%(count+1)),none,none,none,none,none]=some true:=by
      show((some (Zm.bool (decide (zK n (20+(0+k))%(count+1)<zK n (30+(0+k))%(count+1))))):Option D).bind za7=some true;rw[decide_eq_true q];rfl
     rw[sIf,e3,Zd,if_pos rfl];exact ed
    ·have:=zdp l (zK n (20+(0+k))%(count+1),zK n (30+(0+k))%(count+1)) (1+zK n (40+(0+k))%wide);omega
   ·refine⟨_,_,rfl,?_,l,vI (0+k),vI (zK n (20+(0+k))%(count+1)),vI (zK n (30+(0+k))%(count+1)),rfl,f1,f2,by omega⟩;show jv [vI n,vI most,vI wide,vI count,dT l,x5,vI (0+k),x7,x8,none,none,none,none,none]=_;have e1:sAsg (hName 7) (g2 modD (gA (zH 2 F_law_drawn) (zc (gVar 0) (zc (g2 addD (gK (.int 20)) (gVar 6)) gNil))) (g2 addD (gVar 3) (gK (.int 1)))) [vI n,vI most,vI wide,vI count,dT l,x5,vI (0+k),x7,x8,none,none,none,none,none]=some (.nxt [vI n,vI most,vI wide,vI count,dT l,x5,vI (0+k),vI (zK n (20+(0+k))%(count+1)),x8,none,none,none,none,none]):=by
     simp[sAsg,hName,g2,gK,gA,zc,gNil,gVar,qr,zF,qw,jf hc']
    have e2:sAsg (hName 8) (g2 modD (gA (zH 2 F_law_drawn) (zc (gVar 0) (zc (g2 addD (gK (.int 30)) (gVar 6)) gNil))) (g2 addD (gVar 3) (gK (.int 1)))) [vI n,vI most,vI wide,vI count,dT l,x5,vI (0+k),vI (zK n (20+(0+k))%(count+1)),x8,none,none,none,none,none]=some (.nxt [vI n,vI most,vI wide,vI count,dT l,x5,vI (0+k),vI (zK n (20+(0+k))%(count+1)),vI (zK n (30+(0+k))%(count+1)),none,none,none,none,none]):=by
     simp[sAsg,hName,g2,gK,gA,zc,gNil,gVar,qr,zF,qw,jf hc']
    unfold jv;rw[sSeq,e1,Zd];show sSeq _ _ _=_;rw[sSeq,e2,Zd];show sIf _ _ _ _=_;have e3:gBo (g2 ltD (gVar 7) (gVar 8)) [vI n,vI most,vI wide,vI count,dT l,x5,vI (0+k),vI (zK n (20+(0+k))%(count+1)),vI (zK n (30+(0+k))%(count+1)),none,none,none,none,none]=some false:=by
     show((some (Zm.bool (decide (zK n (20+(0+k))%(count+1)<zK n (30+(0+k))%(count+1))))):Option D).bind za7=some false;rw[decide_eq_false q];rfl
    rw[sIf,e3,Zd];rfl)
 rw[zU,QH]at h3;exact⟨l,x6,x7,x8,e,h1,h2,h3⟩
structure NamesOk (i:Nat) (ms:List Int):Prop where
 len:ms.length=i+1
 nd:ms.Nodup
 rng:∀x∈ms,0≤x∧x≤i
 zero:ms[0]?=some 0
theorem NamesOk.ins {i:Nat}{ms:List Int}(h:NamesOk i ms) {a:Nat}(h1:1≤a) (h2:a≤i+1):NamesOk (i+1) (ms.take a++[((i:Int)+1)]++ms.drop a):=by
 have hp:(ms.take a++[((i:Int)+1)]++ms.drop a).Perm (((i:Int)+1)::ms):=by
  rw[QW];have:=Dz (a:=(i:Int)+1) (l₁:=ms.take a) (l₂:=ms.drop a);rw[WM]at this;exact this
 refine⟨?_,?_,fun x hx => ?_,?_⟩
 ·rw[hp.length_eq,Zz,h.len]
 ·rw[hp.nodup_iff,Js];exact⟨fun z=>by have:=h.rng _ z;omega,h.nd⟩
 ·rcases ZS.mp (hp.mem_iff.mp hx) with q | q
  ·subst q;push_cast;omega
  ·have:=h.rng x q;push_cast;omega
 ·have hlen:=h.len;have hz:=h.zero;rw[QW,Jx (by rw[Jt];omega),Nv,if_pos (by omega)];exact hz
theorem zdC (n d a:Nat) (h:a≤n):HT.sIx n d (some (a:Int))=a:=by
 show(if(a:Int)<0 then((a:Int)+(n:Int)).toNat else min (a:Int).toNat n)=a;rw[if_neg (by omega),YM,MT h]
theorem zbh (ds:List D) (a:Nat) (h:a≤ds.length):cutD ds none (some (a:Int))=ds.take a:=by
 unfold cutD;rw[zdC _ _ _ h,show HT.sIx ds.length 0 none=0 from rfl,GD,Bu]
theorem vN (ds:List D) (a:Nat) (h:a≤ds.length):cutD ds (some (a:Int)) none=ds.drop a:=by
 unfold cutD;rw[zdC _ _ _ h,show HT.sIx ds.length ds.length none=ds.length from rfl,←Wo,Ua]
theorem zet (n most wide count:Int) (hc:0≤count) (hc5:count≤100) (x4 x5 x6 x7 x8:Option En):∃ms x5' x10,forF (hName 5) qe (zA 1 count.toNat) [vI n,vI most,vI wide,vI count,x4,x5,x6,x7,x8,some (.val (.list [.int 0])),none,none,none,none] =
  some (.nxt [vI n,vI most,vI wide,vI count,x4,x5',x6,x7,x8,some (.val (.list (ms.map Zm.int))),x10,none,none,none])∧NamesOk count.toNat ms:=by
 obtain⟨ρ',e,ms,x5',x10,rfl,h1⟩:=jP (h:=hName 5) (gb:=qe) (fun i ρ=>∃ms x5' x10,ρ=[vI n,vI most,vI wide,vI count,x4,x5',x6,x7,x8,some (.val (.list (ms.map Zm.int))),x10,none,none,none]∧NamesOk i ms)
  (zA 1 count.toNat) 0 [vI n,vI most,vI wide,vI count,x4,x5,x6,x7,x8,some (.val (.list [.int 0])),none,none,none,none] ⟨[0],x5,none,rfl,rfl,by simp,fun x hx=>by simp at hx;subst hx;simp,rfl⟩ (fun k d ρ hk hZq=>by
   obtain⟨ms,y5,y10,hr,f1⟩:=hZq;obtain⟨hlt,rfl⟩:=qX hk;subst hr;rw[QH]at f1 ⊢;have m1:=JT (zK n (60+(1+k))) (b:=1+(k:Int)) (by omega);have m2:=JB (zK n (60+(1+k))) (b:=1+(k:Int)) (by omega);have hk' : (0:Int)<1+k:=by omega
   obtain⟨a,ha⟩:∃a:Nat,(a:Int)=1+zK n (60+(1+k))%(1+k):=⟨(1+zK n (60+(1+k))%(1+k)).toNat,by omega⟩
   have hal:a≤(ms.map Zm.int).length:=by rw[Zi,f1.len];omega
   have e1:sAsg (hName 10) (g2 addD (gK (.int 1)) (g2 modD (gA (zH 2 F_law_drawn) (zc (gVar 0) (zc (g2 addD (gK (.int 60)) (gVar 5)) gNil))) (gVar 5))) [vI n,vI most,vI wide,vI count,x4,vI (1+k),x6,x7,x8,some (.val (.list (ms.map Zm.int))),y10,none,none,none]=some (.nxt [vI n,vI most,vI wide,vI count,x4,vI (1+k),x6,x7,x8,some (.val (.list (ms.map Zm.int))),vI a,none,none,none]):=by
    simp[sAsg,hName,g2,gK,gA,zc,gNil,gVar,qr,zF,qw,jf hk',ha]
   refine⟨_,_,rfl,?_,ms.take a++[((k:Int)+1)]++ms.drop a,vI (1+k),vI a,rfl,f1.ins (by omega) (by omega)⟩;show qe [vI n,vI most,vI wide,vI count,x4,vI (1+k),x6,x7,x8,some (.val (.list (ms.map Zm.int))),y10,none,none,none]=_;unfold qe;rw[sSeq,e1,Zd];have s1:slD (.list (ms.map Zm.int)) none (some (a:Int))=some (.list ((ms.map Zm.int).take a)):=by rw[slD,zbh _ _ hal]
   have s2:slD (.list (ms.map Zm.int)) (some (a:Int)) none=some (.list ((ms.map Zm.int).drop a)):=by rw[slD,vN _ _ hal]
   have l1:((ms.map Zm.int).take a).length+1≤Zu:=by rw[Jt,Zi,f1.len];show _≤16777216;omega
   have l2:(((ms.map Zm.int).take a)++[Zm.int (1+k)]).length+((ms.map Zm.int).drop a).length≤Zu:=by rw[Zx,Jt,Wo,Zi,f1.len];show _≤16777216;simp;omega
   show sAsg (hName 9) _ [vI n,vI most,vI wide,vI count,x4,vI (1+k),x6,x7,x8,some (.val (.list (ms.map Zm.int))),vI a,none,none,none]=_;have a1:addD (.list ((ms.map Zm.int).take a)) (.list [.int (1+k)])=some (.list (((ms.map Zm.int).take a)++[.int (1+k)])):=if_pos l1;have a2:addD (.list (((ms.map Zm.int).take a)++[.int (1+k)])) (.list ((ms.map Zm.int).drop a))=some (.list (((ms.map Zm.int).take a)++[.int (1+k)]++(ms.map Zm.int).drop a)):=if_pos l2;have e2:(g2 addD (g2 addD (gSl (gVar 9) qU (qF (gVar 10))) (gLs (gLst (zc (gVar 5) gNil)))) (gSl (gVar 9) (qF (gVar 10)) qU)) [vI n,vI most,vI wide,vI count,x4,vI (1+k),x6,x7,x8,some (.val (.list (ms.map Zm.int))),vI a,none,none,none]=some (.list (((ms.map Zm.int).take a)++[.int (1+k)]++(ms.map Zm.int).drop a)):=by
    have g9:gVar 9 [vI n,vI most,vI wide,vI count,x4,vI (1+k),x6,x7,x8,some (.val (.list (ms.map Zm.int))),vI a,none,none,none]=some (.list (ms.map Zm.int)):=rfl;have g10:qF (gVar 10) [vI n,vI most,vI wide,vI count,x4,vI (1+k),x6,x7,x8,some (.val (.list (ms.map Zm.int))),vI a,none,none,none]=some (some (a:Int)):=rfl;have g5:gLs (gLst (zc (gVar 5) gNil)) [vI n,vI most,vI wide,vI count,x4,vI (1+k),x6,x7,x8,some (.val (.list (ms.map Zm.int))),vI a,none,none,none]=some (.list [.int (1+k)]):=rfl;simp only[g2,gSl,g9,g10,qU,Zd,s1,s2,g5,a1,a2]
   rw[sAsg,e2];simp[hName,Qw,List.map_take,List.map_drop,Int.add_comm])
 rw[zU,QH]at h1;exact⟨ms,x5',x10,e,h1⟩
noncomputable def zS (l:Int×Int×Int):D:=.tuple [.int l.1,.int l.2.1,.int l.2.2]
noncomputable def zo (c:Int) (ls:List (Int×Int×Int)):D:=.tuple [.int c,.tuple (ls.map zS)]
noncomputable def nmI (ms:List Int) (i:Int):Int:=ms.getD i.toNat 0
noncomputable def zZ (ms:List Int) (e:(Int×Int)×Int):Int×Int×Int:=(min (nmI ms e.1.1) (nmI ms e.1.2),max (nmI ms e.1.1) (nmI ms e.1.2),e.2)
theorem kQ:∀ {l:List ((Int×Int)×Int)}{e:(Int×Int)×Int},(l.map (·.1)).Nodup→e∈l→l.find? (fun x=>decide (x.1=e.1))=some e
 | [],_,_,h=>by simp at h
 | a::l,e,hn,h=>by
  rw[Zk,Js]at hn;rw[Vl];rcases ZS.mp h with q | q
  ·subst q;simp
  ·have ne:¬a.1=e.1:=fun z=>hn.1 (by rw[z];exact Qd.mpr ⟨e,q,rfl⟩);simp only[ne,decide_false];exact kQ hn.2 q
theorem zdi (i j:Int):minD [.int i,.int j]=some (.int (min i j)):=by
 show some (Zm.int (if j<i then j else i))=_;congr 2
 by_cases h:j<i
 ·rw[if_pos h];omega
 ·rw[if_neg h];omega
theorem zdh (i j:Int):maxD [.int i,.int j]=some (.int (max i j)):=by
 show some (Zm.int (if j>i then j else i))=_;congr 2
 by_cases h:j>i
 ·rw[if_pos h];omega
 ·rw[if_neg h];omega
theorem zbp {ms:List Int}{i:Int}(h0:0≤i) (h1:i<ms.length):ixD (.list (ms.map Zm.int)) (.int i)=some (.int (nmI ms i)):=by
 show atI (ms.map Zm.int) i=_;refine yz h0 ?_;have:i.toNat<ms.length:=by omega
 simp[nmI,this]
theorem kl {i:Nat}{ge:Env'→Option D}{ρ:Env'}{ds:List D}{d:D}(h1:ge ρ=some d) (h2:ρ[i]?=some (some (.own (.list ds)))) (h3:ds.length<16777216):sApp i ge ρ=some (.nxt (ρ.set i (some (.own (.list (ds++[d])))))):=by
 have e:ownL i ρ=some ds:=by unfold ownL;rw[h2]
 unfold sApp;rw[h1,Zd,e,Zd];exact if_pos h3
theorem zeu (n most wide count:Int) (hc:0≤count) (l:List ((Int×Int)×Int)) (hl:l.length≤1000) (h:FoundOk count wide l) (ms:List Int) (hm:NamesOk count.toNat ms) (x5 x6 x7 x8 x10:Option En) :
  ∃y7 y8 y12 y13,forF (hTup 2 (zQ (hName 7) (zQ (hName 8) hNil))) qJ ((fk l).map (·.1)) [vI n,vI most,vI wide,vI count,some (.val (.dict ((.none,.int 0)::fk l))),x5,x6,x7,x8,some (.val (.list (ms.map Zm.int))),x10,some (.own (.list [])),none,none] =
  some (.nxt [vI n,vI most,vI wide,vI count,some (.val (.dict ((.none,.int 0)::fk l))),x5,x6,y7,y8,some (.val (.list (ms.map Zm.int))),x10,some (.own (.list ((l.map (zZ ms)).map zS))),y12,y13]):=by
 obtain⟨ρ',e,y7,y8,y12,y13,rfl⟩:=jP (h:=hTup 2 (zQ (hName 7) (zQ (hName 8) hNil))) (gb:=qJ) (fun i ρ=>∃y7 y8 y12 y13,ρ=[vI n,vI most,vI wide,vI count,some (.val (.dict ((.none,.int 0)::fk l))),x5,x6,y7,y8,some (.val (.list (ms.map Zm.int))),x10,some (.own (.list (((l.take i).map (zZ ms)).map zS))),y12,y13])
  ((fk l).map (·.1)) 0 [vI n,vI most,vI wide,vI count,some (.val (.dict ((.none,.int 0)::fk l))),x5,x6,x7,x8,some (.val (.list (ms.map Zm.int))),x10,some (.own (.list [])),none,none] ⟨x7,x8,none,none,rfl⟩ (fun k d ρ hk hZq=>by
   obtain⟨y7,y8,y12,y13,hr⟩:=hZq;subst hr;rw[QH];unfold fk at hk;rw[Qe,Ql]at hk;obtain⟨en,he,rfl⟩:=ZG.mp hk;have hen:en∈l:=Jw he;obtain⟨r1,r2,r3,r4,r5⟩:=h.rng en hen;have hlen:=hm.len;have hkl:k<l.length:=(Qa.mp he).1;have i1:=zbp (ms:=ms) (i:=en.1.1) r1 (by omega);have i2:=zbp (ms:=ms) (i:=en.1.2) (by omega) (by omega);have lk:zhn (.dict ((.none,.int 0)::fk l)) (.tuple [.int en.1.1,.int en.1.2])=some (.int en.2):=by
    show yF (fk l) (pk en.1)=_;rw[zhW,kQ h.nd hen];rfl
   refine⟨[vI n,vI most,vI wide,vI count,some (.val (.dict ((.none,.int 0)::fk l))),x5,x6,vI en.1.1,vI en.1.2,some (.val (.list (ms.map Zm.int))),x10,some (.own (.list (((l.take k).map (zZ ms)).map zS))),y12,y13],_,rfl,?_,vI en.1.1,vI en.1.2,vI (nmI ms en.1.1),vI (nmI ms en.1.2),rfl⟩;have e1:sAsg (hName 12) (g2 ixD (gVar 9) (gVar 7)) [vI n,vI most,vI wide,vI count,some (.val (.dict ((.none,.int 0)::fk l))),x5,x6,vI en.1.1,vI en.1.2,some (.val (.list (ms.map Zm.int))),x10,some (.own (.list (((l.take k).map (zZ ms)).map zS))),y12,y13] =
     some (.nxt [vI n,vI most,vI wide,vI count,some (.val (.dict ((.none,.int 0)::fk l))),x5,x6,vI en.1.1,vI en.1.2,some (.val (.list (ms.map Zm.int))),x10,some (.own (.list (((l.take k).map (zZ ms)).map zS))),vI (nmI ms en.1.1),y13]):=by
    show(ixD (.list (ms.map Zm.int)) (.int en.1.1)).bind _=_;rw[i1];rfl
   have e2:sAsg (hName 13) (g2 ixD (gVar 9) (gVar 8)) [vI n,vI most,vI wide,vI count,some (.val (.dict ((.none,.int 0)::fk l))),x5,x6,vI en.1.1,vI en.1.2,some (.val (.list (ms.map Zm.int))),x10,some (.own (.list (((l.take k).map (zZ ms)).map zS))),vI (nmI ms en.1.1),y13] =
     some (.nxt [vI n,vI most,vI wide,vI count,some (.val (.dict ((.none,.int 0)::fk l))),x5,x6,vI en.1.1,vI en.1.2,some (.val (.list (ms.map Zm.int))),x10,some (.own (.list (((l.take k).map (zZ ms)).map zS))),vI (nmI ms en.1.1),vI (nmI ms en.1.2)]):=by
    show(ixD (.list (ms.map Zm.int)) (.int en.1.2)).bind _=_;rw[i2];rfl
   unfold qJ;rw[sSeq,e1,Zd];show sSeq _ _ _=_;rw[sSeq,e2,Zd];have e3:((l.take (k+1)).map (zZ ms)).map zS=((l.take k).map (zZ ms)).map zS++[zS (zZ ms en)]:=by
    rw[Hj,he];simp
   rw[e3];refine kl ?_ rfl (by simp;omega);have v1:gA minD (zc (gVar 12) (zc (gVar 13) gNil)) [vI n,vI most,vI wide,vI count,some (.val (.dict ((.none,.int 0)::fk l))),x5,x6,vI en.1.1,vI en.1.2,some (.val (.list (ms.map Zm.int))),x10,some (.own (.list (((l.take k).map (zZ ms)).map zS))),vI (nmI ms en.1.1),vI (nmI ms en.1.2)]=some (.int (min (nmI ms en.1.1) (nmI ms en.1.2))):=zdi _ _;have v2:gA maxD (zc (gVar 12) (zc (gVar 13) gNil)) [vI n,vI most,vI wide,vI count,some (.val (.dict ((.none,.int 0)::fk l))),x5,x6,vI en.1.1,vI en.1.2,some (.val (.list (ms.map Zm.int))),x10,some (.own (.list (((l.take k).map (zZ ms)).map zS))),vI (nmI ms en.1.1),vI (nmI ms en.1.2)]=some (.int (max (nmI ms en.1.1) (nmI ms en.1.2))):=zdh _ _;have v3:g2 zhn (xm 4) (gA tupD (zc (gVar 7) (zc (gVar 8) gNil))) [vI n,vI most,vI wide,vI count,some (.val (.dict ((.none,.int 0)::fk l))),x5,x6,vI en.1.1,vI en.1.2,some (.val (.list (ms.map Zm.int))),x10,some (.own (.list (((l.take k).map (zZ ms)).map zS))),vI (nmI ms en.1.1),vI (nmI ms en.1.2)]=some (.int en.2):=lk;simp only[gA,zc,v3,Zd,gNil]at v1 v2 ⊢;rw[v1,v2];rfl)
 refine⟨y7,y8,y12,y13,?_⟩;rw[e];have:l.take (0+((fk l).map (·.1)).length)=l:=by rw[Wt];unfold fk;simp
 rw[this]
noncomputable def tri (l:Int×Int×Int):List Int:=[l.1,l.2.1,l.2.2]
noncomputable def zg0:List Int→Int×Int×Int
 | [a,b,c]=>(a,b,c)
 | _=>(0,0,0)
theorem zg1 (l:Int×Int×Int):zg0 (tri l)=l:=rfl
theorem zdg:∀ls:List (Int×Int×Int),(ls.map zS).mapM qp=some (ls.map tri)
 | []=>rfl
 | l::ls=>by
  rw[Zk,Jh,zdg ls];rfl
noncomputable def yX (ls:List (Int×Int×Int)):List (Int×Int×Int):=(qo (ls.map tri)).map zg0
theorem zbS (ls:List (Int×Int×Int)):(yX ls).map tri=qo (ls.map tri):=by
 unfold yX;rw[Qe];have:∀k∈qo (ls.map tri),(tri∘zg0) k=k:=fun k hk=>by
  obtain⟨l,_,rfl⟩:=Qd.mp ((xf _).mem_iff.mp hk);rfl
 rw[ZZ this,Cz]
theorem zak (ls:List (Int×Int×Int)):(yX ls).Perm ls:=by
 unfold yX;have:=(xf (ls.map tri)).map zg0;rw[Qe]at this;have e:(zg0∘tri)=id:=funext zg1;rw[e,SJ]at this;exact this
theorem ziz (ls:List (Int×Int×Int)) (h:ls.length<64) (nd:(ls.map tri).Nodup):zgI (ls.map zS)=some ((yX ls).map zS):=by
 unfold zgI;rw[zdg,Zd,if_pos ⟨by simpa using h,nd⟩,←zbS,Qe];rfl
theorem ziB (ls:List (Int×Int×Int)):(yX ls).Pairwise fun a b=>HT.lexLt (tri b) (tri a)=false:=by
 have:=wa (ls.map tri);rw[←zbS,JG]at this;exact this
noncomputable def Ris (a b:Int×Int×Int):Prop:=a.1<b.1∨a.1=b.1∧a.2.1<b.2.1
theorem zmi {a b:Int×Int×Int}(h:HT.lexLt (tri b) (tri a)=false) (hn:¬(a.1=b.1∧a.2.1=b.2.1)):Ris a b:=by
 unfold tri at h;rw[xW]at h
 by_cases e:b.1=a.1
 ·rw[if_pos e,xW]at h
  by_cases e2:b.2.1=a.2.1
  ·exact absurd ⟨e.symm,e2.symm⟩ hn
  ·rw[if_neg e2]at h;have:=of_decide_eq_false h;exact .inr ⟨e.symm,by omega⟩
 ·rw[if_neg e]at h;have:=of_decide_eq_false h;exact .inl (by omega)
theorem Ris.trans {a b c:Int×Int×Int}(h1:Ris a b) (h2:Ris b c):Ris a c:=by
 unfold Ris at *;omega
structure GoodYard (most wide count:Int) (ls:List (Int×Int×Int)):Prop where
 c1:1≤count
 c2:count≤most
 rng:∀l∈ls,0≤l.1∧l.1<l.2.1∧l.2.1≤count∧1≤l.2.2∧l.2.2≤wide
 ris:ls.Pairwise Ris
 few:(ls.length:Int)≤count+3
 conn:∀S:Int→Prop,S 0→(∀l∈ls,S l.1↔S l.2.1)→∀p,0≤p→p≤count→S p
theorem zi7 {c:Nat}{ms:List Int}(h:NamesOk c ms) {i j:Int}(hi:0≤i) (hi2:i≤c) (hj:0≤j) (hj2:j≤c) (e:nmI ms i=nmI ms j):i=j:=by
 have hl:=h.len;have a1:i.toNat<ms.length:=by omega
 have a2:j.toNat<ms.length:=by omega
 unfold nmI at e;have e' : ms[i.toNat]=ms[j.toNat]:=by simpa[a1,a2] using e
 have:=(BR (h₀:=a1) (h₁:=a2) h.nd).mp e';omega
theorem zi8 {c:Nat}{ms:List Int}(h:NamesOk c ms) {i:Int}(hi:0≤i) (hi2:i≤c):0≤nmI ms i∧nmI ms i≤c:=by
 have hl:=h.len;have a1:i.toNat<ms.length:=by omega
 unfold nmI;have:=h.rng ms[i.toNat] (by simp);simpa[a1] using this
theorem zf0 {c:Nat}{ms:List Int}(h:NamesOk c ms):nmI ms 0=0:=by
 have:=h.zero;unfold nmI;rw[Vh];show(ms[0]?).getD 0=0;rw[this];rfl
theorem xV:∀(m:Nat) (ms:List Int),ms.Nodup→(∀x∈ms,0≤x∧x<m)→ms.length≤m
 | 0,ms,_,h=>by
  cases ms with
  | nil=>exact Zg _
  | cons a r=>have:=h a Zn;omega
 | m+1,ms,hn,h=>by
  by_cases q:(m:Int)∈ms
  ·have l1:=Wg q;have:=xV m (ms.erase m) (hn.erase _) fun x hx=>by
    have h1:=h x (List.mem_of_mem_erase hx);have h2:x≠m:=fun z=>by
     subst z;exact(List.Nodup.not_mem_erase hn) hx
    push_cast at h1
    omega
   omega
  ·have:=xV m ms hn fun x hx=>by
    have h1:=h x hx;have h2:x≠m:=fun z=>q (z▸hx)
    push_cast at h1
    omega
   omega
theorem zkc {c:Nat}{ms:List Int}(h:NamesOk c ms) {p:Int}(h1:0≤p) (h2:p≤c):∃i:Int,0≤i∧i≤c∧nmI ms i=p:=by
 have hm:p∈ms:=Ja fun q=>by
  have:=xV (c+1) (p::ms) (Js.mpr ⟨q,h.nd⟩) fun x hx=>by
   rcases ZS.mp hx with z | z
   ·subst z;push_cast;omega
   ·have:=h.rng x z;push_cast;omega
  rw[Zz,h.len]at this;omega
 obtain⟨i,hi,e⟩:=Wm hm;have hl:=h.len;refine⟨i,by omega,by omega,?_⟩;unfold nmI;simp[hi,e]
theorem zjU {most wide count:Int}{l:List ((Int×Int)×Int)}{ms:List Int}(c1:1≤count) (c2:count≤most) (h:FoundOk count wide l) (hm:NamesOk count.toNat ms) (hl:(l.length:Int)≤count+3) (ht:∀p:Int,1≤p→p≤count→∃a,(a,p)∈l.map (·.1)):GoodYard most wide count (yX (l.map (zZ ms))):=by
 have pm:=zak (l.map (zZ ms));have hcc:((count.toNat:Nat):Int)=count:=by omega
 have inl:∀ {x},x∈yX (l.map (zZ ms))→∃e∈l,x=zZ ms e:=fun hx=>by
  obtain⟨e,he,rfl⟩:=Qd.mp (pm.mem_iff.mp hx);exact⟨e,he,rfl⟩
 have ne:∀e∈l,nmI ms e.1.1≠nmI ms e.1.2:=fun e he z=>by
  obtain⟨r1,r2,r3,_⟩:=h.rng e he;have:=zi7 hm r1 (by omega) (by omega) (by omega) z;omega
 refine⟨c1,c2,fun x hx => ?_,?_,by rw[pm.length_eq,Zi];exact hl,fun S s0 hS p p1 p2 => ?_⟩
 ·obtain⟨e,he,rfl⟩:=inl hx;obtain⟨r1,r2,r3,r4,r5⟩:=h.rng e he;have n1:=zi8 hm r1 (by omega);have n2:=zi8 hm (i:=e.1.2) (by omega) (by omega);have:=ne e he;unfold zZ;refine⟨?_,?_,?_,r4,r5⟩ <;> simp only <;> omega
 ·have ndp:((l.map (zZ ms)).map fun x=>(x.1,x.2.1)).Nodup:=by
   rw[Qe];have hnd:=h.nd;rw[Ln,JG]at hnd ⊢;refine hnd.imp_of_mem fun {a b} ha hb hab z=>hab ?_;obtain⟨r1,r2,r3,_⟩:=h.rng a ha;obtain⟨t1,t2,t3,_⟩:=h.rng b hb;have z1:min (nmI ms a.1.1) (nmI ms a.1.2)=min (nmI ms b.1.1) (nmI ms b.1.2):=congrArg Prod.fst z;have z2:max (nmI ms a.1.1) (nmI ms a.1.2)=max (nmI ms b.1.1) (nmI ms b.1.2):=congrArg Prod.snd z;have go:∀ {i j},nmI ms i=nmI ms j→0≤i→i≤count→0≤j→j≤count→i=j:=fun e a1 a2 b1 b2=>zi7 hm a1 (by omega) b1 (by omega) e
   by_cases q1:nmI ms a.1.1=nmI ms b.1.1
   ·have q2:nmI ms a.1.2=nmI ms b.1.2:=by omega
    exact Rz (go q1 r1 (by omega) t1 (by omega)) (go q2 (by omega) (by omega) (by omega) (by omega))
   ·have q2:nmI ms a.1.1=nmI ms b.1.2:=by omega
    have q3:nmI ms a.1.2=nmI ms b.1.1:=by omega
    have w1:=go q2 r1 (by omega) (by omega) (by omega);have w2:=go q3 (by omega) (by omega) t1 (by omega);omega
  have ndp' : ((yX (l.map (zZ ms))).map fun x=>(x.1,x.2.1)).Nodup:=(pm.map _).nodup_iff.mpr ndp;rw[Ln,JG]at ndp';exact((ziB (l.map (zZ ms))).and ndp').imp fun {a b} ⟨h1,h2⟩=>zmi h1 fun z=>h2 (Rz z.1 z.2)
 ·have key:∀k:Nat,∀q:Int,0≤q→q≤count→q≤k→S (nmI ms q):=by
   intro k
   induction k with
   | zero =>
    intro q q0 q1 q2;have:q=0:=by omega
    subst this;rw[zf0 hm];exact s0
   | succ k ih =>
    intro q q0 q1 q2
    by_cases hq:q=0
    ·subst hq;rw[zf0 hm];exact s0
    ·obtain⟨a,ha⟩:=ht q (by omega) q1;obtain⟨e,he,ee⟩:=Qd.mp ha;obtain⟨r1,r2,r3,_⟩:=h.rng e he;have e1:e.1.1=a:=congrArg Prod.fst ee;have e2:e.1.2=q:=congrArg Prod.snd ee;have hx:zZ ms e∈yX (l.map (zZ ms)):=pm.mem_iff.mpr (Qd.mpr ⟨e,he,rfl⟩);have iff:=hS _ hx;have prev:=ih a (by omega) (by omega) (by push_cast at q2;omega);unfold zZ at iff;simp only at iff;rw[e1,e2]at iff
     by_cases lt:nmI ms a≤nmI ms q
     ·rw[Int.min_eq_left lt,Int.max_eq_right lt]at iff;exact iff.mp prev
     ·rw[Int.min_eq_right (by omega),Int.max_eq_left (by omega)]at iff;exact iff.mpr prev
  obtain⟨i,i1,i2,i3⟩:=zkc hm p1 (by omega);rw[←i3];exact key i.toNat i i1 (by omega) (by omega)
theorem zk {g h:GS}{ρ ρ' : Env'}(e:g ρ=some (.nxt ρ')):sSeq g h ρ=h ρ':=by
 unfold sSeq;rw[e];rfl
theorem zC {n:Nat}{g:GS}{ds:List D}{d:D}(e:g (wb n ds)=some (.ret d)):jD n g ds=some d:=by
 unfold jD;rw[e];rfl
theorem qb {g:Env'→Option (List D)}{h:GT}{gb:GS}{ρ:Env'}{ds:List D}{o:Option Out}(e:g ρ=some ds) (e2:forF h gb ds ρ=o):sFor g h gb ρ=o:=by
 unfold sFor;rw[e,Zd];exact e2
theorem xY {i j:Int}(h1:-(2^62)≤i) (h2:i<2^62) (h3:-(2^62)≤j) (h4:j<2^62):qZ [.int i,.int j]=some (zA i (j-i).toNat):=if_pos ⟨h1,h2,h3,h4⟩
theorem wI {j:Int}(h3:-(2^62)≤j) (h4:j<2^62):qH [.int j]=some (zA 0 j.toNat):=if_pos ⟨h3,h4⟩
theorem zg8 (n most wide:Int) (hm1:1≤most) (hm2:most≤50) (hw:1≤wide):∃count ls,F_law_yard [.int n,.int most,.int wide]=some (zo count ls)∧GoodYard most wide count ls:=by
 have hm0:0<most:=by omega
 have c0:=JT n (b:=most) (by omega);have c9:=JB n (b:=most) hm0;obtain⟨count,hc⟩:∃count,count=1+n%most:=⟨_,rfl⟩
 have t0:=JT (n / 7) (b:=4) (by omega);have t9:=JB (n / 7) (b:=4) (by omega);obtain⟨l1,x5,e1,f1,f2,f3⟩:=zer n most wide count hw (by omega) (by omega);obtain⟨l,x6,x7,x8,e2,g1,g2',g3⟩:=zes n most wide count hw (by omega) (by omega) (n / 7%4).toNat (by omega) l1 x5 f1 f3;obtain⟨ms,y5,x10,e3,hms⟩:=zet n most wide count (by omega) (by omega) (dT l) x5 x6 x7 x8;obtain⟨y7,y8,y12,y13,e4⟩:=zeu n most wide count (by omega) l (by omega) g1 ms hms y5 x6 x7 x8 x10;have hle:(l.length:Int)≤count+3:=by omega
 have G:=zjU (most:=most) (by omega) (by omega) g1 hms hle fun p p1 p2=>let ⟨a,ha⟩:=f2 p p1 p2;⟨a,g2' _ ha⟩;have nd:((l.map (zZ ms)).map tri).Nodup:=((zak _).map tri).nodup_iff.mp (JG.mpr (G.ris.imp fun {a b} h e=>by
  unfold Ris at h;unfold tri at e;have e1:=(Vf e).1;have e2:=(Vf (Vf e).2).1;omega))
 refine⟨count,yX (l.map (zZ ms)),?_,G⟩;unfold F_law_yard;refine zC ?_;show yx [vI n,vI most,vI wide,none,none,none,none,none,none,none,none,none,none,none]=_;unfold yx;rw[zk (ρ':=[vI n,vI most,vI wide,vI count,none,none,none,none,none,none,none,none,none,none]) (by
  show((modD (.int n) (.int most)).bind fun y=>addD (.int 1) y).bind _=_;rw[jf hm0,Zd,zF,Zd,hc];rfl)]
 rw[zk (ρ':=[vI n,vI most,vI wide,vI count,dT [],none,none,none,none,none,none,none,none,none]) rfl];rw[zk (qb (ds:=zA 1 count.toNat) (by
  show qZ [.int 1,.int (count+1)]=_;rw[xY (by decide) (by decide) (by omega) (by omega)];congr 2;omega) e1)]
 rw[zk (qb (ds:=zA 0 (n / 7%4).toNat) (by
  show((((zhu (.int n) (.int 7)).bind fun x=>modD x (.int 4)).bind fun x=>(some [x]:Option (List D))).bind qH)=_;rw[zfb (by decide) (by decide),Zd,jf (by decide),Zd,Zd,wI (by omega) (by omega)]) e2)]
 rw[zk (ρ':=[vI n,vI most,vI wide,vI count,dT l,x5,x6,x7,x8,some (.val (.list [.int 0])),none,none,none,none]) rfl];rw[zk (qb (ds:=zA 1 count.toNat) (by
  show qZ [.int 1,.int (count+1)]=_;rw[xY (by decide) (by decide) (by omega) (by omega)];congr 2;omega) e3)]
 rw[zk (ρ':=[vI n,vI most,vI wide,vI count,dT l,y5,x6,x7,x8,some (.val (.list (ms.map Zm.int))),x10,some (.own (.list [])),none,none]) rfl];rw[zk (ρ':=[vI n,vI most,vI wide,vI count,some (.val (.dict ((.none,.int 0)::fk l))),y5,x6,y7,y8,some (.val (.list (ms.map Zm.int))),x10,some (.own (.list ((l.map (zZ ms)).map zS))),y12,y13]) (by
  show sFor _ _ _ [vI n,vI most,vI wide,vI count,some (.val (.dict ((.none,.int 0)::fk l))),y5,x6,x7,x8,some (.val (.list (ms.map Zm.int))),x10,some (.own (.list [])),none,none]=_;exact qb (ds:=(fk l).map (·.1)) rfl e4)]
 have es:zaP [.list ((l.map (zZ ms)).map zS)]=some ((yX (l.map (zZ ms))).map zS):=ziz _ (by simp;omega) nd;generalize hr:([vI n,vI most,vI wide,vI count,some (.val (.dict ((.none,.int 0)::fk l))),y5,x6,y7,y8,some (.val (.list (ms.map Zm.int))),x10,some (.own (.list ((l.map (zZ ms)).map zS))),y12,y13]:Env')=ρ;have v3:gVar 3 ρ=some (.int count):=by rw[←hr];rfl
 have v11:xm 11 ρ=some (.list ((l.map (zZ ms)).map zS)):=by rw[←hr];rfl
 simp only[sRet,gA,zc,gNil,gLs,gItL,v3,v11,Zd,es,Uo];rfl
noncomputable def LkOk (c:Int) (l:Int×Int×Int):Prop:=0≤l.1∧l.1<l.2.1∧l.2.1≤c∧1≤l.2.2∧l.2.2≤4
noncomputable def pairD (l:Int×Int×Int):D:=.tuple [.int l.1,.int l.2.1]
theorem zdD (l:Int×Int×Int):slD (zS l) none (some 2)=some (pairD l):=rfl
theorem yj (ds:List D):seqD (.list ds)=some ds:=rfl
theorem xa (ds:List D):seqD (.tuple ds)=some ds:=rfl
theorem kN {α:Type}(f:α→Bool):∀l:List α,kM (l.map fun x=>.bool (f x))=some (l.map f)
 | []=>rfl
 | x::l=>by
  unfold kM;rw[Zk,Jh,show List.mapM za7 (l.map fun x=>.bool (f x))=some (l.map f) from kN f l];rfl
theorem zhh {α:Type}(f:α→Bool) (l:List α):allD [.list (l.map fun x=>.bool (f x))]=some (.bool (l.all f)):=by
 show(kM _).map _=_;rw[kN];simp[CJ]
noncomputable def unlink:D→Int×Int×Int
 | .tuple [.int a,.int b,.int m]=>(a,b,m)
 | _=>(0,0,0)
theorem zbn (l:List Int):wR (l.map Zm.int)=some l:=by
 induction l with
 | nil=>rfl
 | cons x l ih =>
  unfold wR at ih ⊢;rw[Zk,Jh,ih];rfl
theorem wc (l:List Int):sumD [.list (l.map Zm.int)]=some (.int l.sum):=by
 show(wR _).map _=_;rw[zbn];rfl
theorem kt (ls:List (Int×Int×Int)) (p:Int×Int×Int→Bool):sumD [.list (((ls.map zS).filter fun d=>p (unlink d)).map fun d=>.int (unlink d).2.2)]=some (.int ((ls.filter p).map (·.2.2)).sum):=by
 have e:((ls.map zS).filter fun d=>p (unlink d)).map (fun d=>Zm.int (unlink d).2.2)=((ls.filter p).map (·.2.2)).map Zm.int:=by
  rw[Mp,Qe,Qe];rfl
 rw[e,wc]
theorem wU (c:Int) (ls:List (Int×Int×Int)):ixD (zo c ls) (.int 1)=some (.tuple (ls.map zS)):=rfl
theorem jJ (c:Int) (ls:List (Int×Int×Int)):ixD (zo c ls) (.int 0)=some (.int c):=rfl
theorem zi4 (p a b:Int):inD (.int p) (.tuple [.int a,.int b])=some (.bool (decide (a=p)||decide (b=p))):=by
 show(if(([.int a,.int b]:List D).all ZQ&&ZQ (.int p))=true then some (([.int a,.int b]:List D).any fun y=>ZP y (.int p)) else none).map _=_;rw[if_pos (by simp[xb])];simp only[Ug,CG,ZP,Uo,Kz]
 by_cases h1:a=p <;> by_cases h2:b=p <;> simp[h1,h2]
noncomputable def xZ (ls:List (Int×Int×Int)) (p:Int):Int:=((ls.filter fun l=>decide (l.1=p)||decide (l.2.1=p)).map (·.2.2)).sum
theorem zei (c p:Int) (ls:List (Int×Int×Int)) (h:ls.length≤1000):F_size_of [zo c ls,.int p]=some (.int (xZ ls p)):=by
 unfold F_size_of;refine zC ?_;show vw [some (.val (zo c ls)),vI p]=_;unfold vw;refine je (zD (zb (ju (zX (qg (zr (x:=zo c ls) rfl zG (wU c ls)) (xa _)) (by simp;omega) (wN (fun d=>decide ((unlink d).1=p)||decide ((unlink d).2.1=p)) (fun d=>.int (unlink d).2.2) _ fun d hd => ?_))) zh) (kt ls fun l=>decide (l.1=p)||decide (l.2.1=p)));obtain⟨l,_,rfl⟩:=Qd.mp hd;refine⟨[vI l.1,vI l.2.1,vI l.2.2,vI p],rfl,jF (zr (x:=.int p) rfl (y:=.tuple [.int l.1,.int l.2.1]) rfl (zi4 p l.1 l.2.1)),fun _=>rfl⟩
theorem jc (ds:List D):qt [.list ds]=some (.tuple ds):=rfl
noncomputable def zai (c:Int) (ls:List (Int×Int×Int)):List Int:=(ZJ c.toNat).map fun(k:Nat)=>xZ ls (1+k)
theorem ziy (c:Int) (h0:0≤c) (h9:c≤1000) (ls:List (Int×Int×Int)) (h:ls.length≤1000):F_sizes [zo c ls]=some (.tuple ((zai c ls).map Zm.int)):=by
 unfold F_sizes;refine zC ?_;show zb3 [some (.val (zo c ls))]=_;unfold zb3;have er:qZ [.int 1,.int (c+1)]=some (zA 1 c.toNat):=by
  rw[xY (by decide) (by decide) (by omega) (by omega)];congr 2;omega
 refine je (zD (zb (ju (zX (jY (zb zG (zb (zr (zr (x:=zo c ls) rfl zG (jJ c ls)) zG (zF c 1)) zh)) er) (by rw[zU];omega) (vL (fun d=>match d with | .int p=>.int (xZ ls p) | d=>d) _ fun d hd => ?_))) zh) ?_)
 ·obtain⟨k,hk,rfl⟩:=zaf hd;exact⟨[vI (1+k),some (.val (zo c ls))],rfl,zD (zb (x:=zo c ls) rfl (zb (x:=.int (1+k)) rfl zh)) (by rw[qr];exact zei c (1+k) ls h)⟩
 ·rw[jc];congr 2;unfold zA zai;rw[Qe,Qe];rfl
theorem wK (a b:Int):ZQ (.tuple [.int a,.int b])=true:=by simp[ZQ,QF,QZ,Vo,Qz]
noncomputable def qN (ls:List (Int×Int×Int)) (a b:Int):Int:=((ls.filter fun l=>!decide (l.1=l.2.1)&&((decide (a=l.1)&&decide (b=l.2.1))||(decide (b=l.1)&&decide (a=l.2.1)))).map (·.2.2)).sum
noncomputable def twoI (ls:List (Int×Int×Int)) (a b:Int):Int:=((ls.filter fun l=>decide (l.1=min a b)&&decide (l.2.1=max a b)).map (·.2.2)).sum
theorem zhs (x y a b:Int):eqD (.tuple [.int x,.int y]) (.tuple [.int a,.int b])=some (.bool (decide (x=a)&&decide (y=b))):=by
 unfold eqD;rw[wK,wK];simp only[ZP,QQ,Et]
 by_cases h1:x=a <;> by_cases h2:y=b <;> simp[h1,h2]
theorem zdb (l:Int×Int×Int):ixD (zS l) (.int 2)=some (.int l.2.2):=rfl
theorem zdQ (c a b:Int) (ls:List (Int×Int×Int)) (h:ls.length≤1000):F_between [zo c ls,.int a,.int b]=some (.int (twoI ls a b)):=by
 unfold F_between;refine zC ?_;show vn [some (.val (zo c ls)),vI a,vI b,none]=_;unfold vn;rw[zk (ρ':=[some (.val (zo c ls)),vI a,vI b,some (.val (.tuple [.int (min a b),.int (max a b)]))]) (zT (zD (zb (zD (zb (x:=.int a) rfl (zb (x:=.int b) rfl zh)) (zdi a b)) (zb (zD (zb (x:=.int a) rfl (zb (x:=.int b) rfl zh)) (zdh a b)) zh)) (zaX _ _)) rfl)];refine je (zD (zb (ju (zX (qg (zr (x:=zo c ls) rfl zG (wU c ls)) (xa _)) (by simp;omega) (wN (fun d=>decide ((unlink d).1=min a b)&&decide ((unlink d).2.1=max a b)) (fun d=>.int (unlink d).2.2) _ fun d hd => ?_))) zh) (kt ls fun l=>decide (l.1=min a b)&&decide (l.2.1=max a b)));obtain⟨l,_,rfl⟩:=Qd.mp hd;refine⟨[some (.val (zS l)),some (.val (.tuple [.int (min a b),.int (max a b)]))],rfl,jF (zr (x:=pairD l) (zbl (d:=zS l) rfl rfl (xS zG) (zdD l)) (y:=.tuple [.int (min a b),.int (max a b)]) rfl (zhs _ _ _ _)),fun _=>zr (x:=zS l) rfl zG (zdb l)⟩
theorem ziN {c:Int}{ls:List (Int×Int×Int)}(h:∀l∈ls,LkOk c l) {a b:Int}(hab:a≠b):twoI ls a b=qN ls a b:=by
 unfold twoI qN;congr 2;apply Vi;intro l hl;obtain⟨h1,h2,_⟩:=h l hl;rw[WF];simp only[QM,Ur,Wc,decide_eq_true_eq,decide_eq_false_iff_not];omega
theorem zcH {α:Type}(f g:α→Int):∀l:List α,(l.map fun x=>f x+g x).sum=(l.map f).sum+(l.map g).sum
 | []=>rfl
 | x::l=>by simp only[Zk,Jc,zcH f g l];omega
theorem zaW {α:Type}(l:List α):(l.map fun _=>(0:Int)).sum=0:=by
 induction l with
 | nil=>rfl
 | cons x l ih=>simp only[Zk,Jc,ih];rfl
theorem zgP (n:Nat) (q m:Int):((ZJ n).map fun(k:Nat)=>if(k:Int)=q then m else 0).sum=if 0≤q∧q<n then m else 0:=by
 induction n with
 | zero=>rw[if_neg (by omega)];rfl
 | succ n ih =>
  rw[Uq,Qw,VN,ih];simp only[Zk,YD,Jc,Cy]
  by_cases h:(n:Int)=q
  ·rw[if_pos h,if_neg (by omega),if_pos (by omega)];omega
  ·rw[if_neg h]
   by_cases h2:0≤q∧q<(n:Int)
   ·rw[if_pos h2,if_pos (by omega)];omega
   ·rw[if_neg h2,if_neg (by omega)];rfl
theorem vF (l:Int×Int×Int) (ls:List (Int×Int×Int)) (a b:Int) (h:l.1<l.2.1):qN (l::ls) a b=(if(a=l.1∧b=l.2.1)∨(b=l.1∧a=l.2.1) then l.2.2 else 0)+qN ls a b:=by
 unfold qN;rw[JC]
 by_cases q:(a=l.1∧b=l.2.1)∨(b=l.1∧a=l.2.1)
 ·have:(!decide (l.1=l.2.1)&&((decide (a=l.1)&&decide (b=l.2.1))||(decide (b=l.1)&&decide (a=l.2.1))))=true:=by
   simp only[QM,Ur,Wc,decide_eq_true_eq,decide_eq_false_iff_not];exact⟨by omega,q⟩
  rw[this,if_pos rfl,if_pos q,Zk,Jc]
 ·have:(!decide (l.1=l.2.1)&&((decide (a=l.1)&&decide (b=l.2.1))||(decide (b=l.1)&&decide (a=l.2.1))))=false:=by
   rw[←Pa];intro z;simp only[QM,Ur,Wc,decide_eq_true_eq,decide_eq_false_iff_not]at z;exact q z.2
  rw[this,if_neg q];simp
theorem ko (l:Int×Int×Int) (ls:List (Int×Int×Int)) (p:Int):xZ (l::ls) p=(if l.1=p∨l.2.1=p then l.2.2 else 0)+xZ ls p:=by
 unfold xZ;rw[JC]
 by_cases q:l.1=p∨l.2.1=p
 ·have:(decide (l.1=p)||decide (l.2.1=p))=true:=by
   simpa using q
  rw[this,if_pos rfl,if_pos q,Zk,Jc]
 ·have:(decide (l.1=p)||decide (l.2.1=p))=false:=by
   rw[←Pa];intro z;exact q (by simpa using z)
  rw[this,if_neg q];simp
theorem zaU {c:Int}(hc:0≤c) (p:Int):∀ {ls:List (Int×Int×Int)},(∀l∈ls,LkOk c l)→((ZJ (c.toNat+1)).map fun(k:Nat)=>qN ls p k).sum=xZ ls p
 | [],_=>by
  have:(fun(k:Nat)=>qN [] p k)=fun _=>(0:Int):=rfl;rw[this,zaW];rfl
 | l::ls,h=>by
  obtain⟨h1,h2,h3,_⟩:=h l Zn;have ih:=zaU hc p (ls:=ls) fun x hx=>h x (Zq _ hx);have e:(fun(k:Nat)=>qN (l::ls) p k)=fun(k:Nat)=>(if(p=l.1∧(k:Int)=l.2.1)∨((k:Int)=l.1∧p=l.2.1) then l.2.2 else 0)+qN ls p k:=funext fun k=>vF l ls p k h2;rw[e,zcH,ih,ko];congr 1
  by_cases q1:l.1=p
  ·have e2:(fun(k:Nat)=>if(p=l.1∧(k:Int)=l.2.1)∨((k:Int)=l.1∧p=l.2.1) then l.2.2 else 0)=fun(k:Nat)=>if(k:Int)=l.2.1 then l.2.2 else 0:=funext fun k=>by
    by_cases z:(k:Int)=l.2.1
    ·rw[if_pos z,if_pos (.inl ⟨q1.symm,z⟩)]
    ·rw[if_neg z,if_neg (by omega)]
   rw[e2,zgP,if_pos (by omega),if_pos (Or.inl q1)]
  ·by_cases q2:l.2.1=p
   ·have e2:(fun(k:Nat)=>if(p=l.1∧(k:Int)=l.2.1)∨((k:Int)=l.1∧p=l.2.1) then l.2.2 else 0)=fun(k:Nat)=>if(k:Int)=l.1 then l.2.2 else 0:=funext fun k=>by
     by_cases z:(k:Int)=l.1
     ·rw[if_pos z,if_pos (.inr ⟨z,q2.symm⟩)]
     ·rw[if_neg z,if_neg (by omega)]
    rw[e2,zgP,if_pos (by omega),if_pos (Or.inr q2)]
   ·have e2:(fun(k:Nat)=>if(p=l.1∧(k:Int)=l.2.1)∨((k:Int)=l.1∧p=l.2.1) then l.2.2 else 0)=fun(_:Nat)=>(0:Int):=funext fun k=>by
     rw[if_neg (by omega)]
    rw[e2,zaW,if_neg (by omega)]
theorem zhI (x y a b:Int):inD (.tuple [.int x,.int y]) (.tuple [.tuple [.int a,.int b],.tuple [.int b,.int a]])=some (.bool ((decide (a=x)&&decide (b=y))||(decide (b=x)&&decide (a=y)))):=by
 show(if(([.tuple [.int a,.int b],.tuple [.int b,.int a]]:List D).all ZQ&&ZQ (.tuple [.int x,.int y]))=true then some (([.tuple [.int a,.int b],.tuple [.int b,.int a]]:List D).any fun z=>ZP z (.tuple [.int x,.int y])) else none).map _=_;rw[if_pos (by simp[wK])];simp only[Ug,CG,ZP,QQ,Uo,Kz,Et];rfl
theorem kA (c a b:Int) (ls:List (Int×Int×Int)) (h:ls.length≤1000):F_law_between [zo c ls,.int a,.int b]=some (.int (qN ls a b)):=by
 unfold F_law_between;refine zC ?_;show xh [some (.val (zo c ls)),vI a,vI b]=_;unfold xh;refine je (zD (zb (ju (zX (qg (zr (x:=zo c ls) rfl zG (wU c ls)) (xa _)) (by simp;omega) (wN (fun d=>!decide ((unlink d).1=(unlink d).2.1)&&((decide (a=(unlink d).1)&&decide (b=(unlink d).2.1))||(decide (b=(unlink d).1)&&decide (a=(unlink d).2.1)))) (fun d=>.int (unlink d).2.2) _ fun d hd => ?_))) zh) (kt ls fun l=>!decide (l.1=l.2.1)&&((decide (a=l.1)&&decide (b=l.2.1))||(decide (b=l.1)&&decide (a=l.2.1)))));obtain⟨l,_,rfl⟩:=Qd.mp hd;refine⟨[vI l.1,vI l.2.1,vI l.2.2,vI a,vI b],rfl,zc5 (jF (zr (x:=.int l.1) rfl (y:=.int l.2.1) rfl (zfZ l.1 l.2.1))) (fun _=>jF (zr (x:=.tuple [.int l.1,.int l.2.1]) rfl (y:=.tuple [.tuple [.int a,.int b],.tuple [.int b,.int a]]) rfl (zhI l.1 l.2.1 a b))),fun _=>rfl⟩
theorem yM (c:Int) (h0:0≤c) (h9:c≤1000) (ls:List (Int×Int×Int)) (h:ls.length≤1000) (hl:∀l∈ls,LkOk c l):F_law_sizes [zo c ls]=some (.list ((zai c ls).map Zm.int)):=by
 have er1:qH [.int (c+1)]=some (zA 0 (c.toNat+1)):=by
  rw[wI (by omega) (by omega)];congr 2;omega
 have er2:qZ [.int 1,.int (c+1)]=some (zA 1 c.toNat):=by
  rw[xY (by decide) (by decide) (by omega) (by omega)];congr 2;omega
 obtain⟨ρ',e,x2,rfl⟩:=jP (h:=hName 2) (gb:=xg) (fun i ρ=>∃x2,ρ=[some (.val (zo c ls)),some (.own (.list (((ZJ i).map fun(k:Nat)=>xZ ls (1+k)).map Zm.int))),x2])
  (zA 1 c.toNat) 0 [some (.val (zo c ls)),some (.own (.list [])),none] ⟨none,rfl⟩ (fun k d ρ hk hZq=>by
   obtain⟨x2,hr⟩:=hZq;obtain⟨hlt,rfl⟩:=qX hk;subst hr;rw[QH];refine⟨[some (.val (zo c ls)),some (.own (.list (((ZJ k).map fun(k:Nat)=>xZ ls (1+k)).map Zm.int))),vI (1+k)],_,rfl,?_,vI (1+k),rfl⟩;have es:((ZJ (k+1)).map fun(k:Nat)=>xZ ls (1+k)).map Zm.int=((ZJ k).map fun(k:Nat)=>xZ ls (1+k)).map Zm.int++[.int (xZ ls (1+k))]:=by
    rw[Uq,Qw,Qw];rfl
   rw[es];unfold xg;refine kl ?_ rfl (by simp;omega);have ec:qv (hName 0) xy (gA (zH 3 F_law_between) (zc (gVar 1) (zc (gVar 2) (zc (gVar 0) gNil)))) (capS 1 [0,2] [some (.val (zo c ls)),some (.own (.list (((ZJ k).map fun(k:Nat)=>xZ ls (1+k)).map Zm.int))),vI (1+k)]) (zA 0 (c.toNat+1))=some ((zA 0 (c.toNat+1)).map fun d=>match d with | .int j=>.int (qN ls (1+k) j) | d=>d) :=
    vL _ _ fun d hd=>by
     obtain⟨j,hj,rfl⟩:=zaf hd;exact⟨[vI (0+j),some (.val (zo c ls)),vI (1+k)],rfl,zD (zb (x:=zo c ls) rfl (zb (x:=.int (1+k)) rfl (zb (x:=.int (0+j)) rfl zh))) (by rw[qT];exact kA c (1+k) (0+j) ls h)⟩
   refine zD (zb (ju (zX (jY (zb (zr (zr (x:=zo c ls) rfl zG (jJ c ls)) zG (zF c 1)) zh) er1) (by rw[zU];omega) ec)) zh) ?_;have ed:(zA 0 (c.toNat+1)).map (fun d=>match d with | .int j=>Zm.int (qN ls (1+k) j) | d=>d)=((ZJ (c.toNat+1)).map fun(j:Nat)=>qN ls (1+k) j).map Zm.int:=by
    unfold zA;rw[Qe,Qe];apply ZZ;intro j _;show Zm.int (qN ls (1+k) (0+j))=Zm.int (qN ls (1+k) j);rw[Wy]
   rw[ed,wc,zaU h0 (1+k) hl])
 unfold F_law_sizes;refine zC ?_;show wA [some (.val (zo c ls)),none,none]=_;unfold wA;rw[zk (ρ':=[some (.val (zo c ls)),some (.own (.list [])),none]) rfl];rw[zk (qb (ds:=zA 1 c.toNat) (jY (zb zG (zb (zr (zr (x:=zo c ls) rfl zG (jJ c ls)) zG (zF c 1)) zh)) er2) e)];rw[zU,QH];rfl
noncomputable abbrev L3:=Int×Int×Int
noncomputable def qR (ks:List Int) (l:L3):List Int:=if l.1∈ks then(if l.2.1∈ks then ks else ks++[l.2.1]) else if l.2.1∈ks then ks++[l.1] else ks
noncomputable def qY (ls:List L3):Nat→List Int→List Int
 | 0,ks=>ks
 | n+1,ks=>qY ls n (ls.foldl qR ks)
theorem zfW:∀(m:Nat) (ks:List Int),(∀i:Nat,i<m→(i:Int)∈ks)→m≤ks.length
 | 0,_,_=>Qp _
 | m+1,ks,h=>by
  have hm:=h m (by omega);have:=zfW m (ks.erase (m:Int)) fun i hi=>(RD (by omega)).mpr (h i (by omega));rw[Wg hm]at this;have:0<ks.length:=Vx hm;omega
structure Rch (c:Int) (ks:List Int):Prop where
 nd:ks.Nodup
 rg:∀k∈ks,0≤k∧k≤c
 z:0∈ks
section
variable {c:Int}{ks:List Int}{l:L3}
theorem Rch.more (h:Rch c ks) {k:Int}(hk:k∉ks) (h0:0≤k) (h1:k≤c):Rch c (ks++[k]):=by
 refine⟨?_,?_,JN _ h.z⟩
 ·rw[YC];refine⟨h.nd,by simp,fun a ha b hb => ?_⟩;rw[Zw.mp hb];rintro rfl;exact hk ha
 ·intro x hx;rcases ZW.mp hx with hx | hx
  ·exact h.rg x hx
  ·rw[Zw.mp hx];exact⟨h0,h1⟩
noncomputable def InL (c:Int) (l:L3):Prop:=0≤l.1∧l.1<l.2.1∧l.2.1≤c
theorem zgL (h:Rch c ks) (hl:InL c l):Rch c (qR ks l):=by
 obtain⟨h1,h2,h3⟩:=hl;unfold qR;split
 ·split
  ·exact h
  ·rename_i q;exact h.more q (by omega) h3
 ·rename_i q;split
  ·exact h.more q h1 (by omega)
  ·exact h
theorem zdE:ks.length≤(qR ks l).length:=by
 unfold qR;split
 ·split <;> simp
 ·split <;> simp
theorem ziF (h:(qR ks l).length=ks.length):qR ks l=ks∧(l.1∈ks↔l.2.1∈ks):=by
 unfold qR at h ⊢
 by_cases p:l.1∈ks <;> by_cases q:l.2.1∈ks <;> simp[p,q]at h ⊢
theorem zaw:∀(ls:List L3) {ks:List Int},Rch c ks→(∀l∈ls,InL c l)→Rch c (ls.foldl qR ks)
 | [],_,h,_=>h
 | l::ls,_,h,hl=>zaw ls (zgL h (hl l Zn)) fun x hx=>hl x (Zq _ hx)
theorem zav:∀(ls:List L3) (ks:List Int),ks.length≤(ls.foldl qR ks).length
 | [],_=>Zg _
 | l::ls,ks=>Zt (zdE (l:=l)) (zav ls (qR ks l))
theorem zfh:∀(ls:List L3) (ks:List Int),(ls.foldl qR ks).length=ks.length→∀l∈ls,(l.1∈ks↔l.2.1∈ks)
 | [],_,_,l,hl=>absurd hl (by simp)
 | m::ls,ks,h,l,hl=>by
  rw[Gn]at h;have a:=zav ls (qR ks m);have b:=zdE (ks:=ks) (l:=m);obtain⟨e,q⟩:=ziF (ks:=ks) (l:=m) (by omega);rcases ZS.mp hl with rfl | hl
  ·exact q
  ·rw[e]at h;exact zfh ls ks h l hl
noncomputable def Conn (c:Int) (ls:List L3):Prop:=∀S:Int→Prop,S 0→(∀l∈ls,S l.1↔S l.2.1)→∀p,0≤p→p≤c→S p
theorem zbJ {ls:List L3}(hc:0≤c) (hl:∀l∈ls,InL c l) (conn:Conn c ls) :
  ∀(n:Nat) (ks:List Int),Rch c ks→((ks.length:Int)+n≤(qY ls n ks).length∨c+1≤(qY ls n ks).length)
 | 0,ks,h=>.inl (by show(ks.length:Int)+0≤ks.length;omega)
 | n+1,ks,h=>by
  have ih:=zbJ hc hl conn n (ls.foldl qR ks) (zaw ls h hl);show((ks.length:Int)+(n+1:Nat)≤(qY ls n (ls.foldl qR ks)).length∨_);have g:=zav ls ks
  by_cases e:(ls.foldl qR ks).length=ks.length
  ·right;have all:=conn (·∈ks) h.z (zfh ls ks e);have m:=zfW (c.toNat+1) ks fun i hi=>all i (by omega) (by omega);have:∀(n:Nat) (ks:List Int),ks.length≤(qY ls n ks).length:=fun n=>by
    induction n with
    | zero=>exact fun ks=>Zg _
    | succ n ih=>exact fun ks=>Zt (zav ls ks) (ih _)
   have t:=this n (ls.foldl qR ks);show c+1≤((qY ls n (ls.foldl qR ks)).length:Int);omega
  ·rcases ih with q | q
   ·left;omega
   ·exact .inr q
theorem zbK {ls:List L3}(hl:∀l∈ls,InL c l):∀(n:Nat) (ks:List Int),Rch c ks→Rch c (qY ls n ks)
 | 0,_,h=>h
 | n+1,ks,h=>zbK hl n _ (zaw ls h hl)
theorem zfi {S:Int→Prop}:∀(ls:List L3) (ks:List Int),(∀l∈ls,S l.1↔S l.2.1)→(∀k∈ks,S k)→∀k∈ls.foldl qR ks,S k
 | [],_,_,h=>h
 | l::ls,ks,hl,h=>zfi ls (qR ks l) (fun x hx=>hl x (Zq _ hx)) (by
  have q:=hl l Zn;intro k hk;unfold qR at hk;split at hk
  ·split at hk
   ·exact h k hk
   ·rcases ZW.mp hk with hk | hk
    ·exact h k hk
    ·rw[Zw.mp hk];exact q.mp (h _ (by assumption))
  ·split at hk
   ·rcases ZW.mp hk with hk | hk
    ·exact h k hk
    ·rw[Zw.mp hk];exact q.mpr (h _ (by assumption))
   ·exact h k hk)
theorem zdt {S:Int→Prop}{ls:List L3}(hl:∀l∈ls,S l.1↔S l.2.1):∀(n:Nat) (ks:List Int),(∀k∈ks,S k)→∀k∈qY ls n ks,S k
 | 0,_,h=>h
 | n+1,ks,h=>zdt hl n _ (zfi ls ks hl h)
theorem rch0 (hc:0≤c):Rch c [0]:=⟨by simp,fun k hk=>by rw[Zw.mp hk];omega,by simp⟩
theorem vZ {n:Nat}{ls:List L3}(hl:∀l∈ls,InL n l):(qY ls n [0]).length=n+1↔Conn n ls:=by
 have r:=zbK hl n [0] (rch0 (by omega));have u:=xV (n+1) (qY ls n [0]) r.nd fun x hx=>by have:=r.rg x hx;omega
 constructor
 ·intro h S h0 hS p p0 p1;refine zdt hS n [0] (fun k hk=>by rw[Zw.mp hk];exact h0) p ?_;apply Ja;intro hp;have:=xV (n+1) (p::qY ls n [0]) (Js.mpr ⟨hp,r.nd⟩) fun x hx=>by
   rcases ZS.mp hx with rfl | hx
   ·omega
   ·have:=r.rg x hx;omega
  rw[Zz]at this;omega
 ·intro h;rcases zbJ (c:=n) (by omega) hl h n [0] (rch0 (by omega)) with q | q
  ·simp only[Jk]at q;omega
  ·omega
end
noncomputable def qk (G:Int→Int) (a b:Int):Int→Int:=fun x=>if G x=G b then G a else G x
noncomputable def grp (r:List L3) (G:Int→Int):Int→Int:=r.foldl (fun G l=>qk G l.1 l.2.1) G
noncomputable def acS:List L3→(Int→Int)→Bool
 | [],_=>true
 | l::r,G=>!decide (G l.1=G l.2.1)&&acS r (qk G l.1 l.2.1)
theorem zhC (r:List L3) (l:L3) (G:Int→Int):grp (r++[l]) G=qk (grp r G) l.1 l.2.1:=by
 unfold grp;rw[Dk];rfl
theorem zcO:∀(r:List L3) (l:L3) (G:Int→Int),acS (r++[l]) G=(acS r G&&!decide (grp r G l.1=grp r G l.2.1))
 | [],l,G=>by
  show(!decide (G l.1=G l.2.1)&&true)=(true&&!decide (G l.1=G l.2.1))
  rw[Et,Uk]
 | m::r,l,G=>by
  show(!decide (G m.1=G m.2.1)&&acS (r++[l]) (qk G m.1 m.2.1))=(!decide (G m.1=G m.2.1)&&acS r (qk G m.1 m.2.1)&&_)
  rw[zcO r l,Bool.and_assoc];rfl
structure GI (n:Int) (G:Int→Int):Prop where
 rg:∀x,0≤x→x≤n→0≤G x∧G x≤n
 idm:∀x,0≤x→x≤n→G (G x)=G x
theorem zfq (n:Int):GI n fun x=>x:=⟨fun _ h0 h1=>⟨h0,h1⟩,fun _ _ _=>rfl⟩
theorem zcf {n:Int}{G:Int→Int}(g:GI n G) {a b:Int}(ha:0≤a∧a≤n) (hb:0≤b∧b≤n):GI n (qk G a b):=by
 constructor
 ·intro x h0 h1;unfold qk;split
  ·exact g.rg a ha.1 ha.2
  ·exact g.rg x h0 h1
 ·intro x h0 h1;have ra:=g.idm a ha.1 ha.2;have rb:=g.idm b hb.1 hb.2;have rx:=g.idm x h0 h1;unfold qk
  by_cases q:G x=G b
  ·simp only[q,if_true];split <;> simp_all
  ·simp only[q,if_false,rx]
theorem zfD {G:Int→Int}{a b:Int}(h:G a=G b):qk G a b=G:=by
 funext x;unfold qk;split
 ·rename_i q;rw[h,q]
 ·rfl
noncomputable def fx (n:Nat) (G:Int→Int):Nat:=((ZJ (n+1)).filter fun(k:Nat)=>decide (G k=k)).length
theorem wO {P:Nat→Bool}{B:Nat}(hB:P B=true):∀l:List Nat,l.Nodup→B∈l→(l.filter fun k=>P k&&!decide (k=B)).length+1=(l.filter P).length
 | [],_,h=>absurd h (by simp)
 | k::l,nd,h=>by
  have nd':=Js.mp nd
  by_cases e:k=B
  ·subst e;have:l.filter (fun j=>P j&&!decide (j=k))=l.filter P:=Vi fun j hj=>by
    have:j≠k:=fun q=>nd'.1 (q▸hj);simp[this]
   simp[JC,hB,this]
  ·have ih:=wO hB l nd'.2 (by
    rcases ZS.mp h with q | q
    ·exact absurd q.symm e
    ·exact q)
   cases hp:P k <;> simp[JC,hp,e] <;> omega
theorem zjR {n:Nat}{G:Int→Int}(g:GI n G) {a b:Int}(ha:0≤a∧a≤n) (hb:0≤b∧b≤n) (h:G a≠G b):fx n (qk G a b)+1=fx n G:=by
 have rb:=g.rg b hb.1 hb.2;obtain⟨B,hB⟩:∃B:Nat,(B:Int)=G b:=⟨(G b).toNat,by omega⟩
 have ib:=g.idm b hb.1 hb.2;have ia:=g.idm a ha.1 ha.2;unfold fx;rw[←wO (P:=fun(k:Nat)=>decide (G k=k)) (B:=B) (by rw[hB,ib];simp) (ZJ (n+1)) DG (by rw[ZR];omega)];congr 2;apply Vi;intro k hk;rw[WF,QM,Wc,decide_eq_true_eq,decide_eq_true_eq,decide_eq_false_iff_not];unfold qk;constructor
 ·intro q;split at q
  ·rename_i e;exfalso;apply h;have:G (k:Int)=G a:=by rw[←q];exact ia
   rw[←this,e]
  ·rename_i e;exact⟨q,fun z=>e (by rw[z,hB,ib])⟩
 ·rintro⟨q1,q2⟩;rw[if_neg fun e=>q2 (by have:(k:Int)=(B:Int):=(by rw[hB,←e,q1]);omega)];exact q1
theorem zi3 {n:Nat}{G:Int→Int}(g:GI n G):1≤fx n G:=by
 have r:=g.rg 0 (by omega) (by omega);have i:=g.idm 0 (by omega) (by omega);unfold fx;refine Vx (a:=(G 0).toNat) (Qk.mpr ⟨by rw[ZR];omega,?_⟩);rw[show(((G 0).toNat:Nat):Int)=G 0 by omega,i];simp
theorem zlq (n:Nat):fx n (fun x=>x)=n+1:=by
 unfold fx;rw[Ym.mpr fun k _=>by simp,JH]
theorem zfp {n:Int}:∀(r:List L3) {G:Int→Int},GI n G→(∀l∈r,InL n l)→GI n (grp r G)
 | [],_,g,_=>g
 | l::r,G,g,h=>by
  have q:=h l Zn;exact zfp r (zcf g ⟨q.1,by have:=q.2.1;have:=q.2.2;omega⟩ ⟨by have:=q.1;have:=q.2.1;omega,q.2.2⟩) fun x hx=>h x (Zq _ hx)
theorem zfk {n:Nat}:∀(r:List L3) {G:Int→Int},GI n G→(∀l∈r,InL n l)→fx n G≤fx n (grp r G)+r.length∧(acS r G=true↔fx n (grp r G)+r.length=fx n G)
 | [],G,g,_=>⟨Zg _,by simp[acS,grp]⟩
 | l::r,G,g,h=>by
  obtain⟨q1,q2,q3⟩:=h l Zn;have g':=zcf g (a:=l.1) (b:=l.2.1) ⟨q1,by omega⟩ ⟨by omega,q3⟩;obtain⟨i1,i2⟩:=zfk r g' fun x hx=>h x (Zq _ hx);show fx n G≤fx n (grp r (qk G l.1 l.2.1))+(r.length+1)∧((!decide (G l.1=G l.2.1)&&acS r (qk G l.1 l.2.1))=true↔fx n (grp r (qk G l.1 l.2.1))+(r.length+1)=fx n G)
  by_cases e:G l.1=G l.2.1
  ·rw[zfD e]at i1 i2 ⊢;refine⟨by omega,?_⟩;rw[decide_eq_true e];simp only[Bool.not_true,Kd,Qq,false_iff];omega
  ·have f:=zjR g (a:=l.1) (b:=l.2.1) ⟨q1,by omega⟩ ⟨by omega,q3⟩ e;refine⟨by omega,?_⟩;rw[decide_eq_false e];simp only[Bool.not_false,Uk];rw[i2];omega
theorem zjx {n:Nat}{r:List L3}(h:∀l∈r,InL n l) (a:acS r (fun x=>x)=true):r.length≤n:=by
 obtain⟨_,q⟩:=zfk r (zfq n) h;have:=q.mp a;rw[zlq]at this;have:=zi3 (zfp r (zfq n) h);omega
theorem zhV {G:Int→Int}{a b x y:Int}(h:G x=G y):qk G a b x=qk G a b y:=by unfold qk;rw[h]
theorem zfQ:∀(r:List L3) (G:Int→Int),(∀l∈r,grp r G l.1=grp r G l.2.1)∧∀x y,G x=G y→grp r G x=grp r G y
 | [],G=>⟨fun l hl=>absurd hl (by simp),fun _ _ h=>h⟩
 | m::r,G=>by
  obtain⟨i1,i2⟩:=zfQ r (qk G m.1 m.2.1);refine⟨fun l hl => ?_,fun x y h=>i2 x y (zhV h)⟩;rcases ZS.mp hl with rfl | hl
  ·refine i2 _ _ ?_;unfold qk;rw[if_pos rfl];split <;> rfl
  ·exact i1 l hl
theorem zeQ {n:Int}{S:Int→Prop}:∀(r:List L3) {G:Int→Int},GI n G→(∀l∈r,InL n l)→(∀l∈r,S l.1↔S l.2.1)→(∀x,0≤x→x≤n→(S x↔S (G x)))→∀x,0≤x→x≤n→(S x↔S (grp r G x))
 | [],_,_,_,_,h=>h
 | l::r,G,g,hin,hl,h=>by
  obtain⟨q1,q2,q3⟩:=hin l Zn;refine zeQ r (zcf g (a:=l.1) (b:=l.2.1) ⟨q1,by omega⟩ ⟨by omega,q3⟩) (fun x hx=>hin x (Zq _ hx)) (fun x hx=>hl x (Zq _ hx)) fun x h0 h1 => ?_;show S x↔S (if G x=G l.2.1 then G l.1 else G x);split
  ·rename_i e;rw[h x h0 h1,e,←h l.2.1 (by omega) q3,←hl l Zn,h l.1 q1 (by omega)]
  ·exact h x h0 h1
theorem zjQ {n:Nat}{r:List L3}(h:∀l∈r,InL n l):fx n (grp r fun x=>x)=1↔Conn n r:=by
 have g:=zfp r (zfq n) h;constructor
 ·intro f S h0 hS p p0 p1;have cl:=zeQ (S:=S) r (zfq n) h hS (fun x _ _=>DX);have mem:∀x,0≤x→x≤(n:Int)→(grp r (fun x=>x) x).toNat∈(ZJ (n+1)).filter fun(k:Nat)=>decide (grp r (fun x=>x) k=k):=fun x x0 x1=>by
   have rx:=g.rg x x0 x1;rw[Qk,ZR];refine⟨by omega,?_⟩;rw[show(((grp r (fun x=>x) x).toNat:Nat):Int)=grp r (fun x=>x) x by omega,g.idm x x0 x1];simp
  obtain⟨z,hz⟩:=TV.mp f;have m0:=mem 0 (by omega) (by omega);have mp:=mem p p0 p1;rw[hz,Zw]at m0 mp;have r0:=g.rg 0 (by omega) (by omega);have rp:=g.rg p p0 p1;have e:grp r (fun x=>x) p=grp r (fun x=>x) 0:=by omega
  rw[cl p p0 p1,e,←cl 0 (by omega) (by omega)];exact h0
 ·intro hc;have all:=hc (fun x=>grp r (fun x=>x) x=grp r (fun x=>x) 0) rfl (fun l hl=>by rw[(zfQ r fun x=>x).1 l hl]);have p:=zi3 g;have:fx n (grp r fun x=>x)≤1:=by
   unfold fx;have key:∀l:List Nat,l.Nodup→(∀k∈l,k≤n)→(l.filter fun(k:Nat)=>decide (grp r (fun x=>x) k=k)).length≤1:=fun l nd hk=>by
    have nd':=nd.filter (fun(k:Nat)=>decide (grp r (fun x=>x) k=k));have one:∀k∈l.filter (fun(k:Nat)=>decide (grp r (fun x=>x) k=k)),(k:Int)=grp r (fun x=>x) 0:=fun k hk'=>by
     obtain⟨a,b⟩:=Qk.mp hk';have:=all k (by omega) (by have:=hk k a;omega);rw[←this];exact(of_decide_eq_true b).symm
    match hL:l.filter (fun(k:Nat)=>decide (grp r (fun x=>x) k=k)) with
    | []=>simp
    | [_]=>simp
    | x::y::t =>
     rw[hL]at nd' one;have a:=one x (by simp);have b:=one y (by simp);have:x=y:=by omega
     exact absurd this (by have:=(Js.mp nd').1;simp at this;exact this.1)
   exact key _ DG fun k hk=>by have:=ZR.mp hk;omega
  omega
theorem ziI {n:Nat}{r:List L3}(h:∀l∈r,InL n l) (hn:r.length=n):acS r (fun x=>x)=decide ((qY r n [0]).length=n+1):=by
 rw[WF,decide_eq_true_eq,vZ h,←zjQ h,(zfk r (zfq n) h).2,zlq];omega
end L2.Y
set_option maxHeartbeats 4000000
namespace L2.Y
open PySem
noncomputable def xC (n:Nat) (rs:List (List L3)) (ls:List L3):List (List L3):=ls.foldl (fun rs l=>rs++(rs.filter fun r=>decide (r.length<n)).map (·++[l])) rs
noncomputable def okJ (l:L3) (r:List L3):Bool:=!decide (grp r (fun x=>x) l.1=grp r (fun x=>x) l.2.1)
noncomputable def yW (rs:List (List L3)) (ls:List L3):List (List L3):=ls.foldl (fun rs l=>rs++(rs.filter (okJ l)).map (·++[l])) rs
noncomputable def acB (r:List L3):Bool:=acS r fun x=>x
theorem wJ {n:Nat}:∀(ls:List L3) (rs:List (List L3)),(∀l∈ls,InL n l)→(∀r∈rs,∀l∈r,InL n l)→yW (rs.filter acB) ls=(xC n rs ls).filter acB
 | [],_,_,_=>rfl
 | l::ls,rs,hl,hr=>by
  have q:=hl l Zn;have ih:=wJ ls (rs++(rs.filter fun r=>decide (r.length<n)).map (·++[l])) (fun x hx=>hl x (Zq _ hx)) (fun r h=>by
   rcases ZW.mp h with h | h
   ·exact hr r h
   ·obtain⟨r',h',rfl⟩:=Qd.mp h;intro x hx;rcases ZW.mp hx with hx | hx
    ·exact hr r' (Qk.mp h').1 x hx
    ·rw[Zw.mp hx];exact q)
  show yW (rs.filter acB++((rs.filter acB).filter (okJ l)).map (·++[l])) ls=(xC n (rs++(rs.filter fun r=>decide (r.length<n)).map (·++[l])) ls).filter acB;rw[←ih];congr 1;rw[Ex];congr 1;rw[Mp,Wu,Wu];congr 1;apply Vi;intro r h;have e:acB (r++[l])=(acB r&&okJ l r):=zcO r l _;show(okJ l r&&acB r)=(acB (r++[l])&&decide (r.length<n))
  rw[e];cases a:acB r <;> cases b:okJ l r <;> simp
  have:=zjx (n:=n) (r:=r++[l]) (fun x hx=>by
   rcases ZW.mp hx with hx | hx
   ·exact hr r h x hx
   ·rw[Zw.mp hx];exact q) (by rw[show acS (r++[l]) (fun x=>x)=acB (r++[l]) from rfl,e,a,b];rfl)
  rw[Zx,Jk]at this;omega
theorem zcx {P:L3→Prop}{n:Nat}:∀(ls:List L3) (rs:List (List L3)),(∀l∈ls,P l)→(∀r∈rs,∀l∈r,P l)→∀r∈xC n rs ls,∀l∈r,P l
 | [],_,_,h=>h
 | l::ls,rs,hl,hr=>zcx ls _ (fun x hx=>hl x (Zq _ hx)) (fun r h=>by
   rcases ZW.mp h with h | h
   ·exact hr r h
   ·obtain⟨r',h',rfl⟩:=Qd.mp h;intro x hx;rcases ZW.mp hx with hx | hx
    ·exact hr r' (Qk.mp h').1 x hx
    ·rw[Zw.mp hx];exact hl l Zn)
theorem zah {n:Nat}:∀(ls:List L3) (rs:List (List L3)),(∀r∈rs,r.length≤n)→∀r∈xC n rs ls,r.length≤n
 | [],_,h=>h
 | l::ls,rs,hr=>zah ls _ (fun r h=>by
   rcases ZW.mp h with h | h
   ·exact hr r h
   ·obtain⟨r',h',rfl⟩:=Qd.mp h;have:=of_decide_eq_true (Qk.mp h').2;rw[Zx,Jk];omega)
theorem zdA {n:Nat}:∀(ls:List L3) (rs:List (List L3)),(xC n rs ls).length≤rs.length*2^ls.length
 | [],rs=>by show rs.length≤rs.length*1;omega
 | l::ls,rs=>by
  have ih:=zdA (n:=n) ls (rs++(rs.filter fun r=>decide (r.length<n)).map (·++[l]));have:(rs++(rs.filter fun r=>decide (r.length<n)).map (·++[l])).length≤2*rs.length:=by
   rw[Zx,Zi];have:=VD (fun r:List L3=>decide (r.length<n)) rs;omega
  have h2:=GZ (2^ls.length) this;rw[Zz,Sw];refine Zt ih (Zt h2 ?_);rw[YK 2 rs.length,Cu,YK 2];exact Zg _
noncomputable def cn (rs:List (List L3)) (k:Nat):Nat:=(rs.filter fun r=>decide (r.length=k)).length
noncomputable def nx (f:Nat→Nat) (k:Nat):Nat:=f k+match k with | 0=>0 | k+1=>f k
noncomputable def itn:Nat→(Nat→Nat)→Nat→Nat
 | 0,f=>f
 | m+1,f=>itn m (nx f)
theorem zjD {n:Nat}{rs:List (List L3)}{f:Nat→Nat}(l:L3) (h:∀k,cn rs k≤f k) (k:Nat):cn (rs++(rs.filter fun r=>decide (r.length<n)).map (·++[l])) k≤nx f k:=by
 unfold cn nx at *;rw[Ex,Zx,Mp,Zi,Wu];have a:=h k;cases k with
 | zero =>
  rw[show(rs.filter fun r=>((fun r:List L3=>decide (r.length=0))∘fun x=>x++[l]) r&&decide (r.length<n))=[] from Wv.mpr fun r _=>by simp];simpa using a
 | succ k =>
  have b:=h k;have c:(rs.filter fun r=>((fun r:List L3=>decide (r.length=k+1))∘fun x=>x++[l]) r&&decide (r.length<n)).length≤(rs.filter fun r=>decide (r.length=k)).length:=by
   rw[←Wz,←Wz];exact Ru fun r _ hr=>by simp at hr ⊢;omega
  show _≤f (k+1)+f k;omega
theorem zeR {n:Nat}:∀(ls:List L3) (rs:List (List L3)) (f:Nat→Nat),(∀k,cn rs k≤f k)→∀k,cn (xC n rs ls) k≤itn ls.length f k
 | [],_,_,h=>h
 | l::ls,rs,f,h=>zeR ls _ (nx f) (zjD l h)
noncomputable def f1 (k:Nat):Nat:=match k with | 0=>1 | _+1=>0
theorem zhv {n:Nat}{ls:List L3}(h1:n≤5) (h2:ls.length≤n+3):cn (xC n [[]] ls) n<64:=by
 have a:=zeR (n:=n) ls [[]] f1 (fun k=>by cases k <;> simp[cn,f1]) n;have b:∀m,m<9→∀n,n<6→m≤n+3→itn m f1 n<64:=by decide +kernel
 have:=b ls.length (by omega) n (by omega) h2;omega
noncomputable def ways (r:List L3):Int:=r.foldl (fun w l=>w*l.2.2) 1
noncomputable def trB (n:Nat) (r:List L3):Bool:=decide (r.length=n)&&decide ((qY r n [0]).length=n+1)
noncomputable def fT (n:Nat) (r:List L3):Int:=if trB n r=true then ways r else 0
noncomputable def subs {α:Type}:List α→List (List α)
 | []=>[[]]
 | l::ls=>subs ls++(subs ls).map (l :: ·)
theorem zaV {α:Type}(p:α→Bool) (g:α→Int):∀l:List α,((l.filter p).map g).sum=(l.map fun x=>if p x=true then g x else 0).sum
 | []=>rfl
 | x::l=>by
  have ih:=zaV p g l;cases h:p x
  ·rw[QC (by rw[h];decide),ih,Zk,Jc,if_neg (by rw[h];decide),Wy]
  ·rw[Qs h,Zk,Jc,ih,Zk,Jc,if_pos h]
theorem sum_rows {n:Nat}(f:List L3→Int):∀(ls:List L3) (rs:List (List L3)),(∀r∈rs,r.length≤n) →
  ((xC n rs ls).map f).sum=(rs.map fun r0=>((subs ls).map fun s=>if r0.length+s.length≤n then f (r0++s) else 0).sum).sum
 | [],rs,h=>by
  show(rs.map f).sum=_;congr 1;apply ZZ;intro r hr;simp[subs,h r hr]
 | l::ls,rs,h=>by
  show((xC n (rs++(rs.filter fun r=>decide (r.length<n)).map (·++[l])) ls).map f).sum=_;rw[sum_rows f ls _ (fun r hr=>by
   rcases ZW.mp hr with hr | hr
   ·exact h r hr
   ·obtain⟨r',h',rfl⟩:=Qd.mp hr;have:=of_decide_eq_true (Qk.mp h').2;rw[Zx,Jk];omega),Qw,VN,Qe,zaV,←zcH]
  congr 1;apply ZZ;intro r hr;rw[subs,Qw,VN];congr 1;rw[Qe];split
  ·show((subs ls).map fun s=>if(r++[l]).length+s.length≤n then f ((r++[l])++s) else 0).sum=_;congr 1;apply ZZ;intro s _;simp only[Ka,Zx,Zz,JQ,QW,List.cons_append,Yr];rw[show r.length+(0+1)+s.length=r.length+(s.length+1) by omega]
  ·rename_i q;have:¬r.length<n:=fun z=>q (decide_eq_true z);rw[show((subs ls).map ((fun s=>if r.length+s.length≤n then f (r++s) else 0)∘fun x=>l::x))=(subs ls).map fun _=>(0:Int) from ZZ fun s _=>if_neg (by simp only[Zz];omega),zaW]
noncomputable def Tp (n:Nat) (pre ls:List L3):Int:=((subs ls).map fun s=>fT n (pre++s)).sum
theorem zgQ (n:Nat) (ls:List L3):((xC n [[]] ls).map (fT n)).sum=Tp n [] ls:=by
 rw[sum_rows (fT n) ls [[]] (by simp)];unfold Tp;simp only[Zk,YD,Jc,Cy,Fb,JQ,QH,Yr];congr 1;apply ZZ;intro s _;split
 ·rfl
 ·rename_i q;unfold fT trB;rw[decide_eq_false (fun z=>q (by omega)),Kd,if_neg (by decide)]
open L2.Sd
noncomputable def vD (n:Nat) (f:Nat→Int):List D:=(ZJ n).map fun k=>.int (f k)
theorem jn (n:Nat) (f:Nat→Int):(vD n f).length=n:=by simp[vD]
theorem jE {n:Nat}{f g:Nat→Int}(h:∀k,k<n→f k=g k):vD n f=vD n g:=by
 unfold vD;exact ZZ fun k hk=>by rw[h k (ZR.mp hk)]
theorem yq {n:Nat}{f:Nat→Int}{k:Nat}(h:k<n):(vD n f)[k]?=some (.int (f k)):=by simp[vD,h]
theorem zcK {n:Nat}{f:Nat→Int}{j:Int}(h0:0≤j) (h:j<n):atI (vD n f) j=some (.int (f j.toNat)):=yz h0 (yq (by omega))
theorem zcL (n:Nat) (f:Nat→Int):vD (n+1) f=.int (f 0)::vD n fun k=>f (k+1):=by
 unfold vD;rw[TQ,Zk,Qe];rfl
theorem zg2 {n:Nat}{f:Nat→Int}{i:Nat}{x:Int}:(vD n f).set i (.int x)=vD n fun k=>if k=i then x else f k:=by
 apply Vt;intro k
 by_cases hk:k<n
 ·rw[yq hk]
  by_cases e:k=i
  ·subst e;rw[YF (by rw[jn];exact hk),if_pos rfl]
  ·rw[Qg (Wf e),yq hk,if_neg e]
 ·rw[Jl (by rw[JP,jn];omega),Jl (by rw[jn];omega)]
theorem zg9:∀(n:Nat) (f g:Nat→Int),zip2 (vD n f) (vD n g)=(ZJ n).map fun k=>.tuple [.int (f k),.int (g k)]
 | 0,_,_=>rfl
 | n+1,f,g=>by
  rw[zcL,zcL,TQ,Zk,Qe];show _::zip2 _ _=_;rw[zg9 n];rfl
theorem zk9 (n:Nat) (f g:Nat→Int):zipT [.tuple (vD n f),.tuple (vD n g)]=some ((ZJ n).map fun k=>.tuple [.int (f k),.int (g k)]):=by
 show some (zip2 _ _)=_;rw[zg9]
theorem xO {h:GT}{ge:Env'→Option D}{ρ:Env'}{m:Nat}(p:Nat→D) (f:Nat→D) (hh:∀k,k<m→∃ρ1,h (p k) ρ=some ρ1∧ge ρ1=some (f k)):qv h xy ge ρ ((ZJ m).map p)=some ((ZJ m).map f):=by
 have key:∀l:List Nat,(∀k∈l,k<m)→qv h xy ge ρ (l.map p)=some (l.map f):=by
  intro l
  induction l with
  | nil=>intro _;rfl
  | cons k l ih =>
   intro hl;obtain⟨ρ1,e1,e2⟩:=hh k (hl k Zn);show(h (p k) ρ).bind _=_;rw[e1,Zd];show(some true).bind _=_;rw[Zd,if_pos rfl,e2,Zd,ih fun j hj=>hl j (Zq _ hj)];rfl
 exact key _ fun k hk=>ZR.mp hk
noncomputable def vE (n:Nat) (s h:Nat→Int):Bool:=(ZJ n).all fun k=>decide (h k<s k)
theorem zb7 {n:Nat}{s h:Nat→Int}:vE n s h=true↔zbV n s h:=by
 unfold vE zbV;rw[BV];exact⟨fun q j hj=>of_decide_eq_true (q j (ZR.mpr hj)),fun q j hj=>decide_eq_true (q j (ZR.mp hj))⟩
theorem za2 (n:Nat) (hn:n≤1000) (h s:Nat→Int):F_all_below [.tuple (vD n h),.tuple (vD n s)]=some (.bool (vE n s h)):=by
 unfold F_all_below;refine zC ?_;show wz [some (.val (.tuple (vD n h))),some (.val (.tuple (vD n s)))]=_;unfold wz;exact je (zD (zb (ju (zX (jY (zb (x:=.tuple (vD n h)) rfl (zb (x:=.tuple (vD n s)) rfl zh)) (zk9 n h s)) (by simp;omega)
  (xO _ (fun k=>.bool (decide (h k<s k))) fun k hk=>⟨[vI (h k),vI (s k)],rfl,zr (x:=.int (h k)) rfl (y:=.int (s k)) rfl (zcj _ _)⟩))) zh) (zhh _ _))
theorem zaN {i:Nat}{gi ge:Env'→Option D}{ρ:Env'}{ds:List D}{d:D}{j:Int}(h1:ge ρ=some d) (h2:gi ρ=some (.int j)) (h3:ρ[i]?=some (some (.own (.list ds)))) (h0:0≤j) (h4:j<ds.length):zeg i gi ge ρ=some (.nxt (ρ.set i (some (.own (.list (ds.set j.toNat d)))))):=by
 unfold zeg ownL ixN;rw[h1,Zd,h2,Zd,h3];simp only[Zd,if_pos h0,if_pos h4]
noncomputable def tieB (ls:List (Int×Int×Int)) (p q:Nat):Int:=qN ls p q
theorem qA {c:Int}{n:Nat}(hc:c=n) {ls:List (Int×Int×Int)}(h:∀l∈ls,LkOk c l) (i:Nat):xZ ls (1+i)=szB n (tieB ls) i:=by
 subst hc;rw[←zaU (by omega) (1+(i:Int)) h];unfold szB sm tieB;rw[show(1+(i:Int))=((i+1:Nat):Int) by omega];rfl
theorem ziP {c:Int}{ls:List (Int×Int×Int)}(h:∀l∈ls,LkOk c l) {i j:Nat}(hij:i≠j):twoI ls (1+i) (1+j)=tieB ls (i+1) (j+1):=by
 rw[ziN h (by omega)];unfold tieB;rw[show(1+(i:Int))=((i+1:Nat):Int) by omega,show(1+(j:Int))=((j+1:Nat):Int) by omega]
theorem step {g h:GS}{ρ:Env'}{r:Out}(P:Env'→Prop) (e:∃ρ',g ρ=some (.nxt ρ')∧P ρ') (k:∀ρ',P ρ'→h ρ'=some r):sSeq g h ρ=some r:=by
 obtain⟨ρ',e1,e2⟩:=e;rw[zk e1];exact k ρ' e2
theorem zfY {ns:List Int}{ρ:Env'}(k:Int) (hk:0≤k) (h:gVar 0 ρ=some (scrD (ns.map Zm.int))):gA (zH 2 F_law_mixed) (zc (gVar 0) (zc (gK (.int k)) gNil)) ρ=some (.int (mixI ns k)) :=
 zD (zb h (zb zG zh)) (by rw[qr];exact zh1 ns k hk)
theorem zgA {c:Env'→Option Bool}{g h:GS}{ρ:Env'}(h1:c ρ=some false):sIf c g h ρ=h ρ:=by rw[zdB h1];rfl
theorem zkP {c:Env'→Option Bool}{g h:GS}{ρ:Env'}(h1:c ρ=some true):sIf c g h ρ=g ρ:=by rw[zdB h1];rfl
end L2.Y
namespace L2.Y
open PySem
theorem zls {c:Env'→Option Bool}{g h:Env'→Option D}{ρ:Env'}{b:Bool}(h1:c ρ=some b):gIf c g h ρ=if b then g ρ else h ρ:=by
 unfold gIf;rw[h1];rfl
theorem vM {α:Type}{h:GT}{gt:Env'→Option Bool}{ge:Env'→Option D}{ρ:Env'}(p:α→D) (q:α→Bool) (f:α→D):∀l:List α,(∀x∈l,∃ρ1,h (p x) ρ=some ρ1∧gt ρ1=some (q x)∧(q x=true→ge ρ1=some (f x)))→qv h gt ge ρ (l.map p)=some ((l.filter q).map f)
 | [],_=>rfl
 | x::l,hh=>by
  obtain⟨ρ1,e1,e2,e3⟩:=hh x Zn;have ih:=vM p q f l fun y hy=>hh y (Zq _ hy);rw[Zk,qv,e1,Zd,e2,Zd];cases hq:q x
  ·rw[if_neg (by decide),ih,QC (by rw[hq];decide)]
  ·rw[if_pos rfl,e3 hq,Zd,ih,Qs hq];rfl
theorem kO {α:Type}{h:GT}{ge:Env'→Option D}{ρ:Env'}(p:α→D) (f:α→D) (l:List α) (hh:∀x∈l,∃ρ1,h (p x) ρ=some ρ1∧ge ρ1=some (f x)):qv h xy ge ρ (l.map p)=some (l.map f):=by
 have:=vM (h:=h) (gt:=xy) (ge:=ge) (ρ:=ρ) p (fun _=>true) f l fun x hx=>by
  obtain⟨ρ1,e1,e2⟩:=hh x hx;exact⟨ρ1,e1,rfl,fun _=>e2⟩
 rw[this,Ym.mpr fun _ _=>rfl]
noncomputable def vG (n:Nat) (G:Int→Int):List D:=(ZJ (n+1)).map fun(k:Nat)=>.int (G k)
theorem zjq (n:Nat) (G:Int→Int):(vG n G).length=n+1:=by simp[vG]
theorem ziQ {n:Nat}{G:Int→Int}{a:Int}(h0:0≤a) (h1:a≤n):ixD (.tuple (vG n G)) (.int a)=some (.int (G a)):=by
 refine yz h0 ?_;unfold vG;rw[Ql,Ef (by omega)];show some (Zm.int (G ((a.toNat:Nat):Int)))=_;rw[show((a.toNat:Nat):Int)=a by omega]
theorem zfE {n:Nat}(hn:n≤1000) {G:Int→Int}{a b:Int}(a0:0≤a) (a1:a≤n) (b0:0≤b) (b1:b≤n):F_joined [.tuple (vG n G),.int a,.int b]=some (.tuple (vG n (qk G a b))):=by
 unfold F_joined;refine zC ?_;show zap [some (.val (.tuple (vG n G))),vI a,vI b]=_;unfold zap;refine je (zD (zb (ju (zX (ds:=vG n G) (qg (x:=.tuple (vG n G)) rfl rfl) (by rw[zjq];omega) (r:=vG n (qk G a b)) ?_)) zh) (jc _));refine kO (fun(k:Nat)=>(.int (G k):D)) (fun(k:Nat)=>(.int (qk G a b k):D)) _ fun k _=>⟨[vI (G k),some (.val (.tuple (vG n G))),vI a,vI b],rfl,?_⟩
 have ec:gBo (g2 eqD (gVar 0) (g2 ixD (gVar 1) (gVar 3))) [vI (G k),some (.val (.tuple (vG n G))),vI a,vI b]=some (decide (G k=G b)) :=
  jF (zr (x:=.int (G k)) rfl (zr (x:=.tuple (vG n G)) rfl (y:=.int b) rfl (ziQ b0 b1)) (vQ _ _))
 rw[zls ec];unfold qk
 by_cases e:G k=G b
 ·rw[decide_eq_true e,if_pos rfl,if_pos e];exact zr (x:=.tuple (vG n G)) rfl (y:=.int a) rfl (ziQ a0 a1)
 ·rw[decide_eq_false e,if_neg (by decide),if_neg e];rfl
noncomputable def idG:Int→Int:=fun x=>x
noncomputable def jr (n:Nat) (r:List L3):D:=.tuple [.tuple (r.map pairD),.int (ways r),.tuple (vG n (grp r idG))]
noncomputable def kH (r:List L3):D:=.tuple [.tuple (r.map pairD),.int (ways r)]
theorem zgK (n:Nat) (r:List L3) (l:L3):jr n (r++[l])=.tuple [.tuple (r.map pairD++[pairD l]),.int (ways r*l.2.2),.tuple (vG n (qk (grp r idG) l.1 l.2.1))]:=by
 unfold jr;rw[zhC,Qw];unfold ways;rw[Dk];rfl
theorem vU {n:Nat}(hn:n≤1000) {l:L3}(hl:LkOk n l) (x0 x1:Option En):∀(as bs:List (List L3)) (x6 x7 x8:Option En),(∀r∈as,r.length≤1000)→bs.length+as.length≤1000000 →
  ∃y6 y7 y8,forF (hTup 3 (zQ (hName 6) (zQ (hName 7) (zQ (hName 8) hNil)))) qS (as.map (jr n)) [x0,x1,vI l.1,vI l.2.1,vI l.2.2,some (.own (.list (bs.map (jr n)))),x6,x7,x8] =
   some (.nxt [x0,x1,vI l.1,vI l.2.1,vI l.2.2,some (.own (.list ((bs++(as.filter (okJ l)).map (·++[l])).map (jr n)))),y6,y7,y8])
 | [],bs,x6,x7,x8,_,_=>⟨x6,x7,x8,by rw[show bs++(([]:List (List L3)).filter (okJ l)).map (·++[l])=bs from Yt bs];rfl⟩
 | r::as,bs,x6,x7,x8,hr,hlen=>by
  obtain⟨q1,q2,q3,q4,q5⟩:=hl;rw[Zz]at hlen;let ρ:Env':=[x0,x1,vI l.1,vI l.2.1,vI l.2.2,some (.own (.list (bs.map (jr n)))),some (.val (.tuple (r.map pairD))),vI (ways r),some (.val (.tuple (vG n (grp r idG))))]
  have et:hTup 3 (zQ (hName 6) (zQ (hName 7) (zQ (hName 8) hNil))) (jr n r) [x0,x1,vI l.1,vI l.2.1,vI l.2.2,some (.own (.list (bs.map (jr n)))),x6,x7,x8]=some ρ:=rfl;have ec:gBo (g2 neD (g2 ixD (gVar 8) (gVar 2)) (g2 ixD (gVar 8) (gVar 3))) ρ=some (okJ l r) :=
   jF (zr (zr (x:=.tuple (vG n (grp r idG))) rfl (y:=.int l.1) rfl (ziQ q1 (by omega))) (zr (x:=.tuple (vG n (grp r idG))) rfl (y:=.int l.2.1) rfl (ziQ (by omega) q3)) (zfZ _ _))
  have lr:=hr r Zn;cases ho:okJ l r with
  | false =>
   rw[ho]at ec;obtain⟨y6,y7,y8,e⟩:=vU hn ⟨q1,q2,q3,q4,q5⟩ x0 x1 as bs (some (.val (.tuple (r.map pairD)))) (vI (ways r)) (some (.val (.tuple (vG n (grp r idG))))) (fun x hx=>hr x (Zq _ hx)) (by omega);refine⟨y6,y7,y8,?_⟩;rw[QC (by rw[ho];decide)];show((hTup 3 (zQ (hName 6) (zQ (hName 7) (zQ (hName 8) hNil))) (jr n r) [x0,x1,vI l.1,vI l.2.1,vI l.2.2,some (.own (.list (bs.map (jr n)))),x6,x7,x8]).bind _)=_;rw[et,Zd,show qS ρ=some (.nxt ρ) by unfold qS;rw[zgA ec];rfl,Zd];exact e
  | true =>
   rw[ho]at ec;obtain⟨y6,y7,y8,e⟩:=vU hn ⟨q1,q2,q3,q4,q5⟩ x0 x1 as (bs++[r++[l]]) (some (.val (.tuple (r.map pairD)))) (vI (ways r)) (some (.val (.tuple (vG n (grp r idG))))) (fun x hx=>hr x (Zq _ hx)) (by rw[Zx,Jk];omega);refine⟨y6,y7,y8,?_⟩;rw[Qs ho];show((hTup 3 (zQ (hName 6) (zQ (hName 7) (zQ (hName 8) hNil))) (jr n r) [x0,x1,vI l.1,vI l.2.1,vI l.2.2,some (.own (.list (bs.map (jr n)))),x6,x7,x8]).bind _)=_;have es:gA tupD (zc (g2 addD (gVar 6) (gA tupD (zc (gA tupD (zc (gVar 2) (zc (gVar 3) gNil))) gNil))) (zc (g2 xB (gVar 7) (gVar 4)) (zc (gA (zH 3 F_joined) (zc (gVar 8) (zc (gVar 2) (zc (gVar 3) gNil)))) gNil))) ρ=some (jr n (r++[l])):=by
    rw[zgK];refine zD (zb (zr (x:=.tuple (r.map pairD)) rfl (zD (zb (zD (zb (x:=.int l.1) rfl (zb (x:=.int l.2.1) rfl zh)) (zaX _ _)) zh) (ziK _)) ?_) (zb (zr (x:=.int (ways r)) rfl (y:=.int l.2.2) rfl (wq (by omega) (by omega))) (zb (zD (zb (x:=.tuple (vG n (grp r idG))) rfl (zb (x:=.int l.1) rfl (zb (x:=.int l.2.1) rfl zh))) (by rw[qT];exact zfE hn q1 (by omega) (by omega) q3)) zh))) (zms _ _ _);show(if(r.map pairD).length+1≤Zu then _ else none)=_;rw[if_pos (show _≤Zu by show _≤16777216;rw[Zi];omega)];rfl
   rw[et,Zd,show qS ρ=some (.nxt [x0,x1,vI l.1,vI l.2.1,vI l.2.2,some (.own (.list ((bs++[r++[l]]).map (jr n)))),some (.val (.tuple (r.map pairD))),vI (ways r),some (.val (.tuple (vG n (grp r idG))))]) by
    unfold qS;rw[zkP ec,kl (ds:=bs.map (jr n)) es rfl (by rw[Zi];omega),Qw];rfl,Zd]
   rw[QW]at e;exact e
theorem zhB {n:Nat}(hn:n≤1000) {l:L3}(hl:LkOk n l) (as:List (List L3)) (hr:∀r∈as,r.length≤1000) (hlen:as.length≤1000000):F_grown [.list (as.map (jr n)),zS l]=some (.list ((as++(as.filter (okJ l)).map (·++[l])).map (jr n))):=by
 obtain⟨y6,y7,y8,e⟩:=vU hn hl (some (.val (.list (as.map (jr n))))) (some (.val (zS l))) as [] none none none hr (by simpa using hlen);unfold F_grown;refine zC ?_;show zb1 [some (.val (.list (as.map (jr n)))),some (.val (zS l)),none,none,none,none,none,none,none]=_;unfold zb1;rw[zk (ρ':=[some (.val (.list (as.map (jr n)))),some (.val (zS l)),vI l.1,vI l.2.1,vI l.2.2,none,none,none,none]) (zT (d:=zS l) rfl rfl),
  zk (ρ':=[some (.val (.list (as.map (jr n)))),some (.val (zS l)),vI l.1,vI l.2.1,vI l.2.2,some (.own (.list (([]:List (List L3)).map (jr n)))),none,none,none]) (zaM (ds:=[]) (xR zh (by simp))),
  zk (qb (ds:=as.map (jr n)) (qg (x:=.list (as.map (jr n))) rfl rfl) e)]
 refine je (zr (x:=.list (as.map (jr n))) rfl (y:=.list (([]++(as.filter (okJ l)).map (·++[l])).map (jr n))) rfl ?_);have:=VD (okJ l) as;show(if(as.map (jr n)).length+(([]++(as.filter (okJ l)).map (·++[l])).map (jr n)).length≤Zu then _ else none)=_;rw[if_pos (show _≤Zu by show _≤16777216;rw[Zi,Zi,Yr,Zi];omega),Yr,←Qw]
theorem zam {n:Nat}(hn:n≤100) (x0 x1 x2:Option En):∀(ls:List L3) (as:List (List L3)) (x4:Option En),(∀l∈ls,LkOk n l)→(∀r∈as,r.length+ls.length≤1000)→as.length*2^ls.length≤1000000 →
  ∃y4,forF (hName 4) xF (ls.map zS) [x0,x1,x2,some (.val (.list (as.map (jr n)))),x4]=some (.nxt [x0,x1,x2,some (.val (.list ((yW as ls).map (jr n)))),y4])
 | [],as,x4,_,_,_=>⟨x4,rfl⟩
 | l::ls,as,x4,hl,hr,hlen=>by
  have hlen2:as.length*2^(ls.length+1)≤1000000:=hlen;rw[Sw]at hlen2;have p1:1≤2^ls.length:=Nat.one_le_two_pow;have a1:as.length≤as.length*(2^ls.length*2):=Nat.le_mul_of_pos_right _ (by omega);have fl:=VD (okJ l) as;obtain⟨y4,e⟩:=zam hn x0 x1 x2 ls (as++(as.filter (okJ l)).map (·++[l])) (some (.val (zS l))) (fun x hx=>hl x (Zq _ hx)) (fun r h=>by
   rcases ZW.mp h with h | h
   ·have:=hr r h;rw[Zz]at this;omega
   ·obtain⟨r',h',rfl⟩:=Qd.mp h;have:=hr r' (Qk.mp h').1;rw[Zz]at this;rw[Zx,Jk];omega) (by
   rw[Zx,Zi];refine Zt (GZ _ (show as.length+(as.filter (okJ l)).length≤as.length*2 by omega)) ?_;rw[Cu,YK 2];exact hlen2)
  refine⟨y4,?_⟩;show(xF [x0,x1,x2,some (.val (.list (as.map (jr n)))),some (.val (zS l))]).bind _=_;rw[show xF [x0,x1,x2,some (.val (.list (as.map (jr n)))),some (.val (zS l))]=some (.nxt [x0,x1,x2,some (.val (.list ((as++(as.filter (okJ l)).map (·++[l])).map (jr n)))),some (.val (zS l))]) by
   unfold xF;exact zT (zD (zb (x:=.list (as.map (jr n))) rfl (zb (x:=zS l) rfl zh)) (by rw[qr];exact zhB (by omega) (hl l Zn) as (fun r h=>by have:=hr r h;omega) (by omega))) rfl,Zd]
  exact e
noncomputable def keyT (r:List L3):List Int:=(r.flatMap fun l=>[l.1,l.2.1])++[ways r]
theorem zdn:∀r:List L3,prsD (r.flatMap fun l=>[l.1,l.2.1])=r.map pairD
 | []=>rfl
 | l::r=>by rw[Dl,Zk,←zdn r];rfl
theorem zeo (r:List L3):qu (keyT r)=kH r:=by
 unfold qu keyT kH;rw[RL,zdn,RJ];rfl
theorem kY:∀r:List L3,(r.map pairD).mapM zh9=some (r.map fun l=>[l.1,l.2.1])
 | []=>rfl
 | l::r=>by rw[Zk,Jh,kY r];rfl
theorem zfg (r:List L3):zau r.length (kH r)=some (keyT r):=by
 unfold kH zau;dsimp only;rw[if_pos (Zi _),kY];show some ((r.map fun l=>[l.1,l.2.1]).flatten++[ways r])=_;rw[←DP];rfl
theorem kZ {n:Nat}:∀rs:List (List L3),(∀r∈rs,r.length=n)→(rs.map kH).mapM (zau n)=some (rs.map keyT)
 | [],_=>rfl
 | r::rs,h=>by
  rw[Zk,Jh,kZ rs fun x hx=>h x (Zq _ hx)];have:=zfg r;rw[h r Zn]at this;rw[this];rfl
noncomputable def srtT (rs:List (List L3)):List D:=(qo (rs.map keyT)).map qu
theorem zbT {n:Nat}{rs:List (List L3)}(h:∀r∈rs,r.length=n) (h64:rs.length<64) (nd:(rs.map keyT).Nodup):zaQ [.list (rs.map kH)]=some (srtT rs):=by
 cases rs with
 | nil=>rfl
 | cons r rs =>
  have e:=kZ (r::rs) h;have el:(r.map pairD).length=n:=by rw[Zi];exact h r Zn
  show ziA (r.map pairD).length ((r::rs).map kH)=_;rw[el];unfold ziA;rw[e,Zd,if_pos ⟨by rw[Zi];exact h64,nd⟩];rfl
theorem zaR (rs:List (List L3)):(srtT rs).Perm (rs.map kH):=by
 have:=(xf (rs.map keyT)).map qu;rw[Qe,show(qu∘keyT)=kH from funext zeo]at this;exact this
theorem ziJ {c:Int}{n:Nat}(ec:c=n) (hn:n≤100) {ls:List L3}(hl:∀l∈ls,LkOk c l) (h7:ls.length≤12) (h64:((yW [[]] ls).filter fun r=>decide (r.length=n)).length<64) (nd:(((yW [[]] ls).filter fun r=>decide (r.length=n)).map keyT).Nodup) (hsh:∀r∈yW [[]] ls,r.length≤1000) (hln:(yW [[]] ls).length≤1000000) :
  F_trees [zo c ls]=some (.tuple (srtT ((yW [[]] ls).filter fun r=>decide (r.length=n)))):=by
 subst ec;have pw:2^ls.length≤2^12:=GX (by omega) h7;obtain⟨y4,e⟩:=zam hn (some (.val (zo n ls))) (vI n) (some (.val (.tuple (ls.map zS)))) ls [[]] none hl (fun r hr=>by rw[Zw.mp hr];simp;omega) (by simp;omega);have rg:qH [.int ((n:Int)+1)]=some (zA 0 (n+1)):=by
  rw[wI (by omega) (by omega)];congr 2
 have er:zA 0 (n+1)=vG n (grp [] idG):=by
  unfold zA vG;apply ZZ;intro k _;show Zm.int (0+(k:Int))=Zm.int (k:Int);rw[Wy]
 unfold F_trees;refine zC ?_;show zb4 [some (.val (zo n ls)),none,none,none,none]=_;unfold zb4;rw[zk (ρ':=[some (.val (zo n ls)),vI n,some (.val (.tuple (ls.map zS))),none,none]) (zT (d:=zo n ls) rfl rfl),
  zk (ρ':=[some (.val (zo n ls)),vI n,some (.val (.tuple (ls.map zS))),some (.val (.list (([[]]:List (List L3)).map (jr n)))),none]) (zT (ju (xR (zb (zD (zb (zD zh rfl) (zb zG (zb (x:=.tuple (vG n (grp [] idG))) (by
   unfold zjT;rw[jY (zb (zr (x:=.int n) rfl zG (zF _ _)) zh) rg,Zd,er,if_pos (show _≤Zu by show _≤16777216;rw[zjq];omega)]) zh))) (zms _ _ _)) zh) (by simp))) rfl),
  zk (qb (ds:=ls.map zS) (qg (x:=.tuple (ls.map zS)) rfl rfl) e)]
 refine je (zD (zb (ju (zce (zb (ju (zX (ds:=(yW [[]] ls).map (jr n)) (qg (x:=.list ((yW [[]] ls).map (jr n))) rfl rfl) (by rw[Zi];omega) (vM (jr n) (fun r=>decide (r.length=n)) kH _ fun r hr=>⟨[some (.val (.tuple (r.map pairD))),vI (ways r),some (.val (.tuple (vG n (grp r idG)))),vI n],rfl,?_,fun _ => ?_⟩))) zh) (zbT (n:=n) (fun r hr=>of_decide_eq_true (Qk.mp hr).2) h64 nd))) zh) (jc _))
 ·have:gBo (g2 eqD (gA lenD (zc (gVar 0) gNil)) (gVar 3)) [some (.val (.tuple (r.map pairD))),vI (ways r),some (.val (.tuple (vG n (grp r idG)))),vI n]=some (decide (((r.map pairD).length:Int)=n)):=jF (zr (zD (zb (x:=.tuple (r.map pairD)) rfl zh) rfl) (y:=.int n) rfl (vQ _ _));have e9:decide ((r.length:Int)=n)=decide (r.length=n):=decide_eq_decide.mpr (by omega);rw[this,Zi,e9]
 ·exact zD (zb (x:=.tuple (r.map pairD)) rfl (zb (x:=.int (ways r)) rfl zh)) (zaX _ _)
theorem zgz {n:Nat}:∀(ls:List L3) (rs:List (List L3)),ls.Nodup→rs.Nodup→(∀r∈rs,∀l∈r,l∉ls)→(xC n rs ls).Nodup
 | [],rs,_,h,_=>h
 | l::ls,rs,hl,hr,hd=>by
  obtain⟨nl,hl'⟩:=Js.mp hl;refine zgz ls _ hl' (YC.mpr ⟨hr,JG.mpr ((hr.filter _).imp fun {a b} h e=>h (List.append_cancel_right e)),fun a ha b hb e => ?_⟩) fun r h x hx => ?_
  ·obtain⟨b',_,rfl⟩:=Qd.mp hb;exact hd a ha l (by rw[e];simp) (.head _)
  ·rcases ZW.mp h with h | h
   ·exact fun z=>hd r h x hx (.tail _ z)
   ·obtain⟨r',h',rfl⟩:=Qd.mp h;rcases ZW.mp hx with hx | hx
    ·exact fun z=>hd r' (Qk.mp h').1 x hx (.tail _ z)
    ·rw[Zw.mp hx];exact nl
theorem zc4 {ls:List L3}(hp:∀a∈ls,∀b∈ls,a.1=b.1→a.2.1=b.2.1→a=b):∀ {r s:List L3},r.length=s.length→(∀l∈r,l∈ls)→(∀l∈s,l∈ls)→∀ {u v:List Int},(r.flatMap fun l=>[l.1,l.2.1])++u=(s.flatMap fun l=>[l.1,l.2.1])++v→r=s
 | [],[],_,_,_,_,_,_=>rfl
 | [],_::_,h,_,_,_,_,_=>by cases h
 | _::_,[],h,_,_,_,_,_=>by cases h
 | a::r,b::s,h,ha,hb,u,v,e=>by
  have e' : a.1::a.2.1::((r.flatMap fun l=>[l.1,l.2.1])++u)=b.1::b.2.1::((s.flatMap fun l=>[l.1,l.2.1])++v):=e;injection e' with e1 e2
  injection e2 with e2 e3
  rw[hp a (ha a (.head _)) b (hb b (.head _)) e1 e2,zc4 hp (by simpa using h) (fun l hl=>ha l (.tail _ hl)) (fun l hl=>hb l (.tail _ hl)) e3]
theorem zjY {n:Nat}{ls:List L3}(ris:ls.Pairwise Ris) (p:List L3→Bool) (hp:∀r,p r=true→r.length=n):(((xC n [[]] ls).filter p).map keyT).Nodup:=by
 have nd:ls.Nodup:=ris.imp fun {a b} h e=>by
  rw[e]at h;unfold Ris at h;omega
 have hin:∀r∈xC n [[]] ls,∀l∈r,l∈ls:=zcx (P:=fun l=>l∈ls) ls [[]] (fun l h=>h) (by simp);have one:∀a∈ls,∀b∈ls,a.1=b.1→a.2.1=b.2.1→a=b:=fun a ha b hb e1 e2=>by
  obtain⟨i,hi,rfl⟩:=Wm ha;obtain⟨j,hj,rfl⟩:=Wm hb;have w:=VG.mp ris;rcases Nat.lt_trichotomy i j with z | z | z
  ·have:=w i j hi hj z;unfold Ris at this;omega
  ·subst z;rfl
  ·have:=w j i hj hi z;unfold Ris at this;omega
 refine JG.mpr (((zgz ls [[]] nd (by simp) (by simp)).filter p).imp_of_mem fun {a b} ha hb h e=>h ?_);obtain⟨a1,a2⟩:=Qk.mp ha;obtain⟨b1,b2⟩:=Qk.mp hb;exact zc4 one (by rw[hp a a2,hp b b2]) (hin a a1) (hin b b1) e
noncomputable def wayI:D→Int
 | .tuple [_,.int w]=>w
 | _=>0
theorem zig {a b:List Int}(h:a.Perm b):a.sum=b.sum:=by
 induction h with
 | nil=>rfl
 | cons x _ ih=>rw[Jc,Jc,ih]
 | swap x y l=>simp only[Jc];omega
 | trans _ _ h1 h2=>rw[h1,h2]
theorem ziR (rs:List (List L3)):((srtT rs).map wayI).sum=(rs.map ways).sum:=by
 rw[zig ((zaR rs).map wayI),Qe];rfl
theorem zeV {ρ:Env'}(X:List D) (h:∀d∈X,∃t w,d=.tuple [t,.int w]):qv (hTup 2 (zQ (hName 0) (zQ (hName 1) hNil))) xy (gVar 1) [none,none] X=some ((X.map wayI).map Zm.int):=by
 have:=kO (h:=hTup 2 (zQ (hName 0) (zQ (hName 1) hNil))) (ge:=gVar 1) (ρ:=[none,none]) (fun d:D=>d) (fun d=>.int (wayI d)) X fun d hd=>by
  obtain⟨t,w,rfl⟩:=h d hd;exact⟨[some (.val t),vI w],rfl,rfl⟩
 rw[Cz]at this;rw[this,Qe];rfl
theorem ziE {rs:List (List L3)}:∀d∈srtT rs,∃t w,d=.tuple [t,.int w]:=fun d hd=>by
 obtain⟨r,_,rfl⟩:=Qd.mp ((zaR rs).mem_iff.mp hd);exact⟨_,_,rfl⟩
theorem zhm {c:Int}{ls:List L3}{rs:List (List L3)}(h:F_trees [zo c ls]=some (.tuple (srtT rs))) (hl:rs.length≤1000):F_count_of [zo c ls]=some (.int ((rs.map ways).sum)):=by
 unfold F_count_of;refine zC ?_;show yu [some (.val (zo c ls))]=_;unfold yu;refine je (zD (zb (ju (zX (ds:=srtT rs) (qg (zD (zb (x:=zo c ls) rfl zh) (by rw[wv];exact h)) rfl) (by rw[(zaR rs).length_eq,Zi];omega) (zeV (ρ:=[]) _ ziE))) zh) ?_);rw[wc,ziR]
end L2.Y
namespace L2.Ct
noncomputable abbrev T3:=Int×Int×Int
noncomputable def subL {α:Type}:List α→List (List α)
 | []=>[[]]
 | x::l=>subL l++(subL l).map (x :: ·)
noncomputable def sumS (f:List T3→Int) (ls:List T3):Int:=((subL ls).map f).sum
theorem jl (f:List T3→Int) (l:T3) (ls:List T3):sumS f (l::ls)=sumS f ls+sumS (fun s=>f (l::s)) ls:=by
 unfold sumS;rw[subL,Qw,VN,Qe];rfl
theorem zan {f g:List T3→Int}:∀ {ls:List T3},(∀s,f s=g s)→sumS f ls=sumS g ls:=fun h=>by
 have:f=g:=funext h;rw[this]
theorem zgN {ls ms:List T3}(p:ls.Perm ms):∀ {f:List T3→Int},(∀s t,DW s t→f s=f t)→sumS f ls=sumS f ms:=by
 induction p with
 | nil=>exact fun _=>rfl
 | cons x p ih =>
  intro f h;rw[jl,jl,ih h,ih fun s t q=>h _ _ (q.cons x)]
 | swap x y l =>
  intro f h;have e1:=jl f y (x::l);have e2:=jl f x l;have e3:=jl (fun s=>f (y::s)) x l;have e4:=jl f x (y::l);have e5:=jl f y l;have e6:=jl (fun s=>f (x::s)) y l;have e7:=zan (f:=fun s=>f (y::x::s)) (g:=fun s=>f (x::y::s)) (ls:=l) fun s=>h _ _ (DW.swap x y s);omega
 | trans p q ih1 ih2=>exact fun h=>(ih1 h).trans (ih2 h)
theorem zaT (m:Int) (f:List T3→Int):∀ls,sumS (fun s=>m*f s) ls=m*sumS f ls
 | []=>by unfold sumS subL;simp
 | l::ls=>by rw[jl,jl,zaT m f ls,zaT m _ ls,Mt]
theorem yn {f:List T3→Int}:∀ {ls:List T3},(∀s,(∀l∈s,l∈ls)→f s=0)→sumS f ls=0
 | [],h=>by unfold sumS subL;simp;exact h [] (by simp)
 | l::ls,h=>by
  rw[jl,yn (ls:=ls) fun s hs=>h s fun x hx=>.tail _ (hs x hx),yn (ls:=ls) fun s hs=>h (l::s) fun x hx=>by
   rcases ZS.mp hx with rfl | hx
   ·exact .head _
   ·exact .tail _ (hs x hx)]
  rfl
noncomputable def wy (s:List T3):Int:=(s.map (·.2.2)).foldr (· * ·) 1
theorem wd (l:T3) (s:List T3):wy (l::s)=l.2.2*wy s:=rfl
theorem zk8 {s t:List T3}(p:s.Perm t):wy s=wy t:=by
 induction p with
 | nil=>rfl
 | cons x _ ih=>rw[wd,wd,ih]
 | swap x y l=>rw[wd,wd,wd,wd,Int.mul_left_comm]
 | trans _ _ a b=>exact a.trans b
noncomputable def Cn (U:List Int) (s:List T3):Prop:=∀S:Int→Prop,(∀p,p∉U→S p)→(∀l∈s,S l.1↔S l.2.1)→∀p∈U,S p
open Classical in
noncomputable def fU (U:List Int) (s:List T3):Int:=if s.length=U.length∧Cn U s then wy s else 0
theorem zjM (U:List Int) {s t:List T3}(p:s.Perm t):fU U s=fU U t:=by
 have c:Cn U s↔Cn U t:=⟨fun h S a b=>h S a fun l hl=>b l (p.mem_iff.mp hl),fun h S a b=>h S a fun l hl=>b l (p.mem_iff.mpr hl)⟩
 unfold fU;rw[p.length_eq,zk8 p]
 by_cases q:Cn U s
 ·rw[show(Cn U s)=(Cn U t) from propext c]
 ·rw[show(Cn U s)=(Cn U t) from propext c]
noncomputable def Out (U:List Int) (l:T3) (v:Int):Prop:=v∈U∧(l.1=v∧l.2.1∉U∨l.2.1=v∧l.1∉U)
theorem zjL {U:List Int}(hU:U.Nodup) {l:T3}{v:Int}(o:Out U l v) (s:List T3):fU U (l::s)=l.2.2*fU (U.erase v) s:=by
 obtain⟨hv,o⟩:=o;have me:∀p,p∈U.erase v↔p≠v∧p∈U:=fun p=>hU.mem_erase_iff;have c:Cn U (l::s)↔Cn (U.erase v) s:=by
  constructor
  ·intro h S a b;have au:∀p,p∉U→S p:=fun p hp=>a p fun z=>hp ((me p).mp z).2;have av:S v:=a v fun z=>((me v).mp z).1 rfl;intro p hp;refine h S au (fun l' hl' => ?_) p ((me p).mp hp).2;rcases ZS.mp hl' with rfl | hl'
   ·rcases o with⟨e,n⟩ | ⟨e,n⟩
    ·rw[e];exact⟨fun _=>au _ n,fun _=>av⟩
    ·rw[e];exact⟨fun _=>av,fun _=>au _ n⟩
   ·exact b l' hl'
  ·intro h S a b p hp;have av:S v:=by
    have:=b l (.head _);rcases o with⟨e,n⟩ | ⟨e,n⟩
    ·rw[e]at this;exact this.mpr (a _ n)
    ·rw[e]at this;exact this.mp (a _ n)
   by_cases e:p=v
   ·exact e▸av
   ·refine h S (fun q hq => ?_) (fun l' hl'=>b l' (.tail _ hl')) p ((me p).mpr ⟨e,hp⟩)
    by_cases e2:q=v
    ·exact e2▸av
    ·exact a q fun z=>hq ((me q).mpr ⟨e2,z⟩)
 have ln:(l::s).length=U.length↔s.length=(U.erase v).length:=by
  rw[Wg hv,Zz];have:=Vx hv;omega
 unfold fU
 by_cases h:s.length=(U.erase v).length∧Cn (U.erase v) s
 ·rw[if_pos h,if_pos ⟨ln.mpr h.1,c.mpr h.2⟩,wd]
 ·rw[if_neg h,if_neg fun z=>h ⟨ln.mp z.1,c.mp z.2⟩,UJ]
open Classical in
noncomputable def tieL (l:T3) (i:Int) (F:Int→Prop):Int:=(if l.1=i∧F l.2.1 then l.2.2 else 0)+(if l.2.1=i∧F l.1 then l.2.2 else 0)
noncomputable def dgL (ls:List T3) (F:Int→Prop) (i:Int):Int:=(ls.map fun l=>tieL l i F).sum
structure RestU (U:List Int) (ls:List T3) (h:Int→Int):Prop where
 out:∀p,p∉U→h p=0
 nn:∀p∈U,0≤h p
 lt:∀p∈U,h p<dgL ls (fun _=>True) p
 last:∀F:Int→Prop,(∃p,p∈U∧F p)→(∀p,F p→p∈U)→∃p,F p∧dgL ls F p≤h p
noncomputable def Card (B:(Int→Int)→Prop) (k:Nat):Prop:=∃L:List (Int→Int),L.Nodup∧(∀h,h∈L↔B h)∧L.length=k
theorem Card.congr {B C:(Int→Int)→Prop}{k:Nat}(e:∀h,B h↔C h) (c:Card B k):Card C k:=by
 obtain⟨L,a,b,d⟩:=c;exact⟨L,a,fun h=>(b h).trans (e h),d⟩
theorem ziH {a b:List Int}(h:a.Perm b):a.sum=b.sum:=by
 induction h with
 | nil=>rfl
 | cons x _ ih=>simp[ih]
 | swap x y l=>simp;omega
 | trans _ _ p q=>exact p.trans q
theorem zcY {ls ms:List T3}(p:ls.Perm ms) (F:Int→Prop) (i:Int):dgL ls F i=dgL ms F i:=ziH (p.map _)
theorem zbP {U:List Int}{ls ms:List T3}(p:ls.Perm ms) {h:Int→Int}(r:RestU U ls h):RestU U ms h :=
 ⟨r.out,r.nn,fun q hq=>by rw[←zcY p];exact r.lt q hq,fun F a b=>by
  obtain⟨q,x,y⟩:=r.last F a b;exact⟨q,x,by rw[←zcY p];exact y⟩⟩
theorem yD {p q:Prop}{dp:Decidable p}{dq:Decidable q}{x y:Int}(h:p↔q):(if p then x else y)=if q then x else y:=by
 by_cases z:p
 ·rw[if_pos z,if_pos (h.mp z)]
 ·rw[if_neg z,if_neg fun w=>z (h.mpr w)]
theorem zkY {l:T3}(hm:0≤l.2.2) (i:Int) (F:Int→Prop):0≤tieL l i F:=by
 unfold tieL;split <;> split <;> omega
theorem ziX:∀ {ls:List T3},(∀l∈ls,0≤l.2.2)→∀(F:Int→Prop) (i:Int),0≤dgL ls F i
 | [],_,_,_=>Ww _
 | l::ls,h,F,i=>by
  have:=ziX (ls:=ls) (fun x hx=>h x (.tail _ hx)) F i;have:=zkY (h l (.head _)) i F;show 0≤tieL l i F+dgL ls F i;omega
theorem zcX:∀ {ls:List T3},(∀l∈ls,0≤l.2.2)→∀ {F G:Int→Prop}(i:Int),(∀p,F p→G p)→dgL ls F i≤dgL ls G i
 | [],_,_,_,_,_=>Ww _
 | l::ls,h,F,G,i,hs=>by
  have a:=zcX (ls:=ls) (fun x hx=>h x (.tail _ hx)) i hs;have m:=h l (.head _);have b:tieL l i F≤tieL l i G:=by
   unfold tieL;have h1:=hs l.1;have h2:=hs l.2.1;refine Int.add_le_add ?_ ?_
   ·by_cases q:l.1=i∧F l.2.1
    ·rw[if_pos q,if_pos ⟨q.1,h2 q.2⟩];exact Ww _
    ·rw[if_neg q];split <;> omega
   ·by_cases q:l.2.1=i∧F l.1
    ·rw[if_pos q,if_pos ⟨q.1,h1 q.2⟩];exact Ww _
    ·rw[if_neg q];split <;> omega
  show tieL l i F+dgL ls F i≤tieL l i G+dgL ls G i;omega
theorem wf (l:T3) (ls:List T3) (F:Int→Prop) (i:Int):dgL (l::ls) F i=tieL l i F+dgL ls F i:=rfl
theorem zk0 {U:List Int}{l:T3}{v:Int}(o:Out U l v) {F:Int→Prop}(hF:∀p,F p→p∈U) {p:Int}(hp:p∈U):tieL l p F=0:=by
 obtain⟨hv,o⟩:=o;unfold tieL;rcases o with⟨e,n⟩ | ⟨e,n⟩
 ·rw[if_neg (c:=l.1=p∧F l.2.1) fun z=>n (hF _ z.2),if_neg (c:=l.2.1=p∧F l.1) fun z=>n (z.1▸hp)];rfl
 ·rw[if_neg (c:=l.1=p∧F l.2.1) fun z=>n (z.1▸hp),if_neg (c:=l.2.1=p∧F l.1) fun z=>n (hF _ z.2)];rfl
theorem zkZ {U:List Int}{l:T3}{v:Int}(o:Out U l v) {F:Int→Prop}(hF:∀p,F p) {p:Int}(hp:p∈U):tieL l p F=if p=v then l.2.2 else 0:=by
 obtain⟨hv,o⟩:=o;unfold tieL;rcases o with⟨e,n⟩ | ⟨e,n⟩
 ·rw[if_neg (c:=l.2.1=p∧F l.1) fun z=>n (z.1▸hp)]
  by_cases q:p=v
  ·rw[if_pos ⟨e.trans q.symm,hF _⟩,if_pos q];omega
  ·rw[if_neg fun z=>q (z.1.symm.trans e),if_neg q];rfl
 ·rw[if_neg (c:=l.1=p∧F l.2.1) fun z=>n (z.1▸hp)]
  by_cases q:p=v
  ·rw[if_pos ⟨e.trans q.symm,hF _⟩,if_pos q];omega
  ·rw[if_neg fun z=>q (z.1.symm.trans e),if_neg q];rfl
noncomputable def putI (h:Int→Int) (v x:Int):Int→Int:=fun p=>if p=v then x else h p
theorem zgw {U:List Int}(hU:U.Nodup) {l:T3}{ls:List T3}{v:Int}(o:Out U l v) (hm:∀x∈l::ls,0≤x.2.2) (h:Int→Int) :
  RestU U (l::ls) h↔RestU U ls h∨(dgL ls (fun _=>True) v≤h v∧h v<dgL ls (fun _=>True) v+l.2.2∧RestU (U.erase v) ls (putI h v 0)):=by
 have hv:=o.1;have hm' : ∀x∈ls,0≤x.2.2:=fun x hx=>hm x (.tail _ hx);have m0:=hm l (.head _);have me:∀p,p∈U.erase v↔p≠v∧p∈U:=fun p=>hU.mem_erase_iff;have sz:∀p∈U,dgL (l::ls) (fun _=>True) p=(if p=v then l.2.2 else 0)+dgL ls (fun _=>True) p:=fun p hp=>by
  rw[wf,zkZ o (F:=fun _=>True) (fun _=>trivial) hp]
 have dgs:∀F:Int→Prop,(∀p,F p→p∈U)→∀p∈U,dgL (l::ls) F p=dgL ls F p:=fun F hF p hp=>by
  rw[wf,zk0 o hF hp,Wy]
 constructor
 ·intro r
  by_cases q:h v<dgL ls (fun _=>True) v
  ·refine .inl ⟨r.out,r.nn,fun p hp => ?_,fun F a b => ?_⟩
   ·have:=r.lt p hp;rw[sz p hp]at this
    by_cases e:p=v
    ·rw[e];exact q
    ·rw[if_neg e]at this;omega
   ·obtain⟨p,x,y⟩:=r.last F a b;exact⟨p,x,by rw[←dgs F b p (b p x)];exact y⟩
  ·refine .inr ⟨by omega,?_,⟨fun p hp => ?_,fun p hp => ?_,fun p hp => ?_,fun F a b => ?_⟩⟩
   ·have:=r.lt v hv;rw[sz v hv,if_pos rfl]at this;omega
   ·unfold putI
    by_cases e:p=v
    ·rw[if_pos e]
    ·rw[if_neg e];exact r.out p fun z=>hp ((me p).mpr ⟨e,z⟩)
   ·obtain⟨e,z⟩:=(me p).mp hp;unfold putI;rw[if_neg e];exact r.nn p z
   ·obtain⟨e,z⟩:=(me p).mp hp;have:=r.lt p z;rw[sz p z,if_neg e]at this;unfold putI;rw[if_neg e];omega
   ·have b' : ∀p,F p→p∈U:=fun p hp=>((me p).mp (b p hp)).2;obtain⟨p,hp,fp⟩:=a;obtain⟨p',x,y⟩:=r.last F ⟨p,((me p).mp hp).2,fp⟩ b';refine⟨p',x,?_⟩;rw[dgs F b' p' (b' p' x)]at y;unfold putI;rw[if_neg ((me p').mp (b p' x)).1];exact y
 ·rintro (r | ⟨h1,h2,r⟩)
  ·refine⟨r.out,r.nn,fun p hp => ?_,fun F a b => ?_⟩
   ·rw[sz p hp];have:=r.lt p hp;split <;> omega
   ·obtain⟨p,x,y⟩:=r.last F a b;exact⟨p,x,by rw[dgs F b p (b p x)];exact y⟩
  ·have v0:=ziX hm' (fun _=>True) v;refine⟨fun p hp => ?_,fun p hp => ?_,fun p hp => ?_,fun F a b => ?_⟩
   ·have:=r.out p fun z=>hp ((me p).mp z).2;unfold putI at this;rw[if_neg fun e:p=v=>hp (e▸hv)]at this;exact this
   ·by_cases e:p=v
    ·rw[e];omega
    ·have:=r.nn p ((me p).mpr ⟨e,hp⟩);unfold putI at this
     rwa [if_neg e]at this
   ·rw[sz p hp]
    by_cases e:p=v
    ·rw[if_pos e,e];omega
    ·have:=r.lt p ((me p).mpr ⟨e,hp⟩);unfold putI at this;rw[if_neg e]at this ⊢;omega
   ·by_cases fv:F v
    ·refine⟨v,fv,?_⟩;rw[dgs F b v hv];exact Gp (zcX hm' v fun _ _=>trivial) h1
    ·obtain⟨p,hp,fp⟩:=a;obtain⟨p',x,y⟩:=r.last F ⟨p,(me p).mpr ⟨fun e=>fv (e▸fp),hp⟩,fp⟩ fun q hq=>(me q).mpr ⟨fun e=>fv (e▸hq),b q hq⟩;refine⟨p',x,?_⟩;rw[dgs F b p' (b p' x)];unfold putI at y
     rwa [if_neg fun e:p'=v=>fv (e▸x)]at y
theorem zeO {U:List Int}(hU:U.Nodup) {l:T3}{ls:List T3}{v:Int}(o:Out U l v) (hm:∀x∈l::ls,0≤x.2.2) {k0 k1:Nat}(c0:Card (RestU U ls) k0) (c1:Card (RestU (U.erase v) ls) k1):Card (RestU U (l::ls)) (k0+l.2.2.toNat*k1):=by
 obtain⟨L0,n0,m0,e0⟩:=c0;obtain⟨L1,n1,m1,e1⟩:=c1;have hv:=o.1;have z1:∀h∈L1,h v=0:=fun h hh=>((m1 h).mp hh).out v fun z=>(hU.mem_erase_iff.mp z).1 rfl;have back:∀h∈L1,∀x,putI (putI h v x) v 0=h:=fun h hh x=>funext fun p=>by
  unfold putI
  by_cases e:p=v
  ·rw[if_pos e,e,z1 h hh]
  ·rw[if_neg e,if_neg e]
 have mw:=hm l (.head _);refine⟨L0++(ZJ l.2.2.toNat).flatMap (fun(j:Nat)=>L1.map fun h=>putI h v (dgL ls (fun _=>True) v+j)),?_,fun h => ?_,?_⟩
 ·refine YC.mpr ⟨n0,?_,fun h hh h' hh' e => ?_⟩
  ·refine Gs.mpr ⟨fun j _=>JG.mpr (n1.imp_of_mem fun {a b} ha hb hab e=>hab ?_),YB.imp ?_⟩
   rotate_left
   ·rw[←back a ha (dgL ls (fun _=>True) v+j),e,back b hb]
   ·intro a b hab x hx y hy e;obtain⟨h1,_,rfl⟩:=Qd.mp hx;obtain⟨h2,_,rfl⟩:=Qd.mp hy;have:=congrFun e v;unfold putI at this;rw[if_pos rfl,if_pos rfl]at this;omega
  ·obtain⟨j,_,q⟩:=KY.mp hh';obtain⟨h1,_,rfl⟩:=Qd.mp q;have:=((m0 h).mp hh).lt v hv;rw[e]at this;unfold putI at this;rw[if_pos rfl]at this;omega
 ·rw[zgw hU o hm,ZW,m0];refine or_congr DX ⟨fun q => ?_,fun⟨a,b,c⟩ => ?_⟩
  ·obtain⟨j,hj,q⟩:=KY.mp q;have hj':=ZR.mp hj;obtain⟨h1,hh,rfl⟩:=Qd.mp q;have ev:putI h1 v (dgL ls (fun _=>True) v+j) v=dgL ls (fun _=>True) v+j:=if_pos rfl;rw[ev,back h1 hh];exact⟨by omega,by omega,(m1 h1).mp hh⟩
  ·refine KY.mpr ⟨(h v-dgL ls (fun _=>True) v).toNat,ZR.mpr (by omega),Qd.mpr ⟨putI h v 0,(m1 _).mpr c,funext fun p => ?_⟩⟩;unfold putI
   by_cases e:p=v
   ·rw[if_pos e,e];omega
   ·rw[if_neg e,if_neg e]
 ·rw[Zx,e0,List.length_flatMap];congr 1;rw[show(fun(j:Nat)=>(L1.map fun h=>putI h v (dgL ls (fun _=>True) v+j)).length)=fun _=>k1 from funext fun j=>by rw[Zi,e1]]
  induction l.2.2.toNat with
  | zero=>simp
  | succ n ih=>rw[Uq,Qw,VN,ih,Sv];simp
theorem zcI:∀(N:Nat) (ls:List T3) (U:List Int),ls.length=N→U.Nodup→(∀l∈ls,0≤l.2.2)→∃k:Nat,Card (RestU U ls) k∧sumS (fU U) ls=k:=by
 intro N
 induction N using MN with
 | _ N ih =>
  intro ls U hl hU hm
  by_cases q:∃l∈ls,∃v,Out U l v
  ·obtain⟨l,hl',v,o⟩:=q;have p:=List.perm_cons_erase hl';have len:(ls.erase l).length<N:=by
    rw[Wg hl'];have:=Vx hl';omega
   have hm' : ∀x∈l::ls.erase l,0≤x.2.2:=fun x hx=>hm x (p.mem_iff.mpr hx);obtain⟨k0,c0,e0⟩:=ih _ len (ls.erase l) U rfl hU fun x hx=>hm' x (.tail _ hx);obtain⟨k1,c1,e1⟩:=ih _ len (ls.erase l) (U.erase v) rfl (hU.erase v) fun x hx=>hm' x (.tail _ hx);refine⟨_,(zeO hU o hm' c0 c1).congr fun h=>⟨zbP p.symm,zbP p⟩,?_⟩;rw[zgN p fun s t=>zjM U,jl,e0,zan (fun s=>zjL hU o s),zaT,e1];have:=hm' l (.head _);rw[Int.natCast_add,Lb,El this]
  ·have no:∀l∈ls,(l.1∈U↔l.2.1∈U):=fun l hl'=>by
    constructor
    ·exact fun a=>Ja fun b=>q ⟨l,hl',l.1,a,.inl ⟨rfl,b⟩⟩
    ·exact fun a=>Ja fun b=>q ⟨l,hl',l.2.1,a,.inr ⟨rfl,b⟩⟩
   cases hu:U with
   | nil =>
    refine⟨1,⟨[fun _=>0],by simp,fun h => ?_,rfl⟩,?_⟩
    ·rw[Zw];constructor
     ·rintro rfl;exact RestU.mk (fun _ _=>rfl) (fun p hp=>absurd hp (by simp)) (fun p hp=>absurd hp (by simp)) (fun F ⟨p,hp,_⟩=>absurd hp (by simp))
     ·intro r;exact funext fun p=>r.out p (by simp)
    ·have:∀ls:List T3,sumS (fU []) ls=1:=fun ls=>by
      induction ls with
      | nil =>
       unfold sumS subL fU;rw[Nu,if_pos ⟨rfl,fun S a b p hp=>by cases hp⟩];rfl
      | cons l ls ih =>
       rw[jl,ih,yn (f:=fun s=>fU [] (l::s)) fun s _=>by
        unfold fU;rw[if_neg fun z=>by cases z.1]]
       rfl
     rw[this];rfl
   | cons u U' =>
    rw[←hu];have hu' : u∈U:=by rw[hu];exact .head _
    refine⟨0,⟨[],Ek.nil,fun h=>⟨fun z=>(by cases z),fun r => ?_⟩,rfl⟩,?_⟩
    ·obtain⟨p,hp,hle⟩:=r.last (fun p=>p∈U) ⟨u,hu',hu'⟩ fun p hp=>hp;have lt:=r.lt p hp;have:∀ms:List T3,(∀l∈ms,(l.1∈U↔l.2.1∈U))→dgL ms (fun _=>True) p=dgL ms (fun p=>p∈U) p:=fun ms=>by
      induction ms with
      | nil=>exact fun _=>rfl
      | cons l ms ih =>
       intro hno;rw[wf,wf,ih fun x hx=>hno x (.tail _ hx)];congr 1;have nl:=hno l (.head _);unfold tieL;have a1:(l.1=p∧True)↔(l.1=p∧l.2.1∈U):=⟨fun z=>⟨z.1,nl.mp (z.1▸hp)⟩,fun z=>⟨z.1,trivial⟩⟩
       have a2:(l.2.1=p∧True)↔(l.2.1=p∧l.1∈U):=⟨fun z=>⟨z.1,nl.mpr (z.1▸hp)⟩,fun z=>⟨z.1,trivial⟩⟩
       exact congr (congrArg HAdd.hAdd (yD a1)) (yD a2)
     rw[this ls no]at lt;omega
    ·rw[yn fun s hs => ?_]
     ·rfl
     ·unfold fU;rw[if_neg];rintro⟨_,c⟩;exact c (fun p=>p∉U) (fun _ z=>z) (fun l hl'=>not_congr (no l (hs l hl'))) u hu' hu'
end L2.Ct
namespace L2.Y
open PySem L2.Sd
structure YOk (c:Int) (n:Nat) (ls:List (Int×Int×Int)):Prop where
 ec:c=n
 en:n≤1000
 lk:∀l∈ls,LkOk c l
 len:ls.length≤1000
 net:Net n (tieB ls)
 sz:∀i,i<n→szB n (tieB ls) i<1073741824
 mb:∀i j,i<n→j<n→-(2^64)<chB n (tieB ls) i j∧chB n (tieB ls) i j<2^64
variable {c:Int}{n:Nat}{ls:List (Int×Int×Int)}
theorem YOk.yd (O:YOk c n ls):Yd n (chB n (tieB ls)) (szB n (tieB ls)):=O.net.yd O.net.size_pos
theorem YOk.sizes (O:YOk c n ls):F_sizes [zo c ls]=some (.tuple (vD n (szB n (tieB ls)))):=by
 have hc:=O.ec;have hn:=O.en;rw[ziy c (by omega) (by omega) ls O.len];congr 2;unfold zai vD;rw[Qe,show c.toNat=n by omega];exact ZZ fun k _=>congrArg Zm.int (qA O.ec O.lk k)
end L2.Y
namespace L2.Y
open PySem L2.Sd
theorem zbY {c:Int}{ls:List (Int×Int×Int)}(h:∀l∈ls,LkOk c l) (p:Int×Int×Int→Bool):0≤((ls.filter p).map (·.2.2)).sum∧((ls.filter p).map (·.2.2)).sum≤4*ls.length:=by
 induction ls with
 | nil=>simp
 | cons l ls ih =>
  obtain⟨a,b⟩:=ih fun x hx=>h x (Zq _ hx);obtain⟨_,_,_,h4,h5⟩:=h l Zn;rw[JC,Zz];split
  ·rw[Zk,Jc];omega
  ·omega
theorem zel {c:Int}{ls:List (Int×Int×Int)}(h:∀l∈ls,LkOk c l) (p:Int×Int×Int→Bool) {l:Int×Int×Int}(hl:l∈ls) (hp:p l=true):1≤((ls.filter p).map (·.2.2)).sum:=by
 induction ls with
 | nil=>cases hl
 | cons x ls ih =>
  obtain⟨a,_⟩:=zbY (fun y hy=>h y (Zq _ hy)) p;obtain⟨_,_,_,h4,_⟩:=h x Zn;rw[JC];rcases ZS.mp hl with e | e
  ·subst e;rw[if_pos hp,Zk,Jc];omega
  ·have:=ih (fun y hy=>h y (Zq _ hy)) e;split
   ·rw[Zk,Jc];omega
   ·omega
theorem zgT (ls:List (Int×Int×Int)) (p q:Nat):tieB ls p q=tieB ls q p:=by
 unfold tieB qN;congr 2;apply Vi;intro l _;rw[Bool.or_comm]
theorem zjn (ls:List (Int×Int×Int)) (p:Nat):tieB ls p p=0:=by
 unfold tieB qN;have:ls.filter (fun l=>!decide (l.1=l.2.1)&&((decide ((p:Int)=l.1)&&decide ((p:Int)=l.2.1))||(decide ((p:Int)=l.1)&&decide ((p:Int)=l.2.1))))=[]:=by
  rw[Wv];intro l _ z;simp only[QM,Ur,Wc,decide_eq_true_eq,decide_eq_false_iff_not]at z;omega
 rw[this];rfl
theorem zmz {c:Int}{n:Nat}{ls:List (Int×Int×Int)}(ec:c=n) (en:n≤1000) (lk:∀l∈ls,LkOk c l) (len:ls.length≤1000) (conn:∀S:Int→Prop,S 0→(∀l∈ls,S l.1↔S l.2.1)→∀p,0≤p→p≤c→S p):YOk c n ls:=by
 have net:Net n (tieB ls):=⟨zgT ls,fun p q=>(zbY lk _).1,zjn ls,fun S h0 hs p hp=>by
  have one:∀l∈ls,1≤tieB ls l.1.toNat l.2.1.toNat:=fun l hl=>by
   obtain⟨h1,h2,h3,h4,h5⟩:=lk l hl;refine zel lk _ hl ?_;simp only[QM,Ur,Wc,decide_eq_true_eq,decide_eq_false_iff_not];omega
  have:=conn (fun x=>S x.toNat) h0 (fun l hl=>by
   obtain⟨h1,h2,h3,h4,h5⟩:=lk l hl;exact⟨hs _ _ (by omega) (by omega) (one l hl),hs _ _ (by omega) (by omega) (by rw[zgT];exact one l hl)⟩) p (by omega) (by omega)
  simpa using this⟩
 have sz:∀i,szB n (tieB ls) i≤4000:=fun i=>by
  rw[←qA ec lk];have:=(zbY lk fun l=>decide (l.1=1+(i:Int))||decide (l.2.1=1+(i:Int))).2;unfold xZ;omega
 refine⟨ec,en,lk,len,net,fun i _ => ?_,fun i j hi hj => ?_⟩
 ·have:=sz i;omega
 ·unfold chB;split
  ·have:=sz i;have:=net.size_pos i hi;omega
  ·have:=zbY lk (fun l=>!decide (l.1=l.2.1)&&((decide (((i+1:Nat):Int)=l.1)&&decide (((j+1:Nat):Int)=l.2.1))||(decide (((j+1:Nat):Int)=l.1)&&decide (((i+1:Nat):Int)=l.2.1))));have e:tieB ls (i+1) (j+1)=((ls.filter fun l=>!decide (l.1=l.2.1)&&((decide (((i+1:Nat):Int)=l.1)&&decide (((j+1:Nat):Int)=l.2.1))||(decide (((j+1:Nat):Int)=l.1)&&decide (((i+1:Nat):Int)=l.2.1)))).map (·.2.2)).sum:=rfl;rw[←e]at this;omega
noncomputable def wC (n:Nat) (d:D) (t:Nat→Int):Prop:=∀k:Int,0≤k→k<n→ixD d (.int k)=some (.int (t k.toNat))
theorem zbZ (n:Nat) (t:Nat→Int):wC n (.tuple (vD n t)) t:=fun k h0 h=>zcK h0 h
theorem yo (n:Nat) (t:Nat→Int):wC n (.list (vD n t)) t:=fun k h0 h=>zcK h0 h
theorem zeT {h:GT}{gt:Env'→Option Bool}{ge:Env'→Option D}{ρ:Env'}{m:Nat}(p:Nat→D) (q:Nat→Bool) (f:Nat→D) (hh:∀k,k<m→∃ρ1,h (p k) ρ=some ρ1∧gt ρ1=some (q k)∧(q k=true→ge ρ1=some (f k))):qv h gt ge ρ ((ZJ m).map p)=some (((ZJ m).filter q).map f):=by
 have key:∀l:List Nat,(∀k∈l,k<m)→qv h gt ge ρ (l.map p)=some ((l.filter q).map f):=by
  intro l
  induction l with
  | nil=>intro _;rfl
  | cons k l ih =>
   intro hl;obtain⟨ρ1,e1,e2,e3⟩:=hh k (hl k Zn);have ih:=ih fun j hj=>hl j (Zq _ hj);show(h (p k) ρ).bind _=_;rw[e1,Zd,e2,Zd];cases z:q k with
   | true=>simp only[if_true];rw[e3 z,Zd,ih,Qs z];rfl
   | false=>simp only[Qq,if_false];rw[ih,QC (by simp[z])]
 exact key _ fun k hk=>ZR.mp hk
noncomputable def pick (n:Nat) (q:Nat→Bool):List D:=((ZJ n).filter q).map fun(k:Nat)=>(.int k:D)
theorem zij {n:Nat}{q:Nat→Bool}{d:D}(h:d∈pick n q):∃k,k<n∧q k=true∧d=.int k:=by
 obtain⟨k,hk,rfl⟩:=Qd.mp h;obtain⟨h1,h2⟩:=Qk.mp hk;exact⟨k,ZR.mp h1,h2,rfl⟩
theorem zcn {n:Nat}{q:Nat→Bool}(h:pick n q=[]):∀k,k<n→q k=false:=fun k hk=>by
 unfold pick at h;have:=RZ.mp h;have:=Wv.mp this k (ZR.mpr hk);simpa using this
theorem zcC (n:Nat) (q:Nat→Bool):ZQ (.list (pick n q))=true:=by
 unfold pick;generalize (ZJ n).filter q=l;have h1:QZ (l.map fun(k:Nat)=>(.int k:D))=true:=by
  induction l with
  | nil=>rfl
  | cons k l ih=>rw[Zk,QZ,ih];rfl
 have h2:Qz (l.map fun(k:Nat)=>(.int k:D))=0:=by
  clear h1
  induction l with
  | nil=>rfl
  | cons k l ih=>rw[Zk,Qz,ih];rfl
 simp[ZQ,QF,Vo,h1,h2]
theorem zeh:ZQ (.list [])=true:=by simp[ZQ,QF,QZ,Vo,Qz]
theorem zjK (ds:List D):ZP (.list ds) (.list [])=ds.isEmpty:=by
 rw[ZP];cases ds <;> rfl
theorem zlH (n:Nat) (q:Nat→Bool):neD (.list (pick n q)) (.list [])=some (.bool (!(pick n q).isEmpty)):=by
 unfold neD;rw[zcC,zeh,zjK];rfl
theorem zfo {n:Nat}{c:Int}(hc:c=n) (hn:n≤1000) {ρ:Env'}{gn:Env'→Option D}{i j:Nat}{x y:D}{h s:Nat→Int}(e0:gn ρ=some (.int c)) (ei:(ρ[i]?).join=some (.val x)) (ej:(ρ[j]?).join=some (.val y)) (hx:wC n x h) (hy:wC n y s) :
  jX 1 [i,j] (gItA qH (zc gn gNil)) (hName 0) (gBo (g2 geD (g2 ixD (gVar 1) (gVar 0)) (g2 ixD (gVar 2) (gVar 0)))) (gVar 0) ρ=some (pick n fun k=>decide (s k≤h k)):=by
 have er:qH [.int c]=some (zA 0 n):=by
  rw[wI (by omega) (by omega)];congr 2;omega
 refine zX (jY (zb e0 zh) er) (by rw[zU];omega) ?_;show qv _ _ _ [none,(ρ[i]?).join,(ρ[j]?).join] _=_;rw[ei,ej];have:zA 0 n=(ZJ n).map fun(k:Nat)=>(.int k:D):=ZZ fun k _=>by rw[Wy]
 rw[this];refine zeT _ _ _ fun k hk=>⟨[vI k,some (.val x),some (.val y)],rfl,?_,fun _=>rfl⟩
 have e1:=hx k (by omega) (by omega);have e2:=hy k (by omega) (by omega);rw[show((k:Int).toNat)=k by omega]at e1 e2;exact jF (zr (zr (x:=x) rfl (y:=.int k) rfl e1) (zr (x:=y) rfl (y:=.int k) rfl e2) (zfn _ _))
theorem zh5 {n p:Nat}{c:Int}(hc:c=n) (hn:n≤1000) {ρ:Env'}{gn:Env'→Option D}{i:Nat}(e0:gn ρ=some (.int c)) (ei:(ρ[i]?).join=some (.val (.int p))) :
  jX 1 [i] (gItA qH (zc gn gNil)) (hName 0) xy (gA intOfD (zc (g2 eqD (gVar 0) (gVar 1)) gNil)) ρ=some (vD n fun k=>if k=p then 1 else 0):=by
 have er:qH [.int c]=some (zA 0 n):=by
  rw[wI (by omega) (by omega)];congr 2;omega
 refine zX (jY (zb e0 zh) er) (by rw[zU];omega) ?_;show qv _ _ _ [none,(ρ[i]?).join] _=_;rw[ei];have:zA 0 n=(ZJ n).map fun(k:Nat)=>(.int k:D):=ZZ fun k _=>by rw[Wy]
 rw[this];refine xO _ _ fun k hk=>⟨[vI k,vI p],rfl,zD (zb (zr (x:=.int k) rfl (y:=.int p) rfl (vQ _ _)) zh) ?_⟩
 show some (Zm.int _)=_
 by_cases e:k=p
 ·subst e;simp
 ·have e' : ¬((k:Int)=p):=by omega
  simp[e,e']
end L2.Y
namespace L2.Y
open PySem
theorem yJ {c:Env'→Option Bool}{gb:GS}(P:Nat→Env'→Prop) (R:Env'→Prop) (step:∀m ρ,P m ρ→(c ρ=some false∧R ρ)∨(c ρ=some true∧∃ρ2 m2,gb ρ=some (.nxt ρ2)∧m2<m∧P m2 ρ2)):∀m ρ,P m ρ→∃ρ',jT c gb (m+1) ρ=some (.nxt ρ')∧R ρ':=by
 intro m
 induction m using MN with
 | _ m ih =>
  intro ρ hp;rcases step m ρ hp with⟨e,r⟩ | ⟨e,ρ2,m2,e2,hm,hp2⟩
  ·refine⟨ρ,?_,r⟩;show(c ρ).bind _=_;rw[e];rfl
  ·have key:∀(k:Nat) ρ3 o,m2+1≤k→jT c gb (m2+1) ρ3=some o→jT c gb k ρ3=some o:=fun k ρ3 o hk q=>by
    have mono:∀(a b:Nat) ρ o,a≤b→jT c gb a ρ=some o→jT c gb b ρ=some o:=by
     intro a
     induction a with
     | zero=>intro b ρ o _ q;cases q
     | succ a ih2 =>
      intro b ρ o hab q;obtain⟨b',rfl⟩:∃b',b=b'+1:=⟨b-1,by omega⟩
      unfold jT at q ⊢;obtain⟨x,q1,q2⟩:=Zb.mp q;rw[q1,Zd];cases x with
      | false=>exact q2
      | true =>
       simp only[if_true]at q2 ⊢;obtain⟨o1,q3,q4⟩:=Zb.mp q2;rw[q3,Zd];cases o1 with
       | nxt ρ4=>exact ih2 b' ρ4 o (by omega) q4
       | cnt ρ4=>exact ih2 b' ρ4 o (by omega) q4
       | brk ρ4=>exact q4
       | ret d=>exact q4
    exact mono _ _ _ _ hk q
   obtain⟨ρ',e3,r⟩:=ih m2 hm ρ2 hp2;refine⟨ρ',?_,r⟩;show(c ρ).bind _=_;rw[e,Zd,if_pos rfl,e2,Zd];exact key m ρ2 _ (by omega) e3
theorem kn {c:Env'→Option Bool}{gb:GS}{n:Nat}{ρ:Env'}{o:Out}(h:jT c gb n ρ=some o):yi c gb ρ=some o:=by
 have mono:∀(a b:Nat) ρ o,a≤b→jT c gb a ρ=some o→jT c gb b ρ=some o:=by
  intro a
  induction a with
  | zero=>intro b ρ o _ q;cases q
  | succ a ih2 =>
   intro b ρ o hab q;obtain⟨b',rfl⟩:∃b',b=b'+1:=⟨b-1,by omega⟩
   unfold jT at q ⊢;obtain⟨x,q1,q2⟩:=Zb.mp q;rw[q1,Zd];cases x with
   | false=>exact q2
   | true =>
    simp only[if_true]at q2 ⊢;obtain⟨o1,q3,q4⟩:=Zb.mp q2;rw[q3,Zd];cases o1 with
    | nxt ρ4=>exact ih2 b' ρ4 o (by omega) q4
    | cnt ρ4=>exact ih2 b' ρ4 o (by omega) q4
    | brk ρ4=>exact q4
    | ret d=>exact q4
 have hx:∃n o,jT c gb n ρ=some o:=⟨n,o,h⟩
 unfold yi;rw[dif_pos hx];have h2:=hx.choose_spec.choose_spec;have h3:=mono _ _ _ _ (Hf n hx.choose) h;have h4:=mono _ _ _ _ (Vz n hx.choose) h2;rw[h3]at h4;exact h4.symm
open L2.Sd
noncomputable def plI (n:Nat) (U:Nat→Bool):List Int:=((ZJ n).filter U).map fun(k:Nat)=>1+(k:Int)
theorem zbG {n:Nat}{U V:Nat→Bool}(h:∀k,k<n→U k=V k):plI n U=plI n V:=by
 unfold plI;rw[Vi fun k hk=>h k (ZR.mp hk)]
theorem zgj {n:Nat}{U:Nat→Bool}(h:plI n U=[]):∀k,k<n→U k=false:=fun k hk=>by
 unfold plI at h;have:=Wv.mp (RZ.mp h) k (ZR.mpr hk);simpa using this
theorem zcv (n:Nat) (U:Nat→Bool):(plI n U).length≤n:=by
 unfold plI;rw[Zi];exact Zt (VD _ _) (by rw[JH];exact Zg _)
theorem zks {n:Nat}{U:Nat→Bool}{p:Int}:p∈plI n U↔∃k,k<n∧U k=true∧p=1+(k:Int):=by
 unfold plI;rw[Qd];constructor
 ·rintro⟨k,hk,rfl⟩;obtain⟨h1,h2⟩:=Qk.mp hk;exact⟨k,ZR.mp h1,h2,rfl⟩
 ·rintro⟨k,h1,h2,rfl⟩;exact⟨k,Qk.mpr ⟨ZR.mpr h1,h2⟩,rfl⟩
theorem zgi {n:Nat}{U:Nat→Bool}{k:Nat}(hk:k<n):(plI n U).contains (1+(k:Int))=U k:=by
 rw[WF,Gu,zks];constructor
 ·rintro⟨j,_,h,e⟩;obtain rfl:j=k:=by omega
  exact h
 ·intro h;exact⟨k,hk,h,rfl⟩
noncomputable def WI (ls:List (Int×Int×Int)) (n:Nat) (U:Nat→Bool) (k:Nat):Int:=((plI n U).map fun q=>twoI ls (1+k) q).sum
noncomputable def CI (ls:List (Int×Int×Int)) (n:Nat) (g:Nat→Int) (U:Nat→Bool) (k:Nat):Bool:=U k&&decide (WI ls n U k≤g k)
noncomputable def NI (ls:List (Int×Int×Int)) (n:Nat) (g:Nat→Int) (U:Nat→Bool) (k:Nat):Bool:=U k&&!CI ls n g U k
noncomputable def UI (ls:List (Int×Int×Int)) (n:Nat) (g:Nat→Int):Nat→Nat→Bool
 | 0=>fun _=>true
 | t+1=>NI ls n g (UI ls n g t)
noncomputable def TI (ls:List (Int×Int×Int)) (n:Nat) (g:Nat→Int) (t:Nat):List Int:=plI n (CI ls n g (UI ls n g t))
variable {ls:List (Int×Int×Int)}{n:Nat}{g:Nat→Int}
theorem zhd {U V:Nat→Bool}(h:∀k,k<n→U k=V k) {k:Nat}(hk:k<n):CI ls n g U k=CI ls n g V k:=by
 unfold CI WI;rw[h k hk,zbG h]
theorem zhg {t:Nat}(h:TI ls n g t=[]):TI ls n g (t+1)=[]:=by
 have h1:=zgj h;rw[←h];unfold TI;refine zbG fun k hk=>zhd (fun j hj => ?_) hk;show NI ls n g (UI ls n g t) j=_;unfold NI;rw[h1 j hj];simp
theorem zeS (l:List Nat) (U C:Nat→Bool) (h:∀k,C k=true→U k=true):(l.filter fun k=>U k&&!C k).length+(l.filter C).length=(l.filter U).length:=by
 induction l with
 | nil=>rfl
 | cons k l ih =>
  cases hu:U k with
  | true =>
   cases hc:C k with
   | true=>simp[JC,hu,hc];omega
   | false=>simp[JC,hu,hc];omega
  | false =>
   have hc:C k=false:=by
    cases hc:C k with
    | true=>rw[h k hc]at hu;cases hu
    | false=>rfl
   simp[JC,hu,hc];omega
theorem zcS (t:Nat):(plI n (UI ls n g (t+1))).length+(TI ls n g t).length=(plI n (UI ls n g t)).length:=by
 unfold TI plI;rw[Zi,Zi,Zi];exact zeS _ _ _ fun k h=>by unfold CI at h;exact(QM _ _▸h).1
theorem zcT:(plI n (UI ls n g 0)).length=n:=by
 unfold plI UI;rw[Zi,Ym.mpr fun _ _=>rfl,JH]
noncomputable def dueI (ls:List (Int×Int×Int)) (n:Nat) (g:Nat→Int) (t:Nat):List (List Int):=((ZJ t).map (TI ls n g)).filter fun l=>!l.isEmpty
theorem va (t:Nat):dueI ls n g (t+1)=dueI ls n g t++if(TI ls n g t).isEmpty then [] else [TI ls n g t]:=by
 unfold dueI;rw[Uq,Qw,Ex];cases h:(TI ls n g t).isEmpty <;> simp[JC,h]
theorem yI {t:Nat}(h:TI ls n g t=[]):∀s,TI ls n g (t+s)=[]
 | 0=>h
 | s+1=>zhg (yI h s)
theorem zc2 {t:Nat}(h:TI ls n g t=[]):∀s,dueI ls n g (t+s)=dueI ls n g t
 | 0=>rfl
 | s+1=>by
  rw[show t+(s+1)=(t+s)+1 by omega,va,yI h s,zc2 h s];simp
theorem ziW {t:Nat}(h:∀s,s<t→TI ls n g s≠[]):(plI n (UI ls n g t)).length+t≤n:=by
 induction t with
 | zero=>rw[zcT];omega
 | succ t ih =>
  have:=ih fun s hs=>h s (by omega);have e:=zcS (ls:=ls) (n:=n) (g:=g) t;have p:0<(TI ls n g t).length:=by
   cases z:TI ls n g t with
   | nil=>exact absurd z (h t (by omega))
   | cons a r=>simp
  omega
theorem zjI (t:Nat):(dueI ls n g t).length≤t:=by
 unfold dueI;exact Zt (VD _ _) (by simp)
theorem zjJ (t:Nat):(plI n (UI ls n g t)).length+((dueI ls n g t).map Gz).sum=n:=by
 induction t with
 | zero=>rw[zcT];rfl
 | succ t ih =>
  have e:=zcS (ls:=ls) (n:=n) (g:=g) t;rw[va,Qw,VN];cases z:(TI ls n g t).isEmpty with
  | true =>
   have:TI ls n g t=[]:=by simpa using z
   rw[this]at e;simp at e ⊢;omega
  | false=>simp;omega
theorem zhD (l:List Int) (p:Int):hasD (.int p) (.list (l.map Zm.int))=some (l.contains p):=by
 have h1:(l.map Zm.int).all ZQ=true:=by
  rw[CJ,BV];exact fun x _=>xb x
 show(if((l.map Zm.int).all ZQ&&ZQ (.int p))=true then some ((l.map Zm.int).any fun y=>ZP y (.int p)) else none)=_;rw[if_pos (by rw[h1,xb];rfl)];congr 1;rw[TY,List.contains_eq_any_beq];rw[WF,Ye,Ye];constructor
 ·rintro⟨x,hx,h⟩;refine⟨x,hx,?_⟩;simp only[Ka,ZP]at h;have:x=p:=by simpa using h
  simpa using this.symm
 ·rintro⟨x,hx,h⟩;refine⟨x,hx,?_⟩;have:p=x:=by simpa using h
  simp only[Ka,ZP];simpa using this.symm
theorem zft (l:List Int) (p:Int):hasD (.int p) (.tuple (l.map Zm.int))=some (l.contains p):=zhD l p
theorem kc (l:List Int) (p:Int):yN (.int p) (.tuple (l.map Zm.int))=some (.bool (!l.contains p)):=by unfold yN;rw[zft];rfl
theorem ziO {c:Int}(h:∀l∈ls,LkOk c l) (a:Int):twoI ls a a=0:=by
 unfold twoI;have:ls.filter (fun l=>decide (l.1=min a a)&&decide (l.2.1=max a a))=[]:=by
  rw[Wv];intro l hl z;obtain⟨_,h2,_⟩:=h l hl;simp only[QM,decide_eq_true_eq]at z;omega
 rw[this];rfl
end L2.Y
namespace L2.Y
open PySem L2.Sd
variable {c:Int}{n:Nat}{ls:List (Int×Int×Int)}
theorem yZ {h:GT}{gt:Env'→Option Bool}{ge:Env'→Option D}{ρ:Env'}(p:Nat→D) (q:Nat→Bool) (f:Nat→D):∀l:List Nat,(∀k∈l,∃ρ1,h (p k) ρ=some ρ1∧gt ρ1=some (q k)∧(q k=true→ge ρ1=some (f k)))→qv h gt ge ρ (l.map p)=some ((l.filter q).map f)
 | [],_=>rfl
 | k::l,hl=>by
  obtain⟨ρ1,e1,e2,e3⟩:=hl k Zn;have ih:=yZ p q f l fun j hj=>hl j (Zq _ hj);show(h (p k) ρ).bind _=_;rw[e1,Zd,e2,Zd];cases z:q k with
  | true=>simp only[if_true];rw[e3 z,Zd,ih,Qs z];rfl
  | false=>simp only[Qq,if_false];rw[ih,QC (by simp[z])]
theorem zeb (n:Nat) (U:Nat→Bool):(plI n U).map Zm.int=((ZJ n).filter U).map fun(k:Nat)=>(.int (1+(k:Int)):D):=by
 unfold plI;rw[Qe];rfl
noncomputable def toB (ls:List (Int×Int×Int)) (p:Int):D→D
 | .int q=>.int (twoI ls p q)
 | d=>d
theorem zgU (hll:ls.length≤1000) (p:Int) (l:List Int) (hl:l.length≤1000):F_ties_to [zo c ls,.int p,.list (l.map Zm.int)]=some (.int ((l.map fun q=>twoI ls p q).sum)):=by
 unfold F_ties_to;refine zC ?_;show vz [some (.val (zo c ls)),vI p,some (.val (.list (l.map Zm.int)))]=_;unfold vz;refine je (zD (zb (ju (zX (qg (x:=.list (l.map Zm.int)) rfl (yj _)) (by rw[Zi];omega) (vL (toB ls p) _ fun d hd => ?_))) zh) ?_)
 ·obtain⟨q,hq,rfl⟩:=Qd.mp hd;exact⟨[vI q,some (.val (zo c ls)),vI p],rfl,zD (zb (x:=zo c ls) rfl (zb (x:=.int p) rfl (zb (x:=.int q) rfl zh))) (by rw[qT];exact zdQ c p q ls hll)⟩
 ·have:(l.map Zm.int).map (toB ls p)=(l.map fun q=>twoI ls p q).map Zm.int:=by
   rw[Qe,Qe];rfl
  rw[this,wc]
theorem vJ (O:YOk c n ls) (g:Nat→Int) (U:Nat→Bool):F_catching [zo c ls,.tuple (vD n g),.list ((plI n U).map Zm.int)]=some (.tuple ((plI n (CI ls n g U)).map Zm.int)):=by
 have hn:=O.en;have hl:=zcv n U;unfold F_catching;refine zC ?_;show yt [some (.val (zo c ls)),some (.val (.tuple (vD n g))),some (.val (.list ((plI n U).map Zm.int)))]=_;unfold yt;have ec:qv (hName 0) (gBo (g2 geD (g2 ixD (gVar 1) (g2 subD (gVar 0) (gK (.int 1)))) (gA (zH 3 F_ties_to) (zc (gVar 2) (zc (gVar 0) (zc (gVar 3) gNil)))))) (gVar 0) [none,some (.val (.tuple (vD n g))),some (.val (zo c ls)),some (.val (.list ((plI n U).map Zm.int)))] ((plI n U).map Zm.int)=some ((plI n (CI ls n g U)).map Zm.int):=by
  have e:=yZ (h:=hName 0) (gt:=gBo (g2 geD (g2 ixD (gVar 1) (g2 subD (gVar 0) (gK (.int 1)))) (gA (zH 3 F_ties_to) (zc (gVar 2) (zc (gVar 0) (zc (gVar 3) gNil)))))) (ge:=gVar 0) (ρ:=[none,some (.val (.tuple (vD n g))),some (.val (zo c ls)),some (.val (.list ((plI n U).map Zm.int)))])
   (fun(k:Nat)=>(.int (1+(k:Int)):D)) (fun k=>decide (WI ls n U k≤g k)) (fun(k:Nat)=>(.int (1+(k:Int)):D)) ((ZJ n).filter U) fun k hk=>by
    have hk':=ZR.mp (Qk.mp hk).1;have eg:ixD (.tuple (vD n g)) (.int (1+k-1))=some (.int (g k)):=by
     have:=zcK (n:=n) (f:=g) (j:=1+k-1) (by omega) (by omega);rw[show((1:Int)+k-1).toNat=k by omega]at this;exact this
    exact⟨[vI (1+k),some (.val (.tuple (vD n g))),some (.val (zo c ls)),some (.val (.list ((plI n U).map Zm.int)))],rfl,jF (zr (zr (x:=.tuple (vD n g)) rfl (zr (x:=.int (1+k)) rfl zG (qB _ _)) eg) (zD (zb (x:=zo c ls) rfl (zb (x:=.int (1+k)) rfl (zb (x:=.list ((plI n U).map Zm.int)) rfl zh))) (by rw[qT];exact zgU O.len (1+k) _ (by omega))) (zfn _ _)),fun _=>rfl⟩
  rw[←zeb,Wu]at e;rw[e,zeb];congr 2;exact Vi fun k _=>by unfold CI;rw[HY]
 exact je (zD (zb (ju (zX (qg (x:=.list ((plI n U).map Zm.int)) rfl (yj _)) (by rw[Zi];omega) ec)) zh) (jc _))
noncomputable def trD (l:List Int):D:=.tuple (l.map Zm.int)
noncomputable def bSt (c:Int) (n:Nat) (ls:List (Int×Int×Int)) (g:Nat→Int) (t:Nat):Env' :=
 [some (.val (zo c ls)),some (.val (.tuple (vD n g))),some (.val (.list ((plI n (UI ls n g t)).map Zm.int))),some (.own (.list ((dueI ls n g t).map trD))),some (.val (trD (TI ls n g t)))]
theorem zeG (O:YOk c n ls) (g:Nat→Int) {t:Nat}(ht:t≤n) (h:TI ls n g t≠[]):yY (bSt c n ls g t)=some (.nxt (bSt c n ls g (t+1))):=by
 have hn:=O.en;have hl:=zcv n (UI ls n g t);have hd:=zjI (ls:=ls) (n:=n) (g:=g) t;unfold yY;have e1:(dueI ls n g t).map trD++[trD (TI ls n g t)]=(dueI ls n g (t+1)).map trD:=by
  rw[va,if_neg (by simpa using h),Qw];rfl
 rw[zk (ρ':=[some (.val (zo c ls)),some (.val (.tuple (vD n g))),some (.val (.list ((plI n (UI ls n g t)).map Zm.int))),some (.own (.list ((dueI ls n g (t+1)).map trD))),some (.val (trD (TI ls n g t)))]) (by
  rw[kl (d:=trD (TI ls n g t)) rfl rfl (by rw[Zi];omega),e1];rfl)]
 have ec:qv (hName 0) (gBo (g2 yN (gVar 0) (gVar 1))) (gVar 0) [none,some (.val (trD (TI ls n g t)))] ((plI n (UI ls n g t)).map Zm.int)=some ((plI n (UI ls n g (t+1))).map Zm.int):=by
  have e:=yZ (h:=hName 0) (gt:=gBo (g2 yN (gVar 0) (gVar 1))) (ge:=gVar 0) (ρ:=[none,some (.val (trD (TI ls n g t)))])
   (fun(k:Nat)=>(.int (1+(k:Int)):D)) (fun k=>!CI ls n g (UI ls n g t) k) (fun(k:Nat)=>(.int (1+(k:Int)):D)) ((ZJ n).filter (UI ls n g t)) fun k hk=>by
    have hk':=ZR.mp (Qk.mp hk).1;refine⟨[vI (1+k),some (.val (trD (TI ls n g t)))],rfl,jF (zr (x:=.int (1+k)) rfl (y:=trD (TI ls n g t)) rfl ?_),fun _=>rfl⟩;show yN _ (.tuple ((TI ls n g t).map Zm.int))=_;rw[kc];unfold TI;rw[zgi hk']
  rw[←zeb,Wu]at e;rw[e,zeb];congr 2;exact Vi fun k _=>by
   show _=NI ls n g (UI ls n g t) k;unfold NI;rw[HY]
 rw[zk (vg (zX (qg (x:=.list ((plI n (UI ls n g t)).map Zm.int)) rfl (yj _)) (by rw[Zi];omega) ec))];exact zT (zD (zb (x:=zo c ls) rfl (zb (x:=.tuple (vD n g)) rfl (zb (x:=.list ((plI n (UI ls n g (t+1))).map Zm.int)) rfl zh))) (by rw[qT];exact vJ O g _)) rfl
theorem zhk (O:YOk c n ls) (g:Nat→Int):F_rests [zo c ls,.tuple (vD n g)]=some (.bool (vE n (szB n (tieB ls)) g)):=by
 unfold F_rests;refine zC ?_;show zb2 [some (.val (zo c ls)),some (.val (.tuple (vD n g)))]=_;unfold zb2;exact je (zD (zb (x:=.tuple (vD n g)) rfl (zb (zD (zb (x:=zo c ls) rfl zh) (by rw[wv];exact O.sizes)) zh)) (by rw[qr];exact za2 n O.en _ _))
theorem zlf (O:YOk c n ls) (g:Nat→Int) (x2 x3 x4:Option En):zfl (gTr (gA (zH 2 F_rests) (zc (gVar 0) (zc (gVar 1) gNil)))) [some (.val (zo c ls)),some (.val (.tuple (vD n g))),x2,x3,x4]=some (!vE n (szB n (tieB ls)) g) :=
 zhy (zlt (zD (zb (x:=zo c ls) rfl (zb (x:=.tuple (vD n g)) rfl zh)) (by rw[qr];exact zhk O g)))
theorem zjA (O:YOk c n ls) (g:Nat→Int) (h:vE n (szB n (tieB ls)) g=true):F_burn [zo c ls,.tuple (vD n g)]=some (.tuple ((dueI ls n g (n+1)).map trD)):=by
 have hn:=O.en;have hc:=O.ec;have er:qZ [.int 1,.int (c+1)]=some (zA 1 n):=by
  rw[xY (by decide) (by decide) (by omega) (by omega)];congr 2;omega
 have e0:zA 1 n=(plI n (UI ls n g 0)).map Zm.int:=by
  rw[zeb];show _=List.map _ (List.filter (fun _=>true) _);rw[Ym.mpr fun _ _=>rfl];rfl
 obtain⟨ρ',e,x2,x4,hr⟩:=yJ (c:=gTr (gVar 4)) (gb:=yY) (fun m ρ=>∃t,m+t=n∧(∀s,s<t→TI ls n g s≠[])∧ρ=bSt c n ls g t)
  (fun ρ=>∃x2 x4,ρ=[some (.val (zo c ls)),some (.val (.tuple (vD n g))),x2,some (.own (.list ((dueI ls n g (n+1)).map trD))),x4])
  (fun m ρ hZq=>by
   obtain⟨t,hm,ht,hr⟩:=hZq;subst hr;have ec:gTr (gVar 4) (bSt c n ls g t)=some (!((TI ls n g t).map Zm.int).isEmpty):=rfl
   by_cases z:TI ls n g t=[]
   ·refine .inl ⟨by rw[ec,z];rfl,some (.val (.list ((plI n (UI ls n g t)).map Zm.int))),some (.val (trD (TI ls n g t))),?_⟩;have:=zc2 z (n+1-t);rw[show t+(n+1-t)=n+1 by omega]at this;rw[this];rfl
   ·have hle:=ziW (ls:=ls) (n:=n) (g:=g) (t:=t+1) fun s hs=>by
     by_cases q:s=t
     ·subst q;exact z
     ·exact ht s (by omega)
    refine .inr ⟨by
     rw[ec];cases q:TI ls n g t with
     | nil=>exact absurd q z
     | cons a r=>rfl,bSt c n ls g (t+1),m-1,zeG O g (by omega) z,by omega,t+1,by omega,fun s hs => ?_,rfl⟩
    by_cases q:s=t
    ·subst q;exact z
    ·exact ht s (by omega))
  n (bSt c n ls g 0) ⟨0,by omega,fun s hs=>absurd hs (MP _),rfl⟩
 subst hr;unfold F_burn;refine zC ?_;show zey [some (.val (zo c ls)),some (.val (.tuple (vD n g))),none,none,none]=_;unfold zey;rw[zk (ρ':=[some (.val (zo c ls)),some (.val (.tuple (vD n g))),none,none,none]) (by rw[zgA (by rw[zlf O g,h];rfl)];rfl)];rw[zk (ρ':=[some (.val (zo c ls)),some (.val (.tuple (vD n g))),some (.val (.list ((plI n (UI ls n g 0)).map Zm.int))),none,none]) (by
  rw[←e0];exact zT (ju (xR (jY (zb zG (zb (zr (zr (x:=zo c ls) rfl zG (jJ c ls)) zG (zF c 1)) zh)) er) (by rw[zU];omega))) rfl)]
 rw[zk (ρ':=[some (.val (zo c ls)),some (.val (.tuple (vD n g))),some (.val (.list ((plI n (UI ls n g 0)).map Zm.int))),some (.own (.list [])),none]) rfl];rw[zk (ρ':=bSt c n ls g 0) (zT (zD (zb (x:=zo c ls) rfl (zb (x:=.tuple (vD n g)) rfl (zb (x:=.list ((plI n (UI ls n g 0)).map Zm.int)) rfl zh))) (by rw[qT];exact vJ O g _)) rfl)];rw[zk (kn e)];exact je (zD (zb (x:=.list ((dueI ls n g (n+1)).map trD)) rfl zh) (jc _))
end L2.Y
namespace L2.Y
open PySem L2.Sd
noncomputable def lnk (t:Nat→Int) (l:Int×Int×Int) (j:Nat):Int :=
 (if(j:Int)+1=l.1 then l.2.2*t (l.2.1-1).toNat-l.2.2*t (l.1-1).toNat else 0)+(if(j:Int)+1=l.2.1 then(if 0<l.1 then l.2.2*t (l.1-1).toNat else 0)-l.2.2*t (l.2.1-1).toNat else 0)
theorem zji {n:Nat}{f:Nat→Int}{i:Int}{x:Int}(h0:0<i):(vD n f).set (i-1).toNat (.int x)=vD n fun k=>if(k:Int)+1=i then x else f k:=by
 rw[zg2];refine jE fun k _ => ?_
 by_cases e:(k:Int)+1=i
 ·rw[if_pos e,if_pos (by omega)]
 ·rw[if_neg e,if_neg (by omega)]
theorem kR {n:Nat}{tD:D}{t:Nat→Int}(T:wC n tD t) (a0 a1 a4 a5:Option En) (f:Nat→Int) {m one other:Int}(hm:1≤m∧m≤4) (h1:one≤n) (h2:other≤n) (h10:0≤one) (h20:0≤other) :
  jH [a0,a1,some (.val tD),some (.own (.list (vD n f))),a4,a5,vI m,vI one,vI other]=some (.nxt [a0,a1,some (.val tD),some (.own (.list (vD n
   (if 0<one then(fun j=>if 0<other∧(j:Int)+1=other then(if(j:Int)+1=one then f j-m*t (one-1).toNat else f j)+m*t (one-1).toNat else(if(j:Int)+1=one then f j-m*t (one-1).toNat else f j)) else f)))),a4,a5,vI m,vI one,vI other]):=by
 unfold jH;have g7:∀x:Option En,gBo (g2 gtD (gVar 7) (gK (.int 0))) [a0,a1,some (.val tD),x,a4,a5,vI m,vI one,vI other]=some (decide (0<one)):=fun x=>jF (zr (x:=.int one) rfl zG (zfs _ _));have g8:∀x:Option En,gBo (g2 gtD (gVar 8) (gK (.int 0))) [a0,a1,some (.val tD),x,a4,a5,vI m,vI one,vI other]=some (decide (0<other)):=fun x=>jF (zr (x:=.int other) rfl zG (zfs _ _));rw[zdB (g7 _)]
 by_cases p:0<one
 ·rw[decide_eq_true p,if_pos rfl,if_pos p];have gm:∀x:Option En,g2 xB (gVar 6) (g2 ixD (gVar 2) (g2 subD (gVar 7) (gK (.int 1)))) [a0,a1,some (.val tD),x,a4,a5,vI m,vI one,vI other]=some (.int (m*t (one-1).toNat)):=fun x =>
   zr (x:=.int m) rfl (zr (x:=tD) rfl (zr (x:=.int one) rfl zG (qB _ _)) (T _ (by omega) (by omega))) (xX (by omega) (by omega))
  have v1:∀F:Nat→Int,ixD (.list (vD n F)) (.int (one-1))=some (.int (F (one-1).toNat)):=fun F=>zcK (by omega) (by omega);rw[zk (ρ':=[a0,a1,some (.val tD),some (.own (.list (vD n fun j=>if(j:Int)+1=one then f j-m*t (one-1).toNat else f j))),a4,a5,vI m,vI one,vI other]) (by
   rw[zaN (j:=one-1) (ds:=vD n f) (zr (zr (x:=.list (vD n f)) rfl (zr (x:=.int one) rfl zG (qB _ _)) (v1 f)) (gm _) (qB _ _)) (zr (x:=.int one) rfl zG (qB _ _)) rfl (by omega) (by rw[jn];omega),zji p];have e:(vD n fun k=>if(k:Int)+1=one then f (one-1).toNat-m*t (one-1).toNat else f k)=vD n fun j=>if(j:Int)+1=one then f j-m*t (one-1).toNat else f j:=jE fun k _=>by
    by_cases q:(k:Int)+1=one
    ·rw[if_pos q,if_pos q,show(one-1).toNat=k by omega]
    ·rw[if_neg q,if_neg q]
   rw[e];rfl)]
  rw[zdB (g8 _)];generalize hF:(fun(j:Nat)=>if(j:Int)+1=one then f j-m*t (one-1).toNat else f j)=F;have hF' : ∀j:Nat,(if(j:Int)+1=one then f j-m*t (one-1).toNat else f j)=F j:=fun j=>congrFun hF j
  by_cases q:0<other
  ·rw[decide_eq_true q,if_pos rfl];have v2:ixD (.list (vD n F)) (.int (other-1))=some (.int (F (other-1).toNat)):=zcK (by omega) (by omega);rw[zaN (j:=other-1) (ds:=vD n F) (zr (zr (x:=.list (vD n F)) rfl (zr (x:=.int other) rfl zG (qB _ _)) v2) (gm _) (zF _ _)) (zr (x:=.int other) rfl zG (qB _ _)) rfl (by omega) (by rw[jn];omega),zji q];have e:(vD n fun k=>if(k:Int)+1=other then F (other-1).toNat+m*t (one-1).toNat else F k)=vD n fun j=>if 0<other∧(j:Int)+1=other then(if(j:Int)+1=one then f j-m*t (one-1).toNat else f j)+m*t (one-1).toNat else(if(j:Int)+1=one then f j-m*t (one-1).toNat else f j):=jE fun k _=>by
    rw[hF']
    by_cases z:(k:Int)+1=other
    ·rw[if_pos z,if_pos ⟨q,z⟩,show(other-1).toNat=k by omega]
    ·rw[if_neg z,if_neg fun y=>z y.2]
   rw[e];rfl
  ·rw[decide_eq_false q,if_neg (by decide)];have e:vD n F=vD n fun j=>if 0<other∧(j:Int)+1=other then(if(j:Int)+1=one then f j-m*t (one-1).toNat else f j)+m*t (one-1).toNat else(if(j:Int)+1=one then f j-m*t (one-1).toNat else f j):=jE fun k _=>by
    rw[hF',if_neg fun y=>q y.1]
   rw[e];rfl
 ·rw[decide_eq_false p,if_neg (by decide),if_neg p];rfl
theorem zcc {c:Int}{n:Nat}(hc:c=n) {tD:D}{t:Nat→Int}(T:wC n tD t) (a0 a1:Option En) (f:Nat→Int) {l:Int×Int×Int}(hl:LkOk c l) (x7 x8:Option En):∃y7 y8,
  qc [a0,a1,some (.val tD),some (.own (.list (vD n f))),vI l.1,vI l.2.1,vI l.2.2,x7,x8]=some (.nxt [a0,a1,some (.val tD),some (.own (.list (vD n fun j=>f j+lnk t l j))),vI l.1,vI l.2.1,vI l.2.2,y7,y8]):=by
 obtain⟨a,b,m⟩:=l;obtain⟨h1,h2,h3,h4,h5⟩:=hl;simp only at h1 h2 h3 h4 h5;refine⟨vI b,vI a,?_⟩;unfold qc;refine qb (ds:=[.tuple [.int a,.int b],.tuple [.int b,.int a]]) (qg (zD (zb (zD (zb (x:=.int a) rfl (zb (x:=.int b) rfl zh)) (zaX _ _)) (zb (zD (zb (x:=.int b) rfl (zb (x:=.int a) rfl zh)) (zaX _ _)) zh)) (zaX _ _)) (xa _)) ?_;show(jH [a0,a1,some (.val tD),some (.own (.list (vD n f))),vI a,vI b,vI m,vI a,vI b]).bind _=_;rw[kR T a0 a1 (vI a) (vI b) f ⟨h4,h5⟩ (by omega) (by omega) (by omega) (by omega),Zd];generalize hF:(if 0<a then(fun(j:Nat)=>if 0<b∧(j:Int)+1=b then(if(j:Int)+1=a then f j-m*t (a-1).toNat else f j)+m*t (a-1).toNat else(if(j:Int)+1=a then f j-m*t (a-1).toNat else f j)) else f)=F;show(jH [a0,a1,some (.val tD),some (.own (.list (vD n F))),vI a,vI b,vI m,vI b,vI a]).bind _=_;rw[kR T a0 a1 (vI a) (vI b) F ⟨h4,h5⟩ (by omega) (by omega) (by omega) (by omega),Zd,if_pos (show 0<b by omega)];have e:(vD n fun(j:Nat)=>if 0<a∧(j:Int)+1=a then(if(j:Int)+1=b then F j-m*t (b-1).toNat else F j)+m*t (b-1).toNat else(if(j:Int)+1=b then F j-m*t (b-1).toNat else F j))=vD n fun j=>f j+lnk t (a,b,m) j:=jE fun j _=>by
  unfold lnk;simp only;rw[←hF]
  by_cases p:0<a
  ·simp only[p,if_true,true_and,show 0<b by omega]
   by_cases q1:(j:Int)+1=a
   ·have q2:¬((j:Int)+1=b):=by omega
    simp only[q1,q2,if_true,if_false];rw[if_neg (show ¬(a=b) by omega),if_neg (show ¬(a=b) by omega)];rw[if_neg (show ¬(a=b) by omega)];omega
   ·by_cases q2:(j:Int)+1=b
    ·simp only[q2,if_true];rw[if_neg (show ¬(b=a) by omega),if_neg (show ¬(b=a) by omega),if_neg (show ¬(b=a) by omega)];omega
    ·simp only[q1,q2,if_false];omega
  ·have ha:a=0:=by omega
   simp only[p,if_false,false_and]
   by_cases q2:(j:Int)+1=b
   ·rw[if_pos q2,if_pos q2,if_neg (by omega)];omega
   ·rw[if_neg q2,if_neg q2,if_neg (by omega)];omega
 rw[e];rfl
theorem kq (n i:Nat) (c:Int):sm n (fun k=>if k=i then c else 0)=if i<n then c else 0:=by
 induction n with
 | zero=>rfl
 | succ n ih =>
  rw[jz,ih]
  by_cases e:n=i
  ·subst e;rw[if_neg (by omega),if_pos rfl,if_pos (by omega)];omega
  ·rw[if_neg e]
   by_cases h:i<n
   ·rw[if_pos h,if_pos (by omega)];omega
   ·rw[if_neg h,if_neg (by omega)];rfl
theorem zjC {c:Int}{n:Nat}(hc:c=n) {l:Int×Int×Int}{ls:List (Int×Int×Int)}(h:∀x∈l::ls,LkOk c x) (k j:Nat):chB n (tieB (l::ls)) k j=chB n (tieB ls) k j+if k=j then -(if l.1=1+(k:Int)∨l.2.1=1+(k:Int) then l.2.2 else 0) else if((k:Int)+1=l.1∧(j:Int)+1=l.2.1)∨((j:Int)+1=l.1∧(k:Int)+1=l.2.1) then l.2.2 else 0:=by
 obtain⟨_,h2,_⟩:=h l Zn;unfold chB
 by_cases e:k=j
 ·rw[if_pos e,if_pos e,if_pos e,←qA hc h,←qA hc fun x hx=>h x (Zq _ hx),ko];omega
 ·rw[if_neg e,if_neg e,if_neg e];unfold tieB;rw[vF _ _ _ _ h2];rw[show(((k+1:Nat):Int))=(k:Int)+1 by omega,show(((j+1:Nat):Int))=(j:Int)+1 by omega];omega
theorem zfR {c:Int}{n:Nat}(hc:c=n) (t:Nat→Int) {j:Nat}(hj:j<n):∀ {ls:List (Int×Int×Int)},(∀l∈ls,LkOk c l)→(ls.map fun l=>lnk t l j).sum=sm n fun k=>t k*chB n (tieB ls) k j
 | [],_=>by
  have:∀k,t k*chB n (tieB []) k j=0:=fun k=>by
   have z:chB n (tieB []) k j=0:=by
    unfold chB szB;have e:sm (n+1) (tieB [] (k+1))=0:=by
     have:(tieB [] (k+1))=fun _=>(0:Int):=rfl;rw[this];have:=xc (n+1) 0 fun _=>(0:Int)
     simpa using this
    rw[e];split <;> rfl
   rw[z,UJ]
  rw[zO fun k _=>this k];have:=xc n 0 fun _=>(0:Int)
  simpa using this.symm
 | l::ls,h=>by
  have ih:=zfR hc t hj (ls:=ls) fun x hx=>h x (Zq _ hx);obtain⟨h1,h2,h3,h4,h5⟩:=h l Zn;rw[Zk,Jc,ih];have e:(fun k=>t k*chB n (tieB (l::ls)) k j)=fun k=>t k*chB n (tieB ls) k j+((if k=j then(if l.1=1+(j:Int)∨l.2.1=1+(j:Int) then -(l.2.2*t j) else 0) else 0)+((if k=(l.2.1-1).toNat then(if(j:Int)+1=l.1 then l.2.2*t (l.2.1-1).toNat else 0) else 0)+if k=(l.1-1).toNat then(if 0<l.1∧(j:Int)+1=l.2.1 then l.2.2*t (l.1-1).toNat else 0) else 0)):=funext fun k=>by
   rw[zjC hc h,Mt];congr 1
   by_cases q:k=j
   ·subst q;rw[if_pos rfl,if_pos rfl];have z1:(if k=(l.2.1-1).toNat then(if(k:Int)+1=l.1 then l.2.2*t (l.2.1-1).toNat else 0) else 0)=0:=by
     split
     ·rw[if_neg (by omega)]
     ·rfl
    have z2:(if k=(l.1-1).toNat then(if 0<l.1∧(k:Int)+1=l.2.1 then l.2.2*t (l.1-1).toNat else 0) else 0)=0:=by
     split
     ·rw[if_neg (by omega)]
     ·rfl
    rw[z1,z2];split
    ·rw[Ms,Yk];omega
    ·rw[Int.neg_zero,UJ];rfl
   ·rw[if_neg q,if_neg q]
    by_cases p1:(j:Int)+1=l.1
    ·by_cases p2:k=(l.2.1-1).toNat
     ·rw[if_pos p2,if_pos p1,if_pos (.inr ⟨p1,by omega⟩)];have z2:(if k=(l.1-1).toNat then(if 0<l.1∧(j:Int)+1=l.2.1 then l.2.2*t (l.1-1).toNat else 0) else 0)=0:=by
       split
       ·rw[if_neg (by omega)]
       ·rfl
      rw[z2,←p2,Yk];omega
     ·rw[if_neg p2,if_neg (by omega)];have z2:(if k=(l.1-1).toNat then(if 0<l.1∧(j:Int)+1=l.2.1 then l.2.2*t (l.1-1).toNat else 0) else 0)=0:=by
       split
       ·rw[if_neg (by omega)]
       ·rfl
      rw[z2,UJ];rfl
    ·have z1:(if k=(l.2.1-1).toNat then(if(j:Int)+1=l.1 then l.2.2*t (l.2.1-1).toNat else 0) else 0)=0:=by
      rw[if_neg p1];split <;> rfl
     rw[z1]
     by_cases p2:0<l.1∧(j:Int)+1=l.2.1
     ·rw[if_pos p2]
      by_cases p3:k=(l.1-1).toNat
      ·rw[if_pos p3,if_pos (.inl ⟨by omega,p2.2⟩),←p3,Yk];omega
      ·rw[if_neg p3,if_neg (by omega),UJ];rfl
     ·rw[if_neg p2,if_neg (by omega),UJ];split <;> rfl
  rw[e,yl,yl,yl,kq,kq,kq,if_pos hj];unfold lnk;rw[if_pos (show(l.2.1-1).toNat<n by omega)]
  by_cases p1:(j:Int)+1=l.1
  ·have ej:(l.1-1).toNat=j:=by omega
   rw[if_pos p1,if_neg (show ¬((j:Int)+1=l.2.1) by omega),if_pos (show l.1=1+(j:Int)∨l.2.1=1+(j:Int) from .inl (by omega)),if_pos p1,ej,if_pos hj,if_neg (by omega)];omega
  ·rw[if_neg p1,if_neg p1]
   by_cases p2:(j:Int)+1=l.2.1
   ·have ej:(l.2.1-1).toNat=j:=by omega
    rw[if_pos p2,if_pos (show l.1=1+(j:Int)∨l.2.1=1+(j:Int) from .inr (by omega)),ej]
    by_cases p3:0<l.1
    ·rw[if_pos p3,if_pos (show(l.1-1).toNat<n by omega),if_pos ⟨p3,p2⟩];omega
    ·rw[if_neg p3];have:(if(l.1-1).toNat<n then(if 0<l.1∧(j:Int)+1=l.2.1 then l.2.2*t (l.1-1).toNat else 0) else 0)=0:=by
      split
      ·exact if_neg fun z=>p3 z.1
      ·rfl
     rw[this];omega
   ·rw[if_neg p2,if_neg (by omega)];have:(if(l.1-1).toNat<n then(if 0<l.1∧(j:Int)+1=l.2.1 then l.2.2*t (l.1-1).toNat else 0) else 0)=0:=by
     split
     ·exact if_neg fun z=>p2 z.2
     ·rfl
    rw[this];omega
theorem zaB {c:Int}{n:Nat}{ls:List (Int×Int×Int)}(O:YOk c n ls) {tD:D}{t:Nat→Int}(T:wC n tD t) (g:Nat→Int):F_law_forced [zo c ls,.tuple (vD n g),tD]=some (.tuple (vD n (fc n (chB n (tieB ls)) g t))):=by
 have hn:=O.en;obtain⟨ρ',e,y4,y5,y6,y7,y8,hr⟩:=jP (h:=hTup 3 (zQ (hName 4) (zQ (hName 5) (zQ (hName 6) hNil)))) (gb:=qc)
  (fun i ρ=>∃x4 x5 x6 x7 x8,ρ=[some (.val (zo c ls)),some (.val (.tuple (vD n g))),some (.val tD),some (.own (.list (vD n fun j=>g j+((ls.take i).map fun l=>lnk t l j).sum))),x4,x5,x6,x7,x8])
  (ls.map zS) 0 [some (.val (zo c ls)),some (.val (.tuple (vD n g))),some (.val tD),some (.own (.list (vD n g))),none,none,none,none,none] ⟨none,none,none,none,none,by
   have:vD n g=vD n fun j=>g j+((ls.take 0).map fun l=>lnk t l j).sum:=jE fun j _=>by simp
   rw[←this]⟩ (fun k d ρ hk hZq=>by
   obtain⟨x4,x5,x6,x7,x8,hr⟩:=hZq;subst hr;rw[Ql]at hk;obtain⟨l,hl,rfl⟩:=ZG.mp hk;rw[QH];have hm:l∈ls:=Jw hl;obtain⟨y7,y8,e⟩:=zcc O.ec T (some (.val (zo c ls))) (some (.val (.tuple (vD n g)))) (fun j=>g j+((ls.take k).map fun l=>lnk t l j).sum) (O.lk l hm) x7 x8;refine⟨_,_,rfl,e,vI l.1,vI l.2.1,vI l.2.2,y7,y8,?_⟩;have:(vD n fun j=>g j+((ls.take k).map fun l=>lnk t l j).sum+lnk t l j)=vD n fun j=>g j+((ls.take (k+1)).map fun l=>lnk t l j).sum:=jE fun j _=>by
    rw[Hj,hl,Qw,VN];simp;omega
   rw[this])
 subst hr;rw[Zi,QH,Ua]at e;have ev:(vD n fun j=>g j+(ls.map fun l=>lnk t l j).sum)=vD n (fc n (chB n (tieB ls)) g t):=jE fun j hj=>by
  rw[zfR O.ec t hj O.lk];rfl
 unfold F_law_forced;refine zC ?_;show xI [some (.val (zo c ls)),some (.val (.tuple (vD n g))),some (.val tD),none,none,none,none,none,none]=_;unfold xI;rw[zk (ρ':=[some (.val (zo c ls)),some (.val (.tuple (vD n g))),some (.val tD),some (.own (.list (vD n g))),none,none,none,none,none]) (zaM (zce (h:=zhU) (ds:=vD n g) (zb (x:=.tuple (vD n g)) rfl zh) rfl))];rw[zk (qb (qg (zr (x:=zo c ls) rfl zG (wU c ls)) (xa _)) e),ev];exact je (zD (zb (x:=.list (vD n (fc n (chB n (tieB ls)) g t))) rfl zh) (jc _))
end L2.Y
namespace L2.Sd
structure StOk (n:Nat) (M:Nat→Nat→Int) (s g h t:Nat→Int):Prop where
 is:∀j,j<n→h j=fc n M g t j
 way:Way n M s g t
 nn:∀j,j<n→0≤h j
variable {n:Nat}{M:Nat→Nat→Int}{s g h t:Nat→Int}
theorem StOk.step (Y:Yd n M s) (I:StOk n M s g h t) {i:Nat}(hi:i<n) {o:Int}(h0:0≤o) (ho:o*s i≤h i):StOk n M s g (fun j=>h j+M i j*o) (fun k=>if k=i then t k+o else t k):=by
 refine⟨fun j hj => ?_,I.way.step Y hi h0 (by rw[←I.is i hi];exact ho),fun j hj => ?_⟩
 ·show h j+M i j*o=_;rw[zlo hi,I.is j hj,Yk]
 ·show 0≤h j+M i j*o
  by_cases e:i=j
  ·subst e;rw[Y.dia i hi,Int.neg_mul,Yk];omega
  ·have:=I.nn j hj;have:=Kh (Y.off i j hi hj e) h0;omega
end L2.Sd
namespace L2.Y
open PySem L2.Sd
variable {c:Int}{n:Nat}{ls:List (Int×Int×Int)}
theorem zjg:∀n:Nat,(Qv n [(.int 0:D)]).flatten=vD n fun _=>0
 | 0=>rfl
 | n+1=>by rw[Vj,Wb,zjg n,zcL];rfl
end L2.Y
namespace L2.Y
open PySem L2.Sd
noncomputable def rSt (c:Int) (n:Nat) (ls:List (Int×Int×Int)) (g:Nat→Int) (num:Int) (h t:Nat→Int) (turn:Int) (x8:Option En):Env' :=
 [some (.val (zo c ls)),some (.val (.tuple (vD n g))),vI num,some (.val (.tuple (vD n h))),some (.own (.list (vD n t))),some (.val (.list (vD n (szB n (tieB ls))))),some (.val (.list (pick n fun k=>decide (szB n (tieB ls) k≤h k)))),vI turn,x8]
theorem zgx {c:Int}{n:Nat}{ls:List (Int×Int×Int)}(O:YOk c n ls) (g:Nat→Int) (num:Int) (h t:Nat→Int) (turn:Int) (x8:Option En) (hne:(pick n fun k=>decide (szB n (tieB ls) k≤h k))≠[]) :
  ∃p,p<n∧szB n (tieB ls) p≤h p∧qI (rSt c n ls g num h t turn x8)=some (.nxt (rSt c n ls g num (fun j=>h j+chB n (tieB ls) p j*1) (fun k=>if k=p then t k+1 else t k) (turn+1) (vI p))):=by
 have hn:=O.en;have hc:=O.ec;generalize hab:(pick n fun k=>decide (szB n (tieB ls) k≤h k))=ab at hne;have hlen:0<ab.length:=Nb.mpr hne;have r0:=JT (zK num (turn%97)) (b:=ab.length) (by omega);have r9:=JB (zK num (turn%97)) (b:=ab.length) (by omega);have hi:(zK num (turn%97)%(ab.length:Int)).toNat<ab.length:=by omega
 obtain⟨p,hp,hq,ed⟩:=zij (n:=n) (q:=fun k=>decide (szB n (tieB ls) k≤h k)) (d:=ab[(zK num (turn%97)%(ab.length:Int)).toNat]) (by rw[hab];exact KZ _);have hq:=of_decide_eq_true hq;refine⟨p,hp,hq,?_⟩;have ea:ixD (.list ab) (.int (zK num (turn%97)%(ab.length:Int)))=some (.int p):=yz r0 (by rw[←ed];exact Va hi);unfold rSt;rw[hab];unfold qI;rw[zk (ρ':=[some (.val (zo c ls)),some (.val (.tuple (vD n g))),vI num,some (.val (.tuple (vD n h))),some (.own (.list (vD n t))),some (.val (.list (vD n (szB n (tieB ls))))),some (.val (.list ab)),vI turn,vI p])
  (zT (zr (x:=.list ab) rfl (zr (zD (zb (x:=.int num) rfl (zb (zr (x:=.int turn) rfl zG (jf (by omega))) zh)) (by rw[qr];exact qw num _)) (zD (zb (x:=.list ab) rfl zh) (d:=.int ab.length) rfl) (jf (by omega))) ea) rfl)]
 rw[zk (ρ':=[some (.val (zo c ls)),some (.val (.tuple (vD n g))),vI num,some (.val (.tuple (vD n fun j=>h j+chB n (tieB ls) p j*1))),some (.own (.list (vD n t))),some (.val (.list (vD n (szB n (tieB ls))))),some (.val (.list ab)),vI turn,vI p])
  (zT (zD (zb (x:=zo c ls) rfl (zb (x:=.tuple (vD n h)) rfl (zb (ju (zh5 hc hn (zr (x:=zo c ls) rfl zG (jJ c ls)) rfl)) zh))) (by
   rw[qT,zaB O (yo n _) h];have:vD n (fc n (chB n (tieB ls)) h fun k=>if k=p then 1 else 0)=vD n fun j=>h j+chB n (tieB ls) p j*1:=jE fun j _=>by
    have q:=zlo (M:=chB n (tieB ls)) hp h (fun _=>0) 1 j;rw[zcb]at q;rw[Yk,←q];exact qx rfl fun k _=>by by_cases z:k=p <;> simp[z]
   rw[this])) rfl)]
 rw[zk (ρ':=[some (.val (zo c ls)),some (.val (.tuple (vD n g))),vI num,some (.val (.tuple (vD n fun j=>h j+chB n (tieB ls) p j*1))),some (.own (.list (vD n fun k=>if k=p then t k+1 else t k))),some (.val (.list (vD n (szB n (tieB ls))))),some (.val (.list ab)),vI turn,vI p]) (by
  have et:ixD (.list (vD n t)) (.int p)=some (.int (t p)):=by
   have:=yo n t p (by omega) (by omega);rw[show((p:Int).toNat)=p by omega]at this;exact this
  rw[zaN (j:=p) (ds:=vD n t) (zr (zr (x:=.list (vD n t)) rfl (y:=.int p) rfl et) zG (zF _ _)) rfl rfl (by omega) (by rw[jn];omega),zg2,show((p:Int).toNat)=p by omega];have:(vD n fun k=>if k=p then t p+1 else t k)=vD n fun k=>if k=p then t k+1 else t k:=jE fun k _=>by
   by_cases e:k=p
   ·subst e;simp
   ·rw[if_neg e,if_neg e]
  rw[this];rfl)]
 rw[zk (ρ':=[some (.val (zo c ls)),some (.val (.tuple (vD n g))),vI num,some (.val (.tuple (vD n fun j=>h j+chB n (tieB ls) p j*1))),some (.own (.list (vD n fun k=>if k=p then t k+1 else t k))),some (.val (.list (vD n (szB n (tieB ls))))),some (.val (.list ab)),vI (turn+1),vI p]) rfl];exact vg (zfo hc hn (zr (x:=zo c ls) rfl zG (jJ c ls)) rfl rfl (zbZ n _) (yo n _))
theorem xo {c:Int}{n:Nat}{ls:List (Int×Int×Int)}(O:YOk c n ls) (g:Nat→Int) (hg:∀j,j<n→0≤g j) (num:Int):∃t,F_law_rest [zo c ls,.tuple (vD n g),.int num]=some (.tuple [.tuple (vD n (fc n (chB n (tieB ls)) g t)),.tuple (vD n t)])∧Odo n (chB n (tieB ls)) (szB n (tieB ls)) g t∧∀j,j<n→0≤fc n (chB n (tieB ls)) g t j:=by
 have Y:=O.yd;obtain⟨σ,B⟩:=O.net.brings g;have hc:=O.ec;have hn:=O.en;obtain⟨ρ',e,h,t,turn,x8,I,hs,rfl⟩:=yJ (c:=gBo (g2 neD (gVar 6) (gLs (gLst gNil)))) (gb:=qI)
  (fun m ρ=>∃h t turn x8,StOk n (chB n (tieB ls)) (szB n (tieB ls)) g h t∧(m:Int)=sm n σ-sm n t∧ρ=rSt c n ls g num h t turn x8)
  (fun ρ=>∃h t turn x8,StOk n (chB n (tieB ls)) (szB n (tieB ls)) g h t∧zbV n (szB n (tieB ls)) h∧ρ=rSt c n ls g num h t turn x8)
  (fun m ρ hZq=>by
   obtain⟨h,t,turn,x8,I,hm,hr⟩:=hZq;subst hr;have ec:gBo (g2 neD (gVar 6) (gLs (gLst gNil))) (rSt c n ls g num h t turn x8)=some (!(pick n fun k=>decide (szB n (tieB ls) k≤h k)).isEmpty):=jF (zr (x:=.list (pick n fun k=>decide (szB n (tieB ls) k≤h k))) rfl (ju (xR zh (show 0≤16777216 by decide))) (zlH _ _))
   by_cases hne:(pick n fun k=>decide (szB n (tieB ls) k≤h k))=[]
   ·refine .inl ⟨by rw[ec,hne];rfl,h,t,turn,x8,I,fun j hj => ?_,rfl⟩;have:=of_decide_eq_false (zcn hne j hj);omega
   ·obtain⟨p,hp,hq,e2⟩:=zgx O g num h t turn x8 hne;have J:=I.step Y hp (o:=1) (by omega) (by omega);have le:sm n (fun k=>if k=p then t k+1 else t k)≤sm n σ:=zej fun k hk=>J.way.le σ B k hk;have at1:=zcD hp t 1;refine .inr ⟨by rw[ec];cases z:(pick n fun k=>decide (szB n (tieB ls) k≤h k)) with | nil=>exact absurd z hne | cons a r=>rfl,_,(sm n σ-sm n (fun k=>if k=p then t k+1 else t k)).toNat,e2,by omega,_,_,turn+1,vI p,J,by omega,rfl⟩)
  (sm n σ).toNat (rSt c n ls g num g (fun _=>0) 0 none) ⟨g,fun _=>0,0,none,⟨fun j _=>(zcb g j).symm,Way.start,hg⟩,by
   have:=ym (n:=n) (f:=σ) B.1;have z:sm n (fun _=>0)=0:=by
    have:=xc n 0 (fun _=>0);simpa using this
   omega,rfl⟩
 have ev:vD n h=vD n (fc n (chB n (tieB ls)) g t):=jE I.is;refine⟨t,?_,I.way.odo fun j hj=>by rw[←I.is j hj];exact hs j hj,fun j hj=>by rw[←I.is j hj];exact I.nn j hj⟩;unfold F_law_rest;refine zC ?_;show yv [some (.val (zo c ls)),some (.val (.tuple (vD n g))),vI num,none,none,none,none,none,none]=_;unfold yv;rw[zk (ρ':=[some (.val (zo c ls)),some (.val (.tuple (vD n g))),vI num,some (.val (.tuple (vD n g))),none,none,none,none,none]) rfl];rw[zk (ρ':=[some (.val (zo c ls)),some (.val (.tuple (vD n g))),vI num,some (.val (.tuple (vD n g))),some (.own (.list (vD n fun _=>0))),none,none,none,none]) (by
  refine zaM (ds:=vD n fun _=>0) ?_;show gF2 mulL _ _ _=_;unfold gF2;rw[ju (xR (zb zG zh) (show 1≤16777216 by decide)),Zd,zr (x:=zo c ls) rfl zG (jJ c ls),Zd];show repD [.int 0] c=_;unfold repD;rw[if_pos ⟨by omega,by omega,by
   show 1*c.toNat≤16777216;omega⟩,show c.toNat=n by omega]
  exact congrArg some (zjg n))]
 have es:F_law_sizes [zo c ls]=some (.list (vD n (szB n (tieB ls)))):=by
  rw[yM c (by omega) (by omega) ls O.len O.lk];congr 2;unfold zai vD;rw[Qe,show c.toNat=n by omega];exact ZZ fun k _=>congrArg Zm.int (qA O.ec O.lk k)
 rw[zk (zT (zD (zb (x:=zo c ls) rfl zh) (by rw[wv];exact es)) rfl)];rw[zk (vg (zfo hc hn (zr (x:=zo c ls) rfl zG (jJ c ls)) rfl rfl (zbZ n g) (yo n _)))];rw[zk (ρ':=rSt c n ls g num g (fun _=>0) 0 none) rfl];rw[zk (kn e),←ev];exact je (zD (zb (x:=.tuple (vD n h)) rfl (zb (zD (zb (x:=.list (vD n t)) rfl zh) (jc _)) zh)) (zaX _ _))
end L2.Y
namespace L2.Sd
variable {n:Nat}{B:Nat→Nat→Int}
theorem zek {n:Nat}{f:Nat→Int}(h:∀k,k<n→0≤f k) (e:sm n f=0):∀k,k<n→f k=0:=fun k hk=>by
 have a:=h k hk;have b:=zgG (f:=f) hk fun j hj _=>h j hj;omega
noncomputable def fire (n:Nat) (M:Nat→Nat→Int) (z:Nat→Int) (j:Nat):Int:=sm n fun k=>z k*M k j
theorem xQ {M:Nat→Nat→Int}(g t:Nat→Int) (j:Nat):fc n M g t j=g j+fire n M t j:=rfl
theorem wQ {M:Nat→Nat→Int}(z u:Nat→Int) (j:Nat):fire n M (fun k=>z k+u k) j=fire n M z j+fire n M u j:=by
 unfold fire;rw[←yl];exact zO fun k _=>Ky _ _ _
theorem xl {M:Nat→Nat→Int}(c:Int) (z:Nat→Int) (j:Nat):fire n M (fun k=>c*z k) j=c*fire n M z j:=by
 unfold fire;rw[←xc];exact zO fun k _=>Tv _ _ _
theorem zdU {M:Nat→Nat→Int}{z u:Nat→Int}(h:∀k,k<n→z k=u k) (j:Nat):fire n M z j=fire n M u j:=zO fun k hk=>by rw[h k hk]
theorem zc8:∀(n:Nat) (x:Nat→Int),0<n→∃i,i<n∧∀k,k<n→x k≤x i
 | 0,_,h=>absurd h (by omega)
 | 1,x,_=>⟨0,by omega,fun k hk=>by rw[show k=0 by omega];omega⟩
 | n+2,x,_=>by
  obtain⟨i,hi,h⟩:=zc8 (n+1) x (by omega)
  by_cases q:x i≤x (n+1)
  ·exact⟨n+1,by omega,fun k hk=>by
    by_cases e:k=n+1
    ·rw[e];omega
    ·have:=h k (by omega);omega⟩
  ·exact⟨i,by omega,fun k hk=>by
    by_cases e:k=n+1
    ·rw[e];omega
    ·exact h k (by omega)⟩
section
variable {M:Nat→Nat→Int}{s:Nat→Int}
noncomputable def Rst (n:Nat) (M:Nat→Nat→Int) (s g r:Nat→Int):Prop:=∃t,Odo n M s g t∧∀j,j<n→r j=fc n M g t j
theorem Rst.one {g r r' : Nat→Int}(a:Rst n M s g r) (b:Rst n M s g r'):∀j,j<n→r j=r' j:=fun j hj=>by
 obtain⟨t,o,e⟩:=a;obtain⟨t',o',e'⟩:=b;rw[e j hj,e' j hj];exact qx rfl (o.one o')
theorem Rst.congr {g g' r:Nat→Int}(h:∀j,j<n→g j=g' j) (a:Rst n M s g r):Rst n M s g' r:=by
 obtain⟨t,o,e⟩:=a;exact⟨t,o.congr h fun _ _=>rfl,fun j hj=>by rw[e j hj];exact qx (h j hj) fun _ _=>rfl⟩
theorem Rst.put {f g r r' : Nat→Int}(hg:∀j,j<n→0≤g j) (a:Rst n M s f r) (b:Rst n M s (fun k=>r k+g k) r'):Rst n M s (fun k=>f k+g k) r':=by
 obtain⟨t,o,e⟩:=a;obtain⟨u,o',e'⟩:=b;have o2:=o'.congr (g':=fun k=>fc n M f t k+g k) (t':=u) (fun k hk=>by rw[e k hk]) fun _ _=>rfl;refine⟨_,o.put hg o2,fun j hj => ?_⟩;rw[e' j hj,xQ,xQ,wQ,e j hj,xQ];omega
structure Lift (n:Nat) (M:Nat→Nat→Int) (s e σ:Nat→Int):Prop where
 rst:Rst n M s (fun k=>2*s k) σ
 eq:∀j,j<n→e j=2*s j-σ j
 lt:∀j,j<n→σ j<s j
 nn:∀j,j<n→0≤σ j
end
variable {s:Nat→Int}
end L2.Sd
namespace L2.Y
open PySem L2.Sd
variable {c:Int}{n:Nat}{ls:List (Int×Int×Int)}
noncomputable abbrev RR (n:Nat) (ls:List (Int×Int×Int)):=chB n (tieB ls)
noncomputable abbrev SZ (n:Nat) (ls:List (Int×Int×Int)):=szB n (tieB ls)
theorem zfa (O:YOk c n ls) (g:Nat→Int) (hg:∀j,j<n→0≤g j):∃t,Odo n (RR n ls) (SZ n ls) g t:=by
 obtain⟨t,_,o,_⟩:=xo O g hg 0;exact⟨t,o⟩
theorem zln (O:YOk c n ls) (g:Nat→Int) (hg:∀j,j<n→0≤g j):∃r,Rst n (RR n ls) (SZ n ls) g r:=by
 obtain⟨t,o⟩:=zfa O g hg;exact⟨_,t,o,fun _ _=>rfl⟩
theorem zgv (O:YOk c n ls) {g t:Nat→Int}(hg:∀j,j<n→0≤g j) (o:Odo n (RR n ls) (SZ n ls) g t):∀j,j<n→0≤fc n (RR n ls) g t j:=fun j hj=>by
 obtain⟨u,_,o',nn⟩:=xo O g hg 0;rw[qx rfl (o.one o')];exact nn j hj
end L2.Y
namespace L2.Sd
variable {n:Nat}{B:Nat→Nat→Int}
noncomputable def dg (n:Nat) (B:Nat→Nat→Int) (F:Nat→Bool) (i:Nat):Int:=sm n fun j=>if F j then B (i+1) (j+1) else 0
noncomputable def Forb (n:Nat) (B:Nat→Nat→Int) (h:Nat→Int) (F:Nat→Bool):Prop:=(∃i,i<n∧F i=true)∧∀i,i<n→F i=true→h i<dg n B F i
noncomputable def Last (n:Nat) (B:Nat→Nat→Int) (h:Nat→Int):Prop:=∀F,¬Forb n B h F
theorem zjF (N:Net n B) (F:Nat→Bool) (i:Nat):0≤dg n B F i:=ym fun k _=>by
 show 0≤if F k then B (i+1) (k+1) else 0
 split
 ·exact N.nn _ _
 ·exact Ww _
theorem ze1 (N:Net n B) {F G:Nat→Bool}(h:∀k,k<n→F k=true→G k=true) (i:Nat):dg n B F i≤dg n B G i:=zej fun k hk=>by
 show(if F k then B (i+1) (k+1) else 0)≤if G k then B (i+1) (k+1) else 0
 cases e:F k with
 | true=>rw[h k hk e];exact Ww _
 | false =>
  have:=N.nn (i+1) (k+1);cases G k <;> simp <;> omega
theorem zhw (N:Net n B) (F:Nat→Bool) {i:Nat}(hi:i<n):fire n (chB n B) (fun k=>if F k then 1 else 0) i=dg n B F i + -(if F i then szB n B i else 0):=by
 unfold fire dg;rw[←zcD hi (fun k=>if F k then B (i+1) (k+1) else 0)];refine zO fun k hk => ?_;show(if F k then 1 else 0)*chB n B k i=if k=i then(if F k then B (i+1) (k+1) else 0)+_ else _
 unfold chB
 by_cases e:k=i
 ·subst e;have:=N.no (k+1);cases F k <;> simp[this]
 ·rw[if_neg e,if_neg e,N.sym (k+1) (i+1)];cases F k <;> simp
theorem zdk (N:Net n B) {g t:Nat→Int}(hg:∀j,j<n→szB n B j≤g j) (o:Odo n (chB n B) (szB n B) g t):Last n B (fc n (chB n B) g t):=by
 have Y:=N.yd N.size_pos;rintro F ⟨⟨i,hi,fi⟩,hf⟩;have t1:∀j,j<n→1≤t j:=fun j hj=>by
  have:=least Y o.br (t:=fun _=>0) (fun k hk=>o.br.1 k hk) hj (c:=1) (by rw[zcb,Mq];exact hg j hj) (by decide);omega
 have b:xG n (chB n B) (szB n B) g (fun k=>t k+(-1)*(if F k then 1 else 0)):=by
  refine⟨fun k hk => ?_,fun j hj => ?_⟩
  ·have:=t1 k hk;show 0≤t k+(-1)*(if F k then 1 else 0);cases F k <;> simp <;> omega
  ·rw[xQ,wQ,xl,zhw N F hj];have st:=o.br.2 j hj;have dn:=zjF N F j;rw[xQ]at st;cases e:F j with
   | true =>
    have:=hf j hj e;rw[xQ]at this;simp;omega
   | false=>simp;omega
 have:=o.le _ b i hi;simp only[fi,if_true]at this;omega
theorem zfJ (N:Net n B) {h r z:Nat→Int}(hh:∀j,j<n→h j<szB n B j) (hr:Last n B r) (e:∀j,j<n→r j=h j+fire n (chB n B) z j):∀k,k<n→z k≤0:=by
 intro k0 hk0;apply Bl.mp;intro hpos;obtain⟨i,hi,hm⟩:=zc8 n z (by omega);have mp:1≤z i:=by have:=hm k0 hk0;omega
 refine hr (fun k=>decide (z k=z i)) ⟨⟨i,hi,by simp⟩,fun j hj ej => ?_⟩;have ej:z j=z i:=by simpa using ej
 let H:Nat→Int:=fun p=>if p=0 then 0 else z (p-1)
 have hs:∀k,H (k+1)=z k:=fun k=>by show(if k+1=0 then 0 else z (k+1-1))=z k;rw[if_neg (by omega)];rfl
 have f:=N.flow H rfl hj;have e1:(sm n fun k=>H (k+1)*chB n B k j)=fire n (chB n B) z j:=zO fun k _=>by rw[hs]
 rw[e1,hs,ej]at f;have l:sm (n+1) (fun p=>B (j+1) p+(-1)*(if p=0 then 0 else if decide (z (p-1)=z i) then B (j+1) p else 0))≤sm (n+1) fun p=>(z i-H p)*B (j+1) p:=zej fun p hp=>by
  have bn:=N.nn (j+1) p;cases p with
  | zero =>
   show B (j+1) 0+(-1)*0≤(z i-0)*B (j+1) 0;have:=Ui mp bn;rw[Int.sub_zero];omega
  | succ p =>
   show B (j+1) (p+1)+(-1)*(if p+1=0 then 0 else if decide (z (p+1-1)=z i) then B (j+1) (p+1) else 0)≤(z i-H (p+1))*B (j+1) (p+1);rw[hs,if_neg (by omega),show p+1-1=p by omega]
   by_cases q:z p=z i
   ·rw[q,SN,Rv];simp;omega
   ·have:1≤z i-z p:=by have:=hm p (by omega);omega
    have:=Ui this bn;simp[q];omega
 rw[yl,xc,vi n (fun p=>if p=0 then 0 else if decide (z (p-1)=z i) then B (j+1) p else 0)]at l;have e2:(sm n fun k=>if k+1=0 then 0 else if decide (z (k+1-1)=z i) then B (j+1) (k+1) else 0)=dg n B (fun k=>decide (z k=z i)) j:=zO fun k _=>by
  rw[if_neg (by omega),show k+1-1=k by omega]
 rw[e2]at l;have e3:sm (n+1) (B (j+1))=szB n B j:=rfl;rw[e3]at l;simp only[if_true]at l;have:=e j hj;have:=hh j hj;omega
theorem zdd (N:Net n B) {h r z:Nat→Int}(hh:∀j,j<n→h j<szB n B j) (hr:∀j,j<n→r j<szB n B j) (lh:Last n B h) (lr:Last n B r) (e:∀j,j<n→r j=h j+fire n (chB n B) z j):∀j,j<n→r j=h j:=by
 have a:=zfJ N hh lr e;have b:=zfJ N (h:=r) (r:=h) (z:=fun k=>(-1)*z k) hr lh fun j hj=>by rw[xl,e j hj];omega
 intro j hj;rw[e j hj,zdU (u:=fun k=>0*0) fun k hk=>by have:=a k hk;have:=b k hk;omega,xl];omega
theorem zdW {h h' : Nat→Int}(e:∀j,j<n→h j=h' j) {F:Nat→Bool}(f:Forb n B h F):Forb n B h' F:=⟨f.1,fun i hi fi=>by rw[←e i hi];exact f.2 i hi fi⟩
theorem jC {h h' : Nat→Int}(e:∀j,j<n→h j=h' j) (l:Last n B h):Last n B h':=fun F f=>l F (zdW (fun j hj=>(e j hj).symm) f)
end L2.Sd
namespace L2.Y
open PySem L2.Sd
variable {c:Int}{n:Nat}{ls:List (Int×Int×Int)}
theorem zkU (l:List Nat) (U:Nat→Bool) (f:Nat→Int):((l.filter U).map f).sum=(l.map fun j=>if U j then f j else 0).sum:=by
 induction l with
 | nil=>rfl
 | cons a l ih =>
  cases e:U a with
  | true=>rw[Qs e,Zk,Zk,Jc,Jc,ih,e];rfl
  | false=>rw[QC (by simp[e]),Zk,Jc,ih,e];simp
theorem zjw (O:YOk c n ls) (U:Nat→Bool) (k:Nat):WI ls n U k=dg n (tieB ls) U k:=by
 unfold WI plI dg sm;rw[Qe];show(((ZJ n).filter U).map fun(j:Nat)=>twoI ls (1+k) (1+(j:Int))).sum=_;rw[zkU];congr 1;refine ZZ fun j _ => ?_;cases U j with
 | false=>rfl
 | true =>
  simp only[if_true]
  by_cases e:k=j
  ·subst e;rw[ziO O.lk,zjn]
  ·exact ziP O.lk e
theorem zgM (ls:List (Int×Int×Int)) (n:Nat) (h:Nat→Int):TI ls n h (n+1)=[]:=by
 apply Ja;intro z;have:=ziW (ls:=ls) (n:=n) (g:=h) (t:=n+1) fun s hs q=>z (by
  have:=yI q (n+1-s)
  rwa [show s+(n+1-s)=n+1 by omega]at this)
 omega
end L2.Y
namespace L2.Sd
variable {n:Nat}{B:Nat→Nat→Int}
noncomputable def fill (s:Nat→Int) (k:Nat) (p:Nat→Int) (j:Nat):Int:=if j<k then p j else s j-1
noncomputable def setI (h:Nat→Int) (k:Nat) (x:Int) (j:Nat):Int:=if j=k then x else h j
theorem zfK {h h' : Nat→Int}(e:∀j,j<n→h j≤h' j) (l:Last n B h):Last n B h':=fun F f=>l F ⟨f.1,fun i hi fi=>by have:=f.2 i hi fi;have:=e i hi;omega⟩
theorem zbk (N:Net n B):Last n B fun j=>szB n B j-1:=by
 rintro F ⟨⟨i,hi,fi⟩,hf⟩;have all:=N.conn (fun p=>¬ ∃j,j<n∧p=j+1∧F j=true) (fun⟨j,_,e,_⟩=>by omega) (fun p q hp hq hb hs=>by
  rintro⟨j,hj,rfl,fj⟩;have a:=hf j hj fj;rw[N.sym]at hb;have e:szB n B j=B (j+1) 0+sm n fun k=>B (j+1) (k+1):=vi n _;have b:dg n B F j≤sm n fun k=>B (j+1) (k+1):=zej fun k hk=>by
   show(if F k then B (j+1) (k+1) else 0)≤_;have:=N.nn (j+1) (k+1);split <;> omega
  have b0:=N.nn (j+1) 0;have a' : szB n B j-1<dg n B F j:=a;cases p with
  | zero=>omega
  | succ p =>
   have fp:F p=false:=by
    cases z:F p with
    | false=>rfl
    | true=>exact absurd ⟨p,by omega,rfl,z⟩ hs
   have c:dg n B F j+1≤sm n fun k=>B (j+1) (k+1):=by
    unfold dg;have:=zcD (n:=n) (i:=p) (by omega) (fun k=>if F k then B (j+1) (k+1) else 0) 1;rw[←this];refine zej fun k hk => ?_;show(if k=p then(if F k then B (j+1) (k+1) else 0)+1 else if F k then B (j+1) (k+1) else 0)≤B (j+1) (k+1);have:=N.nn (j+1) (k+1)
    by_cases kp:k=p
    ·subst kp;rw[if_pos rfl,fp];simp;omega
    ·rw[if_neg kp];split <;> omega
   omega)
 exact all (i+1) (by omega) ⟨i,hi,rfl,fi⟩
theorem zhE (N:Net n B) {h:Nat→Int}{k:Nat}(hk:k<n) (la:Last n B h) {U:Nat→Bool}(u1:∀F,Forb n B (setI h k 0) F→∀i,i<n→F i=true→U i=true) (u2:(∃i,i<n∧U i=true)→Forb n B (setI h k 0) U) {x:Int}(hx:0≤x):Last n B (setI h k x)↔dg n B U k≤x:=by
 constructor
 ·intro l;apply Bl.mp;intro q;have ne:∃i,i<n∧U i=true:=by
   apply Ja;intro z;have:dg n B U k=0:=by
    unfold dg;rw[zO (g:=fun _=>0*0) fun j hj=>by
     rw[if_neg fun w=>z ⟨j,hj,w⟩];rfl,xc,Rv]
   omega
  refine l U ⟨ne,fun i hi ui => ?_⟩;have:=(u2 ne).2 i hi ui;unfold setI at this ⊢
  by_cases e:i=k
  ·subst e;rw[if_pos rfl];omega
  ·rw[if_neg e]at this ⊢;exact this
 ·rintro d F ⟨ne,hf⟩;cases z:F k with
  | false =>
   refine la F ⟨ne,fun i hi fi => ?_⟩;have:=hf i hi fi;unfold setI at this
   rwa [if_neg fun e=>by rw[e,z]at fi;cases fi]at this
  | true =>
   have f0:Forb n B (setI h k 0) F:=⟨ne,fun i hi fi=>by
    have:=hf i hi fi;unfold setI at this ⊢
    by_cases e:i=k
    ·rw[if_pos e]at this ⊢;omega
    ·rw[if_neg e]at this ⊢;exact this⟩
   have a:=ze1 N (u1 F f0) k;have b:=hf k hk z;unfold setI at b;rw[if_pos rfl]at b;omega
theorem ziv (N:Net n B) {a b r e σ:Nat→Int}(L:Lift n (chB n B) (szB n B) e σ) (ex:∀g,(∀j,j<n→0≤g j)→∃r,Rst n (chB n B) (szB n B) g r) (a0:∀j,j<n→0≤a j) (as:∀j,j<n→a j<szB n B j) (la:Last n B a) (b0:∀j,j<n→0≤b j) (hr:Rst n (chB n B) (szB n B) (fun k=>a k+b k) r):Last n B r:=by
 have e1:∀j,j<n→szB n B j≤e j:=fun j hj=>by have:=L.eq j hj;have:=L.lt j hj;omega
 -- what a,lifted,settles to is a again
 obtain⟨q,hq⟩:=ex (fun k=>a k+e k) fun j hj=>by show 0≤a j+e j;have:=a0 j hj;have:=e1 j hj;have:=N.size_pos j hj;omega
 obtain⟨t,ot,et⟩:=hq;obtain⟨y,oy,ey⟩:=L.rst;have ql:Last n B q:=jC (fun j hj=>(et j hj).symm) (zdk N (fun j hj=>by show szB n B j≤a j+e j;have:=a0 j hj;have:=e1 j hj;omega) ot);have qs:∀j,j<n→q j<szB n B j:=fun j hj=>by rw[et j hj];exact ot.br.2 j hj
 have qa:=zdd N (h:=a) (r:=q) (z:=fun k=>t k+(-1)*y k) as qs la ql fun j hj=>by
  have h1:=et j hj;have h2:=ey j hj;have h3:=L.eq j hj;rw[xQ]at h1 h2;rw[wQ,xl];omega
 obtain⟨v,ov,ev⟩:=hr;have h1:Rst n (chB n B) (szB n B) (fun k=>a k+e k) a:=⟨t,ot,fun j hj=>by rw[←qa j hj];exact et j hj⟩
 have h2:=Rst.put (g:=b) b0 h1 ⟨v,ov,ev⟩;obtain⟨w,ow,ew⟩:=h2;exact jC (fun j hj=>(ew j hj).symm) (zdk N (fun j hj=>by show szB n B j≤a j+e j+b j;have:=a0 j hj;have:=e1 j hj;have:=b0 j hj;omega) ow)
end L2.Sd
namespace L2.Y
open PySem L2.Sd
variable {c:Int}{n:Nat}{ls:List (Int×Int×Int)}
theorem ziZ {g:Nat→Int}{k:Nat}(hk:k<n):∀t,(1+(k:Int))∈(dueI ls n g t).flatten↔UI ls n g t k=false
 | 0=>by
  show _∈List.flatten []↔true=false;simp
 | t+1=>by
  have ih:=ziZ (g:=g) hk t;rw[va,Nf,ZW,ih];have e:(1+(k:Int))∈(if(TI ls n g t).isEmpty then [] else [TI ls n g t]).flatten↔CI ls n g (UI ls n g t) k=true:=by
   have h:(1+(k:Int))∈TI ls n g t↔CI ls n g (UI ls n g t) k=true:=by
    rw[←Gu];unfold TI;rw[zgi hk]
   cases z:(TI ls n g t).isEmpty with
   | true =>
    have z' : TI ls n g t=[]:=by simpa using z
    rw[z']at h;simpa using h
   | false=>simpa using h
  rw[e];show _↔NI ls n g (UI ls n g t) k=false;unfold NI CI;cases UI ls n g t k <;> simp
theorem zk4 {k:Nat}(hk:k<n) (p f:Nat→Int) (x:Int):vD k p++[.int x]++(vD n f).drop (k+1)=vD n fun j=>if j<k then p j else if j=k then x else f j:=by
 apply Vt;intro i
 by_cases h1:i<k
 ·rw[QW,Jx (by rw[jn];exact h1),yq h1,yq (by omega),if_pos h1]
 ·by_cases h2:i=k
  ·subst h2;rw[QW,Ji (by rw[jn];omega),jn,Yi,yq hk,if_neg (by omega),if_pos rfl];rfl
  ·rw[Ji (by simp[jn];omega)];rw[Ew];simp only[Zx,jn,Zz,JQ]
   by_cases h3:i<n
   ·rw[show k+1+(i-(k+(0+1)))=i by omega,yq h3,yq h3,if_neg h1,if_neg h2]
   ·rw[Jl (by rw[jn];omega),Jl (by rw[jn];omega)]
theorem vC {a b:List D}(h:a.length+b.length≤16777216):addD (.tuple a) (.tuple b)=some (.tuple (a++b)):=if_pos h
theorem ziM (l:List (List Int)):zcJ (l.map trD)=some (l.map fun x=>x.map Zm.int):=by
 unfold zcJ
 induction l with
 | nil=>rfl
 | cons a l ih =>
  rw[Zk,Jh,ih];rfl
theorem zkT (l:List (List Int)) (h:l.flatten.length≤16777216):zgO [.tuple (l.map trD)]=some (.tuple (l.flatten.map Zm.int)):=by
 show(zcJ (l.map trD)).bind _=_;rw[ziM,Zd];have:(l.map fun x=>x.map Zm.int).flatten=l.flatten.map Zm.int:=by rw[List.map_flatten]
 rw[this];exact if_pos (by rw[Zi];exact h)
noncomputable def h0I (n:Nat) (ls:List (Int×Int×Int)) (k:Nat) (p:Nat→Int):Nat→Int:=setI (fill (SZ n ls) k p) k 0
noncomputable def leaI (n:Nat) (ls:List (Int×Int×Int)) (k:Nat) (p:Nat→Int):Int:=dg n (tieB ls) (UI ls n (h0I n ls k p) (n+1)) k
theorem zhS (O:YOk c n ls) {k:Nat}(hk:k<n) (p:Nat→Int) (hp:∀j,j<k→0≤p j∧p j<SZ n ls j):F_least_heap [zo c ls,.tuple (vD k p),.tuple ((vD n fun j=>SZ n ls j-1).drop (k+1))]=some (.int (leaI n ls k p)):=by
 have hn:=O.en;have hc:=O.ec;let Y:Option En:=some (.val (zo c ls));let P:Option En:=some (.val (.tuple (vD k p)));let Bh:Option En:=some (.val (.tuple ((vD n fun j=>SZ n ls j-1).drop (k+1))));let g:=h0I n ls k p;let U:=UI ls n g (n+1);have eg:vD k p++[.int 0]++(vD n fun j=>SZ n ls j-1).drop (k+1)=vD n g:=by
  rw[zk4 hk];refine jE fun j hj => ?_;show _=setI (fill (SZ n ls) k p) k 0 j;unfold setI fill
  by_cases a:j<k
  ·rw[if_pos a,if_neg (by omega),if_pos a]
  ·rw[if_neg a,if_neg a]
 have bl:vE n (szB n (tieB ls)) g=true:=zb7.mpr fun j hj=>by
  have sp:(1:Int)≤SZ n ls j:=O.net.size_pos j hj;show setI (fill (SZ n ls) k p) k 0 j<SZ n ls j;unfold setI fill
  by_cases a:j=k
  ·rw[if_pos a];omega
  ·rw[if_neg a]
   by_cases b:j<k
   ·rw[if_pos b];exact(hp j b).2
   ·rw[if_neg b];omega
 have fl:(dueI ls n g (n+1)).flatten.length≤n:=by
  have:=zjJ (ls:=ls) (n:=n) (g:=g) (n+1);rw[List.length_flatten];omega
 have er:qZ [.int 1,.int (c+1)]=some ((ZJ n).map fun(k:Nat)=>(.int (1+(k:Int)):D)):=by
  rw[xY (by decide) (by decide) (by omega) (by omega),show(c+1-1).toNat=n by omega];rfl
 unfold F_least_heap;refine zC ?_;show xJ [Y,P,Bh,none,none]=_;unfold xJ;rw[zk (ρ':=[Y,P,Bh,some (.val (.tuple ((dueI ls n g (n+1)).flatten.map Zm.int))),none]) (zT (zD (zb (zD (zb (x:=zo c ls) rfl (zb (x:=.tuple (vD n g)) (zr (zr (x:=.tuple (vD k p)) rfl (zD (zb zG zh) (ziK _)) (vC (by rw[jn];simp;omega))) (y:=.tuple ((vD n fun j=>SZ n ls j-1).drop (k+1))) rfl (by
   rw[vC (by rw[Zx,jn,Wo,jn];simp;omega),eg])) zh)) (by rw[qr];exact zjA O g bl)) zh) (zkT _ (by omega))) rfl)]
 rw[zk (ρ':=[Y,P,Bh,some (.val (.tuple ((dueI ls n g (n+1)).flatten.map Zm.int))),some (.val (.list ((plI n U).map Zm.int)))]) (by
  refine vg (ds:=(plI n U).map Zm.int) (zX (jY (zb zG (zb (zr (zr (x:=zo c ls) rfl zG (jJ _ _)) zG (zF _ _)) zh)) er) (by rw[Zi,JH];omega) ?_);rw[zeb];refine yZ _ _ _ _ fun k hk=>⟨[vI (1+k),some (.val (.tuple ((dueI ls n g (n+1)).flatten.map Zm.int)))],rfl,jF (zr (x:=.int (1+k)) rfl (y:=.tuple ((dueI ls n g (n+1)).flatten.map Zm.int)) rfl ?_),fun _=>rfl⟩
  rw[kc];congr 2;have:=ziZ (g:=g) (ls:=ls) (ZR.mp hk) (n+1);rw[←Gu]at this;cases a:U k with
  | true =>
   rw[Wc];cases b:(dueI ls n g (n+1)).flatten.contains (1+(k:Int)) with
   | false=>rfl
   | true=>have:=this.mp b;rw[show UI ls n g (n+1) k=true from a]at this;cases this
  | false=>rw[this.mpr a];rfl)]
 have et:=zgU (c:=c) O.len (1+k) (plI n U) (by have:=zcv n U;omega);have ew:((plI n U).map fun q=>twoI ls (1+k) q).sum=leaI n ls k p:=zjw O U k;rw[ew]at et;refine je (zD (zb (x:=zo c ls) rfl (zb (x:=.int (1+k)) (zr (zD (zb (x:=.tuple (vD k p)) rfl zh) rfl) zG ?_) (zb (x:=.list ((plI n U).map Zm.int)) rfl zh))) (by rw[qT];exact et));rw[jn,zF];congr 2;omega
theorem zjO (O:YOk c n ls) {h:Nat→Int}{F:Nat→Bool}(f:Forb n (tieB ls) h F):∀t i,i<n→F i=true→UI ls n h t i=true:=by
 intro t
 induction t with
 | zero=>intro k _ _;rfl
 | succ t ih =>
  intro k hk fk;show NI ls n h (UI ls n h t) k=true;unfold NI CI;have a:=f.2 k hk fk;have b:=ze1 O.net ih k;rw[ih k hk fk,zjw O];simp;omega
theorem zlp (O:YOk c n ls) {h:Nat→Int}(ne:∃i,i<n∧UI ls n h (n+1) i=true):Forb n (tieB ls) h (UI ls n h (n+1)):=⟨ne,fun i hi fi=>by
 have:=zgj (zgM ls n h) i hi;unfold CI at this;rw[fi,zjw O]at this;simpa using this⟩
theorem zfN (O:YOk c n ls) {k:Nat}(hk:k<n) {p:Nat→Int}(la:Last n (tieB ls) (fill (SZ n ls) k p)) {x:Int}(hx:0≤x):Last n (tieB ls) (setI (fill (SZ n ls) k p) k x)↔leaI n ls k p≤x :=
 zhE O.net hk la (fun F f i hi fi=>zjO O f _ i hi fi) (fun ne=>zlp O ne) hx
noncomputable def pf (p:List Int) (j:Nat):Int:=p.getD j 0
theorem zl8 (p:List Int):vD p.length (pf p)=p.map Zm.int:=by
 apply Vt;intro i
 by_cases h:i<p.length
 ·rw[yq h,Ql,Va h];simp[pf,h]
 ·rw[Jl (by rw[jn];omega),Jl (by rw[Zi];omega)]
theorem zcu (p:List Int) (x:Int) (j:Nat):pf (p++[x]) j=if j<p.length then pf p j else if j=p.length then x else 0:=by
 unfold pf;rw[Vh,Vh]
 by_cases a:j<p.length
 ·rw[if_pos a,Jx a]
 ·rw[if_neg a,Ji (by omega)]
  by_cases b:j=p.length
  ·rw[if_pos b,b,Yi];rfl
  ·rw[if_neg b,Jl (by simp;omega)];rfl
noncomputable def qP (n:Nat) (ls:List (Int×Int×Int)) (k:Nat) (p:List Int):List (List Int):=(ZJ (SZ n ls k-leaI n ls k (pf p)).toNat).map fun(i:Nat)=>p++[leaI n ls k (pf p)+(i:Int)]
noncomputable def lasL (n:Nat) (ls:List (Int×Int×Int)):Nat→List (List Int)
 | 0=>[[]]
 | k+1=>(lasL n ls k).flatMap (qP n ls k)
structure Good (n:Nat) (ls:List (Int×Int×Int)) (k:Nat) (p:List Int):Prop where
 len:p.length=k
 rg:∀j,j<k→0≤pf p j∧pf p j<SZ n ls j
 la:Last n (tieB ls) (fill (SZ n ls) k (pf p))
theorem zbj (k:Nat) (p:List Int) (hp:p.length=k) (x:Int) (j:Nat):fill (SZ n ls) (k+1) (pf (p++[x])) j=setI (fill (SZ n ls) k (pf p)) k x j:=by
 unfold fill setI;rw[zcu,hp]
 by_cases a:j<k
 ·rw[if_pos (by omega),if_pos a,if_neg (by omega)];exact(if_pos a).symm
 ·by_cases b:j=k
  ·rw[if_pos (by omega),if_neg a,if_pos b,if_pos b]
  ·rw[if_neg (by omega),if_neg b];exact(if_neg a).symm
theorem wG (O:YOk c n ls):∀ {k:Nat},k≤n→∀q,q∈lasL n ls k↔Good n ls k q
 | 0,_,q=>by
  show q∈[[]]↔_;rw[Zw];constructor
  ·rintro rfl;exact⟨rfl,fun j hj=>absurd hj (by omega),jC (fun j _=>by unfold fill;rw[if_neg (by omega)]) (zbk O.net)⟩
  ·intro g;exact Tr.mp g.len
 | k+1,hk,q=>by
  show q∈(lasL n ls k).flatMap (qP n ls k)↔_;rw[KY];constructor
  ·rintro⟨p,hp,hq⟩;have gp:=(wG O (by omega) p).mp hp;obtain⟨i,hi,rfl⟩:=Qd.mp hq;have hi:=ZR.mp hi;have l0:0≤leaI n ls k (pf p):=zjF O.net _ _;have pl:=gp.len;refine⟨by rw[Zx,gp.len];rfl,fun j hj => ?_,?_⟩
   ·rw[zcu,pl]
    by_cases a:j<k
    ·rw[if_pos a];exact gp.rg j a
    ·have:j=k:=by omega
     subst this;rw[if_neg a,if_pos rfl];omega
   ·exact jC (fun j _=>(zbj k p pl _ j).symm) ((zfN O (by omega) gp.la (by omega)).mpr (by omega))
  ·intro g;have hl:=g.len;let p:=q.take k;have pl:p.length=k:=by simp[p];omega
   have eq:q=p++[pf q k]:=by
    apply Vt;intro i
    by_cases a:i<k
    ·rw[Jx (by omega),Nv,if_pos a]
    ·by_cases b:i=k
     ·rw[Ji (by omega),pl,b,Yi];simp[pf,hl]
     ·rw[Jl (by omega),Jl (by rw[Zx,pl];simp;omega)]
   have pj:∀j,j<k→pf p j=pf q j:=fun j hj=>by
    rw[eq,zcu,pl,if_pos hj]
   have xk:=g.rg k (by omega);have lq:=g.la;rw[eq]at lq;have l1:Last n (tieB ls) (setI (fill (SZ n ls) k (pf p)) k (pf q k)):=jC (fun j _=>zbj k p pl _ j) lq;have l2:Last n (tieB ls) (fill (SZ n ls) k (pf p)):=zfK (fun j _=>by
    unfold setI fill
    by_cases a:j=k
    ·subst a;rw[if_pos rfl,if_neg (by omega)];omega
    ·rw[if_neg a];omega) l1
   have gp:Good n ls k p:=⟨pl,fun j hj=>by rw[pj j hj];exact g.rg j (by omega),l2⟩
   have le:=(zfN O (by omega) l2 xk.1).mp l1;refine⟨p,(wG O (by omega) p).mpr gp,Qd.mpr ⟨(pf q k-leaI n ls k (pf p)).toNat,ZR.mpr (by omega),?_⟩⟩;rw[show leaI n ls k (pf p)+((pf q k-leaI n ls k (pf p)).toNat:Int)=pf q k by omega];exact eq.symm
theorem vY (O:YOk c n ls):∀ {k:Nat},k≤n→(lasL n ls k).Nodup
 | 0,_=>by show [[]].Nodup;simp
 | k+1,hk=>by
  have ih:=vY O (k:=k) (by omega);show((lasL n ls k).flatMap (qP n ls k)).Nodup;unfold Ln;rw[Gs];refine⟨fun p _ => ?_,ih.imp_of_mem fun {p q} hp hq ne x hx y hy e => ?_⟩
  ·unfold qP;refine SM (R:=fun i j=>i<j) _ (fun i j h e => ?_) YB;have:=List.append_cancel_left e;simp at this;omega
  ·obtain⟨i,_,rfl⟩:=Qd.mp hx;obtain⟨j,_,rfl⟩:=Qd.mp hy;have lp:=((wG O (by omega) p).mp hp).len;have lq:=((wG O (by omega) q).mp hq).len;exact ne (List.append_inj_left e (by omega))
theorem zdX (O:YOk c n ls):F_fullest [zo c ls]=some (.tuple (vD n fun k=>SZ n ls k-1)):=by
 have hn:=O.en;unfold F_fullest;refine zC ?_;show vo [some (.val (zo c ls))]=_;unfold vo;exact je (zD (zb (ju (zX (ds:=vD n (SZ n ls)) (qg (zD (zb (x:=zo c ls) rfl zh) (by rw[wv];exact O.sizes)) rfl) (by rw[jn];omega) (xO _ _ fun k hk=>⟨[vI (SZ n ls k)],rfl,zr (x:=.int (SZ n ls k)) rfl zG (qB _ _)⟩))) zh) (jc _))
theorem zi5 (O:YOk c n ls) {k:Nat}(hk:k<n) (p:Nat→Int):0≤leaI n ls k p∧leaI n ls k p<1073741824:=by
 refine⟨zjF O.net _ _,?_⟩;have:=O.sz k hk;have e:szB n (tieB ls) k=tieB ls (k+1) 0+sm n fun j=>tieB ls (k+1) (j+1):=vi n _;have a:=O.net.nn (k+1) 0;have b:leaI n ls k p≤sm n fun j=>tieB ls (k+1) (j+1):=zej fun j hj=>by
  show(if UI ls n (h0I n ls k p) (n+1) j then tieB ls (k+1) (j+1) else 0)≤_;have:=O.net.nn (k+1) (j+1);split <;> omega
 omega
theorem zfS (O:YOk c n ls) (hs:∀i,i<n→SZ n ls i≤1000) {k:Nat}(hk:k<n) {p:List Int}(g:Good n ls k p):F_one_heap_longer [zo c ls,trD p,.tuple (vD n fun j=>SZ n ls j-1)]=some (.list ((qP n ls k p).map trD)):=by
 have hn:=O.en;have pl:=g.len;have eP:trD p=.tuple (vD k (pf p)):=by unfold trD;rw[←zl8,pl]
 let Y:Option En:=some (.val (zo c ls));let P:Option En:=some (.val (trD p));let Fu:Option En:=some (.val (.tuple (vD n fun j=>SZ n ls j-1)));obtain⟨l0,l1⟩:=zi5 O hk (pf p);have sk:=O.sz k hk;have s1:(1:Int)≤SZ n ls k:=O.net.size_pos k hk;have es:slD (.tuple (vD n fun j=>SZ n ls j-1)) (some ((k:Int)+1)) none=some (.tuple ((vD n fun j=>SZ n ls j-1).drop (k+1))):=by
  show some (Zm.tuple (cutD _ (some ((k+1:Nat):Int)) none))=_;rw[vN _ _ (by rw[jn];omega)]
 have ei:ixD (.tuple (vD n fun j=>SZ n ls j-1)) (.int k)=some (.int (SZ n ls k-1)):=by
  have:=zcK (n:=n) (f:=fun j=>SZ n ls j-1) (j:=k) (by omega) (by omega)
  rwa [show((k:Int).toNat)=k by omega]at this
 have er:qZ [.int (leaI n ls k (pf p)),.int (SZ n ls k-1+1)]=some ((ZJ (SZ n ls k-leaI n ls k (pf p)).toNat).map fun(i:Nat)=>(.int (leaI n ls k (pf p)+(i:Int)):D)):=by
  have:SZ n ls k<1073741824:=sk;rw[xY (by omega) (by omega) (by omega) (by omega),show SZ n ls k-1+1-leaI n ls k (pf p)=SZ n ls k-leaI n ls k (pf p) by omega];rfl
 unfold F_one_heap_longer;refine zC ?_;show jU [Y,P,Fu,none,none]=_;unfold jU;rw[zk (ρ':=[Y,P,Fu,vI k,none]) (zT (d:=.int k) (zD (zb (x:=trD p) rfl zh) (by
  show some (Zm.int ((p.map Zm.int).length:Nat))=_;rw[Zi,pl])) rfl),
  zk (ρ':=[Y,P,Fu,vI k,vI (leaI n ls k (pf p))]) (zT (zD (zb (x:=zo c ls) rfl (zb (x:=trD p) rfl (zb (zbl (d:=.tuple (vD n fun j=>SZ n ls j-1)) rfl (xS (zr (x:=.int k) rfl zG (zF _ _))) rfl es) zh))) (by rw[qT,eP];exact zhS O hk (pf p) g.rg)) rfl)]
 refine je (ju (zX (jY (zb (x:=.int (leaI n ls k (pf p))) rfl (zb (zr (zr (x:=.tuple (vD n fun j=>SZ n ls j-1)) rfl (y:=.int k) rfl ei) zG (zF _ _)) zh)) er) (by rw[Zi,JH];have:=hs k hk;omega) ?_));unfold qP;rw[Qe];refine xO _ _ fun i hi=>⟨[vI (leaI n ls k (pf p)+i),P],rfl,zr (x:=trD p) rfl (zD (zb (x:=.int (leaI n ls k (pf p)+i)) rfl zh) (ziK _)) ?_⟩
 unfold trD;rw[vC (by rw[Zi,pl];simp;omega)];show _=some (Zm.tuple (List.map Zm.int (p++[leaI n ls k (pf p)+(i:Int)])));rw[Qw];rfl
theorem zkO {i:Nat}{g:Env'→Option D}{ρ:Env'}{ds es:List D}(h1:g ρ=some (.list es)) (h2:ρ[i]?=some (some (.own (.list ds)))) (h3:ds.length+es.length≤16777216):sExt i g ρ=some (.nxt (ρ.set i (some (.own (.list (ds++es)))))):=by
 unfold sExt ownL;rw[h1,Zd,h2];exact if_pos h3
theorem zff {α β:Type}(f:α→List β) (l:List α) (i:Nat):((l.take i).flatMap f).length≤(l.flatMap f).length:=by
 rw[show l.flatMap f=(l.take i).flatMap f++(l.drop i).flatMap f by rw[←Eg,WM],Zx];omega
theorem zj0 (O:YOk c n ls) (hs:∀i,i<n→SZ n ls i≤1000) (hb:∀k,k≤n→(lasL n ls k).length≤16777216):F_lasting [zo c ls]=some (.tuple ((lasL n ls n).map trD)):=by
 have hn:=O.en;have hc:=O.ec;let Y:Option En:=some (.val (zo c ls));let Fu:Option En:=some (.val (.tuple (vD n fun j=>SZ n ls j-1)));have er:qH [.int c]=some (zA 0 n):=by
  rw[wI (by omega) (by omega)];congr 2;omega
 obtain⟨ρ1,e1,x3,x4,x5,hr⟩:=jP (h:=hName 3) (gb:=wx) (fun i ρ=>∃x3 x4 x5,ρ=[Y,Fu,some (.val (.list ((lasL n ls i).map trD))),x3,x4,x5]) (zA 0 n) 0 [Y,Fu,some (.val (.list ((lasL n ls 0).map trD))),none,none,none] ⟨none,none,none,rfl⟩ (by
  rintro k d ρ hd ⟨x3,x4,x5,rfl⟩;have hk:k<n:=by
   have:=(Qa.mp hd).1
   rwa [zU]at this
  rw[QH];let St:Option En:=some (.val (.list ((lasL n ls k).map trD)));let D3:Option En:=some (.val d);obtain⟨ρ2,e2,y5,hr2⟩:=jP (h:=hName 5) (gb:=ww) (fun i ρ=>∃y5,ρ=[Y,Fu,St,D3,some (.own (.list ((((lasL n ls k).take i).flatMap (qP n ls k)).map trD))),y5]) ((lasL n ls k).map trD) 0 [Y,Fu,St,D3,some (.own (.list [])),x5] ⟨x5,rfl⟩ (by
   rintro i d' ρ hd' ⟨y5,rfl⟩;rw[QH];rw[Ql]at hd';cases hp:(lasL n ls k)[i]? with
   | none=>rw[hp]at hd';cases hd'
   | some p =>
    rw[hp]at hd';obtain rfl:trD p=d':=QT hd';have g:=(wG O (by omega) p).mp (Jw hp);have et:(lasL n ls k).take (i+1)=(lasL n ls k).take i++[p]:=by rw[Bo,hp];rfl
    refine⟨_,[Y,Fu,St,D3,some (.own (.list ((((lasL n ls k).take (i+1)).flatMap (qP n ls k)).map trD))),some (.val (trD p))],rfl,?_,some (.val (trD p)),rfl⟩;unfold ww;have bd:((((lasL n ls k).take i).flatMap (qP n ls k)).map trD).length+((qP n ls k p).map trD).length≤16777216:=by
     rw[Zi,Zi];have:=zff (qP n ls k) (lasL n ls k) (i+1);rw[et,Eg,Zx]at this;have h2:=hb (k+1) (by omega);have h3:(lasL n ls (k+1)).length=((lasL n ls k).flatMap (qP n ls k)).length:=rfl;rw[show [p].flatMap (qP n ls k)=qP n ls k p by simp]at this;omega
    have:=zkO (i:=4) (g:=gA (zH 3 F_one_heap_longer) (zc (gVar 0) (zc (gVar 5) (zc (gVar 1) gNil)))) (ρ:=[Y,Fu,St,D3,some (.own (.list ((((lasL n ls k).take i).flatMap (qP n ls k)).map trD))),some (.val (trD p))]) (zD (zb (x:=zo c ls) rfl (zb (x:=trD p) rfl (zb (x:=.tuple (vD n fun j=>SZ n ls j-1)) rfl zh))) (by rw[qT];exact zfS O hs hk g)) rfl bd;refine this.trans ?_;rw[et,Eg,Qw,show [p].flatMap (qP n ls k)=qP n ls k p by simp];rfl)
  subst hr2;rw[QH,Zi,Ua]at e2;refine⟨_,[Y,Fu,some (.val (.list ((lasL n ls (k+1)).map trD))),D3,some (.val (.list ((lasL n ls (k+1)).map trD))),y5],rfl,?_,_,_,_,rfl⟩;unfold wx;rw[zk (ρ':=[Y,Fu,St,D3,some (.own (.list [])),x5]) rfl,zk (qb (qg (x:=.list ((lasL n ls k).map trD)) rfl (yj _)) e2)];rfl)
 subst hr;rw[QH,zU]at e1;unfold F_lasting;refine zC ?_;show vp [Y,none,none,none,none,none]=_;unfold vp;rw[zk (ρ':=[Y,Fu,none,none,none,none]) (zT (zD (zb (x:=zo c ls) rfl zh) (by rw[wv];exact zdX O)) rfl),
  zk (ρ':=[Y,Fu,some (.val (.list ((lasL n ls 0).map trD))),none,none,none]) (zT (ju (xR (zb (zD zh rfl) zh) (by simp))) rfl),
  zk (qb (jY (zb (zr (x:=zo c ls) rfl zG (jJ _ _)) zh) er) e1)]
 exact je (zD (zb (x:=.list ((lasL n ls n).map trD)) rfl zh) (jc _))
structure Lst (n:Nat) (ls:List (Int×Int×Int)) (r:Nat→Int):Prop where
 nn:∀j,j<n→0≤r j
 lt:∀j,j<n→r j<SZ n ls j
 last:Last n (tieB ls) r
noncomputable def Lik (n:Nat) (ls:List (Int×Int×Int)) (f g:Nat→Int):Prop:=∃z,∀j,j<n→g j=f j+fire n (RR n ls) z j
theorem Lik.refl (f:Nat→Int):Lik n ls f f:=⟨fun _=>0*0,fun j hj=>by rw[xl];omega⟩
theorem Lik.symm {f g:Nat→Int}(h:Lik n ls f g):Lik n ls g f:=by
 obtain⟨z,hz⟩:=h;exact⟨fun k=>(-1)*z k,fun j hj=>by rw[xl,hz j hj];omega⟩
theorem Lik.trans {f g h:Nat→Int}(a:Lik n ls f g) (b:Lik n ls g h):Lik n ls f h:=by
 obtain⟨z,hz⟩:=a;obtain⟨w,hw⟩:=b;exact⟨fun k=>z k+w k,fun j hj=>by rw[wQ,hw j hj,hz j hj];omega⟩
theorem Lik.add {f g f' g' : Nat→Int}(a:Lik n ls f g) (b:Lik n ls f' g'):Lik n ls (fun k=>f k+f' k) fun k=>g k+g' k:=by
 obtain⟨z,hz⟩:=a;obtain⟨w,hw⟩:=b;exact⟨fun k=>z k+w k,fun j hj=>by show g j+g' j=f j+f' j+_;rw[wQ,hw j hj,hz j hj];omega⟩
theorem Lik.eqv {f g f' g' : Nat→Int}(h:Lik n ls f g) (e1:∀j,j<n→f j=f' j) (e2:∀j,j<n→g j=g' j):Lik n ls f' g':=by
 obtain⟨z,hz⟩:=h;exact⟨z,fun j hj=>by rw[←e1 j hj,←e2 j hj];exact hz j hj⟩
theorem Lst.eq (O:YOk c n ls) {a b:Nat→Int}(ha:Lst n ls a) (hb:Lst n ls b) (h:Lik n ls a b):∀j,j<n→b j=a j:=by
 obtain⟨z,hz⟩:=h;exact zdd O.net ha.lt hb.lt ha.last hb.last hz
theorem qi (O:YOk c n ls) (q:List Int):q∈lasL n ls n↔q.length=n∧Lst n ls (pf q):=by
 rw[wG O (Zg n)];have e:∀j,j<n→fill (SZ n ls) n (pf q) j=pf q j:=fun j hj=>if_pos hj;constructor
 ·intro g;exact⟨g.len,fun j hj=>(g.rg j hj).1,fun j hj=>(g.rg j hj).2,jC e g.la⟩
 ·rintro⟨l,h⟩;exact⟨l,fun j hj=>⟨h.nn j hj,h.lt j hj⟩,jC (fun j hj=>(e j hj).symm) h.last⟩
noncomputable def rowL (n:Nat) (f:Nat→Int):List Int:=(ZJ n).map f
theorem zkN (n:Nat) (f:Nat→Int):(rowL n f).length=n:=by simp[rowL]
theorem zag (n:Nat) (f:Nat→Int) {j:Nat}(hj:j<n):pf (rowL n f) j=f j:=by simp[pf,rowL,hj]
theorem zgy (n:Nat) (f:Nat→Int):trD (rowL n f)=.tuple (vD n f):=by
 unfold trD rowL vD;rw[Qe];rfl
theorem zdz {q:List Int}(h:q.length=n):rowL n (pf q)=q:=by
 apply Vt;intro i;unfold rowL pf
 by_cases a:i<n
 ·simp[a,h]
 ·rw[Jl (by simp;omega),Jl (by omega)]
theorem zcw (O:YOk c n ls) {f:Nat→Int}(h:Lst n ls f):rowL n f∈lasL n ls n:=(qi O _).mpr ⟨zkN n f,fun j hj=>by rw[zag n f hj];exact h.nn j hj,fun j hj=>by rw[zag n f hj];exact h.lt j hj,jC (fun j hj=>(zag n f hj).symm) h.last⟩
theorem zj6 (O:YOk c n ls):∃e σ,Lift n (RR n ls) (SZ n ls) e σ:=by
 have sp:=O.net.size_pos;obtain⟨t,_,o,_⟩:=xo O (fun k=>2*SZ n ls k) (fun j hj=>by show 0≤2*SZ n ls j;have:(1:Int)≤SZ n ls j:=sp j hj;omega) 0;have nn:∀j,j<n→0≤fc n (RR n ls) (fun k=>2*SZ n ls k) t j:=zgv O (fun j hj=>by show 0≤2*SZ n ls j;have:(1:Int)≤SZ n ls j:=sp j hj;omega) o;exact⟨fun k=>2*SZ n ls k-fc n (RR n ls) (fun k=>2*SZ n ls k) t k,_,⟨t,o,fun _ _=>rfl⟩,fun _ _=>rfl,o.br.2,nn⟩
noncomputable def oneI (a:Nat→Int) (p k:Nat):Int:=if k=p then a k+1 else a k
theorem zdF (O:YOk c n ls) {a t:Nat→Int}{p:Nat}(hp:p<n) (ha:Lst n ls a) (o:Odo n (RR n ls) (SZ n ls) (oneI a p) t):Lst n ls (fc n (RR n ls) (oneI a p) t)∧Lik n ls (oneI a p) (fc n (RR n ls) (oneI a p) t):=by
 obtain⟨e,σ,L⟩:=zj6 O;have e1:∀k,k<n→oneI a p k=a k+(if k=p then 1 else 0):=fun k _=>by unfold oneI;split <;> omega
 have nn0:∀k,k<n→0≤oneI a p k:=fun k hk=>by rw[e1 k hk];have:=ha.nn k hk;split <;> omega
 refine⟨⟨zgv O nn0 o,o.br.2,?_⟩,t,fun j hj=>rfl⟩;have b0:∀j,j<n→(0:Int)≤(fun k=>if k=p then(1:Int) else 0) j:=fun j _=>by show(0:Int)≤if j=p then 1 else 0;split <;> omega
 refine ziv O.net L (fun g hg=>zln O g hg) ha.nn ha.lt ha.last b0 ?_;exact⟨t,o.congr e1 fun _ _=>rfl,fun j hj=>qx (e1 j hj) fun _ _=>rfl⟩
theorem zk1 (O:YOk c n ls):Lst n ls fun j=>SZ n ls j-1 :=
 ⟨fun j hj=>by have:(1:Int)≤SZ n ls j:=O.net.size_pos j hj;show 0≤SZ n ls j-1;omega,fun j _=>by show SZ n ls j-1<SZ n ls j;omega,zbk O.net⟩
theorem zhx (O:YOk c n ls) {r:Nat→Int}(hr:Lst n ls r):∃y:Nat→Nat,Lik n ls (fun j=>SZ n ls j-1+(y j:Int)) r:=by
 have sp:∀j,j<n→(1:Int)≤SZ n ls j:=O.net.size_pos;obtain⟨t,o⟩:=zfa O (SZ n ls) fun j hj=>by have:=sp j hj;omega
 have neg:∀j,j<n→fire n (RR n ls) t j ≤ -1:=fun j hj=>by
  have:=o.br.2 j hj;rw[xQ]at this;omega
 let M:Int:=sm n (SZ n ls);have bM:∀j,j<n→SZ n ls j≤M:=fun j hj=>zgG hj fun k hk _=>by have:=sp k hk;omega
 have pos:∀j,j<n→0≤r j-(SZ n ls j-1)-M*fire n (RR n ls) t j:=fun j hj=>by
  have a:=hr.nn j hj;have b:=bM j hj;have d:=Vs (neg j hj) (show(0:Int)≤M by have:=sp j hj;omega);rw[show M * -1=-M by omega]at d;omega
 refine⟨fun j=>(r j-(SZ n ls j-1)-M*fire n (RR n ls) t j).toNat,fun k=>M*t k,fun j hj => ?_⟩;have:=pos j hj;show r j=SZ n ls j-1+((r j-(SZ n ls j-1)-M*fire n (RR n ls) t j).toNat:Int)+_;rw[El this,xl];omega
theorem zdS (O:YOk c n ls) {met:List (List Int)}(hm:∀q∈met,q∈lasL n ls n) (ht:rowL n (fun j=>SZ n ls j-1)∈met) (cl:∀q∈met,∀p,p<n→∀t,Odo n (RR n ls) (SZ n ls) (oneI (pf q) p) t→rowL n (fc n (RR n ls) (oneI (pf q) p) t)∈met) :
  ∀q∈lasL n ls n,q∈met:=by
 have go:∀(m:Nat) (y:Nat→Nat),(sm n fun j=>(y j:Int))=m→∃q∈met,Lik n ls (fun j=>SZ n ls j-1+(y j:Int)) (pf q):=by
  intro m
  induction m with
  | zero =>
   intro y hy;refine⟨_,ht,?_⟩;have z:=zek (n:=n) (f:=fun j=>(y j:Int)) (fun k _=>by show(0:Int)≤(y k:Int);omega) hy;refine(Lik.refl _).eqv (fun j _=>rfl) fun j hj => ?_;have:=z j hj;rw[zag n _ hj];omega
  | succ m ih =>
   intro y hy;obtain⟨p,hp,hy1⟩:∃p,p<n∧1≤y p:=by
    apply Ja;intro no;have:(sm n fun j=>(y j:Int))=sm n fun _=>0*0:=zO fun k hk=>by
     have:¬1≤y k:=fun z=>no ⟨k,hk,z⟩;omega
    rw[xc,Rv]at this;omega
   have e:=zcD hp (fun j=>(((fun k=>if k=p then y k-1 else y k) j:Nat):Int)) 1;have e2:(sm n fun j=>(y j:Int))=sm n fun k=>if k=p then(((fun k=>if k=p then y k-1 else y k) k:Nat):Int)+1 else(((fun k=>if k=p then y k-1 else y k) k:Nat):Int):=zO fun k _=>by
    by_cases z:k=p
    ·subst z;rw[if_pos rfl];show(y k:Int)=((if k=k then y k-1 else y k:Nat):Int)+1;rw[if_pos rfl];omega
    ·rw[if_neg z];show(y k:Int)=((if k=p then y k-1 else y k:Nat):Int)
     rw[if_neg z]
   obtain⟨q,hq,lq⟩:=ih (fun k=>if k=p then y k-1 else y k) (by show(sm n fun j=>(((fun k=>if k=p then y k-1 else y k) j:Nat):Int))=m;omega);have hl:=(qi O q).mp (hm q hq);obtain⟨t,o⟩:=zfa O (oneI (pf q) p) fun k hk=>by
    unfold oneI;have:=hl.2.nn k hk;split <;> omega
   have st:=zdF O hp hl.2 o;refine⟨_,cl q hq p hp t o,?_⟩;have l1:Lik n ls (fun j=>SZ n ls j-1+(y j:Int)) (oneI (pf q) p):=by
    obtain⟨z,hz⟩:=lq;refine⟨z,fun j hj => ?_⟩;have:=hz j hj;unfold oneI
    by_cases w:j=p
    ·subst w;rw[if_pos rfl];rw[this];show SZ n ls j-1+((if j=j then y j-1 else y j:Nat):Int)+_+1=SZ n ls j-1+(y j:Int)+_;rw[if_pos rfl];omega
    ·rw[if_neg w,this];show SZ n ls j-1+((if j=p then y j-1 else y j:Nat):Int)+_=_;rw[if_neg w]
   exact(l1.trans st.2).eqv (fun _ _=>rfl) fun j hj=>(zag n _ hj).symm
 intro q hq;obtain⟨l,hl⟩:=(qi O q).mp hq;obtain⟨y,ly⟩:=zhx O hl;have y0:0≤sm n fun j=>(y j:Int):=ym fun k _=>by show(0:Int)≤(y k:Int);omega
 obtain⟨q',h1,h2⟩:=go (sm n fun j=>(y j:Int)).toNat y (by omega);obtain⟨l',hl'⟩:=(qi O q').mp (hm q' h1);have:=Lst.eq O hl' hl (h2.symm.trans ly);have e:q=q':=by rw[←zdz l,←zdz l'];exact ZZ fun j hj=>this j (ZR.mp hj)
 rw[e];exact h1
open PyProof.Rows
theorem zgF (l:List Int):ZQ (.list (l.map Zm.int))=true:=by
 have h1:QZ (l.map Zm.int)=true:=by
  induction l with
  | nil=>rfl
  | cons k l ih=>rw[Zk,QZ,ih];rfl
 have h2:Qz (l.map Zm.int)=0:=by
  clear h1
  induction l with
  | nil=>rfl
  | cons k l ih=>rw[Zk,Qz,ih];rfl
 simp[ZQ,QF,Vo,h1,h2]
theorem zlm (a:List Int):∀b:List Int,QQ (a.map Zm.int) (b.map Zm.int)=decide (a=b):=by
 induction a with
 | nil=>intro b;cases b <;> simp[QQ]
 | cons x xs ih =>
  intro b;cases b with
  | nil=>simp[QQ]
  | cons y ys =>
   have e:ZP (.int x) (.int y)=decide (x=y):=by
    by_cases h:x=y <;> simp[ZP,h]
   simp only[Zk,QQ,e,ih ys]
   by_cases e:x=y <;> by_cases e' : xs=ys <;> simp[e,e']
theorem zbQ (l:List Int):ZQ (trD l)=true:=by
 have:=zgF l;unfold trD;simp only[ZQ,QF,Vo]at this ⊢;exact this
theorem ze8 (a b:List Int):ZP (trD a) (trD b)=decide (a=b):=by
 unfold trD;rw[ZP,zlm]
noncomputable def mP (met:List (List Int)):List (D×D):=met.map fun q=>(trD q,.bool true)
noncomputable def mD (met:List (List Int)):D:=.dict ((.none,.none)::mP met)
theorem zgV (q:List Int):zd3 (trD q)=some (q.map Sum.inl):=by
 show(q.map Zm.int).mapM keyQ=_
 induction q with
 | nil=>rfl
 | cons i q ih =>
  rw[Zk,Jh,ih];rfl
theorem ziV (met:List (List Int)) (q:List Int):((mP met).any fun p=>ZP p.1 (trD q))=decide (q∈met):=by
 unfold mP;rw[TY,WF,Ye,decide_eq_true_eq];constructor
 ·rintro⟨x,hx,h⟩;have h' : ZP (trD x) (trD q)=true:=h;rw[ze8,decide_eq_true_eq]at h';exact h'▸hx
 ·intro hx;exact⟨q,hx,by show ZP (trD q) (trD q)=true;rw[ze8,decide_eq_true_eq]⟩
theorem zlJ (met:List (List Int)) (q:List Int):zhq (trD q) (mD met)=some (.bool (!decide (q∈met))):=by
 show(tabT (mD met)).bind _=_;rw[show tabT (mD met)=some (mP met) from rfl,Zd,zgV,Zd];congr 2;unfold yF;rw[Eu,←ziV];congr 1;rw[WF,List.find?_isSome,Ye]
theorem zmf {met:List (List Int)}{q:List Int}(h:q∉met):putD (mP met) (trD q) (.bool true)=mP (met++[q]):=by
 unfold putD;rw[ziV,decide_eq_false h];unfold mP;rw[Qw];rfl
theorem zme {met:List (List Int)}{q:List Int}{ρ:Env'}{gk:Env'→Option D}(h:q∉met) (hl:met.length<16777216) (h1:gk ρ=some (trD q)) (h2:ρ[3]?=some (some (.own (mD met)))):yS 3 gk (gK (.bool true)) ρ=some (.nxt (ρ.set 3 (some (.own (mD (met++[q])))))):=by
 unfold yS ownD;rw[zG,Zd,h1,Zd,h2];simp only[Zd];rw[show tabT (mD met)=some (mP met) from rfl,Zd,zgV,Zd,if_pos (show(mP met).length<Zu by unfold mP;rw[Zi];exact hl),zmf h];rfl
theorem zfM (L:List (List Int)):QZ (L.map trD)=true∧Qz (L.map trD)≤1:=by
 induction L with
 | nil=>exact⟨rfl,Qp _⟩
 | cons q L ih =>
  have:=zbQ q;rw[Zk,QZ,Qz];have hq:(trD q).canLay0=true∧(trD q).depth≤1:=by
   have h2:Qz (q.map Zm.int)=0:=by
    induction q with
    | nil=>rfl
    | cons k l ih=>rw[Zk,Qz,ih (zbQ l)];rfl
   unfold trD at this ⊢;simp only[ZQ,QM]at this;refine⟨this.1,?_⟩;rw[Vo,h2];exact Zg _
  exact⟨by rw[hq.1,ih.1];rfl,by omega⟩
theorem zlI (L:List (List Int)):neD (.list (L.map trD)) (.list [])=some (.bool (!L.isEmpty)):=by
 have h1:=zfM L;have s1:ZQ (.list (L.map trD))=true:=by
  have d:=h1.2;simp only[ZQ,QF,Vo,h1.1,Uk];exact decide_eq_true (show Qz (L.map trD)+1≤_ from Zt (JF d) (by decide))
 unfold neD;rw[s1,show ZQ (.list [])=true from rfl];cases L <;> simp[ZP,QQ]
theorem zj8 {met:List (List Int)}(h:∀q∈met,q≠[]):((mP met).map (·.1)).mapM qp=some met:=by
 unfold mP;rw[Qe];show(met.map trD).mapM qp=_
 induction met with
 | nil=>rfl
 | cons q met ih =>
  rw[Zk,Jh,ih fun x hx=>h x (.tail _ hx)];have:qp (trD q)=some q:=by
   show(wR (q.map Zm.int)).bind _=_;rw[zbn,Zd,if_neg (h q (.head _))]
  rw[this];rfl
theorem zgJ {met:List (List Int)}(h:∀q∈met,q≠[]) (nd:met.Nodup):kr [mD met]=some ((qo met).map trD):=by
 unfold kr;show((tabT (mD met)).bind _)=_;rw[show tabT (mD met)=some (mP met) from rfl,Zd,zj8 h,Zd,if_pos nd];rfl
theorem zj4 (p:List Int) {x y:Int}(h:x<y):HT.lexLt (p++[x]) (p++[y])=true:=by
 induction p with
 | nil =>
  show HT.lexLt [x] [y]=true;rw[xW,if_neg (by omega)];exact decide_eq_true h
 | cons a p ih =>
  show HT.lexLt (a::(p++[x])) (a::(p++[y]))=true;rw[xW,if_pos rfl];exact ih
theorem zj5 (u v:List Int):∀ {p q:List Int},p.length=q.length→HT.lexLt p q=true→HT.lexLt (p++u) (q++v)=true:=by
 intro p
 induction p with
 | nil =>
  intro q hl h;cases q with
  | nil=>rw[zck]at h;cases h
  | cons=>cases hl
 | cons a p ih =>
  intro q hl h;cases q with
  | nil=>cases hl
  | cons b q =>
   show HT.lexLt (a::(p++u)) (b::(q++v))=true;rw[xW]at h ⊢
   by_cases e:a=b
   ·rw[if_pos e]at h ⊢;exact ih (by simpa using hl) h
   ·rw[if_neg e]at h ⊢;exact h
theorem zj1 (O:YOk c n ls) {k:Nat}(hk:k≤n):(lasL n ls k).Pairwise fun a b=>HT.lexLt a b=true:=by
 induction k with
 | zero =>
  show [[]].Pairwise _;exact KR _ _
 | succ k ih =>
  have hl:∀q∈lasL n ls k,q.length=k:=fun q hq=>((wG O (by omega) q).mp hq).len;refine Gs.mpr ⟨fun p _=>JG.mpr (YB.imp fun {i j} h=>zj4 p (by omega)),(ih (by omega)).imp_of_mem ?_⟩;intro p q hp hq h x hx y hy;obtain⟨i,_,rfl⟩:=Qd.mp hx;obtain⟨j,_,rfl⟩:=Qd.mp hy;exact zj5 _ _ (by rw[hl p hp,hl q hq]) h
theorem ziC (O:YOk c n ls) {met:List (List Int)}(nd:met.Nodup) (h:∀q,q∈met↔q∈lasL n ls n):qo met=lasL n ls n:=by
 refine(vj ((Lj (vY O (Zg n)) nd).mpr fun q=>(h q).symm) ((zj1 O (Zg n)).imp fun {a b} h => ?_)).symm;show HT.lexLt b a=false;cases z:HT.lexLt b a with
 | false=>rfl
 | true =>
  have:=wV a b a h z;rw[wn]at this;cases this
theorem zde {α:Type} [DecidableEq α]:∀(a b:List α),a.Nodup→(∀x,x∈a→x∈b)→a.length≤b.length
 | [],_,_,_=>Qp _
 | x::a,b,nd,h=>by
  have nd':=Js.mp nd;have hx:=h x (.head _);have:=zde a (b.erase x) nd'.2 fun y hy=>(RD (a:=y) (b:=x) (fun e=>nd'.1 (e▸hy))).mpr (h y (.tail _ hy));rw[Wg hx]at this;have p:=Vx hx;show a.length+1≤_;omega
noncomputable def rcE (c:Int) (n:Nat) (ls:List (Int×Int×Int)) (met todo:List (List Int)) (x5 x6 x7 x8:Option En):Env' :=
 [some (.val (zo c ls)),some (.val (.list (vD n (SZ n ls)))),some (.val (.tuple (vD n fun j=>SZ n ls j-1))),some (.own (mD met)),some (.own (.list (todo.map trD))),x5,x6,x7,x8]
noncomputable def nxL (n:Nat) (ls:List (Int×Int×Int)) (q:List Int) (p:Nat) (t:Nat→Int):List Int:=rowL n (fc n (RR n ls) (oneI (pf q) p) t)
theorem zj9 (O:YOk c n ls) {q:List Int}(hq:q.length=n) {p:Nat}(hp:p<n) {ρ:Env'}(h5:ρ[5]?=some (some (.val (trD q)))) (h6:ρ[6]?=some (vI p)) :
  (g2 addD (g2 addD (gSl (gVar 5) qU (qF (gVar 6))) (gA tupD (zc (g2 addD (g2 ixD (gVar 5) (gVar 6)) (gK (.int 1))) gNil))) (gSl (gVar 5) (qF (g2 addD (gVar 6) (gK (.int 1)))) qU)) ρ=some (.tuple (vD n (oneI (pf q) p))):=by
 have hn:=O.en;have eq:trD q=.tuple (vD n (pf q)):=by unfold trD;rw[←zl8,hq]
 have v5:gVar 5 ρ=some (.tuple (vD n (pf q))):=by unfold gVar;rw[h5,eq]
 have v6:gVar 6 ρ=some (.int p):=by unfold gVar;rw[h6]
 have e1:slD (.tuple (vD n (pf q))) none (some (p:Int))=some (.tuple ((vD n (pf q)).take p)):=by
  show some (Zm.tuple (cutD _ none (some (p:Int))))=_;rw[zbh _ _ (by rw[jn];omega)]
 have e2:slD (.tuple (vD n (pf q))) (some ((p:Int)+1)) none=some (.tuple ((vD n (pf q)).drop (p+1))):=by
  show some (Zm.tuple (cutD _ (some ((p+1:Nat):Int)) none))=_;rw[vN _ _ (by rw[jn];omega)]
 have e3:ixD (.tuple (vD n (pf q))) (.int p)=some (.int (pf q p)):=by
  have:=zcK (n:=n) (f:=pf q) (j:=p) (by omega) (by omega)
  rwa [show((p:Int).toNat)=p by omega]at this
 have e4:(vD n (pf q)).take p++[Zm.int (pf q p+1)]++(vD n (pf q)).drop (p+1)=vD n (oneI (pf q) p):=by
  have:=zg2 (n:=n) (f:=pf q) (i:=p) (x:=pf q p+1);rw[Bg,if_pos (by rw[jn];exact hp)]at this;rw[QW];refine this.trans (jE fun k _ => ?_);unfold oneI
  by_cases e:k=p
  ·subst e;simp
  ·rw[if_neg e,if_neg e]
 rw[←e4];refine zr (zr (zbl v5 rfl (xS v6) e1) (zD (zb (zr (zr v5 v6 e3) zG (zF _ _)) zh) (ziK _)) (vC ?_)) (zbl v5 (xS (zr v6 zG (zF _ _))) rfl e2) (vC ?_)
 ·rw[Jt,jn];show min p n+1≤_;omega
 ·rw[Zx,Jt,Wo,jn];show min p n+1+_≤_;omega
theorem zlL (O:YOk c n ls) {met todo:List (List Int)}{q:List Int}{p:Nat}{x7 x8:Option En}(hp:p<n) (hq:q∈lasL n ls n) (hm:met.length<16777216) (ht:todo.length<16777216) :
  ∃t,Odo n (RR n ls) (SZ n ls) (oneI (pf q) p) t∧jO (rcE c n ls met todo (some (.val (trD q))) (vI p) x7 x8)=some (.nxt (if nxL n ls q p t∈met then rcE c n ls met todo (some (.val (trD q))) (vI p) (some (.val (.tuple (vD n (oneI (pf q) p))))) (some (.val (trD (nxL n ls q p t)))) else rcE c n ls (met++[nxL n ls q p t]) (todo++[nxL n ls q p t]) (some (.val (trD q))) (vI p) (some (.val (.tuple (vD n (oneI (pf q) p))))) (some (.val (trD (nxL n ls q p t)))))):=by
 obtain⟨hl,L⟩:=(qi O q).mp hq;obtain⟨t,e,o,_⟩:=xo O (oneI (pf q) p) (fun j hj=>by have:=L.nn j hj;unfold oneI;split <;> omega) 5;refine⟨t,o,?_⟩;have er:trD (nxL n ls q p t)=.tuple (vD n (fc n (RR n ls) (oneI (pf q) p) t)):=zgy _ _;generalize hr:nxL n ls q p t=r at er ⊢;unfold jO;rw[zk (ρ':=rcE c n ls met todo (some (.val (trD q))) (vI p) (some (.val (.tuple (vD n (oneI (pf q) p))))) x8) (zT (zj9 O hl hp rfl rfl) rfl)];rw[zk (ρ':=rcE c n ls met todo (some (.val (trD q))) (vI p) (some (.val (.tuple (vD n (oneI (pf q) p))))) (some (.val (trD r)))) (zT (zr (zD (zb (x:=zo c ls) rfl (zb (x:=.tuple (vD n (oneI (pf q) p))) rfl (zb zG zh))) (by rw[qT];exact e)) zG (d:=trD r) (by rw[er];rfl)) rfl)];have ec:gBo (g2 zhq (gVar 8) (xm 3)) (rcE c n ls met todo (some (.val (trD q))) (vI p) (some (.val (.tuple (vD n (oneI (pf q) p))))) (some (.val (trD r))))=some (!decide (r∈met)):=jF (zr (x:=trD r) rfl (y:=mD met) rfl (zlJ met r))
 by_cases h:r∈met
 ·rw[if_pos h,zgA (by rw[ec,decide_eq_true h];rfl)];rfl
 ·rw[if_neg h,zkP (by rw[ec,decide_eq_false h];rfl)];rw[zk (zme h hm (gk:=gVar 8) rfl rfl)];refine(kl (ds:=todo.map trD) (d:=trD r) rfl rfl (by rw[Zi];exact ht)).trans ?_;show _=some (Out.nxt (rcE c n ls (met++[r]) (todo++[r]) _ _ _ _));unfold rcE;rw[Qw];rfl
structure RcI (n:Nat) (ls:List (Int×Int×Int)) (met todo:List (List Int)) (q:List Int) (i:Nat):Prop where
 nd:met.Nodup
 sub:∀x∈met,x∈lasL n ls n
 top:rowL n (fun j=>SZ n ls j-1)∈met
 td:∀x∈todo,x∈met
 cl:∀x∈met,x∉todo→∀p,p<n→(x≠q∨p<i)→∀t,Odo n (RR n ls) (SZ n ls) (oneI (pf x) p) t→nxL n ls x p t∈met
theorem zkd {q:List Int}{p:Nat}{t u:Nat→Int}(a:Odo n (RR n ls) (SZ n ls) (oneI (pf q) p) t) (b:Odo n (RR n ls) (SZ n ls) (oneI (pf q) p) u):nxL n ls q p t=nxL n ls q p u :=
 ZZ fun j hj=>qx rfl (a.one b)
theorem RcI.keep {met todo:List (List Int)}{q:List Int}{i:Nat}{t:Nat→Int}(I:RcI n ls met todo q i) (o:Odo n (RR n ls) (SZ n ls) (oneI (pf q) i) t) (h:nxL n ls q i t∈met):RcI n ls met todo q (i+1):=by
 refine⟨I.nd,I.sub,I.top,I.td,fun x hx hn p hp hc u ou => ?_⟩
 by_cases e:x≠q∨p<i
 ·exact I.cl x hx hn p hp e u ou
 ·have e1:x=q:=Ja fun z=>e (.inl z);have e2:p=i:=by
   have:¬p<i:=fun z=>e (.inr z);rcases hc with z | z
   ·exact absurd e1 z
   ·omega
  subst e1 e2;rw[zkd ou o];exact h
theorem RcI.add (O:YOk c n ls) {met todo:List (List Int)}{q:List Int}{i:Nat}{t:Nat→Int}(I:RcI n ls met todo q i) (hq:q∈met) (hi:i<n) (o:Odo n (RR n ls) (SZ n ls) (oneI (pf q) i) t) (h:nxL n ls q i t∉met):RcI n ls (met++[nxL n ls q i t]) (todo++[nxL n ls q i t]) q (i+1):=by
 have J:RcI n ls (met++[nxL n ls q i t]) (todo++[nxL n ls q i t]) q i:=by
  refine⟨?_,?_,JN _ I.top,?_,?_⟩
  ·refine YC.mpr ⟨I.nd,Js.mpr ⟨BP,UV⟩,fun a ha b hb => ?_⟩;rw[Zw.mp hb];exact fun e=>h (e▸ha)
  ·intro x hx;rcases ZW.mp hx with hx | hx
   ·exact I.sub x hx
   ·rw[Zw.mp hx];exact zcw O (zdF O hi ((qi O q).mp (I.sub q hq)).2 o).1
  ·intro x hx;rcases ZW.mp hx with hx | hx
   ·exact JN _ (I.td x hx)
   ·exact QV _ hx
  ·intro x hx hn p hp hc u ou;rcases ZW.mp hx with hx | hx
   ·exact JN _ (I.cl x hx (fun z=>hn (JN _ z)) p hp hc u ou)
   ·exact absurd (QV _ hx) hn
 exact J.keep o (QV _ (Zw.mpr rfl))
theorem zef (O:YOk c n ls) (h1:1≤n) (hL:(lasL n ls n).length≤4000000):F_law_reached [zo c ls]=some (.list ((lasL n ls n).map trD)):=by
 have hn:=O.en;have hc:=O.ec;have er:qH [.int c]=some (zA 0 n):=by
  rw[wI (by omega) (by omega)];congr 2;omega
 have et:rowL n (fun j=>SZ n ls j-1)∈lasL n ls n:=zcw O (zk1 O);let N:=(lasL n ls n).length;let ms:List (List Int)→List (List Int)→Nat:=fun met todo=>todo.length+2*(N-met.length);obtain⟨ρ',e,met,x5,x6,x7,x8,I,rfl⟩:=yJ (c:=gBo (g2 neD (xm 4) (gLs (gLst gNil)))) (gb:=qC)
  (fun m ρ=>∃met todo x5 x6 x7 x8,RcI n ls met todo [] n∧ms met todo=m∧m≤8000000∧ρ=rcE c n ls met todo x5 x6 x7 x8)
  (fun ρ=>∃met x5 x6 x7 x8,RcI n ls met [] [] n∧ρ=rcE c n ls met [] x5 x6 x7 x8)
  (fun m ρ hP=>by
   obtain⟨met,todo,x5,x6,x7,x8,I,hm,hb,hr⟩:=hP;subst hr;have ec:gBo (g2 neD (xm 4) (gLs (gLst gNil))) (rcE c n ls met todo x5 x6 x7 x8)=some (!todo.isEmpty):=jF (zr (x:=.list (todo.map trD)) rfl (ju (xR zh (show 0≤16777216 by decide))) (zlI todo))
   by_cases hne:todo=[]
   ·subst hne;exact .inl ⟨ec,met,x5,x6,x7,x8,I,rfl⟩
   ·let q:=todo.getLast hne;have hq:q∈todo:=List.getLast_mem hne;have hqm:=I.td q hq;have eS:todo=todo.dropLast++[q]:=(List.dropLast_concat_getLast hne).symm;have hlt:todo.length=todo.dropLast.length+1:=by
     rw[RG];have:=Nb.mpr hne;omega
    have hpop:sPop 4 5 (rcE c n ls met todo x5 x6 x7 x8)=some (.nxt (rcE c n ls met todo.dropLast (some (.val (trD q))) x6 x7 x8)):=by
     unfold sPop;have:ownL 4 (rcE c n ls met todo x5 x6 x7 x8)=some (todo.map trD):=rfl;rw[this,Zd];have e2:(todo.map trD)[(todo.map trD).length-1]?=some (trD q):=by
      rw[←List.getLast?_eq_getElem?,List.getLast?_map,List.getLast?_eq_getLast hne];rfl
     rw[e2];show some (Out.nxt _)=_;unfold rcE;rw[←List.map_dropLast];rfl
    obtain⟨ρ2,e2,met2,todo2,y6,y7,y8,J,hq2,hm2,hr2⟩:=jP (h:=hName 6) (gb:=jO) (fun i ρ=>∃met' todo' y6 y7 y8,RcI n ls met' todo' q i∧q∈met'∧ms met' todo'+1≤m∧ρ=rcE c n ls met' todo' (some (.val (trD q))) y6 y7 y8) (zA 0 n) 0 (rcE c n ls met todo.dropLast (some (.val (trD q))) x6 x7 x8) (by
     refine⟨met,todo.dropLast,x6,x7,x8,⟨I.nd,I.sub,I.top,fun x hx=>I.td x (List.dropLast_subset _ hx),?_⟩,hqm,?_,rfl⟩
     ·intro x hx hxt p hp hcx u ou;refine I.cl x hx (fun z => ?_) p hp (.inr hp) u ou;rw[eS]at z;rcases ZW.mp z with z | z
      ·exact hxt z
      ·rcases hcx with w | w
       ·exact w (Zw.mp z)
       ·omega
     ·show todo.dropLast.length+2*(N-met.length)+1≤m;have:todo.length+2*(N-met.length)=m:=hm;omega) (by
     rintro k d ρ hd ⟨met',todo',y6,y7,y8,J,hq',hm',rfl⟩;obtain⟨hk,ed⟩:k<n∧d=.int k:=by
      have hk:=(Qa.mp hd).1;rw[zU]at hk;refine⟨hk,?_⟩;unfold zA at hd;rw[Ql,Ef hk]at hd;have:=QT hd;rw[←this];show Zm.int (0+(k:Int))=_;rw[Wy]
     subst ed;rw[QH]at J ⊢;have hl:=zde met' (lasL n ls n) J.nd J.sub;have hm3:todo'.length+2*(N-met'.length)+1≤m:=hm';obtain⟨t,o,e3⟩:=zlL O (met:=met') (todo:=todo') (x7:=y7) (x8:=y8) hk (J.sub q hq') (by omega) (by omega);refine⟨rcE c n ls met' todo' (some (.val (trD q))) (vI k) y7 y8,_,rfl,e3,?_⟩
     by_cases h:nxL n ls q k t∈met'
     ·rw[if_pos h];exact⟨_,_,_,_,_,J.keep o h,hq',hm',rfl⟩
     ·rw[if_neg h];have J':=J.add O hq' hk o h;have hl':=zde _ (lasL n ls n) J'.nd J'.sub;refine⟨_,_,_,_,_,J',JN _ hq',?_,rfl⟩;show(todo'++[nxL n ls q k t]).length+2*(N-(met'++[nxL n ls q k t]).length)+1≤m;rw[Zx,Jk]at hl' ⊢;rw[Zx,Jk];have:met'.length+1≤N:=hl';omega)
    rw[zU,QH]at J;have hlen:=zde met (lasL n ls n) I.nd I.sub;subst hr2;refine .inr ⟨by rw[ec];cases todo with | nil=>exact absurd rfl hne | cons a r=>rfl,_,ms met2 todo2,?_,by omega,met2,todo2,some (.val (trD q)),y6,y7,y8,⟨J.nd,J.sub,J.top,J.td,fun x hx hxt p hp _ u ou=>J.cl x hx hxt p hp (.inr hp) u ou⟩,rfl,by omega,rfl⟩;unfold qC;rw[zk hpop];exact qb (jY (zb (zr (x:=zo c ls) rfl zG (jJ c ls)) zh) er) e2)
  (ms [rowL n (fun j=>SZ n ls j-1)] [rowL n (fun j=>SZ n ls j-1)]) (rcE c n ls [rowL n (fun j=>SZ n ls j-1)] [rowL n (fun j=>SZ n ls j-1)] none none none none)
  ⟨_,_,_,_,_,_,⟨Js.mpr ⟨BP,UV⟩,fun x hx=>by rw[Zw.mp hx];exact et,Zw.mpr rfl,fun x hx=>hx,fun x hx hxt=>absurd hx hxt⟩,rfl,by
   show 1+2*(N-1)≤8000000;have:=Vx et;have:N≤4000000:=hL;omega,rfl⟩
 have all:∀q,q∈met↔q∈lasL n ls n:=fun q=>⟨I.sub q,zdS O I.sub I.top (fun x hx p hp t o=>I.cl x hx BP p hp (.inr hp) t o) q⟩
 have ne:∀q∈met,q≠[]:=fun q hq z=>by
  have:=((qi O q).mp (I.sub q hq)).1;rw[z]at this;have:0=n:=this;omega
 unfold F_law_reached;refine zC ?_;show xj [some (.val (zo c ls)),none,none,none,none,none,none,none,none]=_;unfold xj;have es:F_law_sizes [zo c ls]=some (.list (vD n (SZ n ls))):=by
  rw[yM c (by omega) (by omega) ls O.len O.lk];congr 2;unfold zai vD;rw[Qe,show c.toNat=n by omega];exact ZZ fun k _=>congrArg Zm.int (qA O.ec O.lk k)
 rw[zk (zT (zD (zb (x:=zo c ls) rfl zh) (by rw[wv];exact es)) rfl)];rw[zk (zT (d:=.tuple (vD n fun j=>SZ n ls j-1)) (zD (zb (ju (zX (ds:=vD n (SZ n ls)) (qg (x:=.list (vD n (SZ n ls))) rfl rfl) (by rw[jn];omega) (xO _ _ fun k hk=>⟨[vI (SZ n ls k)],rfl,zr (x:=.int (SZ n ls k)) rfl zG (qB _ _)⟩))) zh) (jc _)) rfl)];rw[zk (ρ':=[some (.val (zo c ls)),some (.val (.list (vD n (SZ n ls)))),some (.val (.tuple (vD n fun j=>SZ n ls j-1))),some (.own (mD [rowL n (fun j=>SZ n ls j-1)])),none,none,none,none,none]) (by
  unfold zcy;show(some (Zm.tuple (vD n fun j=>SZ n ls j-1))).bind _=_;rw[Zd,zG,Zd,←zgy,zgV,Zd];rfl)]
 rw[zk (ρ':=rcE c n ls [rowL n (fun j=>SZ n ls j-1)] [rowL n (fun j=>SZ n ls j-1)] none none none none) (by
  refine(zaM (xR (zb (x:=.tuple (vD n fun j=>SZ n ls j-1)) rfl zh) (show 1≤16777216 by decide))).trans ?_;unfold rcE;rw[Nu,zgy];rfl)]
 rw[zk (kn e)];refine je (ju (zce (zb (x:=mD met) rfl zh) ?_));rw[zgJ ne I.nd,ziC O I.nd all]
end L2.Y
namespace L2.Y
open PySem L2.Sd L2.Ct
variable {c:Int}{n:Nat}{ls:List (Int×Int×Int)}
noncomputable def UL (n:Nat):List Int:=(ZJ n).map fun(k:Nat)=>((k+1:Nat):Int)
theorem qL {p:Int}:p∈UL n↔1≤p∧p≤n:=by
 unfold UL;rw[Qd];constructor
 ·rintro⟨k,hk,rfl⟩;have:=ZR.mp hk;omega
 ·intro h;exact⟨(p-1).toNat,ZR.mpr (by omega),by omega⟩
theorem zmC (n:Nat):(UL n).Nodup:=JG.mpr (YB.imp fun {a b} h=>by omega)
theorem zla (n:Nat):(UL n).length=n:=by simp[UL]
theorem zbX:∀l:List L3,subs l=subL l
 | []=>rfl
 | x::l=>by rw[subs,subL,zbX l]
theorem zaS:∀ {l s:List L3},s∈subL l→∀x∈s,x∈l
 | [],s,h,x,hx=>by
  rw[subL,Zw]at h;subst h;cases hx
 | y::l,s,h,x,hx=>by
  rw[subL]at h;rcases ZW.mp h with h | h
  ·exact .tail _ (zaS h x hx)
  ·obtain⟨s',h',rfl⟩:=Qd.mp h;rcases ZS.mp hx with rfl | hx
   ·exact .head _
   ·exact .tail _ (zaS h' x hx)
theorem zfj:∀(r:List L3) (w:Int),r.foldl (fun w l=>w*l.2.2) w=w*wy r
 | [],w=>by show w=w*1;omega
 | l::r,w=>by rw[Gn,zfj r,wd,Tv]
theorem zk5 (r:List L3):ways r=wy r:=by unfold ways;rw[zfj,Mq]
theorem zcW {s:List L3}(h:∀l∈s,InL n l):Conn n s↔Cn (UL n) s:=by
 constructor
 ·intro k S a b p hp;have:=qL.mp hp;exact k S (a 0 fun z=>by have:=qL.mp z;omega) b p (by omega) this.2
 ·intro k S s0 b p p0 p1;have at' : ∀q,0≤q→q≤(n:Int)→((q∈UL n→S q)↔S q):=fun q q0 q1=>by
   by_cases e:q=0
   ·subst e;exact⟨fun _=>s0,fun z _=>z⟩
   ·exact⟨fun z=>z (qL.mpr (by omega)),fun z _=>z⟩
  by_cases e:p=0
  ·rw[e];exact s0
  ·have:=k (fun q=>q∈UL n→S q) (fun q hq z=>absurd z hq) (fun l hl=>by
    obtain⟨q1,q2,q3⟩:=h l hl;exact(at' l.1 q1 (by omega)).trans ((b l hl).trans (at' l.2.1 (by omega) q3).symm)) p (qL.mpr (by omega))
   exact this (qL.mpr (by omega))
theorem zmI {s:List L3}(h:∀l∈s,InL n l):fT n s=fU (UL n) s:=by
 unfold fT fU trB;rw[zla,zk5]
 by_cases e:s.length=n∧Cn (UL n) s
 ·rw[if_pos e,decide_eq_true e.1,decide_eq_true ((vZ h).mpr ((zcW h).mpr e.2)),if_pos (by rfl)]
 ·rw[if_neg e,if_neg];intro z;rw[QM]at z;exact e ⟨of_decide_eq_true z.1,(zcW h).mp ((vZ h).mp (of_decide_eq_true z.2))⟩
theorem zjv (h:∀l∈ls,InL n l):Tp n [] ls=sumS (fU (UL n)) ls:=by
 unfold Tp sumS;rw[zbX];congr 1;exact ZZ fun s hs=>zmI fun l hl=>h l (zaS hs l hl)
theorem ze2:∀ {ls:List L3},(∀l∈ls,InL n l)→∀p,dgL ls (fun _=>True) p=xZ ls p
 | [],_,_=>rfl
 | l::ls,h,p=>by
  obtain⟨_,q2,_⟩:=h l (.head _);rw[wf,ko,ze2 (ls:=ls) fun x hx=>h x (.tail _ hx)];congr 1;unfold tieL
  by_cases a:l.1=p
  ·rw[if_pos ⟨a,trivial⟩,if_neg (c:=l.2.1=p∧True) fun z=>by have:=z.1;omega,if_pos (.inl a)];omega
  ·by_cases b:l.2.1=p
   ·rw[if_neg (c:=l.1=p∧True) fun z=>a z.1,if_pos ⟨b,trivial⟩,if_pos (.inr b)];omega
   ·rw[if_neg (c:=l.1=p∧True) fun z=>a z.1,if_neg (c:=l.2.1=p∧True) fun z=>b z.1,if_neg fun z=>z.elim a b];rfl
theorem sm_z (n:Nat):(sm n fun _=>0)=0:=by
 have:=xc n 0 (fun _=>0);simpa using this
theorem zgH {k:Nat}(hk:k<n) (x:Int) {f:Nat→Int}(h:∀j,j<n→f j=if j=k then x else 0):sm n f=x:=by
 rw[zO h];have:=zcD hk (fun _=>0) x;rw[sm_z,Wy]at this;exact this
open Classical in
theorem zmp {l:L3}(hl:InL n l) (p:Int) {F:Int→Prop}(hF:∀q,F q→q∈UL n):tieL l p F=sm n fun j=>if F ((j+1:Nat):Int) then(if(p=l.1∧((j+1:Nat):Int)=l.2.1)∨(((j+1:Nat):Int)=l.1∧p=l.2.1) then l.2.2 else 0) else 0:=by
 obtain⟨q1,q2,q3⟩:=hl;unfold tieL
 by_cases a:l.1=p∧F l.2.1
 ·have u:=qL.mp (hF _ a.2);rw[if_pos a,if_neg (c:=l.2.1=p∧F l.1) fun z=>by have:=z.1;have:=a.1;omega,Fb];refine(zgH (k:=(l.2.1-1).toNat) (by omega) l.2.2 fun j _ => ?_).symm
  by_cases e:j=(l.2.1-1).toNat
  ·have e' : ((j+1:Nat):Int)=l.2.1:=by omega
   rw[if_pos e,e',if_pos a.2,if_pos (.inl ⟨a.1.symm,rfl⟩)]
  ·rw[if_neg e];split
   ·rw[if_neg];rintro (z | z)
    ·omega
    ·have:=a.1;omega
   ·rfl
 ·rw[if_neg a,Wy]
  by_cases b:l.2.1=p∧F l.1
  ·have u:=qL.mp (hF _ b.2);rw[if_pos b];refine(zgH (k:=(l.1-1).toNat) (by omega) l.2.2 fun j _ => ?_).symm
   by_cases e:j=(l.1-1).toNat
   ·have e' : ((j+1:Nat):Int)=l.1:=by omega
    rw[if_pos e,e',if_pos b.2,if_pos (.inr ⟨rfl,b.1.symm⟩)]
   ·rw[if_neg e];split
    ·rw[if_neg];rintro (z | z)
     ·have:=b.1;omega
     ·omega
    ·rfl
  ·rw[if_neg b];refine((zO fun j _ => ?_).trans (sm_z n)).symm;split
   ·rename_i f;rw[if_neg];rintro (z | z)
    ·exact a ⟨z.1.symm,z.2▸f⟩
    ·exact b ⟨z.2.symm,z.1▸f⟩
   ·rfl
open Classical in
theorem zjG:∀ {ls:List L3},(∀l∈ls,InL n l)→∀(p:Int) {F:Int→Prop},(∀q,F q→q∈UL n)→dgL ls F p=sm n fun j=>if F ((j+1:Nat):Int) then qN ls p ((j+1:Nat):Int) else 0
 | [],_,p,F,_=>by
  refine((zO fun j _ => ?_).trans (sm_z n)).symm;split <;> rfl
 | l::ls,h,p,F,hF=>by
  rw[wf,zmp (h l (.head _)) p hF,zjG (ls:=ls) (fun x hx=>h x (.tail _ hx)) p hF,←yl];exact zO fun j _=>by
   rw[vF _ _ _ _ (h l (.head _)).2.1];split
   ·rfl
   ·rfl
theorem zdv (O:YOk c n ls) (h:Int→Int):RestU (UL n) ls h↔(∀p,p∉UL n→h p=0)∧Lst n ls fun k=>h ((k+1:Nat):Int):=by
 have hc:=O.ec;have hin:∀l∈ls,InL n l:=fun l hl=>by
  obtain⟨a,b,d,_⟩:=O.lk l hl;exact⟨a,b,by omega⟩
 have sz:∀k:Nat,dgL ls (fun _=>True) ((k+1:Nat):Int)=SZ n ls k:=fun k=>by
  rw[ze2 hin];refine Eq.trans ?_ (qA O.ec O.lk k);congr 1;omega
 constructor
 ·intro r;refine⟨r.out,fun j hj=>r.nn _ (qL.mpr (by omega)),fun j hj => ?_,fun F fb => ?_⟩
  ·have:=r.lt ((j+1:Nat):Int) (qL.mpr (by omega));rw[sz j]at this;exact this
  ·obtain⟨⟨i,hi,fi⟩,fa⟩:=fb;have iff:∀k,k<n→((∃j,j<n∧((k+1:Nat):Int)=((j+1:Nat):Int)∧F j=true)↔F k=true):=fun k hk=>by
    constructor
    ·rintro⟨j,_,e,z⟩;have:k=j:=by omega
     exact this▸z
    ·exact fun z=>⟨k,hk,rfl,z⟩
   have sub:∀p:Int,(∃j:Nat,j<n∧p=((j+1:Nat):Int)∧F j=true)→p∈UL n:=fun p ⟨j,hj,e,_⟩=>qL.mpr (by omega);obtain⟨p,⟨j,hj,e,fj⟩,le⟩:=r.last (fun p=>∃j:Nat,j<n∧p=((j+1:Nat):Int)∧F j=true) ⟨((i+1:Nat):Int),qL.mpr (by omega),i,hi,rfl,fi⟩ sub;subst e;rw[zjG hin _ sub]at le;have:=fa j hj fj;have e2:dg n (tieB ls) F j=sm n fun k=>if(∃j:Nat,j<n∧((k+1:Nat):Int)=((j+1:Nat):Int)∧F j=true) then qN ls ((j+1:Nat):Int) ((k+1:Nat):Int) else 0:=zO fun k hk=>yD (iff k hk).symm
   have lt:h ((j+1:Nat):Int)<dg n (tieB ls) F j:=this;refine absurd lt (Bl.mpr (Gp (SX ?_) le));exact e2.trans (zO fun k _=>yD DX)
 ·rintro⟨out,r⟩;have idx:∀p∈UL n,∃k:Nat,k<n∧p=((k+1:Nat):Int):=fun p hp=>by
   have:=qL.mp hp;exact⟨(p-1).toNat,by omega,by omega⟩
  refine⟨out,fun p hp => ?_,fun p hp => ?_,fun F fe fs => ?_⟩
  ·obtain⟨k,hk,rfl⟩:=idx p hp;exact r.nn k hk
  ·obtain⟨k,hk,rfl⟩:=idx p hp;rw[sz k];exact r.lt k hk
  ·apply Ja;intro no;obtain⟨p,hp,fp⟩:=fe;obtain⟨i,hi,rfl⟩:=idx p hp
   letI:DecidablePred F:=fun p=>Classical.propDecidable _
   refine r.last (fun j=>decide (F ((j+1:Nat):Int))) ⟨⟨i,hi,decide_eq_true fp⟩,fun j hj fj => ?_⟩;apply Ja;intro z;refine no ⟨_,of_decide_eq_true fj,?_⟩;rw[zjG hin _ fs];have e2:dg n (tieB ls) (fun j=>decide (F ((j+1:Nat):Int))) j=sm n fun k=>if F ((k+1:Nat):Int) then qN ls ((j+1:Nat):Int) ((k+1:Nat):Int) else 0:=zO fun k hk=>yD decide_eq_true_iff
   rw[e2]at z;have z' : ¬h ((j+1:Nat):Int)<_:=z;have g:=Bl.mp z';refine Gp (SX (zO fun k _=>yD DX)) g
theorem zhl (O:YOk c n ls):(Tp n [] ls)=((lasL n ls n).length:Int):=by
 have hc:=O.ec;have hin:∀l∈ls,InL n l:=fun l hl=>by
  obtain⟨a,b,d,_⟩:=O.lk l hl;exact⟨a,b,by omega⟩
 obtain⟨k,⟨L,nd,mem,len⟩,e⟩:=zcI ls.length ls (UL n) rfl (zmC n) fun l hl=>by have:=(O.lk l hl).2.2.2.1;omega
 rw[zjv hin,e,←len];have iv:∀(h:Int→Int) (p:Int),p∈UL n→h p=pf (rowL n fun k=>h ((k+1:Nat):Int)) (p-1).toNat:=fun h p hp=>by
  have:=qL.mp hp;rw[zag n _ (by omega)];show _=h _;congr 1;omega
 have nd2:(L.map fun h=>rowL n fun k=>h ((k+1:Nat):Int)).Nodup:=JG.mpr (nd.imp_of_mem fun {a b} ha hb hab e=>hab (funext fun p=>by
  by_cases hp:p∈UL n
  ·rw[iv a p hp,iv b p hp,e]
  ·rw[((mem a).mp ha).out p hp,((mem b).mp hb).out p hp]))
 have pm:(L.map fun h=>rowL n fun k=>h ((k+1:Nat):Int)).Perm (lasL n ls n):=(Lj nd2 (vY O (Zg n))).mpr fun q=>by
  constructor
  ·intro hq;obtain⟨h,hh,rfl⟩:=Qd.mp hq;exact zcw O ((zdv O h).mp ((mem h).mp hh)).2
  ·intro hq;obtain⟨l,r⟩:=(qi O q).mp hq;have ek:∀k:Nat,k<n→(fun p:Int=>if 1≤p∧p≤n then pf q (p-1).toNat else 0) ((k+1:Nat):Int)=pf q k:=fun k hk=>by
    show(if 1≤((k+1:Nat):Int)∧((k+1:Nat):Int)≤n then pf q (((k+1:Nat):Int)-1).toNat else 0)=_;rw[if_pos (by omega)];congr 1;omega
   refine Qd.mpr ⟨fun p=>if 1≤p∧p≤n then pf q (p-1).toNat else 0,(mem _).mpr ((zdv O _).mpr ⟨fun p hp=>if_neg fun z=>hp (qL.mpr z),?_⟩),?_⟩
   ·exact⟨fun j hj=>by have:=ek j hj;have w:=r.nn j hj;rw[←this]at w;exact w,fun j hj=>by have:=ek j hj;have w:=r.lt j hj;rw[←this]at w;exact w,jC (fun j hj=>(ek j hj).symm) r.last⟩
   ·rw[←zdz l];exact ZZ fun k hk=>by
     rw[zdz l];exact ek k (ZR.mp hk)
 rw[←pm.length_eq,Zi]
theorem zlk (h:∀l∈ls,InL n l):(yW [[]] ls).filter (fun r=>decide (r.length=n))=(xC n [[]] ls).filter (trB n):=by
 have e:=wJ (n:=n) ls [[]] h (by simp);rw[show([[]]:List (List L3)).filter acB=[[]] from rfl]at e;rw[e,Wu];apply Vi;intro r hr;have hin:=zcx (P:=InL n) (n:=n) ls [[]] h (by simp) r hr;unfold trB
 by_cases q:r.length=n
 ·rw[decide_eq_true q,Uk,Uk];exact ziI hin q
 ·rw[decide_eq_false q,Kd,Kd]
theorem zeW (O:YOk c n ls) (h5:n≤5) (few:ls.length≤n+3) (ris:ls.Pairwise Ris):F_count_of [zo c ls]=some (.int (lasL n ls n).length):=by
 have hc:=O.ec;subst hc;have lk:=O.lk;have hin:∀l∈ls,InL n l:=fun l h=>⟨(lk l h).1,(lk l h).2.1,(lk l h).2.2.1⟩
 have pw:2^ls.length≤2^8:=GX (by omega) (by omega);have rsh:=zah (n:=n) ls [[]] (by simp);have rln:=zdA (n:=n) ls [[]];rw[Jk,Fw]at rln;obtain⟨T,hT⟩:∃T,T=(xC n [[]] ls).filter (trB n):=⟨_,rfl⟩
 have hdue:=zlk hin;have t64:T.length<64:=by
  have:=zhv (n:=n) (ls:=ls) h5 few;unfold cn at this;have s:T.length≤((xC n [[]] ls).filter fun r=>decide (r.length=n)).length:=by
   rw[hT,←Wz,←Wz];exact Ru fun r _ h=>by unfold trB at h;rw[QM]at h;exact h.1
  omega
 have ra:yW [[]] ls=(xC n [[]] ls).filter acB:=wJ (n:=n) ls [[]] hin (by simp);have et:F_trees [zo n ls]=some (.tuple (srtT T)):=by
  rw[ziJ rfl (by omega) lk (by omega) (by rw[hdue,←hT];exact t64) (by rw[hdue];exact zjY ris _ fun r hr=>by unfold trB at hr;rw[QM]at hr;exact of_decide_eq_true hr.1) (fun r hr=>by rw[ra]at hr;have:=rsh r (Qk.mp hr).1;omega) (by
   rw[ra];have:=VD acB (xC n [[]] ls);omega),hdue,←hT]
 rw[zhm et (by omega),hT,zaV];exact congrArg (fun z=>some (Zm.int z)) ((zgQ n ls).trans (zhl O))
end L2.Y
namespace L2.Y
open PySem L2.Sd
theorem zfr {most wide c:Int}{ls:List (Int×Int×Int)}(g:GoodYard most wide c ls) (hm:most≤50) (hw:wide≤4):YOk c c.toNat ls:=by
 have h1:=g.c1;have h2:=g.c2;have h3:=g.few;exact zmz (by omega) (by omega) (fun l hl=>by have:=g.rng l hl;exact⟨this.1,this.2.1,this.2.2.1,this.2.2.2.1,by omega⟩) (by omega) g.conn
variable {c:Int}{n:Nat}{ls:List (Int×Int×Int)}
noncomputable def prN (n:Nat) (ls:List (Int×Int×Int)):Nat→Nat
 | 0=>1
 | k+1=>prN n ls k*(SZ n ls k).toNat
theorem zch (O:YOk c n ls):∀k,k≤n→(lasL n ls k).length≤prN n ls k
 | 0,_=>Zg _
 | k+1,hk=>by
  have ih:=zch O k (by omega);show((lasL n ls k).flatMap (qP n ls k)).length≤prN n ls k*(SZ n ls k).toNat;have:∀l:List (List Int),(l.flatMap (qP n ls k)).length≤l.length*(SZ n ls k).toNat:=fun l=>by
   induction l with
   | nil=>simp
   | cons p l ih =>
    rw[Dl,Zx,Zz,Nat.add_mul,Fw];have e:(qP n ls k p).length=(SZ n ls k-leaI n ls k (pf p)).toNat:=by simp[qP]
    have:=(zi5 O (k:=k) (by omega) (pf p)).1;omega
  exact Zt (this _) (GZ _ ih)
theorem zgl {m:Nat}(h:∀i,i<n→SZ n ls i≤m):∀k,k≤n→prN n ls k≤m^k
 | 0,_=>Zg _
 | k+1,hk=>by
  have:=h k (by omega);exact Nat.mul_le_mul (zgl h k (by omega)) (by omega)
theorem zi2 {w:Int}(p:Int×Int×Int→Bool):∀ {ls:List (Int×Int×Int)},(∀l∈ls,0≤l.2.2∧l.2.2≤w)→0≤((ls.filter p).map (·.2.2)).sum∧((ls.filter p).map (·.2.2)).sum≤w*ls.length
 | [],_=>by simp
 | l::ls,h=>by
  have ih:=zi2 p (ls:=ls) fun x hx=>h x (Zq _ hx);have hl:=h l Zn;rw[Zz,show((ls.length+1:Nat):Int)=(ls.length:Int)+1 by omega,Mt,Mr];cases e:p l with
  | true=>rw[Qs e,Zk,Jc];omega
  | false=>rw[QC (by simp[e])];omega
theorem zcU {α:Type}{h:GT}{gt:Env'→Option Bool}{ge:Env'→Option D}{ρ:Env'}(p:α→D) (q:α→Bool) (f:α→D):∀l:List α,(∀x∈l,∃ρ1,h (p x) ρ=some ρ1∧gt ρ1=some (q x)∧ge ρ1=some (f x))→qv h gt ge ρ (l.map p)=some ((l.filter q).map f)
 | [],_=>rfl
 | x::l,hh=>by
  obtain⟨ρ1,e1,e2,e3⟩:=hh x Zn;have ih:=zcU p q f l fun y hy=>hh y (Zq _ hy);rw[Zk,qv,e1,Zd,e2,Zd];cases hq:q x
  ·rw[if_neg (by decide),ih,QC (by rw[hq];decide)]
  ·rw[if_pos rfl,e3,Zd,ih,Qs hq];rfl
theorem zkM (O:YOk c n ls):F_law_room [zo c ls]=some (.int (prN n ls n)):=by
 have hc:=O.ec;have hn:=O.en;let Y:Option En:=some (.val (zo c ls));obtain⟨ρ',e,x2,hr⟩:=jP (h:=hName 2) (gb:=xD) (fun i ρ=>∃x2,ρ=[Y,vI (prN n ls i:Int),x2]) (zA 1 n) 0 [Y,vI 1,none] ⟨none,rfl⟩ (fun k d ρ hk hZq=>by
  obtain⟨x2,hr⟩:=hZq;subst hr;rw[QH];let m:Int:=(prN n ls k:Int)
  obtain⟨hk2,rfl⟩:=qX hk;have bd:=zbY O.lk fun l=>decide (l.1=1+(k:Int))||decide (l.2.1=1+(k:Int));have hl:=O.len;have es:((ls.filter fun l=>decide (l.1=1+(k:Int))||decide (l.2.1=1+(k:Int))).map (·.2.2)).sum=SZ n ls k:=qA O.ec O.lk k;have s0:(1:Int)≤SZ n ls k:=O.net.size_pos k (by omega);have ep:(prN n ls (k+1):Int)=m*SZ n ls k:=by
   show((prN n ls k*(SZ n ls k).toNat:Nat):Int)=_;rw[Lb,show((SZ n ls k).toNat:Int)=SZ n ls k by omega]
  refine⟨[Y,vI m,vI (1+k)],[Y,vI (prN n ls (k+1):Int),vI (1+k)],rfl,?_,_,rfl⟩;rw[ep,←es];unfold xD;refine zT (zr (x:=.int m) rfl (zD (zb (ju (zX (ds:=ls.map zS) (qg (zr (x:=zo c ls) rfl zG (wU _ _)) rfl) (by rw[Zi];omega) (zcU zS (fun l=>decide (l.1=1+(k:Int))||decide (l.2.1=1+(k:Int))) (fun l=>.int l.2.2) ls fun l _=>⟨[some (.val (zS l)),vI (1+k)],rfl,jF (zr (x:=.int (1+k)) rfl (zbl (d:=zS l) rfl rfl (xS zG) (zdD l)) (zi4 _ _ _)),zr (x:=zS l) rfl zG (zdb l)⟩))) zh) (by
   have:((ls.filter fun l=>decide (l.1=1+(k:Int))||decide (l.2.1=1+(k:Int))).map fun l=>(.int l.2.2:D))=((ls.filter fun l=>decide (l.1=1+(k:Int))||decide (l.2.1=1+(k:Int))).map (·.2.2)).map Zm.int:=by rw[Qe];rfl
   rw[this];exact wc _)) (wq (by omega) (by omega))) rfl)
 subst hr;rw[QH,zU]at e;unfold F_law_room;refine zC ?_;show yw [Y,none,none]=_;unfold yw;rw[zk (ρ':=[Y,vI 1,none]) (zT zG rfl),zk (qb (ds:=zA 1 n) (jY (zb zG (zb (zr (zr (x:=zo c ls) rfl zG (jJ _ _)) zG (zF _ _)) zh)) (by rw[xY (by decide) (by decide) (by omega) (by omega),show(c+1-1).toNat=n by omega])) e)];exact je rfl
theorem zgR {most wide:Int}(O:YOk c n ls) (g:GoodYard most wide c ls):∀i,i<n→SZ n ls i≤wide*ls.length:=fun i hi=>by
 have:=(zi2 (w:=wide) (fun l=>decide (l.1=1+(i:Int))||decide (l.2.1=1+(i:Int))) (ls:=ls) fun l hl=>by have:=g.rng l hl;omega).2;have e:xZ ls (1+i)=SZ n ls i:=qA O.ec O.lk i;rw[←e];exact this
end L2.Y
namespace L2.Y
open PySem L2.Sd
theorem ze9:∀L:List (List Int),QQ (L.map trD) (L.map trD)=true
 | []=>by rw[YD,QQ]
 | q::L=>by rw[Zk,QQ,ze8,decide_eq_true rfl,ze9 L];rfl
theorem zkb (L:List (List Int)):neD (.tuple (L.map trD)) (.tuple (L.map trD))=some (.bool false):=by
 have h1:=zfM L;have s1:ZQ (.tuple (L.map trD))=true:=by
  have d:=h1.2;simp only[ZQ,QF,Vo,h1.1,Uk];exact decide_eq_true (show Qz (L.map trD)+1≤_ from Zt (JF d) (by decide))
 unfold neD;rw[s1,HX,if_pos rfl,ZP,ze9];rfl
theorem zjb {m n k:Nat}(hm:1≤m) (h:k≤n):m^k≤m^n:=GX hm h
theorem zjm {c:Int}{n:Nat}{ls:List (Int×Int×Int)}(O:YOk c n ls) (h1:1≤n) (h5:n≤5) (few:ls.length≤n+3) (ris:ls.Pairwise Ris) (hs:∀i,i<n→SZ n ls i≤1000) (hb:∀k,k≤n→(lasL n ls k).length≤40000) (S Y' : Option En) :
  (sSeq (sAsg (hName 3) (gA (zH 1 F_law_reached) (zc (gVar 1) gNil)))
  (sSeq (sIf (gBo (g2 neD (gA (zH 1 F_lasting) (zc (gVar 1) gNil)) (gA qt (zc (gVar 3) gNil))))
  (sRet (gK (.bool false)))
  sNil)
  (sSeq (sAsg (hName 4) (gA (zH 1 F_count_of) (zc (gVar 1) gNil)))
  (sRet (zcd (g1 (isI zfz) (gVar 4)) (zcd (zfm (g1 (isI zcg) (gVar 4))) (g2 eqD (gVar 4) (gA lenD (zc (gVar 3) gNil))))))))) [S,some (.val (zo c ls)),Y',none,none]=some (.ret (.bool true)):=by
 let Y:Option En:=some (.val (zo c ls));let L:=(lasL n ls n).map trD;have er:=zef O h1 (by have:=hb n (Zg n);omega);have el:=zj0 O hs fun k hk=>by have:=hb k hk;omega
 have ek:=zeW O h5 few ris;rw[zk (ρ':=[S,Y,Y',some (.val (.list L)),none]) (zT (zD (zb (x:=zo c ls) rfl zh) (by rw[wv];exact er)) rfl)];rw[zk (ρ':=[S,Y,Y',some (.val (.list L)),none]) (by
  rw[zgA (jF (zr (zD (zb (x:=zo c ls) rfl zh) (by rw[wv];exact el)) (zD (zb (x:=.list L) rfl zh) (jc _)) (zkb _)))];rfl)]
 rw[zk (ρ':=[S,Y,Y',some (.val (.list L)),vI ((lasL n ls n).length)]) (zT (zD (zb (x:=zo c ls) rfl zh) (by rw[wv];exact ek)) rfl)];refine je (zc6 (a:=true) (b:=true) (zlr (x:=.int ((lasL n ls n).length)) rfl rfl) fun _=>zc6 (a:=true) (b:=true) (zhz (b:=false) (zlr (x:=.int ((lasL n ls n).length)) rfl rfl)) fun _=>zr (x:=.int ((lasL n ls n).length)) rfl (zD (zb (x:=.list L) rfl zh) (d:=.int L.length) rfl) ?_);rw[vQ,decide_eq_true];show((lasL n ls n).length:Int)=(((lasL n ls n).map trD).length:Int)
 rw[Zi]
theorem zhR (ns:List Int) (hl:ns.length≤63):F_law [scrD (ns.map Zm.int)]=some (.bool true):=by
 obtain⟨c,ls,ey,gy⟩:=zg8 (mixI ns 0) 3 2 (by omega) (by omega) (by omega);obtain⟨c',ls',ey',gy'⟩:=zg8 (mixI ns 0) 5 1 (by omega) (by omega) (by omega);have O:=zfr gy (by omega) (by omega);have O':=zfr gy' (by omega) (by omega);have k1:=gy.c1;have k2:=gy.c2;have k3:=gy'.c1;have k4:=gy'.c2;have f1:=gy.few;have f2:=gy'.few;have sA:∀i,i<c.toNat→SZ c.toNat ls i≤12:=fun i hi=>by have:=zgR O gy i hi;omega
 have sB:∀i,i<c'.toNat→SZ c'.toNat ls' i≤8:=fun i hi=>by have:=zgR O' gy' i hi;omega
 have bA:∀k,k≤c.toNat→(lasL c.toNat ls k).length≤1728:=fun k hk=>by
  have a:=zch O k hk;have b:=zgl (m:=12) (fun i hi=>by have:=sA i hi;omega) k hk;have d:12^k≤12^3:=zjb (by decide) (by omega);omega
 have bB:∀k,k≤c'.toNat→(lasL c'.toNat ls' k).length≤32768:=fun k hk=>by
  have a:=zch O' k hk;have b:=zgl (m:=8) (fun i hi=>by have:=sB i hi;omega) k hk;have d:8^k≤8^5:=zjb (by decide) (by omega);omega
 have er:=zkM O';let S:Option En:=some (.val (scrD (ns.map Zm.int)));let Y:Option En:=some (.val (zo c ls));let Y' : Option En:=some (.val (zo c' ls'));unfold F_law;refine zC ?_;show zjs [S,none,none,none,none]=_;unfold zjs;rw[zk (ρ':=[S,Y,none,none,none]) (zT (zD (zb (zfY (ns:=ns) 0 (by omega) rfl) (zb zG (zb zG zh))) (by rw[qT];exact ey)) rfl),
  zk (ρ':=[S,Y,Y',none,none]) (zT (zD (zb (zfY (ns:=ns) 0 (by omega) rfl) (zb zG (zb zG zh))) (by rw[qT];exact ey')) rfl)]
 have ec:zdY (gBo (g2 eqD (g2 modD (gA (zH 2 F_law_mixed) (zc (gVar 0) (zc (gK (.int 8)) gNil))) (gK (.int 3))) (gK (.int 1)))) (gBo (g2 leD (gA (zH 1 F_law_room) (zc (gVar 2) gNil)) (gK (.int 200)))) [S,Y,Y',none,none]=some (decide (mixI ns 8%3=1)&&decide (((prN c'.toNat ls' c'.toNat:Nat):Int)≤200)) :=
  zc5 (jF (zr (zr (zfY (ns:=ns) 8 (by omega) rfl) zG (jf (by omega))) zG (vQ _ _))) fun _=>jF (zr (zD (zb (x:=zo c' ls') rfl zh) (by rw[wv];exact er)) zG (zj3 _ _))
 cases z:(decide (mixI ns 8%3=1)&&decide (((prN c'.toNat ls' c'.toNat:Nat):Int)≤200)) with
 | true =>
  rw[z]at ec;rw[zk (ρ':=[S,Y',Y',none,none]) (by rw[zkP ec];rfl)];exact zjm O' (by omega) (by omega) (by omega) gy'.ris (fun i hi=>by have:=sB i hi;omega) (fun k hk=>by have:=bB k hk;omega) _ _
 | false =>
  rw[z]at ec;rw[zk (ρ':=[S,Y,Y',none,none]) (by rw[zgA ec];rfl)];exact zjm O (by omega) (by omega) (by omega) gy.ris (fun i hi=>by have:=sA i hi;omega) (fun k hk=>by have:=bA k hk;omega) _ _
end L2.Y
set_option maxHeartbeats 4000000
namespace L2.Y
open PySem PySem.Spec PyProof.Rows
local macro_rules | `(! $x)=>`(by exact $x)
noncomputable def top (i:Nat):YZ:=HF.main.body.getD i (.Pass ⟨0,0,0,0⟩)
set_option genInjectivity false in
set_option genSizeOf false in
structure Adr where
 f_size_of:Zh
 d_size_of:QK
 f_sizes:Zh
 d_sizes:QK
 f_between:Zh
 d_between:QK
 f_all_below:Zh
 d_all_below:QK
 f_rests:Zh
 d_rests:QK
 f_ties_to:Zh
 d_ties_to:QK
 f_catching:Zh
 d_catching:QK
 f_burn:Zh
 d_burn:QK
 f_fullest:Zh
 d_fullest:QK
 f_least_heap:Zh
 d_least_heap:QK
 f_one_heap_longer:Zh
 d_one_heap_longer:QK
 f_lasting:Zh
 d_lasting:QK
 f_joined:Zh
 d_joined:QK
 f_grown:Zh
 d_grown:QK
 f_trees:Zh
 d_trees:QK
 f_count_of:Zh
 d_count_of:QK
 f_law_cell_at:Zh
 d_law_cell_at:QK
 f_law_mixed:Zh
 d_law_mixed:QK
 f_law_drawn:Zh
 d_law_drawn:QK
 f_law_yard:Zh
 d_law_yard:QK
 f_law_between:Zh
 d_law_between:QK
 f_law_sizes:Zh
 d_law_sizes:QK
 f_law_forced:Zh
 d_law_forced:QK
 f_law_rest:Zh
 d_law_rest:QK
 f_law_reached:Zh
 d_law_reached:QK
 f_law_room:Zh
 d_law_room:QK
 f_law:Zh
 d_law:QK
structure Tx (K:Frag) (mg:Str→Option Za) (a:Adr):Prop where
 F_size_of:Fun K "size_of" "size_of" (top 4) a.f_size_of a.d_size_of
 b_size_of:Binds K a.d_size_of ["yard", "place"] []
 m_size_of:mg "size_of" = some (.ref a.f_size_of)
 F_sizes:Fun K "sizes" "sizes" (top 5) a.f_sizes a.d_sizes
 b_sizes:Binds K a.d_sizes ["yard"] []
 m_sizes:mg "sizes" = some (.ref a.f_sizes)
 F_between:Fun K "between" "between" (top 6) a.f_between a.d_between
 b_between:Binds K a.d_between ["yard", "one", "other"] []
 m_between:mg "between" = some (.ref a.f_between)
 F_all_below:Fun K "all_below" "all_below" (top 8) a.f_all_below a.d_all_below
 b_all_below:Binds K a.d_all_below ["heaps", "limits"] []
 m_all_below:mg "all_below" = some (.ref a.f_all_below)
 F_rests:Fun K "rests" "rests" (top 9) a.f_rests a.d_rests
 b_rests:Binds K a.d_rests ["yard", "grains"] []
 m_rests:mg "rests" = some (.ref a.f_rests)
 F_ties_to:Fun K "ties_to" "ties_to" (top 11) a.f_ties_to a.d_ties_to
 b_ties_to:Binds K a.d_ties_to ["yard", "place", "others"] []
 m_ties_to:mg "ties_to" = some (.ref a.f_ties_to)
 F_catching:Fun K "catching" "catching" (top 12) a.f_catching a.d_catching
 b_catching:Binds K a.d_catching ["yard", "grains", "unburnt"] []
 m_catching:mg "catching" = some (.ref a.f_catching)
 F_burn:Fun K "burn" "burn" (top 13) a.f_burn a.d_burn
 b_burn:Binds K a.d_burn ["yard", "grains"] []
 m_burn:mg "burn" = some (.ref a.f_burn)
 F_fullest:Fun K "fullest" "fullest" (top 15) a.f_fullest a.d_fullest
 b_fullest:Binds K a.d_fullest ["yard"] []
 m_fullest:mg "fullest" = some (.ref a.f_fullest)
 F_least_heap:Fun K "least_heap" "least_heap" (top 16) a.f_least_heap a.d_least_heap
 b_least_heap:Binds K a.d_least_heap ["yard", "ahead", "behind"] []
 m_least_heap:mg "least_heap" = some (.ref a.f_least_heap)
 F_one_heap_longer:Fun K "one_heap_longer" "one_heap_longer" (top 17) a.f_one_heap_longer a.d_one_heap_longer
 b_one_heap_longer:Binds K a.d_one_heap_longer ["yard", "start", "full"] []
 m_one_heap_longer:mg "one_heap_longer" = some (.ref a.f_one_heap_longer)
 F_lasting:Fun K "lasting" "lasting" (top 18) a.f_lasting a.d_lasting
 b_lasting:Binds K a.d_lasting ["yard"] []
 m_lasting:mg "lasting" = some (.ref a.f_lasting)
 F_joined:Fun K "joined" "joined" (top 20) a.f_joined a.d_joined
 b_joined:Binds K a.d_joined ["groups", "one", "other"] []
 m_joined:mg "joined" = some (.ref a.f_joined)
 F_grown:Fun K "grown" "grown" (top 21) a.f_grown a.d_grown
 b_grown:Binds K a.d_grown ["stems", "tie"] []
 m_grown:mg "grown" = some (.ref a.f_grown)
 F_trees:Fun K "trees" "trees" (top 22) a.f_trees a.d_trees
 b_trees:Binds K a.d_trees ["yard"] []
 m_trees:mg "trees" = some (.ref a.f_trees)
 F_count_of:Fun K "count_of" "count_of" (top 23) a.f_count_of a.d_count_of
 b_count_of:Binds K a.d_count_of ["yard"] []
 m_count_of:mg "count_of" = some (.ref a.f_count_of)
 F_law_cell_at:Fun K "_law_cell_at" "_law_cell_at" (top 25) a.f_law_cell_at a.d_law_cell_at
 b_law_cell_at:Binds K a.d_law_cell_at ["_law_script", "_law_k"] []
 m_law_cell_at:mg "_law_cell_at" = some (.ref a.f_law_cell_at)
 F_law_mixed:Fun K "_law_mixed" "_law_mixed" (top 26) a.f_law_mixed a.d_law_mixed
 b_law_mixed:Binds K a.d_law_mixed ["_law_script", "_law_k"] []
 m_law_mixed:mg "_law_mixed" = some (.ref a.f_law_mixed)
 F_law_drawn:Fun K "_law_drawn" "_law_drawn" (top 27) a.f_law_drawn a.d_law_drawn
 b_law_drawn:Binds K a.d_law_drawn ["_law_number", "_law_k"] []
 m_law_drawn:mg "_law_drawn" = some (.ref a.f_law_drawn)
 F_law_yard:Fun K "_law_yard" "_law_yard" (top 28) a.f_law_yard a.d_law_yard
 b_law_yard:Binds K a.d_law_yard ["_law_number", "_law_most", "_law_wide"] []
 m_law_yard:mg "_law_yard" = some (.ref a.f_law_yard)
 F_law_between:Fun K "_law_between" "_law_between" (top 30) a.f_law_between a.d_law_between
 b_law_between:Binds K a.d_law_between ["_law_yard_here", "_law_one", "_law_other"] []
 m_law_between:mg "_law_between" = some (.ref a.f_law_between)
 F_law_sizes:Fun K "_law_sizes" "_law_sizes" (top 31) a.f_law_sizes a.d_law_sizes
 b_law_sizes:Binds K a.d_law_sizes ["_law_yard_here"] []
 m_law_sizes:mg "_law_sizes" = some (.ref a.f_law_sizes)
 F_law_forced:Fun K "_law_forced" "_law_forced" (top 32) a.f_law_forced a.d_law_forced
 b_law_forced:Binds K a.d_law_forced ["_law_yard_here", "_law_grains_here", "_law_times"] []
 m_law_forced:mg "_law_forced" = some (.ref a.f_law_forced)
 F_law_rest:Fun K "_law_rest" "_law_rest" (top 33) a.f_law_rest a.d_law_rest
 b_law_rest:Binds K a.d_law_rest ["_law_yard_here", "_law_grains_here", "_law_number"] []
 m_law_rest:mg "_law_rest" = some (.ref a.f_law_rest)
 F_law_reached:Fun K "_law_reached" "_law_reached" (top 34) a.f_law_reached a.d_law_reached
 b_law_reached:Binds K a.d_law_reached ["_law_yard_here"] []
 m_law_reached:mg "_law_reached" = some (.ref a.f_law_reached)
 F_law_room:Fun K "_law_room" "_law_room" (top 35) a.f_law_room a.d_law_room
 b_law_room:Binds K a.d_law_room ["_law_yard_here"] []
 m_law_room:mg "_law_room" = some (.ref a.f_law_room)
 F_law:Fun K "law" "law" (top 36) a.f_law a.d_law
 b_law:Binds K a.d_law ["_law_script"] []
 m_law:mg "law" = some (.ref a.f_law)
 n_all:mg "all" = none
 n_bool:mg "bool" = none
 n_int:mg "int" = none
 n_isinstance:mg "isinstance" = none
 n_len:mg "len" = none
 n_list:mg "list" = none
 n_max:mg "max" = none
 n_min:mg "min" = none
 n_range:mg "range" = none
 n_sorted:mg "sorted" = none
 n_sum:mg "sum" = none
 n_tuple:mg "tuple" = none
 n_zip:mg "zip" = none
section
variable (P:Qc) (w:QG) (K:Frag) (mg:Str→Option Za) (base:Je) (a:Adr) (cdv:Za) (A:QB) (outer:List Env) (s:Zf) (H:Hp) (E:XK)
end
section
variable {P:Qc}{w:QG}{K:Frag}{mg:Str→Option Za}{base:Je}{a:Adr}
theorem zeB:FnScope ["yard", "place"] ["yard", "place"] (zd (top 4)):=⟨rfl,rfl,rfl,by decide +kernel,rfl,by decide +kernel,by decide +kernel⟩
theorem zd8 (T:Tx K mg a):FnOk P w K mg base CX0 1 a.f_size_of a.d_size_of ["yard", "place"] (spD K 2 F_size_of):=by
 refine jW (N:=["yard", "place"]) T.F_size_of zeB fun cdv A outer s H E hr => ?_;have hu66:=yC hr
 conv in (zj _)=>whnf
 exact(!zn (!zB (!jd (qE (!rfl)) (!rfl) T.n_sum Bd (!jp (!rfl) (!PD.b (!PFr.d_ (!jG (zI (oscope:=zd (top 4)) (oN:=["yard", "place"]) (own:=["one", "other", "many"]) (caps:=[1]) (N:=["one", "other", "many", "place"]) (by decide +kernel) (!rfl) (!rfl)) (by decide) (yb (ji (zv (by decide)) (ji (zv (by decide)) (ji (zv (by decide)) ya)))) (!rfl) (!jy (!jq (!PD.b (!za (pv 0))) (!PD.b (!zg)) (fun _ _=>(!rfl)))) (fun _ _ _ _ _=>(!qG (!rfl) (!zw (!ze (zM (i:=0) (nd_ ["one", "other", "many", "place"]) (!rfl) (Or.inl (!rfl)))) (!zw (!ze (zM (i:=1) (nd_ ["one", "other", "many", "place"]) (!rfl) (Or.inl (!rfl)))) (!zw (!ze (zM (i:=2) (nd_ ["one", "other", "many", "place"]) (!rfl) (Or.inl (!rfl)))) (!jR)))))) (fun _ _ _ _ _=>(!qd (!ja (zf6 hu66) (!PD.b (!za (pv 3))) (!PD.b (!jm (!zm (!rfl) (!za (pv 0)) (!zm (!rfl) (!za (pv 1)) (!zi))))) (by rfl)))) (fun _ _ _ _ _=>(!za (pv 2)))))) (!zE)))))
theorem zju:FnScope ["yard"] ["yard"] (zd (top 5)):=⟨rfl,rfl,rfl,by decide +kernel,rfl,by decide +kernel,by decide +kernel⟩
theorem zdl (T:Tx K mg a):FnOk P w K mg base CX0 2 a.f_sizes a.d_sizes ["yard"] (spD K 1 F_sizes):=by
 have O_size_of:=zd8 (P:=P) (w:=w) (base:=base) T;refine jW (N:=["yard"]) T.F_sizes zju fun cdv A outer s H E hr => ?_
 conv in (zj _)=>whnf
 exact(!zn (!zB (!jk zV (!rfl) T.n_tuple VM (!jp (!rfl) (!PD.b (!PFr.d_ (!jG (zI (oscope:=zd (top 5)) (oN:=["yard"]) (own:=["place"]) (caps:=[0]) (N:=["place", "yard"]) (by decide +kernel) (!rfl) (!rfl)) (by decide) (zv (by decide)) (!rfl) (!xr (!rfl) T.n_range (!zm (!rfl) (!zg) (!zm (!rfl) (!zx zt (!PD.b (!jq (!PD.b (!za (pv 0))) (!PD.b (!zg)) (fun _ _=>(!rfl)))) (!PD.b (!zg))) (!zi)))) (fun _ _ _ _ _=>(!ze (zM (i:=0) (nd_ ["place", "yard"]) (!rfl) (Or.inl (!rfl))))) (fun _ _ _ _ _=>(!jI)) (fun _ _ _ _ _=>(!zy O_size_of (hr.mono (by omega)) (!rfl) T.m_size_of T.F_size_of.kp T.b_size_of (!zm (!rfl) (!za (pv 1)) (!zm (!rfl) (!za (pv 0)) (!zi)))))))) (!zE)))))
theorem za1:FnScope ["yard", "one", "other", "pair"] ["yard", "one", "other"] (zd (top 6)):=⟨rfl,rfl,rfl,by decide +kernel,rfl,by decide +kernel,by decide +kernel⟩
theorem zd5 (T:Tx K mg a):FnOk P w K mg base CX0 1 a.f_between a.d_between ["yard", "one", "other"] (spD K 3 F_between):=by
 refine jW (N:=["yard", "one", "other", "pair"]) T.F_between za1 fun cdv A outer s H E hr => ?_;have hu64:=xT hr
 conv in (zj _)=>whnf
 exact(!zf (!zq (!rfl) (!rfl) (!rfl) (!ze (!pgn (i:=3) za1.nd)) (!jm (!zm (!rfl) (!jd (zbd (!rfl)) (!rfl) T.n_min boot_min (!jp (!rfl) (!PD.b (!za (pv 1))) (!jp (!rfl) (!PD.b (!za (pv 2))) (!zE)))) (!zm (!rfl) (!jd (zbc (!rfl)) (!rfl) T.n_max boot_max (!jp (!rfl) (!PD.b (!za (pv 1))) (!jp (!rfl) (!PD.b (!za (pv 2))) (!zE)))) (!zi))))) (!zn (!zB (!jd (qE (!rfl)) (!rfl) T.n_sum Bd (!jp (!rfl) (!PD.b (!PFr.d_ (!jG (zI (oscope:=zd (top 6)) (oN:=["yard", "one", "other", "pair"]) (own:=["tie"]) (caps:=[3]) (N:=["tie", "pair"]) (by decide +kernel) (!rfl) (!rfl)) (by decide) (zv (by decide)) (!rfl) (!jy (!jq (!PD.b (!za (pv 0))) (!PD.b (!zg)) (fun _ _=>(!rfl)))) (fun _ _ _ _ _=>(!ze (zM (i:=0) (nd_ ["tie", "pair"]) (!rfl) (Or.inl (!rfl))))) (fun _ _ _ _ _=>(!qd (!ja (zac hu64) (!PD.b (!xp (!PD.b (!za (pv 0))) (!xt) (!xu (!PD.b (!zg))))) (!PD.b (!za (pv 1))) (jN _)))) (fun _ _ _ _ _=>(!jq (!PD.b (!za (pv 0))) (!PD.b (!zg)) (fun _ _=>(!rfl))))))) (!zE))))))
theorem zb6:FnScope ["heaps", "limits"] ["heaps", "limits"] (zd (top 8)):=⟨rfl,rfl,rfl,by decide +kernel,rfl,by decide +kernel,by decide +kernel⟩
theorem zby (T:Tx K mg a):FnOk P w K mg base CX0 1 a.f_all_below a.d_all_below ["heaps", "limits"] (spD K 2 F_all_below):=by
 refine jW (N:=["heaps", "limits"]) T.F_all_below zb6 fun cdv A outer s H E hr => ?_;have hu0:=zbm hr
 conv in (zj _)=>whnf
 exact(!zn (!zB (!jd (zeL (!rfl)) (!rfl) T.n_all boot_all (!jp (!rfl) (!PD.b (!PFr.d_ (!jG (zI (oscope:=zd (top 8)) (oN:=["heaps", "limits"]) (own:=["heap", "limit"]) (caps:=[]) (N:=["heap", "limit"]) (by decide +kernel) (!rfl) (!rfl)) (by decide) (yb (ji (zv (by decide)) (ji (zv (by decide)) ya))) (!rfl) (!zik (!rfl) T.n_zip (!zm (!rfl) (!za (pv 0)) (!zm (!rfl) (!za (pv 1)) (!zi)))) (fun _ _ _ _ _=>(!qG (!rfl) (!zw (!ze (zM (i:=0) (nd_ ["heap", "limit"]) (!rfl) (Or.inl (!rfl)))) (!zw (!ze (zM (i:=1) (nd_ ["heap", "limit"]) (!rfl) (Or.inl (!rfl)))) (!jR))))) (fun _ _ _ _ _=>(!jI)) (fun _ _ _ _ _=>(!zgb (zf7 hu0) (!PD.b (!za (pv 0))) (!PD.b (!za (pv 1))) (jN _)))))) (!zE)))))
theorem zjt:FnScope ["yard", "grains"] ["yard", "grains"] (zd (top 9)):=⟨rfl,rfl,rfl,by decide +kernel,rfl,by decide +kernel,by decide +kernel⟩
theorem zh3 (T:Tx K mg a):FnOk P w K mg base CX0 3 a.f_rests a.d_rests ["yard", "grains"] (spD K 2 F_rests):=by
 have O_sizes:=zdl (P:=P) (w:=w) (base:=base) T;have O_all_below:=zby (P:=P) (w:=w) (base:=base) T;refine jW (N:=["yard", "grains"]) T.F_rests zjt fun cdv A outer s H E hr => ?_
 conv in (zj _)=>whnf
 exact(!zn (!zB (!zy O_all_below (hr.mono (by omega)) (!rfl) T.m_all_below T.F_all_below.kp T.b_all_below (!zm (!rfl) (!za (pv 1)) (!zm (!rfl) (!zy O_sizes (hr.mono (by omega)) (!rfl) T.m_sizes T.F_sizes.kp T.b_sizes (!zm (!rfl) (!za (pv 0)) (!zi))) (!zi))))))
theorem zeC:FnScope ["yard", "place", "others"] ["yard", "place", "others"] (zd (top 11)):=⟨rfl,rfl,rfl,by decide +kernel,rfl,by decide +kernel,by decide +kernel⟩
theorem zab (T:Tx K mg a):FnOk P w K mg base CX0 2 a.f_ties_to a.d_ties_to ["yard", "place", "others"] (spD K 3 F_ties_to):=by
 have O_between:=zd5 (P:=P) (w:=w) (base:=base) T;refine jW (N:=["yard", "place", "others"]) T.F_ties_to zeC fun cdv A outer s H E hr => ?_
 conv in (zj _)=>whnf
 exact(!zn (!zB (!jd (qE (!rfl)) (!rfl) T.n_sum Bd (!jp (!rfl) (!PD.b (!PFr.d_ (!jG (zI (oscope:=zd (top 11)) (oN:=["yard", "place", "others"]) (own:=["other"]) (caps:=[0,1]) (N:=["other", "yard", "place"]) (by decide +kernel) (!rfl) (!rfl)) (by decide) (zv (by decide)) (!rfl) (!jy (!za (pv 2))) (fun _ _ _ _ _=>(!ze (zM (i:=0) (nd_ ["other", "yard", "place"]) (!rfl) (Or.inl (!rfl))))) (fun _ _ _ _ _=>(!jI)) (fun _ _ _ _ _=>(!zy O_between (hr.mono (by omega)) (!rfl) T.m_between T.F_between.kp T.b_between (!zm (!rfl) (!za (pv 1)) (!zm (!rfl) (!za (pv 2)) (!zm (!rfl) (!za (pv 0)) (!zi))))))))) (!zE)))))
theorem zdM:FnScope ["yard", "grains", "unburnt"] ["yard", "grains", "unburnt"] (zd (top 12)):=⟨rfl,rfl,rfl,by decide +kernel,rfl,by decide +kernel,by decide +kernel⟩
theorem zco (T:Tx K mg a):FnOk P w K mg base CX0 3 a.f_catching a.d_catching ["yard", "grains", "unburnt"] (spD K 3 F_catching):=by
 have O_ties_to:=zab (P:=P) (w:=w) (base:=base) T;refine jW (N:=["yard", "grains", "unburnt"]) T.F_catching zdM fun cdv A outer s H E hr => ?_;have hu0:=zbm hr
 conv in (zj _)=>whnf
 exact(!zn (!zB (!jk zV (!rfl) T.n_tuple VM (!jp (!rfl) (!PD.b (!PFr.d_ (!jG (zI (oscope:=zd (top 12)) (oN:=["yard", "grains", "unburnt"]) (own:=["place"]) (caps:=[1,0,2]) (N:=["place", "grains", "yard", "unburnt"]) (by decide +kernel) (!rfl) (!rfl)) (by decide) (zv (by decide)) (!rfl) (!jy (!za (pv 2))) (fun _ _ _ _ _=>(!ze (zM (i:=0) (nd_ ["place", "grains", "yard", "unburnt"]) (!rfl) (Or.inl (!rfl))))) (fun _ _ _ _ _=>(!qd (!ja (zf5 hu0) (!PD.b (!jq (!PD.b (!za (pv 1))) (!PD.b (!zx qQ (!PD.b (!za (pv 0))) (!PD.b (!zg)))) (fun _ _=>(!rfl)))) (!PD.b (!zy O_ties_to (hr.mono (by omega)) (!rfl) T.m_ties_to T.F_ties_to.kp T.b_ties_to (!zm (!rfl) (!za (pv 2)) (!zm (!rfl) (!za (pv 0)) (!zm (!rfl) (!za (pv 3)) (!zi)))))) (jN _)))) (fun _ _ _ _ _=>(!za (pv 0)))))) (!zE)))))
theorem kL:FnScope ["yard", "grains", "unburnt", "turns", "turn"] ["yard", "grains"] (zd (top 13)):=⟨rfl,rfl,rfl,by decide +kernel,rfl,by decide +kernel,by decide +kernel⟩
theorem zkf (T:Tx K mg a):FnOk P w K mg base CX0 4 a.f_burn a.d_burn ["yard", "grains"] (spD K 2 F_burn):=by
 have O_rests:=zh3 (P:=P) (w:=w) (base:=base) T;have O_catching:=zco (P:=P) (w:=w) (base:=base) T;refine jW (N:=["yard", "grains", "unburnt", "turns", "turn"]) T.F_burn kL fun cdv A outer s H E hr => ?_;have hu66:=yC hr
 conv in (zj _)=>whnf
 exact(!zf (!yg (!zkH (!zgp (!PD.b (!zy O_rests (hr.mono (by omega)) (!rfl) T.m_rests T.F_rests.kp T.b_rests (!zm (!rfl) (!za (pv 0)) (!zm (!rfl) (!za (pv 1)) (!zi))))))) (!zn zmW) (!qz)) (!zf (!zq (!rfl) (!rfl) (!rfl) (!ze (!pgn (i:=2) kL.nd)) (!PFr.d_ (!zgd (!rfl) (!rfl) T.n_list boot_list (!rfl) T.n_range (!zm (!rfl) (!zg) (!zm (!rfl) (!zx zt (!PD.b (!jq (!PD.b (!za (pv 0))) (!PD.b (!zg)) (fun _ _=>(!rfl)))) (!PD.b (!zg))) (!zi)))))) (!zf (!qM (!rfl) (!rfl) (!rfl) (!pgn (i:=3) kL.nd) (!qW (!zi))) (!zf (!zq (!rfl) (!rfl) (!rfl) (!ze (!pgn (i:=4) kL.nd)) (!zy O_catching (hr.mono (by omega)) (!rfl) T.m_catching T.F_catching.kp T.b_catching (!zm (!rfl) (!za (pv 0)) (!zm (!rfl) (!za (pv 1)) (!zm (!rfl) (!za (pv 2)) (!zi)))))) (!zf (!kh Jf (!zgp (!PD.b (!za (pv 4)))) (!zf (!kf (pv 3) (!za (pv 4))) (!zf (!yf (i:=2) (zI (oscope:=zd (top 13)) (oN:=["yard", "grains", "unburnt", "turns", "turn"]) (own:=["place"]) (caps:=[4]) (N:=["place", "turn"]) (by decide +kernel) (!rfl) (!rfl)) (by decide) (zv (by decide)) (!rfl) (!jy (!za (pv 2))) (fun _ _ _ _ _=>(!ze (zM (i:=0) (nd_ ["place", "turn"]) (!rfl) (Or.inl (!rfl))))) (fun _ _ _ _ _=>(!qd (!ja (zbB hu66) (!PD.b (!za (pv 0))) (!PD.b (!za (pv 1))) (by rfl)))) (fun _ _ _ _ _=>(!za (pv 0))) kL.nd (!rfl) (!rfl) (!rfl)) (!zn (!zq (!rfl) (!rfl) (!rfl) (!ze (!pgn (i:=4) kL.nd)) (!zy O_catching (hr.mono (by omega)) (!rfl) T.m_catching T.F_catching.kp T.b_catching (!zm (!rfl) (!za (pv 0)) (!zm (!rfl) (!za (pv 1)) (!zm (!rfl) (!za (pv 2)) (!zi)))))))))) (!zn (!zB (!jk zV (!rfl) T.n_tuple VM (!jp (!rfl) (!xx (pv 3)) (!zE))))))))))
theorem zeA:FnScope ["yard"] ["yard"] (zd (top 15)):=⟨rfl,rfl,rfl,by decide +kernel,rfl,by decide +kernel,by decide +kernel⟩
theorem zd6 (T:Tx K mg a):FnOk P w K mg base CX0 3 a.f_fullest a.d_fullest ["yard"] (spD K 1 F_fullest):=by
 have O_sizes:=zdl (P:=P) (w:=w) (base:=base) T;refine jW (N:=["yard"]) T.F_fullest zeA fun cdv A outer s H E hr => ?_
 conv in (zj _)=>whnf
 exact(!zn (!zB (!jk zV (!rfl) T.n_tuple VM (!jp (!rfl) (!PD.b (!PFr.d_ (!jG (zI (oscope:=zd (top 15)) (oN:=["yard"]) (own:=["size"]) (caps:=[]) (N:=["size"]) (by decide +kernel) (!rfl) (!rfl)) (by decide) (zv (by decide)) (!rfl) (!jy (!zy O_sizes (hr.mono (by omega)) (!rfl) T.m_sizes T.F_sizes.kp T.b_sizes (!zm (!rfl) (!za (pv 0)) (!zi)))) (fun _ _ _ _ _=>(!ze (zM (i:=0) (nd_ ["size"]) (!rfl) (Or.inl (!rfl))))) (fun _ _ _ _ _=>(!jI)) (fun _ _ _ _ _=>(!zx qQ (!PD.b (!za (pv 0))) (!PD.b (!zg))))))) (!zE)))))
theorem xL:FnScope ["yard", "ahead", "behind", "burnt", "unburnt"] ["yard", "ahead", "behind"] (zd (top 16)):=⟨rfl,rfl,rfl,by decide +kernel,rfl,by decide +kernel,by decide +kernel⟩
theorem zaJ (T:Tx K mg a):FnOk P w K mg base CX0 5 a.f_least_heap a.d_least_heap ["yard", "ahead", "behind"] (spD K 3 F_least_heap):=by
 have O_burn:=zkf (P:=P) (w:=w) (base:=base) T;have O_ties_to:=zab (P:=P) (w:=w) (base:=base) T;refine jW (N:=["yard", "ahead", "behind", "burnt", "unburnt"]) T.F_least_heap xL fun cdv A outer s H E hr => ?_;have hu66:=yC hr
 conv in (zj _)=>whnf
 exact(!zf (!zq (!rfl) (!rfl) (!rfl) (!ze (!pgn (i:=3) xL.nd)) (!zki (!rfl) T.n_sum (!zm (!rfl) (!zy O_burn (hr.mono (by omega)) (!rfl) T.m_burn T.F_burn.kp T.b_burn (!zm (!rfl) (!za (pv 0)) (!zm (!rfl) (!zx zt (!PD.b (!zx zt (!PD.b (!za (pv 1))) (!PD.b (!jm (!zm (!rfl) (!zg) (!zi)))))) (!PD.b (!za (pv 2)))) (!zi)))) (!zi)))) (!zf (!yf (i:=4) (zI (oscope:=zd (top 16)) (oN:=["yard", "ahead", "behind", "burnt", "unburnt"]) (own:=["place"]) (caps:=[3]) (N:=["place", "burnt"]) (by decide +kernel) (!rfl) (!rfl)) (by decide) (zv (by decide)) (!rfl) (!xr (!rfl) T.n_range (!zm (!rfl) (!zg) (!zm (!rfl) (!zx zt (!PD.b (!jq (!PD.b (!za (pv 0))) (!PD.b (!zg)) (fun _ _=>(!rfl)))) (!PD.b (!zg))) (!zi)))) (fun _ _ _ _ _=>(!ze (zM (i:=0) (nd_ ["place", "burnt"]) (!rfl) (Or.inl (!rfl))))) (fun _ _ _ _ _=>(!qd (!ja (zbB hu66) (!PD.b (!za (pv 0))) (!PD.b (!za (pv 1))) (by rfl)))) (fun _ _ _ _ _=>(!za (pv 0))) xL.nd (!rfl) (!rfl) (!rfl)) (!zn (!zB (!zy O_ties_to (hr.mono (by omega)) (!rfl) T.m_ties_to T.F_ties_to.kp T.b_ties_to (!zm (!rfl) (!za (pv 0)) (!zm (!rfl) (!zx zt (!PD.b (!jd xN (!rfl) T.n_len MF (!jp (!rfl) (!PD.b (!za (pv 1))) (!zE)))) (!PD.b (!zg))) (!zm (!rfl) (!za (pv 4)) (!zi)))))))))
theorem jV:FnScope ["yard", "start", "full", "k", "least"] ["yard", "start", "full"] (zd (top 17)):=⟨rfl,rfl,rfl,by decide +kernel,rfl,by decide +kernel,by decide +kernel⟩
theorem wY (T:Tx K mg a):FnOk P w K mg base CX0 6 a.f_one_heap_longer a.d_one_heap_longer ["yard", "start", "full"] (spD K 3 F_one_heap_longer):=by
 have O_least_heap:=zaJ (P:=P) (w:=w) (base:=base) T;refine jW (N:=["yard", "start", "full", "k", "least"]) T.F_one_heap_longer jV fun cdv A outer s H E hr => ?_
 conv in (zj _)=>whnf
 exact(!zf (!zq (!rfl) (!rfl) (!rfl) (!ze (!pgn (i:=3) jV.nd)) (!jd xN (!rfl) T.n_len MF (!jp (!rfl) (!PD.b (!za (pv 1))) (!zE)))) (!zf (!zq (!rfl) (!rfl) (!rfl) (!ze (!pgn (i:=4) jV.nd)) (!zy O_least_heap (hr.mono (by omega)) (!rfl) T.m_least_heap T.F_least_heap.kp T.b_least_heap (!zm (!rfl) (!za (pv 0)) (!zm (!rfl) (!za (pv 1)) (!zm (!rfl) (!xp (!PD.b (!za (pv 2))) (!xu (!PD.b (!zx zt (!PD.b (!za (pv 3))) (!PD.b (!zg))))) (!xt)) (!zi)))))) (!zn (!zB (!PFr.d_ (!jG (zI (oscope:=zd (top 17)) (oN:=["yard", "start", "full", "k", "least"]) (own:=["heap"]) (caps:=[1]) (N:=["heap", "start"]) (by decide +kernel) (!rfl) (!rfl)) (by decide) (zv (by decide)) (!rfl) (!xr (!rfl) T.n_range (!zm (!rfl) (!za (pv 4)) (!zm (!rfl) (!zx zt (!PD.b (!jq (!PD.b (!za (pv 2))) (!PD.b (!za (pv 3))) (fun _ _=>(!rfl)))) (!PD.b (!zg))) (!zi)))) (fun _ _ _ _ _=>(!ze (zM (i:=0) (nd_ ["heap", "start"]) (!rfl) (Or.inl (!rfl))))) (fun _ _ _ _ _=>(!jI)) (fun _ _ _ _ _=>(!zx zt (!PD.b (!za (pv 1))) (!PD.b (!jm (!zm (!rfl) (!za (pv 0)) (!zi))))))))))))
theorem qD:FnScope ["yard", "full", "starts", "k", "longer", "start"] ["yard"] (zd (top 18)):=⟨rfl,rfl,rfl,by decide +kernel,rfl,by decide +kernel,by decide +kernel⟩
theorem zd7 (T:Tx K mg a):FnOk P w K mg base CX0 7 a.f_lasting a.d_lasting ["yard"] (spD K 1 F_lasting):=by
 have O_fullest:=zd6 (P:=P) (w:=w) (base:=base) T;have O_one_heap_longer:=wY (P:=P) (w:=w) (base:=base) T;refine jW (N:=["yard", "full", "starts", "k", "longer", "start"]) T.F_lasting qD fun cdv A outer s H E hr => ?_
 conv in (zj _)=>whnf
 exact(!zf (!zq (!rfl) (!rfl) (!rfl) (!ze (!pgn (i:=1) qD.nd)) (!zy O_fullest (hr.mono (by omega)) (!rfl) T.m_fullest T.F_fullest.kp T.b_fullest (!zm (!rfl) (!za (pv 0)) (!zi)))) (!zf (!zq (!rfl) (!rfl) (!rfl) (!ze (!pgn (i:=2) qD.nd)) (!PFr.d_ (!qW (!zm (!rfl) (!jm (!zi)) (!zi))))) (!zf (!jZ Jf (!rfl) (!xq (!rfl) T.n_range (!zm (!rfl) (!jq (!PD.b (!za (pv 0))) (!PD.b (!zg)) (fun _ _=>(!rfl))) (!zi))) (!ze (!pgn (i:=3) qD.nd)) (!zf (!qM (!rfl) (!rfl) (!rfl) (!pgn (i:=4) qD.nd) (!qW (!zi))) (!zf (!jZ Jf (!rfl) (!jy (!za (pv 2))) (!ze (!pgn (i:=5) qD.nd)) (!zn (!zkz (pv 4) (!zy O_one_heap_longer (hr.mono (by omega)) (!rfl) T.m_one_heap_longer T.F_one_heap_longer.kp T.b_one_heap_longer (!zm (!rfl) (!za (pv 0)) (!zm (!rfl) (!za (pv 5)) (!zm (!rfl) (!za (pv 1)) (!zi)))))))) (!zn (!zdo 4 (!zq (!rfl) (!rfl) (!rfl) (!ze (!pgn (i:=2) qD.nd)) (!za (pv 4)))))))) (!zn (!zB (!jk zV (!rfl) T.n_tuple VM (!jp (!rfl) (!PD.b (!za (pv 2))) (!zE))))))))
theorem zhf:FnScope ["groups", "one", "other"] ["groups", "one", "other"] (zd (top 20)):=⟨rfl,rfl,rfl,by decide +kernel,rfl,by decide +kernel,by decide +kernel⟩
theorem zf3 (T:Tx K mg a):FnOk P w K mg base CX0 1 a.f_joined a.d_joined ["groups", "one", "other"] (spD K 3 F_joined):=by
 refine jW (N:=["groups", "one", "other"]) T.F_joined zhf fun cdv A outer s H E hr => ?_;have hu64:=xT hr
 conv in (zj _)=>whnf
 exact(!zn (!zB (!jk zV (!rfl) T.n_tuple VM (!jp (!rfl) (!PD.b (!PFr.d_ (!jG (zI (oscope:=zd (top 20)) (oN:=["groups", "one", "other"]) (own:=["group"]) (caps:=[0,1,2]) (N:=["group", "groups", "one", "other"]) (by decide +kernel) (!rfl) (!rfl)) (by decide) (zv (by decide)) (!rfl) (!jy (!za (pv 0))) (fun _ _ _ _ _=>(!ze (zM (i:=0) (nd_ ["group", "groups", "one", "other"]) (!rfl) (Or.inl (!rfl))))) (fun _ _ _ _ _=>(!jI)) (fun _ _ _ _ _=>(!zmT (!ja (zac hu64) (!PD.b (!za (pv 0))) (!PD.b (!jq (!PD.b (!za (pv 1))) (!PD.b (!za (pv 3))) (fun _ _=>(!rfl)))) (jN _)) (!jq (!PD.b (!za (pv 1))) (!PD.b (!za (pv 2))) (fun _ _=>(!rfl))) (!za (pv 0))))))) (!zE)))))
theorem xK:FnScope ["stems", "tie", "one", "other", "many", "longer", "pairs", "ways", "groups"] ["stems", "tie"] (zd (top 21)):=⟨rfl,rfl,rfl,by decide +kernel,rfl,by decide +kernel,by decide +kernel⟩
theorem zh2 (T:Tx K mg a):FnOk P w K mg base CX0 2 a.f_grown a.d_grown ["stems", "tie"] (spD K 2 F_grown):=by
 have O_joined:=zf3 (P:=P) (w:=w) (base:=base) T;refine jW (N:=["stems", "tie", "one", "other", "many", "longer", "pairs", "ways", "groups"]) T.F_grown xK fun cdv A outer s H E hr => ?_;have hu64:=xT hr
 conv in (zj _)=>whnf
 exact(!zf (!zq (!rfl) (!rfl) (!rfl) (!qG (!rfl) (!zw (!ze (!pgn (i:=2) xK.nd)) (!zw (!ze (!pgn (i:=3) xK.nd)) (!zw (!ze (!pgn (i:=4) xK.nd)) (!jR))))) (!za (pv 1))) (!zf (!qM (!rfl) (!rfl) (!rfl) (!pgn (i:=5) xK.nd) (!qW (!zi))) (!zf (!jZ Jf (!rfl) (!jy (!za (pv 0))) (!qG (!rfl) (!zw (!ze (!pgn (i:=6) xK.nd)) (!zw (!ze (!pgn (i:=7) xK.nd)) (!zw (!ze (!pgn (i:=8) xK.nd)) (!jR))))) (!zn (!yg (!ja (zbA hu64) (!PD.b (!jq (!PD.b (!za (pv 8))) (!PD.b (!za (pv 2))) (fun _ _=>(!rfl)))) (!PD.b (!jq (!PD.b (!za (pv 8))) (!PD.b (!za (pv 3))) (fun _ _=>(!rfl)))) (jN _)) (!zn (!kf (pv 5) (!jm (!zm (!rfl) (!zx zt (!PD.b (!za (pv 6))) (!PD.b (!jm (!zm (!rfl) (!jm (!zm (!rfl) (!za (pv 2)) (!zm (!rfl) (!za (pv 3)) (!zi)))) (!zi))))) (!zm (!rfl) (!zx qm (!PD.b (!za (pv 7))) (!PD.b (!za (pv 4)))) (!zm (!rfl) (!zy O_joined (hr.mono (by omega)) (!rfl) T.m_joined T.F_joined.kp T.b_joined (!zm (!rfl) (!za (pv 8)) (!zm (!rfl) (!za (pv 2)) (!zm (!rfl) (!za (pv 3)) (!zi))))) (!zi))))))) (!qz)))) (!zn (!zB (!zx zt (!PD.b (!za (pv 0))) (!xx (pv 5))))))))
theorem yy:FnScope ["yard", "count", "ties", "stems", "tie"] ["yard"] (zd (top 22)):=⟨rfl,rfl,rfl,by decide +kernel,rfl,by decide +kernel,by decide +kernel⟩
theorem zh4 (T:Tx K mg a):FnOk P w K mg base CX0 3 a.f_trees a.d_trees ["yard"] (spD K 1 F_trees):=by
 have O_grown:=zh2 (P:=P) (w:=w) (base:=base) T;refine jW (N:=["yard", "count", "ties", "stems", "tie"]) T.F_trees yy fun cdv A outer s H E hr => ?_;have hu66:=yC hr;have hu64:=xT hr
 conv in (zj _)=>whnf
 exact(!zf (!zq (!rfl) (!rfl) (!rfl) (!qG (!rfl) (!zw (!ze (!pgn (i:=1) yy.nd)) (!zw (!ze (!pgn (i:=2) yy.nd)) (!jR)))) (!za (pv 0))) (!zf (!zq (!rfl) (!rfl) (!rfl) (!ze (!pgn (i:=3) yy.nd)) (!PFr.d_ (!qW (!zm (!rfl) (!jm (!zm (!rfl) (!jm (!zi)) (!zm (!rfl) (!zg) (!zm (!rfl) (!zib (!rfl) (!rfl) T.n_tuple VM (!rfl) T.n_range (!zm (!rfl) (!zx zt (!PD.b (!za (pv 1))) (!PD.b (!zg))) (!zi))) (!zi))))) (!zi))))) (!zf (!jZ Jf (!rfl) (!jy (!za (pv 2))) (!ze (!pgn (i:=4) yy.nd)) (!zn (!zq (!rfl) (!rfl) (!rfl) (!ze (!pgn (i:=3) yy.nd)) (!zy O_grown (hr.mono (by omega)) (!rfl) T.m_grown T.F_grown.kp T.b_grown (!zm (!rfl) (!za (pv 3)) (!zm (!rfl) (!za (pv 4)) (!zi))))))) (!zn (!zB (!jk zV (!rfl) T.n_tuple VM (!jp (!rfl) (!PD.b (!PFr.d_ (!zd9 hu66 (!rfl) T.n_sorted (!jp (!rfl) (!PD.b (!PFr.d_ (!jG (zI (oscope:=zd (top 22)) (oN:=["yard", "count", "ties", "stems", "tie"]) (own:=["pairs", "ways", "groups"]) (caps:=[1]) (N:=["pairs", "ways", "groups", "count"]) (by decide +kernel) (!rfl) (!rfl)) (by decide) (yb (ji (zv (by decide)) (ji (zv (by decide)) (ji (zv (by decide)) ya)))) (!rfl) (!jy (!za (pv 3))) (fun _ _ _ _ _=>(!qG (!rfl) (!zw (!ze (zM (i:=0) (nd_ ["pairs", "ways", "groups", "count"]) (!rfl) (Or.inl (!rfl)))) (!zw (!ze (zM (i:=1) (nd_ ["pairs", "ways", "groups", "count"]) (!rfl) (Or.inl (!rfl)))) (!zw (!ze (zM (i:=2) (nd_ ["pairs", "ways", "groups", "count"]) (!rfl) (Or.inl (!rfl)))) (!jR)))))) (fun _ _ _ _ _=>(!qd (!ja (zac hu64) (!PD.b (!jd xN (!rfl) T.n_len MF (!jp (!rfl) (!PD.b (!za (pv 0))) (!zE)))) (!PD.b (!za (pv 3))) (jN _)))) (fun _ _ _ _ _=>(!jm (!zm (!rfl) (!za (pv 0)) (!zm (!rfl) (!za (pv 1)) (!zi)))))))) (!zE))))) (!zE))))))))
theorem zdN:FnScope ["yard"] ["yard"] (zd (top 23)):=⟨rfl,rfl,rfl,by decide +kernel,rfl,by decide +kernel,by decide +kernel⟩
theorem zcp (T:Tx K mg a):FnOk P w K mg base CX0 4 a.f_count_of a.d_count_of ["yard"] (spD K 1 F_count_of):=by
 have O_trees:=zh4 (P:=P) (w:=w) (base:=base) T;refine jW (N:=["yard"]) T.F_count_of zdN fun cdv A outer s H E hr => ?_
 conv in (zj _)=>whnf
 exact(!zn (!zB (!jd (qE (!rfl)) (!rfl) T.n_sum Bd (!jp (!rfl) (!PD.b (!PFr.d_ (!jG (zI (oscope:=zd (top 23)) (oN:=["yard"]) (own:=["tree", "many"]) (caps:=[]) (N:=["tree", "many"]) (by decide +kernel) (!rfl) (!rfl)) (by decide) (yb (ji (zv (by decide)) (ji (zv (by decide)) ya))) (!rfl) (!jy (!zy O_trees (hr.mono (by omega)) (!rfl) T.m_trees T.F_trees.kp T.b_trees (!zm (!rfl) (!za (pv 0)) (!zi)))) (fun _ _ _ _ _=>(!qG (!rfl) (!zw (!ze (zM (i:=0) (nd_ ["tree", "many"]) (!rfl) (Or.inl (!rfl)))) (!zw (!ze (zM (i:=1) (nd_ ["tree", "many"]) (!rfl) (Or.inl (!rfl)))) (!jR))))) (fun _ _ _ _ _=>(!jI)) (fun _ _ _ _ _=>(!za (pv 1)))))) (!zE)))))
theorem zar:FnScope ["_law_script", "_law_k"] ["_law_script", "_law_k"] (zd (top 25)):=⟨rfl,rfl,rfl,by decide +kernel,rfl,by decide +kernel,by decide +kernel⟩
theorem kF (T:Tx K mg a):FnOk P w K mg base CX0 1 a.f_law_cell_at a.d_law_cell_at ["_law_script", "_law_k"] (spD K 2 F_law_cell_at):=by
 refine jW (N:=["_law_script", "_law_k"]) T.F_law_cell_at zar fun cdv A outer s H E hr => ?_;have hu0:=zbm hr
 conv in (zj _)=>whnf
 exact(!zf (!yg (!ja (zf7 hu0) (!PD.b (!za (pv 1))) (!PD.b (!jd zdR (!rfl) T.n_len MF (!jp (!rfl) (!PD.b (!za (pv 0))) (!zE)))) (jN _)) (!zn (!zB (!zlT (!PD.b (!za (pv 0))) (!PD.b (!za (pv 1))) (fun _ _=>(!rfl))))) (!qz)) (!zn (!zB (!zg))))
theorem vB:FnScope ["_law_script", "_law_k", "_law_drawn_here"] ["_law_script", "_law_k"] (zd (top 26)):=⟨rfl,rfl,rfl,by decide +kernel,rfl,by decide +kernel,by decide +kernel⟩
theorem zbz (T:Tx K mg a):FnOk P w K mg base CX0 2 a.f_law_mixed a.d_law_mixed ["_law_script", "_law_k"] (spD K 2 F_law_mixed):=by
 have O_law_cell_at:=kF (P:=P) (w:=w) (base:=base) T;refine jW (N:=["_law_script", "_law_k", "_law_drawn_here"]) T.F_law_mixed vB fun cdv A outer s H E hr => ?_
 conv in (zj _)=>whnf
 exact(!zf (!zq (!rfl) (!rfl) (!rfl) (!ze (!pgn (i:=2) vB.nd)) (!zx jM (!PD.b (!zx qm (!PD.b (!zx zt (!PD.b (!zx zt (!PD.b (!zy O_law_cell_at (hr.mono (by omega)) (!rfl) T.m_law_cell_at T.F_law_cell_at.kp T.b_law_cell_at (!zm (!rfl) (!za (pv 0)) (!zm (!rfl) (!za (pv 1)) (!zi))))) (!PD.b (!zx qm (!PD.b (!zg)) (!PD.b (!za (pv 1))))))) (!PD.b (!zg)))) (!PD.b (!zg)))) (!PD.b (!zg)))) (!zn (!zB (!zx jM (!PD.b (!zx zt (!PD.b (!zx zt (!PD.b (!zx qm (!PD.b (!za (pv 2))) (!PD.b (!za (pv 2))))) (!PD.b (!zx qm (!PD.b (!zg)) (!PD.b (!za (pv 2))))))) (!PD.b (!za (pv 1))))) (!PD.b (!zg))))))
theorem vA:FnScope ["_law_number", "_law_k", "_law_drawn_here"] ["_law_number", "_law_k"] (zd (top 27)):=⟨rfl,rfl,rfl,by decide +kernel,rfl,by decide +kernel,by decide +kernel⟩
theorem yO (T:Tx K mg a):FnOk P w K mg base CX0 1 a.f_law_drawn a.d_law_drawn ["_law_number", "_law_k"] (spD K 2 F_law_drawn):=by
 refine jW (N:=["_law_number", "_law_k", "_law_drawn_here"]) T.F_law_drawn vA fun cdv A outer s H E hr => ?_
 conv in (zj _)=>whnf
 exact(!zf (!zq (!rfl) (!rfl) (!rfl) (!ze (!pgn (i:=2) vA.nd)) (!zx jM (!PD.b (!zx qm (!PD.b (!zx zt (!PD.b (!zx zt (!PD.b (!za (pv 0))) (!PD.b (!zx qm (!PD.b (!zg)) (!PD.b (!za (pv 1))))))) (!PD.b (!zg)))) (!PD.b (!zg)))) (!PD.b (!zg)))) (!zn (!zB (!zx jM (!PD.b (!zx zt (!PD.b (!zx zt (!PD.b (!zx qm (!PD.b (!za (pv 2))) (!PD.b (!za (pv 2))))) (!PD.b (!zx qm (!PD.b (!zg)) (!PD.b (!za (pv 2))))))) (!PD.b (!za (pv 1))))) (!PD.b (!zg))))))
theorem zN:FnScope ["_law_number", "_law_most", "_law_wide", "_law_count", "_law_found", "_law_place", "_law_k", "_law_low", "_law_high", "_law_names", "_law_at", "_law_links", "_law_one", "_law_other"] ["_law_number", "_law_most", "_law_wide"] (zd (top 28)):=⟨rfl,rfl,rfl,by decide +kernel,rfl,by decide +kernel,by decide +kernel⟩
theorem zcs (T:Tx K mg a):FnOk P w K mg base CX0 2 a.f_law_yard a.d_law_yard ["_law_number", "_law_most", "_law_wide"] (spD K 3 F_law_yard):=by
 have O_law_drawn:=yO (P:=P) (w:=w) (base:=base) T;refine jW (N:=["_law_number", "_law_most", "_law_wide", "_law_count", "_law_found", "_law_place", "_law_k", "_law_low", "_law_high", "_law_names", "_law_at", "_law_links", "_law_one", "_law_other"]) T.F_law_yard zN fun cdv A outer s H E hr => ?_;have hu0:=zbm hr;have hu1:=zlu hr
 conv in (zj _)=>whnf
 exact(!zf (!zq (!rfl) (!rfl) (!rfl) (!ze (!pgn (i:=3) zN.nd)) (!zx zt (!PD.b (!zg)) (!PD.b (!zx jM (!PD.b (!za (pv 0))) (!PD.b (!za (pv 1))))))) (!zf (!zgn (!pgn (i:=4) zN.nd)) (!zf (!jZ Jf (!rfl) (!xr (!rfl) T.n_range (!zm (!rfl) (!zg) (!zm (!rfl) (!zx zt (!PD.b (!za (pv 3))) (!PD.b (!zg))) (!zi)))) (!ze (!pgn (i:=5) zN.nd)) (!zn (!kg hu1 (pv 4) (!jm (!zm (!rfl) (!zx jM (!PD.b (!zy O_law_drawn (hr.mono (by omega)) (!rfl) T.m_law_drawn T.F_law_drawn.kp T.b_law_drawn (!zm (!rfl) (!za (pv 0)) (!zm (!rfl) (!za (pv 5)) (!zi))))) (!PD.b (!za (pv 5)))) (!zm (!rfl) (!za (pv 5)) (!zi)))) (!zx zt (!PD.b (!zg)) (!PD.b (!zx jM (!PD.b (!zy O_law_drawn (hr.mono (by omega)) (!rfl) T.m_law_drawn T.F_law_drawn.kp T.b_law_drawn (!zm (!rfl) (!za (pv 0)) (!zm (!rfl) (!zx zt (!PD.b (!zg)) (!PD.b (!za (pv 5)))) (!zi))))) (!PD.b (!za (pv 2))))))))) (!zf (!jZ Jf (!rfl) (!xq (!rfl) T.n_range (!zm (!rfl) (!zx jM (!PD.b (!zx zh6 (!PD.b (!za (pv 0))) (!PD.b (!zg)))) (!PD.b (!zg))) (!zi))) (!ze (!pgn (i:=6) zN.nd)) (!zf (!zq (!rfl) (!rfl) (!rfl) (!ze (!pgn (i:=7) zN.nd)) (!zx jM (!PD.b (!zy O_law_drawn (hr.mono (by omega)) (!rfl) T.m_law_drawn T.F_law_drawn.kp T.b_law_drawn (!zm (!rfl) (!za (pv 0)) (!zm (!rfl) (!zx zt (!PD.b (!zg)) (!PD.b (!za (pv 6)))) (!zi))))) (!PD.b (!zx zt (!PD.b (!za (pv 3))) (!PD.b (!zg)))))) (!zf (!zq (!rfl) (!rfl) (!rfl) (!ze (!pgn (i:=8) zN.nd)) (!zx jM (!PD.b (!zy O_law_drawn (hr.mono (by omega)) (!rfl) T.m_law_drawn T.F_law_drawn.kp T.b_law_drawn (!zm (!rfl) (!za (pv 0)) (!zm (!rfl) (!zx zt (!PD.b (!zg)) (!PD.b (!za (pv 6)))) (!zi))))) (!PD.b (!zx zt (!PD.b (!za (pv 3))) (!PD.b (!zg)))))) (!zn (!yg (!ja (zf7 hu0) (!PD.b (!za (pv 7))) (!PD.b (!za (pv 8))) (jN _)) (!zn (!kg hu1 (pv 4) (!jm (!zm (!rfl) (!za (pv 7)) (!zm (!rfl) (!za (pv 8)) (!zi)))) (!zx zt (!PD.b (!zg)) (!PD.b (!zx jM (!PD.b (!zy O_law_drawn (hr.mono (by omega)) (!rfl) T.m_law_drawn T.F_law_drawn.kp T.b_law_drawn (!zm (!rfl) (!za (pv 0)) (!zm (!rfl) (!zx zt (!PD.b (!zg)) (!PD.b (!za (pv 6)))) (!zi))))) (!PD.b (!za (pv 2)))))))) (!qz)))))) (!zf (!zq (!rfl) (!rfl) (!rfl) (!ze (!pgn (i:=9) zN.nd)) (!PFr.d_ (!qW (!zm (!rfl) (!zg) (!zi))))) (!zf (!jZ Jf (!rfl) (!xr (!rfl) T.n_range (!zm (!rfl) (!zg) (!zm (!rfl) (!zx zt (!PD.b (!za (pv 3))) (!PD.b (!zg))) (!zi)))) (!ze (!pgn (i:=5) zN.nd)) (!zf (!zq (!rfl) (!rfl) (!rfl) (!ze (!pgn (i:=10) zN.nd)) (!zx zt (!PD.b (!zg)) (!PD.b (!zx jM (!PD.b (!zy O_law_drawn (hr.mono (by omega)) (!rfl) T.m_law_drawn T.F_law_drawn.kp T.b_law_drawn (!zm (!rfl) (!za (pv 0)) (!zm (!rfl) (!zx zt (!PD.b (!zg)) (!PD.b (!za (pv 5)))) (!zi))))) (!PD.b (!za (pv 5))))))) (!zn (!zq (!rfl) (!rfl) (!rfl) (!ze (!pgn (i:=9) zN.nd)) (!zx zt (!PD.b (!zx zt (!PD.b (!xp (!PD.b (!za (pv 9))) (!xt) (!xu (!PD.b (!za (pv 10)))))) (!PD.b (!PFr.d_ (!qW (!zm (!rfl) (!za (pv 5)) (!zi))))))) (!PD.b (!xp (!PD.b (!za (pv 9))) (!xu (!PD.b (!za (pv 10)))) (!xt)))))))) (!zf (!qM (!rfl) (!rfl) (!rfl) (!pgn (i:=11) zN.nd) (!qW (!zi))) (!zf (!zgo 4 (!jZ Jf (!rfl) (!zgh (!za (pv 4))) (!qG (!rfl) (!zw (!ze (!pgn (i:=7) zN.nd)) (!zw (!ze (!pgn (i:=8) zN.nd)) (!jR)))) (!zf (!zq (!rfl) (!rfl) (!rfl) (!ze (!pgn (i:=12) zN.nd)) (!jq (!PD.b (!za (pv 9))) (!PD.b (!za (pv 7))) (fun _ _=>(!rfl)))) (!zf (!zq (!rfl) (!rfl) (!rfl) (!ze (!pgn (i:=13) zN.nd)) (!jq (!PD.b (!za (pv 9))) (!PD.b (!za (pv 8))) (fun _ _=>(!rfl)))) (!zn (!kf (pv 11) (!jm (!zm (!rfl) (!jd (zbd (!rfl)) (!rfl) T.n_min boot_min (!jp (!rfl) (!PD.b (!za (pv 12))) (!jp (!rfl) (!PD.b (!za (pv 13))) (!zE)))) (!zm (!rfl) (!jd (zbc (!rfl)) (!rfl) T.n_max boot_max (!jp (!rfl) (!PD.b (!za (pv 12))) (!jp (!rfl) (!PD.b (!za (pv 13))) (!zE)))) (!zm (!rfl) (!zia hu1 (!xx (pv 4)) (!PD.b (!jm (!zm (!rfl) (!za (pv 7)) (!zm (!rfl) (!za (pv 8)) (!zi))))) (fun _ _=>(!rfl))) (!zi))))))))))) (!zn (!zB (!jm (!zm (!rfl) (!za (pv 3)) (!zm (!rfl) (!jk zV (!rfl) T.n_tuple VM (!jp (!rfl) (!PD.b (!PFr.d_ (!zge (!rfl) T.n_sorted (!jp (!rfl) (!xx (pv 11)) (!zE))))) (!zE))) (!zi))))))))))))))
theorem zaq:FnScope ["_law_yard_here", "_law_one", "_law_other"] ["_law_yard_here", "_law_one", "_law_other"] (zd (top 30)):=⟨rfl,rfl,rfl,by decide +kernel,rfl,by decide +kernel,by decide +kernel⟩
theorem kE (T:Tx K mg a):FnOk P w K mg base CX0 1 a.f_law_between a.d_law_between ["_law_yard_here", "_law_one", "_law_other"] (spD K 3 F_law_between):=by
 refine jW (N:=["_law_yard_here", "_law_one", "_law_other"]) T.F_law_between zaq fun cdv A outer s H E hr => ?_;have hu66:=yC hr;have hu64:=xT hr
 conv in (zj _)=>whnf
 exact(!zn (!zB (!jd (qE (!rfl)) (!rfl) T.n_sum Bd (!jp (!rfl) (!PD.b (!PFr.d_ (!jG (zI (oscope:=zd (top 30)) (oN:=["_law_yard_here", "_law_one", "_law_other"]) (own:=["_law_low", "_law_high", "_law_many"]) (caps:=[1,2]) (N:=["_law_low", "_law_high", "_law_many", "_law_one", "_law_other"]) (by decide +kernel) (!rfl) (!rfl)) (by decide) (yb (ji (zv (by decide)) (ji (zv (by decide)) (ji (zv (by decide)) ya)))) (!rfl) (!jy (!jq (!PD.b (!za (pv 0))) (!PD.b (!zg)) (fun _ _=>(!rfl)))) (fun _ _ _ _ _=>(!qG (!rfl) (!zw (!ze (zM (i:=0) (nd_ ["_law_low", "_law_high", "_law_many", "_law_one", "_law_other"]) (!rfl) (Or.inl (!rfl)))) (!zw (!ze (zM (i:=1) (nd_ ["_law_low", "_law_high", "_law_many", "_law_one", "_law_other"]) (!rfl) (Or.inl (!rfl)))) (!zw (!ze (zM (i:=2) (nd_ ["_law_low", "_law_high", "_law_many", "_law_one", "_law_other"]) (!rfl) (Or.inl (!rfl)))) (!jR)))))) (fun _ _ _ _ _=>(!qd (!PWd.t (!zgq (!ja (zbA hu64) (!PD.b (!za (pv 0))) (!PD.b (!za (pv 1))) (jN _)) (!zdr (!ja (zf6 hu66) (!PD.b (!jm (!zm (!rfl) (!za (pv 0)) (!zm (!rfl) (!za (pv 1)) (!zi))))) (!PD.b (!jm (!zm (!rfl) (!jm (!zm (!rfl) (!za (pv 3)) (!zm (!rfl) (!za (pv 4)) (!zi)))) (!zm (!rfl) (!jm (!zm (!rfl) (!za (pv 4)) (!zm (!rfl) (!za (pv 3)) (!zi)))) (!zi))))) (by rfl))))))) (fun _ _ _ _ _=>(!za (pv 2)))))) (!zE)))))
theorem wB:FnScope ["_law_yard_here", "_law_found", "_law_place"] ["_law_yard_here"] (zd (top 31)):=⟨rfl,rfl,rfl,by decide +kernel,rfl,by decide +kernel,by decide +kernel⟩
theorem yP (T:Tx K mg a):FnOk P w K mg base CX0 2 a.f_law_sizes a.d_law_sizes ["_law_yard_here"] (spD K 1 F_law_sizes):=by
 have O_law_between:=kE (P:=P) (w:=w) (base:=base) T;refine jW (N:=["_law_yard_here", "_law_found", "_law_place"]) T.F_law_sizes wB fun cdv A outer s H E hr => ?_
 conv in (zj _)=>whnf
 exact(!zf (!qM (!rfl) (!rfl) (!rfl) (!pgn (i:=1) wB.nd) (!qW (!zi))) (!zf (!jZ Jf (!rfl) (!xr (!rfl) T.n_range (!zm (!rfl) (!zg) (!zm (!rfl) (!zx zt (!PD.b (!jq (!PD.b (!za (pv 0))) (!PD.b (!zg)) (fun _ _=>(!rfl)))) (!PD.b (!zg))) (!zi)))) (!ze (!pgn (i:=2) wB.nd)) (!zn (!kf (pv 1) (!jd (qE (!rfl)) (!rfl) T.n_sum Bd (!jp (!rfl) (!PD.b (!PFr.d_ (!jG (zI (oscope:=zd (top 31)) (oN:=["_law_yard_here", "_law_found", "_law_place"]) (own:=["_law_other"]) (caps:=[0,2]) (N:=["_law_other", "_law_yard_here", "_law_place"]) (by decide +kernel) (!rfl) (!rfl)) (by decide) (zv (by decide)) (!rfl) (!xq (!rfl) T.n_range (!zm (!rfl) (!zx zt (!PD.b (!jq (!PD.b (!za (pv 0))) (!PD.b (!zg)) (fun _ _=>(!rfl)))) (!PD.b (!zg))) (!zi))) (fun _ _ _ _ _=>(!ze (zM (i:=0) (nd_ ["_law_other", "_law_yard_here", "_law_place"]) (!rfl) (Or.inl (!rfl))))) (fun _ _ _ _ _=>(!jI)) (fun _ _ _ _ _=>(!zy O_law_between (hr.mono (by omega)) (!rfl) T.m_law_between T.F_law_between.kp T.b_law_between (!zm (!rfl) (!za (pv 1)) (!zm (!rfl) (!za (pv 2)) (!zm (!rfl) (!za (pv 0)) (!zi))))))))) (!zE)))))) (!zn (!zdo 1 (!zB (!za (pv 1)))))))
theorem jw:FnScope ["_law_yard_here", "_law_grains_here", "_law_times", "_law_found", "_law_low", "_law_high", "_law_many", "_law_one", "_law_other"] ["_law_yard_here", "_law_grains_here", "_law_times"] (zd (top 32)):=⟨rfl,rfl,rfl,by decide +kernel,rfl,by decide +kernel,by decide +kernel⟩
theorem zaI (T:Tx K mg a):FnOk P w K mg base CX0 1 a.f_law_forced a.d_law_forced ["_law_yard_here", "_law_grains_here", "_law_times"] (spD K 3 F_law_forced):=by
 refine jW (N:=["_law_yard_here", "_law_grains_here", "_law_times", "_law_found", "_law_low", "_law_high", "_law_many", "_law_one", "_law_other"]) T.F_law_forced jw fun cdv A outer s H E hr => ?_
 conv in (zj _)=>whnf
 exact(!zf (!qM (!rfl) (!rfl) (!rfl) (!pgn (i:=3) jw.nd) (!zko (!rfl) T.n_list boot_list (!jp (!rfl) (!PD.b (!za (pv 1))) (!zE)))) (!zf (!jZ Jf (!rfl) (!jy (!jq (!PD.b (!za (pv 0))) (!PD.b (!zg)) (fun _ _=>(!rfl)))) (!qG (!rfl) (!zw (!ze (!pgn (i:=4) jw.nd)) (!zw (!ze (!pgn (i:=5) jw.nd)) (!zw (!ze (!pgn (i:=6) jw.nd)) (!jR))))) (!zn (!jZ Jf (!rfl) (!jy (!jm (!zm (!rfl) (!jm (!zm (!rfl) (!za (pv 4)) (!zm (!rfl) (!za (pv 5)) (!zi)))) (!zm (!rfl) (!jm (!zm (!rfl) (!za (pv 5)) (!zm (!rfl) (!za (pv 4)) (!zi)))) (!zi))))) (!qG (!rfl) (!zw (!ze (!pgn (i:=7) jw.nd)) (!zw (!ze (!pgn (i:=8) jw.nd)) (!jR)))) (!zn (!yg (!ja zi9 (!PD.b (!za (pv 7))) (!PD.b (!zg)) (jN _)) (!zf (!zaL (pv 3) (!PD.b (!zx qQ (!PD.b (!za (pv 7))) (!PD.b (!zg)))) (!zx qQ (!PD.b (!jq (!xx (pv 3)) (!PD.b (!zx qQ (!PD.b (!za (pv 7))) (!PD.b (!zg)))) (fun _ _=>(!rfl)))) (!PD.b (!zx qm (!PD.b (!za (pv 6))) (!PD.b (!jq (!PD.b (!za (pv 2))) (!PD.b (!zx qQ (!PD.b (!za (pv 7))) (!PD.b (!zg)))) (fun _ _=>(!rfl)))))))) (!zn (!yg (!ja zi9 (!PD.b (!za (pv 8))) (!PD.b (!zg)) (jN _)) (!zn (!zaL (pv 3) (!PD.b (!zx qQ (!PD.b (!za (pv 8))) (!PD.b (!zg)))) (!zx zt (!PD.b (!jq (!xx (pv 3)) (!PD.b (!zx qQ (!PD.b (!za (pv 8))) (!PD.b (!zg)))) (fun _ _=>(!rfl)))) (!PD.b (!zx qm (!PD.b (!za (pv 6))) (!PD.b (!jq (!PD.b (!za (pv 2))) (!PD.b (!zx qQ (!PD.b (!za (pv 7))) (!PD.b (!zg)))) (fun _ _=>(!rfl))))))))) (!qz)))) (!qz)))))) (!zn (!zB (!jk zV (!rfl) T.n_tuple VM (!jp (!rfl) (!xx (pv 3)) (!zE)))))))
theorem jt:FnScope ["_law_yard_here", "_law_grains_here", "_law_number", "_law_at", "_law_times", "_law_bounds", "_law_able", "_law_turn", "_law_place"] ["_law_yard_here", "_law_grains_here", "_law_number"] (zd (top 33)):=⟨rfl,rfl,rfl,by decide +kernel,rfl,by decide +kernel,by decide +kernel⟩
theorem zcq (T:Tx K mg a):FnOk P w K mg base CX0 3 a.f_law_rest a.d_law_rest ["_law_yard_here", "_law_grains_here", "_law_number"] (spD K 3 F_law_rest):=by
 have O_law_sizes:=yP (P:=P) (w:=w) (base:=base) T;have O_law_drawn:=yO (P:=P) (w:=w) (base:=base) T;have O_law_forced:=zaI (P:=P) (w:=w) (base:=base) T;refine jW (N:=["_law_yard_here", "_law_grains_here", "_law_number", "_law_at", "_law_times", "_law_bounds", "_law_able", "_law_turn", "_law_place"]) T.F_law_rest jt fun cdv A outer s H E hr => ?_;have hu64:=xT hr;have hu0:=zbm hr
 conv in (zj _)=>whnf
 exact(!zf (!zq (!rfl) (!rfl) (!rfl) (!ze (!pgn (i:=3) jt.nd)) (!za (pv 1))) (!zf (!qM (!rfl) (!rfl) (!rfl) (!pgn (i:=4) jt.nd) (!zl7 (!qW (!zm (!rfl) (!zg) (!zi))) (!PD.b (!jq (!PD.b (!za (pv 0))) (!PD.b (!zg)) (fun _ _=>(!rfl)))))) (!zf (!zq (!rfl) (!rfl) (!rfl) (!ze (!pgn (i:=5) jt.nd)) (!zy O_law_sizes (hr.mono (by omega)) (!rfl) T.m_law_sizes T.F_law_sizes.kp T.b_law_sizes (!zm (!rfl) (!za (pv 0)) (!zi)))) (!zf (!yf (i:=6) (zI (oscope:=zd (top 33)) (oN:=["_law_yard_here", "_law_grains_here", "_law_number", "_law_at", "_law_times", "_law_bounds", "_law_able", "_law_turn", "_law_place"]) (own:=["_law_k"]) (caps:=[3,5]) (N:=["_law_k", "_law_at", "_law_bounds"]) (by decide +kernel) (!rfl) (!rfl)) (by decide) (zv (by decide)) (!rfl) (!xq (!rfl) T.n_range (!zm (!rfl) (!jq (!PD.b (!za (pv 0))) (!PD.b (!zg)) (fun _ _=>(!rfl))) (!zi))) (fun _ _ _ _ _=>(!ze (zM (i:=0) (nd_ ["_law_k", "_law_at", "_law_bounds"]) (!rfl) (Or.inl (!rfl))))) (fun _ _ _ _ _=>(!qd (!ja (zf5 hu0) (!PD.b (!jq (!PD.b (!za (pv 1))) (!PD.b (!za (pv 0))) (fun _ _=>(!rfl)))) (!PD.b (!jq (!PD.b (!za (pv 2))) (!PD.b (!za (pv 0))) (fun _ _=>(!rfl)))) (jN _)))) (fun _ _ _ _ _=>(!za (pv 0))) jt.nd (!rfl) (!rfl) (!rfl)) (!zf (!zq (!rfl) (!rfl) (!rfl) (!ze (!pgn (i:=7) jt.nd)) (!zg)) (!zf (!kh Jf (!ja (zbA hu64) (!PD.b (!za (pv 6))) (!PD.b (!PFr.d_ (!qW (!zi)))) (jN _)) (!zf (!zq (!rfl) (!rfl) (!rfl) (!ze (!pgn (i:=8) jt.nd)) (!jq (!PD.b (!za (pv 6))) (!PD.b (!zx jM (!PD.b (!zy O_law_drawn (hr.mono (by omega)) (!rfl) T.m_law_drawn T.F_law_drawn.kp T.b_law_drawn (!zm (!rfl) (!za (pv 2)) (!zm (!rfl) (!zx jM (!PD.b (!za (pv 7))) (!PD.b (!zg))) (!zi))))) (!PD.b (!jd xN (!rfl) T.n_len MF (!jp (!rfl) (!PD.b (!za (pv 6))) (!zE)))))) (fun _ _=>(!rfl)))) (!zf (!zq (!rfl) (!rfl) (!rfl) (!ze (!pgn (i:=3) jt.nd)) (!zy O_law_forced (hr.mono (by omega)) (!rfl) T.m_law_forced T.F_law_forced.kp T.b_law_forced (!zm (!rfl) (!za (pv 0)) (!zm (!rfl) (!za (pv 3)) (!zm (!rfl) (!PFr.d_ (!jG (zI (oscope:=zd (top 33)) (oN:=["_law_yard_here", "_law_grains_here", "_law_number", "_law_at", "_law_times", "_law_bounds", "_law_able", "_law_turn", "_law_place"]) (own:=["_law_k"]) (caps:=[8]) (N:=["_law_k", "_law_place"]) (by decide +kernel) (!rfl) (!rfl)) (by decide) (zv (by decide)) (!rfl) (!xq (!rfl) T.n_range (!zm (!rfl) (!jq (!PD.b (!za (pv 0))) (!PD.b (!zg)) (fun _ _=>(!rfl))) (!zi))) (fun _ _ _ _ _=>(!ze (zM (i:=0) (nd_ ["_law_k", "_law_place"]) (!rfl) (Or.inl (!rfl))))) (fun _ _ _ _ _=>(!jI)) (fun _ _ _ _ _=>(!jk zeM (!rfl) T.n_int boot_int (!jp (!rfl) (!PD.b (!zgb (zac hu64) (!PD.b (!za (pv 0))) (!PD.b (!za (pv 1))) (jN _))) (!zE)))))) (!zi)))))) (!zf (!zaL (pv 4) (!PD.b (!za (pv 8))) (!zx zt (!PD.b (!jq (!xx (pv 4)) (!PD.b (!za (pv 8))) (fun _ _=>(!rfl)))) (!PD.b (!zg)))) (!zf (!zq (!rfl) (!rfl) (!rfl) (!ze (!pgn (i:=7) jt.nd)) (!zx zt (!PD.b (!za (pv 7))) (!PD.b (!zg)))) (!zn (!yf (i:=6) (zI (oscope:=zd (top 33)) (oN:=["_law_yard_here", "_law_grains_here", "_law_number", "_law_at", "_law_times", "_law_bounds", "_law_able", "_law_turn", "_law_place"]) (own:=["_law_k"]) (caps:=[3,5]) (N:=["_law_k", "_law_at", "_law_bounds"]) (by decide +kernel) (!rfl) (!rfl)) (by decide) (zv (by decide)) (!rfl) (!xq (!rfl) T.n_range (!zm (!rfl) (!jq (!PD.b (!za (pv 0))) (!PD.b (!zg)) (fun _ _=>(!rfl))) (!zi))) (fun _ _ _ _ _=>(!ze (zM (i:=0) (nd_ ["_law_k", "_law_at", "_law_bounds"]) (!rfl) (Or.inl (!rfl))))) (fun _ _ _ _ _=>(!qd (!ja (zf5 hu0) (!PD.b (!jq (!PD.b (!za (pv 1))) (!PD.b (!za (pv 0))) (fun _ _=>(!rfl)))) (!PD.b (!jq (!PD.b (!za (pv 2))) (!PD.b (!za (pv 0))) (fun _ _=>(!rfl)))) (jN _)))) (fun _ _ _ _ _=>(!za (pv 0))) jt.nd (!rfl) (!rfl) (!rfl)))))))) (!zn (!zB (!jm (!zm (!rfl) (!za (pv 3)) (!zm (!rfl) (!jk zV (!rfl) T.n_tuple VM (!jp (!rfl) (!xx (pv 4)) (!zE))) (!zi))))))))))))
theorem zW:FnScope ["_law_yard_here", "_law_bounds", "_law_top", "_law_met", "_law_todo", "_law_at", "_law_place", "_law_more", "_law_rest_here"] ["_law_yard_here"] (zd (top 34)):=⟨rfl,rfl,rfl,by decide +kernel,rfl,by decide +kernel,by decide +kernel⟩
theorem kG (T:Tx K mg a):FnOk P w K mg base CX0 4 a.f_law_reached a.d_law_reached ["_law_yard_here"] (spD K 1 F_law_reached):=by
 have O_law_sizes:=yP (P:=P) (w:=w) (base:=base) T;have O_law_rest:=zcq (P:=P) (w:=w) (base:=base) T;refine jW (N:=["_law_yard_here", "_law_bounds", "_law_top", "_law_met", "_law_todo", "_law_at", "_law_place", "_law_more", "_law_rest_here"]) T.F_law_reached zW fun cdv A outer s H E hr => ?_;have hu64:=xT hr;have hu1:=zlu hr
 conv in (zj _)=>whnf
 exact(!zf (!zq (!rfl) (!rfl) (!rfl) (!ze (!pgn (i:=1) zW.nd)) (!zy O_law_sizes (hr.mono (by omega)) (!rfl) T.m_law_sizes T.F_law_sizes.kp T.b_law_sizes (!zm (!rfl) (!za (pv 0)) (!zi)))) (!zf (!zq (!rfl) (!rfl) (!rfl) (!ze (!pgn (i:=2) zW.nd)) (!jk zV (!rfl) T.n_tuple VM (!jp (!rfl) (!PD.b (!PFr.d_ (!jG (zI (oscope:=zd (top 34)) (oN:=["_law_yard_here", "_law_bounds", "_law_top", "_law_met", "_law_todo", "_law_at", "_law_place", "_law_more", "_law_rest_here"]) (own:=["_law_size"]) (caps:=[]) (N:=["_law_size"]) (by decide +kernel) (!rfl) (!rfl)) (by decide) (zv (by decide)) (!rfl) (!jy (!za (pv 1))) (fun _ _ _ _ _=>(!ze (zM (i:=0) (nd_ ["_law_size"]) (!rfl) (Or.inl (!rfl))))) (fun _ _ _ _ _=>(!jI)) (fun _ _ _ _ _=>(!zx qQ (!PD.b (!za (pv 0))) (!PD.b (!zg))))))) (!zE)))) (!zf (!zed hu1 (!pgn (i:=3) zW.nd) (!za (pv 2)) (!zga)) (!zf (!qM (!rfl) (!rfl) (!rfl) (!pgn (i:=4) zW.nd) (!qW (!zm (!rfl) (!za (pv 2)) (!zi)))) (!zf (!kh Jf (!ja (zbA hu64) (!xx (pv 4)) (!PD.b (!PFr.d_ (!qW (!zi)))) (jN _)) (!zf (!zkC (!pgn (i:=5) zW.nd) (pv 4)) (!zn (!jZ Jf (!rfl) (!xq (!rfl) T.n_range (!zm (!rfl) (!jq (!PD.b (!za (pv 0))) (!PD.b (!zg)) (fun _ _=>(!rfl))) (!zi))) (!ze (!pgn (i:=6) zW.nd)) (!zf (!zq (!rfl) (!rfl) (!rfl) (!ze (!pgn (i:=7) zW.nd)) (!zx zt (!PD.b (!zx zt (!PD.b (!xp (!PD.b (!za (pv 5))) (!xt) (!xu (!PD.b (!za (pv 6)))))) (!PD.b (!jm (!zm (!rfl) (!zx zt (!PD.b (!jq (!PD.b (!za (pv 5))) (!PD.b (!za (pv 6))) (fun _ _=>(!rfl)))) (!PD.b (!zg))) (!zi)))))) (!PD.b (!xp (!PD.b (!za (pv 5))) (!xu (!PD.b (!zx zt (!PD.b (!za (pv 6))) (!PD.b (!zg))))) (!xt))))) (!zf (!zq (!rfl) (!rfl) (!rfl) (!ze (!pgn (i:=8) zW.nd)) (!jq (!PD.b (!zy O_law_rest (hr.mono (by omega)) (!rfl) T.m_law_rest T.F_law_rest.kp T.b_law_rest (!zm (!rfl) (!za (pv 0)) (!zm (!rfl) (!za (pv 7)) (!zm (!rfl) (!zg) (!zi)))))) (!PD.b (!zg)) (fun _ _=>(!rfl)))) (!zn (!yg (!ja (zct hu1) (!PD.b (!za (pv 8))) (!xx (pv 3)) (by rfl)) (!zf (!kg hu1 (pv 3) (!za (pv 8)) (!zga)) (!zn (!kf (pv 4) (!za (pv 8))))) (!qz))))))))) (!zn (!zB (!PFr.d_ (!zea (!rfl) (!rfl) T.n_sorted (!jp (!rfl) (!xx (pv 3)) (!zE)))))))))))
theorem we:FnScope ["_law_yard_here", "_law_found", "_law_place"] ["_law_yard_here"] (zd (top 35)):=⟨rfl,rfl,rfl,by decide +kernel,rfl,by decide +kernel,by decide +kernel⟩
theorem zcr (T:Tx K mg a):FnOk P w K mg base CX0 1 a.f_law_room a.d_law_room ["_law_yard_here"] (spD K 1 F_law_room):=by
 refine jW (N:=["_law_yard_here", "_law_found", "_law_place"]) T.F_law_room we fun cdv A outer s H E hr => ?_;have hu66:=yC hr
 conv in (zj _)=>whnf
 exact(!zf (!zq (!rfl) (!rfl) (!rfl) (!ze (!pgn (i:=1) we.nd)) (!zg)) (!zf (!jZ Jf (!rfl) (!xr (!rfl) T.n_range (!zm (!rfl) (!zg) (!zm (!rfl) (!zx zt (!PD.b (!jq (!PD.b (!za (pv 0))) (!PD.b (!zg)) (fun _ _=>(!rfl)))) (!PD.b (!zg))) (!zi)))) (!ze (!pgn (i:=2) we.nd)) (!zn (!zq (!rfl) (!rfl) (!rfl) (!ze (!pgn (i:=1) we.nd)) (!zx qm (!PD.b (!za (pv 1))) (!PD.b (!jd (qE (!rfl)) (!rfl) T.n_sum Bd (!jp (!rfl) (!PD.b (!PFr.d_ (!jG (zI (oscope:=zd (top 35)) (oN:=["_law_yard_here", "_law_found", "_law_place"]) (own:=["_law_link"]) (caps:=[2]) (N:=["_law_link", "_law_place"]) (by decide +kernel) (!rfl) (!rfl)) (by decide) (zv (by decide)) (!rfl) (!jy (!jq (!PD.b (!za (pv 0))) (!PD.b (!zg)) (fun _ _=>(!rfl)))) (fun _ _ _ _ _=>(!ze (zM (i:=0) (nd_ ["_law_link", "_law_place"]) (!rfl) (Or.inl (!rfl))))) (fun _ _ _ _ _=>(!qd (!ja (zf6 hu66) (!PD.b (!za (pv 1))) (!PD.b (!xp (!PD.b (!za (pv 0))) (!xt) (!xu (!PD.b (!zg))))) (by rfl)))) (fun _ _ _ _ _=>(!jq (!PD.b (!za (pv 0))) (!PD.b (!zg)) (fun _ _=>(!rfl))))))) (!zE)))))))) (!zn (!zB (!za (pv 1))))))
theorem zdO:FnScope ["_law_script", "_law_yard_here", "_law_other_yard", "_law_due", "_law_many"] ["_law_script"] (zd (top 36)):=⟨rfl,rfl,rfl,by decide +kernel,rfl,by decide +kernel,by decide +kernel⟩
theorem zlK (T:Tx K mg a):FnOk P w K mg base CX0 8 a.f_law a.d_law ["_law_script"] (spD K 1 F_law):=by
 have O_law_mixed:=zbz (P:=P) (w:=w) (base:=base) T;have O_law_yard:=zcs (P:=P) (w:=w) (base:=base) T;have O_law_room:=zcr (P:=P) (w:=w) (base:=base) T;have O_law_reached:=kG (P:=P) (w:=w) (base:=base) T;have O_lasting:=zd7 (P:=P) (w:=w) (base:=base) T;have O_count_of:=zcp (P:=P) (w:=w) (base:=base) T;refine jW (N:=["_law_script", "_law_yard_here", "_law_other_yard", "_law_due", "_law_many"]) T.F_law zdO fun cdv A outer s H E hr => ?_;have hu64:=xT hr
 conv in (zj _)=>whnf
 exact(!zf (!zq (!rfl) (!rfl) (!rfl) (!ze (!pgn (i:=1) zdO.nd)) (!zy O_law_yard (hr.mono (by omega)) (!rfl) T.m_law_yard T.F_law_yard.kp T.b_law_yard (!zm (!rfl) (!zy O_law_mixed (hr.mono (by omega)) (!rfl) T.m_law_mixed T.F_law_mixed.kp T.b_law_mixed (!zm (!rfl) (!za (pv 0)) (!zm (!rfl) (!zg) (!zi)))) (!zm (!rfl) (!zg) (!zm (!rfl) (!zg) (!zi)))))) (!zf (!zq (!rfl) (!rfl) (!rfl) (!ze (!pgn (i:=2) zdO.nd)) (!zy O_law_yard (hr.mono (by omega)) (!rfl) T.m_law_yard T.F_law_yard.kp T.b_law_yard (!zm (!rfl) (!zy O_law_mixed (hr.mono (by omega)) (!rfl) T.m_law_mixed T.F_law_mixed.kp T.b_law_mixed (!zm (!rfl) (!za (pv 0)) (!zm (!rfl) (!zg) (!zi)))) (!zm (!rfl) (!zg) (!zm (!rfl) (!zg) (!zi)))))) (!zf (!yg (!PWd.t (!zgq (!ja (zac hu64) (!PD.b (!zx jM (!PD.b (!zy O_law_mixed (hr.mono (by omega)) (!rfl) T.m_law_mixed T.F_law_mixed.kp T.b_law_mixed (!zm (!rfl) (!za (pv 0)) (!zm (!rfl) (!zg) (!zi))))) (!PD.b (!zg)))) (!PD.b (!zg)) (jN _)) (!zdr (!ja zlR (!PD.b (!zy O_law_room (hr.mono (by omega)) (!rfl) T.m_law_room T.F_law_room.kp T.b_law_room (!zm (!rfl) (!za (pv 2)) (!zi)))) (!PD.b (!zg)) (jN _))))) (!zn (!zq (!rfl) (!rfl) (!rfl) (!ze (!pgn (i:=1) zdO.nd)) (!za (pv 2)))) (!qz)) (!zf (!zq (!rfl) (!rfl) (!rfl) (!ze (!pgn (i:=3) zdO.nd)) (!zy O_law_reached (hr.mono (by omega)) (!rfl) T.m_law_reached T.F_law_reached.kp T.b_law_reached (!zm (!rfl) (!za (pv 1)) (!zi)))) (!zf (!yg (!ja (zbA hu64) (!PD.b (!zy O_lasting (hr.mono (by omega)) (!rfl) T.m_lasting T.F_lasting.kp T.b_lasting (!zm (!rfl) (!za (pv 1)) (!zi)))) (!PD.b (!jk zV (!rfl) T.n_tuple VM (!jp (!rfl) (!PD.b (!za (pv 3))) (!zE)))) (jN _)) (!zn (!zB (!zga))) (!qz)) (!zf (!zq (!rfl) (!rfl) (!rfl) (!ze (!pgn (i:=4) zdO.nd)) (!zy O_count_of (hr.mono (by omega)) (!rfl) T.m_count_of T.F_count_of.kp T.b_count_of (!zm (!rfl) (!za (pv 1)) (!zi)))) (!zn (!zB (!zja (!zbD (zjZ _) (!PD.b (!za (pv 4))) (!rfl) T.n_isinstance (!rfl) T.n_int Fp boot_int) (!zja (!zlU (!zbD (zhP _) (!PD.b (!za (pv 4))) (!rfl) T.n_isinstance (!rfl) T.n_bool Fp boot_bool)) (!zlV (!zgb (zac hu64) (!PD.b (!za (pv 4))) (!PD.b (!jd xN (!rfl) T.n_len MF (!jp (!rfl) (!PD.b (!za (pv 3))) (!zE)))) (jN _)))))))))))))
end
end L2.Y
set_option maxHeartbeats 4000000
namespace L2.Y
open PySem PySem.Spec PyProof.Rows
theorem all_mk {l:Bt}{w:QG}{K:Frag}{h:Je}{mg:Str→Option Za}{fa:Zh}(X:K.In h) (G:h.Ns ZL mg) (hfa:mg "law" = some (.ref fa))
  {f0:Zh}{od0 an0:Option Zh}{sl0:Array (Option Za)}{oc0 kV0 dc0 pm0 cd0 ct0:Za}
  (a0:ZX K ZL "size_of" = some (some (.ref f0)))
  (l0:K.lookup f0=some ⟨oc0,od0,.func (Zr "size_of" "size_of" (zp (top 4)) (zj (top 4)) (zd (top 4)) .none kV0 dc0 pm0 an0 cd0 ct0),sl0⟩)
  (c0:Qj K cd0 "size_of" = true) (k0:Qf K (.ref f0)=true)
  {f1:Zh}{od1 an1:Option Zh}{sl1:Array (Option Za)}{oc1 kV1 dc1 pm1 cd1 ct1:Za}
  (a1:ZX K ZL "sizes" = some (some (.ref f1)))
  (l1:K.lookup f1=some ⟨oc1,od1,.func (Zr "sizes" "sizes" (zp (top 5)) (zj (top 5)) (zd (top 5)) .none kV1 dc1 pm1 an1 cd1 ct1),sl1⟩)
  (c1:Qj K cd1 "sizes" = true) (k1:Qf K (.ref f1)=true)
  {f2:Zh}{od2 an2:Option Zh}{sl2:Array (Option Za)}{oc2 kV2 dc2 pm2 cd2 ct2:Za}
  (a2:ZX K ZL "between" = some (some (.ref f2)))
  (l2:K.lookup f2=some ⟨oc2,od2,.func (Zr "between" "between" (zp (top 6)) (zj (top 6)) (zd (top 6)) .none kV2 dc2 pm2 an2 cd2 ct2),sl2⟩)
  (c2:Qj K cd2 "between" = true) (k2:Qf K (.ref f2)=true)
  {f3:Zh}{od3 an3:Option Zh}{sl3:Array (Option Za)}{oc3 kV3 dc3 pm3 cd3 ct3:Za}
  (a3:ZX K ZL "all_below" = some (some (.ref f3)))
  (l3:K.lookup f3=some ⟨oc3,od3,.func (Zr "all_below" "all_below" (zp (top 8)) (zj (top 8)) (zd (top 8)) .none kV3 dc3 pm3 an3 cd3 ct3),sl3⟩)
  (c3:Qj K cd3 "all_below" = true) (k3:Qf K (.ref f3)=true)
  {f4:Zh}{od4 an4:Option Zh}{sl4:Array (Option Za)}{oc4 kV4 dc4 pm4 cd4 ct4:Za}
  (a4:ZX K ZL "rests" = some (some (.ref f4)))
  (l4:K.lookup f4=some ⟨oc4,od4,.func (Zr "rests" "rests" (zp (top 9)) (zj (top 9)) (zd (top 9)) .none kV4 dc4 pm4 an4 cd4 ct4),sl4⟩)
  (c4:Qj K cd4 "rests" = true) (k4:Qf K (.ref f4)=true)
  {f5:Zh}{od5 an5:Option Zh}{sl5:Array (Option Za)}{oc5 kV5 dc5 pm5 cd5 ct5:Za}
  (a5:ZX K ZL "ties_to" = some (some (.ref f5)))
  (l5:K.lookup f5=some ⟨oc5,od5,.func (Zr "ties_to" "ties_to" (zp (top 11)) (zj (top 11)) (zd (top 11)) .none kV5 dc5 pm5 an5 cd5 ct5),sl5⟩)
  (c5:Qj K cd5 "ties_to" = true) (k5:Qf K (.ref f5)=true)
  {f6:Zh}{od6 an6:Option Zh}{sl6:Array (Option Za)}{oc6 kV6 dc6 pm6 cd6 ct6:Za}
  (a6:ZX K ZL "catching" = some (some (.ref f6)))
  (l6:K.lookup f6=some ⟨oc6,od6,.func (Zr "catching" "catching" (zp (top 12)) (zj (top 12)) (zd (top 12)) .none kV6 dc6 pm6 an6 cd6 ct6),sl6⟩)
  (c6:Qj K cd6 "catching" = true) (k6:Qf K (.ref f6)=true)
  {f7:Zh}{od7 an7:Option Zh}{sl7:Array (Option Za)}{oc7 kV7 dc7 pm7 cd7 ct7:Za}
  (a7:ZX K ZL "burn" = some (some (.ref f7)))
  (l7:K.lookup f7=some ⟨oc7,od7,.func (Zr "burn" "burn" (zp (top 13)) (zj (top 13)) (zd (top 13)) .none kV7 dc7 pm7 an7 cd7 ct7),sl7⟩)
  (c7:Qj K cd7 "burn" = true) (k7:Qf K (.ref f7)=true)
  {f8:Zh}{od8 an8:Option Zh}{sl8:Array (Option Za)}{oc8 kV8 dc8 pm8 cd8 ct8:Za}
  (a8:ZX K ZL "fullest" = some (some (.ref f8)))
  (l8:K.lookup f8=some ⟨oc8,od8,.func (Zr "fullest" "fullest" (zp (top 15)) (zj (top 15)) (zd (top 15)) .none kV8 dc8 pm8 an8 cd8 ct8),sl8⟩)
  (c8:Qj K cd8 "fullest" = true) (k8:Qf K (.ref f8)=true)
  {f9:Zh}{od9 an9:Option Zh}{sl9:Array (Option Za)}{oc9 kV9 dc9 pm9 cd9 ct9:Za}
  (a9:ZX K ZL "least_heap" = some (some (.ref f9)))
  (l9:K.lookup f9=some ⟨oc9,od9,.func (Zr "least_heap" "least_heap" (zp (top 16)) (zj (top 16)) (zd (top 16)) .none kV9 dc9 pm9 an9 cd9 ct9),sl9⟩)
  (c9:Qj K cd9 "least_heap" = true) (k9:Qf K (.ref f9)=true)
  {f10:Zh}{od10 an10:Option Zh}{sl10:Array (Option Za)}{oc10 kV10 dc10 pm10 cd10 ct10:Za}
  (a10:ZX K ZL "one_heap_longer" = some (some (.ref f10)))
  (l10:K.lookup f10=some ⟨oc10,od10,.func (Zr "one_heap_longer" "one_heap_longer" (zp (top 17)) (zj (top 17)) (zd (top 17)) .none kV10 dc10 pm10 an10 cd10 ct10),sl10⟩)
  (c10:Qj K cd10 "one_heap_longer" = true) (k10:Qf K (.ref f10)=true)
  {f11:Zh}{od11 an11:Option Zh}{sl11:Array (Option Za)}{oc11 kV11 dc11 pm11 cd11 ct11:Za}
  (a11:ZX K ZL "lasting" = some (some (.ref f11)))
  (l11:K.lookup f11=some ⟨oc11,od11,.func (Zr "lasting" "lasting" (zp (top 18)) (zj (top 18)) (zd (top 18)) .none kV11 dc11 pm11 an11 cd11 ct11),sl11⟩)
  (c11:Qj K cd11 "lasting" = true) (k11:Qf K (.ref f11)=true)
  {f12:Zh}{od12 an12:Option Zh}{sl12:Array (Option Za)}{oc12 kV12 dc12 pm12 cd12 ct12:Za}
  (a12:ZX K ZL "joined" = some (some (.ref f12)))
  (l12:K.lookup f12=some ⟨oc12,od12,.func (Zr "joined" "joined" (zp (top 20)) (zj (top 20)) (zd (top 20)) .none kV12 dc12 pm12 an12 cd12 ct12),sl12⟩)
  (c12:Qj K cd12 "joined" = true) (k12:Qf K (.ref f12)=true)
  {f13:Zh}{od13 an13:Option Zh}{sl13:Array (Option Za)}{oc13 kV13 dc13 pm13 cd13 ct13:Za}
  (a13:ZX K ZL "grown" = some (some (.ref f13)))
  (l13:K.lookup f13=some ⟨oc13,od13,.func (Zr "grown" "grown" (zp (top 21)) (zj (top 21)) (zd (top 21)) .none kV13 dc13 pm13 an13 cd13 ct13),sl13⟩)
  (c13:Qj K cd13 "grown" = true) (k13:Qf K (.ref f13)=true)
  {f14:Zh}{od14 an14:Option Zh}{sl14:Array (Option Za)}{oc14 kV14 dc14 pm14 cd14 ct14:Za}
  (a14:ZX K ZL "trees" = some (some (.ref f14)))
  (l14:K.lookup f14=some ⟨oc14,od14,.func (Zr "trees" "trees" (zp (top 22)) (zj (top 22)) (zd (top 22)) .none kV14 dc14 pm14 an14 cd14 ct14),sl14⟩)
  (c14:Qj K cd14 "trees" = true) (k14:Qf K (.ref f14)=true)
  {f15:Zh}{od15 an15:Option Zh}{sl15:Array (Option Za)}{oc15 kV15 dc15 pm15 cd15 ct15:Za}
  (a15:ZX K ZL "count_of" = some (some (.ref f15)))
  (l15:K.lookup f15=some ⟨oc15,od15,.func (Zr "count_of" "count_of" (zp (top 23)) (zj (top 23)) (zd (top 23)) .none kV15 dc15 pm15 an15 cd15 ct15),sl15⟩)
  (c15:Qj K cd15 "count_of" = true) (k15:Qf K (.ref f15)=true)
  {f16:Zh}{od16 an16:Option Zh}{sl16:Array (Option Za)}{oc16 kV16 dc16 pm16 cd16 ct16:Za}
  (a16:ZX K ZL "_law_cell_at" = some (some (.ref f16)))
  (l16:K.lookup f16=some ⟨oc16,od16,.func (Zr "_law_cell_at" "_law_cell_at" (zp (top 25)) (zj (top 25)) (zd (top 25)) .none kV16 dc16 pm16 an16 cd16 ct16),sl16⟩)
  (c16:Qj K cd16 "_law_cell_at" = true) (k16:Qf K (.ref f16)=true)
  {f17:Zh}{od17 an17:Option Zh}{sl17:Array (Option Za)}{oc17 kV17 dc17 pm17 cd17 ct17:Za}
  (a17:ZX K ZL "_law_mixed" = some (some (.ref f17)))
  (l17:K.lookup f17=some ⟨oc17,od17,.func (Zr "_law_mixed" "_law_mixed" (zp (top 26)) (zj (top 26)) (zd (top 26)) .none kV17 dc17 pm17 an17 cd17 ct17),sl17⟩)
  (c17:Qj K cd17 "_law_mixed" = true) (k17:Qf K (.ref f17)=true)
  {f18:Zh}{od18 an18:Option Zh}{sl18:Array (Option Za)}{oc18 kV18 dc18 pm18 cd18 ct18:Za}
  (a18:ZX K ZL "_law_drawn" = some (some (.ref f18)))
  (l18:K.lookup f18=some ⟨oc18,od18,.func (Zr "_law_drawn" "_law_drawn" (zp (top 27)) (zj (top 27)) (zd (top 27)) .none kV18 dc18 pm18 an18 cd18 ct18),sl18⟩)
  (c18:Qj K cd18 "_law_drawn" = true) (k18:Qf K (.ref f18)=true)
  {f19:Zh}{od19 an19:Option Zh}{sl19:Array (Option Za)}{oc19 kV19 dc19 pm19 cd19 ct19:Za}
  (a19:ZX K ZL "_law_yard" = some (some (.ref f19)))
  (l19:K.lookup f19=some ⟨oc19,od19,.func (Zr "_law_yard" "_law_yard" (zp (top 28)) (zj (top 28)) (zd (top 28)) .none kV19 dc19 pm19 an19 cd19 ct19),sl19⟩)
  (c19:Qj K cd19 "_law_yard" = true) (k19:Qf K (.ref f19)=true)
  {f20:Zh}{od20 an20:Option Zh}{sl20:Array (Option Za)}{oc20 kV20 dc20 pm20 cd20 ct20:Za}
  (a20:ZX K ZL "_law_between" = some (some (.ref f20)))
  (l20:K.lookup f20=some ⟨oc20,od20,.func (Zr "_law_between" "_law_between" (zp (top 30)) (zj (top 30)) (zd (top 30)) .none kV20 dc20 pm20 an20 cd20 ct20),sl20⟩)
  (c20:Qj K cd20 "_law_between" = true) (k20:Qf K (.ref f20)=true)
  {f21:Zh}{od21 an21:Option Zh}{sl21:Array (Option Za)}{oc21 kV21 dc21 pm21 cd21 ct21:Za}
  (a21:ZX K ZL "_law_sizes" = some (some (.ref f21)))
  (l21:K.lookup f21=some ⟨oc21,od21,.func (Zr "_law_sizes" "_law_sizes" (zp (top 31)) (zj (top 31)) (zd (top 31)) .none kV21 dc21 pm21 an21 cd21 ct21),sl21⟩)
  (c21:Qj K cd21 "_law_sizes" = true) (k21:Qf K (.ref f21)=true)
  {f22:Zh}{od22 an22:Option Zh}{sl22:Array (Option Za)}{oc22 kV22 dc22 pm22 cd22 ct22:Za}
  (a22:ZX K ZL "_law_forced" = some (some (.ref f22)))
  (l22:K.lookup f22=some ⟨oc22,od22,.func (Zr "_law_forced" "_law_forced" (zp (top 32)) (zj (top 32)) (zd (top 32)) .none kV22 dc22 pm22 an22 cd22 ct22),sl22⟩)
  (c22:Qj K cd22 "_law_forced" = true) (k22:Qf K (.ref f22)=true)
  {f23:Zh}{od23 an23:Option Zh}{sl23:Array (Option Za)}{oc23 kV23 dc23 pm23 cd23 ct23:Za}
  (a23:ZX K ZL "_law_rest" = some (some (.ref f23)))
  (l23:K.lookup f23=some ⟨oc23,od23,.func (Zr "_law_rest" "_law_rest" (zp (top 33)) (zj (top 33)) (zd (top 33)) .none kV23 dc23 pm23 an23 cd23 ct23),sl23⟩)
  (c23:Qj K cd23 "_law_rest" = true) (k23:Qf K (.ref f23)=true)
  {f24:Zh}{od24 an24:Option Zh}{sl24:Array (Option Za)}{oc24 kV24 dc24 pm24 cd24 ct24:Za}
  (a24:ZX K ZL "_law_reached" = some (some (.ref f24)))
  (l24:K.lookup f24=some ⟨oc24,od24,.func (Zr "_law_reached" "_law_reached" (zp (top 34)) (zj (top 34)) (zd (top 34)) .none kV24 dc24 pm24 an24 cd24 ct24),sl24⟩)
  (c24:Qj K cd24 "_law_reached" = true) (k24:Qf K (.ref f24)=true)
  {f25:Zh}{od25 an25:Option Zh}{sl25:Array (Option Za)}{oc25 kV25 dc25 pm25 cd25 ct25:Za}
  (a25:ZX K ZL "_law_room" = some (some (.ref f25)))
  (l25:K.lookup f25=some ⟨oc25,od25,.func (Zr "_law_room" "_law_room" (zp (top 35)) (zj (top 35)) (zd (top 35)) .none kV25 dc25 pm25 an25 cd25 ct25),sl25⟩)
  (c25:Qj K cd25 "_law_room" = true) (k25:Qf K (.ref f25)=true)
  {f26:Zh}{od26 an26:Option Zh}{sl26:Array (Option Za)}{oc26 kV26 dc26 pm26 cd26 ct26:Za}
  (a26:ZX K ZL "law" = some (some (.ref f26)))
  (l26:K.lookup f26=some ⟨oc26,od26,.func (Zr "law" "law" (zp (top 36)) (zj (top 36)) (zd (top 36)) .none kV26 dc26 pm26 an26 cd26 ct26),sl26⟩)
  (c26:Qj K cd26 "law" = true) (k26:Qf K (.ref f26)=true)
  (z0:ZX K ZL "all" = some none)
  (z1:ZX K ZL "bool" = some none)
  (z2:ZX K ZL "int" = some none)
  (z3:ZX K ZL "isinstance" = some none)
  (z4:ZX K ZL "len" = some none)
  (z5:ZX K ZL "list" = some none)
  (z6:ZX K ZL "max" = some none)
  (z7:ZX K ZL "min" = some none)
  (z8:ZX K ZL "range" = some none)
  (z9:ZX K ZL "sorted" = some none)
  (z10:ZX K ZL "sum" = some none)
  (z11:ZX K ZL "tuple" = some none)
  (z12:ZX K ZL "zip" = some none)
  : ∃fd:QK,(∀(s:Zf) (v:Za),Rb s fd ⟨[v],[]⟩ [("_law_script",v)])∧∀base:Je,K.In base→base.Ns ZL mg→FnOk l.prog w K mg base CX0 8 fa fd ["_law_script"] (spD K 1 F_law):=by
 have e:=hfa.symm.trans (Qt X G a26);cases e;have F0:=jh (st:=top 4) l0 c0 k0;have b0:=F0.binds (ps:=["yard", "place"]) fun _ _ _ _ _ _ us hl=>by obtain⟨u0,u1,rfl⟩:=us2 hl;rfl
 have F1:=jh (st:=top 5) l1 c1 k1;have b1:=F1.binds (ps:=["yard"]) fun _ _ _ _ _ _ us hl=>by obtain⟨u0,rfl⟩:=us1 hl;rfl
 have F2:=jh (st:=top 6) l2 c2 k2;have b2:=F2.binds (ps:=["yard", "one", "other"]) fun _ _ _ _ _ _ us hl=>by obtain⟨u0,u1,u2,rfl⟩:=us3 hl;rfl
 have F3:=jh (st:=top 8) l3 c3 k3;have b3:=F3.binds (ps:=["heaps", "limits"]) fun _ _ _ _ _ _ us hl=>by obtain⟨u0,u1,rfl⟩:=us2 hl;rfl
 have F4:=jh (st:=top 9) l4 c4 k4;have b4:=F4.binds (ps:=["yard", "grains"]) fun _ _ _ _ _ _ us hl=>by obtain⟨u0,u1,rfl⟩:=us2 hl;rfl
 have F5:=jh (st:=top 11) l5 c5 k5;have b5:=F5.binds (ps:=["yard", "place", "others"]) fun _ _ _ _ _ _ us hl=>by obtain⟨u0,u1,u2,rfl⟩:=us3 hl;rfl
 have F6:=jh (st:=top 12) l6 c6 k6;have b6:=F6.binds (ps:=["yard", "grains", "unburnt"]) fun _ _ _ _ _ _ us hl=>by obtain⟨u0,u1,u2,rfl⟩:=us3 hl;rfl
 have F7:=jh (st:=top 13) l7 c7 k7;have b7:=F7.binds (ps:=["yard", "grains"]) fun _ _ _ _ _ _ us hl=>by obtain⟨u0,u1,rfl⟩:=us2 hl;rfl
 have F8:=jh (st:=top 15) l8 c8 k8;have b8:=F8.binds (ps:=["yard"]) fun _ _ _ _ _ _ us hl=>by obtain⟨u0,rfl⟩:=us1 hl;rfl
 have F9:=jh (st:=top 16) l9 c9 k9;have b9:=F9.binds (ps:=["yard", "ahead", "behind"]) fun _ _ _ _ _ _ us hl=>by obtain⟨u0,u1,u2,rfl⟩:=us3 hl;rfl
 have F10:=jh (st:=top 17) l10 c10 k10;have b10:=F10.binds (ps:=["yard", "start", "full"]) fun _ _ _ _ _ _ us hl=>by obtain⟨u0,u1,u2,rfl⟩:=us3 hl;rfl
 have F11:=jh (st:=top 18) l11 c11 k11;have b11:=F11.binds (ps:=["yard"]) fun _ _ _ _ _ _ us hl=>by obtain⟨u0,rfl⟩:=us1 hl;rfl
 have F12:=jh (st:=top 20) l12 c12 k12;have b12:=F12.binds (ps:=["groups", "one", "other"]) fun _ _ _ _ _ _ us hl=>by obtain⟨u0,u1,u2,rfl⟩:=us3 hl;rfl
 have F13:=jh (st:=top 21) l13 c13 k13;have b13:=F13.binds (ps:=["stems", "tie"]) fun _ _ _ _ _ _ us hl=>by obtain⟨u0,u1,rfl⟩:=us2 hl;rfl
 have F14:=jh (st:=top 22) l14 c14 k14;have b14:=F14.binds (ps:=["yard"]) fun _ _ _ _ _ _ us hl=>by obtain⟨u0,rfl⟩:=us1 hl;rfl
 have F15:=jh (st:=top 23) l15 c15 k15;have b15:=F15.binds (ps:=["yard"]) fun _ _ _ _ _ _ us hl=>by obtain⟨u0,rfl⟩:=us1 hl;rfl
 have F16:=jh (st:=top 25) l16 c16 k16;have b16:=F16.binds (ps:=["_law_script", "_law_k"]) fun _ _ _ _ _ _ us hl=>by obtain⟨u0,u1,rfl⟩:=us2 hl;rfl
 have F17:=jh (st:=top 26) l17 c17 k17;have b17:=F17.binds (ps:=["_law_script", "_law_k"]) fun _ _ _ _ _ _ us hl=>by obtain⟨u0,u1,rfl⟩:=us2 hl;rfl
 have F18:=jh (st:=top 27) l18 c18 k18;have b18:=F18.binds (ps:=["_law_number", "_law_k"]) fun _ _ _ _ _ _ us hl=>by obtain⟨u0,u1,rfl⟩:=us2 hl;rfl
 have F19:=jh (st:=top 28) l19 c19 k19;have b19:=F19.binds (ps:=["_law_number", "_law_most", "_law_wide"]) fun _ _ _ _ _ _ us hl=>by obtain⟨u0,u1,u2,rfl⟩:=us3 hl;rfl
 have F20:=jh (st:=top 30) l20 c20 k20;have b20:=F20.binds (ps:=["_law_yard_here", "_law_one", "_law_other"]) fun _ _ _ _ _ _ us hl=>by obtain⟨u0,u1,u2,rfl⟩:=us3 hl;rfl
 have F21:=jh (st:=top 31) l21 c21 k21;have b21:=F21.binds (ps:=["_law_yard_here"]) fun _ _ _ _ _ _ us hl=>by obtain⟨u0,rfl⟩:=us1 hl;rfl
 have F22:=jh (st:=top 32) l22 c22 k22;have b22:=F22.binds (ps:=["_law_yard_here", "_law_grains_here", "_law_times"]) fun _ _ _ _ _ _ us hl=>by obtain⟨u0,u1,u2,rfl⟩:=us3 hl;rfl
 have F23:=jh (st:=top 33) l23 c23 k23;have b23:=F23.binds (ps:=["_law_yard_here", "_law_grains_here", "_law_number"]) fun _ _ _ _ _ _ us hl=>by obtain⟨u0,u1,u2,rfl⟩:=us3 hl;rfl
 have F24:=jh (st:=top 34) l24 c24 k24;have b24:=F24.binds (ps:=["_law_yard_here"]) fun _ _ _ _ _ _ us hl=>by obtain⟨u0,rfl⟩:=us1 hl;rfl
 have F25:=jh (st:=top 35) l25 c25 k25;have b25:=F25.binds (ps:=["_law_yard_here"]) fun _ _ _ _ _ _ us hl=>by obtain⟨u0,rfl⟩:=us1 hl;rfl
 have F26:=jh (st:=top 36) l26 c26 k26;have b26:=F26.binds (ps:=["_law_script"]) fun _ _ _ _ _ _ us hl=>by obtain⟨u0,rfl⟩:=us1 hl;rfl
 have T:Tx K mg ⟨f0,Zr "size_of" "size_of" (zp (top 4)) (zj (top 4)) (zd (top 4)) .none kV0 dc0 pm0 an0 cd0 ct0,f1,Zr "sizes" "sizes" (zp (top 5)) (zj (top 5)) (zd (top 5)) .none kV1 dc1 pm1 an1 cd1 ct1,f2,Zr "between" "between" (zp (top 6)) (zj (top 6)) (zd (top 6)) .none kV2 dc2 pm2 an2 cd2 ct2,f3,Zr "all_below" "all_below" (zp (top 8)) (zj (top 8)) (zd (top 8)) .none kV3 dc3 pm3 an3 cd3 ct3,f4,Zr "rests" "rests" (zp (top 9)) (zj (top 9)) (zd (top 9)) .none kV4 dc4 pm4 an4 cd4 ct4,f5,Zr "ties_to" "ties_to" (zp (top 11)) (zj (top 11)) (zd (top 11)) .none kV5 dc5 pm5 an5 cd5 ct5,f6,Zr "catching" "catching" (zp (top 12)) (zj (top 12)) (zd (top 12)) .none kV6 dc6 pm6 an6 cd6 ct6,f7,Zr "burn" "burn" (zp (top 13)) (zj (top 13)) (zd (top 13)) .none kV7 dc7 pm7 an7 cd7 ct7,f8,Zr "fullest" "fullest" (zp (top 15)) (zj (top 15)) (zd (top 15)) .none kV8 dc8 pm8 an8 cd8 ct8,f9,Zr "least_heap" "least_heap" (zp (top 16)) (zj (top 16)) (zd (top 16)) .none kV9 dc9 pm9 an9 cd9 ct9,f10,Zr "one_heap_longer" "one_heap_longer" (zp (top 17)) (zj (top 17)) (zd (top 17)) .none kV10 dc10 pm10 an10 cd10 ct10,f11,Zr "lasting" "lasting" (zp (top 18)) (zj (top 18)) (zd (top 18)) .none kV11 dc11 pm11 an11 cd11 ct11,f12,Zr "joined" "joined" (zp (top 20)) (zj (top 20)) (zd (top 20)) .none kV12 dc12 pm12 an12 cd12 ct12,f13,Zr "grown" "grown" (zp (top 21)) (zj (top 21)) (zd (top 21)) .none kV13 dc13 pm13 an13 cd13 ct13,f14,Zr "trees" "trees" (zp (top 22)) (zj (top 22)) (zd (top 22)) .none kV14 dc14 pm14 an14 cd14 ct14,f15,Zr "count_of" "count_of" (zp (top 23)) (zj (top 23)) (zd (top 23)) .none kV15 dc15 pm15 an15 cd15 ct15,f16,Zr "_law_cell_at" "_law_cell_at" (zp (top 25)) (zj (top 25)) (zd (top 25)) .none kV16 dc16 pm16 an16 cd16 ct16,f17,Zr "_law_mixed" "_law_mixed" (zp (top 26)) (zj (top 26)) (zd (top 26)) .none kV17 dc17 pm17 an17 cd17 ct17,f18,Zr "_law_drawn" "_law_drawn" (zp (top 27)) (zj (top 27)) (zd (top 27)) .none kV18 dc18 pm18 an18 cd18 ct18,f19,Zr "_law_yard" "_law_yard" (zp (top 28)) (zj (top 28)) (zd (top 28)) .none kV19 dc19 pm19 an19 cd19 ct19,f20,Zr "_law_between" "_law_between" (zp (top 30)) (zj (top 30)) (zd (top 30)) .none kV20 dc20 pm20 an20 cd20 ct20,f21,Zr "_law_sizes" "_law_sizes" (zp (top 31)) (zj (top 31)) (zd (top 31)) .none kV21 dc21 pm21 an21 cd21 ct21,f22,Zr "_law_forced" "_law_forced" (zp (top 32)) (zj (top 32)) (zd (top 32)) .none kV22 dc22 pm22 an22 cd22 ct22,f23,Zr "_law_rest" "_law_rest" (zp (top 33)) (zj (top 33)) (zd (top 33)) .none kV23 dc23 pm23 an23 cd23 ct23,f24,Zr "_law_reached" "_law_reached" (zp (top 34)) (zj (top 34)) (zd (top 34)) .none kV24 dc24 pm24 an24 cd24 ct24,f25,Zr "_law_room" "_law_room" (zp (top 35)) (zj (top 35)) (zd (top 35)) .none kV25 dc25 pm25 an25 cd25 ct25,fa,Zr "law" "law" (zp (top 36)) (zj (top 36)) (zd (top 36)) .none kV26 dc26 pm26 an26 cd26 ct26⟩:=⟨F0,b0,Qt X G a0,F1,b1,Qt X G a1,F2,b2,Qt X G a2,F3,b3,Qt X G a3,F4,b4,Qt X G a4,F5,b5,Qt X G a5,F6,b6,Qt X G a6,F7,b7,Qt X G a7,F8,b8,Qt X G a8,F9,b9,Qt X G a9,F10,b10,Qt X G a10,F11,b11,Qt X G a11,F12,b12,Qt X G a12,F13,b13,Qt X G a13,F14,b14,Qt X G a14,F15,b15,Qt X G a15,F16,b16,Qt X G a16,F17,b17,Qt X G a17,F18,b18,Qt X G a18,F19,b19,Qt X G a19,F20,b20,Qt X G a20,F21,b21,Qt X G a21,F22,b22,Qt X G a22,F23,b23,Qt X G a23,F24,b24,Qt X G a24,F25,b25,Qt X G a25,F26,b26,Qt X G a26,Jg X G z0,Jg X G z1,Jg X G z2,Jg X G z3,Jg X G z4,Jg X G z5,Jg X G z6,Jg X G z7,Jg X G z8,Jg X G z9,Jg X G z10,Jg X G z11,Jg X G z12⟩
 exact⟨Zr "law" "law" (zp (top 36)) (zj (top 36)) (zd (top 36)) .none kV26 dc26 pm26 an26 cd26 ct26,fun s v=>.of_eq rfl,fun base _ _=>zlK T⟩
theorem walk {l:Bt}{q:Qc}{loose:List Str}{XP:(Str→Option Za)→Je→Prop}{YP:QG→Je→Prop}{d:DefRec}{K:Params→ZM}(hn:l.most=some 63) (hdf:d.params.defaults=[])
  (hY:∀(w:QG) (h:Je),YP w h→(K w.params).In h)
  (F:∀(w:QG) (mg:Str→Option Za) (fa:Zh) (h:Je),(K w.params).In h→h.Ns ZL mg→mg d.name=some (.ref fa) →
   ∃fd:QK,(∀(s:Zf) (u:Za),Rb s fd ⟨[u],[]⟩ [("_law_script",u)])∧∀base:Je,(K w.params).In base→base.Ns ZL mg→FnOk l.prog w (K w.params) mg base CX0 8 fa fd ["_law_script"] (spD (K w.params) 1 F_law)) :
  Dr q loose XP YP l.row.toRowW d [] (fun f vs=>RT f vs) :=
 L2.walk_of (n:=63) (k:=8) (x := "_law_script") (CX:=fun _=>CX0) (sp:=fun w=>spD (K w.params) 1 F_law) hn (by decide) hdf ⟨rfl,by decide,by decide⟩ hY F (fun _ _ a ns hl _ hS=>zgE hS (zhR ns hl)) fun _ _ _ _ _ z=>z
end L2.Y
open PySem PySem.W PyProof.Rows
set_option maxRecDepth 100000 in
set_option maxHeartbeats 0 in
theorem PySem.Challenge.cw_sandyard_k21_whole_lasting_holds : PySem.Challenge.rw_sandyard_k21_whole_lasting.Holds := by
 w_on;o_law;k_head;(case hw=>w_witness2)
 k_fill
 refine L2.Y.walk (l:=Um) rfl rfl (fun w h Y=>PySem.W.kIn_of Y) ?F
 case F =>
  intro w mg fa h KX G hmg;refine' L2.Y.all_mk KX G hmg ?a0 ?l0 ?c0 ?k0 ?a1 ?l1 ?c1 ?k1 ?a2 ?l2 ?c2 ?k2 ?a3 ?l3 ?c3 ?k3 ?a4 ?l4 ?c4 ?k4 ?a5 ?l5 ?c5 ?k5 ?a6 ?l6 ?c6 ?k6 ?a7 ?l7 ?c7 ?k7 ?a8 ?l8 ?c8 ?k8 ?a9 ?l9 ?c9 ?k9 ?a10 ?l10 ?c10 ?k10 ?a11 ?l11 ?c11 ?k11 ?a12 ?l12 ?c12 ?k12 ?a13 ?l13 ?c13 ?k13 ?a14 ?l14 ?c14 ?k14 ?a15 ?l15 ?c15 ?k15 ?a16 ?l16 ?c16 ?k16 ?a17 ?l17 ?c17 ?k17 ?a18 ?l18 ?c18 ?k18 ?a19 ?l19 ?c19 ?k19 ?a20 ?l20 ?c20 ?k20 ?a21 ?l21 ?c21 ?k21 ?a22 ?l22 ?c22 ?k22 ?a23 ?l23 ?c23 ?k23 ?a24 ?l24 ?c24 ?k24 ?a25 ?l25 ?c25 ?k25 ?a26 ?l26 ?c26 ?k26 ?z0 ?z1 ?z2 ?z3 ?z4 ?z5 ?z6 ?z7 ?z8 ?z9 ?z10 ?z11 ?z12
  (case a0=>k_is)
  (case l0=>k_is)
  (case c0=>k_is)
  (case k0=>k_is)
  (case a1=>k_is)
  (case l1=>k_is)
  (case c1=>k_is)
  (case k1=>k_is)
  (case a2=>k_is)
  (case l2=>k_is)
  (case c2=>k_is)
  (case k2=>k_is)
  (case a3=>k_is)
  (case l3=>k_is)
  (case c3=>k_is)
  (case k3=>k_is)
  (case a4=>k_is)
  (case l4=>k_is)
  (case c4=>k_is)
  (case k4=>k_is)
  (case a5=>k_is)
  (case l5=>k_is)
  (case c5=>k_is)
  (case k5=>k_is)
  (case a6=>k_is)
  (case l6=>k_is)
  (case c6=>k_is)
  (case k6=>k_is)
  (case a7=>k_is)
  (case l7=>k_is)
  (case c7=>k_is)
  (case k7=>k_is)
  (case a8=>k_is)
  (case l8=>k_is)
  (case c8=>k_is)
  (case k8=>k_is)
  (case a9=>k_is)
  (case l9=>k_is)
  (case c9=>k_is)
  (case k9=>k_is)
  (case a10=>k_is)
  (case l10=>k_is)
  (case c10=>k_is)
  (case k10=>k_is)
  (case a11=>k_is)
  (case l11=>k_is)
  (case c11=>k_is)
  (case k11=>k_is)
  (case a12=>k_is)
  (case l12=>k_is)
  (case c12=>k_is)
  (case k12=>k_is)
  (case a13=>k_is)
  (case l13=>k_is)
  (case c13=>k_is)
  (case k13=>k_is)
  (case a14=>k_is)
  (case l14=>k_is)
  (case c14=>k_is)
  (case k14=>k_is)
  (case a15=>k_is)
  (case l15=>k_is)
  (case c15=>k_is)
  (case k15=>k_is)
  (case a16=>k_is)
  (case l16=>k_is)
  (case c16=>k_is)
  (case k16=>k_is)
  (case a17=>k_is)
  (case l17=>k_is)
  (case c17=>k_is)
  (case k17=>k_is)
  (case a18=>k_is)
  (case l18=>k_is)
  (case c18=>k_is)
  (case k18=>k_is)
  (case a19=>k_is)
  (case l19=>k_is)
  (case c19=>k_is)
  (case k19=>k_is)
  (case a20=>k_is)
  (case l20=>k_is)
  (case c20=>k_is)
  (case k20=>k_is)
  (case a21=>k_is)
  (case l21=>k_is)
  (case c21=>k_is)
  (case k21=>k_is)
  (case a22=>k_is)
  (case l22=>k_is)
  (case c22=>k_is)
  (case k22=>k_is)
  (case a23=>k_is)
  (case l23=>k_is)
  (case c23=>k_is)
  (case k23=>k_is)
  (case a24=>k_is)
  (case l24=>k_is)
  (case c24=>k_is)
  (case k24=>k_is)
  (case a25=>k_is)
  (case l25=>k_is)
  (case c25=>k_is)
  (case k25=>k_is)
  (case a26=>k_is)
  (case l26=>k_is)
  (case c26=>k_is)
  (case k26=>k_is)
  (case z0=>k_is)
  (case z1=>k_is)
  (case z2=>k_is)
  (case z3=>k_is)
  (case z4=>k_is)
  (case z5=>k_is)
  (case z6=>k_is)
  (case z7=>k_is)
  (case z8=>k_is)
  (case z9=>k_is)
  (case z10=>k_is)
  (case z11=>k_is)
  (case z12=>k_is)
end
