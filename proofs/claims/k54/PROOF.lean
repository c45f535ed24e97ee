import PyProof.Rows.All
import Wide.All
import OpenK.AllK
import Wide.FinOn
import Lean
import PyProof.EqAt
import PyProof.EqKinds
import PyProof.TupleCall
import PyProof.Rows.SetFrom
import PyProof.TupleKey
import KE.KSortTup
import PyProof.ListRange
import PyProof.ConsumeS
import KE.KIntText
import PyProof.StrCalls2
import PyProof.StrOps2
import PyProof.SliceStr2
import PyProof.StrWalks
import PyProof.Rows.StrJoin2
import PyProof.ZipIter
import PyProof.TupleIter
import PyProof.ListMulRoad
import PyProof.WalksMore
import KE.KDictLaws
import KE.KDictList
import PyProof.IsiH_list
import PyProof.AttrMiss
import KE.KDictOf
import PyProof.StationsW
import PyProof.ExcInit
import PyProof.ExcClass2
import PyProof.ExcBaseAll.ValueError
import OpenK.KMake
import OpenK.KCls
import PyProof.Rows.FStr
import PyProof.LayNew
import PyProof.RulesAs
import PyProof.NsDelKeeps
import PyProof.ExcAttrAll.ValueError
import KE.KIsAll
import PyProof.CollectIter
import PyProof.TupleOfStr
import KE.KEqDict
import PyProof.DictWalks
import KE.KRevSl
import KE.KRevIter
import PyProof.Draws
import PyProof.EnumMake
import PySem.Challenge.RW_mergeline_k54_waits
set_option Elab.async false
set_option linter.all false
set_option maxRecDepth 100000
set_option maxHeartbeats 4000000
open Array renaming getElem?_toList→rg,length_toList→di,toList_append→HX
open Bool renaming and_eq_true_iff→dP,and_eq_true→qM,and_false→AW,eq_false_iff→eT,eq_iff_iff→eY,false_ne_true→jm,or_eq_true→Ag,or_true→Fu,true_and→kQ
open False renaming elim→gY
open ForInStep renaming yield→pU
open Int renaming emod_lt_of_pos→dG,emod_nonneg→cK,eq_ofNat_of_zero_le→lI,le_refl→Ai,le_trans→FG,toNat_natCast→fy
open Int.ofNat renaming inj→yE
open List renaming all_eq_true→fe,all_map→Ft,any_cons→mP,any_eq_false→wU,any_eq_true→iR,append_assoc→cC,append_nil→b9,drop_eq_nil_of_le→qX,drop_succ_cons→uS,drop_zero→lN,eq_nil_of_length_eq_zero→gy,ext_getElem?→gD,filterMap_append→jH,filterMap_cons_none→dX,filterMap_cons_some→cJ,filterMap_cons→iO,filterMap_map→bP,filter_cons→gf,filter_eq_nil_iff→Fv,find?_cons→cO,flatten_append→nM,flatten_cons→fu,flatten_eq_nil_iff→qN,foldl_append→eS,foldl_cons→nB,fst_mem_of_mem_zipIdx→j0,getD_eq_getElem?_getD→aO,getElem?_append_left→bX,getElem?_append_right→bO,getElem?_drop→jq,getElem?_eq_getElem→av,getElem?_eq_none→dI,getElem?_eq_some_iff→aJ,getElem?_inj→iB,getElem?_map→ay,getElem?_range→iP,getElem?_replicate→ei,getElem?_set_ne→a7,getElem?_set_self→a_,getElem?_take_of_lt→kO,getElem?_zipIdx→jZ,getElem?_zip_eq_some→B5,getElem_cons_drop→Fw,getElem_mem→cZ,length_append→aV,length_cons→bf,length_drop→cV,length_filterMap_le→iD,length_map→ae,length_nil→df,length_pos_iff→iQ,length_range→cY,length_replicate→dH,length_reverse→uR,length_set→kW,length_singleton→f6,length_take→bh,length_zip→rn,length→ft,lookup_cons→eP,lookup→k6,map_append→aP,map_congr_left→eQ,map_cons→aA,map_drop→pW,map_map→aB,map_nil→jo,map_singleton→kY,map_take→DG,map→tN,mem_append_left→bM,mem_append_right→bq,mem_append→bo,mem_cons_of_mem→aN,mem_cons_self→aM,mem_cons→ax,mem_filterMap→jl,mem_filter→kT,mem_flatMap→x9,mem_flatten→iS,mem_iff_getElem?→sE,mem_iff_getElem→j7,mem_map→au,mem_of_getElem?→aK,mem_of_mem_drop→fG,mem_of_mem_take→eC,mem_or_eq_of_mem_set→o9,mem_range→cA,mem_replicate→jt,mem_singleton→aQ,nil_append→eZ,nodup_append→bR,nodup_cons→cj,nodup_nil→gx,not_mem_nil→bD,of_mem_zip→nA,pairwise_iff_getElem→ko,perm_append_comm_assoc→Av,perm_append_comm→mB,perm_middle→yb,range_succ→rm,range→cx,replicate_succ→fq,replicate→bw,reverse_cons→lL,set_comm→uW,size_toArray→bH,take_add_one→cv,take_append_drop→fz,take_length→cy,take_of_length_le→dw,toArray→bZ,zip_cons_cons→dg
open List.Pairwise renaming map→mY
open List.cons renaming inj→hZ
open Nat renaming eq_zero_or_pos→vX,le_add_right→qS,le_of_lt→xG,le_of_not_lt→gZ,le_refl→aT,le_succ_of_le→lS,le_trans→bU,lt_of_lt_of_le→b_,lt_succ_of_lt→pV,lt_succ_self→yC,lt_trans→rh,min_eq_left→iA,mul_le_mul→j_,ne_of_gt→gu,ne_of_lt→a9,sub_self→xO,succ_mul→FD,toDigits_of_lt_base→lJ,toDigits→iC,zero_add→lR,zero_le→bj
open Ne renaming symm→bJ
open Option renaming isSome_map→vT,map_some→kI,toList_none→nX,toList_some→HW
open Option.some renaming injEq→g0,inj→cG
open Or renaming inl→o8
open PyProof.Rows renaming AllBare→ud,IntsAre→Ao,assignInOrder_cons→jI,assignInOrder_nil→Am,callWith_type1→iW,slot_tuple_getitem→kP
open PyProof.Rows.F renaming entry_set_update_loop→HS
open PyProof.Rows.IsTup renaming new→tL
open PySem renaming Addr→aH,Around→dO,Builtin→wX,CmpOp→FC,DictEntry→wW,Expr→bK,FuncData→eM,GenState→tf,Heap→cX,IsPair→B4,IsPart→BX,NameKind→nY,Paired→nH,Params→BZ,PassesOwn→tj,Program→bA,PyData→aj,Result→vV,Scope→kH,Shared→aS,Spec→fk,Stmt→fQ,Value→aF,Within→DK,World→cn,boot_len→tE,call_meets→iY,codeAny_builtin→lM,codeAny_mono→pj,length_partsBetween→xJ,mem_of_lookup→iN,plainId_quiet→x6,sizeLine_eq→dN,tupleKind_room_in1→lP,typeIs_str→ug,wpAny_Call_Name_kw→p9,wpAny_bindName→pZ,wpAny_bind→aD,wpAny_callSpecial?_slot→jx,wpAny_call_entry→nJ,wpAny_execs_nil→DM,wpAny_field→fN,wpAny_holding→q_,wpAny_ite_false→lO,wpAny_loadPart'→fH,wpAny_mono→il,wpAny_newObj_type→fW,wpAny_onRaise→x8,wpAny_passesOwn→oP,wpAny_pure→bx,wpAny_pyIter_list→mN,wpAny_pyIter_tuple→yA,wpAny_rule→uf,wpAny_seqItems→iq,wpAny_setField_rec→jJ,wpAny_standAt→x5,wpAny_truthy_bool→fV,wpAny_updateSeq_pair→vY
open PySem.Around renaming under→DC
open PySem.AutoSeq1 renaming idx_int→HV,sub_tuple_tuple→Ah
open PySem.Builtin.List renaming listFitsIndex→vU,listTooLong→wV
open PySem.Builtin.Slice renaming sliceAdjust→mO,slicePlaces→jA
open PySem.Builtin.SmallTypes renaming nextOf→iZ
open PySem.Calls renaming Name_function_global→Al,callWith_builtin→lK,evalArgs_plain→tq,spliced_cons→kU,spliced_nil→vW
open PySem.Code renaming isFrame→Fs
open PySem.F renaming args_dict_get_3→AX,args_str_split_2→xK,args_tuple_add_2→An,args_tuple_iterator_next_1→B3,called_set→kJ,entry_dict_get→B1,entry_str_split→yD,entry_tuple_add→AV,entry_tuple_iterator_next→DF,plainAttrs_dict→AY,plainAttrs_list→cB,plainAttrs_str→B2,slot_dict_getitem→Af,slot_dict_get→qR,slot_dict_setdefault→xN,slot_list_append→eN,slot_list_extend→As,slot_list_getattribute→k7,slot_str_split→Ap,slot_tuple_add→BW,slot_tuple_iterator_next→km,slot_tuple_mul→Ar,slot_zip_next→tM,type_list_append→eO,type_list_extend→Au
open PySem.Heap renaming NewAttrErr→rj,SameBut→iz,get?_push_of_some→aI,get?_push_size→bE,lt_size→a8,size_push→g8
open PySem.Heap.SameBut renaming update→Aq
open PySem.MeetsSeq renaming plain_index_loop→ri
open PySem.NameKind renaming cell→lQ,free→eK
open PySem.Paired renaming length→uc
open PySem.PassesOwn renaming never→bY
open PySem.PyData renaming bool→i_,canLay0→bW,canLayAll0→oQ,eqv→cR,int→c9,list→ik,str→aX,tuple→fA
open PySem.SeqAt renaming readOf→vZ
open PySem.Str renaming empty→gi,join→dm,length_append→cF
open PySem.StrLaws renaming found_one→uY,join_split→nL,occ_length_le→DE,sliceText_from→B6,sliceText_to→DN,split_free→uh
open PySem.Txt renaming slice_le→FE,slice→mQ,split→cP
open PySem.Value renaming isStrOf→uQ,none→nZ,ref→d_,type→uV
open PySem.W renaming Frag→aq,cellsFrom_some→BV,codeIn→nI,emptyDict→gw,findIn→dB,fnOf→iX,hasDictIn→oi,instObj→g_,keepIn→iH,kia_one→kC,kitOne→eE,lookIn→yB,makesIn→xI,mg_of→oS,plainGet→o_,plainOver→uX,takerIn→xH
open Sum renaming inl→jw,inr→aU
open Sum.inl renaming inj→DJ
open Sum.inr renaming inj→hU
open True renaming intro→f9
def qQ0:=@decide_eq_false
def qQ1:=@decide_eq_true
def qQ2:=@if_neg
def qQ3:=@if_pos
def qQ4:=@of_decide_eq_true
def qQ5:=@of_decide_eq_false
def qQ6:=@congrArg
def qQ7:=@absurd
local macro_rules|`(tactic|symm)=>`(tactic|decide +kernel)
local macro_rules|`(tactic|left)=>`(tactic|first|exact Or.inl rfl|exact Or.inr rfl|exact Or.inr (Or.inl rfl)|exact Or.inr (Or.inr rfl)|assumption)
local macro_rules|`(tactic|ext)=>`(tactic|(intro _ _ h;(repeat obtain⟨_,h⟩:=h);subst_vars;rfl))
local macro_rules|`(tactic|ac_rfl)=>`(tactic|exact⟨rfl,by first|exact Or.inl rfl|exact Or.inr (Or.inl rfl)|exact Or.inr (Or.inr rfl),by decide,by decide⟩)
local macro_rules|`(tactic|grind)=>`(tactic|exact⟨rfl,rfl,rfl,by decide +kernel,rfl,by decide +kernel,by decide +kernel⟩)
section
local macro_rules|`(#[$a])=>`(⟨$a⟩)|`(#[$a,$b,*])=>`(⟨$a,$b,*⟩)
local macro_rules|`(∅)=>`(by omega)
local macro_rules|`(⋯)=>`(by decide)
local macro_rules|`(∎)=>`(by symm)
local macro_rules|`(↑$x)=>`(by simpa using $x)
namespace L2
open PySem PySem.Spec PyProof.Rows
variable{C a it:aH}{A:dO}{g':Array tf}{d':Drawn}{c e tg:bK}{fd:eM}{base h:cX}{g:Int->Int->Int}{pins:List (aH×Obj)}{kw:List (Str×aF)}{ch fp:List aH}{outer:List Env}{es:List bK}{body:List fQ}{N ps:List Str}{us:List aF}{M:Model}{k t':Nat}{o:Obj}{P:bA}{K:aq}{scope:kH}{s s':aS}{kindOf:Str->Option nY}{mA mg:Str->Option aF}{u:aF}{E Q:aF->aS->Prop}{f:aF->aF->Sem aF}{w:cn}
abbrev Key:=Sum Int Str
def AZ:Key->aF->Bool
 | .inl k,v=>aF.isInt k v
 | .inr x,v=>uQ x v
def zaI(w:cn):Key->Int
 | .inl k=>hashInt k
 | .inr x=>hashStr w x
theorem gM:∀{k:Key}{v:aF},AZ k v=true->(∃i t,k=jw i/\v=aF.int i t)\/(∃x t,k=aU x/\v=aF.str x t)
 | .inl i,v,h=>by
  obtain⟨t,e⟩:=aF.isInt_shape h;exact .inl #[i,t,rfl,e]
 | .inr x,v,h=>by
  obtain⟨t,e⟩:=aF.isStrOf_shape h;exact .inr #[x,t,rfl,e]
theorem Jx(i:Int)(t:Tok):AZ (.inl i) (.int i t)=true:=by simp[AZ,aF.isInt]
theorem Jy(x:Str)(t:Tok):AZ (.inr x) (.str x t)=true:=by simp[AZ,uQ]
theorem Ts(a b:Int):decide ((jw a:Key)=jw b)=(a==b):=by
 by_cases e:a=b
 ·subst e;simp
 ·have h:¬(jw a:Key)=jw b:=λq=>e (DJ q)
  rw[qQ0 h];exact(beq_eq_false_iff_ne.mpr e).symm
theorem Tt(a b:Str):decide ((aU a:Key)=aU b)=decide (a=b):=by
 by_cases e:a=b
 ·simp
 ·have h:¬(aU a:Key)=aU b:=λq=>e (hU q)
  rw[qQ0 h,qQ0 e]
theorem Tv(a:Int)(b:Str):decide ((jw a:Key)=aU b)=false:=qQ0 (λq=>nomatch q)
theorem Tw(a:Str)(b:Int):decide ((aU a:Key)=jw b)=false:=qQ0 (λq=>nomatch q)
def e8(prog:bA)(w:cn):PySem.KeyKind prog w Key where
 is:=AZ
 hash:=zaI w
 inj:=λv a b ha hb=>by
  rcases gM ha with⟨i,t,rfl,rfl⟩|⟨x,t,rfl,rfl⟩
  ·rcases gM hb with⟨j,u,rfl,e⟩|⟨y,u,rfl,e⟩
   ·injection e with e1 _;rw[e1]
   ·exact nomatch e
  ·rcases gM hb with⟨j,u,rfl,e⟩|⟨y,u,rfl,e⟩
   ·exact nomatch e
   ·injection e with e1 _;rw[e1]
 byValue:=λk v h=>by
  rcases gM h with⟨i,t,rfl,rfl⟩|⟨x,t,rfl,rfl⟩<;>rfl
 pyHash:=λhv h=>by
  rcases gM hv with⟨i,t,rfl,rfl⟩|⟨x,t,rfl,rfl⟩
  ·exact wpAny_pyHash_int h
  ·exact wpAny_pyHash_str h
 eqBool:=λhu hv h=>by
  rcases gM hu with⟨i,t,rfl,rfl⟩|⟨x,t,rfl,rfl⟩
  ·rcases gM hv with⟨j,u,rfl,rfl⟩|⟨y,u,rfl,rfl⟩
   ·rw[Ts]at h;exact wpAny_eqBool_int h
   ·rw[Tv]at h;exact SeqAt.EqAt.int_str i t y u _ _ _ _ h
  ·rcases gM hv with⟨j,u,rfl,rfl⟩|⟨y,u,rfl,rfl⟩
   ·rw[Tw]at h;exact SeqAt.EqAt.str_int x t j u _ _ _ _ h
   ·rw[Tt]at h;exact wpAny_eqBool_str h
 «strs»:=λk x t v h=>by
  rcases gM h with⟨i,u,rfl,e⟩|⟨y,u,rfl,e⟩
  ·exact nomatch e
  ·injection e with e1 _
   subst e1;cases v<;>rfl
theorem DP(prog:bA)(w:cn)(i:Int)(t:Tok):(e8 prog w).is (.inl i) (.int i t)=true:=Jx i t
theorem rq(prog:bA)(w:cn)(x:Str)(t:Tok):(e8 prog w).is (.inr x) (.str x t)=true:=Jy x t
inductive V where
 |non|bl (b:Bool)|int (i:Int)|str (x:Str)|V7 (b:Array UInt8)|flt (b:UInt64)|ref (a:aH)|ty (n:String)
 deriving DecidableEq
variable{vs xs:List V}
def RelV:V->aF->Prop
 | .non,u=>u=nZ
 | .bl b,u=>u=aF.bool b
 | .int i,u=>∃t,u=aF.int i t
 | .str x,u=>∃t,u=aF.str x t
 | .V7 b,u=>∃t,u=aF.bytes b t
 | .flt b,u=>∃t,u=aF.float b t
 | .ref a,u=>u=d_ a
 | .ty n,u=>u=uV n
abbrev dU:List V->List aF->Prop:=nH RelV
theorem dU.length(r:dU xs us):xs.length=us.length:=uc r
theorem dU.get:∀{xs:List V}{us:List aF}{i:Nat}{x:V},dU xs us->xs[i]?=some x->∃u,us[i]?=some u/\RelV x u
 |_,_,_,_,.nil,e=>by simp at e
 |_,_,0,_,.cons r _,e=>by simp at e;subst e;exact#[_,rfl,r]
 |_,_,i+1,x,.cons _ t,e=>by
  obtain⟨u,h1,h2⟩:=dU.get t ↑e
  exact#[u,by simpa using h1,h2]
theorem dU.append:∀{xs ys:List V}{us ws:List aF},dU xs us->dU ys ws->dU (xs++ys) (us++ws)
 |_,_,_,_,.nil,s=>s
 |_,_,_,_,.cons r t,s=>.cons r (dU.append t s)
theorem dU.take:∀{xs:List V}{us:List aF}(n:Nat),dU xs us->dU (xs.take n) (us.take n)
 |_,_,0,_=>.nil
 |_,_,_+1,.nil=>.nil
 |_,_,n+1,.cons r t=>.cons r (dU.take n t)
theorem dU.drop:∀{xs:List V}{us:List aF}(n:Nat),dU xs us->dU (xs.drop n) (us.drop n)
 |_,_,0,r=>r
 |_,_,_+1,.nil=>.nil
 |_,_,n+1,.cons _ t=>dU.drop n t
def ui:Option V->Option aF->Prop
 |some v,some u=>RelV v u
 |none,none=>True
 |_,_=>False
def KV{κ:Type}:List (κ×V)->List (κ×aF)->Prop:=nH λ(p:κ×V)(q:κ×aF)=>p.1=q.1/\RelV p.2 q.2
def kV:Key->V
 | .inl i=>.int i
 | .inr x=>.str x
inductive HO where
 |lst (xs:List V)
 |tup (xs:List V)
 |dK (kvs:List (Key×V))|dT (kvs:List (List Key×V))
 |set (S:Int->Bool) (n:Nat)
 |ins (C dx:aH) (fs:List (Str×V))
 |own (x:aH)
 |xd (fs:List (Str×V))
 |met (f x:aH)
 |rng (lo hi:Int)
 |p_ (o:Obj) (u:HO)
 |Tx (ps:Array aF)
 |ext (φ:cX->Prop)
abbrev Hp:=aH->Option HO
variable{H:Hp}{R:V->V->Hp->Prop}
def upd(H:Hp)(a:aH)(o:HO):Hp:=λb=>if b=a then some o else H b
theorem aZ{o:HO}:upd H a o a=some o:=by unfold upd;rw[qQ3 rfl]
theorem aL{b: aH}{o:HO}(h:b≠a):upd H a o b=H b:=by unfold upd;rw[qQ2 h]
theorem WT{b: aH}{o u:HO}(h:H a=some o)(h':H b=some u)(d:o≠u):a≠b:=by
 intro e;subst e;rw[h]at h';exact d (cG h')
theorem bC{b: aH}{o:HO}(h:H a=some o)(h':H b=none):a≠b:=by
 intro e;subst e;rw[h]at h';cases h'
section
variable(P:bA)(w:cn)
def iT(H:Hp)(h:cX)(a:aH):HO->Prop
 | .lst xs=>xs.length<=sizeLine/\∃(its:List aF)(n:Nat),dU xs its/\h.get? a=some { cls:=.type "list",data:=.seq its.toArray n }
 | .tup xs=>xs.length<=sizeLine/\∃its:List aF,dU xs its/\IsTup h a its.toArray
 | .dK kvs=>kvs.length<=sizeLine/\(a==sysModules)=false/\∃vs,KV kvs vs/\h.DictOf (e8 P w) a vs
 | .dT kvs=>kvs.length<=sizeLine/\(a==sysModules)=false/\∃xs:List (List Key×aH×aF),
   nH (λ(p:List Key×V)(q:List Key×aH×aF)=>p.1=q.1/\H q.2.1=some (.tup (p.1.map kV))/\RelV p.2 q.2.2) kvs xs/\
   ∃o es ep,h.get? a=some o/\o.ExactDict/\o.data=.dict es ep/\es.toList=xs.map (entryOfKey (tupleKind (e8 P w)))/\(xs.map (·.1)).Nodup
 | .set S n=>h.SetOf (intKind P w) a S n
 | .ins C dx fs=>H dx=some (.own a)/\fs.length<=1000/\dx≠a/\h.get? a=some (g_ C dx)/\
   ∃mA,h.Ns1 dx mA/\(∀f,ui (fs.lookup f) (mA f))/\DK mA (fs.map (·.1))
 | .own _=>∃o,h.get? a=some o
 | .xd fs=>∃mA,h.Ns1 a mA/\∀f,ui (fs.lookup f) (mA f)
 | .rng lo hi=>∃t u v,h.get? a=some { cls:=.type "range",data:=.fields (bZ [.int lo t,.int hi u,.int 1 v]) }
 | .p_ o u=>h.get? a=some o/\iT H h a u
 | .Tx ps=>h.get? a=some { cls:=.none,data:=.fields ps }
 | .met f x=>h.get? a=some (PySem.W.methodObj (.ref f) (.ref x))
 | .ext φ=>φ h/\(∃o,h.get? a=some o)/\∀h1 h2:cX,φ h1->(∀o,h1.get? a=some o->h2.get? a=some o)->φ h2
def uj(H:Hp)(h:cX):Prop:=∀a o,H a=some o->iT P w H h a o
end
section
variable{P:bA}{w:cn}{H H':Hp}{h h':cX}{a:aH}{o:HO}
theorem iT.lt(x:iT P w H h a o):a<h.objs.size:=by
 cases o with
 |lst xs=>obtain⟨_,_,_,_,e⟩:=x;exact a8 e
 |tup xs=>obtain⟨_,_,_,p⟩:=x;exact p.lt
 |dK kvs=>obtain⟨_,_,_,_,o,_,_,e,_⟩:=x;exact a8 e
 |dT kvs=>obtain⟨_,_,_,_,o,_,_,e,_⟩:=x;exact a8 e
 |set S n=>obtain⟨o,_,_,_,e,_⟩:=x;exact a8 e
 |ins C dx fs=>obtain⟨_,_,_,e,_⟩:=x;exact a8 e
 |own y=>obtain⟨_,e⟩:=x;exact a8 e
 |xd fs=>obtain⟨_,⟨_,_,_,e,_⟩,_⟩:=x;exact a8 e
 |rng lo hi=>obtain⟨_,_,_,e⟩:=x;exact a8 e
 |p_ ob u=>obtain⟨e,_⟩:=x;exact a8 e
 |Tx ps=>exact a8 x
 |met f y=>exact a8 x
 |ext φ=>obtain⟨_,⟨_,e⟩,_⟩:=x;exact a8 e
theorem nH.Lj{α β:Type}{F G:α->β->Prop}:∀{l₁:List α}{l₂:List β},nH F l₁ l₂->(∀a b,F a b->G a b)->nH G l₁ l₂
 |_,_,.nil,_=>.nil
 |_,_,.cons r t,f=>.cons (f _ _ r) (nH.Lj t f)
theorem iT.stay(x:iT P w H h a o)(k:∀b u,(b=a\/H b=some (.own a))->h.get? b=some u->h'.get? b=some u)
  (ho:∀b,H b=some (.own a)->H' b=some (.own a))(ht:∀b xs,H b=some (.tup xs)->H' b=some (.tup xs)):iT P w H' h' a o:=by
 induction o with
 |lst xs=>obtain⟨z,its,n,r,e⟩:=x;exact#[z,its,n,r,k _ _ (.inl rfl) e]
 |tup xs=>obtain⟨z,its,r,ob,e,c⟩:=x;exact#[z,its,r,ob,k _ _ (.inl rfl) e,c]
 |dK kvs=>obtain⟨z,y,vs,r,ob,es,ep,e,c⟩:=x;exact#[z,y,vs,r,ob,es,ep,k _ _ (.inl rfl) e,c]
 |dT kvs=>
  obtain⟨z,y,xs,r,ob,es,ep,e,c⟩:=x;exact#[z,y,xs,nH.Lj r λp q z=>#[z.1,ht _ _ z.2.1,z.2.2],ob,es,ep,k _ _ (.inl rfl) e,c]
 |set S n=>obtain⟨ob,es,ep,t,e,c⟩:=x;exact#[ob,es,ep,t,k _ _ (.inl rfl) e,c]
 |ins C dx fs=>
  obtain⟨d,z,ne,e,mA,⟨od,es,ep,e2,c⟩,r⟩:=x;exact#[ho _ d,z,ne,k _ _ (.inl rfl) e,mA,#[od,es,ep,k _ _ (.inr d) e2,c],r]
 |own y=>obtain⟨ob,e⟩:=x;exact#[ob,k _ _ (.inl rfl) e]
 |xd fs=>obtain⟨mA,⟨od,es,ep,e,c⟩,r⟩:=x;exact#[mA,#[od,es,ep,k _ _ (.inl rfl) e,c],r]
 |rng lo hi=>obtain⟨t,u,v,e⟩:=x;exact#[t,u,v,k _ _ (.inl rfl) e]
 |p_ ob u ih=>obtain⟨e,q⟩:=x;exact#[k _ _ (.inl rfl) e,ih q]
 |Tx ps=>
  have e:=x;exact k a _ (.inl rfl) e
 |met f y=>
  have e:=x;exact k a _ (.inl rfl) e
 |ext φ=>obtain⟨p,⟨o,e⟩,st⟩:=x;exact#[st _ _ p λo q=>k _ _ (.inl rfl) q,#[o,k _ _ (.inl rfl) e],st]
theorem uj.lt(x:uj P w H h)(e:H a=some o):a<h.objs.size:=(x a o e).lt
theorem uj.fresh(x:uj P w H h)(e:h.objs.size<=a):H a=none:=by
 cases q:H a with
 |none=>rfl
 |some u=>exact qQ7 (b_ (x.lt q) e) ∅
theorem uj.kept(x:uj P w H h)(k:∀b u,h.get? b=some u->h'.get? b=some u):uj P w H h':=λa o e=>
 (x a o e).stay (λb u _ q=>k b u q) (λ_ q=>q) λ_ _ q=>q
theorem uj.laid(x:uj P w H h)(k:∀b u,h.get? b=some u->h'.get? b=some u)(hp:h.objs.size<=a)(new:iT P w (upd H a o) h' a o):uj P w (upd H a o) h':=λb u e=>by
 have hn:=x.fresh hp;by_cases hb:b=a
 ·subst hb;rw[aZ]at e;cases e;exact new
 ·rw[aL hb]at e
  exact(x b u e).stay (λc v _ q=>k c v q) (λc q=>by rw[aL (bC q hn)];exact q) λc xs q=>by rw[aL (bC q hn)];exact q
end
def Rd(H:Hp)(a:aH)(u:HO):Prop:=H a=some u\/∃o,H a=some (.p_ o u)
theorem Rd.ok{u:HO}(r:Rd H a u)(x:uj P w H h):iT P w H h a u:=by
 rcases r with r|⟨o,r⟩
 ·exact x a u r
 ·obtain⟨_,q⟩:=x a _ r
  exact q
def WU:Option HO->Prop
 |some (.lst _)=>True
 |some (.dK _)=>True
 |some (.dT _)=>True
 |some (.set _ _)=>True
 |some (.ins _ _ _)=>True
 |some (.ext _)=>True
 |_=>False
section
variable{P:bA}{w:cn}{H:Hp}{h h':cX}{x e:aH}{o':HO}
theorem uj.write(ok:uj P w H h)(mu:WU (H x))(he:e=x\/H e=some (.own x))(k:∀b u,b≠e->h.get? b=some u->h'.get? b=some u)(RG:∃u,h'.get? e=some u)
  (new:iT P w (upd H x o') h' x o'):uj P w (upd H x o') h':=λb u q=>by
 have WV:∀c y,H c=some (.own y)->c≠x:=λc y r z=>by subst z;rw[r]at mu;exact mu
 by_cases hb:b=x
 ·subst hb;rw[aZ]at q;cases q;exact new
 ·rw[aL hb]at q
  by_cases Tz:b=e
  ·have q':H b=some (.own x):=by
    rcases he with z|z
    ·exact qQ7 (Tz.trans z) hb
    ·rw[Tz];exact z
   rw[q]at q';cases q';obtain⟨v,hv⟩:=RG;exact#[v,by rw[Tz];exact hv]
  ·refine(ok b u q).stay (λc v hc r=>k c v ?_ r) (λc r=>by rw[aL (WV c b r)];exact r) λc xs r=>by rw[aL ((λc xs r z=>by subst z;rw[r]at mu;exact mu) c xs r)];exact r
   rcases hc with rfl|hc
   ·exact Tz
   ·rintro rfl
    rcases he with z|z
    ·exact WV c b hc z
    ·rw[hc]at z;cases z;exact hb rfl
end
structure Un(fs ex:List aH)(H H':Hp)(h h':cX):Prop where
 keep:∀b o,h.get? b=some o->H b=none->b∉fs->b∉ex->h'.get? b=some o
 slot:∀b o,h.get? b=some o->H b=none->b∈fs->b∉ex->∃sl,h'.get? b=some { o with slots:=sl }
 free:∀b o,h.get? b=some o->H b=none->b∉ex->H' b=none
 there:∀b o,h.get? b=some o->b∉ex->∃o',h'.get? b=some o'
 tups:∀b xs,H b=some (.tup xs)->H' b=some (.tup xs)
 v5:∀b o u,H b=some (.p_ o u)->H' b=some (.p_ o u)
 yF:∀b ps,H b=some (.Tx ps)->∃more,H' b=some (.Tx (ps++more))
section
variable{fs fs' ex ex':List aH}{H H1 H2:Hp}{h h1 h2 h':cX}{a x e:aH}{o:HO}
theorem Un.any(u:Un fs ex H H1 h h1){b:aH}{ob:Obj}(q:h.get? b=some ob)(n:H b=none)(hx:b∉ex):∃sl,h1.get? b=some { ob with slots:=sl }:=by
 by_cases hb:b∈fs
 ·exact u.slot b ob q n hb hx
 ·exact#[ob.slots,u.keep b ob q n hb hx]
theorem Un.kept(k:∀b u,h.get? b=some u->h'.get? b=some u):Un fs ex H H h h':=
 #[λb ob q _ _ _=>k b ob q,λb ob q _ _ _=>#[ob.slots,k b ob q],λ_ _ _ n _=>n,λb ob q _=>#[ob,k b ob q],λ_ _ q=>q,λ_ _ _ q=>q,λ_ ps q=>#[#[],by rw[q];simp]]
theorem Un.refl:Un fs ex H H h h:=Un.kept λ_ _ q=>q
theorem Un.laid(k:∀b u,h.get? b=some u->h'.get? b=some u)(hp:h.objs.size<=a)(hn:H a=none):Un fs ex H (upd H a o) h h' where
 keep:=λb u q _ _ _=>k b u q
 slot:=λb u q _ _ _=>#[u.slots,k b u q]
 free:=λb u q n _=>by rw[aL (a9 (b_ (a8 q) hp))];exact n
 there:=λb u q _=>#[u,k b u q]
 tups:=λb xs q=>by rw[aL (bC q hn)];exact q
 v5:=λb u xs q=>by rw[aL (bC q hn)];exact q
 yF:=λb ps q=>#[#[],by rw[aL (bC q hn),q];simp]
theorem Un.write(mu:WU (H x))(he:e=x\/H e=some (.own x))(k:∀b u,b≠e->h.get? b=some u->h'.get? b=some u)(RG:∃u,h'.get? e=some u):Un fs ex H (upd H x o) h h':=by
 have hx:∀b,H b=none->b≠x:=λb n z=>by subst z;rw[n]at mu;exact mu
 have hb:∀b,H b=none->b≠e:=λb n z=>by
  subst z;rcases he with r|r
  ·exact hx b n r
  ·rw[n]at r;cases r
 have hm:∀b u,H b=some u->¬WU (some u)->b≠x:=λb u q nm z=>by subst z;rw[q]at mu;exact nm mu
 refine#[λb u q n _ _=>k b u (hb b n) q,λb u q n _ _=>#[u.slots,k b u (hb b n) q],λb u q n _=>by rw[aL (hx b n)];exact n,λb u q _=>?_,
  λb xs q=>by rw[aL (hm b _ q λz=>z)];exact q,λb u xs q=>by rw[aL (hm b _ q λz=>z)];exact q,λb ps q=>#[#[],by rw[aL (hm b _ q λz=>z),q];simp]]
 by_cases Tz:b=e
 ·subst Tz;exact RG
 ·exact#[u,k b u Tz q]
end
def trk(h:cX)(H:Hp):List aH:=(cx h.objs.size).filter λa=>(H a).isSome
def FH(h:cX)(H:Hp):cX:=PySem.W.hideAll h (trk h H)
theorem Jz(h:cX)(H:Hp):(FH h H).objs.size=h.objs.size:=PySem.W.hideAll_size _ _
theorem Lk{b:aH}(e:h.get? b=some o)(n:H b=none):(FH h H).get? b=some o:=
 PySem.W.hideAll_get _ e λhm=>by
  have q:=(kT.mp hm).2;rw[n]at q;simp at q
theorem OX{b:aH}(e:(FH h H).get? b=some o):h.get? b=some o/\H b=none:=by
 have e':=PySem.W.of_hideAll _ e;refine#[e',?_]
 cases q:H b with
 |none=>rfl
 |some x=>
  have z:(FH h H).get? b=none:=PySem.W.hideAll_none (trk h H) (kT.mpr #[cA.mpr (a8 e'),by simp[q]]);rw[z]at e;cases e
structure Mod(K:aq)(mg:Str->Option aF)(base:cX):Prop where
 WW:K.In base
 glob:base.Ns mainGlobals mg
 blt:∃mb,base.Ns builtinsNs mb/\∀x:Str,x≠"__name__"->mb x=bootBuiltins x
 nolimit:base.NoLimit
structure Cx where
 prog:bA
 w:cn
 K:aq
 mg:Str->Option aF
 base:cX
 A:dO
 N:List Str
 s₀:aS
 H₀:Hp
 env:Env
 outer:List Env
 stack:List Env
 ex:List aH
 fn:Str->Bool
 calm:Bool
 pn:List (aH×Obj)
 xe:aF->aS->Prop
variable{X:Cx}
def K8(l:List Env):List aH:=l.filterMap (·.frame)
abbrev Cx.fs(X:Cx):List aH:=K8 X.outer
def Vis(sc:kH)(x:Str):Prop:=sc.names.lookup x=some .local\/sc.names.lookup x=some .cell\/sc.names.lookup x=some .free
def Loc(sc:kH)(x:Str):Prop:=sc.names.lookup x=some .local\/sc.names.lookup x=some .cell
def Look(env:Env)(h:cX)(m:Str->Option aF)(x:Str)(u:aF):Prop:=
 (env.kindOf x=some .local/\m x=some u)\/((env.kindOf x=some .cell\/env.kindOf x=some .free)/\∃c,env.cells.lookup x=some c/\h.IsCell c (some u))
abbrev xP(x:Str):Prop:=(x==("__debug__":Str))=false
abbrev NCd(x:Str):Prop:=(x==("__classdict__":Str))=false
abbrev kZ(X:Cx)(e:bK)(es:List bK):Prop:=starEach (e::es) X.env=(false,eval e X.env)::starEach es X.env
abbrev tF(X:Cx)(p:Pos)(es:List bK):Prop:=(backTo p (starEach es X.env)).any (·.1)=false
abbrev FJ(X:Cx)(p:Pos)(es:List bK):Prop:=((backTo p (starEach es X.env)).all (λx=>!x.1)&&(backToKw p (keywordEach [] X.env)).all (λx=>x.1.isSome)&&decide (es.length+([]:List Keyword).length+(if([]:List Keyword).isEmpty then 0 else 1)<30))=true
abbrev A0(X:Cx)(x:Str):Prop:=X.fn x=true\/X.env.scope.names.lookup x=some .local
abbrev HY(X:Cx)(e:bK):Prop:=∀x,foldedSetIterable e X.env x=pure x
abbrev yc(X:Cx)(o:bK)(x:Str):Prop:=attributeBase o x X.env (eval o X.env)=eval o X.env
abbrev OG(X:Cx)(p:Pos)(e:bK):Prop:=swapsWith e none p.line X.env=pure false
abbrev A1(X:Cx)(p:Pos)(e t:bK):Prop:=swapsWith e (some t) p.line X.env=pure false
def rA(X:Cx)(i:Nat)(x:Str):Prop:=X.N[i]?=some x/\Vis X.env.scope x/\xP x/\NCd x
structure Cx.Ok(X:Cx):Prop where
 mod:Mod X.K X.mg X.base
 kind:X.env.scope.kind=.function
 glob:X.env.globals=mainGlobals
 blt:X.env.builtins=builtinsNs
 above:X.s₀.heap.objs.size<=X.env.locals
 inj:∀x y c,X.env.cells.lookup x=some c->X.env.cells.lookup y=some c->x=y
 has:∀x,(X.env.kindOf x=some .cell\/X.env.kindOf x=some .free)->∃c,X.env.cells.lookup x=some c
 cab:∀x c,X.fn x=true->X.env.cells.lookup x=some c->X.s₀.heap.objs.size<=c
 hd:X.calm=true->X.A.handled=none
 frames:X.A.frames=some X.stack
 stk:X.stack=X.outer\/(X.stack=X.env::X.outer/\X.env.frame=some X.env.locals)
 exf:∀b∈X.ex,b≠X.env.locals/\∀x c,X.env.cells.lookup x=some c->c≠b
 bs:∀b o,X.base.get? b=some o->X.s₀.heap.get? b=some o/\X.H₀ b=none
 RH:X.base.objs.size<=X.s₀.heap.objs.size
 Ln:∀b o,X.base.get? b=some o->b∉X.ex
 OY:∀b∈X.ex,b∉X.fs
 xQ:X.s₀.heap.FunFrames X.base X.outer
 TB:∀b∈X.fs,X.H₀ b=none
structure Inv(X:Cx)(pins:List (aH×Obj))(σ:List (Option V))(H:Hp)(s:aS):Prop where
 ok:X.Ok
 os:s.os=X.s₀.os
 bare:ud s.gens
 base:Un X.fs X.ex X.H₀ H X.s₀.heap s.heap
 loc:∃m,s.heap.Ns X.env.locals m/\∀(i:Nat)(x:Str)(v:V),X.N[i]?=some x->σ[i]?=some (some v)->Vis X.env.scope x->∃u,RelV v u/\Look X.env s.heap m x u
 cell:∀x c,X.env.cells.lookup x=some c->∃v,s.heap.IsCell c v
 free:H X.env.locals=none
 pq:∀x c,X.env.cells.lookup x=some c->H c=none
 pin:∀p∈X.pn++pins,s.heap.get? p.1=some p.2/\H p.1=none/\p.1≠X.env.locals/\p.1∉X.fs/\∀v,p.2.data≠.cell v
 hok:uj X.prog X.w H s.heap
 len:σ.length=X.N.length
section
variable{X:Cx}{pins:List (aH×Obj)}{σ:List (Option V)}{H H':Hp}{s:aS}{h':cX}
theorem Cx.Ok.zaK(ok:X.Ok){b:aH}(e:X.base.get? b=some o):b∉X.fs:=λhb=>by
 have:=(ok.xQ.mem hb).1;rw[e]at this;cases this
theorem Inv.bs(I:Inv X pins σ H s):∀b o,X.base.get? b=some o->s.heap.get? b=some o/\H b=none:=λb o e=>
 #[I.base.keep b o (I.ok.bs b o e).1 (I.ok.bs b o e).2 (I.ok.zaK e) (I.ok.Ln b o e),I.base.free b o (I.ok.bs b o e).1 (I.ok.bs b o e).2 (I.ok.Ln b o e)]
theorem Inv.bk(I:Inv X pins σ H s):∀b o,X.base.get? b=some o->s.heap.get? b=some o:=λb o e=>(I.bs b o e).1
theorem Inv.mod(I:Inv X pins σ H s):Mod X.K X.mg X.base:=I.ok.mod
theorem Inv.B7(I:Inv X pins σ H s):X.K.In s.heap:=I.ok.mod.WW.keeps I.bk
theorem Inv.lt(I:Inv X pins σ H s):X.env.locals<s.heap.objs.size:=let#[_,hn,_]:=I.loc;hn.lt
theorem Inv.sz(I:Inv X pins σ H s):X.s₀.heap.objs.size<=s.heap.objs.size:=bU I.ok.above (xG I.lt)
theorem Inv.zaL(I:Inv X pins σ H s)(h:s.heap.objs.size<=a):a∉X.fs:=λhb=>by
 obtain⟨_,o,ho,_⟩:=I.ok.xQ.mem hb;exact qQ7 (b_ (a8 ho) (bU I.sz h)) ∅
theorem Inv.TF(I:Inv X pins σ H s):∀x c,X.env.cells.lookup x=some c->c≠X.env.locals:=λx c e z=>by
 obtain⟨v,o,ho,hd⟩:=I.cell x c e;obtain⟨m,⟨o',es,ep,Aw,OZ,_⟩,_⟩:=I.loc;rw[z,Aw]at ho;cases ho;rw[OZ]at hd;cases hd
theorem Inv.xQ(I:Inv X pins σ H s):s.heap.FunFrames X.base X.outer:=by
 have all:∀(l:List Env),(∀b∈K8 l,b∈X.fs)->X.s₀.heap.FunFrames X.base l->s.heap.FunFrames X.base l:=by
  intro l
  induction l with
  |nil=>intro _ _;trivial
  |cons env r ih=>
   intro hs hl;obtain⟨hk,⟨L,o,hf,hn,ho,hd⟩,hr⟩:=hl;have hL:=hs L (by unfold K8;rw[iO,hf];exact aM)
   obtain⟨sl,e⟩:=I.base.slot L o ho (I.ok.TB L hL) hL λz=>I.ok.OY L z hL
   exact#[hk,#[L,_,hf,hn,e,hd],ih (λb hb=>hs b (by unfold K8;rw[iO,hf];exact aN _ hb)) hr]
 exact all X.outer (λ_ hb=>hb) I.ok.xQ
theorem Inv.stack(I:Inv X pins σ H s):s.heap.FunFrames X.base X.stack:=by
 rcases I.ok.stk with e|⟨e,hf⟩
 ·rw[e];exact I.xQ
 ·rw[e]
  obtain⟨m,hn,_⟩:=I.loc;exact .cons (by rw[I.ok.kind];decide) hf hn (cX.get?_none_of_le (bU I.ok.RH I.ok.above)) I.xQ
theorem Inv.B8(I:Inv X pins σ H s):∀b∈K8 X.stack,b∈X.env.locals::X.fs:=λb hb=>by
 rcases I.ok.stk with e|⟨e,hf⟩
 ·rw[e]at hb;exact aN _ hb
 ·rw[e]at hb
  unfold K8 at hb;rwa[iO,hf]at hb
theorem Inv.HZ(I:Inv X pins σ H s):∀b∈K8 X.stack,H b=none:=λb hb=>by
 rcases ax.mp (I.B8 b hb)with e|hb
 ·rw[e];exact I.free
 ·obtain⟨_,o,ho,_⟩:=I.ok.xQ.mem hb
  exact I.base.free b o ho (I.ok.TB b hb) λz=>I.ok.OY b z hb
theorem Inv.step(I:Inv X pins σ H s)
  (K9:∀b∈ch,(b∈X.ex\/X.s₀.heap.objs.size<=b)/\b≠X.env.locals/\(∀x c,X.env.cells.lookup x=some c->c≠b)/\∀p∈X.pn++pins,p.1≠b)
  (keep:∀b o,b≠X.env.locals->b∉X.fs->b∉ch->s.heap.get? b=some o->H b=none->h'.get? b=some o)
  (slot:∀b o,b≠X.env.locals->b∈X.fs->b∉ch->s.heap.get? b=some o->H b=none->∃sl,h'.get? b=some { o with slots:=sl })(free:∀b o,b∉ch->s.heap.get? b=some o->H b=none->H' b=none)
  (there:∀b o,b∉ch->s.heap.get? b=some o->∃o',h'.get? b=some o')
  (tups:∀b xs,H b=some (.tup xs)->H' b=some (.tup xs))(v5:∀b o u,H b=some (.p_ o u)->H' b=some (.p_ o u))(yF:∀b ps,H b=some (.Tx ps)->∃more,H' b=some (.Tx (ps++more)))
  (ns:∀m,s.heap.Ns X.env.locals m->h'.Ns X.env.locals m)(hok:uj X.prog X.w H' h')(hg:ud g'):
  Inv X pins σ H' { s with heap:=h',gens:=g',drawn:=d',toks:=t' }:=by
 have neL:∀b o,X.s₀.heap.get? b=some o->b≠X.env.locals:=λb o e=>a9 (b_ (a8 e) I.ok.above)
 have V8:∀b o,X.s₀.heap.get? b=some o->b∉X.ex->b∉ch:=λb o e hx hb=>by
  rcases(K9 b hb).1 with z|z
  ·exact hx z
  ·exact qQ7 (b_ (a8 e) z) ∅
 have cellK:∀x c,X.env.cells.lookup x=some c->∀v,s.heap.IsCell c v->h'.IsCell c v:=λx c e v #[o,ho,hd]=>by
  have WX:=λz=>(K9 c z).2.2.1 x c e rfl
  by_cases hc:c∈X.fs
  ·obtain⟨sl,q⟩:=slot c o (I.TF x c e) hc WX ho (I.pq x c e)
   exact#[_,q,hd]
  ·exact#[o,keep c o (I.TF x c e) hc WX ho (I.pq x c e),hd]
 refine#[I.ok,I.os,hg,#[λb o e n hb hx=>?_,λb o e n hb hx=>?_,λb o e n hx=>?_,λb o e hx=>?_,λb xs e=>tups b xs (I.base.tups b xs e),λb o xs e=>v5 b o xs (I.base.v5 b o xs e),λb ps e=>?_],?_,λx c e=>?_,?_,λx c e=>?_,λp hp=>?_,hok,I.len]
 ·exact keep b o (neL b o e) hb (V8 b o e hx) (I.base.keep b o e n hb hx) (I.base.free b o e n hx)
 ·obtain⟨sl,e1⟩:=I.base.slot b o e n hb hx
  obtain⟨WY,e2⟩:=slot b _ (neL b o e) hb (V8 b o e hx) e1 (I.base.free b o e n hx);exact#[WY,e2]
 ·obtain⟨o',e1⟩:=I.base.there b o e hx
  exact free b o' (V8 b o e hx) e1 (I.base.free b o e n hx)
 ·obtain⟨o',e1⟩:=I.base.there b o e hx
  exact there b o' (V8 b o e hx) e1
 ·obtain⟨m1,e1⟩:=I.base.yF b ps e
  obtain⟨m2,e2⟩:=yF b _ e1;exact#[_,by rw[e2,Array.append_assoc]]
 ·obtain⟨m,hn,hl⟩:=I.loc
  refine#[m,ns m hn,λi x v e1 e2 e3=>?_]
  obtain⟨u,r,l⟩:=hl i x v e1 e2 e3;refine#[u,r,?_]
  rcases l with l|⟨k,c,e,z⟩
  ·exact .inl l
  ·exact .inr #[k,c,e,cellK x c e _ z]
 ·obtain⟨v,z⟩:=I.cell x c e
  exact#[v,cellK x c e v z]
 ·obtain⟨m,⟨o,_,_,ho,_⟩,_⟩:=I.loc
  exact free _ o (λz=>(K9 _ z).2.1 rfl) ho I.free
 ·obtain⟨v,o,ho,hd⟩:=I.cell x c e
  exact free c o (λz=>(K9 c z).2.2.1 x c e rfl) ho (I.pq x c e)
 ·obtain⟨e,n,ne,nf,d⟩:=I.pin p hp
  have WX:=λz=>(K9 p.1 z).2.2.2 p hp rfl
  exact#[keep p.1 p.2 ne nf WX e n,free p.1 p.2 WX e n,ne,nf,d]
theorem Inv.un(I:Inv X pins σ H s)(u:Un X.fs [] H H' s.heap h')(hok:uj X.prog X.w H' h'):Inv X pins σ H' { s with heap:=h',toks:=t' }:=by
 obtain⟨m,⟨o,es,ep,ho,r⟩,_⟩:=id I.loc;obtain⟨sl,hL⟩:=u.any ho I.free (by simp)
 exact I.step (ch:=[]) (λ_ z=>nomatch z) (λb o _ hb _ e n=>u.keep b o e n hb (by simp)) (λb o _ hb _ e n=>u.slot b o e n hb (by simp)) (λb o _ e n=>u.free b o e n (by simp)) (λb o _ e=>u.there b o e (by simp)) u.tups u.v5 u.yF (λm' hm=>by
  obtain⟨o',TH,TJ,Aw,r'⟩:=hm;rw[ho]at Aw;cases Aw;exact#[_,TH,TJ,hL,r']) hok I.bare
theorem Inv.call(I:Inv X pins σ H s)(u:Un (K8 X.stack) ch H H' s.heap h')(hok:uj X.prog X.w H' h')(hg:ud g')
  (K9:∀b∈ch,(b∈X.ex\/X.s₀.heap.objs.size<=b)/\b≠X.env.locals/\(∀x c,X.env.cells.lookup x=some c->c≠b)/\∀p∈X.pn++pins,p.1≠b):
  Inv X pins σ H' { s with heap:=h',gens:=g',drawn:=d',toks:=t' }:=by
 obtain⟨m,⟨o,es,ep,ho,r⟩,_⟩:=id I.loc;obtain⟨sl,hL⟩:=u.any ho I.free λz=>(K9 _ z).2.1 rfl
 exact I.step K9 (λb o hL hb hc e n=>u.keep b o e n (λz=>(ax.mp (I.B8 b z)).elim hL hb) hc) (λb o _ _ hc e n=>u.any e n hc) (λb o hc e n=>u.free b o e n hc) (λb o hc e=>u.there b o e hc) u.tups u.v5 u.yF (λm' hm=>by
  obtain⟨o',TH,TJ,Aw,r'⟩:=hm;rw[ho]at Aw;cases Aw;exact#[_,TH,TJ,hL,r']) hok hg
theorem Inv.turned(I:Inv X pins σ H s)(k:∀b o,b≠it->s.heap.get? b=some o->h'.get? b=some o)(hn:H it=none)(hL:it≠X.env.locals)
  (h1:it∈X.ex\/X.s₀.heap.objs.size<=it)(h2:∀x c,X.env.cells.lookup x=some c->c≠it)(h3:∀p∈X.pn++pins,p.1≠it):Inv X pins σ H { s with heap:=h',toks:=t' }:=by
 have WZ:∀b u,H b=some u->b≠it:=λb u e z=>by rw[z,hn]at e;cases e
 refine I.step (ch:=[it]) (λb hb=>?_) (λb o _ _ hc e _=>k b o (λz=>hc (by simp[z])) e) (λb o _ _ hc e _=>#[o.slots,k b o (λz=>hc (by simp[z])) e]) (λ_ _ _ _ n=>n)
  (λb o hc e=>#[o,k b o (λz=>hc (by simp[z])) e]) (λ_ _ e=>e) (λ_ _ _ e=>e) (λb ps e=>#[#[],by rw[e];simp]) (λm hm=>?_) (λb u e=>?_) I.bare
 ·have e:b=it:=by simpa using hb
  subst e;exact#[h1,hL,h2,h3]
 ·obtain⟨o,es,ep,ho,r⟩:=hm
  exact#[o,es,ep,k _ o (bJ hL) ho,r]
 ·refine(I.hok b u e).stay (λc v hc q=>k c v ?_ q) (λ_ q=>q) λ_ _ q=>q
  rcases hc with z|z
  ·rw[z];exact WZ b u e
  ·exact WZ c _ z
theorem Inv.tok(I:Inv X pins σ H s)(t:Nat):Inv X pins σ H { s with toks:=t }:=I.un Un.refl I.hok
theorem Inv.kept(I:Inv X pins σ H s)(k:∀b u,s.heap.get? b=some u->h'.get? b=some u):Inv X pins σ H { s with heap:=h',toks:=t' }:=I.un (Un.kept k) (I.hok.kept k)
theorem Inv.laid{o:HO}(I:Inv X pins σ H s)(k:∀b u,s.heap.get? b=some u->h'.get? b=some u)(hp:s.heap.objs.size<=a)(new:iT X.prog X.w (upd H a o) h' a o):
  Inv X pins σ (upd H a o) { s with heap:=h',toks:=t' }:=I.un (Un.laid k hp (I.hok.fresh hp)) (I.hok.laid k hp new)
theorem Inv.write{x e:aH}{o:HO}(I:Inv X pins σ H s)(mu:WU (H x))(he:e=x\/H e=some (.own x))(k:∀b u,b≠e->s.heap.get? b=some u->h'.get? b=some u)(RG:∃u,h'.get? e=some u)
  (new:iT X.prog X.w (upd H x o) h' x o):Inv X pins σ (upd H x o) { s with heap:=h',toks:=t' }:=I.un (Un.write mu he k RG) (I.hok.write mu he k RG new)
theorem Inv.H_{RJ:List (aH×Obj)}(I:Inv X pins σ H s)(h:∀p∈RJ,s.heap.get? p.1=some p.2/\H p.1=none/\p.1≠X.env.locals/\p.1∉X.fs/\∀v,p.2.data≠.cell v):Inv X RJ σ H s:=
 #[I.ok,I.os,I.bare,I.base,I.loc,I.cell,I.free,I.pq,λp hp=>(bo.mp hp).elim (λz=>I.pin p (bM _ z)) (h p),I.hok,I.len]
theorem DQ(hN:N.Nodup){i j:Nat}{x:Str}(a:N[i]?=some x)(b:N[j]?=some x):i=j:=by
 obtain⟨h1,e1⟩:=aJ.mp a
 obtain⟨h2,e2⟩:=aJ.mp b
 exact(List.getElem_inj hN).mp (e1.trans e2.symm)
theorem A2{i:Nat}{x:Str}{v:V}{Q:Unit->aS->Prop}(I:Inv X pins σ H s)(hN:X.N.Nodup)(hi:X.N[i]?=some x)(hx:Loc X.env.scope x)(r:RelV v u)
  (h:∀s',Inv X pins (σ.set i (some v)) H s'->(∃a,iz a s.heap s'.heap/\(a=X.env.locals\/X.env.cells.lookup x=some a))->Q () s')(hf:A0 X x:=by left):wpAny M A (storeName X.env x u) Q E s:=by
 obtain⟨m,hn,hl⟩:=id I.loc;have zaM:(X.env.scope.kind == .class||(X.env.scope.kind == .module&&X.env.locals != X.env.globals))=false:=by rw[I.ok.kind];rfl
 have hiσ:i < σ.length:=by rw[I.len];exact(aJ.mp hi).1
 have TF:=I.TF;have tracked:∀{a:aH}{h':cX},(∃o,s.heap.get? a=some o/\H a=none)->iz a s.heap h'->uj X.prog X.w H h':=λ{a h'}ha hs b ob e=>by
  obtain⟨_,_,RK⟩:=ha;refine(I.hok b ob e).stay (λc w' hc q=>(hs.2 c ?_).trans q) (λ_ q=>q) λ_ _ q=>q
  rintro rfl
  rcases hc with rfl|hc
  ·rw[RK]at e;cases e
  ·rw[RK]at hc;cases hc
 rcases hx with hk|hk
 ·refine wpAny_storeName_local hk hn (λh' Lp hs=>?_) zaM
  obtain⟨oL,_,_,hoL,_⟩:=id hn;refine h _ #[I.ok,I.os,I.bare,#[λb o e n hb hx=>?_,λb o e n hb hx=>?_,I.base.free,λb o e hx=>?_,I.base.tups,I.base.v5,I.base.yF],#[_,Lp,λj y v' e1 e2 e3=>?_],λy c e=>?_,I.free,I.pq,λp hp=>?_,tracked #[oL,hoL,I.free] hs,by simpa using I.len] #[_,hs,.inl rfl]
  ·exact(hs.2 b (a9 (b_ (a8 e) I.ok.above))).trans (I.base.keep b o e n hb hx)
  ·obtain⟨sl,e1⟩:=I.base.slot b o e n hb hx
   exact#[sl,(hs.2 b (a9 (b_ (a8 e) I.ok.above))).trans e1]
  ·obtain⟨o',e1⟩:=I.base.there b o e hx
   exact#[o',(hs.2 b (a9 (b_ (a8 e) I.ok.above))).trans e1]
  ·by_cases hj:j=i
   ·subst hj
    rw[hi]at e1;cases e1;rw[a_ hiσ]at e2
    cases e2;exact#[u,r,.inl #[hk,by simp]]
   ·rw[a7 (bJ hj)]at e2
    obtain⟨u',r',q⟩:=hl j y v' e1 e2 e3;refine#[u',r',?_]
    rcases q with⟨k,e⟩|⟨k,c,e,z⟩
    ·refine .inl #[k,?_]
     have:y≠x:=λe=>hj (DQ hN e1 (e▸hi))
     simp[this,e]
    ·exact .inr #[k,c,e,z.sameBut hs (TF y c e)]
  ·obtain⟨w',z⟩:=I.cell y c e
   exact#[w',z.sameBut hs (TF y c e)]
  ·obtain⟨e,n,ne,nf,d⟩:=I.pin p hp
   exact#[(hs.2 p.1 ne).trans e,n,ne,nf,d]
 ·have hfn:X.fn x=true:=by
   rcases hf with z|z
   ·exact z
   ·rw[z]at hk;cases hk
  obtain⟨c,hc⟩:=I.ok.has x (.inl hk);obtain⟨w',z⟩:=I.cell x c hc;refine wpAny_storeName_cell I.ok.kind hk hc z (λh' V9 hs=>?_)
  obtain⟨oc,hoc,zaO⟩:=id z;refine h { s with heap:=h' } #[I.ok,I.os,I.bare,#[λb o e n hb hx=>?_,λb o e n hb hx=>?_,I.base.free,λb o e hx=>?_,I.base.tups,I.base.v5,I.base.yF],#[m,hn.sameBut hs (bJ (TF x c hc)),λj y v' e1 e2 e3=>?_],λy c' e=>?_,I.free,I.pq,λp hp=>?_,tracked #[oc,hoc,I.pq x c hc] hs,by simpa using I.len] #[c,hs,.inr hc]
  ·exact(hs.2 b (a9 (b_ (a8 e) (I.ok.cab x c hfn hc)))).trans (I.base.keep b o e n hb hx)
  ·obtain⟨sl,e1⟩:=I.base.slot b o e n hb hx
   exact#[sl,(hs.2 b (a9 (b_ (a8 e) (I.ok.cab x c hfn hc)))).trans e1]
  ·obtain⟨o',e1⟩:=I.base.there b o e hx
   exact#[o',(hs.2 b (a9 (b_ (a8 e) (I.ok.cab x c hfn hc)))).trans e1]
  ·by_cases hj:j=i
   ·subst hj
    rw[hi]at e1;cases e1;rw[a_ hiσ]at e2
    cases e2;exact#[u,r,.inr #[.inl hk,c,hc,V9]]
   ·rw[a7 (bJ hj)]at e2
    obtain⟨u',r',q⟩:=hl j y v' e1 e2 e3;refine#[u',r',?_]
    rcases q with q|⟨k,c',e,z'⟩
    ·exact .inl q
    ·refine .inr #[k,c',e,z'.sameBut hs ?_]
     rintro rfl
     exact hj (DQ hN e1 (I.ok.inj _ _ _ e hc▸hi))
  ·by_cases ZU:c'=c
   ·subst ZU;exact#[_,V9]
   ·obtain⟨w2,z2⟩:=I.cell y c' e
    exact#[w2,z2.sameBut hs ZU]
  ·obtain⟨e,n,ne,nf,d⟩:=I.pin p hp
   refine#[(hs.2 p.1 ?_).trans e,n,ne,nf,d]
   intro q;rw[q,hoc]at e;exact d w' (by rw[<-(cG e)];exact zaO)
theorem nO{i:Nat}{x:Str}{v:V}{Q:Unit->aS->Prop}(I:Inv X pins σ H s)(hN:X.N.Nodup)(hi:X.N[i]?=some x)(hx:Loc X.env.scope x)(r:RelV v u)
  (h:∀s',Inv X pins (σ.set i (some v)) H s'->Q () s')(hf:A0 X x:=by left):wpAny M A (storeName X.env x u) Q E s:=
 A2 I hN hi hx r (λs' I' _=>h s' I') hf
theorem Inv.call'(I:Inv X pins σ H s)(ho:s'.os=s.os)(u:Un (K8 X.stack) ch H H' s.heap s'.heap)(hok:uj X.prog X.w H' s'.heap)(hg:ud s'.gens)
  (K9:∀b∈ch,(b∈X.ex\/X.s₀.heap.objs.size<=b)/\b≠X.env.locals/\(∀x c,X.env.cells.lookup x=some c->c≠b)/\∀p∈X.pn++pins,p.1≠b):Inv X pins σ H' s':=by
 obtain⟨h',g',d',t',o'⟩:=s';have e:=ho;subst e;exact I.call u hok hg K9
end
abbrev XK:=aF->Option aH->Hp->Prop
abbrev St:=List (Option V)
variable{σ:St}
abbrev VK:=V->Hp->Prop
abbrev TE:=St->Hp->VK->Prop
variable{t:TE}
abbrev TT:=St->Hp->(Bool->Hp->Prop)->Prop
abbrev TA:=St->Hp->(List V->Hp->Prop)->Prop
structure Ends where
 nx:St->Hp->Prop
 rt:VK
 bk:St->Hp->Prop:=λ_ _=>False
 ct:St->Hp->Prop:=λ_ _=>False
abbrev TS:=Ends->St->Hp->Prop
def EP(X:Cx)(pins:List (aH×Obj))(σ:St)(Q:VK)(u:aF)(s':aS):Prop:=∃v H',Inv X pins σ H' s'/\RelV v u/\Q v H'
def TP(X:Cx)(pins:List (aH×Obj))(σ:St)(Q:Bool->Hp->Prop)(b:Bool)(s':aS):Prop:=∃H',Inv X pins σ H' s'/\Q b H'
def AP(X:Cx)(pins:List (aH×Obj))(σ:St)(Q:List V->Hp->Prop)(us:List aF)(s':aS):Prop:=∃vs H',Inv X pins σ H' s'/\dU vs us/\Q vs H'
def SP(X:Cx)(pins:List (aH×Obj))(D:Ends)(f:Flow)(s':aS):Prop:=
 match f with
 | .next=>∃σ' H',Inv X pins σ' H' s'/\D.nx σ' H'
 | .brk=>∃σ' H',Inv X pins σ' H' s'/\D.bk σ' H'
 | .cont=>∃σ' H',Inv X pins σ' H' s'/\D.ct σ' H'
 | .ret u=>∃v σ' H',Inv X pins σ' H' s'/\RelV v u/\D.rt v H'
def PE(X:Cx)(e:bK)(t:TE):Prop:=
 ∀(pins:List (aH×Obj))(s:aS)(σ:St)(H:Hp)(Q:VK),Inv X pins σ H s->t σ H Q->wpAny (model X.prog X.w) X.A (eval e X.env) (EP X pins σ Q) X.xe s
def PT(X:Cx)(e:bK)(t:TT):Prop:=
 ∀(pins:List (aH×Obj))(s:aS)(σ:St)(H:Hp)(Q:Bool->Hp->Prop),Inv X pins σ H s->t σ H Q->wpAny (model X.prog X.w) X.A (isTrue e X.env (eval e X.env)) (TP X pins σ Q) X.xe s
def PW(X:Cx)(e:bK)(t:TT):Prop:=
 ∀(whole:Sem aF)(pins:List (aH×Obj))(s:aS)(σ:St)(H:Hp)(Q:Bool->Hp->Prop),Inv X pins σ H s->t σ H Q->wpAny (model X.prog X.w) X.A (isTrue e X.env whole) (TP X pins σ Q) X.xe s
theorem PW.pt{t:TT}(h:PW X e t):PT X e t:=h _
def PA(X:Cx)(es:List bK)(t:TA):Prop:=
 ∀(pos:Pos)(pins:List (aH×Obj))(s:aS)(σ:St)(H:Hp)(Q:List V->Hp->Prop),Inv X pins σ H s->t σ H Q->wpAny (model X.prog X.w) X.A (spliced (backTo pos (starEach es X.env))) (AP X pins σ Q) X.xe s
def PS(X:Cx)(st:fQ)(t:TS):Prop:=
 ∀(pins:List (aH×Obj))(s:aS)(σ:St)(H:Hp)(D:Ends),Inv X pins σ H s->t D σ H->wpAny (model X.prog X.w) X.A (exec st X.env) (SP X pins D) X.xe s
def Ia(X:Cx)(st:List fQ)(t:TS):Prop:=
 ∀(pins:List (aH×Obj))(s:aS)(σ:St)(H:Hp)(D:Ends),Inv X pins σ H s->t D σ H->wpAny (model X.prog X.w) X.A (execs st X.env) (SP X pins D) X.xe s
theorem gN{α:Type}{t:Sem α}{Q Q':α->aS->Prop}(h:wpAny M A t Q E s)(hQ:∀a s,Q a s->Q' a s):wpAny M A t Q' E s:=il h hQ λ_ _ x=>x
section
variable{X:Cx}
theorem bin{a b:bK}{ta tb:TE}(ha:PE X a ta)(hb:PE X b tb)(I:Inv X pins σ H s)(h:ta σ H λx H1=>tb σ H1 λy H2=>R x y H2)
  {α:Type}{Q:α->aS->Prop}{f:aF->aF->Sem α}
  (hf:∀v u s2 x y H2,Inv X pins σ H2 s2->RelV x v->RelV y u->R x y H2->wpAny (model X.prog X.w) X.A (f v u) Q X.xe s2):
  wpAny (model X.prog X.w) X.A (eval a X.env) (λv s₁=>wpAny (model X.prog X.w) X.A (eval b X.env) (λu s₂=>wpAny (model X.prog X.w) X.A (f v u) Q X.xe s₂) X.xe s₁) X.xe s:=by
 refine gN (ha pins s σ H _ I h) λv s1 #[x,H1,I1,r1,q1]=>?_
 exact gN (hb pins s1 σ H1 _ I1 q1) λu s2 #[y,H2,I2,r2,q2]=>(hf v u s2 x y H2 I2 r1 r2 q2)
def TK(i:Nat):TE:=λσ H Q=>∃v,σ[i]?=some (some v)/\Q v H
def tC(v:V):TE:=λ_ H Q=>Q v H
theorem TL{i:Nat}{x:Str}{pos:Pos}(hN:X.N[i]?=some x)(hv:Vis X.env.scope x)(hd:xP x:=by decide)(O1:NCd x:=by decide):PE X (.Name x pos) (TK i):=by
 intro pins s σ H Q I h;obtain⟨v,e,h⟩:=h;obtain⟨m,hn,hl⟩:=I.loc;obtain⟨u,r,l⟩:=hl i x v hN e hv;have fin:EP X pins σ Q u s:=#[v,H,I,r,h];rcases l with⟨hk,hm⟩|⟨hk,c,hc,RL⟩
 ·exact wpAny_Name (wpAny_loadName_local I.ok.kind hk hn hm fin) hd
 ·rcases hk with hk|hk
  ·exact wpAny_Name (wpAny_loadName_cell I.ok.kind hk hc RL fin) hd
  ·exact wpAny_Name (wpAny_loadName_free I.ok.kind hk hc RL fin O1) hd
theorem uU{i:Nat}{x:Str}{pos:Pos}(h:rA X i x):PE X (.Name x pos) (TK i):=TL h.1 h.2.1 h.2.2.1 h.2.2.2
theorem Lq{i j pos}:PE X (.Constant (.int i) j pos) (tC (.int i)):=λ_ _ _ H _ I h=>wpAny_Constant_int #[.int i,H,I.tok _,#[_,rfl],h]
theorem W1{b j pos}:PE X (.Constant (.bool b) j pos) (tC (.bl b)):=λ_ _ _ H _ I h=>Constant_bool #[.bl b,H,I,rfl,h]
theorem TN{j pos}:PE X (.Constant .none j pos) (tC .non):=λ_ _ _ H _ I h=>Constant_none #[.non,H,I,rfl,h]
theorem uk{x j pos}:PE X (.Constant (.str x) j pos) (tC (.str x)):=λ_ _ _ H _ I h=>Calls.Constant_str #[.str x,H,I.tok _,#[_,rfl],h]
def Gl(X:Cx)(x:Str):Prop:=X.env.kindOf x=some .globalImplicit
theorem B9{x:Str}{pos:Pos}(I:Inv X pins σ H s)(hg:Gl X x)(hm:X.mg x=some u)(h:Q u s)
  (hd:xP x:=by decide):wpAny (model X.prog X.w) X.A (eval (.Name x pos) X.env) Q E s:=
 Al I.ok.kind hg (Calls.loadGlobal_global (by rw[I.ok.glob];exact I.mod.glob.keeps I.bk) hm h) hd
theorem v7{x:Str}{pos:Pos}(I:Inv X pins σ H s)(hg:Gl X x)(hm:X.mg x=none)(hv:bootBuiltins x=some u)(h:Q u s)
  (hn:x≠"__name__":=by decide)(hd:xP x:=by decide):wpAny (model X.prog X.w) X.A (eval (.Name x pos) X.env) Q E s:=by
 obtain⟨mb,h1,h2⟩:=I.mod.blt;exact Al I.ok.kind hg (Calls.loadGlobal_builtin (by rw[I.ok.glob];exact I.mod.glob.keeps I.bk) hm (by rw[I.ok.blt];exact h1.keeps I.bk) ((h2 x hn).trans hv) h) hd
theorem yd{x:Str}{v:V}{pos:Pos}(hg:Gl X x)(hm:X.mg x=some u)(r:RelV v u)(hd:xP x:=by decide):PE X (.Name x pos) (tC v):=
 λ_ _ _ H _ I h=>B9 I hg hm #[v,H,I,r,h] hd
theorem O2{x:Str}{v:V}{pos:Pos}(hg:Gl X x)(hm:X.mg x=none)(hv:bootBuiltins x=some u)(r:RelV v u)(hn:x≠"__name__":=by decide)(hd:xP x:=by decide):PE X (.Name x pos) (tC v):=
 λ_ _ _ H _ I h=>v7 I hg hm hv #[v,H,I,r,h] hn hd
variable{a b:bK}{ta tb:TE}{pos:Pos}
def PC(X:Cx)(op:FC)(a b:bK)(t:TE):Prop:=
 ∀(pins:List (aH×Obj))(s:aS)(σ:St)(H:Hp)(Q:VK),Inv X pins σ H s->t σ H Q->
  wpAny (model X.prog X.w) X.A (eval a X.env) (λv s₁=>wpAny (model X.prog X.w) X.A (eval b X.env) (λu s₂=>wpAny (model X.prog X.w) X.A (compareOp op v u) (EP X pins σ Q) X.xe s₂) X.xe s₁) X.xe s
def tB(t:TE):TT:=λσ H Q=>t σ H λx H1=>∃c,x=.bl c/\Q c H1
theorem FK{op:FC}(h:PC X op a b t)(h1:behindInMarks op b=false:=by first|exact Lr _ (by decide) (by decide)|rfl):PE X (.Compare a [op] [b] pos) t:=λpins s σ H Q I hw=>wpAny_Compare1 (h pins s σ H Q I hw) h1
theorem Ls{op:FC}(h:PC X op a b t)(h1:behindInMarks op b=false:=by first|exact Lr _ (by decide) (by decide)|rfl):PT X (.Compare a [op] [b] pos) (tB t):=by
 intro pins s σ H Q I hw;refine wpAny_isTrue_Compare1 (gN (h pins s σ H _ I hw) λv s1 h1=>gN h1 λu s2 h2=>gN h2 λc s3 #[x,H1,I1,r1,q1]=>?_) h1
 obtain⟨d,rfl,q⟩:=q1;cases r1;exact fV #[H1,I1,q]
variable{tA ZV:TT}{rest:List bK}
def zaP(t u:TT):TT:=λσ H Q=>t σ H λc H1=>if c=true then u σ H1 Q else Q false H1
def tOr(t u:TT):TT:=λσ H Q=>t σ H λc H1=>if c=true then Q true H1 else u σ H1 Q
def zaQ(t:TT):TT:=λσ H Q=>t σ H λc H1=>Q (!c) H1
theorem pw_and1(ha:PT X a tA):PW X (.BoolOp .And [a] pos) tA:=by
 intro wh pins s σ H Q I h;refine isTrue_and (gN (ha pins s σ H Q I h) λc s1 e=>?_)
 cases c with
 |true=>exact isTrue_and_nil e
 |false=>exact e
theorem pw_or1(ha:PT X a tA):PW X (.BoolOp .Or [a] pos) tA:=by
 intro wh pins s σ H Q I h;refine isTrue_or (gN (ha pins s σ H Q I h) λc s1 e=>?_)
 cases c with
 |false=>exact isTrue_or_nil e
 |true=>exact e
theorem pw_and(ha:PT X a tA)(hb:PW X (.BoolOp .And (b::rest) pos) ZV):PW X (.BoolOp .And (a::b::rest) pos) (zaP tA ZV):=by
 intro wh pins s σ H Q I h;refine isTrue_and (gN (ha pins s σ H _ I h) λc s1 #[H1,I1,q1]=>?_)
 cases c with
 |true=>exact hb wh pins s1 σ H1 Q I1 q1
 |false=>exact#[H1,I1,q1]
theorem pw_or(ha:PT X a tA)(hb:PW X (.BoolOp .Or (b::rest) pos) ZV):PW X (.BoolOp .Or (a::b::rest) pos) (tOr tA ZV):=by
 intro wh pins s σ H Q I h;refine isTrue_or (gN (ha pins s σ H _ I h) λc s1 #[H1,I1,q1]=>?_)
 cases c with
 |true=>exact#[H1,I1,q1]
 |false=>exact hb wh pins s1 σ H1 Q I1 q1
theorem TQ(ha:PT X a tA):PT X (.UnaryOp .Not a pos) (zaQ tA):=by
 intro pins s σ H Q I h;exact isTrue_not (ha pins s σ H (λc H1=>Q (!c) H1) I h)
def W3(ta tb:TE):TE:=λσ H Q=>ta σ H λx H1=>∃c,x=.bl c/\if c=true then tb σ H1 Q else Q (.bl false) H1
def zaR(ta tb:TE):TE:=λσ H Q=>ta σ H λx H1=>∃c,x=.bl c/\if c=true then Q (.bl true) H1 else tb σ H1 Q
def W4(ta:TE):TE:=λσ H Q=>ta σ H λx H1=>∃c,x=.bl c/\Q (.bl (!c)) H1
theorem TR{op}(h:PE X a t):PE X (.BoolOp op [a] pos) t:=λpins s σ H Q I hw=>BoolOp_one (h pins s σ H Q I hw)
theorem Lv(ha:PE X a ta)(hb:PE X (.BoolOp .And (b::rest) pos) tb):PE X (.BoolOp .And (a::b::rest) pos) (W3 ta tb):=by
 intro pins s σ H Q I h;refine BoolOp_and (gN (ha pins s σ H _ I h) λv s1 #[x,H1,I1,r1,q1]=>?_)
 obtain⟨c,rfl,q1⟩:=q1;cases r1;refine fV ?_
 cases c with
 |true=>exact hb pins s1 σ H1 Q I1 q1
 |false=>exact#[.bl false,H1,I1,rfl,q1]
theorem RM(ha:PE X a ta)(hb:PE X (.BoolOp .Or (b::rest) pos) tb):PE X (.BoolOp .Or (a::b::rest) pos) (zaR ta tb):=by
 intro pins s σ H Q I h;refine BoolOp_or (gN (ha pins s σ H _ I h) λv s1 #[x,H1,I1,r1,q1]=>?_)
 obtain⟨c,rfl,q1⟩:=q1;cases r1;refine fV ?_
 cases c with
 |false=>exact hb pins s1 σ H1 Q I1 q1
 |true=>exact#[.bl true,H1,I1,rfl,q1]
theorem TV(ha:PE X a ta):PE X (.UnaryOp .Not a pos) (W4 ta):=by
 intro pins s σ H Q I h;refine UnaryOp_ (gN (ha pins s σ H _ I h) λv s1 #[x,H1,I1,r1,q1]=>?_)
 obtain⟨c,rfl,q1⟩:=q1;cases r1;exact not_of (fV #[.bl (!c),H1,I1,rfl,q1])
def tIf(t:TT)(ta tb:TE):TE:=λσ H Q=>t σ H λc H1=>if c=true then ta σ H1 Q else tb σ H1 Q
theorem Lw(hc:PT X c tA)(ha:PE X a ta)(hb:PE X b tb):PE X (.IfExp c a b pos) (tIf tA ta tb):=by
 intro pins s σ H Q I h;refine wpAny_IfExp (gN (hc pins s σ H _ I h) λd s1 #[H1,I1,q1]=>?_)
 cases d with
 |true=>exact ha pins s1 σ H1 Q I1 q1
 |false=>exact hb pins s1 σ H1 Q I1 q1
end
def jy(K:aq)(H:Hp)(a:aH)(xs:List V):Prop:=
 Rd H a (.lst xs)\/
  ∃(o:Obj)(its:Array aF)(n:Nat),K.lookup a=some o/\o.cls=.type "list"/\o.dict=none/\o.data=.seq its n/\its.size<=sizeLine/\dU xs its.toList
def oT(K:aq)(H:Hp)(a:aH)(xs:List V):Prop:=
 Rd H a (.tup xs)\/
  ∃(o:Obj)(its:Array aF)(n:Nat),K.lookup a=some o/\o.cls=.type "tuple"/\o.data=.seq its n/\its.size<=sizeLine/\dU xs its.toList
def zaS:aF->Option V
 | .none=>some .non
 | .bool b=>some (.bl b)
 | .int i _=>some (.int i)
 | .str x _=>some (.str x)
 | .bytes b _=>some (.V7 b)
 | .float b _=>some (.flt b)
 | .ref a=>some (.ref a)
 | .type n=>some (.ty n)
 |_=>none
theorem RelV.abs{x:V}(r:RelV x u):zaS u=some x:=by
 cases x with
 |non=>cases r;rfl
 |bl _=>cases r;rfl
 |int _=>obtain⟨t,rfl⟩:=r;rfl
 |str _=>obtain⟨t,rfl⟩:=r;rfl
 |V7 _=>obtain⟨t,rfl⟩:=r;rfl
 |flt _=>obtain⟨t,rfl⟩:=r;rfl
 |ref _=>cases r;rfl
 |ty _=>cases r;rfl
theorem RelV.inj{x y:V}(r:RelV x u)(q:RelV y u):x=y:=cG (r.abs.symm.trans q.abs)
theorem dU.inj:∀{xs ys:List V}{us:List aF},dU xs us->dU ys us->xs=ys
 |_,_,_,.nil,.nil=>rfl
 |_,_,_,.cons r t,.cons r' t'=>by rw[r.inj r',dU.inj t t']
section
variable{X:Cx}{pins:List (aH×Obj)}{σ:St}{H:Hp}{s:aS}{a:aH}{xs ys:List V}
theorem jy.of(h:H a=some (.lst xs)):jy K H a xs:=.inl (.inl h)
theorem oT.of(h:H a=some (.tup xs)):oT K H a xs:=.inl (.inl h)
theorem Inv.list(I:Inv X pins σ H s)(h:jy X.K H a xs):∃its:List aF,dU xs its/\PlainL s.heap a its.toArray/\xs.length<=sizeLine:=by
 rcases h with h|⟨o,its,n,hk,hc,hd,hs,hz,r⟩
 ·obtain⟨z,its,n,r,e⟩:=h.ok I.hok
  exact#[its,r,#[_,n,e,rfl,rfl,rfl],z]
 ·refine#[_,r,#[o,n,I.B7 a o hk,hc,hd,by simpa using hs],?_]
  have e:=r.length;simp only[di]at e;omega
theorem Inv.tuple(I:Inv X pins σ H s)(h:oT X.K H a xs):∃its:List aF,dU xs its/\IsTup s.heap a its.toArray/\xs.length<=sizeLine:=by
 rcases h with h|⟨o,its,n,hk,hc,hs,hz,r⟩
 ·obtain⟨z,its,r,p⟩:=h.ok I.hok
  exact#[its,r,p,z]
 ·refine#[_,r,#[o,I.B7 a o hk,hc,n,by simpa using hs],?_]
  have e:=r.length;simp only[di]at e;omega
theorem Inv.yG(I:Inv X pins σ H s)(h:jy X.K H a xs)(h':jy X.K H a ys):xs=ys:=by
 obtain⟨its,r,⟨o,n,e,_,_,d⟩,_⟩:=I.list h;obtain⟨FL,r',⟨o',n',e',_,_,d'⟩,_⟩:=I.list h';rw[e]at e';cases e';rw[d]at d'
 injection d' with d1 _
 have:its=FL:=by simpa using qQ6 Array.toList d1
 subst this;exact r.inj r'
theorem Inv.A3(I:Inv X pins σ H s)(h:oT X.K H a xs)(h':oT X.K H a ys):xs=ys:=by
 obtain⟨its,r,⟨o,e,_,n,d⟩,_⟩:=I.tuple h;obtain⟨FL,r',⟨o',e',_,n',d'⟩,_⟩:=I.tuple h';rw[e]at e';cases e';rw[d]at d'
 injection d' with d1 _
 have:its=FL:=by simpa using qQ6 Array.toList d1
 subst this;exact r.inj r'
end
abbrev Cx.wish(X:Cx)(E:aF->aS->Prop):Cx:={ X with xe:=E }
abbrev Cx.V_(X:Cx):Cx:=X.wish λ_ _=>False
theorem Cx.Ok.wish(ok:X.Ok)(E:aF->aS->Prop):(X.wish E).Ok:=
 #[ok.mod,ok.kind,ok.glob,ok.blt,ok.above,ok.inj,ok.has,ok.cab,ok.hd,ok.frames,ok.stk,ok.exf,ok.bs,ok.RH,ok.Ln,ok.OY,ok.xQ,ok.TB]
theorem Cx.Ok.rB(ok:(X.wish E).Ok):X.Ok:=
 #[ok.mod,ok.kind,ok.glob,ok.blt,ok.above,ok.inj,ok.has,ok.cab,ok.hd,ok.frames,ok.stk,ok.exf,ok.bs,ok.RH,ok.Ln,ok.OY,ok.xQ,ok.TB]
section
variable{X:Cx}{pins:List (aH×Obj)}{σ:St}{H:Hp}{s:aS}{E:aF->aS->Prop}
theorem Inv.wish(I:Inv X pins σ H s)(E:aF->aS->Prop):Inv (X.wish E) pins σ H s:=#[I.ok.wish E,I.os,I.bare,I.base,I.loc,I.cell,I.free,I.pq,I.pin,I.hok,I.len]
theorem Inv.rB(I:Inv (X.wish E) pins σ H s):Inv X pins σ H s:=#[I.ok.rB,I.os,I.bare,I.base,I.loc,I.cell,I.free,I.pq,I.pin,I.hok,I.len]
theorem SP.rB{D:Ends}{f:Flow}(h:SP (X.wish E) pins D f s'):SP X pins D f s':=by
 cases f with
 |next=>obtain⟨σ',H',I,q⟩:=h;exact#[σ',H',I.rB,q]
 |brk=>obtain⟨σ',H',I,q⟩:=h;exact#[σ',H',I.rB,q]
 |cont=>obtain⟨σ',H',I,q⟩:=h;exact#[σ',H',I.rB,q]
 |ret u=>obtain⟨v,σ',H',I,r,q⟩:=h;exact#[v,σ',H',I.rB,r,q]
theorem Ia.V_{st:List fQ}{t:TS}(h:Ia X.V_ st t):Ia X st t:=λpins s σ H D I hw=>
 il (h pins s σ H D (I.wish _) hw) (λ_ _ q=>q.rB) λ_ _ z=>gY z
end
section
variable{X:Cx}{st:fQ}{rest:List fQ}{t u:TS}{e:bK}{te:TE}{pos:Pos}
def W5:TS:=λD σ H=>D.nx σ H
def zaT(t u:TS):TS:=λD σ H=>t { D with nx:=u D } σ H
theorem Ib:Ia X [] W5:=λ_ _ σ H _ I h=>DM #[σ,H,I,h]
theorem k8(h1:PS X st t)(h2:Ia X rest u):Ia X (st::rest) (zaT t u):=by
 intro pins s σ H D I h;refine wpAny_execs_cons (gN (h1 pins s σ H { D with nx:=u D } I h) λf s1 q=>?_)
 cases f with
 |next=>
  obtain⟨σ',H',I',q⟩:=q;exact h2 pins s1 σ' H' D I' q
 |ret v=>exact q
 |brk=>exact q
 |cont=>exact q
theorem ye(h1:PS X st t):Ia X [st] t:=by
 intro pins s σ H D I h;refine wpAny_execs_cons (gN (h1 pins s σ H D I h) λf s1 q=>?_)
 cases f with
 |next=>exact DM q
 |ret v=>exact q
 |brk=>exact q
 |cont=>exact q
def W6:TS:=λD σ H=>D.ct σ H
theorem DS:PS X (.Continue pos) W6:=λ_ _ σ H _ I h=>wpAny_Continue #[σ,H,I,h]
theorem Inv.quiet(I:Inv X pins σ H s):interactive X.env=false:=by simp[interactive,I.ok.kind]
def W7(te:TE):TS:=λD σ H=>te σ H λ_ H1=>D.nx σ H1
theorem ja(he:PE X e te)(hs:OG X pos e:=by rfl):PS X (.Expr e pos) (W7 te):=by
 intro pins s σ H D I h;exact wpAny_Expr_any (gN (he pins s σ H _ I h) λv s1 #[x,H1,I1,r1,q1]=>#[σ,H1,I1,q1]) I.quiet hs
def zaU(te:TE):TS:=λD σ H=>te σ H D.rt
theorem v8(he:PE X e te):PS X (.Return (some e) pos) (zaU te):=by
 intro pins s σ H D I h;exact wpAny_Return_some (gN (he pins s σ H _ I h) λv s1 #[x,H1,I1,r1,q1]=>#[x,σ,H1,I1,r1,q1])
def zaV(c:TT)(t u:TS):TS:=λD σ H=>c σ H λb H1=>if b=true then t D σ H1 else u D σ H1
theorem A4{a b:List fQ}{tc:TT}(hc:PT X c tc)(ha:Ia X a t)(hb:Ia X b u):PS X (.If c a b pos) (zaV tc t u):=by
 intro pins s σ H D I h;refine wpAny_If (gN (hc pins s σ H _ I h) λd s1 #[H1,I1,q1]=>?_)
 cases d with
 |true=>exact ha pins s1 σ H1 D I1 q1
 |false=>exact hb pins s1 σ H1 D I1 q1
def TX:TS:=λ_ _ _=>False
theorem lU{sts:List fQ}:Ia X sts TX:=λ_ _ _ _ _ _ h=>h.elim
end
abbrev TG:=V->St->Hp->(St->Hp->Prop)->Prop
abbrev RN:=List V->St->Hp->(St->Hp->Prop)->Prop
def PG(X:Cx)(target:bK)(t:TG):Prop:=
 ∀(pins:List (aH×Obj))(s:aS)(σ:St)(H:Hp)(v:V)(u:aF)(Q:St->Hp->Prop),Inv X pins σ H s->RelV v u->t v σ H Q->
  wpAny (model X.prog X.w) X.A (assign target X.env u) (λ_ s'=>∃σ' H',Inv X pins σ' H' s'/\Q σ' H') X.xe s
def ZW(X:Cx)(ts:List bK)(t:RN):Prop:=
 ∀(pins:List (aH×Obj))(s:aS)(σ:St)(H:Hp)(vs:List V)(us:List aF)(Q:St->Hp->Prop),Inv X pins σ H s->dU vs us->t vs σ H Q->
  wpAny (model X.prog X.w) X.A (assignInOrder ((assignEach ts X.env).map (·.2)) us) (λ_ s'=>∃σ' H',Inv X pins σ' H' s'/\Q σ' H') X.xe s
section
variable{X:Cx}{pos:Pos}
def A5(i:Nat):TG:=λv σ H Q=>Q (σ.set i (some v)) H
theorem O4{i:Nat}{x:Str}(hN:X.N.Nodup)(hi:X.N[i]?=some x)(hx:Loc X.env.scope x)(hf:A0 X x:=by left):PG X (.Name x pos) (A5 i):=by
 intro pins s σ H v u Q I r h;exact wpAny_assign_Name (nO I hN hi hx r (λs' I'=>#[_,H,I',h]) hf)
theorem gJ{x:Str}{pos:Pos}(i:Nat)(hN:X.N.Nodup)(hi:X.N[i]?=some x:=by rfl)(hx:Loc X.env.scope x:=by left)(hf:A0 X x:=by left):PG X (.Name x pos) (A5 i):=O4 hN hi hx hf
def W8:RN:=λvs σ H Q=>vs=[]/\Q σ H
def RP(t:TG)(u:RN):RN:=λvs σ H Q=>∃v r,vs=v::r/\t v σ H λσ' H'=>u r σ' H' Q
theorem fF:ZW X [] W8:=by
 intro pins s σ H vs us Q I r h;obtain⟨e,h⟩:=h;subst e;cases r;exact Am #[σ,H,I,h]
theorem bT{t:TG}{u:RN}(h1:PG X e t)(h2:ZW X es u)
  (hs:(assignEach (e::es) X.env).map (·.2)=assign e X.env::(assignEach es X.env).map (·.2):=by rfl):ZW X (e::es) (RP t u):=by
 intro pins s σ H vs us Q I r h;obtain⟨v,vr,e1,h⟩:=h;subst e1;cases r with
 |cons r rr=>
  rw[hs];exact jI (gN (h1 pins s σ H _ _ _ I r h) λ_ s1 #[σ1,H1,I1,q1]=>(h2 pins s1 σ1 H1 _ _ Q I1 rr q1))
def W9(K:aq)(n:Nat)(t:RN):TG:=λv σ H Q=>∃a xs,v=.ref a/\oT K H a xs/\xs.length=n/\t xs σ H Q
theorem gK{t:RN}{n:Nat}(hc:X.calm=true)(h:ZW X es t)
  (hn:(assignEach es X.env).length=n:=by rfl)(Lx:(assignEach es X.env).findIdx? (·.1)=none:=by rfl):PG X (.Tuple es k pos) (W9 X.K n t):=by
 intro pins s σ H v u Q I r hw;obtain⟨a,xs,e1,hq,hl,hw⟩:=hw;subst e1;cases r;obtain⟨its,rv,ht,hz⟩:=I.tuple hq;refine assign_Tuple_tuple (I.ok.hd hc) ht (by simp[hn,<-hl,rv.length]) Lx λh' hx=>?_
 exact h pins _ σ H xs _ Q (I.kept (t':=s.toks) λb o e=>hx b o (a9 (a8 e)) e) ↑rv hw
def W_(te:TE)(g:TG):TS:=λD σ H=>te σ H λx H1=>g x σ H1 D.nx
theorem nP{i:Nat}{x:Str}{te:TE}{pos':Pos}(hN:X.N.Nodup)(hi:X.N[i]?=some x)(hx:Loc X.env.scope x)(he:PE X e te)(hs:A1 X pos e (.Name x pos'):=by rfl)(hf:A0 X x:=by left):
  PS X (.Assign [.Name x pos'] e pos) (W_ te (A5 i)):=by
 intro pins s σ H D I h;exact wpAny_Assign_Name (gN (he pins s σ H _ I h) λv s1 #[y,H1,I1,r1,q1]=>(nO I1 hN hi hx r1 (λs2 I2=>#[_,H1,I2,q1]) hf)) hs
def zaW(i j:Nat)(ta:TA):TS:=λD σ H=>ta σ H λvs H1=>∃v w,vs=[v,w]/\D.nx ((σ.set i (some v)).set j (some w)) H1
theorem Ly{i j:Nat}{x y:Str}{a b:bK}{ta:TA}{px py pt:Pos}{kt k2 FN}(hc:X.calm=true)(hN:X.N.Nodup)(hi:X.N[i]?=some x)(hj:X.N[j]?=some y)(A6:i≠j)
  (hx:X.env.scope.names.lookup x=some .local)(hy:X.env.scope.names.lookup y=some .local)(ha:PA X [a,b] ta)
  (hw:swappedStores [.Tuple [.Name x px,.Name y py] kt pt] (.Tuple [a,b] k2 FN) X.env=pure (some [x,y]))
  (hs:swapsWithSole [.Tuple [.Name x px,.Name y py] kt pt] (.Tuple [a,b] k2 FN) pos.line X.env=pure false:=by rfl):
  PS X (.Assign [.Tuple [.Name x px,.Name y py] kt pt] (.Tuple [a,b] k2 FN) pos) (zaW i j ta):=by
 intro pins s σ H D I h;refine aD (x5 ?_)
 rw[hs];refine aD (bx ?_)
 refine aD (Tuple_ (gN (ha _ pins s σ H _ I h) λus s1 #[vs,H1,I1,r1,q1]=>?_))
 obtain⟨v,w,e1,q1⟩:=q1;subst e1;obtain⟨u1,u2,rfl,rv,sF⟩:∃u1 u2,us=[u1,u2]/\RelV v u1/\RelV w u2:=by
  cases r1 with
  |cons p q=>
   cases q with
   |cons p' q'=>
    cases q';exact#[_,_,rfl,p,p']
 refine fW ?_ (by show 2<=sizeLine;decide)
 have I2:Inv X pins σ H1 { s1 with heap:=s1.heap.push { cls:=.type "tuple",data:=.seq [u1,u2].toArray } }:=I1.kept λb o e=>aI _ e
 rw[hw];refine aD (bx ?_)
 refine aD (uf (aD (unpackItems_tuple (items:=(bZ [u1,u2])) (I.ok.hd hc) (tL s1.heap _) λh' hx'=>?_)))
 have I3:=I2.kept (t':=s1.toks) λb o e=>hx' b o (a9 (a8 e)) e
 refine aD (jI (pZ (nO I3 hN hj (.inl hy) sF (λs2 I4=>?_) (.inr hy))))
 refine jI (pZ (nO I4 hN hi (.inl hx) rv (λs3 I5=>Am (bx ?_)) (.inr hx)))
 rw[uW _ _ (bJ A6)]at I5;exact#[_,H1,I5,q1]
end
section
variable{X:Cx}{pos:Pos}
end
structure It where
 go:Nat->Hp->Prop
 Xa:Nat->Hp->V->Hp->Prop
 stop:Nat->Hp->Prop
def uZ(X:Cx)(pins:List (aH×Obj))(H:Hp)(b:aH):Prop:=
 H b=none/\b≠X.env.locals/\b∉X.fs/\(b∈X.ex\/X.s₀.heap.objs.size<=b)/\(∀x c,X.env.cells.lookup x=some c->c≠b)/\∀p∈X.pn++pins,p.1≠b
theorem Inv.yH{H': Hp}{b:aH}(I:Inv X pins σ H s)(hb:s.heap.objs.size<=b)(hn:H' b=none):uZ X pins H' b:=by
 refine#[hn,gu (b_ I.lt hb),I.zaL hb,.inr (bU I.sz hb),λx c e z=>?_,λp hp z=>?_]
 ·obtain⟨v,q⟩:=I.cell x c e
  exact qQ7 (b_ q.lt (by rw[z];exact hb)) (Nat.lt_irrefl _)
 ·exact qQ7 (b_ (a8 (I.pin p hp).1) (by rw[z];exact hb)) (Nat.lt_irrefl _)
structure Turn(P:bA)(w:cn)(K:aq)(tg:bK)(J:It)(fp:List aH)(it:aH)(tn:Nat->cX->Prop):Prop where
 mem:it∈fp
 obj:∀i h,tn i h->∀b∈fp,∃o,h.get? b=some o/\∀v,o.data≠.cell v
 keep:∀i h h',tn i h->(∀b∈fp,∀o,h.get? b=some o->h'.get? b=some o)->tn i h'
 item:∀(X:Cx),X.prog=P->X.w=w->X.K=K->X.calm=true->∀(i:Nat)(pins:List (aH×Obj))(s:aS)(σ:St)(H:Hp)(E:aF->aS->Prop),Inv X pins σ H s->(∀b∈fp,uZ X pins H b)->tn i s.heap->J.go i H->
  wpAny (model P w) X.A (pyNext (.ref it)) (λr s1=>∃u,r=some u/\
   wpAny (model P w) X.A (letOwnedTupleGo tg (.ref it) u) (λ_ s2=>∃x H',Inv X pins σ H' s2/\RelV x u/\J.Xa i H x H'/\tn (i+1) s2.heap/\∀b∈fp,H' b=none) E s1) E s
 done:∀(X:Cx),X.prog=P->X.w=w->X.K=K->X.calm=true->∀(i:Nat)(pins:List (aH×Obj))(s:aS)(σ:St)(H:Hp)(E:aF->aS->Prop),Inv X pins σ H s->(∀b∈fp,uZ X pins H b)->tn i s.heap->J.stop i H->
  wpAny (model P w) X.A (pyNext (.ref it)) (λr s1=>r=none/\Inv X pins σ H s1) E s
 self:∀(A:dO)(i:Nat)(s:aS)(Q:aF->aS->Prop)(E:aF->aS->Prop),tn i s.heap->Q (.ref it) s->wpAny (model P w) A (pyIter (.ref it)) Q E s
abbrev TI:=St->Hp->(It->Hp->Prop)->Prop
def PIE(X:Cx)(pins:List (aH×Obj))(σ:St)(tg:bK)(R:It->Hp->Prop)(ZX:aF)(s2:aS):Prop:=
 ∃(it:aH)(fp:List aH)(tn:Nat->cX->Prop)(J:It)(H':Hp),ZX=.ref it/\Inv X pins σ H' s2/\Turn X.prog X.w X.K tg J fp it tn/\tn 0 s2.heap/\(∀b∈fp,uZ X pins H' b)/\R J H'
def PI(X:Cx)(tg iter:bK)(wi:TI):Prop:=
 ∀(pins:List (aH×Obj))(s:aS)(σ:St)(H:Hp)(R:It->Hp->Prop),Inv X pins σ H s->wi σ H R->
  wpAny (model X.prog X.w) X.A (eval iter X.env) (λv s1=>wpAny (model X.prog X.w) X.A (pyIter v) (PIE X pins σ tg R) X.xe s1) X.xe s
theorem DT{n:String}{vs:Array aF}{Q:Unit->aS->Prop}(ho:s.heap.get? it=some o)(hc:o.cls=.type n)(hd:o.data=.fields vs)
    (hn:["enumerate","zip","dict_itemiterator","dict_reverseitemiterator","odict_iterator","itertools.zip_longest","itertools.pairwise"].contains n=false)(hQ:Q () s):wpAny M A (letOwnedTupleGo tg (.ref it) u) Q E s:=by
  cases tg<;>first
    | exact bx hQ
    | (cases u<;>first
        | exact bx hQ
        | (refine aD (wpAny_load ho ?_)
           rw[hc,hd];show wpAny M A (if(["enumerate","zip","dict_itemiterator","dict_reverseitemiterator","odict_iterator","itertools.zip_longest","itertools.pairwise"].contains n&&vs[0]?==some (rawInt _))=true then _ else _) Q E s
           rw[qQ2 (by intro h;rw[hn,Bool.false_and]at h;cases h)]
           exact bx hQ))
def Itl(K:aq)(a:aH):It:=
 #[λi H=>∃xs x,jy K H a xs/\xs[i]?=some x,λi H x H'=>H'=H/\∀xs,jy K H a xs->xs[i]?=some x,λi H=>∃xs,jy K H a xs/\xs.length<=i]
def Itt(K:aq)(a:aH):It:=
 #[λi H=>∃xs x,oT K H a xs/\xs[i]?=some x,λi H x H'=>H'=H/\∀xs,oT K H a xs->xs[i]?=some x,λi H=>∃xs,oT K H a xs/\xs.length<=i]
def Itr(lo:Int)(n:Nat):It:=#[λi _=>i<n,λi H x H'=>H'=H/\x=.int (lo+i),λi _=>n<=i]
theorem JA(a it:aH):Turn P w K tg (Itl K a) [it] it (λi h=>h.IsListIter it a i) where
 mem:=by simp
 obj:=λi h st b hb=>by
  have e:b=it:=by simpa using hb
  subst e;obtain⟨o,e,c,d⟩:=st;exact#[o,e,λv z=>by rw[d]at z;cases z]
 keep:=λi h h' st k=>st.at λo e=>k it (by simp) o e
 item:=by
  intro X hP hw hK hc i pins s σ H E I hf st hg;subst hP hw hK;obtain⟨xs,x,hq,hx⟩:=hg;obtain⟨its,rv,p,hz⟩:=I.list hq;obtain⟨u,hu,ru⟩:=rv.get hx;obtain⟨f0,f1,f2,f3,f4,f5⟩:=hf it (by simp)
  refine wpAny_pyNext_list_item st p.isList ↑hu λh' yf sb=>?_
  obtain⟨o,e,c,d⟩:=id yf;exact#[u,rfl,DT (s:={ s with heap:=h' }) e c d ⋯ #[x,H,I.turned (t':=s.toks) (λb o hb e=>(sb.2 b hb).trans e) f0 f1 f3 f4 f5,ru,#[rfl,λys hy=>by rw[I.yG hy hq];exact hx],yf,λb hb=>(hf b hb).1]]
 done:=by
  intro X hP hw hK hc i pins s σ H E I hf st hg;subst hP hw hK;obtain⟨xs,hq,hx⟩:=hg;obtain⟨its,rv,p,hz⟩:=I.list hq;obtain⟨f0,f1,f2,f3,f4,f5⟩:=hf it (by simp)
  have hl:=rv.length;exact wpAny_pyNext_list_end (I.ok.hd hc) st p.isList (by simp;omega) λh' eb=>#[rfl,I.turned (λb o hb e=>eb b o hb e) f0 f1 f3 f4 f5]
 self:=λ_ _ _ _ _ st h=>wpAny_pyIter_listiter st h
theorem FP(a it:aH):Turn P w K tg (Itt K a) [it] it (λi h=>h.IsTupleIter it a i) where
 mem:=by simp
 obj:=λi h st b hb=>by
  have e:b=it:=by simpa using hb
  subst e;obtain⟨o,e,c,d⟩:=st;exact#[o,e,λv z=>by rw[d]at z;cases z]
 keep:=λi h h' st k=>st.at λo e=>k it (by simp) o e
 item:=by
  intro X hP hw hK hc i pins s σ H E I hf st hg;subst hP hw hK;obtain⟨xs,x,hq,hx⟩:=hg;obtain⟨its,rv,p,hz⟩:=I.tuple hq;obtain⟨u,hu,ru⟩:=rv.get hx;obtain⟨f0,f1,f2,f3,f4,f5⟩:=hf it (by simp)
  refine wpAny_pyNext_tuple_item st p ↑hu λh' yf sb=>?_
  obtain⟨o,e,c,d⟩:=id yf;exact#[u,rfl,DT (s:={ s with heap:=h' }) e c d ⋯ #[x,H,I.turned (t':=s.toks) (λb o hb e=>(sb.2 b hb).trans e) f0 f1 f3 f4 f5,ru,#[rfl,λys hy=>by rw[I.A3 hy hq];exact hx],yf,λb hb=>(hf b hb).1]]
 done:=by
  intro X hP hw hK hc i pins s σ H E I hf st hg;subst hP hw hK;obtain⟨xs,hq,hx⟩:=hg;obtain⟨its,rv,p,hz⟩:=I.tuple hq;obtain⟨f0,f1,f2,f3,f4,f5⟩:=hf it (by simp)
  have hl:=rv.length;exact wpAny_pyNext_tuple_end (I.ok.hd hc) st p (by simp;omega) λh' eb=>#[rfl,I.turned (λb o hb e=>eb b o hb e) f0 f1 f3 f4 f5]
 self:=λ_ _ _ _ _ st h=>wpAny_pyIter_tupleiter st h
theorem FQ(it:aH)(lo:Int)(n:Nat):Turn P w K tg (Itr lo n) [it] it (λi h=>IsRangeIter h it (lo+(i:Nat)*1) ((n:Int)-(i:Nat)) 1) where
 mem:=by simp
 obj:=λi h st b hb=>by
  have e:b=it:=by simpa using hb
  subst e;exact#[_,st,λv z=>by
   have z':=z;cases z']
 keep:=λi h h' st k=>k it (by simp) _ st
 item:=by
  intro X hP hw hK hc i pins s σ H E I hf st hg;subst hP hw hK;obtain⟨f0,f1,f2,f3,f4,f5⟩:=hf it (by simp)
  refine (Walks.range (prog:=X.prog) (w:=X.w) (I.ok.hd hc) it lo 1 n).item i s _ _ hg st λv h' tk hv yf kk=>?_
  obtain⟨t,rfl⟩:=hv;have I1:Inv X pins σ H { s with heap:=h',toks:=tk }:=I.turned (λb o hb e=>kk b o ↑hb e) f0 f1 f3 f4 f5
  refine#[_,rfl,DT yf rfl rfl ⋯ #[.int (lo+i),H,I1,#[t,?_],#[rfl,rfl],yf,λb hb=>(hf b hb).1]]
  rw[Int.mul_one]
 done:=by
  intro X hP hw hK hc i pins s σ H E I hf st hg;subst hP hw hK;obtain⟨f0,f1,f2,f3,f4,f5⟩:=hf it (by simp)
  exact wpAny_pyNext_range_end (I.ok.hd hc) st (by have:n<=i:=hg;omega) λh' eb=>#[rfl,I.turned (λb o hb e=>eb b o hb e) f0 f1 f3 f4 f5]
 self:=λ_ _ _ _ _ st h=>wpAny_pyIter_rangeiter st h
section
variable{X:Cx}{tg:bK}
def Xb(K:aq)(tl:TE):TI:=λσ H R=>tl σ H λx H1=>∃a,x=.ref a/\(∃xs,jy K H1 a xs)/\R (Itl K a) H1
def za0(K:aq)(tl:TE):TI:=λσ H R=>tl σ H λx H1=>∃a,x=.ref a/\(∃xs,oT K H1 a xs)/\R (Itt K a) H1
theorem B_{l:bK}{tl:TE}(hl:PE X l tl):PI X tg l (Xb X.K tl):=by
 intro pins s σ H R I h;refine gN (hl pins s σ H _ I h) λv s1 #[x,H1,I1,r1,q1]=>?_
 obtain⟨a,e,⟨xs,hq⟩,q⟩:=q1;subst e;cases r1;obtain⟨its,rv,p,hz⟩:=I1.list hq;refine mN p.isList ?_
 refine#[s1.heap.objs.size,_,_,_,H1,rfl,I1.kept λb o e=>aI _ e,JA a _,#[_,bE _ rfl,rfl,rfl],λb hb=>?_,q]
 have e:b=s1.heap.objs.size:=by simpa using hb
 subst e;exact I1.yH ∅ (I1.hok.fresh ∅)
theorem TY{l:bK}{tl:TE}(hl:PE X l tl):PI X tg l (za0 X.K tl):=by
 intro pins s σ H R I h;refine gN (hl pins s σ H _ I h) λv s1 #[x,H1,I1,r1,q1]=>?_
 obtain⟨a,e,⟨xs,hq⟩,q⟩:=q1;subst e;cases r1;obtain⟨its,rv,p,hz⟩:=I1.tuple hq;refine yA p ?_
 refine#[s1.heap.objs.size,_,_,_,H1,rfl,I1.kept λb o e=>aI _ e,FP a _,#[_,bE _ rfl,rfl,rfl],λb hb=>?_,q]
 have e:b=s1.heap.objs.size:=by simpa using hb
 subst e;exact I1.yH ∅ (I1.hok.fresh ∅)
theorem Lz{R:It->Hp->Prop}{lo hi:Int}{t u v:Tok}{tk:Nat}(I:Inv X pins σ H s)(h1:-(2^62)<=lo)(h2:lo<2^62)(h3:-(2^62)<=hi)(h4:hi<2^62)
  (q:R (Itr lo (hi-lo).toNat) H):wpAny (model X.prog X.w) X.A (pyIter (.ref s.heap.objs.size)) (PIE X pins σ tg R) E { s with heap:=s.heap.push { cls:=.type "range",data:=.fields (bZ [.int lo t,.int hi u,.int 1 v]) },toks:=tk }:=by
 refine wpAny_pyIter_range (IsRange.new ..) (small_one h1 h2 h3 h4) ?_
 have I1:Inv X pins σ H { s with heap:=s.heap.push { cls:=.type "range",data:=.fields (bZ [.int lo t,.int hi u,.int 1 v]) },toks:=tk }:=I.kept λb o e=>aI _ e
 refine#[(s.heap.push { cls:=.type "range",data:=.fields (bZ [.int lo t,.int hi u,.int 1 v]) }).objs.size,_,_,_,H,rfl,
  I1.kept λb o e=>aI _ e,FQ _ lo (hi-lo).toNat,?_,λb hb=>?_,q]
 ·have e1:lo+((0:Nat))*1=lo:=by simp
  have e2:(((hi-lo).toNat:Nat))-((0:Nat))=wX.Range.rangeSize lo hi 1:=by rw[rangeSize_one];split<;>omega
  rw[e1,e2];exact bE _ rfl
 ·have e:b=(s.heap.push { cls:=.type "range",data:=.fields (bZ [.int lo t,.int hi u,.int 1 v]) }).objs.size:=by simpa using hb
  subst e;exact I1.yH (aT _) (I1.hok.fresh (aT _))
def Xc(ta:TA):TI:=λσ H R=>ta σ H λvs H1=>∃j:Int,vs=[.int j]/\-(2^62)<=j/\j<2^62/\R (Itr 0 j.toNat) H1
theorem JB{a:bK}{ta:TA}{p pos:Pos}(hg:Gl X "range")(hm:X.mg "range"=none)(ha:PA X [a] ta)(hs:starEach [a] X.env=[(false,eval a X.env)]:=by rfl):PI X tg (.Call (.Name "range" p) [a] [] pos) (Xc ta):=by
 intro pins s σ H R I h;refine Call_ (v7 I hg hm boot_range (iW (gN (ha pos pins s σ H _ I h) λus s1 #[vs,H1,I1,r1,q1]=>?_) hs rfl))
 obtain⟨j,e,q1,q2,q⟩:=q1;subst e;cases r1 with
 |cons r rr=>
  cases rr;obtain⟨t,rfl⟩:=r;exact call_range_1 (Lz I1 ∅ ∅ q1 q2 ↑q)
def za1(wi:TI)(g:TG)(tb:TS):TS:=λD σ H=>wi σ H λJ H1=>∃W:Nat->Nat->St->Hp->Prop,(∃m,W 0 m σ H1)/\∀i m σ H,W i m σ H->
 (J.stop i H/\D.nx σ H)\/(J.go i H/\∃N:St->Hp->Prop,(∀σ' H',N σ' H'->∃m',m'<m/\W (i+1) m' σ' H')/\∀x H',J.Xa i H x H'->g x σ H' λσ2 H2=>tb { D with nx:=N,ct:=N,bk:=D.nx } σ2 H2)
def Ca(fp:List aH)(h:cX):List (aH×Obj):=fp.filterMap λb=>(h.get? b).map λo=>(b,o)
theorem qc{b:aH}(hb:b∈fp)(e:h.get? b=some o):(b,o)∈Ca fp h:=jl.mpr #[b,hb,by rw[e];rfl]
theorem JC{p:aH×Obj}(hp:p∈Ca fp h):p.1∈fp/\h.get? p.1=some p.2:=by
 obtain⟨b,hb,e⟩:=jl.mp hp;cases q:h.get? b with
 |none=>rw[q]at e;cases e
 |some o=>
  rw[q]at e;have e':=cG e;subst e';exact#[hb,q]
theorem Inv.pinned(I:Inv X pins σ H s)(hf:∀b∈fp,uZ X pins H b)(ho:∀b∈fp,∃o,s.heap.get? b=some o/\∀v,o.data≠.cell v):Inv X (pins++Ca fp s.heap) σ H s:=
 I.H_ λp hp=>(bo.mp hp).elim (λz=>I.pin p (bq _ z)) λz=>by
  obtain⟨hb,e⟩:=JC z;obtain⟨f0,f1,f2,_⟩:=hf p.1 hb;obtain⟨o,e',d⟩:=ho p.1 hb;rw[e]at e';cases e';exact#[e,f0,f1,f2,d]
theorem Inv.rC{pl: List (aH×Obj)}(I:Inv X (pins++pl) σ H s):Inv X pins σ H s:=I.H_ λp hp=>I.pin p (bq _ (bM _ hp))
theorem Cb{iter:bK}{wi:TI}{g:TG}{tb:TS}{pos:Pos}(hp:tj (model X.prog X.w) X.A X.env X.xe)(hc:X.calm=true)(hi:PI X tg iter wi)(hg:PG X tg g)(hb:Ia X body tb)
  (hs:HY X iter:=by intro _;rfl):PS X (.For tg iter body [] pos) (za1 wi g tb):=by
 intro pins s σ H D I h;refine wpAny_For (gN (hi pins s σ H _ I h) λv s1 h1=>gN h1 λZX s2 h2=>?_) hs
 obtain⟨it,fp,tn,J,H2,e,I2,T,Xd,f2,W,⟨m0,w0⟩,turn⟩:=h2;subst e;have stat:∀{H':Hp},(∀b∈fp,H' b=none)->∀b∈fp,uZ X pins H' b:=λhn b hb=>#[hn b hb,(f2 b hb).2]
 refine codeAny_forLoop_any (λn s'=>∃i σ' H',Inv X pins σ' H' s'/\tn i s'.heap/\(∀b∈fp,H' b=none)/\W i n σ' H') ?_ m0 #[0,σ,H2,I2,Xd,λb hb=>(f2 b hb).1,w0]
 rintro n s3 ⟨i,σ3,H3,I3,st3,fr3,w3⟩
 rcases turn i n σ3 H3 w3 with⟨stop,qn⟩|⟨go,N,hN,step⟩
 ·refine oP hp (gN (T.done X rfl rfl rfl hc i pins s3 σ3 H3 X.xe I3 (stat fr3) st3 stop) λr s4 #[hr,I4]=>?_)
  subst hr;exact DM #[σ3,H3,I4,qn]
 ·refine oP hp (gN (T.item X rfl rfl rfl hc i pins s3 σ3 H3 X.xe I3 (stat fr3) st3 go) λr s4 #[u,hr,h4]=>?_)
  subst hr;refine oP hp (gN h4 λ_ s5 #[x,H5,I5,r5,y5,st5,fr5]=>?_)
  refine oP hp (gN (hg _ s5 σ3 H5 x u _ (I5.pinned (stat fr5) (T.obj _ _ st5)) r5 (step x H5 y5)) λ_ s6 #[σ6,H6,I6,q6]=>?_)
  refine oP hp (gN (hb _ s6 σ6 H6 _ I6 q6) λf s7 q7=>?_)
  have again:∀{σ7:St}{H7:Hp},Inv X _ σ7 H7 s7->N σ7 H7->∃m,m<n/\∃i σ' H',Inv X pins σ' H' s7/\tn i s7.heap/\(∀b∈fp,H' b=none)/\W i m σ' H':=λ{σ7 H7}I7 n7=>by
   obtain⟨m',hm,w7⟩:=hN σ7 H7 n7;refine#[m',hm,i+1,σ7,H7,I7.rC,T.keep _ _ _ st5 λb hb o e=>(I7.pin (b,o) (bq _ (bq _ (qc hb e)))).1,λb hb=>?_,w7]
   obtain⟨o,e,d⟩:=T.obj _ _ st5 b hb;exact(I7.pin (b,o) (bq _ (bq _ (qc hb e)))).2.1
  cases f with
  |next=>obtain⟨σ7,H7,I7,n7⟩:=q7;exact again I7 n7
  |cont=>obtain⟨σ7,H7,I7,n7⟩:=q7;exact again I7 n7
  |brk=>obtain⟨σ7,H7,I7,q7⟩:=q7;exact#[σ7,H7,I7.rC,q7]
  |ret v=>obtain⟨x7,σ7,H7,I7,r7,q7⟩:=q7;exact#[x7,σ7,H7,I7.rC,r7,q7]
end
abbrev R2:=V->V->Hp->VK->Prop
variable{r:R2}
def sG(X:Cx)(f:aF->aF->Sem aF)(r:R2):Prop:=
 ∀(pins:List (aH×Obj))(s:aS)(σ:St)(H:Hp)(x y:V)(v u:aF)(Q:VK),Inv X pins σ H s->RelV x v->RelV y u->r x y H Q->
  wpAny (model X.prog X.w) X.A (f v u) (EP X pins σ Q) X.xe s
def jK(X:Cx)(f:aF)(r:List V->Hp->VK->Prop):Prop:=
 ∀(pins:List (aH×Obj))(s:aS)(σ:St)(H:Hp)(xs:List V)(us:List aF)(Q:VK),Inv X pins σ H s->dU xs us->r xs H Q->
  wpAny (model X.prog X.w) X.A (call f us) (EP X pins σ Q) X.xe s
def za3(X:Cx)(r:V->Hp->(Bool->Hp->Prop)->Prop):Prop:=
 ∀(pins:List (aH×Obj))(s:aS)(σ:St)(H:Hp)(x:V)(v:aF)(Q:Bool->Hp->Prop),Inv X pins σ H s->RelV x v->r x H Q->
  wpAny (model X.prog X.w) X.A (truthy v) (TP X pins σ Q) X.xe s
def Xe(r:R2)(ta tb:TE):TE:=λσ H Q=>ta σ H λx H1=>tb σ H1 λy H2=>r x y H2 Q
def rI(C:Int->Int->Prop)(g:Int->Int->V):R2:=λx y H Q=>∃i j,x=.int i/\y=.int j/\C i j/\Q (g i j) H
def OI(g:Int->Int->V):R2:=λx y H Q=>∃i j,x=.int i/\y=.int j/\Q (g i j) H
section
variable{X:Cx}{a b c:bK}{ta tb tc:TE}{pos:Pos}
theorem T1(ha:PE X a ta)(hb:PE X b tb)(I:Inv X pins σ H s)
  (h:ta σ H λx H1=>tb σ H1 λy H2=>R x y H2)
  (hf:∀v u s2 x y H2,Inv X pins σ H2 s2->RelV x v->RelV y u->R x y H2->wpAny (model X.prog X.w) X.A (f v u) Q X.xe s2):
  wpAny (model X.prog X.w) X.A (eval a X.env) (λv s₁=>wpAny (model X.prog X.w) X.A (eval b X.env) (λu s₂=>wpAny (model X.prog X.w) X.A (f v u) Q X.xe s₂) X.xe s₁) X.xe s:=by
 refine gN (ha pins s σ H _ I h) λv s1 #[x,H1,I1,r1,q1]=>?_
 exact gN (hb pins s1 σ H1 _ I1 q1) λu s2 #[y,H2,I2,r2,q2]=>(hf v u s2 x y H2 I2 r1 r2 q2)
theorem Ie{op:Operator}(ho:sG X (binaryOp op) r)(ha:PE X a ta)(hb:PE X b tb):PE X (.BinOp a op b pos) (Xe r ta tb):=by
 intro pins s σ H Q I h;exact wpAny_BinOp (T1 ha hb I h λv u s2 x y H2 I2 rx ry q=>ho pins s2 σ H2 x y v u Q I2 rx ry q)
theorem opI{C:Int->Int->Prop}
  (rule:∀(i j:Int)(t u:Tok)(s:aS)(Q:aF->aS->Prop)(E:aF->aS->Prop),C i j->Q (.int (g i j) s.toks) { s with toks:=s.toks+1 }->wpAny (model X.prog X.w) X.A (f (.int i t) (.int j u)) Q E s):
  sG X f (rI C λi j=>.int (g i j)):=by
 intro pins s σ H x y v u Q I rx ry h;obtain⟨i,j,rfl,rfl,hc,q⟩:=h;obtain⟨t,rfl⟩:=rx;obtain⟨t',rfl⟩:=ry;exact rule i j t t' s _ _ hc #[.int (g i j),H,I.tok _,#[_,rfl],q]
theorem Xf
  (rule:∀(i j:Int)(t u:Tok)(s:aS)(Q:aF->aS->Prop)(E:aF->aS->Prop),Q (.int (g i j) s.toks) { s with toks:=s.toks+1 }->wpAny (model X.prog X.w) X.A (f (.int i t) (.int j u)) Q E s):
  sG X f (OI λi j=>.int (g i j)):=by
 intro pins s σ H x y v u Q I rx ry h;obtain⟨i,j,rfl,rfl,q⟩:=h;obtain⟨t,rfl⟩:=rx;obtain⟨t',rfl⟩:=ry;exact rule i j t t' s _ _ #[.int (g i j),H,I.tok _,#[_,rfl],q]
theorem O5{g:Int->Int->Bool}
  (rule:∀(i j:Int)(t u:Tok)(s:aS)(Q:aF->aS->Prop)(E:aF->aS->Prop),Q (.bool (g i j)) s->wpAny (model X.prog X.w) X.A (f (.int i t) (.int j u)) Q E s):
  sG X f (OI λi j=>.bl (g i j)):=by
 intro pins s σ H x y v u Q I rx ry h;obtain⟨i,j,rfl,rfl,q⟩:=h;obtain⟨t,rfl⟩:=rx;obtain⟨t',rfl⟩:=ry;exact rule i j t t' s _ _ #[.bl (g i j),H,I,rfl,q]
def Xg(i j:Int):Prop:=0<j/\j<1073741824
def O6(i j:Int):Prop:=(-(2^64)<i/\i<2^64)\/(-(2^64)<j/\j<2^64)
theorem O6.ok{i j:Int}(h:O6 i j):IntMulOk i j:=by
 rcases h with⟨h1,h2⟩|⟨h1,h2⟩
 ·exact .of_left (intBits_le_64 h1 h2)
 ·exact .of_right (intBits_le_64 h1 h2)
theorem T2:sG X (binaryOp .Add) (OI λi j=>.int (i+j)):=Xf λ_ _ _ _ _ _ _ q=>add_int q
theorem T3:sG X (binaryOp .Sub) (OI λi j=>.int (i-j)):=Xf λ_ _ _ _ _ _ _ q=>sub_int q
theorem T4:sG X (binaryOp .Mult) (rI O6 λi j=>.int (i*j)):=opI λ_ _ _ _ _ _ _ hc q=>mul_int q hc.ok
theorem O7:sG X (binaryOp .FloorDiv) (rI Xg λi j=>.int (i/j)):=opI λi j _ _ _ _ _ hc q=>by
 have h1:=hc.1;have h2:=hc.2;exact floordiv_int ∅ (by rw[Int.fdiv_eq_ediv_of_nonneg i ∅];exact q) (.inl (PyProof.noPylong_small ∅))
theorem T5:sG X (binaryOp .Mod) (rI (λ_ j=>0<j) λi j=>.int (i%j)):=opI λi j _ _ _ _ _ hc q=>by
 have h1:=hc;exact mod_int' ∅ (by rw[Int.fmod_eq_emod_of_nonneg i ∅];exact q)
end
section
variable{X:Cx}{a b c:bK}{ta tb tc:TE}{pos:Pos}
theorem FT{Q:VK}{k k':Bool}(I:Inv X pins σ H s)(q:Q (.bl k) H)(e:k=k'):EP X pins σ Q (.bool k') s:=by
 subst e;exact#[.bl k,H,I,rfl,q]
theorem Xh:sG X (compareOp .Lt) (OI λi j=>.bl (decide (i<j))):=O5 λ_ _ _ _ _ _ _ q=>lt_int q
theorem DU:sG X (compareOp .LtE) (OI λi j=>.bl (decide (i<=j))):=O5 λ_ _ _ _ _ _ _ q=>le_int q
theorem RQ:sG X (compareOp .Gt) (OI λi j=>.bl (decide (j<i))):=O5 λ_ _ _ _ _ _ _ q=>gt_int q
theorem Xi:sG X (compareOp .GtE) (OI λi j=>.bl (decide (j<=i))):=O5 λ_ _ _ _ _ _ _ q=>ge_int q
theorem JD:sG X (compareOp .In) (λx y H Q=>∃i j,x=.str i/\y=.str j/\Q (.bl (!(wX.Str.occurrences j i 0 j.length 1).isEmpty)) H):=by
 intro pins s σ H x y v u Q I rx ry h;obtain⟨i,j,rfl,rfl,q⟩:=h;obtain⟨t,rfl⟩:=rx;obtain⟨t',rfl⟩:=ry;exact in_str (FT I q rfl)
theorem j':sG X (compareOp .Is) (λx y H Q=>y=.non/\Q (.bl (decide (x=.non))) H):=by
 intro pins s σ H x y v u Q I rx ry h;obtain⟨rfl,q⟩:=h;cases ry;refine is_none_gen (FT I q ?_)
 cases x<;>first
  |(cases rx;rfl)
  |(obtain⟨t,rfl⟩:=rx;rfl)
theorem mj:sG X (compareOp .IsNot) (λx y H Q=>y=.non/\Q (.bl (!decide (x=.non))) H):=by
 intro pins s σ H x y v u Q I rx ry h;obtain⟨rfl,q⟩:=h;cases ry;refine isnot_none_gen (FT I q ?_)
 cases x<;>first
  |(cases rx;rfl)
  |(obtain⟨t,rfl⟩:=rx;rfl)
theorem eV(b:bK){op:FC}(h:op≠.In:=by decide)(h2:op≠.NotIn:=by decide):behindInMarks op b=false:=by
 have e1:(op==FC.In)=false:=by cases op<;>first|rfl|exact qQ7 rfl h
 have e2:(op==FC.NotIn)=false:=by cases op<;>first|rfl|exact qQ7 rfl h2
 cases b<;>simp[behindInMarks,e1,e2]
theorem O8{op:FC}(ho:sG X (compareOp op) r)(ha:PE X a ta)(hb:PE X b tb)(hm:behindInMarks op b=false):PE X (.Compare a [op] [b] pos) (Xe r ta tb):=by
 intro pins s σ H Q I h;exact wpAny_Compare1 (T1 ha hb I h λv u s2 x y H2 I2 rx ry q=>ho pins s2 σ H2 x y v u Q I2 rx ry q) hm
def Xj(t:TE):TT:=λσ H Q=>t σ H λx H'=>∃k,x=.bl k/\Q k H'
theorem O9{op:FC}(ho:sG X (compareOp op) r)(ha:PE X a ta)(hb:PE X b tb)(hm:behindInMarks op b=false):PT X (.Compare a [op] [b] pos) (Xj (Xe r ta tb)):=by
 intro pins s σ H Q I h;refine wpAny_isTrue_Compare1 (gN (ha pins s σ H _ I h) λv s1 #[x,H1,I1,r1,q1]=>gN (hb pins s1 σ H1 _ I1 q1) λu s2 #[y,H2,I2,r2,q2]=>
  gN (ho pins s2 σ H2 x y v u _ I2 r1 r2 q2) λc s3 #[z,H3,I3,r3,k,e,q3]=>?_) hm
 subst e;cases r3;exact fV #[H3,I3,q3]
def T6(r r':R2)(ta tb tc:TE):TE:=λσ H Q=>ta σ H λx H1=>tb σ H1 λy H2=>r x y H2 λz H3=>∃k,z=.bl k/\
 (if k=true then tc σ H3 λw' H4=>r' y w' H4 Q else Q (.bl false) H3)
theorem DV{op op':FC}{r': R2}(ho:sG X (compareOp op) r)(Aw:sG X (compareOp op') r')(ha:PE X a ta)(hb:PE X b tb)(hc:PE X c tc)
  (hm:lastMarks [op,op'] [b,c]=false:=by with_unfolding_all rfl):PE X (.Compare a [op,op'] [b,c] pos) (T6 r r' ta tb tc):=by
 intro pins s σ H Q I h;refine Compare_chain (gN (ha pins s σ H _ I h) λv s1 #[x,H1,I1,r1,q1]=>chain_link (gN (hb pins s1 σ H1 _ I1 q1) λu s2 #[y,H2,I2,r2,q2]=>
  gN (ho pins s2 σ H2 x y v u _ I2 r1 r2 q2) λd s3 #[z,H3,I3,r3,k,e,q3]=>?_)) hm
 subst e;cases r3;refine fV ?_
 cases k with
 |false=>exact ite_ff #[.bl false,H3,I3,rfl,q3]
 |true=>exact ite_tt (chain_last (gN (hc pins s3 σ H3 _ I3 q3) λw' s4 #[z',H4,I4,r4,q4]=>Aw pins s4 σ H4 y z' u w' Q I4 r2 r4 q4))
def Xk(K:aq)(x:V)(H:Hp)(k:Bool):Prop:=
 match x with
 | .non=>k=false
 | .bl b=>k=b
 | .int i=>k=(i != 0)
 | .str y=>y.length<=sizeLine/\k=((y.length:Int) != 0)
 | .V7 y=>y.size<=sizeLine/\k=((y.size:Int) != 0)
 | .ref p=>(∃xs,jy K H p xs/\k=!xs.isEmpty)\/(∃xs,oT K H p xs/\k=!xs.isEmpty)\/∃kvs,H p=some (.dK kvs)/\k=!kvs.isEmpty
 |_=>False
theorem FU{κ:Type}{kvs:List (κ×V)}{vs:List (κ×aF)}(r:KV kvs vs):(!vs.isEmpty)=!kvs.isEmpty:=by
 cases r<;>rfl
theorem yI{its:List aF}(r:dU xs its):(!its.toArray.isEmpty)=!xs.isEmpty:=by
 cases r<;>simp
theorem um:(sizeLine:Nat)<2^63:=by rw[dN];decide
theorem T7:za3 X (λx H Q=>∃k,Xk X.K x H k/\Q k H):=by
 intro pins s σ H x v Q I rx h;obtain⟨k,e,q⟩:=h;have hl:=um;have hs:=dN;cases x with
 |non=>
  cases rx;have e':k=false:=e;subst e';exact truthy_none #[H,I,q]
 |bl b=>
  cases rx;have e':k=b:=e;subst e';exact fV #[H,I,q]
 |int i=>
  obtain⟨t,rfl⟩:=rx;have e':k=(i != 0):=e;subst e';exact PySem.P.truthy_int #[H,I,q]
 |str y=>
  obtain⟨t,rfl⟩:=rx;obtain⟨hy,e'⟩:y.length<=sizeLine/\k=((y.length:Int) != 0):=e;subst e';exact PySem.P.truthy_str ∅ #[H,I.tok _,q]
 |V7 y=>
  obtain⟨t,rfl⟩:=rx;obtain⟨hy,e'⟩:y.size<=sizeLine/\k=((y.size:Int) != 0):=e;subst e';exact PySem.W.truthy_bytes ∅ #[H,I.tok _,q]
 |ref p=>
  cases rx;have e':=e;rcases e' with⟨xs,hx,e'⟩|⟨xs,hx,e'⟩|⟨kvs,hx,e'⟩
  ·subst e'
   obtain⟨its,r,pl,hz⟩:=I.list hx;have hlen:=r.length;exact wpAny_truthy_list pl.isList (by simp;omega) #[H,I.tok _,by rw[yI r];exact q]
  ·subst e'
   obtain⟨its,r,pl,hz⟩:=I.tuple hx;have hlen:=r.length;exact truthy_tuple pl (by simp;omega) #[H,I.tok _,by rw[yI r];exact q]
  ·subst e'
   obtain⟨hz,hS,vs,r,m⟩:kvs.length<=sizeLine/\(p==sysModules)=false/\∃vs,KV kvs vs/\s.heap.DictOf _ p vs:=I.hok p _ hx;have hlen:=uc r;exact wpAny_truthy_dict hS m ∅ #[H,I.tok _,by rw[FU r];exact q]
 |_=>exact(show False from e).elim
theorem LC(ha:PE X a ta)(he:∀whole,isTrue a X.env whole=(do let v <-whole;standAt a.pos;holding [v] (truthy v))):
  PT X a (λσ H Q=>ta σ H λx H'=>∃k,Xk X.K x H' k/\Q k H'):=by
 intro pins s σ H Q I h;exact isTrue_plain (gN (ha pins s σ H _ I h) λv s1 #[x,H1,I1,r1,q1]=>T7 pins s1 σ H1 x v Q I1 r1 q1) (he _)
theorem FV:sG X (binaryOp .Add) (λx y H Q=>∃i j,x=.str i/\y=.str j/\i.length+j.length<=sizeLine/\Q (.str (i++j)) H):=by
 intro pins s σ H x y v u Q I rx ry h;obtain⟨i,j,rfl,rfl,hz,q⟩:=h;obtain⟨t,rfl⟩:=rx;obtain⟨t',rfl⟩:=ry;exact add_str (λt' tk=>#[.str (i++j),H,I.tok _,#[_,rfl],q]) hz
theorem vals1{x:V}(r:dU [x] us):∃u,us=[u]/\RelV x u:=by
 cases r with
 |cons r1 r2=>cases r2;exact#[_,rfl,r1]
theorem vals2{x y:V}(r:dU [x,y] us):∃u w',us=[u,w']/\RelV x u/\RelV y w':=by
 cases r with
 |cons r1 r2=>
  cases r2 with
  |cons r3 r4=>cases r4;exact#[_,_,rfl,r1,r3]
theorem JF(hc:X.calm=true):jK X (.builtin "max") (λxs H Q=>∃i j,xs=[.int i,.int j]/\Q (.int (if j>i then j else i)) H):=by
 intro pins s σ H xs us Q I r h;obtain⟨i,j,rfl,q⟩:=h;obtain⟨u,w',rfl,⟨t,rfl⟩,⟨t',rfl⟩⟩:=vals2 r;refine max_two_ints (I.ok.hd hc) λh' tk k=>#[_,H,I.kept k,?_,q]
 by_cases hj:j>i
 ·rw[qQ3 hj,qQ3 hj];exact#[_,rfl]
 ·rw[qQ2 hj,qQ2 hj];exact#[_,rfl]
theorem JG(hc:X.calm=true):jK X (.builtin "min") (λxs H Q=>∃i j,xs=[.int i,.int j]/\Q (.int (if j<i then j else i)) H):=by
 intro pins s σ H xs us Q I r h;obtain⟨i,j,rfl,q⟩:=h;obtain⟨u,w',rfl,⟨t,rfl⟩,⟨t',rfl⟩⟩:=vals2 r;refine min_two_ints (I.ok.hd hc) λh' tk k=>#[_,H,I.kept k,?_,q]
 by_cases hj:j<i
 ·rw[qQ3 hj,qQ3 hj];exact#[_,rfl]
 ·rw[qQ2 hj,qQ2 hj];exact#[_,rfl]
theorem Cd:jK X (.type "str") (λxs H Q=>∃i,xs=[.int i]/\i.natAbs.log2<1920/\Q (.str (toString i)) H):=by
 intro pins s σ H xs us Q I r h;obtain⟨i,rfl,hz,q⟩:=h;obtain⟨u,rfl,t,rfl⟩:=vals1 r;exact PySem.P.str_of_int hz #[.str _,H,I.tok _,#[_,rfl],q]
end
structure JH(h:cX)(x dx C:aH)(mA:Str->Option aF):Prop where
 obj:h.get? x=some (g_ C dx)
 ns:h.Ns1 dx mA
 ne:dx≠x
theorem JK{dx:aH}(n:h.Ns1 dx mA):∃od,h.get? dx=some od/\∀name,yB name od=some (mA name):=by
 obtain⟨o,es,ep,ho,hd,hk,_,hm⟩:=n;refine#[o,ho,λname=>?_]
 have e:=hm name;unfold nsFind findBy at e;rw[<-Array.find?_toList]at e
 unfold yB;rw[hd]
 dsimp only
 split
 ·rename_i y q
  rw[q]at e;exact qQ6 some e
 ·rename_i q
  rw[q]at e;have a:es.toList.any (·.refKey)=false:=by
   rw[wU];intro y hy;obtain⟨z,t,T8⟩:=hk y (Array.mem_toList_iff.mp hy);simp[wW.refKey,T8]
  rw[qQ2 (by rw[a];exact jm)];exact qQ6 some e
theorem JH.look{x dx: aH}(I:JH h x dx C mA):∃od,PySem.W.InstAt h x (g_ C dx) C (some od)/\∀name,yB name od=some (mA name):=
 let#[od,ho,hl]:=JK I.ns
 #[od,#[I.obj,rfl,rfl,ho],hl]
section
variable{prog:bA}{w:cn}{A:dO}{E:aF->aS->Prop}{s:aS}{K:aq}{x dx C f:aH}{mA:Str->Option aF}{name:Str}{v:aF}
theorem get_map{expr:Bool}(X:K.In s.heap)(I:JH s.heap x dx C mA)(hg:o_ K C name=true)(hh:oi K C=true)
  (ha:dB K (.ref C) name=some none)(hv:mA name=some v)(LD:PySem.W.handedIn v=true)(h:Q v { s with toks:=s.toks+1 }):
  wpAny (model prog w) A (getAttr (.ref x) name expr) Q E s:=by
 obtain⟨od,J,hl⟩:=I.look;exact PySem.W.get_value X J (PySem.W.plainGet_of hg).1 (PySem.W.findObj_own hh ha rfl (by rw[hl,hv])) LD h
theorem O_{ns:List Str}{Q:Unit->aS->Prop}(X:K.In s.heap)(I:JH s.heap x dx C mA)
  (hs:dB K (.ref C) "__setattr__"=some (some (.builtin "object.__setattr__")))(hp:uX K C=true)(ht:xH K C name=some none)(hh:oi K C=true)
  (hw:DK mA ns)(hsz:ns.length<=sizeLine)
  (h:∀h',JH h' x dx C (λy=>if y=name then some v else mA y)->iz dx s.heap h'->Q () { s with heap:=h',toks:=s.toks+2 }):
  wpAny (model prog w) A (setAttr (.ref x) name v) Q E s:=by
 obtain⟨od,J,hl⟩:=I.look;refine PySem.W.set_plain X J hs (PySem.W.osa_open X J hp ht λb=>?_)
 obtain⟨cd,hc,OZ⟩:=PySem.W.any_some hh;refine aD (bx (aD (aD (wpAny_loadPart I.obj (aD (PySem.W.Looks.here (PySem.W.looks_clsIn X hc) ?_))))))
 rw[OZ];refine bx (aD (bx (aD ?_)))
 refine wpAny_nsSet1 I.ns λh' ZY qO=>?_
 obtain⟨oD,esD,epD,hoD,hdD,hcD⟩:=ZY.count (DK.cons name v hw);exact aD (wpAny_lookBehind hoD (by rw[hdD];exact pastItsLine_dict (bU hcD (by rw[bf];omega))) (bx (h _ #[(qO.2 _ (bJ I.ne)).trans I.obj,ZY,I.ne] qO)))
theorem LJ{R:vV->aS->Prop}{vs:List aF}(X:K.In s.heap)(hm:xI K C=true)
  (hi:dB K (.ref C) "__init__"=some (some (.ref f)))(hf:PySem.W.typeIn K (.ref f)=some (.type "function"))
  (h:codeAny (model prog w) (A.under (.builtin "type.__call__" #[.ref C::vs,kw])) (.call (.ref f) #[.ref (s.heap.objs.size+1)::vs,kw]) (PySem.W.InitBack (s.heap.objs.size+1) R)
   { s with heap:=(s.heap.push gw).push (g_ C s.heap.objs.size) }) :
  codeAny (model prog w) A (.call (.ref C) #[vs,kw]) R s:=by
 exact PySem.W.make_core (PySem.W.makes_of X hm) (PySem.W.looks_findIn X hi) (λself=>PySem.W.bind_fn X self hf) (.inl rfl) h
end
def qU(f:Str)(v:V):List (Str×V)->List (Str×V)
 | []=>[(f,v)]
 |(g,x)::r=>if g=f then(g,v)::r else(g,x)::qU f v r
theorem wY(f g:Str)(v:V):∀fs:List (Str×V),(qU f v fs).lookup g=if g=f then some v else fs.lookup g
 | []=>by
  show k6 g [(f,v)]=_;by_cases h:g=f
  ·have hb:=beq_iff_eq.mpr h
   simp[k6,hb,qQ3 h]
  ·have hb:=beq_eq_false_iff_ne.mpr h
   simp[k6,hb,qQ2 h]
 |(k,x)::r=>by
  have ih:=wY f g v r;rw[show qU f v ((k,x)::r)=(if k=f then(k,v)::r else(k,x)::qU f v r)from rfl]
  by_cases hk:k=f
  ·rw[qQ3 hk]
   by_cases h:g=k
   ·have hb:=beq_iff_eq.mpr h
    simp[k6,hb,qQ3 (h.trans hk)]
   ·have hb:=beq_eq_false_iff_ne.mpr h
    simp[k6,hb,qQ2 (λe:g=f=>h (e.trans hk.symm))]
  ·rw[qQ2 hk]
   by_cases h:g=k
   ·have hb:=beq_iff_eq.mpr h
    simp[k6,hb,qQ2 (λe:g=f=>hk (h.symm.trans e))]
   ·have hb:=beq_eq_false_iff_ne.mpr h
    simp[k6,hb];exact ih
theorem v9(f:Str)(v:V):∀fs:List (Str×V),f∈(qU f v fs).map (·.1)/\∀g,g∈fs.map (·.1)->g∈(qU f v fs).map (·.1)
 | []=>#[by simp[qU],λg h=>by simp at h]
 |(k,x)::r=>by
  obtain⟨i1,i2⟩:=v9 f v r;rw[show qU f v ((k,x)::r)=(if k=f then(k,v)::r else(k,x)::qU f v r)from rfl]
  by_cases hk:k=f
  ·rw[qQ3 hk]
   subst hk;exact#[by simp,λg h=>by simpa using h]
  ·rw[qQ2 hk]
   refine#[?_,λg h=>?_]
   ·rw[aA]
    exact aN _ i1
   ·rw[aA]at h ⊢
    rcases ax.mp h with e|e
    ·exact ax.mpr (.inl e)
    ·exact aN _ (i2 g e)
theorem wZ(f:Str)(v:V):∀fs:List (Str×V),(qU f v fs).length<=fs.length+1
 | []=>by simp[qU]
 |(k,x)::r=>by
  have ih:=wZ f v r;rw[show qU f v ((k,x)::r)=(if k=f then(k,v)::r else(k,x)::qU f v r)from rfl]
  by_cases hk:k=f
  ·rw[qQ3 hk,bf,bf];omega
  ·rw[qQ2 hk,bf,bf];omega
theorem ui.some_of{v:V}{o:Option aF}(r:ui (some v) o):∃u,o=some u/\RelV v u:=by
 cases o with
 |none=>exact(show False from r).elim
 |some u=>exact#[u,rfl,r]
theorem JL{v:V}(r:RelV v u):PySem.W.handedIn u=true:=by
 cases v with
 |non=>cases(show u=nZ from r);rfl
 |bl b=>cases(show u=aF.bool b from r);rfl
 |int i=>obtain⟨t,e⟩:=r;cases e;rfl
 |str x=>obtain⟨t,e⟩:=r;cases e;rfl
 |V7 b=>obtain⟨t,e⟩:=r;cases e;rfl
 |flt b=>obtain⟨t,e⟩:=r;cases e;rfl
 |ref a=>cases(show u=d_ a from r);rfl
 |ty n=>cases(show u=uV n from r);rfl
section
variable{P:bA}{w:cn}{H H':Hp}{h h':cX}{a C dx:aH}{fs fs':List (Str×V)}
theorem Ig(hok:uj P w H h)(e:H a=some (.ins C dx fs)):∃mA,JH h a dx C mA/\(∀f,ui (fs.lookup f) (mA f))/\DK mA (fs.map (·.1))/\fs.length<=1000/\H dx=some (.own a):=by
 obtain⟨d,z,ne,ob,mA,n,r,q⟩:=(hok a _ e)
 exact#[mA,#[ob,n,ne],r,q,z,d]
end
structure DW(K:aq)(C:aH):Prop where
 pg:o_ K C gi=true
 hd:oi K C=true
 po:uX K C=true
 sa:dB K (.ref C) "__setattr__"=some (some (.builtin "object.__setattr__"))
theorem DW.get(c:DW K C)(f:Str):o_ K C f=true:=c.pg
def kf(K:aq)(C:aH)(f:Str):Prop:=dB K (.ref C) f=some none
theorem kf.taker{f:Str}(n:kf K C f):xH K C f=some none:=by
 unfold xH;rw[show dB K _ f=some none from n]
 rfl
section
variable{X:Cx}{pins:List (aH×Obj)}{σ:St}{H:Hp}{s:aS}{a C dx:aH}{fs:List (Str×V)}{f:Str}{v:V}{A:dO}{E:aF->aS->Prop}
theorem FW{b:Bool}(I:Inv X pins σ H s)(e:H a=some (.ins C dx fs))(c:DW X.K C)(n:kf X.K C f)(l:fs.lookup f=some v)
  (h:∀u s',Inv X pins σ H s'->RelV v u->Q u s'):wpAny (model X.prog X.w) A (getAttr (.ref a) f b) Q E s:=by
 obtain⟨mA,O,r,_,_,_⟩:=Ig I.hok e;obtain⟨u,hu,ru⟩:=ui.some_of (by rw[<-l];exact r f)
 exact get_map I.B7 O (c.get f) c.hd n hu (JL ru) (h u _ (I.tok _) ru)
theorem FX{y:V}{Q:Unit->aS->Prop}(I:Inv X pins σ H s)(e:H a=some (.ins C dx fs))(c:DW X.K C)(n:kf X.K C f)(hl:fs.length<1000)(ry:RelV y u)
  (h:∀s',Inv X pins σ (upd H a (.ins C dx (qU f y fs))) s'->Q () s'):wpAny (model X.prog X.w) A (setAttr (.ref a) f u) Q E s:=by
 obtain⟨mA,O,r,wi,_,ho⟩:=Ig I.hok e;have hz:(fs.map (·.1)).length<=sizeLine:=by rw[ae,dN];omega
 refine O_ I.B7 O c.sa c.po n.taker c.hd wi hz λh' O' sb=>h _ ?_
 have hd:∃o,h'.get? dx=some o:=let#[o,_,_,e',_]:=O'.ns;#[o,e'];refine I.write (by rw[e];exact f9) (.inr ho) (λb q hb z=>(sb.2 b hb).trans z) hd ?_
 refine#[by rw[aL O.ne];exact ho,?_,O.ne,O'.obj,_,O'.ns,λg=>?_,λg hg=>?_]
 ·have:=wZ f y fs;omega
 ·show ui ((qU f y fs).lookup g) (if g=f then some u else mA g)
  rw[wY];by_cases q:g=f
  ·rwa[qQ3 q,qQ3 q]
  ·rw[qQ2 q,qQ2 q];exact r g
 ·by_cases q:g=f
  ·rw[q];exact(v9 f y fs).1
  ·refine(v9 f y fs).2 g (wi g λz=>hg ?_)
   show(if g=f then some u else mA g)=none
   rwa[qQ2 q]
theorem Inv.made(I:Inv X pins σ H s):Inv X pins σ (upd (upd H s.heap.objs.size (.own (s.heap.objs.size+1))) (s.heap.objs.size+1) (.ins C s.heap.objs.size []))
  { s with heap:=(s.heap.push gw).push (g_ C s.heap.objs.size) }:=by
 have e1:(s.heap.push gw).get? s.heap.objs.size=some gw:=bE s.heap rfl
 have e2:((s.heap.push gw).push (g_ C s.heap.objs.size)).get? (s.heap.objs.size+1)=some (g_ C s.heap.objs.size):=by
  have:=bE (s.heap.push gw) (o:=g_ C s.heap.objs.size) rfl
  rwa [g8]at this
 have I1:=I.laid (a:=s.heap.objs.size) (o:=.own (s.heap.objs.size+1)) (h':=s.heap.push gw) (t':=s.toks) (λb u q=>aI _ q) (aT _) #[_,e1]
 refine I1.laid (a:=s.heap.objs.size+1) (o:=.ins C s.heap.objs.size []) (t':=s.toks) (λb u q=>aI _ q) (Nat.le_of_eq (g8 _ _)) ?_
 have ne:s.heap.objs.size≠s.heap.objs.size+1:=a9 (yC _);refine#[by rw[aL ne,aZ],bj _,ne,e2,λ_=>none,(cX.Ns1.of_empty (#[gw,#[],_,e1,rfl,(λe he=>qQ7 he (by simp)),λ_=>rfl])).at λo q=>aI _ q,λ_=>f9,λy hy=>qQ7 rfl hy]
theorem Pa{prog:bA}{env:Env}{f:Str}{pos:Pos}(hb:attributeBase e f env (eval e env)=eval e env)
  (h:wpAny (model prog w) A (eval e env) (λo s₁=>wpAny (model prog w) A (getAttr o f true) Q E s₁) E s):wpAny (model prog w) A (eval (.Attribute e f pos) env) Q E s:=
 Attribute_any_ h (by rw[arm_eval_Attribute,hb])
end
def za5(K:aq)(ta:TE)(f:Str):TE:=λσ H Q=>ta σ H λx H1=>∃a C dx fs v,x=.ref a/\H1 a=some (.ins C dx fs)/\DW K C/\kf K C f/\fs.lookup f=some v/\Q v H1
def za6(K:aq)(ta tv:TE)(f:Str):TS:=λD σ H=>tv σ H λy H1=>ta σ H1 λx H2=>∃a C dx fs,x=.ref a/\H2 a=some (.ins C dx fs)/\DW K C/\kf K C f/\fs.length<1000/\
 D.nx σ (upd H2 a (.ins C dx (qU f y fs)))
section
variable{X:Cx}{o e value:bK}{f:Str}{pos pos' za7:Pos}{ta tv:TE}
theorem yJ(he:PE X e ta)(hb:yc X e f):PE X (.Attribute e f pos) (za5 X.K ta f):=by
 intro pins s σ H Q I h;refine Pa hb (gN (he pins s σ H _ I h) λu s1 #[x,H1,I1,rx,a,C,dx,fs,v,ex,ea,c,n,l,q]=>?_)
 subst ex;obtain rfl:u=d_ a:=rx;exact FW I1 ea c n l λu' s2 I2 ru=>#[v,H1,I2,ru,q]
theorem uo(ha:PE X o ta)(hv:PE X value tv)(hs:A1 X pos value (.Attribute o f pos')):PS X (.Assign [.Attribute o f pos'] value pos) (za6 X.K ta tv f):=by
 intro pins s σ H D I h;refine plainObj_wpAny_Assign_Attribute (gN (hv pins s σ H _ I h) λu s1 #[y,H1,I1,ry,q]=>gN (ha pins s1 σ H1 _ I1 q) λov s2 #[x,H2,I2,rx,a,C,dx,fs,ex,ea,c,n,l,q2]=>?_) hs
 subst ex;obtain rfl:ov=d_ a:=rx;exact FX I2 ea c n l ry λs3 I3=>#[σ,_,I3,q2]
end
section
variable{X:Cx}{pins:List (aH×Obj)}{σ:St}{H:Hp}{s:aS}{A:dO}{E:aF->aS->Prop}{Q:aF->aS->Prop}{c:aF}{b:Bool}
inductive yK(K:aq)(H:Hp):V->aF->Prop where
 |non:yK K H .non (.type "NoneType")
 |bl (x:Bool):yK K H (.bl x) (.type "bool")
 |int (i:Int):yK K H (.int i) (.type "int")
 |str (x:Str):yK K H (.str x) (.type "str")
 |flt (x:UInt64):yK K H (.flt x) (.type "float")
 |lst {a:aH} {xs:List V} (e:H a=some (.lst xs)):yK K H (.ref a) (.type "list")
 |p_ {a:aH} {o:Obj} {xs:List V} (e:H a=some (.p_ o (.lst xs))):yK K H (.ref a) (.type "list")
 |tup {a:aH} {xs:List V} (e:H a=some (.tup xs)):yK K H (.ref a) (.type "tuple")
 |dK {a:aH} {kvs:List (Key×V)} (e:H a=some (.dK kvs)):yK K H (.ref a) (.type "dict")
 |dT {a:aH} {kvs:List (List Key×V)} (e:H a=some (.dT kvs)):yK K H (.ref a) (.type "dict")
 |ins {a C dx:aH} {fs:List (Str×V)} (e:H a=some (.ins C dx fs)) (cl:DW K C) (ha:dB K (.ref C) "__class__"=some (some (.builtin "object.__class__")))
   (hn:PySem.W.specialIn K (.builtin "object.__class__") "__get__"=some (some (.builtin "getset_descriptor.__get__"))) (V':PySem.W.takesIn K (.builtin "object.__class__")=some true)
   (hm:PySem.W.mroIn K C (.type "object")=some true):yK K H (.ref a) (.ref C)
end
structure eB(k:Nat)(A:dO):Prop where
 hd:A.handled=none
 dp:A.depth+3*k+5<recursionLimit
 un:A.units+16*k+200<cLine
theorem eB.mono{j: Nat}(r:eB k A)(h:j<=k):eB j A:=#[r.hd,by have:=r.dp;omega,by have:=r.un;omega]
theorem eB.deeper(r:eB (k+1) A)(env:Env):eB k (A.deeper env):=
 #[r.hd,by have:=r.dp;show A.depth+1+3*k+5<_;omega,by have:=r.un;show A.units+3+16*k+200<_;omega]
theorem FY:(A.under (.builtin "type.__call__" #[.ref C::us,kw])).depth=A.depth+1:=by
 first|rfl|simp[DC,Code.weight,Code.isCreation,Code.isGuard,Code.isCaller,Code.frames,Fs,guardIds]
theorem FZ:(A.under (.builtin "type.__call__" #[.ref C::us,kw])).units=A.units+1:=by
 first|rfl|simp[DC,Code.cUnits,Code.frames,Fs]
theorem eB.make(r:eB (k+1) A)(C:aH)(us:List aF)(kw:List (Str×aF)):eB k (A.under (.builtin "type.__call__" #[.ref C::us,kw])):=
 #[r.hd,by have:=r.dp;rw[FY];omega,by have:=r.un;rw[FZ];omega]
theorem eB.depth(r:eB k A):A.depth<recursionLimit:=by have:=r.dp;omega
def Xl:TA:=λ_ H Q=>Q [] H
def Xm(ta:TE)(tr:TA):TA:=λσ H Q=>ta σ H λx H1=>tr σ H1 λxs H2=>Q (x::xs) H2
section
variable{X:Cx}{e:bK}{es:List bK}{te:TE}{t:TA}{pos:Pos}
theorem eG:PA X [] Xl:=λ_ _ _ _ H Q I h=>vW #[[],H,I,.nil,h]
theorem cN(ha:PE X e te)(hr:PA X es t)(hs:kZ X e es:=by rfl):PA X (e::es) (Xm te t):=by
 intro pos pins s σ H Q I h;rw[hs];exact kU (gN (ha pins s σ H _ I h) λu s1 #[x,H1,I1,r1,q1]=>(gN (hr pos pins s1 σ H1 _ I1 q1) λus s2 #[xs,H2,I2,r2,q2]=>#[x::xs,H2,I2,.cons r1 r2,q2]))
def za8(t:TA):TE:=λσ H Q=>t σ H λxs H1=>xs.length<=sizeLine/\∀p,H1 p=none->Q (.ref p) (upd H1 p (.tup xs))
def za9(t:TA):TE:=λσ H Q=>t σ H λxs H1=>xs.length<=sizeLine/\∀p,H1 p=none->Q (.ref p) (upd H1 p (.lst xs))
theorem uq{x1}(h:PA X es t):PE X (.Tuple es x1 pos) (za8 t):=by
 intro pins s σ H Q I hq;refine wpAny_Tuple_spliced (gN (h pos pins s σ H _ I hq) λus s1 #[xs,H1,I1,r,z,q]=>#[by rw[<-r.length];exact z,?_])
 refine#[.ref s1.heap.objs.size,upd H1 s1.heap.objs.size (.tup xs),I1.laid (t':=s1.toks) (λb u e=>aI _ e) (aT _) ?_,rfl,q _ (I1.hok.fresh (aT _))]
 exact#[z,us,r,#[_,bE _ rfl,rfl,_,rfl]]
theorem wa(h:PA X es t):PE X (.List es pos) (za9 t):=by
 intro pins s σ H Q I hq;refine wpAny_List_spliced (gN (h pos pins s σ H _ I hq) λus s1 #[xs,H1,I1,r,z,q]=>#[by rw[<-r.length];exact z,?_])
 refine#[.ref s1.heap.objs.size,upd H1 s1.heap.objs.size (.lst xs),I1.laid (t':=s1.toks) (λb u e=>aI _ e) (aT _) ?_,rfl,q _ (I1.hok.fresh (aT _))]
 exact#[z,us,0,r,bE _ rfl]
end
abbrev Sp:=List V->Hp->VK->XK->Prop
abbrev K_:=List Env->Hp->aS->XK->aF->aS->Prop
variable{CX:K_}
structure F0(P:bA)(w:cn)(K:aq)(mg:Str->Option aF)(base:cX)(A:dO)(outer:List Env)(s:aS)(H:Hp):Prop where
 frames:A.frames=some outer
 mod:Mod K mg base
 bs:∀b o,base.get? b=some o->s.heap.get? b=some o/\H b=none
 RH:base.objs.size<=s.heap.objs.size
 xQ:s.heap.FunFrames base outer
 TB:∀b∈K8 outer,H b=none
 hok:uj P w H s.heap
 bare:ud s.gens
def CE(outer:List Env)(P:bA)(w:cn)(H:Hp)(s:aS)(Q:VK)(u:aF)(s':aS):Prop:=
 ∃v H',s'.os=s.os/\ud s'.gens/\Un (K8 outer) [] H H' s.heap s'.heap/\uj P w H' s'.heap/\RelV v u/\Q v H'
def CR(CX:K_)(outer:List Env)(P:bA)(w:cn)(H:Hp)(s:aS)(Q:VK)(E:XK)(r:vV)(s':aS):Prop:=
 match r with
 | .ok (.ret u)=>CE outer P w H s Q u s'
 | .ok _=>False
 | .error e=>CX outer H s E e s'
structure eW(P:bA)(w:cn)(K:aq)(mg:Str->Option aF)(base:cX)(CX:K_)(k:Nat)(f:aH)(fd:eM)(ps:List Str)(sp:Sp):Prop where
 len:∀vs H Q E,sp vs H Q E->vs.length=ps.length
 run:∀(A:dO)(outer:List Env)(s:aS)(H:Hp)(args:Args)(us:List aF)(vs:List V)(Q:VK)(E:XK),eB k A->F0 P w K mg base A outer s H->BindsTo s fd args (ps.zip us)->dU vs us->sp vs H Q E->
  codeAny (model P w) A (.call (.ref f) args) (CR CX outer P w H s Q E) s
theorem eW.imp{f:aH}{sp sp':Sp}(F:eW P w K mg base CX k f fd ps sp)
  (h:∀vs H Q E,sp' vs H Q E->sp vs H Q E):eW P w K mg base CX k f fd ps sp':=
 #[λvs H Q E q=>F.len vs H Q E (h _ _ _ _ q),λA outer s H args us vs Q E hr he hb hv hs=>F.run A outer s H args us vs Q E hr he hb hv (h _ _ _ _ hs)]
theorem F0.make(e:F0 P w K mg base A outer s H)(C:aH)(us:List aF)(kw:List (Str×aF)):
  F0 P w K mg base (A.under (.builtin "type.__call__" #[.ref C::us,kw])) outer s H:=#[by first|exact e.frames|(simpa[DC,Code.envs,Fs,pushEnvs]using e.frames),e.mod,e.bs,e.RH,e.xQ,e.TB,e.hok,e.bare]
section
variable{X:Cx}{pins:List (aH×Obj)}{σ:St}{H:Hp}{s s':aS}
theorem Inv.env0(I:Inv X pins σ H s):F0 X.prog X.w X.K X.mg X.base X.A X.stack s H:=
 #[I.ok.frames,I.ok.mod,I.bs,bU I.ok.RH I.sz,I.stack,I.HZ,I.hok,I.bare]
theorem Inv.after{Q:VK}(I:Inv X pins σ H s)(h:CE X.stack X.prog X.w H s Q u s'):EP X pins σ Q u s':=by
 obtain⟨v,H',os,bare,un,hok,r,q⟩:=h;obtain⟨hh,g,d,t,Wb⟩:=s';obtain rfl:Wb=s.os:=os;exact#[v,H',I.call un hok bare (λb z=>qQ7 z (by simp)),r,q]
end
def Xn(sp:Sp)(JM:List V)(E:XK)(t:TA):TE:=λσ H Q=>t σ H λvs H1=>sp (vs++JM) H1 Q E
def Xo(C:aH)(sp:Sp)(JM:List V)(E:XK)(t:TA):TE:=λσ H Q=>t σ H λvs H1=>∀x dx,H1 x=none->H1 dx=none->dx≠x->
 sp (.ref x::(vs++JM)) (upd (upd H1 dx (.own x)) x (.ins C dx [])) (λv H2=>v=.non/\Q (.ref x) H2) E
def Binds(K:aq)(fd:eM)(ps:List Str)(ds:List aF):Prop:=
 ∀(s:aS)(us:List aF),K.In s.heap->(us++ds).length=ps.length->BindsTo s fd #[us,[]] (ps.zip (us++ds))
theorem Binds.all(h:∀us:List aF,us.length=ps.length->bindArgs fd #[us,[]]=pure (ps.zip us)):Binds K fd ps []:=λs us _ hl=>by
 rw[b9]at hl ⊢;exact .of_eq (h us hl)
def yL(CX:K_)(X:Cx)(E:XK):Prop:=∀(pins:List (aH×Obj))(σ:St)(H:Hp)(s:aS)(e:aF)(s':aS),Inv X pins σ H s->CX X.stack H s E e s'->X.xe e s'
section
variable{X:Cx}{CX:K_}{k:Nat}{f C:aH}{fd:eM}{ps:List Str}{sp:Sp}{JM:List V}{ds:List aF}{E:XK}{x m:Str}{p pos apos:Pos}{e o:bK}{es:List bK}{ta:TE}{t:TA}
theorem T9{Q:VK}(F:eW X.prog X.w X.K X.mg X.base CX k f fd ps sp)(hr:eB k X.A)(hb:Binds X.K fd ps ds)(hd:dU JM ds)(hx:yL CX X E)
  (I:Inv X pins σ H s)(r:dU vs us)(h:sp (vs++JM) H Q E):wpAny (model X.prog X.w) X.A (call (.ref f) us) (EP X pins σ Q) X.xe s:=by
 have r2:=r.append hd;have hl:(us++ds).length=ps.length:=by rw[<-r2.length];exact F.len _ _ _ _ h
 refine wpAny_call (pj (F.run X.A X.stack s H #[us,[]] _ _ Q E hr I.env0 (hb s us I.B7 hl) r2 h) λr s' hq=>?_)
 cases r with
 |error e=>exact hx pins σ H s e s' I hq
 |ok fl=>
  cases fl with
  |ret u=>exact I.after hq
  |next=>exact gY hq
  |brk=>exact gY hq
  |cont=>exact gY hq
theorem sH(F:eW X.prog X.w X.K X.mg X.base CX k f fd ps sp)(hr:eB k X.A)(hg:Gl X x)(hm:X.mg x=some (.ref f))(hk:iH X.K (.ref f)=true)(hb:Binds X.K fd ps ds)(hd:dU JM ds)(hx:yL CX X E)
  (ha:PA X (e::es) t)(u9:xP x:=by decide)(he:kZ X e es:=by rfl)(mD:tF X pos es:=by rfl):
  PE X (.Call (.Name x p) (e::es) [] pos) (Xn sp JM E t):=by
 intro pins s σ H Q I h;refine p9 (B9 I hg hm ?_ u9)
 exact PySem.W.callWith_K (h₀:=X.base) I.ok.mod.WW hk (gN (ha pos pins s σ H _ I h) λus s1 #[vs,H1,I1,r,q]=>#[I1.B7,(T9 F hr hb hd hx I1 r q)]) he mD
structure Mk(K:aq)(C f:aH):Prop where
 makes:xI K C=true
 init:dB K (.ref C) "__init__"=some (some (.ref f))
 fn:PySem.W.isFn K (.ref f)=true
 kp:iH K (.ref C)=true
theorem LK{Q:VK}(M:Mk X.K C f)(F:eW X.prog X.w X.K X.mg X.base CX k f fd ps sp)(hr:eB (k+1) X.A)(hb:Binds X.K fd ps ds)(hd:dU JM ds)
  (hx:yL CX X E)(I:Inv X pins σ H s)(r:dU vs us)
  (h:∀x dx,H x=none->H dx=none->dx≠x->sp (.ref x::(vs++JM)) (upd (upd H dx (.own x)) x (.ins C dx [])) (λv H2=>v=.non/\Q (.ref x) H2) E):
  wpAny (model X.prog X.w) X.A (call (.ref C) us) (EP X pins σ Q) X.xe s:=by
 have hq:=h (s.heap.objs.size+1) s.heap.objs.size (I.hok.fresh ∅) (I.hok.fresh ∅) (a9 ∅);have I2:=Inv.made (C:=C) I;have r2:dU (V.ref (s.heap.objs.size+1)::(vs++JM)) (d_ (s.heap.objs.size+1)::(us++ds)):=.cons rfl (r.append hd);have hl:(d_ (s.heap.objs.size+1)::us++ds).length=ps.length:=by
  have e:=r2.length;rw[F.len _ _ _ _ hq]at e;exact e.symm
 refine wpAny_call (LJ I.B7 M.makes M.init (beq_iff_eq.mp M.fn) (pj (F.run _ X.stack _ _ #[_,[]] (d_ (s.heap.objs.size+1)::(us++ds)) _ _ E (hr.make C us [])
  (I2.env0.make C us []) (hb _ (d_ _::us) I2.B7 hl) r2 hq) λr s' F1=>?_))
 cases r with
 |error e=>exact hx pins σ _ _ e s' I2 F1
 |ok fl=>
  cases fl with
  |ret u=>
   obtain⟨v,H',I3,rv,ev,q3⟩:=I2.after F1;subst ev;exact#[rv,#[V.ref _,H',I3,rfl,q3]]
  |next=>exact gY F1
  |brk=>exact gY F1
  |cont=>exact gY F1
theorem LN(M:Mk X.K C f)(F:eW X.prog X.w X.K X.mg X.base CX k f fd ps sp)(hr:eB (k+1) X.A)(hg:Gl X x)(hm:X.mg x=some (.ref C))(hb:Binds X.K fd ps ds)(hd:dU JM ds)(hx:yL CX X E)
  (u9:xP x:=by decide):PE X (.Call (.Name x p) [] [] pos) (Xo C sp JM E Xl):=by
 intro pins s σ H Q I h;refine p9 (B9 I hg hm ?_ u9)
 exact PySem.W.callWith_K0 I.B7 M.kp (LK M F hr hb hd hx I .nil h)
end
section
variable{X:Cx}{CX:K_}{k:Nat}{f C:aH}{fd:eM}{ps ks:List Str}{sp:Sp}{E:XK}{x m:Str}{p pos apos zgE:Pos}{e o:bK}{es:List bK}{kws:List Keyword}{te ta:TE}{t tk:TA}{nm:Option Str}
variable{g:List aF->List aF->List aF}{gV:List V->List V->List V}
end
structure cw(N P:List Str)(sc:kH):Prop where
 kind:sc.kind=.function
 co:sc.isCoroutine=false
 gen:sc.isGenerator=false
 nd:N.Nodup
 pre:N.take P.length=P
 par:∀x∈P,sc.names.lookup x=some .local\/sc.names.lookup x=some .cell
 T_:∀y∈sc.names,y.2≠.free
theorem A7{x:Str}:∀{binds:List (Str×aF)}{m:Str->Option aF},(∀v,(x,v)∉binds)->bindL kindOf binds m x=m x
 | [],_,_=>rfl
 |(n,v)::r,m,h=>by
  unfold bindL;rw[A7 λw hw=>h w (aN _ hw)]
  split
  ·have:x≠n:=by rintro rfl;exact h v aM
   simp[this]
  ·rfl
theorem A8{x:Str}:∀{binds:List (Str×aF)}{m:Str->Option aF},(∀v,(x,v)∉binds)->bindC kindOf binds m x=m x
 | [],_,_=>rfl
 |(n,v)::r,m,h=>by
  unfold bindC;rw[A8 λw hw=>h w (aN _ hw)]
  split
  ·rfl
  ·have:x≠n:=by rintro rfl;exact h v aM
   simp[this]
theorem A9{kindOf:Str->Option nY}{x:Str}{v:aF}:∀{P:List Str}{vs:List aF}{i:Nat}{m:Str->Option aF},P.Nodup->P[i]?=some x->vs[i]?=some v->kindOf x=some .local->
  bindL kindOf (P.zip vs) m x=some v
 | [],_,_,_,_,h,_,_=>by simp at h
 |_::_,[],_,_,_,_,h,_=>by simp at h
 |p::P,w::vs,0,m,nd,h1,h2,hk=>by
  simp at h1 h2;subst h1;subst h2;show bindL kindOf ((p,w)::P.zip vs) m p=_;unfold bindL;rw[A7 λv hv=>(cj.mp nd).1 (nA hv).1,qQ3 hk]
  simp
 |p::P,w::vs,i+1,m,nd,h1,h2,hk=>by
  unfold bindL;exact A9 (cj.mp nd).2 ↑h1 ↑h2 hk
theorem A_{kindOf:Str->Option nY}{x:Str}{v:aF}:∀{P:List Str}{vs:List aF}{i:Nat}{m:Str->Option aF},P.Nodup->P[i]?=some x->vs[i]?=some v->kindOf x≠some .local->
  bindC kindOf (P.zip vs) m x=some v
 | [],_,_,_,_,h,_,_=>by simp at h
 |_::_,[],_,_,_,_,h,_=>by simp at h
 |p::P,w::vs,0,m,nd,h1,h2,hk=>by
  simp at h1 h2;subst h1;subst h2;show bindC kindOf ((p,w)::P.zip vs) m p=_;unfold bindC;rw[A8 λv hv=>(cj.mp nd).1 (nA hv).1,qQ2 hk]
  simp
 |p::P,w::vs,i+1,m,nd,h1,h2,hk=>by
  unfold bindC;exact A_ (cj.mp nd).2 ↑h1 ↑h2 hk
def start(N:List Str)(vs:List V):St:=vs.map some++bw (N.length-vs.length) none
def F2(CX:K_)(P:bA)(w:cn)(K:aq)(mg:Str->Option aF)(base:cX)(N:List Str)(qual:Str)(scope:kH)(f:aH)(cd:aF)(A:dO)(outer:List Env)(s:aS)(H:Hp)(E:XK):Cx where
 prog:=P
 w:=w
 K:=K
 mg:=mg
 base:=base
 A:=A.deeper (envOfC qual scope s.heap.objs.size f cd)
 N:=N
 s₀:=s
 H₀:=H
 env:=envOfC qual scope s.heap.objs.size f cd
 outer:=outer
 stack:=envOfC qual scope s.heap.objs.size f cd::outer
 ex:=[]
 calm:=true
 fn:=λ_=>true
 pn:=[]
 xe:=λe s'=>wpAny (model P w) (A.deeper (envOfC qual scope s.heap.objs.size f cd)) (leaving (envOfC qual scope s.heap.objs.size f cd) e) (λ_ RT=>CX outer H s E e RT) (λe' RT=>CX outer H s E e' RT) s'
theorem DX{sc:kH}{n:Nat}{x:Str}(h:sc.names.lookup x=some .cell):∃c,(cellsFrom n sc.names []).lookup x=some c:=by
 exact Option.isSome_iff_exists.mp (BV sc.names n [] (.inl h))
theorem JN{qual:Str}{f:aH}{cd:aF}{s1: aS}{E:XK}
  (S:cw N ps scope)(hd:A.handled=none)(e0:F0 P w K mg base A outer s H)(hl:vs.length=ps.length)(r:dU vs us)
  (x:InCallC s s.heap.objs.size (bindL (envOfC qual scope s.heap.objs.size f cd).kindOf (ps.zip us) λ_=>none) (cellsFrom (s.heap.objs.size+1) scope.names []) (bindC (envOfC qual scope s.heap.objs.size f cd).kindOf (ps.zip us) λ_=>none) s1):
  Inv (F2 CX P w K mg base N qual scope f cd A outer s H E) [] (start N vs) H s1:=by
 have mD:ps.length<=N.length:=by have:=qQ6 ft S.pre;rw[bh]at this;omega
 obtain⟨h1,tk,rfl,hk⟩:=x.done;have Xp:∀b:aH,b∉(F2 CX P w K mg base N qual scope f cd A outer s H E).ex:=λb z=>qQ7 (show b∈([])from z) (by simp)
 refine#[#[e0.mod,S.kind,rfl,rfl,aT _,λy z c h1 h2=>?_,λy hy=>?_,λy c _ h=>?_,λ_=>hd,dO.frames_deeper e0.frames,.inr #[rfl,rfl],λb z=>qQ7 z (Xp b),e0.bs,e0.RH,λb _ _=>Xp b,λb z=>qQ7 z (Xp b),e0.xQ,e0.TB],
  rfl,e0.bare,Un.kept hk,#[_,x.toInCall.ns,λi y v h1 h2 h3=>?_],λy c h=>#[_,x.cell y c h],e0.hok.fresh (aT _),λy c h=>?_,λp hp=>qQ7 (show p∈([])from hp) (by simp),e0.hok.kept hk,?_]
 ·exact name_of_addr x.apart (iN h1) (iN h2)
 ·have hy:=hy
  rcases hy with hy|hy
  ·exact DX hy
  ·exact qQ7 rfl (S.T_ _ (iN hy))
 ·exact xG (x.above y c (iN h))
 ·have hi:i<vs.length:=by
   unfold start at h2;by_cases hi:i<vs.length
   ·exact hi
   ·rw[bO ↑hi]at h2
    rw[ei]at h2
    split at h2<;>cases h2
  have ha:vs[i]?=some v:=by
   unfold start at h2;rw[bX ↑hi,ay]at h2
   cases e:vs[i]? with
   |none=>rw[e]at h2;cases h2
   |some a=>rw[e]at h2;cases h2;rfl
  obtain⟨u,hu,rv⟩:=r.get ha;have hp:ps[i]?=some y:=by
   rwa[<-S.pre,kO ∅]
  have ndP:ps.Nodup:=by rw[<-S.pre];exact S.nd.sublist (List.take_sublist _ _)
  refine#[u,rv,?_]
  rcases S.par y (aK hp)with k|k
  ·exact .inl #[k,A9 ndP hp hu k]
  ·obtain⟨c,e⟩:=DX k
   refine .inr #[.inl k,c,e,?_]
   have q:=x.cell y c e;rwa[A_ ndP hp hu (by show scope.names.lookup y≠_;rw[k];decide)]at q
 ·exact e0.hok.fresh (xG (x.above y c (iN h)))
 ·unfold start
  show _=N.length;rw[aV,ae,dH];omega
theorem Xq{f:aH}{name qual:Str}{params:Arguments}{dV kV doc pm g6 ct oc:aF}{an od:Option aH}
  {LQ:Array (Option aF)}{sp:Sp}(lk:K.lookup f=some #[oc,od,.func (iX name qual params body scope dV kV doc pm an g6 ct),LQ])(O1:nI K g6 qual=true)(S:cw N ps scope)
  (len:∀vs H Q E,sp vs H Q E->vs.length=ps.length)
  (LV:∀(A:dO)(outer:List Env)(s:aS)(H:Hp)(vs:List V)(Q:VK)(E:XK),eB k (A.deeper (envOfC qual scope s.heap.objs.size f g6))->sp vs H Q E->
   ∃t,Ia (F2 CX P w K mg base N qual scope f g6 A outer s H E) body t/\t { nx:=λ_ H'=>Q .non H',rt:=Q } (start N vs) H) :
  eW P w K mg base CX (k+1) f (iX name qual params body scope dV kV doc pm an g6 ct) ps sp:=by
 refine#[len,λA outer s H args us vs Q E hr e0 hb r Ce=>?_]
 have hl:=len _ _ _ _ Ce;have KX:=e0.mod.WW.keeps λb o e=>(e0.bs b o e).1
 have DY:∀y∈ps.zip us,scope.names.lookup y.1=some .local\/(scope.names.lookup y.1=some .cell/\((cellsFrom (s.heap.objs.size+1) scope.names []).lookup y.1).isSome=true):=λ#[n,v] hy=>by
  rcases S.par n (nA hy).1 with q|q
  ·exact .inl q
  ·exact .inr #[q,BV _ _ _ (.inl q)]
 refine codeAny_call_function hr.depth (KX _ _ lk) rfl S.co S.gen rfl (PySem.W.codeRec_of KX O1) (hb _ _ _ _ ?_)
 refine wpAny_newFunctionEnv_cells S.kind DY λenv he s1 x=>?_
 subst he;refine#[(e0.mod.nolimit.keeps λb o e=>(e0.bs b o e).1).keeps x.toInCall.keep,codeAny_func ?_]
 obtain⟨t,ht,hq⟩:=LV A outer s H vs Q E (hr.deeper _) Ce;refine il (ht [] s1 (start N vs) H _ (JN S hr.hd e0 hl r x) hq) (λfl s' hs=>?_) λe s' hs=>hs
 have fin:∀{σ':St}{H':Hp}{v:V}{u:aF},Inv (F2 CX P w K mg base N qual scope f g6 A outer s H E) [] σ' H' s'->RelV v u->Q v H'->CE outer P w H s Q u s':=
  λ{σ' H' v u}J rv q=>#[v,H',J.os,J.bare,J.base,J.hok,rv,q]
 cases fl with
 |ret u=>
  obtain⟨v,σ',H',J,rv,q⟩:=hs;exact fin J rv q
 |next=>
  obtain⟨σ',H',J,q⟩:=hs;exact fin (v:=V.non) J rfl q
 |brk=>
  obtain⟨_,_,_,q⟩:=hs;exact gY q
 |cont=>
  obtain⟨_,_,_,q⟩:=hs;exact gY q
section
variable{X:Cx}{x:Str}{p pos:Pos}{e:bK}{es:List bK}{t:TA}{id T:String}{r:List V->Hp->VK->Prop}
def tCB(r:List V->Hp->VK->Prop)(t:TA):TE:=λσ H Q=>t σ H λvs H1=>r vs H1 Q
theorem yM(hc:jK X (.builtin id) r)(hg:Gl X x)(hm:X.mg x=none)(hv:bootBuiltins x=some (.builtin id))(ha:PA X (e::es) t)(hn:x≠"__name__":=by decide)(u9:xP x:=by decide)
  (he:kZ X e es:=by rfl)(mD:tF X pos es:=by rfl):PE X (.Call (.Name x p) (e::es) [] pos) (tCB r t):=by
 intro pins s σ H Q I h;exact p9 (v7 I hg hm hv (PyProof.Rows.callWith_builtin1 (gN (ha pos pins s σ H _ I h) λus s1 #[vs,H1,I1,r1,q1]=>hc pins s1 σ H1 vs us Q I1 r1 q1) he mD) hn u9)
theorem nE(hc:jK X (.type T) r)(hg:Gl X x)(hm:X.mg x=none)(hv:bootBuiltins x=some (.type T))(ha:PA X (e::es) t)(hn:x≠"__name__":=by decide)(u9:xP x:=by decide)
  (he:kZ X e es:=by rfl)(mD:tF X pos es:=by rfl):PE X (.Call (.Name x p) (e::es) [] pos) (tCB r t):=by
 intro pins s σ H Q I h;exact p9 (v7 I hg hm hv (iW (gN (ha pos pins s σ H _ I h) λus s1 #[vs,H1,I1,r1,q1]=>hc pins s1 σ H1 vs us Q I1 r1 q1) he mD) hn u9)
end
end L2
namespace HT
open PySem PyProof.Rows
variable{Q:aF->aS->Prop}
section
open PySem.SeqAt
open PySem.AutoSeq1 (wpAny_loadPart')
open PySem.MeetsSeq PySem.MeetsSeq2 PySem.MeetsSeq3
end
section
variable{prog:bA}{w:cn}{A:dO}{E:aF->aS->Prop}{s:aS}
theorem Pb{t b:aH}{vs ws:List aF}(ht:IsTup s.heap t vs.toArray)(hb:IsTup s.heap b ws.toArray)(hv:vs≠[])
  (h1:ws=[]->Q (.ref t) s)(h2:ws≠[]->Q (.ref s.heap.objs.size) { s with heap:=s.heap.push { cls:=.type "tuple",data:=.seq (vs++ws).toArray } })
  (hsz:vs.length+ws.length<=sizeLine):wpAny (model prog w) A (binaryOp .Add (.ref t) (.ref b)) Q E s:=by
 obtain⟨⟨cls,dd,data,sl⟩,ho,hc,n,hd⟩:=id ht;obtain⟨⟨zba,ZZ,data2,Z0⟩,RV,RW,n2,hd2⟩:=id hb;subst hc hd RW hd2;have e:vs.toArray++ws.toArray=(vs++ws).toArray:=by simp
 by_cases hw:ws=[]
 ·exact concat_meets #[_,ho,rfl] #[_,RV,rfl] noFill_tuple_add seq_tuple_add BW AV (An _ _)
   (tuple_addW1 t b vs.toArray ws.toArray n n2 dd ZZ sl Z0 ↑hv (by simp[hw])) #[ho,RV,h1 hw]
 ·refine concat_meets #[_,ho,rfl] #[_,RV,rfl] noFill_tuple_add seq_tuple_add BW AV (An _ _)
   (tuple_addW2 t b vs.toArray ws.toArray n n2 dd ZZ sl Z0 ↑hv ↑hw (by rw[bH,bH];exact hsz)) #[ho,RV,?_]
  rw[e];exact h2 hw
def n_(n d:Nat):Option Int->Nat
 |none=>d
 |some v=>if v<0 then(v+(n:Int)).toNat else min v.toNat n
theorem DZ(n d:Nat):n_ n d none=d:=rfl
theorem qd(n d k:Nat):n_ n d (some (k:Int))=min k n:=by
 show(if(k:Int)<0 then(k+(n:Int)).toNat else min (k:Int).toNat n)=min k n
 rw[qQ2 ∅,fy]
theorem zbb(n d:Nat)(hd:d<=n)(o:Option Int):n_ n d o<=n:=by
 cases o with
 |none=>exact hd
 |some v=>
  show(if v<0 then(v+n).toNat else min v.toNat n)<=n
  by_cases hv:v<0
  ·rw[qQ3 hv];omega
  ·rw[qQ2 hv];exact Nat.min_le_right _ _
theorem Ih(v:Int)(n d:Nat):(if v<0 then max (v+(n:Int)) 0 else min v (n:Int))=((n_ n d (some v):Nat):Int):=by
 show(if v<0 then max _ 0 else min v n)=(((if v<0 then(v+n).toNat else min v.toNat n):Nat):Int)
 by_cases hv:v<0
 ·simp only[qQ3 hv];omega
 ·simp only[qQ2 hv];omega
theorem F3(lo hi:Option Int)(n:Nat):mO lo hi 1 (n:Int)=(((n_ n 0 lo:Nat):Int),((n_ n n hi:Nat):Int)):=by
 have h1:¬(1<0):=∅
 unfold mO;refine Prod.ext ?_ ?_
 ·cases lo with
  |none=>rfl
  |some v=>exact Ih v n 0
 ·cases hi with
  |none=>rfl
  |some v=>exact Ih v n n
theorem F4(i j:Nat):jA (i:Int) (j:Int) 1=j-i:=by
 unfold jA;have h1:1>0:=∅
 split<;>omega
theorem yN{v:aF}{o:Option Int}{Q:Option Int->aS->Prop}(p:BX v o)(h:Q o s):wpAny (model prog w) A (wX.Slice.slicePartIndex v) Q E s:=by
 cases p with
 |none=>exact slicePart_none h
 |int i t=>exact slicePart_int h
theorem wc{sl:aH}{vl vu:aF}{lo hi:Option Int}{n:Nat}{Q:Int×Int×Nat->aS->Prop}(hs:s.heap.IsSliceOf sl vl vu .none)(pl:BX vl lo)(pu:BX vu hi)
  (h:Q (((n_ n 0 lo:Nat):Int),1,n_ n n hi-n_ n 0 lo) s):wpAny (model prog w) A (wX.Slice.sliceApplied (.ref sl) (pure (n:Int))) Q E s:=by
 obtain⟨os,Xr,Pg,Ua⟩:=id hs;refine aD (aD (fN Xr Ua rfl (aD (fN Xr Ua rfl (aD (fN Xr Ua rfl (bx ?_)))))))
 refine aD (slicePart_none ?_)
 refine aD (yN pl (aD (yN pu (aD (bx ?_)))))
 show wpAny _ _ (match mO lo hi 1 (n:Int)with|(lo,hi)=>pure (lo,(1:Int),jA lo hi 1)) _ _ s
 rw[F3 lo hi n];show wpAny _ _ (pure (((n_ n 0 lo):Int),1,jA ((n_ n 0 lo:Nat)) ((n_ n n hi:Nat)) 1)) _ _ s;rw[F4];exact bx h
theorem LW(xs:Array aF)(i k:Nat):((cx k).filterMap λ(m:Nat)=>xs[((i:Int)+(m:Int)*1).toNat]?).toArray=((xs.toList.drop i).take k).toArray:=by
 have e:(λ(m:Nat)=>xs[(i+(m:Int)*1).toNat]?)=λm=>xs[i+m]?:=by
  funext m
  have:((i:Int)+(m:Int)*1).toNat=i+m:=∅
  rw[this]
 rw[e];have:=pick_run xs i k;rw[bP]at this;have e2:((λx=>xs[x]?)∘λx=>i+x)=λm=>xs[i+m]?:=rfl
 rw[e2]at this;rw[this]
theorem u_{t sl:aH}{items:Array aF}{vl vu:aF}{lo hi:Option Int}(ht:IsTup s.heap t items)(hs:s.heap.IsSliceOf sl vl vu .none)(pl:BX vl lo)(pu:BX vu hi)
  (hw:¬(n_ items.size 0 lo=0/\n_ items.size items.size hi=items.size))
  (h:Q (.ref s.heap.objs.size) { s with heap:=s.heap.push { cls:=.type "tuple",data:=.seq ((items.toList.drop (n_ items.size 0 lo)).take (n_ items.size items.size hi-n_ items.size 0 lo)).toArray } })
  (hsz:items.size<=sizeLine):wpAny (model prog w) A (getItem (.ref t) (.ref sl)) Q E s:=by
 have Ii:sizeOk (.seq ((items.toList.drop (n_ items.size 0 lo)).take (n_ items.size items.size hi-n_ items.size 0 lo)).toArray):=by
  show((items.toList.drop _).take _).toArray.size<=sizeLine
  rw[bH,bh,cV,di];omega
 obtain⟨os,Xr,Pg,Ua⟩:=id hs;unfold getItem
 try with_reducible refine q_ ?_
 first|refine aD (bx ?_)|skip
 refine aD (wpAny_sequenceKey ht.typeIs ⋯ ?_)
 refine aD (jx (name:=Str.ofString "__getitem__") ht.typeIs kP
  (nJ kP ht.typeIs entry_tuple_getitem ?_ (args_tuple_getitem _ _)))
 show wpAny _ _ (wX.Tuple.tupleItemsOf (.ref t) >>= _) _ _ s;refine aD (tupleItemsOf_ ht ?_)
 refine aD (wpAny_typeOf (#[os,Xr,Pg]) ?_)
 refine aD (wc hs pl pu ?_)
 have La:¬((((n_ items.size 0 lo):Int)==0&&(1:Int)==1&&(n_ items.size items.size hi-n_ items.size 0 lo)==items.size)=true):=by
  intro q;rw[qM,qM]at q;have q1:=eq_of_beq q.1.1;have q2:=eq_of_beq q.2;exact hw #[∅,∅]
 show wpAny _ _ (if(((n_ items.size 0 lo):Int)==0&&1==1&&(n_ items.size items.size hi-n_ items.size 0 lo)==items.size)=true then _ else _) _ _ s
 rw[qQ2 La,LW]
 first
  |exact aD (fW (bx #[_,rfl,bx h]) Ii)
  |exact aD (fW (aD (bx (bx #[_,rfl,bx h]))) Ii)
  |exact aD (aD (fW (bx (bx #[_,rfl,bx h])) Ii))
  |exact aD (aD (fW (bx #[_,rfl,bx h]) Ii))
end
end HT
namespace L2
open PySem PySem.Spec PyProof.Rows
variable{xs:List V}{its us:List aF}{n t':Nat}
abbrev TO:=St->Hp->(Option Int->Hp->Prop)->Prop
def PO(X:Cx)(e:Option bK)(t:TO):Prop:=
 ∀(pins:List (aH×Obj))(s:aS)(σ:St)(H:Hp)(Q:Option Int->Hp->Prop),Inv X pins σ H s->t σ H Q->
  wpAny (model X.prog X.w) X.A (evalPart e X.env) (λu s'=>∃o H',Inv X pins σ H' s'/\BX u o/\Q o H') X.xe s
def Ph:TO:=λ_ H Q=>Q none H
def Xs(t:TE):TO:=λσ H Q=>t σ H λx H1=>∃i,x=.int i/\Q (some i) H1
theorem intsAre_of{ns:List Int}:∀{us:List aF},dU (ns.map V.int) us->Ao us ns:=by
 induction ns with
 |nil=>intro us r;rw[jo]at r;cases r;exact .nil
 |cons n ns ih=>
  intro us r;cases r with
  |cons r1 r2=>
   obtain⟨t,e⟩:=r1;subst e;exact .cons n t (ih r2)
section
variable{X:Cx}{e:bK}{te:TE}{lo hi:Option bK}{tl th:TO}{pos p2:Pos}
theorem Pj:PO X none Ph:=by
 intro pins s σ H Q I h;exact bx #[none,H,I,.none,h]
theorem Pk(h:PE X e te):PO X (some e) (Xs te):=by
 intro pins s σ H Q I hw;refine gN (h pins s σ H _ I hw) λu s1 #[x,H1,I1,r1,q1]=>?_
 obtain⟨i,rfl,q⟩:=q1;obtain⟨t,rfl⟩:=r1;exact#[_,H1,I1,.int i t,q]
def Z1(X:Cx)(r:V->Option Int->Option Int->Hp->VK->Prop):Prop:=
 ∀(pins:List (aH×Obj))(s:aS)(σ:St)(H:Hp)(x:V)(v vl vu:aF)(lo hi:Option Int)(sl:aH)(Q:VK),Inv X pins σ H s->RelV x v->s.heap.IsSliceOf sl vl vu .none->BX vl lo->BX vu hi->r x lo hi H Q->
  ∃T id,typeLookup (.type T) "__getitem__"=pure (some (.builtin id))/\s.TypeIs v T/\wpAny (model X.prog X.w) X.A (getItem v (.ref sl)) (EP X pins σ Q) X.xe s
def tSl(r:V->Option Int->Option Int->Hp->VK->Prop)(te:TE)(tl th:TO):TE:=λσ H Q=>te σ H λx H1=>tl σ H1 λl H2=>th σ H2 λu H3=>r x l u H3 Q
theorem yO{r:V->Option Int->Option Int->Hp->VK->Prop}(hr:Z1 X r)(he:PE X e te)(hl:PO X lo tl)(hu:PO X hi th):PE X (.Subscript e (.Slice lo hi none p2) pos) (tSl r te tl th):=by
 intro pins s σ H Q I h;refine Subscript_ (gN (he pins s σ H _ I h) λv s1 #[x,H1,I1,r1,q1]=>?_)
 refine wpAny_Slice (gN (hl pins s1 σ H1 _ I1 q1) λvl s2 #[l,H2,I2,pl,q2]=>gN (hu pins s2 σ H2 _ I2 q2) λvu s3 #[u,H3,I3,pu,q3]=>?_)
 refine bx ?_
 have I4:Inv X pins σ H3 { s3 with heap:=s3.heap.push { cls:=.type "slice",data:=.fields (bZ [vl,vu,.none]) } }:=I3.kept λb ob q=>aI _ q
 obtain⟨T,id,hT,ht,hg⟩:=hr pins { s3 with heap:=s3.heap.push { cls:=.type "slice",data:=.fields (bZ [vl,vu,.none]) } } σ H3 x v vl vu l u s3.heap.objs.size Q I4 r1 (cX.IsSliceOf.new ..) pl pu q3
 exact tail_any ht hT hg (by with_unfolding_all rfl)
def JQ(xs:List V)(lo hi:Option Int):List V:=(xs.drop (HT.n_ xs.length 0 lo)).take (HT.n_ xs.length xs.length hi-HT.n_ xs.length 0 lo)
theorem w8(xs:List V)(lo hi:Option Int):(JQ xs lo hi).length<=xs.length:=by
 unfold JQ;rw[bh,cV];omega
def zbc(K:aq):V->Option Int->Option Int->Hp->VK->Prop:=λx lo hi H Q=>∃a xs,x=.ref a/\oT K H a xs/\
 ¬(HT.n_ xs.length 0 lo=0/\HT.n_ xs.length xs.length hi=xs.length)/\∀p,H p=none->Q (.ref p) (upd H p (.tup (JQ xs lo hi)))
theorem Ub:Z1 X (zbc X.K):=by
 intro pins s σ H x v vl vu lo hi sl Q I rx hs pl pu h;obtain⟨a,xs,rfl,hx,hw,q⟩:=h;cases rx;obtain⟨its,r,ht,hz⟩:=I.tuple hx;have hlen:its.toArray.size=xs.length:=by rw[bH];exact r.length.symm
 refine#[_,_,kP.lookup,ht.typeIs,?_]
 refine HT.u_ ht hs pl pu (by rw[hlen];exact hw) ?_ (by rw[hlen];exact hz)
 rw[hlen];refine#[.ref s.heap.objs.size,_,I.laid (λb ob q=>aI _ q) ∅ ?_,rfl,q _ (I.hok.fresh ∅)]
 exact#[bU (w8 xs lo hi) hz,_,(r.drop _).take _,tL _ _]
def Xt(K:aq):R2:=λx y H Q=>∃a b xs ys,x=.ref a/\y=.ref b/\oT K H a xs/\oT K H b ys/\xs≠[]/\xs.length+ys.length<=sizeLine/\
 (ys=[]->Q (.ref a) H)/\(ys≠[]->∀p,H p=none->Q (.ref p) (upd H p (.tup (xs++ys))))
theorem dU.yg(r:dU xs us):us=[]↔xs=[]:=by
 cases r with
 |nil=>simp
 |cons _ _=>simp
theorem Pm:sG X (binaryOp .Add) (Xt X.K):=by
 intro pins s σ H x y v u Q I rx ry h;obtain⟨a,b,xs,ys,rfl,rfl,ha,hb,hx,hz,q1,q2⟩:=h;cases rx;cases ry;obtain⟨its,r1,p1,_⟩:=I.tuple ha;obtain⟨D0,r2,p2,_⟩:=I.tuple hb;refine HT.Pb p1 p2 (λz=>hx (r1.yg.mp z)) (λz=>#[.ref a,H,I,rfl,q1 (r2.yg.mp z)]) (λz=>?_) (by rw[<-r1.length,<-r2.length];exact hz)
 refine#[.ref s.heap.objs.size,_,I.laid (λb ob q=>aI _ q) ∅ ?_,rfl,q2 (λw=>z (r2.yg.mpr w)) _ (I.hok.fresh ∅)]
 exact#[by rw[aV];exact hz,_,r1.append r2,tL _ _]
end
def RX(n:Nat)(i:Int):Option Nat:=if 0<=i then(if i<n then some i.toNat else none)else if -(n:Int)<=i then some (i+n).toNat else none
def ur{α:Type}(xs:List α)(i:Int):Option α:=(RX xs.length i).bind λj=>xs[j]?
theorem Pn{i:Int}{j:Nat}(h:RX n i=some j):seqIndex? i n=some j/\j<n/\-(n:Int)<=i/\i<n:=by
 unfold RX at h;by_cases h0:0<=i
 ·rw[qQ3 h0]at h
  by_cases h1:i<n
  ·rw[qQ3 h1]at h
   have e:=cG h;exact#[by rw[seqIndex_of h0 h1,e],∅,∅,h1]
  ·rw[qQ2 h1]at h;cases h
 ·rw[qQ2 h0]at h
  by_cases h1:-n<=i
  ·rw[qQ3 h1]at h
   have e:=cG h;exact#[by rw[seqIndex_neg ∅ h1,e],∅,h1,∅]
  ·rw[qQ2 h1]at h;cases h
theorem Cg{α:Type}{xs:List α}{i:Int}{v:α}(h:ur xs i=some v):∃j,seqIndex? i xs.length=some j/\xs[j]?=some v/\j<xs.length/\-(xs.length:Int)<=i/\i<xs.length:=by
 unfold ur at h;cases e:RX xs.length i with
 |none=>rw[e]at h;cases h
 |some j=>
  rw[e]at h;obtain⟨h1,h2,h3,h4⟩:=Pn e;exact#[j,h1,h,h2,h3,h4]
theorem cM{α:Type}{xs:List α}{j:Nat}{v:α}(h:xs[j]?=some v):ur xs (j:Int)=some v:=by
 have hj:=(aJ.mp h).1
 have e:RX xs.length j=some j:=by
  unfold RX;rw[qQ3 ∅,qQ3 ∅];simp
 unfold ur;rwa[e]
def oj(b:bK):Prop:=∀o i,subscripted b false o i=operate [o,i] (getItem o i)
def OJ(X:Cx)(r:R2):Prop:=
 ∀(value slice:bK)(pins:List (aH×Obj))(s:aS)(σ:St)(H:Hp)(x y:V)(v u:aF)(Q:VK),Inv X pins σ H s->RelV x v->RelV y u->r x y H Q->
  subscripted slice false v u=operate [v,u] (getItem v u)->wpAny (model X.prog X.w) X.A (subscriptTail value slice v u) (EP X pins σ Q) X.xe s
def MtR(X:Cx)(id:String)(r:V->List V->Hp->VK->Prop):Prop:=
 ∀(pins:List (aH×Obj))(s:aS)(σ:St)(H:Hp)(x:V)(xs:List V)(v:aF)(us:List aF)(Q:VK),Inv X pins σ H s->RelV x v->dU xs us->r x xs H Q->
  wpAny (model X.prog X.w) X.A (call (.builtin id) (v::us)) (EP X pins σ Q) X.xe s
section
variable{X:Cx}{a b:bK}{ta tb:TE}{pos:Pos}
theorem OJ.or{r r':R2}(h:OJ X r)(h':OJ X r'):OJ X (λx y H Q=>r x y H Q\/r' x y H Q):=by
 intro value slice pins s σ H x y v u Q I rx ry q hs;rcases q with q|q
 ·exact h value slice pins s σ H x y v u Q I rx ry q hs
 ·exact h' value slice pins s σ H x y v u Q I rx ry q hs
theorem LY{r:R2}(hr:OJ X r)(ha:PE X a ta)(hb:PE X b tb)(hs:oj b):PE X (.Subscript a b pos) (Xe r ta tb):=by
 intro pins s σ H Q I h;exact Subscript_ (T1 ha hb I h λv u s2 x y H2 I2 rx ry q=>hr a b pins s2 σ H2 x y v u Q I2 rx ry q (hs _ _))
def Xu(K:aq):R2:=λx y H Q=>∃p xs i v,x=.ref p/\y=.int i/\jy K H p xs/\ur xs i=some v/\Q v H
def Xv(K:aq):R2:=λx y H Q=>∃p xs i v,x=.ref p/\y=.int i/\oT K H p xs/\ur xs i=some v/\Q v H
def Xw:R2:=λx y H Q=>∃z i c,x=.str z/\y=.int i/\z.length<=sizeLine/\ur z.cps.toList i=some c/\Q (.str #[(bZ [c])]) H
theorem Pp:OJ X (Xu X.K):=by
 intro value slice pins s σ H x y v u Q I rx ry h hs;obtain⟨p,xs,i,z,rfl,rfl,hq,he,q⟩:=h;cases rx;obtain⟨t,rfl⟩:=ry;obtain⟨its,r,pl,hz⟩:=I.list hq;obtain⟨j,h1,h2,h3,h4,h5⟩:=Cg he;obtain⟨w,ew,sF⟩:=r.get h2;have hl:=r.length;have hn:=um;have fin:EP X pins σ Q w s:=#[z,H,I,sF,q];by_cases h0:0<=i
 ·have hj:i.toNat=j:=by
   rw[seqIndex_of h0 h5]at h1;exact cG h1
  exact item_listR pl.isList h0 ∅ (by rw[hj];simpa using ew) fin hs
 ·have hj:(i+its.toArray.size).toNat=j:=by
   rw[seqIndex_neg ∅ h4]at h1
   rw[bH,<-hl];exact cG h1
  exact subscriptTail_builtinR pl.isList.typeIs slot_list_getitem.lookup
   (wpAny_getItem_list_neg pl.isList ∅ (by rw[bH]<;>omega) ∅ (by rw[hj];simpa using ew) #[rfl,fin]) hs
theorem Uc:OJ X (Xv X.K):=by
 intro value slice pins s σ H x y v u Q I rx ry h hs;obtain⟨p,xs,i,z,rfl,rfl,hq,he,q⟩:=h;cases rx;obtain⟨t,rfl⟩:=ry;obtain⟨its,r,pl,hz⟩:=I.tuple hq;obtain⟨j,h1,h2,h3,h4,h5⟩:=Cg he;obtain⟨w,ew,sF⟩:=r.get h2;have hl:=r.length;have hn:=um;have fin:EP X pins σ Q w s:=#[z,H,I,sF,q];exact subscriptTail_builtinR pl.typeIs slot_tuple_getitem.lookup
  (getItem_tuple pl ∅ ∅ (by rw[bH,<-hl];exact h1) ↑ew #[rfl,fin]) hs
theorem Ud:OJ X Xw:=by
 intro value slice pins s σ H x y v u Q I rx ry h hs;obtain⟨z,i,c,rfl,rfl,hz,he,q⟩:=h;obtain⟨t,rfl⟩:=rx;obtain⟨t',rfl⟩:=ry;obtain⟨j,h1,h2,h3,h4,h5⟩:=Cg he;have hl:z.cps.toList.length=z.length:=by simp[Str.length]
 rw[hl]at h1 h4 h5;have hn:=um;exact tail_any (ug s z t) slot_str_getitem.lookup (getItem_str (by
  have e2:decide (i>=2^63)=false:=qQ0 ∅
  rw[qQ0 ∅,e2,Bool.or_false]) (by rw[h1];simpa using h2) #[.str #[(bZ [c])],H,I.tok _,#[_,rfl],q]) hs
def Z2(K:aq):R2:=λx y H Q=>Xu K x y H Q\/Xv K x y H Q\/Xw x y H Q
theorem yP:OJ X (Z2 X.K):=Pp.or (Uc.or Ud)
theorem Ci(lo hi:Option Int)(n:Nat):(sliceBounds lo hi none n).1=((HT.n_ n 0 lo:Nat):Int)/\(sliceBounds lo hi none n).2.1=((HT.n_ n n hi:Nat):Int)/\(sliceBounds lo hi none n).2.2=1:=by
 refine#[?_,?_,rfl]
 ·cases lo with
  |none=>simp[sliceBounds,HT.n_]
  |some i=>
   simp[sliceBounds,HT.n_,Option.getD_none,show(1:Int)>0 by decide,if_true]
   by_cases h:i<0
   ·simp[h,if_true]<;>omega
   ·simp[h,if_false]<;>omega
 ·cases hi with
  |none=>simp[sliceBounds,HT.n_]
  |some i=>
   simp[sliceBounds,HT.n_,Option.getD_none,show(1:Int)>0 by decide,if_true]
   by_cases h:i<0
   ·simp[h,if_true]<;>omega
   ·simp[h,if_false]<;>omega
theorem Ax(its:List aF)(lo hi:Option Int):slicePick its.toArray lo hi none=((its.drop (HT.n_ its.length 0 lo)).take (HT.n_ its.length its.length hi-HT.n_ its.length 0 lo)).toArray:=by
 obtain⟨h1,h2,h3⟩:=Ci lo hi its.toArray.size;unfold slicePick;rw[h1,h2,h3];simp only[sliceRange_one,pick_run,bH]<;>rfl
def zbd(K:aq):V->Option Int->Option Int->Hp->VK->Prop:=λx lo hi H Q=>∃a xs,x=.ref a/\jy K H a xs/\∀p,H p=none->Q (.ref p) (upd H p (.lst (JQ xs lo hi)))
theorem Pq:Z1 X (zbd X.K):=by
 intro pins s σ H x v vl vu lo hi sl Q I rx hs pl pu h;obtain⟨a,xs,rfl,hx,q⟩:=h;cases rx;obtain⟨its,r,ht,hz⟩:=I.list hx;have hlen:=r.length;refine#[_,_,slot_list_getitem.lookup,ht.isList.typeIs,?_]
 refine wpAny_getItem_list_slice ht.isList hs pl pu .none (by simp) ?_ (by rw[bH]<;>omega)
 rw[Ax,<-hlen];refine#[.ref s.heap.objs.size,_,I.laid (λb ob q=>aI _ q) ∅ ?_,rfl,q _ (I.hok.fresh ∅)]
 exact#[bU (w8 xs lo hi) hz,_,0,(r.drop _).take _,bE _ rfl]
theorem va:jK X (.builtin "len") (λxs H Q=>∃p ys,xs=[.ref p]/\(jy X.K H p ys\/oT X.K H p ys)/\Q (.int ys.length) H):=by
 intro pins s σ H xs us Q I r h;obtain⟨p,ys,rfl,hq,q⟩:=h;obtain⟨u,rfl,rx⟩:=vals1 r;cases rx;have hn:=um;rcases hq with hq|hq
 ·obtain⟨its,r',pl,hz⟩:=I.list hq
  have hlen:=r'.length;exact Calls.call_len_list pl.isList (by simp<;>omega) #[.int ys.length,H,I.tok _,#[_,by rw[bH,hlen]],q]
 ·obtain⟨its,r',pl,hz⟩:=I.tuple hq
  have hlen:=r'.length;exact len_tuple pl (by simp<;>omega) #[.int ys.length,H,I.tok _,#[_,by rw[bH,hlen]],q]
theorem Cj:jK X (.builtin "len") (λxs H Q=>∃z,xs=[.str z]/\z.length<=sizeLine/\Q (.int z.length) H):=by
 intro pins s σ H xs us Q I r h;obtain⟨z,rfl,hz,q⟩:=h;obtain⟨u,rfl,t,rfl⟩:=vals1 r;have hn:=um;exact len_str ∅ #[.int z.length,H,I.tok _,#[_,rfl],q]
theorem k9:jK X (.type "list") (λxs H Q=>∃p ys,xs=[.ref p]/\(jy X.K H p ys\/oT X.K H p ys)/\∀l,H l=none->Q (.ref l) (upd H l (.lst ys))):=by
 intro pins s σ H xs us Q I r h;obtain⟨p,ys,rfl,hq,q⟩:=h;obtain⟨u,rfl,rx⟩:=vals1 r;cases rx;have fin:∀(its:List aF),dU ys its->ys.length<=sizeLine->∀(h':cX)(c':Nat),(∀b o',s.heap.get? b=some o'->h'.get? b=some o')->
   h'.get? s.heap.objs.size=some { cls:=.type "list",dict:=none,data:=.seq its.toArray c',slots:=#[] }->EP X pins σ Q _ { s with heap:=h' }:=λits r' hz h' c' kp e=>
  #[.ref s.heap.objs.size,_,I.laid kp ∅ (show iT X.prog X.w _ h' _ (.lst ys) from#[hz,its,c',r',e]),rfl,q _ (I.hok.fresh ∅)]
 rcases hq with hq|hq
 ·obtain⟨its,r',pl,hz⟩:=I.list hq
  have hlen:=r'.length;obtain⟨o,ho,hc,n,hd⟩:=pl.isList;exact call_list_seq p (.inl rfl) ho hc hd (λh' c' kp e=>fin its r' hz h' c' kp e) (by simp<;>omega)
 ·obtain⟨its,r',pl,hz⟩:=I.tuple hq
  have hlen:=r'.length;obtain⟨o,ho,hc,n,hd⟩:=pl;exact call_list_seq p (.inr rfl) ho hc hd (λh' c' kp e=>fin its r' hz h' c' kp e) (by simp<;>omega)
theorem kr:jK X (.type "tuple") (λxs H Q=>∃p ys,xs=[.ref p]/\((jy X.K H p ys/\∀l,H l=none->Q (.ref l) (upd H l (.tup ys)))\/(oT X.K H p ys/\Q (.ref p) H))):=by
 intro pins s σ H xs us Q I r h;obtain⟨p,ys,rfl,h⟩:=h;obtain⟨u,rfl,rx⟩:=vals1 r;cases rx;rcases h with⟨hq,q⟩|⟨hq,q⟩
 ·obtain⟨its,r',pl,hz⟩:=I.list hq
  have hlen:=r'.length;refine call_tuple_list pl.isList (λh' kp=>?_) (by simp<;>omega)
  have I1:Inv X pins σ H { s with heap:=h' }:=I.kept kp
  have I2:Inv X pins σ (upd H h'.objs.size (.tup ys)) { s with heap:=h'.push { cls:=.type "tuple",data:=.seq its.toArray } }:=
   I1.laid (t':=s.toks) (λb o e=>aI _ e) (aT _) (show iT X.prog X.w _ _ _ (.tup ys) from#[hz,its,r',tL _ _])
  exact#[.ref h'.objs.size,_,I2,rfl,q _ (I1.hok.fresh (aT _))]
 ·obtain⟨its,r',pl,hz⟩:=I.tuple hq
  exact call_tuple_same pl #[.ref p,H,I,rfl,q]
def tyV(K:aq)(T:String)(x:V)(H:Hp):Prop:=match x with
 | .str _=>T="str"
 | .int _=>T="int"
 | .ref p=>(T="list"/\∃xs,jy K H p xs)\/(T="tuple"/\∃o,K.lookup p=some o/\o.cls=.type "tuple"/\o.dict=none)\/
   (T="dict"/\((∃kvs,H p=some (.dK kvs))\/∃kvs,H p=some (.dT kvs)))\/(T="set"/\∃S n,H p=some (.set S n))
 |_=>False
theorem LZ{pins:List (aH×Obj)}{σ:St}{H:Hp}{s:aS}{T:String}{x:V}{v:aF}(I:Inv X pins σ H s)(r:RelV x v)(ty:tyV X.K T x H):
  s.TypeIs v T/\∀a,v=.ref a->∃ob,s.heap.get? a=some ob/\ob.dict=none:=by
 cases x with
 |str z=>
  obtain⟨t,rfl⟩:=r
  cases(show T="str" from ty)
  exact#[ug s z t,λ_ e=>nomatch e]
 |int i=>
  obtain⟨t,rfl⟩:=r
  cases(show T="int" from ty)
  exact#[typeIs_int s i t,λ_ e=>nomatch e]
 |ref p=>
  cases r;rcases ty with⟨rfl,xs,hq⟩|⟨rfl,o,hk,hc,hd⟩|⟨rfl,hk⟩|⟨rfl,S,n,hk⟩
  ·obtain⟨its,_,pl,_⟩:=I.list hq
   refine#[pl.isList.typeIs,λa e=>?_]
   cases e;obtain⟨o,n,e,c,hd,_⟩:=pl;exact#[o,e,hd]
  ·refine#[#[o,I.B7 p o hk,hc],λa e=>?_]
   cases e;exact#[o,I.B7 _ o hk,hd]
  ·have z:∃o,s.heap.get? p=some o/\o.ExactDict:=by
    rcases hk with⟨kvs,hk⟩|⟨kvs,hk⟩
    ·obtain⟨_,_,_,_,o,_,_,e,ex,_⟩:=I.hok p _ hk
     exact#[o,e,ex]
    ·obtain⟨_,_,_,_,o,_,_,e,ex,_⟩:=I.hok p _ hk
     exact#[o,e,ex]
   obtain⟨o,e,ex⟩:=z;refine#[#[o,e,ex.1],λa e2=>?_]
   cases e2;exact#[o,e,ex.2.1]
  ·obtain⟨o,_,_,_,e,ex,_⟩:=I.hok p _ hk
   refine#[#[o,e,ex.1],λa e2=>?_]
   cases e2;exact#[o,e,ex.2.1]
 |_=>exact gY ty
def zbf(K:aq)(T:String)(r:V->List V->Hp->VK->Prop)(to:TE):TE:=λσ H Q=>to σ H λx H1=>tyV K T x H1/\r x [] H1 Q
def tBM(K:aq)(T:String)(r:V->List V->Hp->VK->Prop)(to:TE)(t:TA):TE:=λσ H Q=>to σ H λx H1=>tyV K T x H1/\t σ H1 λxs H2=>r x xs H2 Q
variable{o e:bK}{es:List bK}{to:TE}{t:TA}{name:Str}{apos pw:Pos}{T id:String}{r:V->List V->Hp->VK->Prop}
theorem L0(pa:PlainAttrs T)(slot:Slot T name id)(hty:typeOf (.builtin id)=pure (.type "method_descriptor"))(hm:MtR X id r)(ho:PE X o to)
  (gj:yc X o name:=by rfl)(hline:(apos.endLine==pw.line)=true:=by rfl):PE X (.Call (.Attribute o name apos) [] [] pw) (zbf X.K T r to):=by
 intro pins s σ H Q I h;refine wpAny_Call_method0_late gj hline (gN (ho pins s σ H _ I h) λv s1 #[x,H1,I1,r1,ty,q1]=>?_)
 obtain⟨h1,h2⟩:=LZ I1 r1 ty;exact#[T,id,pa,slot,hty,h1,h2,lK rfl (PySem.evalArgs_none (hm pins s1 σ H1 x [] v [] Q I1 r1 .nil q1))]
theorem om(pa:PlainAttrs T)(slot:Slot T name id)(hty:typeOf (.builtin id)=pure (.type "method_descriptor"))(hm:MtR X id r)(ho:PE X o to)(ha:PA X (e::es) t)
  (gj:yc X o name:=by rfl)
  (k_:((backTo pw (starEach (e::es) X.env)).all (λx=>!x.1)&&(backToKw pw (keywordEach [] X.env)).all (λx=>x.1.isSome)
   && decide ((e::es).length+([]:List Keyword).length+(if([]:List Keyword).isEmpty then 0 else 1)<30))=true:=by rfl)
  (hline:(apos.endLine==pw.line)=true:=by rfl) (hs:kZ X e es:=by rfl) (fJ:tF X pw es:=by rfl) :
  PE X (.Call (.Attribute o name apos) (e::es) [] pw) (tBM X.K T r to t):=by
 intro pins s σ H Q I h;refine wpAny_Call_method_late gj k_ hline rfl (gN (ho pins s σ H _ I h) λv s1 #[x,H1,I1,r1,ty,q1]=>?_)
 obtain⟨h1,h2⟩:=LZ I1 r1 ty;refine#[T,id,pa,slot,hty,h1,h2,?_]
 have hA:=ha pw pins s1 σ H1 _ I1 q1;rw[hs]at hA ⊢;exact lK (by show(false||(backTo pw (starEach es X.env)).any (·.1))=false;rw[fJ]<;>rfl) (tq (gN hA λus s2 #[vs,H2,I2,r2,q2]=>hm pins s2 σ H2 x vs v us Q I2 r1 r2 q2))
end
def RZ(X:Cx)(id:String)(r:V->List V->Hp->VK->Prop):Prop:=
 ∀(pins:List (aH×Obj))(s:aS)(σ:St)(H:Hp)(x:V)(xs:List V)(v:aF)(us:List aF)(Q:VK),Inv X pins σ H s->RelV x v->dU xs us->r x xs H Q->
  wpAny (model X.prog X.w) X.A (call (.builtin id) (v::us)) (EP X pins σ Q) X.xe s
theorem dU.one:∀{x:V}{us:List aF},dU [x] us->∃u,us=[u]/\RelV x u
 |_,_,.cons r .nil=>#[_,rfl,r]
theorem dU.two:∀{x y:V}{us:List aF},dU [x,y] us->∃u v,us=[u,v]/\RelV x u/\RelV y v
 |_,_,_,.cons r (.cons q .nil)=>#[_,_,rfl,r,q]
theorem dU.zero:∀{us:List aF},dU [] us->us=[]
 |_,.nil=>rfl
theorem dU.dropLast(h:dU xs us):dU xs.dropLast us.dropLast:=by
 induction h with
 |nil=>exact .nil
 |cons r t ih=>
  cases t with
  |nil=>exact .nil
  |cons q t'=>exact .cons r ih
theorem dU.reverse(h:dU xs us):dU xs.reverse us.reverse:=by
 induction h with
 |nil=>exact .nil
 |cons r t ih=>rw[lL,lL];exact dU.append ih (.cons r .nil)
theorem dU.rep(h:dU xs us):∀k:Nat,dU (bw k xs).flatten (bw k us).flatten
 |0=>.nil
 |k+1=>by
  exact dU.append h (dU.rep h k)
theorem F5{α:Type}(l:List α):l.eraseIdx (l.length-1)=l.dropLast:=by
 induction l with
 |nil=>rfl
 |cons a r ih=>
  cases r with
  |nil=>rfl
  |cons b r=>
   have e:(a::b::r).length-1=((b::r).length-1)+1:=by
    have h1:(a::b::r).length=r.length+2:=rfl;have h2:(b::r).length=r.length+1:=rfl;omega
   rw[e,List.eraseIdx_cons_succ,ih]
   all_goals rfl
theorem foldl_rep(its:List aF):∀(k:Nat)(acc:List aF),
  List.foldl (λx1 x2=>x1++x2) acc.toArray (bw k its.toArray)=(acc++(bw k its).flatten).toArray
 |0,acc=>by simp
 |k+1,acc=>by
  have e:acc.toArray++its.toArray=(acc++its).toArray:=by simp
  have e2:(acc++its)++(bw k its).flatten=acc++(bw (k+1) its).flatten:=by
   rw[fq,fu,cC]
  rw[<-e2,<-foldl_rep its k _,<-e,fq,nB]
section
variable{X:Cx}{pins:List (aH×Obj)}{σ:St}{H:Hp}{s:aS}{l b:aH}{xs ys zs:List V}
theorem Inv.L1{FL: List aF}{f:Array aF->Array aF}(I:Inv X pins σ H s)(hH:H l=some (.lst xs))
  (e:s.heap.get? l=some { cls:=.type "list",data:=.seq its.toArray n })(hf:f its.toArray=FL.toArray)(hv:dU ys FL)(hz:ys.length<=sizeLine):
  Inv X pins σ (upd H l (.lst ys)) { s with heap:=s.heap.update l (Obj.mapSeq f),toks:=t' }:=by
 have q:=PySem.IsL.update e f;rw[hf]at q;refine I.write (by rw[hH];exact trivial) (.inl rfl) (λb' u hb hu=>(cX.get?_update_other s.heap (Obj.mapSeq f) (bJ hb)).trans hu) #[_,q] ?_
 exact#[hz,FL,_,hv,q]
theorem Inv.zbg(I:Inv X pins σ H s)(hv:dU ys its)(hz:ys.length<=sizeLine):
  Inv X pins σ (upd H s.heap.objs.size (.lst ys)) { s with heap:=s.heap.push { cls:=.type "list",data:=.seq its.toArray },toks:=t' }:=
 I.laid (λ_ _ q=>aI _ q) ∅ #[hz,its,0,hv,bE _ rfl]
theorem Inv.fresh(I:Inv X pins σ H s):H s.heap.objs.size=none:=I.hok.fresh ∅
theorem Inv.JR(I:Inv X pins σ H s)(hH:H l=some (.lst xs)):xs.length<=sizeLine/\∃(its:List aF)(n:Nat),dU xs its/\xs.length=its.length/\s.heap.get? l=some { cls:=.type "list",data:=.seq its.toArray n }:=by
 obtain⟨z,its,n,r,e⟩:=I.hok l _ hH;exact#[z,its,n,r,r.length,e]
theorem L3(h:n<=sizeLine):wV n=false:=by
 exact qQ0 ∅
end
section
variable{X:Cx}
def Pr:V->List V->Hp->VK->Prop:=λx vs H Q=>∃l xs y,x=.ref l/\vs=[y]/\H l=some (.lst xs)/\xs.length<sizeLine/\Q .non (upd H l (.lst (xs ++ [y])))
theorem jT:RZ X "list.append" Pr:=by
 intro pins s σ H x vs v us Q I rx rv h;obtain⟨l,xs,y,rfl,rfl,hH,hz,q⟩:=h;cases rx;obtain⟨u,rfl,ru⟩:=rv.one;obtain⟨z,its,n,r,hl,e⟩:=I.JR hH;refine iY F.slot_list_append #[_,e,rfl] F.entry_list_append (F.args_list_append_2 _ _) (PySem.list_append l its.toArray n u (by rw[bH];omega)) #[e,?_]
 refine#[.non,_,I.L1 hH e (by simp) (r.append (.cons ru .nil)) ?_,rfl,q]
 rw[aV,f6];omega
def Pt:V->List V->Hp->VK->Prop:=λx vs H Q=>∃l b xs zs,x=.ref l/\vs=[.ref b]/\H l=some (.lst xs)/\H b=some (.lst zs)/\xs.length+zs.length<=sizeLine/\Q .non (upd H l (.lst (xs++zs)))
theorem Ba:RZ X "list.extend" Pt:=by
 intro pins s σ H x vs v us Q I rx rv h;obtain⟨l,b,xs,zs,rfl,rfl,hH,hB,hz,q⟩:=h;cases rx;obtain⟨u,rfl,ru⟩:=rv.one;cases ru;obtain⟨z,its,n,r,hl,e⟩:=I.JR hH;obtain⟨z2,D0,n2,r2,Pu,e2⟩:=I.JR hB;have hsz:its.toArray.size+D0.toArray.size<=sizeLine:=by rw[bH,bH];omega
 have Xx:¬(!its.toArray.isEmpty&&wV (its.toArray.size+D0.toArray.size))=true:=by
  rw[L3 hsz,AW];exact jm
 refine iY F.slot_list_extend #[_,e,rfl] F.entry_list_extend (F.args_list_extend_2 _ _)
  (AutoSeq1.list_extend_list_list_0 l its.toArray n b D0.toArray n2 Xx (by rw[bH];omega) ∅) #[e,e2,?_]
 refine#[.non,_,I.L1 hH e (by simp) (r.append r2) ?_,rfl,q]
 rw[aV];omega
def zbh:V->List V->Hp->VK->Prop:=λx vs H Q=>∃l xs y,x=.ref l/\vs=[]/\H l=some (.lst xs)/\xs[xs.length-1]?=some y/\Q y (upd H l (.lst xs.dropLast))
theorem Ue:RZ X "list.pop" zbh:=by
 intro pins s σ H x vs v us Q I rx rv h;obtain⟨l,xs,y,rfl,rfl,hH,hy,q⟩:=h;cases rx;have hus:=rv.zero;subst hus;obtain⟨z,its,n,r,hl,e⟩:=I.JR hH;obtain⟨u,hu,ru⟩:=r.get hy;have Xy:its.toArray[its.toArray.size-1]?=some u:=by
  show its.toArray[its.length-1]?=some u;rwa[<-rg,<-hl]
 refine iY F.slot_list_pop #[_,e,rfl] F.entry_list_pop (F.args_list_pop_1 _) (MeetsSeq.list_pop_last l its.toArray n u Xy (by rw[bH];omega)) #[e,?_]
 refine#[y,_,I.L1 hH e ?_ r.dropLast ?_,ru,q]
 ·show its.toArray.eraseIdxIfInBounds _=its.dropLast.toArray
  rw[bH,List.eraseIdxIfInBounds_toArray,F5]
 ·rw[List.length_dropLast]
  omega
def L4:V->List V->Hp->VK->Prop:=λx vs H Q=>∃l xs,x=.ref l/\vs=[]/\H l=some (.lst xs)/\Q .non (upd H l (.lst xs.reverse))
theorem F6:RZ X "list.reverse" L4:=by
 intro pins s σ H x vs v us Q I rx rv h;obtain⟨l,xs,rfl,rfl,hH,q⟩:=h;cases rx;have hus:=rv.zero;subst hus;obtain⟨z,its,n,r,hl,e⟩:=I.JR hH;refine iY F.slot_list_reverse #[_,e,rfl] F.entry_list_reverse (F.args_list_reverse_1 _) (AutoSeq1.list_reverse_list_0 l its.toArray n (by rw[bH];omega)) #[e,?_]
 refine#[.non,_,I.L1 hH e (by simp) r.reverse ?_,rfl,q]
 rw[uR];omega
theorem len_rep{α:Type}(xs:List α)(k:Nat):(bw k xs).flatten.length=k*xs.length:=by
 induction k with
 |zero=>simp
 |succ k ih=>rw[fq,fu,aV,ih,FD,Nat.add_comm]
end
section
variable{prog:bA}{w:cn}{A:dO}{E:aF->aS->Prop}{s:aS}
end
section
variable{X:Cx}
end
end L2
namespace Att
open PySem PySem.W PySem.Calls PyProof.Rows
variable{h:cX}{l:OpenLaw}{P:BZ}
theorem xR:∀(ns:List Int)(vs:List aF),WellAll P h vs (ns.map WData.int)->Ao vs ns:=by
 intro ns
 induction ns with
 |nil=>
  intro vs w;cases w;exact .nil
 |cons n ns ih=>
  intro vs w;cases w with
  |cons a b=>
   cases a;exact .cons _ _ (ih _ b)
theorem JT{n:Nat}(hn:l.most=some n){args:List WData}{vals:List aF}
  (Pw:l.row.toRowW.claim.pre args=true)(Xz:WellAll P h vals args):
  ∃a vs ns,vals=[d_ a]/\args=[WData.list (ns.map WData.int)]/\h.get? a=some { cls:=.type "list",data:=.seq vs.toArray }/\Ao vs ns/\ns.length<=n:=by
 have hc:l.pre.holds [] { args:=args }=true:=(pre_splitW Pw).2;obtain⟨d,r,rfl,h1,h2⟩:=hasAllW_cons ((pre_splitW Pw).1);obtain rfl:=hasAllW_nil h2;obtain⟨xs,rfl,h3⟩:=hasW_list h1;obtain⟨ns,rfl⟩:=items_int h3;have hlen:ns.length<=n:=by
  have h4:(WTm.not (.lt (.lit (.int n)) (.len (.arg 0)))).holds [] { args:=[.list (ns.map .int)] }=true:=by
   have h4:=(holds_andW hc).1;rwa[hn]at h4
  have h5:=condW_of h4 (w_not (w_lt w_lit (w_len_list (w_arg rfl))));refine gZ λq=>?_
  first
   |(rw[qQ1 q']at h5;exact qQ7 h5 ⋯)
   |(simp at h5;omega)
 cases Xz with
 |cons w1 w2=>
  cases w2;cases w1 with
  |list ho D1=>exact#[_,_,ns,rfl,rfl,ho,xR ns _ D1,hlen]
theorem JV(l:OpenLaw)(args:List WData):l.row.toRowW.claim.post args (.bool true) args=true:=
 postW_of
  (show WShape.has [] _ .bool=true by first|rfl|decide|simp[WShape.has,WShape.arms,WShape.armsAll])
  (show(WTm.eq .res _).value [] { args:=args,res:=some _,after:=args }=some (.bool (true==true))from w_eq_bool (w_res rfl) w_lit) rfl
theorem D2{n:Nat}{q:bA}{loose:List Str}{XP:(Str->Option aF)->cX->Prop}{YP:cn->cX->Prop}{d:DefRec}
  (hn:l.most=some n)(XA:d.params.defaults=[])
  (call:∀(w:cn)(s₀ s₁:aS)(mg mb:Str->Option aF)(fa:aH)(o:Obj)(pm cd doc:aF)(a:aH)(vs:List aF)(ns:List Int),
   Ground q loose [] XP w s₀ mg mb s₁.heap->YP w s₁.heap->
   s₁.heap.get? fa=some o->o.data=.func (docDef d.name d.params d.body d.scope pm cd doc)->s₁.heap.CodeRec cd d.name->mg d.name=some (.ref fa)->
   s₁.heap.get? a=some { cls:=.type "list",data:=.seq vs.toArray }->Ao vs ns->ns.length<=n->s₁.gens=#[]->
   codeAny (model l.prog w) callerA (.call (.ref fa) #[[.ref a],[]]) (λr s'=>r=.ok (.ret (.bool true))/\OldK s₁.heap s'.heap/\s'.os=s₁.os/\ud s'.gens) s₁) :
  WalkO q loose XP YP l.row.toRowW d [] (λf vs=>PySem.call f vs):=by
 intro w s₀ s₁ mg mb G Y fa o pm cd doc dV kV ho hd O1 hD Lb hg args vals as Pw hlay hrd Xz hlo;obtain rfl:dV=.none:=Dflts.none hD XA;obtain rfl:kV=.none:=Dflts.noKw hD;obtain⟨a,vs,ns,rfl,rfl,Ug,hints,hlen⟩:=JT hn Pw Xz;refine enter_call (pj (call w s₀ s₁ mg mb fa o pm cd doc a vs ns G Y ho (fd_plain hd) O1 Lb Ug hints hlen hg) λr s' hq=>?_)
 obtain⟨rfl,h2,h3,h4⟩:=hq;exact#[.inl #[_,_,[],rfl,λ_=>rfl,.bool true,JV l _,λ_=>#[List.Pairwise.nil,λ_ hm=>(nomatch hm)]],h2,h3,h4]
section
variable{prog:bA}{w:cn}{A:dO}{E:aF->aS->Prop}{s:aS}{K:Frag}
end
end Att
namespace L2
open PySem PySem.Spec PyProof.Rows
variable{a b f:aH}{X:Cx}{fd:eM}{h':cX}{H H':Hp}{pins:List (aH×Obj)}{xs:List (List Key×aH×aF)}{kvs:List (List Key×V)}{JW:List (TE×TE)}{ps:List Str}{o:Option V}{pos:Pos}{P:bA}{K:aq}{s:aS}{st:fQ}{qual x:Str}{y:V}{u:aF}{Q:aF->aS->Prop}{w:cn}
theorem Bb:∀{vs:List aF}{ns:List Int},Ao vs ns->dU (ns.map V.int) vs
 |_,_,.nil=>.nil
 |_,_,.cons n t h=>.cons #[t,rfl] (Bb h)
def Only(H:Hp):Prop:=∀b,H b=none\/∃o xs,H b=some (.p_ o (.lst xs))
theorem L5{mg mb:Str->Option aF}{CX:K_}{k:Nat}{fa: aH}{sp:Sp}{s₁:aS}{vs:List aF}{ns:List Int}
  (KX:K.In s₁.heap)(OL:s₁.heap.Ns mainGlobals mg)(hb:s₁.heap.Ns builtinsNs mb)(hbb:∀x:Str,x≠"__name__"->mb x=bootBuiltins x)(zbj:s₁.heap.NoLimit)(hg:s₁.gens=#[])
  (ha:s₁.heap.get? a=some { cls:=.type "list",data:=.seq vs.toArray })(hi:Ao vs ns)(hl:ns.length<=sizeLine)(hr:eB k callerA)
  (F:∀base:cX,K.In base->base.Ns mainGlobals mg->eW P w K mg base CX k fa fd [x] sp)(XB:∀(s:aS)(u:aF),BindsTo s fd #[[u],[]] [(x,u)])
  (Ce:∀H:Hp,Only H->jy K H a (ns.map V.int)->sp [.ref a] H (λv _=>v=.bl true) λ_ _ _=>False)
  (hCX:∀H e s',CX [] H s₁ (λ_ _ _=>False) e s'->False):
  codeAny (model P w) callerA (.call (.ref fa) #[[.ref a],[]]) (λr s'=>r=.ok (.ret (.bool true))/\OldK s₁.heap s'.heap/\s'.os=s₁.os/\ud s'.gens) s₁:=by
 have rv:=Bb hi;have zbl:=hi.length;have core:∀H:Hp,Only H->jy K H a (ns.map V.int)->uj P w H s₁.heap->(∀b,H b≠none->b=a)->(H a≠none->K.lookup a=none)->
   codeAny (model P w) callerA (.call (.ref fa) #[[.ref a],[]]) (λr s'=>r=.ok (.ret (.bool true))/\OldK s₁.heap s'.heap/\s'.os=s₁.os/\ud s'.gens) s₁:=by
  intro H hO hS hok hA hK;have Ij:∀{b:aH}{o:Obj},s₁.heap.get? b=some o->H b=none->(FH s₁.heap H).get? b=some o:=λe n=>Lk e n
  have Xp:∀{b:aH}{o:Obj}{es:Array wW}{ep:Nat},s₁.heap.get? b=some o->o.data=.dict es ep->H b=none:=λ{b o es ep}e d=>by
   cases q:H b with
   |none=>rfl
   |some u=>
    have e':=hA b (by rw[q];simp)
    subst e';rw[ha]at e;cases e;have d':=d;cases d'
  have Z3:∀{b:aH}{m:Str->Option aF},s₁.heap.Ns b m->(FH s₁.heap H).Ns b m:=λ{b m}#[o,es,ep,e,d,r]=>#[o,es,ep,Ij e (Xp e d),d,r]
  have hKb:=λb o e=>Ij (KX b o e) (by
   cases q:H b with
   |none=>rfl
   |some u=>
    have e':=hA b (by rw[q];simp)
    subst e';rw[hK (by rw[q];simp)]at e;cases e)
  have e0:F0 P w K mg (FH s₁.heap H) callerA [] s₁ H:=#[rfl,#[hKb,Z3 OL,#[mb,Z3 hb,hbb],let#[mc,h1,h2]:=zbj;#[mc,Z3 h1,h2]],λb o e=>OX e,Nat.le_of_eq (Jz _ _),trivial,λb hb=>qQ7 (show b∈([])from hb) (by simp),hok,.of_eq hg]
  refine pj ((F _ hKb (Z3 OL)).run callerA [] s₁ H #[_,[]] [.ref a] [.ref a] _ _ hr e0 (XB s₁ (.ref a)) (.cons rfl .nil) (Ce H hO hS)) λr s' h=>?_
  cases r with
  |error e=>exact(hCX H e s' h).elim
  |ok fl=>
   cases fl with
   |next=>exact gY h
   |brk=>exact gY h
   |cont=>exact gY h
   |ret u=>
    obtain⟨v,H',os,bare,un,zbm,r',q⟩:=h;have q':=q;subst q';obtain rfl:u=aF.bool true:=r';refine#[rfl,OldK.of_keep λb o e=>?_,os,bare]
    cases q:H b with
    |none=>exact un.keep b o e q (by intro z;exact qQ7 (show b∈([])from z) (by simp)) (by simp)
    |some u=>
     rcases hO b with z|⟨ob,xs,z⟩
     ·rw[q]at z;cases z
     ·have z2:=un.v5 b ob _ z
      obtain⟨e1,_⟩:=hok b _ z;obtain⟨e2,_⟩:=zbm b _ z2;rw[e]at e1;cases e1;exact e2
 cases hk:K.lookup a with
 |some o=>
  have e:=KX a o hk;rw[ha]at e;cases e;refine core (λ_=>none) (λ_=>.inl rfl) (.inr #[_,_,_,hk,rfl,rfl,rfl,by rw[bH,zbl];exact hl,by simpa using rv]) (λb u z=>by have z':none=some u:=z;cases z') (λb z=>qQ7 rfl z) λz=>qQ7 rfl z
 |none=>
  refine core (λb=>if b=a then some (.p_ { cls:=.type "list",data:=.seq vs.toArray } (.lst _))else none) (λb=>?_) (.inl (.inr #[_,qQ3 rfl])) (λb u z=>?_) (λb z=>?_) λ_=>hk
  ·by_cases hb:b=a
   ·exact .inr #[_,_,qQ3 hb]
   ·exact .inl (qQ2 hb)
  ·by_cases hb:b=a
   ·have z':=(qQ3 hb).symm.trans z
    cases z';subst hb;exact#[ha,by rw[ae];exact hl,vs,_,rv,ha]
   ·have z':=(qQ2 hb).symm.trans z
    cases z'
  ·by_cases hb:b=a
   ·exact hb
   ·exact qQ7 (qQ2 hb) z
theorem Px{l:PySem.W.OpenLaw}{n k:Nat}{q:bA}{loose:List Str}{XP:(Str->Option aF)->cX->Prop}{YP:cn->cX->Prop}{d:DefRec}{K:BZ->aq}{CX:cn->K_}{sp:cn->Sp}
  (hn:l.most=some n)(ZY:n<=sizeLine)(XA:d.params.defaults=[])(hr:eB k callerA)
  (hY:∀(w:cn)(h:cX),YP w h->(K w.params).In h)
  (F:∀(w:cn)(mg:Str->Option aF)(fa:aH)(h:cX),(K w.params).In h->h.Ns mainGlobals mg->mg d.name=some (.ref fa)->
   ∃fd:eM,(∀(s:aS)(u:aF),BindsTo s fd #[[u],[]] [(x,u)])/\
    ∀base:cX,(K w.params).In base->base.Ns mainGlobals mg->eW l.prog w (K w.params) mg base (CX w) k fa fd [x] (sp w))
  (Ce:∀(w:cn)(H:Hp)(a:aH)(ns:List Int),ns.length<=n->Only H->jy (K w.params) H a (ns.map V.int)->sp w [.ref a] H (λv _=>v=.bl true) λ_ _ _=>False)
  (hCX:∀(w:cn)(H:Hp)(s:aS)(e:aF)(s':aS),CX w [] H s (λ_ _ _=>False) e s'->False) :
  PySem.W.WalkO q loose XP YP l.row.toRowW d [] (λf vs=>PySem.call f vs):=by
 refine Att.D2 hn XA λw s₀ s₁ mg mb fa o pm cd doc a vs ns G Y ho hd O1 Lb Ug hints hlen hg=>?_
 have KX:=hY w _ Y;obtain⟨fd,hb,hF⟩:=F w mg fa _ KX G.T.g Lb;exact L5 KX G.T.g G.T.b G.T.builtins G.T.nolimit hg Ug hints ∅ hr hF hb (λH hO hS=>Ce w H a ns hlen hO hS) λH e s'=>hCX w H s₁ e s'
def inClass(s:fQ)(j:Nat):fQ:=match s with
 | .ClassDef _ _ _ body _ _ _ _ _ _ _=>body.getD j (.Pass #[0,0,0,0])
 |_=>.Pass #[0,0,0,0]
def qe(s:fQ):Arguments:=match s with
 | .FunctionDef _ a _ _ _ _ _ _ _ _=>a
 |_=>{ posonlyargs:=[],args:=[],vararg:=none,kwonlyargs:=[],kw_defaults:=[],kwarg:=none,defaults:=[] }
def mq(s:fQ):List fQ:=match s with
 | .FunctionDef _ _ b _ _ _ _ _ _ _=>b
 |_=>[]
def bL(s:fQ):kH:=match s with
 | .FunctionDef _ _ _ _ _ _ sc _ _ _=>sc
 |_=>{ kind:=.function,names:=[],isGenerator:=false,isCoroutine:=false }
abbrev kD:K_:=λ_ _ _ _ _ _=>False
abbrev E0:XK:=λ_ _ _=>False
theorem yQ:yL kD X E0:=λ_ _ _ _ _ _ _ h=>h.elim
structure kX(K:aq)(x qual:Str)(st:fQ)(f:aH)(fd:eM):Prop where
 ex:∃(oc:aF)(od:Option aH)(kV doc pm:aF)(an:Option aH)(g6 ct:aF)(LQ:Array (Option aF)),
  fd=iX x qual (qe st) (mq st) (bL st) .none kV doc pm an g6 ct/\K.lookup f=some #[oc,od,.func fd,LQ]/\nI K g6 qual=true
 kp:iH K (.ref f)=true
section
variable{P:bA}{w:cn}{K:aq}{mg:Str->Option aF}{base:cX}
theorem kX.ok{N: List Str}{k:Nat}{sp:Sp}(F:kX K x qual st f fd)(S:cw N ps (bL st))(len:∀vs H Q E,sp vs H Q E->vs.length=ps.length)
  (LV:∀(g6:aF)(A:dO)(outer:List Env)(s:aS)(H:Hp)(vs:List V)(Q:VK)(E:XK),eB k (A.deeper (envOfC qual (bL st) s.heap.objs.size f g6))->sp vs H Q E->
   ∃t,Ia (F2 kD P w K mg base N qual (bL st) f g6 A outer s H E).V_ (mq st) t/\t { nx:=λ_ H'=>Q .non H',rt:=Q } (start N vs) H):eW P w K mg base kD (k+1) f fd ps sp:=by
 obtain⟨oc,od,kV,doc,pm,an,g6,ct,LQ,rfl,lk,O1⟩:=F.ex;refine Xq lk O1 S len λA outer s H vs Q E hr Ce=>?_
 obtain⟨t,h,q⟩:=LV g6 A outer s H vs Q E hr Ce;exact#[t,h.V_,q]
theorem kX.binds(F:kX K x qual st f fd)
  (h:∀(kV doc pm:aF)(an:Option aH)(g6 ct:aF)(us:List aF),us.length=ps.length->bindArgs (iX x qual (qe st) (mq st) (bL st) .none kV doc pm an g6 ct) #[us,[]]=pure (ps.zip us)):Binds K fd ps []:=by
 obtain⟨oc,od,kV,doc,pm,an,g6,ct,LQ,rfl,lk,O1⟩:=F.ex;exact .all (h kV doc pm an g6 ct)
theorem L6{oc:aF}{od an:Option aH}{LQ:Array (Option aF)}{kV doc pm g6 ct:aF}(l:K.lookup f=some #[oc,od,.func (iX x qual (qe st) (mq st) (bL st) .none kV doc pm an g6 ct),LQ])
  (c:nI K g6 qual=true)(k:iH K (.ref f)=true):kX K x qual st f (iX x qual (qe st) (mq st) (bL st) .none kV doc pm an g6 ct):=#[#[oc,od,kV,doc,pm,an,g6,ct,LQ,rfl,l,c],k]
end
section
variable{X:Cx}
theorem pv(i:Nat)(hN:rA X i x:=by ac_rfl):PE X (.Name x pos) (TK i):=uU hN
end
theorem Uh{A B:Prop}(h:B):if false=true then A else B:=by
 exact h
theorem Ui{A B:Prop}(h:A):if true=true then A else B:=by
 exact h
def cU(H H':Hp):Prop:=∀b o,H b=some o->H' b=some o
theorem cU.refl(H:Hp):cU H H:=λ_ _ h=>h
theorem cU.trans{H1 H2: Hp}(a:cU H H1)(b:cU H1 H2):cU H H2:=λc o h=>b c o (a c o h)
theorem cU.free(e:cU H H'){l:aH}(h:H' l=Option.none):H l=Option.none:=by
 cases q:H l with
 |none=>rfl
 |some o=>
  rw[e l o q]at h;cases h
theorem cU.seq{xs:List V}(e:cU H H')(h:jy K H a xs):jy K H' a xs:=by
 rcases h with(h|⟨o,h⟩)|h
 ·exact .inl (.inl (e _ _ h))
 ·exact .inl (.inr #[o,e _ _ h])
 ·exact .inr h
section
variable{κ:Type}[DecidableEq κ]
def gQ(kvs:List (κ×V))(k:κ):Option V:=(kvs.find? λkv=>decide (kv.1=k)).map (·.2)
def putK(kvs:List (κ×V))(k:κ)(v:V):List (κ×V):=
 if(kvs.any λkv=>decide (kv.1=k))=true then kvs.map (λkv=>if kv.1=k then(kv.1,v)else kv)else kvs ++ [(k,v)]
theorem ku{p:κ×V}{r:List (κ×V)}{k:κ}(e:p.1=k):gQ (p::r) k=some p.2:=by simp[gQ,cO,e]
theorem jf{p:κ×V}{r:List (κ×V)}{k:κ}(e:¬p.1=k):gQ (p::r) k=gQ r k:=by simp[gQ,cO,e]
theorem vb(k:κ):∀kvs:List (κ×V),(kvs.any λkv=>decide (kv.1=k))=(gQ kvs k).isSome
 | []=>rfl
 |p::r=>by
  rw[mP];by_cases e:p.1=k
  ·simp[ku e,qQ1 e,Bool.true_or,Option.isSome_some]
  ·rw[jf e,qQ0 e,Bool.false_or];exact vb k r
theorem mE(kvs:List (κ×V))(k:κ)(v:V):(putK kvs k v).length<=kvs.length+1:=by
 unfold putK
 split
 ·rw[ae];omega
 ·rw[aV,bf,df];omega
theorem rD{kvs:List (κ×V)}{k:κ}(v:V)(h:gQ kvs k=none):putK kvs k v=kvs ++ [(k,v)]:=by
 unfold putK;rw[vb,h];exact qQ2 ⋯
theorem ui.pA{u:Option aF}(r:ui o u):o.isSome=u.isSome:=by
 cases o with
 |none=>cases u with
  |none=>rfl
  |some _=>exact(show False from r).elim
 |some _=>cases u with
  |none=>exact(show False from r).elim
  |some _=>rfl
theorem ui.getD{u:Option aF}{d:V}{d':aF}(r:ui o u)(rd:RelV d d'):RelV (o.getD d) (u.getD d'):=by
 cases o with
 |none=>cases u with
  |none=>exact rd
  |some _=>exact(show False from r).elim
 |some _=>cases u with
  |none=>exact(show False from r).elim
  |some _=>exact r
theorem KV.val{kvs:List (κ×V)}{vs:List (κ×aF)}(r:KV kvs vs)(k:κ):ui (gQ kvs k) (valueAt vs k):=by
 induction r with
 |nil=>exact f9
 | @cons p q ps qs h t ih=>
  obtain⟨h1,h2⟩:=h;by_cases e:p.1=k
  ·have e':=h1.symm.trans e
   have b:valueAt (q::qs) k=some q.2:=by simp[valueAt,cO,e']
   rwa[ku e,b]
  ·have e':¬q.1=k:=λz=>e (h1.trans z)
   have b:valueAt (q::qs) k=valueAt qs k:=by simp[valueAt,cO,e']
   rwa[jf e,b]
theorem KV.any{kvs:List (κ×V)}{vs:List (κ×aF)}(r:KV kvs vs)(k:κ):(kvs.any λkv=>decide (kv.1=k))=vs.any λkv=>decide (kv.1=k):=by
 induction r with
 |nil=>rfl
 |cons h t ih=>rw[mP,mP,ih,h.1]
theorem KV.repl{kvs:List (κ×V)}{vs:List (κ×aF)}(r:KV kvs vs)(k:κ)(ry:RelV y u):
  KV (kvs.map λkv=>if kv.1=k then(kv.1,y)else kv) (vs.map λkv=>if kv.1=k then(kv.1,u)else kv):=by
 induction r with
 |nil=>exact .nil
 | @cons p q ps qs h t ih=>
  rw[aA,aA];refine .cons ?_ ih
  obtain⟨h1,h2⟩:=h;by_cases e:p.1=k
  ·rw[qQ3 e,qQ3 (h1.symm.trans e)];exact#[h1,ry]
  ·rw[qQ2 e,qQ2 (λz=>e (h1.trans z))];exact#[h1,h2]
theorem KV.put{kvs:List (κ×V)}{vs:List (κ×aF)}(r:KV kvs vs)(k:κ)(ry:RelV y u):KV (putK kvs k y) (stored vs k u):=by
 unfold putK stored;rw[r.any k];by_cases e:(vs.any λkv=>decide (kv.1=k))=true
 ·rw[qQ3 e,qQ3 e];exact r.repl k ry
 ·rw[qQ2 e,qQ2 e];exact nH.snoc r #[rfl,ry]
theorem KV.keys{kvs:List (κ×V)}{vs:List (κ×aF)}(r:KV kvs vs):kvs.map (·.1)=vs.map (·.1):=by
 induction r with
 |nil=>rfl
 |cons h t ih=>rw[aA,aA,ih,h.1]
theorem KV.length{kvs:List (κ×V)}{vs:List (κ×aF)}(r:KV kvs vs):kvs.length=vs.length:=uc r
end
theorem rE{k:Key}(r:RelV (kV k) u):(e8 P w).is k u=true:=by
 cases k with
 |inl i=>obtain⟨t,e⟩:=r;subst e;exact DP P w i t
 |inr x=>obtain⟨t,e⟩:=r;subst e;exact rq P w x t
theorem Bc:∀{ks:List Key}{us:List aF},dU (ks.map kV) us->ItemsAre (e8 P w) ks us
 | [],_,r=>by rw[jo]at r;cases r;exact .nil
 |k::ks,_,r=>by
  cases r with
  |cons h t=>exact .cons (rE h) (Bc t)
abbrev KT(H:Hp):List (List Key×V)->List (List Key×aH×aF)->Prop:=nH λp q=>p.1=q.1/\H q.2.1=some (.tup (p.1.map kV))/\RelV p.2 q.2.2
theorem KT.val(r:KT H kvs xs)(k:List Key):ui (gQ kvs k) ((atKey xs k).map (·.2)):=by
 induction r with
 |nil=>exact f9
 | @cons p q ps qs h t ih=>
  obtain⟨h1,_,h2⟩:=h;by_cases e:p.1=k
  ·have e':=h1.symm.trans e
   have b:atKey (q::qs) k=some q.2:=by simp[atKey,cO,e']
   rwa[ku e,b]
  ·have e':¬q.1=k:=λz=>e (h1.trans z)
   have b:atKey (q::qs) k=atKey qs k:=by simp[atKey,cO,e']
   rwa[jf e,b]
theorem KT.repl(r:KT H kvs xs)(k:List Key)(ry:RelV y u):
  KT H (kvs.map λkv=>if kv.1=k then(kv.1,y)else kv) (xs.map (putAt k u)):=by
 induction r with
 |nil=>exact .nil
 | @cons p q ps qs h t ih=>
  rw[aA,aA];refine .cons ?_ ih
  obtain⟨h1,h2,h3⟩:=h;unfold putAt;by_cases e:p.1=k
  ·rw[qQ3 e,qQ3 (h1.symm.trans e)];exact#[h1,h2,ry]
  ·rw[qQ2 e,qQ2 (λz=>e (h1.trans z))];exact#[h1,h2,h3]
theorem KT.put(r:KT H kvs xs)(k:List Key)(hb:H b=some (.tup (k.map kV)))(ry:RelV y u):
  KT H (putK kvs k y) (storedH xs k b u):=by
 have e:(kvs.any λkv=>decide (kv.1=k))=(atKey xs k).isSome:=by
  rw[vb,(r.val k).pA,vT]
 unfold putK storedH;rw[e];by_cases q:(atKey xs k).isSome=true
 ·rw[qQ3 q,qQ3 q];exact r.repl k ry
 ·rw[qQ2 q,qQ2 q];exact nH.snoc r #[rfl,hb,ry]
theorem KT.keeps(r:KT H kvs xs)(ht:∀b ys,H b=some (.tup ys)->H' b=some (.tup ys)):KT H' kvs xs:=
 nH.Lj r λ_ _ z=>#[z.1,ht _ _ z.2.1,z.2.2]
section
variable{P:bA}{w:cn}{H:Hp}{h:cX}{a:aH}
theorem R0{u:HO}(ok:uj P w H h)(e:Rd H a u):iT P w H h a u:=e.ok ok
theorem yR{kvs:List (Key×V)}(ok:uj P w H h)(e:Rd H a (.dK kvs)):kvs.length<=sizeLine/\(a==sysModules)=false/\∃vs,KV kvs vs/\h.DictOf (e8 P w) a vs:=
 show iT P w H h a (.dK kvs)from R0 ok e
theorem D3{kvs:List (Key×V)}(ok:uj P w H h)(e:H a=some (.dK kvs)):kvs.length<=sizeLine/\(a==sysModules)=false/\∃vs,KV kvs vs/\h.DictOf (e8 P w) a vs:=yR ok (.inl e)
theorem rF{ks:List Key}(ok:uj P w H h)(e:H a=some (.tup (ks.map kV))):(tupleKind (e8 P w)).is h ks a:=by
 obtain⟨_,its,r,o,h1,h2,n,h3⟩:=(ok a _ e)
 exact#[o,_,n,h1,h2,h3,by simpa using Bc r]
theorem yS(ok:uj P w H h)(e:Rd H a (.dT kvs)):kvs.length<=sizeLine/\(a==sysModules)=false/\
  ∃xs,KT H kvs xs/\h.DictOfH (tupleKind (e8 P w)) a xs:=by
 obtain⟨z,y,xs,r,o,es,ep,h1,h2,h3,h4,h5⟩:=(R0 ok e)
 refine#[z,y,xs,r,o,es,ep,h1,h2,h3,h4,λx hx=>?_,h5]
 have all:∀{l:List (List Key×V)}{m:List (List Key×aH×aF)},KT H l m->∀x∈m,(tupleKind (e8 P w)).is h x.1 x.2.1:=by
  intro l m q
  induction q with
  |nil=>intro x hx;exact nomatch hx
  | @cons p q ps qs hq t ih=>
   intro x hx;rcases ax.mp hx with e|hx
   ·subst e
    exact rF ok (by rw[<-hq.1];exact hq.2.1)
   ·exact ih x hx
 exact all r x hx
theorem XC(ok:uj P w H h)(e:H a=some (.dT kvs)):kvs.length<=sizeLine/\(a==sysModules)=false/\
  ∃xs,KT H kvs xs/\h.DictOfH (tupleKind (e8 P w)) a xs:=yS ok (.inl e)
end
def nQ(H:Hp)(a:aH)(y:V)(r:Option V):Prop:=
 (∃kvs k,Rd H a (.dK kvs)/\y=kV k/\r=gQ kvs k)\/∃kvs k b,Rd H a (.dT kvs)/\y=.ref b/\H b=some (.tup (k.map kV))/\r=gQ kvs k
def xS(H:Hp)(a:aH)(y v:V)(H':Hp):Prop:=
 (∃kvs k,H a=some (.dK kvs)/\y=kV k/\kvs.length<sizeLine/\H'=upd H a (.dK (putK kvs k v)))\/
 ∃kvs k b,H a=some (.dT kvs)/\y=.ref b/\H b=some (.tup (k.map kV))/\kvs.length<sizeLine/\H'=upd H a (.dT (putK kvs k v))
theorem nQ.k{kvs:List (Key×V)}{k:Key}(e:H a=some (.dK kvs)):nQ H a (kV k) (gQ kvs k):=.inl #[kvs,k,.inl e,rfl,rfl]
theorem nQ.t{k:List Key}(e:H a=some (.dT kvs))(eb:H b=some (.tup (k.map kV))):nQ H a (.ref b) (gQ kvs k):=.inr #[kvs,k,b,.inl e,rfl,eb,rfl]
theorem xS.k{kvs:List (Key×V)}{k:Key}{v:V}(e:H a=some (.dK kvs))(hl:kvs.length<sizeLine):xS H a (kV k) v (upd H a (.dK (putK kvs k v))):=.inl #[kvs,k,e,rfl,hl,rfl]
theorem xS.t{k:List Key}{v:V}(e:H a=some (.dT kvs))(eb:H b=some (.tup (k.map kV)))(hl:kvs.length<sizeLine):
  xS H a (.ref b) v (upd H a (.dT (putK kvs k v))):=.inr #[kvs,k,b,e,rfl,eb,hl,rfl]
section
variable{X:Cx}{pins:List (aH×Obj)}{σ:St}{H:Hp}{s:aS}{a:aH}{y v:V}{u r:aF}{o:Option V}{A:dO}{E:aF->aS->Prop}
theorem Inv.big(I:Inv X pins σ H s):sysModules<s.heap.objs.size:=by
 exact rh ⋯ ((I.mod.glob.keeps I.bk).lt)
theorem JX(hu:A.units+1<cLine)(I:Inv X pins σ H s)(g:nQ H a y (some v))(ry:RelV y u)(h:∀w' s',Inv X pins σ H s'->RelV v w'->Q w' s'):
  wpAny (model X.prog X.w) A (getItem (.ref a) u) Q E s:=by
 rcases g with⟨kvs,k,e,ey,l⟩|⟨kvs,k,b,e,ey,eb,l⟩
 ·subst ey
  obtain⟨z,hd,vs,rel,dd⟩:=yR I.hok e;obtain⟨w',hw,sF⟩:=ui.some_of (by rw[l];exact rel.val k)
  exact wpAny_getItem_of (rE ry) dd.mapOf hw (h w' _ (I.tok _) sF)
 ·subst ey
  cases(show u=d_ b from ry)
  obtain⟨z,hd,xs,rel,dd⟩:=yS I.hok e;obtain⟨w',hw,sF⟩:=ui.some_of (by rw[l];exact rel.val k)
  obtain⟨p,hp,hp2⟩:=Option.map_eq_some_iff.mp hw;refine wpAny_getItem_heap (lP hu) (rF I.hok eb) dd hp ?_
  rw[hp2];exact h w' _ (I.tok _) sF
theorem zbn(hu:A.units+1<cLine)(I:Inv X pins σ H s)(g:nQ H a y o)(ry:RelV y u)(h:∀s',Inv X pins σ H s'->Q (.bool o.isSome) s'):
  wpAny (model X.prog X.w) A (compareOp .In u (.ref a)) Q E s:=by
 rcases g with⟨kvs,k,e,ey,l⟩|⟨kvs,k,b,e,ey,eb,l⟩
 ·subst ey
  obtain⟨z,hd,vs,rel,dd⟩:=yR I.hok e;refine wpAny_in_of (rE ry) hd dd.mapOf ?_
  rw[<-(rel.val k).pA,<-l];exact h _ (I.tok _)
 ·subst ey
  cases(show u=d_ b from ry)
  obtain⟨z,hd,xs,rel,dd⟩:=yS I.hok e;refine wpAny_in_heap (lP hu) (rF I.hok eb) hd dd ?_
  have q:=(rel.val k).pA;rw[vT]at q;rw[<-q,<-l];exact h _ (I.tok _)
theorem Py(hu:A.units+1<cLine)(I:Inv X pins σ H s)(g:nQ H a y o)(ry:RelV y u)(h:∀s',Inv X pins σ H s'->Q (.bool (!o.isSome)) s'):
  wpAny (model X.prog X.w) A (compareOp .NotIn u (.ref a)) Q E s:=by
 rcases g with⟨kvs,k,e,ey,l⟩|⟨kvs,k,b,e,ey,eb,l⟩
 ·subst ey
  obtain⟨z,hd,vs,rel,dd⟩:=yR I.hok e;refine wpAny_notIn_of (rE ry) hd dd.mapOf ?_
  rw[<-(rel.val k).pA,<-l];exact h _ (I.tok _)
 ·subst ey
  cases(show u=d_ b from ry)
  obtain⟨z,hd,xs,rel,dd⟩:=yS I.hok e;refine wpAny_notIn_heap (lP hu) (rF I.hok eb) hd dd ?_
  have q:=(rel.val k).pA;rw[vT]at q;rw[<-q,<-l];exact h _ (I.tok _)
theorem yh{t':Nat}{ob:HO}(I:Inv X pins σ H s)(mu:WU (H a))(hs:iz a s.heap h')(he:∃q,h'.get? a=some q)(new:iT X.prog X.w (upd H a ob) h' a ob):
  Inv X pins σ (upd H a ob) { s with heap:=h',toks:=t' }:=
 I.write mu (.inl rfl) (λb q hb z=>(hs.2 b hb).trans z) he new
theorem Ck{kvs:List (Key×V)}{vs:List (Key×aF)}(z:kvs.length<=sizeLine)(hd:(a==sysModules)=false)(rel:KV kvs vs)(dd:h'.DictOf (e8 P w) a vs):
  iT P w H' h' a (.dK kvs):=#[z,hd,vs,rel,dd]
theorem JY{Q:Unit->aS->Prop}(hu:A.units+1<cLine)(I:Inv X pins σ H s)(g:xS H a y v H')(ry:RelV y u)(rv:RelV v r)(h:∀s',Inv X pins σ H' s'->Q () s'):
  wpAny (model X.prog X.w) A (setItem (.ref a) u r) Q E s:=by
 rcases g with⟨kvs,k,e,ey,l,eH⟩|⟨kvs,k,b,e,ey,eb,l,eH⟩
 ·subst ey eH
  obtain⟨z,hd,vs,rel,dd⟩:=D3 I.hok e;have hz:vs.length<=sizeLine:=by rw[<-rel.length];exact z
  have hl:(putK kvs k v).length<=sizeLine:=by have:=mE kvs k v;omega
  refine wpAny_setItem_pairs (rE ry) dd λh' Lc hs=>h _ ?_
  have he:∃q,h'.get? a=some q:=let#[q,_,_,hq,_]:=Lc;#[q,hq];exact yh I (by rw[e];exact f9) hs he (Ck hl hd (rel.put k rv) Lc)
 ·subst ey eH
  cases(show u=d_ b from ry)
  obtain⟨z,hd,xs,rel,dd⟩:=XC I.hok e;have hz:xs.length<=sizeLine:=by rw[<-uc rel];exact z
  refine wpAny_setItem_heap (hsz:=hz) (lP hu) (rF I.hok eb) dd λh' Lc hs=>h _ ?_
  obtain⟨q,es,ep,hq,h2,h3,h4,_,h5⟩:=Lc;refine yh I (by rw[e];exact f9) hs #[q,hq] #[(by have:=mE kvs k v;omega),hd,_,(rel.put k eb rv).keeps λc ys ec=>?_,q,es,ep,hq,h2,h3,h4,h5]
  rwa[aL (WT ec e (λz=>nomatch z))]
end
section
variable{X:Cx}{pins:List (aH×Obj)}{σ:St}{H:Hp}{s:aS}{a:aH}{kvs:List (Key×V)}{k:Key}{u:aF}{A:dO}{E:aF->aS->Prop}
end
def Cm(i:bK):Prop:=∀ov iv,subscripted i false ov iv=operate [ov,iv] (getItem ov iv)
theorem Ik{prog:bA}{A:dO}{E:aF->aS->Prop}{env:Env}{value slice:bK}{T id:String}
  (hl:typeLookup (.type T) "__getitem__"=pure (some (.builtin id)))(hs:Cm slice)
  (h:wpAny (model prog w) A (eval value env) (λo s₁=>wpAny (model prog w) A (eval slice env) (λi s₂=>s₂.TypeIs o T/\wpAny (model prog w) A (getItem o i) Q E s₂) E s₁) E s):
  wpAny (model prog w) A (eval (.Subscript value slice pos) env) Q E s:=by
 refine Subscript_ (il h (λo s₁ h₁=>il h₁ (λi s₂ h₂=>?_) λ_ _ x=>x) λ_ _ x=>x)
 obtain⟨hT,h₂⟩:=h₂;refine aD ?_
 refine aD (wpAny_specialOf hT hl ?_)
 have fin:wpAny (model prog w) A (subscripted slice false o i) (λr s₃=>wpAny (model prog w) A (letTemporaryGo value o r >>= λ_=>pure r) Q E s₃) E s₂:=by
  rw[hs o i];exact wpAny_operating (il h₂ (λr s₃ h₃=>aD (wpAny_letTemporaryGo (bx h₃))) λ_ _ x=>x)
 first
  |exact bx (aD fin)
  |exact aD (bx (aD fin))
  |exact aD fin
theorem D4{σ:St}(I:Inv X pins σ H s)(g:nQ H a y o):s.TypeIs (.ref a) "dict":=by
 rcases g with⟨kvs,k,e,_,_⟩|⟨kvs,k,b,e,_,_,_⟩
 ·obtain⟨_,_,vs,_,dd⟩:=yR I.hok e
  exact dd.typeIs
 ·obtain⟨_,_,xs,_,dd⟩:=yS I.hok e
  exact dd.typeIs
def XD(td ty:TE):TE:=λσ H Q=>td σ H λx H1=>ty σ H1 λy H2=>∃a v,x=.ref a/\nQ H2 a y (some v)/\Q v H2
def zbo(ty td:TE):TE:=λσ H Q=>ty σ H λy H1=>td σ H1 λx H2=>∃a o,x=.ref a/\nQ H2 a y o/\Q (.bl o.isSome) H2
def Pz(ty td:TE):TE:=λσ H Q=>ty σ H λy H1=>td σ H1 λx H2=>∃a o,x=.ref a/\nQ H2 a y o/\Q (.bl (!o.isSome)) H2
def XE(td ty tv:TE):TS:=λD σ H=>tv σ H λv H1=>td σ H1 λx H2=>ty σ H2 λy H3=>∃a H4,x=.ref a/\xS H3 a y v H4/\D.nx σ H4
section
variable{X:Cx}{o i e value:bK}{pos pos' za7:Pos}{td ty tv:TE}
theorem sI(hu:X.A.units+1<cLine)(ho:PE X o td)(hi:PE X i ty)(hs:Cm i):PE X (.Subscript o i pos) (XD td ty):=by
 intro pins s σ H Q I h;refine Ik Af.lookup hs (gN (ho pins s σ H _ I h) λu s1 #[x,H1,I1,rx,q1]=>gN (hi pins s1 σ H1 _ I1 q1) λiv s2 #[y,H2,I2,ry,a,v,ex,g,q2]=>?_)
 subst ex;obtain rfl:u=d_ a:=rx;exact#[D4 I2 g,JX hu I2 g ry λw' s3 I3 sF=>#[v,H2,I3,sF,q2]]
theorem L7(hu:X.A.units+1<cLine)(hi:PE X i ty)(ho:PE X o td):PC X .In i o (zbo ty td):=by
 intro pins s σ H Q I h;refine gN (hi pins s σ H _ I h) λiv s1 #[y,H1,I1,ry,q1]=>gN (ho pins s1 σ H1 _ I1 q1) λu s2 #[x,H2,I2,rx,a,ov,ex,g,q2]=>?_
 subst ex;obtain rfl:u=d_ a:=rx;exact zbn hu I2 g ry λs3 I3=>#[.bl ov.isSome,H2,I3,rfl,q2]
theorem Bd(hu:X.A.units+1<cLine)(hi:PE X i ty)(ho:PE X o td):PC X .NotIn i o (Pz ty td):=by
 intro pins s σ H Q I h;refine gN (hi pins s σ H _ I h) λiv s1 #[y,H1,I1,ry,q1]=>gN (ho pins s1 σ H1 _ I1 q1) λu s2 #[x,H2,I2,rx,a,ov,ex,g,q2]=>?_
 subst ex;obtain rfl:u=d_ a:=rx;exact Py hu I2 g ry λs3 I3=>#[.bl (!ov.isSome),H2,I3,rfl,q2]
theorem sJ(hu:X.A.units+1<cLine)(ho:PE X o td)(hi:PE X i ty)(hv:PE X value tv)(hs:A1 X pos value (.Subscript o i pos')):
  PS X (.Assign [.Subscript o i pos'] value pos) (XE td ty tv):=by
 intro pins s σ H D I h;refine wpAny_Assign_Subscript (gN (hv pins s σ H _ I h) λr s1 #[v,H1,I1,rv,q1]=>gN (ho pins s1 σ H1 _ I1 q1) λu s2 #[x,H2,I2,rx,q2]=>gN (hi pins s2 σ H2 _ I2 q2) λiv s3 #[y,H3,I3,ry,a,H4,ex,g,q3]=>?_) hs
 subst ex;obtain rfl:u=d_ a:=rx;exact JY hu I3 g ry rv λs4 I4=>#[σ,H4,I4,q3]
end
theorem D5(h:cX)(hb:sysModules<h.objs.size):iT P w H (h.push { cls:=.type "dict",data:=.dict #[] }) h.objs.size (.dK []):=
 #[bj _,beq_eq_false_iff_ne.mpr (bJ (a9 hb)),[],.nil,cX.DictOf.new h]
theorem L8(h:cX)(hb:sysModules<h.objs.size):iT P w H (h.push { cls:=.type "dict",data:=.dict #[] }) h.objs.size (.dT []):=
 #[bj _,beq_eq_false_iff_ne.mpr (bJ (a9 hb)),[],.nil,_,#[],0,bE _ rfl,#[rfl,rfl,rfl],rfl,rfl,gx]
def Uj:TE:=λ_ H Q=>∀p,H p=none->Q (.ref p) (upd H p (.dK []))
def Uk:TE:=λ_ H Q=>∀p,H p=none->Q (.ref p) (upd H p (.dT []))
section
variable{X:Cx}{pos:Pos}
theorem pC:PE X (.Dict [] [] pos) Uj:=λpins s σ H Q I h=>
 wpAny_Dict_empty #[.ref s.heap.objs.size,_,I.laid (λ_ _ q=>aI _ q) ∅ (D5 s.heap I.big),rfl,h _ (I.hok.fresh ∅)]
theorem L9:PE X (.Dict [] [] pos) Uk:=λpins s σ H Q I h=>
 wpAny_Dict_empty #[.ref s.heap.objs.size,_,I.laid (λ_ _ q=>aI _ q) ∅ (L8 s.heap I.big),rfl,h _ (I.hok.fresh ∅)]
end
def Cp:List (TE×TE)->St->Hp->(List (V×V)->Hp->Prop)->Prop
 | [],_,H,Q=>Q [] H
 |(tk,tv)::r,σ,H,Q=>tk σ H λx H1=>tv σ H1 λy H2=>Cp r σ H2 λps H3=>Q ((x,y)::ps) H3
abbrev VV:List (V×V)->List (aF×aF)->Prop:=nH λp q=>RelV p.1 q.1/\RelV p.2 q.2
def XF(X:Cx)(pos:Pos)(keys:List (Option bK))(values:List bK)(JW:List (TE×TE)):Prop:=
 ∀(pins:List (aH×Obj))(s:aS)(σ:St)(H:Hp)(Q:List (V×V)->Hp->Prop),Inv X pins σ H s->Cp JW σ H Q->
  wpAny (model X.prog X.w) X.A (evalPairs (pairTrees keys values X.env pos)) (λvs s'=>∃ps H',Inv X pins σ H' s'/\VV ps vs/\Q ps H') X.xe s
theorem Il:XF X pos [] [] []:=λpins s σ H Q I h=>pairTrees_nil_walk #[[],H,I,.nil,h]
theorem rG{k v:bK}{ks:List (Option bK)}{vs:List bK}{tk tv:TE}(hk:PE X k tk)(hv:PE X v tv)(hr:XF X pos ks vs JW):
  XF X pos (some k::ks) (v::vs) ((tk,tv)::JW):=λpins s σ H Q I h=>
 pairTrees_cons_walk (gN (hk pins s σ H _ I h) λu s1 #[x,H1,I1,rx,q1]=>gN (hv pins s1 σ H1 _ I1 q1) λw2 s2 #[y,H2,I2,ry,q2]=>
  gN (hr pins s2 σ H2 _ I2 q2) λws s3 #[ps,H3,I3,rel,q3]=>#[_,H3,I3,.cons #[rx,ry] rel,q3])
def rH(kvs more:List (Key×V)):List (Key×V):=more.foldl (λacc kv=>putK acc kv.1 kv.2) kvs
theorem KV.merge:∀{more:List (Key×V)}{rs:List (Key×aF)}{kvs:List (Key×V)}{vs:List (Key×aF)},KV more rs->KV kvs vs->KV (rH kvs more) (merged vs rs):=by
 intro more rs kvs vs r
 induction r generalizing kvs vs with
 |nil=>intro q;exact q
 | @cons p q ps qs h t ih=>
  intro r0;have e:KV (putK kvs p.1 p.2) (stored vs q.1 q.2):=by
   have:=r0.put p.1 h.2;rwa[<-h.1]
  exact ih e
theorem tP:∀(more kvs:List (Key×V)),(rH kvs more).length<=kvs.length+more.length
 | [],kvs=>by show kvs.length<=kvs.length+0;omega
 |p::r,kvs=>by
  have h1:=tP r (putK kvs p.1 p.2);have h2:=mE kvs p.1 p.2
  show(rH (putK kvs p.1 p.2) r).length<=_
  rw[bf];omega
theorem yT{P:bA}{w:cn}:∀{kvs:List (Key×V)}{ws:List (aF×aF)},VV (kvs.map λkv=>(kV kv.1,kv.2)) ws->∃rs,Carries (e8 P w) ws rs/\KV kvs rs
 | [],_,r=>by rw[jo]at r;cases r;exact#[[],f9,.nil]
 |p::kvs,_,r=>by
  cases r with
  | @cons a b as bs h t=>
   obtain⟨rs,c,q⟩:=yT t;obtain⟨b1,b2⟩:=b;exact#[(p.1,b2)::rs,#[rE h.1,rfl,c],.cons #[rfl,h.2] q]
def XG(JW:List (TE×TE)):TE:=λσ H Q=>∀p,H p=none->Cp JW σ (upd H p (.dK [])) λps H2=>H2 p=some (.dK [])/\∃kvs:List (Key×V),ps=kvs.map (λkv=>(kV kv.1,kv.2))/\kvs.length<=15/\Q (.ref p) (upd H2 p (.dK (rH [] kvs)))
theorem Im{keys:List (Option bK)}{values:List bK}(h:XF X pos keys values JW)(D1:keys.all (·.isSome)=true)(hl:keys.length=values.length)(h0:keys≠[])
  (h15:keys.length<=15):PE X (.Dict keys values pos) (XG JW):=by
 intro pins s σ H Q I q;have hn:=I.hok.fresh (aT s.heap.objs.size);have I1:=I.laid (t':=s.toks) (λ_ _ q=>aI _ q) ∅ (D5 s.heap I.big)
 refine wpAny_Dict_walk (knd:=e8 X.prog X.w) D1 hl h0 h15 (gN (h pins _ σ _ _ I1 (q _ hn)) λws s2 #[ps,H2,I2,rel,e,kvs,ep,lk,q2]=>?_)
 subst ep;obtain⟨rs,c,rk⟩:=yT rel;obtain⟨z,hd,vs0,r0,dd⟩:=D3 I2.hok e;cases r0;refine#[rs,c,dd,λh' Lc hs=>#[.ref s.heap.objs.size,_,?_,rfl,q2]]
 have hz:(rH [] kvs).length<=sizeLine:=by
  have h1:=tP kvs [];rw[df]at h1;rw[dN];omega
 have he:∃q,h'.get? s.heap.objs.size=some q:=let#[q,_,_,hq,_]:=Lc;#[q,hq];exact yh I2 (by rw[e];exact f9) hs he (Ck hz hd (rk.merge .nil) Lc)
structure M2(X:Cx)(o:bK)(m:Str)(apos:Pos)(e f:bK)(pw:Pos):Prop where
 base:yc X o m
 few:FJ X pw [e,f]
 line:(apos.endLine==pw.line)=true
 trees:backTo pw (starEach [e,f] X.env)=[(false,eval e X.env),(false,eval f X.env)]
def IsD(H:Hp)(a:aH):Prop:=(∃kvs,Rd H a (.dK kvs))\/∃kvs,Rd H a (.dT kvs)
theorem L_{σ:St}(I:Inv X pins σ H s)(d:IsD H a):
  s.TypeIs (.ref a) "dict"/\(∀b,d_ a=.ref b->∃ob,s.heap.get? b=some ob/\ob.dict=none)/\(a==sysModules)=false:=by
 rcases d with⟨kvs,e⟩|⟨kvs,e⟩
 ·obtain⟨_,hd,vs,_,dd⟩:=yR I.hok e
  refine#[dd.typeIs,λb q=>?_,hd]
  cases q;obtain⟨ob,_,_,h1,h2,_⟩:=dd;exact#[ob,h1,h2.2.1]
 ·obtain⟨_,hd,xs,_,dd⟩:=yS I.hok e
  refine#[dd.typeIs,λb q=>?_,hd]
  cases q;obtain⟨ob,_,_,h1,h2,_⟩:=dd;exact#[ob,h1,h2.2.1]
section
variable{X:Cx}{pins:List (aH×Obj)}{σ:St}{H:Hp}{s:aS}{a:aH}{y d:V}{u r:aF}{o:Option V}{A:dO}{E:aF->aS->Prop}
theorem Ul(hu:A.units+1<cLine)(I:Inv X pins σ H s)(g:nQ H a y o)(ry:RelV y u)(rd:RelV d r)(h:∀w' s',Inv X pins σ H s'->RelV (o.getD d) w'->Q w' s'):
  wpAny (model X.prog X.w) A (call (.builtin "dict.get") [.ref a,u,r]) Q E s:=by
 rcases g with⟨kvs,k,e,ey,l⟩|⟨kvs,k,b,e,ey,eb,l⟩
 ·subst ey
  obtain⟨z,hd,vs,rel,dd⟩:=yR I.hok e;refine call_meetsIn qR dd.typeIs B1 (AX _ _ _) (meets_dict_get_default _ a (rE ry) hd r) #[_,dd.mapOf,h _ _ (I.tok _) ?_]
  rw[l];exact(rel.val k).getD rd
 ·subst ey
  cases(show u=d_ b from ry)
  obtain⟨z,hd,xs,rel,dd⟩:=yS I.hok e;refine call_meetsIn qR dd.typeIs B1 (AX _ _ _) (meetsH_dict_get_default (tupleKind _) a b hd r) #[lP hu,k,xs,rF I.hok eb,dd,h _ _ (I.tok _) ?_]
  rw[l];exact(rel.val k).getD rd
end
def Um(td ty tx:TE):TE:=λσ H Q=>td σ H λx H1=>∃a,x=.ref a/\IsD H1 a/\ty σ H1 λy H2=>tx σ H2 λz H3=>∃o,nQ H3 a y o/\Q (o.getD z) H3
section
variable{X:Cx}{o e f:bK}{apos pw:Pos}{td ty tx:TE}
theorem D6(hu:X.A.units+1<cLine)(ho:PE X o td)(he:PE X e ty)(hf:PE X f tx)(m:M2 X o "get" apos e f pw):PE X (.Call (.Attribute o "get" apos) [e,f] [] pw) (Um td ty tx):=by
 intro pins s σ H Q I h;refine wpAny_Call_method m.base m.few m.line AY qR PySem.F.type_dict_get (gN (ho pins s σ H _ I h) λu s1 #[x,H1,I1,rx,a,ex,d,q1]=>?_)
 subst ex;obtain rfl:u=d_ a:=rx;obtain⟨t1,t2,_⟩:=L_ I1 d;refine#[t1,t2,?_]
 rw[m.trees];refine lK rfl (tq (kU (gN (he pins s1 σ H1 _ I1 q1) λiv s2 #[y,H2,I2,ry,q2]=>
  kU (gN (hf pins s2 σ H2 _ I2 q2) λfv s3 #[z,H3,I3,rz,ov,g,q3]=>vW ?_))))
 exact Ul hu I3 g ry rz λw' s4 I4 sF=>#[_,H3,I4,sF,q3]
end
section
variable{X:Cx}{pins:List (aH×Obj)}{σ:St}{H:Hp}{s:aS}{a:aH}{kvs:List (Key×V)}{A:dO}{E:aF->aS->Prop}
end
def zgK(o:Array (Option Nat)):Nat:=o.toList.countP Option.isSome
section
variable{prog:bA}{w:cn}{A:dO}{E:aF->aS->Prop}{s:aS}
end
section
variable{prog:bA}{w:cn}{A:dO}{R:vV->aS->Prop}{I:aH}{fp wr:List aH}{G:Array tf->Array tf->Prop}{n:Nat}{P:Nat->aF->Prop}{St:Nat->aS->Prop}
theorem Ma(W:WalksS prog w A.in1 I fp wr G n P St)(S:aH)(Uo:S∉fp)(T:Nat->cX->Prop)(keep:∀i h h',T i h->(∀b o,b∉wr->h.get? b=some o->h'.get? b=some o)->T i h')
  (add:∀i v (s:aS) (Q:Bool->aS->Prop) (E:aF->aS->Prop),i<n->P i v->T i s.heap->(∀h' tk b,s.toks<=tk->iz S s.heap h'->T (i+1) h'->Q b { s with heap:=h',toks:=tk })->wpAny (model prog w) A.in1 (setAdd S v) Q E s):
  ∀(k i:Nat)(s:aS),n-i=k->i<=n->St i s->T i s.heap->(∀s',Moved (S::wr) G s s'->T n s'.heap->R (.ok (.ret .none)) s')->
   codeAny (model prog w) A (.builtin "set.update.loop" #[[.ref S,.ref I],[]]) R s:=by
 have F7:∀b∈wr,b∈S::wr:=λb hb=>aN _ hb
 intro k
 induction k with
 |zero=>
  intro i s hk hi Lx hS hR;have D7:i=n:=∅
  subst D7;refine lM HS ?_
  refine aD (W.done s _ _ Lx λs' hm=>?_)
  exact bx (hR s' (hm.mono F7) (keep _ _ _ hS λb o hb e=>hm.heap b o hb e))
 |succ k ih=>
  intro i s hk hi Lx hS hR;have m_:i<n:=∅
  refine lM HS ?_
  refine aD (W.item i s _ _ m_ Lx λv s' hP Up hm=>?_)
  have Uq:=keep _ _ _ hS λb o hb e=>hm.heap b o hb e
  refine aD (q_ ?_)
  refine add i v s' _ _ m_ hP Uq λh' tk b V' Ur hT=>?_
  refine bx #[x6 F.plain_set_update_loop _,ih (i+1) _ ∅ m_ (W.frame _ s' _ _ Up V' λb hb o e=>?_) hT λRT Us Ut=>?_]
  ·rwa[Ur.2 b (λh:b=S=>Uo (by rw[<-h];exact hb))]
  ·refine hR RT (Moved.trans W.gtrans ((hm.mono F7).then_heap V' λb o hb e=>?_) Us) Ut
   rwa[Ur.2 b (λh:b=S=>hb (by rw[h];exact aM))]
end
section
variable{prog:bA}{w:cn}{A:dO}{E:aF->aS->Prop}{s:aS}
abbrev jL(led:Bool):Obj:={ cls:=.type "set",dict:=none,data:=.set #[] 0 (.fresh 0 0 led) }
end
end L2
namespace L2
open PySem
end L2
namespace L2
open PySem PySem.Spec PyProof.Rows
variable{a:aH}{b k1 k2:Bool}{op:FC}{X:Cx}{env:Env}{e:bK}{o:HO}{H H' H0:Hp}{g:Int->Int->Int}{pins:List (aH×Obj)}{cl:List (Str×aH)}{elts:List bK}{cap:List Nat}{R:List aj->List aj->Prop}{own:List Str}{vs xs:List V}{r:List V->Hp->VK->Prop}{i n:Nat}{p p2 pos tp:Pos}{P:bA}{d:aj}{F:aj->Option aj}{K:aq}{sc:kH}{s:aS}{σ:St}{x:Str}{id:String}{w:cn}
abbrev PB:aF->aS->Prop:=λ_ _=>False
abbrev testsOf(ifs:List bK)(env:Env):Sem Bool:=
 forIn ifs true λc r=>if r=true then(do let ok <-isTrue c env (eval c env);pure (pU ok))else pure (pU r)
theorem JZ{A:dO}{R:vV->aS->Prop}{elt tg iter:bK}{ifs:List bK}{it acc:aF}(J:Nat->aS->Prop)
  (turn:∀n s,J n s->wpAny (model P w) A (pyNext it) (λr s1=>match r with
   |none=>R (.ok .next) s1
   |some v=>wpAny (model P w) A (letOwnedTupleGo tg it v) (λ_ s2=>wpAny (model P w) A (assign tg env v) (λ_ s3=>
     wpAny (model P w) A (testsOf ifs env) (λok s4=>if ok=true then wpAny (model P w) A (eval elt env) (λx s5=>
       wpAny (model P w) A (call (.builtin "list.append") [acc,x]) (λ_ s6=>∃m,m<n/\J m s6) PB s5) PB s4
      else ∃m,m<n/\J m s4) PB s3) PB s2) PB s1) PB s)
  (h:J n s):codeAny (model P w) A (.compLoop (.ListComp elt [#[tg,iter,ifs,0]] sc pos) 0 it acc env) R s:=by
 refine codeAny_loop rfl J (λn s hJ=>?_) n h
 refine wpAny_noted ?_
 refine aD (x5 (aD (il (turn n s hJ) (λr s1 h1=>?_) λ_ _ f=>f.elim)))
 cases r with
 |none=>exact bx h1
 |some v=>
  refine aD (il h1 (λ_ s2 h2=>?_) λ_ _ f=>f.elim)
  refine aD (il h2 (λ_ s3 h3=>?_) λ_ _ f=>f.elim)
  refine aD (il h3 (λok s4 h4=>?_) λ_ _ f=>f.elim)
  cases ok with
  |false=>exact bx #[rfl,h4]
  |true=>
   exact aD (aD (il h4 (λx s5 h5=>(aD (il h5 (λ_ s6 h6=>bx (bx #[rfl,h6])) λ_ _ f=>f.elim))) λ_ _ f=>f.elim))
def pD(env:Env):List (Str×nY)->List (Str×aH)->Option (List (Str×aH))
  | [],acc=>some acc
  | (n,k)::r,acc=>if(k==eK)=true then(match env.cells.lookup n with
      | some c=>pD env r ((n,c)::acc)
      | none=>none)else pD env r acc
theorem Cq(env:Env):∀(names:List (Str×nY))(acc cl:List (Str×aH)),pD env names acc=some cl->
  (forIn names acc λ(x:Str×nY)(r:List (Str×aH))=>if(x.2==eK)=true then(do let c <-cellOf env x.1;pure (pU ((x.1,c)::r)))else pure (pU r):Sem (List (Str×aH)))=pure cl
 | [],acc,cl,h=>by
  simp[pD,g0]at h;subst h;rfl
 |(n,k)::r,acc,cl,h=>by
  rw[List.forIn_cons];unfold pD at h;by_cases hk:(k==eK)=true
  ·rw[qQ3 hk]at h
   rw[qQ3 (show((n,k).2==eK)=true from hk)]
   cases e:env.cells.lookup n with
   |none=>rw[e]at h;cases h
   |some c=>
    rw[e]at h;have e2:cellOf env (n,k).1=pure c:=by unfold cellOf;rw[show k6 (n,k).1 env.cells=some c from e]
    rw[e2,pure_bind,pure_bind];exact Cq env r _ cl h
  ·rw[qQ2 hk]at h
   rw[qQ2 hk,pure_bind]
   exact Cq env r acc cl h
theorem Io(h:pD env sc.names []=some cl):closureFor sc env=pure cl:=by
 unfold closureFor;have:=Cq env sc.names [] cl h;simp only[bind_pure];exact this
theorem vd{env:Env}:∀{names:List (Str×nY)}{acc cl:List (Str×aH)},pD env names acc=some cl->(∀x c,acc.lookup x=some c->env.cells.lookup x=some c)->∀x c,cl.lookup x=some c->env.cells.lookup x=some c
 | [],acc,cl,h,ha=>by
  simp[pD,g0]at h;subst h;exact ha
 |(n,k)::r,acc,cl,h,ha=>by
  unfold pD at h;by_cases hk:(k==eK)=true
  ·rw[qQ3 hk]at h
   cases e:env.cells.lookup n with
   |none=>rw[e]at h;cases h
   |some c=>
    rw[e]at h;refine vd h λx d hx=>?_
    rw[eP]at hx;cases Z4:x==n with
    |true=>
     rw[Z4]at hx;have:x=n:=by simpa using Z4
     subst this;rwa[e]
    |false=>rw[Z4]at hx;exact ha x d hx
  ·rw[qQ2 hk]at h
   exact vd h ha
theorem vf{env:Env}:∀{names:List (Str×nY)}{acc cl:List (Str×aH)},pD env names acc=some cl->∀x,((x,eK)∈names\/∃c,acc.lookup x=some c)->∃c,cl.lookup x=some c
 | [],acc,cl,h,x,hx=>by
  simp[pD,g0]at h;subst h;rcases hx with hx|hx
  ·exact qQ7 hx (by simp)
  ·exact hx
 |(n,k)::r,acc,cl,h,x,hx=>by
  unfold pD at h;by_cases hk:(k==eK)=true
  ·rw[qQ3 hk]at h
   cases e:env.cells.lookup n with
   |none=>rw[e]at h;cases h
   |some c=>
    rw[e]at h;refine vf h x ?_
    rcases hx with hx|⟨d,hx⟩
    ·rcases ax.mp hx with hx|hx
     ·cases hx
      exact .inr #[c,by simp[eP]]
     ·exact .inl hx
    ·refine .inr ?_
     rw[eP];cases Z4:x==n with
     |true=>exact#[_,rfl]
     |false=>exact#[d,hx]
  ·rw[qQ2 hk]at h
   refine vf h x ?_
   rcases hx with hx|hx
   ·rcases ax.mp hx with hx|hx
    ·cases hx;exact qQ7 rfl hk
    ·exact .inl hx
   ·exact .inr hx
theorem vg{env:Env}:∀{names:List (Str×nY)}{x:Str},names.lookup x=some .free->
  (names.map λ(n,k)=>if(k==eK&&env.scope.kind == .function&&env.kindOf n==some .cell) then(n,lQ) else(n,k)).lookup x=some .cell\/
   (names.map λ(n,k)=>if(k==eK&&env.scope.kind == .function&&env.kindOf n==some .cell) then(n,lQ) else(n,k)).lookup x=some .free
 | [],x,h=>by simp at h
 |(n,k)::r,x,h=>by
  have ih:=@vg env r x;rw[aA]
  dsimp only
  by_cases hb:(k==eK&&env.scope.kind == .function&&env.kindOf n==some .cell)=true
  ·rw[qQ3 hb]
   cases hx:x==n with
   |true=>simp[eP,hx]
   |false=>
    simp only[eP,hx]at h ⊢;exact ih h
  ·rw[qQ2 hb]
   cases hx:x==n with
   |true=>
    simp[eP,hx]at h ⊢;exact .inr h
   |false=>
    simp only[eP,hx]at h ⊢;exact ih h
theorem w_{env:Env}:∀{names:List (Str×nY)}{x:Str},(∀y∈names,y.2≠lQ)->
  ((names.map λ(n,k)=>if(k==eK&&env.scope.kind == .function&&env.kindOf n==some .cell) then(n,lQ) else(n,k)).lookup x=some .cell\/
   (names.map λ(n,k)=>if(k==eK&&env.scope.kind == .function&&env.kindOf n==some .cell) then(n,lQ) else(n,k)).lookup x=some .free)->(x,eK)∈names
 | [],x,_,h=>by simp at h
 |(n,k)::r,x,hc,h=>by
  have ih:=@w_ env r x λy hy=>hc y (aN _ hy)
  have Z5:=hc (n,k) aM;rw[aA]at h
  dsimp only at h
  by_cases hb:(k==eK&&env.scope.kind == .function&&env.kindOf n==some .cell)=true
  ·have hk:k=eK:=by
    simp only[qM]at hb;simpa using hb.1.1
   rw[qQ3 hb]at h;cases hx:x==n with
   |true=>
    have:x=n:=by simpa using hx
    subst this;rw[hk];exact aM
   |false=>
    simp only[eP,hx]at h;exact aN _ (ih h)
  ·rw[qQ2 hb]at h
   cases hx:x==n with
   |true=>
    have:x=n:=by simpa using hx
    subst this;simp[eP,beq_self_eq_true,g0]at h;rcases h with h|h
    ·exact qQ7 h Z5
    ·rw[h];exact aM
   |false=>
    simp only[eP,hx]at h;exact aN _ (ih h)
def fK(X:Cx)(sc:kH)(N:List Str)(cl:List (Str×aH))(fp:List aH)(s:aS)(H:Hp):Cx where
 prog:=X.prog
 w:=X.w
 K:=X.K
 mg:=X.mg
 base:=X.base
 A:=X.A
 N:=N
 s₀:=s
 H₀:=H
 env:=compEnvC sc cl s.heap.objs.size X.env
 outer:=X.stack
 stack:=X.stack
 ex:=fp
 fn:=λ_=>false
 calm:=X.calm
 pn:=[]
 xe:=PB
structure jU(X:Cx)(sc:kH)(own:List Str)(cap:List Nat)(N:List Str)(cl:List (Str×aH)):Prop where
 kind:sc.kind=.function
 Mb:∀y∈sc.names,y.2≠lQ
 loc:∀y∈sc.names,y.2=.local->sc.names.lookup y.1=some .local
 clos:pD X.env sc.names []=some cl
 names:N=own++cap.map λi=>X.N.getD i gi
 XH:∀i∈cap,i<X.N.length/\(X.env.kindOf (X.N.getD i gi)=some .cell\/X.env.kindOf (X.N.getD i gi)=some .free)/\sc.names.lookup (X.N.getD i gi)=some .free
def mR(own:List Str)(cap:List Nat)(σ:St):St:=bw own.length none++cap.map λi=>σ.getD i none
section
variable{X:Cx}{pins:List (aH×Obj)}{σ:St}{H:Hp}{s:aS}{sc:kH}{own N:List Str}{cap:List Nat}{cl:List (Str×aH)}{fp:List aH}{tg:bK}{J:It}{it:aH}{tn:Nat->cX->Prop}
theorem Md{h4:cX}{t4:Nat}(CS:jU X sc own cap N cl)(I:Inv X pins σ H s)(T:Turn X.prog X.w X.K tg J fp it tn)(st:tn 0 s.heap)(hf:∀b∈fp,uZ X pins H b)
  (D:aH)(hD:D=s.heap.objs.size)(s3:aS)(h3:s3={ s with heap:=s.heap.push { cls:=.type "list",dict:=none,data:=.seq ([]:List aF).toArray } })
  (OL:h4.Ns s3.heap.objs.size (λ_=>none))(hk:∀b o,s3.heap.get? b=some o->h4.get? b=some o):
  Inv (fK X sc N cl fp s3 (upd H D (.lst []))) [] (mR own cap σ) (upd H D (.lst [])) { s3 with heap:=h4,toks:=t4 }:=by
 subst hD;have k3:∀b o,s.heap.get? b=some o->s3.heap.get? b=some o:=λb o e=>by rw[h3];exact aI _ e
 have z3:s3.heap.objs.size=s.heap.objs.size+1:=by rw[h3];exact g8 ..
 have I3:Inv X pins σ (upd H s.heap.objs.size (.lst [])) s3:=by
  rw[h3];exact I.laid (λb o e=>aI _ e) ∅ #[bj _,[],0,.nil,bE _ rfl]
 have PD:∀b∈fp,b<s.heap.objs.size:=λb hb=>by
  obtain⟨o,e,_⟩:=T.obj 0 _ st b hb;exact a8 e
 have PF:∀b,b<s.heap.objs.size->b≠s3.heap.objs.size:=λb hb=>by rw[z3];exact a9 ∅
 have qf:=vd CS.clos λx c h=>by simp at h
 have ok:(fK X sc N cl fp s3 (upd H s.heap.objs.size (.lst []))).Ok:=by
  refine#[I.ok.mod,CS.kind,I.ok.glob,I.ok.blt,aT _,λx y c hx hy=>I.ok.inj x y c (qf x c hx) (qf y c hy),λx hx=>?_,λx c hx _=>qQ7 hx jm,I.ok.hd,I.ok.frames,.inl rfl,λb hb=>#[?_,λx c hx=>?_],λb o e=>?_,?_,λb o e hb=>?_,λb hb hs=>?_,?_,?_]
  ·exact vf CS.clos x (.inl (w_ CS.Mb hx))
  ·exact PF b (PD b hb)
  ·exact(hf b hb).2.2.2.2.1 x c (qf x c hx)
  ·exact I3.bs b o e
  ·exact bU I.ok.RH (bU I.sz (by show s.heap.objs.size<=s3.heap.objs.size;rw[z3];exact Nat.le_succ _))
  ·rcases(hf b hb).2.2.2.1 with z|z
   ·exact I.ok.Ln b o e z
   ·exact qQ7 (b_ (a8 (I.ok.bs b o e).1) z) ∅
  ·rcases ax.mp (I.B8 b hs)with z|z
   ·exact(hf b hb).2.1 z
   ·exact(hf b hb).2.2.1 z
  ·exact I3.stack
  ·exact I3.HZ
 have frC:∀b,s.heap.objs.size<b->(upd H s.heap.objs.size (.lst [])) b=none:=λb hb=>by
  rw[aL (gu hb)];exact I.hok.fresh ∅
 refine#[ok,?_,I3.bare,Un.kept hk,#[_,OL,λi x v e1 e2 e3=>?_],λx c hx=>?_,?_,λx c hx=>?_,λp hp=>qQ7 (show p∈([])from hp) (by simp),I3.hok.kept hk,?_]
 ·rfl
 ·have Uu:=e2
  have XI:N[i]?=some x:=e1;unfold mR at Uu;by_cases hi:i<own.length
  ·rw[bX ↑hi,ei]at Uu
   split at Uu<;>cases Uu
  ·rw[bO ↑(gZ hi),dH,ay]at Uu
   rw[CS.names,bO ∅,ay]at XI
   cases ec:cap[i-own.length]? with
   |none=>rw[ec]at XI;cases XI
   |some j=>
    rw[ec]at XI Uu;have ex:X.N.getD j gi=x:=by simpa using XI
    have ev:σ.getD j none=some v:=by simpa using Uu
    obtain⟨hj,DY,wg⟩:=CS.XH j (aK ec);rw[ex]at DY wg;obtain⟨m,hn,hl⟩:=I.loc;have hxj:X.N[j]?=some x:=by
     rw[<-ex,aO,av hj];rfl
    have hvj:σ[j]?=some (some v):=by
     have:j < σ.length:=by rw[I.len];exact hj
     rw[aO,av this]at ev
     rw[av this]
     exact qQ6 some ev
    obtain⟨u,r,l⟩:=hl j x v hxj hvj (by
     rcases DY with z|z
     ·exact .inr (.inl z)
     ·exact .inr (.inr z))
    refine#[u,r,?_]
    rcases l with⟨k,_⟩|⟨k,c,e,z⟩
    ·rcases DY with z|z<;>(rw[z]at k;cases k)
    ·obtain⟨c',ec'⟩:=vf CS.clos x (.inl (iN wg))
     have:c'=c:=by
      have:=qf x c' ec';rw[e]at this;exact(cG this).symm
     subst this;refine .inr #[?_,c',ec',?_]
     ·exact vg wg
     ·obtain⟨o,ho,hd⟩:=z
      exact#[o,hk _ _ (k3 _ _ ho),hd]
 ·obtain⟨v,o,ho,hd⟩:=I.cell x c (qf x c hx)
  exact#[v,o,hk _ _ (k3 _ _ ho),hd]
 ·exact frC _ (by show s.heap.objs.size<s3.heap.objs.size;rw[z3];exact yC _)
 ·obtain⟨v,o,ho,hd⟩:=I.cell x c (qf x c hx)
  rw[aL (a9 (a8 ho))];exact I.pq x c (qf x c hx)
 ·show(mR own cap σ).length=N.length
  unfold mR;rw[CS.names];simp
theorem Inv.yi{h':cX}{t':Nat}{ch:List aH}(I:Inv X pins σ H s)(k:∀b o,b∉ch->s.heap.get? b=some o->h'.get? b=some o)(hf:∀b∈ch,uZ X pins H b):Inv X pins σ H { s with heap:=h',toks:=t' }:=by
 have WZ:∀b u,H b=some u->b∉ch:=λb u e z=>by rw[(hf b z).1]at e;cases e
 refine I.step (λb hb=>#[(hf b hb).2.2.2.1,(hf b hb).2.1,(hf b hb).2.2.2.2.1,(hf b hb).2.2.2.2.2]) (λb o _ _ hc e _=>k b o hc e) (λb o _ _ hc e _=>#[o.slots,k b o hc e]) (λ_ _ _ _ n=>n)
  (λb o hc e=>#[o,k b o hc e]) (λ_ _ e=>e) (λ_ _ _ e=>e) (λb ps e=>#[#[],by rw[e];simp]) (λm hm=>?_) (λb u e=>?_) I.bare
 ·obtain⟨o,es,ep,ho,r⟩:=hm
  exact#[o,es,ep,k _ o (λz=>(hf _ z).2.1 rfl) ho,r]
 ·refine(I.hok b u e).stay (λc v hc q=>k c v ?_ q) (λ_ q=>q) λ_ _ q=>q
  rcases hc with z|z
  ·rw[z];exact WZ b u e
  ·exact WZ c _ z
theorem Inv.track(I:Inv X pins σ H s)(f:uZ X pins H a)(new:iT X.prog X.w (upd H a o) s.heap a o):Inv X pins σ (upd H a o) s:=by
 obtain⟨f0,f1,f2,f3,f4,f5⟩:=f;have ne:∀b u,H b=some u->b≠a:=λb u e=>bC e f0
 refine#[I.ok,I.os,I.bare,#[I.base.keep,I.base.slot,λb ob e n hx=>?_,I.base.there,λb xs e=>?_,λb ob u e=>?_,λb ps e=>?_],I.loc,I.cell,?_,λx c e=>?_,λp hp=>?_,λb u e=>?_,I.len]
 ·have nb:b≠a:=λz=>by
   subst z;rcases f3 with z|z
   ·exact hx z
   ·exact qQ7 (b_ (a8 e) z) ∅
  rw[aL nb];exact I.base.free b ob e n hx
 ·have q:=I.base.tups b xs e
  rwa[aL (ne _ _ q)]
 ·have q:=I.base.v5 b ob u e
  rwa[aL (ne _ _ q)]
 ·obtain⟨more,q⟩:=I.base.yF b ps e
  exact#[more,by rw[aL (ne _ _ q)];exact q]
 ·rw[aL (bJ f1)]
  exact I.free
 ·rw[aL (f4 x c e)]
  exact I.pq x c e
 ·obtain⟨e,n,r⟩:=I.pin p hp
  exact#[e,by rw[aL (f5 p hp)];exact n,r]
 ·by_cases hb:b=a
  ·subst hb
   rw[aZ]at e;cases e;exact new
  ·rw[aL hb]at e
   exact(I.hok b u e).stay (λ_ _ _ q=>q) (λc q=>by rw[aL (ne _ _ q)];exact q) λc xs q=>by rw[aL (ne _ _ q)];exact q
end
def XJ(X:Cx)(ifs:List bK)(t:TT):Prop:=
 ∀(pins:List (aH×Obj))(s:aS)(σ:St)(H:Hp)(Q:Bool->Hp->Prop),Inv X pins σ H s->t σ H Q->wpAny (model X.prog X.w) X.A (testsOf ifs X.env) (TP X pins σ Q) X.xe s
def zbq:TT:=λ_ H Q=>Q true H
theorem PH:XJ X [] zbq:=λ_ _ _ H _ I h=>wpAny_tests_nil #[H,I,h]
theorem PJ{c:bK}{t:TT}(h:PT X c t):XJ X [c] t:=λpins s σ H Q I q=>wpAny_tests_one (h pins s σ H Q I q)
def pE(J:It)(g:TG)(tc:TT)(te:TE)(σ:St)(H:Hp)(Q:VK):Prop:=
 ∀D,H D=none->∃W:Nat->Nat->List V->St->Hp->Prop,(∃m,W 0 m [] σ (upd H D (.lst [])))/\∀i m ys σ' H',W i m ys σ' H'->
  (J.stop i H'/\Q (.ref D) H')\/(J.go i H'/\∀x H2,J.Xa i H' x H2->g x σ' H2 λσ3 H3=>tc σ3 H3 λb H4=>if b=true then te σ3 H4 λy H5=>
   H5 D=some (.lst ys)/\ys.length<sizeLine/\∃m',m'<m/\W (i+1) m' (ys ++ [y]) σ3 (upd H5 D (.lst (ys ++ [y])))else ∃m',m'<m/\W (i+1) m' ys σ3 H4)
def R1(own:List Str)(cap:List Nat)(wi:TI)(g:TG)(tc:TT)(te:TE):TE:=λσ H Q=>wi σ H λJ H1=>pE J g tc te (mR own cap σ) H1 Q
section
variable{X:Cx}{pins:List (aH×Obj)}{σ:St}{H:Hp}{s:aS}{sc:kH}{own N:List Str}{cap:List Nat}{cl:List (Str×aH)}{fp:List aH}{tg elt iter:bK}{ifs:List bK}{J:It}{it:aH}{tn:Nat->cX->Prop}{g:TG}{tc:TT}{te:TE}{wi:TI}{pos:Pos}
theorem Be{RR:aF->aH->vV->aS->Prop}{E:aF->aS->Prop}{Q:VK}(hc:X.calm=true)(CS:jU X sc own cap N cl)(I:Inv X pins σ H s)(T:Turn X.prog X.w X.K tg J fp it tn)(st:tn 0 s.heap)(hf:∀b∈fp,uZ X pins H b)
  (hg:∀f s3 H3,PG (fK X sc N cl f s3 H3) tg g)(ht:∀f s3 H3,XJ (fK X sc N cl f s3 H3) ifs tc)(he:∀f s3 H3,PE (fK X sc N cl f s3 H3) elt te)
  (h:pE J g tc te (mR own cap σ) H Q)
  (fin:∀D C H' s',Inv X pins σ H' s'->(∃m,s'.heap.Ns C m)->uZ X pins H' C->Q (.ref D) H'->RR (.ref D) C (.ok .next) s'):
  wpAny (model X.prog X.w) X.A (newList []) (λacc s₃=>wpAny (model X.prog X.w) X.A (newFunctionEnv sc X.env.globals cl [] X.env.qual none .none (some X.env)) (λXM s₄=>
   codeAny (model X.prog X.w) X.A (.compStart (.ListComp elt [#[tg,iter,ifs,0]] sc pos) 0 (.ref it) acc { XM with scope:=relabel sc X.env }) (RR acc XM.locals) s₄) E s₃) E s:=by
 refine fW (wpAny_newFunctionEnv CS.Mb (λy hy=>qQ7 hy (by simp)) (λh4 OL Ur=>?_) CS.kind)
 have hD:=I.fresh;obtain⟨W,⟨m0,w0⟩,turn⟩:=h s.heap.objs.size hD
 generalize XO:({ s with heap:=s.heap.push { cls:=.type "list",dict:=none,data:=.seq ([]).toArray } }:aS)=s3 at *
 have h3:=XO.symm
 have z3:s3.heap.objs.size=s.heap.objs.size+1:=by rw[h3];exact g8 ..
 have k3:∀b o,s.heap.get? b=some o->s3.heap.get? b=some o:=λb o e=>by rw[h3];exact aI _ e
 have k4:=λb o e=>Ur.extBut b o (a9 (a8 e)) (aI _ e)
 have PD:∀b∈fp,b<s.heap.objs.size:=λb hb=>by
  obtain⟨o,e,_⟩:=T.obj 0 _ st b hb;exact a8 e
 have Ic:=λt4=>
  Md (t4:=t4) CS I T st hf _ rfl s3 h3 ↑OL k4
 have st4:=T.keep _ _ _ st λb hb o e=>k4 b o (k3 b o e)
 have fr4:∀b∈fp,(upd H s.heap.objs.size (.lst [])) b=none:=λb hb=>by
  rw[aL (a9 (PD b hb))];exact(hf b hb).1
 have stat:∀{H':Hp},(∀b∈fp,H' b=none)->∀b∈fp,uZ (fK X sc N cl fp s3 (upd H s.heap.objs.size (.lst []))) [] H' b:=λ{H'}hn b hb=>by
  refine#[hn b hb,?_,λhs=>?_,.inl hb,λx c hx=>?_,λp hp=>qQ7 (show p∈([])from hp) (by simp)]
  ·show b≠s3.heap.objs.size
   rw[z3];exact a9 (pV (PD b hb))
  ·rcases ax.mp (I.B8 b hs)with z|z
   ·exact(hf b hb).2.1 z
   ·exact(hf b hb).2.2.1 z
  ·exact(hf b hb).2.2.2.2.1 x c (vd CS.clos (λx c h=>by simp at h) x c hx)
 have loop:∀s5:aS,(∃t4,s5={ s3 with heap:=h4,toks:=t4 })->codeAny (model X.prog X.w) X.A (.compLoop (.ListComp elt [#[tg,iter,ifs,0]] sc pos) 0 (.ref it) (.ref s.heap.objs.size) (compEnvC sc cl s3.heap.objs.size X.env))
   (RR (.ref s.heap.objs.size) s3.heap.objs.size) s5:=by
  rintro s5 ⟨t4,rfl⟩
  refine JZ (λn s'=>∃i ys σ' H',Inv _ [] σ' H' s'/\tn i s'.heap/\(∀b∈fp,H' b=none)/\W i n ys σ' H') ?_
   #[0,[],_,_,Ic t4,st4,fr4,w0]
  rintro n s' ⟨i,ys,σ',H',I',yf,fr',w'⟩
  rcases turn i n ys σ' H' w' with⟨stop,q⟩|⟨go,step⟩
  ·refine gN (T.done (fK X sc N cl fp s3 _) rfl rfl rfl hc i [] s' σ' H' PB I' (stat fr') yf stop) λr s6 #[hr,I6]=>?_
   subst hr;have bs:=I6.base;have un:Un (K8 X.stack) fp H H' s.heap s6.heap:=by
    have neD:∀b o,s.heap.get? b=some o->b≠s.heap.objs.size:=λb o e=>a9 (a8 e)
    refine#[λb o e n hb hx=>bs.keep b o (k3 b o e) (by show upd H _ _ b=none;rw[aL (neD b o e)];exact n) hb hx,λb o e n hb hx=>bs.slot b o (k3 b o e) (by show upd H _ _ b=none;rw[aL (neD b o e)];exact n) hb hx,
     λb o e n hx=>bs.free b o (k3 b o e) (by show upd H _ _ b=none;rw[aL (neD b o e)];exact n) hx,λb o e hx=>bs.there b o (k3 b o e) hx,
     λb xs e=>bs.tups b xs (by show upd H _ _ b=_;rw[aL (bC e hD)];exact e),λb o u e=>bs.v5 b o u (by show upd H _ _ b=_;rw[aL (bC e hD)];exact e),λb ps e=>bs.yF b ps (by show upd H _ _ b=_;rw[aL (bC e hD)];exact e)]
   have I7:=I.call' (by rw[I6.os];show s3.os=s.os;rw[h3]) un I6.hok I6.bare λb hb=>#[(hf b hb).2.2.2.1,(hf b hb).2.1,(hf b hb).2.2.2.2.1,(hf b hb).2.2.2.2.2]
   obtain⟨mC,nC,_⟩:=I6.loc;exact fin _ _ H' s6 I7 #[mC,nC] (I.yH (by rw[z3];exact Nat.le_succ _) I6.free) q
  ·refine gN (T.item (fK X sc N cl fp s3 _) rfl rfl rfl hc i [] s' σ' H' PB I' (stat fr') yf go) λr s6 #[u,hr,h6]=>?_
   subst hr;refine gN h6 λ_ s7 #[x,H7,I7,r7,y7,st7,fr7]=>?_
   have back:∀{σ8:St}{H8:Hp}{s8:aS},Inv (fK X sc N cl fp s3 (upd H s.heap.objs.size (.lst []))) ([]++Ca fp s7.heap) σ8 H8 s8->tn (i+1) s8.heap/\∀b∈fp,H8 b=none:=λ{σ8 H8 s8}I8=>by
    refine#[T.keep _ _ _ st7 λb hb o e=>(I8.pin (b,o) (bq _ (bq _ (qc hb e)))).1,λb hb=>?_]
    obtain⟨o,e,d⟩:=T.obj _ _ st7 b hb;exact(I8.pin (b,o) (bq _ (bq _ (qc hb e)))).2.1
   refine gN (hg _ _ _ _ s7 σ' H7 x u _ (I7.pinned (stat fr7) (T.obj _ _ st7)) r7 (step x H7 y7)) λ_ s8 #[σ8,H8,I8,q8]=>?_
   refine gN (ht _ _ _ _ s8 σ8 H8 _ I8 q8) λok s9 #[H9,I9,q9]=>?_
   cases ok with
   |false=>
    obtain⟨m',hm,w9⟩:=q9;exact#[m',hm,i+1,ys,σ8,H9,I9.rC,(back I9).1,(back I9).2,w9]
   |true=>
    rw[qQ3 rfl]at q9 ⊢;refine gN (he _ _ _ _ s9 σ8 H9 _ I9 q9) λxv s10 #[y,H10,I10,r10,D8,hz,m',hm,w10]=>?_
    refine gN (jT _ s10 σ8 H10 (.ref s.heap.objs.size) [y] _ [xv] (λ_ Bf=>Bf=upd H10 s.heap.objs.size _) I10 rfl (.cons r10 .nil) #[_,ys,y,rfl,rfl,D8,hz,rfl]) λ_ s11 #[_,H11,I11,_,e11]=>?_
    subst e11;exact#[m',hm,i+1,_,σ8,_,I11.rC,(back I11).1,(back I11).2,w10]
 exact codeAny_compStart_list (loop _ #[_,rfl]) (T.self _ 0 _ _ _ st4 (loop _ #[_,rfl]))
theorem Cr(hc:X.calm=true)(CS:jU X sc own cap N cl)(hi:PI X tg iter wi)(hg:∀f s3 H3,PG (fK X sc N cl f s3 H3) tg g)(ht:∀f s3 H3,XJ (fK X sc N cl f s3 H3) ifs tc)(he:∀f s3 H3,PE (fK X sc N cl f s3 H3) elt te)
  (hs:HY X iter:=by intro _;rfl):PE X (.ListComp elt [#[tg,iter,ifs,0]] sc pos) (R1 own cap wi g tc te):=by
 intro pins s σ H Q I h;refine wpAny_comprehension_free rfl hs (Io CS.clos) CS.kind CS.loc (gN (hi pins s σ H _ I h) λv s1 h1=>gN h1 λZX s2 h2=>?_)
 obtain⟨it,fp,tn,J,H2,e,I2,T,Xd,f2,q2⟩:=h2;subst e;refine Be hc CS I2 T Xd f2 hg ht he q2 ?_
 intro D C H' s' I' #[m,hn] fC q;exact#[m,hn,λh' sb=>#[.ref D,H',I'.turned (λb o hb e=>(sb.2 b hb).trans e) fC.1 fC.2.1 fC.2.2.2.1 fC.2.2.2.2.1 fC.2.2.2.2.2,rfl,q]]
theorem yU{px wj:Pos}(hN:X.N.Nodup)(XQ:X.N[i]?=some x)(hx:Loc X.env.scope x)(hc:X.calm=true)(CS:jU X sc own cap N cl)(hi:PI X tg iter wi)(hg:∀f s3 H3,PG (fK X sc N cl f s3 H3) tg g)
  (ht:∀f s3 H3,XJ (fK X sc N cl f s3 H3) ifs tc)(he:∀f s3 H3,PE (fK X sc N cl f s3 H3) elt te)(qg:swapsWith (.ListComp elt [#[tg,iter,ifs,0]] sc pos) (some (.Name x px)) wj.line X.env=pure true:=by rfl)
  (hs:HY X iter:=by intro _;rfl)(hf:A0 X x:=by left):
  PS X (.Assign [.Name x px] (.ListComp elt [#[tg,iter,ifs,0]] sc pos) wj) (W_ (R1 own cap wi g tc te) (A5 i)):=by
 intro pins s σ H D I h;rw[exec_Assign_Name_used _ _ _ _ qg];refine aD (x5 (aD ?_))
 refine aD (il (wpAny_comprehension_free rfl hs (Io CS.clos) CS.kind CS.loc
  (gN (hi pins s σ H _ I h) λv s1 h1=>gN h1 λZX s2 h2=>?_)) (λ_ s' hq=>bx (bx hq)) λ_ _ e=>e)
 obtain⟨it,fp,tn,J,H2,e,I2,T,Xd,f2,q2⟩:=h2;subst e;refine Be hc CS I2 T Xd f2 hg ht he q2 ?_
 intro D' C H' s' I' #[m,hn] fC q;refine wpAny_assign_Name (A2 I' hN XQ hx (v:=.ref D') rfl (λRT I'' #[a,sb,ha]=>?_) hf)
 have V8:C≠a:=by
  rcases ha with z|z
  ·rw[z];exact fC.2.1
  ·exact λy=>fC.2.2.2.2.1 x a z y.symm
 exact#[m,hn.sameBut sb V8,λh' sb'=>#[_,H',I''.turned (λb o hb e=>(sb'.2 b hb).trans e) fC.1 fC.2.1 fC.2.2.2.1 fC.2.2.2.2.1 fC.2.2.2.2.2,q]]
end
def Ite(K:aq)(a:aH):It:=
 #[λi H=>∃xs x,jy K H a xs/\xs[i]?=some x,λi H v H'=>∃t x,v=.ref t/\H t=none/\H'=upd H t (.tup [.int i,x])/\∀xs,jy K H a xs->xs[i]?=some x,λi H=>∃xs,jy K H a xs/\xs.length<=i]
theorem J0{k}(a e it:aH)(Wc:e≠it):Turn P w K (.Tuple elts k tp) (Ite K a) [e,it] e (λi h=>(∃old,IsEnum h e it (i:Nat) old)/\h.IsListIter it a i) where
 mem:=by simp
 obj:=λi h st b hb=>by
  obtain⟨⟨old,he⟩,⟨o,ho,c,d⟩⟩:=st;rcases ax.mp hb with z|z
  ·subst z
   exact#[_,he,λv z=>by cases z]
  ·have z':b=it:=by simpa using z
   subst z';exact#[o,ho,λv z=>by rw[d]at z;cases z]
 keep:=λi h h' st kp=>#[let#[old,he]:=st.1;#[old,kp e (by simp) _ he],st.2.at λo q=>kp it (by simp) o q]
 item:=by
  intro X hP hw hK hc i pins s σ H E I hf st hg;subst hP hw hK;obtain⟨⟨old,he⟩,hit⟩:=st;obtain⟨xs,x,hq,hx⟩:=hg;obtain⟨its,rv,p,hz⟩:=I.list hq;obtain⟨u,hu,ru⟩:=rv.get hx;refine wpAny_pyNext_enum_item he hit p.isList ↑hu Wc λh1 RG zbv ht1 hz1 Wf=>?_
  refine#[_,rfl,wpAny_letOwnedTupleGo_enum RG λh2 PK qO=>?_]
  have elt:=a8 he;have ilt:it<s.heap.objs.size:=by obtain⟨o,ho,_⟩:=_root_.id hit;exact a8 ho
  have k2:∀b o,b∉[e,it]->s.heap.get? b=some o->h2.get? b=some o:=λb o hb q=>by
   have n1:b≠e:=λz=>hb (by simp[z])
   exact(qO.2 b n1).trans (Wf b o n1 (λz=>hb (by simp[z])) q)
  have I2:Inv X pins σ H { s with heap:=h2,toks:=s.toks+1 }:=I.yi k2 hf
  have fT:uZ X pins H s.heap.objs.size:=I.yH (aT _) I.fresh;have I3:Inv X pins σ (upd H s.heap.objs.size (.tup [.int i,x])) { s with heap:=h2,toks:=s.toks+1 }:=
   I2.track fT #[by show 2<=sizeLine;rw[dN];decide,[.int i s.toks,u],.cons #[_,rfl] (.cons ru .nil),#[_,(qO.2 _ (gu elt)).trans ht1,rfl,_,rfl]]
  refine#[.ref s.heap.objs.size,_,I3,rfl,#[_,x,rfl,I.fresh,rfl,λys hy=>by rw[I.yG hy hq];exact hx],#[#[_,by simpa using PK],zbv.at λo q=>(qO.2 it Wc.symm).trans q],λb hb=>?_]
  rcases ax.mp hb with z|z
  ·subst z
   rw[aL (a9 elt)];exact(hf b hb).1
  ·have z':b=it:=by simpa using z
   subst z';rw[aL (a9 ilt)];exact(hf b hb).1
 done:=by
  intro X hP hw hK hc i pins s σ H E I hf st hg;subst hP hw hK;obtain⟨⟨old,he⟩,hit⟩:=st;obtain⟨xs,hq,hx⟩:=hg;obtain⟨its,rv,p,hz⟩:=I.list hq;have hl:=rv.length;exact wpAny_pyNext_enum_end (I.ok.hd hc) he hit p.isList (by simp;omega) λh' eb=>#[rfl,I.yi (λb o hb q=>eb b o (λz=>hb (by simp[z])) q) hf]
 self:=λ_ _ _ _ _ st h=>let#[#[_,he],_]:=st;wpAny_pyIter_enum he h
def XR(K:aq)(ta:TA):TI:=λσ H R=>ta σ H λvs H1=>∃a,vs=[.ref a]/\(∃xs,jy K H1 a xs)/\R (Ite K a) H1
theorem PL{a:bK}{ta:TA}{k}(hg:Gl X "enumerate")(hm:X.mg "enumerate"=none)(ha:PA X [a] ta)(hs:starEach [a] X.env=[(false,eval a X.env)]:=by rfl):
  PI X (.Tuple elts k tp) (.Call (.Name "enumerate" p) [a] [] pos) (XR X.K ta):=by
 intro pins s σ H R I h;refine Call_ (v7 I hg hm boot_enumerate (iW (gN (ha pos pins s σ H _ I h) λus s1 #[vs,H1,I1,r1,q1]=>?_) hs rfl))
 obtain⟨l,e,⟨xs,hq⟩,q⟩:=q1;subst e;obtain⟨u,rfl,rx⟩:=vals1 r1;cases rx;obtain⟨its,rv,pl,hz⟩:=I1.list hq;refine call_enumerate_list pl.isList λh' he hit hsz hk=>wpAny_pyIter_enum he ?_
 refine#[_,[s1.heap.objs.size+1,s1.heap.objs.size],_,_,H1,rfl,I1.kept (t':=s1.toks) hk,J0 l _ _ (Nat.succ_ne_self _),#[#[_,he],hit],λb hb=>?_,q]
 rcases ax.mp hb with z|z
 ·subst z
  exact I1.yH ∅ (I1.hok.fresh ∅)
 ·have z':b=s1.heap.objs.size:=by simpa using z
  subst z';exact I1.yH ∅ I1.fresh
def nh:Key->aj
 | .inl i=>.int i
 | .inr x=>.str x
mutual
inductive Rep(K:aq)(H:Hp):V->aj->Prop
 |non:Rep K H .non .none
 |bl (b:Bool):Rep K H (.bl b) (.bool b)
 |int (i:Int):Rep K H (.int i) (.int i)
 |str (x:Str):Rep K H (.str x) (.str x)
 |lst {a:aH} {xs:List V} {ds:List aj}:jy K H a xs->cz K H xs ds->Rep K H (.ref a) (.list ds)
 |tup {a:aH} {xs:List V} {ds:List aj}:oT K H a xs->cz K H xs ds->Rep K H (.ref a) (.tuple ds)
 |dct {a:aH} {kvs:List (Key×V)} {ds:List (aj×aj)}:H a=some (.dK kvs)->ds.map (·.1)=kvs.map (λp=>nh p.1)->cz K H (kvs.map (·.2)) (ds.map (·.2))->Rep K H (.ref a) (.dict ds)
 |R3 {a:aH} {kvs:List (List Key×V)} {ds:List (aj×aj)}:H a=some (.dT kvs)->ds.map (·.1)=kvs.map (λp=>fA (p.1.map nh))->cz K H (kvs.map (·.2)) (ds.map (·.2))->Rep K H (.ref a) (.dict ((.none,.bool true)::ds))
 |obj {a C dx:aH} {fs:List (Str×V)} {ds:List (aj×aj)}:H a=some (.ins C dx fs)->DW K C->(∀f∈fs.map (·.1),kf K C f)->ds.map (·.1)=fs.map (λp=>aX p.1)->cz K H (fs.map (·.2)) (ds.map (·.2))->Rep K H (.ref a) (.dict ((.none,.none)::ds))
 |Uv {a:aH} {o:Obj} {kvs:List (Key×V)} {ds:List (aj×aj)}:H a=some (.p_ o (.dK kvs))->ds.map (·.1)=kvs.map (λp=>nh p.1)->cz K H (kvs.map (·.2)) (ds.map (·.2))->Rep K H (.ref a) (.dict ((.none,.int 1)::ds))
inductive cz(K:aq)(H:Hp):List V->List aj->Prop
 |nil:cz K H [] []
 |cons {x:V} {d:aj} {xs:List V} {ds:List aj}:Rep K H x d->cz K H xs ds->cz K H (x::xs) (d::ds)
end
theorem cU.oU(e:cU H H')(h:oT K H a xs):oT K H' a xs:=by
 rcases h with(h|⟨o,h⟩)|h
 ·exact .inl (.inl (e _ _ h))
 ·exact .inl (.inr #[o,e _ _ h])
 ·exact .inr h
theorem Rep.mono(s:cU H H'){v:V}(r:Rep K H v d):Rep K H' v d:=
 Rep.rec .non (λb=>.bl b) (λi=>.int i) (λx=>.str x) (λh _ t=>.lst (s.seq h) t) (λh _ t=>.tup (s.oU h) t) (λh k _ t=>.dct (s _ _ h) k t) (λh k _ t=>.R3 (s _ _ h) k t) (λh c n k _ t=>.obj (s _ _ h) c n k t) (λh k _ t=>.Uv (s _ _ h) k t) .nil (λ_ _ a t=>.cons a t) r
theorem cz.mono(s:cU H H'):∀{ds:List aj}{xs:List V},cz K H xs ds->cz K H' xs ds
 | [],_,r=>by cases r;exact .nil
 |d::ds,_,r=>by cases r with|cons a t=>exact .cons (a.mono s) (cz.mono s t)
section
variable{K:aq}{H:Hp}
theorem cz.length:∀{xs:List V}{ds:List aj},cz K H xs ds->xs.length=ds.length
 | [],_,r=>by cases r;rfl
 |x::xs,_,r=>by cases r with|cons a t=>simp[cz.length t]
theorem cz.get:∀{xs:List V}{ds:List aj}{i:Nat}{d:aj},cz K H xs ds->ds[i]?=some d->∃x,xs[i]?=some x/\Rep K H x d
 | [],_,_,_,r,e=>by cases r;simp at e
 |x::xs,_,i,d,r,e=>by
  cases r with
  |cons a t=>
   cases i with
   |zero=>simp at e;subst e;exact#[x,rfl,a]
   |succ i=>simpa using cz.get t ↑e
theorem cz.at{ds:List aj}{x:V}(r:cz K H xs ds)(e:ds[i]?=some d)(h:xs[i]?=some x):Rep K H x d:=by
 obtain⟨y,h1,h2⟩:=r.get e;rw[h]at h1;cases h1;exact h2
theorem cz.append:∀{xs ys:List V}{ds es:List aj},cz K H xs ds->cz K H ys es->cz K H (xs++ys) (ds++es)
 | [],_,_,_,r,s=>by cases r;exact s
 |x::xs,_,_,_,r,s=>by cases r with|cons a t=>exact .cons a (cz.append t s)
theorem cz.take:∀{xs:List V}{ds:List aj}(n:Nat),cz K H xs ds->cz K H (xs.take n) (ds.take n)
 |_,_,0,_=>by simpa using cz.nil
 | [],_,_+1,r=>by cases r;exact .nil
 |x::xs,_,n+1,r=>by cases r with|cons a t=>exact .cons a (cz.take n t)
theorem cz.drop:∀{xs:List V}{ds:List aj}(n:Nat),cz K H xs ds->cz K H (xs.drop n) (ds.drop n)
 |_,_,0,r=>r
 | [],_,_+1,r=>by cases r;exact .nil
 |x::xs,_,n+1,r=>by cases r with|cons a t=>exact cz.drop n t
end
mutual
theorem kx(I:Inv X pins σ H s):∀(d:aj){v:V}{u:aF},d.canLay0=true->Rep X.K H v d->RelV v u->∃as,Reads s.heap u d as
 | .none,_,_,_,r,q=>by cases r;cases q;exact#[_,.none]
 | .bool b,_,_,_,r,q=>by cases r;cases q;exact#[_,.bool b]
 | .int i,_,_,_,r,q=>by cases r;obtain⟨t,rfl⟩:=q;exact#[_,.int i t]
 | .str x,_,_,_,r,q=>by cases r;obtain⟨t,rfl⟩:=q;exact#[_,.str x t]
 | .list ds,_,_,hc,r,q=>by
  cases r with
  |lst h t=>
   cases q;obtain⟨its,rv,⟨o,n,e,c,_,dt⟩,_⟩:=I.list h;obtain⟨as,ra⟩:=oo I ds hc t rv;exact#[_,.list e c dt ↑ra]
 | .tuple ds,_,_,hc,r,q=>by
  cases r with
  |tup h t=>
   cases q;obtain⟨its,rv,⟨o,e,c,n,dt⟩,_⟩:=I.tuple h;obtain⟨as,ra⟩:=oo I ds hc t rv;exact#[_,.tuple e c dt ↑ra]
 | .dict _,_,_,hc,_,_=>by cases hc
theorem oo(I:Inv X pins σ H s):∀(ds:List aj){xs:List V}{us:List aF},oQ ds=true->cz X.K H xs ds->dU xs us->∃as,ReadsAll s.heap us ds as
 | [],_,_,_,r,q=>by cases r;cases q;exact#[_,.nil]
 |d::ds,_,_,hc,r,q=>by
  have V9:(d.canLay0&&oQ ds)=true:=hc;rw[qM]at V9;cases r with
  |cons a t=>
   cases q with
   |cons b w=>
    obtain⟨as,h1⟩:=kx I d V9.1 a b;obtain⟨bs,h2⟩:=oo I ds V9.2 t w;exact#[_,.cons h1 h2]
end
def Lay(n:Nat)(d:aj):Prop:=d.canLay0=true/\d.depth<=n
inductive Slot where
 |un
 |val (d:aj)
 |own (ds:List aj)
 |ref (a:aH)
variable{δ δ':List Slot}
structure c6(H0 H cW H':Hp):Prop where
 big:cU H H'
 fB:cU H0 cW
 sub:cU cW H'
 new:∀a,cW a≠none->H0 a≠none\/H a=none
theorem c6.refl(s:cU H0 H):c6 H0 H H0 H:=#[cU.refl _,cU.refl _,s,λ_ h=>.inl h]
theorem cU.ne(s:cU H H')(h:H a≠none):H' a≠none:=by
 cases e:H a with
 |none=>exact qQ7 e h
 |some o=>rw[s a o e];simp
theorem c6.trans{A B C D E F:Hp}(x:c6 A B C D)(y:c6 C D E F):c6 A B E F:=
 #[x.big.trans y.big,x.fB.trans y.fB,y.sub,λa h=>(y.new a h).elim (x.new a) λz=>.inr (x.big.free z)]
theorem c6.laid(s:cU H0 H){p:aH}(h:H p=none):c6 H0 H (upd H0 p o) (upd H p o):=by
 refine#[λb u e=>?_,λb u e=>?_,λb u e=>?_,λb e=>?_]
 ·rw[aL (bC e h)];exact e
 ·rw[aL (bC e (s.free h))];exact e
 ·by_cases hb:b=p
  ·subst hb;rw[aZ]at e ⊢;exact e
  ·rw[aL hb]at e ⊢;exact s b u e
 ·by_cases hb:b=p
  ·subst hb;exact .inr h
  ·rw[aL hb]at e;exact .inl e
theorem c6.loose(s:cU H0 H){p:aH}(h:H p=none):c6 H0 H H0 (upd H p o):=
 #[λb u e=>by rw[aL (bC e h)];exact e,cU.refl _,λb u e=>by rw[aL (bC (s b u e) h)];exact s b u e,λ_ e=>.inl e]
def Mf(K:aq)(B H0 H:Hp):Slot->Option (Option V)->Prop
 | .un,_=>True
 | .val d,o=>∃v,o=some (some v)/\Rep K H0 v d
 | .own ds,o=>∃p xs,o=some (some (.ref p))/\H p=some (.lst xs)/\H0 p=none/\B p=none/\cz K H0 xs ds
 | .ref a,o=>o=some (some (.ref a))
structure fP(K:aq)(B0 B H0 H:Hp)(σ:St)(δ:List Slot):Prop where
 ent:c6 B0 B H0 H
 len:σ.length=δ.length
 slot:∀(i:Nat)sl,δ[i]?=some sl->Mf K B H0 H sl σ[i]?
 apart:∀(i j:Nat)ds es p,i≠j->δ[i]?=some (.own ds)->δ[j]?=some (.own es)->σ[i]?=some (some (.ref p))->σ[j]?≠some (some (.ref p))
section
variable{K:aq}{B0 B H0 H cW H':Hp}{σ:St}{δ:List Slot}
theorem fP.sub(f:fP K B0 B H0 H σ δ):cU H0 H:=f.ent.sub
theorem fP.grow(f:fP K B0 B H0 H σ δ)(g:c6 H0 H cW H'):fP K B0 B cW H' σ δ:=by
 refine#[f.ent.trans g,f.len,λi sl e=>?_,f.apart]
 have q:=f.slot i sl e;cases sl with
 |un=>trivial
 |ref a=>exact q
 |val d=>obtain⟨v,h1,h2⟩:=q;exact#[v,h1,h2.mono g.fB]
 |own ds=>
  obtain⟨p,xs,h1,h2,h3,h4,h5⟩:=q;refine#[p,xs,h1,g.big _ _ h2,?_,h4,h5.mono g.fB]
  cases e2:cW p with
  |none=>rfl
  |some o=>
   rcases g.new p (by rw[e2];simp)with z|z
   ·exact qQ7 h3 z
   ·rw[h2]at z;cases z
theorem fP.val(f:fP K B0 B H0 H σ δ)(h:δ[i]?=some (.val d)):∃v,σ[i]?=some (some v)/\Rep K H0 v d:=f.slot i _ h
theorem fP.set(f:fP K B0 B H0 H σ δ){v:V}(r:Rep K H0 v d):fP K B0 B H0 H (σ.set i (some v)) (δ.set i (.val d)):=by
 refine#[f.ent,by simp[f.len],λj sl e=>?_,λj k ds es p Ip e1 e2 e3=>?_]
 ·by_cases hj:j=i
  ·subst hj
   have hl:j < δ.length:=by
    have:=(aJ.mp e).1
    simpa using this
   rw[a_ hl]at e
   cases e;rw[a_ (by rw[f.len];exact hl)]
   exact#[v,rfl,r]
  ·rw[a7 (bJ hj)]at e
   rw[a7 (bJ hj)]
   exact f.slot j sl e
 ·have nj:j≠i:=λz=>by
   subst z;have hl:j < δ.length:=by simpa using(aJ.mp e1).1
   rw[a_ hl]at e1;cases e1
  have nk:k≠i:=λz=>by
   subst z;have hl:k < δ.length:=by simpa using(aJ.mp e2).1
   rw[a_ hl]at e2;cases e2
  rw[a7 (bJ nj)]at e1 e3
  rw[a7 (bJ nk)]at e2 ⊢
  exact f.apart j k ds es p Ip e1 e2 e3
theorem fP.Ct(f:fP K B0 B H0 H σ δ){ds:List aj}{p:aH}(h1:H p=some (.lst xs))(h2:H0 p=none)(h3:B p=none)(r:cz K H0 xs ds)(hn:∀(j:Nat)es,δ[j]?=some (.own es)->σ[j]?≠some (some (.ref p))):
  fP K B0 B H0 H (σ.set i (some (.ref p))) (δ.set i (.own ds)):=by
 refine#[f.ent,by simp[f.len],λj sl e=>?_,λj k PN es q Ip e1 e2 e3=>?_]
 ·by_cases hj:j=i
  ·subst hj
   have hl:j < δ.length:=by simpa using(aJ.mp e).1
   rw[a_ hl]at e
   cases e;rw[a_ (by rw[f.len];exact hl)]
   exact#[p,xs,rfl,h1,h2,h3,r]
  ·rw[a7 (bJ hj)]at e
   rw[a7 (bJ hj)]
   exact f.slot j sl e
 ·have hlj:j < δ.length:=by simpa using(aJ.mp e1).1
  have hlk:k < δ.length:=by simpa using(aJ.mp e2).1
  by_cases nj:j=i
  ·subst nj
   rw[a_ (by rw[f.len];exact hlj)]at e3
   cases e3;rw[a7 Ip]at e2 ⊢
   exact hn k es e2
  ·rw[a7 (bJ nj)]at e1 e3
   by_cases nk:k=i
   ·subst nk
    rw[a_ (by rw[f.len];exact hlk)]
    intro z;cases z;exact hn j PN e1 e3
   ·rw[a7 (bJ nk)]at e2 ⊢
    exact f.apart j k PN es q Ip e1 e2 e3
theorem fP.push(f:fP K B0 B H0 H σ δ){ds:List aj}{p:aH}{y:V}(hi:δ[i]?=some (.own ds))(hp:σ[i]?=some (some (.ref p)))(h1:H p=some (.lst xs))(ry:Rep K H0 y d):
  fP K B0 B H0 (upd H p (.lst (xs ++ [y]))) σ (δ.set i (.own (ds ++ [d]))):=by
 obtain⟨p',xs',e1,e2,e3,e4,e5⟩:=f.slot i _ hi;rw[hp]at e1;cases e1;rw[h1]at e2;cases e2;have hl:=(aJ.mp hi).1
 refine#[#[λb u e=>?_,f.ent.fB,λb u e=>?_,f.ent.new],by simp[f.len],λj sl e=>?_,λj k PN es q Ip a1 a2 a3=>?_]
 ·have:b≠p:=bC e e4
  rw[aL this];exact f.ent.big b u e
 ·have:b≠p:=bC e e3
  rw[aL this];exact f.ent.sub b u e
 ·by_cases hj:j=i
  ·subst hj
   rw[a_ hl]at e
   cases e;exact#[p,_,hp,aZ,e3,e4,e5.append (.cons ry .nil)]
  ·rw[a7 (bJ hj)]at e
   have q:=f.slot j sl e;cases sl with
   |un=>trivial
   |ref a=>exact q
   |val d=>exact q
   |own PN=>
    obtain⟨p2,XS,g1,g2,g3,g4,g5⟩:=q;have:p2≠p:=λz=>by subst z;exact f.apart i j ds PN p2 (bJ hj) hi e hp g1
    exact#[p2,XS,g1,by rw[aL this];exact g2,g3,g4,g5]
 ·have c1:∃Wh,δ[j]?=some (.own Wh):=by
   by_cases hj:j=i
   ·subst hj;exact#[_,hi]
   ·rw[a7 (bJ hj)]at a1;exact#[_,a1]
  have c2:∃Wh,δ[k]?=some (.own Wh):=by
   by_cases hk:k=i
   ·subst hk;exact#[_,hi]
   ·rw[a7 (bJ hk)]at a2;exact#[_,a2]
  obtain⟨d1,c1⟩:=c1;obtain⟨d2,c2⟩:=c2;exact f.apart j k d1 d2 q Ip c1 c2 a3
theorem fP.freeze(f:fP K B0 B H0 H σ δ){ds:List aj}{p:aH}(hi:δ[i]?=some (.own ds))(hp:σ[i]?=some (some (.ref p)))(h1:H p=some (.lst xs)):
  fP K B0 B (upd H0 p (.lst xs)) H σ (δ.set i (.val (.list ds)))/\cU H0 (upd H0 p (.lst xs)):=by
 obtain⟨p',xs',e1,e2,e3,e4,e5⟩:=f.slot i _ hi;rw[hp]at e1;cases e1;rw[h1]at e2;cases e2;have hl:=(aJ.mp hi).1
 have sm:cU H0 (upd H0 p (.lst xs)):=λb u e=>by rw[aL (bC e e3)];exact e
 refine#[#[#[f.ent.big,f.ent.fB.trans sm,λb u e=>?_,λb e=>?_],by simp[f.len],λj sl e=>?_,λj k PN es q Ip a1 a2 a3=>?_],sm]
 ·by_cases hb:b=p
  ·subst hb;rw[aZ]at e;rwa[<-e]
  ·rw[aL hb]at e;exact f.ent.sub b u e
 ·by_cases hb:b=p
  ·subst hb;exact .inr e4
  ·rw[aL hb]at e;exact f.ent.new b e
 ·by_cases hj:j=i
  ·subst hj
   rw[a_ hl]at e
   cases e;exact#[_,hp,.lst (jy.of aZ) (e5.mono sm)]
  ·rw[a7 (bJ hj)]at e
   have q:=f.slot j sl e;cases sl with
   |un=>trivial
   |ref a=>exact q
   |val d=>obtain⟨v,g1,g2⟩:=q;exact#[v,g1,g2.mono sm]
   |own PN=>
    obtain⟨p2,XS,g1,g2,g3,g4,g5⟩:=q;have:p2≠p:=λz=>by subst z;exact f.apart i j ds PN p2 (bJ hj) hi e hp g1
    exact#[p2,XS,g1,g2,by rw[aL this];exact g3,g4,g5.mono sm]
 ·have nj:j≠i:=λz=>by subst z;rw[a_ hl]at a1;cases a1
  have nk:k≠i:=λz=>by subst z;rw[a_ hl]at a2;cases a2
  rw[a7 (bJ nj)]at a1
  rw[a7 (bJ nk)]at a2
  exact f.apart j k PN es q Ip a1 a2 a3
end
def cE(X:Cx)(e:bK):TE:=λσ H Q=>∀pins s,Inv X pins σ H s->wpAny (model X.prog X.w) X.A (eval e X.env) (EP X pins σ Q) X.xe s
def cT(X:Cx)(e:bK):TT:=λσ H Q=>∀pins s,Inv X pins σ H s->wpAny (model X.prog X.w) X.A (isTrue e X.env (eval e X.env)) (TP X pins σ Q) X.xe s
def cS(X:Cx)(st:fQ):TS:=λD σ H=>∀pins s,Inv X pins σ H s->wpAny (model X.prog X.w) X.A (exec st X.env) (SP X pins D) X.xe s
def Ay(X:Cx)(st:List fQ):TS:=λD σ H=>∀pins s,Inv X pins σ H s->wpAny (model X.prog X.w) X.A (execs st X.env) (SP X pins D) X.xe s
theorem cL:PE X e (cE X e):=λpins s _ _ _ I h=>h pins s I
theorem mS:PT X e (cT X e):=λpins s _ _ _ I h=>h pins s I
theorem Mh{e:fQ}:PS X e (cS X e):=λpins s _ _ _ I h=>h pins s I
theorem la{e:List fQ}:Ia X e (Ay X e):=λpins s _ _ _ I h=>h pins s I
def VE(X:Cx)(e:bK)(δ:List Slot)(d:aj):Prop:=∀B0 B σ H0 H Q,fP X.K B0 B H0 H σ δ->(∀v cW H',c6 H0 H cW H'->Rep X.K cW v d->Q v H')->cE X e σ H Q
def VO(X:Cx)(e:bK)(δ:List Slot)(ds:List aj):Prop:=∀B0 B σ H0 H Q,fP X.K B0 B H0 H σ δ->
 (∀p xs cW H',c6 H0 H cW H'->H p=none->cW p=none->H' p=some (.lst xs)->cz X.K cW xs ds->Q (.ref p) H')->cE X e σ H Q
def VT(X:Cx)(e:bK)(δ:List Slot)(b:Bool):Prop:=∀B0 B σ H0 H Q,fP X.K B0 B H0 H σ δ->(∀cW H',c6 H0 H cW H'->Q b H')->cT X e σ H Q
def VA(X:Cx)(es:List bK)(δ:List Slot)(ds:List aj):Prop:=∃t,PA X es t/\∀B0 B σ H0 H Q,fP X.K B0 B H0 H σ δ->(∀vs cW H',c6 H0 H cW H'->cz X.K cW vs ds->Q vs H')->t σ H Q
theorem VE.of{t:TE}(h:PE X e t)(q:∀B0 B σ H0 H Q,fP X.K B0 B H0 H σ δ->(∀v cW H',c6 H0 H cW H'->Rep X.K cW v d->Q v H')->t σ H Q):VE X e δ d:=
 λB0 B σ H0 H Q f k pins s I=>h pins s σ H Q I (q B0 B σ H0 H Q f k)
theorem VO.of{ds:List aj}{t:TE}(h:PE X e t)(q:∀B0 B σ H0 H Q,fP X.K B0 B H0 H σ δ->
  (∀p xs cW H',c6 H0 H cW H'->H p=none->cW p=none->H' p=some (.lst xs)->cz X.K cW xs ds->Q (.ref p) H')->t σ H Q):VO X e δ ds:=
 λB0 B σ H0 H Q f k pins s I=>h pins s σ H Q I (q B0 B σ H0 H Q f k)
theorem VT.of{t:TT}(h:PT X e t)(q:∀B0 B σ H0 H Q,fP X.K B0 B H0 H σ δ->(∀cW H',c6 H0 H cW H'->Q b H')->t σ H Q):VT X e δ b:=
 λB0 B σ H0 H Q f k pins s I=>h pins s σ H Q I (q B0 B σ H0 H Q f k)
theorem VO.ve{ds:List aj}(h:VO X e δ ds):VE X e δ (.list ds):=λB0 B σ H0 H Q f k=>h B0 B σ H0 H Q f λp xs cW H' g h1 h2 h3 r=>by
 have sm:cU cW (upd cW p (.lst xs)):=λb u e=>by rw[aL (bC e h2)];exact e
 refine k _ _ H' #[g.big,g.fB.trans sm,λb u e=>?_,λb e=>?_] (.lst (jy.of aZ) (r.mono sm))
 ·by_cases hb:b=p
  ·subst hb;rw[aZ]at e;rwa[<-e]
  ·rw[aL hb]at e;exact g.sub b u e
 ·by_cases hb:b=p
  ·subst hb;exact .inr h1
  ·rw[aL hb]at e;exact g.new b e
def Bg(K:aq)(r:R2)(d1 d2 d:aj):Prop:=∀x y H0 H Q,cU H0 H->Rep K H0 x d1->Rep K H0 y d2->(∀v cW H',c6 H0 H cW H'->Rep K cW v d->Q v H')->r x y H Q
section
variable{X:Cx}{a b c e:bK}{δ:List Slot}{d d1 d2 d3:aj}{pos:Pos}
theorem ai(i:Nat)(h:δ[i]?=some (.val d))(hN:rA X i x:=by ac_rfl):VE X (.Name x pos) δ d:=
 .of (uU hN) λB0 B σ H0 H Q f k=>let#[v,h1,h2]:=f.val h;#[v,h1,k v H0 H (.refl f.sub) h2]
theorem aE{i:Int}{j}:VE X (.Constant (.int i) j pos) δ (.int i):=.of Lq λ_ _ _ _ _ _ f k=>k _ _ _ (.refl f.sub) (.int i)
theorem Iq{i:Bool}{j}:VE X (.Constant (.bool i) j pos) δ (.bool i):=.of W1 λ_ _ _ _ _ _ f k=>k _ _ _ (.refl f.sub) (.bl i)
theorem dQ{j}:VE X (.Constant .none j pos) δ .none:=.of TN λ_ _ _ _ _ _ f k=>k _ _ _ (.refl f.sub) .non
theorem aW{i:Str}{j}:VE X (.Constant (.str i) j pos) δ (.str i):=.of uk λ_ _ _ _ _ _ f k=>k _ _ _ (.refl f.sub) (.str i)
theorem two_d{r:R2}(hd:Bg X.K r d1 d2 d)(h1:VE X a δ d1)(h2:VE X b δ d2):∀B0 B σ H0 H Q,fP X.K B0 B H0 H σ δ->(∀v cW H',c6 H0 H cW H'->Rep X.K cW v d->Q v H')->Xe r (cE X a) (cE X b) σ H Q:=λB0 B σ H0 H Q f k=>
 h1 B0 B σ H0 H _ f λv H1 dD g1 r1=>h2 B0 B σ H1 dD _ (f.grow g1) λu H2 fX g2 r2=>hd v u H2 fX Q g2.sub (r1.mono g2.fB) r2 λw H3 uv g3 r3=>k w H3 uv ((g1.trans g2).trans g3) r3
theorem uw{op:Operator}{r:R2}(ho:sG X (binaryOp op) r)(hd:Bg X.K r d1 d2 d)(h1:VE X a δ d1)(h2:VE X b δ d2):VE X (.BinOp a op b pos) δ d:=.of (Ie ho cL cL) (two_d hd h1 h2)
theorem yV{r:R2}(ho:sG X (compareOp op) r)(hd:Bg X.K r d1 d2 d)(h1:VE X a δ d1)(h2:VE X b δ d2)(hm:behindInMarks op b=false):VE X (.Compare a [op] [b] pos) δ d:=.of (O8 ho cL cL hm) (two_d hd h1 h2)
theorem e9{r:R2}{k:Bool}(ho:sG X (compareOp op) r)(hd:Bg X.K r d1 d2 (.bool k))(h1:VE X a δ d1)(h2:VE X b δ d2)(hm:behindInMarks op b=false):VT X (.Compare a [op] [b] pos) δ k:=
 .of (O9 ho cL cL hm) λB0 B σ H0 H Q f q=>two_d hd h1 h2 B0 B σ H0 H _ f λv cW H' g r=>by cases r;exact#[_,rfl,q cW H' g]
theorem F8{r:R2}(ho:OJ X r)(hd:Bg X.K r d1 d2 d)(h1:VE X a δ d1)(h2:VE X b δ d2)(hs:oj b:=by intro _ _;rfl):VE X (.Subscript a b pos) δ d:=.of (LY ho cL cL hs) (two_d hd h1 h2)
end
theorem XT(i j:Int):Bg K (OI λi j=>.int (g i j)) (.int i) (.int j) (.int (g i j)):=λx y H0 H Q s r1 r2 k=>by cases r1;cases r2;exact#[_,_,rfl,rfl,k _ _ _ (.refl s) (.int _)]
theorem Cu{g:Int->Int->Bool}(i j:Int):Bg K (OI λi j=>.bl (g i j)) (.int i) (.int j) (.bool (g i j)):=λx y H0 H Q s r1 r2 k=>by cases r1;cases r2;exact#[_,_,rfl,rfl,k _ _ _ (.refl s) (.bl _)]
theorem Uw{C:Int->Int->Prop}(i j:Int)(h:C i j):Bg K (rI C λi j=>.int (g i j)) (.int i) (.int j) (.int (g i j)):=λx y H0 H Q s r1 r2 k=>by cases r1;cases r2;exact#[_,_,rfl,rfl,h,k _ _ _ (.refl s) (.int _)]
def Ux(K:aq)(n:Nat)(g:aj->aj->Bool):R2:=λx y H Q=>∃dx dy,Rep K H x dx/\Rep K H y dy/\Lay n dx/\Lay n dy/\Q (.bl (g dx dy)) H
theorem Mi(hu:X.A.units+n+2<cLine):sG X (compareOp .Eq) (Ux X.K n λx y=>cR x y):=by
 intro pins s σ H x y v u Q I rx ry #[dx,dy,r1,r2,l1,l2,q];obtain⟨as,ra⟩:=kx I dx l1.1 r1 rx;obtain⟨bs,rb⟩:=kx I dy l2.1 r2 ry;have h1:=l1.2;exact SeqAt.compareEq_reads ra rb l1.1 l2.1 ∅ #[.bl _,H,I,rfl,q]
theorem Mj(hu:X.A.units+n+2<cLine):sG X (compareOp .NotEq) (Ux X.K n λx y=>!cR x y):=by
 intro pins s σ H x y v u Q I rx ry #[dx,dy,r1,r2,l1,l2,q];obtain⟨as,ra⟩:=kx I dx l1.1 r1 rx;obtain⟨bs,rb⟩:=kx I dy l2.1 r2 ry;have h1:=l1.2;exact SeqAt.neOverData X.prog X.w X.A X.xe s v u dx dy as bs _ ra rb l1.1 l2.1 ∅ #[.bl _,H,I,rfl,q]
def jg(d:aj):aj->Bool
 | .list xs=>xs.any λy=>cR y d
 | .tuple xs=>xs.any λy=>cR y d
 |_=>false
def D9:aj->Bool
 | .list _=>true
 | .tuple _=>true
 |_=>false
def Uy(K:aq)(n:Nat)(neg:Bool):R2:=λx y H Q=>∃dx dy,Rep K H x dx/\Rep K H y dy/\D9 dy=true/\Lay n dx/\Lay n dy/\Q (.bl (if neg then !jg dx dy else jg dx dy)) H
theorem Ml(hu:X.A.units+n+2<cLine):sG X (compareOp .In) (Uy X.K n false):=by
 intro pins s σ H x y v u Q I rx ry #[dx,dy,r1,r2,hs,l1,l2,q];obtain⟨as,ra⟩:=kx I dx l1.1 r1 rx;obtain⟨bs,rb⟩:=kx I dy l2.1 r2 ry;have h1:=l1.2;cases dy with
 |list ys=>exact SeqAt.in_list_reads rb ra l2.1 l1.1 ∅ #[.bl _,H,I,rfl,q]
 |tuple ys=>exact SeqAt.in_tuple_reads rb ra l2.1 l1.1 ∅ #[.bl _,H,I,rfl,q]
 |_=>cases hs
theorem J1(hu:X.A.units+n+2<cLine):sG X (compareOp .NotIn) (Uy X.K n true):=by
 intro pins s σ H x y v u Q I rx ry #[dx,dy,r1,r2,hs,l1,l2,q];obtain⟨as,ra⟩:=kx I dx l1.1 r1 rx;obtain⟨bs,rb⟩:=kx I dy l2.1 r2 ry;have h1:=l1.2;cases dy with
 |list ys=>exact SeqAt.notIn_list_reads rb ra l2.1 l1.1 ∅ #[.bl _,H,I,rfl,q]
 |tuple ys=>exact SeqAt.notIn_tuple_reads rb ra l2.1 l1.1 ∅ #[.bl _,H,I,rfl,q]
 |_=>cases hs
theorem Ir{g:aj->aj->Bool}{d1 d2:aj}(l1:Lay n d1)(l2:Lay n d2):Bg K (Ux K n g) d1 d2 (.bool (g d1 d2)):=λx y H0 H Q s r1 r2 k=>#[d1,d2,r1.mono s,r2.mono s,l1,l2,k _ _ _ (.refl s) (.bl _)]
theorem Uz{neg:Bool}{d1 d2:aj}(hs:D9 d2=true)(l1:Lay n d1)(l2:Lay n d2):Bg K (Uy K n neg) d1 d2 (.bool (if neg then !jg d1 d2 else jg d1 d2)):=λx y H0 H Q s r1 r2 k=>
 #[d1,d2,r1.mono s,r2.mono s,hs,l1,l2,k _ _ _ (.refl s) (.bl _)]
theorem zbx{ds:List aj}{i:Int}(h:ur ds i=some d):Bg K (Z2 K) (.list ds) (.int i) d:=λx y H0 H Q s r1 r2 k=>by
 cases r2;cases r1 with
 |lst hq r=>
  rename_i p xs
  unfold ur at h;cases e:RX ds.length i with
  |none=>rw[e]at h;cases h
  |some j=>
   rw[e]at h;obtain⟨v,hv,rv⟩:=r.get (i:=j) (d:=d) h;exact .inl #[p,xs,i,v,rfl,rfl,s.seq hq,by unfold ur;rw[r.length,e];exact hv,k v _ _ (.refl s) rv]
theorem XU{ds:List aj}{i:Int}(h:ur ds i=some d):Bg K (Z2 K) (.tuple ds) (.int i) d:=λx y H0 H Q s r1 r2 k=>by
 cases r2;cases r1 with
 |tup hq r=>
  rename_i p xs
  unfold ur at h;cases e:RX ds.length i with
  |none=>rw[e]at h;cases h
  |some j=>
   rw[e]at h;obtain⟨v,hv,rv⟩:=r.get (i:=j) (d:=d) h;exact .inr (.inl #[p,xs,i,v,rfl,rfl,s.oU hq,by unfold ur;rw[r.length,e];exact hv,k v _ _ (.refl s) rv])
def XW(K:aq):R2:=λx y H Q=>∃l b xs zs,x=.ref l/\y=.ref b/\jy K H l xs/\jy K H b zs/\xs.length+zs.length<=sizeLine/\∀p,H p=none->Q (.ref p) (upd H p (.lst (xs++zs)))
theorem PQ:sG X (binaryOp .Add) (XW X.K):=by
 intro pins s σ H x y v u Q I rx ry h;obtain⟨l,b,xs,zs,rfl,rfl,hl,hb,hz,q⟩:=h;cases rx;cases ry;obtain⟨its,r1,⟨⟨cls,dd,data,sl⟩,n,e1,c1,_,d1⟩,z1⟩:=I.list hl;obtain⟨D0,r2,⟨⟨zba,ZZ,data2,Z0⟩,n2,e2,c2,_,d2⟩,z2⟩:=I.list hb;subst c1 d1 c2 d2;have l1:=r1.length;have l2:=r2.length;refine concat_meets #[_,e1,rfl] #[_,e2,rfl] noFill_list_add seq_list_add PySem.F.slot_list_add PySem.F.entry_list_add (PySem.F.args_list_add_2 _ _) (list_addW l b its.toArray D0.toArray n n2 dd ZZ sl Z0 (by rw[bH,bH];omega)) #[e1,e2,?_]
 rw[show its.toArray++D0.toArray=(its++D0).toArray by simp]
 exact#[.ref _,_,I.zbg (r1.append r2) (by rw[aV];omega),rfl,q _ I.fresh]
section
variable{X:Cx}{a b c e:bK}{es:List bK}{δ:List Slot}{d d1 d2 d3:aj}{ds:List aj}{pos:Pos}{i j:Int}{k:Nat}
theorem dZ(h1:VE X a δ (.int i))(h2:VE X b δ (.int j)):VE X (.BinOp a .Add b pos) δ (.int (i+j)):=uw T2 (XT i j) h1 h2
theorem Cv(h1:VE X a δ (.int i))(h2:VE X b δ (.int j)):VE X (.BinOp a .Sub b pos) δ (.int (i-j)):=uw T3 (XT i j) h1 h2
theorem rJ(h1:VE X a δ (.int i))(h2:VE X b δ (.int j))(h:O6 i j):VE X (.BinOp a .Mult b pos) δ (.int (i*j)):=uw T4 (Uw i j h) h1 h2
theorem cq(h1:VE X a δ (.int i))(h2:VE X b δ (.int j))(h:0<j):VE X (.BinOp a .Mod b pos) δ (.int (i%j)):=uw T5 (Uw i j h) h1 h2
theorem eI(h1:VE X a δ (.int i))(h2:VE X b δ (.int j))(h:Xg i j):VE X (.BinOp a .FloorDiv b pos) δ (.int (i/j)):=uw O7 (Uw i j h) h1 h2
theorem XX(h1:VE X a δ (.int i))(h2:VE X b δ (.int j)):VE X (.Compare a [.Gt] [b] pos) δ (.bool (decide (j<i))):=yV RQ (Cu i j) h1 h2 (eV _)
theorem D_(h1:VE X a δ (.int i))(h2:VE X b δ (.int j)):VT X (.Compare a [.Lt] [b] pos) δ (decide (i<j)):=e9 Xh (Cu i j) h1 h2 (eV _)
theorem Ea(h1:VE X a δ (.int i))(h2:VE X b δ (.int j)):VT X (.Compare a [.LtE] [b] pos) δ (decide (i<=j)):=e9 DU (Cu i j) h1 h2 (eV _)
theorem Bh(h1:VE X a δ (.int i))(h2:VE X b δ (.int j)):VT X (.Compare a [.Gt] [b] pos) δ (decide (j<i)):=e9 RQ (Cu i j) h1 h2 (eV _)
theorem R4(h1:VE X a δ (.int i))(h2:VE X b δ (.int j)):VT X (.Compare a [.GtE] [b] pos) δ (decide (j<=i)):=e9 Xi (Cu i j) h1 h2 (eV _)
theorem Eb(hr:eB k X.A):X.A.units+20+2<cLine:=by have:=hr.un;omega
theorem fh(hr:eB k X.A)(l1:Lay 20 d1)(l2:Lay 20 d2)(h1:VE X a δ d1)(h2:VE X b δ d2):VT X (.Compare a [.Eq] [b] pos) δ (cR d1 d2):=e9 (Mi (Eb hr)) (Ir l1 l2) h1 h2 (eV _)
theorem iI(hr:eB k X.A)(l1:Lay 20 d1)(l2:Lay 20 d2)(h1:VE X a δ d1)(h2:VE X b δ d2):VT X (.Compare a [.NotEq] [b] pos) δ (!cR d1 d2):=e9 (Mj (Eb hr)) (Ir l1 l2) h1 h2 (eV _)
theorem tQ(hr:eB k X.A)(l1:Lay 20 d1)(l2:Lay 20 d2)(h1:VE X a δ d1)(h2:VE X b δ d2):VE X (.Compare a [.Eq] [b] pos) δ (.bool (cR d1 d2)):=yV (Mi (Eb hr)) (Ir l1 l2) h1 h2 (eV _)
theorem Ec(hr:eB k X.A)(hs:D9 d2=true)(l1:Lay 20 d1)(l2:Lay 20 d2)(h1:VE X a δ d1)(h2:VE X b δ d2)(hm:behindInMarks .In b=false:=by with_unfolding_all rfl):VT X (.Compare a [.In] [b] pos) δ (jg d1 d2):=e9 (Ml (Eb hr)) (Uz hs l1 l2) h1 h2 hm
theorem yW(hr:eB k X.A)(hs:D9 d2=true)(l1:Lay 20 d1)(l2:Lay 20 d2)(h1:VE X a δ d1)(h2:VE X b δ d2)(hm:behindInMarks .NotIn b=false:=by with_unfolding_all rfl):VT X (.Compare a [.NotIn] [b] pos) δ (!jg d1 d2):=e9 (J1 (Eb hr)) (Uz hs l1 l2) h1 h2 hm
theorem fU(h1:VE X a δ (.list ds))(h2:VE X b δ (.int i))(h:ur ds i=some d)(hs:oj b:=by intro _ _;rfl):VE X (.Subscript a b pos) δ d:=F8 yP (zbx h) h1 h2 hs
theorem dz(h1:VE X a δ (.tuple ds))(h2:VE X b δ (.int i))(h:ur ds i=some d)(hs:oj b:=by intro _ _;rfl):VE X (.Subscript a b pos) δ d:=F8 yP (XU h) h1 h2 hs
theorem gA{ds:List aj}{p0 q: Pos}{c}(i j:Nat)(h:δ[i]?=some (.val (.tuple ds)))(hj:ds[j]?=some d)(hN:rA X i x:=by ac_rfl)(hs:oj (.Constant (.int (j:Int)) c q):=by intro _ _;rfl):VE X (.Subscript (.Name x p0) (.Constant (.int (j:Int)) c q) pos) δ d:=dz (ai i h hN) aE (cM hj) hs
theorem rK:PT X e (λ_ _ _=>False):=λ_ _ _ _ _ _ h=>h.elim
theorem oV{k:Bool}(h:VT X a δ k):VT X (.UnaryOp .Not a pos) δ (!k):=.of (TQ mS) λB0 B σ H0 H Q f q=>h B0 B σ H0 H _ f q
theorem gk(h1:VT X a δ k1)(h2:k1=true->VT X b δ k2):VT X (.BoolOp .And [a,b] pos) δ (k1&&k2):=by
 cases k1 with
 |true=>
  exact .of (pw_and mS (pw_and1 mS)).pt λB0 B σ H0 H Q f q=>h1 B0 B σ H0 H _ f λH1 dD g=>by
   exact h2 rfl B0 B σ H1 dD _ (f.grow g) λH2 fX g2=>q H2 fX (g.trans g2)
 |false=>
  exact .of (pw_and mS (pw_and1 rK)).pt λB0 B σ H0 H Q f q=>h1 B0 B σ H0 H _ f λH1 dD g=>by
   exact q H1 dD g
theorem h8(h1:VT X a δ k1)(h2:k1=false->VT X b δ k2):VT X (.BoolOp .Or [a,b] pos) δ (k1||k2):=by
 cases k1 with
 |false=>
  exact .of (pw_or mS (pw_or1 mS)).pt λB0 B σ H0 H Q f q=>h1 B0 B σ H0 H _ f λH1 dD g=>by
   exact h2 rfl B0 B σ H1 dD _ (f.grow g) λH2 fX g2=>q H2 fX (g.trans g2)
 |true=>
  exact .of (pw_or mS (pw_or1 rK)).pt λB0 B σ H0 H Q f q=>h1 B0 B σ H0 H _ f λH1 dD g=>by
   exact q H1 dD g
theorem F9{k3: Bool}(h1:VT X a δ k1)(h2:k1=false->VT X b δ k2)(h3:k1=false->k2=false->VT X c δ k3):VT X (.BoolOp .Or [a,b,c] pos) δ (k1||(k2||k3)):=by
 cases k1 with
 |true=>
  exact .of (pw_or mS (pw_or rK (pw_or1 rK))).pt λB0 B σ H0 H Q f q=>h1 B0 B σ H0 H _ f λH1 dD g=>by
   exact q H1 dD g
 |false=>
  cases k2 with
  |true=>
   exact .of (pw_or mS (pw_or mS (pw_or1 rK))).pt λB0 B σ H0 H Q f q=>h1 B0 B σ H0 H _ f λH1 dD g=>by
    refine h2 rfl B0 B σ H1 dD _ (f.grow g) λH2 fX g2=>?_
    exact q H2 fX (g.trans g2)
  |false=>
   exact .of (pw_or mS (pw_or mS (pw_or1 mS))).pt λB0 B σ H0 H Q f q=>h1 B0 B σ H0 H _ f λH1 dD g=>by
    refine h2 rfl B0 B σ H1 dD _ (f.grow g) λH2 fX g2=>?_
    exact h3 rfl rfl B0 B σ H2 fX _ ((f.grow g).grow g2) λH3 uv g3=>q H3 uv ((g.trans g2).trans g3)
def zby:aj->Option Bool
 | .none=>some false
 | .bool b=>some b
 | .int i=>some (i != 0)
 | .list ds=>some (!ds.isEmpty)
 | .tuple ds=>some (!ds.isEmpty)
 |_=>none
theorem cz.empty{ds:List aj}(r:cz K H xs ds):xs.isEmpty=ds.isEmpty:=by cases r<;>rfl
theorem jM{t:Bool}(h:VE X a δ d)(ht:zby d=some t)(he:∀whole,isTrue a X.env whole=(do let v <-whole;standAt a.pos;holding [v] (truthy v)):=by intro _;rfl):VT X a δ t:=
 .of (LC cL he) λB0 B σ H0 H Q f q=>h B0 B σ H0 H _ f λv H1 dD g r=>by
  refine#[t,?_,q H1 dD g]
  cases r with
  |non=>cases ht;exact(rfl:false=false)
  |bl b=>cases ht;exact(rfl:t=t)
  |int i=>cases ht;exact(rfl:(i != 0)=(i != 0))
  |str x=>cases ht
  |lst hq r=>cases ht;exact .inl #[_,g.sub.seq hq,by rw[r.empty]]
  |tup hq r=>cases ht;exact .inr (.inl #[_,g.sub.oU hq,by rw[r.empty]])
  |dct _ _ _=>cases ht
  |R3 _ _ _=>cases ht
  |obj _ _ _ _ _=>cases ht
  |Uv _ _ _=>cases ht
theorem rL{k:Bool}(h:VT X c δ k)(h1:k=true->VE X a δ d)(h2:k=false->VE X b δ d):VE X (.IfExp c a b pos) δ d:=
 .of (Lw mS cL cL) λB0 B σ H0 H Q f q=>h B0 B σ H0 H _ f λH1 dD g=>by
  cases k with
  |true=>
   exact h1 rfl B0 B σ H1 dD _ (f.grow g) λv H2 fX g2 r=>q v H2 fX (g.trans g2) r
  |false=>
   exact h2 rfl B0 B σ H1 dD _ (f.grow g) λv H2 fX g2 r=>q v H2 fX (g.trans g2) r
theorem aR:VA X [] δ []:=#[_,eG,λ_ _ _ _ _ _ f q=>q _ _ _ (.refl f.sub) .nil]
theorem ao(h:VE X e δ d)(hr:VA X es δ ds)(hs:kZ X e es:=by rfl):VA X (e::es) δ (d::ds):=by
 obtain⟨t,p,ht⟩:=hr;exact#[_,cN cL p hs,λB0 B σ H0 H Q f q=>h B0 B σ H0 H _ f λv H1 dD g r=>ht B0 B σ H1 dD _ (f.grow g) λvs H2 fX g2 rs=>q _ _ _ (g.trans g2) (.cons (r.mono g2.fB) rs)]
theorem dR{x1}(h:VA X es δ ds)(hz:ds.length<=sizeLine:=by(simp only[ft];rw[dN];decide)):VE X (.Tuple es x1 pos) δ (.tuple ds):=by
 obtain⟨t,p,ht⟩:=h;exact .of (uq p) λB0 B σ H0 H Q f q=>ht B0 B σ H0 H _ f λvs H1 dD g r=>#[by rw[r.length];exact hz,λa ha=>q _ _ _ (g.trans (.laid g.sub ha)) (.tup (oT.of aZ) (r.mono (c6.laid g.sub ha).fB))]
theorem dS(h:VA X es δ ds)(hz:ds.length<=sizeLine:=by(simp only[ft];rw[dN];decide)):VO X (.List es pos) δ ds:=by
 obtain⟨t,p,ht⟩:=h;exact .of (wa p) λB0 B σ H0 H Q f q=>ht B0 B σ H0 H _ f λvs H1 dD g r=>#[by rw[r.length];exact hz,λa ha=>q a vs H1 _ (g.trans (.loose g.sub ha)) (g.big.free ha) (g.sub.free ha) aZ r]
def cutD{α:Type}(xs:List α)(lo hi:Option Int):List α:=(xs.drop (HT.n_ xs.length 0 lo)).take (HT.n_ xs.length xs.length hi-HT.n_ xs.length 0 lo)
theorem cz.cut(r:cz K H xs ds)(lo hi:Option Int):cz K H (JQ xs lo hi) (cutD ds lo hi):=by
 unfold JQ cutD;rw[r.length];exact(r.drop _).take _
inductive tR(X:Cx)(δ:List Slot):Option bK->Option Int->Prop
 |no:tR X δ none none
 |yes {e:bK} {i:Int}:VE X e δ (.int i)->tR X δ (some e) (some i)
theorem tR.ok{o:Option bK}{p:Option Int}(h:tR X δ o p):∃t,PO X o t/\∀B0 B σ H0 H Q,fP X.K B0 B H0 H σ δ->(∀cW H',c6 H0 H cW H'->Q p H')->t σ H Q:=by
 cases h with
 |no=>exact#[_,Pj,λ_ _ _ _ _ _ f q=>q _ _ (.refl f.sub)]
 |yes h=>exact#[_,Pk cL,λB0 B σ H0 H Q f q=>h B0 B σ H0 H _ f λv H1 dD g r=>by cases r;exact#[_,rfl,q _ _ g]]
theorem h_{lo hi:Option bK}{l u:Option Int}(h:VE X a δ (.list ds))(hl:tR X δ lo l)(hh:tR X δ hi u):VO X (.Subscript a (.Slice lo hi none p2) pos) δ (cutD ds l u):=by
 obtain⟨tl,pl,ql⟩:=hl.ok;obtain⟨th,ph,qh⟩:=hh.ok;refine .of (yO Pq cL pl ph) λB0 B σ H0 H Q f q=>h B0 B σ H0 H _ f λv H1 dD g r=>ql B0 B σ H1 dD _ (f.grow g) λH2 fX g2=>qh B0 B σ H2 fX _ ((f.grow g).grow g2) λH3 uv g3=>?_
 cases r with
 |lst hq r=>
  refine#[_,_,rfl,g3.sub.seq ((g2.fB.trans g3.fB).seq hq),λp hp=>?_]
  have gg:=(g.trans g2).trans g3;exact q p _ H3 _ (gg.trans (.loose g3.sub hp)) (gg.big.free hp) (g3.sub.free hp) aZ ((r.mono (g2.fB.trans g3.fB)).cut l u)
theorem wm{lo hi:Option bK}{l u:Option Int}(h:VE X a δ (.tuple ds))(hl:tR X δ lo l)(hh:tR X δ hi u)(hw:¬(HT.n_ ds.length 0 l=0/\HT.n_ ds.length ds.length u=ds.length)):
  VE X (.Subscript a (.Slice lo hi none p2) pos) δ (.tuple (cutD ds l u)):=by
 obtain⟨tl,pl,ql⟩:=hl.ok;obtain⟨th,ph,qh⟩:=hh.ok;refine .of (yO Ub cL pl ph) λB0 B σ H0 H Q f q=>h B0 B σ H0 H _ f λv H1 dD g r=>ql B0 B σ H1 dD _ (f.grow g) λH2 fX g2=>qh B0 B σ H2 fX _ ((f.grow g).grow g2) λH3 uv g3=>?_
 cases r with
 |tup hq r=>
  refine#[_,_,rfl,g3.sub.oU ((g2.fB.trans g3.fB).oU hq),by rw[r.length];exact hw,λp hp=>?_]
  exact q _ _ _ (((g.trans g2).trans g3).trans (.laid g3.sub hp)) (.tup (oT.of aZ) (((r.mono (g2.fB.trans g3.fB)).cut l u).mono (c6.laid g3.sub hp).fB))
def nR(K:aq)(r:List V->Hp->VK->Prop)(ds:List aj)(d:aj):Prop:=∀vs H0 H Q,cU H0 H->cz K H0 vs ds->(∀v cW H',c6 H0 H cW H'->Rep K cW v d->Q v H')->r vs H Q
def Iu(K:aq)(r:List V->Hp->VK->Prop)(ds es:List aj):Prop:=∀vs H0 H Q,cU H0 H->cz K H0 vs ds->
 (∀p xs cW H',c6 H0 H cW H'->H p=none->cW p=none->H' p=some (.lst xs)->cz K cW xs es->Q (.ref p) H')->r vs H Q
theorem gR(hc:jK X (.builtin id) r)(hd:nR X.K r ds d)(ha:VA X (e::es) δ ds)(hm:X.mg x=none)(hv:bootBuiltins x=some (.builtin id))(hg:Gl X x:=by rfl)(hn:x≠"__name__":=by decide)(u9:xP x:=by decide)
  (he:kZ X e es:=by rfl)(mD:tF X pos es:=by rfl):VE X (.Call (.Name x p) (e::es) [] pos) δ d:=by
 obtain⟨t,pa,ht⟩:=ha;exact .of (yM hc hg hm hv pa hn u9 he mD) λB0 B σ H0 H Q f q=>ht B0 B σ H0 H _ f λvs H1 dD g r=>hd vs H1 dD Q g.sub r λv H2 fX g2 r2=>q v H2 fX (g.trans g2) r2
theorem jV(hc:jK X (.type id) r)(hd:nR X.K r ds d)(ha:VA X (e::es) δ ds)(hm:X.mg x=none)(hv:bootBuiltins x=some (.type id))(hg:Gl X x:=by rfl)(hn:x≠"__name__":=by decide)(u9:xP x:=by decide)
  (he:kZ X e es:=by rfl)(mD:tF X pos es:=by rfl):VE X (.Call (.Name x p) (e::es) [] pos) δ d:=by
 obtain⟨t,pa,ht⟩:=ha;exact .of (nE hc hg hm hv pa hn u9 he mD) λB0 B σ H0 H Q f q=>ht B0 B σ H0 H _ f λvs H1 dD g r=>hd vs H1 dD Q g.sub r λv H2 fX g2 r2=>q v H2 fX (g.trans g2) r2
theorem nF{zs:List aj}(hc:jK X (.type id) r)(hd:Iu X.K r ds zs)(ha:VA X (e::es) δ ds)(hm:X.mg x=none)(hv:bootBuiltins x=some (.type id))(hg:Gl X x:=by rfl)(hn:x≠"__name__":=by decide)(u9:xP x:=by decide)
  (he:kZ X e es:=by rfl)(mD:tF X pos es:=by rfl):VO X (.Call (.Name x p) (e::es) [] pos) δ zs:=by
 obtain⟨t,pa,ht⟩:=ha;exact .of (nE hc hg hm hv pa hn u9 he mD) λB0 B σ H0 H Q f q=>ht B0 B σ H0 H _ f λvs H1 dD g r=>hd vs H1 dD Q g.sub r λv xs H2 fX g2 a1 a2 a3 a4=>q v xs H2 fX (g.trans g2) (g.big.free a1) a2 a3 a4
theorem cz.one(r:cz K H vs [d]):∃v,vs=[v]/\Rep K H v d:=by
 cases r with|cons a t=>cases t;exact#[_,rfl,a]
theorem cz.two(r:cz K H vs [d1,d2]):∃v w,vs=[v,w]/\Rep K H v d1/\Rep K H w d2:=by
 cases r with|cons a t=>cases t with|cons b t=>cases t;exact#[_,_,rfl,a,b]
theorem XY:nR K (λxs H Q=>∃p ys,xs=[.ref p]/\(jy K H p ys\/oT K H p ys)/\Q (.int ys.length) H) [.list ds] (.int ds.length):=λvs H0 H Q s r k=>by
 obtain⟨v,rfl,r1⟩:=r.one;cases r1 with|lst hq r=>exact#[_,_,rfl,.inl (s.seq hq),k _ _ _ (.refl s) (by rw[r.length];exact .int _)]
theorem UA:nR K (λxs H Q=>∃p ys,xs=[.ref p]/\(jy K H p ys\/oT K H p ys)/\Q (.int ys.length) H) [.tuple ds] (.int ds.length):=λvs H0 H Q s r k=>by
 obtain⟨v,rfl,r1⟩:=r.one;cases r1 with|tup hq r=>exact#[_,_,rfl,.inr (s.oU hq),k _ _ _ (.refl s) (by rw[r.length];exact .int _)]
theorem Mm:Iu K (λxs H Q=>∃p ys,xs=[.ref p]/\(jy K H p ys\/oT K H p ys)/\∀l,H l=none->Q (.ref l) (upd H l (.lst ys))) [.list ds] ds:=λvs H0 H Q s r k=>by
 obtain⟨v,rfl,r1⟩:=r.one;cases r1 with|lst hq r=>exact#[_,_,rfl,.inl (s.seq hq),λl hl=>k l _ H0 _ (.loose s hl) hl (s.free hl) aZ r]
theorem vh:nR K (λxs H Q=>∃p ys,xs=[.ref p]/\((jy K H p ys/\∀l,H l=none->Q (.ref l) (upd H l (.tup ys)))\/(oT K H p ys/\Q (.ref p) H))) [.list ds] (.tuple ds):=λvs H0 H Q s r k=>by
 obtain⟨v,rfl,r1⟩:=r.one;cases r1 with|lst hq r=>exact#[_,_,rfl,.inl #[s.seq hq,λl hl=>k _ _ _ (.laid s hl) (.tup (oT.of aZ) (r.mono (c6.laid s hl).fB))]]
theorem fY(h:VE X a δ (.list ds))(hm:X.mg "len"=none)(hg:Gl X "len":=by rfl)(hs:kZ X a []:=by rfl):VE X (.Call (.Name "len" p) [a] [] pos) δ (.int ds.length):=gR va XY (ao h aR hs) hm tE hg (he:=hs)
theorem mr(h:VE X a δ (.tuple ds))(hm:X.mg "len"=none)(hg:Gl X "len":=by rfl)(hs:kZ X a []:=by rfl):VE X (.Call (.Name "len" p) [a] [] pos) δ (.int ds.length):=gR va UA (ao h aR hs) hm tE hg (he:=hs)
theorem lb{d1 d2:List aj}(h1:VE X a δ (.list d1))(h2:VE X b δ (.list d2))(hz:d1.length+d2.length<=sizeLine):VO X (.BinOp a .Add b pos) δ (d1++d2):=by
 refine .of (Ie PQ cL cL) λB0 B σ H0 H Q f q=>h1 B0 B σ H0 H _ f λv H1 dD g1 r1=>h2 B0 B σ H1 dD _ (f.grow g1) λu H2 fX g2 r2=>?_
 cases r1 with
 |lst hq r1=>
  cases r2 with
  |lst DH r2=>
   have gg:=g1.trans g2;exact#[_,_,_,_,rfl,rfl,g2.sub.seq (g2.fB.seq hq),g2.sub.seq DH,by rw[r1.length,r2.length];exact hz,λp hp=>(q p _ H2 _ (gg.trans (.loose g2.sub hp)) (gg.big.free hp) (g2.sub.free hp) aZ ((r1.mono g2.fB).append r2))]
end
inductive Fx where
 |one (i:Nat)
 |tup (is:List Nat)
variable{tgt:Fx}
def Gd:List Nat->RN
 | []=>W8
 |i::r=>RP (A5 i) (Gd r)
def Ge(K:aq):Fx->TG
 | .one i=>A5 i
 | .tup is=>W9 K is.length (Gd is)
def qj:List Nat->List aj->List Slot->List Slot
 |i::r,d::ds,δ=>qj r ds (δ.set i (.val d))
 |_,_,δ=>δ
def vi:Fx->aj->List Slot->Option (List Slot)
 | .one i,d,δ=>some (δ.set i (.val d))
 | .tup is,.tuple ds,δ=>if ds.length=is.length then some (qj is ds δ)else none
 |_,_,_=>none
section
variable{K:aq}{B0 B H0 H:Hp}
theorem Ed:∀{is:List Nat}{xs:List V}{ds:List aj}{σ:St}{δ:List Slot}{Q:St->Hp->Prop},fP K B0 B H0 H σ δ->cz K H0 xs ds->ds.length=is.length->(∀σ',fP K B0 B H0 H σ' (qj is ds δ)->Q σ' H)->Gd is xs σ H Q
 | [],xs,ds,σ,δ,Q,f,r,hl,q=>by
  have:ds=[]:=gy hl;subst this;cases r;exact#[rfl,q σ f]
 |i::is,xs,ds,σ,δ,Q,f,r,hl,q=>by
  cases r with
  |nil=>cases hl
  |cons a t=>exact#[_,_,rfl,Ed (f.set a) t ↑hl q]
theorem rM{v:V}{Q:St->Hp->Prop}(f:fP K B0 B H0 H σ δ)(r:Rep K H0 v d)(h:vi tgt d δ=some δ')(q:∀σ',fP K B0 B H0 H σ' δ'->Q σ' H):Ge K tgt v σ H Q:=by
 cases tgt with
 |one i=>cases h;exact q _ (f.set r)
 |tup is=>
  cases r with
  |tup hq r=>
   rename_i ds
   have h':(if ds.length=is.length then some (qj is ds δ)else none)=some δ':=h
   by_cases hl:ds.length=is.length
   ·rw[qQ3 hl]at h'
    cases h';exact#[_,_,rfl,f.sub.oU hq,by rw[r.length,hl],Ed f r hl q]
   ·rw[qQ2 hl]at h';cases h'
  |_=>cases h
end
def Z6(K:aq)(J:It)(H0:Hp)(ds:List aj):Prop:=∀cW H',cU H0 cW->cU cW H'->∀i,(i<ds.length->J.go i H')/\(ds.length<=i->J.stop i H')/\
 ∀x Bf d,ds[i]?=some d->J.Xa i H' x Bf->∃XZ,c6 cW H' XZ Bf/\Rep K XZ x d
def VI(X:Cx)(tg iter:bK)(δ:List Slot)(ds:List aj):Prop:=∃wi,PI X tg iter wi/\∀B0 B σ H0 H R,fP X.K B0 B H0 H σ δ->(∀J cW H',c6 H0 H cW H'->Z6 X.K J cW ds->R J H')->wi σ H R
def Bi(ds:List aj):List aj:=ds.zipIdx.map λp=>.tuple [.int p.2,p.1]
theorem dE(ds:List aj):(Bi ds).length=ds.length:=by simp[Bi]
theorem ju{ds:List aj}(h:(Bi ds)[i]?=some d):∃x,ds[i]?=some x/\d=.tuple [.int i,x]:=by
 unfold Bi at h;rw[ay,jZ]at h
 cases e:ds[i]? with
 |none=>rw[e]at h;simp at h
 |some x=>rw[e]at h;simp at h;exact#[x,rfl,h.symm]
def iJ(n:Nat):List aj:=(cx n).map λ(i:Nat)=>.int (i:Int)
section
variable{X:Cx}{tg a b:bK}{δ:List Slot}{ds:List aj}{pos:Pos}
theorem dY(h:VE X a δ (.list ds)):VI X tg a δ ds:=#[_,B_ cL,λB0 B σ H0 H R f q=>h B0 B σ H0 H _ f λv H1 dD g r=>by
 cases r with
 |lst hq r=>
  refine#[_,rfl,#[_,g.sub.seq hq],q _ H1 dD g λHa Hb s1 s2 i=>?_]
  have hl:=r.length;have hS:=(s1.trans s2).seq hq;refine#[λhi=>?_,λhi=>#[_,hS,∅],λx Bf d hd #[e,y]=>?_]
  ·obtain⟨x,hx,_⟩:=r.get (i:=i) (d:=ds[i]) (by simp[hi])
   exact#[_,x,hS,hx]
  ·subst e
   exact#[Ha,.refl s2,(r.mono s1).at hd (y _ hS)]]
theorem rN(h:VE X a δ (.tuple ds)):VI X tg a δ ds:=#[_,TY cL,λB0 B σ H0 H R f q=>h B0 B σ H0 H _ f λv H1 dD g r=>by
 cases r with
 |tup hq r=>
  refine#[_,rfl,#[_,g.sub.oU hq],q _ H1 dD g λHa Hb s1 s2 i=>?_]
  have hl:=r.length;have hS:=(s1.trans s2).oU hq;refine#[λhi=>?_,λhi=>#[_,hS,∅],λx Bf d hd #[e,y]=>?_]
  ·obtain⟨x,hx,_⟩:=r.get (i:=i) (d:=ds[i]) (by simp[hi])
   exact#[_,x,hS,hx]
  ·subst e
   exact#[Ha,.refl s2,(r.mono s1).at hd (y _ hS)]]
theorem pF{n:Int}(h:VE X a δ (.int n))(hm:X.mg "range"=none)(h1:-(2^62)<=n)(h2:n<2^62)(hg:Gl X "range":=by rfl)(hs:starEach [a] X.env=[(false,eval a X.env)]:=by rfl):VI X tg (.Call (.Name "range" p) [a] [] pos) δ (iJ n.toNat):=
 #[_,JB hg hm (cN cL eG hs) hs,λB0 B σ H0 H R f q=>h B0 B σ H0 H _ f λv H1 dD g r=>by
  cases r;refine#[n,rfl,h1,h2,q _ H1 dD g λHa Hb s1 s2 i=>#[λhi=>(show i<n.toNat from by simpa[iJ]using hi),λhi=>(show n.toNat<=i from by simpa[iJ]using hi),λx Bf d hd #[e,y]=>?_]]
  subst e;subst y;unfold iJ at hd;rw[ay]at hd
  have hi:i<n.toNat:=by
   rcases Nat.lt_or_ge i n.toNat with z|z
   ·exact z
   ·rw[dI ↑z]at hd;cases hd
  rw[iP hi]at hd
  cases hd;exact#[Ha,.refl s2,by rw[Int.zero_add];exact .int _]]
theorem ni{k}(h:VE X a δ (.list ds))(hm:X.mg "enumerate"=none)(hg:Gl X "enumerate":=by rfl)(hs:starEach [a] X.env=[(false,eval a X.env)]:=by rfl):VI X (.Tuple elts k tp) (.Call (.Name "enumerate" p) [a] [] pos) δ (Bi ds):=
 #[_,PL hg hm (cN cL eG hs) hs,λB0 B σ H0 H R f q=>h B0 B σ H0 H _ f λv H1 dD g r=>by
  cases r with
  |lst hq r=>
   refine#[_,rfl,#[_,g.sub.seq hq],q _ H1 dD g λHa Hb s1 s2 i=>?_]
   have hl:=r.length;have hS:=(s1.trans s2).seq hq;refine#[λhi=>?_,λhi=>#[_,hS,by rw[dE]at hi;omega],λx Bf d hd #[t,y,e1,e2,e3,e4]=>?_]
   ·rw[dE]at hi
    obtain⟨x,hx,_⟩:=r.get (i:=i) (d:=ds[i]) (by simp[hi])
    exact#[_,x,hS,hx]
   ·obtain⟨z,hz,rfl⟩:=ju hd
    subst e1;subst e3;refine#[_,.laid s2 e2,.tup (oT.of aZ) (.cons (.int _) (.cons ?_ .nil))]
    exact((r.mono s1).at hz (e4 _ hS)).mono (c6.laid s2 e2).fB]
end
def cTs(X:Cx)(ifs:List bK):TT:=λσ H Q=>∀pins s,Inv X pins σ H s->wpAny (model X.prog X.w) X.A (testsOf ifs X.env) (TP X pins σ Q) X.xe s
def Fy(X:Cx)(ifs:List bK)(δ:List Slot)(b:Bool):Prop:=∀B0 B σ H0 H Q,fP X.K B0 B H0 H σ δ->(∀cW H',c6 H0 H cW H'->Q b H')->cTs X ifs σ H Q
theorem jW:Fy X [] δ true:=λ_ _ _ _ _ _ f q pins s I=>PH pins s _ _ _ I (q _ _ (.refl f.sub))
theorem qk{c:bK}(h:VT X c δ b):Fy X [c] δ b:=λB0 B σ H0 H Q f q pins s I=>PJ mS pins s σ H Q I (h B0 B σ H0 H Q f q)
def X1:Slot->Slot
 | .val d=>.val d
 |_=>.un
def mF(own:List Str)(cap:List Nat)(δ:List Slot):List Slot:=bw own.length .un++cap.map λi=>X1 (δ.getD i .un)
section
variable{K:aq}{B0 B H0 H:Hp}{σ:St}{δ:List Slot}
theorem fP.comp(f:fP K B0 B H0 H σ δ)(own:List Str)(cap:List Nat):fP K B0 B H0 H (mR own cap σ) (mF own cap δ):=by
 have noOwn:∀(i:Nat)ds,(mF own cap δ)[i]?≠some (.own ds):=λi ds e=>by
  unfold mF at e;by_cases hi:i<own.length
  ·rw[bX ↑hi,ei]at e
   split at e<;>cases e
  ·rw[bO ↑(gZ hi),ay]at e
   cases q:cap[i-(bw own.length Slot.un).length]? with
   |none=>rw[q]at e;cases e
   |some j=>
    rw[q]at e;simp only[kI,g0]at e
    revert e
    cases δ.getD j .un<;>(intro e;cases e)
 refine#[f.ent,by simp[mR,mF],λi sl e=>?_,λi j ds es p _ a1=>qQ7 a1 (noOwn i ds)]
 unfold mF at e;unfold mR;by_cases hi:i<own.length
 ·rw[bX ↑hi,ei]at e
  split at e<;>cases e<;>trivial
 ·rw[bO ↑(gZ hi),ay,dH]at e
  rw[bO ↑(gZ hi),ay,dH]
  cases q:cap[i-own.length]? with
  |none=>rw[q]at e;cases e
  |some j=>
   rw[q]at e;simp only[kI,g0]at e ⊢;cases w:δ[j]? with
   |none=>rw[aO,w]at e;subst e;trivial
   |some WY=>
    rw[aO,w]at e
    cases WY with
    |un=>subst e;trivial
    |ref a=>subst e;trivial
    |own ds=>subst e;trivial
    |val d=>
     subst e;obtain⟨v,h1,h2⟩:=f.slot j _ w;exact#[v,by rw[aO,h1];rfl,h2]
theorem fP.forget(f:fP K B0 B H0 H σ δ)(hl:δ'.length=δ.length)(h:∀(i:Nat)sl,δ'[i]?=some sl->sl=.un\/δ[i]?=some sl):fP K B0 B H0 H σ δ':=by
 refine#[f.ent,by rw[hl];exact f.len,λi sl e=>?_,λi j ds es p A6 a1 a2 a3=>?_]
 ·rcases h i sl e with rfl|z
  ·trivial
  ·exact f.slot i sl z
 ·rcases h i _ a1 with z|z
  ·cases z
  ·rcases h j _ a2 with y|y
   ·cases y
   ·exact f.apart i j ds es p A6 z y a3
theorem fP.touch{D:aH}(f:fP K B0 B H0 H σ δ)(h0:H0 D=none)(hB:B D=none)(hn:∀(i:Nat)ds,δ[i]?≠some (.own ds)):fP K B0 B H0 (upd H D o) σ δ:=by
 refine#[#[λb u e=>by rw[aL (bC e hB)];exact f.ent.big b u e,f.ent.fB,λb u e=>by rw[aL (bC e h0)];exact f.ent.sub b u e,f.ent.new],f.len,λi sl e=>?_,f.apart]
 have q:=f.slot i sl e;cases sl with
 |un=>trivial
 |ref a=>exact q
 |val d=>exact q
 |own ds=>exact qQ7 e (hn i ds)
end
theorem tS:∀(is:List Nat)(ds:List aj)(δ:List Slot),(qj is ds δ).length=δ.length
 | [],_,_=>rfl
 |_::_,[],_=>rfl
 |i::is,d::ds,δ=>by
  show(qj is ds (δ.set i _)).length=_
  rw[tS];simp
theorem yX:∀(is:List Nat)(ds:List aj)(δ:List Slot)(j:Nat),j∉is->(qj is ds δ)[j]?=δ[j]?
 | [],_,_,_,_=>rfl
 |_::_,[],_,_,_=>rfl
 |i::is,d::ds,δ,j,h=>by
  show(qj is ds (δ.set i _))[j]?=_
  rw[yX is ds _ j λz=>h (aN _ z),a7 (λ(z:i=j)=>h (by rw[z];exact aM))]
def tT(n:Nat):Fx->Bool
 | .one i=>decide (i<n)
 | .tup is=>is.all λi=>decide (i<n)
theorem comp_back(ht:tT own.length tgt=true)(h:vi tgt d (mF own cap δ)=some δ'):
  δ'.length=(mF own cap δ).length/\∀(i:Nat)sl,(mF own cap δ)[i]?=some sl->sl=.un\/δ'[i]?=some sl:=by
 have low:∀(i:Nat)sl,i<own.length->(mF own cap δ)[i]?=some sl->sl=.un:=λi sl hi e=>by
  unfold mF at e;rw[bX ↑hi,ei]at e
  split at e<;>cases e<;>rfl
 cases tgt with
 |one i=>
  cases h;refine#[by simp,λj sl e=>?_]
  have hi:i<own.length:=by simpa[tT]using ht
  by_cases hj:j<own.length
  ·exact .inl (low j sl hj e)
  ·exact .inr ((a7 ∅).trans e)
 |tup is=>
  cases d with
  |tuple ds=>
   have h':(if ds.length=is.length then some (qj is ds _)else none)=some δ':=h
   by_cases hl:ds.length=is.length
   ·rw[qQ3 hl]at h'
    cases h';refine#[tS _ _ _,λj sl e=>?_]
    by_cases hj:j<own.length
    ·exact .inl (low j sl hj e)
    ·refine .inr ?_
     rw[yX _ _ _ _ λz=>hj ?_]
     ·exact e
     ·have:=fe.mp ht j z
      simpa using this
   ·rw[qQ2 hl]at h';cases h'
  |_=>cases h
theorem iU(i:Nat)(ds:List aj):(mF own cap δ)[i]?≠some (.own ds):=λe=>by
 unfold mF at e;by_cases hi:i<own.length
 ·rw[bX ↑hi,ei]at e
  split at e<;>cases e
 ·rw[bO ↑(gZ hi),ay]at e
  cases q:cap[i-(bw own.length Slot.un).length]? with
  |none=>rw[q]at e;cases e
  |some j=>
   rw[q]at e;simp only[kI,g0]at e
   revert e
   cases δ.getD j .un<;>(intro e;cases e)
section
variable{X:Cx}{sc:kH}{own N:List Str}{cap:List Nat}{cl:List (Str×aH)}{tg elt iter:bK}{ifs:List bK}{δ:List Slot}{ds:List aj}{pos:Pos}{tgt:Fx}
def Cw(X:Cx)(sc:kH)(own:List Str)(cap:List Nat)(N:List Str)(cl:List (Str×aH))(tgt:Fx)(elt:bK)(ifs:List bK)(δ:List Slot)(F:aj->Option aj)(d:aj):Prop:=
 ∃δ',vi tgt d (mF own cap δ)=some δ'/\(∀f s3 H3,Fy (fK X sc N cl f s3 H3) ifs δ' (F d).isSome)/\∀r,F d=some r->∀f s3 H3,VE (fK X sc N cl f s3 H3) elt δ' r
theorem Ee{N: List Str}{elt:bK}{r: aj}(h1:vi tgt d (mF own cap δ)=some δ')(h2:F d=some r)(h3:∀f s3 H3,VE (fK X sc N cl f s3 H3) elt δ' r):Cw X sc own cap N cl tgt elt [] δ F d:=
 #[δ',h1,λf s3 H3=>by rw[h2];exact jW,λr' e f s3 H3=>by rw[h2]at e;cases e;exact h3 f s3 H3]
def teC(X:Cx)(sc:kH)(N:List Str)(cl:List (Str×aH))(elt:bK):TE:=λσ H Q=>∀f s3 H3,cE (fK X sc N cl f s3 H3) elt σ H Q
def R5(X:Cx)(sc:kH)(N:List Str)(cl:List (Str×aH))(ifs:List bK):TT:=λσ H Q=>∀f s3 H3,cTs (fK X sc N cl f s3 H3) ifs σ H Q
theorem xg(ht:tT own.length tgt=true)(hz:ds.length<=sizeLine)(step:∀d∈ds,Cw X sc own cap N cl tgt elt ifs δ F d){J:It}{B0 B: Hp}{Q:VK}(f:fP X.K B0 B H0 H σ δ)(it:Z6 X.K J H0 ds)
  (q:∀p xs cW H',c6 H0 H cW H'->H p=none->cW p=none->H' p=some (.lst xs)->cz X.K cW xs (ds.filterMap F)->Q (.ref p) H'):
  pE J (Ge X.K tgt) (R5 X sc N cl ifs) (teC X sc N cl elt) (mR own cap σ) H Q:=by
 intro D hD;have R6:=f.ent.big.free hD;refine#[λi m ys σ' H'=>i<=ds.length/\m=ds.length-i/\ys.length<=i/\∃Ha,c6 H0 H Ha H'/\fP X.K B0 B Ha H' σ' _/\Ha D=none/\H' D=some (.lst ys)/\cz X.K Ha ys ((ds.take i).filterMap F),
  #[_,bj _,rfl,aT _,H0,.loose f.sub hD,(f.comp own cap).touch (f.sub.free hD) R6 iU,f.sub.free hD,aZ,by simpa using cz.nil],?_]
 rintro i m ys σ' H' ⟨hi,rfl,hy,Ha,g,fa,R7,D8,rs⟩
 obtain⟨i1,i2,i3⟩:=it Ha H' g.fB g.sub i;by_cases m_:i<ds.length
 ·refine .inr #[i1 m_,λx H2 y=>?_]
  have hd:ds[i]?=some ds[i]:=by simp[m_]
  obtain⟨Hb,g2,rx⟩:=i3 x H2 ds[i] hd y;obtain⟨δ',e1,e2,e3⟩:=step ds[i] (cZ m_);obtain⟨k1,k2⟩:=comp_back ht e1;have R8:∀{Hx Hy:Hp},c6 Ha H' Hx Hy->Hx D=none:=λ{Hx Hy}gg=>by
   cases e:Hx D with
   |none=>rfl
   |some o=>
    rcases gg.new D (by rw[e];simp)with z|z
    ·exact qQ7 R7 z
    ·rw[D8]at z;cases z
  have tk:(ds.take (i+1)).filterMap F=(ds.take i).filterMap F++(F ds[i]).toList:=by
   rw[cv,hd,jH];cases eF:F ds[i]<;>simp[iO,eF]
  refine rM (fa.grow g2) rx e1 λσ3 f3=>?_
  intro fp s3 H3;refine e2 fp s3 H3 B0 B σ3 Hb H2 _ f3 λHc H4 g4=>?_
  have Bj:=g2.trans g4;cases eF:F ds[i] with
  |none=>
   refine#[_,∅,m_,rfl,∅,Hc,g.trans Bj,(f3.grow g4).forget k1.symm k2,R8 Bj,Bj.big _ _ D8,?_]
   rw[tk,eF];simpa using rs.mono Bj.fB
  |some r=>
   intro Wi s3' uv;refine e3 r eF Wi s3' uv B0 B σ3 Hc H4 _ (f3.grow g4) λw Hd H5 g5 r5=>?_
   have Bk:=Bj.trans g5;have Mp:=R8 Bk;refine#[Bk.big _ _ D8,∅,_,∅,m_,rfl,by simp;omega,Hd,?_,((f3.grow g4).grow g5 |>.forget k1.symm k2).touch Mp R6 iU,Mp,aZ,?_]
   ·have gg:=g.trans Bk
    exact#[λb u e=>by rw[aL (bC e hD)];exact gg.big b u e,gg.fB,λb u e=>by rw[aL (bC e Mp)];exact gg.sub b u e,gg.new]
   ·rw[tk,eF]
    exact(rs.mono Bk.fB).append (.cons r5 .nil)
 ·have e:i=ds.length:=∅
  subst e;refine .inl #[i2 ∅,q D ys Ha H' g hD R7 D8 ?_]
  simpa using rs
theorem eU(hc:X.calm=true)(CS:jU X sc own cap N cl)(hi:VI X tg iter δ ds)(hg:∀f s3 H3,PG (fK X sc N cl f s3 H3) tg (Ge X.K tgt))(ht:tT own.length tgt=true)(hz:ds.length<=sizeLine)
  (step:∀d∈ds,Cw X sc own cap N cl tgt elt ifs δ F d)(hs:HY X iter:=by intro _;rfl):VO X (.ListComp elt [#[tg,iter,ifs,0]] sc pos) δ (ds.filterMap F):=by
 obtain⟨wi,pi,qi⟩:=hi;refine .of (Cr (tc:=R5 X sc N cl ifs) (te:=teC X sc N cl elt) hc CS pi hg (λf s3 H3 pins s σ H Q I h=>h f s3 H3 pins s I) (λf s3 H3 pins s σ H Q I h=>h f s3 H3 pins s I) hs) λB0 B σ H0 H Q f q=>?_
 exact qi B0 B σ H0 H _ f λJ H1 dD g it=>(xg ht hz step (f.grow g) it λp xs Ha Hb g2 a1 a2 a3 a4=>q p xs Ha Hb (g.trans g2) (g.big.free a1) a2 a3 a4)
end
inductive Out where
 |nx (δ:List Slot)|bk (δ:List Slot)|ct (δ:List Slot)
 |rt (d:aj)|ro (ds:List aj)|r2 (ds:List aj) (d:aj)|ru (U:Hp->V->Hp->Hp->Prop)
def rO(K:aq)(B0 B H0:Hp)(D:Ends):Out->Prop
 | .nx δ=>∀σ' cW H',cU H0 cW->fP K B0 B cW H' σ' δ->D.nx σ' H'
 | .bk δ=>∀σ' cW H',cU H0 cW->fP K B0 B cW H' σ' δ->D.bk σ' H'
 | .ct δ=>∀σ' cW H',cU H0 cW->fP K B0 B cW H' σ' δ->D.ct σ' H'
 | .rt d=>∀v cW H',c6 B0 B cW H'->Rep K cW v d->D.rt v H'
 | .ro ds=>∀p xs cW H',c6 B0 B cW H'->B p=none->cW p=none->H' p=some (.lst xs)->cz K cW xs ds->D.rt (.ref p) H'
 | .r2 ds d=>∀t p xs v cW H',c6 B0 B cW H'->B p=none->cW p=none->H' p=some (.lst xs)->cz K cW xs ds->B t=none->cW t=none->H' t=some (.tup [.ref p,v])->Rep K cW v d->D.rt (.ref t) H'
 | .ru U=>∀v cW H',c6 B0 B cW H'->U B v cW H'->D.rt v H'
def Iv:Out->Bool
 | .rt _=>true | .ro _=>true | .r2 _ _=>true | .ru _=>true|_=>false
theorem rO.mono{B0 B cW: Hp}{D:Ends}(s:cU H0 cW):∀{o:Out},rO K B0 B H0 D o->rO K B0 B cW D o
 | .nx _,h=>λσ a b s' f=>h σ a b (s.trans s') f
 | .bk _,h=>λσ a b s' f=>h σ a b (s.trans s') f
 | .ct _,h=>λσ a b s' f=>h σ a b (s.trans s') f
 | .rt _,h=>h
 | .ro _,h=>h
 | .r2 _ _,h=>h
 | .ru _,h=>h
theorem rO.ret{B0 B cW: Hp}{D D':Ends}(e:D.rt=D'.rt):∀{o:Out},Iv o=true->rO K B0 B H0 D o->rO K B0 B cW D' o
 | .rt _,_,h=>by unfold rO at *;rw[<-e];exact h
 | .ro _,_,h=>by unfold rO at *;rw[<-e];exact h
 | .r2 _ _,_,h=>by unfold rO at *;rw[<-e];exact h
 | .ru _,_,h=>by unfold rO at *;rw[<-e];exact h
 | .nx _,z,_=>by cases z
 | .bk _,z,_=>by cases z
 | .ct _,z,_=>by cases z
def VS(X:Cx)(st:fQ)(δ:List Slot)(o:Out):Prop:=∀B0 B σ H0 H D,fP X.K B0 B H0 H σ δ->rO X.K B0 B H0 D o->cS X st D σ H
def rP(X:Cx)(st:List fQ)(δ:List Slot)(o:Out):Prop:=∀B0 B σ H0 H D,fP X.K B0 B H0 H σ δ->rO X.K B0 B H0 D o->Ay X st D σ H
section
variable{X:Cx}{st:fQ}{rest body orelse:List fQ}{δ δ':List Slot}{o:Out}{a b c e:bK}{d:aj}{ds:List aj}{pos px:Pos}{x:Str}
theorem bG:rP X [] δ (.nx δ):=λ_ _ σ H0 H _ f ok pins s I=>Ib pins s σ H _ I (ok σ H0 H (cU.refl _) f)
theorem aG(h1:VS X st δ (.nx δ'))(h2:rP X rest δ' o):rP X (st::rest) δ o:=λB0 B σ H0 H D f ok pins s I=>
 k8 Mh la pins s σ H D I (h1 B0 B σ H0 H _ f λσ' Ha Hb sm f'=>h2 B0 B σ' Ha Hb D f' (ok.mono sm))
theorem dA(h1:VS X st δ o)(hr:Iv o=true):rP X (st::rest) δ o:=λB0 B σ H0 H D f ok pins s I=>
 k8 Mh lU pins s σ H D I (h1 B0 B σ H0 H _ f (rO.ret (by rfl) hr ok))
theorem aY(h1:VS X st δ o):rP X [st] δ o:=λB0 B σ H0 H D f ok pins s I=>ye Mh pins s σ H D I (h1 B0 B σ H0 H D f ok)
theorem cu(i:Nat)(h:VE X e δ d)(hN:X.N.Nodup)(hi:X.N[i]?=some x:=by rfl)(hx:Loc X.env.scope x:=by left)(hs:A1 X pos e (.Name x px):=by rfl)(hf:A0 X x:=by left):
  VS X (.Assign [.Name x px] e pos) δ (.nx (δ.set i (.val d))):=λB0 B σ H0 H D f ok pins s I=>
 nP hN hi hx cL hs hf pins s σ H D I (h B0 B σ H0 H _ f λv H1 dD g r=>ok _ H1 dD g.fB ((f.grow g).set r))
theorem ia(i:Nat)(h:VO X e δ ds)(hN:X.N.Nodup)(hi:X.N[i]?=some x:=by rfl)(hx:Loc X.env.scope x:=by left)(hs:A1 X pos e (.Name x px):=by rfl)(hf:A0 X x:=by left):
  VS X (.Assign [.Name x px] e pos) δ (.nx (δ.set i (.own ds))):=λB0 B σ H0 H D f ok pins s I=>
 nP hN hi hx cL hs hf pins s σ H D I (h B0 B σ H0 H _ f λp xs H1 dD g h1 h2 h3 r=>ok _ H1 dD g.fB ((f.grow g).Ct h3 h2 (f.ent.big.free h1) r λj es e2 e3=>by
  obtain⟨p',xs',g1,g2,_⟩:=f.slot j _ e2;rw[e3]at g1;cases g1;rw[h1]at g2;cases g2))
theorem dq(h:VT X c δ true)(h1:rP X body δ o):VS X (.If c body orelse pos) δ o:=λB0 B σ H0 H D f ok pins s I=>
 A4 mS la lU pins s σ H D I (h B0 B σ H0 H _ f λH1 dD g=>Ui (h1 B0 B σ H1 dD D (f.grow g) (ok.mono g.fB)))
theorem bV(h:VT X c δ false)(h1:rP X orelse δ o):VS X (.If c body orelse pos) δ o:=λB0 B σ H0 H D f ok pins s I=>
 A4 mS lU la pins s σ H D I (h B0 B σ H0 H _ f λH1 dD g=>Uh (h1 B0 B σ H1 dD D (f.grow g) (ok.mono g.fB)))
theorem R9{k:Bool}(h:VT X c δ k)(h1:k=true->rP X body δ o)(h2:k=false->rP X orelse δ o):VS X (.If c body orelse pos) δ o:=by
 cases k with
 |true=>exact dq h (h1 rfl)
 |false=>exact bV h (h2 rfl)
theorem ck(h:VE X e δ d):VS X (.Return (some e) pos) δ (.rt d):=λB0 B σ H0 H D f ok pins s I=>v8 cL pins s σ H D I (h B0 B σ H0 H _ f λv H1 dD g r=>ok v H1 dD (f.ent.trans g) r)
theorem yj(h:VO X e δ ds):VS X (.Return (some e) pos) δ (.ro ds):=λB0 B σ H0 H D f ok pins s I=>v8 cL pins s σ H D I (h B0 B σ H0 H _ f λp xs H1 dD g a1 a2 a3 a4=>ok p xs H1 dD (f.ent.trans g) (f.ent.big.free a1) a2 a3 a4)
theorem Cy(i:Nat)(h:δ[i]?=some (.own ds))(hN:rA X i x:=by ac_rfl):
  VS X (.Return (some (.Name x px)) pos) δ (.ro ds):=λB0 B σ H0 H D f ok pins s I=>v8 (uU hN) pins s σ H D I (by
 obtain⟨p,xs,h1,h2,h3,h4,h5⟩:=f.slot i _ h;exact#[_,h1,ok p xs H0 H f.ent h4 h3 h2 h5])
theorem gO(i:Nat){ap:Pos}{p0:Pos}(hi:δ[i]?=some (.own ds))(h:VE X e δ d)(hz:ds.length<sizeLine)(hN:rA X i x:=by ac_rfl)
  (hs:kZ X e []:=by rfl)(gj:yc X (.Name x p0) "append":=by rfl)
  (k_:FJ X px [e]:=by rfl)
  (hline:(ap.endLine==px.line)=true:=by rfl)(fJ:tF X px []:=by rfl)(qg:OG X pos (.Call (.Attribute (.Name x p0) "append" ap) [e] [] px):=by rfl):
  VS X (.Expr (.Call (.Attribute (.Name x p0) "append" ap) [e] [] px) pos) δ (.nx (δ.set i (.own (ds ++ [d])))):=λB0 B σ H0 H D f ok pins s I=>by
 refine ja (om cB eN eO jT (uU hN) (cN cL eG hs) gj k_ hline hs fJ) qg pins s σ H D I ?_
 obtain⟨p,xs,h1,h2,h3,h4,h5⟩:=f.slot i _ hi;refine#[_,h1,.inl #[rfl,_,jy.of h2],?_]
 refine h B0 B σ H0 H _ f λv H1 dD g r=>?_
 refine#[p,xs,v,rfl,rfl,g.big _ _ h2,by rw[h5.length];exact hz,ok σ H1 _ g.fB ((f.grow g).push hi h1 (g.big _ _ h2) r)]
theorem dM(i:Nat)(hi:δ[i]?=some (.own ds))(h:rP X rest (δ.set i (.val (.list ds))) o):rP X rest δ o:=λB0 B σ H0 H D f ok=>by
 obtain⟨p,xs,h1,h2,h3,h4,h5⟩:=f.slot i _ hi;obtain⟨f',sm⟩:=f.freeze hi h1 h2;exact h B0 B σ _ H D f' (ok.mono sm)
def Ld:List Slot->List Slot->Prop
 | [],[]=>True
 |a::l,b::m=>(b=.un\/a=b)/\Ld l m
 |_,_=>False
theorem Ld.len:∀{l m:List Slot},Ld l m->m.length=l.length
 | [],[],_=>rfl
 |_::_,_::_,h=>by simp[Ld.len h.2]
 | [],_::_,h=>h.elim
 |_::_,[],h=>h.elim
theorem Ld.at:∀{l m:List Slot},Ld l m->∀(i:Nat)sl,m[i]?=some sl->sl=.un\/l[i]?=some sl
 | [],[],_,_,_,e=>by simp at e
 |a::l,b::m,h,0,sl,e=>by
  simp at e;subst e;rcases h.1 with z|z
  ·exact .inl z
  ·exact .inr (by simp[z])
 |a::l,b::m,h,i+1,sl,e=>by simpa using Ld.at h.2 i sl ↑e
 | [],_::_,h,_,_,_=>h.elim
 |_::_,[],h,_,_,_=>h.elim
theorem fj{δ2:List Slot}(h:rP X rest δ (.nx δ'))(hf:Ld δ' δ2):rP X rest δ (.nx δ2):=λB0 B σ H0 H D f ok=>h B0 B σ H0 H D f λσ' Ha Hb sm f'=>ok σ' Ha Hb sm (f'.forget hf.len hf.at)
section
variable{X:Cx}{δ δ2:List Slot}{body rest:List fQ}{tg iter c:bK}{ds:List aj}{o:Out}{pos p1 p2:Pos}
def Z7(X:Cx)(body:List fQ)(δ δ2:List Slot):Prop:=∀B0 B σ H0 H (D:Ends),fP X.K B0 B H0 H σ δ->(∀σ' Ha Hb,cU H0 Ha->fP X.K B0 B Ha Hb σ' δ2->D.nx σ' Hb)->(∀σ' Ha Hb,cU H0 Ha->fP X.K B0 B Ha Hb σ' δ2->D.ct σ' Hb)->Ay X body D σ H
theorem Mq(h:rP X body δ (.nx δ2)):Z7 X body δ δ2:=λB0 B σ H0 H D f q1 _=>h B0 B σ H0 H D f q1
theorem Iw(hp:tj (model X.prog X.w) X.A X.env X.xe)(hc:X.calm=true)(hi:VI X tg iter δ ds)(hg:PG X tg (Ge X.K tgt))(δs:Nat->List Slot)(m:Nat)(h0:δs 0=δ)(hm:m<=ds.length)
  (step:∀k d,k<m->ds[k]?=some d->∃δ',vi tgt d (δs k)=some δ'/\Z7 X body δ' (δs (k+1)))
  (fin:(m=ds.length/\o=.nx (δs m))\/∃d δ',ds[m]?=some d/\vi tgt d (δs m)=some δ'/\Iv o=true/\rP X body δ' o)
  (hs:HY X iter:=by intro _;rfl):VS X (.For tg iter body [] pos) δ o:=λB0 B σ H0 H D f ok pins s I=>by
 obtain⟨wi,pi,qi⟩:=hi;refine Cb hp hc pi hg la hs pins s σ H D I ?_
 refine qi B0 B σ H0 H _ f λJ H1 dD g it=>?_
 refine#[λi mm σ' H'=>i<=m/\mm=m+1-i/\∃Ha,cU H1 Ha/\fP X.K B0 B Ha H' σ' (δs i),#[m+1,bj _,rfl,H1,cU.refl _,by rw[h0];exact f.grow g],?_]
 rintro i mm σ' H' ⟨hi,rfl,Ha,sm,fa⟩
 obtain⟨i1,i2,i3⟩:=it Ha H' sm fa.sub i;by_cases m_:i<m
 ·refine .inr #[i1 ∅,λσ'' Bf=>∃Hb,cU H1 Hb/\fP X.K B0 B Hb Bf σ'' (δs (i+1)),λσ'' Bf #[Hb,z1,z2]=>#[_,∅,m_,rfl,Hb,z1,z2],λv H2 y=>?_]
  have hd:ds[i]?=some (ds[i]'∅):=by simp
  obtain⟨Hb,g2,rx⟩:=i3 v H2 _ hd y;obtain⟨δ',e1,e2⟩:=step i _ m_ hd;exact rM (fa.grow g2) rx e1 λσ3 f3=>(e2 B0 B σ3 Hb H2 _ f3 (λσ4 Hc H4 s4 f4=>#[Hc,(sm.trans g2.fB).trans s4,f4]) (λσ4 Hc H4 s4 f4=>#[Hc,(sm.trans g2.fB).trans s4,f4]))
 ·have e:i=m:=∅
  subst e;rcases fin with⟨e1,e2⟩|⟨d,δ',hd,e1,hr,e2⟩
  ·subst e2
   exact .inl #[i2 ∅,ok σ' Ha H' (g.fB.trans sm) fa]
  ·have zbz:=(aJ.mp hd).1
   refine .inr #[i1 zbz,λ_ _=>False,λ_ _ z=>z.elim,λv H2 y=>?_]
   obtain⟨Hb,g2,rx⟩:=i3 v H2 _ hd y;exact rM (fa.grow g2) rx e1 λσ3 f3=>(e2 B0 B σ3 Hb H2 _ f3 (rO.ret (D:=D) (by rfl) hr ok))
end
theorem jN{tg iter:bK}(hp:tj (model X.prog X.w) X.A X.env X.xe)(hc:X.calm=true)(hi:VI X tg iter δ ds)(hg:PG X tg (Ge X.K tgt))(δs:Nat->List Slot)(m:Nat)(h0:δs 0=δ)(hm:m<=ds.length)
  (step:∀k d,k<m->ds[k]?=some d->∃δ',vi tgt d (δs k)=some δ'/\rP X body δ' (.nx (δs (k+1))))
  (fin:(m=ds.length/\o=.nx (δs m))\/∃d δ',ds[m]?=some d/\vi tgt d (δs m)=some δ'/\Iv o=true/\rP X body δ' o)
  (hs:HY X iter:=by intro _;rfl):VS X (.For tg iter body [] pos) δ o:=
 Iw hp hc hi hg δs m h0 hm (λk d h1 h2=>let#[z,e1,e2]:=step k d h1 h2;#[z,e1,Mq e2]) fin hs
end
def g7(K:aq)(R:List aj->aj->Prop):Sp:=λvs H Q _=>∃H0 ds d,cU H0 H/\cz K H0 vs ds/\R ds d/\∀v cW H',c6 H0 H cW H'->Rep K cW v d->Q v H'
def Gf(K:aq)(R:List aj->List aj->Prop):Sp:=λvs H Q _=>∃H0 ds es,cU H0 H/\cz K H0 vs ds/\R ds es/\
 ∀p xs cW H',c6 H0 H cW H'->H p=none->cW p=none->H' p=some (.lst xs)->cz K cW xs es->Q (.ref p) H'
def bB(P:bA)(w:cn)(K:aq)(mg:Str->Option aF)(base:cX)(k:Nat)(x:Str)(ps:List Str)(sp:Sp):Prop:=
 ∃f fd,eW P w K mg base kD k f fd ps sp/\mg x=some (.ref f)/\iH K (.ref f)=true/\Binds K fd ps []
section
variable{X:Cx}{x:Str}{e:bK}{es:List bK}{δ:List Slot}{ds zs:List aj}{d:aj}{p pos:Pos}{k:Nat}{ps:List Str}
theorem bF{R:List aj->aj->Prop}(C:bB X.prog X.w X.K X.mg X.base k x ps (g7 X.K R))(hr:eB k X.A)(ha:VA X (e::es) δ ds)(hp:R ds d)(hg:Gl X x:=by rfl)(u9:xP x:=by decide)
  (he:kZ X e es:=by rfl)(mD:tF X pos es:=by rfl):VE X (.Call (.Name x p) (e::es) [] pos) δ d:=by
 obtain⟨f,fd,F,hm,hk,hb⟩:=C;obtain⟨t,pa,qa⟩:=ha;exact .of (sH F hr hg hm hk hb .nil yQ pa u9 he mD) λB0 B σ H0 H Q fr q=>qa B0 B σ H0 H _ fr λvs H1 dD g1 rs=>by
  rw[b9];exact#[H1,ds,d,g1.sub,rs,hp,λv H2 fX g2 r=>q v H2 fX (g1.trans g2) r]
theorem oq(C:bB X.prog X.w X.K X.mg X.base k x ps (Gf X.K R))(hr:eB k X.A)(ha:VA X (e::es) δ ds)(hp:R ds zs)(hg:Gl X x:=by rfl)(u9:xP x:=by decide)
  (he:kZ X e es:=by rfl)(mD:tF X pos es:=by rfl):VO X (.Call (.Name x p) (e::es) [] pos) δ zs:=by
 obtain⟨f,fd,F,hm,hk,hb⟩:=C;obtain⟨t,pa,qa⟩:=ha;exact .of (sH F hr hg hm hk hb .nil yQ pa u9 he mD) λB0 B σ H0 H Q fr q=>qa B0 B σ H0 H _ fr λvs H1 dD g1 rs=>by
  rw[b9];exact#[H1,ds,zs,g1.sub,rs,hp,λv xs H2 fX g2 a1 a2 a3 a4=>q v xs H2 fX (g1.trans g2) (g1.big.free a1) a2 a3 a4]
end
def yZ(N:List Str)(ds:List aj):List Slot:=ds.map .val++bw (N.length-ds.length) .un
theorem fP.start{N:List Str}{ds:List aj}(s:cU H0 H)(r:cz K H0 vs ds):fP K H0 H H0 H (start N vs) (yZ N ds):=by
 have hl:=r.length;refine#[.refl s,by simp[L2.start,yZ,hl],λi sl e=>?_,λi j a b p _ e=>?_]
 ·unfold yZ at e
  unfold L2.start;by_cases hi:i<ds.length
  ·rw[bX ↑hi,ay]at e
   have hd:ds[i]?=some ds[i]:=by simp[hi]
   rw[hd]at e;cases e;obtain⟨v,h1,h2⟩:=r.get hd;exact#[v,by rw[bX (by simp;omega),ay,h1];rfl,h2]
  ·rw[bO ↑(gZ hi),ei]at e
   split at e<;>cases e
   trivial
 ·unfold yZ at e
  by_cases hi:i<ds.length
  ·rw[bX ↑hi,ay]at e
   have hd:ds[i]?=some ds[i]:=by simp[hi]
   rw[hd]at e;cases e
  ·rw[bO ↑(gZ hi),ei]at e
   split at e<;>cases e
section
variable{P:bA}{w:cn}{K:aq}{mg:Str->Option aF}{base:cX}{x qual:Str}{st:fQ}{f:aH}{fd:eM}{N ps:List Str}{k:Nat}
abbrev y0(P:bA)(w:cn)(K:aq)(mg:Str->Option aF)(base:cX)(N:List Str)(qual:Str)(st:fQ)(f:aH)(k:Nat)(ds:List aj)(o:Out):Prop:=
 ∀g6 A outer s H E,eB k (A.deeper (envOfC qual (bL st) s.heap.objs.size f g6))->rP (F2 kD P w K mg base N qual (bL st) f g6 A outer s H E).V_ (mq st) (yZ N ds) o
theorem jz{R:List aj->aj->Prop}(F:kX K x qual st f fd)(S:cw N ps (bL st))(hl:∀ds d,R ds d->ds.length=ps.length)(hb:∀ds d,R ds d->y0 P w K mg base N qual st f k ds (.rt d)):eW P w K mg base kD (k+1) f fd ps (g7 K R):=by
 refine F.ok S (λvs H Q E h=>?_) (λg6 A outer s H vs Q E hr h=>?_)
 ·obtain⟨H0,ds,d,_,r,hp,_⟩:=h
  rw[r.length,hl ds d hp]
 ·obtain⟨H0,ds,d,sm,r,hp,q⟩:=h
  exact#[_,la,hb ds d hp g6 A outer s H E hr H0 H _ H0 H _ (.start sm r) q]
theorem J2(F:kX K x qual st f fd)(S:cw N ps (bL st))(hl:∀ds d,R ds d->ds.length=ps.length)(hb:∀ds d,R ds d->y0 P w K mg base N qual st f k ds (.ro d)):eW P w K mg base kD (k+1) f fd ps (Gf K R):=by
 refine F.ok S (λvs H Q E h=>?_) (λg6 A outer s H vs Q E hr h=>?_)
 ·obtain⟨H0,ds,d,_,r,hp,_⟩:=h
  rw[r.length,hl ds d hp]
 ·obtain⟨H0,ds,d,sm,r,hp,q⟩:=h
  exact#[_,la,hb ds d hp g6 A outer s H E hr H0 H _ H0 H _ (.start sm r) q]
end
end L2
namespace L2.Srt
open PySem PySem.W PyProof.Rows
section
variable{N:Nat}{lt:Nat->Nat->Bool}
end
end L2.Srt
namespace L2
open PySem PySem.Spec PyProof.Rows PySem.W
section
variable{P:bA}{w:cn}{A:dO}{E:aF->aS->Prop}{s:aS}
end
theorem cz.ints{K:aq}{H:Hp}:∀{ns:List Int}{xs:List V},cz K H xs (ns.map .int)->xs=ns.map V.int
 | [],_,r=>by cases r;rfl
 |n::ns,_,r=>by cases r with|cons a t=>cases a;rw[aA,cz.ints t]
theorem dU.getD:∀{xs:List V}{us:List aF}(i:Nat),dU xs us->RelV (xs.getD i .non) (us.getD i nZ)
 |_,_,_,.nil=>by simp;rfl
 |_,_,0,.cons r _=>by simpa using r
 |_,_,i+1,.cons _ t=>by simpa using dU.getD i t
end L2
namespace L2
open PySem PySem.Spec PyProof.Rows
variable{l:aH}{kb:Bool}{X:Cx}{c:bK}{h:cX}{H:Hp}{rest:List bK}{ns:List Int}{ds:List aj}{δ:List Slot}{n:Nat}{P:bA}{K:aq}{w:cn}
section
variable{X:Cx}{a b c e:bK}{es:List bK}{δ:List Slot}{d d1 d2 d3:aj}{ds:List aj}{pos:Pos}{k:Nat}
def Bl:aj->Bool
 | .none=>true
 | .bool _=>true
 | .int _=>true
 | .str _=>true
 |_=>false
theorem Rep.J3{H': Hp}{v:V}(r:Rep K H v d)(h:Bl d=true):Rep K H' v d:=by
 cases r with
 |non=>exact .non
 |bl b=>exact .bl b
 |int i=>exact .int i
 |str x=>exact .str x
 |_=>cases h
def tyD:aj->Option String
 | .none=>some "NoneType"
 | .bool _=>some "bool"
 | .int _=>some "int"
 | .str _=>some "str"
 | .list _=>some "list"
 | .tuple _=>some "tuple"
 |_=>none
theorem X2{t tn:String}(ht:tyD d=some t)(hk:eE X.K (.type t) (.type tn)=some kb):jK X (.builtin "isinstance") (λxs H Q=>∃x,xs=[x,.ty tn]/\Rep X.K H x d/\Q (.bl kb) H):=by
 intro pins s σ H xs us Q I r h;obtain⟨x,rfl,rx,q⟩:=h;obtain⟨u,w',rfl,r1,r2⟩:=vals2 r;cases r2;have fin:∀tk,EP X pins σ Q _ { s with toks:=tk }:=λtk=>#[.bl kb,H,I.tok tk,rfl,q]
 cases rx with
 |non=>cases ht;cases r1;exact kC PySem.W.kitx_none I.B7 f9 hk (λz=>nomatch z) fin
 |bl b=>cases ht;cases r1;exact kC PySem.W.kitx_bool I.B7 f9 hk (λz=>nomatch z) fin
 |int i=>cases ht;obtain⟨t,rfl⟩:=r1;exact kC PySem.W.kitx_int I.B7 f9 hk (λz=>nomatch z) fin
 |str y=>cases ht;obtain⟨t,rfl⟩:=r1;exact kC PySem.W.kitx_str I.B7 f9 hk (λz=>nomatch z) fin
 |lst hq rs=>
  cases ht;cases r1;obtain⟨its,_,⟨o,n,e,c,_⟩,_⟩:=I.list hq;exact kC PySem.W.kitx_list I.B7 #[o,e,c] hk (λz=>nomatch z) fin
 |tup hq rs=>
  cases ht;cases r1;obtain⟨its,_,⟨o,e,c,_⟩,_⟩:=I.tuple hq;exact kC PySem.W.kitx_tuple I.B7 #[o,e,c] hk (λz=>nomatch z) fin
 |dct _ _ _=>cases ht
 |R3 _ _ _=>cases ht
 |obj _ _ _ _ _=>cases ht
 |Uv _ _ _=>cases ht
theorem ux{x:Str}{t tn:String}{p p2:Pos}(h:VE X a δ d)(ht:tyD d=some t)(hk:eE X.K (.type t) (.type tn)=some kb)(hb:bootBuiltins x=some (.type tn))(m1:X.mg "isinstance"=none)(m2:X.mg x=none)(hv:bootBuiltins "isinstance"=some (.builtin "isinstance"))
  (hg:Gl X "isinstance":=by rfl)(X3:Gl X x:=by rfl)(hn:x≠"__name__":=by decide)(u9:xP x:=by decide)(hs:starEach [a,.Name x p2] X.env=(false,eval a X.env)::starEach [.Name x p2] X.env:=by rfl)(qO:starEach [.Name x p2] X.env=(false,eval (.Name x p2) X.env)::starEach [] X.env:=by rfl)
  (mD:tF X pos [.Name x p2]:=by rfl):VE X (.Call (.Name "isinstance" p) [a,.Name x p2] [] pos) δ (.bool kb):=
 .of (yM (X2 ht hk) hg m1 hv (cN cL (cN (O2 X3 m2 hb (v:=.ty tn) rfl hn u9) eG qO) hs) ⋯ ⋯ hs mD) λB0 B σ H0 H Q f q=>h B0 B σ H0 H _ f λv H1 dD g r=>#[v,rfl,r.mono g.sub,q _ H1 dD g (.bl _)]
theorem Ef{A:dO}{E:aF->aS->Prop}{s:aS}{vs:List aF}{Q:aF->aS->Prop}(hh:A.handled=none)(hl:s.heap.IsList l vs.toArray)(hi:Ao vs ns)(qY:ns≠[])
  (h:∀h' M (t:Tok) tk,(∀b o,s.heap.get? b=some o->h'.get? b=some o)->M∈ns->(∀z,z∈ns->z<=M)->Q (.int M t) { s with heap:=h',toks:=tk }):wpAny (model P w) A (call (.builtin "max") [.ref l]) Q E s:=by
 obtain⟨xs,ex⟩:=hi.allInts.items;have OL:ns=xs.toList.map (·.1):=by rw[<-hi.numsOf,<-nums_intItems,<-ex]
 have hz:0<xs.size:=by
  rcases vX xs.size with z|z
  ·exfalso
   apply qY;rw[OL,Array.eq_empty_of_size_eq_zero z];rfl
  ·exact z
 rw[ex]at hl;refine max_intList hh hl hz λv h' tk hv hk=>?_
 obtain⟨t,rfl⟩:=intItems_at hv;obtain⟨g1,g2⟩:=argBest_gt (numAt xs) (xs.size-1);refine h h' _ t tk hk ?_ λz Wj=>?_
 ·rw[OL,numAt_eq]
  exact getD_mem (by rw[ae,di];omega)
 ·rw[OL]at Wj
  obtain⟨j,hj,rfl⟩:=mem_getD Wj;rw[ae,di]at hj;rw[<-numAt_eq];exact g2 j ∅
theorem sL(hc:X.calm=true):jK X (.builtin "max") (λxs H Q=>∃p ns,xs=[.ref p]/\jy X.K H p (ns.map V.int)/\ns≠[]/\∀M,M∈ns->(∀z,z∈ns->z<=M)->Q (.int M) H):=by
 intro pins s σ H xs us Q I r h;obtain⟨p,ns,rfl,hq,qY,q⟩:=h;obtain⟨u,rfl,rx⟩:=vals1 r;cases rx;obtain⟨its,rv,pl,hz⟩:=I.list hq;exact Ef (I.ok.hd hc) pl.isList (intsAre_of rv) qY λh' M t tk hk h1 h2=>#[.int M,H,I.kept hk,#[_,rfl],q M h1 h2]
theorem Iy{M:Int}(h1:M∈ns)(h2:∀z,z∈ns->z<=M):nR K (λxs H Q=>∃p ns,xs=[.ref p]/\jy K H p (ns.map V.int)/\ns≠[]/\∀M,M∈ns->(∀z,z∈ns->z<=M)->Q (.int M) H) [.list (ns.map .int)] (.int M):=λvs H0 H Q s r q=>by
 obtain⟨v,rfl,r1⟩:=r.one;cases r1 with
 |lst hq rs=>
  have e:=rs.ints;subst e;refine#[_,ns,rfl,s.seq hq,(λz=>by rw[z]at h1;cases h1),λM' g1 g2=>q _ _ _ (.refl s) ?_]
  have:M'=M:=Int.le_antisymm (h2 M' g1) (g2 M h1);rw[this];exact .int _
end
section
variable{X:Cx}{sc:kH}{own N:List Str}{cap:List Nat}{cl:List (Str×aH)}{tg elt iter:bK}{ifs:List bK}{δ:List Slot}{ds:List aj}{pos px wj:Pos}{tgt:Fx}{x:Str}
theorem vj(i:Nat){F:aj->Option aj}(hc:X.calm=true)(CS:jU X sc own cap N cl)(hi:VI X tg iter δ ds)(hg:∀f s3 H3,PG (fK X sc N cl f s3 H3) tg (Ge X.K tgt))(ht:tT own.length tgt=true)(hz:ds.length<=sizeLine)
  (step:∀d∈ds,Cw X sc own cap N cl tgt elt ifs δ F d)(hN:X.N.Nodup)(XQ:X.N[i]?=some x:=by rfl)(hx:Loc X.env.scope x:=by left)
  (qg:swapsWith (.ListComp elt [#[tg,iter,ifs,0]] sc pos) (some (.Name x px)) wj.line X.env=pure true:=by rfl)(hs:HY X iter:=by intro _;rfl)(hf:A0 X x:=by left):
  VS X (.Assign [.Name x px] (.ListComp elt [#[tg,iter,ifs,0]] sc pos) wj) δ (.nx (δ.set i (.own (ds.filterMap F)))):=λB0 B σ H0 H D f ok pins s I=>by
 obtain⟨wi,pi,qi⟩:=hi;refine yU (tc:=R5 X sc N cl ifs) (te:=teC X sc N cl elt) hN XQ hx hc CS pi hg (λf s3 H3 pins s σ H Q I h=>h f s3 H3 pins s I) (λf s3 H3 pins s σ H Q I h=>h f s3 H3 pins s I) qg hs hf pins s σ H D I ?_
 refine qi B0 B σ H0 H _ f λJ H1 dD g it=>?_
 refine xg ht hz step (f.grow g) it λp xs Ha Hb g2 a1 a2 a3 a4=>?_
 have gg:=g.trans g2;have hp:=g.big.free a1;refine ok _ Ha Hb gg.fB ((f.grow gg).Ct a3 a2 (f.ent.big.free hp) a4 λj es e2 e3=>?_)
 obtain⟨p',xs',g1,g2',_⟩:=f.slot j _ e2;rw[e3]at g1;cases g1;rw[hp]at g2';cases g2'
end
theorem VT.to{k k':Bool}(h:VT X c δ k')(e:k'=k):VT X c δ k:=e▸h
theorem VE.to{k k':aj}(h:VE X c δ k')(e:k'=k):VE X c δ k:=e▸h
theorem VO.to{k k':List aj}(h:VO X c δ k')(e:k'=k):VO X c δ k:=e▸h
theorem bQ(n:Nat)(i:Int):Lay n (.int i):=#[rfl,bj _]
theorem Iz(n:Nat):Lay n .none:=#[rfl,bj _]
theorem bu{x:Str}(h:bW (.str x)=true):Lay n (.str x):=#[h,bj _]
theorem Gg:∀{ds:List aj},(∀d∈ds,Lay n d)->oQ ds=true/\aj.depthAll ds<=n
 | [],_=>#[rfl,bj _]
 |d::ds,h=>by
  obtain⟨h1,h2⟩:=Gg λe he=>h e (aN _ he)
  obtain⟨h3,h4⟩:=h d aM;refine#[by simp[oQ,h1,h3],?_]
  show max d.depth (aj.depthAll ds)<=n;omega
theorem ou(h:∀d∈ds,Lay n d):Lay (n+1) (.list ds):=by
 obtain⟨h1,h2⟩:=Gg h;exact#[h1,Nat.succ_le_succ h2]
theorem iE(h:∀d∈ds,Lay n d):Lay (n+1) (.tuple ds):=by
 obtain⟨h1,h2⟩:=Gg h;exact#[h1,Nat.succ_le_succ h2]
theorem filterMap_some{α β:Type}{F:α->Option β}{g:α->β}:∀{l:List α},(∀a∈l,F a=some (g a))->l.filterMap F=l.map g
 | [],_=>rfl
 |a::l,h=>by
  rw[cJ (h a aM),aA,filterMap_some λb hb=>h b (aN _ hb)]
def R_:Slot->Bool
 | .own _=>true
 |_=>false
def noOwn(δ:List Slot):Bool:=δ.all λs=>!R_ s
theorem gE(h:noOwn δ=true)(i:Nat)(ds:List aj):δ[i]?≠some (.own ds):=λe=>by
 have:=fe.mp h _ (aK e);cases this
section
variable{K:aq}{B0 B H0 H cW H' C0 C Ha Hb:Hp}{σ σ':St}{δ δ':List Slot}
theorem fP.qm(f:fP K B0 B H0 H σ δ){i:Nat}{v:V}{sl:Slot}(hs:Mf K B H0 H sl (some (some v)))(hn:R_ sl=false):fP K B0 B H0 H (σ.set i (some v)) (δ.set i sl):=by
 refine#[f.ent,by simp[f.len],λj WY e=>?_,λj k ds es p Ip e1 e2 e3=>?_]
 ·by_cases hj:j=i
  ·subst hj
   have hl:j < δ.length:=by simpa using(aJ.mp e).1
   rw[a_ hl]at e
   cases e;rwa[a_ (by rw[f.len];exact hl)]
  ·rw[a7 (bJ hj)]at e
   rw[a7 (bJ hj)]
   exact f.slot j WY e
 ·have nj:j≠i:=λz=>by
   subst z;have hl:j < δ.length:=by simpa using(aJ.mp e1).1
   rw[a_ hl]at e1;cases e1;cases hn
  have nk:k≠i:=λz=>by
   subst z;have hl:k < δ.length:=by simpa using(aJ.mp e2).1
   rw[a_ hl]at e2;cases e2;cases hn
  rw[a7 (bJ nj)]at e1 e3
  rw[a7 (bJ nk)]at e2 ⊢
  exact f.apart j k ds es p Ip e1 e2 e3
theorem fP.re(f:fP K B0 B H0 H σ δ)(hn:noOwn δ=true)(g:c6 C0 C H0 H):fP K C0 C H0 H σ δ:=by
 refine#[g,f.len,λi sl e=>?_,f.apart]
 have q:=f.slot i sl e;cases sl with
 |own ds=>exact qQ7 e (gE hn i ds)
 |_=>exact q
theorem c6.still(g:c6 H0 H Ha Hb){p:aH}{o:HO}(h0:H0 p=none)(h:H p=some o):Ha p=none:=by
 cases e:Ha p with
 |none=>rfl
 |some u=>
  rcases g.new p (by rw[e];simp)with z|z
  ·exact qQ7 h0 z
  ·rw[h]at z;cases z
theorem c6.far(s:cU H0 H)(b:cU H Hb):c6 H0 H H0 Hb:=#[b,cU.refl _,s.trans b,λ_ z=>.inl z]
end
section
variable{X:Cx}{st:fQ}{rest body orelse:List fQ}{δ δ':List Slot}{o:Out}{a b c e arg:bK}{d d1 d2 da:aj}{ds zs:List aj}{pos px py:Pos}{x y:Str}
theorem jv(n:Nat):(iJ n).length=n:=by simp[iJ]
theorem Mr(i j:Nat){pt FN:Pos}{kt k2}(h1:VE X a δ d1)(h2:VE X b δ d2)(hc:X.calm=true)(hN:X.N.Nodup)(A6:i≠j)(hi:X.N[i]?=some x:=by rfl)(hj:X.N[j]?=some y:=by rfl)(hx:X.env.scope.names.lookup x=some .local:=by rfl)(hy:X.env.scope.names.lookup y=some .local:=by rfl)
  (hw:swappedStores [.Tuple [.Name x px,.Name y py] kt pt] (.Tuple [a,b] k2 FN) X.env=pure (some [x,y]):=by rfl)(hs:swapsWithSole [.Tuple [.Name x px,.Name y py] kt pt] (.Tuple [a,b] k2 FN) pos.line X.env=pure false:=by rfl)
  (OO:kZ X a [b]:=by rfl)(qO:kZ X b []:=by rfl):
  VS X (.Assign [.Tuple [.Name x px,.Name y py] kt pt] (.Tuple [a,b] k2 FN) pos) δ (.nx ((δ.set i (.val d1)).set j (.val d2))):=λB0 B σ H0 H D f ok pins s I=>by
 obtain⟨t,pa,qa⟩:=ao h1 (ao h2 aR qO) OO;refine Ly hc hN hi hj A6 hx hy pa hw hs pins s σ H D I (qa B0 B σ H0 H _ f λvs H1 dD g rs=>?_)
 obtain⟨v,w,rfl,r1,r2⟩:=rs.two;exact#[v,w,rfl,ok _ H1 dD g.fB (((f.grow g).set r1).set r2)]
end
section
variable{K:aq}{B0 B H0 H cW H' C0 C Ha Hb:Hp}{σ σ':St}{δ δ':List Slot}{a:aH}{ps:List aH}{gs:List (List aj)}
end
section
variable{X:Cx}{B0 B H0 H cW H' Ha Hb:Hp}{σ σ':St}{D:Ends}{st:fQ}{rest body orelse:List fQ}{δ δ':List Slot}{a:aH}{ps:List aH}{gs:List (List aj)}{e c tg iter:bK}{d:aj}{ds:List aj}{pos px wj:Pos}{x y:Str}
def Ends.tail(D:Ends)(u:St->Hp->Prop):Ends:={ D with nx:=u }
theorem cI(h:cS X st (D.tail λσ H=>Ay X rest D σ H) σ H):Ay X (st::rest) D σ H:=λpins s I=>k8 Mh la pins s σ H D I h
theorem bS(h:cS X st D σ H):Ay X [st] D σ H:=λpins s I=>ye Mh pins s σ H D I h
end
section
variable{X:Cx}{sc:kH}{own N:List Str}{cap:List Nat}{cl:List (Str×aH)}{tg iter:bK}{δ:List Slot}{ds:List aj}{pos px wj lp:Pos}{tgt:Fx}{x:Str}{B0 B H0 H:Hp}{σ:St}{D:Ends}
end
section
variable{X:Cx}{B0 B H0 H:Hp}{σ:St}{D:Ends}{δ:List Slot}{a:aH}{ps:List aH}{gs:List (List aj)}{pos px:Pos}{x:Str}
end
theorem vk{α:Type}(l:List α)(n:Nat):cutD l none (some (n:Int))=l.take n:=by
 unfold cutD;rw[HT.DZ,HT.qd,lN,Nat.sub_zero];by_cases h:n<=l.length
 ·rw[iA h]
 ·rw[Nat.min_eq_right ∅,dw ∅,dw ∅]
theorem jB:Lay 20 (.list []):=ou λd hd=>by cases hd
structure Nm(mg:Str->Option aF):Prop where
 len:mg "len"=none
 OQ:mg "enumerate"=none
 srt:mg "sorted"=none
 max:mg "max"=none
 min:mg "min"=none
 rng:mg "range"=none
 sum:mg "sum"=none
 UB:mg "isinstance"=none
 tup:mg "tuple"=none
 lst:mg "list"=none
 int:mg "int"=none
 bool:mg "bool"=none
section
variable{P:bA}{w:cn}{A:dO}{R:vV->aS->Prop}{it S:aH}{fp wr:List aH}{n:Nat}{V:Nat->aF->Prop}{St:Nat->cX->Prop}{Kp:cX->Prop}{bt:Nat->Nat->Bool}
end
section
variable{P:bA}{w:cn}{A:dO}{E:aF->aS->Prop}{s:aS}
end
section
variable{X:Cx}
theorem UC(i j:Int):nR K (λxs H Q=>∃i j,xs=[.int i,.int j]/\Q (.int (if j>i then j else i)) H) [.int i,.int j] (.int (if j>i then j else i)):=λvs H0 H Q s r q=>by
 obtain⟨v,u,rfl,r1,r2⟩:=r.two;cases r1;cases r2;exact#[i,j,rfl,q _ _ _ (.refl s) (.int _)]
end
def J4(l:aH)(n:Nat):cX->Prop:=λh=>∃o es ep t,h.get? l=some o/\o.ExactSet/\o.data=.set es ep t/\t.fits es.size=true/\es.size=n
theorem J4.ok(x:J4 l n h):iT P w H h l (.ext (J4 l n)):=by
 refine#[x,?_,λh1 h2 y k=>?_]
 ·obtain⟨o,_,_,_,e,_⟩:=x
  exact#[o,e]
 ·obtain⟨o,es,ep,t,e,r⟩:=y
  exact#[o,es,ep,t,k o e,r]
section
variable{X:Cx}
def dd:List Str->List Str->List Str
 |acc,[]=>acc
 |acc,x::l=>dd (if decide (x∈acc)=true then acc else acc ++ [x]) l
theorem Bm:∀(l:List Str)(acc m:List Str),dd acc (l++m)=dd (dd acc l) m
 | [],_,_=>rfl
 |x::l,acc,m=>Bm l _ m
theorem wo:∀(l acc:List Str),(dd acc l).length<=acc.length+l.length
 | [],_=>aT _
 |x::l,acc=>by
  have:=wo l (if decide (x∈acc)=true then acc else acc ++ [x])
  unfold dd
  split at this
  ·rename_i h;rw[qQ3 h];simp;omega
  ·rename_i h;rw[qQ2 h];simp at this ⊢;omega
theorem Eg:∀{l acc:List Str},(acc++l).Nodup->dd acc l=acc++l
 | [],acc,_=>by rw[b9];rfl
 |x::l,acc,h=>by
  unfold dd;have hx:=λz=>by
   rw[bR]at h;exact h.2.2 x z x aM rfl
  rw[qQ2 ↑hx,Eg ↑h]
  simp
theorem Bn:∀{ss:List Str}{its:List aF},dU (ss.map V.str) its->∀(i:Nat)v,its[i]?=some v->∃x t,ss[i]?=some x/\v=.str x t
 | [],_,r,i,v,e=>by cases r;simp at e
 |x::ss,_,r,i,v,e=>by
  cases r with
  |cons a t=>
   cases i with
   |zero=>obtain⟨t,rfl⟩:=a;simp at e;exact#[x,t,rfl,e.symm]
   |succ i=>simpa using Bn t i v ↑e
theorem SetOf.zbA{S:Str->Bool}(x:h.SetOf (strKind P w) l S n):J4 l n h:=by
 obtain⟨o,es,ep,t,ho,hex,hd,_,_,_,hf,hn⟩:=x;exact#[o,es,ep,t,ho,hex,hd,hf,hn]
theorem Az:jK X (.builtin "len") (λxs H Q=>∃p n,xs=[.ref p]/\H p=some (.ext (J4 p n))/\n<10000/\Q (.int n) H):=by
 intro pins s σ H xs us Q I r h;obtain⟨p,n,rfl,hp,hn,q⟩:=h;obtain⟨u,rfl,rx⟩:=vals1 r;cases rx;obtain⟨⟨o,es,ep,t,ho,hex,hd,hf,hz⟩,_⟩:=I.hok p _ hp;exact call_len_set ho hex hd hf ∅ #[.int n,H,I.tok _,#[_,by rw[hz]],q]
end
section
variable{X:Cx}{a b c e:bK}{δ:List Slot}{d d1 d2 d3:aj}{ds:List aj}{pos p p2 Cz:Pos}{k:Nat}
theorem cz.strs:∀{ss:List Str}{xs:List V},cz K H xs (ss.map .str)->xs=ss.map V.str
 | [],_,r=>by cases r;rfl
 |x::ss,_,r=>by cases r with|cons a t=>cases a;rw[cz.strs t];rfl
theorem y4:PE X e (λ_ _ _=>False):=λ_ _ _ _ _ _ h=>h.elim
theorem kK{op}(h:VE X a δ d):VE X (.BoolOp op [a] pos) δ d:=.of (TR cL) λB0 B σ H0 H Q f q=>h B0 B σ H0 H Q f q
theorem oW{k1 k2:Bool}(h1:VE X a δ (.bool k1))(h2:k1=true->VE X (.BoolOp .And (b::rest) pos) δ (.bool k2)):VE X (.BoolOp .And (a::b::rest) pos) δ (.bool (k1&&k2)):=by
 cases k1 with
 |true=>
  refine .of (Lv cL cL) λB0 B σ H0 H Q f q=>h1 B0 B σ H0 H _ f λv H1 dD g r=>?_
  cases r;refine#[true,rfl,?_]
  exact h2 rfl B0 B σ H1 dD _ (f.grow g) λu H2 fX g2 r2=>q u H2 fX (g.trans g2) r2
 |false=>
  refine .of (Lv cL y4) λB0 B σ H0 H Q f q=>h1 B0 B σ H0 H _ f λv H1 dD g r=>?_
  cases r;refine#[false,rfl,?_]
  exact q _ H1 dD g (.bl false)
theorem vm{k1 k2:Bool}(h1:VE X a δ (.bool k1))(h2:k1=false->VE X (.BoolOp .Or (b::rest) pos) δ (.bool k2)):VE X (.BoolOp .Or (a::b::rest) pos) δ (.bool (k1||k2)):=by
 cases k1 with
 |false=>
  refine .of (RM cL cL) λB0 B σ H0 H Q f q=>h1 B0 B σ H0 H _ f λv H1 dD g r=>?_
  cases r;refine#[false,rfl,?_]
  exact h2 rfl B0 B σ H1 dD _ (f.grow g) λu H2 fX g2 r2=>q u H2 fX (g.trans g2) r2
 |true=>
  refine .of (RM cL y4) λB0 B σ H0 H Q f q=>h1 B0 B σ H0 H _ f λv H1 dD g r=>?_
  cases r;refine#[true,rfl,?_]
  exact q _ H1 dD g (.bl true)
def qP:List Bool->Bool:=λl=>l.all id
theorem rQ(hc:X.calm=true):jK X (.builtin "all") (λxs H Q=>∃p bs,xs=[.ref p]/\jy X.K H p (bs.map V.bl)/\Q (.bl (qP bs)) H):=by
 intro pins s σ H xs us Q I r h;obtain⟨p,bs,rfl,hq,q⟩:=h;obtain⟨u,rfl,rx⟩:=vals1 r;cases rx;obtain⟨its,rv,pl,hz⟩:=I.list hq;have hl:=rv.length;simp only[ae]at hl;refine call_all_walkS (mN pl.isList ?_)
 have PV:∀(i:Nat)v,its.toArray[i]?=some v->v=.bool (bs.getD i false):=λi v hv=>by
  have LD:its[i]?=some v:=by simpa using hv
  have e:=rv.getD i;have e2:its.getD i nZ=v:=by rw[aO,LD];rfl
  have hi:i<bs.length:=by have:=(aJ.mp LD).1;omega
  have e3:(bs.map V.bl).getD i .non=.bl (bs.getD i false):=by
   rw[aO,ay,aO,av hi];rfl
  rw[e2,e3]at e;exact e
 refine#[_,_,_,_,_,_,_,λi=>bs.getD i false,rfl,(Walks.list (by simp[I.ok.hd hc]) _ p (a9 (a8 pl.isList.choose_spec.1)) its.toArray).toS,#[#[_,bE _ rfl,rfl,rfl],pl.isList.push _],?_,λs' hm=>?_]
 ·intro i v Q' E' s' hv q'
  rw[PV i v hv];exact fV q'
 ·have ea:(cx its.toArray.size).all (λi=>bs.getD i false)=qP bs:=by
   rw[bH,<-hl];unfold qP;rw[eY,fe,fe]
   constructor
   ·intro h x hx
    obtain⟨i,hi⟩:=sE.mp hx;have:=h i (cA.mpr (aJ.mp hi).1)
    rwa[aO,hi]at this
   ·intro h i hi
    have hi:=cA.mp hi;rw[aO,av hi]
    exact h _ (cZ hi)
  rw[ea];obtain⟨h',g',d',Bo,Wb⟩:=s';have eg:=hm.gens;have ed:=hm.drawn;have eo:=hm.os;subst eg;subst ed;subst eo;refine#[.bl _,H,I.kept λb o e=>hm.heap b o ?_ (aI _ e),rfl,q]
  have:=a8 e;simp;exact a9 this
theorem cz.bls:∀{bs:List Bool}{xs:List V},cz K H xs (bs.map .bool)->xs=bs.map V.bl
 | [],_,r=>by cases r;rfl
 |x::ss,_,r=>by cases r with|cons a t=>cases a;rw[cz.bls t];rfl
theorem Eh{bs:List Bool}:nR K (λxs H Q=>∃p bs,xs=[.ref p]/\jy K H p (bs.map V.bl)/\Q (.bl (qP bs)) H) [.list (bs.map .bool)] (.bool (qP bs)):=λvs H0 H Q s r q=>by
 obtain⟨v,rfl,r1⟩:=r.one;cases r1 with
 |lst hq rs=>
  have e:=rs.bls;subst e;exact#[_,bs,rfl,s.seq hq,q _ _ _ (.refl s) (.bl _)]
theorem Sb(hr:eB k X.A)(hs:D9 d2=true)(l1:Lay 20 d1)(l2:Lay 20 d2)(h1:VE X a δ d1)(h2:VE X b δ d2)(hm:behindInMarks .In b=false:=by with_unfolding_all rfl):VE X (.Compare a [.In] [b] pos) δ (.bool (jg d1 d2)):=yV (Ml (Eb hr)) (Uz hs l1 l2) h1 h2 hm
theorem Ms(hr:eB k X.A)(l1:Lay 20 d1)(l2:Lay 20 d2)(h1:VE X a δ d1)(h2:VE X b δ d2):VE X (.Compare a [.NotEq] [b] pos) δ (.bool (!cR d1 d2)):=yV (Mj (Eb hr)) (Ir l1 l2) h1 h2 (eV _)
end
end L2
namespace L2
open PySem PySem.Spec PyProof.Rows PySem.Builtin PySem.Builtin.Str
variable{i n:Int}{ap:Pos}{K:aq}
section
variable{X:Cx}
def UD:V->List V->Hp->VK->Prop:=λx vs H Q=>∃z y,x=.str z/\vs=[.str y]/\(y.length==0)=false/\z.length+2<=sizeLine/\∀l,H l=none->Q (.ref l) (upd H l (.lst ((cP z y).map V.str)))
theorem vn:∀(l:List (Str×Tok)),dU ((l.map (·.1)).map V.str) (strValues l)
 | []=>.nil
 |(x,t)::l=>.cons #[t,rfl] (vn l)
theorem split_len{z y:Str}(hz:z.length+2<=sizeLine):(cP z y).length<=sizeLine/\(partsBetween z (occurrences z y 0 z.length (z.length+1)) y.length).length<=sizeLine:=by
 have e1:=DE z y 0 z.length (z.length+1);have e2:(partsBetween z (occurrences z y 0 z.length (z.length+1)) y.length).length<=sizeLine:=by rw[xJ];omega
 refine#[?_,e2]
 unfold cP
 split
 ·show 1<=sizeLine;omega
 ·split
  ·show 1<=sizeLine;omega
  ·exact e2
theorem Mt:RZ X "str.split" UD:=by
 intro pins s σ H x vs v us Q I rx rv h;obtain⟨z,y,rfl,rfl,hy,hz,q⟩:=h;obtain⟨t,rfl⟩:=rx;obtain⟨u,rfl,ru⟩:=rv.one;obtain⟨tu,rfl⟩:=ru;obtain⟨sl,sp⟩:=split_len hz;have fin:∀(l:List (Str×Tok))(k:Nat),l.map (·.1)=cP z y->EP X pins σ Q _ { s with heap:=s.heap.push { cls:=.type "list",data:=.seq (strValues l).toArray },toks:=k }:=λl k e=>by
  refine#[.ref s.heap.objs.size,_,I.laid (λb o e=>aI _ e) ∅ (show iT X.prog X.w _ _ _ (.lst ((cP z y).map V.str)) from#[by rw[ae];exact sl,strValues l,0,by rw[<-e];exact vn l,bE _ rfl]),rfl,q _ (I.hok.fresh ∅)]
 cases h1:(decide (z.length<y.length)||decide (strKind z<strKind y)) with
 |true=>exact iY Ap (ug _ _ _) yD (xK _ _) (meets_str_split_cannot_occur z y t tu h1) (fin [(z,t)] s.toks (by unfold cP;rw[qQ3 h1];rfl))
 |false=>
  cases hf:(occurrences z y 0 z.length _).isEmpty with
  |true=>exact iY Ap (ug _ _ _) yD (xK _ _) (meets_str_split_not_found z y t tu h1 hy hf) (fin [(z,t)] s.toks (by unfold cP;rw[qQ2 (by rw[h1];decide),qQ3 hf];rfl))
  |false=>
   refine iY Ap (ug _ _ _) yD (xK _ _) (meets_str_split_sep z y t tu h1 hy hf ∅ sp) ?_
   rw[strsFrom_eq];exact fin (numbered s.toks _) _ ((numbered_texts _ _).trans (by unfold cP;rw[qQ2 (by rw[h1];decide),qQ2 (by rw[hf];decide)]))
def rJoin(K:aq):V->List V->Hp->VK->Prop:=λx vs H Q=>∃y p zs,x=.str y/\vs=[.ref p]/\(jy K H p (zs.map V.str)\/oT K H p (zs.map V.str))/\(zs.map (·.length)).sum+zs.length*y.length<=16777216/\Q (.str (dm y zs)) H
theorem y6:∀{zs:List Str}{us:List aF},dU (zs.map V.str) us->StrsAre us zs
 | [],_,r=>by cases r;exact .nil
 |z::zs,_,r=>by cases r with|cons a t=>obtain⟨tk,rfl⟩:=a;exact .cons z tk (y6 t)
theorem PX:RZ X "str.join" (rJoin X.K):=by
 intro pins s σ H x vs v us Q I rx rv h;obtain⟨y,p,zs,rfl,rfl,hq,hz,q⟩:=h;obtain⟨t,rfl⟩:=rx;obtain⟨u,rfl,ru⟩:=rv.one;cases ru;have e:Txt.join y zs=dm y zs:=StrLaws.glued_eq_join y zs;rcases hq with hq|hq
 ·obtain⟨its,r,pl,_⟩:=I.list hq
  exact join_list pl.isList ↑(y6 r) hz λt' k=>#[.str _,H,I.tok k,#[t',by rw[e]],q]
 ·obtain⟨its,r,pl,_⟩:=I.tuple hq
  exact join_tuple pl ↑(y6 r) hz λt' k=>#[.str _,H,I.tok k,#[t',by rw[e]],q]
theorem AA:jK X (.type "int") (λxs H Q=>∃x n,xs=[.str x]/\intText? x=some n/\x.length<=640/\Q (.int n) H):=by
 intro pins s σ H xs us Q I r h;obtain⟨x,n,rfl,hn,hl,q⟩:=h;obtain⟨u,rfl,t,rfl⟩:=vals1 r;exact PySem.W.KIN.call_text hn hl #[.int n,H,I.tok _,#[_,rfl],q]
def jF(x:Str):Nat->Str
 |0=>gi
 |n+1=>x++jF x n
theorem IA(x:Str):∀(n:Nat)(acc:Array Nat),(bw n x.cps).foldl (· ++ ·) acc=acc++(jF x n).cps
 |0,acc=>by show acc=acc ++ #[];simp
 |n+1,acc=>by
  rw[fq,nB,IA x n];show acc++x.cps++(jF x n).cps=acc++(x.cps++(jF x n).cps);rw[Array.append_assoc]
theorem IB(x:Str):∀n,(jF x n).length=n*x.length
 |0=>by show(gi).length=_;simp[gi,Str.length]
 |n+1=>by
  show(x++jF x n).length=_
  rw[cF,IB x n,FD,Nat.add_comm]
theorem PY:sG X (binaryOp .Mult) (λx y H Q=>∃z n,x=.str z/\y=.int n/\0<=n/\n<=1000/\z.length<=1000/\Q (.str (jF z n.toNat)) H):=by
 intro pins s σ H x y v u Q I rx ry h;obtain⟨z,n,rfl,rfl,h0,h1,hz,q⟩:=h;obtain⟨t,rfl⟩:=rx;obtain⟨t',rfl⟩:=ry;have h63:1000<2^63:=⋯
 have e63:2^63=9223372036854775808:=⋯
 refine PySem.P.mul_str (by rw[qQ0 ∅,qQ0 ∅];rfl) (λha _=>?_) (λ_ _=>?_) ?_
 ·have:(2^63-1)/n>=1000:=by
   rw[ge_iff_le,Int.le_ediv_iff_mul_le ∅]
   omega
  omega
 ·unfold tooLong
  rw[qQ0];rw[dN];have:z.length*n.toNat<=1000*1000:=j_ hz ∅
  omega
 ·by_cases hn:n<1
  ·rw[qQ3 hn]
   have:n.toNat=0:=∅
   rw[this]at q;exact#[⋯,.str _,H,I.tok _,#[_,rfl],q]
  ·rw[qQ2 hn]
   by_cases hc:(n==1||z.length==0)=true
   ·rw[qQ3 hc]
    have e:jF z n.toNat=z:=by
     rw[Ag]at hc;rcases hc with hc|hc
     ·have:n=1:=by simpa using hc
      subst this;cases z with|mk c=>show(#[c ++ #[]]:Str)=#[c];simp
     ·have Z8:z.length=0:=by simpa using hc
      have:z=gi:=by cases z with|mk c=>simp[Str.length]at Z8;simp[gi,Z8]
      subst this;have:∀m,jF gi m=gi:=by
       intro m
       induction m with
       |zero=>rfl
       |succ m ih=>show gi++jF gi m=_;rw[ih];rfl
      exact this _
    rw[e]at q;exact#[.str _,H,I.tok _,#[_,rfl],q]
   ·rw[qQ2 hc]
    have e:(#[(bw n.toNat z.cps).foldl (· ++ ·) #[]]:Str)=jF z n.toNat:=by rw[IA];simp
    rw[e];refine#[?_,.str _,H,I.tok _,#[_,rfl],q]
    rw[IB,dN];have:n.toNat*z.length<=1000*1000:=j_ ∅ hz
    omega
def Its(x:Str):It:=#[λi _=>i<x.cps.size,λi H v H'=>H'=H/\∃c,x.cps[i]?=some c/\v=.str #[(bZ [c])],λi _=>x.cps.size<=i]
theorem Mu{P:bA}{w:cn}{tg:bK}(it:aH)(x:Str)(t:Tok){ty:String}(hty:ty="str_ascii_iterator"\/ty="str_iterator"):Turn P w K tg (Its x) [it] it (λi h=>h.IsStrIter it ty x t i) where
 mem:=by simp
 obj:=λi h st b hb=>by
  have e:b=it:=by simpa using hb
  subst e;obtain⟨o,e,c,d⟩:=st;exact#[o,e,λv z=>by rw[d]at z;cases z]
 keep:=λi h h' st k=>let#[o,e,r]:=st;#[o,k it (by simp) o e,r]
 item:=by
  intro X hP hw hK hc i pins s σ H E I hf st hg;subst hP hw hK;obtain⟨f0,f1,f2,f3,f4,f5⟩:=hf it (by simp)
  have fin:∀v h' tk,SignAt x i v->h'.IsStrIter it ty x t (i+1)->(∀b o,b∉[it]->s.heap.get? b=some o->h'.get? b=some o)->∃u,some v=some u/\wpAny (model X.prog X.w) X.A (letOwnedTupleGo tg (.ref it) u) (λ_ s2=>∃y H',Inv X pins σ H' s2/\RelV y u/\(Its x).Xa i H y H'/\s2.heap.IsStrIter it ty x t (i+1)/\∀b∈[it],H' b=none) E { s with heap:=h',toks:=tk }:=by
   intro v h' tk hv yf kk;obtain⟨c,u,hcu,rfl⟩:=hv;have I1:Inv X pins σ H { s with heap:=h',toks:=tk }:=I.turned (λb o hb e=>kk b o ↑hb e) f0 f1 f3 f4 f5
   obtain⟨o,e,cc,d⟩:=id yf;exact#[_,rfl,DT (s:={ s with heap:=h',toks:=tk }) e cc d (by rcases hty with rfl|rfl<;>decide) #[.str #[(bZ [c])],H,I1,#[u,rfl],#[rfl,c,hcu,rfl],yf,λb hb=>(hf b hb).1]]
  rcases hty with rfl|rfl
  ·exact(Walks.strAscii (I.ok.hd hc) it x t).item i s _ _ hg st λv h' tk hv yf kk=>fin v h' tk hv yf kk
  ·exact(Walks.strWide (I.ok.hd hc) it x t).item i s _ _ hg st λv h' tk hv yf kk=>fin v h' tk hv yf kk
 done:=by
  intro X hP hw hK hc i pins s σ H E I hf st hg;subst hP hw hK;obtain⟨f0,f1,f2,f3,f4,f5⟩:=hf it (by simp)
  have hge:=hg;rcases hty with rfl|rfl
  ·exact wpAny_pyNext_ascii_end (I.ok.hd hc) st (by simp;exact hge) λh' eb=>#[rfl,I.turned (λb o hb e=>eb b o hb e) f0 f1 f3 f4 f5]
  ·exact wpAny_pyNext_wide_end (I.ok.hd hc) st (by simp;exact hge) λh' eb=>#[rfl,I.turned (λb o hb e=>eb b o hb e) f0 f1 f3 f4 f5]
 self:=λ_ _ _ _ _ st h=>by
  rcases hty with rfl|rfl
  ·exact wpAny_pyIter_striter_ascii st h
  ·exact wpAny_pyIter_striter_wide st h
def zbC(tl:TE):TI:=λσ H R=>tl σ H λv H1=>∃x,v=.str x/\R (Its x) H1
theorem UE{tg l:bK}{tl:TE}(hl:PE X l tl):PI X tg l (zbC tl):=by
 intro pins s σ H R I h;refine gN (hl pins s σ H _ I h) λv s1 #[y,H1,I1,r1,q1]=>?_
 obtain⟨x,e,q⟩:=q1;subst e;obtain⟨t,rfl⟩:=r1;have go:∀ty,(ty="str_ascii_iterator"\/ty="str_iterator")->∀o:Obj,o.cls=.type ty->o.data=.fields (bZ [.str x t,.int 0 0])->o.isFreed=false->PIE X pins σ tg R _ { s1 with heap:=s1.heap.push o }:=λty hty o c d fr=>
  #[s1.heap.objs.size,_,_,_,H1,rfl,I1.kept λb o e=>aI _ e,Mu _ x t hty,#[o,bE _ fr,c,d],λb hb=>by
   have e:b=s1.heap.objs.size:=by simpa using hb
   subst e;exact I1.yH (aT _) (I1.hok.fresh (aT _)),q]
 cases ha:x.cps.all (·<128)
 ·exact wpAny_pyIter_wide ha (go "str_iterator" (.inr rfl) _ rfl rfl rfl)
 ·exact wpAny_pyIter_ascii ha (go "str_ascii_iterator" (.inl rfl) _ rfl rfl rfl)
end
section
variable{X:Cx}{tg a b c e:bK}{es:List bK}{δ:List Slot}{d d1 d2 d3:aj}{ds:List aj}{pos p p2 Cz:Pos}{k:Nat}{x y z:Str}
def rR(x:Str):List aj:=x.cps.toList.map λc=>.str #[(bZ [c])]
theorem UG(h:VE X a δ (.str x)):VI X tg a δ (rR x):=#[_,UE cL,λB0 B σ H0 H R f q=>h B0 B σ H0 H _ f λv H1 dD g r=>by
 cases r;have hl:(rR x).length=x.cps.size:=by unfold rR;rw[ae,di]
 refine#[x,rfl,q _ H1 dD g λHa Hb s1 s2 i=>#[λhi=>(show i<x.cps.size by omega),λhi=>(show x.cps.size<=i by omega),λv Bf d hd #[e,c,hc,ev]=>?_]]
 subst e;subst ev;unfold rR at hd;rw[ay,rg,hc]at hd
 cases hd;exact#[Ha,.refl s2,.str _]]
theorem odS(h:x.length+y.length<=sizeLine):Bg K (λx y H Q=>∃i j,x=.str i/\y=.str j/\i.length+j.length<=sizeLine/\Q (.str (i++j)) H) (.str x) (.str y) (.str (x++y)):=λv u H0 H Q s r1 r2 k=>by cases r1;cases r2;exact#[_,_,rfl,rfl,h,k _ _ _ (.refl s) (.str _)]
theorem iF(h1:VE X a δ (.str x))(h2:VE X b δ (.str y))(h:x.length+y.length<=sizeLine):VE X (.BinOp a .Add b pos) δ (.str (x++y)):=uw FV (odS h) h1 h2
theorem UH(h0:0<=n)(h1:n<=1000)(hz:x.length<=1000):Bg K (λx y H Q=>∃z n,x=.str z/\y=.int n/\0<=n/\n<=1000/\z.length<=1000/\Q (.str (jF z n.toNat)) H) (.str x) (.int n) (.str (jF x n.toNat)):=λv u H0 H Q s r1 r2 k=>by cases r1;cases r2;exact#[_,_,rfl,rfl,h0,h1,hz,k _ _ _ (.refl s) (.str _)]
theorem IC(h1:VE X a δ (.str x))(h2:VE X b δ (.int n))(h0:0<=n)(hn:n<=1000)(hz:x.length<=1000):VE X (.BinOp a .Mult b pos) δ (.str (jF x n.toNat)):=uw PY (UH h0 hn hz) h1 h2
theorem X4{c:Nat}(hz:x.length<=sizeLine)(h:ur x.cps.toList i=some c):Bg K (Z2 K) (.str x) (.int i) (.str #[(bZ [c])]):=λv u H0 H Q s r1 r2 k=>by
 cases r1;cases r2;exact .inr (.inr #[x,i,c,rfl,rfl,hz,h,k _ _ _ (.refl s) (.str _)])
theorem CB{c:Nat}(h1:VE X a δ (.str x))(h2:VE X b δ (.int i))(hz:x.length<=sizeLine)(h:ur x.cps.toList i=some c)(hs:oj b:=by intro _ _;rfl):VE X (.Subscript a b pos) δ (.str #[(bZ [c])]):=F8 yP (X4 hz h) h1 h2 hs
def Ei(x y:Str):Bool:=!(occurrences y x 0 y.length 1).isEmpty
theorem X5:Bg K (λx y H Q=>∃i j,x=.str i/\y=.str j/\Q (.bl (!(occurrences j i 0 j.length 1).isEmpty)) H) (.str x) (.str y) (.bool (Ei x y)):=λv u H0 H Q s r1 r2 k=>by cases r1;cases r2;exact#[_,_,rfl,rfl,k _ _ _ (.refl s) (.bl _)]
theorem UI(h1:VE X a δ (.str x))(h2:VE X b δ (.str y))(hm:behindInMarks .In b=false:=by with_unfolding_all rfl):VE X (.Compare a [.In] [b] pos) δ (.bool (Ei x y)):=yV JD X5 h1 h2 hm
theorem UJ(hz:x.length<=sizeLine):nR K (λxs H Q=>∃z,xs=[.str z]/\z.length<=sizeLine/\Q (.int z.length) H) [.str x] (.int x.length):=λvs H0 H Q s r k=>by
 obtain⟨v,rfl,r1⟩:=r.one;cases r1;exact#[x,rfl,hz,k _ _ _ (.refl s) (.int _)]
theorem IE(h:VE X a δ (.str x))(hz:x.length<=sizeLine)(hm:X.mg "len"=none)(hg:Gl X "len":=by rfl)(hs:kZ X a []:=by rfl):VE X (.Call (.Name "len" p) [a] [] pos) δ (.int x.length):=gR Cj (UJ hz) (ao h aR hs) hm tE hg (he:=hs)
theorem UK(h:i.natAbs.log2<1920):nR K (λxs H Q=>∃i,xs=[.int i]/\i.natAbs.log2<1920/\Q (.str (toString i)) H) [.int i] (.str (toString i)):=λvs H0 H Q s r k=>by
 obtain⟨v,rfl,r1⟩:=r.one;cases r1;exact#[i,rfl,h,k _ _ _ (.refl s) (.str _)]
theorem UL(h:intText? x=some n)(hl:x.length<=640):nR K (λxs H Q=>∃x n,xs=[.str x]/\intText? x=some n/\x.length<=640/\Q (.int n) H) [.str x] (.int n):=λvs H0 H Q s r k=>by
 obtain⟨v,rfl,r1⟩:=r.one;cases r1;exact#[x,n,rfl,h,hl,k _ _ _ (.refl s) (.int _)]
theorem sM(h:VE X a δ (.int i))(hl:i.natAbs.log2<1920)(hm:X.mg "str"=none)(hg:Gl X "str":=by rfl)(hs:kZ X a []:=by rfl):VE X (.Call (.Name "str" p) [a] [] pos) δ (.str (toString i)):=jV Cd (UK hl) (ao h aR hs) hm rfl hg (he:=hs)
theorem PZ(h:VE X a δ (.str x))(hn:intText? x=some n)(hl:x.length<=640)(hm:X.mg "int"=none)(hg:Gl X "int":=by rfl)(hs:kZ X a []:=by rfl):VE X (.Call (.Name "int" p) [a] [] pos) δ (.int n):=jV AA (UL hn hl) (ao h aR hs) hm rfl hg (he:=hs)
theorem rS(h1:VE X a δ (.str x))(h2:VE X b δ (.str y))(hy:(y.length==0)=false)(hz:x.length+2<=sizeLine)
  (hs:kZ X b []:=by rfl)(gj:yc X a "split":=by rfl)
  (k_:FJ X pos [b]:=by rfl)
  (hline:(ap.endLine==pos.line)=true:=by rfl)(fJ:tF X pos []:=by rfl):VO X (.Call (.Attribute a "split" ap) [b] [] pos) δ ((cP x y).map .str):=
 .of (om B2 PySem.F.slot_str_split PySem.F.type_str_split Mt cL (cN cL eG hs) gj k_ hline hs fJ) λB0 B σ H0 H Q f q=>h1 B0 B σ H0 H _ f λv H1 dD g r1=>by
  cases r1;refine#[rfl,h2 B0 B σ H1 dD _ (f.grow g) λu H2 fX g2 r2=>?_]
  cases r2;refine#[x,y,rfl,rfl,hy,hz,λl hl=>?_]
  have gg:=g.trans g2;refine q l _ H2 _ (gg.trans (.loose g2.sub hl)) (gg.big.free hl) (g2.sub.free hl) aZ ?_
  have go:∀l:List Str,cz X.K H2 (l.map V.str) (l.map aX):=by
   intro l
   induction l with
   |nil=>exact .nil
   |cons z l ih=>exact .cons (.str z) ih
  exact go _
theorem sN{zs:List Str}(h1:VE X a δ (.str y))(h2:VE X b δ (.list (zs.map .str)))(hz:(zs.map (·.length)).sum+zs.length*y.length<=16777216)
  (hs:kZ X b []:=by rfl)(gj:yc X a "join":=by rfl)
  (k_:FJ X pos [b]:=by rfl)
  (hline:(ap.endLine==pos.line)=true:=by rfl)(fJ:tF X pos []:=by rfl):VE X (.Call (.Attribute a "join" ap) [b] [] pos) δ (.str (dm y zs)):=
 .of (om B2 PySem.F.slot_str_join PySem.F.type_str_join PX cL (cN cL eG hs) gj k_ hline hs fJ) λB0 B σ H0 H Q f q=>h1 B0 B σ H0 H _ f λv H1 dD g r1=>by
  cases r1;refine#[rfl,h2 B0 B σ H1 dD _ (f.grow g) λu H2 fX g2 r2=>?_]
  cases r2 with
  |lst hq rs=>
   have e:=rs.strs;subst e;exact#[y,_,zs,rfl,rfl,.inl (g2.sub.seq hq),hz,q _ H2 fX (g.trans g2) (.str _)]
end
end L2
namespace L2
open PySem PySem.Spec PyProof.Rows
variable{a it l l1 l2:aH}{items xs ys:Array aF}{X:Cx}{h:cX}{H:Hp}{pins:List (aH×Obj)}{elts:List bK}{ds:List aj}{i:Nat}{d:Option aj}{o:Option V}{tp:Pos}{K:aq}{s:aS}{x:aF}{Q:aF->aS->Prop}
def lV(kvs:List (Str×aj)):aj:=.dict (kvs.map λp=>(.str p.1,p.2))
def CD(kvs:List ((Str×Str)×aj)):aj:=.dict ((.none,.bool true)::kvs.map λp=>(.tuple [.str p.1.1,.str p.1.2],p.2))
def P0(fs:List (Str×aj)):aj:=.dict ((.none,.none)::fs.map λp=>(.str p.1,p.2))
def gF{κ:Type}[DecidableEq κ](kvs:List (κ×aj))(k:κ):Option aj:=(kvs.find? λp=>decide (p.1=k)).map (·.2)
theorem fD{κ:Type}[DecidableEq κ]{p:κ×aj}{r:List (κ×aj)}{k:κ}(e:p.1=k):gF (p::r) k=some p.2:=by simp[gF,cO,e]
theorem cQ{κ:Type}[DecidableEq κ]{p:κ×aj}{r:List (κ×aj)}{k:κ}(e:¬p.1=k):gF (p::r) k=gF r k:=by simp[gF,cO,e]
def Ej(K:aq)(H:Hp):Option V->Option aj->Prop
 |none,none=>True
 |some v,some d=>Rep K H v d
 |_,_=>False
theorem Ej.some_of{d:aj}(h:Ej K H o (some d)):∃v,o=some v/\Rep K H v d:=by
 cases o with
 |none=>exact h.elim
 |some v=>exact#[v,rfl,h]
theorem Ej.isSome(h:Ej K H o d):o.isSome=d.isSome:=by
 cases o<;>cases d<;>first|rfl|exact h.elim
theorem Ej.getD{v:V}{e:aj}(h:Ej K H o d)(r:Rep K H v e):Rep K H (o.getD v) (d.getD e):=by
 cases o<;>cases d<;>first|exact r|exact h|exact h.elim
section
variable{K:aq}{H:Hp}{v:V}
theorem Rep.rT{kvs:List (Str×aj)}(r:Rep K H v (lV kvs)):∃a ws,v=.ref a/\H a=some (.dK ws)/\ws.map (·.1)=kvs.map (λp=>(aU p.1:Key))/\cz K H (ws.map (·.2)) (kvs.map (·.2)):=by
 unfold lV at r
 generalize e:kvs.map (λp=>(aX p.1,p.2))=ds at r
 cases r with
 |dct h k t=>
  rename_i a ws
  refine#[a,ws,rfl,h,?_,?_]
  ·have k2:ws.map (λp=>nh p.1)=kvs.map λp=>aX p.1:=by rw[<-k,<-e,aB];rfl
   clear k t h e
   induction ws generalizing kvs with
   |nil=>cases kvs with|nil=>rfl|cons p l=>simp at k2
   |cons q ws ih=>
    cases kvs with
    |nil=>simp at k2
    |cons p l=>
     rw[aA,aA]at k2 ⊢
     injection k2 with h1 h2
     rw[ih h2]
     congr 1
     cases eq:q.1 with
     |inl i=>rw[eq]at h1;cases h1
     |inr x=>rw[eq]at h1;injection h1 with h1;rw[h1]
  ·rwa[<-e,aB]at t
 |R3 _ _ _=>cases kvs with|nil=>simp at e|cons p l=>simp at e
 |obj _ _ _ _ _=>cases kvs with|nil=>simp at e|cons p l=>simp at e
 |Uv _ _ _=>cases kvs with|nil=>simp at e|cons p l=>simp at e
theorem wq:∀{kvs:List (Str×aj)}{ws:List (Key×V)},ws.map (·.1)=kvs.map (λp=>(aU p.1:Key))->cz K H (ws.map (·.2)) (kvs.map (·.2))->∀k,Ej K H (gQ ws (aU k)) (gF kvs k)
 | [],ws,e,_,k=>by
  have:ws=[]:=by simpa using e
  subst this;exact f9
 |p::kvs,ws,e,r,k=>by
  cases ws with
  |nil=>simp at e
  |cons q ws=>
   rw[aA,aA]at e r
   injection e with e1 e2
   cases r with
   |cons r1 r2=>
    by_cases h:p.1=k
    ·rwa[fD h,ku (by rw[e1,h])]
    ·rw[cQ h,jf (λz=>h (by rw[e1]at z;injection z))];exact wq e2 r2 k
def tG(p:Str×Str):List Key:=[.inr p.1,.inr p.2]
theorem y8{p q:Str×Str}(e:tG p=tG q):p=q:=by
 injection e with e1 e2
 injection e2 with e2 _
 injection e1 with e1
 injection e2 with e2
 exact Prod.ext e1 e2
theorem Rep.Ek{kvs:List ((Str×Str)×aj)}(r:Rep K H v (CD kvs)):∃a ws,v=.ref a/\H a=some (.dT ws)/\ws.map (·.1)=kvs.map (λp=>tG p.1)/\cz K H (ws.map (·.2)) (kvs.map (·.2)):=by
 unfold CD at r
 generalize e:kvs.map (λp=>(fA [.str p.1.1,.str p.1.2],p.2))=ds at r
 cases r with
 |dct h k t=>
  rename_i a ws
  exfalso
  cases ws with
  |nil=>simp at k
  |cons q ws=>
   rw[aA,aA]at k
   injection k with k1 _
   cases eq:q.1 with
   |inl i=>rw[eq]at k1;cases k1
   |inr x=>rw[eq]at k1;cases k1
 |R3 h k t=>
  rename_i a ws
  refine#[a,ws,rfl,h,?_,?_]
  ·have k2:ws.map (λp=>fA (p.1.map nh))=kvs.map λp=>fA [.str p.1.1,.str p.1.2]:=by rw[<-k,<-e,aB];rfl
   clear k t h e
   induction ws generalizing kvs with
   |nil=>cases kvs with|nil=>rfl|cons p l=>simp at k2
   |cons q ws ih=>
    cases kvs with
    |nil=>simp at k2
    |cons p l=>
     rw[aA,aA]at k2 ⊢
     injection k2 with h1 h2
     rw[ih h2]
     congr 1
     injection h1 with h1
     have one:∀(k:Key)(x:Str),nh k=.str x->k=.inr x:=λk x h=>by
      cases k with
      |inl i=>cases h
      |inr y=>injection h with h;rw[h]
     cases e0:q.1 with
     |nil=>rw[e0]at h1;cases h1
     |cons k1 l1=>
      rw[e0]at h1
      injection h1 with g1 g2
      cases l1 with
      |nil=>cases g2
      |cons k2 l2=>
       injection g2 with g2 g3
       have:l2=[]:=by simpa using g3
       subst this;rw[one k1 _ g1,one k2 _ g2];rfl
  ·rwa[<-e,aB]at t
theorem Gh:∀{kvs:List ((Str×Str)×aj)}{ws:List (List Key×V)},ws.map (·.1)=kvs.map (λp=>tG p.1)->cz K H (ws.map (·.2)) (kvs.map (·.2))->∀k,Ej K H (gQ ws (tG k)) (gF kvs k)
 | [],ws,e,_,k=>by
  have:ws=[]:=by simpa using e
  subst this;exact f9
 |p::kvs,ws,e,r,k=>by
  cases ws with
  |nil=>simp at e
  |cons q ws=>
   rw[aA,aA]at e r
   injection e with e1 e2
   cases r with
   |cons r1 r2=>
    by_cases h:p.1=k
    ·rwa[fD h,ku (by rw[e1,h])]
    ·rw[cQ h,jf (λz=>h (y8 (e1.symm.trans z)))];exact Gh e2 r2 k
theorem Rep.Mv{fs:List (Str×aj)}(r:Rep K H v (P0 fs)):∃a C dx ws,v=.ref a/\H a=some (.ins C dx ws)/\DW K C/\(∀f∈ws.map (·.1),kf K C f)/\ws.map (·.1)=fs.map (·.1)/\cz K H (ws.map (·.2)) (fs.map (·.2)):=by
 unfold P0 at r
 generalize e:fs.map (λp=>(aX p.1,p.2))=ds at r
 cases r with
 |dct h k t=>
  rename_i a ws
  exfalso
  cases ws with
  |nil=>simp at k
  |cons q ws=>
   rw[aA,aA]at k
   injection k with k1 _
   cases eq:q.1 with
   |inl i=>rw[eq]at k1;cases k1
   |inr x=>rw[eq]at k1;cases k1
 |obj h c nn k t=>
  rename_i a C dx ws
  refine#[a,C,dx,ws,rfl,h,c,nn,?_,?_]
  ·have k2:ws.map (λp=>aX p.1)=fs.map λp=>aX p.1:=by rw[<-k,<-e,aB];rfl
   clear k t h e nn
   induction ws generalizing fs with
   |nil=>cases fs with|nil=>rfl|cons p l=>simp at k2
   |cons q ws ih=>
    cases fs with
    |nil=>simp at k2
    |cons p l=>
     rw[aA,aA]at k2 ⊢
     injection k2 with h1 h2
     injection h1 with h1
     rw[ih h2,h1]
  ·rwa[<-e,aB]at t
theorem Mw:∀{fs:List (Str×aj)}{ws:List (Str×V)},ws.map (·.1)=fs.map (·.1)->cz K H (ws.map (·.2)) (fs.map (·.2))->∀k d,gF fs k=some d->∃u,ws.lookup k=some u/\k∈ws.map (·.1)/\Rep K H u d
 | [],ws,e,_,k,d,h=>by cases h
 |p::fs,ws,e,r,k,d,h=>by
  cases ws with
  |nil=>simp at e
  |cons q ws=>
   obtain⟨q1,q2⟩:=q
   injection e with e1 e2
   have e1:q1=p.1:=e1;cases r with
   |cons r1 r2=>
    by_cases hk:p.1=k
    ·rw[fD hk]at h
     cases h;refine#[q2,?_,?_,r1]
     ·rw[eP,e1,hk];simp
     ·rw[aA,e1,hk];exact aM
    ·rw[cQ hk]at h
     obtain⟨u,h1,h2,h3⟩:=Mw e2 r2 k d h;refine#[u,?_,aN _ h2,h3]
     rw[eP];have:(k==q1)=false:=by rw[beq_eq_false_iff_ne,e1];exact λz=>hk z.symm
     rwa[this]
end
section
variable{X:Cx}{a b c e:bK}{δ:List Slot}{d d1 d2 d3:aj}{ds:List aj}{pos ap:Pos}{k:Nat}{kvs fs:List (Str×aj)}{Z9:List ((Str×Str)×aj)}{x y z:Str}
theorem DI(hr:eB k X.A):X.A.units+1<cLine:=by have:=hr.un;omega
theorem oX{f:Str}(h:VE X a δ (P0 fs))(hf:gF fs f=some d)(hb:yc X a f:=by rfl):VE X (.Attribute a f pos) δ d:=
 .of (yJ cL hb) λB0 B σ H0 H Q fr q=>h B0 B σ H0 H _ fr λv H1 dD g r=>by
  obtain⟨p,C,dx,ws,rfl,hp,cl,nn,ke,rs⟩:=r.Mv;obtain⟨u,h1,h2,h3⟩:=Mw ke rs f d hf;exact#[p,C,dx,ws,u,rfl,g.sub _ _ hp,cl,nn f h2,h1,q u H1 dD g h3]
theorem du(hr:eB k X.A)(h1:VE X a δ (lV kvs))(h2:VE X b δ (.str x))(hx:gF kvs x=some d)(hs:Cm b:=by intro _ _;rfl):VE X (.Subscript a b pos) δ d:=
 .of (sI (DI hr) cL cL hs) λB0 B σ H0 H Q fr q=>h1 B0 B σ H0 H _ fr λv H1 dD g r=>h2 B0 B σ H1 dD _ (fr.grow g) λu H2 fX g2 r2=>by
  obtain⟨p,ws,rfl,hp,ke,rs⟩:=r.rT;cases r2;have o:=wq ke rs x;rw[hx]at o;obtain⟨w,hw,sF⟩:=o.some_of;refine#[p,w,rfl,?_,q w H2 fX (g.trans g2) (sF.mono g2.fB)]
  rw[<-hw];exact nQ.k (k:=.inr x) (g2.sub _ _ (g2.fB _ _ hp))
theorem Gi(hr:eB k X.A)(h2:VE X b δ (.str x))(h1:VE X a δ (lV kvs))(hm:behindInMarks .In a=false:=by with_unfolding_all rfl):VE X (.Compare b [.In] [a] pos) δ (.bool (gF kvs x).isSome):=
 .of (FK (L7 (DI hr) cL cL) hm) λB0 B σ H0 H Q fr q=>h2 B0 B σ H0 H _ fr λu H1 dD g r2=>h1 B0 B σ H1 dD _ (fr.grow g) λv H2 fX g2 r=>by
  obtain⟨p,ws,rfl,hp,ke,rs⟩:=r.rT;cases r2;refine#[p,_,rfl,nQ.k (k:=.inr x) (g2.sub _ _ hp),q _ H2 fX (g.trans g2) ?_]
  rw[(wq ke rs x).isSome];exact .bl _
theorem J5(hr:eB k X.A)(h2:VE X b δ (.str x))(h1:VE X a δ (lV kvs))(hm:behindInMarks .NotIn a=false:=by with_unfolding_all rfl):VE X (.Compare b [.NotIn] [a] pos) δ (.bool (!(gF kvs x).isSome)):=
 .of (FK (Bd (DI hr) cL cL) hm) λB0 B σ H0 H Q fr q=>h2 B0 B σ H0 H _ fr λu H1 dD g r2=>h1 B0 B σ H1 dD _ (fr.grow g) λv H2 fX g2 r=>by
  obtain⟨p,ws,rfl,hp,ke,rs⟩:=r.rT;cases r2;refine#[p,_,rfl,nQ.k (k:=.inr x) (g2.sub _ _ hp),q _ H2 fX (g.trans g2) ?_]
  rw[(wq ke rs x).isSome];exact .bl _
theorem P1{x1}(hr:eB k X.A)(h1:VE X a δ (.str x))(h2:VE X b δ (.str y))(h3:VE X c δ (CD Z9))(hm:behindInMarks .In c=false:=by with_unfolding_all rfl)
  (hs:kZ X a [b]:=by rfl)(qO:kZ X b []:=by rfl):VE X (.Compare (.Tuple [a,b] x1 tp) [.In] [c] pos) δ (.bool (gF Z9 (x,y)).isSome):=
 .of (FK (L7 (DI hr) (uq (cN cL (cN cL eG qO) hs)) cL) hm) λB0 B σ H0 H Q fr q=>h1 B0 B σ H0 H _ fr λv H1 dD g r1=>h2 B0 B σ H1 dD _ (fr.grow g) λu H2 fX g2 r2=>by
  cases r1;cases r2;refine#[by show 2<=sizeLine;rw[dN];decide,λt ht=>?_]
  have g3:=(g.trans g2).trans (c6.loose (o:=HO.tup [.str x,.str y]) g2.sub ht);refine h3 B0 B σ H2 _ _ (fr.grow g3) λv H4 UM g4 r=>?_
  obtain⟨p,ws,rfl,hp,ke,rs⟩:=r.Ek;refine#[p,_,rfl,nQ.t (k:=tG (x,y)) (g4.sub _ _ hp) (g4.big _ _ aZ),q _ H4 UM (g3.trans g4) ?_]
  rw[(Gh ke rs (x,y)).isSome];exact .bl _
theorem J6{x1}(hr:eB k X.A)(h3:VE X c δ (CD Z9))(h1:VE X a δ (.str x))(h2:VE X b δ (.str y))(h4:VE X e δ d)(m:M2 X c "get" ap (.Tuple [a,b] x1 tp) e pos:=by exact#[rfl,rfl,rfl,rfl])
  (hs:kZ X a [b]:=by rfl)(qO:kZ X b []:=by rfl):VE X (.Call (.Attribute c "get" ap) [.Tuple [a,b] x1 tp,e] [] pos) δ ((gF Z9 (x,y)).getD d):=
 .of (D6 (DI hr) cL (uq (cN cL (cN cL eG qO) hs)) cL m) λB0 B σ H0 H Q fr q=>h3 B0 B σ H0 H _ fr λv H1 dD g r=>by
  obtain⟨p,ws,rfl,hp,ke,rs⟩:=r.Ek;refine#[p,rfl,.inr #[ws,.inl (g.sub _ _ hp)],?_]
  refine h1 B0 B σ H1 dD _ (fr.grow g) λv H2 fX g2 r1=>h2 B0 B σ H2 fX _ ((fr.grow g).grow g2) λu H3 uv g3 r2=>?_
  cases r1;cases r2;refine#[by show 2<=sizeLine;rw[dN];decide,λt ht=>?_]
  have g4:=g3.trans (c6.loose (o:=HO.tup [.str x,.str y]) g3.sub ht);refine h4 B0 B σ H3 _ _ (((fr.grow g).grow g2).grow g4) λw H5 UN g5 r5=>?_
  have gg:=(g2.trans g4).trans g5;refine#[_,nQ.t (k:=tG (x,y)) (gg.big _ _ (g.sub _ _ hp)) (g5.big _ _ aZ),q _ H5 UN (g.trans gg) ?_]
  exact((Gh ke (rs.mono gg.fB) (x,y))).getD r5
end
section
variable{prog:bA}{w:cn}{A:dO}{E:aF->aS->Prop}{s:aS}
theorem zbD:(d_ l==nZ)=false:=rfl
theorem Gj(hit:s.heap.IsTupleIter it l i)(hl:s.heap.IsTuple l items)(hx:items[i]?=some x)
  (hQ:∀h',h'.IsTupleIter it l (i+1)->iz it s.heap h'->Q x { s with heap:=h' }):wpAny (model prog w) A (iZ (.ref it)) Q E s:=by
 obtain⟨o,ho,hc,hd⟩:=_root_.id hit;obtain⟨ol,OS,Gk,nl,Le⟩:=hl;refine aD (jx hit.typeIs km (nJ km hit.typeIs DF ?_ (B3 _)))
 show wpAny _ _ (field _ 0 >>= _) _ _ s;refine aD (fN ho hd rfl ?_)
 refine aD (fN ho hd rfl ?_)
 refine aD (iq OS Le ?_)
 simp[fy,hx];refine aD (wpAny_setField ho hd (by simp) (bx #[x,rfl,bx (hQ _ ?_ (Aq ..))]))
 refine#[_,cX.get?_update_self _ ho (Obj.isFreed_of_fields (Obj.data_mapFields hd _)),(Obj.cls_mapFields ..).trans hc,?_]
 rw[Obj.data_mapFields hd];simp[rawInt]
theorem J7(hh:A.handled=none)(hit:s.heap.IsTupleIter it l i)(hl:s.heap.IsTuple l items)(hx:items[i]?=none)
  (hE:∀h' e,cX.ExtBut it s.heap h'->(∃o,h'.get? e=some o/\o.cls=.type "StopIteration")->E (.ref e) { s with heap:=h' }):wpAny (model prog w) A (iZ (.ref it)) Q E s:=by
 obtain⟨o,ho,hc,hd⟩:=_root_.id hit;obtain⟨ol,OS,Gk,nl,Le⟩:=hl;refine aD (jx hit.typeIs km (nJ km hit.typeIs DF ?_ (B3 _)))
 show wpAny _ _ (field (.ref it) 0 >>= _) _ _ s;refine aD (fN ho hd (x:=.ref l) rfl ?_)
 rw[qQ2 (by rw[zbD];decide)]
 refine aD (fN ho hd rfl ?_)
 refine aD (iq OS Le ?_)
 simp only[fy,hx];refine aD (uf (aD (wpAny_setField ho hd (by simp) ?_)))
 refine aD ?_
 simp only[newExc,newTuple];refine aD (fW ?_ (by size_fits))
 refine aD (wpAny_of_eq (by first|rfl|(simp;rfl)) ?_)
 refine fW ?_ (by size_fits)
 simp only[raiseNew];refine aD (wpAny_handled ?_)
 first|rw[show A.in1.handled=none from hh]|rw[hh]
 exact aD (bx (wpAny_throw (hE _ _ (((Aq ..).extBut.push _).push _) #[_,bE _ rfl,rfl])))
end
inductive Gm where|lst|tup
variable{k k1 k2:Gm}
def pG(k:Gm)(h:cX)(l:aH)(xs:Array aF):Prop:=match k with | .lst=>h.IsList l xs | .tup=>h.IsTuple l xs
def wu(k:Gm)(h:cX)(i l:aH)(n:Nat):Prop:=match k with | .lst=>h.IsListIter i l n | .tup=>h.IsTupleIter i l n
theorem wu.at{h': cX}{i: aH}{n:Nat}(x:wu k h i l n)(e:∀o,h.get? i=some o->h'.get? i=some o):wu k h' i l n:=by
 cases k with
 |lst=>obtain⟨o,a,r⟩:=x;exact(#[o,e o a,r])
 |tup=>obtain⟨o,a,r⟩:=x;exact(#[o,e o a,r])
theorem pG.at{h': cX}(x:pG k h l xs)(e:∀o,h.get? l=some o->h'.get? l=some o):pG k h' l xs:=by
 cases k with
 |lst=>obtain⟨o,a,r⟩:=x;exact(#[o,e o a,r])
 |tup=>obtain⟨o,a,r⟩:=x;exact(#[o,e o a,r])
theorem wu.get{i: aH}{n:Nat}(x:wu k h i l n):∃o,h.get? i=some o/\∀v,o.data≠.cell v:=by
 cases k with
 |lst=>obtain⟨o,a,_,d⟩:=x;exact#[o,a,λv z=>by rw[d]at z;cases z]
 |tup=>obtain⟨o,a,_,d⟩:=x;exact#[o,a,λv z=>by rw[d]at z;cases z]
theorem pG.get(x:pG k h l xs):∃o,h.get? l=some o:=by
 cases k with
 |lst=>obtain⟨o,a,_⟩:=x;exact#[o,a]
 |tup=>obtain⟨o,a,_⟩:=x;exact#[o,a]
section
variable{prog:bA}{w:cn}{A:dO}{E:aF->aS->Prop}{s:aS}
theorem next_item(hit:wu k s.heap it l i)(hl:pG k s.heap l items)(hx:items[i]?=some x)
  (hQ:∀h',wu k h' it l (i+1)->iz it s.heap h'->Q x { s with heap:=h' }):wpAny (model prog w) A (iZ (.ref it)) Q E s:=by
 cases k with
 |lst=>exact wpAny_nextOf_list_item hit hl hx hQ
 |tup=>exact Gj hit hl hx hQ
theorem next_end(hh:A.handled=none)(hit:wu k s.heap it l i)(hl:pG k s.heap l items)(hx:items[i]?=none)
  (hE:∀h' e,cX.ExtBut it s.heap h'->(∃o,h'.get? e=some o/\o.cls=.type "StopIteration")->E (.ref e) { s with heap:=h' }):wpAny (model prog w) A (iZ (.ref it)) Q E s:=by
 cases k with
 |lst=>exact wpAny_nextOf_list_end hh hit hl hx hE
 |tup=>exact J7 hh hit hl hx hE
structure Zp(k1 k2:Gm)(h:cX)(z TI TO i1 i2 l1 l2:aH)(f0:aF)(a b:aF)(n1 n2:Nat)(xs ys:Array aF):Prop where
 hz:IsZip h z TI TO f0
 hTI:B4 h TI (.ref i1) (.ref i2)
 hTO:B4 h TO a b
 h1:wu k1 h i1 l1 n1
 h2:wu k2 h i2 l2 n2
 s1:pG k1 h l1 xs
 s2:pG k2 h l2 ys
theorem J8{z TI TO i1 i2: aH}{n1 n2:Nat}{y a b: aF}{Q:Option aF->aS->Prop}(D:ZipApart z TI TO i1 i2 l1 l2)(Z:Zp k1 k2 s.heap z TI TO i1 i2 l1 l2 .none a b n1 n2 xs ys)(hx:xs[n1]?=some x)(hy:ys[n2]?=some y)
  (hQ:∀h',Zp k1 k2 h' z TI TO i1 i2 l1 l2 (rawInt s.heap.objs.size) x y (n1+1) (n2+1) xs ys->B4 h' s.heap.objs.size x y->(∀c o,c≠z->c≠TO->c≠i1->c≠i2->s.heap.get? c=some o->h'.get? c=some o)->Q (some (.ref s.heap.objs.size)) { s with heap:=h' }):
  wpAny (model prog w) A (pyNext (.ref z)) Q E s:=by
 obtain⟨hz,hTI,hTO,h1,h2,s1,s2⟩:=Z;have hT:s.TypeIs (.ref z) "zip":=#[_,hz,rfl];unfold pyNext;refine aD (wpAny_attempt (jx hT tM (nJ tM hT F.entry_zip_next ?_ (F.args_zip_next_1 _))))
 show wpAny _ _ (field (.ref z) 2 >>= _) _ _ _;refine aD (fN hz rfl rfl ?_)
 refine aD (fN hz rfl rfl (aD (iq hTI rfl ?_)))
 refine aD ?_
 refine aD (fN hz rfl rfl (bx ?_))
 simp only[if_true];refine aD (uf (aD (fN hz rfl rfl (aD (jJ hz (by simp) λha Sd sa=>?_)))))
 replace Sd:IsZip ha z TI TO .ellipsis:=Sd
 refine aD ?_
 refine aD (aD (x8 ?_))
 refine aD (next_item (h1.at λo e=>sa.extBut _ o D.i1z e) (s1.at λo e=>sa.extBut _ o D.l1z e) hx λhb h1b sb=>bx ?_)
 have tb:=sb.extBut _ _ D.TOi1 (sa.extBut _ _ D.TOz hTO);refine aD (iq tb rfl (aD (vY tb λhc tc sc=>?_)))
 replace tc:B4 hc TO x b:=tc
 refine aD (wpAny_letGo (bx (aD (aD (x8 ?_)))))
 refine aD (next_item (h2.at λo e=>sc.extBut _ o D.TOi2.symm (sb.extBut _ o D.i12.symm (sa.extBut _ o D.i2z e))) (s2.at λo e=>sc.extBut _ o D.l2TO (sb.extBut _ o D.l2i1 (sa.extBut _ o D.l2z e))) hy λhd h2d sd=>bx ?_)
 have td:=sd.extBut _ _ D.TOi2 tc;refine aD (iq td rfl (aD (vY td λhe te se=>?_)))
 replace te:B4 he TO x y:=te
 refine aD (wpAny_letGo (bx (bx (aD (iq te rfl (aD (wpAny_newTuple ?_)))))))
 have hsz:he.objs.size=s.heap.objs.size:=by rw[se.1,sd.1,sc.1,sb.1,sa.1]
 have kp:∀c o,c≠z->c≠TO->c≠i1->c≠i2->s.heap.get? c=some o->he.get? c=some o:=λc o c1 c2 c3 c4 e=>se.extBut _ _ c2 (sd.extBut _ _ c4 (sc.extBut _ _ c2 (sb.extBut _ _ c3 (sa.extBut _ _ c1 e))))
 have ze:=se.extBut _ _ D.TOz.symm (sd.extBut _ _ D.i2z.symm (sc.extBut _ _ D.TOz.symm (sb.extBut _ _ D.i1z.symm Sd)));have h1e:=h1b.at λo e=>se.extBut _ o D.TOi1.symm (sd.extBut _ o D.i12 (sc.extBut _ o D.TOi1.symm e))
 have h2e:=h2d.at λo e=>se.extBut _ o D.TOi2.symm e
 refine aD ?_
 have zf:IsZip (he.push { cls:=.type "tuple",data:=.seq (bZ [x,y]) }) z TI TO .ellipsis:=aI _ ze
 refine aD (jJ zf (by simp) λhg zg sg=>?_)
 replace zg:IsZip hg z TI TO (rawInt he.objs.size):=zg
 refine jJ zg (by simp) λhi zi si=>?_
 replace zi:IsZip hi z TI TO (rawInt he.objs.size):=zi
 have up:∀c o,c≠z->he.get? c=some o->hi.get? c=some o:=λc o c1 e=>si.extBut _ _ c1 (sg.extBut _ _ c1 (aI _ e))
 have ti:=si.extBut _ _ (gu (a8 ze)) (sg.extBut _ _ (gu (a8 ze)) (bE _ rfl))
 rw[hsz]at zi ti;refine bx #[_,rfl,?_]
 rw[hsz];refine bx (hQ hi #[zi,up _ _ D.TIz (kp _ _ D.TIz D.TITO D.TIi1 D.TIi2 hTI),up _ _ D.TOz te,h1e.at λo e=>up _ o D.i1z e,h2e.at λo e=>up _ o D.i2z e,s1.at λo e=>up _ o D.l1z (kp _ o D.l1z D.l1TO D.l1i1 D.l1i2 e),s2.at λo e=>up _ o D.l2z (kp _ o D.l2z D.l2TO D.l2i1 D.l2i2 e)] ti λc o c1 c2 c3 c4 e=>up c o c1 (kp c o c1 c2 c3 c4 e))
theorem Mx{z TI TO i1 i2: aH}{n1 n2:Nat}{a b:aF}{Q:Option aF->aS->Prop}(hh:A.handled=none)(D:ZipApart z TI TO i1 i2 l1 l2)(Z:Zp k1 k2 s.heap z TI TO i1 i2 l1 l2 .none a b n1 n2 xs ys)(P2:xs[n1]?=none\/ys[n2]?=none)
  (hQ:∀h',(∀c o,c≠z->c≠TO->c≠i1->c≠i2->s.heap.get? c=some o->h'.get? c=some o)->Q none { s with heap:=h' }):wpAny (model prog w) A (pyNext (.ref z)) Q E s:=by
 obtain⟨hz,hTI,hTO,h1,h2,s1,s2⟩:=Z;have hT:s.TypeIs (.ref z) "zip":=#[_,hz,rfl];have fin:∀h' e,(∀c o,c≠z->c≠TO->c≠i1->c≠i2->s.heap.get? c=some o->h'.get? c=some o)->(∃o,h'.get? e=some o/\o.cls=.type "StopIteration")->wpAny (model prog w) A (do if <-isInstance (.ref e) (.type "StopIteration")then pure none else throw (.ref e)) Q E { s with heap:=h' }:=by
  intro h' e hk #[o,ho,hc];exact aD (wpAny_isInstance #[o,ho,hc] isSubtype_stop (bx (hQ _ hk)))
 refine aD (wpAny_attempt (jx hT tM (nJ tM hT F.entry_zip_next ?_ (F.args_zip_next_1 _))))
 show wpAny _ _ (field _ 2 >>= _) _ _ _;refine aD (fN hz rfl rfl ?_)
 refine aD (fN hz rfl rfl (aD (iq hTI rfl ?_)))
 refine aD ?_
 refine aD (fN hz rfl rfl (bx ?_))
 simp only[if_true];refine aD (uf (aD (fN hz rfl rfl (aD (jJ hz (by simp) λha Sd sa=>?_)))))
 replace Sd:IsZip ha z TI TO .ellipsis:=Sd
 refine aD ?_
 refine aD (aD (x8 ?_))
 cases hx:xs[n1]? with
 |none=>
  refine aD (next_end hh (h1.at λo e=>sa.extBut _ o D.i1z e) (s1.at λo e=>sa.extBut _ o D.l1z e) hx λhb e sb he=>?_)
  obtain⟨oe,UO,X6⟩:=he;have zb:=sb _ _ D.i1z.symm Sd;have ne:e≠z:=λx=>by subst x;rw[zb]at UO;cases UO;simp at X6
  exact jJ zb (by simp) λhc _ sc=>fin hc e (λc o c1 _ c3 _ x=>sc.extBut _ _ c1 (sb _ _ c3 (sa.extBut _ _ c1 x))) #[oe,sc.extBut _ _ ne UO,X6]
 |some x=>
  have hy:ys[n2]?=none:=by
   rcases P2 with h|h
   ·rw[hx]at h;cases h
   ·exact h
  refine aD (next_item (h1.at λo e=>sa.extBut _ o D.i1z e) (s1.at λo e=>sa.extBut _ o D.l1z e) hx λhb h1b sb=>bx ?_)
  have tb:=sb.extBut _ _ D.TOi1 (sa.extBut _ _ D.TOz hTO);refine aD (iq tb rfl (aD (vY tb λhc tc sc=>?_)))
  refine aD (wpAny_letGo (bx (aD (aD (x8 ?_)))))
  refine aD (next_end hh (h2.at λo e=>sc.extBut _ o D.TOi2.symm (sb.extBut _ o D.i12.symm (sa.extBut _ o D.i2z e))) (s2.at λo e=>sc.extBut _ o D.l2TO (sb.extBut _ o D.l2i1 (sa.extBut _ o D.l2z e))) hy λhd e sd he=>?_)
  obtain⟨oe,UO,X6⟩:=he;have zd:=sd _ _ D.i2z.symm (sc.extBut _ _ D.TOz.symm (sb.extBut _ _ D.i1z.symm Sd));have ne:e≠z:=λx=>by subst x;rw[zd]at UO;cases UO;simp at X6
  exact jJ zd (by simp) λhg _ sg=>fin hg e (λc o c1 c2 c3 c4 x=>sg.extBut _ _ c1 (sd _ _ c4 (sc.extBut _ _ c2 (sb.extBut _ _ c3 (sa.extBut _ _ c1 x))))) #[oe,sg.extBut _ _ ne UO,X6]
def rU(k:Gm)(l:aH):Obj:=match k with | .lst=>{ cls:=.type "list_iterator",data:=.fields (bZ [.ref l,.int 0 0]) } | .tup=>{ cls:=.type "tuple_iterator",data:=.fields (bZ [.ref l,.int 0 0]) }
theorem IG(hl:pG k s.heap l xs)(h:Q (.ref s.heap.objs.size) { s with heap:=s.heap.push (rU k l) }):wpAny (model prog w) A (pyIter (.ref l)) Q E s:=by
 cases k with
 |lst=>exact mN hl h
 |tup=>exact yA hl h
def Gn(k1 k2:Gm)(h:cX)(l1 l2:aH):cX:=(h.push (rU k1 l1)).push (rU k2 l2)
def zH5(k1 k2:Gm)(h:cX)(l1 l2:aH):cX:=(((Gn k1 k2 h l1 l2).push { cls:=.type "tuple",data:=.seq (bZ [.ref h.objs.size,.ref (h.push (rU k1 l1)).objs.size]) }).push { cls:=.type "tuple",data:=.seq (bZ [.none,.none]) }).push
 { cls:=.type "zip",data:=.fields (bZ [.none,.bool false,.bool false,.ref (Gn k1 k2 h l1 l2).objs.size,.ref ((Gn k1 k2 h l1 l2).push { cls:=.type "tuple",data:=.seq (bZ [.ref h.objs.size,.ref (h.push (rU k1 l1)).objs.size]) }).objs.size]) }
theorem pG.push(x:pG k h l xs)(o:Obj):pG k (h.push o) l xs:=x.at λ_ e=>aI _ e
theorem Gp(k1 k2:Gm)(l1 l2:aH)(xs ys:Array aF):Meets (wX.«zip.__new__» #[[.type "zip",.ref l1,.ref l2],[]]) (λ_ R s=>pG k1 s.heap l1 xs/\pG k2 s.heap l2 ys/\
  R (.ok (.ret (.ref (((Gn k1 k2 s.heap l1 l2).push { cls:=.type "tuple",data:=.seq (bZ [.ref s.heap.objs.size,.ref (s.heap.push (rU k1 l1)).objs.size]) }).push { cls:=.type "tuple",data:=.seq (bZ [.none,.none]) }).objs.size))) { s with heap:=zH5 k1 k2 s.heap l1 l2 }):=
 .of_wp λprog w A R s h=>by
  obtain⟨hp,g,d,tk,os⟩:=s;obtain⟨Lf,Pu,h⟩:=h;have F7:=sub_zip;have a1:pG k1 (aS.heap #[hp,g,d,tk,os]) l1 xs:=Lf;have a2:pG k2 (aS.heap #[hp.push (rU k1 l1),g,d,tk,os]) l2 ys:=Pu.push _
  wp_walk using IG a1,IG a2
  exact#[_,rfl,h]
theorem El{i: aH}(e:h.get? i=some (rU k l)):wu k h i l 0:=by
 cases k with
 |lst=>exact(#[_,e,rfl,rfl])
 |tup=>exact(#[_,e,rfl,rfl])
theorem y9(k:Gm)(l:aH):(rU k l).isFreed=false:=by cases k<;>rfl
theorem J9(Lf:pG k1 s.heap l1 xs)(Pu:pG k2 s.heap l2 ys)
  (h:∀h',Zp k1 k2 h' (s.heap.objs.size+4) (s.heap.objs.size+2) (s.heap.objs.size+3) s.heap.objs.size (s.heap.objs.size+1) l1 l2 .none .none .none 0 0 xs ys->(∀c o,s.heap.get? c=some o->h'.get? c=some o)->Q (.ref (s.heap.objs.size+4)) { s with heap:=h' }):
  wpAny (model prog w) A (call (.type "zip") [.ref l1,.ref l2]) Q E s:=by
 refine callType_new F.called_zip ⋯ (F.typeCall_zip_2 _ _) (F.newCall_zip_2 _ _) (λobj=>F.args_object_init_3 obj _ _) F.entry_zip_new (Gp k1 k2 l1 l2 xs ys) #[Lf,Pu,?_]
 have z1:(s.heap.push (rU k1 l1)).objs.size=s.heap.objs.size+1:=g8 ..;have z2:(Gn k1 k2 s.heap l1 l2).objs.size=s.heap.objs.size+2:=by unfold Gn;rw[g8,z1]
 generalize hT:({ cls:=.type "tuple",data:=.seq (bZ [.ref s.heap.objs.size,.ref (s.heap.push _).objs.size]) }:Obj)=tI
 generalize hT2:({ cls:=.type "tuple",data:=.seq (bZ [.none,.none]) }:Obj)=tO
 have z3:((Gn k1 k2 s.heap l1 l2).push tI).objs.size=s.heap.objs.size+3:=by rw[g8,z2]
 have z4:(((Gn k1 k2 s.heap l1 l2).push tI).push tO).objs.size=s.heap.objs.size+4:=by rw[g8,z3]
 have fI:tI.isFreed=false:=by rw[<-hT];rfl
 have fO:tO.isFreed=false:=by rw[<-hT2];rfl
 have eq:zH5 k1 k2 s.heap l1 l2=(((Gn k1 k2 s.heap l1 l2).push tI).push tO).push { cls:=.type "zip",data:=.fields (bZ [.none,.bool false,.bool false,.ref (s.heap.objs.size+2),.ref (s.heap.objs.size+3)]) }:=by
  unfold zH5;rw[hT,hT2,z2,z3]
 rw[eq,z4];have g5:((((Gn k1 k2 s.heap l1 l2).push tI).push tO).push { cls:=.type "zip",data:=.fields (bZ [.none,.bool false,.bool false,.ref (s.heap.objs.size+2),.ref (s.heap.objs.size+3)]) }).get? (s.heap.objs.size+4)=some { cls:=.type "zip",data:=.fields (bZ [.none,.bool false,.bool false,.ref (s.heap.objs.size+2),.ref (s.heap.objs.size+3)]) }:=by
  rw[<-z4];exact bE _ rfl
 have up3:∀c o,((Gn k1 k2 s.heap l1 l2).push tI).get? c=some o->((((Gn k1 k2 s.heap l1 l2).push tI).push tO).push { cls:=.type "zip",data:=.fields (bZ [.none,.bool false,.bool false,.ref (s.heap.objs.size+2),.ref (s.heap.objs.size+3)]) }).get? c=some o:=λc o e=>aI _ (aI _ e)
 have X7:=λc o e=>up3 c o (aI _ e)
 have up0:∀c o,s.heap.get? c=some o->(Gn k1 k2 s.heap l1 l2).get? c=some o:=λc o e=>aI _ (aI _ e)
 refine#[#[_,g5,rfl],h _ #[g5,?_,?_,?_,?_,?_,?_] λc o e=>X7 c o (up0 c o e)]
 ·refine up3 _ _ ?_
  rw[<-z2];have:=bE (Gn k1 k2 s.heap l1 l2) fI
  rw[this,<-hT,z1]
 ·refine aI _ ?_
  rw[<-z3];have:=bE ((Gn k1 k2 s.heap l1 l2).push tI) fO
  rw[this,<-hT2]
 ·exact El (X7 _ _ (aI _ (bE _ (y9 k1 l1))))
 ·refine El (X7 _ _ ?_)
  have:=bE (s.heap.push (rU k1 l1)) (y9 k2 l2)
  rwa[z1]at this
 ·exact Lf.at λo e=>X7 _ o (up0 _ o e)
 ·exact Pu.at λo e=>X7 _ o (up0 _ o e)
end
def II(k:Gm)(K:aq)(H:Hp)(a:aH)(xs:List V):Prop:=match k with | .lst=>jy K H a xs | .tup=>oT K H a xs
theorem Inv.sq{σ:St}{xs:List V}(I:Inv X pins σ H s)(h:II k X.K H a xs):∃its,dU xs its/\pG k s.heap a its.toArray/\xs.length<=sizeLine:=by
 cases k with
 |lst=>obtain⟨its,r,p,z⟩:=I.list h;exact#[its,r,p.isList,z]
 |tup=>obtain⟨its,r,p,z⟩:=I.tuple h;exact#[its,r,p,z]
theorem Inv.My{σ:St}{xs ys:List V}(I:Inv X pins σ H s)(h:II k X.K H a xs)(h':II k X.K H a ys):xs=ys:=by
 cases k with
 |lst=>exact I.yG h h'
 |tup=>exact I.A3 h h'
theorem cU.Se{H': Hp}{xs:List V}(e:cU H H')(h:II k K H a xs):II k K H' a xs:=by
 cases k with
 |lst=>exact e.seq h
 |tup=>exact e.oU h
def Itz(k1 k2:Gm)(K:aq)(a b:aH):It:=
 #[λi H=>∃xs x ys y,II k1 K H a xs/\xs[i]?=some x/\II k2 K H b ys/\ys[i]?=some y,
  λi H v H'=>∃t x y,v=.ref t/\H t=none/\H'=upd H t (.tup [x,y])/\(∀xs,II k1 K H a xs->xs[i]?=some x)/\∀ys,II k2 K H b ys->ys[i]?=some y,
  λi H=>∃xs ys,II k1 K H a xs/\II k2 K H b ys/\(xs.length<=i\/ys.length<=i)]
theorem Mz{P:bA}{w:cn}{kk}{z TI TO i1 i2: aH}(D:ZipApart z TI TO i1 i2 l1 l2):
  Turn P w K (.Tuple elts kk tp) (Itz k1 k2 K l1 l2) [z,TI,TO,i1,i2] z (λi h=>IsZip h z TI TO .none/\B4 h TI (.ref i1) (.ref i2)/\(∃a b,B4 h TO a b)/\wu k1 h i1 l1 i/\wu k2 h i2 l2 i) where
 mem:=by simp
 obj:=λi h st b hb=>by
  obtain⟨hz,hTI,⟨a,c,hTO⟩,h1,h2⟩:=st;simp[ax,bD,or_false]at hb;rcases hb with rfl|rfl|rfl|rfl|rfl
  ·exact#[_,hz,λv z=>by cases z]
  ·exact#[_,hTI,λv z=>by cases z]
  ·exact#[_,hTO,λv z=>by cases z]
  ·exact h1.get
  ·exact h2.get
 keep:=λi h h' st kp=>by
  obtain⟨hz,hTI,⟨a,c,hTO⟩,h1,h2⟩:=st;exact#[kp z (by simp) _ hz,kp TI (by simp) _ hTI,#[a,c,kp TO (by simp) _ hTO],h1.at λo e=>kp i1 (by simp) o e,h2.at λo e=>kp i2 (by simp) o e]
 item:=by
  intro X hP hw hK hc i pins s σ H E I hf st hg;subst hP hw hK;obtain⟨hz,hTI,⟨a,c,hTO⟩,h1,h2⟩:=st;obtain⟨xs,x,ys,y,J_,hx,DH,hy⟩:=hg;obtain⟨its,rv,p1,_⟩:=I.sq J_;obtain⟨jts,Sf,p2,_⟩:=I.sq DH;obtain⟨u,hu,ru⟩:=rv.get hx;obtain⟨u2,hu2,X8⟩:=Sf.get hy;refine J8 D #[hz,hTI,hTO,h1,h2,p1,p2] ↑hu ↑hu2 λha Z ht hk=>?_
  obtain⟨az,aTI,aTO,a1,a2,_,_⟩:=Z;refine#[_,rfl,wpAny_letOwnedTupleGo_zip az λhb bz sb=>?_]
  have zlt:=a8 hz;have k2:∀b o,b∉[z,TI,TO,i1,i2]->s.heap.get? b=some o->hb.get? b=some o:=λb o nb q=>by
   have n1:b≠z:=λe=>nb (by simp[e])
   have n3:b≠i1:=λe=>nb (by simp[e])
   have n4:b≠i2:=λe=>nb (by simp[e])
   exact(sb.2 b n1).trans (hk b o n1 (λe=>nb (by simp[e])) n3 n4 q)
  have ht2:B4 hb s.heap.objs.size u u2:=(sb.2 _ (gu zlt)).trans ht;have fT:uZ X pins H s.heap.objs.size:=I.yH (aT _) I.fresh;have I3:Inv X pins σ (upd H s.heap.objs.size (.tup [x,y])) { s with heap:=hb,toks:=s.toks }:=
   (I.yi k2 hf).track fT #[by show 2<=sizeLine;rw[dN];decide,_,.cons ru (.cons X8 .nil),#[_,ht2,rfl,_,rfl]]
  have up:∀b o,b≠z->ha.get? b=some o->hb.get? b=some o:=λb o nb q=>(sb.2 b nb).trans q
  refine#[.ref s.heap.objs.size,_,I3,rfl,#[_,x,y,rfl,I.fresh,rfl,λzs Xy=>by rw[I.My Xy J_];exact hx,λzs Xy=>by rw[I.My Xy DH];exact hy],#[bz,up _ _ D.TIz aTI,#[_,_,up _ _ D.TOz aTO],a1.at λo q=>up _ o D.i1z q,a2.at λo q=>up _ o D.i2z q],λb X9=>?_]
  have m_:b<s.heap.objs.size:=by
   simp[ax,bD,or_false]at X9;rcases X9 with rfl|rfl|rfl|rfl|rfl
   ·exact zlt
   ·exact a8 hTI
   ·exact a8 hTO
   ·obtain⟨o,q,_⟩:=h1.get;exact a8 q
   ·obtain⟨o,q,_⟩:=h2.get;exact a8 q
  rw[aL (a9 m_)];exact(hf b X9).1
 done:=by
  intro X hP hw hK hc i pins s σ H E I hf st hg;subst hP hw hK;obtain⟨hz,hTI,⟨a,c,hTO⟩,h1,h2⟩:=st;obtain⟨xs,ys,J_,DH,hx⟩:=hg;obtain⟨its,rv,p1,_⟩:=I.sq J_;obtain⟨jts,Sf,p2,_⟩:=I.sq DH;have e1:=rv.length;have e2:=Sf.length;refine Mx (I.ok.hd hc) D #[hz,hTI,hTO,h1,h2,p1,p2] ?_ λh' hk=>#[rfl,I.yi (λb o hb q=>hk b o (λe=>hb (by simp[e])) (λe=>hb (by simp[e])) (λe=>hb (by simp[e])) (λe=>hb (by simp[e])) q) hf]
  rcases hx with hx|hx
  ·left;simp;omega
  ·right;simp;omega
 self:=λ_ _ _ _ _ st h=>wpAny_pyIter_zip st.1 h
def zbI(k1 k2:Gm)(K:aq)(ta:TA):TI:=λσ H R=>ta σ H λvs H1=>∃a b,vs=[.ref a,.ref b]/\(∃xs,II k1 K H1 a xs)/\(∃ys,II k2 K H1 b ys)/\R (Itz k1 k2 K a b) H1
theorem boot_zip:bootBuiltins "zip"=some (.type "zip"):=rfl
theorem UQ{a b:bK}{ta:TA}{p pos: Pos}{kk}(k1 k2:Gm)(hg:Gl X "zip")(hm:X.mg "zip"=none)(ha:PA X [a,b] ta)(hs:starEach [a,b] X.env=[(false,eval a X.env),(false,eval b X.env)]:=by rfl)(qO:starEach [b] X.env=[(false,eval b X.env)]:=by rfl):
  PI X (.Tuple elts kk tp) (.Call (.Name "zip" p) [a,b] [] pos) (zbI k1 k2 X.K ta):=by
 intro pins s σ H R I h;refine Call_ (v7 I hg hm boot_zip (iW (gN (ha pos pins s σ H _ I h) λus s1 #[vs,H1,I1,r1,q1]=>?_) (by rw[hs,qO]) (by rw[qO];rfl)))
 obtain⟨l1,l2,e,⟨xs,J_⟩,⟨ys,DH⟩,q⟩:=q1;subst e;obtain⟨u,u2,rfl,rx,rx2⟩:=vals2 r1;cases rx;cases rx2;obtain⟨its,rv,p1,_⟩:=I1.sq J_;obtain⟨jts,Sf,p2,_⟩:=I1.sq DH;obtain⟨o1,e1⟩:=p1.get;obtain⟨o2,e2⟩:=p2.get;have Z_:=a8 e1;have Z':=a8 e2;refine J9 p1 p2 λh' Z hk=>wpAny_pyIter_zip Z.hz ?_
 have I2:=I1.kept (t':=s1.toks) hk
 have D:ZipApart (s1.heap.objs.size+4) (s1.heap.objs.size+2) (s1.heap.objs.size+3) s1.heap.objs.size (s1.heap.objs.size+1) l1 l2:=by
  constructor
  ·exact a9 ∅
  ·exact a9 ∅
  ·exact a9 ∅
  ·exact a9 ∅
  ·exact a9 ∅
  ·exact gu ∅
  ·exact gu ∅
  ·exact gu ∅
  ·exact gu ∅
  ·exact a9 ∅
  ·exact a9 (b_ Z_ ∅)
  ·exact a9 (b_ Z_ ∅)
  ·exact a9 Z_
  ·exact a9 (b_ Z_ ∅)
  ·exact a9 (b_ Z' ∅)
  ·exact a9 (b_ Z' ∅)
  ·exact a9 Z'
  ·exact a9 (b_ Z' ∅)
 refine#[_,_,_,_,H1,rfl,I2,Mz D,#[Z.hz,Z.hTI,#[_,_,Z.hTO],Z.h1,Z.h2],λb hb=>?_,q]
 have hle:s1.heap.objs.size<=b:=by
  simp[ax,bD,or_false]at hb;rcases hb with rfl|rfl|rfl|rfl|rfl
  ·exact qS _ _
  ·exact qS _ _
  ·exact qS _ _
  ·exact aT _
  ·exact qS _ _
 exact I1.yH hle (I1.hok.fresh hle)
def y_(ds es:List aj):List aj:=(ds.zip es).map λp=>.tuple [p.1,p.2]
theorem oy(ds es:List aj):(y_ ds es).length=min ds.length es.length:=by simp[y_]
theorem Em{es: List aj}{d:aj}(h:(y_ ds es)[i]?=some d):∃x y,ds[i]?=some x/\es[i]?=some y/\d=.tuple [x,y]:=by
 unfold y_ at h;rw[ay]at h
 cases e:(ds.zip es)[i]? with
 |none=>rw[e]at h;cases h
 |some p=>
  rw[e]at h;cases h;rw[B5]at e
  exact#[_,_,e.1,e.2,rfl]
def UT(k:Gm)(ds:List aj):aj:=match k with | .lst=>.list ds | .tup=>.tuple ds
theorem Rep.Se{v:V}(r:Rep K H v (UT k ds)):∃a xs,v=.ref a/\II k K H a xs/\cz K H xs ds:=by
 cases k with
 |lst=>cases(show Rep K H v (.list ds)from r)with|lst h t=>exact#[_,_,rfl,h,t]
 |tup=>cases(show Rep K H v (.tuple ds)from r)with|tup h t=>exact#[_,_,rfl,h,t]
theorem CF{a b:bK}{δ:List Slot}{es: List aj}{p pos: Pos}{kk}(k1 k2:Gm)(h1:VE X a δ (UT k1 ds))(h2:VE X b δ (UT k2 es))(hm:X.mg "zip"=none)(hg:Gl X "zip":=by rfl)(hs:kZ X a [b]:=by rfl)(qO:kZ X b []:=by rfl)(hn:starEach [] X.env=[]:=by rfl):
  VI X (.Tuple elts kk tp) (.Call (.Name "zip" p) [a,b] [] pos) δ (y_ ds es):=
 #[_,UQ k1 k2 hg hm (cN cL (cN cL eG qO) hs) (by rw[hs,qO,hn]) (by rw[qO,hn]),λB0 B σ H0 H R f q=>h1 B0 B σ H0 H _ f λv H1 dD g r1=>h2 B0 B σ H1 dD _ (f.grow g) λu H2 fX g2 r2=>by
  obtain⟨a1,xs,rfl,J_,X_⟩:=r1.Se;obtain⟨a2,ys,rfl,DH,Wk⟩:=r2.Se;have X_:=X_.mono g2.fB;have J_:=g2.fB.Se J_;refine#[a1,a2,rfl,#[_,g2.sub.Se J_],#[_,g2.sub.Se DH],q _ H2 fX (g.trans g2) λHa Hb s1 s2 i=>?_]
  have l1:=X_.length;have l2:=Wk.length;have Wm:=(s1.trans s2).Se J_;have hS2:=(s1.trans s2).Se DH;refine#[λhi=>?_,λhi=>#[_,_,Wm,hS2,by rw[oy]at hi;omega],λx Bf d hd #[t,x1,y1,e1,e2,e3,e4,e5]=>?_]
  ·rw[oy]at hi
   obtain⟨x,hx,_⟩:=X_.get (i:=i) (d:=ds[i]'∅) (by simp)
   obtain⟨y,hy,_⟩:=Wk.get (i:=i) (d:=es[i]'∅) (by simp)
   exact#[_,x,_,y,Wm,hx,hS2,hy]
  ·obtain⟨dx,dy,hx,hy,rfl⟩:=Em hd
   subst e1;subst e3;refine#[_,.laid s2 e2,.tup (oT.of aZ) (.cons ?_ (.cons ?_ .nil))]
   ·exact((X_.mono s1).at hx (e4 _ Wm)).mono (c6.laid s2 e2).fB
   ·exact((Wk.mono s1).at hy (e5 _ hS2)).mono (c6.laid s2 e2).fB]
end L2
namespace L2
open PySem PySem.Spec PyProof.Rows
open AutoSeq1 (wpAny_loadPart')
theorem J'(l:aH)(items:Array aF)(n:Nat)(dd:Option aH)(sl:Array (Option aF))(x:aF)(e:aF->Bool)(i j:Nat)(t:Tok)(A6:i<=j)(hj:j<items.size)(UU:(j:Int)<2^63-1)
  (hit:e items[j]=true)(La:∀m (hm:m<items.size),i<=m->m<j->e items[m]=false):
  Meets (wX.«list.index» #[[.ref l,x,.int i t],[]])
   (λA R s=>s.heap.get? l=some { cls:=.type "list",dict:=dd,data:=.seq items n,slots:=sl }/\(∀y,y∈items->SeqAt.EqAt A.in1 s y x (e y))/\R (.ok (.ret (.int j s.toks))) { s with toks:=s.toks+1 }):=by
 intro prog w A R s h;obtain⟨hp,g,d,tk,os⟩:=s;obtain⟨hl,he,h⟩:=h
 wp_walk using fH hl
 have a1:((λi:Int=>if i<0 then max 0 (i+(items.size:Int))else i) ((some (i:Int)).getD 0))=((i:Nat):Int):=by
  show(if(i:Int)<0 then max 0 ((i:Int)+(items.size:Int)) else(i:Int))=_
  rw[qQ2 ∅]
 have a2:((λi:Int=>if i<0 then max 0 (i+(items.size:Int))else i) ((none:Option Int).getD (2^63-1)))=2^63-1:=by simp
 rw[a1,a2];exact#[x6 ri _,lM PySem.MeetsSeq.entry_index_loop (by
  rw[dO.under_plainId ri _];exact SeqAt.index_loopAt l items n dd sl x e (2^63-1) j hj UU hit _ i rfl A6 La prog w A R _ #[hl,he,h])]
section
variable{X:Cx}{a b c e:bK}{es:List bK}{δ:List Slot}{d d1 d2 d3:aj}{ds:List aj}{pos:Pos}{k:Nat}
def P4(K:aq)(n:Nat):V->List V->Hp->VK->Prop:=λx vs H Q=>∃p ds y d i j,x=.ref p/\vs=[y,.int ((i:Nat):Int)]/\Rep K H (.ref p) (.list ds)/\Rep K H y d/\Lay n (.list ds)/\Lay n d/\i<=j/\(∃h:j<ds.length,cR ds[j] d=true)/\
 (∀m (h:m<ds.length),i<=m->m<j->cR ds[m] d=false)/\Q (.int j) H
theorem Kc{n:Nat}(hu:X.A.units+n+2<cLine):RZ X "list.index" (P4 X.K n):=by
 intro pins s σ H x vs v us Q I rx rv h;obtain⟨p,ds,y,d,i,j,rfl,rfl,r1,r2,l1,l2,A6,⟨hj,hit⟩,La,q⟩:=h;cases rx;obtain⟨u,u2,rfl,ru,X8⟩:=vals2 rv;obtain⟨t2,rfl⟩:=X8;obtain⟨bs,rb⟩:=kx I d l2.1 r2 ru;cases r1 with
 |lst hq rs=>
  obtain⟨its,rvs,⟨⟨cls,dd,data,sl⟩,m,eo,ec,_,ed⟩,hz⟩:=I.list hq;simp only at ec ed;subst ec ed;obtain⟨as,ra⟩:=oo I ds l1.1 rs rvs;have hl:=rvs.length;have Pu:=rs.length;have rd:∀i (h1:i<its.length) (h2:i<ds.length),vZ s.heap its[i]=ds[i]:=λi h1 h2=>by
   have e1:(its.map (vZ s.heap))[i]?=some (vZ s.heap its[i]):=by simp[h1]
   rw[SeqAt.readsAll_map ds its as l1.1 ra]at e1;rw[av h2]at e1
   exact(cG e1).symm
  have h1:=l2.2;have hn:=um;have zg7:=dN;refine iY F.slot_list_index #[_,eo,rfl] F.entry_list_index (F.args_list_index_3 _ _ _) (J' p its.toArray m dd sl u (λy=>cR (vZ s.heap y) d) i j t2 A6 (by simp;omega) ∅ ?_ ?_) #[eo,?_,?_]
  ·have:=rd j ∅ hj
   simp;rwa[this]
  ·intro i' hi zbK zbL
   simp only[bH]at hi;have:=rd i' hi ∅
   simp;rw[this];exact La i' ∅ zbK zbL
  ·exact SeqAt.items_eqAt ↑ra rb l1.1 l2.1 ∅
  ·exact#[.int j,H,I.tok _,#[_,rfl],q]
theorem Kd{i j:Nat}{ap:Pos}(hr:eB k X.A)(h1:VE X a δ (.list ds))(h2:VE X b δ d)(h3:VE X c δ (.int (i:Nat)))(l1:Lay 20 (.list ds))(l2:Lay 20 d)(A6:i<=j)(hj:∃h:j<ds.length,cR ds[j] d=true)(La:∀m (h:m<ds.length),i<=m->m<j->cR ds[m] d=false)
  (hs:kZ X b [c]:=by rfl)(qO:kZ X c []:=by rfl)(gj:yc X a "index":=by rfl)
  (k_:FJ X pos [b,c]:=by rfl)
  (hline:(ap.endLine==pos.line)=true:=by rfl)(fJ:tF X pos [c]:=by rfl):VE X (.Call (.Attribute a "index" ap) [b,c] [] pos) δ (.int j):=
 .of (om cB PySem.F.slot_list_index PySem.F.type_list_index (Kc (Eb hr)) cL (cN cL (cN cL eG qO) hs) gj k_ hline hs fJ) λB0 B σ H0 H Q f q=>h1 B0 B σ H0 H _ f λv H1 dD g r1=>by
  cases r1 with
  |lst hq rs=>
   refine#[.inl #[rfl,_,g.sub.seq hq],h2 B0 B σ H1 dD _ (f.grow g) λu H2 fX g2 r2=>h3 B0 B σ H2 fX _ ((f.grow g).grow g2) λu3 H3 uv g3 r3=>?_]
   cases r3;have gg:=g2.trans g3;exact#[_,ds,u,d,i,j,rfl,rfl,.lst (gg.sub.seq (gg.fB.seq hq)) (rs.mono (gg.fB.trans gg.sub)),(r2.mono g3.fB).mono g3.sub,l1,l2,A6,hj,La,q _ H3 uv (g.trans gg) (.int _)]
theorem yk{d1 d2:List aj}(h1:VE X a δ (.tuple d1))(h2:VE X b δ (.tuple d2))(hn:d1≠[])(hz:d1.length+d2.length<=sizeLine):VE X (.BinOp a .Add b pos) δ (.tuple (d1++d2)):=by
 refine .of (Ie Pm cL cL) λB0 B σ H0 H Q f q=>h1 B0 B σ H0 H _ f λv H1 dD g1 r1=>h2 B0 B σ H1 dD _ (f.grow g1) λu H2 fX g2 r2=>?_
 cases r1 with
 |tup hq r1=>
  cases r2 with
  |tup DH r2=>
   have gg:=g1.trans g2;have e1:=r1.length;have hx:∀xs:List V,xs.length=d1.length->xs≠[]:=λxs h z=>by rw[z]at h;exact hn (gy h.symm)
   refine#[_,_,_,_,rfl,rfl,g2.sub.oU (g2.fB.oU hq),g2.sub.oU DH,hx _ e1,by rw[e1,r2.length];exact hz,λhy=>?_,λ_ p hp=>q _ _ _ (gg.trans (.laid g2.sub hp)) (.tup (oT.of aZ) (((r1.mono g2.fB).append r2).mono (c6.laid g2.sub hp).fB))]
   subst hy;cases r2;rw[b9]at q;exact q _ H2 fX gg (.tup (g2.fB.oU hq) (r1.mono g2.fB))
end
end L2
namespace L2
open PySem PySem.Spec PyProof.Rows
variable{a p:aH}{H:Hp}{kvs:List (Key×V)}{as:List aH}{xs:List V}{j:Nat}{pt:Pos}{P:bA}{d:aj}{K:aq}{tgt:Fx}{Q:aF->aS->Prop}{w:cn}
def MA(K:aq)(b:aH)(ws:List Str):Prop:=∃(o:Obj)(its:Array aF)(n:Nat),K.lookup b=some o/\o.cls=.type "tuple"/\o.data=.seq its n/\its.size<=sizeLine/\dU (ws.map V.str) its.toList
inductive GE(pr:BZ)(K:aq):List wW->List (Str×List Str)->Prop
 |nil:GE pr K [] []
 |cons {h:Int} {k:Str} {t:Tok} {b:aH} {ws:List Str} {es:List wW} {kvs:List (Str×List Str)}:h=aj.keyHash pr k->MA K b ws->GE pr K es kvs->GE pr K (⟨h,.str k t,.ref b⟩::es) ((k,ws)::kvs)
structure GD(pr:BZ)(K:aq)(a:aH)(kvs:List (Str×List Str)):Prop where
 nm:(a==sysModules)=false
 nd:(kvs.map (·.1)).Nodup
 ob:∃o es ep,K.lookup a=some o/\o.ExactDict/\o.data=.dict es ep/\GE pr K es.toList kvs
def j8(kvs:List (Str×List Str))(k:Str):Option (List Str):=(kvs.find? λp=>decide (p.1=k)).map (·.2)
theorem GE.pairs{P:bA}{w:cn}{K:aq}:∀{es:List wW}{kvs:List (Str×List Str)},GE w.params K es kvs->∃vs:List (Key×aF),Pairs (e8 P w) es vs/\vs.map (·.1)=kvs.map (λp=>(aU p.1:Key))/\
  (∀e∈es,∃k,(e8 P w).is k e.key=true/\e.hash=(e8 P w).hash k)/\∀k,match j8 kvs k with|none=>valueAt vs (aU k)=none|some ws=>∃b,valueAt vs (aU k)=some (.ref b)/\MA K b ws
 |_,_,.nil=>#[[],.nil,rfl,λe h=>by(cases h),λk=>rfl]
 |_,_,@GE.cons _ _ hh k t b ws es kvs e kt r=>by
  obtain⟨vs,h1,h2,h3,h4⟩:=GE.pairs r;refine#[(.inr k,.ref b)::vs,.cons (rq P w k t) rfl h1,by rw[aA,aA,h2],λx hx=>?_,λj=>?_]
  ·rcases ax.mp hx with rfl|hx
   ·exact#[.inr k,rq P w k t,by rw[e];rfl]
   ·exact h3 x hx
  ·by_cases hj:k=j
   ·subst hj
    have:j8 ((k,ws)::kvs) k=some ws:=by simp[j8,cO]
    rw[this];exact#[b,by simp[valueAt,cO],kt]
   ·have:j8 ((k,ws)::kvs) j=j8 kvs j:=by simp[j8,cO,hj]
    rw[this];have e2:valueAt ((aU k,d_ b)::vs) (aU j)=valueAt vs (aU j):=by
     have:¬(aU k:Key)=aU j:=λz=>hj (by injection z)
     simp[valueAt,cO,this]
    rw[e2];exact h4 j
theorem GD.dict{h:cX}{kvs:List (Str×List Str)}(g:GD w.params K a kvs)(WW:K.In h):∃vs:List (Key×aF),h.DictOf (e8 P w) a vs/\∀k,match j8 kvs k with|none=>valueAt vs (aU k)=none|some ws=>∃b,valueAt vs (aU k)=some (.ref b)/\MA K b ws:=by
 obtain⟨o,es,ep,h1,h2,h3,h4⟩:=g.ob;obtain⟨vs,p1,p2,p3,p4⟩:=h4.pairs;refine#[vs,#[o,es,ep,WW a o h1,h2,h3,λe he=>p3 e ↑he,p1,?_],p4]
 rw[p2];have nd:=g.nd
 induction kvs with
 |nil=>exact gx
 |cons p l ih=>
  rw[aA,cj]at nd ⊢;refine#[λz=>nd.1 ?_,?_]
  ·obtain⟨q,hq,e⟩:=au.mp z
   injection e with e
   exact au.mpr #[q,hq,e]
  ·have go:∀l:List (Str×List Str),(l.map (·.1)).Nodup->(l.map λp=>(aU p.1:Key)).Nodup:=by
    intro l
    induction l with
    |nil=>intro _;exact gx
    |cons p l ih=>
     intro nd;rw[aA,cj]at nd ⊢;refine#[λz=>nd.1 ?_,ih nd.2]
     obtain⟨q,hq,e⟩:=au.mp z
     injection e with e
     exact au.mpr #[q,hq,e]
   exact go l nd.2
section
variable{X:Cx}{a b c e:bK}{δ:List Slot}{pos p:Pos}{k:Nat}{x y:Str}{kvs:List (Str×List Str)}{ws:List Str}{g:aH}
theorem wx:∀l:List Str,cz K H (l.map V.str) (l.map aX)
 | []=>.nil
 |z::l=>.cons (.str z) (wx l)
theorem IJ(hm:X.mg x=some (.ref g))(G:GD X.w.params X.K g kvs)(h:VE X b δ (.str y))(hk:j8 kvs y=some ws)(hg:Gl X x:=by rfl)(hs:Cm b:=by intro _ _;rfl)(hd:xP x:=by decide):VE X (.Subscript (.Name x p) b pos) δ (.tuple (ws.map .str)):=by
 have pe:PE X (.Subscript (.Name x p) b pos) (λσ H Q=>cE X b σ H λv H1=>v=.str y/\∀q,MA X.K q ws->Q (.ref q) H1):=by
  intro pins s σ H Q I hw;refine Ik Af.lookup hs (gN (yd hg hm (v:=.ref g) rfl hd pins s σ H (λv H'=>v=.ref g/\H'=H) I #[rfl,rfl]) λu s1 #[vx,H1,I1,rx,ex,eH]=>?_)
  subst ex eH;obtain rfl:u=d_ g:=rx;refine gN (hw pins s1 I1) λiv s2 #[v,H2,I2,rv,ev,q]=>?_
  subst ev;obtain⟨vs,dd,hv⟩:=G.dict I2.B7;have hv:=hv y;rw[hk]at hv;obtain⟨bb,hb,kt⟩:=hv;exact#[dd.typeIs,wpAny_getItem_of (rE (k:=.inr y) rv) dd.mapOf hb (#[.ref bb,H2,I2.tok _,rfl,q bb kt])]
 exact .of pe λB0 B σ H0 H Q f q=>h B0 B σ H0 H _ f λv H1 dD g1 r=>by
  cases r;exact#[rfl,λb' hb=>q _ H1 dD g1 (.tup (.inr hb) (wx ws))]
theorem Bq(hm:X.mg x=some (.ref g))(G:GD X.w.params X.K g kvs)(h:VE X b δ (.str y))(hg:Gl X x:=by rfl)(hd:xP x:=by decide)(hmk:behindInMarks .NotIn (.Name x p)=false:=by with_unfolding_all rfl):VT X (.Compare b [.NotIn] [.Name x p] pos) δ (!(j8 kvs y).isSome):=by
 have pc:PC X .NotIn b (.Name x p) (λσ H Q=>cE X b σ H λv H1=>v=.str y/\Q (.bl (!(j8 kvs y).isSome)) H1):=by
  intro pins s σ H Q I hw;refine gN (hw pins s I) λiv s1 #[v,H1,I1,rv,ev,q]=>?_
  subst ev;refine gN (yd hg hm (v:=.ref g) rfl hd pins s1 σ H1 (λv H'=>v=.ref g/\H'=H1) I1 #[rfl,rfl]) λu s2 #[vx,H2,I2,rx,ex,eH]=>?_
  subst ex eH;obtain rfl:u=d_ g:=rx;obtain⟨vs,dd,hv⟩:=G.dict I2.B7;have hv:=hv y;refine wpAny_notIn_of (rE (k:=.inr y) rv) G.nm dd.mapOf ?_
  have e:(valueAt vs (aU y)).isSome=(j8 kvs y).isSome:=by
   cases el:j8 kvs y with
   |none=>rw[el]at hv;rw[hv];rfl
   |some ws=>rw[el]at hv;obtain⟨bb,hb,_⟩:=hv;rw[hb];rfl
  rw[e];exact#[.bl _,H2,I2.tok _,rfl,q]
 exact .of (Ls pc hmk) λB0 B σ H0 H Q f q=>h B0 B σ H0 H _ f λv H1 dD g1 r=>by
  cases r;exact#[rfl,_,rfl,q H1 dD g1]
end
section
variable{X:Cx}{a b c e:bK}{δ:List Slot}{d d1 d2:aj}{ds:List aj}{pos px py p:Pos}{x y:Str}{k:Nat}{kvs:List (Str×aj)}
theorem UW:Z1 X (λx lo hi H Q=>∃z,x=.str z/\z.length<=sizeLine/\Q (.str (mQ z lo hi)) H):=by
 intro pins s σ H x v vl vu lo hi sl Q I rx hs pl pu h;obtain⟨z,rfl,hz,q⟩:=h;obtain⟨t,rfl⟩:=rx;refine#["str",_,PySem.F.slot_str_getitem.lookup,ug _ _ _,?_]
 have fin:∀(l u:Option (Int×Tok)),l.map (·.1)=lo->u.map (·.1)=hi->s.heap.IsSlice sl l u none->wpAny (model X.prog X.w) X.A (getItem (.str z t) (.ref sl)) (EP X pins σ Q) X.xe s:=by
  intro l u e1 e2 hl;subst e1 e2;refine wpAny_getItem_str_slice hl rfl (post_val_or_str #[bU (FE z _ _) hz,λt' k=>?_])
  exact#[.str (mQ z _ _),H,I.tok _,#[t',rfl],q]
 obtain⟨os,h1,h2,h3⟩:=hs;cases pl with
 |none=>cases pu with
  |none=>exact fin none none rfl rfl #[os,h1,h2,h3]
  |int j t2=>exact fin none (some (j,t2)) rfl rfl #[os,h1,h2,h3]
 |int i t1=>cases pu with
  |none=>exact fin (some (i,t1)) none rfl rfl #[os,h1,h2,h3]
  |int j t2=>exact fin (some (i,t1)) (some (j,t2)) rfl rfl #[os,h1,h2,h3]
theorem Br{lo hi:Option bK}{l u:Option Int}{p2:Pos}(h:VE X a δ (.str x))(hz:x.length<=sizeLine)(hl:tR X δ lo l)(hh:tR X δ hi u):VE X (.Subscript a (.Slice lo hi none p2) pos) δ (.str (mQ x l u)):=by
 obtain⟨tl,pl,ql⟩:=hl.ok;obtain⟨th,ph,qh⟩:=hh.ok;refine .of (yO UW cL pl ph) λB0 B σ H0 H Q f q=>h B0 B σ H0 H _ f λv H1 dD g r=>ql B0 B σ H1 dD _ (f.grow g) λH2 fX g2=>qh B0 B σ H2 fX _ ((f.grow g).grow g2) λH3 uv g3=>?_
 cases r;exact#[x,rfl,hz,q _ _ _ ((g.trans g2).trans g3) (.str _)]
inductive VP(X:Cx)(δ:List Slot):List (Option bK)->List bK->List (Str×aj)->Prop
 |nil:VP X δ [] [] []
 |cons {k v:bK} {ks vs} {x:Str} {d:aj} {r}:VE X k δ (.str x)->VE X v δ d->VP X δ ks vs r->VP X δ (some k::ks) (v::vs) ((x,d)::r)
theorem VP.ok{keys vals}(h:VP X δ keys vals kvs):keys.all (·.isSome)=true/\keys.length=vals.length/\keys.length=kvs.length/\∃JW,XF X pos keys vals JW/\∀B0 B σ H0 H Q,fP X.K B0 B H0 H σ δ->
  (∀cW H' (ws:List (Key×V)),c6 H0 H cW H'->ws.map (·.1)=kvs.map (λp=>(aU p.1:Key))->cz X.K cW (ws.map (·.2)) (kvs.map (·.2))->Q (ws.map λkv=>(kV kv.1,kv.2)) H')->Cp JW σ H Q:=by
 induction h with
 |nil=>exact#[rfl,rfl,rfl,[],Il,λB0 B σ H0 H Q f q=>q _ _ [] (.refl f.sub) rfl .nil]
 | @cons k v ks vs x d r hk hv _ ih=>
  obtain⟨a1,a2,a3,JW,pp,ht⟩:=ih;refine#[by simpa using a1,by simp[a2],by simp[a3],_,rG cL cL pp,λB0 B σ H0 H Q f q=>?_]
  refine hk B0 B σ H0 H _ f λu H1 dD g1 r1=>hv B0 B σ H1 dD _ (f.grow g1) λw H2 fX g2 r2=>?_
  cases r1;exact ht B0 B σ H2 fX _ ((f.grow g1).grow g2) λH3 uv ws g3 e1 rs=>(q H3 uv ((aU x,w)::ws) ((g1.trans g2).trans g3) (by simp[e1]) (.cons (r2.mono g3.fB) rs))
theorem P5:∀{kvs:List (Key×V)}{k:Key}{v:V},k∉kvs.map (·.1)->putK kvs k v=kvs ++ [(k,v)]:=by
 intro kvs k v h;unfold putK
 first
  |(rw[qQ2];simpa using h)
  |(simp at h;simp[h])
theorem wy:∀{more kvs:List (Key×V)},((kvs++more).map (·.1)).Nodup->rH kvs more=kvs++more
 | [],kvs,_=>by simp[rH]
 |p::more,kvs,h=>by
  show rH (putK kvs p.1 p.2) more=_;have hp:=λz=>by
   rw[aP,aA]at h;exact(bR.mp h).2.2 _ z _ (aM) rfl
  rw[P5 hp,wy ↑h]
  simp
theorem IK{keys vals}(h:VP X δ keys vals kvs)(hn:(kvs.map (·.1)).Nodup)(h0:kvs≠[])(h15:kvs.length<=15):VE X (.Dict keys vals pos) δ (lV kvs):=by
 obtain⟨a1,a2,a3,JW,pp,ht⟩:=h.ok;refine .of (Im pp a1 a2 (λz=>h0 (List.length_eq_zero_iff.mp (by rw[<-a3,z];rfl))) ∅) λB0 B σ H0 H Q f q=>λp hp=>?_
 refine ht B0 B σ H0 _ _ (f.grow (.loose f.sub hp)) λH1 dD ws g e1 rs=>?_
 have gp:=g.big _ _ (aZ);have wl:ws.length=kvs.length:=by have:=qQ6 ft e1;simpa using this
 refine#[gp,ws,rfl,∅,?_]
 rw[wy (by
  rw[eZ,e1];have:(kvs.map λp=>(aU p.1:Key))=(kvs.map (·.1)).map (aU:Str->Key):=by rw[aB];rfl
  rw[this];exact mY _ (λa b X' z=>X' (hU z)) hn),eZ]
 refine q (.ref p) (upd H1 p (.dK ws)) _ #[λb u eb=>?_,λb u eb=>?_,λb u eb=>?_,λb eb=>?_] ?_
 ·have hb:b≠p:=bC eb hp
  rw[aL hb];exact g.big _ _ (by rw[aL hb];exact eb)
 ·have hb:b≠p:=bC eb (f.sub.free hp)
  rw[aL hb];exact g.fB _ _ eb
 ·by_cases hb:b=p
  ·subst hb;rw[aZ]at eb ⊢;exact eb
  ·rw[aL hb]at eb ⊢;exact g.sub _ _ eb
 ·by_cases hb:b=p
  ·subst hb;exact .inr hp
  ·rw[aL hb]at eb
   rcases g.new b eb with z|z
   ·exact .inl z
   ·rw[aL hb]at z;exact .inr z
 ·refine .dct (kvs:=ws) aZ ?_ ?_
  ·rw[aB]
   have:ws.map (λp=>nh p.1)=(ws.map (·.1)).map nh:=by rw[aB];rfl
   rw[this,e1,aB];rfl
  ·rw[aB]
   refine(rs.mono λb u eb=>?_)
   rw[aL (bC eb (g.still (f.sub.free hp) aZ))];exact eb
theorem MB{ap:Pos}(hr:eB k X.A)(h3:VE X c δ (lV kvs))(h1:VE X a δ (.str x))(h4:VE X e δ d)(m:M2 X c "get" ap a e pos:=by exact#[rfl,rfl,rfl,rfl]):VE X (.Call (.Attribute c "get" ap) [a,e] [] pos) δ ((gF kvs x).getD d):=
 .of (D6 (DI hr) cL cL cL m) λB0 B σ H0 H Q fr q=>h3 B0 B σ H0 H _ fr λv H1 dD g r=>by
  obtain⟨p,ws,rfl,hp,ke,rs⟩:=r.rT;refine#[p,rfl,.inl #[ws,.inl (g.sub _ _ hp)],?_]
  refine h1 B0 B σ H1 dD _ (fr.grow g) λv H2 fX g2 r1=>h4 B0 B σ H2 fX _ ((fr.grow g).grow g2) λu H3 uv g3 r2=>?_
  cases r1;have gg:=g2.trans g3;refine#[_,.inl #[ws,aU x,.inl (gg.big _ _ (g.sub _ _ hp)),rfl,rfl],q _ H3 uv (g.trans gg) ?_]
  exact(wq ke (rs.mono gg.fB) x).getD r2
theorem UX(i j:Int):nR K (λxs H Q=>∃i j,xs=[.int i,.int j]/\Q (.int (if j<i then j else i)) H) [.int i,.int j] (.int (if j<i then j else i)):=λvs H0 H Q s r q=>by
 obtain⟨v,u,rfl,r1,r2⟩:=r.two;cases r1;cases r2;exact#[i,j,rfl,q _ _ _ (.refl s) (.int _)]
end
section
variable{X:Cx}{a b c e e1 e2:bK}{δ:List Slot}{d d1 d2:aj}{ds Wh ds2:List aj}{pos px py p:Pos}{x y:Str}{k:Nat}
theorem P6(i j:Nat){FN: Pos}{kt k2}(h1:VO X a δ Wh)(h2:VO X b δ ds2)(hc:X.calm=true)(hN:X.N.Nodup)(A6:i≠j)(hi:X.N[i]?=some x:=by rfl)(hj:X.N[j]?=some y:=by rfl)(hx:X.env.scope.names.lookup x=some .local:=by rfl)(hy:X.env.scope.names.lookup y=some .local:=by rfl)
  (hw:swappedStores [.Tuple [.Name x px,.Name y py] kt pt] (.Tuple [a,b] k2 FN) X.env=pure (some [x,y]):=by rfl)(hs:swapsWithSole [.Tuple [.Name x px,.Name y py] kt pt] (.Tuple [a,b] k2 FN) pos.line X.env=pure false:=by rfl)
  (OO:kZ X a [b]:=by rfl)(qO:kZ X b []:=by rfl):
  VS X (.Assign [.Tuple [.Name x px,.Name y py] kt pt] (.Tuple [a,b] k2 FN) pos) δ (.nx ((δ.set i (.own Wh)).set j (.own ds2))):=λB0 B σ H0 H D f ok pins s I=>by
 refine Ly hc hN hi hj A6 hx hy (cN cL (cN cL eG qO) OO) hw hs pins s σ H D I ?_
 refine h1 B0 B σ H0 H _ f λp xs H1 dD g a1 a2 a3 a4=>h2 B0 B σ H1 dD _ (f.grow g) λq ys H2 fX g2 b1 b2 b3 b4=>?_
 have gg:=g.trans g2;have npq:p≠q:=λz=>by rw[z,b1]at a3;cases a3
 have f1:=(f.grow gg).Ct (i:=i) (g2.big _ _ a3) (g2.still a2 a3) (f.ent.big.free a1) (a4.mono g2.fB) λj es e2 e3=>by
  obtain⟨p',xs',g1,g2,_⟩:=f.slot j _ e2;rw[e3]at g1;cases g1;rw[a1]at g2;cases g2
 refine#[_,_,rfl,ok _ H2 fX gg.fB (f1.Ct b3 b2 ((f.grow g).ent.big.free b1) b4 λj es e2 e3=>?_)]
 by_cases hji:j=i
 ·subst hji
  have hl:j < σ.length:=by
   have:=(aJ.mp e3).1
   simpa using this
  rw[a_ hl]at e3
  cases e3;exact npq rfl
 ·rw[a7 (bJ hji)]at e2 e3
  obtain⟨p',xs',z1,z2,_⟩:=(f.grow g).slot j _ e2;rw[e3]at z1;cases z1;rw[b1]at z2;cases z2
end
section
variable{X:Cx}{K:aq}{B0 B H0 H cW H' C0 C Ha Hb:Hp}{σ σ':St}{δ δ':List Slot}{a:aH}{ps:List aH}{gs:List (List aj)}
end
section
variable{X:Cx}{B0 B H0 H cW H' Ha Hb:Hp}{σ σ':St}{D:Ends}{st:fQ}{rest body orelse:List fQ}{δ δ':List Slot}{a:aH}{ps:List aH}{gs:List (List aj)}{e c tg iter e1 e2 ea:bK}{d:aj}{ds:List aj}{pos px wj:Pos}{x y:Str}
def rV{α:Type}(l:List α)(i:Nat)(y:α):List α:=l.take i++y::l.drop i
def P7:V->List V->Hp->VK->Prop:=λx vs H Q=>∃(l:aH)(xs:List V)(j:Int)(y:V),x=.ref l/\vs=[.int j,y]/\H l=some (.lst xs)/\0<=j/\j<=xs.length/\xs.length<sizeLine/\Q .non (upd H l (.lst (rV xs j.toNat y)))
theorem dU.ins{us:List aF}{y:V}{u:aF}(r:dU xs us)(ru:RelV y u)(i:Nat):dU (rV xs i y) (rV us i u):=(r.take i).append (.cons ru (r.drop i))
theorem Ke:RZ X "list.insert" P7:=by
 intro pins s σ H x vs v us Q I rx rv h;obtain⟨l,xs,j,y,rfl,rfl,hH,h0,hi,hz,q⟩:=h;cases rx;obtain⟨u1,u2,rfl,ru1,X8⟩:=rv.two;obtain⟨t,rfl⟩:=ru1;obtain⟨z,its,n,r,hl,e⟩:=I.JR hH;have UY:vU j=true:=by
  have:=dN;unfold vU;simp;omega
 refine iY F.slot_list_insert #[_,e,rfl] F.entry_list_insert (F.args_list_insert_3 _ _ _) (PySem.AutoSeq1.list_insert_list_int_val_1 l its.toArray n j t u2 (by rw[UY];decide) (by rw[bH];omega)) #[e,?_]
 refine#[.non,_,I.L1 hH e ?_ (r.ins X8 j.toNat) ?_,rfl,q]
 ·show(its.toArray.extract 0 (if j<0 then(j+(its.toArray.size:Int)).toNat else min j.toNat its.toArray.size)).push u2++its.toArray.extract (if j<0 then(j+(its.toArray.size:Int)).toNat else min j.toNat its.toArray.size)=_
  rw[qQ2 ∅,bH,iA ∅]
  unfold rV;apply Array.toList_inj.mp;simp;rw[dw (by simp)]
 ·unfold rV
  rw[aV,bf,bh,cV];omega
theorem cz.ins{v:V}(r:cz K H xs ds)(rv:Rep K H v d)(i:Nat):cz K H (rV xs i v) (rV ds i d):=(r.take i).append (.cons rv (r.drop i))
end
section
variable{X:Cx}{a b c:bK}{δ:List Slot}{d1 d2 d3:aj}{pos px py pz:Pos}{x y z:Str}
theorem cz.three{vs:List V}(r:cz K H vs [d1,d2,d3]):∃v w u,vs=[v,w,u]/\Rep K H v d1/\Rep K H w d2/\Rep K H u d3:=by
 cases r with|cons a t=>cases t with|cons b t=>cases t with|cons c t=>cases t;exact#[_,_,_,rfl,a,b,c]
theorem P8(i j k:Nat){FN: Pos}{kt k2}(h1:VE X a δ d1)(h2:VE X b δ d2)(h3:VE X c δ d3)(hc:X.calm=true)(hN:X.N.Nodup)(A6:i≠j)(hik:i≠k)(Ip:j≠k)(hi:X.N[i]?=some x:=by rfl)(hj:X.N[j]?=some y:=by rfl)(hk:X.N[k]?=some z:=by rfl)(hx:X.env.scope.names.lookup x=some .local:=by rfl)(hy:X.env.scope.names.lookup y=some .local:=by rfl)(hz:X.env.scope.names.lookup z=some .local:=by rfl)
  (hw:swappedStores [.Tuple [.Name x px,.Name y py,.Name z pz] kt pt] (.Tuple [a,b,c] k2 FN) X.env=pure (some [x,y,z]):=by rfl)(hs:swapsWithSole [.Tuple [.Name x px,.Name y py,.Name z pz] kt pt] (.Tuple [a,b,c] k2 FN) pos.line X.env=pure false:=by rfl)
  (OO:kZ X a [b,c]:=by rfl)(qO:kZ X b [c]:=by rfl)(XO:kZ X c []:=by rfl):
  VS X (.Assign [.Tuple [.Name x px,.Name y py,.Name z pz] kt pt] (.Tuple [a,b,c] k2 FN) pos) δ (.nx (((δ.set i (.val d1)).set j (.val d2)).set k (.val d3))):=λB0 B σ H0 H D f ok pins s I=>by
 obtain⟨t,ha,qa⟩:=ao h1 (ao h2 (ao h3 aR XO) qO) OO;have h:=qa B0 B σ H0 H (λvs H1=>∃v w u,vs=[v,w,u]/\D.nx (((σ.set i (some v)).set j (some w)).set k (some u)) H1) f λvs H1 dD g rs=>by
  obtain⟨v,w,u,rfl,r1,r2,r3⟩:=rs.three;exact#[v,w,u,rfl,ok _ H1 dD g.fB ((((f.grow g).set r1).set r2).set r3)]
 rw[exec_Assign_arm];refine aD (x5 ?_)
 rw[hs];refine aD (bx ?_)
 refine aD (Tuple_ (gN (ha _ pins s σ H _ I h) λus s1 #[vs,H1,I1,r1,q1]=>?_))
 obtain⟨v,w,u,e1,q1⟩:=q1;subst e1;obtain⟨u1,u2,u3,rfl,rv,sF,ru⟩:∃u1 u2 u3,us=[u1,u2,u3]/\RelV v u1/\RelV w u2/\RelV u u3:=by
  cases r1 with
  |cons p q=>
   cases q with
   |cons p' q'=>
    cases q' with
    |cons p2 q2=>
     cases q2;exact#[_,_,_,rfl,p,p',p2]
 refine fW ?_ (by show 3<=sizeLine;decide)
 have I2:Inv X pins σ H1 { s1 with heap:=s1.heap.push { cls:=.type "tuple",data:=.seq [u1,u2,u3].toArray } }:=I1.kept λb o e=>aI _ e
 rw[hw];refine aD (bx ?_)
 refine aD (uf (aD (unpackItems_tuple (items:=(bZ [u1,u2,u3])) (I.ok.hd hc) (tL s1.heap _) λh' hx'=>?_)))
 have I3:=I2.kept (t':=s1.toks) λb o e=>hx' b o (a9 (a8 e)) e
 refine aD (jI (pZ (nO I3 hN hk (.inl hz) ru (λs2 I4=>?_) (.inr hz))))
 refine jI (pZ (nO I4 hN hj (.inl hy) sF (λs3 I5=>?_) (.inr hy)))
 refine jI (pZ (nO I5 hN hi (.inl hx) rv (λs4 I6=>Am (bx ?_)) (.inr hx)))
 have e:((σ.set k (some u)).set j (some w)).set i (some v)=((σ.set i (some v)).set j (some w)).set k (some u):=by
  rw[uW _ _ (bJ Ip),uW _ _ (bJ hik),uW _ _ (bJ A6)]
 rw[e]at I6;exact#[_,H1,I6,q1]
theorem yl{k:Bool}(h:VE X a δ (.bool k)):VE X (.UnaryOp .Not a pos) δ (.bool (!k)):=.of (TV cL) λB0 B σ H0 H Q f q=>h B0 B σ H0 H _ f λv H1 dD g r=>by
 cases r;exact#[k,rfl,q _ H1 dD g (.bl _)]
theorem pH{st:List fQ}{o:Out}(h:∀B0 B σ H0 H D,fP X.K B0 B H0 H σ δ->rO X.K B0 B H0 D o->Ay X st D σ H):rP X st δ o:=h
end
section
variable{X:Cx}{a:bK}{δ:List Slot}{pos p:Pos}{x:Str}{ds:List aj}
theorem AF:jK X (.type "str") (λxs H Q=>∃x,xs=[.str x]/\Q (.str x) H):=by
 intro pins s σ H xs us Q I r h;obtain⟨x,rfl,q⟩:=h;obtain⟨u,rfl,t,rfl⟩:=vals1 r;exact PySem.P.str_of_str #[.str x,H,I,#[t,rfl],q]
theorem UZ:nR K (λxs H Q=>∃x,xs=[.str x]/\Q (.str x) H) [.str x] (.str x):=λvs H0 H Q s r k=>by
 obtain⟨v,rfl,r1⟩:=r.one;cases r1;exact#[x,rfl,k _ _ _ (.refl s) (.str _)]
theorem P9(h:VE X a δ (.str x))(hm:X.mg "str"=none)(hg:Gl X "str":=by rfl)(hs:kZ X a []:=by rfl):VE X (.Call (.Name "str" p) [a] [] pos) δ (.str x):=jV AF UZ (ao h aR hs) hm rfl hg (he:=hs)
theorem CG:Iu K (λxs H Q=>∃p ys,xs=[.ref p]/\(jy K H p ys\/oT K H p ys)/\∀l,H l=none->Q (.ref l) (upd H l (.lst ys))) [.tuple ds] ds:=λvs H0 H Q s r q=>by
 obtain⟨v,rfl,r1⟩:=r.one;cases r1 with
 |tup hq rs=>
  exact#[_,_,rfl,.inr (s.oU hq),λl hl=>(q l _ H0 _ (.loose s hl) hl (s.free hl) aZ rs)]
end
section
variable{prog:bA}{w:cn}{A:dO}{E:aF->aS->Prop}{s:aS}
theorem AG{l:aH}{items:Array aF}(hh:A.handled=none)(hl:s.heap.IsTuple l items)(T:Nat->cX->Prop)
  (t0:∀led h',h'.get? s.heap.objs.size=some (jL led)->(∀b o,s.heap.get? b=some o->h'.get? b=some o)->T 0 h')
  (keep:∀i h h',T i h->(∀b o,b≠s.heap.objs.size+1->h.get? b=some o->h'.get? b=some o)->T i h')
  (add:∀i v (s':aS) (Q:Bool->aS->Prop) (E:aF->aS->Prop),i<items.size->items[i]?=some v->T i s'.heap->(∀h' tk b,s'.toks<=tk->iz s.heap.objs.size s'.heap h'->T (i+1) h'->Q b { s' with heap:=h',toks:=tk })->wpAny (model prog w) A.in1.in1.in1 (setAdd s.heap.objs.size v) Q E s')
  (h:∀(h':cX)(tk:Nat),T items.size h'->(∀b o,b<s.heap.objs.size->s.heap.get? b=some o->h'.get? b=some o)->Q (.ref s.heap.objs.size) { s with heap:=h',toks:=tk }):
  wpAny (model prog w) A (call (.type "set") [.ref l]) Q E s:=by
 obtain⟨c,tl,zhb⟩:=kJ.mro;have zeJ:=kJ.made;have F7:=kJ.sub;refine wpAny_call (codeAny_of_tree ?_)
 show wpAny _ _ (callAny (.type "set") _) _ _ _;refine bx #[Code.quiet_builtin _ ∎,lM F.entry_type_call ?_]
 rw[dO.under_plain (weight_type_call_type "set" [.ref l] []) rfl];have h1:=kJ.notType;have h2:=kJ.canCreate;have hct:=F.typeCall_set_1 (.ref l)
 repeat (any_goals (first|assumption|wp_step))
 refine pj (code_set_new_1 (.ref l) (E:=E) (Q₁:=λobj s₁=>∃led:Bool,obj=.ref s.heap.objs.size/\s₁={ s with heap:=s.heap.push (jL led) }) λled=>#[led,rfl,rfl]) λr s₁ hr=>?_
 cases r with
 |error e=>exact hr
 |ok fl=>
  cases fl with
  |ret obj=>
   obtain⟨led,rfl,rfl⟩:=hr;have hS:(s.heap.push (jL led)).get? s.heap.objs.size=some (jL led):=bE _ rfl
   have hT:aS.TypeIs { s with heap:=s.heap.push (jL led) } (.ref s.heap.objs.size) "set":=#[_,hS,rfl]
   have hli:=kJ.init.lookup;have hbi:=kJ.init.bind (.ref s.heap.objs.size)
   repeat (any_goals (first|assumption|wp_step))
   refine pj (codeAny_call_builtin (R:=wants (λr s₂=>r=.none/\∃h' tk,s₂={ s with heap:=h',toks:=tk }/\T items.size h'/\(∀b o,b<s.heap.objs.size->s.heap.get? b=some o->h'.get? b=some o)) E) kJ.init.plain F.entry_set_init (check_set_init_1 hT ?_)) λr₂ s₂ hr₂=>?_
   ·obtain⟨ol,OS,Gk,nl,Le⟩:=hl
    obtain⟨zbO,Sg,Ya,MC⟩:=ol;simp only at Gk Le;subst Gk;subst Le;have zbP:(s.heap.push (jL led)).get? l=some { cls:=.type "tuple",dict:=Sg,data:=.seq items nl,slots:=MC }:=aI _ OS
    have zhc:=F.sub_tuple_set;have zhd:=F.sub_tuple_frozenset;have qY:(uV "tuple"==uV "dict")=false:=⋯
    have Lf:(s.heap.push (jL led)).IsTuple l items:=#[_,zbP,rfl,nl,rfl];unfold wX.«set.__init__» noKeywords wX.Frozenset.updateFrom
    generalize hPI:pyIter=PI
    wp_walk
    subst hPI;refine yA Lf ?_
    refine aD (wpAny_runValue ?_)
    have Yb:l<s.heap.objs.size:=a8 OS;have hh3:A.in1.in1.in1.handled=none:=by simp[hh]
    have Ce:(s.heap.push (jL led)).objs.size=s.heap.objs.size+1:=g8 _ _;have U0:l≠(s.heap.push (jL led)).objs.size:=by rw[Ce];exact a9 (pV Yb)
    have Uo:s.heap.objs.size∉[(s.heap.push (jL led)).objs.size,l]:=by
     rw[Ce];simp only[ax,aQ,bD,or_false,not_or];exact#[a9 (yC _),gu Yb]
    refine Ma ((Walks.tuple hh3 _ l U0 items).toS) s.heap.objs.size Uo T (λi h h' t k=>keep i h h' t λb o hb e=>k b o ?_ e) (λi v s' Q E hi hv t q=>add i v s' Q E hi hv t q) (items.size-0) 0 _ ∅ (bj _)
     #[#[_,bE _ rfl,rfl,rfl],(Lf.push _)] ?hS0 ?hR
    ·rw[Ce]
     intro z;rw[aQ]at z;exact hb z
    case hS0=>
     exact t0 led _ (aI _ hS) λb o e=>aI _ (aI _ e)
    case hR=>
     intro s' hm Uq;obtain⟨h',g',d',Bo,Wb⟩:=s';have eg:g'=s.gens:=hm.gens;have ed:d'=s.drawn:=hm.drawn;have eo:Wb=s.os:=hm.os;subst eg;subst ed;subst eo;show wpAny _ _ _ _ _ _;refine bx ?_
     show wpAny _ _ (ret nZ) _ _ _;refine bx #[rfl,h',Bo,rfl,Uq,λb o hb e=>?_]
     have hb1:b≠s.heap.objs.size:=a9 hb;have hb2:b≠(s.heap.push (jL led)).objs.size:=by rw[Ce];exact a9 (pV hb)
     exact hm.heap b o (by simp only[ax,aQ,bD,or_false,not_or];exact#[hb1,hb2]) (aI _ (aI _ e))
   ·cases r₂ with
    |error e=>exact hr₂
    |ok fl₂=>
     cases fl₂ with
     |ret r=>
      obtain⟨rfl,h',tk,rfl,Uq,hk'⟩:=hr₂
      repeat (any_goals (first|assumption|wp_step))
      exact h _ _ Uq hk'
     |_=>exact hr₂.elim
  |_=>exact hr.elim
end
section
variable{X:Cx}{a b c e:bK}{δ:List Slot}{d d1 d2:aj}{ds:List aj}{pos p p2 Cz:Pos}{k:Nat}
def U1(K:aq):List V->Hp->VK->Prop:=λxs H Q=>∃(a:aH)(ss:List Str),xs=[.ref a]/\oT K H a (ss.map V.str)/\ss.length<4000/\∀l,H l=none->Q (.ref l) (upd H l (.ext (J4 l (dd [] ss).length)))
theorem za(hc:X.calm=true):jK X (.type "set") (U1 X.K):=by
 intro pins s σ H xs us Q I r h;obtain⟨a,ss,rfl,hq,h4,q⟩:=h;obtain⟨u,rfl,rx⟩:=vals1 r;cases rx;obtain⟨its,rv,pl,hz⟩:=I.tuple hq;have Yc:=rv.length;simp only[ae]at Yc;have hsz:its.toArray.size=ss.length:=by simp;omega
 refine AG (I.ok.hd hc) pl (λi h=>(∀b o,s.heap.get? b=some o->h.get? b=some o)/\h.SetOf (strKind X.prog X.w) s.heap.objs.size (λk=>decide (k∈dd [] (ss.take i))) (dd [] (ss.take i)).length) (λled h' e k=>?_) (λi h h' #[k1,T] k=>?_) (λi v s' Q' E' hi hv #[k1,T] q'=>?_) (λh' tk #[k1,T] _=>?_)
 ·have n0:dd [] (ss.take 0)=[]:=by rw[List.take_zero];rfl
  refine#[k,?_]
  rw[n0];refine#[_,#[],0,_,e,#[rfl,rfl,rfl],rfl,(λe he=>by cases he),(λk=>#[λz=>by simp at z,λ#[e,he,_]=>by cases he]),(by show 0<scanBound;unfold scanBound;omega),rfl,rfl]
 ·refine#[λb o e=>k b o ?_ (k1 b o e),?_]
  ·have:=a8 e
   exact a9 (pV this)
  ·obtain⟨o,es,ep,t,ho,rest⟩:=T
   exact#[o,es,ep,t,k _ _ ∅ ho,rest]
 ·rw[hsz]at hi
  obtain⟨x,t,hx,rfl⟩:=Bn rv i v ↑hv;have his:(strKind X.prog X.w).is x (.str x t)=true:=by show uQ x (.str x t)=true;simp[uQ]
  have hle:=wo (ss.take i) [];simp only[df,lR,bh]at hle;have Yd:ss.take (i+1)=ss.take i ++ [x]:=by rw[cv,hx];rfl
  refine q_ (aD ((strKind X.prog X.w).pyHash his ?_))
  refine wpAny_setAddHashed_of his rfl T (by unfold scanBound;omega) λh' sb T'=>q' h' _ _ (Nat.le_succ _) sb #[λb o e=>?_,?_]
  ·have hb:=a8 e
   rw[sb.2 b (a9 hb)];exact k1 b o e
  ·have ed:dd [] (ss.take (i+1))=if decide (x∈dd [] (ss.take i))=true then dd [] (ss.take i)else dd [] (ss.take i) ++ [x]:=by rw[Yd,Bm];rfl
   rw[ed];by_cases hm:decide (x∈dd [] (ss.take i))=true
   ·rw[qQ3 hm]at T' ⊢
    refine SetOf_congr T' (λk=>?_) rfl
    by_cases hk:k=x
    ·subst hk;rw[hm];rfl
    ·simp[hk]
   ·rw[qQ2 hm]at T' ⊢
    refine SetOf_congr T' (λk=>?_) (by simp)
    rw[eY];simp
 ·rw[hsz,cy]at T
  exact#[.ref s.heap.objs.size,_,I.laid k1 (aT _) (SetOf.zbA T).ok,rfl,q _ (I.hok.fresh (aT _))]
theorem En{ss:List Str}(h:VE X a δ (.tuple (ss.map .str)))(hl:ss.length<4000)(hc:X.calm=true)(m1:X.mg "len"=none)(m2:X.mg "set"=none)(hg:Gl X "len":=by rfl)(X3:Gl X "set":=by rfl)
  (hs:kZ X a []:=by rfl)(qO:starEach [.Call (.Name "set" p2) [a] [] Cz] X.env=(false,eval (.Call (.Name "set" p2) [a] [] Cz) X.env)::starEach [] X.env:=by rfl)(mD:tF X Cz []:=by rfl)(zbS:tF X pos []:=by rfl):
  VE X (.Call (.Name "len" p) [.Call (.Name "set" p2) [a] [] Cz] [] pos) δ (.int (dd [] ss).length):=
 .of (yM Az hg m1 tE (cN (nE (za hc) X3 m2 (by rfl) (cN cL eG hs) ⋯ ⋯ hs mD) eG qO) ⋯ ⋯ qO zbS) λB0 B σ H0 H Q f q=>h B0 B σ H0 H _ f λv H1 dD g r=>by
  cases r with
  |tup hq rs=>
   have e:=rs.strs;subst e;have:=wo ss [];exact#[_,ss,rfl,g.sub.oU hq,hl,λl hl'=>#[l,_,rfl,aZ,by simp at this;omega,q _ H1 _ (g.trans (.loose g.sub hl')) (.int _)]]
def Bs:List Bool->Bool:=λl=>l.any id
theorem MD(hc:X.calm=true):jK X (.builtin "any") (λxs H Q=>∃p bs,xs=[.ref p]/\jy X.K H p (bs.map V.bl)/\Q (.bl (Bs bs)) H):=by
 intro pins s σ H xs us Q I r h;obtain⟨p,bs,rfl,hq,q⟩:=h;obtain⟨u,rfl,rx⟩:=vals1 r;cases rx;obtain⟨its,rv,pl,hz⟩:=I.list hq;have hl:=rv.length;simp only[ae]at hl;refine call_any_walkS (mN pl.isList ?_)
 have PV:∀(i:Nat)v,its.toArray[i]?=some v->v=.bool (bs.getD i false):=λi v hv=>by
  have LD:its[i]?=some v:=by simpa using hv
  have e:=rv.getD i;have e2:its.getD i nZ=v:=by rw[aO,LD];rfl
  have hi:i<bs.length:=by have:=(aJ.mp LD).1;omega
  have e3:(bs.map V.bl).getD i .non=.bl (bs.getD i false):=by
   rw[aO,ay,aO,av hi];rfl
  rw[e2,e3]at e;exact e
 refine#[_,_,_,_,_,_,_,λi=>bs.getD i false,rfl,(Walks.list (by simp[I.ok.hd hc]) _ p (a9 (a8 pl.isList.choose_spec.1)) its.toArray).toS,#[#[_,bE _ rfl,rfl,rfl],pl.isList.push _],?_,λs' hm=>?_]
 ·intro i v Q' E' s' hv q'
  rw[PV i v hv];exact fV q'
 ·have ea:(cx its.toArray.size).any (λi=>bs.getD i false)=Bs bs:=by
   rw[bH,<-hl];unfold Bs;rw[eY,iR,iR]
   constructor
   ·rintro⟨i,hi,h⟩
    have hi:=cA.mp hi;rw[aO,av hi]at h
    exact#[_,cZ hi,h]
   ·rintro⟨x,hx,h⟩
    obtain⟨i,hi⟩:=sE.mp hx;refine#[i,cA.mpr (aJ.mp hi).1,?_]
    rwa[aO,hi]
  rw[ea];obtain⟨h',g',d',Bo,Wb⟩:=s';have eg:=hm.gens;have ed:=hm.drawn;have eo:=hm.os;subst eg;subst ed;subst eo;refine#[.bl _,H,I.kept λb o e=>hm.heap b o ?_ (aI _ e),rfl,q]
  have:=a8 e;simp;exact a9 this
theorem Ye{bs:List Bool}:nR K (λxs H Q=>∃p bs,xs=[.ref p]/\jy K H p (bs.map V.bl)/\Q (.bl (Bs bs)) H) [.list (bs.map .bool)] (.bool (Bs bs)):=λvs H0 H Q s r q=>by
 obtain⟨v,rfl,r1⟩:=r.one;cases r1 with
 |lst hq rs=>
  have e:=rs.bls;subst e;exact#[_,bs,rfl,s.seq hq,q _ _ _ (.refl s) (.bl _)]
theorem wz:fillsNumberSlot (.type "tuple") "mul"=pure false:=
 PySem.fillsNumberSlot_seq Ar.lookup ∎ F.slot_tuple_rmul.lookup ∎
theorem CH:seqRepeat? (.type "tuple")=pure (some (.builtin "tuple.__mul__")):=by
 unfold seqRepeat?
 rfl
theorem zc(i:Int)(t:Tok)(l:aH)(items:Array aF)(n:Nat)(dd:Option aH)(sl:Array (Option aF)):
  Meets (wX.«int.__rmul__» #[[.int i t,.ref l],[]]) (λ_ R s=>s.heap.get? l=some { cls:=.type "tuple",dict:=dd,data:=.seq items n,slots:=sl }/\R (.ok (.ret aF.notImplemented)) s):=
 .of_wp λprog w A R s h=>by obtain⟨hp,g,d,tk,os⟩:=s;obtain⟨hl,h⟩:=h;wp_walk;exact#[_,rfl,h]
theorem AH(l:aH)(items:Array aF)(n:Nat)(dd:Option aH)(sl:Array (Option aF))(t:Tok):
  Meets (wX.«tuple.__mul__» #[[.ref l,.int 1 t],[]]) (λ_ R s=>s.heap.get? l=some { cls:=.type "tuple",dict:=dd,data:=.seq items n,slots:=sl }/\R (.ok (.ret (.ref l))) s):=
 .of_wp λprog w A R s h=>by
  obtain⟨hp,g,d,tk,os⟩:=s;obtain⟨hl,h⟩:=h;have f1:=HV;have f2:=Ah;have c1:(items.isEmpty||(1:Int)==1)=true:=by simp
  wp_walk using fH hl
  exact#[_,rfl,h]
theorem zh(l:aH)(its:List aF)(n:Nat)(dd:Option aH)(sl:Array (Option aF))(k:Int)(t:Tok)(hk:2<=k)(hk2:k<2^63)(qY:its≠[])(hsz:its.length*k.toNat<=sizeLine):
  Meets (wX.«tuple.__mul__» #[[.ref l,.int k t],[]]) (λ_ R s=>s.heap.get? l=some { cls:=.type "tuple",dict:=dd,data:=.seq its.toArray n,slots:=sl }/\R (.ok (.ret (.ref s.heap.objs.size))) { s with heap:=s.heap.push { cls:=uV "tuple",data:=Data.seq (bw k.toNat its).flatten.toArray } }):=
 .of_wp λprog w A R s h=>by
  obtain⟨hp,g,d,tk,os⟩:=s;obtain⟨hl,h⟩:=h;have f1:=HV;have f2:=Ah;have Yf:its.toArray.isEmpty=false:=by cases its with|nil=>exact qQ7 rfl qY|cons _ _=>rfl
  have zhj:its.toArray.size*k.toNat<=sizeLine:=by rw[bH];exact hsz
  have Yg:List.foldl (λx1 x2=>x1++x2) #[] (bw k.toNat its.toArray)=(bw k.toNat its).flatten.toArray:=by
   have:=foldl_rep its k.toNat [];rw[eZ]at this;exact this
  generalize hI:its.toArray=items at *
  have hc0:¬(decide (k < -2^63)||decide (k>=2^63))=true:=by simp;omega
  have hc1:¬(items.isEmpty||k==1)=true:=by rw[Yf];simp;omega
  have RW:¬(decide (k<=0)||items.isEmpty)=true:=by rw[Yf];simp;omega
  have hmul:(items.size:Int)*k=((items.size*k.toNat:Nat):Int):=by rw[Int.natCast_mul,Int.toNat_of_nonneg ∅]
  have hsl:(sizeLine:Int)<=(2^63-1)/8:=⋯
  have hc3:¬((items.size:Int)*k>(2^63-1)/8):=by rw[hmul];omega
  wp_walk using fH hl
  refine lO (qQ0 hc0) ?_
  wp_walk using fH hl
  refine lO (qQ0 hc1) ?_
  wp_walk using fH hl
  refine lO (qQ0 RW) ?_
  wp_walk using fH hl
  refine lO (qQ0 hc3) ?_
  wp_walk using fH hl
  refine lO (qQ0 (by unfold wX.Tuple.tupleTooMany;rw[hmul];simp only[gt_iff_lt,decide_eq_true_eq];omega)) ?_
  wp_walk using fH hl
  rw[Yg];refine lO (qQ0 ?_) ?_
  ·rw[bH,len_rep]
   have:items.size=its.length:=by rw[<-hI,bH]
   rw[Nat.mul_comm];omega
  wp_walk
  exact#[_,rfl,h]
def Yh(K:aq):R2:=λx y H Q=>∃a k xs,x=.ref a/\y=.int k/\oT K H a xs/\1<=k/\k<2^63/\xs≠[]/\xs.length*k.toNat<=sizeLine/\(k=1->Q (.ref a) H)/\(k≠1->∀p,H p=none->Q (.ref p) (upd H p (.tup (bw k.toNat xs).flatten)))
theorem P_:sG X (binaryOp .Mult) (Yh X.K):=by
 intro pins s σ H x y v u Q I rx ry h;obtain⟨a,k,xs,rfl,rfl,ha,h1,h2,hx,hz,q1,q2⟩:=h;cases rx;obtain⟨t,rfl⟩:=ry;obtain⟨its,r1,p1,_⟩:=I.tuple ha;obtain⟨⟨cls,dd,data,sl⟩,ho,hc,n,hd⟩:=id p1;subst hc hd;refine wpAny_binaryOp_repeat_ref ⋯ #[_,ho,rfl] (λs'=>typeIs_int s' k t) wz F.fills_int_mul F.slot_int_rmul CH F.slot_int_index.lookup
  (iY F.slot_int_rmul (typeIs_int s k t) F.entry_int_rmul (F.args_int_rmul_2 _ _) (zc k t a its.toArray n dd sl) #[ho,rfl,#[_,ho,rfl],?_])
 by_cases hk:k=1
 ·subst hk
  exact iY Ar #[_,ho,rfl] F.entry_tuple_mul (F.args_tuple_mul_2 _ _) (AH a its.toArray n dd sl t) #[ho,.ref a,H,I,rfl,q1 rfl]
 ·refine iY Ar #[_,ho,rfl] F.entry_tuple_mul (F.args_tuple_mul_2 _ _) (zh a its n dd sl k t ∅ h2 (λz=>hx (r1.yg.mp z)) (by rw[<-r1.length];exact hz)) #[ho,?_]
  refine#[.ref s.heap.objs.size,_,I.laid (λb ob q=>aI _ q) ∅ ?_,rfl,q2 hk _ (I.hok.fresh ∅)]
  exact#[by rw[len_rep,Nat.mul_comm];exact hz,_,r1.rep k.toNat,tL _ _]
theorem P'{n:Int}(h1:VE X a δ (.tuple ds))(h2:VE X b δ (.int n))(hn:1<=n)(ZY:n<=1000)(hz:ds.length<=100)(qY:ds≠[]):VE X (.BinOp a .Mult b pos) δ (.tuple (bw n.toNat ds).flatten):=by
 refine .of (Ie P_ cL cL) λB0 B σ H0 H Q f q=>h1 B0 B σ H0 H _ f λv H1 dD g1 r1=>h2 B0 B σ H1 dD _ (f.grow g1) λu H2 fX g2 r2=>?_
 cases r2;cases r1 with
 |tup hq rs=>
  rename_i ad xs
  have gg:=g1.trans g2;have hl:=rs.length
  have Wk:=rs.mono g2.fB;have go:∀m,cz X.K H2 (bw m xs).flatten (bw m ds).flatten:=by
   intro m
   induction m with
   |zero=>exact .nil
   |succ m ih=>rw[fq,fu,fq,fu];exact Wk.append ih
  refine#[_,n,_,rfl,rfl,g2.sub.oU (g2.fB.oU hq),hn,∅,λz=>?_,?_,λe=>?_,λ_ p hp=>?_]
  ·rw[z]at hl
   exact qY (gy hl.symm)
  ·rw[dN,hl]
   have:n.toNat<=1000:=∅
   have:=j_ hz this;omega
  ·refine q _ H2 fX gg ?_
   have e2:(bw n.toNat ds).flatten=ds:=by rw[e];simp
   rw[e2];exact .tup (g2.fB.oU hq) Wk
  ·exact q _ _ _ (gg.trans (.laid g2.sub hp)) (.tup (oT.of aZ) ((go _).mono (c6.laid g2.sub hp).fB))
end
def jG(as:List aH)(H H0:Hp):Hp:=λq=>if q∈as then H q else H0 q
theorem jb{H0: Hp}{q:aH}(h:q∈as):jG as H H0 q=H q:=qQ3 h
theorem jO{H0: Hp}{q:aH}(h:q∉as):jG as H H0 q=H0 q:=qQ2 h
abbrev OR:=Hp->Hp->List aH->Prop
def gS(R:OR):Prop:=∀H0 H Ha Hb as,R H0 H as->cU H0 Ha->(∀a∈as,Hb a=H a)->R Ha Hb as
structure OF(K:aq)(B0 B:Hp)(R:OR)(H0 H:Hp)(σ:St)(δ:List Slot):Prop where
 fr:fP K B0 B H0 H σ δ
 no:noOwn δ=true
 ex:∃as:List aH,(∀a∈as,H0 a=none/\B a=none/\H a≠none)/\R H0 H as
section
variable{K:aq}{B0 B H0 H cW H' C0 C Ha Hb:Hp}{σ σ':St}{δ δ':List Slot}{R R':OR}
theorem cU.eq{H': Hp}(s:cU H H')(h:H a≠none):H' a=H a:=by
 cases e:H a with
 |none=>exact qQ7 e h
 |some o=>exact s a o e
theorem OF.go(m:gS R)(G:OF K B0 B R H0 H σ δ)(f':fP K H0 H Ha Hb σ' δ')(hn:noOwn δ'=true):OF K B0 B R Ha Hb σ' δ':=by
 obtain⟨as,h1,h2⟩:=G.ex;refine#[f'.re hn (G.fr.ent.trans f'.ent),hn,as,λa ha=>?_,m _ _ _ _ _ h2 f'.ent.fB λa ha=>f'.ent.big.eq (h1 a ha).2.2]
 obtain⟨z1,z2,z3⟩:=h1 a ha;cases e:H a with
 |none=>exact qQ7 e z3
 |some o=>exact#[f'.ent.still z1 e,z2,f'.ent.big.ne z3]
theorem OF.from(G:OF K B0 B R H0 H σ δ)(g:c6 C0 B H0 H):OF K C0 B R H0 H σ δ:=#[G.fr.re G.no g,G.no,G.ex]
theorem OF.own(G:OF K B0 B R H0 H σ δ):fP K H0 H H0 H σ δ:=G.fr.re G.no (.refl G.fr.sub)
theorem OF.forget(m:gS R)(G:OF K B0 B R H0 H σ δ)(hf:Ld δ δ')(hn:noOwn δ'=true):OF K B0 B R H0 H σ δ':=G.go m (G.own.forget hf.len hf.at) hn
theorem lj(sb:cU H0 H):cU H0 (jG as H H0):=λb u e=>by
 by_cases hb:b∈as
 ·rw[jb hb];exact sb b u e
 ·rwa[jO hb]
theorem ym(sb:cU H0 H):cU (jG as H H0) H:=λb u e=>by
 by_cases hb:b∈as
 ·rwa[jb hb]at e
 ·rw[jO hb]at e;exact sb b u e
theorem OF.look(G:OF K B0 B R H0 H σ δ){i:Nat}(hi:δ[i]?=some (.ref p))(hR:∀Ha Hb as,cU Ha Hb->R Ha Hb as->Rep K (jG as Hb Ha) (.ref p) d):∃C0,fP K C0 H C0 H σ (δ.set i (.val d)):=by
 obtain⟨as,h1,h2⟩:=G.ex;have sm:=lj (as:=as) G.fr.sub;have hs:=G.fr.slot i _ hi;have f0:fP K (jG as H H0) H (jG as H H0) H σ δ:=by
  refine#[.refl (ym G.fr.sub),G.fr.len,λi sl e=>?_,G.fr.apart]
  have q:=G.fr.slot i sl e;cases sl with
  |un=>trivial
  |ref _=>exact q
  |val d=>obtain⟨v,g1,g2⟩:=q;exact#[v,g1,g2.mono sm]
  |own ds=>exact qQ7 e (gE G.no i ds)
 have f1:=f0.qm (i:=i) (sl:=.val d) #[_,rfl,hR H0 H as G.fr.sub h2] rfl;have e:σ.set i (some (.ref p))=σ:=by
  apply gD;intro j;by_cases h:j=i
  ·subst h;rw[a_ (aJ.mp hs).1,hs]
  ·rw[a7 (bJ h)]
 rw[e]at f1;exact#[_,f1]
theorem OF.rep(G:OF K B0 B R H0 H σ δ)(hR:∀Ha Hb as,cU Ha Hb->R Ha Hb as->Rep K (jG as Hb Ha) (.ref p) d):∃Ha,c6 B0 B Ha H/\Rep K Ha (.ref p) d:=by
 obtain⟨as,h1,h2⟩:=G.ex;refine#[_,#[G.fr.ent.big,G.fr.ent.fB.trans (lj G.fr.sub),ym G.fr.sub,λb e=>?_],hR H0 H as G.fr.sub h2]
 by_cases hb:b∈as
 ·exact .inr (h1 b hb).2.1
 ·rw[jO hb]at e;exact G.fr.ent.new b e
end
section
variable{X:Cx}{B0 B H0 H cW H' Ha Hb:Hp}{σ σ':St}{D:Ends}{st:fQ}{rest body orelse:List fQ}{δ δ':List Slot}{a p:aH}{e c tg iter:bK}{d dp:aj}{ds:List aj}{pos px wj:Pos}{x y:Str}{R:OR}
theorem mU(m:gS R)(G:OF X.K B0 B R H0 H σ δ)(h:VS X st δ (.nx δ'))(hn:noOwn δ'=true)(q:∀σ' cW H',OF X.K B0 B R cW H' σ' δ'->D.nx σ' H'):cS X st D σ H:=
 h H0 H σ H0 H D G.own λσ' Ha Hb sm f'=>q σ' Ha Hb (G.go m f' hn)
theorem MF(m:gS R)(G:OF X.K B0 B R H0 H σ δ)(i j:Nat)(hi:δ[i]?=some (.ref p))(hR:∀Ha Hb as,cU Ha Hb->R Ha Hb as->Rep X.K (jG as Hb Ha) (.ref p) dp)(h:VE X e (δ.set i (.val dp)) d)(hs:Bl d=true)(hn:noOwn (δ.set j (.val d))=true)(q:∀σ' cW H',OF X.K B0 B R cW H' σ' (δ.set j (.val d))->D.nx σ' H')(hN:X.N.Nodup)
  (hj:X.N[j]?=some y:=by rfl)(hx:Loc X.env.scope y:=by left)(qg:A1 X pos e (.Name y px):=by rfl)(hf:A0 X y:=by left):
  cS X (.Assign [.Name y px] e pos) D σ H:=λpins s I=>by
 refine nP hN hj hx cL qg hf pins s σ H D I ?_
 obtain⟨C0,f1⟩:=G.look hi hR;refine h C0 H σ C0 H _ f1 λv C1 H1 g1 r=>?_
 have G1:=G.go m (G.own.grow (.far G.fr.sub g1.big)) G.no;exact q _ H0 H1 (G1.go m (G1.own.qm #[_,rfl,r.J3 hs] rfl) hn)
section
variable{X:Cx}{B0 B H0 H:Hp}{σ:St}{D:Ends}{body:List fQ}{tg iter:bK}{ds:List aj}{pos:Pos}
theorem MG(Rs:Nat->OR)(δs:Nat->List Slot)(m:∀k,gS (Rs k))(G:OF X.K B0 B (Rs 0) H0 H σ (δs 0))(hp:tj (model X.prog X.w) X.A X.env X.xe)(hc:X.calm=true)(hi:VI X tg iter (δs 0) ds)(hg:PG X tg (Ge X.K tgt))
  (step:∀k d,ds[k]?=some d->∃δ',vi tgt d (δs k)=some δ'/\noOwn δ'=true/\∀(D:Ends)C0 σ' cW H',OF X.K C0 B (Rs k) cW H' σ' δ'->(∀σ2 Ha Hb,OF X.K C0 B (Rs (k+1)) Ha Hb σ2 (δs (k+1))->D.nx σ2 Hb)->Ay X body D σ' H')
  (q:∀σ2 Ha Hb,OF X.K B0 B (Rs ds.length) Ha Hb σ2 (δs ds.length)->D.nx σ2 Hb)
  (hs:HY X iter:=by intro _;rfl):cS X (.For tg iter body [] pos) D σ H:=λpins s I=>by
 obtain⟨wi,pi,qi⟩:=hi;refine Cb hp hc pi hg la hs pins s σ H D I ?_
 refine qi H0 H σ H0 H _ G.own λJ H1 dD g it=>?_
 have G1:=G.go (m 0) (G.own.grow g) G.no;refine#[λi mm σ' H'=>i<=ds.length/\mm=ds.length-i/\∃Ha,OF X.K H1 B (Rs i) Ha H' σ' (δs i),#[_,bj _,rfl,H1,G1.from #[G1.fr.ent.big,cU.refl _,G1.fr.sub,λ_ z=>.inl z]],?_]
 rintro i mm σ' H' ⟨hi,rfl,Ha,Ga⟩
 obtain⟨i1,i2,i3⟩:=it Ha H' Ga.fr.ent.fB Ga.fr.sub i;by_cases m_:i<ds.length
 ·have hd:ds[i]?=some ds[i]:=by simp[m_]
  obtain⟨δ',e1,e2,e3⟩:=step i _ hd;refine .inr #[i1 m_,λσ'' Bf=>∃Hb,_,λσ'' Bf #[Hb,z]=>#[_,∅,m_,rfl,Hb,z],λv H2 y=>?_]
  obtain⟨Hb,g2,rx⟩:=i3 v H2 _ hd y;exact rM (Ga.own.grow g2) rx e1 λσ3 f3=>(e3 _ H1 σ3 Hb H2 (Ga.go (m i) f3 e2) λσ2 Hc Hd z=>#[Hc,z])
 ·have e:i=ds.length:=∅
  subst e;refine .inl #[i2 ∅,q σ' Ha H' (Ga.from #[Ga.fr.ent.big,G1.fr.ent.fB.trans Ga.fr.ent.fB,Ga.fr.sub,λb z=>?_])]
  rcases Ga.fr.ent.new b z with z|z
  ·exact G1.fr.ent.new b z
  ·exact .inr z
end
theorem Bt(Rs:Nat->OR)(m:∀k,gS (Rs k))(G:OF X.K B0 B (Rs 0) H0 H σ δ)(hp:tj (model X.prog X.w) X.A X.env X.xe)(hc:X.calm=true)(hi:VI X tg iter δ ds)(hg:PG X tg (Ge X.K tgt))
  (step:∀k d,ds[k]?=some d->∃δ',vi tgt d δ=some δ'/\noOwn δ'=true/\∀(D:Ends)C0 σ' cW H',OF X.K C0 B (Rs k) cW H' σ' δ'->(∀σ2 Ha Hb,OF X.K C0 B (Rs (k+1)) Ha Hb σ2 δ->D.nx σ2 Hb)->Ay X body D σ' H')
  (q:∀σ2 Ha Hb,OF X.K B0 B (Rs ds.length) Ha Hb σ2 δ->D.nx σ2 Hb)
  (hs:HY X iter:=by intro _;rfl):cS X (.For tg iter body [] pos) D σ H:=MG Rs (λ_=>δ) m G hp hc hi hg step q hs
theorem Si(G:OF X.K B0 B R H0 H σ δ)(i:Nat)(hi:δ[i]?=some (.ref p))(hR:∀Ha Hb as,cU Ha Hb->R Ha Hb as->Rep X.K (jG as Hb Ha) (.ref p) d)(q:∀v cW H',c6 B0 B cW H'->Rep X.K cW v d->D.rt v H')
  (hN:rA X i x:=by ac_rfl):
  cS X (.Return (some (.Name x px)) pos) D σ H:=λpins s I=>v8 (uU hN) pins s σ H D I (by
 obtain⟨Ha,g,r⟩:=G.rep hR;exact#[_,G.fr.slot i _ hi,q _ Ha H g r])
def MH(K:aq)(S:Type)(PR:aH->S->OR)(ok:S->aj->S->Prop):Sp:=λvs H Q _=>∃(H0:Hp)(p:aH)(v:V)(as:List aH)(s s':S)(d:aj),vs=[.ref p,v]/\cU H0 H/\Rep K H0 v d/\(∀a∈as,H0 a=none/\H a≠none)/\PR p s H0 H as/\ok s d s'/\
 ∀(cW H':Hp)(as':List aH),cU H0 cW->cU cW H'->(∀a,cW a≠none->H0 a≠none\/H a=none)->(∀a∈as',cW a=none/\H' a≠none/\(a∈as\/H a=none))->(∀b o,H b=some o->b∉as->H' b=some o)->PR p s' cW H' as'->Q .non H'
theorem Yi{S:Type}{PR:aH->S->OR}{ok:S->aj->S->Prop}{k:Nat}{f:Str}{ps:List Str}{p0 p1 pc:Pos}{s s':S}(C:bB X.prog X.w X.K X.mg X.base k f ps (MH X.K S PR ok))(hr:eB k X.A)(G:OF X.K B0 B (PR p s) H0 H σ δ)(m:gS (PR p s))(i:Nat)(hi:δ[i]?=some (.ref p))(h:VE X e δ d)(hok:ok s d s')
  (q:∀cW H',OF X.K B0 B (PR p s') cW H' σ δ->D.nx σ H')
  (hN:rA X i x:=by ac_rfl)
  (hg:Gl X f:=by rfl)(u9:xP f:=by decide)(he:starEach [.Name x p0,e] X.env=(false,eval (.Name x p0) X.env)::starEach [e] X.env:=by rfl)(PK:kZ X e []:=by rfl)(mD:tF X pc [e]:=by rfl)
  (qg:OG X pos (.Call (.Name f p1) [.Name x p0,e] [] pc):=by rfl):
  cS X (.Expr (.Call (.Name f p1) [.Name x p0,e] [] pc) pos) D σ H:=λpins s0 I=>by
 obtain⟨fa,fd,F,hm,hk,hb⟩:=C;refine ja (sH F hr hg hm hk hb .nil yQ (cN (uU hN) (cN cL eG PK) he) u9 he mD) qg pins s0 σ H D I ?_
 refine#[_,G.fr.slot i _ hi,?_]
 refine h H0 H σ H0 H _ G.own λv H1 dD g r=>?_
 have G1:=G.go m (G.own.grow g) G.no;obtain⟨as,h1,h2⟩:=G1.ex;refine#[H1,p,v,as,s,s',d,rfl,G1.fr.sub,r,λa ha=>#[(h1 a ha).1,(h1 a ha).2.2],h2,hok,λcW H' as' a1 a2 a3 a4 a5 a6=>?_]
 have hB:∀b,B b≠none->b∉as:=λb hb z=>hb (h1 b z).2.1
 refine q cW H' #[#[#[λb u e=>a5 b u (G1.fr.ent.big b u e) (hB b (by rw[e];simp)),G1.fr.ent.fB.trans a1,a2,λb z=>?_],G1.fr.len,λj sl e=>?_,G1.fr.apart],G.no,as',λa ha=>?_,a6]
 ·rcases a3 b z with z|z
  ·exact G1.fr.ent.new b z
  ·exact .inr (G1.fr.ent.big.free z)
 ·have qq:=G1.fr.slot j sl e
  cases sl with
  |un=>trivial
  |ref _=>exact qq
  |val d=>obtain⟨v,g1,g2⟩:=qq;exact#[v,g1,g2.mono a1]
  |own ds=>exact qQ7 e (gE G.no j ds)
 ·obtain⟨z1,z2,z3⟩:=a4 a ha
  refine#[z1,?_,z2]
  rcases z3 with z3|z3
  ·exact(h1 a z3).2.1
  ·exact G1.fr.ent.big.free z3
end
theorem wA{α:Type}{g:α->aj}:∀{l:List α}{cs:List aH},cs.length=l.length->(∀(i:Nat)c q,cs[i]?=some c->l[i]?=some q->Rep K H (.ref c) (g q))->cz K H (cs.map V.ref) (l.map g)
 | [],[],_,_=>.nil
 | [],_::_,h,_=>by cases h
 |_::_,[],h,_=>by cases h
 |q::l,c::cs,h,k=>.cons (k 0 c q rfl rfl) (wA ↑h λi c' q' e1 e2=>k (i+1) c' q' ↑e1 ↑e2)
section
variable{K:aq}{B0 B H0 H Ha Hb:Hp}{σ:St}{δ:List Slot}{R R':OR}
theorem OF.put(G:OF K B0 B R H0 H σ δ)(m:gS R)(g:c6 H0 H Ha Hb){x:aH}{o:HO}(hR:∀as,R Ha Hb as->x∈as/\∃as',(∀a∈as',a∈as)/\R' Ha (upd Hb x o) as'):OF K B0 B R' Ha (upd Hb x o) σ δ:=by
 have G1:=G.go m (G.own.grow g) G.no;obtain⟨as,h1,h2⟩:=G1.ex;obtain⟨hx,as',hs,r'⟩:=hR as h2;obtain⟨z1,z2,z3⟩:=h1 x hx;refine#[G1.fr.touch z1 z2 (gE G1.no),G1.no,as',λb hb=>?_,r']
 obtain⟨w1,w2,w3⟩:=h1 b (hs b hb);refine#[w1,w2,?_]
 by_cases e:b=x
 ·subst e;rw[aZ];exact nofun
 ·rwa[aL e]
end
section
variable{K:aq}{B0 B H0 H:Hp}{σ:St}{δ:List Slot}{R:OR}{d:aj}{p:aH}
theorem OF.done(G:OF K B0 B R H0 H σ δ){i:Nat}(hi:δ[i]?=some (.ref p))(hR:∀Ha Hb as,cU Ha Hb->R Ha Hb as->Rep K (jG as Hb Ha) (.ref p) d):∃Ha,cU H0 Ha/\fP K B0 B Ha H σ (δ.set i (.val d)):=by
 obtain⟨as,h1,h2⟩:=G.ex;have sm:=lj (as:=as) G.fr.sub;have hs:=G.fr.slot i _ hi;have f0:fP K B0 B (jG as H H0) H σ δ:=by
  refine#[#[G.fr.ent.big,G.fr.ent.fB.trans sm,ym G.fr.sub,λb e=>?_],G.fr.len,λi sl e=>?_,G.fr.apart]
  ·by_cases hb:b∈as
   ·exact .inr (h1 b hb).2.1
   ·rw[jO hb]at e;exact G.fr.ent.new b e
  have q:=G.fr.slot i sl e;cases sl with
  |un=>trivial
  |ref _=>exact q
  |val d=>obtain⟨v,g1,g2⟩:=q;exact#[v,g1,g2.mono sm]
  |own ds=>exact qQ7 e (gE G.no i ds)
 have f1:=f0.qm (i:=i) (sl:=.val d) #[_,rfl,hR H0 H as G.fr.sub h2] rfl;have e:σ.set i (some (.ref p))=σ:=by
  apply gD;intro j;by_cases h:j=i
  ·subst h;rw[a_ (aJ.mp hs).1,hs]
  ·rw[a7 (bJ h)]
 rw[e]at f1;exact#[_,sm,f1]
end
def LL(K:aq)(a:aH)(ps:List aH)(gs:List (List aj)):OR:=λH0 H as=>as=a::ps/\(a::ps).Nodup/\H a=some (.lst (ps.map V.ref))/\ps.length=gs.length/\∀(i:Nat)p ds,ps[i]?=some p->gs[i]?=some ds->∃xs,H p=some (.lst xs)/\cz K H0 xs ds
def LX(K:aq)(gs:List (List aj))(a:aH):OR:=λH0 H as=>∃ps,LL K a ps gs H0 H as
section
variable{K:aq}{B0 B H0 H:Hp}{σ:St}{δ:List Slot}{a:aH}{ps:List aH}{gs:List (List aj)}
theorem LL.mono:gS (LL K a ps gs):=by
 rintro H0 H Ha Hb as ⟨rfl,nd,h1,h2,h3⟩ sm hb
 refine#[rfl,nd,by rw[hb a (by simp)];exact h1,h2,λi p ds e1 e2=>?_]
 obtain⟨xs,y1,y2⟩:=h3 i p ds e1 e2;exact#[xs,by rw[hb p (by simp[aK e1])];exact y1,y2.mono sm]
theorem LL.rep(Ha Hb:Hp)(as:List aH)(s:cU Ha Hb)(h:LL K a ps gs Ha Hb as):Rep K (jG as Hb Ha) (.ref a) (.list (gs.map .list)):=by
 obtain⟨rfl,nd,h1,h2,h3⟩:=h;refine .lst (jy.of ((jb (by simp)).trans h1)) (wA h2 λi c q e1 e2=>?_)
 obtain⟨xs,y1,y2⟩:=h3 i c q e1 e2;exact .lst (jy.of (by rw[jb (by simp[aK e1])];exact y1)) (y2.mono (lj s))
theorem LX.rep(a:aH)(Ha Hb:Hp)(as:List aH)(s:cU Ha Hb)(h:LX K gs a Ha Hb as):Rep K (jG as Hb Ha) (.ref a) (.list (gs.map .list)):=by
 obtain⟨ps,h⟩:=h;exact LL.rep Ha Hb as s h
theorem OF.llx(G:OF K B0 B (LX K gs a) H0 H σ δ):∃ps,OF K B0 B (LL K a ps gs) H0 H σ δ:=by
 obtain⟨as,h1,ps,h2⟩:=G.ex;exact#[ps,G.fr,G.no,as,h1,h2]
theorem LL.row{Ha Hb Hc Hd:Hp}{l':List aj}(h:LL K a ps gs Ha Hb as)(hp:ps[j]?=some p)(sm:cU Ha Hc)(hk:∀x∈a::ps,x≠p->Hd x=Hb x)(hx:Hd p=some (.lst xs))(r:cz K Hc xs l'):LL K a ps (gs.set j l') Hc Hd (a::ps):=by
 obtain⟨e,nd,h1,h2,h3⟩:=h;have n:=cj.mp nd;have hap:a≠p:=λz=>n.1 (by rw[z];exact aK hp)
 refine#[rfl,nd,by rw[hk a (by simp) hap];exact h1,by rw[kW];exact h2,λi q ds e1 e2=>?_]
 by_cases hi:i=j
 ·subst hi
  rw[hp]at e1;cases e1;have hl:i<gs.length:=by rw[<-h2];exact(aJ.mp hp).1
  rw[a_ hl]at e2
  cases e2;exact#[xs,hx,r]
 ·rw[a7 (bJ hi)]at e2
  have hq:q≠p:=λz=>hi ((iB (aJ.mp e1).1 n.2).mp (by rw[e1,hp,z]))
  obtain⟨ys,y1,y2⟩:=h3 i q ds e1 e2;exact#[ys,by rw[hk q (by simp[aK e1]) hq];exact y1,y2.mono sm]
end
section
variable{X:Cx}{sc:kH}{own N:List Str}{cap:List Nat}{cl:List (Str×aH)}{tg iter:bK}{δ:List Slot}{ds:List aj}{pos px wj lp:Pos}{tgt:Fx}{x:Str}{B0 B H0 H:Hp}{σ:St}{D:Ends}
theorem IL(i:Nat)(f:fP X.K B0 B H0 H σ δ)(La:noOwn δ=true)(hc:X.calm=true)(CS:jU X sc own cap N cl)(hi:VI X tg iter δ ds)(hg:∀f s3 H3,PG (fK X sc N cl f s3 H3) tg (Ge X.K tgt))(ht:tT own.length tgt=true)(hz:ds.length<=sizeLine)
  (step:∀d∈ds,∃δ',vi tgt d (mF own cap δ)=some δ')(hN:X.N.Nodup)(q:∀σ' a ps cW H',OF X.K B0 B (LL X.K a ps (bw ds.length [])) cW H' σ' (δ.set i (.ref a))->D.nx σ' H')(hn:∀a,noOwn (δ.set i (.ref a))=true)(XQ:X.N[i]?=some x:=by rfl)(hx:Loc X.env.scope x:=by left)
  (qg:swapsWith (.ListComp (.List [] lp) [#[tg,iter,[],0]] sc pos) (some (.Name x px)) wj.line X.env=pure true:=by rfl)(hs:HY X iter:=by intro _;rfl)(hf:A0 X x:=by left):
  cS X (.Assign [.Name x px] (.ListComp (.List [] lp) [#[tg,iter,[],0]] sc pos) wj) D σ H:=λpins s I=>by
 obtain⟨wi,pi,qi⟩:=hi;refine yU (tc:=R5 X sc N cl []) (te:=teC X sc N cl _) hN XQ hx hc CS pi hg (λf s3 H3 pins s σ H Q I h=>h f s3 H3 pins s I) (λf s3 H3 pins s σ H Q I h=>h f s3 H3 pins s I) qg hs hf pins s σ H D I ?_
 refine qi B0 B σ H0 H _ f λJ H1 dD g it=>?_
 have f1:=f.grow g;intro L hL;have hBL:=f1.ent.big.free hL;refine#[λi m ys σ' H'=>i<=ds.length/\m=ds.length-i/\∃Ha ps,c6 H1 dD Ha H'/\fP X.K B0 B Ha H' σ' _/\Ha L=none/\ys=ps.map V.ref/\H' L=some (.lst ys)/\L∉ps/\ps.Nodup/\ps.length=i/\∀p∈ps,B p=none/\Ha p=none/\H' p=some (.lst []),
  #[_,bj _,rfl,H1,[],.loose f1.sub hL,(f1.comp own cap).touch (f1.sub.free hL) hBL iU,f1.sub.free hL,rfl,aZ,by simp,by simp,rfl,λp hp=>by cases hp],?_]
 rintro n m ys σ' H' ⟨hn1,rfl,Ha,ps,g1,fa,hLa,rfl,Yj,hLp,Wn,mD,U2⟩
 obtain⟨i1,i2,i3⟩:=it Ha H' g1.fB g1.sub n;by_cases m_:n<ds.length
 ·refine .inr #[i1 m_,λv H2 y=>?_]
  obtain⟨Hb,g2,rx⟩:=i3 v H2 ds[n] (by simp[m_]) y;obtain⟨δ',e1⟩:=step ds[n] (cZ m_);obtain⟨k1,k2⟩:=comp_back ht e1;refine rM (fa.grow g2) rx e1 λσ3 f3=>?_
  intro fp s3 H3;refine jW B0 B σ3 Hb H2 _ f3 λHc H4 g4=>?_
  rw[qQ3 rfl];intro Wi s3' uv;refine (dS (ds:=[]) aR) B0 B σ3 Hc H4 _ (f3.grow g4) λp xs Hd H5 g5 a1 a2 a3 a4=>?_
  cases a4;have Bk:=(g2.trans g4).trans g5;have hL5:=Bk.still hLa Yj;have nLp:L≠p:=λz=>by
   have:=(g2.trans g4).big _ _ Yj;rw[z,a1]at this;cases this
  have pB:=(f3.grow g4).ent.big.free a1;refine#[Bk.big _ _ Yj,by rw[ae,mD];omega,_,∅,m_,rfl,Hd,ps ++ [p],?_,((f3.grow g4).grow g5 |>.forget k1.symm k2).touch hL5 hBL iU,hL5,by simp,aZ,by simp[hLp,nLp],?_,by simp[mD],λp' Wo=>?_]
  ·have gg:=g1.trans Bk
   exact#[λb u e=>by rw[aL (bC e hL)];exact gg.big b u e,gg.fB,λb u e=>by rw[aL (bC e hL5)];exact gg.sub b u e,gg.new]
  ·rw[bR]
   refine#[Wn,by simp,λb hb c hc=>?_]
   simp only[aQ]at hc;subst hc;intro z;subst z;have:=(g2.trans g4).big _ _ (U2 b hb).2.2;rw[a1]at this;cases this
  ·rcases bo.mp Wo with h|h
   ·obtain⟨h1,h2,h3⟩:=U2 p' h
    exact#[h1,Bk.still h2 h3,by rw[aL (λz=>hLp (by rw[<-z];exact h))];exact Bk.big _ _ h3]
   ·simp only[aQ]at h
    subst h;exact#[pB,a2,by rw[aL (bJ nLp)];exact a3]
 ·have e:n=ds.length:=∅
  subst e;refine .inl #[i2 ∅,q _ L ps Ha H' ?_]
  refine#[(f.grow (g.trans g1)).qm rfl rfl,hn L,_,λz hz=>?_,rfl,cj.mpr #[hLp,Wn],Yj,by simp[mD],λj p es e1 e2=>?_]
  ·rcases ax.mp hz with rfl|hz
   ·exact#[hLa,hBL,by rw[Yj];exact nofun]
   ·obtain⟨h1,h2,h3⟩:=U2 z hz
    exact#[h2,h1,by rw[h3];exact nofun]
  ·obtain⟨h1,h2,h3⟩:=U2 p (aK e1)
   rw[ei]at e2
   split at e2<;>cases e2
   exact#[[],h3,.nil]
end
section
variable{X:Cx}{B0 B H0 H:Hp}{σ:St}{D:Ends}{δ:List Slot}{a:aH}{ps:List aH}{gs:List (List aj)}{e1 e2 ea:bK}{d:aj}{ds:List aj}{pos px:Pos}{x:Str}{R:OR}{rest:List fQ}
theorem Kf(G:OF X.K B0 B (LL X.K a ps gs) H0 H σ δ)(ig:Nat){m: Nat}{p0 p4 ap:Pos}(hga:δ[ig]?=some (.ref a))(ha:VE X ea δ (.int j))(hp:ps[j]?=some p)(hg:gs[j]?=some ds)(h1:VE X e1 (δ.set ig (.val (.list (gs.map .list)))) (.int m))(hm:m<=ds.length)(h2:VE X e2 δ d)(hz:ds.length<sizeLine)
  (q:∀σ' cW H',OF X.K B0 B (LL X.K a ps (gs.set j (rV ds m d))) cW H' σ' δ->D.nx σ' H')(hig:rA X ig x:=by ac_rfl)(mD:oj ea:=by intro _ _;rfl)
  (hs:kZ X e1 [e2]:=by rfl)(qO:kZ X e2 []:=by rfl)(gj:yc X (.Subscript (.Name x p0) ea p4) "insert":=by rfl)
  (k_:FJ X px [e1,e2]:=by rfl)
  (hline:(ap.endLine==px.line)=true:=by rfl)(fJ:tF X px [e2]:=by rfl)(qg:swapsWith (.Call (.Attribute (.Subscript (.Name x p0) ea p4) "insert" ap) [e1,e2] [] px) none pos.line X.env=pure false:=by rfl):
  cS X (.Expr (.Call (.Attribute (.Subscript (.Name x p0) ea p4) "insert" ap) [e1,e2] [] px) pos) D σ H:=λpins s I=>by
 refine ja (om cB PySem.F.slot_list_insert PySem.F.type_list_insert Ke (LY yP (uU hig) cL mD) (cN cL (cN cL eG qO) hs) gj k_ hline hs fJ) qg pins s σ H D I ?_
 refine#[_,G.fr.slot ig _ hga,?_]
 refine ha H0 H σ H0 H _ G.own λv H1 dD g r=>?_
 cases r;have G1:=G.go LL.mono (G.own.grow g) G.no;obtain⟨_,_,_,_,c1,c2,c3⟩:=G1.ex;obtain⟨xs,y1,y2⟩:=c3 j p ds hp hg;refine .inl #[a,_,_,.ref p,rfl,rfl,jy.of c1,cM (by rw[ay,hp];rfl),.inl #[rfl,_,jy.of y1],?_]
 obtain⟨C0,ff⟩:=G1.look hga LL.rep;refine h1 C0 dD σ C0 dD _ ff λv Hb H2 g2 r2=>?_
 cases r2;have G2:=G1.go LL.mono (G1.own.grow (.far G1.fr.sub g2.big)) G1.no;refine h2 H1 H2 σ H1 H2 _ G2.own λv H3 uv g3 r3=>?_
 refine#[p,xs,m,v,rfl,rfl,g3.big _ _ (g2.big _ _ y1),∅,by rw[y2.length];omega,by rw[y2.length];exact hz,q σ H3 _ (G2.put LL.mono g3 λas' hL=>?_)]
 have e:=hL.1;subst e;exact#[aN _ (aK hp),_,λ_ z=>z,LL.row hL hp (cU.refl _) (λz _ hz=>aL hz) aZ ((y2.mono g3.fB).ins r3 m)]
theorem U3(G:OF X.K B0 B R H0 H σ δ){ig:Nat}{o:Out}(hga:δ[ig]?=some (.ref a))(hR:∀Ha Hb as,cU Ha Hb->R Ha Hb as->Rep X.K (jG as Hb Ha) (.ref a) d)(h:rP X rest (δ.set ig (.val d)) o)(q:∀Ha,cU H0 Ha->rO X.K B0 B Ha D o):Ay X rest D σ H:=by
 obtain⟨Ha,sm,ff⟩:=G.done hga hR;exact h B0 B σ Ha H D ff (q Ha sm)
end
section
variable{X:Cx}{pins:List (aH×Obj)}{σ:St}{H:Hp}{s:aS}{a:aH}{kvs:List (Key×V)}{k:Key}{d:V}{u r:aF}{A:dO}{E:aF->aS->Prop}
theorem MJ(I:Inv X pins σ H s)(e:H a=some (.dK kvs))(ry:RelV (kV k) u)(rd:RelV d r)(hl:kvs.length<sizeLine)(h1:∀v w' s',gQ kvs k=some v->Inv X pins σ H s'->RelV v w'->Q w' s')
  (h2:∀s',gQ kvs k=none->Inv X pins σ (upd H a (.dK (putK kvs k d))) s'->Q r s'):wpAny (model X.prog X.w) A (call (.builtin "dict.setdefault") [.ref a,u,r]) Q E s:=by
 obtain⟨z,hd,vs,rel,dd⟩:=D3 I.hok e;have rv:=rel.val k;refine call_meetsIn xN dd.typeIs PySem.F.entry_dict_setdefault (PySem.F.args_dict_setdefault_3 _ _ _) (kt_meets_setdefault _ a (rE ry) hd r) #[vs,dd,by rw[<-rel.length];exact z,λv hv=>?_,λhn h' Lc hs=>?_]
 ·rw[hv]at rv
  cases ev:gQ kvs k with
  |none=>rw[ev]at rv;exact rv.elim
  |some w=>rw[ev]at rv;exact h1 w v _ ev (I.tok _) rv
 ·have Pu:(putK kvs k d).length<=sizeLine:=by have:=mE kvs k d;omega
  have he:∃q,h'.get? a=some q:=let#[q,_,_,hq,_]:=Lc;#[q,hq];rw[hn]at rv;refine h2 _ ?_ (yh I (by rw[e];exact f9) hs he (Ck Pu hd (rel.put k rd) Lc))
  cases ev:gQ kvs k with
  |none=>rfl
  |some w=>rw[ev]at rv;exact rv.elim
end
def Yk(td ty tx:TE):TE:=λσ H Q=>td σ H λx H1=>∃a,x=.ref a/\IsD H1 a/\ty σ H1 λy H2=>tx σ H2 λz H3=>∃kvs k,H3 a=some (.dK kvs)/\y=kV k/\kvs.length<sizeLine/\
 (∀v,gQ kvs k=some v->Q v H3)/\(gQ kvs k=none->Q z (upd H3 a (.dK (putK kvs k z))))
section
variable{X:Cx}{o e f:bK}{apos pw:Pos}{td ty tx:TE}
theorem Qa(ho:PE X o td)(he:PE X e ty)(hf:PE X f tx)(m:M2 X o "setdefault" apos e f pw):PE X (.Call (.Attribute o "setdefault" apos) [e,f] [] pw) (Yk td ty tx):=by
 intro pins s σ H Q I h;refine wpAny_Call_method m.base m.few m.line AY xN PySem.F.type_dict_setdefault (gN (ho pins s σ H _ I h) λu s1 #[x,H1,I1,rx,a,ex,d,q1]=>?_)
 subst ex;obtain rfl:u=d_ a:=rx;obtain⟨t1,t2,_⟩:=L_ I1 d;refine#[t1,t2,?_]
 rw[m.trees];refine lK rfl (tq (kU (gN (he pins s1 σ H1 _ I1 q1) λiv s2 #[y,H2,I2,ry,q2]=>
  kU (gN (hf pins s2 σ H2 _ I2 q2) λfv s3 #[z,H3,I3,rz,kvs,k,ea,ey,hl,q3,q4]=>vW ?_))))
 subst ey;exact MJ I3 ea ry rz hl (λv w' s' ev I4 sF=>#[v,H3,I4,sF,q3 v ev]) λs' ev I4=>#[z,_,I4,rz,q4 ev]
end
section
variable{X:Cx}{B0 B H0 H:Hp}{σ:St}{D:Ends}{st:fQ}{rest body orelse:List fQ}{δ δ':List Slot}{a p C dx:aH}{e c ek ev:bK}{d:aj}{pos px po ps pa pc:Pos}{x y fl:Str}{fs:List (Str×V)}{k:Nat}
theorem Yl(f:fP X.K B0 B H0 H σ δ)(h:VS X st δ (.nx δ'))(q:∀σ' Ha Hb,cU H0 Ha->fP X.K B0 B Ha Hb σ' δ'->D.nx σ' Hb):cS X st D σ H:=h B0 B σ H0 H D f q
theorem IQ(f:fP X.K B0 B H0 H σ δ)(h:VT X c δ true)(q:∀Ha Hb,c6 H0 H Ha Hb->Ay X body D σ Hb):cS X (.If c body orelse pos) D σ H:=λpins s I=>
 A4 mS la lU pins s σ H D I (h B0 B σ H0 H _ f λH1 dD g=>Ui (q H1 dD g))
theorem Sj(f:fP X.K B0 B H0 H σ δ)(h:VT X c δ false)(q:∀Ha Hb,c6 H0 H Ha Hb->Ay X orelse D σ Hb):cS X (.If c body orelse pos) D σ H:=λpins s I=>
 A4 mS lU la pins s σ H D I (h B0 B σ H0 H _ f λH1 dD g=>Uh (q H1 dD g))
theorem U4(i:Nat){fi:aH}{fd:eM}{ps':List Str}{sp:Sp}{p0 pk:Pos}(M:Mk X.K C fi)(F:eW X.prog X.w X.K X.mg X.base kD j fi fd ps' sp)(hr:eB (j+1) X.A)(hm:X.mg x=some (.ref C))(hb:Binds X.K fd ps' [])
  (q:∀p dx E,H p=none->H dx=none->dx≠p->sp [.ref p] (upd (upd H dx (.own p)) p (.ins C dx [])) (λv H2=>v=.non/\D.nx (σ.set i (some (.ref p))) H2) E)
  (hN:X.N.Nodup)(hi:X.N[i]?=some y:=by rfl)(hx:Loc X.env.scope y:=by left)(hs:A1 X pos (.Call (.Name x p0) [] [] pk) (.Name y px):=by rfl)(hf:A0 X y:=by left)
  (hg:Gl X x:=by rfl)(u9:xP x:=by decide):cS X (.Assign [.Name y px] (.Call (.Name x p0) [] [] pk) pos) D σ H:=λpins s I=>by
 exact nP (i:=i) hN hi hx (LN M F hr hg hm hb .nil yQ u9) hs hf pins s σ H D I (λp dx h1 h2 h3=>q p dx _ h1 h2 h3)
theorem Sl(f:fP X.K B0 B H0 H σ δ)(hr:eB k X.A)(i:Nat)(hi:δ[i]?=some (.ref p))(ins:H p=some (.ins C dx fs))(cl:DW X.K C)(na:kf X.K C fl)(lk:fs.lookup fl=some (.ref a))(hd:H a=some (.dK kvs))(hk:VE X ek δ (.str y))(hv:VE X ev δ d)(hl:kvs.length<sizeLine)
  (q:∀v Ha Hb,c6 H0 H Ha Hb->Rep X.K Ha v d->D.nx σ (upd Hb a (.dK (putK kvs (aU y) v))))
  (hN:rA X i x:=by ac_rfl)
  (hb:yc X (.Name x px) fl:=by rfl)(hs:A1 X pos ev (.Subscript (.Attribute (.Name x px) fl po) ek ps):=by rfl):
  cS X (.Assign [.Subscript (.Attribute (.Name x px) fl po) ek ps] ev pos) D σ H:=λpins s I=>by
 refine sJ (DI hr) (yJ (uU hN) hb) cL cL hs pins s σ H D I ?_
 refine hv B0 B σ H0 H _ f λv H1 dD g1 r1=>?_
 refine#[_,f.slot i _ hi,p,C,dx,fs,_,rfl,g1.big _ _ ins,cl,na,lk,?_]
 refine hk B0 B σ H1 dD _ (f.grow g1) λu H2 fX g2 r2=>?_
 cases r2;exact#[a,_,rfl,xS.k (k:=aU y) (g2.big _ _ (g1.big _ _ hd)) hl,q v H2 fX (g1.trans g2) (r1.mono g2.fB)]
theorem U5(f:fP X.K B0 B H0 H σ δ)(hr:eB k X.A)(i:Nat){kvs:List (List Key×V)}{e1 e2:bK}{z1 z2:Str}{x1}(hi:δ[i]?=some (.ref p))(ins:H p=some (.ins C dx fs))(cl:DW X.K C)(na:kf X.K C fl)(lk:fs.lookup fl=some (.ref a))(hd:H a=some (.dT kvs))(Wf:VE X e1 δ (.str z1))(hk2:VE X e2 δ (.str z2))(hv:VE X ev δ d)(hl:kvs.length<sizeLine)
  (q:∀v t Ha Hb,c6 H0 H Ha Hb->Hb t=none->Rep X.K Ha v d->D.nx σ (upd (upd Hb t (.tup [.str z1,.str z2])) a (.dT (putK kvs (tG (z1,z2)) v))))
  (hN:rA X i x:=by ac_rfl)
  (hb:yc X (.Name x px) fl:=by rfl)(hs:A1 X pos ev (.Subscript (.Attribute (.Name x px) fl po) (.Tuple [e1,e2] x1 pt) ps):=by rfl)
  (OO:kZ X e1 [e2]:=by rfl)(qO:kZ X e2 []:=by rfl):
  cS X (.Assign [.Subscript (.Attribute (.Name x px) fl po) (.Tuple [e1,e2] x1 pt) ps] ev pos) D σ H:=λpins s I=>by
 refine sJ (DI hr) (yJ (uU hN) hb) (uq (cN cL (cN cL eG qO) OO)) cL hs pins s σ H D I ?_
 refine hv B0 B σ H0 H _ f λv H1 dD g1 r1=>?_
 refine#[_,f.slot i _ hi,p,C,dx,fs,_,rfl,g1.big _ _ ins,cl,na,lk,?_]
 refine Wf B0 B σ H1 dD _ (f.grow g1) λu H2 fX g2 r2=>?_
 cases r2;refine hk2 B0 B σ H2 fX _ ((f.grow g1).grow g2) λu H3 uv g3 r3=>?_
 cases r3;have gg:=(g1.trans g2).trans g3;refine#[by show 2<=sizeLine;rw[dN];decide,λt ht=>?_]
 exact#[a,_,rfl,xS.t (k:=tG (z1,z2)) (by rw[aL (bC (gg.big _ _ hd) ht)];exact gg.big _ _ hd) aZ hl,q v t H3 uv gg ht ((r1.mono g2.fB).mono g3.fB)]
theorem Eo(f:fP X.K B0 B H0 H σ δ)(i:Nat)(hi:δ[i]?=some (.ref p))(ins:H p=some (.ins C dx fs))(cl:DW X.K C)(na:kf X.K C fl)(lk:fs.lookup fl=some (.ref a))(hd:H a=some (.lst xs))(hv:VE X e δ d)(hl:xs.length<sizeLine)
  (q:∀v Ha Hb,c6 H0 H Ha Hb->Rep X.K Ha v d->D.nx σ (upd Hb a (.lst (xs ++ [v]))))
  (hN:rA X i x:=by ac_rfl)
  (hb:yc X (.Name x px) fl:=by rfl)(gj:yc X (.Attribute (.Name x px) fl po) "append":=by rfl)
  (hs:kZ X e []:=by rfl)
  (k_:FJ X pc [e]:=by rfl)
  (hline:(pa.endLine==pc.line)=true:=by rfl)(fJ:tF X pc []:=by rfl)(qg:swapsWith (.Call (.Attribute (.Attribute (.Name x px) fl po) "append" pa) [e] [] pc) none pos.line X.env=pure false:=by rfl):
  cS X (.Expr (.Call (.Attribute (.Attribute (.Name x px) fl po) "append" pa) [e] [] pc) pos) D σ H:=λpins s I=>by
 refine ja (om cB eN eO jT (yJ (uU hN) hb) (cN cL eG hs) gj k_ hline hs fJ) qg pins s σ H D I ?_
 refine#[_,f.slot i _ hi,p,C,dx,fs,_,rfl,ins,cl,na,lk,.inl #[rfl,_,jy.of hd],?_]
 exact hv B0 B σ H0 H _ f λv H1 dD g1 r1=>(#[a,xs,v,rfl,rfl,g1.big _ _ hd,hl,q v H1 dD g1 r1])
theorem MK(f:fP X.K B0 B H0 H σ δ)(i:Nat){pl Wp Wq:Pos}(hi:δ[i]?=some (.ref p))(ins:H p=some (.ins C dx fs))(cl:DW X.K C)(na:kf X.K C fl)(lk:fs.lookup fl=some (.ref a))(hd:H a=some (.dK kvs))(hk:VE X ek δ (.str y))(hv:VE X e δ d)(hl:kvs.length<sizeLine)(La:noOwn δ=true)(ha0:H0 a=none)
  (hc:∀v,gQ kvs (aU y)=some v->∃c xs,v=.ref c/\H c=some (.lst xs)/\xs.length<sizeLine)
  (q1:∀c xs v t Ha Hb,gQ kvs (aU y)=some (.ref c)->H c=some (.lst xs)->H t=none->c6 H0 H Ha Hb->Ha t=none->Rep X.K Ha v d->D.nx σ (upd Hb c (.lst (xs ++ [v]))))
  (q2:∀v c Ha Hb,gQ kvs (aU y)=none->H c=none->cU H0 Ha->cU Ha Hb->(∀b,Ha b≠none->H0 b≠none\/H b=none)->(∀b o,H b=some o->b≠a->Hb b=some o)->Hb a=some (.dK (putK kvs (aU y) (.ref c)))->Hb c=some (.lst [])->Ha c=none->Ha a=none->Rep X.K Ha v d->D.nx σ (upd Hb c (.lst [v])))
  (hN:rA X i x:=by ac_rfl)
  (hb:yc X (.Name x px) fl:=by rfl)(m:M2 X (.Attribute (.Name x px) fl po) "setdefault" Wp ek (.List [] pl) Wq:=by exact#[rfl,rfl,rfl,rfl])
  (gj:attributeBase (.Call (.Attribute (.Attribute (.Name x px) fl po) "setdefault" Wp) [ek,.List [] pl] [] Wq) "append" X.env (eval (.Call (.Attribute (.Attribute (.Name x px) fl po) "setdefault" Wp) [ek,.List [] pl] [] Wq) X.env)=eval (.Call (.Attribute (.Attribute (.Name x px) fl po) "setdefault" Wp) [ek,.List [] pl] [] Wq) X.env:=by rfl)
  (hs:kZ X e []:=by rfl)
  (k_:FJ X pc [e]:=by rfl)
  (hline:(pa.endLine==pc.line)=true:=by rfl)(fJ:tF X pc []:=by rfl)(qg:swapsWith (.Call (.Attribute (.Call (.Attribute (.Attribute (.Name x px) fl po) "setdefault" Wp) [ek,.List [] pl] [] Wq) "append" pa) [e] [] pc) none pos.line X.env=pure false:=by rfl):
  cS X (.Expr (.Call (.Attribute (.Call (.Attribute (.Attribute (.Name x px) fl po) "setdefault" Wp) [ek,.List [] pl] [] Wq) "append" pa) [e] [] pc) pos) D σ H:=λpins s I=>by
 refine ja (om cB eN eO jT (Qa (yJ (uU hN) hb) cL (wa eG) m) (cN cL eG hs) gj k_ hline hs fJ) qg pins s σ H D I ?_
 refine#[_,f.slot i _ hi,p,C,dx,fs,_,rfl,ins,cl,na,lk,a,rfl,.inl #[kvs,.inl hd],?_]
 refine hk B0 B σ H0 H _ f λu H1 dD g1 r1=>?_
 cases r1;refine#[by exact bj _,λt ht=>?_]
 have hta:=bC (g1.big _ _ hd) ht;have gl:c6 H0 H H1 (upd dD t (.lst [])):=g1.trans (.loose g1.sub ht);refine#[kvs,aU y,by rw[aL hta];exact g1.big _ _ hd,rfl,hl,λv Ep=>?_,λhn=>?_]
 ·obtain⟨c,xs,rfl,Gk,U6⟩:=hc v Ep
  refine#[.inl #[rfl,_,jy.of (by rw[aL (bC (g1.big _ _ Gk) ht)];exact g1.big _ _ Gk)],?_]
  refine hv B0 B σ H1 _ _ (f.grow gl) λv H2 fX g2 r2=>?_
  have gg:=gl.trans g2;exact#[c,xs,v,rfl,rfl,gg.big _ _ Gk,U6,q1 c xs v t H2 fX Ep Gk (g1.big.free ht) gg (g2.still (g1.sub.free ht) aZ) r2]
 ·have hca:=bJ hta
  refine#[.inl #[rfl,_,jy.of ((aL hca).trans aZ)],?_]
  have h1a:=g1.still ha0 hd;have h1t:=g1.sub.free ht
  generalize hM:upd _ a _=Hm
  have m0:∀b o,H b=some o->b≠a->Hm b=some o:=λb o e hb=>by
   rw[<-hM,aL hb,aL (bC (g1.big _ _ e) ht)];exact g1.big _ _ e
  have m1:Hm a=some (.dK (putK kvs (aU y) (.ref t))):=by rw[<-hM];exact aZ
  have m2:Hm t=some (.lst []):=by rw[<-hM,aL hca];exact aZ
  have sm:cU H1 Hm:=λb u e=>by
   rw[<-hM,aL (bC e h1a),aL (bC e h1t)];exact g1.sub b u e
  have fm:fP X.K H1 Hm H1 Hm σ δ:=by
   have f1:=f.grow g1;refine#[.refl sm,f1.len,λj sl e=>?_,f1.apart]
   have qq:=f1.slot j sl e;cases sl with
   |un=>trivial
   |ref _=>exact qq
   |val d=>exact qq
   |own ds=>exact qQ7 e (gE La j ds)
  refine hv H1 Hm σ H1 Hm _ fm λv H2 fX g2 r2=>?_
  refine#[t,[],v,rfl,rfl,g2.big _ _ m2,by rw[dN];decide,?_]
  refine q2 v t H2 fX hn (g1.big.free ht) (g1.fB.trans g2.fB) g2.sub (λb z=>?_) (λb o e hb=>g2.big _ _ (m0 b o e hb)) (g2.big _ _ m1) (g2.big _ _ m2) (g2.still h1t m2) (g2.still h1a m1) r2
  rcases g2.new b z with z|z
  ·exact g1.new b z
  ·refine .inr ?_
   cases e:H b with
   |none=>rfl
   |some o=>
    exfalso
    by_cases hb:b=a
    ·subst hb;rw[m1]at z;cases z
    ·rw[m0 b o e hb]at z;cases z
end
section
variable{X:Cx}{a b e:bK}{δ:List Slot}{d:aj}{ds:List aj}{pos:Pos}{k:Nat}
theorem IU{k:Key}{v:aF}(h:(e8 P w).is k v=true):RelV (kV k) v:=by
 rcases gM h with⟨i,t,rfl,rfl⟩|⟨x,t,rfl,rfl⟩
 ·exact#[t,rfl]
 ·exact#[t,rfl]
theorem zj(hc:X.calm=true):jK X (.type "list") (λxs H Q=>∃p kvs,xs=[.ref p]/\H p=some (.dK kvs)/\∀l,H l=none->Q (.ref l) (upd H l (.lst (kvs.map λq=>kV q.1)))):=by
 intro pins s σ H xs us Q I r h;obtain⟨p,kvs,rfl,hp,q⟩:=h;obtain⟨u,rfl,rx⟩:=vals1 r;cases rx;obtain⟨z,hd,vs,rel,dd⟩:=D3 I.hok hp;obtain⟨ep,hat⟩:=dd.dictAt;have hlen:=rel.length;refine PySem.W.kdl_call (PySem.W.kdl_dict hd) (I.ok.hd hc) hat (by rw[<-hlen];exact z) λh' tk zbX c' hk hD Ym=>?_
 have go:∀(kvs:List (Key×V))(vs:List (Key×aF))(l:List aF),KV kvs vs->l.length=vs.length->(∀(j:Nat)v,l[j]?=some v->∃k x,vs[j]?=some (k,x)/\(e8 X.prog X.w).is k v=true)->dU (kvs.map λq=>kV q.1) l:=by
  intro kvs
  induction kvs with
  |nil=>
   intro vs l r hl _;cases r;cases l with
   |nil=>exact .nil
   |cons _ _=>cases hl
  |cons q kvs ih=>
   intro vs l r hl hx;cases r with
   |cons h1 h2=>
    cases l with
    |nil=>cases hl
    |cons v l=>
     obtain⟨k,x,e1,e2⟩:=hx 0 v rfl;cases e1;refine .cons ?_ (ih _ l h2 ↑hl λj v hj=>by simpa using hx (j+1) v ↑hj)
     have:q.1=k:=h1.1;show RelV (kV q.1) v;rw[this];exact IU e2
 have rv:=go kvs vs zbX.toList rel (di.trans Ym.1) λj v hj=>Ym.2 j v (rg.symm.trans hj)
 exact#[.ref _,_,I.laid hk ∅ (show iT X.prog X.w _ h' _ (.lst _) from#[by rw[ae];exact z,_,c',rv,by simpa using hD]),rfl,q _ (I.hok.fresh ∅)]
theorem Qb{kvs:List (Str×aj)}:Iu K (λxs H Q=>∃p kvs,xs=[.ref p]/\H p=some (.dK kvs)/\∀l,H l=none->Q (.ref l) (upd H l (.lst (kvs.map λq=>kV q.1)))) [lV kvs] (kvs.map λq=>.str q.1):=λvs H0 H Q s r q=>by
 obtain⟨v,rfl,r1⟩:=r.one;obtain⟨a,ws,rfl,ha,hk,_⟩:=r1.rT;refine#[a,ws,rfl,s _ _ ha,λl hl=>q l _ H0 _ (.loose s hl) hl (s.free hl) aZ ?_]
 have e:(ws.map λq=>kV q.1)=(ws.map (·.1)).map kV:=by rw[aB];rfl
 rw[e,hk,aB];have go:∀l:List (Str×aj),cz K H0 (l.map (kV∘λp=>(aU p.1))) (l.map λq=>.str q.1):=by
  intro l
  induction l with
  |nil=>exact .nil
  |cons p l ih=>exact .cons (.str p.1) ih
 exact go kvs
theorem Qc{a b c e:bK}(h1:VT X a δ false)(h2:VT X b δ false)(h3:VT X c δ false)(h4:VT X e δ false):VT X (.BoolOp .Or [a,b,c,e] pos) δ false:=
 .of (pw_or mS (pw_or mS (pw_or mS (pw_or1 mS)))).pt λB0 B σ H0 H Q f q=>h1 B0 B σ H0 H _ f λH1 dD g=>by
  refine h2 B0 B σ H1 dD _ (f.grow g) λH2 fX g2=>?_
  refine h3 B0 B σ H2 fX _ ((f.grow g).grow g2) λH3 uv g3=>?_
  exact h4 B0 B σ H3 uv _ (((f.grow g).grow g2).grow g3) λH4 UM g4=>q H4 UM (((g.trans g2).trans g3).trans g4)
end
end L2
namespace PySem
variable{tk:Tok}
theorem CJ:typeLookup (.type "list") "keys"=pure none:=by rw[typeLookup_type,builtinLookup_eq_fast];kernel_rfl
theorem xT:typeLookup (.type "list") "__getattr__"=pure none:=by rw[typeLookup_type,builtinLookup_eq_fast];kernel_rfl
section
variable{prog:bA}{w:cn}{A:dO}{E:aF->aS->Prop}{h:cX}{g:Array tf}{d:Drawn}{t:Nat}{os:OsState}{a:aH}{items:Array aF}{n:Nat}{sl}
theorem xU{Q:Fin->aS->Prop}(hx:h.get? a=some { cls:=.type "list",dict:=none,data:=.seq items n,slots:=sl })(hh:A.handled=none)
  (hq:∀h' Bo e,rj h h' e (.ref a) "keys"->E (.ref e) #[h',g,d,Bo,os]):
  wpAny (model prog w) A (wX.«object.__getattribute__» #[[.ref a,.str "keys" tk],[]]) Q E #[h,g,d,t,os]:=by
 have hT:(#[h,g,d,t,os]:aS).TypeIs (.ref a) "list":=#[_,hx,rfl];have f4:=CJ
 repeat (any_goals (first|assumption|with_reducible refine wpAny_raiseAttrError hh (λh' Bo e k=>hq h' Bo e k) ∎|wp_step))
theorem zk{R:vV->aS->Prop}(hx:h.get? a=some { cls:=.type "list",dict:=none,data:=.seq items n,slots:=sl })(hh:A.handled=none)
  (hq:∀h' Bo e,rj h h' e (.ref a) "keys"->R (.error (.ref e)) #[h',g,d,Bo,os]):
  codeAny (model prog w) A (.call (.builtin "list.__getattribute__") #[[.ref a,.str "keys" tk],[]]) R #[h,g,d,t,os]:=
 codeAny_call_builtin k7.plain F.entry_list_ga (k7.check _ _ _ _ _ _ _ _ (show(#[h,g,d,t,os]:aS).TypeIs _ "list" from#[_,hx,rfl]) (F.args_list_getattribute_2 _ _) (xU hx hh hq))
theorem CK{Q:aF->aS->Prop}(hx:h.get? a=some { cls:=.type "list",dict:=none,data:=.seq items n,slots:=sl })(hh:A.handled=none)
  (hq:∀h' Bo e,rj h h' e (.ref a) "keys"->E (.ref e) #[h',g,d,Bo,os]):
  wpAny (model prog w) A (getAttrBy (.ref a) (.str "keys" tk) false) Q E #[h,g,d,t,os]:=by
 have hT:(#[h,g,d,t,os]:aS).TypeIs (.ref a) "list":=#[_,hx,rfl];have f2:=k7.lookup;have f3:=k7.bind (.ref a);have f4:=xT;have f5:=sub_AttributeError
 repeat (any_goals (first|assumption|wp_step))
 refine zk hx hh (λh' Bo e k=>?_)
 have hTe:(#[h',g,d,Bo,os]:aS).TypeIs (.ref e) "AttributeError":=by
  obtain⟨_,_,he⟩:=k.there;exact#[_,he,rfl]
 repeat (any_goals (first|assumption|wp_step))
 exact hq _ _ _ k
theorem zl{Q:Option aF->aS->Prop}(hx:h.get? a=some { cls:=.type "list",dict:=none,data:=.seq items n,slots:=sl })(hh:A.handled=none)
  (hq:∀h' Bo e,rj h h' e (.ref a) "keys"->Q none #[h',g,d,Bo,os]):
  wpAny (model prog w) A (getAttr? (.ref a) "keys") Q E #[h,g,d,t,os]:=by
 refine aD (wpAny_mkText (aD (wpAny_attempt (CK hx hh (λh' Bo e k=>?_)))))
 have hTe:(#[h',g,d,Bo,os]:aS).TypeIs (.ref e) "AttributeError":=by
  obtain⟨_,_,he⟩:=k.there;exact#[_,he,rfl]
 have f5:=sub_AttributeError;have hQ:=hq h' Bo e k
 repeat (any_goals (first|assumption|wp_step))
end
end PySem
namespace PySem.F
theorem lq:entryFor table "dict.update.loop"=some wX.«dict.update.loop»:=entryFor_of_tree (by kernel_rfl)
theorem lr:plainId "dict.update.loop"=true:=∎
end PySem.F
namespace L2
open PySem PySem.Spec PyProof.Rows
variable{e:bK}{l:List ((Str×Str)×aj)}{δ:List Slot}{P:bA}{K:aq}{w:cn}
section
variable{prog:bA}{w:cn}{A:dO}{R:vV->aS->Prop}{I:aH}{fp wr:List aH}{G:Array tf->Array tf->Prop}{n:Nat}{P:Nat->aF->Prop}{St:Nat->aS->Prop}
theorem Kg(W:WalksS prog w A.in1 I fp wr G n P St)(S:aH)(Uo:S∉fp)(T:Nat->cX->Prop)(keep:∀i h h',T i h->(∀b o,b∉wr->h.get? b=some o->h'.get? b=some o)->T i h')
  (add:∀i v (s:aS),i<n->P i v->T i s.heap->∃a x y,v=.ref a/\s.heap.IsTuple a (bZ [x,y])/\∀(Q:Unit->aS->Prop)(E:aF->aS->Prop),(∀h' tk,s.toks<=tk->iz S s.heap h'->T (i+1) h'->Q () { s with heap:=h',toks:=tk })->wpAny (model prog w) A.in1 (dictSet S x y) Q E s):
  ∀(k i:Nat)(j:Int)(u:Tok)(s:aS),n-i=k->i<=n->St i s->T i s.heap->(∀s',Moved (S::wr) G s s'->T n s'.heap->R (.ok (.ret .none)) s')->
   codeAny (model prog w) A (.builtin "dict.update.loop" #[[.ref S,.ref I,.int j u,.none],[]]) R s:=by
 have F7:∀b∈wr,b∈S::wr:=λb hb=>aN _ hb
 intro k
 induction k with
 |zero=>
  intro i j u s hk hi Lx hS hR;have D7:i=n:=∅
  subst D7;refine lM F.lq ?_
  refine aD (W.done s _ _ Lx λs' hm=>?_)
  exact aD (bx (bx (hR s' (hm.mono F7) (keep _ _ _ hS λb o hb e=>hm.heap b o hb e))))
 |succ k ih=>
  intro i j u s hk hi Lx hS hR;have m_:i<n:=∅
  refine lM F.lq ?_
  refine aD (W.item i s _ _ m_ Lx λv s' hP Up hm=>?_)
  obtain⟨a,x,y,rfl,⟨o,ho,hc,m,hd⟩,q⟩:=add i v s' m_ hP (keep _ _ _ hS λb o hb e=>hm.heap b o hb e);refine aD (q_ ?_)
  refine aD (wpAny_tryCatch ?_)
  refine aD (wpAny_typeOf #[_,ho,hc] ?_)
  refine aD (iq ho hd ?_)
  refine bx ?_
  refine q_ (q _ _ λh' tk V' Ur hT=>?_)
  refine bx #[x6 F.lr _,ih (i+1) _ _ _ ∅ m_ (W.frame _ s' _ _ Up V' λb hb o e=>?_) hT λRT Us Ut=>?_]
  ·rwa[Ur.2 b (λh:b=S=>Uo (by rw[<-h];exact hb))]
  ·refine hR RT (Moved.trans W.gtrans ((hm.mono F7).then_heap V' λb o hb e=>?_) Us) Ut
   rwa[Ur.2 b (λh:b=S=>hb (by rw[h];exact aM))]
end
section
variable{prog:bA}{w:cn}{A:dO}{E:aF->aS->Prop}{s:aS}
theorem tU{l:aH}{items:Array aF}{Q:aF->aS->Prop}(hh:A.handled=none)(hx:PlainL s.heap l items)(T:Nat->cX->Prop)
  (t0:∀h',h'.get? s.heap.objs.size=some { cls:=.type "dict",data:=.dict #[] }->(∀b o,s.heap.get? b=some o->h'.get? b=some o)->T 0 h')
  (keep:∀i h h' c,s.heap.objs.size<c->T i h->(∀b o,b≠c->h.get? b=some o->h'.get? b=some o)->T i h')
  (add:∀i v (s':aS),i<items.size->items[i]?=some v->T i s'.heap->∃a x y,v=.ref a/\s'.heap.IsTuple a (bZ [x,y])/\∀(Q:Unit->aS->Prop)(E:aF->aS->Prop),(∀h' tk,s'.toks<=tk->iz s.heap.objs.size s'.heap h'->T (i+1) h'->Q () { s' with heap:=h',toks:=tk })->wpAny (model prog w) A.in1.in1 (dictSet s.heap.objs.size x y) Q E s')
  (h:∀(h':cX)(tk:Nat),T items.size h'->(∀b o,b<s.heap.objs.size->s.heap.get? b=some o->h'.get? b=some o)->Q (.ref s.heap.objs.size) { s with heap:=h',toks:=tk }):
  wpAny (model prog w) A (call (.type "dict") [.ref l]) Q E s:=by
 refine callType_codes (Q₁:=λobj s₁=>obj=.ref s.heap.objs.size/\s₁={ s with heap:=s.heap.push { cls:=.type "dict",data:=.dict #[] } }) F.kt_called_dict (F.kt_typeCall_dict_1 _) F.entry_dict_init (kt_code_dict_new _ #[rfl,rfl]) ?_
 rintro obj s₁ ⟨rfl,rfl⟩
 obtain⟨⟨zbO,Sg,Ya,MC⟩,m,ho,hc,Sn,hd⟩:=hx;subst hc Sn hd;have hS:(s.heap.push { cls:=.type "dict",data:=.dict #[] }).get? s.heap.objs.size=some { cls:=.type "dict",data:=.dict #[] }:=bE _ rfl
 have hT:aS.TypeIs { s with heap:=s.heap.push { cls:=.type "dict",data:=.dict #[] } } (.ref s.heap.objs.size) "dict":=#[_,hS,rfl]
 have Aw:=aI (o:={ cls:=.type "dict",data:=.dict #[] }) ho
 refine#[hT,F.args_dict_init_2 _ _,?_]
 refine aD ?_
 refine aD (wpAny_notOrdered_dict hT ?_)
 refine bx ?_
 show wpAny _ _ (wX.Dict.updateFrom "dict.__init__" s.heap.objs.size _ [] .none) _ _ _;refine aD (wpAny_typeOf #[_,Aw,rfl] ?_)
 refine aD (zl Aw (by simp[hh]) λh1 tk1 e ne=>?_)
 refine aD (uf ?_)
 have Lf:h1.IsList l items:=#[_,ne.keeps _ _ Aw,rfl,m,rfl];refine aD (mN Lf ?_)
 have Wm:=ne.keeps _ _ hS;have hSl:=a8 Wm;have Yb:=a8 ho;have U0:=a9 (rh Yb hSl);have Uo:s.heap.objs.size∉[h1.objs.size,l]:=by
  simp;exact#[a9 hSl,gu Yb]
 refine bx #[x6 F.lr _,?_]
 refine Kg ((Walks.list (by simp[hh]) h1.objs.size l U0 items).toS) s.heap.objs.size Uo T (λi h h' t k=>keep i h h' h1.objs.size hSl t λb o hb e=>k b o (by rwa [aQ]) e) (λi v s' hi hv t=>add i v s' hi hv t) (items.size-0) 0 _ _ _ ∅ ∅
  #[#[_,bE _ rfl,rfl,rfl],(Lf.push _)] ?hS0 ?hR
 case hS0=>
  exact t0 _ (aI _ Wm) λb o e=>aI _ (ne.keeps _ _ (aI _ e))
 case hR=>
  intro s' hm Uq;obtain⟨h',g',d',Bo,Wb⟩:=s';have eg:=hm.gens;have ed:=hm.drawn;have eo:=hm.os;subst eg;subst ed;subst eo;refine#[rfl,h h' Bo Uq λb o hb e=>?_]
  have hb1:=a9 hb;have hb2:=a9 (rh hb hSl);exact hm.heap b o (by simp;exact#[hb1,hb2]) (aI _ (ne.keeps _ _ (aI _ e)))
end
def putAll(kvs:List (List Key×V))(l:List (List Key×V)):List (List Key×V):=l.foldl (λkvs q=>putK kvs q.1 q.2) kvs
theorem ML(kvs:List (List Key×V))(k:List Key)(v:V):(putK kvs k v).length<=kvs.length+1:=by
 unfold putK
 split
 ·simp
 ·simp
theorem uy:∀(l kvs:List (List Key×V)),(putAll kvs l).length<=kvs.length+l.length
 | [],kvs=>aT _
 |q::l,kvs=>by
  have h1:=uy l (putK kvs q.1 q.2);have h2:=ML kvs q.1 q.2
  show(putAll (putK kvs q.1 q.2) l).length<=kvs.length+(l.length+1)
  omega
theorem putAll_snoc(kvs l:List (List Key×V))(q:List Key×V):putAll kvs (l ++ [q])=putK (putAll kvs l) q.1 q.2:=by
 unfold putAll;rw[eS];rfl
theorem Bu{h h':cX}{k:List Key}{a:aH}(x:(tupleKind (e8 P w)).is h k a)(m:∀b o,h.get? b=some o->h'.get? b=some o):(tupleKind (e8 P w)).is h' k a:=by
 obtain⟨o,its,n,h1,h2,h3,h4⟩:=x;exact#[o,its,n,m _ _ h1,h2,h3,h4]
theorem KT.are{H:Hp}{h0 h:cX}(ok:uj P w H h0)(m:∀b o,h0.get? b=some o->h.get? b=some o):∀{l:List (List Key×V)}{xs:List (List Key×aH×aF)},KT H l xs->∀x∈xs,(tupleKind (e8 P w)).is h x.1 x.2.1:=by
 intro l xs q
 induction q with
 |nil=>intro x hx;exact nomatch hx
 | @cons p q ps qs hq t ih=>
  intro x hx;rcases ax.mp hx with e|hx
  ·subst e
   exact Bu (rF ok (by rw[<-hq.1];exact hq.2.1)) m
  ·exact ih x hx
section
variable{X:Cx}
def U7:List V->Hp->VK->Prop:=λxs H Q=>∃(p:aH)(qs:List (aH×aH×List Key×V)),xs=[.ref p]/\H p=some (.lst (qs.map λq=>.ref q.1))/\
 (∀q∈qs,H q.1=some (.tup [.ref q.2.1,q.2.2.2])/\H q.2.1=some (.tup (q.2.2.1.map kV)))/\∀l,H l=none->Q (.ref l) (upd H l (.dT (putAll [] (qs.map (·.2.2)))))
theorem wB(hc:X.calm=true)(hu:X.A.units+2<cLine):jK X (.type "dict") U7:=by
 intro pins s σ H xs us Q I r h;obtain⟨p,qs,rfl,hp,hqs,q⟩:=h;obtain⟨u,rfl,rx⟩:=vals1 r;cases rx;obtain⟨its,rv,pl,hz⟩:=I.list (jy.of hp);have Yc:=rv.length;simp only[ae]at Yc hz;have hsz:its.toArray.size=qs.length:=by simp;omega
 refine tU (I.ok.hd hc) pl (λi h=>(∀b o,s.heap.get? b=some o->h.get? b=some o)/\∃xs o es ep,KT H (putAll [] ((qs.take i).map (·.2.2))) xs/\h.get? s.heap.objs.size=some o/\o.ExactDict/\o.data=.dict es ep/\es.toList=xs.map (entryOfKey (tupleKind (e8 X.prog X.w)))/\(xs.map (·.1)).Nodup)
  (λh' e k=>?_) (λi h h' c hc #[k1,xs,o,es,ep,kt,ho,r2] k=>?_) (λi v s' hi hv #[k1,xs,o,es,ep,kt,ho,he,hd,hes,hn]=>?_) (λh' tk #[k1,xs,o,es,ep,kt,ho,he,hd,hes,hn] _=>?_)
 ·exact#[k,[],_,#[],0,.nil,e,#[rfl,rfl,rfl],rfl,rfl,gx]
 ·exact#[λb o e=>k b o (a9 (rh (a8 e) hc)) (k1 b o e),xs,o,es,ep,kt,k _ _ ∅ ho,r2]
 ·rw[hsz]at hi
  have LD:its[i]?=some v:=by simpa using hv
  have Qd:=av hi
  generalize qs[i]=q0 at Qd
  obtain⟨u0,Yn,ru0⟩:=rv.get (by rw[ay,Qd];rfl)
  rw[LD]at Yn;cases Yn;cases ru0;obtain⟨J_,DH⟩:=hqs q0 (aK Qd);obtain⟨_,it2,Sf,o2,RV,RW,n2,hd2⟩:=(I.hok _ _ J_)
  obtain⟨u1,u2,rfl,r1,r2⟩:∃u1 u2,it2=[u1,u2]/\RelV _ u1/\RelV q0.2.2.2 u2:=by
   cases Sf with|cons a t=>cases t with|cons b t2=>cases t2;exact#[_,_,rfl,a,b]
  cases r1;refine#[q0.1,_,u2,rfl,#[o2,k1 _ _ RV,RW,n2,hd2],λQ' E' q'=>?_]
  have Yd:qs.take (i+1)=qs.take i ++ [q0]:=by rw[cv,Qd];rfl
  have U6:xs.length<=sizeLine:=by
   have e1:=kt.length;have e2:=uy ((qs.take i).map (·.2.2)) []
   simp only[df,ae,bh,lR]at e2;omega
  refine wpAny_dictSet_heap hu (Bu (rF I.hok DH) k1) #[o,es,ep,ho,he,hd,hes,KT.are I.hok k1 kt,hn] (λh' dd sb=>?_) U6
  obtain⟨o',TH,TJ,Aw,U8,OZ,zb2,_,Lp⟩:=dd;refine q' h' _ ∅ sb #[λb o e=>?_,storedH xs q0.2.2.1 q0.2.1 u2,o',TH,TJ,?_,Aw,U8,OZ,zb2,Lp]
  ·rw[sb.2 b (a9 (a8 e))]
   exact k1 b o e
  ·rw[Yd,aP,aA,jo,putAll_snoc]
   exact kt.put q0.2.2.1 DH r2
 ·rw[hsz,cy]at kt
  have hlen:=uy (qs.map (·.2.2)) []
  refine#[.ref s.heap.objs.size,_,I.laid (o:=.dT _) k1 ∅ #[?_,?_,xs,?_,o,es,ep,ho,he,hd,hes,hn],rfl,q _ (I.hok.fresh ∅)]
  ·simp[df,ae,lR]at hlen
   omega
  ·exact beq_eq_false_iff_ne.mpr (bJ (a9 I.big))
  ·exact kt.keeps λb ys e=>by rw[aL (bC e (I.hok.fresh ∅))];exact e
end
def VR(X:Cx)(e:bK)(δ:List Slot)(R:Hp->V->Prop):Prop:=∀B0 B σ H0 H Q,fP X.K B0 B H0 H σ δ->(∀v cW H',c6 H0 H cW H'->R cW v->Q v H')->cE X e σ H Q
def VLR{ε:Type}(X:Cx)(e:bK)(δ:List Slot)(Er:Hp->V->ε->Prop)(rs:List ε):Prop:=∀B0 B σ H0 H Q,fP X.K B0 B H0 H σ δ->
 (∀p xs cW H',c6 H0 H cW H'->H p=none->cW p=none->H' p=some (.lst xs)->nH (Er cW) xs rs->Q (.ref p) H')->cE X e σ H Q
theorem VR.of{X:Cx}{R:Hp->V->Prop}{t:TE}(h:PE X e t)(q:∀B0 B σ H0 H Q,fP X.K B0 B H0 H σ δ->(∀v cW H',c6 H0 H cW H'->R cW v->Q v H')->t σ H Q):VR X e δ R:=
 λB0 B σ H0 H Q f k pins s I=>h pins s σ H Q I (q B0 B σ H0 H Q f k)
theorem VLR.of{ε:Type}{X:Cx}{Er:Hp->V->ε->Prop}{rs:List ε}{t:TE}(h:PE X e t)(q:∀B0 B σ H0 H Q,fP X.K B0 B H0 H σ δ->
  (∀p xs cW H',c6 H0 H cW H'->H p=none->cW p=none->H' p=some (.lst xs)->nH (Er cW) xs rs->Q (.ref p) H')->t σ H Q):VLR X e δ Er rs:=
 λB0 B σ H0 H Q f k pins s I=>h pins s σ H Q I (q B0 B σ H0 H Q f k)
theorem MN{α β:Type}{F:α->β->Prop}:∀{l:List α}{m:List β}{l':List α}{m':List β},nH F l m->nH F l' m'->nH F (l++l') (m++m')
 |_,_,_,_,.nil,h=>h
 |_,_,_,_,.cons a t,h=>.cons a (MN t h)
section
variable{ε:Type}{X:Cx}{sc:kH}{own N:List Str}{cap:List Nat}{cl:List (Str×aH)}{tg elt iter:bK}{ifs:List bK}{δ:List Slot}{ds:List aj}{pos:Pos}{tgt:Fx}{Er:Hp->V->ε->Prop}
def MP(X:Cx)(sc:kH)(own:List Str)(cap:List Nat)(N:List Str)(cl:List (Str×aH))(tgt:Fx)(elt:bK)(ifs:List bK)(δ:List Slot)(Er:Hp->V->ε->Prop)(F:aj->Option ε)(d:aj):Prop:=
 ∃δ',vi tgt d (mF own cap δ)=some δ'/\(∀f s3 H3,Fy (fK X sc N cl f s3 H3) ifs δ' (F d).isSome)/\∀r,F d=some r->∀f s3 H3,VR (fK X sc N cl f s3 H3) elt δ' (λH v=>Er H v r)
theorem CL{F:aj->Option ε}(mono:∀H H' v r,cU H H'->Er H v r->Er H' v r)(ht:tT own.length tgt=true)(hz:ds.length<=sizeLine)(step:∀d∈ds,MP X sc own cap N cl tgt elt ifs δ Er F d){J:It}{B0 B H0 H:Hp}{σ:St}{Q:VK}(f:fP X.K B0 B H0 H σ δ)(it:Z6 X.K J H0 ds)
  (q:∀p xs cW H',c6 H0 H cW H'->H p=none->cW p=none->H' p=some (.lst xs)->nH (Er cW) xs (ds.filterMap F)->Q (.ref p) H'):
  pE J (Ge X.K tgt) (R5 X sc N cl ifs) (teC X sc N cl elt) (mR own cap σ) H Q:=by
 intro D hD;have R6:=f.ent.big.free hD;refine#[λi m ys σ' H'=>i<=ds.length/\m=ds.length-i/\ys.length<=i/\∃Ha,c6 H0 H Ha H'/\fP X.K B0 B Ha H' σ' _/\Ha D=none/\H' D=some (.lst ys)/\nH (Er Ha) ys ((ds.take i).filterMap F),
  #[_,bj _,rfl,aT _,H0,.loose f.sub hD,(f.comp own cap).touch (f.sub.free hD) R6 iU,f.sub.free hD,aZ,by simpa using nH.nil],?_]
 rintro i m ys σ' H' ⟨hi,rfl,hy,Ha,g,fa,R7,D8,rs⟩
 obtain⟨i1,i2,i3⟩:=it Ha H' g.fB g.sub i;by_cases m_:i<ds.length
 ·refine .inr #[i1 m_,λx H2 y=>?_]
  have hd:ds[i]?=some ds[i]:=by simp[m_]
  obtain⟨Hb,g2,rx⟩:=i3 x H2 ds[i] hd y;obtain⟨δ',e1,e2,e3⟩:=step ds[i] (cZ m_);obtain⟨k1,k2⟩:=comp_back ht e1;have R8:∀{Hx Hy:Hp},c6 Ha H' Hx Hy->Hx D=none:=λ{Hx Hy}gg=>by
   cases e:Hx D with
   |none=>rfl
   |some o=>
    rcases gg.new D (by rw[e];simp)with z|z
    ·exact qQ7 R7 z
    ·rw[D8]at z;cases z
  have tk:(ds.take (i+1)).filterMap F=(ds.take i).filterMap F++(F ds[i]).toList:=by
   rw[cv,hd,jH];cases eF:F ds[i]<;>simp[iO,eF]
  refine rM (fa.grow g2) rx e1 λσ3 f3=>?_
  intro fp s3 H3;refine e2 fp s3 H3 B0 B σ3 Hb H2 _ f3 λHc H4 g4=>?_
  have Bj:=g2.trans g4;cases eF:F ds[i] with
  |none=>
   refine#[_,∅,m_,rfl,∅,Hc,g.trans Bj,(f3.grow g4).forget k1.symm k2,R8 Bj,Bj.big _ _ D8,?_]
   rw[tk,eF];simpa using nH.Lj rs λv r e=>mono _ _ v r Bj.fB e
  |some r=>
   intro Wi s3' uv;refine e3 r eF Wi s3' uv B0 B σ3 Hc H4 _ (f3.grow g4) λw Hd H5 g5 r5=>?_
   have Bk:=Bj.trans g5;have Mp:=R8 Bk;refine#[Bk.big _ _ D8,∅,_,∅,m_,rfl,by simp;omega,Hd,?_,((f3.grow g4).grow g5 |>.forget k1.symm k2).touch Mp R6 iU,Mp,aZ,?_]
   ·have gg:=g.trans Bk
    exact#[λb u e=>by rw[aL (bC e hD)];exact gg.big b u e,gg.fB,λb u e=>by rw[aL (bC e Mp)];exact gg.sub b u e,gg.new]
   ·rw[tk,eF]
    exact MN (nH.Lj rs λv r e=>mono _ _ v r Bk.fB e) (.cons r5 .nil)
 ·have e:i=ds.length:=∅
  subst e;refine .inl #[i2 ∅,q D ys Ha H' g hD R7 D8 ?_]
  simpa using rs
theorem Qe{F:aj->Option ε}(mono:∀H H' v r,cU H H'->Er H v r->Er H' v r)(hc:X.calm=true)(CS:jU X sc own cap N cl)(hi:VI X tg iter δ ds)(hg:∀f s3 H3,PG (fK X sc N cl f s3 H3) tg (Ge X.K tgt))(ht:tT own.length tgt=true)(hz:ds.length<=sizeLine)
  (step:∀d∈ds,MP X sc own cap N cl tgt elt ifs δ Er F d)(hs:HY X iter:=by intro _;rfl):VLR X (.ListComp elt [#[tg,iter,ifs,0]] sc pos) δ Er (ds.filterMap F):=by
 obtain⟨wi,pi,qi⟩:=hi;refine .of (Cr (tc:=R5 X sc N cl ifs) (te:=teC X sc N cl elt) hc CS pi hg (λf s3 H3 pins s σ H Q I h=>h f s3 H3 pins s I) (λf s3 H3 pins s σ H Q I h=>h f s3 H3 pins s I) hs) λB0 B σ H0 H Q f q=>?_
 exact qi B0 B σ H0 H _ f λJ H1 dD g it=>(CL mono ht hz step (f.grow g) it λp xs Ha Hb g2 a1 a2 a3 a4=>q p xs Ha Hb (g.trans g2) (g.big.free a1) a2 a3 a4)
end
def Qf(K:aq)(H:Hp)(v:V)(r:(Str×Str)×aj):Prop:=∃t ka x,v=.ref t/\H t=some (.tup [.ref ka,x])/\H ka=some (.tup [.str r.1.1,.str r.1.2])/\Rep K H x r.2
theorem Qf.mono(H H':Hp)(v:V)(r:(Str×Str)×aj)(s:cU H H'):Qf K H v r->Qf K H' v r:=λ#[t,ka,x,e,h1,h2,h3]=>#[t,ka,x,e,s _ _ h1,s _ _ h2,h3.mono s]
theorem Qf.all{H H':Hp}(s:cU H H'){xs:List V}(r:nH (Qf K H) xs l):
  ∃qs:List (aH×aH×List Key×V),xs=qs.map (λq=>.ref q.1)/\(∀q∈qs,H' q.1=some (.tup [.ref q.2.1,q.2.2.2])/\H' q.2.1=some (.tup (q.2.2.1.map kV)))/\qs.map (·.2.2.1)=l.map (λp=>tG p.1)/\cz K H (qs.map (·.2.2.2)) (l.map (·.2)):=by
 induction r with
 |nil=>exact#[[],rfl,λq hq=>(nomatch hq),rfl,.nil]
 | @cons a b xs l h t ih=>
  obtain⟨qs,e1,e2,e3,e4⟩:=ih;obtain⟨t,ka,x,rfl,h1,h2,h3⟩:=h;refine#[(t,ka,tG b.1,x)::qs,by rw[e1];rfl,λq hq=>?_,by rw[aA,aA,e3],.cons h3 e4]
  rcases ax.mp hq with e|hq
  ·subst e
   exact#[s _ _ h1,s _ _ h2]
  ·exact e2 q hq
theorem zm:∀(l kvs:List (List Key×V)),((kvs++l).map (·.1)).Nodup->putAll kvs l=kvs++l
 | [],kvs,_=>by rw[b9];rfl
 |q::l,kvs,h=>by
  have hq:gQ kvs q.1=none:=by
   have e:=vb (kvs:=kvs) (k:=q.1);cases ev:gQ kvs q.1 with
   |none=>rfl
   |some y=>
    exfalso
    rw[ev]at e;obtain⟨kv,hkv,hk⟩:=iR.mp e;rw[aP,bR]at h;exact h.2.2 _ (au.mpr #[kv,hkv,rfl]) _ (au.mpr #[q,aM,rfl]) (qQ4 hk)
  show putAll (putK kvs q.1 q.2) l=_;rw[rD q.2 hq,zm l _ (by rw[cC];exact h),cC]
  rfl
section
variable{X:Cx}{a b c:bK}{δ:List Slot}{d:aj}{pos p:Pos}{k:Nat}{z1 z2:Str}
theorem MQ{x1 x2}{p1 p2:Pos}(h1:VE X a δ (.str z1))(h2:VE X b δ (.str z2))(h3:VE X c δ d)
  (OO:kZ X a [b]:=by rfl)(qO:kZ X b []:=by rfl)
  (XO:starEach [.Tuple [a,b] x1 p1,c] X.env=(false,eval (.Tuple [a,b] x1 p1) X.env)::starEach [c] X.env:=by rfl)(hs4:kZ X c []:=by rfl):
  VR X (.Tuple [.Tuple [a,b] x1 p1,c] x2 p2) δ (λH v=>Qf X.K H v ((z1,z2),d)):=
 .of (uq (cN (uq (cN cL (cN cL eG qO) OO)) (cN cL eG hs4) XO)) λB0 B σ H0 H Q f q=>h1 B0 B σ H0 H _ f λv1 H1 dD g1 r1=>by
  cases r1;refine h2 B0 B σ H1 dD _ (f.grow g1) λv2 H2 fX g2 r2=>?_
  cases r2;refine#[by show 2<=sizeLine;rw[dN];decide,λt ht=>?_]
  have g3:=(g1.trans g2).trans (c6.laid g2.sub (o:=.tup [.str z1,.str z2]) ht);refine h3 B0 B σ _ _ _ (f.grow g3) λv4 H4 UM g4 r4=>?_
  refine#[by show 2<=sizeLine;rw[dN];decide,λt' ht'=>?_]
  have g5:=c6.laid g4.sub (o:=.tup [.ref t,v4]) ht';exact q _ _ _ ((g3.trans g4).trans g5) #[t',t,v4,rfl,aZ,(g4.fB.trans g5.fB) _ _ aZ,r4.mono g5.fB]
theorem MR(hr:eB k X.A)(h:VLR X a δ (Qf X.K) l)(hn:(l.map (·.1)).Nodup)(hc:X.calm=true)(m2:X.mg "dict"=none)(X3:Gl X "dict":=by rfl)
  (hs:kZ X a []:=by rfl)(mD:tF X pos []:=by rfl):
  VE X (.Call (.Name "dict" p) [a] [] pos) δ (CD l):=
 .of (nE (wB hc (by have:=hr.un;omega)) X3 m2 (by rfl) (cN cL eG hs) ⋯ ⋯ hs mD) λB0 B σ H0 H Q f q=>h B0 B σ H0 H _ f λp xs H1 dD g e1 e2 e3 r=>by
  obtain⟨qs,rfl,e4,e5,e6⟩:=Qf.all g.sub r;have en:((qs.map (·.2.2)).map (·.1))=l.map (λp=>tG p.1):=by rw[aB];exact e5
  have nd:((([]:List (List Key×V))++qs.map (·.2.2)).map (·.1)).Nodup:=by
   rw[eZ,en];have:=mY (S:=λx y:List Key=>x≠y) tG (λx y hxy e=>hxy (y8 e)) hn
   rwa [aB]at this
  have ep:=zm _ [] nd
  rw[eZ]at ep;refine#[p,qs,rfl,e3,e4,λm hm=>?_]
  rw[ep];have g2:=c6.laid g.sub (o:=.dT (qs.map (·.2.2))) hm
  refine q _ _ _ (g.trans g2) ?_
  unfold CD;refine .R3 aZ ?_ ?_
  ·rw[aB,show(qs.map (·.2.2)).map (λp=>fA (p.1.map nh))=((qs.map (·.2.2)).map (·.1)).map (λk=>fA (k.map nh)) by rw[aB,aB,aB];rfl,en,aB]
   rfl
  ·have e7:=e6.mono g2.fB
   rwa[aB,aB]
end
inductive Sq:aj->Prop
 |non:Sq .none
 |bl (b:Bool):Sq (.bool b)
 |int (i:Int):Sq (.int i)
 |str (x:Str):Sq (.str x)
 |lst {ds:List aj}:(∀d∈ds,Sq d)->Sq (.list ds)
 |tup {ds:List aj}:(∀d∈ds,Sq d)->Sq (.tuple ds)
section
variable{K:aq}{H:Hp}{p:aH}{kvs:List (Key×V)}
end
def qm(kv:List (Str×aj))(y:Str)(d:aj):List (Str×aj):=kv.map λq=>if q.1=y then(q.1,d)else q
section
variable{X:Cx}{B0 B H0 H:Hp}{σ:St}{D:Ends}{δ:List Slot}{ev:bK}{d:aj}{pos px ps pk:Pos}{x y:Str}{k:Nat}{jk}
end
end L2
namespace L2
open PySem
section
variable{M:Model}{A:dO}{E:aF->aS->Prop}{s:aS}
end
section
variable{prog:bA}{w:cn}{A:dO}{E:aF->aS->Prop}{R:vV->aS->Prop}{h:cX}{g:Array tf}{d:Drawn}{t:Nat}{os:OsState}
variable{nm q:Str}{C N:aH}{bs bm bmB:List aF}{zb5:Bool}{sn:List Str}{sub:List aF}{ab:Bool}{col:Option Bool}{dd:Option aH}{k0 k1 k2 k3 k5:Option aF}{B newId U9:String}
end
end L2
namespace L2
open PySem PySem.Spec PyProof.Rows
section
variable{prog:bA}{w:cn}{A:dO}{E:aF->aS->Prop}{R:vV->aS->Prop}{h:cX}{g:Array tf}{d:Drawn}{t:Nat}{os:OsState}
variable{nm q:Str}{C N e t0:aH}{bs bm bmB:List aF}{zb5:Bool}{sn:List Str}{sub:List aF}{ab:Bool}{col:Option Bool}{dd dx:Option aH}{k0 k1 k2 k3 k5:Option aF}{B newId U9:String}{sl:Array (Option aF)}
end
section
variable{prog:bA}{w:cn}{A:dO}{E:aF->aS->Prop}{s:aS}{K:aq}{C e t0 dx:aH}{sl:Array (Option aF)}{name:Str}{v:aF}{mA:Str->Option aF}
end
section
variable{X:Cx}{pins:List (aH×Obj)}{σ:St}{H:Hp}{s:aS}{C e dx:aH}{f:Str}{y:V}{u:aF}{fs:List (Str×V)}{A:dO}{E:aF->aS->Prop}
end
section
variable{X:Cx}{o value a1 a2:bK}{f x y:Str}{pos pos' p p2 ap p3 p4:Pos}{j4:Nat}{ta tv:TE}{C M dx:aH}{i:Nat}
end
section
variable{X:Cx}{CX:K_}{k:Nat}{f C:aH}{fd:eM}{ps:List Str}{sp:Sp}{E:XK}
end
section
variable{H:Hp}{ex:List aH}{e T b:aH}{o1 o2:HO}
end
section
variable{P:bA}{w:cn}{fs ex:List aH}{H0 H:Hp}{h0 h h':cX}{L e T:aH}{oe:Obj}{o1 o2:HO}
end
section
variable{P:bA}{w:cn}{K:aq}{mg:Str->Option aF}{base:cX}{N:List Str}{qual:Str}{scope:kH}{f:aH}{cd:aF}{A:dO}{outer:List Env}{s0:aS}{H0:Hp}{E:XK}
variable{pins:List (aH×Obj)}{σ:St}{H:Hp}{s:aS}
end
section
variable{X:Cx}{B0 B H0 H:Hp}{σ:St}{D:Ends}{δ:List Slot}{a1 a2 tg iter:bK}{p:Int}{wd x y:Str}{np pw pos:Pos}{k:Nat}{fI C:aH}{fd:eM}{body:List fQ}{ds:List aj}
end
section
variable{M:Model}{A:dO}{E:aF->aS->Prop}{s:aS}
end
section
variable{X:Cx}{pins:List (aH×Obj)}{σ:St}{H:Hp}{s:aS}{C M e dx T:aH}{E:aF->aS->Prop}
end
section
variable{X:Cx}{B0 B H0 H:Hp}{σ:St}{D:Ends}{δ:List Slot}{pins:List (aH×Obj)}{s:aS}
end
section
variable{X:Cx}{CX:K_}{k:Nat}{f:aH}{fd:eM}{ps:List Str}{sp:Sp}{E:XK}{Ex:aF->aS->Prop}
end
section
variable{X:Cx}{B0 B H0 H:Hp}{σ:St}{D:Ends}{δ:List Slot}{C M fa:aH}{fd:eM}{ps:List Str}{ds:List aj}{R:List aj->Int->Str->Prop}{k jn jc:Nat}{p:Int}{wd y g xM n xc:Str}{a:bK}{as:List bK}{p1 p2 p3 p4 p5 p6 p7 p8 hp pos:Pos}
end
end L2
namespace L2
open PySem PySem.Spec PyProof.Rows PySem.W
section
variable{prog:bA}{w:cn}{A:dO}{E:aF->aS->Prop}{s:aS}{K:aq}{x C:aH}{ox:Obj}{od:Option Obj}{name:Str}
end
end L2
namespace L2
open PySem PySem.Spec PyProof.Rows
variable{a:aH}{H:Hp}{kv:List (Str×aj)}{d:aj}{K:aq}{y:Str}
section
variable{X:Cx}{pins:List (aH×Obj)}{σ:St}{H H':Hp}{s:aS}{e C:aH}{p:Int}{wd f x:Str}
end
section
variable{X:Cx}{δ:List Slot}{pos px:Pos}{a b e:bK}{x:Str}{d:aj}{ds:List aj}{k:Int}{j:Nat}
end
theorem cz.J3{H': Hp}:∀{xs:List V}{ds:List aj},cz K H xs ds->(∀d∈ds,Bl d=true)->cz K H' xs ds
 |_,_,.nil,_=>.nil
 |_,_,.cons a r,h=>.cons (a.J3 (h _ aM)) (cz.J3 r λd hd=>h d (aN _ hd))
section
variable{X:Cx}{sc:kH}{own N:List Str}{cap:List Nat}{cl:List (Str×aH)}{tg elt iter:bK}{ifs:List bK}{δ:List Slot}{ds rs:List aj}{pos px wj:Pos}{tgt:Fx}{x:Str}
end
section
variable{X:Cx}{δ:List Slot}{pos px p:Pos}{a e:bK}{x:Str}{d:aj}
end
def Gq(kv:List (Str×aj))(y:Str)(d:aj):List (Str×aj):=if(kv.any λq=>decide (q.1=y))=true then qm kv y d else kv ++ [(y,d)]
def DR(K:aq)(a:aH)(kv:List (Str×aj)):OR:=λH0 H as=>as=[a]/\∃kvs:List (Key×V),H a=some (.dK kvs)/\kvs.map (·.1)=kv.map (λp=>(aU p.1:Key))/\cz K H0 (kvs.map (·.2)) (kv.map (·.2))
theorem DR.mono:gS (DR K a kv):=λH0 H Ha Hb as #[e,kvs,h1,h2,h3] sm hb=>#[e,kvs,by rw[hb a (by rw[e];simp)];exact h1,h2,h3.mono sm]
theorem DR.rep(Ha Hb:Hp)(as:List aH)(s:cU Ha Hb)(h:DR K a kv Ha Hb as):Rep K (jG as Hb Ha) (.ref a) (lV kv):=by
 obtain⟨e,kvs,h1,h2,h3⟩:=h;refine .dct (by rw[jb (by rw[e];simp)];exact h1) ?_ ?_
 ·have e2:=qQ6 (tN nh) h2
  rw[aB,aB]at e2;rw[aB];exact e2.symm
 ·rw[aB]
  exact h3.mono (lj s)
theorem IV:∀{kv:List (Str×aj)}{kvs:List (Key×V)},kvs.map (·.1)=kv.map (λp=>(aU p.1:Key))->(kvs.any λz=>decide (z.1=(aU y:Key)))=kv.any λq=>decide (q.1=y)
 | [],[],_=>rfl
 | [],_::_,e=>by simp at e
 |_::_,[],e=>by simp at e
 |q::kv,z::kvs,e=>by
  rw[aA,aA]at e
  injection e with e1 e2
  rw[mP,mP,IV e2,e1]
  congr 1
  by_cases h:q.1=y
  ·rw[qQ1 h,qQ1 (by rw[h])]
  ·rw[qQ0 h,qQ0 λz=>h (hU z)]
theorem MS{v:V}(r:Rep K H v d):∀{kv:List (Str×aj)}{kvs:List (Key×V)},kvs.map (·.1)=kv.map (λp=>(aU p.1:Key))->cz K H (kvs.map (·.2)) (kv.map (·.2))->
  (kvs.map λq=>if q.1=aU y then(q.1,v)else q).map (·.1)=(qm kv y d).map (λp=>(aU p.1:Key))/\cz K H ((kvs.map λq=>if q.1=aU y then(q.1,v)else q).map (·.2)) ((qm kv y d).map (·.2))
 | [],[],_,_=>#[rfl,.nil]
 | [],_::_,e,_=>by simp at e
 |_::_,[],e,_=>by simp at e
 |q::kv,z::kvs,e,t=>by
  rw[aA,aA]at e t
  injection e with e1 e2
  cases t with
  |cons a t=>
   obtain⟨g1,g2⟩:=MS r e2 t;unfold qm at g1 g2 ⊢;rw[aA,aA,aA,aA,aA,aA];by_cases h:q.1=y
   ·have hz:z.1=(aU y):=by rw[e1,h]
    rw[qQ3 h,qQ3 hz,g1];exact#[by rw[e1],.cons r g2]
   ·have hz:=λz'=>h (hU (e1.symm.trans z'))
    rw[qQ2 h,qQ2 hz,g1];exact#[by rw[e1],.cons a g2]
theorem Qg{v:V}(r:Rep K H v d){kvs:List (Key×V)}(h1:kvs.map (·.1)=kv.map (λp=>(aU p.1:Key)))(h2:cz K H (kvs.map (·.2)) (kv.map (·.2))):
  (putK kvs (aU y) v).map (·.1)=(Gq kv y d).map (λp=>(aU p.1:Key))/\cz K H ((putK kvs (aU y) v).map (·.2)) ((Gq kv y d).map (·.2)):=by
 unfold putK Gq;rw[IV h1]
 split
 ·exact MS r h1 h2
 ·rw[aP,aP,aP,aP,h1]
  exact#[rfl,h2.append (.cons r .nil)]
section
variable{X:Cx}{B0 B H0 H:Hp}{σ:St}{D:Ends}{δ:List Slot}{a:aH}{ek ev:bK}{d:aj}{pos px pd ps:Pos}{x y:Str}{kv:List (Str×aj)}{k:Nat}
theorem U_(f:fP X.K B0 B H0 H σ δ)(i:Nat)(hN:X.N.Nodup)(hn:∀p,noOwn (δ.set i (.ref p))=true)(q:∀p σ' H',OF X.K B0 B (DR X.K p []) H0 H' σ' (δ.set i (.ref p))->D.nx σ' H')
  (hi:X.N[i]?=some x:=by rfl)(hx:Loc X.env.scope x:=by left)(hs:A1 X pos (.Dict [] [] pd) (.Name x px):=by rfl)(hf:A0 X x:=by left):
  cS X (.Assign [.Name x px] (.Dict [] [] pd) pos) D σ H:=λpins s I=>by
 refine nP hN hi hx pC hs hf pins s σ H D I λp hp=>?_
 refine q p _ _ #[(f.grow (.loose f.sub hp)).qm rfl rfl,hn p,[p],λb hb=>?_,rfl,[],aZ,rfl,.nil]
 rw[aQ.mp hb];exact#[f.sub.free hp,f.ent.big.free hp,by rw[aZ];simp]
theorem Va(G:OF X.K B0 B (DR X.K a kv) H0 H σ δ)(hr:eB k X.A)(i:Nat)(hi:δ[i]?=some (.ref a))(hk:VE X ek δ (.str y))(hv:VE X ev δ d)(hl:kv.length<sizeLine)(q:∀cW H',OF X.K B0 B (DR X.K a (Gq kv y d)) cW H' σ δ->D.nx σ H')
  (hN:rA X i x:=by ac_rfl)
  (hs:A1 X pos ev (.Subscript (.Name x px) ek ps):=by rfl):
  cS X (.Assign [.Subscript (.Name x px) ek ps] ev pos) D σ H:=λpins s I=>by
 refine sJ (DI hr) (uU hN) cL cL hs pins s σ H D I ?_
 refine hv H0 H σ H0 H _ G.own λv H1 dD g1 r1=>?_
 have G1:=G.go DR.mono (G.own.grow g1) G.no;refine#[_,G1.fr.slot i _ hi,hk H1 dD σ H1 dD _ G1.own λu H2 fX g2 r2=>?_]
 cases r2;have G2:=G1.go DR.mono (G1.own.grow g2) G1.no;obtain⟨as,h1,e,kvs,ha,Wf,Ep⟩:=G2.ex;subst e;obtain⟨p1,p2⟩:=Qg (r1.mono g2.fB) Wf Ep;obtain⟨z1,z2,z3⟩:=h1 a (by simp)
 have hlen:kvs.length=kv.length:=by have:=qQ6 ft Wf;simpa using this
 refine#[a,_,rfl,xS.k (k:=aU y) ha ∅,q H2 _ #[G2.fr.touch z1 z2 (gE G2.no),G2.no,[a],λb hb=>?_,rfl,_,aZ,p1,p2]]
 rw[aQ.mp hb];exact#[z1,z2,by rw[aZ];simp]
end
section
variable{X:Cx}{a b:bK}{δ:List Slot}{pos Cz p p2:Pos}
end
end L2
namespace PySem
open Sem (wp)
section
variable{prog:bA}{w:cn}{A:dO}{E:aF->aS->Prop}{s:aS}{r:aH}{a b c:Int}{t u v:Tok}{n:Nat}
end
section
variable{prog:bA}{w:cn}{A:dO}{E:aF->aS->Prop}{s:aS}{r:aH}{a b c:Int}{t u v:Tok}{n:Nat}
end
end PySem
namespace L2
open PySem PySem.Spec PyProof.Rows
variable{H:Hp}{l:List (Str×aj)}{ps:List Str}{P:bA}{F:aj->Option Str}{K:aq}{w:cn}
section
variable{X:Cx}{a b:bK}{δ:List Slot}{pos Cz p p2:Pos}
end
section
variable{X:Cx}{B0 B H0 H:Hp}{σ:St}{D:Ends}{body:List fQ}{tg iter:bK}{ds:List aj}{pos:Pos}
end
def mw(kvs:List (Key×V))(l:List (Key×V)):List (Key×V):=l.foldl (λkvs q=>putK kvs q.1 q.2) kvs
theorem rW:∀(l kvs:List (Key×V)),(mw kvs l).length<=kvs.length+l.length
 | [],kvs=>aT _
 |q::l,kvs=>by
  have h1:=rW l (putK kvs q.1 q.2);have h2:=mE kvs q.1 q.2
  show(mw (putK kvs q.1 q.2) l).length<=kvs.length+(l.length+1)
  omega
theorem CM(kvs l:List (Key×V))(q:Key×V):mw kvs (l ++ [q])=putK (mw kvs l) q.1 q.2:=by
 unfold mw;rw[eS];rfl
theorem oA:∀(l kvs:List (Key×V)),((kvs++l).map (·.1)).Nodup->mw kvs l=kvs++l
 | [],kvs,_=>(b9 _).symm
 |q::l,kvs,h=>by
  have hn:(kvs.any λz=>decide (z.1=q.1))=false:=by
   rw[wU];intro z hz e;rw[aP,aA,bR]at h;exact h.2.2 z.1 (au.mpr #[z,hz,rfl]) q.1 aM (qQ4 e)
  have hp:putK kvs q.1 q.2=kvs ++ [q]:=by unfold putK;rw[hn,qQ2 jm]
  show mw (putK kvs q.1 q.2) l=_;rw[hp,oA l _ (by rw[cC];exact h),cC]
  rfl
section
variable{X:Cx}
def MT(K:aq):List V->Hp->VK->Prop:=λxs H Q=>∃(p:aH)(qs:List (aH×Key×V)),xs=[.ref p]/\jy K H p (qs.map λq=>.ref q.1)/\
 (∀q∈qs,oT K H q.1 [kV q.2.1,q.2.2])/\∀l,H l=none->Q (.ref l) (upd H l (.dK (mw [] (qs.map (·.2)))))
theorem lW(hc:X.calm=true):jK X (.type "dict") (MT X.K):=by
 intro pins s σ H xs us Q I r h;obtain⟨p,qs,rfl,hp,hqs,q⟩:=h;obtain⟨u,rfl,rx⟩:=vals1 r;cases rx;obtain⟨its,rv,pl,hz⟩:=I.list hp;have Yc:=rv.length;simp only[ae]at Yc hz;have hsz:its.toArray.size=qs.length:=by simp;omega
 refine tU (I.ok.hd hc) pl (λi h=>(∀b o,s.heap.get? b=some o->h.get? b=some o)/\∃vs,KV (mw [] ((qs.take i).map (·.2))) vs/\h.DictOf (e8 X.prog X.w) s.heap.objs.size vs)
  (λh' e k=>#[k,[],.nil,?_]) (λi h h' c hc #[k1,vs,kv,dd] k=>?_) (λi v s' hi hv #[k1,vs,kv,dd]=>?_) (λh' tk #[k1,vs,kv,dd] _=>?_)
 ·exact#[_,#[],0,e,#[rfl,rfl,rfl],rfl,(by intro _ h;exact nomatch h),.nil,gx]
 ·obtain⟨o,es,ep,ho,rest⟩:=dd
  exact#[λb o e=>k b o (a9 (rh (a8 e) hc)) (k1 b o e),vs,kv,o,es,ep,k _ _ ∅ ho,rest]
 ·rw[hsz]at hi
  have LD:its[i]?=some v:=by simpa using hv
  have Qd:=av hi
  generalize qs[i]=q0 at Qd
  obtain⟨u0,Yn,ru0⟩:=rv.get (by rw[ay,Qd];rfl)
  rw[LD]at Yn;cases Yn;cases ru0;obtain⟨it2,Sf,pl2,_⟩:=I.tuple (hqs q0 (aK Qd));obtain⟨u1,u2,rfl,r1,r2⟩:∃u1 u2,it2=[u1,u2]/\RelV _ u1/\RelV q0.2.2 u2:=by
   cases Sf with|cons a t=>cases t with|cons b t2=>cases t2;exact#[_,_,rfl,a,b]
  obtain⟨o2,RV,Yo⟩:=pl2;refine#[q0.1,u1,u2,rfl,#[o2,k1 _ _ RV,Yo],λQ' E' q'=>?_]
  have Yd:qs.take (i+1)=qs.take i ++ [q0]:=by rw[cv,Qd];rfl
  have U6:vs.length<=sizeLine:=by
   have e1:=kv.length;have e2:=rW ((qs.take i).map (·.2)) []
   simp only[df,ae,bh,lR]at e2;omega
  refine wpAny_dictSet_pairs (rE r1) dd (λh' Lc sb=>q' h' _ ∅ sb #[λb o e=>?_,_,?_,Lc]) U6
  ·rw[sb.2 b (a9 (a8 e))]
   exact k1 b o e
  ·rw[Yd,aP,aA,jo,CM]
   exact kv.put q0.2.1 r2
 ·rw[hsz,cy]at kv
  have hlen:=rW (qs.map (·.2)) []
  simp[df,ae,lR]at hlen;exact#[.ref s.heap.objs.size,_,I.laid k1 ∅ (Ck ∅ (beq_eq_false_iff_ne.mpr (bJ (a9 I.big))) kv dd),rfl,q _ (I.hok.fresh ∅)]
def pairD(q:Str×aj):aj:=.tuple [.str q.1,q.2]
theorem zo:∀{l:List (Str×aj)}{xs:List V},cz K H xs (l.map pairD)->∃qs:List (aH×Key×V),xs=qs.map (λq=>.ref q.1)/\(∀q∈qs,oT K H q.1 [kV q.2.1,q.2.2])/\qs.map (·.2.1)=l.map (λp=>(aU p.1:Key))/\cz K H (qs.map (·.2.2)) (l.map (·.2))
 | [],_,.nil=>#[[],rfl,(by intro _ h;cases h),rfl,.nil]
 |q::l,_,.cons a r=>by
  obtain⟨qs,e1,e2,e3,e4⟩:=zo r;cases a with
  |tup hq rs=>
   cases rs with
   |cons b rs=>
    cases b;cases rs with
    |cons c rs=>
     cases rs;refine#[(_,.inr q.1,_)::qs,by rw[e1];rfl,λz hz=>?_,by rw[aA,aA,e3],.cons c e4]
     rcases ax.mp hz with rfl|hz
     ·exact hq
     ·exact e2 z hz
theorem Qh(hn:(l.map (·.1)).Nodup):nR K (MT K) [.list (l.map pairD)] (lV l):=λvs H0 H Q s r k=>by
 obtain⟨v,rfl,rv⟩:=r.one;cases rv with
 |lst hq rs=>
  obtain⟨qs,e1,e2,e3,e4⟩:=zo rs;subst e1;have hnn:((qs.map (·.2)).map (·.1)).Nodup:=by
   rw[aB]
   show(qs.map (·.2.1)).Nodup
   rw[e3,show(l.map λp=>(aU p.1))=(l.map (·.1)).map aU by rw[aB];rfl]
   exact mY _ (λa b X' z=>X' (hU z)) hn
  refine#[_,qs,rfl,s.seq hq,λq F1=>s.oU (e2 q F1),λp hp=>?_]
  rw[oA _ [] (by rw[eZ];exact hnn),eZ]
  have g:=c6.laid s (o:=.dK (qs.map (·.2))) hp
  refine k _ _ _ g (.dct aZ ?_ ?_)
  ·have e:=qQ6 (tN nh) e3
   simp only[aB]at e ⊢;exact e.symm
  ·simp
   exact e4.mono g.fB
end
section
variable{X:Cx}{a:bK}{δ:List Slot}{pos p:Pos}
theorem zp(h:VE X a δ (.list (l.map pairD)))(hn:(l.map (·.1)).Nodup)(hc:X.calm=true)(hm:X.mg "dict"=none)(hg:Gl X "dict":=by rfl)(hs:kZ X a []:=by rfl):VE X (.Call (.Name "dict" p) [a] [] pos) δ (lV l):=jV (lW hc) (Qh hn) (ao h aR hs) hm rfl hg (he:=hs)
end
def Gr(kvs:List (Str×aj)):aj:=.dict ((.none,.int 1)::kvs.map λp=>(.str p.1,p.2))
section
variable{K:aq}{H:Hp}{v:V}
theorem IW:∀{kvs:List (Str×aj)}{ws:List (Key×V)},(ws.map λp=>nh p.1)=(kvs.map λp=>aX p.1)->ws.map (·.1)=kvs.map (λp=>(aU p.1:Key))
 | [],ws,e=>by cases ws with|nil=>rfl|cons q l=>simp at e
 |p::kvs,ws,e=>by
  cases ws with
  |nil=>simp at e
  |cons q ws=>
   rw[aA,aA]at e ⊢
   injection e with h1 h2
   rw[IW h2]
   congr 1
   cases eq:q.1 with
   |inl i=>rw[eq]at h1;cases h1
   |inr x=>rw[eq]at h1;injection h1 with h1;rw[h1]
theorem Rep.Es{kvs:List (Str×aj)}(r:Rep K H v (Gr kvs)):∃a o ws,v=.ref a/\H a=some (.p_ o (.dK ws))/\ws.map (·.1)=kvs.map (λp=>(aU p.1:Key))/\cz K H (ws.map (·.2)) (kvs.map (·.2)):=by
 unfold Gr at r
 generalize e:kvs.map (λp=>(aX p.1,p.2))=ds at r
 cases r with
 |dct h k t=>
  rename_i a ws
  exfalso
  cases ws with
  |nil=>simp at k
  |cons q ws=>
   rw[aA,aA]at k
   injection k with k1 _
   cases eq:q.1 with
   |inl i=>rw[eq]at k1;cases k1
   |inr x=>rw[eq]at k1;cases k1
 |Uv h k t=>
  rename_i a o ws
  refine#[a,o,ws,rfl,h,IW ?_,?_]
  ·rw[<-k,<-e,aB];rfl
  ·rwa[<-e,aB]at t
end
section
variable{X:Cx}{pins:List (aH×Obj)}{σ:St}{H:Hp}{s:aS}{a:aH}{ws:List (Key×V)}
theorem Inv.freeze(I:Inv X pins σ H s)(h:H a=some (.dK ws)):∃o,Inv X pins σ (upd H a (.p_ o (.dK ws))) s:=by
 obtain⟨z,hd,vs,rel,dd⟩:=D3 I.hok h;obtain⟨o,es,ep,ho,rest⟩:=id dd;refine#[o,?_]
 have:=I.write (t':=s.toks) (o:=.p_ o (.dK ws)) (by rw[h];trivial) (.inl rfl) (λb u _ q=>q) #[o,ho] #[ho,z,hd,vs,rel,dd]
 exact this
theorem Inv.zb6{o:Obj}(I:Inv X pins σ H s)(h:H a=some (.p_ o (.dK ws)))(hn:∀o u,X.H₀ a≠some (.p_ o u)):Inv X pins σ (upd H a (.dK ws)) s:=by
 have ne:∀{b:aH},H b=none->b≠a:=λe z=>by subst z;rw[h]at e;cases e
 have ob:=(Rd.ok (.inr #[o,h]) I.hok);refine#[I.ok,I.os,I.bare,#[I.base.keep,I.base.slot,λb u e n hx=>?_,I.base.there,λb xs e=>?_,λb ob u e=>?_,λb ps e=>?_],I.loc,I.cell,?_,λx c e=>?_,λp hp=>?_,λb u e=>?_,I.len]
 ·have q:=I.base.free b u e n hx
  rwa[aL (ne q)]
 ·have q:=I.base.tups b xs e
  rwa[aL (λz=>by subst z;rw[h]at q;cases q)]
 ·have q:=I.base.v5 b ob u e
  rwa[aL (λz=>by subst z;exact hn _ _ e)]
 ·obtain⟨more,q⟩:=I.base.yF b ps e
  exact#[more,by rw[aL (λz=>by subst z;rw[h]at q;cases q)];exact q]
 ·rw[aL (ne I.free)];exact I.free
 ·rw[aL (ne (I.pq x c e))];exact I.pq x c e
 ·obtain⟨q1,q2,q3⟩:=I.pin p hp
  exact#[q1,by rw[aL (ne q2)];exact q2,q3]
 ·have st:∀{b:aH}{u:HO},iT X.prog X.w H s.heap b u->iT X.prog X.w (upd H a (.dK ws)) s.heap b u:=λx=>
   x.stay (λc v _ q=>q) (λc q=>by rw[aL (λz=>by subst z;rw[h]at q;cases q)];exact q) λc xs q=>by rw[aL (λz=>by subst z;rw[h]at q;cases q)];exact q
  by_cases hb:b=a
  ·subst hb;rw[aZ]at e;cases e;exact st ob
  ·rw[aL hb]at e;exact st (I.hok b u e)
end
section
variable{X:Cx}{e:bK}{δ δ':List Slot}{es:List aj}{kvs:List (Str×aj)}
end
def Itk(a:aH)(o:Obj)(kvs:List (Key×V)):It:=#[λi H=>i<kvs.length/\H a=some (.p_ o (.dK kvs)),λi H x H'=>H'=H/\∃q,kvs[i]?=some q/\x=kV q.1,λi H=>kvs.length<=i/\H a=some (.p_ o (.dK kvs))]
section
variable{X:Cx}{pins:List (aH×Obj)}{σ:St}{H:Hp}{s:aS}{a it:aH}{kvs:List (Key×V)}{o:Obj}{es:Array wW}{ep:Nat}
theorem uz(I:Inv X pins σ H s)(h:H a=some (.p_ o (.dK kvs))):(a==sysModules)=false/\∃vs es ep,KV kvs vs/\o.data=.dict es ep/\s.heap.DictAt (e8 X.prog X.w) a vs ep:=by
 obtain⟨ho,z,hd,vs,rel,o',es,ep,Aw,c1,c2,c3⟩:=(I.hok a _ h)
 rw[ho]at Aw;cases Aw;exact#[hd,vs,es,ep,rel,c2,o,es,ho,c1,c2,c3]
theorem Kh{tg:bK}(a it:aH)(he:o.data=.dict es ep):Turn P w K tg (Itk a o kvs) [it] it (λi h=>h.IsKeyIter it a i kvs.length ep) where
 mem:=by simp
 obj:=λi h st b hb=>by
  have e:b=it:=by simpa using hb
  subst e;obtain⟨o,e,c,d⟩:=st;exact#[o,e,λv z=>by rw[d]at z;cases z]
 keep:=λi h h' st k=>let#[o,e,r]:=st;#[o,k it (by simp) o e,r]
 item:=by
  intro X hP hw hK hc i pins s σ H E I hf st hg;subst hP hw hK;obtain⟨f0,f1,f2,f3,f4,f5⟩:=hf it (by simp)
  obtain⟨hi,ha⟩:=hg;obtain⟨hd,vs,TH,TJ,rel,U8,dd⟩:=uz I ha;rw[he]at U8;cases U8;have hl:=rel.length;obtain⟨q,hq⟩:∃q,kvs[i]?=some q:=#[kvs[i],av hi]
  obtain⟨⟨k,x⟩,hx⟩:∃p,vs[i]?=some p:=#[vs[i]'∅,av ∅]
  have hk:q.1=k:=by
   have e1:=qQ6 (·[i]?) rel.keys
   simp only[ay,hq,hx,kI]at e1
   exact cG e1
  refine wpAny_pyNext_dict_item (by rw[<-hl];exact st) dd hx λkey h' T8 yf sb=>?_
  obtain⟨o,e,c,d⟩:=id yf;exact#[key,rfl,DT (s:={ s with heap:=h' }) e c d ⋯ #[kV q.1,H,I.turned (t':=s.toks) (λb o hb e=>(sb.2 b hb).trans e) f0 f1 f3 f4 f5,by rw[hk];exact IU T8,#[rfl,q,hq,rfl],by rw[hl];exact yf,λb hb=>(hf b hb).1]]
 done:=by
  intro X hP hw hK hc i pins s σ H E I hf st hg;subst hP hw hK;obtain⟨f0,f1,f2,f3,f4,f5⟩:=hf it (by simp)
  obtain⟨hi,ha⟩:=hg;obtain⟨hd,vs,TH,TJ,rel,U8,dd⟩:=uz I ha;rw[he]at U8;cases U8;have hl:=rel.length;exact wpAny_pyNext_dict_end (I.ok.hd hc) (by rw[<-hl];exact st) dd (dI ∅) λh' eb=>#[rfl,I.turned (λb o hb e=>eb b o hb e) f0 f1 f3 f4 f5]
 self:=λ_ _ _ _ _ st h=>wpAny_pyIter_keyiter st h
def Yp(tl:TE):TI:=λσ H R=>tl σ H λv H1=>∃a o kvs,v=.ref a/\H1 a=some (.p_ o (.dK kvs))/\R (Itk a o kvs) H1
theorem Qi{tg l:bK}{tl:TE}(hl:PE X l tl):PI X tg l (Yp tl):=by
 intro pins s σ H R I h;refine gN (hl pins s σ H _ I h) λv s1 #[y,H1,I1,r1,q1]=>?_
 obtain⟨a,o,kvs,e,ha,q⟩:=q1;subst e;cases r1;obtain⟨hd,vs,es,ep,rel,he,dd⟩:=uz I1 ha;refine wpAny_pyIter_dict hd dd ?_
 rw[<-rel.length];refine#[s1.heap.objs.size,_,_,_,H1,rfl,I1.kept λb o e=>aI _ e,Kh a _ he,#[_,bE _ rfl,rfl,rfl],λb hb=>?_,q]
 have e:b=s1.heap.objs.size:=by simpa using hb
 subst e;exact I1.yH ∅ (I1.hok.fresh ∅)
end
section
variable{X:Cx}{tg a b:bK}{δ:List Slot}{d:aj}{kvs:List (Str×aj)}{pos p:Pos}{k:Nat}{x:Str}
theorem MV(h:VE X a δ (Gr kvs)):VI X tg a δ (kvs.map λq=>.str q.1):=#[_,Qi cL,λB0 B σ H0 H R f q=>h B0 B σ H0 H _ f λv H1 dD g r=>by
 obtain⟨p,o,ws,rfl,hp,ke,rs⟩:=r.Es;have hl:ws.length=kvs.length:=by have:=qQ6 ft ke;simpa using this
 refine#[p,o,ws,rfl,g.sub _ _ hp,q _ H1 dD g λHa Hb s1 s2 i=>#[λhi=>#[by simpa[hl]using hi,s2 _ _ (s1 _ _ hp)],λhi=>#[by simpa[hl]using hi,s2 _ _ (s1 _ _ hp)],λx Bf d hd #[e,z,hz,ex]=>?_]]
 subst e;subst ex;have e1:=qQ6 (·[i]?) ke
 simp[ay,hz,kI]at e1
 rw[ay]at hd
 cases hk:kvs[i]? with
 |none=>rw[hk]at hd;cases hd
 |some w=>
  rw[hk]at hd e1;cases hd;rw[cG e1];exact#[Ha,.refl s2,.str w.1]]
theorem vo(hr:eB k X.A)(h1:VE X a δ (Gr kvs))(h2:VE X b δ (.str x))(hx:gF kvs x=some d)(hs:Cm b:=by intro _ _;rfl):VE X (.Subscript a b pos) δ d:=
 .of (sI (DI hr) cL cL hs) λB0 B σ H0 H Q fr q=>h1 B0 B σ H0 H _ fr λv H1 dD g r=>h2 B0 B σ H1 dD _ (fr.grow g) λu H2 fX g2 r2=>by
  obtain⟨p,o,ws,rfl,hp,ke,rs⟩:=r.Es;cases r2;have ov:=wq ke rs x;rw[hx]at ov;obtain⟨w,hw,sF⟩:=ov.some_of;refine#[p,w,rfl,?_,q w H2 fX (g.trans g2) (sF.mono g2.fB)]
  rw[<-hw];exact .inl #[ws,.inr x,.inr #[o,g2.sub _ _ (g2.fB _ _ hp)],rfl,rfl]
end
section
variable{X:Cx}{pins:List (aH×Obj)}{σ:St}{H:Hp}{s:aS}{A:dO}
end
abbrev UR:=Hp->V->Hp->Hp->Prop
variable{R:List aj->UR->Prop}
section
variable{X:Cx}{st:fQ}{rest body orelse:List fQ}{δ δ':List Slot}{o:Out}{a b c e:bK}{d:aj}{ds:List aj}{pos px:Pos}{x:Str}{w:Str}
def VU(X:Cx)(e:bK)(δ:List Slot)(U:UR):Prop:=∀B0 B σ H0 H Q,fP X.K B0 B H0 H σ δ->(∀v cW H',c6 H0 H cW H'->U H v cW H'->Q v H')->cE X e σ H Q
def Wr(K:aq)(R:List aj->UR->Prop):Sp:=λvs H Q _=>∃H0 ds U,cU H0 H/\cz K H0 vs ds/\R ds U/\∀v cW H',c6 H0 H cW H'->U H v cW H'->Q v H'
def Sr(U:UR):Prop:=∀B H v Ha Hb,cU B H->U H v Ha Hb->U B v Ha Hb
theorem CN{U:UR}{k:Nat}{es:List bK}{p:Pos}(C:bB X.prog X.w X.K X.mg X.base k x ps (Wr X.K R))(hr:eB k X.A)(hm:Sr U)(ha:VA X (e::es) δ ds)(hp:R ds U)(hg:Gl X x:=by rfl)(u9:xP x:=by decide)
  (he:kZ X e es:=by rfl)(mD:tF X pos es:=by rfl):VU X (.Call (.Name x p) (e::es) [] pos) δ U:=by
 obtain⟨f,fd,F,Lb,hk,hb⟩:=C;obtain⟨t,pa,qa⟩:=ha;intro B0 B σ H0 H Q fr q pins s I;refine sH F hr hg Lb hk hb .nil yQ pa u9 he mD pins s σ H Q I (qa B0 B σ H0 H _ fr λvs H1 dD g1 rs=>?_)
 rw[b9];exact#[H1,ds,U,g1.sub,rs,hp,λv H2 fX g2 u=>q v H2 fX (g1.trans g2) (hm _ _ _ _ _ g1.big u)]
theorem Yq{w:cn}{mg:Str->Option aF}{base:cX}{x qual:Str}{st:fQ}{f:aH}{fd:eM}{N: List Str}{k:Nat}(F:kX K x qual st f fd)(S:cw N ps (bL st))(hl:∀ds U,R ds U->ds.length=ps.length)(hb:∀ds U,R ds U->y0 P w K mg base N qual st f k ds (.ru U)):eW P w K mg base kD (k+1) f fd ps (Wr K R):=by
 refine F.ok S (λvs H Q E h=>?_) (λg6 A outer s H vs Q E hr h=>?_)
 ·obtain⟨H0,ds,d,_,r,hp,_⟩:=h
  rw[r.length,hl ds d hp]
 ·obtain⟨H0,ds,d,sm,r,hp,q⟩:=h
  exact#[_,la,hb ds d hp g6 A outer s H E hr H0 H _ H0 H _ (.start sm r) q]
def uT(K:aq)(w:Str)(ds:List aj):UR:=λB v H0 H=>∃t p xs,v=.ref t/\B t=none/\H0 t=none/\B p=none/\H0 p=none/\H t=some (.tup [.str w,.ref p])/\H p=some (.lst xs)/\cz K H0 xs ds
theorem Qj{x1}(h1:VE X a δ (.str w))(h2:VO X b δ ds)(hs:kZ X a [b]:=by rfl)(qO:kZ X b []:=by rfl):VU X (.Tuple [a,b] x1 pos) δ (uT X.K w ds):=λB0 B σ H0 H Q f q pins s I=>
 uq (cN cL (cN cL eG qO) hs) pins s σ H Q I (h1 B0 B σ H0 H _ f λv H1 dD g r=>h2 B0 B σ H1 dD _ (f.grow g) λp xs H2 fX g2 a1 a2 a3 a4=>#[by show 2<=sizeLine;rw[dN];decide,λt ht=>by
  cases r;have gg:=g.trans g2;exact q _ H2 _ (gg.trans (.loose g2.sub ht)) #[t,p,xs,rfl,gg.big.free ht,g2.sub.free ht,g.big.free a1,a2,aZ,by rw[aL (bC a3 ht)];exact a3,a4]])
end
section
variable{X:Cx}{B0 B H0 H:Hp}{σ:St}{D:Ends}{δ δ2:List Slot}{t p:aH}{e c:bK}{d dp:aj}{ds:List aj}{pos px po pk pa pc:Pos}{x w:Str}{R:OR}{body:List fQ}{k:Nat}
end
section
variable{K:aq}{H:Hp}
theorem CP{a:aH}{kv:List (Str×aj)}{kvs:List (Key×V)}(h1:H a=some (.dK kvs))(h2:kvs.map (·.1)=kv.map (λp=>(aU p.1:Key)))(h3:cz K H (kvs.map (·.2)) (kv.map (·.2))):Rep K H (.ref a) (lV kv):=by
 refine .dct h1 ?_ ?_
 ·have e2:=qQ6 (tN nh) h2
  rw[aB,aB]at e2;rw[aB];exact e2.symm
 ·rwa[aB]
end
section
variable{P:bA}{w:cn}{K:aq}{mg:Str->Option aF}{base:cX}{x qual:Str}{st:fQ}{f:aH}{fd:eM}{N:List Str}{k:Nat}{a1 a2:Str}
end
section
variable{X:Cx}{B0 B H0 H:Hp}{σ:St}{D:Ends}{δ δ2:List Slot}{e b:bK}{d:aj}{ds:List aj}{pos px:Pos}{x:Str}{k:Nat}
theorem sO(h:D.nx σ H):Ay X [] D σ H:=λpins s I=>Ib pins s σ H D I h
end
theorem zq{κ:Key}{v:V}(r:Rep K H v (nh κ)):v=kV κ:=by
 cases κ<;>cases r<;>rfl
section
variable{X:Cx}{B0 B H0 H:Hp}{σ:St}{D:Ends}{δ:List Slot}{a c:aH}{e ek ev:bK}{d:aj}{ds:List aj}{pos px po ps pa pc pk py:Pos}{x y z:Str}{k:Nat}{kvs Vb:List (Key×V)}{κ:Key}{xs:List V}{j}
theorem Qk(f:fP X.K B0 B H0 H σ δ)(hr:eB k X.A)(i:Nat)(hi:δ[i]?=some (.ref a))(hd:H a=some (.dK kvs))(hk:VE X ek δ (nh κ))(hv:VE X ev δ d)(hl:kvs.length<sizeLine)
  (q:∀v Ha Hb,c6 H0 H Ha Hb->Rep X.K Ha v d->D.nx σ (upd Hb a (.dK (putK kvs κ v))))
  (hN:rA X i x:=by ac_rfl)
  (hs:A1 X pos ev (.Subscript (.Name x px) ek ps):=by rfl):
  cS X (.Assign [.Subscript (.Name x px) ek ps] ev pos) D σ H:=λpins s I=>by
 refine sJ (DI hr) (uU hN) cL cL hs pins s σ H D I ?_
 refine hv B0 B σ H0 H _ f λv H1 dD g1 r1=>#[_,f.slot i _ hi,hk B0 B σ H1 dD _ (f.grow g1) λu H2 fX g2 r2=>?_]
 obtain rfl:=zq r2;exact#[a,_,rfl,xS.k (g2.big _ _ (g1.big _ _ hd)) hl,q v H2 fX (g1.trans g2) (r1.mono g2.fB)]
theorem CQ(f:fP X.K B0 B H0 H σ δ)(hr:eB k X.A)(i:Nat)(hi:δ[i]?=some (.ref a))(hd:H a=some (.dK kvs))(hy:gQ kvs (aU y)=some (.ref c))(hc:H c=some (.dK Vb))(hk:VE X ek δ (nh κ))(hv:VE X ev δ d)(hl:Vb.length<sizeLine)
  (q:∀v Ha Hb,c6 H0 H Ha Hb->Rep X.K Ha v d->D.nx σ (upd Hb c (.dK (putK Vb κ v))))
  (hN:rA X i x:=by ac_rfl)
  (hsl:Cm (.Constant (.str y) j pk):=by intro _ _;rfl)(hs:swapsWith ev (some (.Subscript (.Subscript (.Name x px) (.Constant (.str y) j pk) po) ek ps)) pos.line X.env=pure false:=by rfl):
  cS X (.Assign [.Subscript (.Subscript (.Name x px) (.Constant (.str y) j pk) po) ek ps] ev pos) D σ H:=λpins s I=>by
 refine sJ (DI hr) (sI (DI hr) (uU hN) uk hsl) cL cL hs pins s σ H D I ?_
 refine hv B0 B σ H0 H _ f λv H1 dD g1 r1=>#[_,f.slot i _ hi,a,_,rfl,by rw[<-hy];exact nQ.k (k:=aU y) (g1.big _ _ hd),hk B0 B σ H1 dD _ (f.grow g1) λu H2 fX g2 r2=>?_]
 obtain rfl:=zq r2;exact#[c,_,rfl,xS.k (g2.big _ _ (g1.big _ _ hc)) hl,q v H2 fX (g1.trans g2) (r1.mono g2.fB)]
theorem Ql(f:fP X.K B0 B H0 H σ δ)(hr:eB k X.A)(i m:Nat)(hi:δ[i]?=some (.ref a))(hd:H a=some (.dK kvs))(hy:gQ kvs (aU y)=some (.ref c))(hX:X.N.Nodup)
  (q:fP X.K B0 B H0 H (σ.set m (some (.ref c))) (δ.set m (.ref c))->D.nx (σ.set m (some (.ref c))) H)
  (hN:rA X i x:=by ac_rfl)
  (hm:X.N[m]?=some z:=by rfl)(hx:Loc X.env.scope z:=by left)(hsl:Cm (.Constant (.str y) j pk):=by intro _ _;rfl)(hs:A1 X pos (.Subscript (.Name x px) (.Constant (.str y) j pk) po) (.Name z py):=by rfl)(hf:A0 X z:=by left):
  cS X (.Assign [.Name z py] (.Subscript (.Name x px) (.Constant (.str y) j pk) po) pos) D σ H:=λpins s I=>by
 refine nP hX hm hx (sI (DI hr) (uU hN) uk hsl) hs hf pins s σ H D I ?_
 exact#[_,f.slot i _ hi,a,_,rfl,by rw[<-hy];exact nQ.k (k:=aU y) hd,q (f.qm rfl rfl)]
theorem Vc(f:fP X.K B0 B H0 H σ δ)(hr:eB k X.A)(i:Nat)(hi:δ[i]?=some (.ref a))(hd:H a=some (.dK kvs))(hk:VE X ek δ (nh κ))(hy:gQ kvs κ=some (.ref c))(hc:H c=some (.lst xs))(hv:VE X e δ d)(hl:xs.length<sizeLine)
  (q:∀v Ha Hb,c6 H0 H Ha Hb->Rep X.K Ha v d->D.nx σ (upd Hb c (.lst (xs ++ [v]))))
  (hN:rA X i x:=by ac_rfl)
  (hsl:Cm ek:=by intro _ _;rfl)(gj:yc X (.Subscript (.Name x px) ek po) "append":=by rfl)
  (hs:kZ X e []:=by rfl)
  (k_:FJ X pc [e]:=by rfl)
  (hline:(pa.endLine==pc.line)=true:=by rfl)(fJ:tF X pc []:=by rfl)(qg:swapsWith (.Call (.Attribute (.Subscript (.Name x px) ek po) "append" pa) [e] [] pc) none pos.line X.env=pure false:=by rfl):
  cS X (.Expr (.Call (.Attribute (.Subscript (.Name x px) ek po) "append" pa) [e] [] pc) pos) D σ H:=λpins s I=>by
 refine ja (om cB eN eO jT (sI (DI hr) (uU hN) cL hsl) (cN cL eG hs) gj k_ hline hs fJ) qg pins s σ H D I ?_
 refine#[_,f.slot i _ hi,hk B0 B σ H0 H _ f λu H1 dD g1 r1=>?_]
 obtain rfl:=zq r1;refine#[a,.ref c,rfl,by rw[<-hy];exact nQ.k (g1.big _ _ hd),.inl #[rfl,_,jy.of (g1.big _ _ hc)],?_]
 exact hv B0 B σ H1 dD _ (f.grow g1) λv H2 fX g2 r2=>(#[c,xs,v,rfl,rfl,g2.big _ _ (g1.big _ _ hc),hl,q v H2 fX (g1.trans g2) r2])
theorem Vd(f:fP X.K B0 B H0 H σ δ)(hr:eB k X.A)(i:Nat)(hi:δ[i]?=some (.ref a))(hd:H a=some (.dK kvs))(hk:VE X ek δ (nh κ))(hy:gQ kvs κ=some (.ref c))(hc:H c=some (.lst xs))(hv:VO X e δ ds)(hl:xs.length+ds.length<=sizeLine)
  (q:∀zs Ha Hb,c6 H0 H Ha Hb->cz X.K Ha zs ds->D.nx σ (upd Hb c (.lst (xs++zs))))
  (hN:rA X i x:=by ac_rfl)
  (hsl:Cm ek:=by intro _ _;rfl)(gj:yc X (.Subscript (.Name x px) ek po) "extend":=by rfl)
  (hs:kZ X e []:=by rfl)
  (k_:FJ X pc [e]:=by rfl)
  (hline:(pa.endLine==pc.line)=true:=by rfl)(fJ:tF X pc []:=by rfl)(qg:swapsWith (.Call (.Attribute (.Subscript (.Name x px) ek po) "extend" pa) [e] [] pc) none pos.line X.env=pure false:=by rfl):
  cS X (.Expr (.Call (.Attribute (.Subscript (.Name x px) ek po) "extend" pa) [e] [] pc) pos) D σ H:=λpins s I=>by
 refine ja (om cB As Au Ba (sI (DI hr) (uU hN) cL hsl) (cN cL eG hs) gj k_ hline hs fJ) qg pins s σ H D I ?_
 refine#[_,f.slot i _ hi,hk B0 B σ H0 H _ f λu H1 dD g1 r1=>?_]
 obtain rfl:=zq r1;refine#[a,.ref c,rfl,by rw[<-hy];exact nQ.k (g1.big _ _ hd),.inl #[rfl,_,jy.of (g1.big _ _ hc)],?_]
 exact hv B0 B σ H1 dD _ (f.grow g1) λp zs H2 fX g2 z1 z2 z3 z4=>(#[c,p,xs,zs,rfl,rfl,g2.big _ _ (g1.big _ _ hc),z3,by rw[z4.length];exact hl,q zs H2 fX (g1.trans g2) z4])
end
section
variable{X:Cx}{B0 B H0 H:Hp}{σ:St}{D:Ends}{δ:List Slot}{body orelse:List fQ}{tg iter c e:bK}{ds:List aj}{d:aj}{pos:Pos}{R:OR}
theorem vp(m:gS R)(G:OF X.K B0 B R H0 H σ δ)(h:VT X c δ true)(q:∀Ha Hb,OF X.K B0 B R Ha Hb σ δ->Ay X body D σ Hb):cS X (.If c body orelse pos) D σ H:=
 IQ G.own h λHa Hb g=>q Ha Hb (G.go m (G.own.grow g) G.no)
theorem nS(m:gS R)(G:OF X.K B0 B R H0 H σ δ)(h:VT X c δ false)(q:∀Ha Hb,OF X.K B0 B R Ha Hb σ δ->Ay X orelse D σ Hb):cS X (.If c body orelse pos) D σ H:=
 Sj G.own h λHa Hb g=>q Ha Hb (G.go m (G.own.grow g) G.no)
theorem Ve(G:OF X.K B0 B R H0 H σ δ)(h:VE X e δ d)(q:∀v cW H',c6 B0 B cW H'->Rep X.K cW v d->D.rt v H'):cS X (.Return (some e) pos) D σ H:=
 ck h B0 B σ H0 H D G.fr q
end
section
variable{X:Cx}{δ δ2:List Slot}{body rest:List fQ}{tg iter c:bK}{ds:List aj}{o:Out}{pos p1 p2:Pos}
theorem MX(h:VT X c δ true)(hf:Ld δ δ2):Z7 X (.If c [.Continue p1] [] p2::rest) δ δ2:=λB0 B σ H0 H D f _ q2=>
 cI (IQ f h λHa Hb g=>λpins s I=>ye DS pins s σ Hb _ I (q2 σ Ha Hb g.fB ((f.grow g).forget hf.len hf.at)))
theorem MY(h:VT X c δ false)(hr:rP X rest δ (.nx δ2)):Z7 X (.If c [.Continue p1] [] p2::rest) δ δ2:=Mq (aG (bV h bG) hr)
end
def Qm(B Hs Hb:Hp)(qs:List (aH×Str×aH)):Prop:=(qs.map (·.2.2)).Nodup/\∀q∈qs,B q.2.2=none/\Hs q.2.2=none/\Hb q.1=some (.tup [.str q.2.1,.ref q.2.2])/\Hb q.2.2=some (.lst [])
section
variable{X:Cx}{sc:kH}{own N:List Str}{cap:List Nat}{cl:List (Str×aH)}{tg elt iter:bK}{ifs:List bK}{δ:List Slot}{ds:List aj}{pos:Pos}{tgt:Fx}
def MZ(X:Cx)(sc:kH)(own:List Str)(cap:List Nat)(N:List Str)(cl:List (Str×aH))(tgt:Fx)(elt:bK)(ifs:List bK)(δ:List Slot)(F:aj->Option Str)(d:aj):Prop:=
 ∃δ',vi tgt d (mF own cap δ)=some δ'/\(∀f s3 H3,Fy (fK X sc N cl f s3 H3) ifs δ' (F d).isSome)/\∀r,F d=some r->∀f s3 H3,VU (fK X sc N cl f s3 H3) elt δ' (uT X.K r [])
theorem CT(ht:tT own.length tgt=true)(hz:ds.length<=sizeLine)(step:∀d∈ds,MZ X sc own cap N cl tgt elt ifs δ F d){J:It}{B0 B H0: Hp}{σ:St}{Q:VK}(f:fP X.K B0 B H0 H σ δ)(it:Z6 X.K J H0 ds)
  (q:∀p qs cW H',c6 H0 H cW H'->H p=none->cW p=none->H' p=some (.lst (qs.map λz:aH×Str×aH=>.ref z.1))->Qm H cW H' qs->qs.map (·.2.1)=ds.filterMap F->Q (.ref p) H'):
  pE J (Ge X.K tgt) (R5 X sc N cl ifs) (teC X sc N cl elt) (mR own cap σ) H Q:=by
 intro D hD;have R6:=f.ent.big.free hD;refine#[λi m ys σ' H'=>i<=ds.length/\m=ds.length-i/\ys.length<=i/\∃Ha,∃qs:List (aH×Str×aH),c6 H0 H Ha H'/\fP X.K B0 B Ha H' σ' _/\Ha D=none/\H' D=some (.lst ys)/\ys=qs.map (λz=>.ref z.1)/\Qm H Ha H' qs/\(∀z∈qs,z.1≠D/\z.2.2≠D)/\qs.map (·.2.1)=(ds.take i).filterMap F,
  #[_,bj _,rfl,aT _,H0,[],.loose f.sub hD,(f.comp own cap).touch (f.sub.free hD) R6 iU,f.sub.free hD,aZ,rfl,#[gx,λz hz=>nomatch hz],(λz hz=>nomatch hz),by simp],?_]
 rintro i m ys σ' H' ⟨hi,rfl,hy,Ha,qs,g,fa,R7,D8,eys,⟨nd,ow⟩,nD,rs⟩
 obtain⟨i1,i2,i3⟩:=it Ha H' g.fB g.sub i;by_cases m_:i<ds.length
 ·refine .inr #[i1 m_,λx H2 y=>?_]
  have hd:ds[i]?=some ds[i]:=by simp[m_]
  obtain⟨Hb,g2,rx⟩:=i3 x H2 ds[i] hd y;obtain⟨δ',e1,e2,e3⟩:=step ds[i] (cZ m_);obtain⟨k1,k2⟩:=comp_back ht e1;have keep:∀{Hx Hy:Hp},c6 Ha H' Hx Hy->Qm H Hx Hy qs:=λ{Hx Hy}gg=>#[nd,λz hz=>by
   obtain⟨o1,o2,o3,o4⟩:=ow z hz;exact#[o1,gg.still o2 o4,gg.big _ _ o3,gg.big _ _ o4]]
  have R8:∀{Hx Hy:Hp},c6 Ha H' Hx Hy->Hx D=none:=λ{Hx Hy}gg=>gg.still R7 D8
  have tk:(ds.take (i+1)).filterMap F=(ds.take i).filterMap F++(F ds[i]).toList:=by
   rw[cv,hd,jH];cases eF:F ds[i]<;>simp[iO,eF]
  refine rM (fa.grow g2) rx e1 λσ3 f3=>?_
  intro fp s3 H3;refine e2 fp s3 H3 B0 B σ3 Hb H2 _ f3 λHc H4 g4=>?_
  have Bj:=g2.trans g4;cases eF:F ds[i] with
  |none=>
   refine#[_,∅,m_,rfl,∅,Hc,qs,g.trans Bj,(f3.grow g4).forget k1.symm k2,R8 Bj,Bj.big _ _ D8,eys,keep Bj,nD,?_]
   rw[tk,eF];simpa using rs
  |some r=>
   intro Wi s3' uv;refine e3 r eF Wi s3' uv B0 B σ3 Hc H4 _ (f3.grow g4) λw Hd H5 g5 u=>?_
   obtain⟨t,c,xs,rfl,u1,u2,u3,u4,u5,u6,u7⟩:=u;cases u7;have Bk:=Bj.trans g5;have Mp:=R8 Bk;have hD4:=Bj.big _ _ D8;have tD:t≠D:=λz=>by rw[z,hD4]at u1;cases u1
   have cD:c≠D:=λz=>by rw[z,hD4]at u3;cases u3
   obtain⟨_,kp⟩:=keep Bk;refine#[Bk.big _ _ D8,∅,_,∅,m_,rfl,by simp;omega,Hd,qs ++ [(t,r,c)],?_,((f3.grow g4).grow g5 |>.forget k1.symm k2).touch Mp R6 iU,Mp,aZ,by rw[eys,aP];rfl,#[?_,λz hz=>?_],λz hz=>?_,?_]
   ·have gg:=g.trans Bk
    exact#[λb u e=>by rw[aL (bC e hD)];exact gg.big b u e,gg.fB,λb u e=>by rw[aL (bC e Mp)];exact gg.sub b u e,gg.new]
   ·rw[aP,bR]
    refine#[nd,by simp,λa ha b hb e=>?_]
    obtain⟨z,hz,rfl⟩:=au.mp ha;rw[kY,aQ]at hb;rw[hb]at e;have:=Bj.big _ _ (ow z hz).2.2.2;rw[e,u3]at this;cases this
   ·rcases bo.mp hz with hz|hz
    ·obtain⟨o1,o2,o3,o4⟩:=kp z hz
     obtain⟨n1,n2⟩:=nD z hz;exact#[o1,o2,by rw[aL n1];exact o3,by rw[aL n2];exact o4]
    ·rw[aQ.mp hz]
     exact#[(g.trans Bj).big.free u3,u4,by rw[aL tD];exact u5,by rw[aL cD];exact u6]
   ·rcases bo.mp hz with hz|hz
    ·exact nD z hz
    ·rw[aQ.mp hz];exact#[tD,cD]
   ·rw[tk,eF,aP,rs];rfl
 ·have e:i=ds.length:=∅
  subst e;rw[cy]at rs;exact .inl #[i2 ∅,q D qs Ha H' g hD R7 (by rw[<-eys];exact D8) #[nd,ow] rs]
def VLU(X:Cx)(e:bK)(δ:List Slot)(rs:List Str):Prop:=∀B0 B σ H0 H Q,fP X.K B0 B H0 H σ δ->
 (∀p qs cW H',c6 H0 H cW H'->H p=none->cW p=none->H' p=some (.lst (qs.map λz:aH×Str×aH=>.ref z.1))->Qm H cW H' qs->qs.map (·.2.1)=rs->Q (.ref p) H')->cE X e σ H Q
theorem M0(hc:X.calm=true)(CS:jU X sc own cap N cl)(hi:VI X tg iter δ ds)(hg:∀f s3 H3,PG (fK X sc N cl f s3 H3) tg (Ge X.K tgt))(ht:tT own.length tgt=true)(hz:ds.length<=sizeLine)
  (step:∀d∈ds,MZ X sc own cap N cl tgt elt ifs δ F d)(hs:HY X iter:=by intro _;rfl):VLU X (.ListComp elt [#[tg,iter,ifs,0]] sc pos) δ (ds.filterMap F):=by
 obtain⟨wi,pi,qi⟩:=hi;intro B0 B σ H0 H Q f q pins s I;refine Cr (tc:=R5 X sc N cl ifs) (te:=teC X sc N cl elt) hc CS pi hg (λf s3 H3 pins s σ H Q I h=>h f s3 H3 pins s I) (λf s3 H3 pins s σ H Q I h=>h f s3 H3 pins s I) hs pins s σ H Q I ?_
 exact qi B0 B σ H0 H _ f λJ H1 dD g it=>(CT ht hz step (f.grow g) it λp qs Ha Hb g2 a1 a2 a3 #[b1,b2] a5=>q p qs Ha Hb (g.trans g2) (g.big.free a1) a2 a3 #[b1,λz hz=>#[g.big.free (b2 z hz).1,(b2 z hz).2]] a5)
end
def LR(K:aq)(d:aH)(ds:List aj):OR:=λH0 H as=>as=[d]/\∃xs,H d=some (.lst xs)/\cz K H0 xs ds
theorem LR.mono{d:aH}{ds:List aj}:gS (LR K d ds):=λH0 H Ha Hb as #[e,xs,h1,h2] sm hb=>#[e,xs,by rw[hb d (by rw[e];simp)];exact h1,h2.mono sm]
def tH(kl:List (Str×List aj))(cs:List aH):List (Key×V):=(kl.zip cs).map λz=>(aU z.1.1,.ref z.2)
def Yr(K:aq)(H0 H:Hp)(kl:List (Str×List aj))(cs:List aH):Prop:=cs.length=kl.length/\∀(i:Nat)c q,cs[i]?=some c->kl[i]?=some q->∃xs,H c=some (.lst xs)/\cz K H0 xs q.2
section
variable{K:aq}{d a:aH}{day:List aj}{kl:List (Str×List aj)}
theorem Et:∀{kl:List (Str×List aj)}{cs:List aH},cs.length=kl.length->(tH kl cs).map (·.1)=kl.map λq=>(aU q.1:Key)
 | [],[],_=>rfl
 | [],_::_,e=>by cases e
 |_::_,[],e=>by cases e
 |q::h,c::cs,e=>by
  have:=Et ↑e
  unfold tH at this ⊢;rw[dg,aA,aA,this];rfl
theorem Eu:∀{kl:List (Str×List aj)}{cs:List aH},cs.length=kl.length->(tH kl cs).map (·.2)=cs.map V.ref
 | [],[],_=>rfl
 | [],_::_,e=>by cases e
 |_::_,[],e=>by cases e
 |q::h,c::cs,e=>by
  have:=Eu ↑e
  unfold tH at this ⊢;rw[dg,aA,aA,this];rfl
theorem IX:∀{kl:List (Str×List aj)}{cs:List aH}{j:Nat}{q:Str×List aj}{c:aH},(kl.map (·.1)).Nodup->kl[j]?=some q->cs[j]?=some c->gQ (tH kl cs) (aU q.1)=some (.ref c)
 | [],_,_,_,_,_,h,_=>by simp at h
 |_::_,[],_,_,_,_,_,h=>by simp at h
 |p::kl,b::cs,0,q,c,_,h1,h2=>by
  cases h1;cases h2;exact ku rfl
 |p::kl,b::cs,j+1,q,c,nd,h1,h2=>by
  rw[aA,cj]at nd;have Ss:kl[j]?=some q:=by simpa using h1
  have ne:¬(aU p.1:Key)=aU q.1:=λz=>nd.1 (by rw[hU z];exact au.mpr #[q,aK Ss,rfl])
  have e:tH (p::kl) (b::cs)=(aU p.1,V.ref b)::tH kl cs:=rfl;rw[e,jf ne];exact IX nd.2 Ss ↑h2
theorem M3:∀(qs:List (aH×Str×aH)),(qs.map λz:aH×Str×aH=>((z.1,aU z.2.1,V.ref z.2.2):aH×Key×V)).map (·.2)=tH ((qs.map (·.2.1)).map λr=>(r,([]:List aj))) (qs.map (·.2.2))
 | []=>rfl
 |q::qs=>by
  have:=M3 qs;unfold tH at this ⊢;simp[aA,dg]at this ⊢;rw[this]
theorem zr:∀{kl kl':List (Str×List aj)}{cs:List aH},kl'.map (·.1)=kl.map (·.1)->tH kl' cs=tH kl cs
 | [],[],_,_=>rfl
 | [],_::_,_,e=>by cases e
 |_::_,[],_,e=>by cases e
 |q::h,q'::h',cs,e=>by
  obtain⟨e1,e2⟩:=hZ e;cases cs with
  |nil=>rfl
  |cons c cs=>
   show(aU q'.1,V.ref c)::tH h' cs=(aU q.1,V.ref c)::tH h cs
   rw[show q'.1=q.1 from e1,zr e2]
end
section
variable{X:Cx}{B0 B H0 H:Hp}{σ:St}{D:Ends}{δ:List Slot}{a d:aH}{e ek:bK}{dv:aj}{day:List aj}{kl:List (Str×List aj)}{pos px po pa pc pd p0:Pos}{x y:Str}{k j:Nat}{rs:List Str}{ds:List aj}
variable{c:bK}{dp:aj}{R:OR}{p:aH}{body orelse:List fQ}{kb:Bool}
theorem Sv(m:gS R)(G:OF X.K B0 B R H0 H σ δ)(i:Nat)(hi:δ[i]?=some (.ref p))(hR:∀Ha Hb as,cU Ha Hb->R Ha Hb as->Rep X.K (jG as Hb Ha) (.ref p) dp)(h:VT X c (δ.set i (.val dp)) kb)(qT:kb=true->∀H',OF X.K B0 B R H0 H' σ δ->Ay X body D σ H')(qF:kb=false->∀H',OF X.K B0 B R H0 H' σ δ->Ay X orelse D σ H'):
  cS X (.If c body orelse pos) D σ H:=λpins s I=>by
 obtain⟨C0,f1⟩:=G.look hi hR;cases kb with
 |true=>
  exact A4 mS la lU pins s σ H D I (h C0 H σ C0 H _ f1 λC1 H1 g1=>Ui (qT rfl H1 (G.go m (G.own.grow (.far G.fr.sub g1.big)) G.no)))
 |false=>
  exact A4 mS lU la pins s σ H D I (h C0 H σ C0 H _ f1 λC1 H1 g1=>Uh (qF rfl H1 (G.go m (G.own.grow (.far G.fr.sub g1.big)) G.no)))
end
section
variable{X:Cx}{B0 B H0 H:Hp}{σ:St}{D:Ends}{δ:List Slot}{ev:bK}{d:aj}{pos px ps pk:Pos}{x y:Str}{k:Nat}{jk}
end
section
variable{P:bA}{w:cn}{K:aq}{mg:Str->Option aF}{base:cX}{x qual:Str}{st:fQ}{f:aH}{fd:eM}{N ps:List Str}{k:Nat}
end
theorem Ew:∀{xs:List V}{ds:List aj},cz K H xs ds->cz K H xs.reverse ds.reverse
 |_,_,.nil=>.nil
 |_,_,.cons a t=>by
  rw[lL,lL];exact(Ew t).append (.cons a .nil)
section
variable{X:Cx}{e a:bK}{te:TE}{δ:List Slot}{ds:List aj}{pos p2 pu pk:Pos}{j}
end
end L2
namespace L2
open PySem PySem.Spec PyProof.Rows
open AutoSeq1 (wpAny_loadPart')
section
variable{prog:bA}{w:cn}{A:dO}{E:aF->aS->Prop}{s:aS}
end
section
variable{X:Cx}{a:bK}{δ:List Slot}{ds:List aj}{pos:Pos}
end
section
variable{prog:bA}{w:cn}{A:dO}{E:aF->aS->Prop}{s:aS}
end
section
variable{X:Cx}{a:bK}{δ:List Slot}{ds:List aj}{pos Cz p p2:Pos}
end
end L2
namespace L2
open PySem PySem.Spec PyProof.Rows
variable{a b d:aH}{H:Hp}{as:List aH}{ds:List aj}{k:Nat}{R:OR}{K:aq}
section
variable{X:Cx}{st:fQ}{rest:List fQ}{δ δ':List Slot}{o:Out}{ds:List aj}
end
inductive AI:aj->Prop
 |non:AI .none
 |bl (b:Bool):AI (.bool b)
 |int (i:Int):AI (.int i)
 |str (x:Str):AI (.str x)
 |tup {ds:List aj}:(∀d∈ds,AI d)->AI (.tuple ds)
def xV(as:List aH)(H:Hp):Hp:=λb=>if b∈as then none else H b
theorem yn(h:b∈as):xV as H b=none:=qQ3 h
theorem mG(h:b∉as):xV as H b=H b:=qQ2 h
def Ki(H:Hp)(a:aH):Prop:=∀xs,H a≠some (.tup xs)/\∀o,H a≠some (.p_ o (.tup xs))
section
variable{K:aq}{C:Hp}{as:List aH}
theorem oT.out(hn:∀a∈as,Ki C a){xs:List V}(h:oT K C a xs):oT K (xV as C) a xs:=by
 rcases h with(h|⟨o,h⟩)|h
 ·exact .inl (.inl ((mG λz=>(hn a z xs).1 h).trans h))
 ·exact .inl (.inr #[o,by rw[mG λz=>(hn a z xs).2 o h];exact h])
 ·exact .inr h
theorem cz.outs:∀{ds:List aj}{xs:List V},cz K C xs ds->(∀d∈ds,∀v,Rep K C v d->Rep K (xV as C) v d)->cz K (xV as C) xs ds
 | [],_,r,_=>by cases r;exact .nil
 |d::ds,_,r,h=>by
  cases r with
  |cons a t=>exact .cons (h d aM _ a) (cz.outs t λz hz=>h z (aN _ hz))
theorem Rep.out(hn:∀a∈as,Ki C a){d:aj}(h:AI d):∀v,Rep K C v d->Rep K (xV as C) v d:=by
 induction h with
 |non=>intro v r;cases r;exact .non
 |bl b=>intro v r;cases r;exact .bl b
 |int i=>intro v r;cases r;exact .int i
 |str x=>intro v r;cases r;exact .str x
 |tup _ ih=>
  intro v r;cases r with
  |tup hq rs=>exact .tup (hq.out hn) (rs.outs λd hd v r=>ih d hd v r)
end
section
variable{X:Cx}{B0 B H0 H:Hp}{σ:St}{D:Ends}{δ:List Slot}{p:aH}{e:bK}{d dp:aj}{pos px:Pos}{y:Str}{R:OR}
theorem Qn(m:gS R)(G:OF X.K B0 B R H0 H σ δ)(i j:Nat)(hi:δ[i]?=some (.ref p))
  (hF:∀(Ha Hb:Hp)(as:List aH),cU Ha Hb->R Ha Hb as->(∀x∈as,Ha x=none)->∃b ws,b∈as/\Hb b=some (.dK ws)/\∀o,Rep X.K (jG as (upd Hb b (.p_ o (.dK ws))) Ha) (.ref p) dp)
  (hT:∀Ha Hb as,R Ha Hb as->∀a∈as,Ki Hb a)(h:VE X e (δ.set i (.val dp)) d)(hd:AI d)(hn:noOwn (δ.set j (.val d))=true)(q:∀σ' cW H',OF X.K B0 B R cW H' σ' (δ.set j (.val d))->D.nx σ' H')(hN:X.N.Nodup)
  (hj:X.N[j]?=some y:=by rfl)(hx:Loc X.env.scope y:=by left)(qg:A1 X pos e (.Name y px):=by rfl)(hf:A0 X y:=by left):
  cS X (.Assign [.Name y px] e pos) D σ H:=λpins s I=>by
 refine nP hN hj hx cL qg hf pins s σ H D I ?_
 obtain⟨as,h1,h2⟩:=G.ex;obtain⟨b,ws,hb,hbH,hR⟩:=hF H0 H as G.fr.sub h2 λx hx=>(h1 x hx).1
 intro pins s I;obtain⟨o,I'⟩:=I.freeze hbH;have hnf:∀o u,X.H₀ b≠some _:=λo u z=>by
  have:=I.base.v5 b o u z;rw[hbH]at this;cases this
 have s0:cU H0 (jG as (upd H b (.p_ o (.dK ws))) H0):=λc u z=>by
  have hc:c∉as:=λy=>by rw[(h1 c y).1]at z;cases z
  rwa[jO hc]
 have s1:cU (jG as _ H0) (upd H b (.p_ o (.dK ws))):=λc u z=>by
  by_cases hc:c∈as
  ·rwa[jb hc]at z
  ·rw[jO hc]at z
   rw[aL (λy:c=b=>hc (by rw[y];exact hb))]
   exact G.fr.sub c u z
 have hs:=G.fr.slot i _ hi;have f0:fP X.K (jG as (upd H b (.p_ o (.dK ws))) H0) (upd H b (.p_ o (.dK ws))) (jG as (upd H b (.p_ o (.dK ws))) H0) (upd H b (.p_ o (.dK ws))) σ δ:=by
  refine#[.refl s1,G.fr.len,λi sl z=>?_,G.fr.apart]
  have q:=G.fr.slot i sl z;cases sl with
  |un=>trivial
  |ref _=>exact q
  |val d=>obtain⟨v,g1,g2⟩:=q;exact#[v,g1,g2.mono s0]
  |own ds=>exact qQ7 z (gE G.no i ds)
 have f1:=f0.qm (i:=i) (v:=.ref p) (sl:=.val dp) #[_,rfl,hR o] rfl;have es:σ.set i (some (.ref p))=σ:=by
  apply gD;intro j;by_cases h:j=i
  ·subst h;rw[a_ (aJ.mp hs).1,hs]
  ·rw[a7 (bJ h)]
 rw[es]at f1;refine gN (h _ _ σ _ _ (λv H'=>H' b=some (.p_ o _)/\D.nx (σ.set j _) (upd H' b (.dK ws))) f1 (λv Ha Hb g r=>?_) pins s I') λu s1 #[v,H1,I1,r1,hfz,q1]=>#[v,_,I1.zb6 hfz hnf,r1,q1]
 refine#[(g.big _ _ aZ),?_]
 have hAo:∀a∈as,Ki Ha a:=λa ha=>by
  have eq:Ha a=(upd H b (.p_ o (.dK ws))) a:=by
   cases z:(upd H b (.p_ o (.dK ws))) a with
   |none=>
    by_cases y:a=b
    ·subst y;rw[aZ]at z;cases z
    ·rw[aL y]at z;exact qQ7 z ((h1 a ha).2.2)
   |some u=>exact g.fB a u ((jb ha).trans z)
  intro xs;rw[eq];by_cases y:a=b
  ·subst y;rw[aZ];exact#[nofun,λo2 z=>by cases z]
  ·rw[aL y];exact hT H0 H as h2 a ha xs
 have gr:c6 H0 H (xV as Ha) (upd Hb b (.dK ws)):=by
  refine#[λc u z=>?_,λc u z=>?_,λc u z=>?_,λc z=>?_]
  ·by_cases hc:c=b
   ·subst hc;rw[aZ];rwa[hbH]at z
   ·rw[aL hc];exact g.big _ _ ((aL hc).trans z)
  ·have hc:c∉as:=λy=>by rw[(h1 c y).1]at z;cases z
   rw[mG hc];exact g.fB _ _ (s0 c u z)
  ·by_cases hc:c∈as
   ·rw[yn hc]at z;cases z
   ·rw[mG hc]at z
    rw[aL (λy:c=b=>hc (by rw[y];exact hb))];exact g.sub _ _ z
  ·by_cases hc:c∈as
   ·rw[yn hc]at z;exact qQ7 rfl z
   ·rw[mG hc]at z
    rcases g.new c z with y|y
    ·rw[jO hc]at y;exact .inl y
    ·rw[aL (λy:c=b=>hc (by rw[y];exact hb))]at y;exact .inr y
 have G1:=G.go m (G.own.grow gr) G.no;exact q _ _ _ (G1.go m (G1.own.qm (sl:=.val d) #[_,rfl,Rep.out hAo hd v r] rfl) hn)
end
def qo(K:aq)(S:Type)(PR:aH->S->OR)(n1:Nat)(ok:S->List aj->List aj->S->Prop):Sp:=λvs H Q _=>∃(H0:Hp)(p:aH)(v1 v2:List V)(as:List aH)(s s':S)(d1 d2:List aj),vs=v1 ++ .ref p::v2/\d1.length=n1/\cU H0 H/\cz K H0 v1 d1/\cz K H0 v2 d2/\(∀a∈as,H0 a=none/\H a≠none)/\PR p s H0 H as/\ok s d1 d2 s'/\
 ∀(cW H':Hp)(as':List aH),cU H0 cW->cU cW H'->(∀a,cW a≠none->H0 a≠none\/H a=none)->(∀a∈as',cW a=none/\H' a≠none/\(a∈as\/H a=none))->(∀b o,H b=some o->b∉as->H' b=some o)->PR p s' cW H' as'->Q .non H'
section
variable{X:Cx}{B0 B H0 H:Hp}{σ:St}{D:Ends}{δ:List Slot}{p:aH}{e1 e2 e3:bK}{d1 d2 d3:aj}{pos px:Pos}{x:Str}
theorem Vf{S:Type}{PR:aH->S->OR}{R': OR}{ok:S->List aj->List aj->S->Prop}{f:Str}{ps:List Str}{p0 p1 pc:Pos}{s s':S}(C:bB X.prog X.w X.K X.mg X.base k f ps (qo X.K S PR 2 ok))(hr:eB k X.A)(G:OF X.K B0 B R H0 H σ δ)(m:gS R)(i:Nat)(hi:δ[i]?=some (.ref p))(h1:VE X e1 δ d1)(h2:VE X e2 δ d2)(h3:VE X e3 δ d3)(hok:ok s [d1,d2] [d3] s')
  (cut:∀(Ha Hb:Hp)(as:List aH),R Ha Hb as->∃a1 a2:List aH,(∀a,a∈as↔a∈a1\/a∈a2)/\(∀a∈a1,a∉a2)/\PR p s Ha Hb a1/\∀(Hc Hd:Hp)(a3:List aH),cU Ha Hc->(∀a∈a2,Hd a=Hb a)->(∀a∈a2,a∉a3)->PR p s' Hc Hd a3->∃a4:List aH,(∀a∈a4,a∈a3\/a∈a2)/\R' Hc Hd a4)
  (q:∀cW H',OF X.K B0 B R' cW H' σ δ->D.nx σ H')
  (hN:rA X i x:=by ac_rfl)
  (hg:Gl X f:=by rfl)(u9:xP f:=by decide)(he:starEach [e1,e2,.Name x p0,e3] X.env=(false,eval e1 X.env)::starEach [e2,.Name x p0,e3] X.env:=by rfl)(PK:starEach [e2,.Name x p0,e3] X.env=(false,eval e2 X.env)::starEach [.Name x p0,e3] X.env:=by rfl)(Ys:starEach [.Name x p0,e3] X.env=(false,eval (.Name x p0) X.env)::starEach [e3] X.env:=by rfl)(he4:kZ X e3 []:=by rfl)(mD:tF X pc [e2,.Name x p0,e3]:=by rfl)
  (qg:OG X pos (.Call (.Name f p1) [e1,e2,.Name x p0,e3] [] pc):=by rfl):
  cS X (.Expr (.Call (.Name f p1) [e1,e2,.Name x p0,e3] [] pc) pos) D σ H:=λpins s0 I=>by
 obtain⟨fa,fd,F,hm,hk,hb⟩:=C;refine ja (sH F hr hg hm hk hb .nil yQ (cN cL (cN cL (cN (uU hN) (cN cL eG he4) Ys) PK) he) u9 he mD) qg pins s0 σ H D I ?_
 refine h1 H0 H σ H0 H _ G.own λv1 Ha Ha' ga ra=>?_
 have Ga:=G.go m (G.own.grow ga) G.no;refine h2 Ha Ha' σ Ha Ha' _ Ga.own λv2 Hb Hb' gb rb=>?_
 have Gb:=Ga.go m (Ga.own.grow gb) Ga.no;refine#[_,Gb.fr.slot i _ hi,?_]
 refine h3 Hb Hb' σ Hb Hb' _ Gb.own λv3 H1 dD gc rc=>?_
 have G1:=Gb.go m (Gb.own.grow gc) Gb.no;obtain⟨as,o1,o2⟩:=G1.ex;obtain⟨a1,a2,hs,hdj,hP,back⟩:=cut H1 dD as o2;refine#[H1,p,_,[v3],a1,s,s',_,[d3],rfl,rfl,G1.fr.sub,.cons ((ra.mono gb.fB).mono gc.fB) (.cons (rb.mono gc.fB) .nil),.cons rc .nil,λa ha=>#[(o1 a ((hs a).mpr (.inl ha))).1,(o1 a ((hs a).mpr (.inl ha))).2.2],hP,hok,λcW H' as' z1 z2 z3 z4 z5 z6=>?_]
 have Sw:∀a∈a2,H' a=dD a:=λa ha=>by
  cases e:dD a with
  |none=>exact qQ7 e ((o1 a ((hs a).mpr (.inr ha))).2.2)
  |some o=>exact z5 a o e λy=>hdj a y ha
 obtain⟨a4,hs4,hR⟩:=back cW H' as' z1 Sw (λa ha y=>by
  rcases(z4 a y).2.2 with w|w
  ·exact hdj a w ha
  ·exact(o1 a ((hs a).mpr (.inr ha))).2.2 w) z6
 have hB:∀b,B b≠none->b∉as:=λb hb z=>hb (o1 b z).2.1
 refine q cW H' #[#[#[λb u e=>z5 b u (G1.fr.ent.big b u e) λy=>hB b (by rw[e];simp) ((hs b).mpr (.inl y)),G1.fr.ent.fB.trans z1,z2,λb z=>?_],G1.fr.len,λj sl e=>?_,G1.fr.apart],G1.no,a4,λa ha=>?_,hR]
 ·rcases z3 b z with z|z
  ·exact G1.fr.ent.new b z
  ·exact .inr (G1.fr.ent.big.free z)
 ·have qq:=G1.fr.slot j sl e
  cases sl with
  |un=>trivial
  |ref _=>exact qq
  |val d=>obtain⟨v,g1,g2⟩:=qq;exact#[v,g1,g2.mono z1]
  |own ds=>exact qQ7 e (gE G1.no j ds)
 ·rcases hs4 a ha with y|y
  ·obtain⟨y1,y2,y3⟩:=z4 a y
   refine#[y1,?_,y2]
   rcases y3 with y3|y3
   ·exact(o1 a ((hs a).mpr (.inl y3))).2.1
   ·exact G1.fr.ent.big.free y3
  ·obtain⟨w1,w2,w3⟩:=o1 a ((hs a).mpr (.inr y))
   refine#[?_,w2,by rw[Sw a y];exact w3]
   cases e:cW a with
   |none=>rfl
   |some o=>
    rcases z3 a (by rw[e];simp)with w|w
    ·exact qQ7 w1 w
    ·exact qQ7 w w3
end
def Gs(l:List Int):aj:=.dict (l.map λg=>(.int g,.bool true))
theorem IY:∀{l:List Int}{ws:List (Key×V)},(ws.map λp=>nh p.1)=(l.map λg=>c9 g)->ws.map (·.1)=l.map (λg=>(jw g:Key))
 | [],[],_=>rfl
 | [],_::_,e=>by simp at e
 |_::_,[],e=>by simp at e
 |g::l,q::ws,e=>by
  rw[aA,aA]at e ⊢
  injection e with h1 h2
  rw[IY h2]
  congr 1
  cases eq:q.1 with
  |inl i=>rw[eq]at h1;injection h1 with h1;rw[h1]
  |inr x=>rw[eq]at h1;cases h1
theorem Rep.M4{v:V}{l:List Int}(r:Rep K H v (Gs l)):∃a ws,v=.ref a/\H a=some (.dK ws)/\ws.map (·.1)=l.map (λg=>(jw g:Key)):=by
 unfold Gs at r
 generalize e:l.map (λg=>(c9 g,i_ true))=ds at r
 cases r with
 |dct h k t=>exact#[_,_,rfl,h,IY (by rw[<-k,<-e,aB];rfl)]
 |R3 h k t=>cases l<;>simp at e
 |obj h c n k t=>cases l<;>simp at e
 |Uv h k t=>cases l<;>simp at e
theorem Ey:∀{l:List Int}{ws:List (Key×V)}(x:Int),ws.map (·.1)=l.map (λg=>(jw g:Key))->(gQ ws (jw x)).isSome=decide (x∈l)
 | [],[],x,_=>by simp[gQ]
 | [],_::_,_,e=>by simp at e
 |_::_,[],_,e=>by simp at e
 |g::l,q::ws,x,e=>by
  rw[aA,aA]at e
  injection e with e1 e2
  have ih:=Ey x e2;unfold gQ at ih ⊢;rw[cO,e1]
  by_cases h:g=x
  ·rw[qQ1 (by rw[h]),qQ1 (by simp[h])];rfl
  ·rw[qQ0 (λz=>h (DJ z))]
   show(Option.map _ (List.find? _ ws)).isSome=_
   rw[ih];rw[eY,decide_eq_true_iff,decide_eq_true_iff,ax];exact#[.inr,λz=>z.resolve_left λy=>h y.symm]
section
variable{X:Cx}{a b:bK}{δ:List Slot}{pos px:Pos}{k:Nat}{x:Int}{l:List Int}{y:Str}{ds:List aj}
theorem Gu(hr:eB k X.A)(h2:VE X b δ (.int x))(h1:VE X a δ (Gs l))(hm:behindInMarks .NotIn a=false:=by with_unfolding_all rfl):VT X (.Compare b [.NotIn] [a] pos) δ (!decide (x∈l)):=
 .of (Ls (Bd (DI hr) cL cL) hm) λB0 B σ H0 H Q fr q=>h2 B0 B σ H0 H _ fr λu H1 dD g r2=>h1 B0 B σ H1 dD _ (fr.grow g) λv H2 fX g2 r=>by
  obtain⟨p,ws,rfl,hp,ke⟩:=r.M4;cases r2;refine#[p,_,rfl,nQ.k (k:=.inl x) (g2.sub _ _ hp),_,rfl,?_]
  rw[Ey x ke];exact q H2 fX (g.trans g2)
theorem fP.Sx{B0 B H0: Hp}{σ:St}{i:Nat}{p:aH}{ys:List V}{es:List aj}(f:fP K B0 B H0 H σ δ)(hi:δ[i]?=some (.own ds))(hp:σ[i]?=some (some (.ref p)))(r:cz K H0 ys es):fP K B0 B H0 (upd H p (.lst ys)) σ (δ.set i (.own es)):=by
 obtain⟨p',xs',e1,e2,e3,e4,e5⟩:=f.slot i _ hi;rw[hp]at e1;obtain rfl:p=p':=by cases e1;rfl
 refine#[#[λb u z=>?_,f.ent.fB,λb u z=>?_,f.ent.new],by rw[kW];exact f.len,λj sl z=>?_,λj l as bs q Vg z1 z2 z3=>?_]
 ·rw[aL (bC z e4)];exact f.ent.big _ _ z
 ·rw[aL (bC z e3)];exact f.sub _ _ z
 ·by_cases hj:j=i
  ·subst hj
   rw[a_ (aJ.mp hi).1]at z
   cases z;exact#[p,ys,hp,aZ,e3,e4,r]
  ·rw[a7 (bJ hj)]at z
   have q:=f.slot j sl z;cases sl with
   |un=>trivial
   |ref _=>exact q
   |val d=>exact q
   |own as=>
    obtain⟨p2,XS,g1,g2,g3,g4,g5⟩:=q;refine#[p2,XS,g1,?_,g3,g4,g5]
    rwa[aL (λy=>by subst y;exact f.apart j i as ds p2 hj z hi g1 hp)]
 ·have key:∀(n:Nat)(cs:List aj),(δ.set i (.own es))[n]?=some (.own cs)->∃cs',δ[n]?=some (.own cs'):=λn cs y=>by
   by_cases hn:n=i
   ·subst hn;exact#[_,hi]
   ·rw[a7 (bJ hn)]at y;exact#[_,y]
  obtain⟨as',y1⟩:=key j as z1;obtain⟨bs',y2⟩:=key l bs z2;exact f.apart j l as' bs' q Vg y1 y2 z3
theorem Gv(i:Nat){ap p0:Pos}(hi:δ[i]?=some (.own ds))(hN:rA X i y:=by ac_rfl)
  (gj:yc X (.Name y p0) "reverse":=by rfl)(hline:(ap.endLine==px.line)=true:=by rfl)(qg:OG X pos (.Call (.Attribute (.Name y p0) "reverse" ap) [] [] px):=by rfl):
  VS X (.Expr (.Call (.Attribute (.Name y p0) "reverse" ap) [] [] px) pos) δ (.nx (δ.set i (.own ds.reverse))):=λB0 B σ H0 H D f ok pins s I=>by
 refine ja (L0 cB PySem.F.slot_list_reverse PySem.F.type_list_reverse F6 (uU hN) gj hline) qg pins s σ H D I ?_
 obtain⟨p,xs,h1,h2,h3,h4,h5⟩:=f.slot i _ hi;exact#[_,h1,.inl #[rfl,_,jy.of h2],(#[p,xs,rfl,rfl,h2,ok σ H0 _ (cU.refl _) (f.Sx hi h1 (Ew h5))])]
end
section
variable{X:Cx}{B0 B H0 H:Hp}{σ:St}{D:Ends}{δ:List Slot}{p b:aH}{e ek tg iter:bK}{body:List fQ}{d dp:aj}{ds:List aj}{pos px ps:Pos}{x y:Str}{R R':OR}{k:Nat}{κ:Key}
theorem OF.list(G:OF X.K B0 B R H0 H σ δ){i:Nat}(hi:δ[i]?=some (.ref p))(hR:∀Ha Hb as,cU Ha Hb->R Ha Hb as->Rep X.K (jG as Hb Ha) (.ref p) dp)(h:VO X e (δ.set i (.val dp)) ds)(hs:∀d∈ds,Bl d=true){Q:V->Hp->Prop}(q:∀v Ha Hb,c6 H0 H Ha Hb->Rep X.K Ha v (.list ds)->Q v Hb):cE X e σ H Q:=by
 obtain⟨C0,f1⟩:=G.look hi hR;refine h C0 H σ C0 H _ f1 λa xs C1 H1 g h1 h2 h3 r=>?_
 have sm:cU H0 (upd H0 a (.lst xs)):=λb u z=>by rw[aL (bC z (G.fr.sub.free h1))];exact z
 refine q _ _ H1 #[g.big,sm,λb u z=>?_,λb z=>?_] (.lst (jy.of aZ) (r.J3 hs))
 ·by_cases hb:b=a
  ·subst hb;rw[aZ]at z;rwa[<-z]
  ·rw[aL hb]at z;exact g.big b u (G.fr.sub b u z)
 ·by_cases hb:b=a
  ·subst hb;exact .inr h1
  ·rw[aL hb]at z;exact .inl z
theorem Vh{tgt:Fx}(Rs:Nat->OR)(m:∀k,gS (Rs k))(G:OF X.K B0 B (Rs 0) H0 H σ δ)(hp:tj (model X.prog X.w) X.A X.env X.xe)(hc:X.calm=true)(he:∀Q:V->Hp->Prop,(∀v Ha Hb,c6 H0 H Ha Hb->Rep X.K Ha v (.list ds)->Q v Hb)->cE X iter σ H Q)(hg:PG X tg (Ge X.K tgt))
  (step:∀k d,ds[k]?=some d->∃δ',vi tgt d δ=some δ'/\noOwn δ'=true/\∀(D:Ends)C0 σ' cW H',OF X.K C0 B (Rs k) cW H' σ' δ'->(∀σ2 Ha Hb,OF X.K C0 B (Rs (k+1)) Ha Hb σ2 δ->D.nx σ2 Hb)->Ay X body D σ' H')
  (q:∀σ2 Ha Hb,OF X.K B0 B (Rs ds.length) Ha Hb σ2 δ->D.nx σ2 Hb)
  (hs:HY X iter:=by intro _;rfl):cS X (.For tg iter body [] pos) D σ H:=λpins s I=>by
 refine Cb hp hc (B_ cL) hg la hs pins s σ H D I ?_
 refine he _ λv H1 dD g r=>?_
 cases r with
 |lst hq r=>
 refine#[_,rfl,#[_,g.sub.seq hq],?_]
 have G1:=G.go (m 0) (G.own.grow g) G.no;refine#[λi mm σ' H'=>i<=ds.length/\mm=ds.length-i/\∃Ha,OF X.K H1 B (Rs i) Ha H' σ' δ,#[_,bj _,rfl,H1,G1.from #[G1.fr.ent.big,cU.refl _,G1.fr.sub,λ_ z=>.inl z]],?_]
 rintro i mm σ' H' ⟨hi,rfl,Ha,Ga⟩
 have hl:=r.length;have hS:=(Ga.fr.ent.fB.trans Ga.fr.sub).seq hq;by_cases m_:i<ds.length
 ·have hd:ds[i]?=some ds[i]:=by simp[m_]
  obtain⟨δ',e1,e2,e3⟩:=step i _ hd;obtain⟨x,hx,_⟩:=r.get hd;refine .inr #[#[_,x,hS,hx],λσ'' Bf=>∃Hb,_,λσ'' Bf #[Hb,z]=>#[_,∅,m_,rfl,Hb,z],λv H2 #[e,y]=>?_]
  subst e;refine rM Ga.own ((r.mono Ga.fr.ent.fB).at hd (y _ hS)) e1 λσ3 f3=>?_
  exact e3 _ H1 σ3 _ _ (Ga.go (m i) f3 e2) λσ2 Hc Hd z=>#[Hc,z]
 ·have e:i=ds.length:=∅
  subst e;refine .inl #[#[_,hS,∅],q σ' Ha H' (Ga.from #[Ga.fr.ent.big,G1.fr.ent.fB.trans Ga.fr.ent.fB,Ga.fr.sub,λb z=>?_])]
  rcases Ga.fr.ent.new b z with z|z
  ·exact G1.fr.ent.new b z
  ·exact .inr z
theorem Qo(m:gS R)(G:OF X.K B0 B R H0 H σ δ)(hr:eB k X.A)(i:Nat)(hi:δ[i]?=some (.ref b))(hR:∀Ha Hb as,cU Ha Hb->R Ha Hb as->Rep X.K (jG as Hb Ha) (.ref b) dp)(h:VO X e (δ.set i (.val dp)) ds)(hsc:∀d∈ds,Bl d=true)(hk:VE X ek δ (nh κ))
  (hb:∀Ha Hb as,R Ha Hb as->∃kvs,b∈as/\Hb b=some (.dK kvs)/\kvs.length<sizeLine/\∀p xs,p∉as->Hb p=some (.lst xs)->cz X.K Ha xs ds->∃as',(∀a∈as',a=p\/a∈as)/\R' Ha (upd Hb b (.dK (putK kvs κ (.ref p)))) as')
  (q:∀cW H',OF X.K B0 B R' cW H' σ δ->D.nx σ H')
  (hN:rA X i x:=by ac_rfl)
  (hs:A1 X pos e (.Subscript (.Name x px) ek ps):=by rfl):
  cS X (.Assign [.Subscript (.Name x px) ek ps] e pos) D σ H:=λpins s I=>by
 refine sJ (DI hr) (uU hN) cL cL hs pins s σ H D I ?_
 obtain⟨C0,f1⟩:=G.look hi hR;refine h C0 H σ C0 H _ f1 λa xs C1 H1 g h1 h2 h3 r=>?_
 have G1:=G.go m (G.own.grow (.far G.fr.sub g.big)) G.no;refine#[_,G1.fr.slot i _ hi,hk H0 H1 σ H0 H1 _ G1.own λu H2 fX g2 r2=>?_]
 obtain rfl:=zq r2;have G2:=G1.go m (G1.own.grow g2) G1.no;obtain⟨as,o0,o00⟩:=G.ex;have ha:=λz=>(o0 a z).2.2 h1
 have o1:∀c∈as,H2 c=none/\B c=none/\fX c≠none:=λc hc=>by
  obtain⟨y1,y2,y3⟩:=o0 c hc;cases z:H c with
  |none=>exact qQ7 z y3
  |some o=>exact#[g2.still y1 (g.big _ _ z),y2,by rw[g2.big _ _ (g.big _ _ z)];exact nofun]
 obtain⟨kvs,k1,k2,k3,k4⟩:=hb _ _ _ (m _ _ _ _ _ o00 g2.fB λc hc=>((g.big.trans g2.big).eq (o0 c hc).2.2));have a2:H2 a=none:=g2.still (G.fr.sub.free h1) h3;have a2':=g2.big _ _ h3;refine#[b,_,rfl,xS.k (k:=κ) k2 k3,?_]
 have ab:a≠b:=λz=>by rw[z,k2]at a2';cases a2'
 obtain⟨as',s1,s2⟩:=k4 a xs ha a2' (r.J3 hsc);obtain⟨w1,w2,w3⟩:=o1 b k1;refine q _ _ #[G2.fr.touch w1 w2 (gE G2.no),G2.no,as',λc hc=>?_,s2]
 rcases s1 c hc with rfl|hc
 ·exact#[a2,G.fr.ent.big.free h1,by rw[aL ab,a2'];exact nofun]
 ·obtain⟨w1,w2,w3⟩:=o1 c hc
  refine#[w1,w2,?_]
  by_cases e:c=b
  ·subst e;rw[aZ];exact nofun
  ·rwa[aL e]
end
def oB(a0:List aH)(R:OR):OR:=λH0 H as=>(∀a∈a0,a∈as)/\∃tV,(∀a∈tV,a∈as)/\R H0 H tV
theorem oB.mono{a0:List aH}(m:gS R):gS (oB a0 R):=λ_ _ _ _ _ #[h1,tV,h2,h3] sm hb=>#[h1,tV,h2,m _ _ _ _ _ h3 sm λa ha=>hb a (h2 a ha)]
section
variable{K:aq}{B0 B H0 H Ha Hb:Hp}{σ:St}{δ:List Slot}{R R':OR}{as:List aH}
theorem M5:cU (xV as H) H:=λb u e=>by
 by_cases h:b∈as
 ·rw[yn h]at e;cases e
 ·rwa [mG h]at e
theorem CV(own:∀a∈as,H0 a=none/\H a≠none)(r:R H0 H as)(f:fP K H0 H H0 H σ δ)(hn:noOwn δ=true):OF K H0 (xV as H) (oB as R) H0 H σ δ:=
 #[f.re hn #[M5,cU.refl _,f.sub,λ_ z=>.inl z],hn,as,λa ha=>#[(own a ha).1,yn ha,(own a ha).2],λ_ z=>z,as,λ_ z=>z,r]
theorem M6(G:OF K H0 (xV as H) (oB as R) Ha Hb σ δ):cU H0 Ha/\cU Ha Hb/\(∀a,Ha a≠none->H0 a≠none\/H a=none)/\(∀b o,H b=some o->b∉as->Hb b=some o)/\∃as',(∀a∈as',Ha a=none/\Hb a≠none/\(a∈as\/H a=none))/\R Ha Hb as':=by
 obtain⟨bs,h1,h2,tV,h3,h4⟩:=G.ex;have out:∀a,xV as H a=none->a∈as\/H a=none:=λa z=>by
  by_cases h:a∈as
  ·exact .inl h
  ·rw[mG h]at z;exact .inr z
 refine#[G.fr.ent.fB,G.fr.sub,λa z=>?_,λb o z hb=>G.fr.ent.big b o ((mG hb).trans z),tV,λa ha=>?_,h4]
 ·rcases G.fr.ent.new a z with y|y
  ·exact .inl y
  ·rcases out a y with y|y
   ·exact qQ7 (h1 a (h2 a y)).1 z
   ·exact .inr y
 ·obtain⟨z1,z2,z3⟩:=h1 a (h3 a ha)
  exact#[z1,z3,out a z2]
theorem OF.puts(G:OF K B0 B R H0 H σ δ)(m:gS R):∃as,R H0 H as/\∀{Ha Hb:Hp}(_:c6 H0 H Ha Hb){x:aH}{o:HO}{R':OR},x∈as->(∃as',(∀a∈as',a∈as)/\R' Ha (upd Hb x o) as')->OF K B0 B R' Ha (upd Hb x o) σ δ:=by
 obtain⟨as,h1,h2⟩:=G.ex;refine#[as,h2,λ{Ha Hb}g{x o R'}hx #[as',hs,r']=>?_]
 have G1:=G.go m (G.own.grow g) G.no;have Ss:∀a∈as,Ha a=none/\B a=none/\Hb a≠none:=λa ha=>by
  obtain⟨y1,y2,y3⟩:=h1 a ha;cases z:H a with
  |none=>exact qQ7 z y3
  |some o=>exact#[g.still y1 z,y2,by rw[g.big _ _ z];exact nofun]
 obtain⟨z1,z2,z3⟩:=Ss x hx;refine#[G1.fr.touch z1 z2 (gE G1.no),G1.no,as',λb hb=>?_,r']
 obtain⟨w1,w2,w3⟩:=Ss b (hs b hb);refine#[w1,w2,?_]
 by_cases e:b=x
 ·subst e;rw[aZ];exact nofun
 ·rwa[aL e]
end
def Sy(R:aH->OR):UR:=λB v H0 H=>∃a as,v=.ref a/\(∀x∈as,B x=none/\H0 x=none/\H x≠none)/\R a H0 H as
theorem zt{R:aH->OR}:Sr (Sy R):=λ_ _ _ _ _ s #[a,as,e,h1,h2]=>#[a,as,e,λx hx=>#[s.free (h1 x hx).1,(h1 x hx).2],h2]
def VD(X:Cx)(e:bK)(δ:List Slot)(l:List (Str×aj)):Prop:=∀B0 B σ H0 H Q,fP X.K B0 B H0 H σ δ->
 (∀p ws cW H',c6 H0 H cW H'->H p=none->cW p=none->H' p=some (.dK ws)->ws.map (·.1)=l.map (λq=>(aU q.1:Key))->cz X.K cW (ws.map (·.2)) (l.map (·.2))->Q (.ref p) H')->cE X e σ H Q
def DL(K:aq)(a:aH)(kl:List (Str×List aj)):OR:=λH0 H as=>∃cs,as=a::cs/\(a::cs).Nodup/\H a=some (.dK (tH kl cs))/\Yr K H0 H kl cs
theorem DL.mono{kl:List (Str×List aj)}:gS (DL K a kl):=by
 rintro H0 H Ha Hb as ⟨cs,rfl,nd,h3,h4,h5⟩ sm hb
 refine#[cs,rfl,nd,by rw[hb a (by simp)];exact h3,h4,λi c q e1 e2=>?_]
 obtain⟨ys,y1,y2⟩:=h5 i c q e1 e2;exact#[ys,by rw[hb c (by simp[aK e1])];exact y1,y2.mono sm]
section
variable{X:Cx}{B0 B H0 H:Hp}{σ:St}{D:Ends}{δ:List Slot}{a p:aH}{e:bK}{d:aj}{pos px pc p0:Pos}{x:Str}{R:aH->OR}{R':OR}{rs:List Str}{l:List (Str×aj)}
theorem M7(h:VE X e δ (.list (l.map pairD)))(hn:(l.map (·.1)).Nodup)(hc:X.calm=true)(hm:X.mg "dict"=none)(hg:Gl X "dict":=by rfl)(Yt:kZ X e []:=by rfl)(mD:tF X pc []:=by rfl):VD X (.Call (.Name "dict" p0) [e] [] pc) δ l:=λB0 B σ H0 H Q f q pins s I=>
 nE (lW hc) hg hm rfl (cN cL eG Yt) ⋯ ⋯ Yt mD pins s σ H Q I (h B0 B σ H0 H _ f λv H1 dD g rv=>by
  cases rv with
  |lst hq rs=>
   obtain⟨qs,e1,e2,e3,e4⟩:=zo rs;subst e1;have e3':(qs.map (·.2)).map (·.1)=l.map (λq=>(aU q.1:Key)):=by rw[aB];exact e3
   refine#[_,qs,rfl,g.sub.seq hq,λq F1=>g.sub.oU (e2 q F1),λp hp=>?_]
   rw[oA _ [] (by
    rw[eZ,e3',show(l.map λp=>(aU p.1:Key))=(l.map (·.1)).map aU by rw[aB];rfl]
    exact mY _ (λa b X' z=>X' (hU z)) hn),eZ]
   exact q p _ H1 _ (g.trans (.loose g.sub hp)) (g.big.free hp) (g.sub.free hp) aZ e3' (by rw[aB];exact e4))
theorem M8(f:fP X.K B0 B H0 H σ δ)(i:Nat)(h:VU X e δ (Sy R))(hN:X.N.Nodup)(hn:∀p,noOwn (δ.set i (.ref p))=true)(q:∀a σ' cW H',OF X.K B0 B (R a) cW H' σ' (δ.set i (.ref a))->D.nx σ' H')
  (hi:X.N[i]?=some x:=by rfl)(hx:Loc X.env.scope x:=by left)(hs:A1 X pos e (.Name x px):=by rfl)(hf:A0 X x:=by left):
  cS X (.Assign [.Name x px] e pos) D σ H:=λpins s I=>by
 refine nP hN hi hx cL hs hf pins s σ H D I (h B0 B σ H0 H _ f λv H1 dD g u=>?_)
 obtain⟨a,as,rfl,h1,h2⟩:=u;exact q a _ H1 _ #[(f.grow g).qm rfl rfl,hn a,as,λb hb=>#[(h1 b hb).2.1,f.ent.big.free (h1 b hb).1,(h1 b hb).2.2],h2]
theorem Qp(h:VU X e δ (Sy R))(hR:∀a Ha Hb as,cU Ha Hb->R a Ha Hb as->Rep X.K (jG as Hb Ha) (.ref a) d):VE X e δ d:=λB0 B σ H0 H Q f q=>h B0 B σ H0 H _ f λv Ha Hb g u=>by
 obtain⟨a,as,rfl,h1,h2⟩:=u;refine q _ _ Hb #[g.big,g.fB.trans (lj g.sub),ym g.sub,λb z=>?_] (hR a Ha Hb as g.sub h2)
 by_cases hb:b∈as
 ·exact .inr (h1 b hb).1
 ·rw[jO hb]at z;exact g.new b z
theorem Vi(G:OF X.K B0 B R' H0 H σ δ)(i:Nat)(hi:δ[i]?=some (.ref p))(hR:∀Ha Hb as,R' Ha Hb as->∃tV,(∀a∈tV,a∈as)/\R p Ha Hb tV)(q:∀v cW H',c6 B0 B cW H'->Sy R B v cW H'->D.rt v H')
  (hN:rA X i x:=by ac_rfl):
  cS X (.Return (some (.Name x px)) pos) D σ H:=λpins s I=>v8 (uU hN) pins s σ H D I (by
 obtain⟨as,h1,h2⟩:=G.ex;obtain⟨tV,h3,h4⟩:=hR _ _ _ h2;exact#[_,G.fr.slot i _ hi,q _ H0 H G.fr.ent #[p,tV,rfl,λx hx=>#[(h1 x (h3 x hx)).2.1,(h1 x (h3 x hx)).1,(h1 x (h3 x hx)).2.2],h4]])
theorem M9(f:fP X.K B0 B H0 H σ δ)(i:Nat)(h:VLU X e δ rs)(Wn:rs.Nodup)(hc:X.calm=true)(hm:X.mg "dict"=none)(hN:X.N.Nodup)(hn:∀p,noOwn (δ.set i (.ref p))=true)(q:∀p σ' cW H',OF X.K B0 B (DL X.K p (rs.map λr=>(r,[]))) cW H' σ' (δ.set i (.ref p))->D.nx σ' H')
  (hg:Gl X "dict":=by rfl)(Yt:kZ X e []:=by rfl)(mD:tF X pc []:=by rfl)
  (hi:X.N[i]?=some x:=by rfl)(hx:Loc X.env.scope x:=by left)(hs:A1 X pos (.Call (.Name "dict" p0) [e] [] pc) (.Name x px):=by rfl)(hf:A0 X x:=by left):
  cS X (.Assign [.Name x px] (.Call (.Name "dict" p0) [e] [] pc) pos) D σ H:=λpins s I=>by
 refine nP hN hi hx (nE (lW hc) hg hm rfl (cN cL eG Yt) ⋯ ⋯ Yt mD) hs hf pins s σ H D I ?_
 refine h B0 B σ H0 H _ f λp qs H1 dD g hp hp1 zcc ow hrs=>?_
 have f1:=f.grow g;refine#[p,qs.map λz=>(z.1,aU z.2.1,.ref z.2.2),rfl,jy.of (by rw[zcc,aB];rfl),λz hz=>?_,λl hl=>?_]
 ·obtain⟨z0,Z8,rfl⟩:=au.mp hz
  exact oT.of (ow.2 z0 Z8).2.2.1
 ·have Yu:((qs.map λz:aH×Str×aH=>((z.1,aU z.2.1,V.ref z.2.2))).map (·.2)).map (·.1)=rs.map λr=>(aU r:Key):=by
   rw[<-hrs];simp only[aB];rfl
  have zce:mw [] ((qs.map λz:aH×Str×aH=>((z.1,aU z.2.1,V.ref z.2.2))).map (·.2))=tH (rs.map λr=>(r,([]))) (qs.map (·.2.2)):=by
   rw[oA _ _ (by rw[eZ,Yu];exact List.pairwise_map.mpr (Wn.imp λh z=>h (hU z))),eZ,<-hrs]
   exact M3 qs
  rw[zce];have Pg:∀c∈qs.map (·.2.2),H c=none/\H1 c=none/\dD c=some (.lst []):=λc hc=>by
   obtain⟨z,hz,rfl⟩:=au.mp hc;obtain⟨w1,w2,_,w4⟩:=ow.2 z hz;exact#[w1,w2,w4]
  have lc:∀c∈qs.map (·.2.2),c≠l:=λc hc z=>by have:=(Pg c hc).2.2;rw[z,hl]at this;cases this
  refine q l _ H1 _ #[(f1.grow (.loose f1.sub hl)).qm rfl rfl,hn l,_,λb hb=>?_,_,rfl,?_,aZ,?_,λn c z e1 e2=>?_]
  ·rcases ax.mp hb with rfl|hb
   ·exact#[f1.sub.free hl,f1.ent.big.free hl,by rw[aZ];simp]
   ·obtain⟨w1,w2,w3⟩:=Pg b hb
    exact#[w2,f.ent.big.free w1,by rw[aL (lc b hb),w3];simp]
  ·exact cj.mpr #[λz=>lc l z rfl,ow.1]
  ·rw[<-hrs];simp
  ·refine#[[],by rw[aL (lc c (aK e1))];exact(Pg c (aK e1)).2.2,?_]
   rw[ay]at e2
   cases e3:rs[n]? with
   |none=>rw[e3]at e2;cases e2
   |some r=>rw[e3]at e2;cases e2;exact .nil
end
def mZ(K:aq)(R:OR)(d:aH)(ds:List aj):OR:=λH0 H as=>∃tV xs,as=d::tV/\d∉tV/\R H0 H tV/\H d=some (.lst xs)/\cz K H0 xs ds
theorem mZ.mono(m:gS R):gS (mZ K R d ds):=by
 rintro H0 H Ha Hb as ⟨tV,xs,rfl,h1,h2,h3,h4⟩ sm hb
 exact#[tV,xs,rfl,h1,m _ _ _ _ _ h2 sm λa ha=>hb a (by simp[ha]),by rw[hb d (by simp)];exact h3,h4.mono sm]
theorem mZ.rep(Ha Hb:Hp)(as:List aH)(s:cU Ha Hb)(h:mZ K R d ds Ha Hb as):Rep K (jG as Hb Ha) (.ref d) (.list ds):=by
 obtain⟨tV,xs,rfl,h1,h2,h3,h4⟩:=h;exact .lst (jy.of ((jb (by simp)).trans h3)) (h4.mono (lj s))
section
variable{X:Cx}{B0 B H0 H:Hp}{σ:St}{D:Ends}{δ:List Slot}{d:aH}{e:bK}{dv:aj}{ds:List aj}{pos px pa pc pd:Pos}{x:Str}{R:OR}
theorem Qq(m:gS R)(G:OF X.K B0 B R H0 H σ δ)(i:Nat)(hN:X.N.Nodup)(hn:∀p,noOwn (δ.set i (.ref p))=true)(q:∀p σ' H',OF X.K B0 B (mZ X.K R p []) H0 H' σ' (δ.set i (.ref p))->D.nx σ' H')
  (hi:X.N[i]?=some x:=by rfl)(hx:Loc X.env.scope x:=by left)(hs:A1 X pos (.List [] pd) (.Name x px):=by rfl)(hf:A0 X x:=by left):
  cS X (.Assign [.Name x px] (.List [] pd) pos) D σ H:=λpins s I=>by
 refine nP hN hi hx (wa eG) hs hf pins s σ H D I #[bj _,λp hp=>?_]
 obtain⟨as,o1,o2⟩:=G.ex;have Yv:=λz=>(o1 p z).2.2 hp
 have ne:∀a∈as,a≠p:=λa ha z=>Yv (by rw[<-z];exact ha)
 refine q p _ _ #[(G.fr.grow (.loose G.fr.sub hp)).qm rfl rfl,hn p,_,λb hb=>?_,as,[],rfl,Yv,m _ _ _ _ _ o2 (cU.refl _) λa ha=>aL (ne a ha),aZ,.nil]
 rcases ax.mp hb with rfl|hb
 ·exact#[G.fr.sub.free hp,G.fr.ent.big.free hp,by rw[aZ];simp]
 ·exact#[(o1 b hb).1,(o1 b hb).2.1,by rw[aL (ne b hb)];exact(o1 b hb).2.2]
theorem Qr(m:gS R)(G:OF X.K B0 B (mZ X.K R d ds) H0 H σ δ)(i:Nat)(hi:δ[i]?=some (.ref d))(hv:VE X e δ dv)(hl:ds.length<sizeLine)(q:∀cW H',OF X.K B0 B (mZ X.K R d (ds ++ [dv])) cW H' σ δ->D.nx σ H')
  (hN:rA X i x:=by ac_rfl)
  (gj:yc X (.Name x px) "append":=by rfl)
  (hs:kZ X e []:=by rfl)
  (k_:FJ X pc [e]:=by rfl)
  (hline:(pa.endLine==pc.line)=true:=by rfl)(fJ:tF X pc []:=by rfl)(qg:OG X pos (.Call (.Attribute (.Name x px) "append" pa) [e] [] pc):=by rfl):
  cS X (.Expr (.Call (.Attribute (.Name x px) "append" pa) [e] [] pc) pos) D σ H:=λpins s I=>by
 refine ja (om cB eN eO jT (uU hN) (cN cL eG hs) gj k_ hline hs fJ) qg pins s σ H D I ?_
 obtain⟨as,_,tV,xs,_,_,_,h3,h4⟩:=G.ex;refine#[_,G.fr.slot i _ hi,.inl #[rfl,_,jy.of h3],?_]
 refine hv H0 H σ H0 H _ G.own λv Ha Hb g r=>?_
 refine#[d,xs,v,rfl,rfl,g.big _ _ h3,by rw[h4.length];exact hl,q Ha _ (G.put (mZ.mono m) g λas' #[Wt,ys,e,k1,k2,k3,k4]=>?_)]
 subst e;rw[g.big _ _ h3]at k3;cases k3;exact#[by simp,_,λ_ z=>z,Wt,_,rfl,k1,m _ _ _ _ _ k2 (cU.refl _) λa ha=>aL λz:a=d=>k1 (by rw[<-z];exact ha),aZ,k4.append (.cons r .nil)]
end
section
variable{X:Cx}{B0 B H0 H:Hp}{σ:St}{D:Ends}{δ:List Slot}{a d:aH}{ps Kj:List aH}{gs:List (List aj)}{e ix:bK}{es:List bK}{dv dl:aj}{l l' ds:List aj}{pos px py pa pc pd p0 p1 p4 p5:Pos}{x y:Str}
theorem CW{ok:List aj->List aj->List aj->List aj->Prop}{f:Str}{pn:List Str}{j:Nat}(C:bB X.prog X.w X.K X.mg X.base k f pn (qo X.K (List aj) (LR X.K) 0 ok))(hr:eB k X.A)(G:OF X.K B0 B (LL X.K a ps gs) H0 H σ δ)(i:Nat)(hi:δ[i]?=some (.ref a))(hx:VE X ix δ (.int j))(hj:gs[j]?=some l)(ha:VA X es δ ds)(hok:ok l [] ds l')
  (q:∀cW H',OF X.K B0 B (LL X.K a ps (gs.set j l')) cW H' σ δ->D.nx σ H')
  (hN:rA X i x:=by ac_rfl)(mD:oj ix:=by intro _ _;rfl)
  (hg:Gl X f:=by rfl)(u9:xP f:=by decide)(he:starEach (.Subscript (.Name x p0) ix p4::es) X.env=(false,eval (.Subscript (.Name x p0) ix p4) X.env)::starEach es X.env:=by rfl)(Wu:tF X pc es:=by rfl)
  (qg:OG X pos (.Call (.Name f p1) (.Subscript (.Name x p0) ix p4::es) [] pc):=by rfl):
  cS X (.Expr (.Call (.Name f p1) (.Subscript (.Name x p0) ix p4::es) [] pc) pos) D σ H:=λpins s0 I=>by
 obtain⟨fa,fd,F,hm,hk,hb⟩:=C;obtain⟨t,pa,qa⟩:=ha;refine ja (sH F hr hg hm hk hb .nil yQ (cN (LY yP (uU hN) cL mD) pa he) u9 he Wu) qg pins s0 σ H D I ?_
 refine#[_,G.fr.slot i _ hi,?_]
 refine hx H0 H σ H0 H _ G.own λv H1 dD g1 r1=>?_
 cases r1;have G1:=G.go LL.mono (G.own.grow g1) G.no;obtain⟨as,o1,rfl,nd,h1,h2,h3⟩:=G1.ex;have Vg:j<ps.length:=by rw[h2];exact(aJ.mp hj).1
 obtain⟨p,hp⟩:∃p,ps[j]?=some p:=#[_,av Vg]
 refine .inl #[a,_,_,_,rfl,rfl,jy.of h1,cM (by rw[ay,hp];rfl),?_]
 refine qa H1 dD σ H1 dD _ G1.own λvs H2 fX g2 rs=>?_
 have G2:=G1.go LL.mono (G1.own.grow g2) G1.no;obtain⟨Wt,o2,e2,h4⟩:=G2.ex;obtain rfl:Wt=a::ps:=e2;obtain⟨xs,y1,y2⟩:=h4.2.2.2 j p l hp hj;have pin:p∈a::ps:=aN _ (aK hp);show qo _ _ _ _ _ (V.ref p::vs ++ []) _ _ _;rw[b9];refine#[H2,p,[],vs,[p],l,l',[],ds,rfl,rfl,G2.fr.sub,.nil,rs,λz hz=>?_,#[rfl,xs,y1,y2],hok,λcW H' as' z1 z2 z3 z4 z5 z6=>?_]
 ·rw[aQ.mp hz]
  exact#[(o2 p pin).1,(o2 p pin).2.2]
 obtain⟨_,ys,w1,w2⟩:=z6;have keep:∀z∈a::ps,z≠p->H' z=fX z:=λz hz qY=>by
  cases e:fX z with
  |none=>exact qQ7 e (o2 z hz).2.2
  |some o=>exact z5 z o e λy=>qY (aQ.mp y)
 refine q cW H' #[#[#[λb u e=>z5 b u (G2.fr.ent.big b u e) λy=>?_,G2.fr.ent.fB.trans z1,z2,λb z=>?_],G2.fr.len,λj sl e=>?_,G2.fr.apart],G2.no,_,λz hz=>?_,LL.row #[rfl,h4] hp z1 keep w1 w2]
 ·rw[aQ.mp y,(o2 p pin).2.1]at e;cases e
 ·rcases z3 b z with z|z
  ·exact G2.fr.ent.new b z
  ·exact .inr (G2.fr.ent.big.free z)
 ·have qq:=G2.fr.slot j sl e
  cases sl with
  |un=>trivial
  |ref _=>exact qq
  |val d=>obtain⟨v,g1,g2⟩:=qq;exact#[v,g1,g2.mono z1]
  |own ds=>exact qQ7 e (gE G2.no j ds)
 ·obtain⟨v1,v2,v3⟩:=o2 z hz
  refine#[?_,v2,?_]
  ·cases e:cW z with
   |none=>rfl
   |some o=>
    rcases z3 z (by rw[e];simp)with w|w
    ·exact qQ7 v1 w
    ·exact qQ7 w v3
  ·by_cases qY:z=p
   ·rw[qY,w1];exact nofun
   ·rwa[keep z hz qY]
theorem IZ(G:OF X.K B0 B (oB Kj (LR X.K d ds)) H0 H σ δ)(i:Nat)(hi:δ[i]?=some (.ref d))(hv:VE X e δ dv)(hl:ds.length<sizeLine)(q:∀cW H',OF X.K B0 B (oB Kj (LR X.K d (ds ++ [dv]))) cW H' σ δ->D.nx σ H')
  (hN:rA X i x:=by ac_rfl)
  (gj:yc X (.Name x px) "append":=by rfl)
  (hs:kZ X e []:=by rfl)
  (k_:FJ X pc [e]:=by rfl)
  (hline:(pa.endLine==pc.line)=true:=by rfl)(fJ:tF X pc []:=by rfl)(qg:OG X pos (.Call (.Attribute (.Name x px) "append" pa) [e] [] pc):=by rfl):
  cS X (.Expr (.Call (.Attribute (.Name x px) "append" pa) [e] [] pc) pos) D σ H:=λpins s I=>by
 refine ja (om cB eN eO jT (uU hN) (cN cL eG hs) gj k_ hline hs fJ) qg pins s σ H D I ?_
 obtain⟨as,_,_,tV,h2,rfl,xs,h3,h4⟩:=G.ex;refine#[_,G.fr.slot i _ hi,.inl #[rfl,_,jy.of h3],?_]
 refine hv H0 H σ H0 H _ G.own λv Ha Hb g r=>?_
 refine#[d,xs,v,rfl,rfl,g.big _ _ h3,by rw[h4.length];exact hl,q Ha _ (G.put (oB.mono LR.mono) g λas' #[k0,Wt,k1,e,ys,k3,k4]=>?_)]
 subst e;rw[g.big _ _ h3]at k3;cases k3;exact#[k1 d (by simp),as',λ_ z=>z,k0,[d],k1,rfl,_,aZ,k4.append (.cons r .nil)]
theorem Qs(G:OF X.K B0 B (oB Kj (LR X.K d (ds ++ [dl]))) H0 H σ δ)(i j:Nat)(hi:δ[i]?=some (.ref d))(hn:noOwn (δ.set j (.val dl))=true)(hX:X.N.Nodup)(q:∀σ' cW H',OF X.K B0 B (oB Kj (LR X.K d ds)) cW H' σ' (δ.set j (.val dl))->D.nx σ' H')
  (hN:rA X i x:=by ac_rfl)
  (gj:yc X (.Name x px) "pop":=by rfl)(hline:(pa.endLine==pc.line)=true:=by rfl)
  (hj:X.N[j]?=some y:=by rfl)(hx:Loc X.env.scope y:=by left)(hs:A1 X pos (.Call (.Attribute (.Name x px) "pop" pa) [] [] pc) (.Name y py):=by rfl)(hf:A0 X y:=by left):
  cS X (.Assign [.Name y py] (.Call (.Attribute (.Name x px) "pop" pa) [] [] pc) pos) D σ H:=λpins s I=>by
 refine nP hX hj hx (L0 cB PySem.F.slot_list_pop PySem.F.type_list_pop Ue (uU hN) gj hline) hs hf pins s σ H D I ?_
 obtain⟨as,o1,k0,tV,k1,rfl,xs,h3,h4⟩:=G.ex;obtain⟨v,hv,rv⟩:=h4.get (i:=ds.length) (d:=dl) (by simp)
 have hl:xs.length=ds.length+1:=by rw[h4.length];simp
 have rd:cz X.K H0 xs.dropLast ds:=by
  have:=h4.take ds.length;rw[List.take_left]at this;rwa[List.dropLast_eq_take,hl]
 refine#[_,G.fr.slot i _ hi,.inl #[rfl,_,jy.of h3],d,xs,v,rfl,rfl,h3,by rw[hl];exact hv,?_]
 have G1:OF X.K B0 B (oB Kj (LR X.K d ds)) H0 _ σ δ:=G.put (oB.mono LR.mono) (.refl G.fr.sub) λas' #[k0,Wt,k1,e,ys,_,_]=>#[k1 d (by rw[e];simp),as',λ_ z=>z,k0,[d],by rw[e]at k1;exact k1,rfl,_,aZ,rd]
 exact q _ _ _ (G1.go (oB.mono LR.mono) (G1.own.qm #[_,rfl,rv] rfl) hn)
def upTo(gs:List (List aj))(dv:aj)(k:Nat):List (List aj):=((gs.take k).map λl=>l ++ [dv])++gs.drop k
theorem Qt(h:gs[k]?=some l):(upTo gs dv k)[k]?=some l/\(upTo gs dv k).set k (l ++ [dv])=upTo gs dv (k+1):=by
 have hk:=(aJ.mp h).1
 have e0:((gs.take k).map λl=>l ++ [dv]).length=k:=by rw[ae,bh];omega
 unfold upTo
 constructor
 ·rw[bO (by rw[e0];exact aT _),e0,jq]
  simpa using h
 ·rw[List.set_append_right _ _ (by rw[e0];exact aT _),e0,xO,List.drop_eq_getElem_cons hk,List.set_cons_zero,cv,h,aP,cC]
  rfl
theorem Qu(G:OF X.K B0 B (LL X.K a ps gs) H0 H σ δ)(hp:tj (model X.prog X.w) X.A X.env X.xe)(hc:X.calm=true)(i j:Nat)(hi:δ[i]?=some (.ref a))(Vg:j < δ.length)(hn:∀c,noOwn (δ.set j (.ref c))=true)(hf:∀c,Ld (δ.set j (.ref c)) δ)(he:∀c,VE X e (δ.set j (.ref c)) dv)(hl:∀l∈gs,l.length<sizeLine)(hg:PG X (.Name y py) (Ge X.K (.one j)))
  (q:∀σ' cW H',OF X.K B0 B (LL X.K a ps (gs.map λl=>l ++ [dv])) cW H' σ' δ->D.nx σ' H')
  (hN:rA X i x:=by ac_rfl)
  (hNy:rA X j y:=by ac_rfl)
  (gj:yc X (.Name y px) "append":=by rfl)
  (hs:kZ X e []:=by rfl)
  (k_:FJ X pc [e]:=by rfl)
  (hline:(pa.endLine==pc.line)=true:=by rfl)(fJ:tF X pc []:=by rfl)(qg:swapsWith (.Call (.Attribute (.Name y px) "append" pa) [e] [] pc) none p5.line X.env=pure false:=by rfl)
  (hfs:HY X (.Name x p0):=by intro _;rfl):
  cS X (.For (.Name y py) (.Name x p0) [.Expr (.Call (.Attribute (.Name y px) "append" pa) [e] [] pc) p5] [] pos) D σ H:=λpins s I=>by
 refine Cb hp hc (B_ (uU hN)) hg la hfs pins s σ H D I ?_
 obtain⟨Kj,_,_,_,h1,h2,_⟩:=G.ex;refine#[_,G.fr.slot i _ hi,_,rfl,#[_,jy.of h1],?_]
 refine#[λk mm σ' H'=>k<=ps.length/\mm=ps.length-k/\∃Ha,OF X.K B0 B (LL X.K a ps (upTo gs dv k)) Ha H' σ' δ,#[_,bj _,rfl,H0,G],?_]
 rintro k mm σ' H' ⟨hk,rfl,Ha,Ga⟩
 obtain⟨as',o1,e1,nd,h3,h4,h5⟩:=Ga.ex;have hS:jy X.K H' a _:=jy.of h3;by_cases m_:k<ps.length
 ·obtain⟨p,hpk⟩:∃p,ps[k]?=some p:=#[_,av m_]
  have Yw:(ps.map V.ref)[k]?=some (.ref p):=by rw[ay,hpk];rfl
  refine .inr #[#[_,_,hS,Yw],λσ'' Bf=>∃Hb,_,λσ'' Bf #[Hb,z]=>#[_,∅,m_,rfl,Hb,z],λv H2 #[e,z]=>?_]
  subst e;have hv:=z _ hS;rw[Yw]at hv;cases hv;obtain⟨l,hgk⟩:∃l,gs[k]?=some l:=#[_,av ∅]
  obtain⟨u1,u2⟩:=Qt hgk;have G2:=Ga.go LL.mono (Ga.own.qm (sl:=.ref p) rfl rfl) (hn p);refine bS (λpins s I=>?_)
  refine ja (om cB eN eO jT (uU hNy) (cN cL eG hs) gj k_ hline hs fJ) qg pins s _ _ _ I ?_
  obtain⟨xs,y1,y2⟩:=h5 k p l hpk u1;refine#[_,G2.fr.slot j _ (a_ Vg),.inl #[rfl,_,jy.of y1],?_]
  refine he p Ha _ _ Ha _ _ G2.own λv Hc Hd g r=>?_
  refine#[p,xs,v,rfl,rfl,g.big _ _ y1,by rw[y2.length];exact hl l (aK hgk),Hc,?_]
  have G3:OF X.K B0 B (LL X.K a ps (upTo gs dv (k+1))) Hc _ _ (δ.set j _):=G2.put LL.mono g λWt hL=>by
   have e2:=hL.1;subst e2;refine#[aN _ (aK hpk),_,λ_ z=>z,?_]
   rw[<-u2];exact LL.row hL hpk (cU.refl _) (λz _ hz=>aL hz) aZ ((y2.mono g.fB).append (.cons r .nil))
  exact G3.forget LL.mono (hf p) Ga.no
 ·have e:k=ps.length:=∅
  subst e;have eu:upTo gs dv ps.length=gs.map λl=>l ++ [dv]:=by
   unfold upTo;rw[h2,cy,List.drop_length,b9]
  rw[eu]at Ga;exact .inl #[#[_,hS,by rw[ae];exact aT _],q σ' Ha H' Ga]
def zcf:OR:=λ_ _ _=>True
theorem Qv(G:OF X.K B0 B (LL X.K a ps gs) H0 H σ δ)(i:Nat)(hi:δ[i]?=some (.ref a))(hl:gs.length<sizeLine)(q:∀H',OF X.K B0 B zcf H0 H' σ δ->D.nx σ H')
  (hN:rA X i x:=by ac_rfl)
  (gj:yc X (.Name x px) "append":=by rfl)
  (hs:starEach [.List [] pd] X.env=(false,eval (.List [] pd) X.env)::starEach [] X.env:=by rfl)
  (k_:FJ X pc [.List [] pd]:=by rfl)
  (hline:(pa.endLine==pc.line)=true:=by rfl)(fJ:tF X pc []:=by rfl)(qg:OG X pos (.Call (.Attribute (.Name x px) "append" pa) [.List [] pd] [] pc):=by rfl):
  cS X (.Expr (.Call (.Attribute (.Name x px) "append" pa) [.List [] pd] [] pc) pos) D σ H:=λpins s I=>by
 refine ja (om cB eN eO jT (uU hN) (cN (wa eG) eG hs) gj k_ hline hs fJ) qg pins s σ H D I ?_
 obtain⟨as,o1,rfl,nd,h1,h2,h3⟩:=G.ex;refine#[_,G.fr.slot i _ hi,.inl #[rfl,_,jy.of h1],bj _,λp hp=>?_]
 obtain⟨z1,z2,z3⟩:=o1 a (by simp)
 refine#[a,ps.map V.ref,.ref p,rfl,rfl,by rw[aL (λz=>by rw[<-z,h1]at hp;cases hp)];exact h1,by rw[ae,h2];exact hl,q _ ?_]
 exact#[(G.fr.grow (.loose (o:=.lst []) G.fr.sub hp)).touch z1 z2 (gE G.no),G.no,[],(λ_ z=>nomatch z),trivial]
end
section
variable{X:Cx}{δ:List Slot}{e:bK}{ds es:List aj}{x:Str}{px pos:Pos}
theorem Kk(i:Nat){ap p0:Pos}(hi:δ[i]?=some (.own ds))(h:VO X e δ es)(hz:ds.length+es.length<=sizeLine)(hN:rA X i x:=by ac_rfl)
  (hs:kZ X e []:=by rfl)(gj:yc X (.Name x p0) "extend":=by rfl)
  (k_:FJ X px [e]:=by rfl)
  (hline:(ap.endLine==px.line)=true:=by rfl)(fJ:tF X px []:=by rfl)(qg:OG X pos (.Call (.Attribute (.Name x p0) "extend" ap) [e] [] px):=by rfl):
  VS X (.Expr (.Call (.Attribute (.Name x p0) "extend" ap) [e] [] px) pos) δ (.nx (δ.set i (.own (ds++es)))):=λB0 B σ H0 H D f ok pins s I=>by
 refine ja (om cB As Au Ba (uU hN) (cN cL eG hs) gj k_ hline hs fJ) qg pins s σ H D I ?_
 obtain⟨p,xs,h1,h2,h3,h4,h5⟩:=f.slot i _ hi;refine#[_,h1,.inl #[rfl,_,jy.of h2],?_]
 exact h B0 B σ H0 H _ f λq zs H1 dD g z1 z2 z3 z4=>(#[p,q,xs,zs,rfl,rfl,g.big _ _ h2,z3,by rw[h5.length,z4.length];exact hz,ok σ H1 _ g.fB ((f.grow g).Sx hi h1 ((h5.mono g.fB).append z4))])
end
end L2
namespace Mg
open L2 PySem PyProof.Rows
def top(i:Nat):fQ:=PySem.Challenge.pw_mergeline_k54_waits.main.body.getD i (.Pass #[0,0,0,0])
theorem small{n:Nat}(h:n<=1000000):n<=sizeLine:=bU h (by rw[dN];decide)
theorem fw{n:Nat}(h:n<=1000000):n<sizeLine:=Nat.lt_of_le_of_lt h (by rw[dN];decide)
def lX(x:Str):Prop:=bW (.str x)=true
theorem bN(a b:Str):cR (.str a) (.str b)=decide (a=b):=by
 rw[cR,eY];simp
theorem jd(a b:Int):cR (.int a) (.int b)=decide (a=b):=by
 rw[cR,eY];simp
end Mg
namespace L2
open PySem PySem.Spec PyProof.Rows
section
variable{X:Cx}{a b c e:bK}{δ:List Slot}{d d1 d2 d3:aj}{pos:Pos}{k:Nat}
theorem Ez{op op':FC}{r r':R2}{k1 k2:Bool}(ho:sG X (compareOp op) r)(Aw:sG X (compareOp op') r')(od1:Bg X.K r d1 d2 (.bool k1))(od2:Bg X.K r' d2 d3 (.bool k2))(h1:VE X a δ d1)(h2:VE X b δ d2)(h3:k1=true->VE X c δ d3)
  (hm:lastMarks [op,op'] [b,c]=false:=by with_unfolding_all rfl):VE X (.Compare a [op,op'] [b,c] pos) δ (.bool (k1&&k2)):=by
 cases k1 with
 |true=>
  refine .of (DV ho Aw cL cL cL hm) λB0 B σ H0 H Q f q=>h1 B0 B σ H0 H _ f λv H1 dD g1 r1=>h2 B0 B σ H1 dD _ (f.grow g1) λu H2 fX g2 r2=>od1 v u H2 fX _ g2.sub (r1.mono g2.fB) r2 λz H3 uv g3 r3=>?_
  cases r3;refine#[true,rfl,?_]
  exact h3 rfl B0 B σ H3 uv _ (((f.grow g1).grow g2).grow g3) λx H4 UM g4 r4=>od2 u x H4 UM _ g4.sub ((r2.mono g3.fB).mono g4.fB) r4 λy H5 UN g5 r5=>q y H5 UN ((((g1.trans g2).trans g3).trans g4).trans g5) r5
 |false=>
  refine .of (DV ho Aw cL cL y4 hm) λB0 B σ H0 H Q f q=>h1 B0 B σ H0 H _ f λv H1 dD g1 r1=>h2 B0 B σ H1 dD _ (f.grow g1) λu H2 fX g2 r2=>od1 v u H2 fX _ g2.sub (r1.mono g2.fB) r2 λz H3 uv g3 r3=>?_
  cases r3;refine#[false,rfl,?_]
  exact q _ H3 uv ((g1.trans g2).trans g3) (.bl false)
theorem M_{x:Str}{s:Str}{t:Tok}(hm:X.mg x=some (.str s t))(hg:Gl X x:=by rfl)(hd:xP x:=by decide):VE X (.Name x pos) δ (.str s):=.of (yd hg hm (v:=.str s) #[t,rfl] hd) λ_ _ _ _ _ _ f k=>k _ _ _ (.refl f.sub) (.str s)
theorem I0{x:Str}{i:Int}{t:Tok}(hm:X.mg x=some (.int i t))(hg:Gl X x:=by rfl)(hd:xP x:=by decide):VE X (.Name x pos) δ (.int i):=.of (yd hg hm (v:=.int i) #[t,rfl] hd) λ_ _ _ _ _ _ f k=>k _ _ _ (.refl f.sub) (.int i)
end
end L2
namespace Mg
open L2 PySem PyProof.Rows
seal L2.VE L2.VS L2.rP L2.VT L2.VO L2.Fy
variable{fd:eM}{kinds:List (Str×Option Int)}{ds:List aj}{c i:Nat}{d:aj}{x:Str}
structure Nw(mg:Str->Option aF):Prop where
 len:mg "len"=none
 all:mg "all"=none
 OQ:mg "enumerate"=none
 let_:∃t,mg "LETTERS"=some (.str "abcdefghijklmnopqrstuvwxyz" t)
 fig:∃t,mg "FIGURES"=some (.str "0123456789" t)
 lna:∃t,mg "LONGEST_NAME"=some (.int 8 t)
 lnu:∃t,mg "LONGEST_NUMBER"=some (.int 6 t)
def one(c:Nat):Str:=#[(bZ [c])]
def qp(signs:Str)(longest:Int)(w:Str):Bool:=(decide (1<=(w.length:Int))&&decide ((w.length:Int)<=longest))&&w.cps.toList.all λc=>Ei (one c) signs
def Yx(signs:Str):aj->Option aj
 | .str x=>some (.bool (Ei x signs))
 |_=>none
theorem Kl(signs w:Str):(rR w).filterMap (Yx signs)=(w.cps.toList.map λc=>Ei (one c) signs).map .bool:=by
 unfold rR;rw[bP,aB];exact filterMap_some λc _=>rfl
def isName(w:Str):Bool:=qp "abcdefghijklmnopqrstuvwxyz" 8 w
def isNumber(w:Str):Bool:=qp "0123456789" 6 w&&(decide (w="0") || !decide ((w.cps.toList.head?.map one).getD gi="0"))
def wordsOf(row:Str):List Str:=(cP row " ").filter λw=>decide (w≠"")
def rowsOf(text:Str):List (Nat×List Str):=(cP text "\n").zipIdx.filterMap λp=>if(wordsOf p.1).isEmpty then none else some (p.2,wordsOf p.1)
theorem nq(x:Str):lX x↔∀c∈x.cps.toList,c<0x110000:=by
 show(x.cps.all λc=>decide (c<0x110000))=true↔_
 rw[<-Array.all_toList,fe];exact#[λh c hc=>qQ4 (h c hc),λh c hc=>qQ1 (h c hc)]
theorem Vj(h:lX x)(hc:c∈x.cps.toList):lX (one c):=by
 rw[nq]at h ⊢;intro z hz;have:z=c:=by simpa[one]using hz
 rw[this];exact h c hc
def xW(x:Str):Prop:=x.length<=100000/\lX x
section
variable{P:bA}{w:cn}{K:aq}{mg:Str->Option aF}{base:cX}{f:aH}{k:Nat}
abbrev Yy:List Str:=["signs","longest","word"]
theorem Yz:cw Yy Yy (bL (top 15)):=by grind
def Rmo(ds:List aj)(d:aj):Prop:=∃(signs:Str)(longest:Int)(x:Str),ds=[.str signs,.int longest,.str x]/\x.length<=100000/\d=.bool (qp signs longest x)
theorem zch(F:kX K "is_made_of" "is_made_of" (top 15) f fd)(n:Nw mg):eW P w K mg base kD 1 f fd Yy (g7 K Rmo):=
 jz F Yz (by ext) λ_ _ h=>by
  obtain⟨signs,longest,x,rfl,hx,rfl⟩:=h;intro g6 A outer s H E hr;have nc:(["sign","signs"]:List Str).Nodup:=∎
  have hl:(rR x).length<=100000:=by unfold rR;rw[ae,di];exact hx
  refine aY (ck (VE.to (oW (Ez DU DU (Cu 1 x.length) (Cu x.length longest) aE (IE (ai 2 rfl) (small ∅) n.len) (λ_=>ai 1 rfl)) (λ_=>kK (gR (rQ rfl) Eh (ao (VO.ve (VO.to (eU (own:=["sign"]) (cap:=[0]) (tgt:=.one 0) rfl #[rfl,∎,∎,rfl,rfl,?_] (UG (ai 2 rfl)) (λf s3 H3=>gJ 0 nc) rfl
   (small ∅) (λd hd=>?_)) (Kl signs x))) aR) n.all rfl))) ?_))
  ·intro j hj
   rcases ax.mp hj with rfl|hj
   ·exact#[(by show(0:Nat)<3;decide),o8 rfl,rfl]
   ·cases hj
  ·obtain⟨c,_,rfl⟩:=au.mp hd
   exact#[_,rfl,λf s3 H3=>jW,λr ky f s3 H3=>by cases ky;exact UI (ai 0 rfl) (ai 1 rfl)]
  ·unfold qp qP
   rw[Ft];rfl
theorem YB:cw ["word"] ["word"] (bL (top 16)):=by grind
theorem YC:cw ["word"] ["word"] (bL (top 17)):=by grind
def YD(ds:List aj)(d:aj):Prop:=∃x:Str,ds=[.str x]/\x.length<=100000/\d=.bool (isName x)
def Rnu(ds:List aj)(d:aj):Prop:=∃x:Str,ds=[.str x]/\xW x/\d=.bool (isNumber x)
theorem zci(F:kX K "is_name" "is_name" (top 16) f fd)(n:Nw mg)(C:bB P w K mg base 1 "is_made_of" Yy (g7 K Rmo)):eW P w K mg base kD 2 f fd ["word"] (g7 K YD):=
 jz F YB (by ext) λ_ _ h=>by
  obtain⟨x,rfl,hx,rfl⟩:=h;intro g6 A outer s H E hr;obtain⟨t1,m1⟩:=n.let_;obtain⟨t2,m2⟩:=n.lna;exact aY (ck (bF C hr (ao (M_ m1) (ao (I0 m2) (ao (ai 0 rfl) aR))) #[_,8,x,rfl,hx,rfl]))
theorem zcj(F:kX K "is_number" "is_number" (top 17) f fd)(n:Nw mg)(C:bB P w K mg base 1 "is_made_of" Yy (g7 K Rmo)):eW P w K mg base kD 2 f fd ["word"] (g7 K Rnu):=
 jz F YC (by ext) λ_ _ h=>by
  obtain⟨x,rfl,⟨hx,okx⟩,rfl⟩:=h;intro g6 A outer s H E hr;obtain⟨t1,m1⟩:=n.fig;obtain⟨t2,m2⟩:=n.lnu;have o0:Lay 20 (.str "0"):=bu ∎
  cases em:qp "0123456789" 6 x with
  |false=>
   refine aY (ck (VE.to (oW (k2:=false) (VE.to (bF C hr (ao (M_ m1) (ao (I0 m2) (ao (ai 0 rfl) aR))) #[_,6,x,rfl,hx,rfl]) (by rw[em])) (λz=>by cases z)) ?_))
   unfold isNumber;rw[em];rfl
  |true=>
   obtain⟨c,hc⟩:∃c,x.cps.toList.head?=some c:=by
    cases e:x.cps.toList with
    |cons c l=>exact#[c,rfl]
    |nil=>
     exfalso
     have:x.length=0:=by
      have:=qQ6 ft e;exact this
     unfold qp at em;rw[this]at em;cases em
   have h0:ur x.cps.toList 0=some c:=by
    cases e:x.cps.toList with
    |nil=>rw[e]at hc;cases hc
    |cons a l=>rw[e]at hc;cases hc;exact cM rfl
   have okc:lX (one c):=by
    have hm:c∈x.cps.toList:=by
     cases e:x.cps.toList with
     |nil=>rw[e]at hc;cases hc
     |cons a l=>rw[e]at hc;cases hc;exact aM
    exact Vj okx hm
   refine aY (ck (VE.to (oW (VE.to (bF C hr (ao (M_ m1) (ao (I0 m2) (ao (ai 0 rfl) aR))) #[_,6,x,rfl,hx,rfl]) (by rw[em])) (λ_=>kK (vm (tQ hr (bu okx) o0 (ai 0 rfl) aW) (λ_=>kK (Ms hr (bu okc) o0 (CB (ai 0 rfl) aE (small ∅) h0) aW))))) ?_))
   unfold isNumber;rw[em,bN,bN,hc];rfl
end
theorem EA{y p:Str}:∀{zs:List Str},p∈zs->c∈p.cps.toList->c∈(dm y zs).cps.toList
 | [],h,_=>by cases h
 | [x],h,hc=>by
  rw[aQ]at h;subst h;exact hc
 |x::x2::zs,h,hc=>by
  show c∈(x++y++dm y (x2::zs)).cps.toList;have e:(x++y++dm y (x2::zs)).cps.toList=(x.cps.toList++y.cps.toList)++(dm y (x2::zs)).cps.toList:=by
   show(x.cps++y.cps++(dm y (x2::zs)).cps).toList=_
   simp
  rw[e];rcases ax.mp h with rfl|h
  ·exact bM _ (bM _ hc)
  ·exact bq _ (EA h hc)
theorem EB{y p: Str}(h:xW x)(hp:p∈cP x y):xW p:=by
 refine#[bU (part_short hp) h.1,(nq p).mpr λc hc=>(nq x).mp h.2 c ?_]
 have:=EA (y:=y) hp hc;rwa[nL]at this
def YF:aj->Option aj
 | .str w=>if decide (w≠"")=true then some (.str w)else none
 |_=>none
theorem Km(l:List Str):(l.map aX).filterMap YF=(l.filter λw:Str=>decide (w≠"")).map aX:=by
 induction l with
 |nil=>rfl
 |cons w l ih=>
  rw[aA,gf];by_cases h:decide (w≠"")=true
  ·rw[qQ3 h,cJ (by show(if _ then _ else _)=_;rw[qQ3 h]),ih];rfl
  ·rw[qQ2 h,dX (by show(if _ then _ else _)=_;rw[qQ2 h]),ih]
def I_(p:Nat×List Str):aj:=.tuple [.int p.1,.list (p.2.map .str)]
def uA(text:Str)(i:Nat):List (Nat×List Str):=((cP text "\n").zipIdx.take i).filterMap λp=>if(wordsOf p.1).isEmpty then none else some (p.2,wordsOf p.1)
theorem xh{text row:Str}(h:(cP text "\n")[i]?=some row):uA text (i+1)=uA text i++(if(wordsOf row).isEmpty then []else [(i,wordsOf row)]):=by
 unfold uA;rw[cv,jZ,h]
 simp only[kI,HW,jH,lR]
 congr 1
 cases e:(wordsOf row).isEmpty
 ·rw[cJ (by simp only[e];rfl)];rfl
 ·rw[dX (by simp only[e];rfl)];rfl
theorem Gw(text:Str):uA text (cP text "\n").length=rowsOf text:=by
 unfold uA rowsOf;rw[dw (by simp)]
theorem Gx(text:Str)(i:Nat):(uA text i).length<=i:=by
 exact bU (iD _ _) (by rw[bh];omega)
theorem xi{y: Str}(h:x.length<=100000):(cP x y).length<=100002:=by
 have e1:=DE x y 0 x.length (x.length+1);unfold cP
 split
 ·show 1<=100002;omega
 ·split
  ·show 1<=100002;omega
  ·rw[xJ];omega
section
variable{P:bA}{w:cn}{K:aq}{mg:Str->Option aF}{base:cX}{f:aH}{k:Nat}
theorem YG:cw ["row"] ["row"] (bL (top 18)):=by grind
def Rwo(ds es:List aj):Prop:=∃x:Str,ds=[.str x]/\xW x/\es=(wordsOf x).map .str
theorem zck(F:kX K "words_of" "words_of" (top 18) f fd):eW P w K mg base kD 1 f fd ["row"] (Gf K Rwo):=
 J2 F YG (by ext) λ_ _ h=>by
  obtain⟨x,rfl,ok,rfl⟩:=h;intro g6 A outer s H E hr;have nc:(["word"]:List Str).Nodup:=∎
  have hx:=ok.1;refine aY (yj (VO.to (eU (own:=["word"]) (cap:=[]) (tgt:=.one 0) rfl #[rfl,∎,∎,rfl,rfl,by simp] (dY (VO.ve (rS (ai 0 rfl) aW rfl (small ∅)))) (λf s3 H3=>gJ 0 nc) rfl
   (small (by rw[ae];have:=xi (y:=" ") hx;omega)) (λd hd=>?_)) (Km _)))
  obtain⟨p,hp,rfl⟩:=au.mp hd;refine#[_,rfl,λf s3 H3=>?_,λr ky f s3 H3=>?_]
  ·refine qk (VT.to (iI (k:=0) hr (bu (EB ok hp).2) (bu ∎) (ai 0 rfl) aW) ?_)
   show(!decide (p=""))=(if decide (p≠"")=true then some (aX p)else none).isSome
   by_cases h:p=""
   ·subst h;rfl
   ·rw[qQ3 ↑h,qQ0 h];rfl
  ·have Vk:(if decide (p≠"")=true then some (aX p)else none)=some r:=ky
   split at Vk
   ·cases Vk;exact ai 0 rfl
   ·cases Vk
abbrev Nro:List Str:=["text","rows","number","row","words"]
theorem Sz:cw Nro ["text"] (bL (top 19)):=by grind
def Rro(ds es:List aj):Prop:=∃x:Str,ds=[.str x]/\xW x/\es=(rowsOf x).map I_
theorem zcl(F:kX K "rows_of" "rows_of" (top 19) f fd)(n:Nw mg)(C:bB P w K mg base 1 "words_of" ["row"] (Gf K Rwo)):eW P w K mg base kD 2 f fd ["text"] (Gf K Rro):=
 J2 F Sz (by ext) λ_ _ h=>by
  obtain⟨x,rfl,ok,rfl⟩:=h;intro g6 A outer s H E hr;have nd:=Sz.nd;have hx:=ok.1;have hc:=xi (y:="\n") hx;refine aG (ia 1 (dS aR) nd) ?_
  refine aG (jN (tgt:=.tup [2,3]) bY rfl (ni (VO.ve (rS (ai 0 rfl) aW rfl (small ∅))) n.OQ)
   (gK rfl (bT (gJ 2 nd) (bT (gJ 3 nd) fF))) (λi=>[.val _,.own ((uA x i).map I_),.un,.un,.un]) (cP x "\n").length rfl (by rw[dE];simp) (λi d hi hd=>?_) (.inl #[by rw[dE];simp,rfl])) ?_
  ·obtain⟨y,hy,rfl⟩:=ju hd
   obtain⟨row,wC⟩:∃row,(cP x "\n")[i]?=some row:=#[(cP x "\n")[i],by simp[hi]]
   rw[ay,wC]at hy
   cases hy;have Wv:=EB ok (aK wC);have hle:=Gx x i;refine#[_,rfl,?_]
   refine aG (cu 4 (VO.ve (oq C hr (ao (ai 3 rfl) aR) #[row,rfl,Wv,rfl])) nd) ?_
   cases ew:(wordsOf row).isEmpty with
   |true=>
    refine fj (aY (bV (VT.to (jM (ai 4 rfl) rfl) (by cases e:wordsOf row with|nil=>rfl|cons _ _=>rw[e]at ew;cases ew)) bG)) #[.inr rfl,.inr ?_,.inl rfl,.inl rfl,.inl rfl,trivial]
    rw[xh wC,ew,qQ3 rfl,b9]
   |false=>
    refine fj (aY (dq (VT.to (jM (ai 4 rfl) rfl) (by cases e:wordsOf row with|nil=>rw[e]at ew;cases ew|cons _ _=>rfl)) (aY (gO 1 rfl (dR (ao (ai 2 rfl) (ao (ai 4 rfl) aR))) (fw (by rw[ae];omega)))))) #[.inr rfl,.inr ?_,.inl rfl,.inl rfl,.inl rfl,trivial]
    rw[xh wC,ew,qQ2 jm,aP];rfl
  ·rw[Gw]
   exact aY (Cy 1 rfl)
end
def oC(ns:List Int):aj:=.list (ns.map .int)
def c7(c k:Int):Int:=((c%2147483629+k*k*7919+11)*48271%2147483647)*((c%2147483629+k*k*7919+11)*48271%2147483647)%1999999973
theorem yo(c k:Int):0<=c7 c k:=cK _ ⋯
theorem Qw(c k:Int):c7 c k<1999999973:=dG _ ⋯
abbrev ABC:Str:="abcdefghijklmnopqrstuvwxyz"
theorem EC:(ABC:Str).cps.toList=(cx 26).map (97 + ·):=∎
def ED(i:Int):Str:=one (97+i.toNat)
theorem Gy{i:Int}(h0:0<=i)(h1:i<26):ur (ABC:Str).cps.toList i=some (97+i.toNat):=by
 obtain⟨n,rfl⟩:=lI h0;refine cM ?_
 rw[EC,ay,iP ∅]
 rfl
def dW(x:Str):Prop:=1<=x.cps.toList.length/\x.cps.toList.length<=8/\∀c∈x.cps.toList,97<=c/\c<123
theorem Qx(h:97<=c/\c<123):c∈(ABC:Str).cps.toList:=by
 rw[EC];exact au.mpr #[c-97,cA.mpr ∅,∅]
theorem dW.is(h:dW x):isName x=true:=by
 obtain⟨h1,h2,h3⟩:=h;rw[di]at h1 h2;have e:x.length=x.cps.size:=rfl;unfold isName qp;rw[qQ1 ∅,qQ1 ∅,kQ,kQ,fe]
 intro c hc;have:Ei (one c) ABC=decide (c∈ABC.cps.toList):=uY ..;rw[this];exact qQ1 (Qx (h3 c hc))
theorem dW.ok(h:dW x):xW x:=by
 obtain⟨h1,h2,h3⟩:=h;rw[di]at h1 h2;refine#[by show x.cps.size<=_;omega,(nq x).mpr λc hc=>?_]
 have:=h3 c hc;omega
theorem EE(x:Str):∀n,(jF x n).cps.toList=(bw n x.cps.toList).flatten
 |0=>rfl
 |n+1=>by
  have e:(jF x (n+1)).cps.toList=x.cps.toList++(jF x n).cps.toList:=by
   show(x.cps++(jF x n).cps).toList=_
   simp
  rw[e,EE x n];rfl
theorem CY(c n:Nat):(jF (one c) n).cps.toList=bw n c:=by
 rw[EE]
 induction n with
 |zero=>rfl
 |succ n ih=>
  rw[fq,fu,ih];rfl
def nameA(m:Int)(many k:Nat):Str:=jF (ED (m/3%26)) (many-k)
def stemOf(m:Int):Str:=jF (ED (m/4992%26)) (1+m/78%8).toNat
def tX(m:Int)(k:Nat):Str:=mQ (stemOf m) none (some (m/624%(1+m/78%8)))++ED ((m/3+5*k)%26)++mQ (stemOf m) (some (m/624%(1+m/78%8)+1)) none
def namesOf(cell:Int)(many:Nat):List Str:=if c7 cell 3%3=0/\many<9 then(cx many).map (nameA (c7 cell 3) many) else(cx many).map (tX (c7 cell 3))
theorem gT(cell:Int)(many:Nat):(namesOf cell many).length=many:=by unfold namesOf;split<;>simp
theorem wD(m:Int):(stemOf m).cps.toList=bw (1+m/78%8).toNat (97+(m/4992%26).toNat):=CY _ _
theorem Nb(m:Int){many k:Nat}(h:k<many)(h9:many<9):dW (nameA m many k):=by
 have e:(nameA m many k).cps.toList=bw (many-k) _:=CY _ _;refine#[by rw[e,dH];omega,by rw[e,dH];omega,λc hc=>?_]
 rw[e]at hc;have:=(jt.mp hc).2;omega
theorem Nc(m:Int)(k:Nat):dW (tX m k):=by
 have hs:=wD m;have hl:(stemOf m).cps.toList.length=(1+m/78%8).toNat:=by rw[hs,dH]
 have p1:0<=m/624%(1+m/78%8):=cK _ ∅
 have p2:m/624%(1+m/78%8)<1+m/78%8:=dG _ ∅
 have e1:mQ _ none _=_:=DN #[p1,by rw[hl];omega]
 have e2:mQ _ (some (m/624%(1+m/78%8)+1)) none=_:=B6 #[∅,by rw[hl];omega]
 have e:(tX m k).cps.toList=(stemOf m).cps.toList.take (m/624%(1+m/78%8)).toNat ++ [97+((m/3+5*k)%26).toNat]++(stemOf m).cps.toList.drop (m/624%(1+m/78%8)+1).toNat:=by
  unfold tX;rw[e1,e2]
  show((_++_++_:Array Nat)).toList=_
  simp only[HX,lN,Int.sub_zero,ED,one];rw[dw (l:=List.drop _ _) (by rw[cV];omega)]
 have l1:(tX m k).cps.toList.length=(1+m/78%8).toNat:=by
  rw[e,aV,aV,bh,cV,hl];simp;omega
 refine#[by rw[l1];omega,by rw[l1];omega,λc hc=>?_]
 rw[e,hs]at hc
 rcases bo.mp hc with hc|hc
 ·rcases bo.mp hc with hc|hc
  ·have:=(jt.mp (eC hc)).2
   omega
  ·have:=aQ.mp hc
   omega
 ·have:=(jt.mp (fG hc)).2
  omega
theorem kL{cell:Int}{many:Nat}(h:x∈namesOf cell many):dW x:=by
 unfold namesOf at h
 split at h
 ·rename_i hh
  obtain⟨k,hk,rfl⟩:=au.mp h;exact Nb _ (cA.mp hk) hh.2
 ·obtain⟨k,hk,rfl⟩:=au.mp h
  exact Nc _ _
abbrev Ng(mg:Str->Option aF):Prop:=Nm mg
section
variable{P:bA}{w:cn}{K:aq}{mg:Str->Option aF}{base:cX}{f:aH}{k:Nat}
def Ja(ds:List aj)(d:aj):Prop:=∃(ns:List Int)(k:Nat),ds=[oC ns,.int k]/\d=.int (ns.getD k 0)
theorem Qy:cw ["_law_script","_law_k"] ["_law_script","_law_k"] (bL (top 42)):=by grind
theorem Vl(m1:mg "len"=none)(h:Ja ds d):y0 P w K mg base ["_law_script","_law_k"] "_law_cell_at" (top 42) f k ds (.rt d):=by
 obtain⟨ns,n,rfl,rfl⟩:=h;intro g6 A outer s H E hr;by_cases hn:n<ns.length
 ·refine dA (dq (VT.to (D_ (ai 1 rfl) (fY (ai 0 rfl) m1)) (by simp only[ae];exact qQ1 ∅)) (aY (ck (fU (ai 0 rfl) (ai 1 rfl) (cM ?_))))) rfl
  rw[ay,aO,av hn];rfl
 ·refine aG (bV (VT.to (D_ (ai 1 rfl) (fY (ai 0 rfl) m1)) (by simp only[ae];exact qQ0 ∅)) bG) ?_
  have e:ns.getD n 0=0:=by rw[aO,dI ∅];rfl
  rw[e];exact aY (ck aE)
theorem Vm(F:kX K "_law_cell_at" "_law_cell_at" (top 42) f fd)(m1:mg "len"=none):eW P w K mg base kD 1 f fd ["_law_script","_law_k"] (g7 K Ja):=jz F Qy (by ext) λ_ _ h=>Vl m1 h
def EF(ds:List aj)(d:aj):Prop:=∃(c k:Int),ds=[.int c,.int k]/\0<=k/\k<=1000/\d=.int (c7 c k)
abbrev YH:List Str:=["_law_cell","_law_k","_law_m"]
theorem Nf:cw YH ["_law_cell","_law_k"] (bL (top 43)):=by grind
theorem YJ(h:EF ds d):y0 P w K mg base YH "_law_mix" (top 43) f k ds (.rt d):=by
 obtain⟨c,n,rfl,h0,h1,rfl⟩:=h;intro g6 A outer s H E hr;have nd:=Nf.nd
 exact aG (cu 2 (cq (rJ (dZ (dZ (cq (ai 0 rfl) aE ⋯) (rJ (rJ (ai 1 rfl) (ai 1 rfl) (.inl #[∅,∅])) aE (.inr #[⋯,⋯]))) aE) aE (.inr #[⋯,⋯])) aE ⋯) nd) (aY (ck (cq (rJ (ai 2 rfl) (ai 2 rfl) (.inl #[∅,∅])) aE ⋯)))
theorem YK(F:kX K "_law_mix" "_law_mix" (top 43) f fd):eW P w K mg base kD 1 f fd ["_law_cell","_law_k"] (g7 K EF):=jz F Nf (by ext) λ_ _ h=>YJ h
abbrev Nnm:List Str:=["_law_cell","_law_many","_law_letters","_law_m","_law_size","_law_place","_law_stem"]
theorem SD:cw Nnm ["_law_cell","_law_many"] (bL (top 44)):=by grind
def Rnm(ds es:List aj):Prop:=∃(c:Int)(many:Nat),ds=[.int c,.int many]/\many<=60/\es=(namesOf c many).map .str
def FA(m:Int)(many:Nat):aj->Option aj
 | .int k=>some (.str (nameA m many k.toNat))
 |_=>none
def FB(m:Int):aj->Option aj
 | .int k=>some (.str (tX m k.toNat))
 |_=>none
theorem Vn(m:Int)(many:Nat):(iJ many).filterMap (FA m many)=((cx many).map (nameA m many)).map .str:=by
 unfold iJ;rw[bP,aB];exact filterMap_some λk _=>by show some _=some _;rw[fy];rfl
theorem Vo(m:Int)(many:Nat):(iJ many).filterMap (FB m)=((cx many).map (tX m)).map .str:=by
 unfold iJ;rw[bP,aB];exact filterMap_some λk _=>by show some _=some _;rw[fy];rfl
theorem wF:(ABC:Str).length<=sizeLine:=small ∎
theorem zcn(F:kX K "_law_names" "_law_names" (top 44) f fd)(n:Ng mg)(C:bB P w K mg base 1 "_law_mix" ["_law_cell","_law_k"] (g7 K EF)):eW P w K mg base kD 2 f fd ["_law_cell","_law_many"] (Gf K Rnm):=
 J2 F SD (by ext) λ_ _ h=>by
  obtain⟨c,many,rfl,hm,rfl⟩:=h;intro g6 A outer s H E hr;have nd:Nnm.Nodup:=SD.nd;have nk:(["_law_k","_law_many","_law_letters","_law_m"]:List Str).Nodup:=∎
  have lo:=yo c 3;refine aG (cu 2 aW nd) ?_
  refine aG (cu 3 (bF C hr (ao (ai 0 rfl) (ao aE aR)) #[c,3,rfl,⋯,⋯,rfl]) nd) ?_
  by_cases hh:c7 c 3%3=0/\many<9
  ·have e:namesOf c many=(cx many).map (nameA (c7 c 3) many):=by unfold namesOf;rw[qQ3 hh]
   rw[e];refine dA (dq (VT.to (gk (fh (k:=1) (hr.mono ∅) (bQ 20 _) (bQ 20 _) (cq (ai 3 rfl) aE ⋯) aE) (λ_=>D_ (ai 1 rfl) aE)) ?_) (aY (yj (VO.to (eU (own:=["_law_k"]) (cap:=[1,2,3]) (tgt:=.one 0) rfl #[rfl,∎,∎,rfl,rfl,?_] (pF (n:=(many:Int)) (ai 1 rfl) n.rng ∅ ∅) (λf s3 H3=>gJ 0 nk) rfl
    (small (by rw[jv];omega)) (λd hd=>?_)) (Vn _ _))))) rfl
   ·rw[jd,qQ1 hh.1,qQ1 ∅];rfl
   ·intro j hj
    rcases ax.mp hj with rfl|hj
    ·exact#[(by show(1:Nat)<7;decide),o8 rfl,rfl]
    ·rcases ax.mp hj with rfl|hj
     ·exact#[(by show(2:Nat)<7;decide),o8 rfl,rfl]
     ·rcases ax.mp hj with rfl|hj
      ·exact#[(by show(3:Nat)<7;decide),o8 rfl,rfl]
      ·cases hj
   ·obtain⟨i,hi,rfl⟩:=au.mp hd
    have hi:=cA.mp hi;refine#[_,rfl,λf s3 H3=>jW,λr ky f s3 H3=>?_]
    cases ky;refine VE.to (IC (CB (ai 2 rfl) (cq (eI (ai 3 rfl) aE #[⋯,⋯]) aE ⋯) wF (Gy ∅ ∅)) (Cv (ai 1 rfl) (ai 0 rfl)) ∅ ∅ (by show 1<=1000;decide)) ?_
    unfold nameA;have e:((many:Int)-(i:Int)).toNat=many-((i:Nat):Int).toNat:=∅
    rw[e];rfl
  ·have e:namesOf c many=(cx many).map (tX (c7 c 3)):=by unfold namesOf;rw[qQ2 hh]
   rw[e];have nk2:(["_law_k","_law_letters","_law_m","_law_place","_law_stem"]:List Str).Nodup:=∎
   have b1:0<=c7 c 3/78%8:=cK _ ⋯
   have b2:c7 c 3/78%8<8:=dG _ ⋯
   have p1:0<=c7 c 3/624%(1+c7 c 3/78%8):=cK _ ∅
   have p2:c7 c 3/624%(1+c7 c 3/78%8)<1+c7 c 3/78%8:=dG _ ∅
   have sl:(stemOf (c7 c 3)).length<=8:=by
    show(stemOf (c7 c 3)).cps.size<=8
    rw[<-di,wD,dH];omega
   refine aG (bV (VT.to (gk (fh (k:=1) (hr.mono ∅) (bQ 20 _) (bQ 20 _) (cq (ai 3 rfl) aE ⋯) aE) (λ_=>D_ (ai 1 rfl) aE)) ?_) bG) ?_
   ·rw[jd]
    by_cases h0:c7 c 3%3=0
    ·rw[qQ1 h0,kQ]
     exact qQ0 λz=>hh #[h0,∅]
    ·rw[qQ0 h0];rfl
   refine aG (cu 4 (dZ aE (cq (eI (ai 3 rfl) aE #[⋯,⋯]) aE ⋯)) nd) ?_
   refine aG (cu 5 (cq (eI (ai 3 rfl) aE #[⋯,⋯]) (ai 4 rfl) ∅) nd) ?_
   refine aG (cu 6 (d:=.str (stemOf (c7 c 3))) (IC (CB (ai 2 rfl) (cq (eI (ai 3 rfl) aE #[⋯,⋯]) aE ⋯) wF (Gy ∅ ∅)) (ai 4 rfl) ∅ ∅ (by show 1<=1000;decide)) nd) ?_
   refine aY (yj (VO.to (eU (own:=["_law_k"]) (cap:=[2,3,5,6]) (tgt:=.one 0) rfl #[rfl,∎,∎,rfl,rfl,?_] (pF (n:=(many:Int)) (ai 1 rfl) n.rng ∅ ∅) (λf s3 H3=>gJ 0 nk2) rfl
    (small (by rw[jv];omega)) (λd hd=>?_)) (Vo _ _)))
   ·intro j hj
    rcases ax.mp hj with rfl|hj
    ·exact#[(by show(2:Nat)<7;decide),o8 rfl,rfl]
    ·rcases ax.mp hj with rfl|hj
     ·exact#[(by show(3:Nat)<7;decide),o8 rfl,rfl]
     ·rcases ax.mp hj with rfl|hj
      ·exact#[(by show(5:Nat)<7;decide),o8 rfl,rfl]
      ·rcases ax.mp hj with rfl|hj
       ·exact#[(by show(6:Nat)<7;decide),o8 rfl,rfl]
       ·cases hj
   ·obtain⟨i,hi,rfl⟩:=au.mp hd
    have hi:=cA.mp hi;refine#[_,rfl,λf s3 H3=>jW,λr ky f s3 H3=>?_]
    cases ky;have l1:=FE (stemOf (c7 c 3)) none (some (c7 c 3/624%(1+c7 c 3/78%8)));have l2:=FE (stemOf (c7 c 3)) (some (c7 c 3/624%(1+c7 c 3/78%8)+1)) none;have l3:(ED ((c7 c 3/3+5*(i:Int))%26)).length=1:=rfl;refine VE.to (iF (iF (Br (ai 4 rfl) (small ∅) .no (.yes (ai 3 rfl))) (CB (ai 1 rfl) (cq (dZ (eI (ai 2 rfl) aE #[⋯,⋯]) (rJ aE (ai 0 rfl) (.inl #[⋯,⋯]))) aE ⋯) wF (Gy ∅ ∅)) (small ?_)) (Br (ai 4 rfl) (small ∅) (.yes (dZ (ai 3 rfl) aE)) .no) (small ?_)) ?_
    ·show _+(ED _).length<=_
     omega
    ·rw[cF]
     show _+(ED _).length+_<=_;omega
    ·rfl
end
inductive Rl where
 |meet
 |gather (most age:Int)
 |many (most:Int)
 |rank (bound:Option Int)
 |turns (shares:List Int)
 |eldest
def qV:Option Int->aj
 |none=>.none
 |some i=>.int i
def qW:Rl->Str
 | .meet=>"meet"
 | .gather _ _=>"gather"
 | .many _=>"many"
 | .rank _=>"rank"
 | .turns _=>"turns"
 | .eldest=>"eldest"
def tJ:Rl->List aj
 | .meet=>[]
 | .gather m a=>[.int m,.int a]
 | .many m=>[.int m]
 | .rank b=>[qV b]
 | .turns s=>[.tuple (s.map .int)]
 | .eldest=>[]
def Lg(r:Rl):aj:=.tuple (.str (qW r)::tJ r)
def CZ(rest:Int)(k:Nat):Int:=1+rest/((k:Int)*k+1)%3
def lu(m:Int)(many:Nat):Rl:=
 if m%6=5/\1<many then .meet
 else if m%6=4 then .gather (1+m/6%4) (m/6/4%9)
 else if m%6=3 then .many (1+m/6%4)
 else if m%6=2 then .rank (if m/6%2=0 then none else some (m/6/2%9))
 else if m%6=1 then .turns ((cx many).map (CZ (m/6)))
 else .eldest
def je:Rl->Nat->Int
 | .many m,_=>m
 | .gather m _,_=>m
 | .meet,n=>n
 |_,_=>1
section
variable{P:bA}{w:cn}{K:aq}{mg:Str->Option aF}{base:cX}{f:aH}{k:Nat}
abbrev Nrl:List Str:=["_law_m","_law_many","_law_rest"]
theorem SF:cw Nrl ["_law_m","_law_many"] (bL (top 45)):=by grind
def Rrl(ds:List aj)(d:aj):Prop:=∃(m:Int)(many:Nat),ds=[.int m,.int many]/\0<=m/\m<1999999973/\many<=60/\d=Lg (lu m many)
def Vp(rest:Int):aj->Option aj
 | .int k=>some (.int (1+rest/(k*k+1)%3))
 |_=>none
theorem Gz(rest:Int)(many:Nat):(iJ many).filterMap (Vp rest)=((cx many).map (CZ rest)).map .int:=by
 unfold iJ;rw[bP,aB];exact filterMap_some λk _=>rfl
theorem zco(F:kX K "_law_rule" "_law_rule" (top 45) f fd)(n:Ng mg):eW P w K mg base kD 1 f fd ["_law_m","_law_many"] (g7 K Rrl):=
 jz F SF (by ext) λ_ _ h=>by
  obtain⟨m,many,rfl,h0,h1,hm,rfl⟩:=h;intro g6 A outer s H E hr;have nk:(["_law_k","_law_rest"]:List Str).Nodup:=∎
  have r0:0<=m/6:=Int.ediv_nonneg h0 ⋯
  have r1:m/6<1999999973:=∅
  refine aG (cu 2 (eI (ai 0 rfl) aE #[⋯,⋯]) SF.nd) ?_
  have ev:∀j:Int,cR (.int (m%6)) (.int j)=decide (m%6=j):=λj=>jd _ _
  unfold lu;by_cases c5:m%6=5/\1<many
  ·rw[qQ3 c5]
   refine dA (dq (VT.to (gk (fh hr (bQ 20 _) (bQ 20 _) (cq (ai 0 rfl) aE ⋯) aE) (λ_=>Bh (ai 1 rfl) aE)) ?_) (aY (ck (VE.to (dR (ao aW aR)) rfl)))) rfl
   rw[ev,qQ1 c5.1,qQ1 ∅];rfl
  rw[qQ2 c5];refine aG (bV (VT.to (gk (fh hr (bQ 20 _) (bQ 20 _) (cq (ai 0 rfl) aE ⋯) aE) (λ_=>Bh (ai 1 rfl) aE)) ?_) bG) ?_
  ·rw[ev]
   by_cases h5:m%6=5
   ·rw[qQ1 h5,kQ]
    exact qQ0 λz=>c5 #[h5,∅]
   ·rw[qQ0 h5];rfl
  by_cases c4:m%6=4
  ·rw[qQ3 c4]
   refine dA (dq (VT.to (fh hr (bQ 20 _) (bQ 20 _) (cq (ai 0 rfl) aE ⋯) aE) (by rw[ev,qQ1 c4])) (aY (ck (VE.to (dR (ao aW (ao (dZ aE (cq (ai 2 rfl) aE ⋯)) (ao (cq (eI (ai 2 rfl) aE #[⋯,⋯]) aE ⋯) aR)))) rfl)))) rfl
  rw[qQ2 c4];refine aG (bV (VT.to (fh hr (bQ 20 _) (bQ 20 _) (cq (ai 0 rfl) aE ⋯) aE) (by rw[ev,qQ0 c4])) bG) ?_
  by_cases c3:m%6=3
  ·rw[qQ3 c3]
   refine dA (dq (VT.to (fh hr (bQ 20 _) (bQ 20 _) (cq (ai 0 rfl) aE ⋯) aE) (by rw[ev,qQ1 c3])) (aY (ck (VE.to (dR (ao aW (ao (dZ aE (cq (ai 2 rfl) aE ⋯)) aR))) rfl)))) rfl
  rw[qQ2 c3];refine aG (bV (VT.to (fh hr (bQ 20 _) (bQ 20 _) (cq (ai 0 rfl) aE ⋯) aE) (by rw[ev,qQ0 c3])) bG) ?_
  by_cases c2:m%6=2
  ·rw[qQ3 c2]
   refine dA (dq (VT.to (fh hr (bQ 20 _) (bQ 20 _) (cq (ai 0 rfl) aE ⋯) aE) (by rw[ev,qQ1 c2])) (aY (ck (VE.to (dR (ao aW (ao (fU (VO.ve (dS (ao dQ (ao (cq (eI (ai 2 rfl) aE #[⋯,⋯]) aE ⋯) aR)))) (cq (ai 2 rfl) aE ⋯) ?_) aR))) rfl)))) rfl
   rcases Int.emod_two_eq (m/6)with e|e
   ·rw[e,qQ3 rfl];rfl
   ·rw[e,qQ2 ⋯];rfl
  rw[qQ2 c2];refine aG (bV (VT.to (fh hr (bQ 20 _) (bQ 20 _) (cq (ai 0 rfl) aE ⋯) aE) (by rw[ev,qQ0 c2])) bG) ?_
  by_cases c1:m%6=1
  ·rw[qQ3 c1]
   refine dA (dq (VT.to (fh hr (bQ 20 _) (bQ 20 _) (cq (ai 0 rfl) aE ⋯) aE) (by rw[ev,qQ1 c1])) (aY (ck (VE.to (dR (ao aW (ao (jV kr vh (ao (VO.ve (VO.to (eU (own:=["_law_k"]) (cap:=[2]) (tgt:=.one 0) rfl #[rfl,∎,∎,rfl,rfl,?_] (pF (n:=(many:Int)) (ai 1 rfl) n.rng ∅ ∅) (λf s3 H3=>gJ 0 nk) rfl
    (small (by rw[jv];omega)) (λd hd=>?_)) (Gz _ _))) aR) n.tup rfl) aR))) rfl)))) rfl
   ·intro j hj
    rcases ax.mp hj with rfl|hj
    ·exact#[(by show(2:Nat)<3;decide),o8 rfl,rfl]
    ·cases hj
   ·obtain⟨i,hi,rfl⟩:=au.mp hd
    have hi:=cA.mp hi;have hii:(0:Int)<=(i:Int)*i:=Int.mul_nonneg ∅ ∅
    have zhJ:(i:Int)*i<=60*60:=Int.mul_le_mul ∅ ∅ ∅ ∅
    exact Ee rfl rfl λf s3 H3=>dZ aE (cq (eI (ai 1 rfl) (dZ (rJ (ai 0 rfl) (ai 0 rfl) (.inl #[∅,∅])) aE) #[∅,∅]) aE ⋯)
  rw[qQ2 c1];exact aG (bV (VT.to (fh hr (bQ 20 _) (bQ 20 _) (cq (ai 0 rfl) aE ⋯) aE) (by rw[ev,qQ0 c1])) bG) (aY (ck (VE.to (dR (ao aW aR)) rfl)))
theorem YL:cw ["_law_rule_here","_law_many"] ["_law_rule_here","_law_many"] (bL (top 46)):=by grind
def Rgr(ds:List aj)(d:aj):Prop:=∃(r:Rl)(many:Nat),ds=[Lg r,.int many]/\d=.int (je r many)
theorem zcp(F:kX K "_law_greatest" "_law_greatest" (top 46) f fd):eW P w K mg base kD 1 f fd ["_law_rule_here","_law_many"] (g7 K Rgr):=
 jz F YL (by ext) λ_ _ h=>by
  obtain⟨r,many,rfl,rfl⟩:=h;unfold Lg;intro g6 A outer s H E hr;have hl:(tJ r).length<=2:=by cases r<;>simp[tJ]
  have x1:∃x,(aX (qW r)::tJ r ++ [.int 0])[1]?=some x/\((gF [(("many":Str),x),("gather",x),("meet",.int many)] (qW r)).getD (.int 1))=.int (je r many):=by
   cases r<;>exact#[_,rfl,rfl]
  obtain⟨x,hx,hv⟩:=x1;have hn3:=(show([("many":Str),"gather","meet"]).Nodup by symm)
  have hx1:=cM hx;have hz:(aX (qW r)::tJ r).length + [c9 0].length<=sizeLine:=small (by simp only[bf,df];omega)
  have qY:(aX (qW r)::tJ r)≠[]:=by simp
  generalize tJ r=ra at *
  generalize qW r=sF at *
  refine aY (ck (VE.to (MB hr (IK (kvs:=[(("many":Str),x),("gather",x),("meet",.int many)]) (.cons aW ?_ (.cons aW ?_ (.cons aW (ai 1 rfl) .nil))) hn3 (by simp) (by show 3<=15;decide)) (x:=sF) ?_ (d:=.int 1) aE) hv))
  ·exact dz (yk (d1:=.str sF::ra) (d2:=[.int 0]) (ai 0 rfl) (dR (ao aE aR)) qY hz) aE hx1
  ·exact dz (yk (d1:=.str sF::ra) (d2:=[.int 0]) (ai 0 rfl) (dR (ao aE aR)) qY hz) aE hx1
  ·exact dz (ds:=.str sF::ra) (ai 0 rfl) aE (cM (j:=0) rfl)
end
structure Dk where
 name:Str
 to:Str
 rule:Rl
 places:List Str
variable{iu:List Dk}
def jh(l:List Str):aj:=.list (l.map .str)
def ej(d:Dk):aj:=.tuple [.str d.name,.str d.to,Lg d.rule,.tuple (d.places.map .str)]
def gC(cell:Int)(nn k:Nat):Nat:=if k<nn then k else(c7 cell (40+k)%nn).toNat
def Bv(cell:Int)(k len:Nat):Nat:=(c7 cell (60+k)%(len+1)).toNat
def eA(cell:Int)(nn:Nat)(places:List Str):Nat->List (List Str)
 |0=>bw nn []
 |k+1=>(eA cell nn places k).set (gC cell nn k) (rV ((eA cell nn places k).getD (gC cell nn k) []) (Bv cell k ((eA cell nn places k).getD (gC cell nn k) []).length) (places.getD k ""))
def Nh(cell:Int)(lines:List Str)(k:Nat):Str:=(lines ++ [("":Str)]).getD (c7 cell (80+k)%(lines.length+1)).toNat ""
def GA(cell:Int)(names lines:List Str)(taken:List (List Str))(k:Nat):Dk:=#[names.getD k "",Nh cell lines k,lu (c7 cell (90+k)) (taken.getD k []).length,taken.getD k []]
def ly(cell:Int)(n:Nat):Nat:=(1+c7 cell 32%(if(n:Int)<4 then(n:Int)else 4)).toNat
def lz(cell:Int)(places lines:List Str):List Dk:=(cx (ly cell places.length)).map (GA cell (namesOf (c7 cell 31) (ly cell places.length)) lines (eA cell (ly cell places.length) places places.length))
theorem gU(cell:Int)(nn:Nat)(places:List Str):∀k,(eA cell nn places k).length=nn
 |0=>by simp[eA]
 |k+1=>by rw[eA,kW,gU cell nn places k]
theorem mH(cell:Int){n:Nat}(h:1<=n):1<=ly cell n/\ly cell n<=4/\ly cell n<=n:=by
 unfold ly
 split
 ·rename_i hn
  have a1:0<=c7 cell 32%n:=cK _ ∅
  have a2:c7 cell 32%n<n:=dG _ ∅
  omega
 ·have a1:0<=c7 cell 32%4:=cK _ ∅
  omega
theorem Bw(cell:Int){nn:Nat}(h:1<=nn)(k:Nat):gC cell nn k<nn:=by
 unfold gC
 split
 ·assumption
 ·have a1:0<=c7 cell (40+k)%nn:=cK _ ∅
  have a2:c7 cell (40+k)%nn<nn:=dG _ ∅
  omega
theorem Ni(cell:Int)(k len:Nat):Bv cell k len<=len:=by
 unfold Bv
 have a2:c7 cell (60+k)%(len+1)<len+1:=dG _ ∅
 omega
theorem xj{α:Type}(l:List α)(i:Nat)(y:α):(rV l i y).length=l.length+1:=by
 unfold rV;rw[aV,bf,bh,cV];omega
theorem Nj{α:Type}{l:List α}{x y:α}(h:x∈rV l i y):x∈l\/x=y:=by
 rcases bo.mp h with h|h
 ·exact .inl (eC h)
 ·rcases ax.mp h with h|h
  ·exact .inr h
  ·exact .inl (fG h)
theorem sP(cell:Int)(nn:Nat)(places:List Str):∀k,∀row∈eA cell nn places k,row.length<=k/\(k<=places.length->∀x∈row,x∈places)
 |0,row,h=>by
  obtain⟨_,rfl⟩:=jt.mp h;exact#[aT _,λ_ x hx=>by cases hx]
 |k+1,row,h=>by
  have ih:=sP cell nn places k;rcases o9 (show row∈List.set _ _ _ from h)with h|h
  ·exact#[lS (ih row h).1,λhk=>(ih row h).2 ∅]
  ·have hg:(eA cell nn places k).getD (gC cell nn k) []=[]\/(eA cell nn places k).getD (gC cell nn k) []∈eA cell nn places k:=by
    rw[aO]
    cases e:(eA cell nn places k)[gC cell nn k]? with
    |none=>exact .inl rfl
    |some r=>exact .inr (aK e)
   generalize(eA cell nn places k).getD _ []=g at *
   subst h;have Nk:g.length<=k/\(k<=places.length->∀x∈g,x∈places):=by
    rcases hg with rfl|hg
    ·exact#[bj _,λ_ x hx=>by cases hx]
    ·exact ih g hg
   refine#[by rw[xj];omega,λhk x hx=>?_]
   rcases Nj hx with hx|rfl
   ·exact Nk.2 ∅ x hx
   ·rw[aO,av ∅]
    exact cZ _
theorem C5(cell:Int)(lines:List Str)(k:Nat):ur ((lines ++ [("":Str)]).map aX) (c7 cell (80+k)%((lines.length:Int)+1))=some (.str (Nh cell lines k))/\Nh cell lines k∈lines ++ [("":Str)]:=by
 have a1:0<=c7 cell (80+k)%(lines.length+1):=cK _ ∅
 have a2:c7 cell (80+k)%(lines.length+1)<lines.length+1:=dG _ ∅
 unfold Nh
 generalize c7 cell (80+k)%(lines.length+1)=j at *
 obtain⟨i,rfl⟩:=lI a1;have hi:i<(lines ++ [("":Str)]).length:=by simp;omega
 have e:(lines ++ [("":Str)]).getD ((i:Int)).toNat ""=(lines ++ [("":Str)])[i]:=by
  rw[fy,aO,av hi];rfl
 rw[e];exact#[cM (by rw[ay,av hi];rfl),cZ hi]
section
variable{P:bA}{w:cn}{K:aq}{mg:Str->Option aF}{base:cX}{f:aH}{k:Nat}
abbrev Ndk:List Str:=["_law_cell","_law_places","_law_lines","_law_names_here","_law_taken","_law_k","_law_place","_law_at","_law_desks_here","_law_name","_law_to"]
theorem SG:cw Ndk ["_law_cell","_law_places","_law_lines"] (bL (top 47)):=by grind
def Rdk(ds es:List aj):Prop:=∃(cell:Int)(places lines:List Str),ds=[.int cell,jh places,jh lines]/\1<=places.length/\places.length<=12/\lines.length<=12/\es=(lz cell places lines).map ej
theorem zcq(F:kX K "_law_desks" "_law_desks" (top 47) f fd)(n:Ng mg)(C1:bB P w K mg base 1 "_law_mix" ["_law_cell","_law_k"] (g7 K EF))(C2:bB P w K mg base 2 "_law_names" ["_law_cell","_law_many"] (Gf K Rnm))(C3:bB P w K mg base 1 "_law_rule" ["_law_m","_law_many"] (g7 K Rrl)):eW P w K mg base kD 3 f fd ["_law_cell","_law_places","_law_lines"] (Gf K Rdk):=
 J2 F SG (by ext) λ_ _ h=>by
  obtain⟨cell,places,lines,rfl,h1,h12,Vq,rfl⟩:=h;intro g6 A outer s H E hr;have nd:Ndk.Nodup:=SG.nd;have nc:(["_law_name"]:List Str).Nodup:=∎
  have gq:eB 1 _:=hr.mono ∅
  obtain⟨nn1,nn4,nnp⟩:=mH cell h1;unfold lz;have enn:((ly cell places.length:Nat):Int)=1+c7 cell 32%(if(places.length:Int)<4 then(places.length:Int)else 4):=by
   unfold ly;have a1:0<=c7 cell 32%(if(places.length:Int)<4 then(places.length:Int)else 4):=cK _ (by split<;>omega)
   omega
  generalize ly cell places.length=nn at *
  have nl:=gT (c7 cell 31) nn
  generalize hnm:namesOf (c7 cell 31) nn=names at *
  refine aG (cu 3 (d:=jh names) (VO.ve (oq C2 hr (ao (bF C1 gq (ao (ai 0 rfl) (ao aE aR)) #[cell,31,rfl,⋯,⋯,rfl]) (ao (VE.to (k:=.int nn) (dZ aE (cq (bF C1 gq (ao (ai 0 rfl) (ao aE aR)) #[cell,32,rfl,⋯,⋯,rfl]) (gR (JG rfl) (UX 4 (places.length:Int)) (ao aE (ao (VE.to (fY (ai 1 rfl) n.len) (by simp)) aR)) n.min rfl) (by split<;>omega))) (by rw[enn])) aR)) #[c7 cell 31,nn,rfl,∅,by rw[hnm]])) nd) ?_
  refine pH λB0 B σ H0 Hh D fr ok=>?_
  refine cI (IL 4 (ds:=names.map aX) (own:=["_law_name"]) (cap:=[]) (N:=["_law_name"]) (cl:=[]) (tgt:=.one 0) fr rfl rfl #[rfl,∎,∎,rfl,rfl,by simp] (dY (ai 3 rfl)) (λf s3 H3=>gJ 0 nc) rfl (small (by rw[ae];omega)) (λd hd=>#[_,rfl]) nd (λσ1 a ps H1 dD G=>?_) (λa=>rfl))
  have e0:(eA cell nn places 0).map (λr=>r.map aX)=bw (names.map aX).length []:=by
   show(bw nn []).map _=_
   rw[List.map_replicate,ae,nl];rfl
  rw[<-e0]at G;refine cI (Bt (tgt:=.tup [5,6]) (λi=>LL K a ps ((eA cell nn places i).map λr=>r.map aX)) (λ_=>LL.mono) G bY rfl (ni (ds:=places.map .str) (ai 1 rfl) n.OQ)
   (gK rfl (bT (gJ 5 nd) (bT (gJ 6 nd) fF))) (λi d hd=>?_) (λσ2 Ha Hb G2=>?_))
  ·obtain⟨x,hx,rfl⟩:=ju hd
   obtain⟨hip,rfl⟩:i<places.length/\x=.str (places.getD i ""):=by
    rw[ay]at hx
    cases e:places[i]? with
    |none=>rw[e]at hx;cases hx
    |some p=>
     rw[e]at hx;cases hx;exact#[(aJ.mp e).1,by rw[aO,e];rfl]
   refine#[_,rfl,rfl,λD C0 σ' cW H' G q=>?_]
   have hR:=gU cell nn places i;have hj:=Bw cell nn1 i;have mD:ps.length=nn:=by
    obtain⟨_,_,_,_,_,z,_⟩:=G.ex;exact z.trans (by simp[hR])
   obtain⟨p,hp⟩:∃p,ps[gC cell nn i]?=some p:=#[ps[gC cell nn i]'∅,av _]
   have wC:(eA cell nn places i)[gC cell nn i]?=some ((eA cell nn places i).getD (gC cell nn i) []):=by
    rw[aO,av ∅];rfl
   have wg:=aK wC;have hlen:=(sP cell nn places i _ wg).1;have egs:((eA cell nn places (i+1)).map λr=>r.map aX)=((eA cell nn places i).map λr=>r.map aX).set (gC cell nn i) (rV (((eA cell nn places i).getD (gC cell nn i) []).map aX) (Bv cell i ((eA cell nn places i).getD (gC cell nn i) []).length) (.str (places.getD i ""))):=by
    show(List.set _ _ _).map _=_
    rw[List.map_set]
    congr 1
    unfold rV;rw[aP,aA,DG,pW]
   have hgj:((eA cell nn places i).map λr=>r.map aX)[gC cell nn i]?=some (((eA cell nn places i).getD (gC cell nn i) []).map aX):=by
    rw[ay,wC];rfl
   rw[egs]at q
   generalize(eA cell nn places i).getD (gC cell nn i) []=row at *
   refine cI (mU LL.mono G (cu 7 (ai 5 rfl) nd) rfl λσ1 Ha Hb G1=>?_)
   refine cI (mU LL.mono G1 (R9 (o:=.nx [.val (.int cell),.val (jh places),.val (jh lines),.val (jh names),.ref a,.val (.int i),.val (.str (places.getD i "")),.val (.int (gC cell nn i)),.un,.un,.un]) (R4 (ai 5 rfl) (fY (ai 3 rfl) n.len)) (λhk=>?_) (λhk=>?_)) rfl λσ2 Hc Hd G2=>?_)
   ·have hk:¬i<nn:=by
     have:=qQ4 hk;rw[ae,nl]at this;omega
    have e:((gC cell nn i:Nat):Int)=c7 cell (40+i)%(nn:Int):=by
     unfold gC;rw[qQ2 hk];have a1:0<=c7 cell (40+i)%(nn:Int):=cK _ ∅
     omega
    rw[e];exact aY (cu 7 (cq (bF C1 gq (ao (ai 0 rfl) (ao (dZ aE (ai 5 rfl)) aR)) #[cell,40+(i:Int),rfl,∅,∅,rfl]) (VE.to (fY (ai 3 rfl) n.len) (by rw[ae,nl])) ∅) nd)
   ·have hk:i<nn:=by
     have:=qQ5 hk;rw[ae,nl]at this;omega
    have e:gC cell nn i=i:=by unfold gC;rw[qQ3 hk]
    rw[e];exact bG
   have em:((Bv cell i row.length:Nat):Int)=c7 cell (60+i)%((row.length:Int)+1):=by
    unfold Bv;have a1:0<=c7 cell (60+i)%((row.length:Int)+1):=cK _ ∅
    omega
   refine bS (Kf G2 4 (j:=gC cell nn i) (p:=p) (ds:=row.map .str) rfl (ai 7 rfl) hp hgj (VE.to (cq (bF C1 gq (ao (ai 0 rfl) (ao (dZ aE (ai 5 rfl)) aR)) #[cell,60+(i:Int),rfl,∅,∅,rfl]) (dZ (fY (ds:=row.map .str) (fU (ai 4 rfl) (ai 7 rfl) (cM (by rw[ay,hgj];rfl))) n.len) aE) ∅) (by rw[em,ae])) (by rw[ae];exact Ni _ _ _) (ai 6 rfl) (fw (by rw[ae];omega)) (λσ6 Hk Hl G6=>?_))
   exact q _ _ _ (G6.forget LL.mono #[.inr rfl,.inr rfl,.inr rfl,.inr rfl,.inr rfl,.inl rfl,.inl rfl,.inl rfl,.inr rfl,.inr rfl,.inr rfl,trivial] rfl)
  ·refine U3 G2 (ig:=4) rfl LL.rep ?_ (λHx _=>rO.ret rfl rfl ok)
   rw[dE,ae];have tl:=gU cell nn places places.length;have tr:=sP cell nn places places.length
   generalize eA cell nn places places.length=taken at *
   refine aG (ia 8 (dS aR) nd) ?_
   refine aG (jN (tgt:=.tup [5,9]) bY rfl (ni (ds:=names.map .str) (ai 3 rfl) n.OQ)
    (gK rfl (bT (gJ 5 nd) (bT (gJ 9 nd) fF))) (λi=>[.val (.int cell),.val (jh places),.val (jh lines),.val (jh names),.val _,.un,.un,.un,.own (((cx i).map (GA cell names lines taken)).map ej),.un,.un]) nn rfl (by rw[dE,ae,nl];exact aT _) (λi d hi hd=>?_) (.inl #[by rw[dE,ae,nl],rfl])) (aY (Cy 8 rfl))
   obtain⟨x,hx,rfl⟩:=ju hd;obtain rfl:x=.str (names.getD i ""):=by
    rw[ay,av ∅]at hx
    cases hx;rw[aO,av ∅];rfl
   have wC:taken[i]?=some (taken.getD i []):=by
    rw[aO,av ∅];rfl
   have Vr:=(tr _ (aK wC)).1;obtain⟨ht,_⟩:=C5 cell lines i;have lo:=yo cell (90+i);have hi':=Qw cell (90+i);refine#[_,rfl,?_]
   refine aG (cu 10 (fU (VE.to (VO.ve (lb (d1:=lines.map .str) (d2:=[.str ""]) (ai 2 rfl) (VO.ve (dS (ao aW aR))) (small (by simp;omega)))) (by rw[aP];rfl)) (VE.to (cq (bF C1 gq (ao (ai 0 rfl) (ao (dZ aE (ai 5 rfl)) aR)) #[cell,80+(i:Int),rfl,∅,∅,rfl]) (dZ (fY (ai 2 rfl) n.len) aE) ∅) (by rw[ae])) ht) nd) ?_
   refine fj (aY (gO 8 rfl (d:=ej (GA cell names lines taken i)) (dR (ao (ai 9 rfl) (ao (ai 10 rfl) (ao ?_ (ao ?_ aR))))) (fw (by simp only[ae,cY];omega)))) #[.inr rfl,.inr rfl,.inr rfl,.inr rfl,.inr rfl,.inl rfl,.inl rfl,.inl rfl,.inr ?_,.inl rfl,.inl rfl,trivial]
   ·exact bF C3 gq (ao (bF C1 gq (ao (ai 0 rfl) (ao (dZ aE (ai 5 rfl)) aR)) #[cell,90+(i:Int),rfl,∅,∅,rfl]) (ao (fY (fU (ai 4 rfl) (ai 5 rfl) (cM (by rw[ay,ay,wC];rfl))) n.len) aR)) #[c7 cell (90+i),(taken.getD i []).length,by rw[ae],∅,∅,∅,rfl]
   ·exact jV kr vh (ao (fU (ai 4 rfl) (ai 5 rfl) (cM (by rw[ay,ay,wC];rfl))) aR) n.tup rfl
   ·rw[rm,aP,aP];rfl
end
def oE(ns:List Int):Int:=ns.getD 0 0
def fS(ns:List Int):Int:=ns.getD 1 0
def og(ns:List Int):Int:=ns.getD 2 0
def tY(p:Str×Option Int):aj:=.tuple [.str p.1,qV p.2]
def uB(m:Int):Option Int:=if m%3=2 then some (1+m/3%30)else none
def kindAt(a:Int)(names:List Str)(k:Nat):Str×Option Int:=(names.getD k "",uB (c7 a (10+k)))
def j9(a:Int):Nat:=(1+c7 a 1%4).toNat
def qt(a:Int):List (Str×Option Int):=(cx (j9 a)).map (kindAt a (namesOf a (j9 a)))
def iV(b:Int):Nat:=(1+c7 b 2%3).toNat
def placesOf(b:Int):List Str:=namesOf (c7 b 4) (iV b+(c7 b 5%4).toNat)
def oY(b:Int)(n:Nat):Nat:=(c7 b 6%n).toNat
def orderOf(b:Int):List Str:=(placesOf b).drop (oY b (placesOf b).length)++(placesOf b).take (oY b (placesOf b).length)
def lA(b:Int):List Str:=(placesOf b).take (iV b)
def linesOf(b:Int):List Str:=(placesOf b).drop (iV b)
def kz(iu:List Dk)(name:Str):List Int:=iu.filterMap λd=>if decide (d.to=name)=true then some (je d.rule d.places.length)else none
def maxOf(l:List Int):Int:=l.foldl (λm z=>if m<z then z else m) 1
def roomAt(b:Int)(iu:List Dk)(lines:List Str)(k:Nat):Str×Int:=(lines.getD k "",maxOf (kz iu (lines.getD k ""))+c7 b (20+k)%3)
def xk(p:Str×Int):aj:=.tuple [.str p.1,.int p.2]
def xl(p:Str×Str×Int):aj:=.tuple [.str p.1,.str p.2.1,.int p.2.2]
def xm(p:Str×Int×Int):aj:=.tuple [.str p.1,.int p.2.1,.int p.2.2]
def uC(m:Int)(dn:Str)(p:(Str×Option Int)×Nat):Option (Str×Str×Int):=if decide (0<m/((p.2:Int)+7)%3)=true then some (dn,p.1.1,1+m/((p.2:Int)*p.2+2)%6)else none
def gG(m:Int)(dn:Str)(kinds:List (Str×Option Int))(j:Nat):List (Str×Str×Int):=(kinds.zipIdx.take j).filterMap (uC m dn)
def kA(m:Int)(dn:Str):List (Str×Int×Int):=if m/5%4=0 then [(dn,m/20%9,9+m/180%20),(dn,25+m/3600%20,50+m/72000%40)]else []
def gW(c:Int)(iu:List Dk)(kinds:List (Str×Option Int))(i:Nat):List (Str×Str×Int):=(iu.zipIdx.take i).flatMap λp=>gG (c7 c (110+p.2)) p.1.name kinds kinds.length
def jC(c:Int)(iu:List Dk)(i:Nat):List (Str×Int×Int):=(iu.zipIdx.take i).flatMap λp=>kA (c7 c (110+p.2)) p.1.name
structure Pl where
 kinds:List (Str×Option Int)
 gates:List Str
 lines:List (Str×Int)
 desks:List Dk
 times:List (Str×Str×Int)
 hours:List (Str×Int×Int)
abbrev gv(ns:List Int):List Str:=linesOf (fS ns)
abbrev oZ(ns:List Int):List Str:=orderOf (fS ns)
abbrev ic(ns:List Int):List Dk:=lz (og ns) (oZ ns) (gv ns)
abbrev ji(ns:List Int):List (Str×Option Int):=qt (oE ns)
def dF(ns:List Int):Pl:=
 let kds:=qt (oE ns)
 let lns:=linesOf (fS ns)
 let iu:=lz (og ns) (orderOf (fS ns)) lns
 #[kds,lA (fS ns),(cx lns.length).map (roomAt (fS ns) iu lns),iu,gW (og ns) iu kds iu.length,jC (og ns) iu iu.length]
def nr(p:Pl):List (Str×aj):=[("kinds",.list (p.kinds.map tY)),("gates",jh p.gates),("lines",.list (p.lines.map xk)),("desks",.list (p.desks.map ej)),("times",.list (p.times.map xl)),("hours",.list (p.hours.map xm)),("paces",.list [])]
def fL(p:Pl):aj:=lV (nr p)
theorem qu(l:List Int):maxOf l∈(1::l)/\∀z∈(1::l),z<=maxOf l:=by
 have go:∀(l:List Int)(m0:Int),(l.foldl (λm z=>if m<z then z else m) m0)∈m0::l/\∀z∈m0::l,z<=l.foldl (λm z=>if m<z then z else m) m0:=by
  intro l
  induction l with
  |nil=>intro m0;exact#[aM,λz hz=>by simp at hz;rw[hz];exact Ai _]
  |cons x l ih=>
   intro m0;obtain⟨h1,h2⟩:=ih (if m0<x then x else m0)
   rw[nB];refine#[?_,λz hz=>?_]
   ·rcases ax.mp h1 with h|h
    ·rw[h]
     split<;>simp
    ·exact aN _ (aN _ h)
   ·have hm:=h2 _ aM
    rcases ax.mp hz with rfl|hz
    ·refine FG ?_ hm
     split<;>omega
    ·rcases ax.mp hz with rfl|hz
     ·refine FG ?_ hm
      split<;>omega
     ·exact h2 z (aN _ hz)
 exact go l 1
theorem tZ{m:Int}{dn:Str}{j:Nat}{p:Str×Option Int}(h:kinds[j]?=some p):gG m dn kinds (j+1)=gG m dn kinds j++(uC m dn (p,j)).toList:=by
 unfold gG;rw[cv,jZ,h]
 simp;cases e:uC m dn (p,j) with
 |none=>rw[dX e];rfl
 |some r=>rw[cJ e];rfl
theorem rX(m:Int)(dn:Str)(kinds:List (Str×Option Int))(j:Nat):(gG m dn kinds j).length<=j:=by
 exact bU (iD _ _) (by rw[bh];omega)
theorem qv{c:Int}{d:Dk}(h:iu[i]?=some d):gW c iu kinds (i+1)=gW c iu kinds i++gG (c7 c (110+i)) d.name kinds kinds.length:=by
 unfold gW;rw[cv,jZ,h]
 simp
theorem vq{c:Int}{d:Dk}(h:iu[i]?=some d):jC c iu (i+1)=jC c iu i++kA (c7 c (110+i)) d.name:=by
 unfold jC;rw[cv,jZ,h]
 simp
theorem EG(m:Int)(dn:Str):(kA m dn).length<=2:=by unfold kA;split<;>simp
theorem qw(c:Int)(iu:List Dk)(kinds:List (Str×Option Int))(hk:kinds.length<=4):∀i,i<=iu.length->(gW c iu kinds i).length<=4*i
 |0,_=>by simp[gW]
 |i+1,h=>by
  have ih:=qw c iu kinds hk i ∅
  have:=rX (c7 c (110+i)) iu[i].name kinds kinds.length;rw[qv (av ∅),aV]
  omega
theorem qx(c:Int)(iu:List Dk):∀i,i<=iu.length->(jC c iu i).length<=2*i
 |0,_=>by simp[jC]
 |i+1,h=>by
  have ih:=qx c iu i ∅
  have:=EG (c7 c (110+i)) iu[i].name;rw[vq (av ∅),aV]
  omega
theorem mI(a:Int):1<=j9 a/\j9 a<=4:=by
 unfold j9
 omega
theorem jP(b:Int):1<=iV b/\iV b<=3:=by
 unfold iV
 omega
theorem o5(b:Int):(placesOf b).length=iV b+(c7 b 5%4).toNat:=gT _ _
theorem lB(b:Int):iV b<=(placesOf b).length/\(placesOf b).length<=6:=by
 have:=jP b
 rw[o5];omega
theorem sQ(b:Int){n:Nat}(h:1<=n):oY b n<n:=by
 unfold oY
 have a2:c7 b 6%n<n:=dG _ ∅
 omega
theorem qy(cell:Int)(places lines:List Str):(lz cell places lines).length=ly cell places.length:=by simp[lz]
theorem Qz(m:Int):ur [aj.none,.none,.int (1+m/3%30)] (m%3)=some (qV (uB m)):=by
 unfold uB
 rcases(by omega:m%3=0\/m%3=1\/m%3=2)with e|e|e<;>rw[e]<;>rfl
def Bx(r:aj)(n:Nat):Int:=match r with
 | .tuple [.str w,.int m]=>if w="many" then m else 1
 | .tuple [.str w,.int m,_]=>if w="gather" then m else 1
 | .tuple [.str w]=>if w="meet" then n else 1
 |_=>1
theorem C6(r:Rl)(n:Nat):Bx (Lg r) n=je r n:=by
 cases r with
 |rank b=>cases b<;>rfl
 |_=>rfl
def Jb(name:Str):aj->Option aj
 | .tuple [_,.str to,r,.tuple ps]=>if decide (to=name)=true then some (.int (Bx r ps.length))else none
 |_=>none
theorem uD(name:Str)(d:Dk):Jb name (ej d)=(if decide (d.to=name)=true then some (.int (je d.rule d.places.length))else none):=by
 show(if decide (d.to=name)=true then some (c9 _)else none)=_
 rw[C6,ae]
theorem Kn(name:Str)(iu:List Dk):(iu.map ej).filterMap (Jb name)=(kz iu name).map .int:=by
 unfold kz;rw[bP,List.map_filterMap]
 congr 1
 funext d
 show Jb name _=_;rw[uD]
 split<;>rfl
section
variable{P:bA}{w:cn}{K:aq}{mg:Str->Option aF}{base:cX}{f:aH}{k:Nat}
abbrev Npl:List Str:=["_law_script","_law_a","_law_b","_law_c","_law_kinds","_law_k","_law_name","_law_m","_law_many","_law_places","_law_gates","_law_lines","_law_order","_law_desks_here","_law_rooms","_law_loads","_law_times","_law_hours","_law_desk_here","_law_j","_law_kind"]
theorem SJ:cw Npl ["_law_script"] (bL (top 48)):=by grind
def Rpl(ds:List aj)(d:aj):Prop:=∃ns:List Int,ds=[oC ns]/\d=fL (dF ns)
end
theorem oF{α β:Type}(g:α->β)(l:List α)(lo hi:Option Int):L2.cutD (l.map g) lo hi=(L2.cutD l lo hi).map g:=by
 unfold L2.cutD;rw[ae,DG,pW]
theorem lC{α:Type}(l:List α)(n:Nat):L2.cutD l (some (n:Int)) none=l.drop n:=by
 unfold L2.cutD;rw[HT.qd,HT.DZ];by_cases h:n<=l.length
 ·rw[iA h,dw (by rw[cV];omega)]
 ·rw[Nat.min_eq_right ∅,qX ∅,qX ∅];simp
section
variable{P:bA}{w:cn}{K:aq}{mg:Str->Option aF}{base:cX}{f:aH}{k:Nat}
theorem zcs(F:kX K "_law_plant" "_law_plant" (top 48) f fd)(n:Ng mg)(C0:bB P w K mg base 1 "_law_cell_at" ["_law_script","_law_k"] (g7 K Ja))(C1:bB P w K mg base 1 "_law_mix" ["_law_cell","_law_k"] (g7 K EF))(C2:bB P w K mg base 2 "_law_names" ["_law_cell","_law_many"] (Gf K Rnm))(C3:bB P w K mg base 1 "_law_greatest" ["_law_rule_here","_law_many"] (g7 K Rgr))(C4:bB P w K mg base 3 "_law_desks" ["_law_cell","_law_places","_law_lines"] (Gf K Rdk)):eW P w K mg base kD 4 f fd ["_law_script"] (g7 K Rpl):=
 jz F SJ (by ext) λ_ _ h=>by
  obtain⟨ns,rfl,rfl⟩:=h;intro g6 A outer s H E hr;have nd:Npl.Nodup:=SJ.nd;have gq:eB 1 _:=hr.mono ∅
  have Lh:eB 2 _:=hr.mono ∅
  have e0:dF ns=#[(ji ns),(placesOf (fS ns)).take (iV (fS ns)),((cx (gv ns).length).map (roomAt (fS ns) (ic ns) (gv ns))),(ic ns),gW (og ns) (ic ns) (ji ns) (ic ns).length,jC (og ns) (ic ns) (ic ns).length]:=rfl;rw[e0];obtain⟨k1,k4⟩:=mI (oE ns);have knl:(namesOf (oE ns) (j9 (oE ns))).length=j9 (oE ns):=gT _ _;have hkd:(cx (j9 (oE ns))).map (kindAt (oE ns) (namesOf (oE ns) (j9 (oE ns))))=(ji ns):=rfl;have hkl:(ji ns).length=j9 (oE ns):=by simp[qt]
  obtain⟨g1,g3⟩:=jP (fS ns);obtain⟨p1,p6⟩:=lB (fS ns);have pl:=o5 (fS ns);have Vq:(placesOf (fS ns)).drop (iV (fS ns))=(gv ns):=rfl;have hll:(gv ns).length<=6:=by rw[<-Vq,cV];omega
  have hor:(placesOf (fS ns)).drop (oY (fS ns) (placesOf (fS ns)).length)++(placesOf (fS ns)).take (oY (fS ns) (placesOf (fS ns)).length)=(oZ ns):=rfl;have OS:(oZ ns).length=(placesOf (fS ns)).length:=by rw[<-hor,aV,cV,bh];have:=sQ (fS ns) (n:=(placesOf (fS ns)).length) ∅;omega
  have Le:(ic ns).length<=4:=by rw[qy];exact(mH (og ns) ∅).2.1
  have ek:((j9 (oE ns):Nat):Int)=1+c7 (oE ns) 1%4:=by
   unfold j9;have a1:0<=c7 (oE ns) 1%4:=cK _ ∅
   omega
  have eg:(((iV (fS ns)):Nat):Int)=1+c7 (fS ns) 2%3:=by
   unfold iV;have a1:0<=c7 (fS ns) 2%3:=cK _ ∅
   omega
  have ep:((((iV (fS ns))+(c7 (fS ns) 5%4).toNat:Nat)):Int)=((iV (fS ns)):Int)+c7 (fS ns) 5%4:=by
   have a1:0<=c7 (fS ns) 5%4:=cK _ ∅
   omega
  have et:((oY (fS ns) (placesOf (fS ns)).length:Nat):Int)=c7 (fS ns) 6%((placesOf (fS ns)).length:Int):=by
   unfold oY;have a1:0<=c7 (fS ns) 6%((placesOf (fS ns)).length:Int):=cK _ ∅
   omega
  refine aG (P8 1 2 3 (d1:=.int (oE ns)) (d2:=.int (fS ns)) (d3:=.int (og ns)) (bF C0 gq (ao (ai 0 rfl) (ao aE aR)) #[ns,0,rfl,rfl]) (bF C0 gq (ao (ai 0 rfl) (ao aE aR)) #[ns,1,rfl,rfl]) (bF C0 gq (ao (ai 0 rfl) (ao aE aR)) #[ns,2,rfl,rfl]) rfl nd ⋯ ⋯ ⋯) ?_
  refine aG (ia 4 (dS aR) nd) ?_
  refine aG (jN (tgt:=.tup [5,6]) bY rfl (ni (ds:=(namesOf (oE ns) (j9 (oE ns))).map .str) (VO.ve (oq C2 Lh (ao (ai 1 rfl) (ao (VE.to (k:=.int (j9 (oE ns):Nat)) (dZ aE (cq (bF C1 gq (ao (ai 1 rfl) (ao (aE) aR)) #[oE ns,1,rfl,by first|decide|omega,by first|decide|omega,rfl]) aE ⋯)) (by rw[ek])) aR)) #[oE ns,j9 (oE ns),rfl,∅,rfl])) n.OQ)
   (gK rfl (bT (gJ 5 nd) (bT (gJ 6 nd) (fF)))) (λi=>[.val (oC ns),.val (.int (oE ns)),.val (.int (fS ns)),.val (.int (og ns)),.own (((cx (i)).map (kindAt (oE ns) (namesOf (oE ns) (j9 (oE ns))))).map tY),.un,.un,.un,.un,.un,.un,.un,.un,.un,.un,.un,.un,.un,.un,.un,.un]) (j9 (oE ns)) rfl (by rw[dE,ae,knl];exact aT _) (λi d hi hd=>?_) (.inl #[by rw[dE,ae,knl],rfl])) ?_
  ·obtain⟨x,hx,rfl⟩:=ju hd
   obtain rfl:x=.str ((namesOf (oE ns) (j9 (oE ns))).getD i ""):=by
    rw[ay,av ∅]at hx
    cases hx;rw[aO,av ∅];rfl
   refine#[_,rfl,?_]
   refine aG (cu 7 (d:=.int (c7 (oE ns) (10+i))) (bF C1 gq (ao (ai 1 rfl) (ao (dZ aE (ai 5 rfl)) aR)) #[oE ns,10+(i:Int),rfl,by first|decide|omega,by first|decide|omega,rfl]) nd) ?_
   refine fj (aY (gO 4 rfl (dR (ao (ai 6 rfl) (ao (fU (VO.ve (dS (ao dQ (ao dQ (ao (dZ aE (cq (eI (ai 7 rfl) aE #[⋯,⋯]) aE ⋯)) aR))))) (cq (ai 7 rfl) aE ⋯) (Qz _)) aR))) (fw (by simp only[ae,cY];omega)))) #[.inr rfl,.inr rfl,.inr rfl,.inr rfl,.inr ?_,.inl rfl,.inl rfl,.inl rfl,.inl rfl,.inl rfl,.inl rfl,.inl rfl,.inl rfl,.inl rfl,.inl rfl,.inl rfl,.inl rfl,.inl rfl,.inl rfl,.inl rfl,.inl rfl,trivial]
   rw[rm,aP,aP];rfl
  rw[hkd];refine dM 4 rfl ?_
  refine aG (cu 8 (d:=.int ((iV (fS ns)):Nat)) (VE.to (dZ aE (cq (bF C1 gq (ao (ai 2 rfl) (ao (aE) aR)) #[fS ns,2,rfl,by first|decide|omega,by first|decide|omega,rfl]) aE ⋯)) (by rw[eg])) nd) ?_
  refine aG (cu 9 (d:=jh (placesOf (fS ns))) (VO.ve (oq C2 Lh (ao (bF C1 gq (ao (ai 2 rfl) (ao (aE) aR)) #[fS ns,4,rfl,by first|decide|omega,by first|decide|omega,rfl]) (ao (VE.to (dZ (ai 8 rfl) (cq (bF C1 gq (ao (ai 2 rfl) (ao (aE) aR)) #[fS ns,5,rfl,by first|decide|omega,by first|decide|omega,rfl]) aE ⋯)) (by rw[ep])) aR)) #[c7 (fS ns) 4,(iV (fS ns))+(c7 (fS ns) 5%4).toNat,rfl,∅,rfl])) nd) ?_
  refine aG (Mr 10 11 (d1:=jh ((placesOf (fS ns)).take (iV (fS ns)))) (d2:=jh (gv ns)) (VE.to (VO.ve (h_ (ds:=(placesOf (fS ns)).map .str) (ai 9 rfl) .no (.yes (ai 8 rfl)))) (by rw[oF,vk];rfl)) (VE.to (VO.ve (h_ (ds:=(placesOf (fS ns)).map .str) (ai 9 rfl) (.yes (ai 8 rfl)) .no)) (by rw[oF,lC];rfl)) rfl nd ⋯) ?_
  refine aG (cu 12 (d:=jh (oZ ns)) (VE.to (VO.ve (lb (VO.ve (VO.to (h_ (ds:=(placesOf (fS ns)).map .str) (ai 9 rfl) (.yes (VE.to (k:=.int (oY (fS ns) (placesOf (fS ns)).length:Nat)) (cq (bF C1 gq (ao (ai 2 rfl) (ao (aE) aR)) #[fS ns,6,rfl,by first|decide|omega,by first|decide|omega,rfl]) (fY (ds:=(placesOf (fS ns)).map .str) (ai 9 rfl) n.len) (by rw[ae];omega)) (by rw[et,ae]))) .no) (by rw[oF,lC]))) (VO.ve (VO.to (h_ (ds:=(placesOf (fS ns)).map .str) (ai 9 rfl) .no (.yes (VE.to (k:=.int (oY (fS ns) (placesOf (fS ns)).length:Nat)) (cq (bF C1 gq (ao (ai 2 rfl) (ao (aE) aR)) #[fS ns,6,rfl,by first|decide|omega,by first|decide|omega,rfl]) (fY (ds:=(placesOf (fS ns)).map .str) (ai 9 rfl) n.len) (by rw[ae];omega)) (by rw[et,ae])))) (by rw[oF,vk]))) (small (by simp only[ae,cV,bh];omega)))) (by rw[<-aP,hor];rfl)) nd) ?_
  refine aG (cu 13 (d:=.list ((ic ns).map ej)) (VO.ve (oq C4 hr (ao (ai 3 rfl) (ao (ai 12 rfl) (ao (ai 11 rfl) aR))) #[og ns,(oZ ns),(gv ns),rfl,∅,∅,∅,rfl])) nd) ?_
  refine aG (ia 14 (dS aR) nd) ?_
  have Ko:∀d∈(ic ns),lX d.to:=λd hd=>by
   obtain⟨j,_,rfl⟩:=au.mp hd;have hm:=(C5 (og ns) (gv ns) j).2;rcases bo.mp hm with hm|hm
   ·exact(kL (fG hm)).ok.2
   ·show lX (Nh (og ns) (gv ns) j)
    rw[aQ.mp hm];show bW (.str ("":Str))=true;symm
  refine aG (jN (tgt:=.tup [5,6]) bY rfl (ni (ds:=(gv ns).map .str) (ai 11 rfl) n.OQ)
   (gK rfl (bT (gJ 5 nd) (bT (gJ 6 nd) (fF)))) (λi=>[.val (oC ns),.val (.int (oE ns)),.val (.int (fS ns)),.val (.int (og ns)),.val (.list ((ji ns).map tY)),.un,.un,.un,.val (.int (iV (fS ns))),.val (jh (placesOf (fS ns))),.val (jh ((placesOf (fS ns)).take (iV (fS ns)))),.val (jh (gv ns)),.val (jh (oZ ns)),.val (.list ((ic ns).map ej)),.own (((cx (i)).map (roomAt (fS ns) (ic ns) (gv ns))).map xk),.un,.un,.un,.un,.un,.un]) (gv ns).length rfl (by rw[dE,ae];exact aT _) (λi d hi hd=>?_) (.inl #[by rw[dE,ae],rfl])) ?_
  ·obtain⟨x,hx,rfl⟩:=ju hd
   obtain⟨rfl,wg⟩:x=.str ((gv ns).getD i "")/\(gv ns).getD i ""∈(gv ns):=by
    rw[ay,av ∅]at hx
    cases hx;rw[aO,av ∅]
    exact#[rfl,cZ _]
   have okn:lX ((gv ns).getD i ""):=(kL (fG (show(gv ns).getD i ""∈(placesOf (fS ns)).drop (iV (fS ns))from wg))).ok.2
   have nc:(["_law_desk_here","_law_name"]:List Str).Nodup:=∎
   have hlo:(kz (ic ns) ((gv ns).getD i "")).length<=4:=bU (iD _ _) Le;refine#[_,rfl,?_]
   refine aG (vj 15 (own:=["_law_desk_here"]) (cap:=[6]) (N:=["_law_desk_here","_law_name"]) (tgt:=.one 0) (F:=Jb ((gv ns).getD i "")) (ds:=(ic ns).map ej) rfl #[rfl,∎,∎,rfl,rfl,?_] (dY (ai 13 rfl)) (λf s3 H3=>gJ 0 nc) rfl (small (by rw[ae];omega)) (λd hd=>?_) nd) ?_
   ·intro j hj
    rcases ax.mp hj with rfl|hj
    ·exact#[(by show(6:Nat)<21;decide),o8 rfl,rfl]
    ·cases hj
   ·obtain⟨dk,Jc,rfl⟩:=au.mp hd
    refine#[_,rfl,λf s3 H3=>?_,λr ky f s3 H3=>?_]
    ·refine qk (VT.to (fh (k:=1) gq (bu (Ko dk Jc)) (bu okn) (dz (ai 0 rfl) aE rfl) (ai 1 rfl)) ?_)
     rw[uD,bN];by_cases h:dk.to=(gv ns).getD i ""
     ·rw[qQ1 h,qQ3 rfl];rfl
     ·rw[qQ0 h,qQ2 jm];rfl
    ·rw[uD]at ky
     split at ky
     ·cases ky
      exact bF C3 gq (ao (dz (ai 0 rfl) aE rfl) (ao (mr (ds:=dk.places.map .str) (dz (ai 0 rfl) aE rfl) n.len) aR)) #[dk.rule,dk.places.length,by rw[ae],rfl]
     ·cases ky
   refine dM 15 rfl ?_
   rw[Kn];obtain⟨YM,YN⟩:=qu (kz (ic ns) ((gv ns).getD i ""));refine fj (aY (gO 14 rfl (d:=xk (roomAt (fS ns) (ic ns) (gv ns) i)) (dR (ao (ai 6 rfl) (ao (dZ (gR (sL rfl) (Iy (ns:=1::kz (ic ns) ((gv ns).getD i "")) YM YN) (ao (VO.ve (lb (d1:=[.int 1]) (VO.ve (dS (ds:=[.int 1]) (ao aE aR))) (ai 15 rfl) (small (by simp only[ae,bf,df];omega)))) aR) n.max rfl) (cq (bF C1 gq (ao (ai 2 rfl) (ao (dZ aE (ai 5 rfl)) aR)) #[fS ns,20+(i:Int),rfl,by first|decide|omega,by first|decide|omega,rfl]) aE ⋯)) aR))) (fw (by simp only[ae,cY];omega)))) #[.inr rfl,.inr rfl,.inr rfl,.inr rfl,.inr rfl,.inl rfl,.inl rfl,.inl rfl,.inr rfl,.inr rfl,.inr rfl,.inr rfl,.inr rfl,.inr rfl,.inr ?_,.inl rfl,.inl rfl,.inl rfl,.inl rfl,.inl rfl,.inl rfl,trivial]
   rw[rm,aP,aP];rfl
  refine dM 14 rfl ?_
  refine aG (P6 16 17 (dS aR) (dS aR) rfl nd ⋯) ?_
  refine aG (jN (tgt:=.tup [5,18]) bY rfl (ni (ds:=(ic ns).map ej) (ai 13 rfl) n.OQ)
   (gK rfl (bT (gJ 5 nd) (bT (gJ 18 nd) (fF)))) (λi=>[.val (oC ns),.val (.int (oE ns)),.val (.int (fS ns)),.val (.int (og ns)),.val (.list ((ji ns).map tY)),.un,.un,.un,.val (.int (iV (fS ns))),.val (jh (placesOf (fS ns))),.val (jh ((placesOf (fS ns)).take (iV (fS ns)))),.val (jh (gv ns)),.val (jh (oZ ns)),.val (.list ((ic ns).map ej)),.val _,.un,.own ((gW (og ns) (ic ns) (ji ns) (i)).map xl),.own ((jC (og ns) (ic ns) (i)).map xm),.un,.un,.un]) (ic ns).length rfl (by rw[dE,ae];exact aT _) (λi d hi hd=>?_) (.inl #[by rw[dE,ae],rfl])) ?_
  ·obtain⟨x,hx,rfl⟩:=ju hd
   obtain⟨dk,Jc,rfl⟩:∃dk,(ic ns)[i]?=some dk/\x=ej dk:=by
    rw[ay,av ∅]at hx
    cases hx;exact#[_,av ∅,rfl]
   refine#[_,rfl,?_]
   refine aG (cu 7 (d:=.int (c7 (og ns) (110+i))) (bF C1 gq (ao (ai 3 rfl) (ao (dZ aE (ai 5 rfl)) aR)) #[og ns,110+(i:Int),rfl,by first|decide|omega,by first|decide|omega,rfl]) nd) ?_
   have tsu:=qv (c:=og ns) (kinds:=(ji ns)) Jc;have hsu:=vq (c:=og ns) Jc;have tle:=qw (og ns) (ic ns) (ji ns) ∅ i ∅
   have hle:=qx (og ns) (ic ns) i ∅
   rw[tsu,hsu];have m0:=yo (og ns) (110+i)
   generalize c7 (og ns) (110+i)=m at *
   refine aG (jN (tgt:=.tup [19,20]) bY rfl (ni (ds:=(ji ns).map tY) (ai 4 rfl) n.OQ)
    (gK rfl (bT (gJ 19 nd) (bT (gJ 20 nd) (fF)))) (λj=>[.val (oC ns),.val (.int (oE ns)),.val (.int (fS ns)),.val (.int (og ns)),.val (.list ((ji ns).map tY)),.val (.int i),.un,.val (.int m),.val (.int (iV (fS ns))),.val (jh (placesOf (fS ns))),.val (jh ((placesOf (fS ns)).take (iV (fS ns)))),.val (jh (gv ns)),.val (jh (oZ ns)),.val (.list ((ic ns).map ej)),.val _,.un,.own ((gW (og ns) (ic ns) (ji ns) i++gG m dk.name (ji ns) (j)).map xl),.own ((jC (og ns) (ic ns) (i)).map xm),.val (ej dk),.un,.un]) (ji ns).length (by show([.val (oC ns),.val (.int (oE ns)),.val (.int (fS ns)),.val (.int (og ns)),.val (.list ((ji ns).map tY)),.val (.int i),.un,.val (.int m),.val (.int (iV (fS ns))),.val (jh (placesOf (fS ns))),.val (jh ((placesOf (fS ns)).take (iV (fS ns)))),.val (jh (gv ns)),.val (jh (oZ ns)),.val (.list ((ic ns).map ej)),.val _,.un,.own ((gW (og ns) (ic ns) (ji ns) i++gG m dk.name (ji ns) (0)).map xl),.own ((jC (og ns) (ic ns) (i)).map xm),.val (ej dk),.un,.un]:List Slot)=_;rw[show gG m dk.name (ji ns) 0=[]from rfl,b9];rfl) (by rw[dE,ae];exact aT _) (λj d hj hd=>?_) (.inl #[by rw[dE,ae],rfl])) ?_
   ·obtain⟨x,hx,rfl⟩:=ju hd
    obtain⟨kd,zct,rfl⟩:∃kd,(ji ns)[j]?=some kd/\x=tY kd:=by
     rw[ay,av ∅]at hx
     cases hx;exact#[_,av ∅,rfl]
    have rle:=rX m dk.name (ji ns) j;have jj0:(0:Int)<=(j:Int)*j:=Int.mul_nonneg ∅ ∅
    have jj1:(j:Int)*j<=60*60:=Int.mul_le_mul ∅ ∅ ∅ ∅
    refine#[_,rfl,?_]
    rw[tZ zct];by_cases ht:decide (0<m/((j:Int)+7)%3)=true
    ·have et:uC m dk.name (kd,j)=some (dk.name,kd.1,1+m/((j:Int)*j+2)%6):=by show(if _ then _ else _)=_;rw[qQ3 ht]
     rw[et];refine fj (aY (dq (VT.to (Bh (cq (eI (ai 7 rfl) (dZ (ai 19 rfl) aE) #[∅,∅]) aE ⋯) aE) ht) (aY (gO 16 rfl (d:=xl (dk.name,kd.1,1+m/((j:Int)*j+2)%6)) (dR (ao (dz (ai 18 rfl) aE rfl) (ao (dz (ai 20 rfl) aE rfl) (ao (dZ aE (cq (eI (ai 7 rfl) (dZ (rJ (ai 19 rfl) (ai 19 rfl) (.inl #[∅,∅])) aE) #[∅,∅]) aE ⋯)) aR)))) (fw (by simp only[ae,aV];omega)))))) #[.inr rfl,.inr rfl,.inr rfl,.inr rfl,.inr rfl,.inr rfl,.inl rfl,.inr rfl,.inr rfl,.inr rfl,.inr rfl,.inr rfl,.inr rfl,.inr rfl,.inr rfl,.inl rfl,.inr ?_,.inr rfl,.inr rfl,.inl rfl,.inl rfl,trivial]
     rw[<-cC,aP (l₂:=Option.toList _)];rfl
    ·have et:uC m dk.name (kd,j)=none:=by show(if _ then _ else _)=_;rw[qQ2 ht]
     rw[et];refine fj (aY (bV (VT.to (Bh (cq (eI (ai 7 rfl) (dZ (ai 19 rfl) aE) #[∅,∅]) aE ⋯) aE) ↑ht) bG)) #[.inr rfl,.inr rfl,.inr rfl,.inr rfl,.inr rfl,.inr rfl,.inl rfl,.inr rfl,.inr rfl,.inr rfl,.inr rfl,.inr rfl,.inr rfl,.inr rfl,.inr rfl,.inl rfl,.inr ?_,.inr rfl,.inr rfl,.inl rfl,.inl rfl,trivial]
     rw[nX,b9]
   have rle:=rX m dk.name (ji ns) (ji ns).length;have e5:cR (.int (m/5%4)) (.int 0)=decide (m/5%4=0):=jd _ _;by_cases h5:m/5%4=0
   ·have eh:kA m dk.name=[(dk.name,m/20%9,9+m/180%20),(dk.name,25+m/3600%20,50+m/72000%40)]:=by unfold kA;rw[qQ3 h5]
    rw[eh];refine fj (aY (dq (VT.to (fh (k:=1) gq (bQ 20 _) (bQ 20 _) (cq (eI (ai 7 rfl) aE #[⋯,⋯]) aE ⋯) aE) (by rw[e5,qQ1 h5])) (aG (gO 17 rfl (d:=xm (dk.name,m/20%9,9+m/180%20)) (dR (ao (dz (ai 18 rfl) aE rfl) (ao (cq (eI (ai 7 rfl) aE #[⋯,⋯]) aE ⋯) (ao (dZ aE (cq (eI (ai 7 rfl) aE #[⋯,⋯]) aE ⋯)) aR)))) (fw (by simp only[ae];omega))) (aY (gO 17 rfl (d:=xm (dk.name,25+m/3600%20,50+m/72000%40)) (dR (ao (dz (ai 18 rfl) aE rfl) (ao (dZ aE (cq (eI (ai 7 rfl) aE #[⋯,⋯]) aE ⋯)) (ao (dZ aE (cq (eI (ai 7 rfl) aE #[⋯,⋯]) aE ⋯)) aR)))) (fw (by simp only[ae,aV,bf,df];omega))))))) #[.inr rfl,.inr rfl,.inr rfl,.inr rfl,.inr rfl,.inl rfl,.inl rfl,.inl rfl,.inr rfl,.inr rfl,.inr rfl,.inr rfl,.inr rfl,.inr rfl,.inr rfl,.inl rfl,.inr rfl,.inr ?_,.inl rfl,.inl rfl,.inl rfl,trivial]
    rw[aP (l₂:=[_,_]),cC];rfl
   ·have eh:kA m dk.name=[]:=by unfold kA;rw[qQ2 h5]
    rw[eh,b9];exact fj (aY (bV (VT.to (fh (k:=1) gq (bQ 20 _) (bQ 20 _) (cq (eI (ai 7 rfl) aE #[⋯,⋯]) aE ⋯) aE) (by rw[e5,qQ0 h5])) bG)) #[.inr rfl,.inr rfl,.inr rfl,.inr rfl,.inr rfl,.inl rfl,.inl rfl,.inl rfl,.inr rfl,.inr rfl,.inr rfl,.inr rfl,.inr rfl,.inr rfl,.inr rfl,.inl rfl,.inr rfl,.inr rfl,.inl rfl,.inl rfl,.inl rfl,trivial]
  refine dM 16 rfl ?_
  refine dM 17 rfl ?_
  refine aY (ck (IK (.cons aW (ai 4 rfl) (.cons aW (ai 10 rfl) (.cons aW (ai 14 rfl) (.cons aW (ai 13 rfl) (.cons aW (ai 16 rfl) (.cons aW (ai 17 rfl) (.cons aW (VO.ve (dS aR)) .nil))))))) (show([("kinds":Str),"gates","lines","desks","times","hours","paces"]).Nodup by symm) (by simp[nr]) (by show 7<=15;decide)))
end
end Mg
namespace Mg
open L2 PySem PyProof.Rows
theorem zu(p:Pl):gF (nr p) "kinds"=some (.list (p.kinds.map tY)):=fD rfl
theorem vv(p:Pl):gF (nr p) "gates"=some (jh p.gates):=(cQ (show ¬(("kinds":Str)="gates") by symm)).trans (fD rfl)
theorem vy(p:Pl):gF (nr p) "lines"=some (.list (p.lines.map xk)):=(cQ (show ¬(("kinds":Str)="lines") by symm)).trans ((cQ (show ¬(("gates":Str)="lines") by symm)).trans (fD rfl))
theorem pI(p:Pl):gF (nr p) "desks"=some (.list (p.desks.map ej)):=(cQ (show ¬(("kinds":Str)="desks") by symm)).trans ((cQ (show ¬(("gates":Str)="desks") by symm)).trans ((cQ (show ¬(("lines":Str)="desks") by symm)).trans (fD rfl)))
theorem EH(p:Pl):gF (nr p) "times"=some (.list (p.times.map xl)):=(cQ (show ¬(("kinds":Str)="times") by symm)).trans ((cQ (show ¬(("gates":Str)="times") by symm)).trans ((cQ (show ¬(("lines":Str)="times") by symm)).trans ((cQ (show ¬(("desks":Str)="times") by symm)).trans (fD rfl))))
theorem Nn(p:Pl):gF (nr p) "hours"=some (.list (p.hours.map xm)):=(cQ (show ¬(("kinds":Str)="hours") by symm)).trans ((cQ (show ¬(("gates":Str)="hours") by symm)).trans ((cQ (show ¬(("lines":Str)="hours") by symm)).trans ((cQ (show ¬(("desks":Str)="hours") by symm)).trans ((cQ (show ¬(("times":Str)="hours") by symm)).trans (fD rfl)))))
theorem Nq(p:Pl):gF (nr p) "paces"=some (.list []):=(cQ (show ¬(("kinds":Str)="paces") by symm)).trans ((cQ (show ¬(("gates":Str)="paces") by symm)).trans ((cQ (show ¬(("lines":Str)="paces") by symm)).trans ((cQ (show ¬(("desks":Str)="paces") by symm)).trans ((cQ (show ¬(("times":Str)="paces") by symm)).trans ((cQ (show ¬(("hours":Str)="paces") by symm)).trans (fD rfl))))))
def pickOf{α:Type}(l:List α)(d:α)(j:Int):α:=l.getD (j%l.length).toNat d
theorem jD{α:Type}{l:List α}{d:α}{F:α->aj}(h:1<=l.length)(j:Int):ur (l.map F) (j%(l.length:Int))=some (F (pickOf l d j))/\pickOf l d j∈l:=by
 unfold pickOf;have a1:0<=j%l.length:=cK _ ∅
 have a2:j%l.length<l.length:=dG _ ∅
 generalize j%l.length=i at *
 obtain⟨n,rfl⟩:=lI a1;have hn:n<l.length:=∅
 have e:l.getD ((n:Int)).toNat d=l[n]:=by rw[fy,aO,av hn];rfl
 rw[e];exact#[cM (by rw[ay,av hn];rfl),cZ hn]
structure Ka(K:aq):Prop where
 ss:eE K (.type "str") (.type "str")=some true
 is:eE K (.type "int") (.type "str")=some false
 ts:eE K (.type "tuple") (.type "str")=some false
 ls:eE K (.type "list") (.type "str")=some false
 ii:eE K (.type "int") (.type "int")=some true
 ti:eE K (.type "tuple") (.type "int")=some false
 li:eE K (.type "list") (.type "int")=some false
 ib:eE K (.type "int") (.type "bool")=some false
 tt:eE K (.type "tuple") (.type "tuple")=some true
 tl:eE K (.type "tuple") (.type "list")=some false
 lt:eE K (.type "list") (.type "tuple")=some false
 ll:eE K (.type "list") (.type "list")=some true
def Nr:aj->Bool
 | .none=>true
 |_=>false
theorem m8{K:aq}{d:aj}:Bg K (λx y H Q=>y=.non/\Q (.bl (decide (x=.non))) H) d .none (.bool (Nr d)):=λv u H0 H Q s r1 r2 k=>by
 cases r2;refine#[rfl,k _ _ _ (.refl s) ?_]
 cases r1<;>exact .bl _
structure Na(mg:Str->Option aF):Prop extends Nm mg where
 str:mg "str"=none
 all:mg "all"=none
def Fal:aj->Option aj:=λ_=>some (.bool true)
theorem Jd:∀l:List aj,l.filterMap Fal=(bw l.length true).map .bool
 | []=>rfl
 |d::l=>by rw[cJ (f:=Fal) rfl,Jd l];rfl
theorem Kq(n:Nat):qP (bw n true)=true:=by
 unfold qP;rw[fe];intro b hb;exact(jt.mp hb).2
end Mg
namespace Mg
open L2 PySem PyProof.Rows
seal L2.VE L2.VS L2.rP L2.VT L2.VO L2.Fy
abbrev pX:=Int×Str×Str×Str
def oh(g:pX):aj:=.tuple [.int g.1,.str g.2.1,.str g.2.2.1,.str g.2.2.2]
def zv(m:Int):Int:=if m%5=2 then 1 else if m%5=3 then m/7%3 else if m%5=4 then m/7%12 else 0
theorem step_at(m:Int):ur [c9 0,.int 0,.int 1,.int (m/7%3),.int (m/7%12)] (m%5)=some (.int (zv m)):=by
 unfold zv
 rcases(by omega:m%5=0\/m%5=1\/m%5=2\/m%5=3\/m%5=4)with e|e|e|e|e<;>rw[e]<;>rfl
def wG(cells:List Int):Nat->Int
 |0=>0
 |k+1=>wG cells k+zv (c7 (cells.getD k 0) k)
def pJ(m:Int):Str:=([("":Str),"p","q","pp","r"]).getD (m/10000%5).toNat ""
theorem Kr(m:Int):ur [aX "",.str "p",.str "q",.str "pp",.str "r"] (m/10000%5)=some (.str (pJ m)):=by
 unfold pJ
 rcases(by omega:m/10000%5=0\/m/10000%5=1\/m/10000%5=2\/m/10000%5=3\/m/10000%5=4)with e|e|e|e|e<;>rw[e]<;>rfl
def C7(p:Pl)(cells:List Int)(k:Nat):pX:=(wG cells (k+1),pickOf p.gates "" (c7 (cells.getD k 0) k/100),(pickOf p.kinds ("",none) (c7 (cells.getD k 0) k/1000)).1,pJ (c7 (cells.getD k 0) k))
def vz(p:Pl)(cells:List Int):List pX:=(cx cells.length).map (C7 p cells)
section
variable{P:bA}{w:cn}{K:aq}{mg:Str->Option aF}{base:cX}{f:aH}{k:Nat}
abbrev Ndy:List Str:=["_law_h","_law_cells","_law_day_here","_law_t","_law_k","_law_cell","_law_m","_law_gate","_law_kind","_law_parcel"]
theorem SK:cw Ndy ["_law_h","_law_cells"] (bL (top 52)):=by grind
def Rdy(ds es:List aj):Prop:=∃(p:Pl)(cells:List Int),ds=[fL p,oC cells]/\1<=p.gates.length/\1<=p.kinds.length/\cells.length<=63/\es=(vz p cells).map oh
theorem zcv{fd:eM}(F:kX K "_law_day" "_law_day" (top 52) f fd)(n:Ng mg)(C1:bB P w K mg base 1 "_law_mix" ["_law_cell","_law_k"] (g7 K EF)):eW P w K mg base kD 2 f fd ["_law_h","_law_cells"] (Gf K Rdy):=
 J2 F SK (by ext) λ_ _ h=>by
  obtain⟨p,cells,rfl,hg,hk,hc,rfl⟩:=h;intro g6 A outer s H E hr;have nd:Ndy.Nodup:=SK.nd;refine aG (ia 2 (dS aR) nd) ?_
  refine aG (cu 3 aE nd) ?_
  refine aG (jN (tgt:=.tup [4,5]) bY rfl (ni (ai 1 rfl) n.OQ)
   (gK rfl (bT (gJ 4 nd) (bT (gJ 5 nd) fF))) (λi=>[.val (fL p),.val (oC cells),.own (((cx i).map (C7 p cells)).map oh),.val (.int (wG cells i)),.un,.un,.un,.un,.un,.un]) cells.length rfl (by rw[dE,ae];exact aT _) (λi d hi hd=>?_) (.inl #[by rw[dE,ae],rfl])) (aY (Cy 2 rfl))
  obtain⟨x,hx,rfl⟩:=ju hd;obtain rfl:x=.int (cells.getD i 0):=by
   rw[ay,av ∅]at hx
   cases hx;rw[aO,av ∅];rfl
  refine#[_,rfl,?_]
  have eg:C7 p cells i=(wG cells i+zv _,pickOf p.gates "" (c7 (cells.getD i 0) i/100),(pickOf p.kinds ("",none) _).1,pJ _):=rfl;have et:wG cells (i+1)=wG cells i+zv _:=rfl;refine aG (cu 6 (bF C1 hr (ao (ai 5 rfl) (ao (ai 4 rfl) aR)) #[cells.getD i 0,i,rfl,∅,∅,rfl]) nd) ?_
  rw[rm,aP,aP,kY,kY,eg,et]
  generalize c7 (cells.getD i 0) i=m
  obtain⟨pg,_⟩:=jD hg (m/100);obtain⟨pk,_⟩:=jD hk (m/1000);refine aG (cu 3 (dZ (ai 3 rfl) (fU (VO.ve (dS (ao aE (ao aE (ao aE (ao (cq (eI (ai 6 rfl) aE #[⋯,⋯]) aE ⋯) (ao (cq (eI (ai 6 rfl) aE #[⋯,⋯]) aE ⋯) aR))))))) (cq (ai 6 rfl) aE ⋯) (step_at m))) nd) ?_
  refine aG (cu 7 (fU (du hr (ai 0 rfl) aW (vv p)) (VE.to (cq (eI (ai 6 rfl) aE #[⋯,⋯]) (fY (du hr (ai 0 rfl) aW (vv p)) n.len) (by rw[ae];omega)) (by rw[ae])) pg) nd) ?_
  refine aG (cu 8 (dz (fU (du hr (ai 0 rfl) aW (zu p)) (VE.to (cq (eI (ai 6 rfl) aE #[⋯,⋯]) (fY (du hr (ai 0 rfl) aW (zu p)) n.len) (by rw[ae];omega)) (by rw[ae])) pk) aE rfl) nd) ?_
  refine aG (cu 9 (fU (VO.ve (dS (ao aW (ao aW (ao aW (ao aW (ao aW aR))))))) (cq (eI (ai 6 rfl) aE #[⋯,⋯]) aE ⋯) (Kr m)) nd) ?_
  exact fj (aY (gO 2 rfl (dR (ao (ai 3 rfl) (ao (ai 7 rfl) (ao (ai 8 rfl) (ao (ai 9 rfl) aR))))) (fw (by simp;omega)))) #[.inr rfl,.inr rfl,.inr rfl,.inr rfl,.inl rfl,.inl rfl,.inl rfl,.inl rfl,.inl rfl,.inl rfl,trivial]
end
end Mg
namespace Mg
open L2 PySem PyProof.Rows
variable{n:Int}{c:Nat}{x:Str}
def Bz(c:Nat):List (List Nat)->List Nat
 | []=>[]
 | [x]=>x
 |x::y::r=>x++c::Bz c (y::r)
theorem EI:∀{a b r s:List Nat},c∉a->c∉b->a++c::r=b++c::s->a=b/\r=s
 | [],[],r,s,_,_,h=>#[rfl,(hZ h).2]
 | [],y::b,r,s,_,hb,h=>qQ7 (hZ h).1 (λz=>hb (by rw[z];exact aM))
 |x::a,[],r,s,ha,_,h=>qQ7 (hZ h).1 (λz=>ha (by rw[<-z];exact aM))
 |x::a,y::b,r,s,ha,hb,h=>by
  obtain⟨h1,h2⟩:=hZ h;obtain⟨h3,h4⟩:=EI (λz=>ha (aN _ z)) (λz=>hb (aN _ z)) h2
  exact#[by rw[h1,h3],h4]
theorem BD{c:Nat}:∀{ps qs:List (List Nat)},ps≠[]->qs≠[]->(∀p∈ps,c∉p)->(∀p∈qs,c∉p)->Bz c ps=Bz c qs->ps=qs
 | [],_,h,_,_,_,_=>qQ7 rfl h
 |_,[],_,h,_,_,_=>qQ7 rfl h
 | [x],[y],_,_,_,_,h=>by have h:x=y:=h;rw[h]
 | [x],y::y2::qs,_,_,hp,_,h=>by
  have h:x=y++c::Bz c (y2::qs):=h;exact qQ7 (by rw[h];exact bq _ aM) (hp x aM)
 |x::x2::ps,[y],_,_,_,hq,h=>by
  have h:x++c::Bz c (x2::ps)=y:=h;exact qQ7 (by rw[<-h];exact bq _ aM) (hq y aM)
 |x::x2::ps,y::y2::qs,_,_,hp,hq,h=>by
  obtain⟨h1,h2⟩:=EI (hp x aM) (hq y aM) h;have:=BD (by simp) (by simp) (λp z=>hp p (aN _ z)) (λp z=>hq p (aN _ z)) h2
  rw[h1,this]
theorem add_list(x y:Str):(x++y).cps.toList=x.cps.toList++y.cps.toList:=by
 show(x.cps++y.cps).toList=_
 simp
theorem str_inj{y: Str}(h:x.cps.toList=y.cps.toList):x=y:=Str.ext' (Array.toList_inj.mp h)
theorem join_list(c:Nat):∀ps:List Str,(dm (one c) ps).cps.toList=Bz c (ps.map λp=>p.cps.toList)
 | []=>rfl
 | [x]=>rfl
 |x::y::r=>by
  show(x++one c++dm (one c) (y::r)).cps.toList=_
  rw[add_list,add_list,join_list c (y::r)];show x.cps.toList ++ [c]++_=x.cps.toList++c::_;simp
theorem vA(x y:Str):cP x y≠[]:=by
 intro h;unfold cP at h
 split at h
 ·cases h
 ·split at h
  ·cases h
  ·have:=qQ6 ft h
   rw[xJ]at this;simp at this
theorem uE{ps:List Str}(h:ps≠[])(hf:∀p∈ps,c∉p.cps.toList):cP (dm (one c) ps) (one c)=ps:=by
 have h1:=nL (dm (one c) ps) (one c);have h3:=vA (dm (one c) ps) (one c)
 generalize hq:cP (dm (one c) ps) _=qs at *
 have h2:∀p∈qs,c∉p.cps.toList:=by rw[<-hq];exact uh (dm (one c) ps) c
 have e:=qQ6 (λs:Str=>s.cps.toList) h1
 simp only[join_list]at e;have:=BD ↑h3 ↑h
  (λp hp=>by obtain⟨q,hq,rfl⟩:=au.mp hp;exact h2 q hq) (λp hp=>by obtain⟨q,hq,rfl⟩:=au.mp hp;exact hf q hq) e
 have inj:∀{l m:List Str},(l.map λp=>p.cps.toList)=(m.map λp=>p.cps.toList)->l=m:=by
  intro l
  induction l with
  |nil=>intro m hm;cases m with|nil=>rfl|cons _ _=>cases hm
  |cons x l ih=>
   intro m hm;cases m with
   |nil=>cases hm
   |cons y m=>
    obtain⟨a1,a2⟩:=hZ hm;rw[str_inj a1,ih a2]
 exact inj this
theorem EJ(c:Nat):∀{ps qs:List Str},ps≠[]->qs≠[]->dm (one c) (ps++qs)=dm (one c) ps++one c++dm (one c) qs
 | [],_,h,_=>qQ7 rfl h
 | [x],q::qs,_,_=>rfl
 | [x],[],_,h=>qQ7 rfl h
 |x::y::r,qs,_,h=>by
  show x++one c++dm (one c) ((y::r)++qs)=_;rw[EJ c (by simp) h]
  apply str_inj;show _=(x++one c++dm (one c) (y::r)++one c++dm (one c) qs).cps.toList;simp[add_list,cC]
theorem Ks(c:Nat)(x y:Str):cP (x++one c++y) (one c)=cP x (one c)++cP y (one c):=by
 have e:x++one c++y=dm (one c) (cP x (one c)++cP y (one c)):=by
  rw[EJ c (vA _ _) (vA _ _),nL,nL]
 rw[e];refine uE (by simp[vA]) λp hp=>?_
 rcases bo.mp hp with hp|hp
 ·exact uh x c p hp
 ·exact uh y c p hp
theorem GB(h:c∉x.cps.toList):cP x (one c)=[x]:=by
 have:=uE (ps:=[x]) (by simp) (λp hp=>by rw[aQ.mp hp];exact h)
 exact this
theorem BF:(" ":Str)=one 32:=∎
theorem Vs:("\n":Str)=one 10:=∎
theorem lY(x y:Str):wordsOf (x++" "++y)=wordsOf x++wordsOf y:=by
 unfold wordsOf;rw[BF,Ks,List.filter_append]
theorem zx:wordsOf ""=[]:=by
 unfold wordsOf
 rfl
theorem wH{w:Str}(h:w≠"")(hb:32∉w.cps.toList):wordsOf w=[w]:=by
 unfold wordsOf;rw[BF,GB hb,gf,qQ3 ↑h]
 rfl
theorem Kt(x y z:Str):x++y++z=x++(y++z):=by
 apply str_inj;simp[add_list,cC]
theorem Ku(x:Str):x++""=x:=by
 apply str_inj;rw[add_list];show x.cps.toList ++ []=_;simp
theorem empty_app(x:Str):""++x=x:=by
 apply str_inj;rw[add_list];rfl
theorem zy(x:Str)(n:Nat):jF x (n+1)=x++jF x n:=by
 apply str_inj;rw[add_list]
 show(x.cps++(jF x n).cps).toList=_
 simp
theorem GC(n:Nat)(y:Str):wordsOf (jF " " n++y)=wordsOf y:=by
 induction n with
 |zero=>rw[show jF " " 0="" from rfl,empty_app]
 |succ n ih=>
  have e:jF " " (n+1)++y=""++" "++(jF " " n++y):=by rw[zy,empty_app,Kt]
  rw[e,lY,zx,ih];rfl
theorem Kv(n:Nat)(x y:Str):wordsOf (x++jF " " (n+1)++y)=wordsOf x++wordsOf y:=by
 have e:x++jF " " (n+1)++y=x++" "++(jF " " n++y):=by rw[zy];apply str_inj;simp[add_list,cC]
 rw[e,lY,GC]
theorem zz(n:Nat):∀{ws:List Str},(∀w∈ws,w≠""/\32∉w.cps.toList)->wordsOf (dm (jF " " (n+1)) ws)=ws
 | [],_=>zx
 | [w],h=>wH (h w aM).1 (h w aM).2
 |w::v::ws,h=>by
  show wordsOf (w++jF " " (n+1)++dm (jF " " (n+1)) (v::ws))=_;rw[Kv,wH (h w aM).1 (h w aM).2,zz n (λu hu=>h u (aN _ hu))]
  rfl
theorem oG{ws:List Str}(h:∀w∈ws,w≠""/\32∉w.cps.toList):wordsOf (dm " " ws)=ws:=by
 have e:jF " " (0+1)=" ":=by rw[zy,show jF " " 0="" from rfl,Ku]
 have:=zz 0 h;exact this
theorem Kw{rows:List Str}(h0:rows≠[])(h:∀r∈rows,10∉r.cps.toList):rowsOf (dm "\n" rows)=rows.zipIdx.filterMap λp=>if(wordsOf p.1).isEmpty then none else some (p.2,wordsOf p.1):=by
 unfold rowsOf;rw[Vs,uE h0 h]
def eX(n:Int):Str:=Str.ofString (toString n)
theorem C8{m:Nat}(h:¬m<10):iC 10 m=iC 10 (m/10) ++ [Nat.digitChar (m%10)]:=by
 have hm:m%10<10:=Nat.mod_lt m ⋯
 have t:iC 10 (m/10)++iC 10 (m%10)=iC 10 _:=Nat.toDigits_append_toDigits ⋯ ∅ hm
 rw[Nat.div_add_mod]at t;rw[<-t,lJ hm]
theorem Je:∀(k m:Nat),1<=k->m<10^k->(iC 10 m).length<=k
 |0,_,h,_=>∅
 |k+1,m,_,h=>by
  by_cases hm:m<10
  ·rw[lJ hm];simp
  ·rw[C8 hm,aV]
   have hk:1<=k:=by
    rcases vX k with rfl|hk
    ·exact qQ7 h ↑hm
    ·exact hk
   have:=Je k (m/10) hk (by rw[Nat.div_lt_iff_lt_mul ⋯];rw[Nat.pow_succ]at h;exact h);simp;omega
theorem QB(m:Nat):1<=(iC 10 m).length:=by
 by_cases hm:m<10
 ·rw[lJ hm];simp
 ·rw[C8 hm,aV];simp
theorem Nt(m:Nat)(h:0<m):∃c,(iC 10 m).head?=some c/\c≠'0':=by
 induction m using Nat.strongRecOn with
 |_ m ih=>
  by_cases hm:m<10
  ·rw[lJ hm]
   refine#[_,rfl,?_]
   have:∀d:Nat,d<10->0<d->Nat.digitChar d≠'0':=⋯
   exact this m hm h
  ·obtain⟨c,h1,h2⟩:=ih (m/10) ∅ ∅
   refine#[c,?_,h2]
   rw[C8 hm,List.head?_append,h1]
   rfl
theorem wI(h0:0<=n):(eX n).cps.toList=(iC 10 n.toNat).map Char.toNat:=by
 obtain⟨m,rfl⟩:=lI h0;exact PySem.W.KIN.signs_num m
theorem lZ(h0:0<=n)(hc:c∈(eX n).cps.toList):48<=c/\c<=57:=by
 rw[wI h0]at hc;obtain⟨ch,K9,e⟩:=au.mp hc;have r:=digit_range (Nat.isDigit_of_mem_toDigits ⋯ ⋯ K9)
 rwa[<-e]
theorem yq(h0:0<=n)(h1:n<1000000):1<=(eX n).length/\(eX n).length<=6:=by
 have e:(eX n).length=(iC 10 n.toNat).length:=by
  show(eX n).cps.size=_
  rw[<-di,wI h0,ae]
 rw[e];exact#[QB _,Je 6 _ ⋯ ∅]
theorem EK:("0123456789":Str).cps.toList=(cx 10).map (48 + ·):=∎
theorem o6(h0:0<=n)(h1:n<1000000):xW (eX n):=by
 refine#[by have:=yq h0 h1;omega,(nq _).mpr λc hc=>?_]
 have:=lZ h0 hc;omega
theorem zA(h0:0<=n)(h1:n<1000000):isNumber (eX n)=true:=by
 obtain⟨l1,l2⟩:=yq h0 h1;have em:qp "0123456789" 6 (eX n)=true:=by
  unfold qp;rw[qQ1 ∅,qQ1 ∅,kQ,kQ,fe]
  intro c hc;have hd:=lZ h0 hc;have:Ei (one c) "0123456789"=decide (c∈("0123456789":Str).cps.toList):=uY ..;rw[this,EK];exact qQ1 (au.mpr #[c-48,cA.mpr ∅,∅])
 unfold isNumber;rw[em,kQ];by_cases hn:n=0
 ·subst hn
  rfl
 ·obtain⟨c,c1,c2⟩:=Nt n.toNat ∅
  have hh:(eX n).cps.toList.head?=some c.toNat:=by
   rw[wI h0,List.head?_map,c1]
   rfl
  rw[hh];have:one c.toNat≠"0":=by
   intro z;have z2:(one c.toNat).cps.toList=("0":Str).cps.toList:=by rw[z]
   have z3:[c.toNat]=[48]:=z2;have z4:c.toNat=48:=by simpa using z3
   exact c2 (Char.toNat_inj.mp z4)
  show(_ || !decide (one c.toNat="0"))=true
  rw[qQ0 this];simp
theorem num_reads(h0:0<=n)(h1:n<1000000):intText? (eX n)=some n:=PySem.W.KIN.num_reads h0 ∅
theorem nT(h0:0<=n)(h1:n<1000000):eX n≠""/\32∉(eX n).cps.toList/\10∉(eX n).cps.toList:=by
 refine#[λz=>?_,λz=>?_,λz=>?_]
 ·have:=(yq h0 h1).1
  rw[z]at this;exact qQ7 this ⋯
 ·have:=lZ h0 z;omega
 ·have:=lZ h0 z;omega
theorem hC(h:dW x):x≠""/\32∉x.cps.toList/\10∉x.cps.toList:=by
 refine#[λz=>?_,λz=>?_,λz=>?_]
 ·have:=h.1
  rw[z]at this;exact qQ7 this ⋯
 ·have:=h.2.2 _ z;omega
 ·have:=h.2.2 _ z;omega
end Mg
namespace Mg
open L2 PySem PyProof.Rows
seal L2.VE L2.VS L2.rP L2.VT L2.VO L2.Fy
variable{fd:eM}
def dC(i:Int):Prop:=0<=i/\i<1000000
theorem dC.log{i:Int}(h:dC i):i.natAbs.log2<1920:=by
 have:i.natAbs<2^20:=by have:=h.1;have:=h.2;omega
 have h2:i.natAbs.log2<=20:=by
  rcases vX i.natAbs with e|e
  ·rw[e];decide
  ·exact xG ((Nat.log2_lt ∅).mpr this)
 omega
def GF:aj->Prop
 | .none=>True
 | .int i=>dC i
 | .str x=>x=""\/dW x
 |_=>False
def fM:aj->Str
 | .str x=>if x="" then "-" else x
 | .int i=>eX i
 |_=>"-"
section
variable{P:bA}{w:cn}{K:aq}{mg:Str->Option aF}{base:cX}{f:aH}{k:Nat}
theorem YQ:cw ["_law_thing"] ["_law_thing"] (bL (top 49)):=by grind
def Rda(ds:List aj)(d:aj):Prop:=∃x,ds=[x]/\GF x/\d=.str (fM x)
theorem zcx(F:kX K "_law_dash" "_law_dash" (top 49) f fd)(n:Na mg):eW P w K mg base kD 1 f fd ["_law_thing"] (g7 K Rda):=
 jz F YQ (by ext) λ_ _ h=>by
  obtain⟨x,rfl,ho,rfl⟩:=h;intro g6 A outer s H E hr;have l0:Lay 20 (.str ""):=bu ∎
  cases x with
  |none=>exact dA (dq (VT.to (h8 (k2:=true) (e9 j' m8 (ai 0 rfl) dQ (eV _)) (λz=>by cases z)) rfl) (aY (ck aW))) rfl
  |int i=>
   exact aG (bV (VT.to (h8 (e9 j' m8 (ai 0 rfl) dQ (eV _)) (λ_=>fh hr (bQ 20 _) l0 (ai 0 rfl) aW)) rfl) bG) (aY (ck (sM (ai 0 rfl) (dC.log ho) n.str)))
  |str z=>
   have oz:lX z:=by
    rcases ho with rfl|ho
    ·show bW _=true;symm
    ·exact ho.ok.2
   by_cases hz:z=""
   ·refine dA (dq (VT.to (h8 (e9 j' m8 (ai 0 rfl) dQ (eV _)) (λ_=>fh hr (bu oz) l0 (ai 0 rfl) aW)) ?_) (aY (ck (VE.to aW ?_)))) rfl
    ·rw[bN,qQ1 hz];rfl
    ·show aX "-"=.str (if z="" then "-" else z);rw[qQ3 hz]
   ·refine aG (bV (VT.to (h8 (e9 j' m8 (ai 0 rfl) dQ (eV _)) (λ_=>fh hr (bu oz) l0 (ai 0 rfl) aW)) ?_) bG) ?_
    ·rw[bN,qQ0 hz];rfl
    ·refine aY (ck (VE.to (P9 (ai 0 rfl) n.str) ?_))
     show aX z=.str (if z="" then "-" else z);rw[qQ2 hz]
  |_=>exact ho.elim
def zB:Rl->Prop
 | .meet=>True
 | .gather m a=>dC m/\dC a
 | .many m=>dC m
 | .rank none=>True
 | .rank (some b)=>dC b
 | .turns s=>s.length<=60/\∀z∈s,dC z
 | .eldest=>True
def c0:Rl->List Str
 | .turns s=>"turns"::s.map eX
 |r=>qW r::(tJ r).map fM
def pK(r:Rl):Str:=dm " " (c0 r)
theorem YR:cw ["_law_rule_here"] ["_law_rule_here"] (bL (top 50)):=by grind
def Rrt(ds:List aj)(d:aj):Prop:=∃r,ds=[Lg r]/\zB r/\d=.str (pK r)
def zcy:aj->Option aj
 | .int i=>some (.str (eX i))
 |_=>none
theorem Nu(l:List Int):(l.map c9).filterMap zcy=(l.map eX).map .str:=by
 rw[bP,aB];exact filterMap_some λk _=>rfl
def YS:aj->Option aj:=λd=>some (.str (fM d))
theorem Kx(l:List aj):l.filterMap YS=(l.map fM).map .str:=by
 rw[aB];exact filterMap_some λk _=>rfl
theorem hG{i:Int}(h:dC i):(eX i).length<=6:=(yq h.1 h.2).2
theorem pL:∀{l:List Str}{b:Nat},(∀x∈l,x.length<=b)->(l.map (·.length)).sum<=l.length*b
 | [],_,_=>by simp
 |x::l,b,h=>by
  have h1:=h x aM;have h2:=pL λy hy=>h y (aN _ hy)
  rw[aA,List.sum_cons,bf,Nat.add_mul];omega
theorem kM{d:aj}(h:GF d):(fM d).length<=8:=by
 cases d with
 |none=>decide
 |int i=>exact bU (hG h) ⋯
 |str x=>
  show(if x="" then("-":Str)else x).length<=8
  split
  ·decide
  ·rename_i hx
   rcases h with h|h
   ·exact qQ7 h hx
   ·have:=h.2.1
    exact this
 |_=>exact h.elim
theorem zC{r:Rl}(ht:∀s,r≠.turns s)(h:zB r):∀d∈tJ r,GF d:=by
 intro d hd;cases r with
 |meet=>cases hd
 |eldest=>cases hd
 |gather m a=>
  rcases ax.mp hd with rfl|hd
  ·exact h.1
  ·rw[aQ.mp hd];exact h.2
 |many m=>rw[aQ.mp hd];exact h
 |rank b=>rw[aQ.mp hd];cases b with|none=>trivial|some b=>exact h
 |turns s=>exact qQ7 rfl (ht s)
theorem zcz(F:kX K "_law_rule_text" "_law_rule_text" (top 50) f fd)(n:Na mg)(C:bB P w K mg base 1 "_law_dash" ["_law_thing"] (g7 K Rda)):eW P w K mg base kD 2 f fd ["_law_rule_here"] (g7 K Rrt):=
 jz F YR (by ext) λ_ _ h=>by
  obtain⟨r,rfl,ho,rfl⟩:=h;intro g6 A outer s H E hr;have oR:lX (qW r):=by cases r<;>dsimp only[qW,lX]<;>symm
  have lT:Lay 20 (.str "turns"):=bu ∎
  have h0:ur (aX (qW r)::tJ r) 0=some _:=cM rfl;by_cases ht:∃sh,r=.turns sh
  ·obtain⟨sh,rfl⟩:=ht
   have nc:(["_law_share"]:List Str).Nodup:=∎
   refine dA (dq (VT.to (fh hr (bu oR) lT (dz (ai 0 rfl) aE h0) aW) (by rw[bN];exact qQ1 rfl)) (aY (ck (sN aW (VE.to (VO.ve (lb (VO.ve (dS (ao aW aR))) (VO.ve (VO.to (eU (own:=["_law_share"]) (cap:=[]) (tgt:=.one 0) rfl #[rfl,∎,∎,rfl,rfl,by simp] (rN (dz (ai 0 rfl) aE (cM rfl))) (λf s3 H3=>gJ 0 nc) rfl
    (small (by rw[ae];have:=ho.1;omega)) (λd hd=>?_)) (Nu _))) (small (by simp;have:=ho.1;omega)))) rfl) ?_)))) rfl
   ·obtain⟨z,hz,rfl⟩:=au.mp hd
    exact Ee rfl rfl λf s3 H3=>sM (ai 0 rfl) (dC.log (ho.2 z hz)) n.str
   ·have h1:=pL (l:=c0 (.turns sh)) (b:=6) λx hx=>by
     rcases ax.mp hx with rfl|hx
     ·decide
     ·obtain⟨z,hz,rfl⟩:=au.mp hx
      exact hG (ho.2 z hz)
    have h2:(c0 (.turns sh)).length=sh.length+1:=by simp[c0]
    have h3:=ho.1;have h4:(" ":Str).length=1:=⋯
    rw[h4];omega
  ·have C9:=λsh z=>ht #[sh,z]
   have hw:qW r≠"turns":=by
    cases r with
    |turns sh=>exact qQ7 rfl (C9 sh)
    |_=>dsimp only[qW];symm
   have Nv:c0 r=qW r::(tJ r).map fM:=by
    cases r with
    |turns sh=>exact qQ7 rfl (C9 sh)
    |_=>rfl
   have hl:(tJ r).length<=2:=by cases r<;>simp[tJ]
   have Xz:(qW r).length<=8:=by cases r<;>dsimp only[qW]<;>symm
   have hok:=zC C9 ho;unfold pK;rw[Nv];unfold Lg
   generalize tJ r=ra at *
   generalize qW r=sF at *
   have nc:(["_law_one"]:List Str).Nodup:=∎
   have Nx:L2.cutD (aX sF::ra) (some 1) none=ra:=(lC (aX sF::ra) 1).trans rfl;refine aG (bV (VT.to (fh hr (bu oR) lT (dz (ai 0 rfl) aE h0) aW) (by rw[bN];exact qQ0 hw)) bG) ?_
   refine aY (ck (sN aW (VE.to (VO.ve (lb (VO.ve (dS (ao (dz (ai 0 rfl) aE h0) aR))) (VO.ve (VO.to (eU (own:=["_law_one"]) (cap:=[]) (tgt:=.one 0) rfl #[rfl,∎,∎,rfl,rfl,by simp] (rN (VE.to (wm (ai 0 rfl) (.yes aE) .no ?_) (by rw[Nx]))) (λf s3 H3=>gJ 0 nc) rfl
    (small ∅) (λd hd=>?_)) (Kx _))) (small (by simp;omega)))) rfl) ?_))
   ·intro z
    have:=z.1;rw[show(1:Int)=((1:Nat):Int)from rfl,HT.qd,bf]at this
    omega
   ·exact Ee rfl rfl λf s3 H3=>bF C hr (ao (ai 0 rfl) aR) #[d,rfl,hok d hd,rfl]
   ·have h1:=pL (l:=sF::ra.map fM) λx hx=>by
     rcases ax.mp hx with rfl|hx
     ·exact Xz
     ·obtain⟨z,hz,rfl⟩:=au.mp hx
      exact kM (hok z hz)
    have h2:(sF::ra.map fM).length=ra.length+1:=by simp
    have h4:(" ":Str).length=1:=⋯
    rw[h4];omega
end
def qz(p:Str×Option Int):Str:="kind "++p.1++" "++fM (qV p.2)
def oH(g:Str):Str:="gate "++g
def oI(p:Str×Int):Str:="line "++p.1++" "++eX p.2
def pM(d:Dk):Str:="desk "++d.name++" to "++fM (.str d.to)++" by "++pK d.rule
def nu(d:Dk):Str:=pM d++" from "++dm " " d.places
def oJ(p:Str×Str×Int):Str:=dm " " ["time",p.1,p.2.1,eX p.2.2]
def qA(p:Str×Int×Int):Str:=dm " " ["open",p.1,eX p.2.1,eX p.2.2]
structure ny(p:Pl):Prop where
 kn:p.kinds.length<=60
 gn:p.gates.length<=60
 ln:p.lines.length<=60
 dn:p.desks.length<=60
 tn:p.times.length<=600
 hn:p.hours.length<=600
 kinds:∀q∈p.kinds,dW q.1/\GF (qV q.2)
 gates:∀g∈p.gates,dW g
 lines:∀q∈p.lines,dW q.1/\dC q.2
 desks:∀d∈p.desks,dW d.name/\(d.to=""\/dW d.to)/\zB d.rule/\d.places.length<=60/\∀x∈d.places,dW x
 times:∀q∈p.times,dW q.1/\dW q.2.1/\dC q.2.2
 hours:∀q∈p.hours,dW q.1/\dC q.2.1/\dC q.2.2
theorem dW.short{x:Str}(h:dW x):x.length<=8:=by
 have:=h.2.1;exact this
theorem iw{y:Str}(hy:y.length<=1):∀{l:List Str}{b:Nat},(∀x∈l,x.length<=b)->(dm y l).length<=l.length*(b+1)
 | [],_,_=>by exact bj _
 | [x],b,h=>by
  have:=h x aM;show x.length<=1*(b+1);omega
 |x::z::l,b,h=>by
  have h1:=h x aM;have h2:=iw hy λu hu=>h u (aN _ hu)
  show(x++y++dm y (z::l)).length<=(z::l).length.succ*(b+1)
  rw[cF,cF,FD];omega
theorem nU{r:Rl}(h:zB r):(pK r).length<=700:=by
 have hl:(c0 r).length<=61/\∀x∈c0 r,x.length<=8:=by
  by_cases ht:∃sh,r=.turns sh
  ·obtain⟨sh,rfl⟩:=ht
   refine#[by have:=h.1;simp[c0];omega,λx hx=>?_]
   rcases ax.mp hx with rfl|hx
   ·decide
   ·obtain⟨z,hz,rfl⟩:=au.mp hx
    exact bU (hG (h.2 z hz)) ⋯
  ·have C9:=λsh z=>ht #[sh,z]
   have hok:=zC C9 h;have Nv:c0 r=qW r::(tJ r).map fM:=by
    cases r with
    |turns sh=>exact qQ7 rfl (C9 sh)
    |_=>rfl
   have hl:(tJ r).length<=2:=by cases r<;>simp[tJ]
   rw[Nv];refine#[by rw[bf,ae];omega,λx hx=>?_]
   rcases ax.mp hx with rfl|hx
   ·exact (by cases r<;>dsimp only[qW]<;>symm)
   ·obtain⟨z,hz,rfl⟩:=au.mp hx
    exact kM (hok z hz)
 have:=iw (y:=" ") ⋯ hl.2
 unfold pK;omega
def Fkr:aj->Option aj
 | .tuple [.str a,k]=>some (.str ("kind "++a++" "++fM k))
 |_=>none
def Fgr:aj->Option aj
 | .str a=>some (.str (oH a))
 |_=>none
def Flr:aj->Option aj
 | .tuple [.str a,.int i]=>some (.str (oI (a,i)))
 |_=>none
def Ftr:aj->Option aj
 | .tuple [.str a,.str b,.int i]=>some (.str (oJ (a,b,i)))
 |_=>none
def Fhr:aj->Option aj
 | .tuple [.str a,.int i,.int j]=>some (.str (qA (a,i,j)))
 |_=>none
theorem QC(l:List (Str×Option Int)):(l.map tY).filterMap Fkr=(l.map qz).map .str:=by
 rw[bP,aB];exact filterMap_some λk _=>rfl
theorem QD(l:List Str):(l.map aX).filterMap Fgr=(l.map oH).map .str:=by
 rw[bP,aB];exact filterMap_some λk _=>rfl
theorem QF(l:List (Str×Int)):(l.map xk).filterMap Flr=(l.map oI).map .str:=by
 rw[bP,aB];exact filterMap_some λk _=>rfl
theorem QG(l:List (Str×Str×Int)):(l.map xl).filterMap Ftr=(l.map oJ).map .str:=by
 rw[bP,aB];exact filterMap_some λk _=>rfl
theorem QH(l:List (Str×Int×Int)):(l.map xm).filterMap Fhr=(l.map qA).map .str:=by
 rw[bP,aB];exact filterMap_some λk _=>rfl
def oK(p:Pl):List Str:=p.kinds.map qz++p.gates.map oH++p.lines.map oI
def fc(p:Pl):List Str:=oK p++p.desks.map nu++p.times.map oJ++p.hours.map qA
def sS(p:Pl):Str:=dm "\n" (fc p)
section
variable{P:bA}{w:cn}{K:aq}{mg:Str->Option aF}{base:cX}{f:aH}{k:Nat}
abbrev Npt:List Str:=["_law_h","_law_rows","_law_name","_law_to","_law_rule_here","_law_places","_law_row","_law_gate","_law_kind","_law_burst","_law_gap"]
theorem SM:cw Npt ["_law_h"] (bL (top 51)):=by grind
def Rpt(ds:List aj)(d:aj):Prop:=∃p,ds=[fL p]/\ny p/\d=.str (sS p)
theorem zcA(F:kX K "_law_plant_text" "_law_plant_text" (top 51) f fd)(n:Na mg)(C1:bB P w K mg base 1 "_law_dash" ["_law_thing"] (g7 K Rda))(C2:bB P w K mg base 2 "_law_rule_text" ["_law_rule_here"] (g7 K Rrt)):eW P w K mg base kD 3 f fd ["_law_h"] (g7 K Rpt):=
 jz F SM (by ext) λ_ _ h=>by
  obtain⟨p,rfl,ok,rfl⟩:=h;intro g6 A outer s H E hr;have nd:Npt.Nodup:=SM.nd;have gq:eB 1 _:=hr.mono ∅
  have b1:=ok.kn;have b2:=ok.gn;have b3:=ok.ln;have b4:=ok.dn;have b5:=ok.tn;have b6:=ok.hn;have nk:(["_law_name","_law_keep"]:List Str).Nodup:=∎
  refine aG (vj 1 (own:=["_law_name","_law_keep"]) (cap:=[]) (cl:=[]) (tgt:=.tup [0,1]) (F:=Fkr) rfl #[rfl,∎,∎,rfl,rfl,by simp] (dY (du gq (ai 0 rfl) aW (zu p))) (λf s3 H3=>gK rfl (bT (gJ 0 nk) (bT (gJ 1 nk) fF))) rfl (small (by rw[ae];omega)) (λd hd=>?_) nd) ?_
  ·obtain⟨q,hq,rfl⟩:=au.mp hd
   obtain⟨h1,h2⟩:=ok.kinds q hq;refine#[_,rfl,λf s3 H3=>jW,λr ky f s3 H3=>?_]
   cases ky;have s1:=h1.short;have s2:=kM h2;have e1:("kind ":Str).length=5:=⋯
   have e2:(" ":Str).length=1:=⋯
   exact iF (iF (iF aW (ai 0 rfl) (small ∅)) aW (small (by simp only[cF];omega))) (bF C1 gq (ao (ai 1 rfl) aR) #[_,rfl,h2,rfl]) (small (by simp only[cF];omega))
  rw[QC];refine dM 1 rfl ?_
  have n1:(["_law_name"]:List Str).Nodup:=∎
  refine aG (ia 1 (ds:=(p.kinds.map qz++p.gates.map oH).map .str) (VO.to (lb (ai 1 rfl) (VO.ve (VO.to (eU (own:=["_law_name"]) (cap:=[]) (N:=["_law_name"]) (cl:=[]) (tgt:=.one 0) (F:=Fgr) (ds:=p.gates.map .str) rfl #[rfl,∎,∎,rfl,rfl,by simp] (dY (du gq (ai 0 rfl) aW (vv p))) (λf s3 H3=>gJ 0 n1) rfl (small (by rw[ae];omega)) (λd hd=>?_)) (QD _))) (small (by simp only[ae];omega))) (by rw[aP])) nd) ?_
  ·obtain⟨q,hq,rfl⟩:=au.mp hd
   have s1:=(ok.gates q hq).short;have e1:("gate ":Str).length=5:=⋯
   exact Ee rfl rfl λf s3 H3=>iF aW (ai 0 rfl) (small ∅)
  refine dM 1 rfl ?_
  have n2:(["_law_name","_law_room"]:List Str).Nodup:=∎
  refine aG (ia 1 (ds:=(oK p).map .str) (VO.to (lb (ai 1 rfl) (VO.ve (VO.to (eU (own:=["_law_name","_law_room"]) (cap:=[]) (cl:=[]) (tgt:=.tup [0,1]) (F:=Flr) rfl #[rfl,∎,∎,rfl,rfl,by simp] (dY (du gq (ai 0 rfl) aW (vy p))) (λf s3 H3=>gK rfl (bT (gJ 0 n2) (bT (gJ 1 n2) fF))) rfl (small (by rw[ae];omega)) (λd hd=>?_)) (QF _))) (small (by simp only[ae,aV];omega))) (by unfold oK;rw[aP (l₂:=tN oI _)])) nd) ?_
  ·obtain⟨⟨qa,qi⟩,hq,rfl⟩:=au.mp hd
   obtain⟨h1,h2⟩:dW qa/\dC qi:=ok.lines (qa,qi) hq;have s1:=h1.short;have s2:=hG h2;have e1:("line ":Str).length=5:=⋯
   have e2:(" ":Str).length=1:=⋯
   exact Ee rfl rfl λf s3 H3=>VE.to (iF (x:="line "++qa++" ") (y:=eX qi) (iF (x:="line "++qa) (iF (y:=qa) aW (ai 0 rfl) (small ∅)) aW (small (by simp only[cF];omega))) (sM (ai 1 rfl) (dC.log h2) n.str) (small (by simp only[cF];omega))) rfl
  have r1:(oK p).length=p.kinds.length+p.gates.length+p.lines.length:=by unfold oK;simp only[aV,ae]
  refine aG (jN (tgt:=.tup [2,3,4,5]) bY rfl (dY (du gq (ai 0 rfl) aW (pI p)))
   (gK rfl (bT (gJ 2 nd) (bT (gJ 3 nd) (bT (gJ 4 nd) (bT (gJ 5 nd) fF))))) (λi=>[.val (fL p),.own ((oK p++(p.desks.take i).map nu).map .str),.un,.un,.un,.un,.un,.un,.un,.un,.un]) p.desks.length (by show([.val (fL p),.own ((oK p++(p.desks.take 0).map nu).map .str),.un,.un,.un,.un,.un,.un,.un,.un,.un]:List Slot)=_;rw[List.take_zero,jo,b9];rfl) (by rw[ae];exact aT _) (λi d hi hd=>?_) (.inl #[by rw[ae],rfl])) ?_
  ·obtain⟨dk,Jc,rfl⟩:∃dk,p.desks[i]?=some dk/\d=ej dk:=by
    rw[ay,av ∅]at hd
    cases hd;exact#[_,av ∅,rfl]
   obtain⟨h1,h2,h3,h4,h5⟩:=ok.desks dk (aK Jc);have Ww:GF (.str dk.to):=h2;have s1:=h1.short;have s2:=kM Ww;have s3:=nU h3;have s4:=iw (y:=" ") ⋯ (l:=dk.places) (b:=8) λx hx=>(h5 x hx).short
   have s5:dk.places.length*(8+1)<=60*9:=j_ h4 (aT _);have s6:=pL (l:=dk.places) (b:=8) λx hx=>(h5 x hx).short
   have e1:("desk ":Str).length=5:=⋯
   have e2:(" to ":Str).length=4:=⋯
   have e3:(" by ":Str).length=4:=⋯
   have e4:(" from ":Str).length=6:=⋯
   have e5:(" ":Str).length=1:=⋯
   have eh:(pM dk).length<=800:=by unfold pM;simp only[cF];omega
   refine#[_,rfl,?_]
   refine aG (cu 6 (iF (iF (iF (iF (iF aW (ai 2 rfl) (small ∅)) aW (small (by simp only[cF];omega))) (bF C1 gq (ao (ai 3 rfl) aR) #[_,rfl,Ww,rfl]) (small (by simp only[cF];omega))) aW (small (by simp only[cF];omega))) (bF C2 hr (ao (ai 4 rfl) aR) #[_,rfl,h3,rfl]) (small (by simp only[cF];omega))) nd) ?_
   refine fj (aY (gO 1 rfl (d:=.str (nu dk)) (iF (iF (ai 6 rfl) aW (small ∅)) (sN (zs:=dk.places) aW (VO.ve (nF k9 CG (ao (ai 5 rfl) aR) n.lst rfl)) (by rw[e5];omega)) (small (by simp only[cF];omega))) (fw (by simp;omega)))) #[.inr rfl,.inr ?_,.inl rfl,.inl rfl,.inl rfl,.inl rfl,.inl rfl,.inr rfl,.inr rfl,.inr rfl,.inr rfl,trivial]
   rw[cv,Jc];simp
  rw[cy];refine dM 1 rfl ?_
  have n3:(["_law_desk_here","_law_kind","_law_work"]:List Str).Nodup:=∎
  refine aG (ia 1 (ds:=(oK p++p.desks.map nu++p.times.map oJ).map .str) (VO.to (lb (ai 1 rfl) (VO.ve (VO.to (eU (own:=["_law_desk_here","_law_kind","_law_work"]) (cap:=[]) (cl:=[]) (tgt:=.tup [0,1,2]) (F:=Ftr) rfl #[rfl,∎,∎,rfl,rfl,by simp] (dY (du gq (ai 0 rfl) aW (EH p))) (λf s3 H3=>gK rfl (bT (gJ 0 n3) (bT (gJ 1 n3) (bT (gJ 2 n3) fF)))) rfl (small (by rw[ae];omega)) (λd hd=>?_)) (QG _))) (small (by simp only[ae,aV];omega))) (by rw[aP (l₂:=tN oJ _)])) nd) ?_
  ·obtain⟨⟨qa,qb,qi⟩,hq,rfl⟩:=au.mp hd
   obtain⟨h1,h2,h3⟩:dW qa/\dW qb/\dC qi:=ok.times (qa,qb,qi) hq;have s1:=h1.short;have s2:=h2.short;have s3:=hG h3;have e1:("time":Str).length=4:=⋯
   have e2:(" ":Str).length=1:=⋯
   exact Ee rfl rfl λf s3 H3=>sN aW (VO.ve (dS (ao aW (ao (ai 0 rfl) (ao (ai 1 rfl) (ao (sM (ai 2 rfl) (dC.log h3) n.str) aR)))) (small (by show 4<=_;decide)))) (by rw[e2];simp;omega)
  refine dM 1 rfl ?_
  have n4:(["_law_desk_here","_law_begin","_law_end"]:List Str).Nodup:=∎
  refine aG (ia 1 (ds:=(fc p).map .str) (VO.to (lb (ai 1 rfl) (VO.ve (VO.to (eU (own:=["_law_desk_here","_law_begin","_law_end"]) (cap:=[]) (cl:=[]) (tgt:=.tup [0,1,2]) (F:=Fhr) rfl #[rfl,∎,∎,rfl,rfl,by simp] (dY (du gq (ai 0 rfl) aW (Nn p))) (λf s3 H3=>gK rfl (bT (gJ 0 n4) (bT (gJ 1 n4) (bT (gJ 2 n4) fF)))) rfl (small (by rw[ae];omega)) (λd hd=>?_)) (QH _))) (small (by simp only[ae,aV];omega))) (by unfold fc;rw[aP (l₂:=tN qA _)])) nd) ?_
  ·obtain⟨⟨qa,qb,qi⟩,hq,rfl⟩:=au.mp hd
   obtain⟨h1,h2,h3⟩:dW qa/\dC qb/\dC qi:=ok.hours (qa,qb,qi) hq;have s1:=h1.short;have s2:=hG h2;have s3:=hG h3;have e1:("open":Str).length=4:=⋯
   have e2:(" ":Str).length=1:=⋯
   exact Ee rfl rfl λf s3 H3=>sN aW (VO.ve (dS (ao aW (ao (ai 0 rfl) (ao (sM (ai 1 rfl) (dC.log h2) n.str) (ao (sM (ai 2 rfl) (dC.log h3) n.str) aR)))) (small (by show 4<=_;decide)))) (by rw[e2];simp;omega)
  refine aG (jN (tgt:=.tup [7,8,9,10]) bY rfl (dY (du gq (ai 0 rfl) aW (Nq p)))
   (gK rfl (bT (gJ 7 nd) (bT (gJ 8 nd) (bT (gJ 9 nd) (bT (gJ 10 nd) fF))))) (λi=>[.val (fL p),.own ((fc p).map .str),.un,.un,.un,.un,.un,.un,.un,.un,.un]) 0 rfl (bj _) (λi d hi hd=>qQ7 hi ∅) (.inl #[rfl,rfl])) ?_
  refine dM 1 rfl ?_
  refine aY (ck (sN (zs:=fc p) aW (ai 1 rfl) ?_))
  have e5:("\n":Str).length=1:=⋯
  have e2:(" ":Str).length=1:=⋯
  have hs:=pL (l:=fc p) (b:=2000) λx hx=>by
   unfold fc oK at hx;simp only[bo,au]at hx;rcases hx with((((⟨q,hq,rfl⟩|⟨q,hq,rfl⟩)|⟨q,hq,rfl⟩)|⟨dk,hq,rfl⟩)|⟨q,hq,rfl⟩)|⟨q,hq,rfl⟩
   ·obtain⟨h1,h2⟩:=ok.kinds q hq
    have s1:=h1.short;have s2:=kM h2;have e1:("kind ":Str).length=5:=⋯
    unfold qz;simp only[cF];omega
   ·have s1:=(ok.gates q hq).short
    have e1:("gate ":Str).length=5:=⋯
    unfold oH;simp only[cF];omega
   ·obtain⟨h1,h2⟩:=ok.lines q hq
    have s1:=h1.short;have s2:=hG h2;have e1:("line ":Str).length=5:=⋯
    unfold oI;simp only[cF];omega
   ·obtain⟨h1,h2,h3,h4,h5⟩:=ok.desks dk hq
    have Ww:GF (.str dk.to):=h2;have s1:=h1.short;have s2:=kM Ww;have s3:=nU h3;have s4:=iw (y:=" ") ⋯ (l:=dk.places) (b:=8) λx hx=>(h5 x hx).short
    have s5:dk.places.length*(8+1)<=60*9:=j_ h4 (aT _);have e1:("desk ":Str).length=5:=⋯
    have e2:(" to ":Str).length=4:=⋯
    have e3:(" by ":Str).length=4:=⋯
    have e4:(" from ":Str).length=6:=⋯
    unfold nu pM;simp only[cF];omega
   ·obtain⟨h1,h2,h3⟩:=ok.times q hq
    have s1:=h1.short;have s2:=h2.short;have s3:=hG h3;have:=iw (y:=" ") ⋯ (l:=["time",q.1,q.2.1,eX q.2.2]) (b:=8) λx hx=>by
     simp only[ax,bD,or_false]at hx;rcases hx with rfl|rfl|rfl|rfl
     ·decide
     ·exact s1
     ·exact s2
     ·omega
    unfold oJ;exact bU this (by simp only[bf,df];omega)
   ·obtain⟨h1,h2,h3⟩:=ok.hours q hq
    have s1:=h1.short;have s2:=hG h2;have s3:=hG h3;have:=iw (y:=" ") ⋯ (l:=["open",q.1,eX q.2.1,eX q.2.2]) (b:=8) λx hx=>by
     simp only[ax,bD,or_false]at hx;rcases hx with rfl|rfl|rfl|rfl
     ·decide
     ·exact s1
     ·omega
     ·omega
    unfold qA;exact bU this (by simp only[bf,df];omega)
  have hb:(fc p).length*2000<=1440*2000:=j_ (by unfold fc;simp only[aV,ae];omega) (aT _);rw[e5];omega
end
end Mg
namespace Mg
open L2 PySem PyProof.Rows
variable{many:Nat}
theorem gP(a c:Int){b:Int}(hb:0<b)(hc:0<=c)(h:c+b<=1000000):dC (c+a%b):=by
 have a1:0<=a%b:=cK _ ∅
 have a2:a%b<b:=dG _ hb;exact#[∅,∅]
theorem nW(a:Int){b:Int}(hb:0<b)(h:b<=1000000):dC (a%b):=by
 have:=gP a 0 hb ∅ ∅
 rwa[Int.zero_add]at this
theorem getD_mem{l:List Str}{k:Nat}(h:k<l.length):l.getD k ""∈l:=by
 rw[aO,av h]
 exact cZ _
theorem QI(m:Int)(h:many<=60):zB (lu m many):=by
 unfold lu
 split
 ·trivial
 split
 ·exact#[gP _ 1 ⋯ ⋯ ⋯,nW _ ⋯ ⋯]
 split
 ·exact gP _ 1 ⋯ ⋯ ⋯
 split
 ·split
  ·trivial
  ·exact nW _ ⋯ ⋯
 split
 ·refine#[by rw[ae,cY];exact h,λz hz=>?_]
  obtain⟨k,_,rfl⟩:=au.mp hz;exact gP _ 1 ⋯ ⋯ ⋯
 ·trivial
theorem zD(m:Int)(h:many<=12):je (lu m many) many<=12:=by
 unfold lu
 split
 ·show(many:Int)<=12;omega
 split
 ·show 1+m/6%4<=12;omega
 split
 ·show 1+m/6%4<=12;omega
 split
 ·show(1:Int)<=12;omega
 split
 ·show(1:Int)<=12;omega
 ·show(1:Int)<=12;omega
theorem Jf{cell:Int}{places lines:List Str}(h1:1<=places.length)(h12:places.length<=12){d:Dk}(hd:d∈lz cell places lines):
  dW d.name/\d.to∈lines ++ [("":Str)]/\zB d.rule/\d.places.length<=places.length/\(∀x∈d.places,x∈places)/\je d.rule d.places.length<=12:=by
 obtain⟨k,hk,rfl⟩:=au.mp hd;have hk:=cA.mp hk;have tl:=gU cell (ly cell places.length) places places.length;have wC:(eA cell (ly cell places.length) places places.length).getD k []∈eA cell (ly cell places.length) places places.length:=by
  rw[aO,av ∅]
  exact cZ _
 obtain⟨r1,r2⟩:=sP cell _ places _ _ wC;refine#[kL (getD_mem (by rw[gT];exact hk)),(C5 cell lines k).2,QI _ ∅,r1,r2 ∅,zD _ ∅]
theorem yr(ns:List Int):ny (dF ns):=by
 obtain⟨k1,k4⟩:=mI (oE ns);obtain⟨g1,g3⟩:=jP (fS ns);obtain⟨p1,p6⟩:=lB (fS ns);have hll:(gv ns).length<=6:=by unfold gv linesOf;rw[cV];omega
 have OS:(oZ ns).length=(placesOf (fS ns)).length:=by
  unfold oZ orderOf;rw[aV,cV,bh];have:=sQ (fS ns) ∅
  omega
 have Wu:∀x∈placesOf (fS ns),dW x:=λx hx=>kL hx
 have hon:∀x∈oZ ns,dW x:=λx hx=>by
  rcases bo.mp hx with hx|hx
  ·exact Wu x (fG hx)
  ·exact Wu x (eC hx)
 have Vq:∀x∈gv ns,dW x:=λx hx=>Wu x (fG hx)
 have hkl:(ji ns).length=j9 (oE ns):=by simp[qt]
 have hkn:∀q∈ji ns,dW q.1/\GF (qV q.2):=λq hq=>by
  obtain⟨k,hk,rfl⟩:=au.mp hq;have hk:=cA.mp hk;refine#[kL (getD_mem (by rw[gT];exact hk)),?_]
  show GF (qV (uB _));unfold uB
  split
  ·exact gP _ 1 ⋯ ⋯ ⋯
  ·trivial
 have Le:(ic ns).length<=4:=by rw[qy];exact(mH _ ∅).2.1
 have Jc:∀d∈ic ns,_:=λd hd=>Jf ∅ ∅ hd
 have htl:=qw (og ns) (ic ns) (ji ns) ∅ _ (aT _)
 have hhl:=qx (og ns) (ic ns) _ (aT _)
 generalize hD:ic ns=iu at *
 have e0:dF ns=#[ji ns,lA (fS ns),(cx (gv ns).length).map (roomAt (fS ns) iu (gv ns)),iu,gW (og ns) iu (ji ns) iu.length,jC (og ns) iu iu.length]:=by rw[<-hD];rfl
 rw[e0];refine#[by show(ji ns).length<=60;omega,?_,?_,by show iu.length<=60;omega,by show(gW _ _ _ _).length<=600;omega,by show(jC _ _ _).length<=600;omega,hkn,λg hg=>Wu g (eC hg),λq hq=>?_,λd hd=>?_,λq hq=>?_,λq hq=>?_]
 ·show(lA _).length<=60
  unfold lA;rw[bh];omega
 ·show((cx (gv ns).length).map _).length<=60
  rw[ae,cY];omega
 ·obtain⟨k,hk,rfl⟩:=au.mp hq
  have hk:=cA.mp hk;refine#[Vq _ (getD_mem hk),?_]
  have mo:=qu (kz iu ((gv ns).getD k ""));have mb:maxOf (kz iu ((gv ns).getD k ""))<=12:=by
   rcases ax.mp mo.1 with h|h
   ·rw[h];decide
   ·obtain⟨d,hd,he⟩:=jl.mp h
    split at he
    ·rw[<-cG he];exact(Jc d hd).2.2.2.2.2
    ·cases he
  have ml:=mo.2 1 aM;exact gP _ _ ⋯ ∅ ∅
 ·obtain⟨d1,d2,d3,d4,d5,_⟩:=Jc d hd
  refine#[d1,?_,d3,∅,λx hx=>hon x (d5 x hx)]
  rcases bo.mp d2 with h|h
  ·exact .inr (Vq _ h)
  ·exact .inl (aQ.mp h)
 ·obtain⟨⟨d,i⟩,hd,hq⟩:=x9.mp hq
  have hdm:d∈iu:=by
   have:=eC hd;exact j0 this
  obtain⟨⟨kd,j⟩,hk,hq⟩:=jl.mp hq;unfold uC at hq
  split at hq
  ·cases hq
   exact#[(Jc d hdm).1,(hkn kd (j0 (eC hk))).1,gP _ 1 ⋯ ⋯ ⋯]
  ·cases hq
 ·obtain⟨⟨d,i⟩,hd,hq⟩:=x9.mp hq
  have hn:=(Jc d (j0 (eC hd))).1;unfold kA at hq
  split at hq
  ·rcases ax.mp hq with rfl|hq
   ·exact#[hn,nW _ ⋯ ⋯,gP _ 9 ⋯ ⋯ ⋯]
   ·rw[aQ.mp hq]
    exact#[hn,gP _ 25 ⋯ ⋯ ⋯,gP _ 50 ⋯ ⋯ ⋯]
  ·cases hq
def iK(x:Str):Prop:=x≠""/\32∉x.cps.toList/\10∉x.cps.toList
theorem iK.one{x:Str}(h:iK x):wordsOf x=[x]:=wH h.1 h.2.1
theorem qB{l k:Str}(hl:l=k++" ")(hk:iK k)(x:Str):wordsOf (l++x)=k::wordsOf x:=by
 rw[hl,lY,hk.one];rfl
theorem uF{l k:Str}(hl:l=" "++k++" ")(hk:iK k)(x y:Str):wordsOf (x++l++y)=wordsOf x++k::wordsOf y:=by
 have e:x++l++y=x++" "++(k++" "++y):=by
  rw[hl];apply str_inj;simp[add_list,cC]
 rw[e,lY,lY,hk.one];rfl
theorem sU{d:aj}(h:GF d):iK (fM d):=by
 have e:iK "-":=by unfold iK;symm
 cases d with
 |none=>exact e
 |int i=>exact nT h.1 h.2
 |str x=>
  show iK (if x="" then "-" else x)
  split
  ·exact e
  ·rename_i hx
   rcases h with h|h
   ·exact qQ7 h hx
   ·exact hC h
 |_=>exact h.elim
theorem uG{r:Rl}(h:zB r):∀w∈c0 r,iK w:=by
 intro w hw;by_cases ht:∃sh,r=.turns sh
 ·obtain⟨sh,rfl⟩:=ht
  rcases ax.mp hw with rfl|hw
  ·unfold iK;symm
  ·obtain⟨z,hz,rfl⟩:=au.mp hw
   exact nT (h.2 z hz).1 (h.2 z hz).2
 ·have C9:=λsh z=>ht #[sh,z]
  have Nv:c0 r=qW r::(tJ r).map fM:=by
   cases r with
   |turns sh=>exact qQ7 rfl (C9 sh)
   |_=>rfl
  rw[Nv]at hw;rcases ax.mp hw with rfl|hw
  ·cases r<;>dsimp only[qW,iK]<;>symm
  ·obtain⟨z,hz,rfl⟩:=au.mp hw
   exact sU ((zC C9 h) z hz)
theorem GH{q:Str×Option Int}(h:dW q.1/\GF (qV q.2)):wordsOf (qz q)=[("kind":Str),q.1,fM (qV q.2)]:=by
 unfold qz;rw[lY,qB (k:="kind") ∎ (by unfold iK;symm),(show iK q.1 from hC h.1).one,(sU h.2).one];rfl
theorem GJ{g:Str}(h:dW g):wordsOf (oH g)=[("gate":Str),g]:=by
 unfold oH;rw[qB (k:="gate") ∎ (by unfold iK;symm),(show iK g from hC h).one]
theorem GK{q:Str×Int}(h:dW q.1/\dC q.2):wordsOf (oI q)=[("line":Str),q.1,eX q.2]:=by
 unfold oI;rw[lY,qB (k:="line") ∎ (by unfold iK;symm),(show iK q.1 from hC h.1).one,(show iK (eX q.2)from nT h.2.1 h.2.2).one];rfl
theorem GL{d:Dk}(h:dW d.name/\(d.to=""\/dW d.to)/\zB d.rule/\d.places.length<=60/\∀x∈d.places,dW x):wordsOf (nu d)=[("desk":Str),d.name,"to",fM (.str d.to),"by"]++c0 d.rule ++ [("from":Str)]++d.places:=by
 obtain⟨h1,h2,h3,h4,h5⟩:=h;have Ww:GF (.str d.to):=h2;have hr:wordsOf (pK d.rule)=c0 d.rule:=oG λw hw=>#[(uG h3 w hw).1,(uG h3 w hw).2.1]
 unfold nu pM;rw[uF (k:="from") ∎ (by unfold iK;symm),uF (k:="by") ∎ (by unfold iK;symm),uF (k:="to") ∎ (by unfold iK;symm),qB (k:="desk") ∎ (by unfold iK;symm),(show iK d.name from hC h1).one,(sU Ww).one,hr,oG λw hw=>#[(hC (h5 w hw)).1,(hC (h5 w hw)).2.1]]
 simp
theorem GN{q:Str×Str×Int}(h:dW q.1/\dW q.2.1/\dC q.2.2):wordsOf (oJ q)=[("time":Str),q.1,q.2.1,eX q.2.2]:=by
 refine oG λw hw=>?_
 have:iK w:=by
  simp[ax,bD,or_false]at hw;rcases hw with rfl|rfl|rfl|rfl
  ·unfold iK;symm
  ·exact hC h.1
  ·exact hC h.2.1
  ·exact nT h.2.2.1 h.2.2.2
 exact#[this.1,this.2.1]
theorem GO{q:Str×Int×Int}(h:dW q.1/\dC q.2.1/\dC q.2.2):wordsOf (qA q)=[("open":Str),q.1,eX q.2.1,eX q.2.2]:=by
 refine oG λw hw=>?_
 have:iK w:=by
  simp[ax,bD,or_false]at hw;rcases hw with rfl|rfl|rfl|rfl
  ·unfold iK;symm
  ·exact hC h.1
  ·exact nT h.2.1.1 h.2.1.2
  ·exact nT h.2.2.1 h.2.2.2
 exact#[this.1,this.2.1]
end Mg
namespace Mg
open L2 PySem PyProof.Rows
seal L2.VE L2.VS L2.rP L2.VT L2.VO L2.Fy
variable{p:aH}{fd:eM}{H:Hp}{n:Int}{l:List Str}{d:aj}{K:aq}{r:Rl}{x:Str}
inductive Sh where
 |name|number|count|share|mV|mJ|nz
def Sh.tx:Sh->Str
 | .name=>"name"
 | .number=>"number"
 | .count=>"count"
 | .share=>"share"
 | .mV=>"count or -"
 | .mJ=>"name or -"
 | .nz=>"number or -"
def kE(x:Str):Bool:=isNumber x && !decide (x="0")
def mK:Sh->Str->Bool
 | .name,x=>isName x
 | .number,x=>isNumber x
 | .count,x=>kE x
 | .share,x=>kE x&&decide ((x.length:Int)=1)
 | .mV,x=>decide (x="-")||kE x
 | .mJ,x=>decide (x="-")||isName x
 | .nz,x=>decide (x="-")||isNumber x
def C_(x:Str):Int:=(intText? x).getD 0
def iL:Sh->Str->aj
 | .name,x=>.str x
 | .mJ,x=>.str (if x="-" then "" else x)
 |_,x=>if x="-" then .none else .int (C_ x)
def Sh.base:Sh->Bool
 | .name=>true
 | .number=>true
 | .count=>true
 |_=>false
theorem Sh.ok(s:Sh):lX s.tx:=by cases s<;>(show bW _=true)<;>symm
theorem zE(h:isNumber x=true):1<=x.length/\x.length<=6/\∀c∈x.cps.toList,48<=c/\c<=57:=by
 have h:=(dP.mp h).1;obtain⟨h1,h2⟩:=dP.mp h;obtain⟨h3,h4⟩:=dP.mp h1;have h3:=qQ4 h3;have h4:=qQ4 h4;refine#[∅,∅,λc hc=>?_]
 have:=fe.mp h2 c hc;have e:Ei (one c) "0123456789"=decide (c∈("0123456789":Str).cps.toList):=uY ..;rw[e,EK]at this;obtain⟨i,hi,rfl⟩:=au.mp (qQ4 this);have:=cA.mp hi;omega
theorem AJ(h:isNumber x=true):intText? x=some (C_ x):=by
 obtain⟨h1,h2,h3⟩:=zE h;have hd:=λc hc=>h3 c hc
 have hl:x.cps.toList.length=x.length:=di;have e:=intText_digits hd (λz=>by rw[z]at hl;simp only[df]at hl;omega) ∅
 unfold C_;rw[e];rfl
theorem EL(h:dC n):C_ (eX n)=n:=by unfold C_;rw[num_reads h.1 h.2];rfl
theorem qC(h:kE x=true):isNumber x=true:=(dP.mp h).1
theorem xn{s:Sh}(h:mK s x=true)(h1:s≠.name)(h2:s≠.mJ)(hx:x≠"-"):isNumber x=true:=by
 cases s with
 |name=>exact qQ7 rfl h1
 |mJ=>exact qQ7 rfl h2
 |number=>exact h
 |count=>exact qC h
 |share=>exact qC (dP.mp h).1
 |mV=>
  rcases Bool.or_eq_true_iff.mp h with h|h
  ·exact qQ7 (qQ4 h) hx
  ·exact qC h
 |nz=>
  rcases Bool.or_eq_true_iff.mp h with h|h
  ·exact qQ7 (qQ4 h) hx
  ·exact h
section
variable{P:bA}{w:cn}{K:aq}{mg:Str->Option aF}{base:cX}{f:aH}{k:Nat}
abbrev Li:List Str:=["shape","word"]
theorem SN:cw Li Li (bL (top 26)):=by grind
def Wx(b:Bool)(ds:List aj)(d:aj):Prop:=∃(s:Sh)(x:Str),ds=[.str s.tx,.str x]/\xW x/\(b=true\/s.base=true)/\d=.bool (mK s x)
theorem cg(h:bW (.str x)=true:=by symm):Lay 20 (.str x):=bu h
theorem kF{X:L2.Cx}{k:Nat}{z y: Str}{δ:List L2.Slot}{b:Bool}{p0 q pos:Pos}{j}(hr:L2.eB k X.A)(hl:Lay 20 (.str z))(i:Nat)(h:δ[i]?=some (.val (.str z)))(e:cR (.str z) (.str y)=b)(hN:rA X i x:=by ac_rfl)(hy:bW (.str y)=true:=by symm):VT X (.Compare (.Name x p0) [.Eq] [.Constant (.str y) j q] pos) δ b:=VT.to (fh hr hl (cg hy) (ai i h hN) aW) e
theorem YT{fb:Bool}(n:Na mg)(C1:bB P w K mg base 2 "is_name" ["word"] (g7 K YD))(C2:bB P w K mg base 2 "is_number" ["word"] (g7 K Rnu))(k2:2<=k)(C3:fb=true->bB P w K mg base k "fits" Li (g7 K (Wx false))){ds:List aj}(h:Wx fb ds d):y0 P w K mg base Li "fits" (top 26) f k ds (.rt d):=by
 obtain⟨s,x,rfl,ox,hb,rfl⟩:=h;intro g6 A outer sh H E hr;have Lh:eB 2 _:=hr.mono k2;have ls:=bu (n:=20) s.ok;have lx:=bu (n:=20) ox.2;cases s with
 |name=>exact dA (dq (kF hr ls 0 rfl (by rw[bN];exact qQ1 rfl)) (aY (ck (bF C1 Lh (ao (ai 1 rfl) aR) #[x,rfl,ox.1,rfl])))) rfl
 |number=>
  exact aG (bV (kF hr ls 0 rfl (by rw[bN];symm)) bG) (dA (dq (kF hr ls 0 rfl (by rw[bN];exact qQ1 rfl)) (aY (ck (bF C2 Lh (ao (ai 1 rfl) aR) #[x,rfl,ox,rfl])))) rfl)
 |count=>
  refine aG (bV (kF hr ls 0 rfl (by rw[bN];symm)) bG) ?_
  exact aG (bV (kF hr ls 0 rfl (by rw[bN];symm)) bG) (dA (dq (kF hr ls 0 rfl (by rw[bN];exact qQ1 rfl)) (aY (ck (VE.to (oW (bF C2 Lh (ao (ai 1 rfl) aR) #[x,rfl,ox,rfl]) (λ_=>kK (Ms hr lx cg (ai 1 rfl) aW))) (by rw[bN];rfl))))) rfl)
 |share=>
  have C3:=C3 (hb.resolve_right ⋯)
  refine aG (bV (kF hr ls 0 rfl (by rw[bN];symm)) bG) ?_
  refine aG (bV (kF hr ls 0 rfl (by rw[bN];symm)) bG) ?_
  exact aG (bV (kF hr ls 0 rfl (by rw[bN];symm)) bG) (dA (dq (kF hr ls 0 rfl (by rw[bN];exact qQ1 rfl)) (aY (ck (VE.to (oW (bF C3 hr (ao aW (ao (ai 1 rfl) aR)) #[.count,x,rfl,ox,.inr rfl,rfl]) (λ_=>kK (tQ hr (bQ 20 _) (bQ 20 _) (IE (ai 1 rfl) (small (by have:=ox.1;omega)) n.len) aE))) (by rw[jd];rfl))))) rfl)
 |mV=>
  have C3:=C3 (hb.resolve_right ⋯)
  refine aG (bV (kF hr ls 0 rfl (by rw[bN];symm)) bG) ?_
  refine aG (bV (kF hr ls 0 rfl (by rw[bN];symm)) bG) ?_
  refine aG (bV (kF hr ls 0 rfl (by rw[bN];symm)) bG) ?_
  refine aG (bV (kF hr ls 0 rfl (by rw[bN];symm)) bG) ?_
  have Ce:(cP (Sh.mV.tx) " ").map aX=[.str "count",.str "or",.str "-"]:=by rw[show cP _ " "=[("count":Str),"or","-"]from by symm];rfl
  exact aY (ck (VE.to (vm (tQ hr lx cg (ai 1 rfl) aW) (λ_=>kK (bF C3 hr (ao (fU (VE.to (VO.ve (rS (ai 0 rfl) aW rfl (small ⋯))) (by rw[Ce])) aE (cM rfl)) (ao (ai 1 rfl) aR)) #[.count,x,rfl,ox,.inr rfl,rfl]))) (by rw[bN];rfl)))
 |mJ=>
  have C3:=C3 (hb.resolve_right ⋯)
  refine aG (bV (kF hr ls 0 rfl (by rw[bN];symm)) bG) ?_
  refine aG (bV (kF hr ls 0 rfl (by rw[bN];symm)) bG) ?_
  refine aG (bV (kF hr ls 0 rfl (by rw[bN];symm)) bG) ?_
  refine aG (bV (kF hr ls 0 rfl (by rw[bN];symm)) bG) ?_
  have Ce:(cP (Sh.mJ.tx) " ").map aX=[.str "name",.str "or",.str "-"]:=by rw[show cP (Sh.mJ.tx) " "=[("name":Str),"or","-"]from by symm];rfl
  exact aY (ck (VE.to (vm (tQ hr lx cg (ai 1 rfl) aW) (λ_=>kK (bF C3 hr (ao (fU (VE.to (VO.ve (rS (ai 0 rfl) aW rfl (small ⋯))) (by rw[Ce])) aE (cM rfl)) (ao (ai 1 rfl) aR)) #[.name,x,rfl,ox,.inr rfl,rfl]))) (by rw[bN];rfl)))
 |nz=>
  have C3:=C3 (hb.resolve_right ⋯)
  refine aG (bV (kF hr ls 0 rfl (by rw[bN];symm)) bG) ?_
  refine aG (bV (kF hr ls 0 rfl (by rw[bN];symm)) bG) ?_
  refine aG (bV (kF hr ls 0 rfl (by rw[bN];symm)) bG) ?_
  refine aG (bV (kF hr ls 0 rfl (by rw[bN];symm)) bG) ?_
  have Ce:(cP (Sh.nz.tx) " ").map aX=[.str "number",.str "or",.str "-"]:=by rw[show cP _ " "=[("number":Str),"or","-"]from by symm];rfl
  exact aY (ck (VE.to (vm (tQ hr lx cg (ai 1 rfl) aW) (λ_=>kK (bF C3 hr (ao (fU (VE.to (VO.ve (rS (ai 0 rfl) aW rfl (small ⋯))) (by rw[Ce])) aE (cM rfl)) (ao (ai 1 rfl) aR)) #[.number,x,rfl,ox,.inr rfl,rfl]))) (by rw[bN];rfl)))
theorem YV(F:kX K "fits" "fits" (top 26) f fd)(n:Na mg)(C1:bB P w K mg base 2 "is_name" ["word"] (g7 K YD))(C2:bB P w K mg base 2 "is_number" ["word"] (g7 K Rnu)):eW P w K mg base kD 3 f fd Li (g7 K (Wx false)):=
 jz F SN (by ext) λ_ _ h=>YT n C1 C2 ∅ (λz=>by cases z) h
theorem zcB(F:kX K "fits" "fits" (top 26) f fd)(n:Na mg)(C1:bB P w K mg base 2 "is_name" ["word"] (g7 K YD))(C2:bB P w K mg base 2 "is_number" ["word"] (g7 K Rnu))(C3:bB P w K mg base 3 "fits" Li (g7 K (Wx false))):eW P w K mg base kD 4 f fd Li (g7 K (Wx true)):=
 jz F SN (by ext) λ_ _ h=>YT n C1 C2 ⋯ (λ_=>C3) h
theorem YW:cw Li Li (bL (top 27)):=by grind
def Rvo(ds:List aj)(d:aj):Prop:=∃(s:Sh)(x:Str),ds=[.str s.tx,.str x]/\xW x/\mK s x=true/\d=iL s x
theorem zcC(F:kX K "value_of" "value_of" (top 27) f fd)(n:Na mg):eW P w K mg base kD 1 f fd Li (g7 K Rvo):=
 jz F YW (by ext) λ_ _ h=>by
  obtain⟨s,x,rfl,ox,hf,rfl⟩:=h;intro g6 A outer sh H E hr;have ls:=bu (n:=20) s.ok;have lx:=bu (n:=20) ox.2;by_cases h1:s=.name
  ·subst h1
   exact dA (dq (kF hr ls 0 rfl (by rw[bN];exact qQ1 rfl)) (aY (ck (ai 1 rfl)))) rfl
  ·have d1:s.tx≠"name":=by cases s<;>first|exact qQ7 rfl h1|(dsimp;symm)
   refine aG (bV (kF hr ls 0 rfl (by rw[bN];exact qQ0 d1)) bG) ?_
   by_cases h2:s=.mJ
   ·subst h2
    refine dA (dq (kF hr ls 0 rfl (by rw[bN];exact qQ1 rfl)) (aY (ck (rL (kF hr lx 1 rfl (by rw[bN])) (λz=>VE.to aW ?_) (λz=>VE.to (ai 1 rfl) ?_))))) rfl
    ·show aX ""=.str (if x="-" then "" else x);rw[qQ3 (qQ4 z)]
    ·show aX x=.str (if x="-" then "" else x);rw[qQ2 (qQ5 z)]
   ·have d2:s.tx≠"name or -":=by cases s<;>first|exact qQ7 rfl h2|exact qQ7 rfl h1|(dsimp;symm)
    have ev:iL s x=if x="-" then .none else .int (C_ x):=by cases s<;>first|exact qQ7 rfl h1|exact qQ7 rfl h2|rfl
    rw[ev];refine aG (bV (kF hr ls 0 rfl (by rw[bN];exact qQ0 d2)) bG) ?_
    refine aY (ck (rL (kF hr lx 1 rfl (by rw[bN])) (λz=>VE.to dQ (by rw[qQ3 (qQ4 z)])) (λz=>VE.to (PZ (ai 1 rfl) (AJ (xn hf h1 h2 (qQ5 z))) (by have:=(zE (xn hf h1 h2 (qQ5 z))).2.1;omega) n.int) (by rw[qQ2 (qQ5 z)]))))
def Ny(pN:List Sh):aj:=.tuple (pN.map λs=>.str s.tx)
def rY(pN:List Sh)(ws:List Str):Bool:=decide (ws.length=pN.length)&&(pN.zip ws).all λp=>mK p.1 p.2
def qD(pN:List Sh)(ws:List Str):List aj:=(pN.zip ws).map λp=>iL p.1 p.2
def jE(pN:List Sh)(ws:List Str):aj:=if rY pN ws then .tuple (qD pN ws)else .none
abbrev Wy:List Str:=["shapes","words"]
theorem YX:cw Wy Wy (bL (top 28)):=by grind
def Rvs(ds:List aj)(d:aj):Prop:=∃(pN:List Sh)(ws:List Str),ds=[Ny pN,jh ws]/\pN.length<=1000/\ws.length<=100002/\(∀x∈ws,xW x)/\d=jE pN ws
def Ky(x:Str):Sh:=if x="name" then .name else if x="number" then .number else if x="count" then .count else if x="share" then .share else if x="count or -" then .mV else if x="name or -" then .mJ else .nz
theorem vB(s:Sh):Ky s.tx=s:=by
 cases s<;>rfl
def Vt:aj->Option aj
 | .tuple [.str s,.str x]=>some (.bool (mK (Ky s) x))
 |_=>none
def YY:aj->Option aj
 | .tuple [.str s,.str x]=>some (iL (Ky s) x)
 |_=>none
theorem rZ:∀(pN:List Sh)(ws:List Str),y_ (pN.map λs=>aX s.tx) (ws.map aX)=(pN.zip ws).map λp=>.tuple [.str p.1.tx,.str p.2]
 | [],_=>rfl
 |_::_,[]=>rfl
 |s::pN,x::ws=>by
  have:=rZ pN ws;unfold y_ at this ⊢;rw[aA,aA,dg,dg,aA,aA,this]
theorem ER(pN:List Sh)(ws:List Str):(y_ (pN.map λs=>aX s.tx) (ws.map aX)).filterMap Vt=((pN.zip ws).map λp=>mK p.1 p.2).map .bool:=by
 rw[rZ,bP,aB];exact filterMap_some λp _=>by show some (i_ _)=_;rw[vB];rfl
theorem Nz(pN:List Sh)(ws:List Str):(y_ (pN.map λs=>aX s.tx) (ws.map aX)).filterMap YY=qD pN ws:=by
 rw[rZ,bP];exact filterMap_some λp _=>by show some _=_;rw[vB]
theorem zcD(F:kX K "values_of" "values_of" (top 28) f fd)(n:Na mg)(mz:mg "zip"=none)(C1:bB P w K mg base 4 "fits" Li (g7 K (Wx true)))(C2:bB P w K mg base 1 "value_of" Li (g7 K Rvo)):eW P w K mg base kD 5 f fd Wy (g7 K Rvs):=
 jz F YX (by ext) λ_ _ h=>by
  obtain⟨pN,ws,rfl,OO,hw1,hok,rfl⟩:=h;intro g6 A outer sh H E hr;have gq:eB 1 _:=hr.mono ∅
  have nc:(["shape","word"]:List Str).Nodup:=∎
  have hzl:(y_ (pN.map λs=>aX s.tx) (ws.map aX)).length<=1000:=by rw[rZ,ae,rn];omega
  have hlen:∀b,decide (ws.length=pN.length)=b->cR (.int ((ws.map aX).length:Nat)) (.int ((pN.map λs=>aX s.tx).length:Nat))=b:=λb hb=>by
   rw[jd,ae,ae,<-hb,eY,decide_eq_true_iff,decide_eq_true_iff];omega
  have wg:∀d∈y_ (pN.map λs=>aX s.tx) (ws.map aX),∃s x,d=.tuple [.str (Sh.tx s),.str x]/\(s,x)∈pN.zip ws/\xW x:=λd hd=>by
   rw[rZ]at hd;obtain⟨p,hp,rfl⟩:=au.mp hd;exact#[p.1,p.2,rfl,hp,hok _ (nA hp).2]
  by_cases hl:ws.length=pN.length
  ·have D1:∀b,((pN.zip ws).all λp=>mK p.1 p.2)=b->qP ((pN.zip ws).map λp=>mK p.1 p.2)=b:=λb hb=>by
    unfold qP;rw[Ft];exact hb
   by_cases ha:((pN.zip ws).all λp=>mK p.1 p.2)=true
   ·have ev:jE pN ws=.tuple (qD pN ws):=by unfold jE rY;rw[ha,qQ1 hl];rfl
    rw[ev];refine aG (bV (VT.to (h8 (k1:=false) (k2:=false) (VT.to (iI hr (bQ 20 _) (bQ 20 _) (fY (ai 1 rfl) n.len) (mr (ai 0 rfl) n.len)) (by rw[hlen true (qQ1 hl)];rfl)) (λ_=>VT.to (oV (jM (gR (rQ rfl) Eh (ao (VO.ve (VO.to (eU (own:=["shape","word"]) (cap:=[]) (cl:=[]) (tgt:=.tup [0,1]) (F:=Vt) rfl #[rfl,∎,∎,rfl,rfl,by simp] (CF .tup .lst (ai 0 rfl) (ai 1 rfl) mz) (λf s3 H3=>gK rfl (bT (gJ 0 nc) (bT (gJ 1 nc) fF))) rfl
     (small ∅) (λd hd=>?_)) (ER pN ws))) aR) n.all rfl) (t:=true) (by show some _=some _;rw[D1 true ha]))) rfl)) rfl) bG) ?_
    ·obtain⟨s,x,rfl,hp,ox⟩:=wg d hd
     refine#[_,rfl,λf s3 H3=>jW,λr ky f s3 H3=>?_]
     have ky:some (i_ (mK (Ky s.tx) x))=some r:=ky;rw[vB]at ky;cases ky;exact bF C1 hr (ao (ai 0 rfl) (ao (ai 1 rfl) aR)) #[s,x,rfl,ox,.inl rfl,rfl]
    refine aY (ck (jV kr vh (ao (VO.ve (VO.to (eU (own:=["shape","word"]) (cap:=[]) (cl:=[]) (tgt:=.tup [0,1]) (F:=YY) rfl #[rfl,∎,∎,rfl,rfl,by simp] (CF .tup .lst (ai 0 rfl) (ai 1 rfl) mz) (λf s3 H3=>gK rfl (bT (gJ 0 nc) (bT (gJ 1 nc) fF))) rfl
     (small ∅) (λd hd=>?_)) (Nz pN ws))) aR) n.tup rfl))
    obtain⟨s,x,rfl,hp,ox⟩:=wg d hd;refine#[_,rfl,λf s3 H3=>jW,λr ky f s3 H3=>?_]
    have ky:some (iL (Ky s.tx) x)=some r:=ky;rw[vB]at ky;cases ky;exact bF C2 gq (ao (ai 0 rfl) (ao (ai 1 rfl) aR)) #[s,x,rfl,ox,fe.mp ha (s,x) hp,rfl]
   ·have ha:=Bool.not_eq_true _▸ha
    have ev:jE pN ws=.none:=by unfold jE rY;rw[ha,AW];rfl
    rw[ev];refine dA (dq (VT.to (h8 (k1:=false) (k2:=true) (VT.to (iI hr (bQ 20 _) (bQ 20 _) (fY (ai 1 rfl) n.len) (mr (ai 0 rfl) n.len)) (by rw[hlen true (qQ1 hl)];rfl)) (λ_=>VT.to (oV (jM (gR (rQ rfl) Eh (ao (VO.ve (VO.to (eU (own:=["shape","word"]) (cap:=[]) (cl:=[]) (tgt:=.tup [0,1]) (F:=Vt) rfl #[rfl,∎,∎,rfl,rfl,by simp] (CF .tup .lst (ai 0 rfl) (ai 1 rfl) mz) (λf s3 H3=>gK rfl (bT (gJ 0 nc) (bT (gJ 1 nc) fF))) rfl
     (small ∅) (λd hd=>?_)) (ER pN ws))) aR) n.all rfl) (t:=false) (by show some _=some _;rw[D1 false ha]))) rfl)) rfl) (aY (ck dQ))) rfl
    obtain⟨s,x,rfl,hp,ox⟩:=wg d hd;refine#[_,rfl,λf s3 H3=>jW,λr ky f s3 H3=>?_]
    have ky:some (i_ (mK (Ky s.tx) x))=some r:=ky;rw[vB]at ky;cases ky;exact bF C1 hr (ao (ai 0 rfl) (ao (ai 1 rfl) aR)) #[s,x,rfl,ox,.inl rfl,rfl]
  ·have ev:jE pN ws=.none:=by unfold jE rY;rw[qQ0 hl];rfl
   rw[ev];exact dA (dq (VT.to (h8 (k1:=true) (k2:=true) (VT.to (iI hr (bQ 20 _) (bQ 20 _) (fY (ai 1 rfl) n.len) (mr (ai 0 rfl) n.len)) (by rw[hlen false (qQ0 hl)];rfl)) (λz=>by cases z)) rfl) (aY (ck dQ))) rfl
end
def r6:Rl->Nat->Prop
 | .meet,n=>2<=n
 | .gather m a,_=>1<=m/\dC m/\dC a
 | .many m,_=>1<=m/\dC m
 | .rank none,_=>True
 | .rank (some b),_=>dC b
 | .turns s,n=>s.length=n/\∀z∈s,1<=z/\z<=9
 | .eldest,_=>True
theorem Vu(h:dC n)(hx:C_ x≠n):eX n≠x:=λz=>hx (by rw[<-z,EL h])
theorem NB(h:dC n):eX n≠"-":=λz=>by
 have hd:45∈(eX n).cps.toList:=by rw[z];symm
 have:=lZ h.1 hd;omega
theorem pO(h:dC n)(h1:1<=n):kE (eX n)=true:=by
 unfold kE;rw[zA h.1 h.2,qQ0 (Vu h (by rw[show C_ "0"=0 from by symm];omega))]
 rfl
theorem Kz(h1:1<=n)(h9:n<=9):mK .share (eX n)=true:=by
 have hs:dC n:=#[∅,∅]
 show(kE _&&decide (((eX n).length:Int)=1))=true
 rcases(by omega:n=1\/n=2\/n=3\/n=4\/n=5\/n=6\/n=7\/n=8\/n=9)with rfl|rfl|rfl|rfl|rfl|rfl|rfl|rfl|rfl<;>symm
theorem my{s:Sh}(h:dC n)(h1:s≠.name)(h2:s≠.mJ):iL s (eX n)=.int n:=by
 have e:iL s (eX n)=if eX n="-" then .none else .int (C_ (eX n)):=by cases s<;>first|exact qQ7 rfl h1|exact qQ7 rfl h2|rfl
 rw[e,qQ2 (NB h),EL h]
theorem vC:∀s:List Int,(∀z∈s,1<=z/\z<=9)->rY (bw s.length .share) (s.map eX)=true/\qD (bw s.length .share) (s.map eX)=s.map .int
 | [],_=>#[rfl,rfl]
 |z::s,h=>by
  obtain⟨i1,i2⟩:=vC s λx hx=>h x (aN _ hx)
  obtain⟨z1,z9⟩:=h z aM;unfold rY at i1 ⊢;unfold qD at i2 ⊢;obtain⟨j1,j2⟩:=dP.mp i1;rw[bf,fq,aA,dg,List.all_cons,aA,aA,i2];refine#[?_,?_]
  ·rw[j2,show mK (Sh.share,eX z).1 (Sh.share,eX z).2=true from Kz z1 z9]
   simp
  ·rw[show iL (Sh.share,eX z).1 (Sh.share,eX z).2=.int z from my #[∅,∅] (by intro z;cases z) (by intro z;cases z)]
def uH:Rl->List Sh
 | .rank _=>[.nz]
 | .many _=>[.count]
 | .gather _ _=>[.count,.number]
 |_=>[]
theorem EV{n:Nat}(h:r6 r n)(ht:∀s,r≠.turns s):rY (uH r) ((tJ r).map fM)=true/\qD (uH r) ((tJ r).map fM)=tJ r:=by
 cases r with
 |meet=>exact#[rfl,rfl]
 |eldest=>exact#[rfl,rfl]
 |turns s=>exact qQ7 rfl (ht s)
 |many m=>
  obtain⟨h1,h2⟩:=h
  constructor
  ·show(true&&(kE (eX m)&&true))=true
   rw[pO h2 h1];rfl
  ·show [iL .count (eX m)]=[c9 m]
   rw[my h2 (by intro z;cases z) (by intro z;cases z)]
 |gather m a=>
  obtain⟨h1,h2,h3⟩:=h
  constructor
  ·show(true&&(kE (eX m)&&(isNumber (eX a)&&true)))=true
   rw[pO h2 h1,zA h3.1 h3.2];rfl
  ·show [iL .count (eX m),iL .number (eX a)]=[c9 m,.int a]
   rw[my h2 (by intro z;cases z) (by intro z;cases z),my h3 (by intro z;cases z) (by intro z;cases z)]
 |rank b=>
  cases b with
  |none=>exact#[∎,rfl]
  |some b=>
   constructor
   ·show(true&&((decide _||isNumber (eX b))&&true))=true
    rw[zA h.1 h.2];simp
   ·show [iL .nz (eX b)]=[c9 b]
    rw[my h (by intro z;cases z) (by intro z;cases z)]
theorem r6.ok{n:Nat}(hn:n<=60)(h:r6 r n):zB r:=by
 cases r with
 |meet=>trivial
 |eldest=>trivial
 |gather m a=>exact h.2
 |many m=>exact h.2
 |rank b=>cases b with|none=>trivial|some b=>exact h
 |turns s=>exact#[by have:=h.1;omega,λz hz=>by have:=h.2 z hz;exact#[∅,∅]]
abbrev qE:List (Str×List Str):=[("kind",[("name":Str),"count or -"]),("gate",[("name":Str)]),("line",[("name":Str),"count"]),("time",[("name":Str),"name","count"]),("open",[("name":Str),"number","number"]),("pace",[("name":Str),"name","count","count"])]
abbrev vD:List (Str×List Str):=[("eldest",[]),("rank",[("number or -":Str)]),("many",[("count":Str)]),("gather",[("count":Str),"number"]),("meet",[])]
structure Np(mg:Str->Option aF)(pr:BZ)(K:aq):Prop extends Na mg where
 zip:mg "zip"=none
 set:mg "set"=none
 any:mg "any"=none
 mp:∃t,mg "MOST_PLACES"=some (.int 6 t)
 fo:∃g,mg "FORMS"=some (.ref g)/\GD pr K g qE
 ru:∃g,mg "RULES"=some (.ref g)/\GD pr K g vD
theorem EW{α:Type}(x:α):∀n,(bw n [x]).flatten=bw n x
 |0=>rfl
 |n+1=>by rw[fq,fu,EW x n];rfl
theorem zF(x:aj)(l:List aj):L2.cutD (x::l) (some 1) none=l:=(lC (x::l) 1).trans rfl
section
variable{P:bA}{w:cn}{K:aq}{mg:Str->Option aF}{base:cX}{f:aH}{k:Nat}
abbrev zcE:List Str:=["words","many","shares","values"]
theorem NC:cw zcE ["words","many"] (bL (top 31)):=by grind
def YZ(ds:List aj)(d:aj):Prop:=∃(r:Rl)(n:Nat),ds=[jh (c0 r),.int n]/\1<=n/\n<=6/\r6 r n/\d=Lg r
theorem Y0(F:kX K "rule_of" "rule_of" (top 31) f fd)(n:Np mg w.params K)(C:bB P w K mg base 5 "values_of" Wy (g7 K Rvs)):eW P w K mg base kD 6 f fd ["words","many"] (g7 K YZ):=
 jz F NC (by ext) λ_ _ h=>by
  obtain⟨r,m,rfl,m1,m6,hg,rfl⟩:=h;intro g6 A outer s H E hr;have nd:=NC.nd;have Wv:=hg.ok ∅
  by_cases ht:∃sh,r=.turns sh
  ·obtain⟨sh,rfl⟩:=ht
   obtain⟨hl,hz⟩:=hg;obtain⟨v1,v2⟩:=vC sh hz;have ev:jE (bw m .share) (sh.map eX)=.tuple (sh.map .int):=by unfold jE;rw[<-hl,v1,v2];rfl
   refine dA (dq (VT.to (fh hr cg cg (fU (ai 0 rfl) aE (cM rfl)) aW) (by rw[bN];exact qQ1 rfl)) (aG (cu 2 (bF C hr (ao (VE.to (P' (dR (ao aW aR)) (ai 1 rfl) ∅ ∅ ⋯ (by simp)) (by rw[EW];unfold Ny;rw[List.map_replicate,fy];rfl)) (ao (VE.to (VO.ve (h_ (ai 0 rfl) (.yes aE) .no)) (by show ik (L2.cutD (_::_) _ _)=_;rw[zF];rfl)) aR)) #[_,_,rfl,by rw[dH];omega,by rw[ae];omega,λx hx=>?_,ev.symm]) nd) (aY (ck (rL (VT.to (e9 j' m8 (ai 2 rfl) dQ (eV _)) rfl) (λz=>by cases z) (λ_=>VE.to (dR (ao aW (ao (ai 2 rfl) aR))) rfl)))))) rfl
   obtain⟨z,hz',rfl⟩:=au.mp hx;have:=hz z hz';exact o6 ∅ ∅
  ·have C9:=λsh z=>ht #[sh,z]
   obtain⟨v1,v2⟩:=EV hg C9;have Nv:c0 r=qW r::(tJ r).map fM:=by
    cases r with
    |turns sh=>exact qQ7 rfl (C9 sh)
    |_=>rfl
   have hw:qW r≠"turns":=by
    cases r with
    |turns sh=>exact qQ7 rfl (C9 sh)
    |_=>dsimp only[qW];symm
   have oR:lX (qW r):=by cases r<;>dsimp only[qW,lX]<;>symm
   have hk:j8 vD (qW r)=some ((uH r).map Sh.tx):=by
    cases r with
    |turns sh=>exact qQ7 rfl (C9 sh)
    |meet=>symm
    |eldest=>symm
    |rank b=>show j8 vD "rank"=some ([Sh.nz].map Sh.tx);symm
    |many m=>show j8 vD "many"=some ([Sh.count].map Sh.tx);symm
    |gather m a=>show j8 vD "gather"=some ([Sh.count,Sh.number].map Sh.tx);symm
   have hme:decide (qW r="meet")=true->¬(m:Int)<2:=by
    cases r with
    |meet=>intro _;have:2<=m:=hg;omega
    |turns sh=>exact qQ7 rfl (C9 sh)
    |eldest=>intro z;exact qQ7 z ∎
    |rank b=>intro z;exact qQ7 z (show ¬decide ("rank"="meet")=true by symm)
    |many m=>intro z;exact qQ7 z (show ¬decide ("many"="meet")=true by symm)
    |gather m a=>intro z;exact qQ7 z (show ¬decide ("gather"="meet")=true by symm)
   have hal:(tJ r).length<=2:=by cases r<;>simp[tJ]
   have hok:=zC C9 Wv;have hsl:(uH r).length<=2:=by cases r<;>simp[uH]
   have ev:jE (uH r) ((tJ r).map fM)=.tuple (tJ r):=by unfold jE;rw[v1,v2];rfl
   rw[Nv];unfold Lg
   generalize hA:tJ r=ra at *
   generalize hW:qW r=sF at *
   obtain⟨g1,q1,q2⟩:=n.ru;have a0:ur ((sF::ra.map fM).map aX) 0=some _:=cM rfl;refine aG (bV (VT.to (fh hr (bu oR) cg (fU (ai 0 rfl) aE a0) aW) (by rw[bN];exact qQ0 hw)) bG) ?_
   refine aG (bV (VT.to (h8 (k1:=false) (VT.to (Bq q1 q2 (fU (ai 0 rfl) aE a0)) (by rw[hk];rfl)) (λ_=>gk (VT.to (fh hr (bu oR) cg (fU (ai 0 rfl) aE a0) aW) (by rw[bN])) (λ_=>D_ (ai 1 rfl) aE))) ?_) bG) ?_
   ·cases hd:decide (sF="meet") with
    |false=>rfl
    |true=>rw[qQ0 (hme hd)];rfl
   refine aG (cu 3 (bF C hr (ao (VE.to (IJ q1 q2 (fU (ai 0 rfl) aE a0) hk) (by unfold Ny;rw[aB];rfl)) (ao (VE.to (VO.ve (h_ (ai 0 rfl) (.yes aE) .no)) (by show ik (L2.cutD (_::_) _ _)=_;rw[zF];rfl)) aR)) #[uH r,_,rfl,∅,by rw[ae];omega,λx hx=>?_,ev.symm]) nd) ?_
   ·obtain⟨z,hz,rfl⟩:=au.mp hx
    have:=hok z hz;cases z with
    |none=>exact#[⋯,by show bW _=true;symm]
    |int i=>exact o6 this.1 this.2
    |str x=>
     show xW (if x="" then "-" else x)
     split
     ·exact#[⋯,by show bW _=true;symm]
     ·rename_i hx
      exact(this.resolve_left hx).ok
    |_=>exact this.elim
   ·exact aY (ck (rL (VT.to (e9 j' m8 (ai 3 rfl) dQ (eV _)) rfl) (λz=>by cases z) (λ_=>VE.to (yk (dR (ao (fU (ai 0 rfl) aE a0) aR)) (ai 3 rfl) (by simp) (small (by simp;omega))) rfl)))
theorem Y1:cw ["names"] ["names"] (bL (top 32)):=by grind
def NF(l:List Str):Prop:=1<=l.length/\l.length<=6/\l.Nodup/\∀x∈l,dW x
def Rap(ds:List aj)(d:aj):Prop:=∃l:List Str,ds=[.tuple (l.map .str)]/\NF l/\d=.bool true
def Y2:aj->Option aj
 | .str x=>some (.bool (isName x))
 |_=>none
theorem KC(l:List Str):(l.map aX).filterMap Y2=(l.map isName).map .bool:=by
 rw[bP,aB];exact filterMap_some λk _=>rfl
theorem zcH(F:kX K "are_places" "are_places" (top 32) f fd)(n:Np mg w.params K)(C:bB P w K mg base 2 "is_name" ["word"] (g7 K YD)):eW P w K mg base kD 3 f fd ["names"] (g7 K Rap):=
 jz F Y1 (by ext) λ_ _ h=>by
  obtain⟨l,rfl,⟨l1,l6,lnd,Y3⟩,rfl⟩:=h;intro g6 A outer s H E hr;obtain⟨t,m6⟩:=n.mp;have nc:(["name"]:List Str).Nodup:=∎
  have hdd:dd [] l=l:=Eg ↑lnd
  have D1:qP (l.map isName)=true:=by
   unfold qP;rw[Ft,fe];intro x hx;exact(Y3 x hx).is
  refine aY (ck (VE.to (oW (k1:=true) (VE.to (Ez DU DU (Cu 1 l.length) (Cu l.length 6) aE (VE.to (mr (ai 0 rfl) n.len) (by rw[ae])) (λ_=>I0 m6)) (by rw[qQ1 ∅,qQ1 ∅];rfl)) (λ_=>oW (VE.to (gR (rQ rfl) Eh (ao (VO.ve (VO.to (eU (own:=["name"]) (cap:=[]) (tgt:=.one 0) rfl #[rfl,∎,∎,rfl,rfl,by simp] (rN (ai 0 rfl)) (λf s3 H3=>gJ 0 nc) rfl
   (small (by rw[ae];omega)) (λd hd=>?_)) (KC _))) aR) n.all rfl) (by rw[D1])) (λ_=>kK (tQ hr (bQ 20 _) (bQ 20 _) (En (ai 0 rfl) ∅ rfl n.len n.set) (mr (ai 0 rfl) n.len))))) ?_))
  ·obtain⟨z,hz,rfl⟩:=au.mp hd
   exact Ee rfl rfl λf s3 H3=>bF C hr (ao (ai 0 rfl) aR) #[z,rfl,(Y3 z hz).ok.1,rfl]
  ·rw[jd,hdd,ae,qQ1 rfl];rfl
end
inductive Ent where
 |kind (n:Str) (k:Option Int)
 |gate (n:Str)
 |line (n:Str) (r:Int)
 |desk (d:Dk)
 |time (d k:Str) (w:Int)
 |hour (d:Str) (a b:Int)
variable{e:Ent}
def Ent.form:Ent->Str
 | .kind _ _=>"kind"
 | .gate _=>"gate"
 | .line _ _=>"line"
 | .desk _=>"desk"
 | .time _ _ _=>"time"
 | .hour _ _ _=>"open"
def Ent.rest:Ent->List aj
 | .kind n k=>[.str n,qV k]
 | .gate n=>[.str n]
 | .line n r=>[.str n,.int r]
 | .desk d=>[.str d.name,.str d.to,Lg d.rule,.tuple (d.places.map .str)]
 | .time d k w=>[.str d,.str k,.int w]
 | .hour d a b=>[.str d,.int a,.int b]
def KD(e:Ent):aj:=.tuple (.str e.form::e.rest)
def jQ(d:Dk):List Str:=[("desk":Str),d.name,"to",fM (.str d.to),"by"]++c0 d.rule ++ [("from":Str)]++d.places
def GP:Ent->List Str
 | .kind n k=>[("kind":Str),n,fM (qV k)]
 | .gate n=>[("gate":Str),n]
 | .line n r=>[("line":Str),n,eX r]
 | .desk d=>jQ d
 | .time d k w=>[("time":Str),d,k,eX w]
 | .hour d a b=>[("open":Str),d,eX a,eX b]
def GQ(d:Dk):Prop:=dW d.name/\(d.to=""\/dW d.to)/\r6 d.rule d.places.length/\NF d.places
def t_:Ent->Prop
 | .kind n k=>dW n/\∀i,k=some i->1<=i/\dC i
 | .gate n=>dW n
 | .line n r=>dW n/\1<=r/\dC r
 | .desk d=>GQ d
 | .time d k w=>dW d/\dW k/\1<=w/\dC w
 | .hour d a b=>dW d/\dC a/\dC b/\a<b
theorem Dc(h:dW x):x≠"-":=λz=>by
 have hd:45∈x.cps.toList:=by rw[z];symm
 have:=h.2.2 _ hd;omega
theorem KG(h:dW x):fM (.str x)=x:=by
 show(if x="" then("-":Str)else x)=x
 rw[qQ2 (hC h).1]
theorem vE(h:GF d):xW (fM d):=by
 have h0:xW "-":=#[⋯,by show bW _=true;symm]
 cases d with
 |none=>exact h0
 |int i=>exact o6 h.1 h.2
 |str x=>
  show xW (if x="" then "-" else x)
  split
  ·exact h0
  ·rename_i hx
   exact(h.resolve_left hx).ok
 |_=>exact h.elim
theorem EX(h:zB r):∀x∈c0 r,xW x:=by
 intro x hx;by_cases ht:∃sh,r=.turns sh
 ·obtain⟨sh,rfl⟩:=ht
  rcases ax.mp hx with rfl|hx
  ·exact#[⋯,by show bW _=true;symm]
  ·obtain⟨z,hz,rfl⟩:=au.mp hx
   exact o6 (h.2 z hz).1 (h.2 z hz).2
 ·have C9:=λsh z=>ht #[sh,z]
  have Nv:c0 r=qW r::(tJ r).map fM:=by
   cases r with
   |turns sh=>exact qQ7 rfl (C9 sh)
   |_=>rfl
  rw[Nv]at hx;rcases ax.mp hx with rfl|hx
  ·cases r<;>(refine#[?_,?_]<;>dsimp[qW,lX]<;>symm)
  ·obtain⟨z,hz,rfl⟩:=au.mp hx
   exact vE (zC C9 h z hz)
theorem NK{n:Nat}(hn:n<=6)(h:r6 r n):1<=(c0 r).length/\(c0 r).length<=7:=by
 cases r with
 |turns s=>have:=h.1;simp[c0];omega
 |_=>simp[c0,tJ]
theorem Dd(h:zB r):∀x∈(c0 r).drop 1,x≠"from":=by
 have hd:∀d,GF d->(∀x,d≠.str x)->fM d≠"from":=by
  intro d hd hs;cases d with
  |none=>symm
  |int i=>
   intro z;have:102∈(eX i).cps.toList:=by
    have z:eX i="from":=z;rw[z];symm
   have:=lZ hd.1 this;omega
  |str x=>exact qQ7 rfl (hs x)
  |_=>exact hd.elim
 intro x hx;cases r with
 |turns s=>
  obtain⟨z,hz,rfl⟩:=au.mp hx
  exact hd (.int z) (h.2 z hz) (by intro x z;cases z)
 |meet=>cases hx
 |eldest=>cases hx
 |gather m a=>
  simp[c0,tJ,aA,jo,uS,lN,ax,bD,or_false]at hx;rcases hx with rfl|rfl
  ·exact hd _ h.1 (by intro x z;cases z)
  ·exact hd _ h.2 (by intro x z;cases z)
 |many m=>
  simp[c0,tJ,aA,jo,uS,lN,ax,bD,or_false]at hx;rw[hx];exact hd _ h (by intro x z;cases z)
 |rank b=>
  simp[c0,tJ,aA,jo,uS,lN,ax,bD,or_false]at hx;rw[hx];cases b with
  |none=>exact hd .none trivial (by intro x z;cases z)
  |some b=>exact hd _ h (by intro x z;cases z)
section
variable{P:bA}{w:cn}{K:aq}{mg:Str->Option aF}{base:cX}{f:aH}{k:Nat}
abbrev Nde:List Str:=["words","end","head","places","rule"]
theorem SQ:cw Nde ["words"] (bL (top 30)):=by grind
def Rde(ds:List aj)(d:aj):Prop:=∃q:Dk,ds=[jh (jQ q)]/\GQ q/\d=KD (.desk q)
theorem zcI{α:Type}(l:List α)(a b:Nat)(ha:a<=b)(hb:b<=l.length):L2.cutD l (some (a:Int)) (some (b:Int))=(l.drop a).take (b-a):=by
 unfold L2.cutD;rw[HT.qd,HT.qd,iA hb,iA (show a<=l.length by omega)]
theorem De(h:∀x∈l,xW x):Lay 20 (jh l):=ou λd hd=>by
 obtain⟨x,hx,rfl⟩:=au.mp hd;exact bu (h x hx).2
theorem qG(x:Str)(l:List Str):jg (.str x) (.list (l.map aX))=decide (x∈l):=by
 show((l.map aX).any λy=>cR y _)=_
 rw[List.any_map]
 induction l with
 |nil=>rfl
 |cons y l ih=>
  rw[mP,ih]
  show(cR _ (.str x)||decide (x∈l))=_
  rw[bN,eY];simp
  constructor
  ·rintro(h|h)
   ·exact .inl h.symm
   ·exact .inr h
  ·rintro(h|h)
   ·exact .inl h.symm
   ·exact .inr h
theorem zcJ(F:kX K "desk_entry" "desk_entry" (top 30) f fd)(n:Np mg w.params K)(C1:bB P w K mg base 5 "values_of" Wy (g7 K Rvs))(C2:bB P w K mg base 6 "rule_of" ["words","many"] (g7 K YZ))(C3:bB P w K mg base 3 "are_places" ["names"] (g7 K Rap)):eW P w K mg base kD 7 f fd ["words"] (g7 K Rde):=
 jz F SQ (by ext) λ_ _ h=>by
  obtain⟨q,rfl,⟨hn,Ko,Vr,U2⟩,rfl⟩:=h;intro g6 A outer s H E hr;have nd:Nde.Nodup:=SQ.nd;have zcK:=U2;obtain⟨p1,p6,pnd,pnm⟩:=zcK;have Wv:=Vr.ok ∅
  obtain⟨r1,r7⟩:=NK p6 Vr;have rok:=EX Wv;have rnf:=Dd Wv;have Y4:xW (fM (.str q.to)):=vE Ko;obtain⟨rw0,rest,Wz⟩:∃a l,c0 q.rule=a::l:=by
   cases e:c0 q.rule with
   |nil=>rw[e]at r1;simp at r1
   |cons a l=>exact#[a,l,rfl]
  have Y5:xW "from":=#[⋯,by show bW (.str ("from":Str))=true;symm]
  have hW:jQ q=("desk":Str)::q.name::"to"::fM (.str q.to)::"by"::rw0::(rest++("from":Str)::q.places):=by
   unfold jQ;rw[Wz];simp
  have zcN:∀x∈rest,x≠"from":=λx hx=>rnf x (by rw[Wz];exact hx)
  have zh2:rest.length<=6:=by rw[Wz]at r7;simp at r7;omega
  have lit:∀x:Str,bW (.str x)=true->x.length<=100000->xW x:=λx h1 h2=>#[h2,h1]
  have hok:∀x∈jQ q,xW x:=by
   intro x hx;rw[hW]at hx;simp only[ax,bo]at hx;rcases hx with rfl|rfl|rfl|rfl|rfl|rfl|hx|rfl|hx
   ·exact lit _ ∎ ⋯
   ·exact hn.ok
   ·exact lit _ ∎ ⋯
   ·exact Y4
   ·exact lit _ ∎ ⋯
   ·exact rok _ (by rw[Wz];exact aM)
   ·exact (λx hx=>rok x (by rw[Wz];exact aN _ hx)) x hx
   ·exact Y5
   ·exact(pnm x hx).ok
  have hlay:=De hok;have hlen:(jQ q).length=7+rest.length+q.places.length:=by rw[hW];simp;omega
  have Y6:(jQ q).drop 6=rest++("from":Str)::q.places:=by rw[hW];rfl
  have Y7:L2.cutD ((jQ q).map aX) (some 6) none=(rest++("from":Str)::q.places).map aX:=by rw[<-Y6,pW];exact lC _ 6
  have Y8:Lay 20 (.list ((rest++("from":Str)::q.places).map aX)):=De λx hx=>by
   refine hok x ?_
   rw[<-Y6]at hx;exact fG hx
  have SR:Lay 20 (.str "from"):=cg;have QJ:∀(j:Nat)(x:Str),(jQ q)[j]?=some x->ur ((jQ q).map aX) (j:Int)=some (.str x):=λj x h=>cM (by rw[ay,h];rfl)
  have g1:(jQ q)[1]?=some q.name:=by rw[hW];rfl
  have g2:(jQ q)[2]?=some ("to":Str):=by rw[hW];rfl
  have g4:(jQ q)[4]?=some ("by":Str):=by rw[hW];rfl
  have P2:(jQ q)[6+rest.length]?=some ("from":Str):=by
   have:(jQ q)[6+rest.length]?=((jQ q).drop 6)[rest.length]?:=by rw[jq]
   rw[this,Y6,bO (aT _),xO]
   rfl
  have La:∀j (h:j<(jQ q).length),6<=j->j<6+rest.length->(jQ q)[j]≠"from":=by
   intro j h j6 jr;have:(jQ q)[j]?=((jQ q).drop 6)[j-6]?:=by rw[jq];congr 1;omega
   rw[Y6,bX ∅,av h,av ∅]at this
   rw[cG this];exact zcN _ (cZ _)
  have QK:L2.cutD ((jQ q).map aX) (some ((6+rest.length:Nat)+1:Int)) none=q.places.map aX:=by
   rw[show((6+rest.length:Nat)+1:Int)=((6+rest.length+1:Nat):Int)from by omega,lC,<-pW]
   congr 1
   rw[show 6+rest.length+1=6+(rest.length+1)from by omega,<-List.drop_drop,Y6,List.drop_append,qX ∅,show rest.length+1-rest.length=1 from by omega]
   rfl
  have Y9:L2.cutD ((jQ q).map aX) (some 5) (some ((6+rest.length:Nat):Int))=(c0 q.rule).map aX:=by
   rw[show(5:Int)=((5:Nat):Int)from rfl,zcI _ 5 (6+rest.length) ∅ (by rw[ae];omega),<-pW,<-DG]
   congr 1
   rw[hW,Wz]
   show((rw0::(rest++("from":Str)::q.places))).take (6+rest.length-5)=rw0::rest
   rw[show 6+rest.length-5=rest.length+1 from by omega,List.take_succ_cons,List.take_left' rfl]
  refine aG (bV (VT.to (F9 (k1:=false) (k2:=false) (k3:=false) (VT.to (yW hr rfl SR Y8 aW (VE.to (VO.ve (h_ (ai 0 rfl) (.yes aE) .no)) (by rw[Y7]))) (by rw[qG,qQ1 (by simp)];rfl)) (λ_=>VT.to (iI hr cg cg (fU (ai 0 rfl) aE (QJ 2 _ g2)) aW) (by rw[bN,qQ1 rfl];rfl)) (λ_ _=>VT.to (iI hr cg cg (fU (ai 0 rfl) aE (QJ 4 _ g4)) aW) (by rw[bN,qQ1 rfl];rfl))) rfl) bG) ?_
  refine aG (cu 1 (d:=.int ((6+rest.length:Nat):Int)) (Kd (i:=6) (j:=6+rest.length) hr (ai 0 rfl) aW aE hlay SR ∅ #[by rw[ae];omega,?_] (λj h j6 jr=>?_)) nd) ?_
  ·have:(jQ q)[6+rest.length]'∅="from":=by
    rw[av ∅]at P2
    exact cG P2
   rw[List.getElem_map,bN,this];exact qQ1 rfl
  ·rw[ae]at h
   rw[List.getElem_map,bN];exact qQ0 (La j h j6 jr)
  have UY:jE [.name,.mJ] [q.name,fM (.str q.to)]=.tuple [.str q.name,.str q.to]:=by
   have f2:mK .mJ (fM (.str q.to))=true/\iL .mJ (fM (.str q.to))=.str q.to:=by
    rcases Ko with h|h
    ·rw[h];exact#[∎,rfl]
    ·rw[KG h]
     refine#[?_,?_]
     ·show(decide (q.to="-")||isName q.to)=true
      rw[h.is,Fu]
     ·show aX (if q.to="-" then "" else q.to)=_
      rw[qQ2 (Dc h)]
   unfold jE rY qD
   show(if(true&&(isName q.name&&(mK .mJ (fM (.str q.to))&&true)))=true then fA [.str q.name,iL .mJ (fM (.str q.to))]else .none)=_
   rw[hn.is,f2.1,f2.2];rfl
  refine aG (cu 2 (d:=.tuple [.str q.name,.str q.to]) (bF C1 (hr.mono ∅) (ao (VE.to (dR (ao aW (ao aW aR))) (k:=Ny [.name,.mJ]) rfl) (ao (VE.to (VO.ve (dS (ao (fU (ai 0 rfl) aE (QJ 1 _ g1)) (ao (fU (ai 0 rfl) aE (QJ 3 _ (by rw[hW];rfl))) aR)))) rfl) aR)) #[_,_,rfl,by show 2<=1000;decide,by show 2<=100002;decide,λx hx=>?_,UY.symm]) nd) ?_
  ·simp only[ax,bD,or_false]at hx
   rcases hx with rfl|rfl
   ·exact hn.ok
   ·exact Y4
  refine aG (cu 3 (jV kr vh (ao (VE.to (VO.ve (h_ (ai 0 rfl) (.yes (dZ (ai 1 rfl) aE)) .no)) (by rw[QK])) aR) n.tup rfl) nd) ?_
  refine aG (cu 4 (bF C2 hr (ao (VE.to (VO.ve (h_ (ai 0 rfl) (.yes aE) (.yes (ai 1 rfl)))) (by rw[Y9];rfl)) (ao (VE.to (mr (ai 3 rfl) n.len) (by rw[ae])) aR)) #[q.rule,q.places.length,rfl,p1,p6,Vr,rfl]) nd) ?_
  refine aG (bV (VT.to (F9 (k1:=false) (k2:=false) (k3:=false) (VT.to (e9 j' m8 (ai 2 rfl) dQ (eV _)) rfl) (λ_=>VT.to (e9 j' m8 (ai 4 rfl) dQ (eV _)) rfl) (λ_ _=>VT.to (oV (jM (bF C3 (hr.mono ∅) (ao (ai 3 rfl) aR) #[q.places,rfl,U2,rfl]) rfl)) rfl)) rfl) bG) ?_
  exact aY (ck (VE.to (dR (ao aW (ao (gA 2 0 rfl rfl) (ao (gA 2 1 rfl rfl) (ao (ai 4 rfl) (ao (ai 3 rfl) aR)))))) rfl))
abbrev Neo:List Str:=["words","form","values"]
theorem SV:cw Neo ["words"] (bL (top 29)):=by grind
def Reo(ds:List aj)(d:aj):Prop:=∃e:Ent,ds=[jh (GP e)]/\t_ e/\d=KD e
def EY:Ent->List Sh
 | .kind _ _=>[.name,.mV]
 | .gate _=>[.name]
 | .line _ _=>[.name,.count]
 | .desk _=>[]
 | .time _ _ _=>[.name,.name,.count]
 | .hour _ _ _=>[.name,.number,.number]
theorem GR(h:t_ e)(hd:∀q,e≠.desk q):∃ws,GP e=e.form::ws/\ws.length<=3/\(∀x∈ws,xW x)/\jE (EY e) ws=.tuple e.rest/\j8 qE e.form=some ((EY e).map Sh.tx)/\e.form≠"desk"/\lX e.form:=by
 cases e with
 |desk q=>exact qQ7 rfl (hd q)
 |kind n k=>
  obtain⟨hn,hk⟩:=h;have ok2:xW (fM (qV k))/\mK .mV (fM (qV k))=true/\iL .mV (fM (qV k))=qV k:=by
   cases k with
   |none=>exact#[vE trivial,∎,rfl]
   |some i=>
    obtain⟨h1,h2⟩:=hk i rfl;refine#[o6 h2.1 h2.2,?_,my h2 (by intro z;cases z) (by intro z;cases z)]
    show(decide _||kE (eX i))=true
    rw[pO h2 h1,Fu]
  refine#[_,rfl,by show 2<=3;decide,λx hx=>?_,?_,(show j8 qE "kind"=some ([Sh.name,Sh.mV].map Sh.tx) by symm),(show("kind":Str)≠"desk" by symm),(show bW (.str "kind")=true by symm)]
  ·simp[ax,bD,or_false]at hx
   rcases hx with rfl|rfl
   ·exact hn.ok
   ·exact ok2.1
  ·show(if(true&&(isName n&&(mK .mV _&&true)))=true then fA [.str n,iL .mV _]else .none)=_
   rw[hn.is,ok2.2.1,ok2.2.2];rfl
 |gate n=>
  refine#[[n],rfl,by show 1<=3;decide,λx hx=>?_,?_,(show j8 qE "gate"=some ([Sh.name].map Sh.tx) by symm),(show("gate":Str)≠"desk" by symm),(show bW (.str "gate")=true by symm)]
  ·rw[aQ.mp hx];exact(show dW n from h).ok
  ·show(if(true&&(isName n&&true))=true then fA [.str n]else .none)=_
   rw[h.is];rfl
 |line n r=>
  obtain⟨hn,h1,h2⟩:=h;refine#[_,rfl,by show 2<=3;decide,λx hx=>?_,?_,(show j8 qE "line"=some ([Sh.name,Sh.count].map Sh.tx) by symm),(show("line":Str)≠"desk" by symm),(show bW (.str "line")=true by symm)]
  ·simp[ax,bD,or_false]at hx
   rcases hx with rfl|rfl
   ·exact hn.ok
   ·exact o6 h2.1 h2.2
  ·show(if(true&&(isName n&&(kE _&&true)))=true then fA [.str n,iL .count _]else .none)=_
   rw[hn.is,pO h2 h1,my h2 (by intro z;cases z) (by intro z;cases z)];rfl
 |time d k w=>
  obtain⟨hn,hk,h1,h2⟩:=h;refine#[_,rfl,by show 3<=3;decide,λx hx=>?_,?_,(show j8 qE "time"=some ([Sh.name,Sh.name,Sh.count].map Sh.tx) by symm),(show("time":Str)≠"desk" by symm),(show bW (.str "time")=true by symm)]
  ·simp[ax,bD,or_false]at hx
   rcases hx with rfl|rfl|rfl
   ·exact hn.ok
   ·exact hk.ok
   ·exact o6 h2.1 h2.2
  ·show(if(true&&(isName d&&(isName k&&(kE _&&true))))=true then fA [.str d,.str k,iL .count _]else .none)=_
   rw[hn.is,hk.is,pO h2 h1,my h2 (by intro z;cases z) (by intro z;cases z)];rfl
 |hour d a b=>
  obtain⟨hn,h1,h2,_⟩:=h;refine#[_,rfl,by show 3<=3;decide,λx hx=>?_,?_,(show j8 qE "open"=some ([Sh.name,Sh.number,Sh.number].map Sh.tx) by symm),(show("open":Str)≠"desk" by symm),(show bW (.str "open")=true by symm)]
  ·simp[ax,bD,or_false]at hx
   rcases hx with rfl|rfl|rfl
   ·exact hn.ok
   ·exact o6 h1.1 h1.2
   ·exact o6 h2.1 h2.2
  ·show(if(true&&(isName d&&(isNumber _&&(isNumber _&&true))))=true then fA [.str d,iL .number _,iL .number _]else .none)=_
   rw[hn.is,zA h1.1 h1.2,zA h2.1 h2.2,my h1 (by intro z;cases z) (by intro z;cases z),my h2 (by intro z;cases z) (by intro z;cases z)];rfl
theorem zcP(F:kX K "entry_of" "entry_of" (top 29) f fd)(n:Np mg w.params K)(C1:bB P w K mg base 5 "values_of" Wy (g7 K Rvs))(C2:bB P w K mg base 7 "desk_entry" ["words"] (g7 K Rde)):eW P w K mg base kD 8 f fd ["words"] (g7 K Reo):=
 jz F SV (by ext) λ_ _ h=>by
  obtain⟨e,rfl,ok,rfl⟩:=h;intro g6 A outer s H E hr;have nd:Neo.Nodup:=SV.nd;by_cases hd:∃q,e=.desk q
  ·obtain⟨q,rfl⟩:=hd
   refine aG (cu 1 (fU (ai 0 rfl) aE (cM rfl)) nd) ?_
   exact dA (dq (kF hr cg 1 rfl (by rw[bN];exact qQ1 rfl)) (aY (ck (bF C2 hr (ao (ai 0 rfl) aR) #[q,rfl,ok,rfl])))) rfl
  ·have Wn:=λq z=>hd #[q,z]
   obtain⟨ws,w1,w2,w3,w4,w5,w6,w7⟩:=GR ok Wn;obtain⟨g1,q1,q2⟩:=n.fo;rw[w1];have hsl:(EY e).length<=3:=by cases e<;>simp[EY]
   refine aG (cu 1 (fU (ai 0 rfl) aE (cM rfl)) nd) ?_
   refine aG (bV (kF hr (bu w7) 1 rfl (by rw[bN];exact qQ0 w6)) bG) ?_
   refine aG (bV (VT.to (Bq q1 q2 (ai 1 rfl)) (by rw[w5];rfl)) bG) ?_
   refine aG (cu 2 (bF C1 (hr.mono ∅) (ao (VE.to (IJ q1 q2 (ai 1 rfl) w5) (by unfold Ny;rw[aB];rfl)) (ao (VE.to (VO.ve (h_ (ai 0 rfl) (.yes aE) .no)) (by show ik (L2.cutD (_::_) _ _)=_;rw[zF];rfl)) aR)) #[EY e,ws,rfl,∅,∅,w3,w4.symm]) nd) ?_
   have Vr:e.rest.length<=4:=by cases e<;>simp[Ent.rest]
   refine aG (bV ?_ bG) (aY (ck (VE.to (yk (dR (ao (ai 1 rfl) aR)) (ai 2 rfl) (by simp) (small (by simp;omega))) rfl)))
   cases e with
   |hour d a b=>
    exact VT.to (h8 (VT.to (e9 j' m8 (ai 2 rfl) dQ (eV _)) rfl) (λ_=>VT.to (gk (k1:=true) (kF hr (bu w7) 1 rfl (by rw[bN];exact qQ1 rfl)) (λ_=>VT.to (R4 (gA 2 1 rfl rfl) (gA 2 2 rfl rfl)) (qQ0 (by have:=ok.2.2.2;omega)))) rfl)) rfl
   |_=>
    exact VT.to (h8 (VT.to (e9 j' m8 (ai 2 rfl) dQ (eV _)) rfl) (λ_=>VT.to (gk (k1:=false) (k2:=false) (kF hr (bu w7) 1 rfl (by rw[bN];dsimp only[Ent.form];exact qQ0 ∎)) (λz=>by cases z)) rfl)) rfl
end
def r9:List (Str×List (Int×Int))->Str->Int×Int->List (Str×List (Int×Int))
 | [],n,z=>[(n,[z])]
 |q::l,n,z=>if q.1=n then(q.1,q.2 ++ [z])::l else q::r9 l n z
def fZ(l:List (Str×Int×Int)):List (Str×List (Int×Int)):=l.foldl (λacc q=>r9 acc q.1 q.2) []
def pairD(z:Int×Int):aj:=.tuple [.int z.1,.int z.2]
def sV(p:Pl):List (Str×aj):=p.kinds.map λq=>(q.1,qV q.2)
def kG(p:Pl):List (Str×aj):=p.lines.map λq=>(q.1,.int q.2)
def lD(p:Pl):List ((Str×Str)×aj):=p.times.map λq=>((q.1,q.2.1),.int q.2.2)
def yt(p:Pl):List (Str×aj):=(fZ p.hours).map λq=>(q.1,.list (q.2.map pairD))
def sW(p:Pl):List (Str×aj):=[("kinds",lV (sV p)),("gates",jh p.gates),("lines",lV (kG p)),("desks",.list (p.desks.map ej)),("times",CD (lD p)),("hours",lV (yt p)),("paces",lV [])]
def lE(p:Pl):aj:=P0 (sW p)
theorem EZ(p:Pl):gF (sW p) "kinds"=some (lV (sV p)):=fD rfl
theorem NM(p:Pl):gF (sW p) "gates"=some (jh p.gates):=(cQ (show ¬(("kinds":Str)="gates") by symm)).trans (fD rfl)
theorem zG(p:Pl):gF (sW p) "lines"=some (lV (kG p)):=(cQ (show ¬(("kinds":Str)="lines") by symm)).trans ((cQ (show ¬(("gates":Str)="lines") by symm)).trans (fD rfl))
theorem zH(p:Pl):gF (sW p) "desks"=some (.list (p.desks.map ej)):=(cQ (show ¬(("kinds":Str)="desks") by symm)).trans ((cQ (show ¬(("gates":Str)="desks") by symm)).trans ((cQ (show ¬(("lines":Str)="desks") by symm)).trans (fD rfl)))
theorem NP(p:Pl):gF (sW p) "times"=some (CD (lD p)):=(cQ (show ¬(("kinds":Str)="times") by symm)).trans ((cQ (show ¬(("gates":Str)="times") by symm)).trans ((cQ (show ¬(("lines":Str)="times") by symm)).trans ((cQ (show ¬(("desks":Str)="times") by symm)).trans (fD rfl))))
theorem jR{κ:Type}[DecidableEq κ]:∀(kvs:List (κ×aj))(x:κ),(gF kvs x).isSome=decide (x∈kvs.map (·.1))
 | [],x=>by simp[gF]
 |q::l,x=>by
  by_cases h:q.1=x
  ·rw[fD h,qQ1 (by simp[h])];rfl
  ·rw[cQ h,jR l x,eY,decide_eq_true_iff,decide_eq_true_iff,aA,ax]
   exact#[.inr,λz=>z.resolve_left λe=>h e.symm]
theorem vF(p:Pl):(sV p).map (·.1)=p.kinds.map (·.1):=by unfold sV;rw[aB];rfl
theorem jX(p:Pl):(kG p).map (·.1)=p.lines.map (·.1):=by unfold kG;rw[aB];rfl
theorem vG(p:Pl):(lD p).map (·.1)=p.times.map λq=>(q.1,q.2.1):=by unfold lD;rw[aB];rfl
def pP(p:Pl)(x:Str):Prop:=x∈p.gates\/x∈p.lines.map (·.1)
instance (p : Pl) (x : Str) : Decidable (pP p x) := by unfold pP; infer_instance
def qH(p:Pl)(x:Str):Prop:=x∈p.desks.map (·.name)
instance (p : Pl) (x : Str) : Decidable (qH p x) := by unfold qH; infer_instance
def E1(p:Pl)(x:Str):Prop:=∃q∈p.desks,x∈q.places
def zI(p:Pl):Ent->Prop
 | .kind n _=>n∉p.kinds.map (·.1)
 | .gate n=>¬pP p n
 | .line n _=>¬pP p n
 | .desk d=>¬qH p d.name/\(∀x∈d.places,¬E1 p x)/\(∀x∈d.places,pP p x)/\(d.to=""\/∃r:Int,gF (kG p) d.to=some (.int r)/\je d.rule d.places.length<=r)
 | .time d k _=>(d,k)∉p.times.map (λq=>(q.1,q.2.1))/\qH p d/\k∈p.kinds.map (·.1)
 | .hour d _ _=>qH p d
section
variable{P:bA}{w:cn}{K:aq}{mg:Str->Option aF}{base:cX}{f:aH}{k:Nat}
abbrev OU:List Str:=["plant","name"]
abbrev Npp:List Str:=["plant","place"]
theorem Y_:cw OU OU (bL (top 37)):=by grind
theorem Y':cw OU OU (bL (top 38)):=by grind
theorem Za:cw Npp Npp (bL (top 39)):=by grind
def Rip(ds:List aj)(d:aj):Prop:=∃(p:Pl)(x:Str),ds=[lE p,.str x]/\ny p/\lX x/\d=.bool (decide (pP p x))
def Rid(ds:List aj)(d:aj):Prop:=∃(p:Pl)(x:Str),ds=[lE p,.str x]/\ny p/\lX x/\d=.bool (decide (qH p x))
def zJ(p:Pl)(x:Str):List Dk:=p.desks.filter λq=>decide (x∈q.places)
def Rit(ds es:List aj):Prop:=∃(p:Pl)(x:Str),ds=[lE p,.str x]/\ny p/\lX x/\es=(zJ p x).map ej
theorem GU{p:Pl}(h:¬E1 p x):zJ p x=[]:=by
 unfold zJ;rw[Fv];intro q hq z;exact h #[q,hq,qQ4 z]
theorem BG(h:∀x∈l,dW x):Lay 20 (.list (l.map aX)):=De λx hx=>(h x hx).ok
theorem zcS(F:kX K "is_place" "is_place" (top 37) f fd):eW P w K mg base kD 1 f fd OU (g7 K Rip):=
 jz F Y_ (by ext) λ_ _ h=>by
  obtain⟨p,x,rfl,ok,ox,rfl⟩:=h;intro g6 A outer s H E hr;refine aY (ck (VE.to (vm (Sb hr rfl (bu ox) (BG ok.gates) (ai 1 rfl) (oX (ai 0 rfl) (NM p))) (λ_=>kK (Gi hr (ai 1 rfl) (oX (ai 0 rfl) (zG p))))) ?_))
  rw[qG,jR,jX]
  congr 1
  rw[eY];simp only[Ag,decide_eq_true_eq];exact Iff.rfl
def Fdn:aj->Option aj
 | .tuple (x::_)=>some x
 |_=>none
theorem QL(l:List Dk):(l.map ej).filterMap Fdn=(l.map (·.name)).map .str:=by
 rw[bP,aB];exact filterMap_some λk _=>rfl
theorem zcT(F:kX K "is_desk" "is_desk" (top 38) f fd):eW P w K mg base kD 1 f fd OU (g7 K Rid):=
 jz F Y' (by ext) λ_ _ h=>by
  obtain⟨p,x,rfl,ok,ox,rfl⟩:=h;intro g6 A outer s H E hr;have nc:(["desk"]:List Str).Nodup:=∎
  have hn:=ok.dn;refine aY (ck (VE.to (Sb hr rfl (bu ox) (BG λy hy=>?_) (ai 1 rfl) (VO.ve (VO.to (eU (own:=["desk"]) (cap:=[]) (tgt:=.one 0) rfl #[rfl,∎,∎,rfl,rfl,by simp] (dY (oX (ai 0 rfl) (zH p))) (λf s3 H3=>gJ 0 nc) rfl
   (small (by rw[ae];omega)) (λd hd=>?_)) (QL _)))) ?_))
  ·obtain⟨q,hq,rfl⟩:=au.mp hy
   exact(ok.desks q hq).1
  ·obtain⟨z,hz,rfl⟩:=au.mp hd
   exact Ee rfl rfl λf s3 H3=>gA 0 0 rfl rfl
  ·rw[qG];rfl
theorem xo(x:Str)(l:List Str):jg (.str x) (.tuple (l.map aX))=decide (x∈l):=qG x l
def NQ(x:Str):aj->Bool
 | .tuple [_,_,_,.tuple l]=>l.any λy=>cR y (.str x)
 |_=>false
def Fin(x:Str)(d:aj):Option aj:=if NQ x d=true then some d else none
theorem sf(x:Str)(q:Dk):NQ x (ej q)=decide (x∈q.places):=xo x q.places
theorem QM(x:Str)(l:List Dk):(l.map ej).filterMap (Fin x)=(l.filter λq=>decide (x∈q.places)).map ej:=by
 induction l with
 |nil=>rfl
 |cons q l ih=>
  rw[aA,gf];by_cases h:x∈q.places
  ·rw[cJ (by unfold Fin;rw[sf,qQ3 (qQ1 h)]),ih,qQ3 (qQ1 h),aA]
  ·rw[dX (by unfold Fin;rw[sf,qQ2 (by rw[qQ0 h];decide)]),ih,qQ2 (by rw[qQ0 h];decide)]
theorem zcU(F:kX K "takers_of" "takers_of" (top 39) f fd):eW P w K mg base kD 1 f fd Npp (Gf K Rit):=
 J2 F Za (by ext) λ_ _ h=>by
  obtain⟨p,x,rfl,ok,ox,rfl⟩:=h;intro g6 A outer s H E hr;have nc:(["desk","place"]:List Str).Nodup:=∎
  have hn:=ok.dn;refine aY (yj (VO.to (eU (own:=["desk"]) (cap:=[1]) (tgt:=.one 0) rfl #[rfl,∎,∎,rfl,rfl,?_] (dY (oX (ai 0 rfl) (zH p))) (λf s3 H3=>gJ 0 nc) rfl
   (small (by rw[ae];omega)) (λd hd=>?_)) (QM x _)))
  ·intro j hj
   rcases ax.mp hj with rfl|hj
   ·exact#[(by show(1:Nat)<2;decide),o8 rfl,rfl]
   ·cases hj
  ·obtain⟨z,hz,rfl⟩:=au.mp hd
   refine#[_,rfl,λf s3 H3=>?_,λr ky f s3 H3=>?_]
   ·refine qk (VT.to (Ec hr rfl (bu ox) (iE λd hd=>by obtain⟨y,hy,rfl⟩:=au.mp hd;exact bu ((ok.desks z hz).2.2.2.2 y hy).ok.2) (ai 1 rfl) (dz (ai 0 rfl) aE (cM rfl))) ?_)
    unfold Fin;rw[sf,xo];by_cases h:x∈z.places
    ·rw[qQ1 h];rfl
    ·rw[qQ0 h];rfl
   ·unfold Fin at ky
    split at ky
    ·cases ky;exact ai 0 rfl
    ·cases ky
def Zb:Rl->Bool
 | .many _=>true
 | .gather _ _=>true
 |_=>false
theorem Zc:cw ["rule","many"] ["rule","many"] (bL (top 9)):=by grind
theorem zcV(F:kX K "greatest_load" "greatest_load" (top 9) f fd):eW P w K mg base kD 1 f fd ["rule","many"] (g7 K Rgr):=
 jz F Zc (by ext) λ_ _ h=>by
  obtain⟨r,m,rfl,rfl⟩:=h;intro g6 A outer s H E hr;have oR:lX (qW r):=by cases r<;>dsimp[qW,lX]<;>symm
  have h0:ur (aX (qW r)::tJ r) 0=some _:=cM rfl;have Lb:(decide (qW r="many")||decide (qW r="gather"))=Zb r:=by
   cases r with
   |meet=>symm
   |eldest=>symm
   |many m=>exact(show(decide ("many"="many")||decide ("many"="gather"))=true by symm)
   |gather m a=>exact(show(decide ("gather"="many")||decide ("gather"="gather"))=true by symm)
   |rank b=>exact(show(decide ("rank"="many")||decide ("rank"="gather"))=false by symm)
   |turns l=>exact(show(decide ("turns"="many")||decide ("turns"="gather"))=false by symm)
  by_cases h1:Zb r=true
  ·refine dA (dq (VT.to (h8 (fh hr (bu oR) cg (dz (ai 0 rfl) aE h0) aW) (λ_=>fh hr (bu oR) cg (dz (ai 0 rfl) aE h0) aW)) (by rw[bN,bN,Lb,h1])) (aY (ck (dz (ai 0 rfl) aE ?_)))) rfl
   cases r with
   |many m=>exact cM rfl
   |gather m a=>exact cM rfl
   |_=>cases h1
  ·have h1:=Bool.not_eq_true _▸h1
   refine aG (bV (VT.to (h8 (fh hr (bu oR) cg (dz (ai 0 rfl) aE h0) aW) (λ_=>fh hr (bu oR) cg (dz (ai 0 rfl) aE h0) aW)) (by rw[bN,bN,Lb,h1])) bG) ?_
   by_cases h2:qW r="meet"
   ·refine dA (dq (VT.to (fh hr (bu oR) cg (dz (ai 0 rfl) aE h0) aW) (by rw[bN];exact qQ1 h2)) (aY (ck (VE.to (ai 1 rfl) ?_)))) rfl
    cases r with
    |meet=>rfl
    |many m=>cases h1
    |gather m a=>cases h1
    |eldest=>exact qQ7 h2 ∎
    |rank b=>exact qQ7 h2 (show ¬(("rank":Str)="meet") by symm)
    |turns l=>exact qQ7 h2 (show ¬(("turns":Str)="meet") by symm)
   ·refine aG (bV (VT.to (fh hr (bu oR) cg (dz (ai 0 rfl) aE h0) aW) (by rw[bN];exact qQ0 h2)) bG) ?_
    refine aY (ck (VE.to aE ?_))
    cases r with
    |meet=>exact qQ7 rfl h2
    |many m=>cases h1
    |gather m a=>cases h1
    |_=>rfl
end
theorem dJ(e:Ent):lX e.form:=by cases e<;>(dsimp[Ent.form,lX];symm)
theorem sX(e:Ent):ur (aX e.form::e.rest) 0=some (.str e.form):=cM rfl
def Ent.name:Ent->Str
 | .kind n _=>n
 | .gate n=>n
 | .line n _=>n
 | .desk d=>d.name
 | .time d _ _=>d
 | .hour d _ _=>d
theorem Jg(e:Ent):ur (aX e.form::e.rest) 1=some (.str e.name):=by cases e<;>exact cM rfl
theorem Jh(h:t_ e):dW e.name:=by
 cases e with
 |gate n=>exact h
 |_=>exact h.1
theorem gB{a b:Str}(h:a≠b):cR (.str a) (.str b)=false:=by rw[bN];exact qQ0 h
theorem jS(a:Str):cR (.str a) (.str a)=true:=by rw[bN];exact qQ1 rfl
section
variable{P:bA}{w:cn}{K:aq}{mg:Str->Option aF}{base:cX}{f:aH}{k:Nat}
abbrev E2:List Str:=["plant","entry"]
def WB(ds:List aj)(d:aj):Prop:=∃(p:Pl)(e:Ent),ds=[lE p,KD e]/\ny p/\t_ e/\zI p e/\d=.bool false
def GV:aj->Option aj:=λ_=>some (.bool false)
theorem zK:∀l:List aj,l.filterMap GV=(bw l.length false).map .bool
 | []=>rfl
 |d::l=>by rw[cJ (f:=GV) rfl,zK l];rfl
theorem KH(n:Nat):Bs (bw n false)=false:=by
 rw[eT];intro z;obtain⟨b,hb,h⟩:=iR.mp z;rw[(jt.mp hb).2]at h;cases h
abbrev Ntt:List Str:=["plant","entry","form","name"]
theorem SW:cw Ntt E2 (bL (top 34)):=by grind
theorem zcW(F:kX K "tells_twice" "tells_twice" (top 34) f fd)(n:Np mg w.params K)(C1:bB P w K mg base 1 "is_place" OU (g7 K Rip))(C2:bB P w K mg base 1 "is_desk" OU (g7 K Rid))(C3:bB P w K mg base 1 "takers_of" Npp (Gf K Rit)):eW P w K mg base kD 2 f fd E2 (g7 K WB):=
 jz F SW (by ext) λ_ _ h=>by
  obtain⟨p,e,rfl,ok,oe,oa,rfl⟩:=h;intro g6 A outer s H E hr;have nd:Ntt.Nodup:=SW.nd;have WC:=(Jh oe).ok.2;have ofm:=dJ e;refine aG (cu 2 (dz (ai 1 rfl) aE (sX e)) nd) ?_
  refine aG (cu 3 (dz (ai 1 rfl) aE (Jg e)) nd) ?_
  cases e with
  |kind m k=>
   refine dA (dq (kF hr (bu (dJ _)) 2 rfl (jS _)) (aY (ck (VE.to (Gi hr (ai 3 rfl) (oX (ai 0 rfl) (EZ p))) ?_)))) rfl
   rw[jR,vF];exact qQ6 i_ (qQ0 oa)
  |gate m=>
   refine aG (bV (kF hr (bu (dJ _)) 2 rfl (gB (show("gate":Str)≠"kind" by symm))) bG) ?_
   exact dA (dq (VT.to (h8 (k1:=true) (k2:=true) (kF hr (bu (dJ _)) 2 rfl (jS _)) (λz=>by cases z)) rfl) (aY (ck (bF C1 hr (ao (ai 0 rfl) (ao (ai 3 rfl) aR)) #[p,m,rfl,ok,WC,by rw[qQ0 oa]])))) rfl
  |line m r=>
   refine aG (bV (kF hr (bu (dJ _)) 2 rfl (gB (show("line":Str)≠"kind" by symm))) bG) ?_
   exact dA (dq (VT.to (h8 (k1:=false) (k2:=true) (kF hr (bu (dJ _)) 2 rfl (gB (show("line":Str)≠"gate" by symm))) (λ_=>kF hr (bu (dJ _)) 2 rfl (jS _))) rfl) (aY (ck (bF C1 hr (ao (ai 0 rfl) (ao (ai 3 rfl) aR)) #[p,m,rfl,ok,WC,by rw[qQ0 oa]])))) rfl
  |desk q=>
   refine aG (bV (kF hr (bu (dJ _)) 2 rfl (gB (show("desk":Str)≠"kind" by symm))) bG) ?_
   refine aG (bV (VT.to (h8 (k1:=false) (k2:=false) (kF hr (bu (dJ _)) 2 rfl (gB (show("desk":Str)≠"gate" by symm))) (λ_=>kF hr (bu (dJ _)) 2 rfl (gB (show("desk":Str)≠"line" by symm)))) rfl) bG) ?_
   have nc:(["place","plant"]:List Str).Nodup:=∎
   obtain⟨a1,a2,a3,a4⟩:=oa;have l6:=oe.2.2.2.2.1;refine dA (dq (kF hr (bu (dJ _)) 2 rfl (jS _)) (aY (ck (VE.to (vm (bF C2 hr (ao (ai 0 rfl) (ao (ai 3 rfl) aR)) #[p,q.name,rfl,ok,WC,rfl]) (λ_=>kK (gR (MD rfl) Ye (ao (VO.ve (VO.to (eU (own:=["place"]) (cap:=[0]) (tgt:=.one 0) (F:=GV) rfl #[rfl,∎,∎,rfl,rfl,?_] (rN (dz (ai 1 rfl) aE (cM (j:=4) rfl))) (λf s3 H3=>gJ 0 nc) rfl
    (small (by rw[ae];omega)) (λd hd=>?_)) (zK _))) aR) n.any rfl))) ?_)))) rfl
   ·intro j hj
    rcases ax.mp hj with rfl|hj
    ·exact#[(by show(0:Nat)<4;decide),o8 rfl,rfl]
    ·cases hj
   ·obtain⟨z,hz,rfl⟩:=au.mp hd
    exact Ee rfl rfl λf s3 H3=>VE.to (Ms hr jB jB (VE.to (VO.ve (oq C3 hr (ao (ai 1 rfl) (ao (ai 0 rfl) aR)) #[p,z,rfl,ok,(oe.2.2.2.2.2.2 z hz).ok.2,rfl])) (by rw[GU (a2 z hz)];rfl)) (VO.ve (dS (ds:=[]) aR))) rfl
   ·rw[qQ0 a1,KH];rfl
  |time d k wk=>
   refine aG (bV (kF hr (bu (dJ _)) 2 rfl (gB (show("time":Str)≠"kind" by symm))) bG) ?_
   refine aG (bV (VT.to (h8 (k1:=false) (k2:=false) (kF hr (bu (dJ _)) 2 rfl (gB (show("time":Str)≠"gate" by symm))) (λ_=>kF hr (bu (dJ _)) 2 rfl (gB (show("time":Str)≠"line" by symm)))) rfl) bG) ?_
   refine aG (bV (kF hr (bu (dJ _)) 2 rfl (gB (show("time":Str)≠"desk" by symm))) bG) ?_
   refine dA (dq (kF hr (bu (dJ _)) 2 rfl (jS _)) (aY (ck (VE.to (P1 hr (ai 3 rfl) (gA 1 2 rfl rfl) (oX (ai 0 rfl) (NP p))) ?_)))) rfl
   refine qQ6 i_ ?_
   rw[jR,vG];rw[eT];intro z;exact oa.1 (@of_decide_eq_true _ (_) z)
  |hour d a b=>
   refine aG (bV (kF hr (bu (dJ _)) 2 rfl (gB (show("open":Str)≠"kind" by symm))) bG) ?_
   refine aG (bV (VT.to (h8 (k1:=false) (k2:=false) (kF hr (bu (dJ _)) 2 rfl (gB (show("open":Str)≠"gate" by symm))) (λ_=>kF hr (bu (dJ _)) 2 rfl (gB (show("open":Str)≠"line" by symm)))) rfl) bG) ?_
   refine aG (bV (kF hr (bu (dJ _)) 2 rfl (gB (show("open":Str)≠"desk" by symm))) bG) ?_
   refine aG (bV (kF hr (bu (dJ _)) 2 rfl (gB (show("open":Str)≠"time" by symm))) bG) ?_
   exact aY (ck (VE.to (oW (k1:=false) (k2:=false) (VE.to (tQ hr (bu (dJ _)) cg (ai 2 rfl) aW) (qQ6 i_ (gB (show("open":Str)≠"pace" by symm)))) (λz=>by cases z)) rfl))
abbrev Nln:List Str:=["plant","entry","form","into_line"]
theorem SX:cw Nln E2 (bL (top 35)):=by grind
theorem zcX(F:kX K "lacks_name" "lacks_name" (top 35) f fd)(n:Np mg w.params K)(C1:bB P w K mg base 1 "is_place" OU (g7 K Rip))(C2:bB P w K mg base 1 "is_desk" OU (g7 K Rid)):eW P w K mg base kD 2 f fd E2 (g7 K WB):=
 jz F SX (by ext) λ_ _ h=>by
  obtain⟨p,e,rfl,ok,oe,oa,rfl⟩:=h;intro g6 A outer s H E hr;have nd:Nln.Nodup:=SX.nd;have WC:=(Jh oe).ok.2;refine aG (cu 2 (dz (ai 1 rfl) aE (sX e)) nd) ?_
  have pac:∀(e:Ent),e.form≠"pace":=λe=>by cases e<;>(dsimp only[Ent.form];symm)
  cases e with
  |desk q=>
   obtain⟨a1,a2,a3,a4⟩:=oa;have nc:(["place","plant"]:List Str).Nodup:=∎
   have oto:lX q.to:=by
    rcases oe.2.1 with h|h
    ·rw[h];show bW (.str ("":Str))=true;symm
    ·exact h.ok.2
   have l6:=oe.2.2.2.2.1;refine dA (dq (kF hr (bu (dJ _)) 2 rfl (jS _)) (aG (cu 3 (d:=.bool true) (VE.to (vm (tQ hr (bu oto) cg (gA 1 2 rfl rfl) aW) (λ_=>kK (Gi hr (gA 1 2 rfl rfl) (oX (ai 0 rfl) (zG p))))) ?_) nd) (aY (ck (VE.to (vm (VE.to (yl (ai 3 rfl)) rfl) (λ_=>kK (VE.to (yl (gR (rQ rfl) Eh (ao (VO.ve (VO.to (eU (own:=["place"]) (cap:=[0]) (tgt:=.one 0) (F:=Fal) rfl #[rfl,∎,∎,rfl,rfl,?_] (rN (dz (ai 1 rfl) aE (cM (j:=4) rfl))) (λf s3 H3=>gJ 0 nc) rfl
    (small (by rw[ae];omega)) (λd hd=>?_)) (Jd _))) aR) n.all rfl)) (by rw[Kq];rfl)))) rfl))))) rfl
   ·rw[bN,jR,jX]
    congr 1
    rcases a4 with h|⟨r,h,_⟩
    ·rw[qQ1 h];rfl
    ·have:(gF (kG p) q.to).isSome=true:=by rw[h];rfl
     rw[jR,jX]at this;rw[this,Fu]
   ·intro j hj
    rcases ax.mp hj with rfl|hj
    ·exact#[(by show(0:Nat)<4;decide),o8 rfl,rfl]
    ·cases hj
   ·obtain⟨z,hz,rfl⟩:=au.mp hd
    exact Ee rfl rfl λf s3 H3=>bF C1 hr (ao (ai 1 rfl) (ao (ai 0 rfl) aR)) #[p,z,rfl,ok,(oe.2.2.2.2.2.2 z hz).ok.2,by rw[qQ1 (a3 z hz)]]
  |time d k wk=>
   refine aG (bV (kF hr (bu (dJ _)) 2 rfl (gB (show("time":Str)≠"desk" by symm))) bG) ?_
   refine dA (dq (kF hr (bu (dJ _)) 2 rfl (jS _)) (aY (ck (VE.to (vm (k1:=false) (VE.to (yl (bF C2 hr (ao (ai 0 rfl) (ao (gA 1 1 rfl rfl) aR)) #[p,d,rfl,ok,WC,rfl])) (by rw[qQ1 oa.2.1];rfl)) (λ_=>kK (J5 hr (gA 1 2 rfl rfl) (oX (ai 0 rfl) (EZ p))))) ?_)))) rfl
   rw[jR,vF,qQ1 oa.2.2];rfl
  |hour d a b=>
   refine aG (bV (kF hr (bu (dJ _)) 2 rfl (gB (show("open":Str)≠"desk" by symm))) bG) ?_
   exact aG (bV (kF hr (bu (dJ _)) 2 rfl (gB (show("open":Str)≠"time" by symm))) bG) (dA (dq (kF hr (bu (dJ _)) 2 rfl (jS _)) (aY (ck (VE.to (yl (bF C2 hr (ao (ai 0 rfl) (ao (gA 1 1 rfl rfl) aR)) #[p,d,rfl,ok,WC,rfl])) (by rw[qQ1 (show qH p d from oa)];rfl))))) rfl)
  |_=>
   refine aG (bV (kF hr (bu (dJ _)) 2 rfl (by rw[bN];dsimp only[Ent.form];exact qQ0 ∎)) bG) ?_
   refine aG (bV (kF hr (bu (dJ _)) 2 rfl (by rw[bN];dsimp only[Ent.form];exact qQ0 ∎)) bG) ?_
   exact aG (bV (kF hr (bu (dJ _)) 2 rfl (by rw[bN];dsimp only[Ent.form];exact qQ0 ∎)) bG) (aY (ck (VE.to (oW (k1:=false) (k2:=false) (VE.to (tQ hr (bu (dJ _)) cg (ai 2 rfl) aW) (by rw[bN];exact qQ6 i_ (qQ0 (pac _)))) (λz=>by cases z)) rfl)))
theorem Vv:cw E2 E2 (bL (top 36)):=by grind
theorem Zd(F:kX K "lacks_room" "lacks_room" (top 36) f fd)(n:Np mg w.params K)(C1:bB P w K mg base 1 "greatest_load" ["rule","many"] (g7 K Rgr)):eW P w K mg base kD 2 f fd E2 (g7 K WB):=
 jz F Vv (by ext) λ_ _ h=>by
  obtain⟨p,e,rfl,ok,oe,oa,rfl⟩:=h;intro g6 A outer s H E hr;by_cases hd:∃q,e=.desk q
  ·obtain⟨q,rfl⟩:=hd
   obtain⟨a1,a2,a3,a4⟩:=oa;have oto:lX q.to:=by
    rcases oe.2.1 with h|h
    ·rw[h];show bW _=true;symm
    ·exact h.ok.2
   by_cases ht:q.to=""
   ·exact dA (dq (VT.to (h8 (VT.to (iI hr (bu (dJ _)) cg (dz (ai 1 rfl) aE (sX _)) aW) (qQ6 (λb=>!b) (jS _))) (λ_=>VT.to (fh hr (bu oto) cg (gA 1 2 rfl rfl) aW) (by rw[bN];exact qQ1 ht))) rfl) (aY (ck Iq))) rfl
   ·obtain⟨r,h1,h2⟩:=a4.resolve_left ht
    refine aG (bV (VT.to (h8 (VT.to (iI hr (bu (dJ _)) cg (dz (ai 1 rfl) aE (sX _)) aW) (qQ6 (λb=>!b) (jS _))) (λ_=>VT.to (fh hr (bu oto) cg (gA 1 2 rfl rfl) aW) (by rw[bN];exact qQ0 ht))) rfl) bG) ?_
    exact aY (ck (VE.to (XX (bF C1 hr (ao (dz (ai 1 rfl) aE (cM rfl)) (ao (VE.to (mr (gA 1 4 rfl rfl) n.len) (by rw[ae])) aR)) #[q.rule,q.places.length,rfl,rfl]) (du hr (oX (ai 0 rfl) (zG p)) (gA 1 2 rfl rfl) h1)) (qQ6 i_ (qQ0 ∅))))
  ·have hf:e.form≠"desk":=by
    cases e with
    |desk q=>exact qQ7 #[q,rfl] hd
    |_=>dsimp only[Ent.form];symm
   exact dA (dq (VT.to (h8 (k1:=true) (k2:=true) (VT.to (iI hr (bu (dJ e)) cg (dz (ai 1 rfl) aE (sX _)) aW) (by rw[bN,qQ0 hf];rfl)) (λz=>by cases z)) rfl) (aY (ck Iq))) rfl
theorem Ze:cw E2 E2 (bL (top 33)):=by grind
def Rfo(ds:List aj)(d:aj):Prop:=∃(p:Pl)(e:Ent),ds=[lE p,KD e]/\ny p/\t_ e/\zI p e/\d=.str ""
theorem zcY(F:kX K "fault_of" "fault_of" (top 33) f fd)(C1:bB P w K mg base 2 "tells_twice" E2 (g7 K WB))(C2:bB P w K mg base 2 "lacks_name" E2 (g7 K WB))(C3:bB P w K mg base 2 "lacks_room" E2 (g7 K WB)):eW P w K mg base kD 3 f fd E2 (g7 K Rfo):=
 jz F Ze (by ext) λ_ _ h=>by
  obtain⟨p,e,rfl,ok,oe,oa,rfl⟩:=h;intro g6 A outer s H E hr;refine aG (bV (VT.to (e9 j' m8 (ai 1 rfl) dQ (eV _)) rfl) bG) ?_
  refine aG (bV (jM (bF C1 hr (ao (ai 0 rfl) (ao (ai 1 rfl) aR)) #[p,e,rfl,ok,oe,oa,rfl]) rfl) bG) ?_
  refine aG (bV (jM (bF C2 hr (ao (ai 0 rfl) (ao (ai 1 rfl) aR)) #[p,e,rfl,ok,oe,oa,rfl]) rfl) bG) ?_
  exact aG (bV (jM (bF C3 hr (ao (ai 0 rfl) (ao (ai 1 rfl) aR)) #[p,e,rfl,ok,oe,oa,rfl]) rfl) bG) (aY (ck aW))
end
def QN:Option Int->V
 |none=>.non
 |some i=>.int i
theorem NR(o:Option Int):Rep K H (QN o) (qV o):=by
 cases o with
 |none=>exact .non
 |some i=>exact .int i
theorem Rep.QO{v:V}{o:Option Int}(r:Rep K H v (qV o)):v=QN o:=by
 cases o with
 |none=>cases r;rfl
 |some i=>cases r;rfl
def uI(p:Pl):List (Key×V):=p.kinds.map λq=>(aU q.1,QN q.2)
def uJ(p:Pl):List (Key×V):=p.lines.map λq=>(aU q.1,V.int q.2)
def uK(p:Pl):List (List Key×V):=p.times.map λq=>(tG (q.1,q.2.1),V.int q.2.2)
def gL(h:List (Str×List (Int×Int)))(cs:List aH):List (Key×V):=(h.zip cs).map λz=>(aU z.1.1,V.ref z.2)
abbrev fsN:List Str:=["kinds","gates","lines","desks","times","hours","paces"]
def QP(ak ag al ad at_ ah ap:aH):List (Str×V):=[("kinds",.ref ak),("gates",.ref ag),("lines",.ref al),("desks",.ref ad),("times",.ref at_),("hours",.ref ah),("paces",.ref ap)]
structure PlW(K:aq)(p:aH)(st:Pl)(H0 H:Hp)(C dx ak ag al ad at_ ah ap:aH)(cs:List aH)(xd:List V):Prop where
 ins:H p=some (.ins C dx (QP ak ag al ad at_ ah ap))
 cls:DW K C
 tK:∀f∈fsN,kf K C f
 ki:H ak=some (.dK (uI st))
 ga:H ag=some (.lst (st.gates.map V.str))
 li:H al=some (.dK (uJ st))
 de:H ad=some (.lst xd)
 dr:cz K H0 xd (st.desks.map ej)
 ti:H at_=some (.dT (uK st))
 ho:H ah=some (.dK (gL (fZ st.hours) cs))
 hl:cs.length=(fZ st.hours).length
 pa:H ap=some (.dK [])
 ce:∀(i:Nat)c q,cs[i]?=some c->(fZ st.hours)[i]?=some q->∃xs,H c=some (.lst xs)/\cz K H0 xs (q.2.map pairD)
def Df(K:aq)(p:aH)(st:Pl):OR:=λH0 H as=>∃C dx ak ag al ad at_ ah ap cs xd,as=p::ak::ag::al::ad::at_::ah::ap::cs/\as.Nodup/\PlW K p st H0 H C dx ak ag al ad at_ ah ap cs xd
theorem Df.mono{st:Pl}:gS (Df K p st):=by
 rintro H0 H Ha Hb as ⟨C,dx,ak,ag,al,ad,at_,ah,ap,cs,xd,rfl,nd,W⟩ s e
 exact#[C,dx,ak,ag,al,ad,at_,ah,ap,cs,xd,rfl,nd,(#[by rw[e p (by simp)];exact W.ins,W.cls,W.tK,by rw[e ak (by simp)];exact W.ki,by rw[e ag (by simp)];exact W.ga,by rw[e al (by simp)];exact W.li,by rw[e ad (by simp)];exact W.de,W.dr.mono s,by rw[e at_ (by simp)];exact W.ti,by rw[e ah (by simp)];exact W.ho,W.hl,by rw[e ap (by simp)];exact W.pa,λi c q e1 e2=>by
  obtain⟨xs,h1,h2⟩:=W.ce i c q e1 e2;refine#[xs,?_,h2.mono s]
  rw[e c (by simp[aK e1])]
  exact h1])]
theorem vH{α:Type}{f:α->V}{g:α->aj}:∀{l:List α},(∀x∈l,Rep K H (f x) (g x))->cz K H (l.map f) (l.map g)
 | [],_=>.nil
 |x::l,h=>.cons (h x aM) (vH λy hy=>h y (aN _ hy))
theorem E3{α:Type}{g:α->aj}:∀{l:List α}{cs:List aH},cs.length=l.length->(∀(i:Nat)c q,cs[i]?=some c->l[i]?=some q->Rep K H (.ref c) (g q))->cz K H (cs.map V.ref) (l.map g)
 | [],[],_,_=>.nil
 | [],_::_,h,_=>by cases h
 |_::_,[],h,_=>by cases h
 |q::l,c::cs,h,k=>.cons (k 0 c q rfl rfl) (E3 ↑h λi c' q' e1 e2=>k (i+1) c' q' ↑e1 ↑e2)
theorem xq:∀{h:List (Str×List (Int×Int))}{cs:List aH},cs.length=h.length->(gL h cs).map (·.1)=h.map λq=>(aU q.1:Key)
 | [],[],_=>rfl
 | [],_::_,e=>by cases e
 |_::_,[],e=>by cases e
 |q::h,c::cs,e=>by
  have:=xq ↑e
  unfold gL at this ⊢;rw[dg,aA,aA,this];rfl
theorem xr:∀{h:List (Str×List (Int×Int))}{cs:List aH},cs.length=h.length->(gL h cs).map (·.2)=cs.map V.ref
 | [],[],_=>rfl
 | [],_::_,e=>by cases e
 |_::_,[],e=>by cases e
 |q::h,c::cs,e=>by
  have:=xr ↑e
  unfold gL at this ⊢;rw[dg,aA,aA,this];rfl
theorem Df.rep{st:Pl}(Ha Hb:Hp)(as:List aH)(sb:cU Ha Hb)(h:Df K p st Ha Hb as):Rep K (jG as Hb Ha) (.ref p) (lE st):=by
 obtain⟨C,dx,ak,ag,al,ad,at_,ah,ap,cs,xd,rfl,nd,W⟩:=h;have sm:=lj (as:=p::ak::ag::al::ad::at_::ah::ap::cs) sb
 generalize hM:jG (p::ak::ag::al::ad::at_::ah::ap::cs) Hb Ha=M at *
 have mm:∀a∈p::ak::ag::al::ad::at_::ah::ap::cs,M a=Hb a:=λa ha=>by rw[<-hM];exact jb ha
 refine Rep.obj (fs:=QP ak ag al ad at_ ah ap) ((mm p (by simp)).trans W.ins) W.cls W.tK rfl ?_
 refine .cons ?_ (.cons ?_ (.cons ?_ (.cons ?_ (.cons ?_ (.cons ?_ (.cons ?_ .nil))))))
 ·refine .dct ((mm ak (by simp)).trans W.ki) ?_ ?_
  ·unfold sV uI;simp only[aB];rfl
  ·unfold sV uI;simp;exact vH λq _=>NR q.2
 ·exact .lst (jy.of ((mm ag (by simp)).trans W.ga)) (wx _)
 ·refine .dct ((mm al (by simp)).trans W.li) ?_ ?_
  ·unfold kG uJ;simp only[aB];rfl
  ·unfold kG uJ;simp;exact vH λq _=>.int q.2
 ·exact .lst (jy.of ((mm ad (by simp)).trans W.de)) (W.dr.mono sm)
 ·refine .R3 ((mm at_ (by simp)).trans W.ti) ?_ ?_
  ·unfold lD uK;simp only[aB];rfl
  ·unfold lD uK;simp;exact vH λq _=>.int q.2.2
 ·refine .dct ((mm ah (by simp)).trans W.ho) ?_ ?_
  ·have:=xq W.hl
   have e:(gL (fZ st.hours) cs).map (λq=>nh q.1)=((gL (fZ st.hours) cs).map (·.1)).map nh:=by rw[aB];rfl
   rw[e,this];unfold yt;simp only[aB];rfl
  ·rw[xr W.hl]
   have e:((yt st).map λq=>(aX q.1,q.2)).map (·.2)=(fZ st.hours).map λq=>ik (q.2.map pairD):=by
    unfold yt;simp only[aB];rfl
   rw[e];exact E3 W.hl λi c q e1 e2=>by
    obtain⟨xs,h1,h2⟩:=W.ce i c q e1 e2;exact .lst (jy.of (by rw[mm c (by simp[aK e1])];exact h1)) (h2.mono sm)
 ·exact .dct ((mm ap (by simp)).trans W.pa) rfl .nil
structure Zf(H H1:Hp)(p C dx:aH)(fs:List (Str×V))(os:List (aH×HO)):Prop where
 ins:H1 p=some (.ins C dx fs)
 ob:∀q∈os,H1 q.1=some q.2
 nd:(p::os.map (·.1)).Nodup
 fresh:∀q∈os,H q.1=none
 old:∀b o,H b=some o->b≠p->H1 b=some o
theorem Zf.step{H1: Hp}{C dx d: aH}{fs fs':List (Str×V)}{os:List (aH×HO)}{o:HO}(m:Zf H H1 p C dx fs os)(hd:H1 d=none):Zf H (upd (upd H1 d o) p (.ins C dx fs')) p C dx fs' (os ++ [(d,o)]):=by
 have hpd:d≠p:=λz=>by subst z;rw[m.ins]at hd;cases hd
 have Ua:d∉os.map (·.1):=λz=>by
  obtain⟨q,hq,rfl⟩:=au.mp z;rw[m.ob q hq]at hd;cases hd
 refine#[aZ,λq hq=>?_,?_,λq hq=>?_,λb o' e hb=>?_]
 ·rcases bo.mp hq with hq|hq
  ·have h1:q.1≠p:=λz=>((cj.mp m.nd).1) (by rw[<-z];exact au.mpr #[q,hq,rfl])
   have h2:q.1≠d:=λz=>Ua (by rw[<-z];exact au.mpr #[q,hq,rfl])
   rw[aL h1,aL h2];exact m.ob q hq
  ·rw[aQ.mp hq,aL hpd];exact aZ
 ·rw[aP,<-List.cons_append,bR]
  refine#[m.nd,by simp,λx hx y hy=>?_]
  rw[kY,aQ]at hy;subst hy;rcases ax.mp hx with rfl|hx
  ·exact bJ hpd
  ·exact λz=>Ua (by rw[<-z];exact hx)
 ·rcases bo.mp hq with hq|hq
  ·exact m.fresh q hq
  ·rw[aQ.mp hq]
   cases e:H d with
   |none=>rfl
   |some o'=>have:=m.old d o' e hpd;rw[hd]at this;cases this
 ·have h2:b≠d:=λz=>by subst z;have:=m.old b o' e hb;rw[hd]at this;cases this
  rw[aL hb,aL h2];exact m.old b o' e hb
theorem mL{f:Str}{v:V}:∀{fs:List (Str×V)},f∉fs.map (·.1)->qU f v fs=fs ++ [(f,v)]
 | [],_=>rfl
 |(g,x)::fs,h=>by
  show(if g=f then(g,v)::fs else(g,x)::qU f v fs)=_
  rw[qQ2 (λz=>h (by rw[z];simp)),mL λz=>h (by simp[z])]
  rfl
abbrev BH:fQ:=inClass (top 24) 0
def NS(C:aH):Sp:=λvs H Q _=>∃p dx,vs=[.ref p]/\H p=some (.ins C dx [])/\∀ak ag al ad at_ ah ap H',Zf H H' p C dx (QP ak ag al ad at_ ah ap) [(ak,.dK []),(ag,.lst []),(al,.dK []),(ad,.lst []),(at_,.dT []),(ah,.dK []),(ap,.dK [])]->Q .non H'
section
variable{P:bA}{w:cn}{K:aq}{mg:Str->Option aF}{base:cX}{f:aH}{k:Nat}
theorem Zg:cw ["self"] ["self"] (bL BH):=by grind
theorem zcZ{C:aH}(F:kX K "__init__" "Plant.__init__" BH f fd)(cl:DW K C)(na:∀f∈fsN,kf K C f):eW P w K mg base kD 1 f fd ["self"] (NS C):=by
 refine F.ok Zg (λvs H Q E h=>?_) (λg6 A outer s H vs Q E hr h=>?_)
 ·obtain⟨p,dx,rfl,_⟩:=h
  rfl
 ·obtain⟨p,dx,rfl,hp,q⟩:=h
  refine#[_,k8 (uo (pv 0) pC rfl) (k8 (uo (pv 0) (wa eG) rfl) (k8 (uo (pv 0) pC rfl) (k8 (uo (pv 0) (wa eG) rfl) (k8 (uo (pv 0) L9 rfl) (k8 (uo (pv 0) pC rfl) (ye (uo (pv 0) pC rfl))))))),?_]
  have m0:Zf H H p C dx [] []:=#[hp,λq hq=>(by cases hq),by simp,λq hq=>(by cases hq),λb o e _=>e]
  intro ak hak;have p1:(upd H ak (.dK [])) p=some (.ins C dx []):=by rw[aL (bC hp hak)];exact hp
  refine#[_,rfl,p,C,dx,_,rfl,p1,cl,na _ ∎,⋯,?_]
  have m1:=m0.step (o:=.dK []) (fs':=[(("kinds":Str),V.ref ak)]) hak;rw[mL (show("kinds":Str)∉([]:List Str) by symm)];refine#[bj _,λag hag=>?_]
  refine#[_,rfl,p,C,dx,_,rfl,by rw[aL (bC m1.ins hag)];exact m1.ins,cl,na _ ∎,by show 1<1000;decide,?_]
  have m2:=m1.step (o:=.lst []) (fs':=[(("kinds":Str),V.ref ak),("gates",V.ref ag)]) hag;rw[mL (show("gates":Str)∉(["kinds"]:List Str) by symm)];intro al hal;refine#[_,rfl,p,C,dx,_,rfl,by rw[aL (bC m2.ins hal)];exact m2.ins,cl,na _ ∎,by show 2<1000;decide,?_]
  have m3:=m2.step (o:=.dK []) (fs':=[(("kinds":Str),V.ref ak),("gates",V.ref ag),("lines",V.ref al)]) hal;rw[mL (show("lines":Str)∉(["kinds","gates"]:List Str) by symm)];refine#[bj _,λad had=>?_]
  refine#[_,rfl,p,C,dx,_,rfl,by rw[aL (bC m3.ins had)];exact m3.ins,cl,na _ ∎,by show 3<1000;decide,?_]
  have m4:=m3.step (o:=.lst []) (fs':=[(("kinds":Str),V.ref ak),("gates",V.ref ag),("lines",V.ref al),("desks",V.ref ad)]) had;rw[mL (show("desks":Str)∉(["kinds","gates","lines"]:List Str) by symm)];intro at_ hat;refine#[_,rfl,p,C,dx,_,rfl,by rw[aL (bC m4.ins hat)];exact m4.ins,cl,na _ ∎,by show 4<1000;decide,?_]
  have m5:=m4.step (o:=.dT []) (fs':=[(("kinds":Str),V.ref ak),("gates",V.ref ag),("lines",V.ref al),("desks",V.ref ad),("times",V.ref at_)]) hat;rw[mL (show("times":Str)∉(["kinds","gates","lines","desks"]:List Str) by symm)];intro ah hah;refine#[_,rfl,p,C,dx,_,rfl,by rw[aL (bC m5.ins hah)];exact m5.ins,cl,na _ ∎,by show 5<1000;decide,?_]
  have m6:=m5.step (o:=.dK []) (fs':=[(("kinds":Str),V.ref ak),("gates",V.ref ag),("lines",V.ref al),("desks",V.ref ad),("times",V.ref at_),("hours",V.ref ah)]) hah;rw[mL (show("hours":Str)∉(["kinds","gates","lines","desks","times"]:List Str) by symm)];intro ap hap;refine#[_,rfl,p,C,dx,_,rfl,by rw[aL (bC m6.ins hap)];exact m6.ins,cl,na _ ∎,by show 6<1000;decide,?_]
  have m7:=m6.step (o:=.dK []) (fs':=[(("kinds":Str),V.ref ak),("gates",V.ref ag),("lines",V.ref al),("desks",V.ref ad),("times",V.ref at_),("hours",V.ref ah),("paces",V.ref ap)]) hap;rw[mL (show("paces":Str)∉(["kinds","gates","lines","desks","times","hours"]:List Str) by symm)];exact q ak ag al ad at_ ah ap _ m7
end
def sj(p:Pl):Ent->Pl
 | .kind n k=>{ p with kinds:=p.kinds ++ [(n,k)] }
 | .gate n=>{ p with gates:=p.gates ++ [n] }
 | .line n r=>{ p with lines:=p.lines ++ [(n,r)] }
 | .desk d=>{ p with desks:=p.desks ++ [d] }
 | .time d k w=>{ p with times:=p.times ++ [(d,k,w)] }
 | .hour d a b=>{ p with hours:=p.hours ++ [(d,a,b)] }
def SY(st:Pl)(d:aj)(yf:Pl):Prop:=∃e,d=KD e/\ny st/\t_ e/\zI st e/\yf=sj st e
theorem vI{κ:Type}[DecidableEq κ]:∀{kvs:List (κ×V)}{k:κ},(∀q∈kvs,q.1≠k)->gQ kvs k=none
 | [],_,_=>rfl
 |q::l,k,h=>by rw[jf (h q aM)];exact vI λx hx=>h x (aN _ hx)
theorem zL(z:Int×Int)(n:Str):∀{h:List (Str×List (Int×Int))}{cs:List aH},cs.length=h.length->
  (gQ (gL h cs) (aU n)=none/\r9 h n z=h ++ [(n,[z])])\/∃i c q,h[i]?=some q/\cs[i]?=some c/\gQ (gL h cs) (aU n)=some (.ref c)/\r9 h n z=h.set i (q.1,q.2 ++ [z])
 | [],[],_=>.inl #[rfl,rfl]
 | [],_::_,e=>by cases e
 |_::_,[],e=>by cases e
 |q::h,c::cs,e=>by
  have hv:gL (q::h) (c::cs)=(aU q.1,V.ref c)::gL h cs:=rfl;by_cases hn:q.1=n
  ·refine .inr #[0,c,q,rfl,rfl,?_,?_]
   ·exact ku (by show(aU q.1)=aU n;rw[hn])
   ·show(if q.1=n then(q.1,q.2 ++ [z])::h else q::r9 h n z)=_
    rw[qQ3 hn];rfl
  ·have ne:¬(aU q.1:Key)=aU n:=λw=>hn (by injection w)
   have ea:r9 (q::h) n z=q::r9 h n z:=by
    show(if q.1=n then(q.1,q.2 ++ [z])::h else q::r9 h n z)=_
    rw[qQ2 hn]
   rcases zL z n ↑e with⟨h1,h2⟩|⟨i,c',q',h1,h2,h3,h4⟩
   ·exact .inl #[by rw[hv,jf ne];exact h1,by rw[ea,h2];rfl]
   ·exact .inr #[i+1,c',q',by simpa using h1,by simpa using h2,by rw[hv,jf ne];exact h3,by rw[ea,h4];rfl]
theorem xt:∀{h h':List (Str×List (Int×Int))}{cs:List aH},h'.map (·.1)=h.map (·.1)->gL h' cs=gL h cs
 | [],[],_,_=>rfl
 | [],_::_,_,e=>by cases e
 |_::_,[],_,e=>by cases e
 |q::h,q'::h',cs,e=>by
  obtain⟨e1,e2⟩:=hZ e;cases cs with
  |nil=>rfl
  |cons c cs=>
   show(aU q'.1,V.ref c)::gL h' cs=(aU q.1,V.ref c)::gL h cs
   rw[show q'.1=q.1 from e1,xt e2]
theorem GW{h:List (Str×List (Int×Int))}{cs:List aH}(e:cs.length=h.length)(q:Str×List (Int×Int))(c:aH):gL (h ++ [q]) (cs ++ [c])=gL h cs ++ [(aU q.1,V.ref c)]:=by
 unfold gL;rw[List.zip_append ∅,aP]
 rfl
theorem GX(l:List (Str×Int×Int))(q:Str×Int×Int):fZ (l ++ [q])=r9 (fZ l) q.1 q.2:=by
 unfold fZ;rw[eS];rfl
theorem E4(z:Int×Int)(n:Str):∀h,(r9 h n z).length<=h.length+1
 | []=>aT _
 |q::h=>by
  show(if q.1=n then(q.1,q.2 ++ [z])::h else q::r9 h n z).length<=_
  split
  ·simp
  ·have:=E4 z n h
   simp;omega
theorem GY(l:List (Str×Int×Int)):(fZ l).length<=l.length:=by
 have go:∀(l:List (Str×Int×Int))(acc:List (Str×List (Int×Int))),(l.foldl (λacc q=>r9 acc q.1 q.2) acc).length<=acc.length+l.length:=by
  intro l
  induction l with
  |nil=>intro acc;exact aT _
  |cons q l ih=>
   intro acc;have h1:=ih (r9 acc q.1 q.2);have h2:=E4 q.2 q.1 acc;rw[nB,bf];omega
 have:=go l [];rwa[df,lR]at this
theorem zM(z:Int×Int)(n:Str):∀(h:List (Str×List (Int×Int)))(b:Nat),(∀q∈h,q.2.length<=b)->∀q∈r9 h n z,q.2.length<=b+1
 | [],b,_,q,hq=>by rw[aQ.mp hq];simp
 |p::h,b,hb,q,hq=>by
  have hq:q∈(if p.1=n then(p.1,p.2 ++ [z])::h else p::r9 h n z):=hq
  split at hq
  ·rcases ax.mp hq with rfl|hq
   ·have:=hb p aM
    simp;omega
   ·have:=hb q (aN _ hq);omega
  ·rcases ax.mp hq with rfl|hq
   ·have:=hb q aM;omega
   ·exact zM z n h b (λx hx=>hb x (aN _ hx)) q hq
theorem E5(l:List (Str×Int×Int)):∀q∈fZ l,q.2.length<=l.length:=by
 have go:∀(l:List (Str×Int×Int))(acc:List (Str×List (Int×Int)))(b:Nat),(∀q∈acc,q.2.length<=b)->∀q∈l.foldl (λacc q=>r9 acc q.1 q.2) acc,q.2.length<=b+l.length:=by
  intro l
  induction l with
  |nil=>intro acc b hb q hq;exact hb q hq
  |cons q0 l ih=>
   intro acc b hb q hq;have:=ih _ (b+1) (zM q0.2 q0.1 acc b hb) q hq;rw[bf];omega
 intro q hq;have:=go l [] 0 (λq hq=>by cases hq) q hq
 omega
section
variable{X:Cx}{B0 B H0 H C0 C:Hp}{σ:L2.St}{D:Ends}{δ:List Slot}{x y z:Str}{k:Nat}{body orelse:List fQ}{p0 p1 q0 pos:Pos}{j}
theorem uL(f:fP X.K B0 B H0 H σ δ)(g:c6 C0 C H0 H)(hr:eB k X.A)(hl:Lay 20 (.str z))(i:Nat)(h:δ[i]?=some (.val (.str z)))(e:cR (.str z) (.str y)=false)(q:∀Ha Hb,fP X.K B0 B Ha Hb σ δ->c6 C0 C Ha Hb->Ay X orelse D σ Hb)(hN:rA X i x:=by ac_rfl)(hy:bW (.str y)=true:=by symm):
  cS X (.If (.Compare (.Name x p0) [.Eq] [.Constant (.str y) j q0] p1) body orelse pos) D σ H:=Sj f (VT.to (fh hr hl (cg hy) (ai i h hN) aW) e) λHa Hb g'=>q Ha Hb (f.grow g') (g.trans g')
theorem E6(f:fP X.K B0 B H0 H σ δ)(g:c6 C0 C H0 H)(hr:eB k X.A)(hl:Lay 20 (.str z))(i:Nat)(h:δ[i]?=some (.val (.str z)))(e:cR (.str z) (.str y)=true)(q:∀Ha Hb,fP X.K B0 B Ha Hb σ δ->c6 C0 C Ha Hb->Ay X body D σ Hb)(hN:rA X i x:=by ac_rfl)(hy:bW (.str y)=true:=by symm):
  cS X (.If (.Compare (.Name x p0) [.Eq] [.Constant (.str y) j q0] p1) body orelse pos) D σ H:=IQ f (VT.to (fh hr hl (cg hy) (ai i h hN) aW) e) λHa Hb g'=>q Ha Hb (f.grow g') (g.trans g')
end
section
variable{P:bA}{w:cn}{K:aq}{mg:Str->Option aF}{base:cX}{f:aH}{k:Nat}
abbrev Nae:List Str:=["plant","entry","form","name"]
theorem S0:cw Nae E2 (bL (top 40)):=by grind
theorem Zh{ak ag al ad at_ ah ap:aH}:(QP ak ag al ad at_ ah ap).lookup ("kinds":Str)=some (.ref ak)/\(QP ak ag al ad at_ ah ap).lookup ("gates":Str)=some (.ref ag)/\(QP ak ag al ad at_ ah ap).lookup ("lines":Str)=some (.ref al)/\(QP ak ag al ad at_ ah ap).lookup ("desks":Str)=some (.ref ad)/\(QP ak ag al ad at_ ah ap).lookup ("times":Str)=some (.ref at_)/\(QP ak ag al ad at_ ah ap).lookup ("hours":Str)=some (.ref ah):=#[rfl,rfl,rfl,rfl,rfl,rfl]
theorem zc1(F:kX K "add_entry" "add_entry" (top 40) f fd):eW P w K mg base kD 1 f fd E2 (MH K Pl (Df K) SY):=by
 refine F.ok S0 (λvs H Q E h=>?_) (λg6 A outer s H vs Q E hr h=>?_)
 ·obtain⟨_,_,_,_,_,_,_,rfl,_⟩:=h
  rfl
 ·obtain⟨H0,p,v,as,st,yf,d,rfl,sm,rv,own,W0,⟨e,rfl,ok,oe,oa,rfl⟩,q⟩:=h
  refine#[_,la,?_]
  have nd:Nae.Nodup:=S0.nd;have f0:fP K H0 H H0 H (start Nae [.ref p,v]) [.ref p,.val (KD e),.un,.un]:=by
   refine#[.refl sm,rfl,λi sl hi=>?_,λi j a b p' _ h1=>?_]
   ·match i,hi with
    |0,hi=>cases hi;exact rfl
    |1,hi=>cases hi;exact#[v,rfl,rv]
    |2,hi=>cases hi;exact trivial
    |3,hi=>cases hi;exact trivial
    |i+4,hi=>simp at hi
   ·match i,h1 with
    |0,h1=>cases h1
    |1,h1=>cases h1
    |2,h1=>cases h1
    |3,h1=>cases h1
    |i+4,h1=>simp at h1
  refine cI (Yl f0 (cu 2 (d:=.str e.form) (dz (ai 1 rfl) aE (sX e)) nd) λσ1 H1 dD s1 f1=>?_)
  refine cI (Yl f1 (cu 3 (d:=.str e.name) (dz (ai 1 rfl) aE (Jg e)) nd) λσ2 H2 fX s2 f2=>?_)
  have W2:=Df.mono _ _ _ _ _ W0 f2.ent.fB (λa ha=>f2.ent.big.eq (own a ha).2)
  obtain⟨C,dx,ak,ag,al,ad,at_,ah,ap,cs,xd,rfl,QQ,W⟩:=W2;have o2:∀a∈p::ak::ag::al::ad::at_::ah::ap::cs,∃o,H a=some o/\H0 a=none:=λa ha=>by
   obtain⟨z1,z2⟩:=own a ha;cases e:H a with
   |none=>exact qQ7 e z2
   |some o=>exact#[o,rfl,z1]
  have Zi:=QQ;simp only[cj,ax,not_or]at Zi;obtain⟨⟨pk,pg,pl,pd,pt,ph,pp,pc⟩,⟨kg,kl,kd,kt,kh,kp,kc⟩,⟨gl,gd,gt,gh,gp,gc⟩,⟨ld,lt,lh,lp,lc⟩,⟨dt,dh,dp,dc⟩,⟨th,tp,tc⟩,⟨hp,hc⟩,apc,OV⟩:=Zi;have fin:∀(Ha Hb:Hp)(a:aH)(o:HO),c6 H0 H Ha Hb->a∈p::ak::ag::al::ad::at_::ah::ap::cs->(∀xd',xd'=xd->Df K p (sj st e) Ha (upd Hb a o) (p::ak::ag::al::ad::at_::ah::ap::cs))->Q .non (upd Hb a o):=λHa Hb a o g ha hW=>by
   have fr:∀b∈p::ak::ag::al::ad::at_::ah::ap::cs,Ha b=none/\Hb b≠none:=λb hb=>by
    obtain⟨ob,e1,e2⟩:=o2 b hb;exact#[g.still e2 e1,by rw[g.big _ _ e1];simp]
   refine q Ha (upd Hb a o) _ g.fB (λb u e=>?_) g.new (λb hb=>#[(fr b hb).1,?_,.inl hb]) (λb u e hb=>?_) (hW xd rfl)
   ·rw[aL (bC e (fr a ha).1)];exact g.sub b u e
   ·by_cases hba:b=a
    ·subst hba;rw[aZ];simp
    ·rw[aL hba];exact(fr b hb).2
   ·rw[aL (λz=>hb (by rw[z];exact ha))];exact g.big b u e
  have Wg:∀Ha Hb,c6 H2 fX Ha Hb->PlW K p st Ha Hb C dx ak ag al ad at_ ah ap cs xd:=λHa Hb g=>by
   have M:=Df.mono (K:=K) (p:=p) (st:=st) H2 fX Ha Hb (p::ak::ag::al::ad::at_::ah::ap::cs) #[C,dx,ak,ag,al,ad,at_,ah,ap,cs,xd,rfl,QQ,W] g.fB (λa ha=>by
    obtain⟨o,e1,_⟩:=o2 a ha;exact g.big.eq (by rw[f2.ent.big _ _ e1];simp))
   exact#[g.big _ _ W.ins,W.cls,W.tK,g.big _ _ W.ki,g.big _ _ W.ga,g.big _ _ W.li,g.big _ _ W.de,W.dr.mono g.fB,g.big _ _ W.ti,g.big _ _ W.ho,W.hl,g.big _ _ W.pa,λi c q e1 e2=>by
    obtain⟨xs,h1,h2⟩:=W.ce i c q e1 e2;exact#[xs,g.big _ _ h1,h2.mono g.fB]]
  obtain⟨lk1,lk2,lk3,lk4,lk5,lk6⟩:=Zh (ak:=ak) (ag:=ag) (al:=al) (ad:=ad) (at_:=at_) (ah:=ah) (ap:=ap);have lf:=bu (n:=20) (dJ e);cases e with
  |kind m kk=>
   refine bS (IQ f2 (kF hr lf 2 rfl (jS _)) λHa Hb g=>?_)
   have Wa:=Wg Ha Hb g;have hz:(uI st).length<sizeLine:=fw (by unfold uI;rw[ae];have:=ok.kn;omega)
   refine bS (Sl (f2.grow g) hr 0 rfl Wa.ins Wa.cls (Wa.tK _ ∎) lk1 Wa.ki (ai 3 rfl) (gA 1 2 rfl rfl) hz λv Hc Hd g2 r=>?_)
   have Wd:=Wg Hc Hd (g.trans g2);have hv:=Rep.QO r;subst hv;refine fin Hc Hd ak _ (f2.ent.trans (g.trans g2)) (by simp) λ_ _=>#[C,dx,ak,ag,al,ad,at_,ah,ap,cs,xd,rfl,QQ,?_]
   have hn:gQ (uI st) (aU m)=none:=vI λq' F1=>by
    obtain⟨q0,h0,rfl⟩:=au.mp F1;intro z
    injection z with z
    exact oa (by rw[<-z];exact au.mpr #[q0,h0,rfl])
   refine#[by rw[aL pk];exact Wd.ins,Wd.cls,Wd.tK,?_,by rw[aL (bJ kg)];exact Wd.ga,by rw[aL (bJ kl)];exact Wd.li,by rw[aL (bJ kd)];exact Wd.de,Wd.dr,by rw[aL (bJ kt)];exact Wd.ti,by rw[aL (bJ kh)];exact Wd.ho,Wd.hl,by rw[aL (bJ kp)];exact Wd.pa,λi c q' e1 e2=>?_]
   ·rw[aZ]
    show some (HO.dK (putK (uI st) (aU m) (QN kk)))=some (.dK ((st.kinds ++ [(m,kk)]).map _));rw[rD _ hn,aP];rfl
   ·obtain⟨xs,h1,h2⟩:=Wd.ce i c q' e1 e2
    exact#[xs,by rw[aL (λz=>kc (by rw[<-z];exact aK e1))];exact h1,h2]
  |gate m=>
   refine bS (uL f2 (.refl f2.sub) hr lf 2 rfl (gB (show("gate":Str)≠"kind" by symm)) λZj Zk QR QS=>?_)
   refine bS (E6 QR QS hr lf 2 rfl (jS _) λWD WG QT NT=>?_)
   have Wa:=Wg WD WG NT;have hz:(st.gates.map V.str).length<sizeLine:=fw (by rw[ae];have:=ok.gn;omega)
   refine bS (Eo QT 0 rfl Wa.ins Wa.cls (Wa.tK _ ∎) lk2 Wa.ga (ai 3 rfl) hz λv Hc Hd g9 r=>?_)
   have Wd:=Wg Hc Hd (NT.trans g9);cases r;refine fin Hc Hd ag _ (f2.ent.trans (NT.trans g9)) (by simp) λ_ _=>#[C,dx,ak,ag,al,ad,at_,ah,ap,cs,xd,rfl,QQ,?_]
   refine#[by rw[aL (pg)];exact Wd.ins,Wd.cls,Wd.tK,by rw[aL (kg)];exact Wd.ki,?_,by rw[aL (bJ gl)];exact Wd.li,by rw[aL (bJ gd)];exact Wd.de,Wd.dr,by rw[aL (bJ gt)];exact Wd.ti,by rw[aL (bJ gh)];exact Wd.ho,Wd.hl,by rw[aL (bJ gp)];exact Wd.pa,λi c q' e1 e2=>?_]
   ·rw[aZ]
    show some (HO.lst (st.gates.map V.str ++ [V.str m]))=some (.lst ((st.gates ++ [m]).map V.str));rw[aP];rfl
   ·obtain⟨xs,h1,h2⟩:=Wd.ce i c q' e1 e2
    exact#[xs,by rw[aL (λz=>gc (by rw[<-z];exact aK e1))];exact h1,h2]
  |line m rr=>
   refine bS (uL f2 (.refl f2.sub) hr lf 2 rfl (gB (show("line":Str)≠"kind" by symm)) λZj Zk QR QS=>?_)
   refine bS (uL QR QS hr lf 2 rfl (gB (show("line":Str)≠"gate" by symm)) λWD WG QT NT=>?_)
   refine bS (E6 QT NT hr lf 2 rfl (jS _) λZm Zn Vw QV=>?_)
   have Wa:=Wg Zm Zn QV;have hz:(uJ st).length<sizeLine:=fw (by unfold uJ;rw[ae];have:=ok.ln;omega)
   refine bS (Sl Vw hr 0 rfl Wa.ins Wa.cls (Wa.tK _ ∎) lk3 Wa.li (ai 3 rfl) (gA 1 2 rfl rfl) hz λv Hc Hd g9 r=>?_)
   have Wd:=Wg Hc Hd (QV.trans g9);cases r;refine fin Hc Hd al _ (f2.ent.trans (QV.trans g9)) (by simp) λ_ _=>#[C,dx,ak,ag,al,ad,at_,ah,ap,cs,xd,rfl,QQ,?_]
   have hn:gQ (uJ st) (aU m)=none:=vI λq' F1=>by
    obtain⟨q0,h0,rfl⟩:=au.mp F1;intro z
    injection z with z
    exact oa (.inr (by rw[<-z];exact au.mpr #[q0,h0,rfl]))
   refine#[by rw[aL (pl)];exact Wd.ins,Wd.cls,Wd.tK,by rw[aL (kl)];exact Wd.ki,by rw[aL (gl)];exact Wd.ga,?_,by rw[aL (bJ ld)];exact Wd.de,Wd.dr,by rw[aL (bJ lt)];exact Wd.ti,by rw[aL (bJ lh)];exact Wd.ho,Wd.hl,by rw[aL (bJ lp)];exact Wd.pa,λi c q' e1 e2=>?_]
   ·rw[aZ]
    show some (HO.dK (putK (uJ st) (aU m) (V.int rr)))=some (.dK ((st.lines ++ [(m,rr)]).map _));rw[rD _ hn,aP];rfl
   ·obtain⟨xs,h1,h2⟩:=Wd.ce i c q' e1 e2
    exact#[xs,by rw[aL (λz=>lc (by rw[<-z];exact aK e1))];exact h1,h2]
  |desk q0=>
   refine bS (uL f2 (.refl f2.sub) hr lf 2 rfl (gB (show("desk":Str)≠"kind" by symm)) λZj Zk QR QS=>?_)
   refine bS (uL QR QS hr lf 2 rfl (gB (show("desk":Str)≠"gate" by symm)) λWD WG QT NT=>?_)
   refine bS (uL QT NT hr lf 2 rfl (gB (show("desk":Str)≠"line" by symm)) λZm Zn Vw QV=>?_)
   refine bS (E6 Vw QV hr lf 2 rfl (jS _) λHa4 Hb4 Zo Vx=>?_)
   have Wa:=Wg Ha4 Hb4 Vx;have U6:=Wa.dr.length;rw[ae]at U6;have hz:xd.length<sizeLine:=fw (by have:=ok.dn;omega)
   have Nx:L2.cutD (aX "desk"::Ent.rest (.desk q0)) (some 1) none=Ent.rest (.desk q0):=(lC (aX "desk"::Ent.rest (.desk q0)) 1).trans rfl;refine bS (Eo (d:=ej q0) Zo 0 rfl Wa.ins Wa.cls (Wa.tK _ ∎) lk4 Wa.de (VE.to (wm (ai 1 rfl) (.yes aE) .no ?_) (by show fA (L2.cutD (aX "desk"::Ent.rest (.desk q0)) (some 1) none)=_;rw[Nx];rfl)) hz λv Hc Hd g9 r=>?_)
   ·intro z
    have:=z.1;rw[show(1:Int)=((1:Nat):Int)from rfl,HT.qd]at this
    exact qQ7 this (by show ¬(min 1 5=0);decide)
   have Wd:=Wg Hc Hd (Vx.trans g9);refine fin Hc Hd ad _ (f2.ent.trans (Vx.trans g9)) (by simp) λ_ _=>#[C,dx,ak,ag,al,ad,at_,ah,ap,cs,xd ++ [v],rfl,QQ,?_]
   refine#[by rw[aL (pd)];exact Wd.ins,Wd.cls,Wd.tK,by rw[aL (kd)];exact Wd.ki,by rw[aL (gd)];exact Wd.ga,by rw[aL (ld)];exact Wd.li,aZ,?_,by rw[aL (bJ dt)];exact Wd.ti,by rw[aL (bJ dh)];exact Wd.ho,Wd.hl,by rw[aL (bJ dp)];exact Wd.pa,λi c q' e1 e2=>?_]
   ·show cz K Hc (xd ++ [v]) ((st.desks ++ [q0]).map ej)
    rw[aP];exact Wd.dr.append (.cons r .nil)
   ·obtain⟨xs,h1,h2⟩:=Wd.ce i c q' e1 e2
    exact#[xs,by rw[aL (λz=>dc (by rw[<-z];exact aK e1))];exact h1,h2]
  |time dk kd2 wk=>
   refine bS (uL f2 (.refl f2.sub) hr lf 2 rfl (gB (show("time":Str)≠"kind" by symm)) λZj Zk QR QS=>?_)
   refine bS (uL QR QS hr lf 2 rfl (gB (show("time":Str)≠"gate" by symm)) λWD WG QT NT=>?_)
   refine bS (uL QT NT hr lf 2 rfl (gB (show("time":Str)≠"line" by symm)) λZm Zn Vw QV=>?_)
   refine bS (uL Vw QV hr lf 2 rfl (gB (show("time":Str)≠"desk" by symm)) λHa4 Hb4 Zo Vx=>?_)
   refine bS (E6 Zo Vx hr lf 2 rfl (jS _) λHa5 Hb5 ff5 gg5=>?_)
   have Wa:=Wg Ha5 Hb5 gg5;have hz:(uK st).length<sizeLine:=fw (by unfold uK;rw[ae];have:=ok.tn;omega)
   refine bS (U5 ff5 hr 0 rfl Wa.ins Wa.cls (Wa.tK _ ∎) lk5 Wa.ti (ai 3 rfl) (gA 1 2 rfl rfl) (gA 1 3 rfl rfl) hz λv t Hc Hd g9 ht r=>?_)
   have gt9:c6 H2 fX Hc (upd Hd t (.tup [.str dk,.str kd2])):=(gg5.trans g9).trans (.loose g9.sub ht);have Wd:=Wg Hc _ gt9;cases r;refine fin Hc _ at_ _ (f2.ent.trans gt9) (by simp) λ_ _=>#[C,dx,ak,ag,al,ad,at_,ah,ap,cs,xd,rfl,QQ,?_]
   have hn:gQ (uK st) (tG (dk,kd2))=none:=vI λq' F1=>by
    obtain⟨q0,h0,rfl⟩:=au.mp F1;intro z;have:=y8 z;exact oa.1 (by rw[<-this];exact au.mpr #[q0,h0,rfl])
   refine#[by rw[aL (pt)];exact Wd.ins,Wd.cls,Wd.tK,by rw[aL (kt)];exact Wd.ki,by rw[aL (gt)];exact Wd.ga,by rw[aL (lt)];exact Wd.li,by rw[aL (dt)];exact Wd.de,Wd.dr,?_,by rw[aL (bJ th)];exact Wd.ho,Wd.hl,by rw[aL (bJ tp)];exact Wd.pa,λi c q' e1 e2=>?_]
   ·rw[aZ]
    show some (HO.dT (putK (uK st) (tG (dk,kd2)) (V.int wk)))=some (.dT ((st.times ++ [(dk,kd2,wk)]).map _));rw[rD _ hn,aP];rfl
   ·obtain⟨xs,h1,h2⟩:=Wd.ce i c q' e1 e2
    exact#[xs,by rw[aL (λz=>tc (by rw[<-z];exact aK e1))];exact h1,h2]
  |hour dk ha hb=>
   refine bS (uL f2 (.refl f2.sub) hr lf 2 rfl (gB (show("open":Str)≠"kind" by symm)) λZj Zk QR QS=>?_)
   refine bS (uL QR QS hr lf 2 rfl (gB (show("open":Str)≠"gate" by symm)) λWD WG QT NT=>?_)
   refine bS (uL QT NT hr lf 2 rfl (gB (show("open":Str)≠"line" by symm)) λZm Zn Vw QV=>?_)
   refine bS (uL Vw QV hr lf 2 rfl (gB (show("open":Str)≠"desk" by symm)) λHa4 Hb4 Zo Vx=>?_)
   refine bS (uL Zo Vx hr lf 2 rfl (gB (show("open":Str)≠"time" by symm)) λHa5 Hb5 ff5 gg5=>?_)
   refine bS (E6 ff5 gg5 hr lf 2 rfl (jS _) λHa6 Hb6 ff6 Zq=>?_)
   have Wa:=Wg Ha6 Hb6 Zq;have hll:=GY st.hours;have Gk:=E5 st.hours;have okh:=ok.hn;have hz:(gL (fZ st.hours) cs).length<sizeLine:=fw (by unfold gL;rw[ae,rn];omega)
   have Nx:L2.cutD (aX "open"::Ent.rest (.hour dk ha hb)) (some 2) none=[.int ha,.int hb]:=(lC (aX "open"::Ent.rest (.hour dk ha hb)) 2).trans rfl;have ha0:Ha6 ah=none:=by
    obtain⟨o,e1,e2⟩:=o2 ah (by simp)
    exact(f2.ent.trans Zq).still e2 e1
   have QW:fZ (st.hours ++ [(dk,ha,hb)])=r9 (fZ st.hours) dk (ha,hb):=GX _ _;have NV:=zL (ha,hb) dk W.hl;refine bS (MK (d:=pairD (ha,hb)) ff6 0 rfl Wa.ins Wa.cls (Wa.tK _ ∎) lk6 Wa.ho (ai 3 rfl) (VE.to (wm (ai 1 rfl) (.yes aE) .no ?_) (by show fA (L2.cutD (aX "open"::Ent.rest (.hour dk ha hb)) (some 2) none)=_;rw[Nx];rfl)) hz rfl ha0 (λv hv=>?_) (λc xs v t Hc Hd Ep ZU htt g9 ht0 r=>?_) (λv c Hc Hd Ep hcn s9 s10 nw old hda hdc hc0 ha9 r=>?_))
   ·intro z
    have:=z.1;rw[show(2:Int)=((2:Nat):Int)from rfl,HT.qd]at this
    exact qQ7 this (by show ¬(min 2 4=0);decide)
   ·rcases NV with⟨h1,_⟩|⟨i,c,q',h1,h2,h3,h4⟩
    ·have hv:gQ (gL (fZ st.hours) cs) (aU dk)=some v:=hv
     rw[h1]at hv;cases hv
    ·have hv:some v=some (V.ref c):=hv.symm.trans h3
     cases hv;obtain⟨xs,x1,x2⟩:=Wa.ce i c q' h2 h1;refine#[c,xs,rfl,x1,fw ?_]
     have:=x2.length;rw[ae]at this;have:=Gk q' (aK h1);omega
   ·rcases NV with⟨h1,_⟩|⟨i,c',q',h1,h2,h3,h4⟩
    ·have Ep:gQ (gL (fZ st.hours) cs) (aU dk)=some (V.ref c):=Ep
     rw[h1]at Ep;cases Ep
    ·have Ep:some (V.ref c')=some (V.ref c):=h3.symm.trans Ep
     cases Ep;have Wd:=Wg Hc Hd (Zq.trans g9);have Pg:c∈cs:=aK h2;obtain⟨xs',x1,x2⟩:=Wd.ce i c q' h2 h1;have ex:xs'=xs:=by
      have:=g9.big _ _ ZU;rw[this]at x1;cases x1;rfl
     subst ex;have hil:i<(fZ st.hours).length:=(aJ.mp h1).1
     have GZ:fZ (sj st (.hour dk ha hb)).hours=(fZ st.hours).set i (q'.1,q'.2 ++ [(ha,hb)]):=by
      show fZ (st.hours ++ [(dk,ha,hb)])=_;rw[QW,h4]
     refine fin Hc Hd c _ (f2.ent.trans (Zq.trans g9)) (by simp[Pg]) λ_ _=>#[C,dx,ak,ag,al,ad,at_,ah,ap,cs,xd,rfl,QQ,?_]
     have nc:∀x,x∉cs->x≠c:=λx hx z=>hx (by rw[z];exact Pg)
     refine#[by rw[aL (nc _ pc)];exact Wd.ins,Wd.cls,Wd.tK,by rw[aL (nc _ kc)];exact Wd.ki,by rw[aL (nc _ gc)];exact Wd.ga,by rw[aL (nc _ lc)];exact Wd.li,by rw[aL (nc _ dc)];exact Wd.de,Wd.dr,by rw[aL (nc _ tc)];exact Wd.ti,?_,?_,by rw[aL (nc _ apc)];exact Wd.pa,λj c2 q2 e1 e2=>?_]
     ·rw[aL (nc _ hc),Wd.ho,GZ]
      congr 2
      refine(xt ?_).symm
      rw[List.map_set];refine gD λn=>?_
      by_cases hn:n=i
      ·subst hn;rw[a_ (by rw[ae];exact hil),ay,h1];rfl
      ·rw[a7 (bJ hn)]
     ·rw[GZ,kW];exact Wd.hl
     ·rw[GZ]at e2
      by_cases hj:j=i
      ·subst hj
       rw[h2]at e1;cases e1;rw[a_ hil]at e2
       cases e2;refine#[xs' ++ [v],aZ,?_]
       rw[aP];exact x2.append (.cons r .nil)
      ·rw[a7 (bJ hj)]at e2
       obtain⟨ys,y1,y2⟩:=Wd.ce j c2 q2 e1 e2;have qY:c2≠c:=λz=>by
        subst z;have l1:=aJ.mp e1
        have l2:=aJ.mp h2
        obtain⟨l1a,l1b⟩:=l1;obtain⟨l2a,l2b⟩:=l2;rcases Nat.lt_or_gt_of_ne hj with m_|m_
        ·exact ko.mp OV j i l1a l2a m_ (by rw[l1b,l2b])
        ·exact ko.mp OV i j l2a l1a m_ (by rw[l1b,l2b])
       exact#[ys,by rw[aL qY];exact y1,y2]
   ·rcases NV with⟨h1,h4⟩|⟨i,c',q',h1,h2,h3,h4⟩
    ·have gH:=f2.ent.trans Zq
     have hcH:H c=none:=gH.big.free hcn;have QX:c∉p::ak::ag::al::ad::at_::ah::ap::cs:=λz=>by
      obtain⟨o,e1,_⟩:=o2 c z;rw[hcH]at e1;cases e1
     have GZ:fZ (sj st (.hour dk ha hb)).hours=fZ st.hours ++ [(dk,[(ha,hb)])]:=by
      show fZ (st.hours ++ [(dk,ha,hb)])=_;rw[QW,h4]
     have zc6:∀x∈p::ak::ag::al::ad::at_::ah::ap::cs,Hc x=none:=λx hx=>by
      obtain⟨o,e1,e2⟩:=o2 x hx;have:Ha6 x=none:=gH.still e2 e1;cases e:Hc x with
      |none=>rfl
      |some u=>
       rcases nw x (by rw[e];simp)with z|z
       ·exact qQ7 this z
       ·rw[gH.big _ _ e1]at z;cases z
     have S1:∀x∈p::ak::ag::al::ad::at_::ah::ap::cs,x≠ah->∀u,Hb6 x=some u->(upd Hd c (.lst [v])) x=some u:=λx hx hxa u e=>by
      rw[aL (λz=>QX (by rw[<-z];exact hx))];exact old x u e hxa
     refine q Hc (upd Hd c (.lst [v])) (p::ak::ag::al::ad::at_::ah::ap::(cs ++ [c])) (gH.fB.trans s9) (λb u e=>?_) (λb z=>?_) (λx hx=>?_) (λb u e X9=>?_) #[C,dx,ak,ag,al,ad,at_,ah,ap,cs ++ [c],xd,rfl,?_,?_]
     ·rw[aL (bC e hc0)];exact s10 b u e
     ·rcases nw b z with z|z
      ·exact gH.new b z
      ·exact .inr (gH.big.free z)
     ·have hx:x∈(p::ak::ag::al::ad::at_::ah::ap::cs) ++ [c]:=by simpa using hx
      rcases bo.mp hx with hx|hx
      ·refine#[zc6 x hx,?_,.inl hx]
       rw[aL (λz=>QX (by rw[<-z];exact hx))]
       obtain⟨o,e1,_⟩:=o2 x hx;by_cases hxa:x=ah
       ·rw[hxa,hda];simp
       ·rw[old x o (gH.big _ _ e1) hxa];simp
      ·rw[aQ.mp hx]
       exact#[hc0,by rw[aZ];simp,.inr hcH]
     ·have hbc:b≠c:=λz=>by rw[z,hcH]at e;cases e
      rw[aL hbc];exact old b u (gH.big _ _ e) (λz=>X9 (by rw[z];simp))
     ·have:(p::ak::ag::al::ad::at_::ah::ap::(cs ++ [c]))=(p::ak::ag::al::ad::at_::ah::ap::cs) ++ [c]:=by simp
      rw[this,bR];exact#[QQ,by simp,λx hx y hy z=>QX (by rw[<-aQ.mp hy,<-z];exact hx)]
     ·refine#[S1 p (by simp) ph _ Wa.ins,Wa.cls,Wa.tK,S1 ak (by simp) kh _ Wa.ki,S1 ag (by simp) gh _ Wa.ga,S1 al (by simp) lh _ Wa.li,S1 ad (by simp) dh _ Wa.de,Wa.dr.mono s9,S1 at_ (by simp) th _ Wa.ti,?_,?_,S1 ap (by simp) (bJ hp) _ Wa.pa,λj c2 q2 e1 e2=>?_]
      ·have hda:Hd ah=some (.dK (putK (gL (fZ st.hours) cs) (aU dk) (.ref c))):=hda
       rw[aL (λz=>QX (by rw[<-z];simp)),hda,GZ,rD _ h1,GW W.hl]
      ·rw[GZ,aV,aV,W.hl];rfl
      ·rw[GZ]at e2
       by_cases hj:j<cs.length
       ·rw[bX hj]at e1
        rw[bX (by rw[<-W.hl];exact hj)]at e2
        obtain⟨ys,y1,y2⟩:=Wa.ce j c2 q2 e1 e2;have hm:c2∈cs:=aK e1;exact#[ys,S1 c2 (by simp[hm]) (λz=>hc (by rw[<-z];exact hm)) _ y1,y2.mono s9]
       ·have hl:=W.hl
        have hj2:j=cs.length:=by
         have:=(aJ.mp e1).1
         rw[aV,f6]at this;omega
        subst hj2;rw[bO (aT _),xO]at e1
        rw[bO ∅,show cs.length-(fZ st.hours).length=0 from by omega]at e2
        cases e1;cases e2;exact#[[v],aZ,.cons r .nil]
    ·have Ep:gQ (gL (fZ st.hours) cs) (aU dk)=none:=Ep
     rw[h3]at Ep;cases Ep
end
def G_:Pl:=#[[],[],[],[],[],[]]
def zN(es:List Ent)(i:Nat):Pl:=(es.take i).foldl sj G_
theorem KJ{es:List Ent}{i:Nat}(h:es[i]?=some e):zN es (i+1)=sj (zN es i) e:=by
 unfold zN;rw[cv,h,eS];rfl
theorem NW(es:List Ent):zN es es.length=es.foldl sj G_:=by unfold zN;rw[cy]
structure Zr(es:List Ent):Prop where
 ent:∀e∈es,t_ e
 pl:∀i,i<=es.length->ny (zN es i)
 add:∀(i:Nat)e,es[i]?=some e->zI (zN es i) e
section
variable{P:bA}{w:cn}{K:aq}{mg:Str->Option aF}{base:cX}{f:aH}{k:Nat}
structure PlC(P:bA)(w:cn)(K:aq)(mg:Str->Option aF)(base:cX):Prop where
 ex:∃C fi fd,mg "Plant"=some (.ref C)/\DW K C/\(∀f∈fsN,kf K C f)/\Mk K C fi/\eW P w K mg base kD 1 fi fd ["self"] (NS C)/\Binds K fd ["self"] []
abbrev Nrp:List Str:=["text","plant","number","words","entry","word"]
theorem S2:cw Nrp ["text"] (bL (top 25)):=by grind
def Rrp(ds:List aj)(d:aj):Prop:=∃(x:Str)(es:List Ent),ds=[.str x]/\xW x/\(rowsOf x).map (·.2)=es.map GP/\Zr es/\d=lE (es.foldl sj G_)
theorem zc7(F:kX K "read_plant" "read_plant" (top 25) f fd)(n:Np mg w.params K)(T:PlC P w K mg base)(C1:bB P w K mg base 2 "rows_of" ["text"] (Gf K Rro))(C2:bB P w K mg base 8 "entry_of" ["words"] (g7 K Reo))(C3:bB P w K mg base 3 "fault_of" E2 (g7 K Rfo))(C4:bB P w K mg base 1 "add_entry" E2 (MH K Pl (Df K) SY)):eW P w K mg base kD 9 f fd ["text"] (g7 K Rrp):=
 jz F S2 (by ext) λ_ _ h=>by
  obtain⟨x,es,rfl,ox,S3,Vy,rfl⟩:=h;intro g6 A outer s H E hr;have nd:Nrp.Nodup:=S2.nd;obtain⟨C,fi,fdi,mC,cl,na,M,FI,bI⟩:=T.ex;have hlen:(rowsOf x).length=es.length:=by have:=qQ6 ft S3;simpa using this
  refine pH λB0 B σ H0 Hh D fr okD=>?_
  refine cI (U4 1 M FI (hr.mono ∅) mC bI (λp dx E' hp hdx hpd=>?_) nd)
  refine#[p,dx,rfl,aZ,λak ag al ad at_ ah ap H' mid=>#[rfl,?_]]
  have Lx:∀b,(upd (upd Hh dx (.own p)) p (.ins C dx [])) b=none->Hh b=none:=λb hb=>by
   have h1:b≠p:=λz=>by rw[z,aZ]at hb;cases hb
   rw[aL h1]at hb;have h2:b≠dx:=λz=>by rw[z,aZ]at hb;cases hb
   rw[aL h2]at hb;exact hb
  have S4:∀b o,Hh b=some o->H' b=some o:=λb o e=>by
   have h1:b≠p:=bC e hp;refine mid.old b o ?_ h1
   rw[aL h1,aL (bC e hdx)];exact e
  have G0:OF K B0 B (Df K p (zN es 0)) H0 H' (σ.set 1 (some (.ref p))) [.val (.str x),.ref p,.un,.un,.un,.un]:=by
   refine#[(fr.grow (#[S4,cU.refl _,λb u e=>S4 b u (fr.sub b u e),λ_ z=>.inl z])).qm (i:=1) rfl rfl,rfl,_,λa ha=>?_,C,dx,ak,ag,al,ad,at_,ah,ap,[],[],rfl,by simpa using mid.nd,?_]
   ·have NX:Hh a=none/\H' a≠none:=by
     rcases ax.mp ha with rfl|ha
     ·exact#[hp,by rw[mid.ins];simp]
     ·have ha':∃q∈[(ak,HO.dK []),(ag,.lst []),(al,.dK []),(ad,.lst []),(at_,.dT []),(ah,.dK []),(ap,.dK [])],q.1=a:=by
       simp only[ax,bD,or_false]at ha;rcases ha with rfl|rfl|rfl|rfl|rfl|rfl|rfl<;>simp
      obtain⟨q,hq,rfl⟩:=ha';exact#[Lx _ (mid.fresh q hq),by rw[mid.ob q hq];simp]
    exact#[fr.sub.free NX.1,fr.ent.big.free NX.1,NX.2]
   ·exact#[mid.ins,cl,na,mid.ob (ak,.dK []) (by simp),mid.ob (ag,.lst []) (by simp),mid.ob (al,.dK []) (by simp),mid.ob (ad,.lst []) (by simp),.nil,mid.ob (at_,.dT []) (by simp),mid.ob (ah,.dK []) (by simp),rfl,mid.ob (ap,.dK []) (by simp),λi c q e1=>by simp at e1]
  refine cI (Bt (tgt:=.tup [2,3]) (λi=>Df K p (zN es i)) (λi=>Df.mono) G0 bY rfl (dY (VO.ve (oq C1 (hr.mono ∅) (ao (ai 0 rfl) aR) #[x,rfl,ox,rfl])))
   (gK rfl (bT (gJ 2 nd) (bT (gJ 3 nd) fF))) (λi d hd=>?_) (λσ2 Ha Hb G=>?_))
  ·obtain⟨r,hri,rfl⟩:∃r,(rowsOf x)[i]?=some r/\d=I_ r:=by
    rw[ay]at hd
    cases e:(rowsOf x)[i]? with
    |none=>rw[e]at hd;cases hd
    |some r=>rw[e]at hd;cases hd;exact#[r,rfl,rfl]
   have hil:i<(rowsOf x).length:=(aJ.mp hri).1
   have Wc:es[i]?=some es[i]:=av ∅
   have hw:r.2=GP es[i]:=by
    have h1:((rowsOf x).map (·.2))[i]?=some r.2:=by rw[ay,hri];rfl
    rw[S3,ay,Wc]at h1
    exact(cG h1).symm
   have oe:=Vy.ent _ (cZ (by omega:i<es.length))
   have oa:=Vy.add i _ Wc;have op:=Vy.pl i ∅
   have Zt:=KJ Wc
   generalize es[i]=e at *
   refine#[_,rfl,rfl,λD C0 σ' cW dD G q=>?_]
   refine cI (mU Df.mono G (cu 4 (bF C2 hr (ao (ai 3 rfl) aR) #[e,by rw[hw];rfl,oe,rfl]) nd) rfl λσ1 Zj Zk G1=>?_)
   refine cI (MF Df.mono G1 1 5 rfl Df.rep (bF C3 (hr.mono ∅) (ao (ai 1 rfl) (ao (ai 4 rfl) aR)) #[zN es i,e,rfl,op,oe,oa,rfl]) rfl rfl (λσ2 WD WG G2=>?_) nd)
   refine cI (mU Df.mono G2 (bV (VT.to (iI hr cg cg (ai 5 rfl) aW) (qQ6 (λb=>!b) (jS _))) bG) rfl λσ3 Zm Zn G3=>?_)
   refine bS (Yi C4 (hr.mono ∅) G3 Df.mono 1 rfl (ai 4 rfl) #[e,rfl,op,oe,oa,Zt] λHa4 Hb4 G4=>?_)
   exact q _ _ _ (G4.forget Df.mono #[.inr rfl,.inr rfl,.inl rfl,.inl rfl,.inl rfl,.inl rfl,trivial] rfl)
  ·have e:zN es ((rowsOf x).map I_).length=es.foldl sj G_:=by rw[ae,hlen,NW]
   rw[e]at G;exact bS (Si G 1 rfl Df.rep okD)
end
end Mg
namespace Mg
open L2 PySem PyProof.Rows
variable{many nn:Nat}{p:Pl}
structure mX(p:Pl):Prop where
 kn:(p.kinds.map (·.1)).Nodup
 pn:(p.gates++p.lines.map (·.1)).Nodup
 dn:(p.desks.map (·.name)).Nodup
 dk:∀d∈p.desks,GQ d/\(∀x∈d.places,x∈p.gates++p.lines.map (·.1))/\(d.to=""\/∃r,(d.to,r)∈p.lines/\je d.rule d.places.length<=r)
 dj:(p.desks.map (·.places)).flatten.Nodup
 tn:(p.times.map λq=>(q.1,q.2.1)).Nodup
 tm:∀q∈p.times,q.1∈p.desks.map (·.name)/\q.2.1∈p.kinds.map (·.1)/\1<=q.2.2
 hr:∀q∈p.hours,q.1∈p.desks.map (·.name)/\q.2.1<q.2.2
 kk:∀q∈p.kinds,∀i,q.2=some i->1<=i/\dC i
 ll:∀q∈p.lines,1<=q.2
def E7(p:Pl):List Ent:=p.kinds.map (λq=>Ent.kind q.1 q.2)++p.gates.map Ent.gate++p.lines.map (λq=>Ent.line q.1 q.2)++p.desks.map Ent.desk++p.times.map (λq=>Ent.time q.1 q.2.1 q.2.2)++p.hours.map (λq=>Ent.hour q.1 q.2.1 q.2.2)
def ua:Pl->List Ent->Prop
 |st,[]=>ny st
 |st,e::es=>ny st/\t_ e/\zI st e/\ua (sj st e) es
theorem ua.app:∀{A B:List Ent}{st:Pl},ua st A->ua (A.foldl sj st) B->ua st (A++B)
 | [],_,_,_,h=>h
 |_::_,_,_,#[h1,h2,h3,h4],h=>#[h1,h2,h3,h4.app h]
theorem ua.es:∀{es:List Ent}{st:Pl},ua st es->(∀e∈es,t_ e)/\(∀i,i<=es.length->ny ((es.take i).foldl sj st))/\∀(i:Nat)e,es[i]?=some e->zI ((es.take i).foldl sj st) e
 | [],st,h=>#[λe he=>(by cases he),λi hi=>by rw[List.take_nil];exact h,λi e he=>by simp at he]
 |e::es,st,#[h1,h2,h3,h4]=>by
  obtain⟨a,b,c⟩:=h4.es;refine#[λx hx=>?_,λi hi=>?_,λi x hx=>?_]
  ·rcases ax.mp hx with rfl|hx
   ·exact h2
   ·exact a x hx
  ·cases i with
   |zero=>exact h1
   |succ i=>exact b i ↑hi
  ·cases i with
   |zero=>cases hx;exact h3
   |succ i=>exact c i x ↑hx
theorem seg{α:Type}(mk:α->Ent)(put:List α->Pl)(h1:∀l x,sj (put l) (mk x)=put (l ++ [x]))(l:List α)(hok:∀pre x post,l=pre++x::post->ny (put pre)/\t_ (mk x)/\zI (put pre) (mk x))(zc8:ny (put l)):
  ua (put []) (l.map mk)/\(l.map mk).foldl sj (put [])=put l:=by
 have go:∀(rest pre:List α),l=pre++rest->ua (put pre) (rest.map mk)/\(rest.map mk).foldl sj (put pre)=put l:=by
  intro rest
  induction rest with
  |nil=>intro pre e;rw[b9]at e;subst e;exact#[zc8,rfl]
  |cons x rest ih=>
   intro pre e;obtain⟨a,b,c⟩:=hok pre x rest e;obtain⟨i1,i2⟩:=ih (pre ++ [x]) (by rw[e];simp)
   rw[aA];refine#[#[a,b,c,?_],?_]
   ·rwa[h1]
   ·rwa[nB,h1]
 exact go l [] rfl
theorem lF{q: Pl}(h:ny p)(k1:q.kinds.length<=p.kinds.length)(k2:∀x∈q.kinds,x∈p.kinds)(g1:q.gates.length<=p.gates.length)(g2:∀x∈q.gates,x∈p.gates)(l1:q.lines.length<=p.lines.length)(l2:∀x∈q.lines,x∈p.lines)(d1:q.desks.length<=p.desks.length)(d2:∀x∈q.desks,x∈p.desks)(t1:q.times.length<=p.times.length)(t2:∀x∈q.times,x∈p.times)(h1:q.hours.length<=p.hours.length)(h2:∀x∈q.hours,x∈p.hours):ny q:=
 #[bU k1 h.kn,bU g1 h.gn,bU l1 h.ln,bU d1 h.dn,bU t1 h.tn,bU h1 h.hn,λx hx=>h.kinds x (k2 x hx),λx hx=>h.gates x (g2 x hx),λx hx=>h.lines x (l2 x hx),λx hx=>h.desks x (d2 x hx),λx hx=>h.times x (t2 x hx),λx hx=>h.hours x (h2 x hx)]
theorem E8{κ:Type}[DecidableEq κ]:∀{kvs:List (κ×aj)}{k:κ}{v:aj},(kvs.map (·.1)).Nodup->(k,v)∈kvs->gF kvs k=some v
 | [],_,_,_,h=>by cases h
 |q::l,k,v,nd,h=>by
  rw[aA,cj]at nd;rcases ax.mp h with rfl|h
  ·exact fD rfl
  ·rw[cQ (λe=>nd.1 (by rw[e];exact au.mpr #[(k,v),h,rfl]))]
   exact E8 nd.2 h
theorem wJ{α:Type}{l pre post:List α}{x:α}(e:l=pre++x::post):pre.length<=l.length/\∀y∈pre,y∈l:=by
 subst e;exact#[by rw[aV];omega,λy hy=>bM _ hy]
theorem mh{α β:Type}{f:α->β}{l pre post:List α}{x:α}(nd:(l.map f).Nodup)(e:l=pre++x::post):f x∉pre.map f:=by
 subst e;rw[aP,aA,bR]at nd;intro z;exact nd.2.2 _ z _ aM rfl
theorem NZ(ok:ny p)(g:mX p):ua G_ (E7 p)/\(E7 p).foldl sj G_=p:=by
 have n0:∀{α:Type}(x:α),x∈([])->False:=λx h=>by cases h
 have s1:=seg (λq:Str×Option Int=>Ent.kind q.1 q.2) (λl=>#[l,[],[],[],[],[]]) (λ_ _=>rfl) p.kinds (λpre x post e=>by
  obtain⟨e1,e2⟩:=wJ e;have hx:x∈p.kinds:=by rw[e];simp
  exact#[lF ok e1 e2 (bj _) (λx h=>(n0 x h).elim) (bj _) (λx h=>(n0 x h).elim) (bj _) (λx h=>(n0 x h).elim) (bj _) (λx h=>(n0 x h).elim) (bj _) (λx h=>(n0 x h).elim),#[(ok.kinds x hx).1,g.kk x hx],mh g.kn e])
  (lF ok (aT _) (λ_ h=>h) (bj _) (λx h=>(n0 x h).elim) (bj _) (λx h=>(n0 x h).elim) (bj _) (λx h=>(n0 x h).elim) (bj _) (λx h=>(n0 x h).elim) (bj _) (λx h=>(n0 x h).elim))
 have pn:=g.pn;rw[bR]at pn;have s2:=seg Ent.gate (λl=>#[_,l,[],[],[],[]]) (λ_ _=>rfl) p.gates (λpre x post e=>by
  obtain⟨e1,e2⟩:=wJ e;have hx:x∈p.gates:=by rw[e];simp
  refine#[lF ok (aT _) (λ_ h=>h) e1 e2 (bj _) (λx h=>(n0 x h).elim) (bj _) (λx h=>(n0 x h).elim) (bj _) (λx h=>(n0 x h).elim) (bj _) (λx h=>(n0 x h).elim),ok.gates x hx,?_]
  rintro(h|h)
  ·have:=mh (f:=id) ↑pn.1 e
   exact this ↑h
  ·cases h)
  (lF ok (aT _) (λ_ h=>h) (aT _) (λ_ h=>h) (bj _) (λx h=>(n0 x h).elim) (bj _) (λx h=>(n0 x h).elim) (bj _) (λx h=>(n0 x h).elim) (bj _) (λx h=>(n0 x h).elim))
 have s3:=seg (λq:Str×Int=>Ent.line q.1 q.2) (λl=>#[_,_,l,[],[],[]]) (λ_ _=>rfl) p.lines (λpre x post e=>by
  obtain⟨e1,e2⟩:=wJ e;have hx:x∈p.lines:=by rw[e];simp
  refine#[lF ok (aT _) (λ_ h=>h) (aT _) (λ_ h=>h) e1 e2 (bj _) (λx h=>(n0 x h).elim) (bj _) (λx h=>(n0 x h).elim) (bj _) (λx h=>(n0 x h).elim),#[(ok.lines x hx).1,g.ll x hx,(ok.lines x hx).2],?_]
  rintro(h|h)
  ·exact pn.2.2 _ h _ (au.mpr #[x,hx,rfl]) rfl
  ·exact mh pn.2.1 e h)
  (lF ok (aT _) (λ_ h=>h) (aT _) (λ_ h=>h) (aT _) (λ_ h=>h) (bj _) (λx h=>(n0 x h).elim) (bj _) (λx h=>(n0 x h).elim) (bj _) (λx h=>(n0 x h).elim))
 have s4:=seg Ent.desk (λl=>#[_,_,_,l,[],[]]) (λ_ _=>rfl) p.desks (λpre x post e=>by
  obtain⟨e1,e2⟩:=wJ e;have hx:x∈p.desks:=by rw[e];simp
  obtain⟨q1,q2,q3⟩:=g.dk x hx;refine#[lF ok (aT _) (λ_ h=>h) (aT _) (λ_ h=>h) (aT _) (λ_ h=>h) e1 e2 (bj _) (λx h=>(n0 x h).elim) (bj _) (λx h=>(n0 x h).elim),q1,mh g.dn e,λy hy hz=>?_,λy hy=>bo.mp (q2 y hy),?_]
  ·obtain⟨d,hd,hyd⟩:=hz
   have dj:=g.dj;rw[e,aP,nM,bR]at dj;exact dj.2.2 y (iS.mpr #[d.places,au.mpr #[d,hd,rfl],hyd]) y (iS.mpr #[x.places,by simp,hy]) rfl
  ·rcases q3 with h|⟨r,h,hr⟩
   ·exact .inl h
   ·refine .inr #[r,E8 ?_ (au.mpr #[(x.to,r),h,rfl]),hr]
    rw[jX];exact pn.2.1)
  (lF ok (aT _) (λ_ h=>h) (aT _) (λ_ h=>h) (aT _) (λ_ h=>h) (aT _) (λ_ h=>h) (bj _) (λx h=>(n0 x h).elim) (bj _) (λx h=>(n0 x h).elim))
 have s5:=seg (λq:Str×Str×Int=>Ent.time q.1 q.2.1 q.2.2) (λl=>#[_,_,_,_,l,[]]) (λ_ _=>rfl) p.times (λpre x post e=>by
  obtain⟨e1,e2⟩:=wJ e;have hx:x∈p.times:=by rw[e];simp
  obtain⟨q1,q2,q3⟩:=g.tm x hx;obtain⟨r1,r2,r3⟩:=ok.times x hx;exact#[lF ok (aT _) (λ_ h=>h) (aT _) (λ_ h=>h) (aT _) (λ_ h=>h) (aT _) (λ_ h=>h) e1 e2 (bj _) (λx h=>(n0 x h).elim),#[r1,r2,q3,r3],mh g.tn e,q1,q2])
  (lF ok (aT _) (λ_ h=>h) (aT _) (λ_ h=>h) (aT _) (λ_ h=>h) (aT _) (λ_ h=>h) (aT _) (λ_ h=>h) (bj _) (λx h=>(n0 x h).elim))
 have s6:=seg (λq:Str×Int×Int=>Ent.hour q.1 q.2.1 q.2.2) (λl=>#[_,_,_,_,_,l]) (λ_ _=>rfl) p.hours (λpre x post e=>by
  obtain⟨e1,e2⟩:=wJ e;have hx:x∈p.hours:=by rw[e];simp
  obtain⟨q1,q2⟩:=g.hr x hx;obtain⟨r1,r2,r3⟩:=ok.hours x hx;exact#[lF ok (aT _) (λ_ h=>h) (aT _) (λ_ h=>h) (aT _) (λ_ h=>h) (aT _) (λ_ h=>h) (aT _) (λ_ h=>h) e1 e2,#[r1,r2,r3,q2],q1])
  ok
 unfold E7;simp only[cC];refine#[s1.1.app ?_,?_]
 ·rw[s1.2]
  refine s2.1.app ?_
  rw[s2.2];refine s3.1.app ?_
  rw[s3.2];refine s4.1.app ?_
  rw[s4.2];refine s5.1.app ?_
  rw[s5.2];exact s6.1
 ·rw[eS,show G_=#[[],[],[],[],[],[]]from rfl,s1.2,eS,s2.2,eS,s3.2,eS,s4.2,eS,s5.2,s6.2]
theorem Zu(ok:ny p)(g:mX p):Zr (E7 p):=by
 obtain⟨a,b,c⟩:=(NZ ok g).1.es;exact#[a,b,c]
theorem gI{x y:Str}{c:Nat}(h1:c∉x.cps.toList)(h2:c∉y.cps.toList):c∉(x++y).cps.toList:=by rw[add_list,bo];exact λz=>z.elim h1 h2
theorem vJ{c:Nat}{y:Str}(hy:c∉y.cps.toList):∀{l:List Str},(∀x∈l,c∉x.cps.toList)->c∉(dm y l).cps.toList
 | [],_=>by show c∉([]);simp
 | [x],h=>h x aM
 |x::z::l,h=>by
  exact gI (gI (h x aM) hy) (vJ hy λu hu=>h u (aN _ hu))
theorem Hn(ok:ny p):(∀r∈fc p,10∉r.cps.toList)/\(fc p).map wordsOf=(E7 p).map GP:=by
 have nn:∀{x:Str},dW x->10∉x.cps.toList:=λh=>(hC h).2.2
 have dn:∀{d:aj},GF d->10∉(fM d).cps.toList:=λh=>(sU h).2.2
 have nm:∀{i:Int},dC i->10∉(eX i).cps.toList:=λh=>(nT h.1 h.2).2.2
 constructor
 ·intro r hr
  unfold fc oK at hr;simp only[bo,au]at hr;rcases hr with((((⟨q,hq,rfl⟩|⟨q,hq,rfl⟩)|⟨q,hq,rfl⟩)|⟨q,hq,rfl⟩)|⟨q,hq,rfl⟩)|⟨q,hq,rfl⟩
  ·obtain⟨h1,h2⟩:=ok.kinds q hq
   exact gI (gI (gI ∎ (nn h1)) ∎) (dn h2)
  ·exact gI ∎ (nn (ok.gates q hq))
  ·obtain⟨h1,h2⟩:=ok.lines q hq
   exact gI (gI (gI ∎ (nn h1)) ∎) (nm h2)
  ·obtain⟨h1,h2,h3,h4,h5⟩:=ok.desks q hq
   refine gI (gI (gI (gI (gI (gI (gI ∎ (nn h1)) ∎) (dn (d:=.str q.to) h2)) ∎) (vJ ∎ λx hx=>(uG h3 x hx).2.2)) ∎) (vJ ∎ λx hx=>nn (h5 x hx))
  ·obtain⟨h1,h2,h3⟩:=ok.times q hq
   refine vJ ∎ λx hx=>?_
   simp only[ax,bD,or_false]at hx;rcases hx with rfl|rfl|rfl|rfl
   ·symm
   ·exact nn h1
   ·exact nn h2
   ·exact nm h3
  ·obtain⟨h1,h2,h3⟩:=ok.hours q hq
   refine vJ ∎ λx hx=>?_
   simp only[ax,bD,or_false]at hx;rcases hx with rfl|rfl|rfl|rfl
   ·symm
   ·exact nn h1
   ·exact nm h2
   ·exact nm h3
 ·unfold fc oK E7
  simp only[aP,aB]
  congr 1
  congr 1
  congr 1
  congr 1
  congr 1
  ·exact eQ λq hq=>GH (ok.kinds q hq)
  ·exact eQ λq hq=>GJ (ok.gates q hq)
  ·exact eQ λq hq=>GK (ok.lines q hq)
  ·exact eQ λq hq=>GL (ok.desks q hq)
  ·exact eQ λq hq=>GN (ok.times q hq)
  ·exact eQ λq hq=>GO (ok.hours q hq)
theorem QY(e:Ent):(GP e).isEmpty=false:=by cases e<;>rfl
theorem KL(l:List Str):∀k,((l.zipIdx k).filterMap λp=>if(wordsOf p.1).isEmpty then none else some (p.2,wordsOf p.1)).map (·.2)=(l.map wordsOf).filter λws=>!ws.isEmpty:=by
 induction l with
 |nil=>intro k;rfl
 |cons x l ih=>
  intro k;rw[List.zipIdx_cons,aA,gf];cases hx:(wordsOf x).isEmpty with
  |true=>rw[dX (by simp only[hx];rfl),ih];rfl
  |false=>rw[cJ (by simp only[hx];rfl),aA,ih];rfl
theorem E9(ok:ny p)(hk:p.kinds≠[]):(rowsOf (sS p)).map (·.2)=(E7 p).map GP:=by
 obtain⟨h1,h2⟩:=Hn ok;unfold sS;rw[Kw (λz=>?_) h1,KL,h2,List.filter_eq_self.mpr]
 ·intro ws Nv
  obtain⟨e,_,rfl⟩:=au.mp Nv;rw[QY];rfl
 ·unfold fc oK at z
  cases hkk:p.kinds with
  |nil=>exact hk hkk
  |cons q l=>rw[hkk]at z;simp at z
theorem Ho(m:Int)(k:Nat):(tX m k).cps.toList=(stemOf m).cps.toList.take (m/624%(1+m/78%8)).toNat++(97+((m/3+5*k)%26).toNat)::(stemOf m).cps.toList.drop (m/624%(1+m/78%8)+1).toNat:=by
 have hl:(stemOf m).cps.toList.length=(1+m/78%8).toNat:=by rw[wD m,dH]
 have p1:0<=m/624%(1+m/78%8):=cK _ ∅
 have p2:m/624%(1+m/78%8)<1+m/78%8:=dG _ ∅
 have e1:mQ _ none _=_:=DN #[p1,by rw[hl];omega]
 have e2:mQ _ (some (m/624%(1+m/78%8)+1)) none=_:=B6 #[∅,by rw[hl];omega]
 unfold tX;rw[e1,e2]
 show((_++_++_:Array Nat)).toList=_
 simp only[HX,lN,Int.sub_zero,ED,one];rw[dw (l:=List.drop _ _) (by rw[cV];omega),cC]
 rfl
theorem xu{β:Type}{f:Nat->β}:∀{n:Nat},(∀i j,i<n->j<n->f i=f j->i=j)->((cx n).map f).Nodup:=by
 intro n h;rw[List.Nodup,List.pairwise_map,ko];intro i j hi hj A6 e;rw[cY]at hi hj;rw[List.getElem_range,List.getElem_range]at e;exact qQ7 (h i j hi hj e) ∅
theorem o7(cell:Int)(hm:many<=26):(namesOf cell many).Nodup:=by
 unfold namesOf
 split
 ·refine xu λi j hi hj e=>?_
  have e1:∀k,(nameA (c7 cell 3) many k).cps.toList=bw (many-k) _:=λk=>CY _ _
  have:=qQ6 (λx:Str=>x.cps.toList.length) e
  simp[e1,dH]at this;omega
 ·refine xu λi j hi hj e=>?_
  have:=qQ6 (λx:Str=>x.cps.toList) e
  simp only[Ho]at this;have:=List.append_cancel_left this;have:=(hZ this).1
  generalize c7 cell 3/3=a at *
  omega
theorem uM(l:List Str):(cx l.length).map (λk=>l.getD k "")=l:=by
 refine gD λi=>?_
 rw[ay]
 by_cases h:i<l.length
 ·rw[iP h,av h]
  show some (l.getD i "")=_;rw[aO,av h];rfl
 ·rw[dI ↑h,dI ↑h];rfl
theorem xx{α:Type}:∀(L:List (List α))(i:Nat)(j:Nat)(y:α),i<L.length->(L.set i (rV (L.getD i []) j y)).flatten.Perm (y::L.flatten)
 | [],i,_,_,h=>by simp at h
 |r::L,0,j,y,_=>by
  show(rV r j y++L.flatten).Perm (y::(r++L.flatten))
  have:(rV r j y).Perm (y::r):=by
   exact yb.trans (by rw[fz])
  exact this.append_right _
 |r::L,i+1,j,y,h=>by
  have ih:=xx L i j y ↑h
  show(r++(L.set i _).flatten).Perm (y::(r++L.flatten))
  exact(ih.append_left r).trans yb
theorem zO(cell:Int)(h1:1<=nn)(places:List Str):∀k,k<=places.length->(eA cell nn places k).flatten.Perm (places.take k)
 |0,_=>by
  show(bw nn ([])).flatten.Perm []
  rw[List.flatten_replicate_nil]
 |k+1,hk=>by
  have ih:=zO cell h1 places k ∅
  have e:places.take (k+1)=places.take k ++ [places.getD k ""]:=by
   rw[cv,av ∅,aO,av ∅];rfl
  rw[e];refine(xx _ _ _ _ (by rw[gU];exact Bw cell h1 k)).trans ?_
  exact(ih.cons _).trans ((List.perm_append_singleton _ _).symm)
theorem vK(cell:Int)(h1:1<=nn)(places:List Str):∀k,∀j,j<k->j<nn->(eA cell nn places k).getD j []≠[]
 |0,_,h,_=>∅
 |k+1,j,hj,hn=>by
  have hl:=gU cell nn places k;have ex:∀(L:List (List Str))(i:Nat)(r:List Str),L.length=nn->(L.set i r).getD j []=if i=j then r else L.getD j []:=λL i r e=>by
   rw[aO,List.getElem?_set]
   by_cases A6:i=j
   ·subst A6;rw[qQ3 rfl,qQ3 ∅,qQ3 rfl];rfl
   ·rw[qQ2 A6,qQ2 A6,aO]
  show((eA cell nn places k).set _ _).getD j []≠[]
  rw[ex _ _ _ hl]
  split
  ·intro z
   have:=qQ6 ft z;rw[xj]at this;simp at this
  ·rename_i qY
   by_cases Ip:j<k
   ·exact vK cell h1 places k j Ip hn
   ·exfalso
    apply qY;have:j=k:=∅
    subst this;unfold gC;rw[qQ3 hn]
theorem KN(m:Int):r6 (lu m many) many:=by
 unfold lu
 split
 ·rename_i h;exact h.2
 ·split
  ·exact#[∅,gP _ 1 ⋯ ⋯ ⋯,nW _ ⋯ ⋯]
  ·split
   ·exact#[∅,gP _ 1 ⋯ ⋯ ⋯]
   ·split
    ·split
     ·trivial
     ·exact nW _ ⋯ ⋯
    ·split
     ·refine#[by simp,λz hz=>?_]
      obtain⟨k,_,rfl⟩:=au.mp hz;unfold CZ;omega
     ·trivial
theorem E_(cell:Int)(places lines:List Str):(lz cell places lines).map (·.name)=namesOf (c7 cell 31) (ly cell places.length):=by
 unfold lz;rw[aB];have:=uM (namesOf (c7 cell 31) (ly cell places.length));rwa[gT]at this
theorem Dg(cell:Int)(places lines:List Str):(lz cell places lines).map (·.places)=eA cell (ly cell places.length) places places.length:=by
 unfold lz;rw[aB];have hl:=gU cell (ly cell places.length) places places.length;refine gD λi=>?_
 rw[ay]
 by_cases h:i<ly cell places.length
 ·rw[iP h]
  show some ((eA cell _ places places.length).getD i [])=_;rw[aO,av ∅];rfl
 ·rw[dI ↑h,dI ∅];rfl
theorem zP(c:Int)(iu:List Dk)(kinds:List (Str×Option Int))(hk:(kinds.map (·.1)).Nodup)(hd:(iu.map (·.name)).Nodup):∀i,i<=iu.length->((gW c iu kinds i).map λq=>(q.1,q.2.1)).Nodup/\∀q∈gW c iu kinds i,q.1∈(iu.take i).map (·.name)/\q.2.1∈kinds.map (·.1)/\1<=q.2.2
 |0,_=>#[by simp[gW],λq hq=>by simp[gW]at hq]
 |i+1,hi=>by
  obtain⟨a,b⟩:=zP c iu kinds hk hd i ∅
  have hg:iu[i]?=some iu[i]:=av ∅
  rw[qv hg,cv,hg];have row:∀j,((gG (c7 c (110+i)) iu[i].name kinds j).map λq=>(q.1,q.2.1)).Nodup/\∀q∈gG (c7 c (110+i)) iu[i].name kinds j,q.1=iu[i].name/\q.2.1∈(kinds.take j).map (·.1)/\1<=q.2.2:=by
   intro j
   induction j with
   |zero=>exact#[by simp[gG],λq hq=>by simp[gG]at hq]
   |succ j ih=>
    by_cases hj:j<kinds.length
    ·have hkj:=av hj
     rw[tZ hkj,cv,hkj];unfold uC
     split
     ·rw[aP]
      refine#[?_,λq hq=>?_]
      ·rw[bR]
       refine#[ih.1,by simp,λx hx y hy z=>?_]
       obtain⟨q,hq,rfl⟩:=au.mp hx;have h2:=(ih.2 q hq).2.1;have hy:y=(iu[i].name,kinds[j].1):=by simpa using hy
       rw[hy]at z;have z2:q.2.1=kinds[j].1:=qQ6 (λw:Str×Str=>w.2) z
       rw[z2]at h2;have:kinds=kinds.take j++kinds[j]::kinds.drop (j+1):=by rw[Fw,fz]
       exact mh hk this h2
      ·rcases bo.mp hq with hq|hq
       ·obtain⟨h1,h2,h3⟩:=ih.2 q hq
        exact#[h1,by rw[aP];exact bM _ h2,h3]
       ·have hq:q=(iu[i].name,kinds[j].1,1+c7 c (110+i)/(j*j+2)%6):=by simpa using hq
        rw[hq];refine#[rfl,by rw[aP];exact bq _ (au.mpr #[kinds[j],aQ.mpr rfl,rfl]),?_]
        have:=cK (c7 c (110+i)/(j*j+2)) (b:=6) ⋯
        show 1<=1+c7 c _/(j*j+2)%6;omega
     ·refine#[by simpa using ih.1,λq hq=>?_]
      obtain⟨h1,h2,h3⟩:=ih.2 q ↑hq
      exact#[h1,by rw[aP];exact bM _ h2,h3]
    ·have e1:gG (c7 c (110+i)) iu[i].name kinds (j+1)=gG (c7 c (110+i)) iu[i].name kinds j:=by
      unfold gG;rw[dw (by simp;omega),dw (by simp;omega)]
     rw[e1,dw ∅]
     rwa[dw ∅]at ih
  obtain⟨r1,r2⟩:=row kinds.length;rw[cy]at r2;have QW:iu[i].name∉(iu.take i).map (·.name):=by
   have:iu=iu.take i++iu[i]::iu.drop (i+1):=by rw[Fw,fz]
   exact mh hd this
  refine#[?_,λq hq=>?_]
  ·rw[aP,bR]
   refine#[a,r1,λx hx y hy z=>?_]
   obtain⟨q,hq,rfl⟩:=au.mp hx;obtain⟨q2,DH,rfl⟩:=au.mp hy;have z1:=qQ6 (λw:Str×Str=>w.1) z
   have:=(b q hq).1;rw[z1,(r2 q2 DH).1]at this;exact QW this
  ·rcases bo.mp hq with hq|hq
   ·obtain⟨h1,h2,h3⟩:=b q hq
    exact#[by rw[aP];exact bM _ h1,h2,h3]
   ·obtain⟨h1,h2,h3⟩:=r2 q hq
    exact#[by rw[h1,aP];exact bq _ (au.mpr #[iu[i],aQ.mpr rfl,rfl]),h2,h3]
theorem zQ{α:Type}:∀{L:List (List α)},L.flatten.Nodup->∀r∈L,r.Nodup
 | [],_,r,h=>by cases h
 |x::L,nd,r,h=>by
  rw[fu,bR]at nd;rcases ax.mp h with rfl|h
  ·exact nd.1
  ·exact zQ nd.2.1 r h
theorem wK(ns:List Int):mX (dF ns):=by
 obtain⟨k1,k4⟩:=mI (oE ns);obtain⟨g1,g3⟩:=jP (fS ns);obtain⟨p1,p6⟩:=lB (fS ns);have OS:(oZ ns).length=(placesOf (fS ns)).length:=by
  unfold oZ orderOf;rw[aV,cV,bh];have:=sQ (fS ns) ∅
  omega
 have mD:=o5 (fS ns);have pnd:(placesOf (fS ns)).Nodup:=o7 _ ∅
 have Yw:(oZ ns).Perm (placesOf (fS ns)):=by
  exact mB.trans (by rw[fz])
 have Vz:(ji ns).map (·.1)=namesOf (oE ns) (j9 (oE ns)):=by
  unfold ji qt;rw[aB];have:=uM (namesOf (oE ns) (j9 (oE ns)));rwa[gT]at this
 have knd:((ji ns).map (·.1)).Nodup:=by rw[Vz];exact o7 _ ∅
 obtain⟨m1,m4,mp⟩:=mH (og ns) (n:=(oZ ns).length) ∅
 have dpl:=Dg (og ns) (oZ ns) (gv ns);have dnd:((ic ns).map (·.name)).Nodup:=by rw[E_ (og ns) (oZ ns) (gv ns)];exact o7 _ ∅
 have tp:=zO (og ns) m1 (oZ ns) _ (aT _);rw[cy]at tp;have dj:((ic ns).map (·.places)).flatten.Nodup:=by
  rw[dpl];exact(tp.trans Yw).nodup_iff.mpr pnd
 have Jc:∀d∈ic ns,_:=λd hd=>Jf ∅ ∅ hd
 have Zv:∀d∈ic ns,d.places≠[]/\d.places.Nodup/\r6 d.rule d.places.length:=λd hd=>by
  refine#[?_,?_,?_]
  ·obtain⟨k,hk,rfl⟩:=au.mp hd
   have hk:=cA.mp hk;exact vK _ m1 _ _ k ∅ hk
  ·exact zQ dj _ (au.mpr #[d,hd,rfl])
  ·obtain⟨k,hk,rfl⟩:=au.mp hd
   exact KN _
 have Vq:∀x∈gv ns,dW x:=λx hx=>kL (fG hx)
 have tk:=zP (og ns) _ _ knd dnd _ (aT _)
 generalize hD:ic ns=iu at *
 have e0:dF ns=#[ji ns,lA (fS ns),(cx (gv ns).length).map (roomAt (fS ns) iu (gv ns)),iu,gW (og ns) iu (ji ns) iu.length,jC (og ns) iu iu.length]:=by rw[<-hD];rfl
 have Y3:((cx (gv ns).length).map (roomAt (fS ns) iu (gv ns))).map (·.1)=gv ns:=by
  rw[aB];exact uM _
 have gl:lA _++gv ns=placesOf _:=fz _ _;rw[e0];rw[cy]at tk;refine#[knd,by rw[Y3,gl];exact pnd,dnd,λd hd=>?_,dj,tk.1,tk.2,λq hq=>?_,λq hq i hi=>?_,λq hq=>?_]
 ·obtain⟨a1,a2,a3,a4,a5,a6⟩:=Jc d hd
  obtain⟨f1,f2,f3⟩:=Zv d hd;have hpx:=λx hx=>Yw.mem_iff.mp (a5 x hx)
  refine#[#[a1,?_,f3,?_,∅,f2,λx hx=>kL (hpx x hx)],λx hx=>by rw[Y3,gl];exact hpx x hx,?_]
  ·rcases bo.mp a2 with h|h
   ·exact .inr (Vq _ h)
   ·exact .inl (aQ.mp h)
  ·cases hp:d.places with
   |nil=>exact qQ7 hp f1
   |cons _ _=>simp
  ·rcases bo.mp a2 with h|h
   ·obtain⟨k,hk,he⟩:=j7.mp h
    have hgd:(gv ns).getD k ""=d.to:=by rw[aO,av hk,he];rfl
    refine .inr #[(roomAt (fS ns) iu (gv ns) k).2,au.mpr #[k,cA.mpr hk,?_],?_]
    ·show roomAt _ iu _ k=(d.to,_)
     rw[<-hgd];rfl
    ·show _<=maxOf _+c7 _ (20+k)%3
     have:=(qu (kz iu ((gv ns).getD k ""))).2 _ (aN _ (jl.mpr #[d,hd,by rw[hgd,qQ1 rfl];rfl]))
     omega
   ·exact .inl (aQ.mp h)
 ·obtain⟨⟨d,i⟩,hd,hq⟩:=x9.mp hq
  have hdm:=j0 (eC hd);unfold kA at hq
  split at hq
  ·rcases ax.mp hq with rfl|hq
   ·exact#[au.mpr #[d,hdm,rfl],by show _%9<9+_%20;omega]
   ·rw[aQ.mp hq]
    exact#[au.mpr #[d,hdm,rfl],by show 25+_%20<50+_%40;omega]
  ·cases hq
 ·obtain⟨k,hk,rfl⟩:=au.mp hq
  have hi:uB _=some i:=hi;unfold uB at hi
  split at hi
  ·cases hi
   exact#[∅,gP _ 1 ⋯ ⋯ ⋯]
  ·cases hi
 ·obtain⟨k,hk,rfl⟩:=au.mp hq
  show 1<=maxOf _+_%3;have:=(qu (kz iu ((gv ns).getD k ""))).2 1 aM
  omega
theorem qI(ns:List Int):(dF ns).kinds≠[]/\(dF ns).gates≠[]:=by
 obtain⟨k1,k4⟩:=mI (oE ns);obtain⟨g1,g3⟩:=jP (fS ns);obtain⟨p1,p6⟩:=lB (fS ns);refine#[λz=>?_,λz=>?_]
 ·have:=qQ6 ft z
  have:(ji ns).length=0:=this;simp[qt,ae,cY]at this;omega
 ·have:=qQ6 ft z
  have:(lA _).length=0:=this;unfold lA at this;rw[bh]at this;omega
end Mg
namespace Mg
open L2 PySem PyProof.Rows
seal L2.VE L2.VS L2.rP L2.VT L2.VO L2.Fy
theorem ie(x y:Str):(x++y).length=x.length+y.length:=by simp only[cF]
theorem iG{x y:Str}(h1:lX x)(h2:lX y):lX (x++y):=(nq _).mpr λc hc=>by
 rw[add_list]at hc;rcases bo.mp hc with hc|hc
 ·exact(nq _).mp h1 c hc
 ·exact(nq _).mp h2 c hc
theorem pQ{y:Str}(hy:lX y):∀{l:List Str},(∀x∈l,lX x)->lX (dm y l)
 | [],_=>(nq _).mpr λc hc=>by cases hc
 | [x],h=>h x aM
 |x::z::l,h=>iG (iG (h x aM) hy) (pQ hy λu hu=>h u (aN _ hu))
theorem gX{x:Str}(h:bW (.str x)=true:=by symm):lX x:=h
theorem KP{p:Pl}(ok:ny p):∀r∈fc p,lX r/\r.length<=1400:=by
 intro r hr;have nn:∀{x:Str},dW x->lX x/\x.length<=8:=λh=>#[h.ok.2,h.short]
 have dn:∀{d:aj},GF d->lX _/\(fM d).length<=8:=λh=>#[(vE h).2,kM h]
 have nm:∀{i:Int},dC i->lX _/\(eX i).length<=6:=λh=>#[(o6 h.1 h.2).2,hG h]
 unfold fc oK at hr;simp only[bo,au]at hr;rcases hr with((((⟨q,hq,rfl⟩|⟨q,hq,rfl⟩)|⟨q,hq,rfl⟩)|⟨q,hq,rfl⟩)|⟨q,hq,rfl⟩)|⟨q,hq,rfl⟩
 ·obtain⟨h1,h2⟩:=ok.kinds q hq
  refine#[iG (iG (iG gX (nn h1).1) gX) (dn h2).1,?_]
  have a:=(nn h1).2;have b:=(dn h2).2;unfold qz;rw[ie,ie,ie,show("kind ":Str).length=5 from by decide,show(" ":Str).length=1 from by decide]
  omega
 ·have h1:=ok.gates q hq
  refine#[iG gX (nn h1).1,?_]
  have a:=(nn h1).2;unfold oH;rw[ie,show("gate ":Str).length=5 from by decide]
  omega
 ·obtain⟨h1,h2⟩:=ok.lines q hq
  refine#[iG (iG (iG gX (nn h1).1) gX) (nm h2).1,?_]
  have a:=(nn h1).2;have b:=(nm h2).2;unfold oI;rw[ie,ie,ie,show("line ":Str).length=5 from by decide,show(" ":Str).length=1 from by decide]
  omega
 ·obtain⟨h1,h2,h3,h4,h5⟩:=ok.desks q hq
  refine#[iG (iG (iG (iG (iG (iG (iG gX (nn h1).1) gX) (dn (d:=.str q.to) h2).1) gX) (pQ gX λx hx=>(EX h3 x hx).2)) gX) (pQ gX λx hx=>(nn (h5 x hx)).1),?_]
  have a:=(nn h1).2;have b:=(dn (d:=.str q.to) h2).2;have c:=nU h3;have d:=iw (y:=(" ")) ⋯ λx hx=>(nn (h5 x hx)).2
  unfold nu pM;rw[ie,ie,ie,ie,ie,ie,ie,show("desk ":Str).length=5 from by decide,show(" to ":Str).length=4 from by decide,show(" by ":Str).length=4 from by decide,show(" from ":Str).length=6 from by decide]
  omega
 ·obtain⟨h1,h2,h3⟩:=ok.times q hq
  have Zw:∀x∈[("time":Str),q.1,q.2.1,eX q.2.2],lX x/\x.length<=8:=λx hx=>by
   simp[ax,bD,or_false]at hx;rcases hx with rfl|rfl|rfl|rfl
   ·exact#[gX,⋯]
   ·exact nn h1
   ·exact nn h2
   ·exact#[(nm h3).1,by have:=(nm h3).2;omega]
  refine#[pQ gX λx hx=>(Zw x hx).1,?_]
  have:=iw (y:=(" ")) ⋯ λx hx=>(Zw x hx).2
  unfold oJ;simp[bf,df]at this;omega
 ·obtain⟨h1,h2,h3⟩:=ok.hours q hq
  have Zw:∀x∈[("open":Str),q.1,eX q.2.1,eX q.2.2],lX x/\x.length<=8:=λx hx=>by
   simp[ax,bD,or_false]at hx;rcases hx with rfl|rfl|rfl|rfl
   ·exact#[gX,⋯]
   ·exact nn h1
   ·exact#[(nm h2).1,by have:=(nm h2).2;omega]
   ·exact#[(nm h3).1,by have:=(nm h3).2;omega]
  refine#[pQ gX λx hx=>(Zw x hx).1,?_]
  have:=iw (y:=(" ")) ⋯ λx hx=>(Zw x hx).2
  unfold qA;simp[bf,df]at this;omega
theorem KQ(ns:List Int):(fc (dF ns)).length<=44:=by
 obtain⟨k1,k4⟩:=mI (oE ns);obtain⟨p1,p6⟩:=lB (fS ns);have OS:(oZ ns).length=(placesOf (fS ns)).length:=by
  unfold oZ orderOf;rw[aV,cV,bh];have:=sQ (fS ns) (by have:=(jP (fS ns)).1;omega)
  omega
 have g1:=(jP (fS ns)).1;have hkl:(ji ns).length=j9 (oE ns):=by simp[qt]
 have Le:(ic ns).length<=4:=by rw[qy];exact(mH _ ∅).2.1
 have htl:=qw (og ns) (ic ns) (ji ns) ∅ _ (aT _)
 have hhl:=qx (og ns) (ic ns) _ (aT _)
 generalize hD:ic ns=iu at *
 have e0:dF ns=#[ji ns,lA (fS ns),(cx (gv ns).length).map (roomAt (fS ns) iu (gv ns)),iu,gW (og ns) iu (ji ns) iu.length,jC (og ns) iu iu.length]:=by rw[<-hD];rfl
 have hg:(lA (fS ns)).length+(gv ns).length<=6:=by unfold lA gv linesOf;rw[bh,cV];omega
 rw[e0];unfold fc oK;simp;omega
theorem KR(ns:List Int):xW (sS (dF ns)):=by
 have hr:=KP (yr ns);refine#[?_,pQ gX λx hx=>(hr x hx).1]
 have:=iw (y:="\n") ⋯ λx hx=>(hr x hx).2
 have h2:=KQ ns;unfold sS;have:(fc _).length*(1400+1)<=44*1401:=j_ h2 ∅;omega
end Mg
namespace Mg
open L2 PySem PyProof.Rows
variable{n:Nat}{p:Pl}{x:Str}
structure Ws where
 places:List (Str×List Nat)
 loads:List (Str×Option (List Nat×Int))
 met:List Nat
 time:Int
variable{s:Ws}
def kj(l:List Nat):List aj:=l.map λ(g:Nat)=>c9 (g:Int)
theorem f7(l:List Nat):(kj l).length=l.length:=ae _
def oM:Option (List Nat×Int)->aj
 |none=>.none
 |some q=>.tuple [.tuple (kj q.1),.int q.2]
def fE(s:Ws):List (Str×aj):=s.places.map λq=>(q.1,.list (kj q.2))
def jY(s:Ws):List (Str×aj):=s.loads.map λq=>(q.1,oM q.2)
def AK(s:Ws):List Int:=s.met.map λ(g:Nat)=>(g:Int)
def QZ(s:Ws):List (Str×aj):=[("places",Gr (fE s)),("loads",lV (jY s)),("met",Gs (AK s)),("time",.int s.time)]
def N0(s:Ws):aj:=lV (QZ s)
theorem pR(s:Ws):gF (QZ s) "places"=some (Gr (fE s)):=fD rfl
theorem Fb(s:Ws):gF (QZ s) "loads"=some (lV (jY s)):=(cQ (show ¬(("places":Str)="loads") by symm)).trans (fD rfl)
theorem VB(s:Ws):gF (QZ s) "met"=some (Gs (AK s)):=(cQ (show ¬(("places":Str)="met") by symm)).trans ((cQ (show ¬(("loads":Str)="met") by symm)).trans (fD rfl))
def iy(s:Ws)(x:Str):List Nat:=((s.places.find? λq=>decide (q.1=x)).map (·.2)).getD []
def iM(s:Ws)(x:Str):Option (List Nat×Int):=((s.loads.find? λq=>decide (q.1=x)).map (·.2)).getD none
theorem vL{α β:Type}{F:α->β}(x:Str):∀(l:List (Str×α)),x∈l.map (·.1)->(((l.map λq=>(q.1,F q.2)).find? λp=>decide (p.1=x)).map (·.2))=((l.find? λq=>decide (q.1=x)).map (·.2)).map F/\∃a,(x,a)∈l/\(l.find? λq=>decide (q.1=x)).map (·.2)=some a
 | [],h=>by cases h
 |q::l,h=>by
  rw[aA,cO,cO]
  by_cases e:q.1=x
  ·rw[qQ1 e]
   exact#[rfl,q.2,by rw[<-e];exact aM,rfl]
  ·rw[qQ0 e]
   have h':x∈l.map (·.1):=by
    rcases ax.mp h with h|h
    ·exact qQ7 h.symm e
    ·exact h
   obtain⟨i1,a,i2,i3⟩:=vL x l h';exact#[i1,a,aN _ i2,i3]
theorem lG(h:x∈s.places.map (·.1)):gF (fE s) x=some (.list (kj (iy s x)))/\(x,iy s x)∈s.places:=by
 obtain⟨h1,a,h2,h3⟩:=vL (F:=λl=>ik _) x s.places h
 have e:iy s x=a:=by unfold iy;rw[h3];rfl
 refine#[?_,by rw[e];exact h2]
 unfold gF fE;rw[h1,h3,e];rfl
theorem Ji(h:x∈s.loads.map (·.1)):gF (jY s) x=some (oM (iM s x))/\(x,iM s x)∈s.loads:=by
 obtain⟨h1,a,h2,h3⟩:=vL x s.loads h;have e:iM s x=a:=by unfold iM;rw[h3];rfl
 refine#[?_,by rw[e];exact h2]
 unfold gF jY;rw[h1,h3,e];rfl
inductive We where
 |come (t:Int) (g:Nat)
 |spoil (t:Int) (g:Nat)
 |take (t:Int) (d:Str) (gs:List Nat)
 |put (t:Int) (d:Str) (gs:List Nat)
def qZ:We->aj
 | .come t g=>.tuple [.str "come",.int t,.int (g:Int)]
 | .spoil t g=>.tuple [.str "spoil",.int t,.int (g:Int)]
 | .take t d gs=>.tuple [.str "take",.int t,.str d,.tuple (kj gs)]
 | .put t d gs=>.tuple [.str "put",.int t,.str d,.tuple (kj gs)]
def WH:Option We->aj
 |none=>.none
 |some e=>qZ e
theorem N1(l:List Nat):AI (.tuple (kj l)):=.tup λd hd=>by obtain⟨g,_,rfl⟩:=au.mp hd;exact .int _
theorem VC(e:Option We):AI (WH e):=by
 cases e with
 |none=>exact .non
 |some e=>
  cases e<;>(refine .tup λd hd=>?_;simp[ax,bD,or_false]at hd)
  ·rcases hd with rfl|rfl|rfl
   ·exact .str _
   ·exact .int _
   ·exact .int _
  ·rcases hd with rfl|rfl|rfl
   ·exact .str _
   ·exact .int _
   ·exact .int _
  ·rcases hd with rfl|rfl|rfl|rfl
   ·exact .str _
   ·exact .int _
   ·exact .str _
   ·exact N1 _
  ·rcases hd with rfl|rfl|rfl|rfl
   ·exact .str _
   ·exact .int _
   ·exact .str _
   ·exact N1 _
structure vM(p:Pl)(n:Nat)(s:Ws):Prop where
 nm:s.places.map (·.1)=p.gates++p.lines.map (·.1)
 ld:s.loads.map (·.1)=p.desks.map (·.name)
 pn:(s.places.map (·.2)).flatten.Nodup
 pg:∀g∈(s.places.map (·.2)).flatten,g<n
 lg:∀q∈s.loads,∀l,q.2=some l->l.1.length<=3/\∀g∈l.1,g<n
 mn:s.met.length<=n
 n30:n<=30
theorem xA{l:List Nat}(h:l.Nodup)(hb:∀g∈l,g<n):l.length<=n:=by
 have go:∀(l m:List Nat),l.Nodup->(∀x∈l,x∈m)->l.length<=m.length:=by
  intro l
  induction l with
  |nil=>intro m _ _;exact bj _
  |cons x l ih=>
   intro m hn h;obtain⟨h1,h2⟩:=cj.mp hn;have hx:=h x aM;have:=ih (m.erase x) h2 λy hy=>(List.mem_erase_of_ne (λz:y=x=>h1 (by rw[<-z];exact hy))).mpr (h y (aN _ hy))
   rw[List.length_erase_of_mem hx]at this;have:=List.length_pos_of_mem hx;rw[bf];omega
 have:=go l _ h λx hx=>cA.mpr (hb x hx)
 rwa [cY]at this
theorem vM.few(h:vM p n s):(s.places.map (·.2)).flatten.length<=30:=bU (xA h.pn h.pg) h.n30
theorem Dh{l:List (Str×List Nat)}{q:Str×List Nat}(h:q∈l):q.2.length<=((l.map (·.2)).flatten).length:=by
 induction l with
 |nil=>cases h
 |cons z l ih=>
  rw[aA,fu,aV];rcases ax.mp h with rfl|h
  ·omega
  ·have:=ih h;omega
theorem vM.place(h:vM p n s)(hx:x∈p.gates++p.lines.map (·.1)):gF (fE s) x=some (.list (kj (iy s x)))/\(iy s x).length<=30/\∀g∈iy s x,g<n:=by
 obtain⟨h1,h2⟩:=lG (by rw[h.nm];exact hx)
 exact#[h1,bU (Dh h2) h.few,λg hg=>h.pg g (iS.mpr #[_,au.mpr #[_,h2,rfl],hg])]
theorem vM.load(h:vM p n s)(hx:x∈p.desks.map (·.name)):gF (jY s) x=some (oM (iM s x))/\∀l,iM s x=some l->l.1.length<=3/\∀g∈l.1,g<n:=by
 obtain⟨h1,h2⟩:=Ji (by rw[h.ld];exact hx)
 exact#[h1,λl hl=>h.lg _ h2 l hl]
def jj(s:Ws)(ps:List Str):List Nat:=(ps.map (iy s)).flatten
def zR(p:Pl)(s:Ws):List Dk:=p.desks.filter λd=>(iM s d.name).isNone && !(jj s d.places).isEmpty
def Di(l:List Nat)(m:Int):List Nat:=
 let a:=(m/8%l.length).toNat
 let c:=(l.drop a++l.take a).take (1+m/64%3).toNat
 if m/256%2=1 then c.reverse else c
def oN(p:Pl)(s:Ws)(m t:Int):Option We:=
 match zR p s with
 | []=>none
 |d::ds=>some (.take t (pickOf (d::ds) d m).name (Di (jj s (pickOf (d::ds) d m).places) m))
def xB(p:Pl)(s:Ws)(d:Dk)(l:List Nat):Bool:=decide (d.to="")||decide ((iy s d.to).length+l.length<=N2 p d.to)
where N2 (p:Pl) (x:Str):Int:=((p.lines.find? λq=>decide (q.1=x)).map (·.2)).getD 0
def qQ(p:Pl)(s:Ws)(t:Int)(d:Dk):Option We:=match iM s d.name with
 |none=>none
 |some l=>if decide (l.2<=t)&&xB p s d l.1 then some (.put t d.name l.1)else none
def sk(p:Pl)(s:Ws)(t:Int):List We:=p.desks.filterMap (qQ p s t)
def eD(s:Ws):List Nat:=(s.places.map (·.2)).flatten
def xC(n:Nat)(s:Ws):List Nat:=(cx n).filter λg=>!decide (g∈s.met)
def Jj(l:List We)(j:Int):We:=pickOf l (.come 0 0) j
def BI(p:Pl)(n:Nat)(s:Ws)(m t:Int):Option We:=
 if decide (5<m%8) && !(sk p s t).isEmpty then some (Jj (sk p s t) (m/8))
 else if(decide (m%8=3)||(decide (m%8=4)||decide (m%8=5)))&&(oN p s (m/8) t).isSome then oN p s (m/8) t
 else if decide (m%32=2) && !(eD s).isEmpty then some (.spoil t (pickOf (eD s) 0 (m/32)))
 else if !(xC n s).isEmpty then some (.come t (pickOf (xC n s) 0 (m/8)))
 else if !(sk p s t).isEmpty then some (Jj (sk p s t) (m/8))
 else oN p s (m/8) t
end Mg
namespace Mg
open L2 PySem PyProof.Rows
seal L2.VE L2.VS L2.rP L2.VT L2.VO L2.Fy
variable{fd:eM}{n:Nat}{p:Pl}{s:Ws}
def strsOf(l:List aj):List Str:=l.filterMap λd=>match d with | .str x=>some x|_=>none
theorem strs_map:∀l:List Str,strsOf (l.map aX)=l
 | []=>rfl
 |x::l=>by
  have:strsOf ((x::l).map aX)=x::strsOf _:=rfl;rw[this,strs_map l]
theorem Q0(r:Rl):Lay (n+2) (Lg r):=by
 refine iE λd hd=>?_
 rcases ax.mp hd with rfl|hd
 ·refine bu ?_
  cases r<;>(dsimp[qW,lX];symm)
 ·cases r with
  |turns s=>
   rw[aQ.mp hd];exact iE λd hd=>by obtain⟨i,_,rfl⟩:=au.mp hd;exact bQ _ _
  |eldest=>cases hd
  |rank b=>rw[aQ.mp hd];cases b with|none=>exact Iz _|some i=>exact bQ _ _
  |many m=>rw[aQ.mp hd];exact bQ _ _
  |gather m a=>
   rcases ax.mp hd with rfl|hd
   ·exact bQ _ _
   ·rw[aQ.mp hd];exact bQ _ _
  |meet=>cases hd
structure N3(p:Pl):Prop where
 ok:ny p
 dp:∀d∈p.desks,(∀x∈d.places,x∈p.gates++p.lines.map (·.1))/\d.places.length<=6/\(d.to=""\/d.to∈p.lines.map (·.1))
 ln:(p.lines.map (·.1)).Nodup
 pn:(p.gates++p.lines.map (·.1)).Nodup
theorem zS(h:vM p n s):∀{ps:List Str},(∀x∈ps,x∈p.gates++p.lines.map (·.1))->(jj s ps).length<=30*ps.length/\∀g∈jj s ps,g<n
 | [],_=>#[bj _,λg hg=>by cases hg]
 |x::ps,hx=>by
  obtain⟨_,h1,h2⟩:=h.place (hx x aM);obtain⟨i1,i2⟩:=zS h λy hy=>hx y (aN _ hy)
  have e:jj s (x::ps)=iy s x++jj s ps:=rfl;rw[e,aV,bf];refine#[∅,λg hg=>?_]
  rcases bo.mp hg with hg|hg
  ·exact h2 g hg
  ·exact i2 g hg
def Rfr(ds:List aj)(d:aj):Prop:=∃(p:Pl)(n:Nat)(s:Ws)(k:Dk)(dh:aj),ds=[dh,N0 s,ej k]/\vM p n s/\(∀x∈k.places,x∈p.gates++p.lines.map (·.1))/\k.places.length<=6/\d=.list (kj (jj s k.places))
abbrev Nfr:List Str:=["_law_h","_law_state","_law_desk_here","_law_goods","_law_place"]
section
variable{P:bA}{w:cn}{K:aq}{mg:Str->Option aF}{base:cX}{f:aH}{k:Nat}
theorem S5:cw Nfr ["_law_h","_law_state","_law_desk_here"] (bL (top 53)):=by grind
theorem Zx(F:kX K "_law_free" "_law_free" (top 53) f fd):eW P w K mg base kD 1 f fd ["_law_h","_law_state","_law_desk_here"] (g7 K Rfr):=
 jz F S5 (by ext) λ_ _ h=>by
  obtain⟨p,n,s,k,dh,rfl,hs,hk,hl,rfl⟩:=h;intro g6 A outer s0 H E hr;have nd:=S5.nd;refine aG (ia 3 (dS aR) nd) ?_
  refine aG (jN (tgt:=.one 4) bY rfl (rN (gA 2 3 rfl rfl)) (gJ 4 nd) (λi=>[.val dh,.val _,.val _,.own (kj (jj s (k.places.take i))),.un]) k.places.length rfl (by rw[ae];exact aT _) (λi d hi hd=>?_) (.inl #[by rw[ae],rfl])) ?_
  ·obtain⟨x,hx,rfl⟩:∃x,k.places[i]?=some x/\d=.str x:=by
    rw[ay,av hi]at hd
    cases hd;exact#[_,av hi,rfl]
   have hxm:=hk x (aK hx);obtain⟨h1,h2,_⟩:=hs.place hxm;have e:jj s (k.places.take (i+1))=jj s (k.places.take i)++iy s x:=by
    unfold jj;rw[cv,hx,aP,nM];simp
   have hfl:=(zS hs (ps:=k.places.take i) λy hy=>hk y (eC hy)).1
   rw[bh]at hfl;rw[e];refine#[_,rfl,?_]
   refine dM 3 rfl ?_
   refine fj (aY (ia 3 (VO.to (lb (ai 3 rfl) (vo hr (du hr (ai 1 rfl) aW (pR s)) (ai 4 rfl) h1) (small (by rw[f7,f7];omega))) (by unfold kj;rw[aP])) nd)) #[.inr rfl,.inr rfl,.inr rfl,.inr rfl,.inl rfl,trivial]
  rw[cy];exact dM 3 rfl (aY (ck (ai 3 rfl)))
def Fwl(s:Ws):aj->Option aj
 | .tuple [.str nm,a,b,.tuple ps]=>if((iM s nm).isNone && !(jj s (strsOf ps)).isEmpty)=true then some (.tuple [.str nm,a,b,.tuple ps])else none
 |_=>none
theorem vN(s:Ws)(d:Dk):Fwl s (ej d)=if((iM s d.name).isNone && !(jj s d.places).isEmpty)=true then some (ej d)else none:=by
 show(if((iM s d.name).isNone && !(jj s _).isEmpty)=true then _ else _)=_
 rw[strs_map];rfl
theorem Q5(s:Ws)(l:List Dk):(l.map ej).filterMap (Fwl s)=(l.filter λd=>(iM s d.name).isNone && !(jj s d.places).isEmpty).map ej:=by
 induction l with
 |nil=>rfl
 |cons d l ih=>
  rw[aA,gf];by_cases h:((iM s d.name).isNone && !(jj s d.places).isEmpty)=true
  ·rw[cJ ((vN s d).trans (qQ3 h)),qQ3 h,ih];rfl
  ·rw[dX ((vN s d).trans (qQ2 h)),qQ2 h,ih]
theorem wL(l:List Nat):Lay 20 (.list (kj l)):=ou λd hd=>by obtain⟨g,_,rfl⟩:=au.mp hd;exact bQ _ _
theorem Fc(l:List Nat):(!cR (.list (kj l)) (.list []))=!l.isEmpty:=by cases l<;>rfl
def Rwl(ds:List aj)(d:aj):Prop:=∃(p:Pl)(n:Nat)(s:Ws)(dy:aj)(m t:Int),ds=[fL p,dy,N0 s,.int m,.int t]/\N3 p/\vM p n s/\d=WH (oN p s m t)
abbrev Nwl:List Str:=["_law_h","_law_day_here","_law_state","_law_m","_law_t","_law_desks_here","_law_desk_here","_law_goods","_law_at"]
theorem S6:cw Nwl ["_law_h","_law_day_here","_law_state","_law_m","_law_t"] (bL (top 54)):=by grind
theorem zda(F:kX K "_law_wild_load" "_law_wild_load" (top 54) f fd)(n:Na mg)(C1:bB P w K mg base 1 "_law_free" ["_law_h","_law_state","_law_desk_here"] (g7 K Rfr)):eW P w K mg base kD 2 f fd ["_law_h","_law_day_here","_law_state","_law_m","_law_t"] (g7 K Rwl):=
 jz F S6 (by ext) λ_ _ h=>by
  obtain⟨p,nn,s,dy,m,t,rfl,hp,hs,rfl⟩:=h;intro g6 A outer s0 H E hr;have nd:Nwl.Nodup:=S6.nd;have nc:(["_law_desk_here","_law_h","_law_state"]:List Str).Nodup:=∎
  have Sn:=hp.ok.dn;refine aG (vj 5 (own:=["_law_desk_here"]) (cap:=[0,2]) (tgt:=.one 0) (F:=Fwl s) rfl #[rfl,∎,∎,rfl,rfl,?_] (dY (du hr (ai 0 rfl) aW (pI p))) (λf s3 H3=>gJ 0 nc) rfl (small (by rw[ae];omega)) (λd hd=>?_) nd) ?_
  ·intro j hj
   rcases ax.mp hj with rfl|hj
   ·exact#[(by show(0:Nat)<9;decide),(by left),rfl]
   rcases ax.mp hj with rfl|hj
   ·exact#[(by show(2:Nat)<9;decide),(by left),rfl]
   ·cases hj
  ·obtain⟨z,hz,rfl⟩:=au.mp hd
   obtain⟨z1,z2,_⟩:=hp.dp z hz;obtain⟨l1,_⟩:=hs.load (au.mpr #[z,hz,rfl]);have hn:Nr (oM (iM s z.name))=(iM s z.name).isNone:=by cases iM s z.name<;>rfl
   refine#[_,rfl,λf s3 H3=>qk (VT.to (gk (e9 j' m8 (du hr (du hr (ai 2 rfl) aW (Fb s)) (gA 0 0 rfl rfl) l1) dQ (eV _)) (λ_=>VT.to (iI hr (wL _) jB (bF C1 hr (ao (ai 1 rfl) (ao (ai 2 rfl) (ao (ai 0 rfl) aR))) #[p,nn,s,z,fL p,rfl,hs,z1,z2,rfl]) (VO.ve (dS (ds:=[]) aR))) (Fc _))) ?_),λr ky f s3 H3=>?_]
   ·rw[vN,hn]
    by_cases h:((iM s z.name).isNone && !(jj s z.places).isEmpty)=true
    ·rw[qQ3 h,h];rfl
    ·rw[qQ2 h,eT.mpr h];rfl
   ·rw[vN]at ky
    split at ky
    ·cases ky;exact ai 0 rfl
    ·cases ky
  rw[Q5,show(p.desks.filter λd=>(iM s d.name).isNone && !(jj s d.places).isEmpty)=zR p s from rfl]
  refine dM 5 rfl ?_
  have hlay:Lay 20 (.list ((zR p s).map ej)):=ou (n:=19) λd hd=>by
   obtain⟨q,hq,rfl⟩:=au.mp hd;obtain⟨h1,h2,h3,h4,h5⟩:=hp.ok.desks q (kT.mp hq).1;refine iE (n:=18) λd hd=>?_
   simp only[ax,bD,or_false]at hd;rcases hd with rfl|rfl|rfl|rfl
   ·exact bu h1.ok.2
   ·refine bu ?_
    rcases h2 with h|h
    ·rw[h];symm
    ·exact h.ok.2
   ·exact Q0 q.rule
   ·exact iE (n:=17) λd hd=>by obtain⟨i,hi,rfl⟩:=au.mp hd;exact bu (h5 i hi).ok.2
  cases hI:zR p s with
  |nil=>
   rw[show oN p s m t=none by unfold oN;rw[hI]]
   exact dA (dq (VT.to (fh hr jB jB (VE.to (ai 5 rfl) rfl) (VO.ve (dS (ds:=[]) aR))) rfl) (aY (ck dQ))) rfl
  |cons d0 WK=>
   rw[hI]at hlay;have hw:oN p s m t=some (.take t (pickOf (d0::WK) d0 m).name (Di (jj s (pickOf (d0::WK) d0 m).places) m)):=by unfold oN;rw[hI]
   rw[hw];obtain⟨Q6,hm1⟩:=jD (l:=d0::WK) (d:=d0) (F:=ej) (by rw[bf];omega) m
   have wg:pickOf (d0::WK) d0 m∈zR p s:=by rw[hI];exact hm1
   generalize pickOf (d0::WK) d0 m=z at *
   obtain⟨hz,hzf⟩:=kT.mp wg;obtain⟨z1,z2,_⟩:=hp.dp z hz;have qY:(jj s z.places).isEmpty=false:=by
    have:=(dP.mp hzf).2;simpa using this
   obtain⟨fl,fg⟩:=zS hs z1;refine aG (bV (VT.to (fh hr hlay jB (ai 5 rfl) (VO.ve (dS (ds:=[]) aR))) rfl) bG) ?_
   refine aG (cu 6 (d:=ej z) (fU (ai 5 rfl) (VE.to (cq (ai 3 rfl) (fY (ai 5 rfl) n.len) (by rw[ae,bf];omega)) (by rw[ae])) Q6) nd) ?_
   refine aG (cu 7 (bF C1 hr (ao (ai 0 rfl) (ao (ai 2 rfl) (ao (ai 6 rfl) aR))) #[p,nn,s,z,fL p,rfl,hs,z1,z2,rfl]) nd) ?_
   generalize hL:jj s z.places=L at *
   have Lf:1<=L.length:=by cases L with|nil=>cases qY|cons _ _=>rw[bf];omega
   obtain⟨a,ha,ha2⟩:∃a:Nat,m/8%(L.length:Int)=a/\a<L.length:=#[(m/8%(L.length:Int)).toNat,by have:=cK (m/8) (show(L.length:Int)≠0 by omega);omega,by have:=dG (m/8) (show(0:Int)<L.length by omega);have:=cK (m/8) (show(L.length:Int)≠0 by omega);omega]
   refine aG (cu 8 (d:=.int (a:Nat)) (VE.to (cq (eI (ai 3 rfl) aE #[⋯,⋯]) (fY (ds:=kj L) (ai 7 rfl) n.len) (by rw[f7];omega)) (by rw[f7,ha])) nd) ?_
   obtain⟨c,hc,RW⟩:∃c:Nat,1+m/64%3=c/\c<=3:=#[(1+m/64%3).toNat,∅,∅]
   have eR:Di L m=if m/256%2=1 then((L.drop a++L.take a).take c).reverse else(L.drop a++L.take a).take c:=by
    unfold Di;rw[ha,hc,fy,fy]
   rw[eR]
   generalize hR:(L.drop a++L.take a).take c=R
   refine aG (ia 7 (ds:=kj R) (VO.to (h_ (ds:=kj (L.drop a++L.take a)) (VE.to (VO.ve (lb (d1:=kj (L.drop a)) (d2:=kj (L.take a)) (VE.to (VO.ve (h_ (ds:=kj L) (ai 7 rfl) (.yes (ai 8 rfl)) .no)) (by unfold kj;rw[oF,lC])) (VE.to (VO.ve (h_ (ds:=kj L) (ai 7 rfl) .no (.yes (ai 8 rfl)))) (by unfold kj;rw[oF,vk])) (small (by rw[f7,f7,cV,bh];omega)))) (by unfold kj;rw[aP])) .no (.yes (VE.to (dZ aE (cq (eI (ai 3 rfl) aE #[⋯,⋯]) aE ⋯)) (by rw[hc])))) (by unfold kj;rw[oF,vk,hR])) nd) ?_
   refine aG (δ':=[.val (fL p),.val dy,.val (N0 s),.val (.int m),.val (.int t),.val (.list ((d0::WK).map ej)),.val (ej z),.own (kj (if m/256%2=1 then R.reverse else R)),.val (.int (a:Nat))]) (R9 (VT.to (fh hr (bQ 20 _) (bQ 20 _) (cq (eI (ai 3 rfl) aE #[⋯,⋯]) aE ⋯) aE) (by rw[jd])) (λhk=>?_) λhk=>?_) ?_
   ·rw[qQ3 (qQ4 hk)]
    have e:kj R.reverse=(kj R).reverse:=List.map_reverse;rw[e];exact aY (Gv 7 rfl)
   ·rw[qQ2 (qQ5 hk)];exact bG
   refine dM 7 rfl ?_
   exact aY (ck (VE.to (dR (ao aW (ao (ai 4 rfl) (ao (gA 6 0 rfl rfl) (ao (jV kr vh (ao (ai 7 rfl) aR) n.tup rfl) aR))))) rfl))
end
theorem AO{K:aq}{d:aj}:Bg K (λx y H Q=>y=.non/\Q (.bl (!decide (x=.non))) H) d .none (.bool (!Nr d)):=λv u H0 H Q s r1 r2 k=>by
 cases r2;refine#[rfl,k _ _ _ (.refl s) ?_]
 cases r1<;>exact .bl _
theorem BJ{x:Str}(h:x∈p.lines.map (·.1)):gF (kG p) x=some (.int (xB.N2 p x)):=by
 obtain⟨h1,a,h2,h3⟩:=vL x p.lines h
 unfold gF kG xB.N2;rw[h1,h3];rfl
theorem xD(p:Pl):p.lines.map xk=(kG p).map L2.pairD:=by
 unfold kG;rw[aB];rfl
def Rri(ds:List aj)(d:aj):Prop:=∃(p:Pl)(n:Nat)(s:Ws)(t:Int),ds=[fL p,N0 s,.int t]/\N3 p/\vM p n s/\d=.list ((sk p s t).map qZ)
abbrev Nri:List Str:=["_law_h","_law_state","_law_t","_law_found","_law_name","_law_to","_law_rule_here","_law_places","_law_load"]
section
variable{P:bA}{w:cn}{K:aq}{mg:Str->Option aF}{base:cX}{f:aH}{k:Nat}
theorem S7:cw Nri ["_law_h","_law_state","_law_t"] (bL (top 55)):=by grind
theorem zdb(F:kX K "_law_ripe" "_law_ripe" (top 55) f fd)(n:Na mg)(md:mg "dict"=none):eW P w K mg base kD 1 f fd ["_law_h","_law_state","_law_t"] (g7 K Rri):=
 jz F S7 (by ext) λ_ _ h=>by
  obtain⟨p,nn,s,t,rfl,hp,hs,rfl⟩:=h;intro g6 A outer s0 H E hr;have nd:Nri.Nodup:=S7.nd;have Sn:=hp.ok.dn;refine aG (ia 3 (dS aR) nd) ?_
  refine aG (jN (tgt:=.tup [4,5,6,7]) bY rfl (dY (du hr (ai 0 rfl) aW (pI p)))
   (gK rfl (bT (gJ 4 nd) (bT (gJ 5 nd) (bT (gJ 6 nd) (bT (gJ 7 nd) fF)))))
   (λi=>[.val (fL p),.val (N0 s),.val (.int t),.own (((p.desks.take i).filterMap (qQ p s t)).map qZ),.un,.un,.un,.un,.un]) p.desks.length rfl (by rw[ae];exact aT _) (λi d hi hd=>?_) (.inl #[by rw[ae],rfl])) ?_
  ·obtain⟨z,hz,rfl⟩:∃z,p.desks[i]?=some z/\d=ej z:=by
    rw[ay,av hi]at hd
    cases hd;exact#[_,av hi,rfl]
   have Wj:=aK hz;obtain⟨z1,z2,z3⟩:=hp.dp z Wj;obtain⟨l1,l2⟩:=hs.load (au.mpr #[z,Wj,rfl]);have zto:lX z.to:=by
    rcases(hp.ok.desks z Wj).2.1 with h|h
    ·rw[h];show bW _=true;symm
    ·exact h.ok.2
   have hlen:((p.desks.take i).filterMap (qQ p s t)).length<=60:=bU (iD _ _) (by rw[bh];omega)
   have e:(p.desks.take (i+1)).filterMap (qQ p s t)=(p.desks.take i).filterMap (qQ p s t)++(qQ p s t z).toList:=by
    rw[cv,hz,jH]
    congr 1
   rw[e];refine#[_,rfl,?_]
   refine aG (cu 8 (du hr (du hr (ai 1 rfl) aW (Fb s)) (ai 4 rfl) l1) nd) ?_
   generalize(p.desks.take i).filterMap (qQ p s t)=rs at *
   have WL:∀{x:Slot},Ld [.val (fL p),.val (N0 s),.val (.int t),x,.val (.str z.name),.val (.str z.to),.val (Lg z.rule),.val (.tuple (z.places.map .str)),.val (oM (iM s z.name))] [.val (fL p),.val (N0 s),.val (.int t),x,.un,.un,.un,.un,.un]:=#[.inr rfl,.inr rfl,.inr rfl,.inr rfl,.inl rfl,.inl rfl,.inl rfl,.inl rfl,.inl rfl,trivial];cases hL:iM s z.name with
   |none=>
    rw[show qQ p s t z=none by unfold qQ;rw[hL],nX,b9]
    rw[hL]at WL;exact fj (aY (bV (VT.to (gk (k2:=false) (VT.to (e9 mj AO (ai 8 rfl) dQ (eV _)) rfl) (λz=>by cases z)) rfl) bG)) WL
   |some l=>
    rw[hL]at WL;have hl:=(l2 l hL).1;have er:qQ p s t z=if(decide (l.2<=t)&&xB p s z l.1)=true then some (.put t z.name l.1)else none:=by unfold qQ;rw[hL]
    rw[er];by_cases c1:l.2<=t
    ·by_cases c2:xB p s z l.1=true
     ·rw[qQ3 (by rw[qQ1 c1,c2];rfl),HW,aP,kY]
      refine fj (aY (dq (VT.to (gk (VT.to (e9 mj AO (ai 8 rfl) dQ (eV _)) rfl) (λ_=>Ea (gA 8 1 rfl rfl) (ai 2 rfl))) (by rw[qQ1 c1];rfl)) (aY (dq (VT.to (h8 (kF hr (bu zto) 5 rfl (bN _ _)) (λhk=>?_)) (by unfold xB at c2;exact c2)) (aY (gO 3 rfl (VE.to (dR (ao aW (ao (ai 2 rfl) (ao (ai 4 rfl) (ao (gA 8 0 rfl rfl) aR))))) rfl) (fw (by rw[ae];omega))))))))  WL
      have Ko:=z3.resolve_left (qQ5 hk);obtain⟨h1,h2,_⟩:=hs.place (bq p.gates Ko);exact Ea (VE.to (dZ (fY (vo hr (du hr (ai 1 rfl) aW (pR s)) (ai 5 rfl) h1) n.len) (mr (gA 8 0 rfl rfl) n.len)) (by rw[f7,f7])) (du hr (zp (VE.to (du hr (ai 0 rfl) aW (vy p)) (by rw[xD])) (by rw[jX];exact hp.ln) rfl md) (ai 5 rfl) (BJ Ko))
     ·rw[qQ2 (by rw[eT.mpr c2,AW];decide),nX,b9]
      refine fj (aY (dq (VT.to (gk (VT.to (e9 mj AO (ai 8 rfl) dQ (eV _)) rfl) (λ_=>Ea (gA 8 1 rfl rfl) (ai 2 rfl))) (by rw[qQ1 c1];rfl)) (aY (bV (VT.to (h8 (kF hr (bu zto) 5 rfl (bN _ _)) (λhk=>?_)) (by unfold xB at c2;exact eT.mpr c2)) bG)))) WL
      have Ko:=z3.resolve_left (qQ5 hk);obtain⟨h1,h2,_⟩:=hs.place (bq p.gates Ko);exact Ea (VE.to (dZ (fY (vo hr (du hr (ai 1 rfl) aW (pR s)) (ai 5 rfl) h1) n.len) (mr (gA 8 0 rfl rfl) n.len)) (by rw[f7,f7])) (du hr (zp (VE.to (du hr (ai 0 rfl) aW (vy p)) (by rw[xD])) (by rw[jX];exact hp.ln) rfl md) (ai 5 rfl) (BJ Ko))
    ·rw[qQ0 c1,Bool.false_and,qQ2 ⋯,nX,b9]
     exact fj (aY (bV (VT.to (gk (VT.to (e9 mj AO (ai 8 rfl) dQ (eV _)) rfl) (λ_=>Ea (gA 8 1 rfl rfl) (ai 2 rfl))) (by rw[qQ0 c1];rfl)) bG)) WL
  rw[cy];exact dM 3 rfl (aY (ck (ai 3 rfl)))
end
theorem uN{α:Type}:∀{l:List (Str×α)}{q:Str×α},(l.map (·.1)).Nodup->q∈l->(l.find? λz=>decide (z.1=q.1))=some q
 | [],_,_,h=>by cases h
 |z::l,q,hn,h=>by
  obtain⟨h1,h2⟩:=cj.mp hn;rw[cO]
  rcases ax.mp h with rfl|h
  ·rw[qQ1 rfl]
  ·rw[qQ0 λe=>h1 (au.mpr #[q,h,e.symm])]
   exact uN h2 h
theorem N4(hp:N3 p)(hs:vM p n s){q:Str×List Nat}(h:q∈s.places):iy s q.1=q.2:=by
 unfold iy;rw[uN (by rw[hs.nm];exact hp.pn) h];rfl
def Fco(s:Ws):aj->Option aj
 | .int g=>if(!decide (g∈AK s))=true then some (.int g)else none
 |_=>none
theorem VF(s:Ws)(g:Nat):decide ((g:Int)∈AK s)=decide (g∈s.met):=by
 rw[eY,decide_eq_true_iff,decide_eq_true_iff]
 constructor
 ·intro h
  obtain⟨z,hz,e⟩:=au.mp h;rwa[<-yE e]
 ·exact λh=>au.mpr #[g,h,rfl]
theorem Q7(n:Nat)(s:Ws):(iJ n).filterMap (Fco s)=kj (xC n s):=by
 have go:∀l:List Nat,((l.map λ(i:Nat)=>c9 i).filterMap (Fco s))=(l.filter λg=>!decide (g∈s.met)).map λ(g:Nat)=>c9 g:=by
  intro l
  induction l with
  |nil=>rfl
  |cons g l ih=>
   rw[aA,gf];have e:Fco s (.int g)=if(!decide (g∈s.met))=true then some (.int g)else none:=by
    show(if(!decide ((g:Int)∈AK s))=true then _ else _)=_
    rw[VF]
   by_cases h:(!decide (g∈s.met))=true
   ·rw[cJ (e.trans (qQ3 h)),qQ3 h,ih];rfl
   ·rw[dX (e.trans (qQ2 h)),qQ2 h,ih]
 exact go _
theorem N5{e:We}(h:∀t d gs,e=.take t d gs\/e=.put t d gs->lX d):Lay (n+2) (qZ e):=by
 have lg:∀l:List Nat,Lay (n+1) (.tuple (kj l)):=λl=>iE λd hd=>by obtain⟨g,_,rfl⟩:=au.mp hd;exact bQ _ _
 cases e with
 |come t g=>
  refine iE λd hd=>?_
  simp[ax,bD,or_false]at hd;rcases hd with rfl|rfl|rfl
  ·exact bu ∎
  ·exact bQ _ _
  ·exact bQ _ _
 |spoil t g=>
  refine iE λd hd=>?_
  simp[ax,bD,or_false]at hd;rcases hd with rfl|rfl|rfl
  ·exact bu ∎
  ·exact bQ _ _
  ·exact bQ _ _
 |take t x gs=>
  refine iE λd hd=>?_
  simp[ax,bD,or_false]at hd;rcases hd with rfl|rfl|rfl|rfl
  ·exact bu ∎
  ·exact bQ _ _
  ·exact bu (h t x gs (.inl rfl))
  ·exact lg gs
 |put t x gs=>
  refine iE λd hd=>?_
  simp[ax,bD,or_false]at hd;rcases hd with rfl|rfl|rfl|rfl
  ·exact bu ∎
  ·exact bQ _ _
  ·exact bu (h t x gs (.inr rfl))
  ·exact lg gs
theorem Fd{t:Int}{e:We}(h:e∈sk p s t):∃d∈p.desks,∃l,iM s d.name=some l/\l.2<=t/\xB p s d l.1=true/\e=.put t d.name l.1:=by
 obtain⟨d,hd,he⟩:=jl.mp h;unfold qQ at he;cases hL:iM s d.name with
 |none=>rw[hL]at he;cases he
 |some l=>
  rw[hL]at he
  dsimp only at he
  split at he
  ·rename_i hc
   cases he;obtain⟨c1,c2⟩:=dP.mp hc;exact#[d,hd,l,hL,qQ4 c1,c2,rfl]
  ·cases he
theorem N6(hp:N3 p)(s:Ws)(t:Int):Lay 20 (.list ((sk p s t).map qZ)):=ou λd hd=>by
 obtain⟨e,he,rfl⟩:=au.mp hd;obtain⟨k,hk,l,_,_,_,rfl⟩:=Fd he;refine N5 λt' d gs h=>?_
 rcases h with h|h
 ·cases h
 ·cases h;exact(hp.ok.desks k hk).1.ok.2
theorem Jk(l:List We):(!cR (.list (l.map qZ)) (.list []))=!l.isEmpty:=by cases l<;>rfl
theorem S8(m:Int):jg (.int (m%8)) (.tuple [.int 3,.int 4,.int 5])=(decide (m%8=3)||(decide (m%8=4)||decide (m%8=5))):=by
 rcases(by omega:m%8=0\/m%8=1\/m%8=2\/m%8=3\/m%8=4\/m%8=5\/m%8=6\/m%8=7)with e|e|e|e|e|e|e|e<;>rw[e]<;>rfl
def Rwe(ds:List aj)(d:aj):Prop:=∃(p:Pl)(dy:List aj)(s:Ws)(m t:Int),ds=[fL p,.list dy,N0 s,.int m,.int t]/\N3 p/\vM p dy.length s/\d=WH (BI p dy.length s m t)
abbrev Nwe:List Str:=["_law_h","_law_day_here","_law_state","_law_m","_law_t","_law_waiting","_law_name","_law_coming","_law_ripe_here"]
section
variable{P:bA}{w:cn}{K:aq}{mg:Str->Option aF}{base:cX}{f:aH}{k:Nat}
theorem S9:cw Nwe ["_law_h","_law_day_here","_law_state","_law_m","_law_t"] (bL (top 56)):=by grind
theorem zdc(F:kX K "_law_wild_entry" "_law_wild_entry" (top 56) f fd)(n:Na mg)(C1:bB P w K mg base 1 "_law_ripe" ["_law_h","_law_state","_law_t"] (g7 K Rri))(C2:bB P w K mg base 2 "_law_wild_load" ["_law_h","_law_day_here","_law_state","_law_m","_law_t"] (g7 K Rwl)):eW P w K mg base kD 3 f fd ["_law_h","_law_day_here","_law_state","_law_m","_law_t"] (g7 K Rwe):=
 jz F S9 (by ext) λ_ _ h=>by
  obtain⟨p,dy,s,m,t,rfl,hp,hs,rfl⟩:=h;intro g6 A outer s0 H E hr;have nd:Nwe.Nodup:=S9.nd;have gq:eB 1 _:=hr.mono ∅
  have n30:=hs.n30;have few:=hs.few;have mD:s.places.length<=120:=by
   have:=qQ6 ft hs.nm;rw[ae,aV,ae]at this;have:=hp.ok.gn;have:=hp.ok.ln;omega
  refine aG (ia 5 (ds:=[]) (dS aR) nd) ?_
  refine aG (jN (tgt:=.one 6) bY rfl (MV (du hr (ai 2 rfl) aW (pR s))) (gJ 6 nd) (λi=>[.val (fL p),.val (.list dy),.val (N0 s),.val (.int m),.val (.int t),.own (kj ((s.places.take i).map (·.2)).flatten),.un,.un,.un]) s.places.length rfl (by unfold fE;rw[ae,ae];exact aT _) (λi d hi hd=>?_) (.inl #[by unfold fE;rw[ae,ae],rfl])) ?_
  ·obtain⟨q,hq,rfl⟩:∃q,s.places[i]?=some q/\d=.str q.1:=by
    unfold fE at hd;rw[ay,ay,av hi]at hd
    cases hd;exact#[_,av hi,rfl]
   have hqm:=aK hq;have Yv:=(lG (s:=s) (x:=q.1) (au.mpr #[q,hqm,rfl])).1;rw[N4 hp hs hqm]at Yv;have e:((s.places.take (i+1)).map (·.2)).flatten=((s.places.take i).map (·.2)).flatten++q.2:=by
    rw[cv,hq,aP,nM];simp
   have Lf:(((s.places.take i).map (·.2)).flatten).length<=30:=by
    have e2:(s.places.map (·.2)).flatten=((s.places.take i).map (·.2)).flatten++((s.places.drop i).map (·.2)).flatten:=by rw[<-nM,<-aP,fz]
    rw[e2,aV]at few;omega
   have Pu:=Dh hqm;rw[e];refine#[_,rfl,?_]
   refine dM 5 rfl ?_
   refine fj (aY (ia 5 (VO.to (lb (d2:=kj q.2) (ai 5 rfl) (vo hr (du hr (ai 2 rfl) aW (pR s)) (ai 6 rfl) Yv) (small (by rw[f7,f7];omega))) (by unfold kj;rw[aP])) nd)) #[.inr rfl,.inr rfl,.inr rfl,.inr rfl,.inr rfl,.inr rfl,.inl rfl,.inl rfl,.inl rfl,trivial]
  rw[cy,show((s.places.map (·.2)).flatten)=eD s from rfl]
  refine dM 5 rfl ?_
  have nc:(["_law_good","_law_state"]:List Str).Nodup:=∎
  refine aG (vj 7 (own:=["_law_good"]) (cap:=[2]) (tgt:=.one 0) (F:=Fco s) (ds:=iJ dy.length) rfl #[rfl,∎,∎,rfl,rfl,?_] (pF (fY (ds:=dy) (ai 1 rfl) n.len) n.rng ∅ ∅) (λf s3 H3=>gJ 0 nc) rfl (small (by rw[jv];omega)) (λd hd=>?_) nd) ?_
  ·intro j hj
   rcases ax.mp hj with rfl|hj
   ·exact#[(by show(2:Nat)<9;decide),(by left),rfl]
   ·cases hj
  ·obtain⟨i,hi,rfl⟩:=au.mp hd
   refine#[_,rfl,λf s3 H3=>qk (VT.to (Gu hr (ai 0 rfl) (du hr (ai 1 rfl) aW (VB s))) ?_),λr ky f s3 H3=>?_]
   ·show _=(if(!decide ((i:Int)∈AK s))=true then some (c9 (i:Int))else none).isSome
    by_cases h:(!decide ((i:Int)∈AK s))=true
    ·rw[qQ3 h,h];rfl
    ·rw[qQ2 h,eT.mpr h];rfl
   ·have ky:(if(!decide ((i:Int)∈AK s))=true then some (c9 (i:Int))else none)=some r:=ky
    split at ky
    ·cases ky;exact ai 0 rfl
    ·cases ky
  rw[Q7];refine dM 7 rfl ?_
  refine aG (cu 8 (bF C1 gq (ao (ai 0 rfl) (ao (ai 2 rfl) (ao (ai 4 rfl) aR))) #[p,dy.length,s,t,rfl,hp,hs,rfl]) nd) ?_
  have hrn:(sk p s t).length<=60:=bU (iD _ _) hp.ok.dn;have hlr:=N6 hp s t;have wl:∀{δ:List Slot}{ex:bK},True:=λ{_ _}=>trivial
  unfold BI
  generalize hRW:sk p s t=rs at *
  by_cases c1:(decide (5<m%8) && !rs.isEmpty)=true
  ·rw[qQ3 c1]
   have hl:1<=rs.length:=by cases rs with|nil=>simp at c1|cons _ _=>rw[bf];omega
   obtain⟨Q6,_⟩:=jD (F:=qZ) hl (m/8);exact dA (dq (VT.to (gk (Bh (cq (ai 3 rfl) aE ⋯) aE) (λ_=>VT.to (iI hr hlr jB (ai 8 rfl) (VO.ve (dS (ds:=[]) aR))) (Jk _))) c1) (aY (ck (VE.to (fU (ai 8 rfl) (VE.to (cq (eI (ai 3 rfl) aE #[⋯,⋯]) (fY (ai 8 rfl) n.len) (by rw[ae];omega)) (by rw[ae])) Q6) rfl)))) rfl
  rw[qQ2 c1];refine aG (bV (VT.to (gk (Bh (cq (ai 3 rfl) aE ⋯) aE) (λ_=>VT.to (iI hr hlr jB (ai 8 rfl) (VO.ve (dS (ds:=[]) aR))) (Jk _))) (eT.mpr c1)) bG) ?_
  have hnn:(!Nr (WH (oN p s (m/8) t)))=(oN p s (m/8) t).isSome:=by
   cases oN p s (m/8) t with
   |none=>rfl
   |some e=>cases e<;>rfl
  have Zy:Lay 20 (.tuple [.int 3,.int 4,.int 5]):=iE (n:=19) λd hd=>by
   simp only[ax,bD,or_false]at hd;rcases hd with rfl|rfl|rfl<;>exact bQ _ _
  by_cases c2:((decide (m%8=3)||(decide (m%8=4)||decide (m%8=5)))&&(oN p s (m/8) t).isSome)=true
  ·rw[qQ3 c2]
   exact dA (dq (VT.to (gk (VT.to (Ec hr rfl (bQ 20 _) Zy (cq (ai 3 rfl) aE ⋯) (dR (ao aE (ao aE (ao aE aR))))) (S8 m)) (λ_=>VT.to (e9 mj AO (bF C2 (hr.mono ∅) (ao (ai 0 rfl) (ao (ai 1 rfl) (ao (ai 2 rfl) (ao (eI (ai 3 rfl) aE #[⋯,⋯]) (ao (ai 4 rfl) aR))))) #[p,dy.length,s,.list dy,m/8,t,rfl,hp,hs,rfl]) dQ (eV _)) hnn)) c2) (aY (ck (bF C2 (hr.mono ∅) (ao (ai 0 rfl) (ao (ai 1 rfl) (ao (ai 2 rfl) (ao (eI (ai 3 rfl) aE #[⋯,⋯]) (ao (ai 4 rfl) aR))))) #[p,dy.length,s,.list dy,m/8,t,rfl,hp,hs,rfl])))) rfl
  rw[qQ2 c2];refine aG (bV (VT.to (gk (VT.to (Ec hr rfl (bQ 20 _) Zy (cq (ai 3 rfl) aE ⋯) (dR (ao aE (ao aE (ao aE aR))))) (S8 m)) (λ_=>VT.to (e9 mj AO (bF C2 (hr.mono ∅) (ao (ai 0 rfl) (ao (ai 1 rfl) (ao (ai 2 rfl) (ao (eI (ai 3 rfl) aE #[⋯,⋯]) (ao (ai 4 rfl) aR))))) #[p,dy.length,s,.list dy,m/8,t,rfl,hp,hs,rfl]) dQ (eV _)) hnn)) (eT.mpr c2)) bG) ?_
  by_cases c3:(decide (m%32=2) && !(eD s).isEmpty)=true
  ·rw[qQ3 c3]
   have hl:1<=(eD s).length:=by cases h:eD s with|nil=>rw[h]at c3;simp at c3|cons _ _=>rw[bf];omega
   obtain⟨Q6,_⟩:=jD (d:=(0:Nat)) hl (m/32)
   exact dA (dq (VT.to (gk (VT.to (fh hr (bQ 20 _) (bQ 20 _) (cq (ai 3 rfl) aE ⋯) aE) (jd _ _)) (λ_=>VT.to (iI hr (wL _) jB (ai 5 rfl) (VO.ve (dS (ds:=[]) aR))) (Fc _))) c3) (aY (ck (VE.to (dR (ao aW (ao (ai 4 rfl) (ao (fU (ai 5 rfl) (VE.to (cq (eI (ai 3 rfl) aE #[⋯,⋯]) (fY (ai 5 rfl) n.len) (by rw[f7];omega)) (by rw[f7])) Q6) aR)))) rfl)))) rfl
  rw[qQ2 c3];refine aG (bV (VT.to (gk (VT.to (fh hr (bQ 20 _) (bQ 20 _) (cq (ai 3 rfl) aE ⋯) aE) (jd _ _)) (λ_=>VT.to (iI hr (wL _) jB (ai 5 rfl) (VO.ve (dS (ds:=[]) aR))) (Fc _))) (eT.mpr c3)) bG) ?_
  by_cases c4:(!(xC dy.length s).isEmpty)=true
  ·rw[qQ3 c4]
   have hl:1<=(xC dy.length s).length:=by cases h:xC dy.length s with|nil=>rw[h]at c4;simp at c4|cons _ _=>rw[bf];omega
   obtain⟨Q6,_⟩:=jD (d:=(0:Nat)) hl (m/8)
   exact dA (dq (VT.to (iI hr (wL _) jB (ai 7 rfl) (VO.ve (dS (ds:=[]) aR))) ((Fc _).trans c4)) (aY (ck (VE.to (dR (ao aW (ao (ai 4 rfl) (ao (fU (ai 7 rfl) (VE.to (cq (eI (ai 3 rfl) aE #[⋯,⋯]) (fY (ai 7 rfl) n.len) (by rw[f7];omega)) (by rw[f7])) Q6) aR)))) rfl)))) rfl
  rw[qQ2 c4];refine aG (bV (VT.to (iI hr (wL _) jB (ai 7 rfl) (VO.ve (dS (ds:=[]) aR))) ((Fc _).trans (eT.mpr c4))) bG) ?_
  by_cases c5:(!rs.isEmpty)=true
  ·rw[qQ3 c5]
   have hl:1<=rs.length:=by cases rs with|nil=>simp at c5|cons _ _=>rw[bf];omega
   obtain⟨Q6,_⟩:=jD (F:=qZ) hl (m/8);exact dA (dq (VT.to (iI hr hlr jB (ai 8 rfl) (VO.ve (dS (ds:=[]) aR))) ((Jk _).trans c5)) (aY (ck (VE.to (fU (ai 8 rfl) (VE.to (cq (eI (ai 3 rfl) aE #[⋯,⋯]) (fY (ai 8 rfl) n.len) (by rw[ae];omega)) (by rw[ae])) Q6) rfl)))) rfl
  rw[qQ2 c5];refine aG (bV (VT.to (iI hr hlr jB (ai 8 rfl) (VO.ve (dS (ds:=[]) aR))) ((Jk _).trans (eT.mpr c5))) bG) ?_
  exact aY (ck (bF C2 (hr.mono ∅) (ao (ai 0 rfl) (ao (ai 1 rfl) (ao (ai 2 rfl) (ao (eI (ai 3 rfl) aE #[⋯,⋯]) (ao (ai 4 rfl) aR))))) #[p,dy.length,s,.list dy,m/8,t,rfl,hp,hs,rfl]))
end
end Mg
namespace Mg
open L2 PySem PyProof.Rows
variable{a:aH}{H:Hp}{l:Option (List Nat×Int)}{K:aq}{x:Str}{q:Str×List Nat}{s:Ws}
def sY(s:Ws):List (Str×List aj):=s.places.map λq=>(q.1,kj q.2)
def Q8(s:Ws)(lv:List V):List (Key×V):=(s.loads.zip lv).map λz=>(aU z.1.1,z.2)
def OW(s:Ws):List (Key×V):=s.met.map λ(g:Nat)=>(jw (g:Int),V.bl true)
def Q9(b c m:aH)(t:Int):List (Key×V):=[(aU "places",.ref b),(aU "loads",.ref c),(aU "met",.ref m),(aU "time",.int t)]
structure vO(K:aq)(H0 H:Hp)(a b c m:aH)(cs:List aH)(lv:List V)(s:Ws):Prop where
 nd:(a::b::c::m::cs).Nodup
 st:H a=some (.dK (Q9 b c m s.time))
 pl:H b=some (.dK (tH (sY s) cs))
 ls:Yr K H0 H (sY s) cs
 ld:H c=some (.dK (Q8 s lv))
 lv:cz K H0 lv (s.loads.map λq=>oM q.2)
 me:H m=some (.dK (OW s))
def xX(K:aq)(a:aH)(s:Ws):OR:=λH0 H as=>∃b c m cs lv,as=a::b::c::m::cs/\vO K H0 H a b c m cs lv s
theorem xX.mono:gS (xX K a s):=by
 rintro H0 H Ha Hb as ⟨b,c,m,cs,lv,rfl,h⟩ sm hb
 refine#[b,c,m,cs,lv,rfl,h.nd,?_,?_,#[h.ls.1,λi x q h1 h2=>?_],?_,h.lv.mono sm,?_]
 ·rw[hb a (by simp)];exact h.st
 ·rw[hb b (by simp)];exact h.pl
 ·obtain⟨xs,z1,z2⟩:=h.ls.2 i x q h1 h2
  exact#[xs,by rw[hb x (by simp[aK h1])];exact z1,z2.mono sm]
 ·rw[hb c (by simp)];exact h.ld
 ·rw[hb m (by simp)];exact h.me
theorem Jl{H0 C: Hp}(sm:cU H0 C):∀{kl:List (Str×List aj)}{cs:List aH},Yr K H0 H kl cs->(∀x∈cs,C x=H x)->cz K C ((tH kl cs).map (·.2)) (kl.map λq=>ik q.2)/\(tH kl cs).map (·.1)=kl.map λq=>(aU q.1:Key)
 | [],cs,_,_=>#[.nil,rfl]
 |q::kl,[],h,_=>by cases h.1
 |q::kl,x::cs,h,hc=>by
  obtain⟨xs,z1,z2⟩:=h.2 0 x q rfl rfl;have h':Yr K H0 H kl cs:=#[by have:=h.1;simpa using this,λi y r e1 e2=>h.2 (i+1) y r ↑e1 ↑e2]
  obtain⟨i1,i2⟩:=Jl sm h' λy hy=>hc y (aN _ hy)
  have e:tH (q::kl) (x::cs)=(aU q.1,.ref x)::tH kl cs:=rfl;rw[e];exact#[.cons (.lst (jy.of ((hc x aM).trans z1)) (z2.mono sm)) i1,by rw[aA,i2];rfl]
theorem Dj{s:Ws}:∀{ls:List (Str×Option (List Nat×Int))}{lv:List V},lv.length=ls.length->((ls.zip lv).map λz=>((aU z.1.1:Key),z.2)).map (·.1)=ls.map (λq=>(aU q.1:Key))/\((ls.zip lv).map λz=>((aU z.1.1:Key),z.2)).map (·.2)=lv
 | [],[],_=>#[rfl,rfl]
 | [],_::_,h=>by cases h
 |_::_,[],h=>by cases h
 |q::ls,v::lv,h=>by
  obtain⟨i1,i2⟩:=Dj (s:=s) ↑h
  exact#[by rw[dg,aA,aA,i1];rfl,by rw[dg,aA,aA,i2]]
theorem xX.known(Ha Hb:Hp)(as:List aH)(sb:cU Ha Hb)(h:xX K a s Ha Hb as)(ho:∀x∈as,Ha x=none):∃b ws,b∈as/\Hb b=some (.dK ws)/\∀o,Rep K (jG as (upd Hb b (.p_ o (.dK ws))) Ha) (.ref a) (N0 s):=by
 obtain⟨b,c,m,cs,lv,rfl,w⟩:=h;refine#[b,_,by simp,w.pl,λo=>?_]
 have nd:=w.nd;simp[cj,ax,not_or]at nd;obtain⟨⟨ab,ac,am,S_⟩,⟨bc,bm,S'⟩,⟨cm,VG⟩,VH,OV⟩:=nd;have sm:cU Ha (jG (a::b::c::m::cs) (upd Hb b (.p_ o (.dK (tH (sY s) cs)))) Ha):=λx u e=>by
  have hx:x∉a::b::c::m::cs:=λy=>by rw[ho x y]at e;cases e
  rwa[jO hx]
 have at':∀x,x∈a::b::c::m::cs->x≠b->jG (a::b::c::m::cs) (upd Hb b (.p_ o (.dK (tH (sY s) cs)))) Ha x=Hb x:=λx hx hb=>by rw[jb hx,aL hb]
 have ll:=w.lv.length;rw[ae]at ll;obtain⟨k1,k2⟩:=Dj (s:=s) ll;obtain⟨r1,r2⟩:=Jl sm w.ls λx hx=>at' x (by simp[hx]) λy=>S' (y▸hx)
 have ea:=(at' a (by simp) ab).trans w.st
 have eb:jG (a::b::c::m::cs) (upd Hb b (.p_ o (.dK (tH (sY s) cs)))) Ha b=some (.p_ o (.dK (tH (sY s) cs))):=by rw[jb (by simp),aZ]
 have ec:=(at' c (by simp) (bJ bc)).trans w.ld
 have em:=(at' m (by simp) (bJ bm)).trans w.me
 have WM:=w.lv.mono sm
 generalize jG (a::b::c::m::cs) _ Ha=C at *
 have p1:Rep K C (.ref b) (Gr (fE s)):=by
  refine .Uv eb ?_ ?_
  ·have:=qQ6 (tN nh) r2
   rw[aB,aB]at this;unfold fE;rw[aB,aB];unfold sY at this;rw[aB]at this;exact this.symm
  ·unfold fE
   rw[aB,aB];unfold sY at r1;rwa[aB]at r1
 have p2:Rep K C (.ref c) (lV (jY s)):=by
  refine CP ec (by rw[show(Q8 s lv).map (·.1)=_ from k1];unfold jY;rw[aB];rfl) ?_
  rw[show(Q8 s lv).map (·.2)=lv from k2]
  unfold jY;rwa[aB]
 have p3:Rep K C (.ref m) (Gs (AK s)):=by
  unfold Gs AK;refine .dct em ?_ ?_
  ·unfold OW
   rw[aB,aB,aB];rfl
  ·unfold OW
   rw[aB,aB,aB];have go:∀l:List Nat,cz K C (l.map ((λ(p:Key×V)=>p.2)∘λ(g:Nat)=>(jw g,V.bl true))) (l.map ((λ(p:aj×aj)=>p.2)∘(λ(g:Int)=>(c9 g,i_ true))∘λ(g:Nat)=>g)):=by
    intro l
    induction l with
    |nil=>exact .nil
    |cons g l ih=>exact .cons (.bl true) ih
   exact go s.met
 exact CP ea rfl (.cons p1 (.cons p2 (.cons p3 (.cons (.int _) .nil))))
theorem xX.Zz(Ha Hb:Hp)(as:List aH)(h:xX K a s Ha Hb as):∀x∈as,Ki Hb x:=by
 obtain⟨b,c,m,cs,lv,rfl,w⟩:=h;intro x hx xs;simp only[ax]at hx;rcases hx with rfl|rfl|rfl|rfl|hx
 ·rw[w.st];exact#[nofun,λo z=>by cases z]
 ·rw[w.pl];exact#[nofun,λo z=>by cases z]
 ·rw[w.ld];exact#[nofun,λo z=>by cases z]
 ·rw[w.me];exact#[nofun,λo z=>by cases z]
 ·obtain⟨i,hi,e⟩:=j7.mp hx
  obtain⟨ys,z1,_⟩:=w.ls.2 i x _ (by rw[<-e];exact av hi) (av (by rw[<-w.ls.1];exact hi))
  rw[z1];exact#[nofun,λo z=>by cases z]
def nV(gs:List Nat):List V:=gs.map λ(g:Nat)=>V.int (g:Int)
theorem Dl:∀(gs:List Nat),cz K H (nV gs) (kj gs)
 | []=>.nil
 |g::gs=>.cons (.int _) (Dl gs)
theorem yu:∀{gs:List Nat}{xs:List V},cz K H xs (kj gs)->xs=nV gs
 | [],xs,r=>by cases r;rfl
 |g::gs,xs,r=>by
  have r':=r;cases r' with
  |cons a t=>cases a;rw[yu t];rfl
def sr(s:Ws)(x:Str)(f:List Nat->List Nat):Ws:={ s with places:=s.places.map λq=>if q.1=x then(q.1,f q.2)else q }
def vP(s:Ws)(x:Str)(l:Option (List Nat×Int)):Ws:={ s with loads:=s.loads.map λq=>if q.1=x then(q.1,l)else q }
def kR(s:Ws)(t:Int):Ws:={ s with time:=t }
def Hq(s:Ws)(g:Nat):Ws:={ s with met:=s.met ++ [g] }
theorem sZ{α:Type}(x:Str)(f:α->α)(l:List (Str×α)):(l.map λq=>if q.1=x then(q.1,f q.2)else q).map (·.1)=l.map (·.1):=by
 rw[aB];refine eQ λq _=>?_
 show(if q.1=x then(q.1,f q.2)else q).1=q.1
 split<;>rfl
theorem N7{α:Type}{f:α->α}{l:List (Str×α)}{i:Nat}{q:Str×α}(h:(l.map λq=>if q.1=x then(q.1,f q.2)else q)[i]?=some q):∃z,l[i]?=some z/\q=if z.1=x then(z.1,f z.2)else z:=by
 rw[ay]at h
 cases e:l[i]? with
 |none=>rw[e]at h;cases h
 |some z=>rw[e]at h;exact#[z,rfl,(cG h).symm]
section
variable{K:aq}{H0 H:Hp}{a b c m:aH}{cs:List aH}{lv:List V}{s:Ws}
theorem vO.apart(w:vO K H0 H a b c m cs lv s):(a≠b/\a≠c/\a≠m/\a∉cs)/\(b≠c/\b≠m/\b∉cs)/\(c≠m/\c∉cs)/\m∉cs/\cs.Nodup:=by
 have nd:=w.nd;simp[cj,ax,not_or]at nd;exact nd
theorem vO.at(w:vO K H0 H a b c m cs lv s)(hn:(s.places.map (·.1)).Nodup)(hq:q∈s.places):∃(j:Nat)(p:aH),s.places[j]?=some q/\cs[j]?=some p/\p∈cs/\gQ (tH (sY s) cs) (aU q.1)=some (.ref p)/\H p=some (.lst (nV q.2)):=by
 obtain⟨j,hj,e⟩:=j7.mp hq;have hj':s.places[j]?=some q:=by rw[av hj,e]
 have hl:cs.length=s.places.length:=by have:=w.ls.1;unfold sY at this;rwa [ae]at this
 have hc:cs[j]?=some cs[j]:=av ∅
 have hk:(sY s)[j]?=some (q.1,kj q.2):=by unfold sY;rw[ay,hj'];rfl
 obtain⟨xs,z1,z2⟩:=w.ls.2 j _ _ hc hk;rw[yu z2]at z1;have Lp:((sY s).map (·.1)).Nodup:=by unfold sY;rw[aB];exact hn
 exact#[j,_,hj',hc,cZ _,IX Lp hk hc,z1]
theorem vO.set(w:vO K H0 H a b c m cs lv s)(hn:(s.places.map (·.1)).Nodup){j:Nat}{p:aH}(hj:s.places[j]?=some q)(hp:cs[j]?=some p)(f:List Nat->List Nat):vO K H0 (upd H p (.lst (nV (f q.2)))) a b c m cs lv (sr s q.1 f):=by
 obtain⟨⟨ab,ac,am,S_⟩,⟨bc,bm,S'⟩,⟨cm,VG⟩,VH,OV⟩:=w.apart;have pm:=aK hp;refine#[w.nd,?_,?_,#[?_,λi y r h1 h2=>?_],?_,w.lv,?_]
 ·rw[aL (λz:a=p=>S_ (by rw[z];exact pm))];exact w.st
 ·rw[aL (λz:b=p=>S' (by rw[z];exact pm)),w.pl]
  congr 2
  refine(zr ?_).symm
  have e:∀l:List (Str×List Nat),(l.map λq=>(q.1,kj q.2)).map (·.1)=l.map (·.1):=λl=>by rw[aB];rfl
  unfold sY sr;rw[e,e];exact sZ q.1 f s.places
 ·have:=w.ls.1
  unfold sY at this ⊢;rw[ae]at this ⊢;unfold sr;rwa[ae]
 ·have N8:((sr s q.1 f).places.map λq=>(q.1,kj q.2))[i]?=some r:=h2
  rw[ay]at N8
  cases e:(sr s q.1 f).places[i]? with
  |none=>rw[e]at N8;cases N8
  |some z=>
   rw[e]at N8;have er:=cG N8;obtain⟨u,hu,ez⟩:=N7 e;by_cases hi:i=j
   ·subst hi
    rw[hj]at hu;cases hu;rw[hp]at h1;cases h1;rw[qQ3 rfl]at ez;refine#[_,aZ,?_]
    rw[<-er,ez];exact Dl _
   ·have hyp:y≠p:=λz=>hi ((iB (by have:=(aJ.mp h1).1;exact this) OV).mp (by rw[h1,hp,z]))
    have qY:¬u.1=q.1:=λz=>by
     have e1:(s.places.map (·.1))[i]?=some u.1:=by rw[ay,hu];rfl
     have e2:(s.places.map (·.1))[j]?=some q.1:=by rw[ay,hj];rfl
     exact hi ((iB (aJ.mp e1).1 hn).mp (by rw[e1,e2,z]))
    rw[qQ2 qY]at ez;rw[aL hyp];exact w.ls.2 i y r h1 (by unfold sY;rw[ay,hu,<-er,ez];rfl)
 ·rw[aL (λz:c=p=>VG (by rw[z];exact pm))];exact w.ld
 ·rw[aL (λz:m=p=>VH (by rw[z];exact pm))];exact w.me
theorem vO.keep(w:vO K H0 H a b c m cs lv s){Ha Hb:Hp}(g:c6 H0 H Ha Hb):vO K Ha Hb a b c m cs lv s:=
 #[w.nd,g.big _ _ w.st,g.big _ _ w.pl,#[w.ls.1,λi x q h1 h2=>by obtain⟨xs,z1,z2⟩:=w.ls.2 i x q h1 h2;exact#[xs,g.big _ _ z1,z2.mono g.fB]],g.big _ _ w.ld,w.lv.mono g.fB,g.big _ _ w.me]
theorem vO.other(w:vO K H0 H a b c m cs lv s){x:aH}{o:HO}(hx:x∉cs):Yr K H0 (upd H x o) (sY s) cs:=#[w.ls.1,λi y q h1 h2=>by
 obtain⟨xs,z1,z2⟩:=w.ls.2 i y q h1 h2;exact#[xs,by rw[aL (λz:y=x=>hx (by rw[<-z];exact aK h1))];exact z1,z2]]
theorem ZC(b c m:aH)(t t':Int):putK (Q9 b c m t) (aU "time":Key) (.int t')=Q9 b c m t':=by
 rfl
theorem vO.timed(w:vO K H0 H a b c m cs lv s)(t:Int):vO K H0 (upd H a (.dK (putK (Q9 b c m s.time) (aU "time") (.int t)))) a b c m cs lv (kR s t):=by
 obtain⟨⟨ab,ac,am,S_⟩,_⟩:=w.apart;exact#[w.nd,aZ,by rw[aL ab.symm];exact w.pl,w.other S_,by rw[aL ac.symm];exact w.ld,w.lv,by rw[aL am.symm];exact w.me]
theorem Q_{g:Nat}(h:g∉s.met):putK (OW s) (jw (g:Int):Key) (.bl true)=OW (Hq s g):=by
 unfold putK;have e:((OW s).any λkv=>decide (kv.1=(jw g:Key)))=false:=by
  rw[wU];intro z hz;obtain⟨y,hy,rfl⟩:=au.mp hz;rw[decide_eq_true_iff];intro q;have e:=yE (DJ q);rw[e]at hy;exact h hy
 rw[e,qQ2 ⋯]
 unfold OW Hq;rw[aP];rfl
theorem vO.zde(w:vO K H0 H a b c m cs lv s){g:Nat}(h:g∉s.met):vO K H0 (upd H m (.dK (putK (OW s) (jw (g:Int)) (.bl true)))) a b c m cs lv (Hq s g):=by
 obtain⟨⟨ab,ac,am,S_⟩,⟨bc,bm,S'⟩,⟨cm,VG⟩,VH,OV⟩:=w.apart;rw[Q_ h];exact#[w.nd,by rw[aL am];exact w.st,by rw[aL bm];exact w.pl,w.other VH,by rw[aL cm];exact w.ld,w.lv,aZ]
theorem Fe(v:V)(x:Str)(l:Option (List Nat×Int)):∀{ls:List (Str×Option (List Nat×Int))}{lv:List V},lv.length=ls.length->((ls.zip lv).map λz=>((aU z.1.1:Key),z.2)).map (λkv=>if kv.1=aU x then(kv.1,v)else kv)=((ls.map λq=>if q.1=x then(q.1,l)else q).zip ((ls.zip lv).map λz=>if z.1.1=x then v else z.2)).map λz=>((aU z.1.1:Key),z.2)
 | [],[],_=>rfl
 | [],_::_,h=>by cases h
 |_::_,[],h=>by cases h
 |q::ls,u::lv,h=>by
  rw[dg,aA,aA,aA,aA,dg,aA,Fe v x l (ls:=ls) (lv:=lv) ↑h]
  congr 1
  by_cases e:q.1=x
  ·rw[qQ3 e,qQ3 e,qQ3 (show((aU q.1))=aU x by rw[e])]
  ·rw[qQ2 e,qQ2 e,qQ2 (λz=>e (hU z))]
end
section
variable{K:aq}{B0 B H0 H:Hp}{a b c m:aH}{cs Kj:List aH}{lv:List V}{s s':Ws}{σ:L2.St}{δ:List Slot}
theorem Ff{v:V}(r:Rep K H v (oM l)):∀{ls:List (Str×Option (List Nat×Int))}{lv:List V},cz K H lv (ls.map λq=>oM q.2)->cz K H ((ls.zip lv).map λz=>if z.1.1=x then v else z.2) ((ls.map λq=>if q.1=x then(q.1,l)else q).map λq=>oM q.2)
 | [],_,h=>by cases h;exact .nil
 |q::ls,_,h=>by
  cases h with
  |cons a t=>
   rw[dg,aA,aA,aA];refine .cons ?_ (Ff r t)
   by_cases e:q.1=x
   ·rwa[qQ3 e,qQ3 e]
   ·rwa[qQ2 e,qQ2 e]
theorem vO.loaded(w:vO K H0 H a b c m cs lv s){v:V}(r:Rep K H0 v (oM l))(hx:x∈s.loads.map (·.1)):vO K H0 (upd H c (.dK (putK (Q8 s lv) (aU x) v))) a b c m cs ((s.loads.zip lv).map λz=>if z.1.1=x then v else z.2) (vP s x l):=by
 obtain⟨⟨ab,ac,am,S_⟩,⟨bc,bm,S'⟩,⟨cm,VG⟩,VH,OV⟩:=w.apart;have ll:=w.lv.length;rw[ae]at ll;have e:putK (Q8 s lv) (aU x) v=Q8 (vP s x l) ((s.loads.zip lv).map λz=>if z.1.1=x then v else z.2):=by
  unfold putK;rw[qQ3]
  ·exact Fe v x l ll
  ·obtain⟨q,hq,rfl⟩:=au.mp hx
   have:(aU q.1)∈(Q8 s lv).map (·.1):=by
    rw[show(Q8 s lv).map (·.1)=_ from(Dj (s:=s) ll).1]
    exact au.mpr #[q,hq,rfl]
   obtain⟨z,hz,e⟩:=au.mp this;exact iR.mpr #[z,hz,qQ1 e]
 rw[e];exact#[w.nd,by rw[aL ac];exact w.st,by rw[aL bc];exact w.pl,w.other VG,aZ,Ff r w.lv,by rw[aL (bJ cm)];exact w.me]
theorem VJ(v:aH):∀{kl:List (Str×List aj)}{cs:List aH}{j:Nat}{q:Str×List aj}{c:aH},(kl.map (·.1)).Nodup->kl[j]?=some q->cs[j]?=some c->putK (tH kl cs) (aU q.1:Key) (.ref v)=tH kl (cs.set j v)
 |kl,cs,j,q,c,nd,h1,h2=>by
  have any:((tH kl cs).any λkv=>decide (kv.1=(aU q.1)))=true:=by
   have hz:(q,c)∈kl.zip cs:=aK (by rw[B5];exact#[h1,h2])
   exact iR.mpr #[_,au.mpr #[_,hz,rfl],qQ1 rfl]
  unfold putK;rw[qQ3 any]
  clear any
  induction kl generalizing cs j with
  |nil=>simp at h1
  |cons p kl ih=>
   cases cs with
   |nil=>simp at h2
   |cons b cs=>
    obtain⟨n1,n2⟩:=cj.mp nd;have e:tH (p::kl) (b::cs)=(aU p.1,V.ref b)::tH kl cs:=rfl;rw[e,aA];cases j with
    |zero=>
     cases h1;rw[qQ3 rfl]
     congr 1
     refine(eQ λkv hkv=>?_).trans (List.map_id _)
     obtain⟨z,hz,rfl⟩:=au.mp hkv;rw[qQ2 λy=>n1 (by
      have:z.1.1=q.1:=hU y;exact au.mpr #[z.1,(nA hz).1,this])];rfl
    |succ j=>
     have Ss:kl[j]?=some q:=by simpa using h1
     rw[ih cs j n2 Ss ↑h2,qQ2 λy=>n1 (by
      have:p.1=q.1:=hU y;exact au.mpr #[q,aK Ss,this.symm])];rfl
theorem vO.zdf(w:vO K H0 H a b c m cs lv s)(hn:(s.places.map (·.1)).Nodup){j:Nat}{p p':aH}(hj:s.places[j]?=some q)(hp:cs[j]?=some p)(Wo:p'∉a::b::c::m::cs){f:List Nat->List Nat}(hl:H p'=some (.lst (nV (f q.2)))):vO K H0 (upd H b (.dK (putK (tH (sY s) cs) (aU q.1) (.ref p')))) a b c m (cs.set j p') lv (sr s q.1 f):=by
 obtain⟨⟨ab,ac,am,S_⟩,⟨bc,bm,S'⟩,⟨cm,VG⟩,VH,OV⟩:=w.apart;simp[ax,not_or]at Wo;obtain⟨pa,pb,pc,pm,pcs⟩:=Wo;have hk:(sY s)[j]?=some (q.1,kj q.2):=by unfold sY;rw[ay,hj];rfl
 have Lp:((sY s).map (·.1)).Nodup:=by unfold sY;rw[aB];exact hn
 have D7:∀x,x∈cs.set j p'->x=p'\/x∈cs:=λx hx=>(o9 hx).symm
 have Vg:=(aJ.mp hp).1
 refine#[?_,by rw[aL ab];exact w.st,?_,#[?_,λi y r h1 h2=>?_],by rw[aL (bJ bc)];exact w.ld,w.lv,by rw[aL (bJ bm)];exact w.me]
 ·have no:∀x,x≠p'->x∉cs->x∉cs.set j p':=λx h1 h2 h=>(D7 x h).elim h1 h2
  have n2:(cs.set j p').Nodup:=by
   rw[List.nodup_iff_pairwise_ne,ko]at OV ⊢;intro i k hi hk hik;rw[kW]at hi hk;rw[List.getElem_set,List.getElem_set]
   split
   ·split
    ·omega
    ·exact λz=>pcs (by rw[z];exact cZ _)
   ·split
    ·exact λz=>pcs (by rw[<-z];exact cZ _)
    ·exact OV i k hi hk hik
  simp;exact#[#[ab,ac,am,no a (bJ pa) S_],#[bc,bm,no b (bJ pb) S'],#[cm,no c (bJ pc) VG],no m (bJ pm) VH,n2]
 ·rw[aZ,VJ p' Lp hk hp]
  congr 2
  refine(zr ?_).symm
  have e:∀l:List (Str×List Nat),(l.map λq=>(q.1,kj q.2)).map (·.1)=l.map (·.1):=λl=>by rw[aB];rfl
  unfold sY sr;rw[e,e];exact sZ q.1 f s.places
 ·have:=w.ls.1
  unfold sY sr at *;simpa using this
 ·have N8:((sr s q.1 f).places.map λq=>(q.1,kj q.2))[i]?=some r:=h2
  rw[ay]at N8
  have hyb:y≠b:=λz=>by
   rcases D7 y (aK h1)with y'|y'
   ·exact pb (y'.symm.trans z)
   ·exact S' (by rw[<-z];exact y')
  rw[aL hyb];cases e:(sr s q.1 f).places[i]? with
  |none=>rw[e]at N8;cases N8
  |some z=>
   rw[e]at N8;have er:=cG N8;obtain⟨u,hu,ez⟩:=N7 e;by_cases hi:i=j
   ·subst hi
    rw[hj]at hu;cases hu;rw[a_ Vg]at h1
    cases h1;rw[qQ3 rfl]at ez;refine#[_,hl,?_]
    rw[<-er,ez];exact Dl _
   ·have qY:¬u.1=q.1:=λz=>by
     have e1:(s.places.map (·.1))[i]?=some u.1:=by rw[ay,hu];rfl
     have e2:(s.places.map (·.1))[j]?=some q.1:=by rw[ay,hj];rfl
     exact hi ((iB (aJ.mp e1).1 hn).mp (by rw[e1,e2,z]))
    rw[qQ2 qY]at ez;rw[a7 (bJ hi)]at h1
    exact w.ls.2 i y r h1 (by unfold sY;rw[ay,hu,<-er,ez];rfl)
def ZD(K:aq)(a b:aH)(s:Ws):OR:=λH0 H as=>∃c m cs lv,as=a::b::c::m::cs/\vO K H0 H a b c m cs lv s
theorem ZD.mono:gS (ZD K a b s):=λH0 H Ha Hb as #[c,m,cs,lv,e,h] sm hb=>by
 obtain⟨b',c',m',cs',WM,e',h'⟩:=xX.mono H0 H Ha Hb as #[b,c,m,cs,lv,e,h] sm hb;have:b'=b:=by rw[e]at e';injection e' with _ e';injection e' with e' _;exact e'.symm
 subst this;exact#[c',m',cs',WM,e',h']
abbrev KW(K:aq)(Kj:List aH)(a b:aH)(s:Ws):OR:=oB Kj (ZD K a b s)
theorem KW.mono:gS (KW K Kj a b s):=oB.mono ZD.mono
theorem Ws.put(G:OF K B0 B (KW K Kj a b s) H0 H σ δ):∃c m cs lv,vO K H0 H a b c m cs lv s/\∀{Ha Hb:Hp}(_:c6 H0 H Ha Hb){x:aH}{o:HO}{s':Ws}{WM:List V},x∈a::b::c::m::cs->(vO K Ha Hb a b c m cs lv s->vO K Ha (upd Hb x o) a b c m cs WM s')->OF K B0 B (KW K Kj a b s') Ha (upd Hb x o) σ δ:=by
 obtain⟨as,⟨h1,tV,h2,c,m,cs,lv,rfl,w⟩,put⟩:=G.puts KW.mono;exact#[c,m,cs,lv,w,λ{Ha Hb}g{x o s' WM}hx k=>put g (h2 x hx) #[as,λ_ z=>z,h1,_,h2,c,m,cs,WM,rfl,k (w.keep g)]]
theorem KW.look(Ha Hb:Hp)(as:List aH)(sb:cU Ha Hb)(h:KW K Kj a b s Ha Hb as):Rep K (jG as Hb Ha) (.ref b) (lV (fE s)):=by
 obtain⟨_,tV,h2,c,m,cs,lv,rfl,w⟩:=h;have D7:∀x,x∈cs->x∈as:=λx hx=>h2 x (by simp[hx])
 refine CP ((jb (h2 b (by simp))).trans w.pl) ?_ ?_
 ·rw[Et w.ls.1];unfold sY fE;rw[aB,aB];rfl
 ·rw[Eu w.ls.1]
  have e:(fE s).map (·.2)=(sY s).map λq=>ik q.2:=by unfold sY fE;rw[aB,aB];rfl
  rw[e];refine wA w.ls.1 λi x q e1 e2=>?_
  obtain⟨ys,y1,y2⟩:=w.ls.2 i x q e1 e2;exact .lst (jy.of ((jb (D7 x (aK e1))).trans y1)) (y2.mono (lj sb))
end
end Mg
namespace Mg
open L2 PySem PyProof.Rows
seal L2.VE L2.VS L2.rP L2.VT L2.VO L2.Fy
variable{fd:eM}{gs:List Nat}{q:Str×List Nat}{s:Ws}
theorem uO{d:Dk}:∀{l:List Dk},(l.map (·.name)).Nodup->d∈l->(l.filter λz=>decide (z.name=d.name))=[d]
 | [],_,h=>by cases h
 |z::l,hn,h=>by
  obtain⟨h1,h2⟩:=cj.mp hn;rw[gf];rcases ax.mp h with rfl|h
  ·rw[qQ1 rfl,qQ3 rfl,Fv.mpr λy hy=>by
    rw[decide_eq_true_iff];exact λe=>h1 (au.mpr #[y,hy,e])]
  ·rw[qQ0 λe=>h1 (au.mpr #[d,h,e.symm]),qQ2 ⋯]
   exact uO h2 h
def Fdk(x:Str):aj->Option aj
 | .tuple (.str n::r)=>if n=x then some (.tuple (.str n::r))else none
 |_=>none
theorem Ra(x:Str)(l:List Dk):(l.map ej).filterMap (Fdk x)=(l.filter λz=>decide (z.name=x)).map ej:=by
 induction l with
 |nil=>rfl
 |cons q l ih=>
  rw[aA,gf];have e:Fdk x (ej q)=if q.name=x then some (ej q)else none:=rfl
  by_cases h:q.name=x
  ·rw[cJ (e.trans (qQ3 h)),ih,qQ1 h,qQ3 rfl];rfl
  ·rw[dX (e.trans (qQ2 h)),ih,qQ0 h,qQ2 ⋯]
def ZE(ds:List aj)(d:aj):Prop:=∃(p:Pl)(z:Dk),ds=[fL p,.str z.name]/\ny p/\(p.desks.map (·.name)).Nodup/\z∈p.desks/\d=ej z
section
variable{P:bA}{w:cn}{K:aq}{mg:Str->Option aF}{base:cX}{f:aH}{k:Nat}
theorem VL:cw ["_law_h","_law_name"] ["_law_h","_law_name"] (bL (top 57)):=by grind
theorem ZF(F:kX K "_law_desk" "_law_desk" (top 57) f fd):eW P w K mg base kD 1 f fd ["_law_h","_law_name"] (g7 K ZE):=
 jz F VL (by ext) λ_ _ h=>by
  obtain⟨p,z,rfl,ok,dn,hz,rfl⟩:=h;intro g6 A outer s0 H E hr;have nc:(["_law_desk_here","_law_name"]:List Str).Nodup:=∎
  have Sn:=ok.dn;refine aY (ck (fU (ds:=[ej z]) (VE.to (VO.ve (eU (own:=["_law_desk_here"]) (cap:=[1]) (tgt:=.one 0) rfl #[rfl,∎,∎,rfl,rfl,?_] (dY (du hr (ai 0 rfl) aW (pI p))) (λf s3 H3=>gJ 0 nc) rfl (small (by rw[ae];omega)) (λd hd=>?_))) (by rw[Ra,uO dn hz];rfl)) aE (cM rfl)))
  ·intro j hj
   rcases ax.mp hj with rfl|hj
   ·exact#[(by show(1:Nat)<2;decide),(by left),rfl]
   ·cases hj
  ·obtain⟨q,hq,rfl⟩:=au.mp hd
   have e:Fdk z.name (ej q)=if q.name=z.name then some (ej q)else none:=rfl
   refine#[_,rfl,λf s3 H3=>qk (VT.to (fh hr (bu (ok.desks q hq).1.ok.2) (bu (ok.desks z hz).1.ok.2) (gA 0 0 rfl rfl) (ai 1 rfl)) ?_),λr ky f s3 H3=>?_]
   ·rw[bN,e]
    by_cases h:q.name=z.name
    ·rw[qQ3 h,qQ1 h];rfl
    ·rw[qQ2 h,qQ0 h];rfl
   ·rw[e]at ky
    split at ky
    ·cases ky;exact ai 0 rfl
    ·cases ky
def flt(gs l:List Nat):List Nat:=l.filter λg=>!decide (g∈gs)
def su(s:Ws)(gs:List Nat)(k:Nat):Ws:={ s with places:=((s.places.take k).map λq=>(q.1,flt gs q.2))++s.places.drop k }
def zT(s:Ws)(gs:List Nat):Ws:={ s with places:=s.places.map λq=>(q.1,flt gs q.2) }
theorem zU(s:Ws)(gs:List Nat)(k:Nat):(su s gs k).places.map (·.1)=s.places.map (·.1):=by
 show(((s.places.take k).map λq=>(q.1,flt gs q.2))++s.places.drop k).map (·.1)=_
 rw[aP,aB]
 show(s.places.take k).map (·.1)++_=_
 rw[<-aP,fz]
theorem Rb{k:Nat}(h:s.places[k]?=some q):(su s gs k).places[k]?=some q:=by
 have hk:=(aJ.mp h).1
 show(((s.places.take k).map λq=>(q.1,flt gs q.2))++s.places.drop k)[k]?=_
 rw[bO (by rw[ae,bh];omega),ae,bh,jq,iA ∅]
 simpa using h
theorem KS{k:Nat}(hn:(s.places.map (·.1)).Nodup)(h:s.places[k]?=some q):sr (su s gs k) q.1 (flt gs)=su s gs (k+1):=by
 unfold sr
 congr 1
 refine gD λi=>?_
 have hk:=(aJ.mp h).1
 have ot:∀j,j<s.places.length->j≠k->∀z,s.places[j]?=some z->¬z.1=q.1:=λj hj qY z hz e=>by
  have e1:(s.places.map (·.1))[j]?=some z.1:=by rw[ay,hz];rfl
  have e2:(s.places.map (·.1))[k]?=some q.1:=by rw[ay,h];rfl
  exact qY ((iB (aJ.mp e1).1 hn).mp (by rw[e1,e2,e]))
 show((((s.places.take k).map λq=>(q.1,flt gs q.2))++s.places.drop k).map _)[i]?=(((s.places.take (k+1)).map λq=>(q.1,flt gs q.2))++s.places.drop (k+1))[i]?
 rw[ay]
 by_cases h1:i<k
 ·rw[bX (by rw[ae,bh];omega),bX (by rw[ae,bh];omega),ay,ay,kO h1,kO ∅]
  have hi:s.places[i]?=some s.places[i]:=av ∅
  rw[hi];show some (if(s.places[i]).1=q.1 then _ else _)=_
  rw[qQ2 (ot i ∅ ∅ _ hi)];rfl
 ·rw[bO (by rw[ae,bh];omega),ae,bh,jq,iA ∅,show k+(i-k)=i by omega]
  by_cases h2:i=k
  ·subst h2
   rw[bX (by rw[ae,bh];omega),ay,kO ∅,h]
   show some (if q.1=q.1 then _ else _)=_
   rw[qQ3 rfl];rfl
  ·rw[bO (by rw[ae,bh];omega),ae,bh,jq]
   by_cases h3:i<s.places.length
   ·rw[iA ∅,show k+1+(i-(k+1))=i by omega]
    have hi:=av h3
    rw[hi];show some (if(s.places[i]).1=q.1 then _ else _)=_
    rw[qQ2 (ot i ∅ h2 _ hi)]
   ·rw[dI ∅,dI ∅];rfl
theorem KY(hn:(s.places.map (·.1)).Nodup)(h:q∈s.places):gF (fE s) q.1=some (.list (kj q.2)):=by
 rw[(lG (au.mpr #[q,h,rfl])).1];unfold iy;rw[uN hn h];rfl
theorem zV(g:Nat):∀gs:List Nat,jg (.int (g:Int)) (.list (kj gs))=decide (g∈gs)
 | []=>rfl
 |x::gs=>by
  show(cR (.int (x:Int)) (.int (g:Int))||jg (.int (g:Int)) (.list (kj gs)))=_
  rw[zV g gs,jd,eY,Ag,decide_eq_true_iff,decide_eq_true_iff,decide_eq_true_iff,ax]
  constructor
  ·rintro(h|h)
   ·exact .inl (yE h).symm
   ·exact .inr h
  ·rintro(h|h)
   ·exact .inl (by rw[h])
   ·exact .inr h
def Fdr(gs:List Nat):aj->Option aj
 | .int g=>if(!jg (.int g) (.list (kj gs)))=true then some (.int g)else none
 |_=>none
theorem Dm(gs:List Nat):∀l:List Nat,(kj l).filterMap (Fdr gs)=kj (flt gs l)
 | []=>rfl
 |g::l=>by
  have e:Fdr gs (.int g)=if(!decide (g∈gs))=true then some (.int g)else none:=by
   show(if(!jg _ _)=true then _ else _)=_
   rw[zV]
  show(c9 g::kj l).filterMap _=kj ((g::l).filter _)
  rw[gf];by_cases h:(!decide (g∈gs))=true
  ·rw[cJ (e.trans (qQ3 h)),qQ3 h,Dm gs l];rfl
  ·rw[dX (e.trans (qQ2 h)),qQ2 h,Dm gs l];rfl
theorem Rc{l:List Nat}:∀d∈kj l,Bl d=true:=λd hd=>by obtain⟨g,_,rfl⟩:=au.mp hd;rfl
abbrev ZG:List Str:=["_law_h","_law_day_here","_law_state","_law_entry","_law_places","_law_goods","_law_works","_law_work","_law_name"]
theorem N9:cw ZG ["_law_h","_law_day_here","_law_state","_law_entry"] (bL (top 58)):=by grind
def orElse:fQ->List fQ
 | .If _ _ e _=>e
 |_=>[]
def VM:List fQ:=orElse ((orElse ((mq (top 58)).getD 2 (.Pass #[0,0,0,0]))).getD 0 (.Pass #[0,0,0,0]))
theorem Jm(n:Na mg){g6 A outer s0 H E}(hr:eB 1 (A.deeper (envOfC "_law_do" (bL (top 58)) s0.heap.objs.size f g6))){as:List aH}{a b:aH}{dh dy de:aj}{B0 B Ha Hb:Hp}{σ:L2.St}{D:Ends}
  (G:OF K B0 B (KW K as a b s) Ha Hb σ [.val dh,.val dy,.ref a,.val de,.ref b,.val (.list (kj gs)),.un,.un,.un])(hn:(s.places.map (·.1)).Nodup)(hl:s.places.length<=120)(Rf:∀q∈s.places,q.2.length<=30)
  (q:∀σ' cW H',OF K B0 B (KW K as a b (zT s gs)) cW H' σ' [.val dh,.val dy,.ref a,.val de,.ref b,.val (.list (kj gs)),.un,.un,.un]->D.nx σ' H'):
  Ay (F2 kD P w K mg base ZG "_law_do" (bL (top 58)) f g6 A outer s0 H E).V_ (VM.drop 2) D σ Hb:=by
 have nd:ZG.Nodup:=N9.nd;have nc:(["_law_good","_law_goods"]:List Str).Nodup:=∎
 have e0:su s gs 0=s:=by unfold su;rfl
 have eL:su s gs s.places.length=zT s gs:=by unfold su zT;rw[cy,List.drop_length,b9]
 refine bS (Vh (tgt:=.one 8) (ds:=(fE s).map λq=>.str q.1) (λk=>KW K as a b (su s gs k)) (λ_=>KW.mono) (by rw[e0];exact G) bY rfl (λQ q=>OF.list (i:=4) (p:=b) G rfl KW.look (nF (zj rfl) Qb (ao (ai 4 rfl) aR) n.lst rfl) (λd hd=>by obtain⟨z,_,rfl⟩:=au.mp hd;rfl) q) (gJ 8 nd) (λk d hd=>?_) λσ2 H2 fX G2=>q σ2 H2 fX (by
  have e:((fE s).map λq=>aX q.1).length=s.places.length:=by unfold fE;rw[ae,ae]
  rw[e,eL]at G2;exact G2))
 obtain⟨z,hz,rfl⟩:∃z,s.places[k]?=some z/\d=.str z.1:=by
  unfold fE at hd;rw[ay,ay]at hd
  cases e:s.places[k]? with
  |none=>rw[e]at hd;cases hd
  |some z=>rw[e]at hd;cases hd;exact#[z,rfl,rfl]
 have hz':=Rb (gs:=gs) hz;have Lp:((su s gs k).places.map (·.1)).Nodup:=by rw[zU];exact hn
 have hv:=KY Lp (aK hz');refine#[_,rfl,rfl,λD C0 σ' cW H' G1 post=>?_]
 refine bS (Qo (κ:=aU z.1) KW.mono G1 hr 4 rfl KW.look (VO.to (eU (own:=["_law_good"]) (cap:=[5]) (tgt:=.one 0) rfl #[rfl,∎,∎,rfl,rfl,?_] (dY (du hr (ai 4 rfl) (ai 8 rfl) hv)) (λf s3 H3=>gJ 0 nc) rfl (small (by rw[f7];have:=Rf z (aK hz);omega)) (λd hd=>?_)) (Dm gs z.2)) Rc (ai 8 rfl) ?_ (λH2 fX G2=>post _ _ _ (G2.forget KW.mono #[.inr rfl,.inr rfl,.inr rfl,.inr rfl,.inr rfl,.inr rfl,.inl rfl,.inl rfl,.inl rfl,trivial] rfl)))
 ·intro j hj
  rcases ax.mp hj with rfl|hj
  ·exact#[(by show(5:Nat)<9;decide),(by left),rfl]
  ·cases hj
 ·obtain⟨g,hg,rfl⟩:=au.mp hd
  refine#[_,rfl,λf s3 H3=>qk (VT.to (yW hr rfl (bQ 20 _) (wL _) (ai 0 rfl) (ai 1 rfl)) ?_),λr ky f s3 H3=>?_]
  ·show _=(if(!jg (.int (g:Int)) _)=true then some (c9 (g:Int))else none).isSome
   cases jg (.int (g:Int)) _<;>rfl
  ·have ky:(if(!jg (.int (g:Int)) _)=true then some (c9 (g:Int))else none)=some r:=ky
   split at ky
   ·cases ky;exact ai 0 rfl
   ·cases ky
 ·rintro Ha Hb as' ⟨h1,tV,h2,c,m,cs,lv,rfl,w⟩
  obtain⟨j,pp,hj,hc,_,_,_⟩:=w.at Lp (aK hz');refine#[_,h2 b (by simp),w.pl,?_,λp' xs Wo hx r=>#[p'::as',λx hx=>ax.mp hx,λx hx=>aN _ (h1 x hx),_,λx hx=>?_,c,m,cs.set j p',lv,rfl,?_]]
  ·have hlen:(tH (sY (su s gs k)) cs).length<=s.places.length:=by
    unfold tH sY;rw[ae,rn,ae];have:=qQ6 ft (zU s gs k);rw[ae,ae]at this;omega
   exact fw ∅
  ·have:x=p'\/x∈a::b::c::m::cs:=by
    simp only[ax]at hx ⊢;rcases hx with h|h|h|h|h
    ·exact .inr (.inl h)
    ·exact .inr (.inr (.inl h))
    ·exact .inr (.inr (.inr (.inl h)))
    ·exact .inr (.inr (.inr (.inr (.inl h))))
    ·rcases o9 h with h|h
     ·exact .inr (.inr (.inr (.inr (.inr h))))
     ·exact .inl h
   rcases this with h|h
   ·exact ax.mpr (.inl h)
   ·exact aN _ (h2 x h)
  ·rw[<-KS hn hz]
   exact w.zdf Lp hj hc (λy=>Wo (h2 _ y)) (by rw[hx,yu r])
end
def zW(p:Pl)(x y:Str):Int:=((p.times.find? λq=>decide ((q.1,q.2.1)=(x,y))).map (·.2.2)).getD 1
theorem KZ(p:Pl)(x y:Str):(gF (lD p) (x,y)).getD (.int 1)=.int (zW p x y):=by
 unfold zW lD gF
 induction p.times with
 |nil=>rfl
 |cons q l ih=>
  rw[aA,cO,cO]
  by_cases h:(q.1,q.2.1)=(x,y)
  ·rw[qQ1 h];rfl
  ·rwa[qQ0 h]
def Fwk:aj->Option ((Str×Str)×aj)
 | .tuple [.str a,.str b,d]=>some ((a,b),d)
 |_=>none
theorem Rg(p:Pl):(p.times.map xl).filterMap Fwk=lD p:=by
 rw[bP];exact filterMap_some λq _=>rfl
def mM(day:List pX)(g:Nat):Str:=(day.getD g (0,"","","")).2.1
def BK(day:List pX)(g:Nat):Str:=(day.getD g (0,"","","")).2.2.1
theorem Dn{day:List pX}{g:Nat}(h:g<day.length):(day.map oh)[g]?=some (oh (day.getD g (0,"","",""))):=by
 rw[ay,aO,av h];rfl
def Ef:List Int->Int
 | []=>0
 | [x]=>x
 |x::y::l=>if Ef (y::l)<=x then x else Ef (y::l)
theorem Jn:∀{l:List Int},l≠[]->Ef l∈l/\∀z∈l,z<=Ef l
 | [],h=>qQ7 rfl h
 | [x],_=>#[aQ.mpr rfl,λz hz=>by rw[aQ.mp hz];exact Ai _]
 |x::y::l,_=>by
  obtain⟨h1,h2⟩:=Jn (l:=y::l) (by simp)
  unfold Ef
  split
  ·rename_i h
   refine#[aM,λz hz=>?_]
   rcases ax.mp hz with rfl|hz
   ·exact Ai _
   ·exact FG (h2 z hz) h
  ·rename_i h
   refine#[aN _ h1,λz hz=>?_]
   rcases ax.mp hz with rfl|hz
   ·omega
   ·exact h2 z hz
def Fg(p:Pl)(day:List pX)(d:Str)(gs:List Nat):Int:=Ef (gs.map λg=>zW p d (BK day g))
def Aj(p:Pl)(d:Str):Str:=((p.desks.find? λz=>decide (z.name=d)).map (·.to)).getD ""
theorem N_{p:Pl}(hn:(p.desks.map (·.name)).Nodup){z:Dk}(hz:z∈p.desks):Aj p z.name=z.to:=by
 unfold Aj;rw[<-List.head?_filter,uO hn hz];rfl
def sv(p:Pl)(day:List pX)(s:Ws):We->Ws
 | .come t g=>sr (Hq (kR s t) g) (mM day g) λl=>l ++ [g]
 | .spoil t g=>zT (kR s t) [g]
 | .take t d gs=>zT (vP (kR s t) d (some (gs,t+Fg p day d gs))) gs
 | .put t d gs=>if Aj p d="" then vP (kR s t) d none else sr (vP (kR s t) d none) (Aj p d) λl=>l++gs
def okE(p:Pl)(day:List pX)(s:Ws):We->Prop
 | .come _ g=>g<day.length/\g∉s.met/\mM day g∈p.gates
 | .spoil _ _=>True
 | .take _ d gs=>d∈p.desks.map (·.name)/\gs≠[]/\gs.length<=3/\∀g∈gs,g<day.length
 | .put _ d gs=>d∈p.desks.map (·.name)/\gs.length<=3
def ZH(s:Ws)(d1 d2:List aj)(s':Ws):Prop:=∃(p:Pl)(day:List pX)(e:We),d1=[fL p,.list (day.map oh)]/\d2=[qZ e]/\N3 p/\mX p/\vM p day.length s/\okE p day s e/\s'=sv p day s e
def We.time:We->Int
 | .come t _=>t
 | .spoil t _=>t
 | .take t _ _=>t
 | .put t _ _=>t
def We.word:We->Str
 | .come _ _=>"come"
 | .spoil _ _=>"spoil"
 | .take _ _ _=>"take"
 | .put _ _ _=>"put"
def We.rest:We->List aj
 | .come _ g=>[.int (g:Int)]
 | .spoil _ g=>[.int (g:Int)]
 | .take _ d gs=>[.str d,.tuple (kj gs)]
 | .put _ d gs=>[.str d,.tuple (kj gs)]
theorem wM(e:We):qZ e=.tuple (.str e.word :: .int e.time::e.rest):=by cases e<;>rfl
def Fwo(p:Pl)(day:List pX)(d:Str):aj->Option aj
 | .int g=>some (.int (zW p d (BK day g.toNat)))
 |_=>none
theorem Rh(p:Pl)(day:List pX)(d:Str)(gs:List Nat):(kj gs).filterMap (Fwo p day d)=(gs.map λg=>zW p d (BK day g)).map .int:=by
 unfold kj;rw[bP,aB];exact filterMap_some λg _=>rfl
section
variable{K:aq}
theorem ZI(b c m:aH)(t:Int):gQ (Q9 b c m t) (aU "places")=some (.ref b):=ku rfl
theorem Ta(b c m:aH)(t:Int):gQ (Q9 b c m t) (aU "loads")=some (.ref c):=(jf (show ¬(aU "places":Key)=(aU "loads":Key) by symm)).trans (ku rfl)
theorem ZJ(b c m:aH)(t:Int):gQ (Q9 b c m t) (aU "met")=some (.ref m):=(jf (show ¬(aU "places":Key)=(aU "met":Key) by symm)).trans ((jf (show ¬(aU "loads":Key)=(aU "met":Key) by symm)).trans (ku rfl))
end
section
variable{P:bA}{w:cn}{K:aq}{mg:Str->Option aF}{base:cX}{f:aH}{k:Nat}
theorem vQ(e:We):Lay 20 (.str e.word):=by
 refine bu ?_
 cases e<;>(dsimp[We.word,lX];symm)
theorem zdh(F:kX K "_law_do" "_law_do" (top 58) f fd)(n:Na mg)(md:mg "dict"=none)(C1:bB P w K mg base 1 "_law_desk" ["_law_h","_law_name"] (g7 K ZE)):eW P w K mg base kD 2 f fd ["_law_h","_law_day_here","_law_state","_law_entry"] (qo K Ws (xX K) 2 ZH):=by
 refine F.ok N9 (λvs H Q E h=>?_) (λg6 A outer s0 H vs Q E hr h=>?_)
 ·obtain⟨H0,a,v1,v2,as,s,s',d1,d2,rfl,hl,sm,r1,r2,own,W,⟨pl,day,e,rfl,rfl,_⟩,q⟩:=h
  rw[aV,bf,r1.length,r2.length];rfl
 ·obtain⟨H0,a,v1,v2,as,s,s',d1,d2,rfl,hl,sm,r1,r2,own,W,⟨pl,day,e,rfl,rfl,hp,gd,hs,he,rfl⟩,q⟩:=h
  obtain⟨b,c,m,cs,lv,eas,w0⟩:=W;refine#[_,la,?_]
  have nd:ZG.Nodup:=N9.nd;cases r1 with
  |cons q1 t1=>
  cases t1 with
  |cons q2 t2=>
  cases t2;cases r2 with
  |cons q3 t3=>
  cases t3
  rename_i u1 u2 u3
  have f0:fP K H0 H H0 H (start ZG [u1,u2,.ref a,u3]) [.val (fL pl),.val (.list (day.map oh)),.ref a,.val (qZ e),.un,.un,.un,.un,.un]:=by
   refine#[.refl sm,rfl,λi sl hi=>?_,λi j a b p' _ h1=>?_]
   ·match i,hi with
    |0,hi=>cases hi;exact#[_,rfl,q1]
    |1,hi=>cases hi;exact#[_,rfl,q2]
    |2,hi=>cases hi;exact rfl
    |3,hi=>cases hi;exact#[_,rfl,q3]
    |4,hi=>cases hi;exact trivial
    |5,hi=>cases hi;exact trivial
    |6,hi=>cases hi;exact trivial
    |7,hi=>cases hi;exact trivial
    |8,hi=>cases hi;exact trivial
    |i+9,hi=>simp at hi
   ·exact qQ7 h1 (gE (δ:=[.val (fL pl),.val (.list (day.map oh)),.ref _,.val (qZ e),.un,.un,.un,.un,.un]) rfl i _)
  have G0:=CV (R:=ZD K a b s) own #[c,m,cs,lv,eas,w0] f0 rfl;have gq:eB 1 _:=hr;have WN:(s.places.map (·.1)).Nodup:=by rw[hs.nm];exact gd.pn
  have n30:=hs.n30;have few:=hs.few;have mD:s.places.length<=120:=by
   have:=qQ6 ft hs.nm;rw[ae,aV,ae]at this;have:=hp.ok.gn;have:=hp.ok.ln;omega
  have hld:s.loads.length<=60:=by
   have:=qQ6 ft hs.ld;rw[ae,ae]at this;have:=hp.ok.dn;omega
  have Rf:∀z∈s.places,z.2.length<=30:=λz hz=>bU (Dh hz) few
  have fin:∀{σ':L2.St}{Ha Hb:Hp}{δ':List Slot},OF K H0 (xV as H) (KW K as a b (sv pl day s e)) Ha Hb σ' δ'->Q .non Hb:=λG=>by
   obtain⟨z1,z2,z3,z4,as',z5,c,m,cs,lv,e,w⟩:=M6 G;exact q _ _ as' z1 z2 z3 z5 z4 #[b,c,m,cs,lv,e,w]
  have lld:∀{ls:List (Str×Option (List Nat×Int))}{lv:List V},((ls.zip lv).map λz=>((aU z.1.1:Key),z.2)).length<=ls.length:=λ{ls lv}=>by rw[ae,rn];omega
  obtain⟨c,m,cs,lv,w,put⟩:=Ws.put G0;refine cI (Qk (κ:=aU "time") G0.own gq 2 rfl w.st aW (dz (VE.to (ai 3 rfl) (wM e)) aE (cM (j:=1) rfl)) (fw (by show 4<=_;omega)) λv Ha Hb g r=>?_)
  cases r;have G1:=put g (x:=a) (by simp) λw=>w.timed e.time
  clear put w
  obtain⟨c,m,cs,lv,w,put⟩:=Ws.put G1;refine cI (Ql (y:="places") G1.own gq 2 4 rfl w.st (ZI b c m _) nd λf2=>?_)
  have G2:=G1.go KW.mono f2 rfl
  clear put w
  have vw:∀{x:Str}{X:Cx}{δ:List Slot}{aa bb:bK}{pp:Pos},VE X aa δ (.str e.word)->VE X bb δ (.str x)->Lay 20 (.str x)->eB 1 X.A->VT X (.Compare aa [.Eq] [bb] pp) δ (decide (e.word=x)):=λh1 h2 hx hr=>VT.to (fh hr (vQ e) hx h1 h2) (bN _ _)
  cases e with
  |come t g=>
   obtain⟨WO,PK,Ys⟩:=he;refine bS (vp KW.mono G2 (vw (gA 3 0 rfl rfl) aW cg gq) λHa Hb G3=>?_)
   obtain⟨c,m,cs,lv,w,put⟩:=Ws.put G3;refine cI (CQ (y:="met") (κ:=jw (g:Int)) G3.own gq 2 rfl w.st (ZJ b c m _) w.me (gA 3 2 rfl rfl) Iq (fw (by unfold OW;rw[ae];have:=hs.mn;show s.met.length<=_;omega)) λv Ha Hb gr r=>?_)
   cases r;have G4:=put gr (x:=m) (by simp) λw=>w.zde PK
   clear put w
   obtain⟨c,m,cs,lv,w,put⟩:=Ws.put G4;have hq:=(lG (s:=s) (x:=mM day g) (by rw[hs.nm];exact bM _ Ys)).2
   obtain⟨j,pp,hj,hc,hm,hv,hH⟩:=w.at (s:=Hq (kR s t) g) WN hq;refine bS (Vc (κ:=aU (mM day g)) G4.own gq 4 rfl w.pl (dz (fU (ai 1 rfl) (gA 3 2 rfl rfl) (cM (Dn WO))) aE (cM (j:=1) rfl)) hv hH (gA 3 2 rfl rfl) (fw (by unfold nV;rw[ae];have:=Rf _ hq;omega)) λv Ha Hb gr r=>?_)
   cases r;have e:nV (iy s (mM day g)) ++ [V.int (g:Int)]=nV (iy s (mM day g) ++ [g]):=by unfold nV;rw[aP];rfl
   rw[e];exact fin (put gr (x:=pp) (by simp[hm]) λw=>w.set WN hj hc λl=>l ++ [g])
  |spoil t g=>
   refine bS (nS KW.mono G2 (vw (gA 3 0 rfl rfl) aW cg gq) λHa Hb G3=>?_)
   refine bS (nS KW.mono G3 (vw (gA 3 0 rfl rfl) aW cg gq) λHa Hb G4=>?_)
   refine cI (mU KW.mono G4 (cu 5 (d:=.list (kj [g])) (VE.to (VO.ve (dS (ao (gA 3 2 rfl rfl) aR))) rfl) nd) rfl λσ5 H5 UN G5=>?_)
   refine cI (nS KW.mono G5 (vw (gA 3 0 rfl rfl) aW cg gq) λHa Hb G6=>?_)
   refine sO ?_
   exact Jm n gq G6 WN mD Rf λσ' Hc Hd G7=>fin G7
  |take t d gs=>
   obtain⟨WO,PK,Ys,he4⟩:=he;refine bS (nS KW.mono G2 (vw (gA 3 0 rfl rfl) aW cg gq) λHa Hb G3=>?_)
   refine bS (nS KW.mono G3 (vw (gA 3 0 rfl rfl) aW cg gq) λHa Hb G4=>?_)
   refine cI (mU KW.mono G4 (cu 5 (d:=.list [.str d]) (VO.ve (dS (ao (gA 3 2 rfl rfl) aR))) nd) rfl λσ5 H5 UN G5=>?_)
   refine cI (vp KW.mono G5 (vw (gA 3 0 rfl rfl) aW cg gq) λHa Hb G6=>?_)
   refine cI (mU KW.mono G6 (cu 5 (d:=.list (kj gs)) (VO.ve (nF k9 CG (ao (gA 3 3 rfl rfl) aR) n.lst rfl)) nd) rfl λσ7 H7 H7' G7=>?_)
   have nc:(["_law_desk_here","_law_kind","_law_work"]:List Str).Nodup:=∎
   have htn:=hp.ok.tn;refine cI (mU KW.mono G7 (cu 6 (d:=CD (lD pl)) (MR gq (l:=lD pl) ?_ (by rw[vG];exact gd.tn) rfl md) nd) rfl λσ8 H8 H8' G8=>?_)
   ·rw[<-Rg]
    refine Qe (own:=["_law_desk_here","_law_kind","_law_work"]) (cap:=[]) (N:=["_law_desk_here","_law_kind","_law_work"]) (cl:=[]) (tgt:=.tup [0,1,2]) (Qf.mono) rfl #[rfl,∎,∎,rfl,rfl,by simp] (dY (du gq (ai 0 rfl) aW (EH pl))) (λf s3 H3=>gK rfl (bT (gJ 0 nc) (bT (gJ 1 nc) (bT (gJ 2 nc) fF)))) rfl
     (small (by rw[ae];omega)) (λd hd=>?_)
    obtain⟨z,hz,rfl⟩:=au.mp hd;refine#[_,rfl,λf s3 H3=>jW,λr ky f s3 H3=>?_]
    cases ky;exact MQ (ai 0 rfl) (ai 1 rfl) (ai 2 rfl)
   have n4:(["_law_good","_law_day_here","_law_entry","_law_works"]:List Str).Nodup:=∎
   obtain⟨YM,YN⟩:=Jn (l:=gs.map λg=>zW pl d (BK day g)) ↑PK
   refine cI (mU KW.mono G8 (cu 7 (d:=.int (Fg pl day d gs)) (gR (sL rfl) (Iy (ns:=gs.map λg=>zW pl d (BK day g)) YM YN) (ao (VO.ve (VO.to (eU (own:=["_law_good"]) (cap:=[1,3,6]) (tgt:=.one 0) (F:=Fwo pl day d) (ds:=kj gs) rfl #[rfl,∎,∎,rfl,rfl,?_] (dY (ai 5 rfl)) (λf s3 H3=>gJ 0 n4) rfl (small (by rw[f7];omega)) (λd hd=>?_)) (Rh pl day d gs))) aR) n.max rfl) nd) rfl λσ9 H9 H9' G9=>?_)
   ·intro j hj
    rcases ax.mp hj with rfl|hj
    ·exact#[(by show(1:Nat)<9;decide),(by left),rfl]
    rcases ax.mp hj with rfl|hj
    ·exact#[(by show(3:Nat)<9;decide),(by left),rfl]
    rcases ax.mp hj with rfl|hj
    ·exact#[(by show(6:Nat)<9;decide),(by left),rfl]
    ·cases hj
   ·obtain⟨g,hg,rfl⟩:=au.mp hd
    exact Ee rfl rfl λf s3 H3=>VE.to (J6 gq (ai 3 rfl) (gA 2 2 rfl rfl) (dz (fU (ai 1 rfl) (ai 0 rfl) (cM (Dn (he4 g hg)))) aE (cM (j:=2) rfl)) aE) (KZ pl d (BK day g))
   obtain⟨c,m,cs,lv,w,put⟩:=Ws.put G9;refine bS (CQ (y:="loads") (κ:=aU d) (d:=oM (some (gs,t+Fg pl day d gs))) G9.own gq 2 rfl w.st (Ta b c m _) w.ld (gA 3 2 rfl rfl) (VE.to (dR (ao (gA 3 3 rfl rfl) (ao (dZ (gA 3 1 rfl rfl) (ai 7 rfl)) aR))) rfl) (fw (bU lld (by show s.loads.length<=_;omega))) λv Ha Hb gr r=>?_)
   have G10:=put gr (x:=c) (by simp) λw=>w.loaded (x:=d) (l:=some (gs,t+Fg pl day d gs)) r (by show d∈s.loads.map (·.1);rw[hs.ld];exact WO)
   exact Jm n gq (G10.forget KW.mono #[.inr rfl,.inr rfl,.inr rfl,.inr rfl,.inr rfl,.inr rfl,.inl rfl,.inl rfl,.inl rfl,trivial] rfl) WN mD Rf λσ' Hc Hd G7=>fin G7
  |put t d gs=>
   obtain⟨WO,Ys⟩:=he;obtain⟨z,hz,rfl⟩:=au.mp WO;have Ko:=N_ gd.dn hz;have zto:lX z.to:=by
    rcases(hp.ok.desks z hz).2.1 with h|h
    ·rw[h];show bW (.str ("":Str))=true;symm
    ·exact h.ok.2
   refine bS (nS KW.mono G2 (vw (gA 3 0 rfl rfl) aW cg gq) λHa Hb G3=>?_)
   refine bS (vp KW.mono G3 (vw (gA 3 0 rfl rfl) aW cg gq) λHa Hb G4=>?_)
   obtain⟨c,m,cs,lv,w,put⟩:=Ws.put G4;refine cI (CQ (y:="loads") (κ:=aU z.name) (d:=oM none) G4.own gq 2 rfl w.st (Ta b c m _) w.ld (gA 3 2 rfl rfl) (VE.to dQ rfl) (fw (bU lld (by show s.loads.length<=_;omega))) λv Ha Hb gr r=>?_)
   have G5:=put gr (x:=c) (by simp) λw=>w.loaded (x:=z.name) (l:=none) r (by show z.name∈s.loads.map (·.1);rw[hs.ld];exact WO)
   clear put w
   have vt:∀{X:Cx}{δ:List Slot}{aa bb:bK}{pp:Pos},VE X aa δ (.str z.to)->VE X bb δ (.str "")->eB 1 X.A->VT X (.Compare aa [.NotEq] [bb] pp) δ (!decide (z.to="")):=λh1 h2 hr=>VT.to (iI hr (bu zto) cg h1 h2) (by rw[bN])
   by_cases h0:z.to=""
   ·have ed:sv pl day s (.put t z.name gs)=vP (kR s t) z.name none:=by unfold sv;dsimp only;rw[Ko,qQ3 h0]
    rw[ed]at fin;refine bS (nS KW.mono G5 (VT.to (vt (dz (bF C1 gq (ao (ai 0 rfl) (ao (gA 3 2 rfl rfl) aR)) #[pl,z,rfl,hp.ok,gd.dn,hz,rfl]) aE (cM (j:=1) rfl)) aW gq) (by rw[qQ1 h0];rfl)) λHa Hb G6=>sO (fin G6))
   ·have ed:sv pl day s (.put t z.name gs)=sr (vP (kR s t) z.name none) z.to λl=>l++gs:=by unfold sv;dsimp only;rw[Ko,qQ2 h0]
    rw[ed]at fin;refine bS (vp KW.mono G5 (VT.to (vt (dz (bF C1 gq (ao (ai 0 rfl) (ao (gA 3 2 rfl rfl) aR)) #[pl,z,rfl,hp.ok,gd.dn,hz,rfl]) aE (cM (j:=1) rfl)) aW gq) (by rw[qQ0 h0];rfl)) λHa Hb G6=>?_)
    obtain⟨c,m,cs,lv,w,put⟩:=Ws.put G6;have hq:=(lG (s:=s) (x:=z.to) (by rw[hs.nm];exact bq _ ((hp.dp z hz).2.2.resolve_left h0))).2
    obtain⟨j,pp,hj,hc,hm,hv,hH⟩:=w.at (s:=vP (kR s t) z.name none) WN hq;refine bS (Vd (κ:=aU z.to) (ds:=kj gs) G6.own gq 4 rfl w.pl (dz (bF C1 gq (ao (ai 0 rfl) (ao (gA 3 2 rfl rfl) aR)) #[pl,z,rfl,hp.ok,gd.dn,hz,rfl]) aE (cM (j:=1) rfl)) hv hH (nF k9 CG (ao (gA 3 3 rfl rfl) aR) n.lst rfl) (small (by unfold nV;rw[ae,f7];have:=Rf _ hq;omega)) λzs Ha Hb gr r=>?_)
    have e:nV (iy s z.to)++zs=nV (iy s z.to++gs):=by rw[yu r];unfold nV;rw[aP]
    rw[e];exact fin (put gr (x:=pp) (by simp[hm]) λw=>w.set WN hj hc λl=>l++gs)
end
end Mg
namespace Mg
open L2 PySem PyProof.Rows
seal L2.VE L2.VS L2.rP L2.VT L2.VO L2.Fy L2.VD L2.VLU
def sx(p:Pl):Ws:=#[(p.gates++p.lines.map (·.1)).map λx=>(x,[]),p.desks.map λd=>(d.name,none),[],0]
theorem Tb:∀{ls:List (Str×Option (List Nat×Int))}{ws:List (Key×V)},ws.map (·.1)=ls.map (λq=>(aU q.1:Key))->(ls.zip (ws.map (·.2))).map (λz=>((aU z.1.1:Key),z.2))=ws
 | [],[],_=>rfl
 | [],_::_,h=>by cases h
 |_::_,[],h=>by cases h
 |q::ls,w::ws,h=>by
  obtain⟨h1,h2⟩:=hZ h;rw[aA,dg,aA,Tb h2];have h1:w.1=aU q.1:=h1;rw[<-h1]
theorem Ri{X:Cx}{B0 B H0 H:Hp}{σ:L2.St}{D:Ends}{δ:List Slot}{b:aH}{s:Ws}{e:bK}{x:Str}{px pd pd2 pos q1 q2 q3 q4 q5:Pos}{j1 j2 j3 j4 j5}(G:OF X.K B0 B (DL X.K b (sY s)) H0 H σ δ)(i:Nat)(hi:δ[i]?=some (.ref b))(h:VD X e δ (jY s))(hme:s.met=[])(hti:s.time=0)(q:∀v cW H',c6 B0 B cW H'->Sy (λa=>xX X.K a s) B v cW H'->D.rt v H')
  (hN:rA X i x:=by ac_rfl):
  cS X (.Return (some (.Dict [some (.Constant (.str "places") j1 q1),some (.Constant (.str "loads") j2 q2),some (.Constant (.str "met") j3 q3),some (.Constant (.str "time") j4 q4)] [.Name x px,e,.Dict [] [] pd,.Constant (.int 0) j5 q5] pd2)) pos) D σ H:=λpins s0 I=>by
 refine v8 (Im (rG uk (uU hN) (rG uk cL (rG uk pC (rG uk Lq Il)))) rfl rfl (by simp) (by show 4<=15;decide)) pins s0 σ H D I λp hp=>?_
 have G1:=G.go DL.mono (G.own.grow (.loose (o:=.dK []) G.fr.sub hp)) G.no;refine#[.ref b,G1.fr.slot i _ hi,?_]
 unfold VD at h;refine h H0 _ σ H0 _ _ G1.own λc ws H2 fX g hc RW ZK e1 rs=>?_
 intro m hm;obtain⟨as,o1,cs,rfl,nd,hb,ls⟩:=G.ex;have gp:fX p=some (.dK []):=g.big _ _ aZ;have mp:m≠p:=λz=>by rw[z,gp]at hm;cases hm
 have pm:p≠m:=bJ mp;have cp:c≠p:=λz=>by rw[z,aZ]at hc;cases hc
 have cH:H c=none:=by rw[aL cp]at hc;exact hc
 have cm:c≠m:=bC ZK hm;have old:∀y∈b::cs,y≠p/\y≠c/\y≠m/\fX y=H y:=λy hy=>by
  have qY:=(o1 y hy).2.2;have yp:y≠p:=λz=>qY (by rw[z];exact hp)
  have e:fX y=H y:=by
   cases z:H y with
   |none=>exact qQ7 z qY
   |some o=>exact g.big _ _ (by rw[aL yp];exact z)
  exact#[yp,λz=>qY (by rw[z];exact cH),λz=>qY (by rw[<-e,z];exact hm),e]
 refine#[by rw[aL pm];exact gp,Q9 b c m 0,rfl,(by show 4<=15;decide),?_]
 rw[wy (by show(([aU "places",aU "loads",aU "met",aU "time"]:List Key)).Nodup;symm),eZ]
 have gg:=(G1.fr.ent.trans g).trans (.loose (o:=.dK []) g.sub hm);have Bp:B p=none:=G.fr.ent.big.free hp;have H2p:H2 p=none:=g.still (G.fr.sub.free hp) aZ;refine q _ H2 _ #[λy u z=>by rw[aL (bC z Bp)];exact gg.big y u z,gg.fB,λy u z=>by rw[aL (bC z H2p)];exact gg.sub y u z,gg.new] #[p,p::b::c::m::cs,rfl,λy hy=>?_,b,c,m,cs,ws.map (·.2),rfl,?_,by rw[aZ,hti],?_,#[ls.1,λi y r h1 h2=>?_],?_,?_,?_]
 ·have ow:∀y∈b::cs,B y=none/\H2 y=none/\(upd (upd fX m (.dK [])) p (.dK (Q9 b c m 0))) y≠none:=λy hy=>by
   obtain⟨z1,z2,z3,z4⟩:=old y hy;obtain⟨w1,w2,w3⟩:=o1 y hy;refine#[w2,?_,by rw[aL z1,aL z3,z4];exact w3]
   cases z:H y with
   |none=>exact qQ7 z w3
   |some o=>exact g.still w1 (by rw[aL z1];exact z)
  simp only[ax]at hy;rcases hy with rfl|rfl|rfl|rfl|hy
  ·exact#[Bp,H2p,by rw[aZ];exact nofun]
  ·exact ow _ (by simp)
  ·exact#[G.fr.ent.big.free cH,RW,by rw[aL cp,aL cm,ZK];exact nofun]
  ·exact#[G1.fr.ent.big.free (g.big.free hm),g.sub.free hm,by rw[aL mp,aZ];exact nofun]
  ·exact ow _ (by simp[hy])
 ·obtain⟨bp,bc,bm,_⟩:=old b (by simp)
  have n2:=cj.mp nd;simp only[cj,ax,not_or];exact#[#[bJ bp,bJ cp,pm,λz=>(old p (by simp[z])).1 rfl],#[bc,bm,n2.1],#[cm,λz=>(old c (by simp[z])).2.1 rfl],λz=>(old m (by simp[z])).2.2.1 rfl,n2.2]
 ·obtain⟨bp,bc,bm,be⟩:=old b (by simp)
  rw[aL bp,aL bm,be];exact hb
 ·obtain⟨z1,z2,z3,z4⟩:=old y (by simp[aK h1])
  obtain⟨xs,y1,y2⟩:=ls.2 i y r h1 h2;exact#[xs,by rw[aL z1,aL z3,z4];exact y1,y2.mono g.fB]
 ·rw[aL cp,aL cm,ZK]
  unfold Q8;rw[Tb (by rw[e1];unfold jY;rw[aB];rfl)]
 ·have:=rs
  unfold jY at this;rw[aB]at this;exact this
 ·rw[aL mp,aZ]
  unfold OW;rw[hme];rfl
def Fln:aj->Option aj
 | .tuple (d::_)=>some d
 |_=>none
theorem Rj(p:Pl):(p.lines.map xk).filterMap Fln=(p.lines.map (·.1)).map .str:=by
 rw[bP,aB];exact filterMap_some λq _=>rfl
def Fbd:aj->Option aj
 | .tuple (d::_)=>some (.tuple [d,.none])
 |_=>none
theorem Rk(p:Pl):(p.desks.map ej).filterMap Fbd=(jY (sx p)).map L2.pairD:=by
 show _=((p.desks.map λd=>(d.name,none)).map λq=>(q.1,oM q.2)).map L2.pairD
 rw[bP,aB,aB];exact filterMap_some λq _=>rfl
def Fst:aj->Option Str
 | .str x=>some x
 |_=>none
theorem Jo:∀l:List Str,(l.map aX).filterMap Fst=l
 | []=>rfl
 |x::l=>by rw[aA,cJ (f:=Fst) rfl,Jo l]
section
variable{P:bA}{w:cn}{K:aq}{mg:Str->Option aF}{base:cX}{f:aH}{k:Nat}
def Rbg(K:aq)(ds:List aj)(U:UR):Prop:=∃p:Pl,ds=[fL p]/\ny p/\mX p/\U=Sy λa=>xX K a (sx p)
theorem Tc:cw ["_law_h","_law_places"] ["_law_h"] (bL (top 59)):=by grind
theorem zdk{fd:eM}(F:kX K "_law_begun" "_law_begun" (top 59) f fd)(md:mg "dict"=none):eW P w K mg base kD 1 f fd ["_law_h"] (Wr K (Rbg K)):=
 Yq F Tc (by ext) λ_ _ h=>by
  obtain⟨p,rfl,ok,gd,rfl⟩:=h;intro g6 A outer s0 H E hr;have n1:(["_law_name"]:List Str).Nodup:=∎
  have n2:(["_law_line"]:List Str).Nodup:=∎
  have n3:(["_law_desk_here"]:List Str).Nodup:=∎
  have h1:=ok.gn;have h2:=ok.ln;have h3:=ok.dn;refine pH λB0 B σ H0 Hh D fr VN=>?_
  refine cI (M9 (rs:=p.gates++p.lines.map (·.1)) fr 1 ?_ gd.pn rfl md Tc.nd (λ_=>rfl) λb σ1 H1 dD G1=>?_)
  ·rw[<-Jo (p.gates++p.lines.map (·.1))]
   refine M0 (own:=["_law_name"]) (cap:=[]) (N:=["_law_name"]) (cl:=[]) (tgt:=.one 0) (F:=Fst) rfl #[rfl,∎,∎,rfl,rfl,by simp] (dY (VE.to (VO.ve (lb (d1:=p.gates.map .str) (du hr (ai 0 rfl) aW (vv p)) (VO.ve (VO.to (eU (own:=["_law_line"]) (cap:=[]) (N:=["_law_line"]) (cl:=[]) (tgt:=.one 0) (F:=Fln) (ds:=p.lines.map xk) rfl #[rfl,∎,∎,rfl,rfl,by simp] (dY (du hr (ai 0 rfl) aW (vy p))) (λf s3 H3=>gJ 0 n2) rfl (small (by rw[ae];omega)) (λd hd=>?_)) (Rj p))) (small (by rw[ae,ae,ae];omega)))) (by rw[aP]))) (λf s3 H3=>gJ 0 n1) rfl (small (by rw[ae,aV,ae];omega)) (λd hd=>?_)
   ·obtain⟨z,hz,rfl⟩:=au.mp hd
    exact Ee rfl rfl λf s3 H3=>gA 0 0 rfl rfl
   ·obtain⟨z,hz,rfl⟩:=au.mp hd
    refine#[_,rfl,λf s3 H3=>jW,λr ky f s3 H3=>?_]
    cases ky;exact Qj (ai 0 rfl) (dS (ds:=[]) aR)
  have ek:(p.gates++p.lines.map (·.1)).map (λr=>(r,([]:List aj)))=sY (sx p):=by
   unfold sY sx;rw[aB];rfl
  rw[ek]at G1;refine bS (Ri (s:=sx p) G1 1 rfl (M7 (VE.to (VO.ve (eU (own:=["_law_desk_here"]) (cap:=[]) (N:=["_law_desk_here"]) (cl:=[]) (tgt:=.one 0) (F:=Fbd) (ds:=p.desks.map ej) rfl #[rfl,∎,∎,rfl,rfl,by simp] (dY (du hr (ai 0 rfl) aW (pI p))) (λf s3 H3=>gJ 0 n3) rfl (small (by rw[ae];omega)) (λd hd=>?_))) (by rw[Rk])) ?_ rfl md) rfl rfl VN)
  ·obtain⟨z,hz,rfl⟩:=au.mp hd
   exact Ee rfl rfl λf s3 H3=>VE.to (dR (ao (gA 0 0 rfl rfl) (ao dQ aR))) rfl
  ·have e:(jY (sx p)).map (·.1)=p.desks.map (·.name):=by
    show((p.desks.map λd=>(d.name,(none:Option (List Nat×Int)))).map λq=>(q.1,oM q.2)).map (·.1)=_
    rw[aB,aB];rfl
   rw[e];exact gd.dn
end
end Mg
namespace Mg
open L2 PySem PyProof.Rows
theorem yv{α:Type}(F:α->List Nat){x:Str}{a:α}:∀{l:List (Str×α)},(l.map (·.1)).Nodup->(x,a)∈l->∃rest,((l.map λq=>F q.2).flatten).Perm (F a++rest)/\∀f:α->α,(((l.map λq=>if q.1=x then(q.1,f q.2)else q).map λq=>F q.2).flatten).Perm (F (f a)++rest)
 | [],_,h=>by cases h
 |q::l,hn,h=>by
  obtain⟨n1,n2⟩:=cj.mp hn;rcases ax.mp h with h|h
  ·subst h
   refine#[(l.map λq=>F q.2).flatten,.refl _,λf=>?_]
   rw[aA,qQ3 rfl];have e:(l.map λq=>if q.1=x then(q.1,f q.2)else q)=l:=(eQ λz hz=>qQ2 λe=>n1 (au.mpr #[z,hz,e])).trans (List.map_id' _)
   rw[e];exact .refl _
  ·obtain⟨rest,h1,h2⟩:=yv F n2 h
   refine#[F q.2++rest,?_,λf=>?_]
   ·rw[aA,fu]
    exact(h1.append_left _).trans (Av _ _ _)
   ·rw[aA,qQ2 (λe=>n1 (au.mpr #[(x,a),h,e.symm])),aA,fu]
    exact((h2 f).append_left _).trans (Av _ _ _)
def zX(l:Option (List Nat×Int)):List Nat:=(l.map (·.1)).getD []
def kN(s:Ws):List Nat:=(s.loads.map λq=>zX q.2).flatten
structure Jp(p:Pl)(n:Nat)(s:Ws):Prop where
 nm:s.places.map (·.1)=p.gates++p.lines.map (·.1)
 ld:s.loads.map (·.1)=p.desks.map (·.name)
 nd:(eD s++kN s).Nodup
 mt:∀g∈eD s++kN s,g∈s.met
 md:s.met.Nodup
 ml:∀g∈s.met,g<n
 l3:∀q∈s.loads,∀l,q.2=some l->l.1.length<=3
 n30:n<=30
theorem Jp.ok{p:Pl}{n:Nat}{s:Ws}(h:Jp p n s):vM p n s:=by
 refine#[h.nm,h.ld,(bR.mp h.nd).1,λg hg=>h.ml g (h.mt g (bM _ hg)),λq hq l e=>#[h.l3 q hq l e,λg hg=>h.ml g (h.mt g (bq _ ?_))],xA h.md h.ml,h.n30]
 refine iS.mpr #[_,au.mpr #[q,hq,rfl],?_]
 rwa[e]
def Oa(p:Pl)(day:List pX)(s:Ws):We->Prop
 | .come _ g=>g<day.length/\g∉s.met
 | .spoil _ g=>g∈eD s
 | .take _ d gs=>d∈p.desks.map (·.name)/\iM s d=none/\gs≠[]/\gs.length<=3/\gs.Nodup/\∀g∈gs,g∈eD s
 | .put _ d gs=>d∈p.desks.map (·.name)/\∃t,iM s d=some (gs,t)
theorem Oa.ok{p:Pl}{day:List pX}{s:Ws}(hv:Jp p day.length s)(hg:∀g,g<day.length->mM day g∈p.gates):∀{e:We},Oa p day s e->okE p day s e
 | .come _ g,h=>#[h.1,h.2,hg g h.1]
 | .spoil _ _,_=>trivial
 | .take _ _ _,#[h1,_,h2,h3,_,h4]=>#[h1,h2,h3,λg hg=>hv.ok.pg g (h4 g hg)]
 | .put _ d gs,#[h1,t,h2]=>#[h1,(((hv.ok.load h1).2 _ h2).1)]
section
variable{p:Pl}{day:List pX}{s:Ws}
theorem Fh(hp:mX p)(nm:s.places.map (·.1)=p.gates++p.lines.map (·.1)){x:Str}(hx:x∈p.gates++p.lines.map (·.1))(gs:List Nat):(eD (sr s x λl=>l++gs)).Perm (eD s++gs):=by
 obtain⟨rest,h1,h2⟩:=yv (λl:List Nat=>l) (by rw[nm];exact hp.pn) ((lG (s:=s) (x:=x) (by rw[nm];exact hx)).2)
 refine(h2 λl=>l++gs).trans ?_
 rw[cC];refine((mB (l₁:=gs)).append_left _).trans ?_
 rw[<-cC];exact h1.symm.append_right _
theorem BL(hp:mX p)(ld:s.loads.map (·.1)=p.desks.map (·.name)){d:Str}(hd:d∈p.desks.map (·.name)):∃rest,(kN s).Perm (zX (iM s d)++rest)/\∀l,(kN (vP s d l)).Perm (zX l++rest):=by
 obtain⟨rest,h1,h2⟩:=yv zX (by rw[ld];exact hp.dn) ((Ji (s:=s) (x:=d) (by rw[ld];exact hd)).2)
 exact#[rest,h1,λl=>h2 λ_=>l]
theorem BM(s:Ws)(gs:List Nat):eD (zT s gs)=flt gs (eD s):=by
 unfold eD zT flt;rw[List.filter_flatten,aB,aB];rfl
theorem yw{gs l:List Nat}{g:Nat}:g∈flt gs l↔g∈l/\g∉gs:=by
 unfold flt;simp
theorem BO(s:Ws)(d:Str)(l:Option (List Nat×Int)):(vP s d l).loads.map (·.1)=s.loads.map (·.1):=sZ d (λ_=>l) s.loads
theorem BP(s:Ws)(x:Str)(f:List Nat->List Nat):(sr s x f).places.map (·.1)=s.places.map (·.1):=sZ x f s.places
theorem Ob{d:Str}{l0:Option (List Nat×Int)}(h:∀q∈s.loads,∀l,q.2=some l->l.1.length<=3)(h0:(zX l0).length<=3):∀q∈(vP s d l0).loads,∀l,q.2=some l->l.1.length<=3:=λq hq l e=>by
 obtain⟨z,hz,rfl⟩:=au.mp hq;by_cases c:z.1=d
 ·rw[qQ3 c]at e
  have e:l0=some l:=e;rwa[e]at h0
 ·rw[qQ2 c]at e;exact h z hz l e
theorem Dp(hp:mX p)(h5:N3 p)(hv:Jp p day.length s)(hg:∀g,g<day.length->mM day g∈p.gates):∀{e:We},Oa p day s e->Jp p day.length (sv p day s e)/\(match e with
  | .come _ g=>(∀x,x∈eD (sv p day s e)↔x∈eD s\/x=g)/\(sv p day s e).met=s.met ++ [g]
  | .spoil _ g=>(∀x,x∈eD (sv p day s e)↔x∈eD s/\x∉[g])/\(sv p day s e).met=s.met
  | .take _ _ gs=>(∀x,x∈eD (sv p day s e)↔x∈eD s/\x∉gs)/\(sv p day s e).met=s.met
  | .put _ d gs=>(∀x,x∈eD (sv p day s e)↔x∈eD s\/(Aj p d≠""/\x∈gs))/\(sv p day s e).met=s.met/\gs.Nodup/\(∀x∈gs,x∈s.met/\x∉eD s))
 | .come t g,#[h1,h2]=>by
  have pm:=Fh (s:=Hq (kR s t) g) hp hv.nm (bM _ (hg g h1)) [g];have ew:eD (Hq (kR s t) g)=eD s:=rfl;rw[ew]at pm;have pm:(eD (sv p day s (.come t g))).Perm _:=pm;have hm:∀x,x∈eD _↔x∈eD s\/x=g:=λx=>by rw[pm.mem_iff,bo,aQ]
  have ec:kN (sv p day s (.come t g))=kN s:=rfl;refine#[#[(BP _ _ _).trans hv.nm,hv.ld,?_,λx hx=>?_,?_,λx hx=>?_,hv.l3,hv.n30],hm,rfl]
  ·have q:(eD (sv p day s (.come t g))++kN s).Perm (g::(eD s++kN s)):=(pm.append_right _).trans (by rw[cC];exact yb)
   rw[ec];exact q.nodup_iff.mpr (cj.mpr #[(λz=>h2 (hv.mt g z)),hv.nd])
  ·show x∈s.met ++ [g]
   rcases bo.mp hx with hx|hx
   ·rcases(hm x).mp hx with hx|hx
    ·exact bM _ (hv.mt x (bM _ hx))
    ·rw[hx];exact bq _ (aQ.mpr rfl)
   ·exact bM _ (hv.mt x (bq _ hx))
  ·show(s.met ++ [g]).Nodup
   exact(mB (l₁:=s.met) (l₂:=[g])).nodup_iff.mpr (cj.mpr #[h2,hv.md])
  ·have hx:=hx
   rcases bo.mp hx with hx|hx
   ·exact hv.ml x hx
   ·rw[aQ.mp hx];exact h1
 | .spoil t g,h1=>by
  have ew:eD (sv p day s (.spoil t g))=flt [g] (eD s):=BM (kR s t) [g];have ec:kN (sv p day s (.spoil t g))=kN s:=rfl;have sub:(flt [g] (eD s)).Sublist (eD s):=List.filter_sublist;refine#[#[?_,hv.ld,by rw[ew,ec];exact hv.nd.sublist (sub.append_right _),λx hx=>?_,hv.md,hv.ml,hv.l3,hv.n30],λx=>by rw[ew];exact yw,rfl]
  ·rw[<-hv.nm];exact aB
  ·rw[ew,ec]at hx
   exact hv.mt x ((sub.append_right _).subset hx)
 | .take t d gs,#[h1,h2,h3,h4,h5',h6]=>by
  have ew:eD (sv p day s (.take t d gs))=flt gs (eD s):=BM _ gs;obtain⟨rest,c1,c2⟩:=BL (s:=kR s t) hp hv.ld h1;have c2:=c2 (some (gs,t+Fg p day d gs));have eL:iM (kR s t) d=none:=h2;rw[eL]at c1;have ec:=c2.trans (c1.symm.append_left _);obtain⟨n1,n2,n3⟩:=bR.mp hv.nd;refine#[#[?_,(BO _ _ _).trans hv.ld,?_,λx hx=>?_,hv.md,hv.ml,Ob hv.l3 h4,hv.n30],λx=>by rw[ew];exact yw,rfl]
  ·rw[<-hv.nm];exact aB
  ·rw[ew]
   refine(ec.append_left _).nodup_iff.mpr (bR.mpr #[n1.sublist List.filter_sublist,bR.mpr #[h5',n2,λx hx y hy=>n3 x (h6 x hx) y hy],λx hx y hy e=>?_])
   obtain⟨x1,x2⟩:=yw.mp hx;rcases bo.mp hy with hy|hy
   ·exact x2 (by rw[e];exact hy)
   ·exact n3 x x1 y hy e
  ·rw[ew]at hx
   rcases bo.mp hx with hx|hx
   ·exact hv.mt x (bM _ (yw.mp hx).1)
   ·rcases bo.mp (ec.mem_iff.mp hx)with hx|hx
    ·exact hv.mt x (bM _ (h6 x hx))
    ·exact hv.mt x (bq _ hx)
 | .put t d gs,#[h1,t',h2]=>by
  obtain⟨rest,c1,c2⟩:=BL (s:=kR s t) hp hv.ld h1;have c2:=c2 none;have eL:iM (kR s t) d=some (gs,t'):=h2;rw[eL]at c1;have c1:=c1.trans (c2.symm.append_left _);have pm:(eD (sv p day s (.put t d gs))).Perm (eD s++if Aj p d="" then []else gs):=by
   unfold sv
   dsimp only
   by_cases h0:Aj p d=""
   ·rw[qQ3 h0,qQ3 h0,b9];exact .refl _
   ·rw[qQ2 h0,qQ2 h0]
    obtain⟨z,hz,rfl⟩:=au.mp h1;rw[N_ hp.dn hz]at h0 ⊢;exact Fh hp hv.nm (bq _ ((h5.dp z hz).2.2.resolve_left h0)) gs
  have ec:kN (sv p day s (.put t d gs))=kN (vP (kR s t) d none):=by
   unfold sv
   dsimp only
   split<;>rfl
  obtain⟨n1,n2,n3⟩:=bR.mp hv.nd;obtain⟨m1,m2,m3⟩:=bR.mp (c1.nodup_iff.mp n2);have em:(sv p day s (.put t d gs)).met=s.met:=by unfold sv;dsimp only;split<;>rfl
  have D7:∀x∈(if Aj p d="" then []else gs),x∈gs:=λx hx=>by
   split at hx
   ·cases hx
   ·exact hx
  have inC:∀x∈gs,x∈kN s:=λx hx=>c1.mem_iff.mpr (bM _ hx)
  refine#[#[?_,?_,?_,λx hx=>?_,by rw[em];exact hv.md,by rw[em];exact hv.ml,?_,hv.n30],λx=>?_,em,m1,λx hx=>#[hv.mt x (bq _ (inC x hx)),λy=>n3 x y x (inC x hx) rfl]]
  ·unfold sv
   dsimp only
   split
   ·exact hv.nm
   ·exact(BP _ _ _).trans hv.nm
  ·have e2:(sv p day s (.put t d gs)).loads=(vP (kR s t) d none).loads:=by unfold sv;dsimp only;split<;>rfl
   rw[e2];exact(BO _ _ _).trans hv.ld
  ·rw[ec]
   refine(pm.append_right _).nodup_iff.mpr ?_
   rw[cC];refine bR.mpr #[n1,bR.mpr #[?_,m2,λx hx y hy=>m3 x (D7 x hx) y hy],λx hx y hy=>n3 x hx y ?_]
   ·split
    ·exact gx
    ·exact m1
   ·rcases bo.mp hy with hy|hy
    ·exact inC y (D7 y hy)
    ·exact c1.mem_iff.mpr (bq _ hy)
  ·rw[em]
   rw[ec]at hx;rcases bo.mp hx with hx|hx
   ·rcases bo.mp (pm.mem_iff.mp hx)with hx|hx
    ·exact hv.mt x (bM _ hx)
    ·exact hv.mt x (bq _ (inC x (D7 x hx)))
   ·exact hv.mt x (bq _ (c1.mem_iff.mpr (bq _ hx)))
  ·have e2:(sv p day s (.put t d gs)).loads=(vP (kR s t) d none).loads:=by unfold sv;dsimp only;split<;>rfl
   rw[e2];exact Ob hv.l3 (bj _)
  ·rw[pm.mem_iff,bo]
   by_cases h0:Aj p d=""
   ·simp[h0]
   ·simp[h0]
end
end Mg
namespace Mg
open L2 PySem PyProof.Rows
seal L2.VE L2.VS L2.rP L2.VT L2.VO L2.Fy L2.VU
variable{day:List pX}{l:List aj}{p:Pl}{s:Ws}
theorem VQ{L:List Nat}(h:L≠[])(nd:L.Nodup)(m:Int):Di L m≠[]/\(Di L m).length<=3/\(Di L m).Nodup/\∀g∈Di L m,g∈L:=by
 unfold Di
 dsimp only
 generalize(m/8%L.length).toNat=a
 have hc:1<=(1+m/64%3).toNat/\(1+m/64%3).toNat<=3:=∅
 generalize(1+m/64%3).toNat=c at hc
 have pm:(L.drop a++L.take a).Perm L:=mB.trans (by rw[fz])
 have hL:0<L.length:=iQ.mpr h;have sub:=List.take_sublist c (L.drop a++L.take a);have h1:((L.drop a++L.take a).take c).length=min c L.length:=by rw[bh,pm.length_eq]
 have h2:=(pm.nodup_iff.mpr nd).sublist sub;have h3:∀g∈(L.drop a++L.take a).take c,g∈L:=λg hg=>pm.mem_iff.mp (sub.subset hg)
 have h4:(L.drop a++L.take a).take c≠[]:=λz=>by rw[z,df]at h1;omega
 generalize(L.drop a++L.take a).take c=R at *
 split
 ·exact#[by simpa using h4,by rw[uR];omega,(List.reverse_perm R).nodup_iff.mpr h2,λg hg=>h3 g (List.mem_reverse.mp hg)]
 ·exact#[h4,∅,h2,h3]
section
variable{p:Pl}{day:List pX}{s:Ws}{n:Nat}
theorem Hr(hv:Jp p n s){x:Str}(hx:x∈p.gates++p.lines.map (·.1)){g:Nat}(hg:g∈iy s x):g∈eD s:=by
 exact iS.mpr #[_,au.mpr #[_,(lG (s:=s) (x:=x) (by rw[hv.nm];exact hx)).2,rfl],hg]
theorem zY(hp:mX p)(hv:Jp p n s):∀{ps:List Str},ps.Nodup->(∀x∈ps,x∈p.gates++p.lines.map (·.1))->(jj s ps).Nodup/\∀g∈jj s ps,g∈eD s
 | [],_,_=>#[gx,λg hg=>by cases hg]
 |x::ps,hn,D7=>by
  obtain⟨n1,n2⟩:=cj.mp hn;obtain⟨i1,i2⟩:=zY hp hv n2 λy hy=>D7 y (aN _ hy)
  have e:jj s (x::ps)=iy s x++jj s ps:=rfl;have hm:=(lG (by rw[hv.nm];exact D7 x aM)).2
  obtain⟨rest,h1,h2⟩:=yv (λl:List Nat=>l) (by rw[hv.nm];exact hp.pn) hm
  obtain⟨w1,_,w3⟩:=bR.mp (h1.nodup_iff.mp (bR.mp hv.nd).1);refine#[bR.mpr #[w1,i1,λg hg g' hg' ee=>?_],λg hg=>?_]
  ·subst ee
   obtain⟨l,hl,Nk⟩:=iS.mp hg';obtain⟨y,hy,rfl⟩:=au.mp hl;have hmy:=(lG (by rw[hv.nm];exact D7 y (aN _ hy))).2
   have:g∈rest:=(h2 λ_=>[]).mem_iff.mp (iS.mpr #[_,au.mpr #[(y,iy s y),au.mpr #[_,hmy,qQ2 λz:y=x=>n1 (by rw[<-z];exact hy)],rfl],Nk])
   exact w3 g hg g this rfl
  ·rcases bo.mp hg with hg|hg
   ·exact Hr hv (D7 x aM) hg
   ·exact i2 g hg
theorem Fi(hp:mX p)(h5:N3 p)(hv:Jp p n s){m t:Int}{e:We}(h:oN p s m t=some e):Oa p day s e:=by
 unfold oN at h;cases hI:zR p s with
 |nil=>rw[hI]at h;cases h
 |cons d ds=>
  rw[hI]at h;have e1:=(cG h).symm;have hm:pickOf (d::ds) d m∈zR p s:=by rw[hI];exact(jD (F:=ej) (by rw[bf];omega) m).2
  generalize pickOf (d::ds) d m=z at *
  obtain⟨hz,hf⟩:=kT.mp hm;obtain⟨f1,f2⟩:=dP.mp hf;obtain⟨k1,k2⟩:=zY hp hv ((List.pairwise_flatten.mp hp.dj).1 _ (au.mpr #[z,hz,rfl])) (h5.dp z hz).1;obtain⟨r1,r2,r3,r4⟩:=VQ (λy=>by rw[y]at f2;cases f2) k1 m
  rw[e1];exact#[au.mpr #[z,hz,rfl],Option.isNone_iff_eq_none.mp f1,r1,r2,r3,λg hg=>k2 g (r4 g hg)]
theorem Jq(hp:mX p)(h5:N3 p)(hv:Jp p day.length s){m t:Int}{e:We}(h:BI p day.length s m t=some e):Oa p day s e:=by
 have rip:∀j,(sk p s t).isEmpty=false->Oa p day s (Jj _ j):=λj qY=>by
  obtain⟨d,hd,l,h1,_,_,h2⟩:=Fd (jD (F:=qZ) (d:=We.come 0 0) (by cases hh:sk p s t with|nil=>rw[hh]at qY;cases qY|cons _ _=>rw[bf];omega) j).2;unfold Jj;rw[h2];exact#[au.mpr #[d,hd,rfl],l.2,h1]
 have no:∀{b:Bool},(!b)=true->b=false:=λ{b}h=>by cases b<;>simp_all
 unfold BI at h
 split at h
 ·rename_i c
  cases h;exact rip _ (no (dP.mp c).2)
 split at h
 ·exact Fi hp h5 hv h
 split at h
 ·rename_i c
  cases h;have c2:=no (dP.mp c).2;exact(jD (F:=λ(g:Nat)=>c9 g) (by cases hh:eD s with|nil=>rw[hh]at c2;cases c2|cons _ _=>rw[bf];omega) _).2
 split at h
 ·rename_i c
  cases h;have c2:=no c;have:=(jD (l:=xC day.length s) (F:=λ(g:Nat)=>c9 g) (d:=0) (by cases hh:xC day.length s with|nil=>rw[hh]at c2;cases c2|cons _ _=>rw[bf];omega) (m/8)).2
  obtain⟨c3,c4⟩:=kT.mp this;exact#[cA.mp c3,qQ5 (no c4)]
 split at h
 ·rename_i c
  cases h;exact rip _ (no c)
 ·exact Fi hp h5 hv h
end
def Oc(m:Int):Int:=if m%4=2 then 1 else if m%4=3 then m/7%9 else 0
theorem Od(m:Int):ur [c9 0,.int 0,.int 1,.int (m/7%9)] (m%4)=some (.int (Oc m)):=by
 unfold Oc;rcases(by omega:m%4=0\/m%4=1\/m%4=2\/m%4=3)with e|e|e|e<;>rw[e]<;>rfl
def mW(cells:List Int)(k:Nat):Int:=c7 (cells.getD k 0) k
def tW(cells:List Int):Nat->Int
 |0=>0
 |k+1=>tW cells k+Oc (mW cells k)
def Jr(p:Pl)(day:List pX)(q:Ws×List We):Option We->Ws×List We
 |none=>q
 |some e=>(sv p day q.1 e,q.2 ++ [e])
def Js(p:Pl)(day:List pX)(cells:List Int)(s:Ws)(k:Nat):Option We:=BI p day.length s (mW cells k/50) (tW cells (k+1))
def Fz(p:Pl)(day:List pX)(cells:List Int):Nat->Ws×List We
 |0=>(sx p,[])
 |k+1=>Jr p day (Fz p day cells k) (Js p day cells (Fz p day cells k).1 k)
inductive Reach(p:Pl)(day:List pX):Ws->List We->Prop
 |nil:Reach p day (sx p) []
 |snoc {s:Ws} {l:List We} {e:We}:Reach p day s l->Oa p day s e->Reach p day (sv p day s e) (l ++ [e])
structure Ak(p:Pl)(day:List pX):Prop where
 gd:mX p
 p5:N3 p
 gt:∀g,g<day.length->mM day g∈p.gates
 dl:day.length<=30
theorem ZL{n:Nat}(h:n<=30):Jp p n (sx p):=by
 have e1:eD (sx p)=[]:=by
  unfold eD sx;rw[aB];exact qN.mpr λl hl=>by obtain⟨_,_,rfl⟩:=au.mp hl;rfl
 have e2:kN (sx p)=[]:=by
  unfold kN sx;rw[aB];exact qN.mpr λl hl=>by obtain⟨_,_,rfl⟩:=au.mp hl;rfl
 refine#[?_,?_,by rw[e1,e2];exact gx,λg hg=>(by rw[e1,e2]at hg;cases hg),gx,λg hg=>(by cases hg),λq hq l e=>?_,h]
 ·unfold sx;rw[aB];exact List.map_id' _
 ·unfold sx;rw[aB];rfl
 ·obtain⟨z,_,rfl⟩:=au.mp hq
  cases e
theorem Reach.V(ok:Ak p day){l:List We}(h:Reach p day s l):Jp p day.length s:=by
 induction h with
 |nil=>exact ZL ok.dl
 |snoc _ he ih=>exact(Dp ok.gd ok.p5 ih ok.gt he).1
theorem wN(ok:Ak p day)(cells:List Int):∀k,Reach p day (Fz p day cells k).1 (Fz p day cells k).2/\(Fz p day cells k).2.length<=k
 |0=>#[.nil,aT _]
 |k+1=>by
  obtain⟨i1,i2⟩:=wN ok cells k;have e1:Fz p day cells (k+1)=Jr p day _ _:=rfl;rw[e1];cases e:Js p day cells (Fz p day cells k).1 k with
  |none=>exact#[i1,lS i2]
  |some x=>exact#[.snoc i1 (Jq ok.gd ok.p5 (i1.V ok) e),by show((Fz p day cells k).2 ++ [x]).length<=_;rw[aV,f6];omega]
def Rwi(ds:List aj)(d:aj):Prop:=∃(p:Pl)(day:List pX)(cells:List Int),ds=[fL p,.list (day.map oh),oC cells]/\Ak p day/\cells.length<=63/\d=.list ((Fz p day cells cells.length).2.map qZ)
abbrev Nwi:List Str:=["_law_h","_law_day_here","_law_cells","_law_state","_law_book","_law_t","_law_k","_law_cell","_law_m","_law_entry"]
section
variable{P:bA}{w:cn}{K:aq}{mg:Str->Option aF}{base:cX}{f:aH}{k:Nat}
theorem Oe{a b:aH}(Ha Hb:Hp)(as:List aH)(sb:cU Ha Hb)(h:mZ K (xX K a s) b l Ha Hb as)(ho:∀x∈as,Ha x=none):∃c ws,c∈as/\Hb c=some (.dK ws)/\∀o,Rep K (jG as (upd Hb c (.p_ o (.dK ws))) Ha) (.ref a) (N0 s):=by
 obtain⟨tV,xs,rfl,h1,h2,h3,h4⟩:=h;obtain⟨c,ws,c1,c2,c3⟩:=xX.known Ha Hb tV sb h2 λx hx=>ho x (by simp[hx])
 refine#[c,ws,by simp[c1],c2,λo=>(c3 o).mono λx u e=>?_]
 by_cases hx:x∈tV
 ·rw[jb hx]at e;rwa[jb (by simp[hx])]
 ·rw[jO hx]at e
  have:x∉b::tV:=λy=>by rw[ho x y]at e;cases e
  rwa[jO this]
theorem Og{a b:aH}(Ha Hb:Hp)(as:List aH)(h:mZ K (xX K a s) b l Ha Hb as):∀x∈as,Ki Hb x:=by
 obtain⟨tV,xs,rfl,h1,h2,h3,h4⟩:=h;intro x hx;rcases ax.mp hx with rfl|hx
 ·intro ys;rw[h3];exact#[nofun,λo z=>by cases z]
 ·exact xX.Zz Ha Hb tV h2 x hx
theorem VW{a b:aH}{s': Ws}(Ha Hb:Hp)(as:List aH)(h:mZ K (xX K a s) b l Ha Hb as):∃a1 a2:List aH,(∀a,a∈as↔a∈a1\/a∈a2)/\(∀a∈a1,a∉a2)/\xX K a s Ha Hb a1/\∀(Hc Hd:Hp)(a3:List aH),cU Ha Hc->(∀a∈a2,Hd a=Hb a)->(∀a∈a2,a∉a3)->xX K a s' Hc Hd a3->∃a4:List aH,(∀a∈a4,a∈a3\/a∈a2)/\mZ K (xX K a s') b l Hc Hd a4:=by
 obtain⟨tV,xs,rfl,h1,h2,h3,h4⟩:=h;refine#[tV,[b],λx=>by simp[or_comm],λx hx y=>h1 (by rw[<-aQ.mp y];exact hx),h2,λHc Hd a3 z1 z2 z3 z4=>#[_,λx hx=>?_,a3,xs,rfl,z3 b (by simp),z4,by rw[z2 b (by simp)];exact h3,h4.mono z1]]
 rcases ax.mp hx with hx|hx
 ·exact .inr (by simp[hx])
 ·exact .inl hx
theorem Td:cw Nwi ["_law_h","_law_day_here","_law_cells"] (bL (top 60)):=by grind
theorem zdl{fd:eM}(F:kX K "_law_wild" "_law_wild" (top 60) f fd)(n:Na mg)(C0:bB P w K mg base 1 "_law_mix" ["_law_cell","_law_k"] (g7 K EF))(C1:bB P w K mg base 1 "_law_begun" ["_law_h"] (Wr K (Rbg K)))(C2:bB P w K mg base 3 "_law_wild_entry" ["_law_h","_law_day_here","_law_state","_law_m","_law_t"] (g7 K Rwe))(C3:bB P w K mg base 2 "_law_do" ["_law_h","_law_day_here","_law_state","_law_entry"] (qo K Ws (xX K) 2 ZH)):eW P w K mg base kD 4 f fd ["_law_h","_law_day_here","_law_cells"] (g7 K Rwi):=
 jz F Td (by ext) λ_ _ h=>by
  obtain⟨p,day,cells,rfl,ok,Gk,rfl⟩:=h;intro g6 A outer s0 H E hr;have nd:Nwi.Nodup:=Td.nd;have gq:eB 1 _:=hr.mono ∅
  have mo:∀{a b:aH}{s:Ws}{l:List aj},gS (mZ K (xX K a s) b l):=mZ.mono xX.mono;refine pH λB0 B σ H0 Hh D fr VN=>?_
  refine cI (M8 fr 3 (CN C1 gq zt (ao (ai 0 rfl) aR) #[p,rfl,ok.p5.ok,ok.gd,rfl]) nd (λ_=>rfl) λa σ1 H1 dD G1=>?_)
  refine cI (Qq xX.mono G1 4 nd (λ_=>rfl) λb σ2 fX G2=>?_)
  refine cI (mU mo G2 (cu 5 (d:=.int 0) aE nd) rfl λσ3 H3 uv G3=>?_)
  refine cI (MG (tgt:=.tup [6,7]) (λi=>mZ K (xX K a (Fz p day cells i).1) b ((Fz p day cells i).2.map qZ)) (λi=>[.val (fL p),.val (.list (day.map oh)),.val (oC cells),.ref a,.ref b,.val (.int (tW cells i)),.un,.un,.un,.un]) (λ_=>mo) G3 bY rfl (ni (ai 2 rfl) n.OQ)
   (gK rfl (bT (gJ 6 nd) (bT (gJ 7 nd) fF))) (λi dd hd=>?_) (λσ5 H5 UN G5=>?_))
  ·obtain⟨x,hx,rfl⟩:=ju hd
   have hi:i<cells.length:=by have:=(aJ.mp hx).1;rw[ae]at this;exact this
   obtain rfl:x=.int (cells.getD i 0):=by
    rw[ay,av hi]at hx
    rw[aO,av hi]
    cases hx;rfl
   obtain⟨re,hlen⟩:=wN ok cells i;have hV:=re.V ok;have e1:Fz p day cells (i+1)=Jr p day (Fz p day cells i) _:=rfl;refine#[_,rfl,rfl,λD' C0' σ' cW H' G post=>?_]
   rw[e1]at post
   generalize Fz p day cells i=q at *
   refine cI (mU mo G (cu 8 (bF C0 gq (ao (ai 7 rfl) (ao (ai 6 rfl) aR)) #[cells.getD i 0,i,rfl,∅,∅,rfl]) nd) rfl λσ6 H6 H6' G6=>?_)
   refine cI (mU mo G6 (cu 5 (dZ (ai 5 rfl) (fU (VO.ve (dS (ao aE (ao aE (ao aE (ao (cq (eI (ai 8 rfl) aE #[⋯,⋯]) aE ⋯) aR)))))) (cq (ai 8 rfl) aE ⋯) (Od _))) nd) rfl λσ7 H7 H7' G7=>?_)
   refine cI (Qn mo G7 3 9 rfl Oe Og (bF C2 (hr.mono ∅) (ao (ai 0 rfl) (ao (ai 1 rfl) (ao (ai 3 rfl) (ao (eI (ai 8 rfl) aE #[⋯,⋯]) (ao (ai 5 rfl) aR))))) #[p,day.map oh,q.1,mW cells i/50,tW cells (i+1),rfl,ok.p5,by rw[ae];exact hV.ok,rfl]) (VC _) rfl (λσ8 H8 H8' G8=>?_) nd)
   rw[ae,show BI p day.length q.1 (mW cells i/50) (tW cells (i+1))=Js p day cells q.1 i from rfl]at G8
   cases he:Js p day cells q.1 i with
   |none=>
    rw[he]at G8 post;refine bS (nS mo G8 (VT.to (e9 mj AO (ai 9 rfl) dQ (eV _)) rfl) λH9 H9' G9=>sO (post _ _ _ (G9.forget mo #[.inr rfl,.inr rfl,.inr rfl,.inr rfl,.inr rfl,.inr rfl,.inl rfl,.inl rfl,.inl rfl,.inl rfl,trivial] rfl)))
   |some e=>
    rw[he]at G8 post;have hk:=Jq ok.gd ok.p5 hV he;have hb:(!Nr (WH (some e)))=true:=by cases e<;>rfl
    refine bS (vp mo G8 (VT.to (e9 mj AO (ai 9 rfl) dQ (eV _)) hb) λH9 H9' G9=>?_)
    refine cI (Qr xX.mono G9 4 rfl (ai 9 rfl) (fw (by rw[ae];omega)) λHa Hb Ga=>?_)
    have ea:q.2.map qZ ++ [WH (some e)]=(Jr p day q (some e)).2.map qZ:=by
     show _=(q.2 ++ [e]).map qZ;rw[aP];rfl
    rw[ea]at Ga;refine bS (Vf (PR:=xX K) (s:=q.1) C3 (hr.mono ∅) Ga mo 3 rfl (ai 0 rfl) (ai 1 rfl) (ai 9 rfl) #[p,day,e,rfl,rfl,ok.p5,ok.gd,hV.ok,hk.ok hV ok.gt,rfl] VW λHc Hd Gc=>?_)
    exact post _ _ _ (Gc.forget mo #[.inr rfl,.inr rfl,.inr rfl,.inr rfl,.inr rfl,.inr rfl,.inl rfl,.inl rfl,.inl rfl,.inl rfl,trivial] rfl)
  ·have e:(Bi (cells.map c9)).length=cells.length:=by rw[dE,ae]
   rw[e]at G5;exact bS (Si G5 4 rfl mZ.rep VN)
end
end Mg
namespace Mg
open L2 PySem PyProof.Rows
variable{l:List We}{e:We}
abbrev AQ:=Str×Int×Option Int
def Dq:Option Int->aj
 |none=>.none
 |some t=>.int t
def sy(s:AQ):aj:=.tuple [.str s.1,.int s.2.1,Dq s.2.2]
structure Ht where
 stays:List AQ
 place:Str
 beg:Option Int
def We.names(g:Nat):We->Bool
 | .come _ x=>decide (x=g)
 | .spoil _ x=>decide (x=g)
 | .take _ _ gs=>decide (g∈gs)
 | .put _ _ gs=>decide (g∈gs)
def Oh(s:Ht):Ht:=#[s.stays,s.place,if s.place="" then none else s.beg]
def Hu(p:Pl)(s:Ht):We->Ht
 | .come t _=>#[s.stays,s.place,some t]
 | .put t d _=>#[s.stays,Aj p d,some t]
 | .spoil t _=>#[s.stays ++ [(s.place,s.beg.getD 0,some t)],s.place,none]
 | .take t _ _=>#[s.stays ++ [(s.place,s.beg.getD 0,some t)],s.place,none]
def wO(p:Pl)(g:Nat)(s:Ht)(e:We):Ht:=if e.names g=true then Oh (Hu p s e)else s
def qJ(p:Pl)(day:List pX)(g:Nat)(book:List We):Ht:=book.foldl (wO p g) #[[],mM day g,none]
def zZ(s:Ht):List AQ:=match s.beg with
 |none=>[]
 |some t=>[(s.place,t,none)]
def kB(s:Ht):List AQ:=s.stays++zZ s
theorem kS(p:Pl)(day:List pX)(g:Nat)(l:List We)(e:We):qJ p day g (l ++ [e])=wO p g (qJ p day g l) e:=by
 unfold qJ;rw[eS];rfl
structure WQ(day:List pX)(g:Nat)(s:Ws)(L:Ht):Prop where
 on:g∈eD s->∃t,L.beg=some t
 off:g∉eD s->L.beg=none
 new:g∉s.met->L.place=mM day g
theorem dW.ne{x:Str}(h:dW x):x≠"":=λe=>by
 have h1:=h.1;rw[e]at h1;exact qQ7 h1 ∎
section
variable{p:Pl}{day:List pX}{s:Ws}{L:Ht}{g:Nat}{t:Int}{d:Str}{gs:List Nat}
theorem Rm(ok:Ak p day)(h:g<day.length):mM day g≠"":=(ok.p5.ok.gates _ (ok.gt g h)).ne
theorem Oi(hv:Jp p day.length s)(h:g∉s.met):g∉eD s:=λz=>h (hv.mt g (bM _ z))
theorem pS(h:e.names g=false):wO p g L e=L:=by unfold wO;rw[h];rfl
theorem vR(h:e.names g=true):wO p g L e=Oh (Hu p L e):=by unfold wO;rw[h];rfl
theorem Jt(ok:Ak p day)(h:WQ day g s L)(hl:g<day.length)(hm:g∉s.met):wO p g L (.come t g)=#[L.stays,mM day g,some t]:=by
 rw[vR (e:=.come t g) (qQ1 rfl)];unfold Oh Hu
 rw[h.new hm,qQ2 (Rm ok hl)]
theorem end_is(hn:e.names g=true)(he:Hu p L e=#[L.stays ++ [(L.place,L.beg.getD 0,some t)],L.place,none]):wO p g L e=#[L.stays ++ [(L.place,L.beg.getD 0,some t)],L.place,none]:=by
 rw[vR hn,he];unfold Oh
 rw[ite_self]
theorem Oj(hn:e.names g=true)(he:Hu p L e=#[L.stays ++ [(L.place,L.beg.getD 0,some t)],L.place,none])(hb:∃b,L.beg=some b):∃l0 x b,kB L=l0 ++ [(x,b,none)]/\kB (wO p g L e)=l0 ++ [(x,b,some t)]:=by
 obtain⟨b,hb⟩:=hb;rw[end_is hn he];refine#[L.stays,L.place,b,?_,?_]
 ·unfold kB zZ;rw[hb]
 ·rw[hb];exact b9 _
theorem K0(ok:Ak p day)(h:WQ day g s L)(hv:Jp p day.length s)(hl:g<day.length)(hm:g∉s.met):kB (wO p g L (.come t g))=kB L ++ [(mM day g,t,none)]:=by
 rw[Jt ok h hl hm];unfold kB zZ;rw[h.off (Oi hv hm)]
 rw[b9]
theorem Fj(hb:L.beg=none)(hg:g∈gs):kB (wO p g L (.put t d gs))=if Aj p d="" then kB L else kB L ++ [(Aj p d,t,none)]:=by
 rw[vR (e:=.put t d gs) (qQ1 hg)];unfold Oh Hu kB zZ
 rw[hb]
 by_cases h:Aj p d=""
 ·rw[qQ3 h,qQ3 h]
 ·rw[qQ2 h,qQ2 h,b9]
theorem WQ.step(ok:Ak p day)(hv:Jp p day.length s)(hl:g<day.length)(he:Oa p day s e)(h:WQ day g s L):WQ day g (sv p day s e) (wO p g L e):=by
 have hd:=(Dp ok.gd ok.p5 hv ok.gt he).2;cases e with
 |come t x=>
  obtain⟨d1,d2⟩:=hd;by_cases hx:x=g
  ·subst hx
   rw[Jt ok h hl he.2];exact#[λ_=>#[t,rfl],λz=>qQ7 ((d1 x).mpr (.inr rfl)) z,λ_=>rfl]
  ·rw[pS (e:=.come t x) (qQ0 hx)]
   exact#[λz=>h.on (((d1 g).mp z).resolve_right λy=>hx y.symm),λz=>h.off λy=>z ((d1 g).mpr (.inl y)),λz=>h.new λy=>z (by rw[d2];exact bM _ y)]
 |spoil t x=>
  obtain⟨d1,d2⟩:=hd;by_cases hx:x=g
  ·subst hx
   rw[end_is (e:=.spoil t x) (qQ1 rfl) rfl];exact#[λz=>qQ7 (aQ.mpr rfl) ((d1 x).mp z).2,λ_=>rfl,λz=>h.new (by rw[d2]at z;exact z)]
  ·rw[pS (e:=.spoil t x) (qQ0 hx)]
   exact#[λz=>h.on ((d1 g).mp z).1,λz=>h.off λy=>z ((d1 g).mpr #[y,λw=>hx (aQ.mp w).symm]),λz=>h.new (by rw[d2]at z;exact z)]
 |take t d gs=>
  obtain⟨d1,d2⟩:=hd;by_cases hx:g∈gs
  ·rw[end_is (e:=.take t d gs) (qQ1 hx) rfl]
   exact#[λz=>qQ7 hx ((d1 g).mp z).2,λ_=>rfl,λz=>h.new (by rw[d2]at z;exact z)]
  ·rw[pS (e:=.take t d gs) (qQ0 hx)]
   exact#[λz=>h.on ((d1 g).mp z).1,λz=>h.off λy=>z ((d1 g).mpr #[y,hx]),λz=>h.new (by rw[d2]at z;exact z)]
 |put t d gs=>
  obtain⟨d1,d2,d3,d4⟩:=hd;by_cases hx:g∈gs
  ·rw[vR (e:=.put t d gs) (qQ1 hx)]
   refine#[λz=>?_,λz=>?_,λz=>qQ7 (d4 g hx).1 (by rw[d2]at z;exact z)]
   ·rcases(d1 g).mp z with z|z
    ·exact qQ7 z (d4 g hx).2
    ·exact#[t,qQ2 z.1]
   ·by_cases h0:Aj p d=""
    ·exact qQ3 h0
    ·exact qQ7 ((d1 g).mpr (.inr #[h0,hx])) z
  ·rw[pS (e:=.put t d gs) (qQ0 hx)]
   exact#[λz=>h.on (((d1 g).mp z).resolve_right λy=>hx y.2),λz=>h.off λy=>z ((d1 g).mpr (.inl y)),λz=>h.new (by rw[d2]at z;exact z)]
theorem Ol(p:Pl):eD (sx p)=[]:=by
 unfold eD sx;rw[aB];exact qN.mpr λl hl=>by obtain⟨_,_,rfl⟩:=au.mp hl;rfl
theorem Reach.ZM(ok:Ak p day)(hl:g<day.length)(h:Reach p day s l):WQ day g s (qJ p day g l):=by
 induction h with
 |nil=>exact#[λz=>qQ7 z (by rw[Ol];exact bD),λ_=>rfl,λ_=>rfl]
 |snoc h1 he ih=>rw[kS];exact ih.step ok (h1.V ok) hl he
theorem Reach.at(h:Reach p day s l):∀{k:Nat}{e:We},l[k]?=some e->∃s',Reach p day s' (l.take k)/\Oa p day s' e:=by
 induction h with
 |nil=>intro k e z;cases z
 | @snoc s0 l0 e0 h1 he ih=>
  intro k e z;by_cases hk:k<l0.length
  ·rw[bX hk]at z
   rw[List.take_append_of_le_length ∅];exact ih z
  ·have hk2:k=l0.length:=by
    have:=(aJ.mp z).1
    rw[aV,f6]at this;omega
   subst hk2;rw[bO ∅,xO]at z
   cases z;rw[List.take_left];exact#[s0,h1,he]
theorem take_snoc{α:Type}{l:List α}{k:Nat}{e:α}(h:l[k]?=some e):l.take (k+1)=l.take k ++ [e]:=by
 rw[cv,h];rfl
theorem Ju:lX "":=by show bW _=true;symm
theorem Dr(ok:Ak p day)(d:Str):lX (Aj p d):=by
 unfold Aj;cases e:p.desks.find? λz=>decide (z.name=d) with
 |none=>exact Ju
 |some z=>
  rcases(ok.p5.ok.desks z (List.mem_of_find?_eq_some e)).2.1 with h|h
  ·show lX z.to
   rw[h];exact Ju
  ·exact h.ok.2
structure ZN(n:Nat)(L:Ht):Prop where
 len:L.stays.length<=n
 pl:lX L.place
 st:∀x∈L.stays,lX x.1
theorem Jv(ok:Ak p day)(hg:g<day.length):∀l:List We,ZN l.length (qJ p day g l.reverse)
 | []=>#[aT _,(ok.p5.ok.gates _ (ok.gt g hg)).ok.2,λx hx=>by cases hx]
 |e::l=>by
  have ih:=Jv ok hg l;rw[lL,kS,bf];have hl:=ih.len;have en:∀t:Int,ZN (l.length+1) #[(qJ p day g l.reverse).stays ++ [((qJ p day g l.reverse).place,(qJ p day g l.reverse).beg.getD 0,some t)],(qJ p day g l.reverse).place,if(qJ p day g l.reverse).place="" then none else none]:=λt=>#[by rw[aV,f6];omega,ih.pl,λx hx=>by
   rcases bo.mp hx with hx|hx
   ·exact ih.st x hx
   ·rw[aQ.mp hx];exact ih.pl]
  unfold wO
  split
  ·cases e with
   |come t x=>exact#[lS hl,ih.pl,ih.st]
   |spoil t x=>exact en t
   |take t d gs=>exact en t
   |put t d gs=>exact#[lS hl,Dr ok d,ih.st]
  ·exact#[lS hl,ih.pl,ih.st]
theorem Ds(ok:Ak p day)(hg:g<day.length)(l:List We):ZN l.length (qJ p day g l):=by
 have h:=Jv ok hg l.reverse
 rwa [List.reverse_reverse,uR]at h
theorem ZN.full{n:Nat}(h:ZN n L):(kB L).length<=n+1/\∀x∈kB L,lX x.1:=by
 unfold kB zZ;have h1:=h.len;cases L.beg with
 |none=>dsimp only;rw[b9];exact#[∅,h.st]
 |some b=>
  refine#[by rw[aV,f6];omega,λx hx=>?_]
  rcases bo.mp hx with hx|hx
  ·exact h.st x hx
  ·rw[aQ.mp hx];exact h.pl
end
end Mg
namespace Mg
open L2 PySem PyProof.Rows
seal L2.VE L2.VS L2.rP L2.VT L2.VO L2.Fy
variable{fd:eM}
def sA(p:Pl):List (Str×aj):=p.desks.map λd=>(d.name,.str d.to)
theorem yx{p:Pl}{d:Str}(h:d∈p.desks.map (·.name)):gF (sA p) d=some (.str (Aj p d)):=by
 unfold sA Aj gF
 generalize p.desks=l at h
 induction l with
 |nil=>cases h
 |cons z l ih=>
  rw[aA,cO,cO]
  by_cases e:z.name=d
  ·rw[qQ1 e];rfl
  ·rw[qQ0 e]
   exact ih ((ax.mp h).resolve_left (bJ e))
def Fto:aj->Option aj
 | .tuple (a::b::_)=>some (.tuple [a,b])
 |_=>none
theorem Rn(p:Pl):(p.desks.map ej).filterMap Fto=(sA p).map L2.pairD:=by
 unfold sA;rw[bP,aB];exact filterMap_some λq _=>rfl
theorem Om(p:Pl):(sA p).map (·.1)=p.desks.map (·.name):=by unfold sA;rw[aB];rfl
theorem Ro(l:List Nat):Lay 20 (.tuple (kj l)):=iE λd hd=>by obtain⟨g,_,rfl⟩:=au.mp hd;exact bQ _ _
theorem Rp(x g:Nat):decide ((x:Int)=(g:Int))=decide (x=g):=decide_eq_decide.mpr Int.ofNat_inj
theorem Jw{a b:Str}(ha:lX a)(hb:lX b):Lay 20 (.tuple [.str a,.str b]):=iE λd hd=>by
 rcases ax.mp hd with rfl|hd
 ·exact bu ha
 ·rw[aQ.mp hd];exact bu hb
section
variable{X:Cx}{δ:List Slot}{e:We}{g:Nat}{e0 e1 e2 e3 eg eh t1 t2 a b0 c:bK}{p1 p2 p3 p4 p5 p6 p7 px pos:Pos}{x pl:Str}{b:Option Int}{k0:Nat}
theorem Fk(hr:eB k0 X.A)(h0:VE X e0 δ (.str e.word))(h1:VE X e1 δ (.str e.word))(ht1:VE X t1 δ (.tuple [.str "come",.str "spoil"]))(ht2:VE X t2 δ (.tuple [.str "take",.str "put"]))(hg:VE X eg δ (.int (g:Int)))(hh:VE X eh δ (.int (g:Int)))
  (h2:∀t x,e=.come t x\/e=.spoil t x->VE X e2 δ (.int (x:Int)))(h3:∀t d gs,e=.take t d gs\/e=.put t d gs->VE X e3 δ (.tuple (kj gs)))
  (m1:behindInMarks .In t1=false:=by with_unfolding_all rfl)(m2:behindInMarks .In t2=false:=by with_unfolding_all rfl)(m3:behindInMarks .NotIn e3=false:=by with_unfolding_all rfl):
  VT X (.BoolOp .Or [.BoolOp .And [.Compare e0 [.In] [t1] p1,.Compare e2 [.NotEq] [eg] p2] p3,.BoolOp .And [.Compare e1 [.In] [t2] p4,.Compare eh [.NotIn] [e3] p5] p6] p7) δ (!e.names g):=by
 have l2:Lay 20 (.tuple [.str "take",.str "put"]):=Jw (by show bW (.str ("take":Str))=true;symm) (by show bW (.str ("put":Str))=true;symm)
 have A:=Ec (pos:=p1) hr rfl (vQ e) (Jw (by show bW (.str ("come":Str))=true;symm) (by show bW (.str ("spoil":Str))=true;symm)) h0 ht1 m1;have B:=Ec (pos:=p4) hr rfl (vQ e) l2 h1 ht2 m2;have one:∀y:Nat,VE X e2 δ (.int y)->VT X (.Compare e2 [.NotEq] [eg] p2) δ (!decide (y=g)):=λy h=>VT.to (iI hr (bQ 20 _) (bQ 20 _) h hg) (by rw[jd,Rp])
 have two:∀gs,VE X e3 δ (.tuple _)->VT X (.Compare eh [.NotIn] [e3] p5) δ (!decide (g∈gs)):=λgs h=>VT.to (yW hr rfl (bQ 20 _) (Ro gs) hh h m3) (by rw[<-zV];rfl)
 cases e with
 |come t y=>
  have A':=VT.to A (by symm:jg (.str "come") _=true)
  have B':=VT.to B (by symm:jg (.str "come") _=false)
  refine VT.to (h8 (gk A' λ_=>one y (h2 t y (.inl rfl))) λ_=>gk (k2:=false) B' λh=>nomatch h) ?_
  show _=!decide (y=g);cases decide (y=g)<;>rfl
 |spoil t y=>
  have A':=VT.to A (by symm:jg (.str "spoil") _=true)
  have B':=VT.to B (by symm:jg (.str "spoil") _=false)
  refine VT.to (h8 (gk A' λ_=>one y (h2 t y (.inr rfl))) λ_=>gk (k2:=false) B' λh=>nomatch h) ?_
  show _=!decide (y=g);cases decide (y=g)<;>rfl
 |take t d gs=>
  have A':=VT.to A (by symm:jg (.str "take") _=false)
  have B':=VT.to B (by symm:jg (.str "take") _=true)
  refine VT.to (h8 (gk (k2:=false) A' λh=>nomatch h) λ_=>gk B' λ_=>two gs (h3 t d gs (.inl rfl))) ?_
  show _=!decide (g∈gs);cases decide (g∈gs)<;>rfl
 |put t d gs=>
  have A':=VT.to A (by symm:jg (.str "put") _=false)
  have B':=VT.to B (by symm:jg (.str "put") _=true)
  refine VT.to (h8 (gk (k2:=false) A' λh=>nomatch h) λ_=>gk B' λ_=>two gs (h3 t d gs (.inr rfl))) ?_
  show _=!decide (g∈gs);cases decide (g∈gs)<;>rfl
theorem yy(hr:eB k0 X.A)(mD:Lay 20 (.str pl))(h1:VE X a δ (.str pl))(h2:VE X b0 δ (.str ""))(h3:VE X c δ .none)(h7:δ.set 7 (.val (Dq b))=δ)(nd:X.N.Nodup)(hi:X.N[7]?=some x:=by rfl)(hx:Loc X.env.scope x:=by left)(hs:A1 X pos c (.Name x px):=by rfl)(hf:A0 X x:=by left):
  VS X (.If (.Compare a [.Eq] [b0] p1) [.Assign [.Name x px] c pos] [] p2) δ (.nx (δ.set 7 (.val (Dq (if pl="" then none else b))))):=by
 by_cases h:pl=""
 ·rw[qQ3 h]
  exact dq (VT.to (fh hr mD cg h1 h2) (by rw[bN,qQ1 h])) (aY (cu 7 h3 nd hi hx hs hf))
 ·rw[qQ2 h,h7]
  exact bV (VT.to (fh hr mD cg h1 h2) (by rw[bN,qQ0 h])) bG
theorem vw{y:Str}(hr:eB k0 X.A)(h1:VE X a δ (.str e.word))(h2:VE X b0 δ (.str y))(hy:Lay 20 (.str y)):VT X (.Compare a [.Eq] [b0] p1) δ (decide (e.word=y)):=VT.to (fh hr (vQ e) hy h1 h2) (bN _ _)
end
theorem Oo{L:Ht}{b t:Int}(hb:L.beg=some b):L.stays.map sy ++ [.tuple [.str L.place,Dq L.beg,.int t]]=(L.stays ++ [(L.place,L.beg.getD 0,some t)]).map sy:=by
 rw[aP,hb];rfl
abbrev slL(p:Pl)(day:List pX)(book:List We)(g:Nat)(L:Ht):List Slot:=[.val (fL p),.val (.list (day.map oh)),.val (.list (book.map qZ)),.val (.int (g:Int)),.val (lV (sA p)),.own (L.stays.map sy),.val (.str L.place),.val (Dq L.beg),.un]
def Rst(ds:List aj)(d:aj):Prop:=∃(p:Pl)(day:List pX)(book:List We)(s:Ws)(g:Nat),ds=[fL p,.list (day.map oh),.list (book.map qZ),.int (g:Int)]/\Ak p day/\Reach p day s book/\book.length<=63/\g<day.length/\d=.list ((kB (qJ p day g book)).map sy)
abbrev Nst:List Str:=["_law_h","_law_day_here","_law_book","_law_good","_law_tos","_law_stays","_law_place","_law_begin","_law_entry"]
section
variable{P:bA}{w:cn}{K:aq}{mg:Str->Option aF}{base:cX}{f:aH}{k:Nat}
theorem Te:cw Nst ["_law_h","_law_day_here","_law_book","_law_good"] (bL (top 61)):=by grind
theorem zdm(F:kX K "_law_stays_of" "_law_stays_of" (top 61) f fd)(md:mg "dict"=none):eW P w K mg base kD 1 f fd ["_law_h","_law_day_here","_law_book","_law_good"] (g7 K Rst):=
 jz F Te (by ext) λ_ _ h=>by
  obtain⟨p,day,book,s,g,rfl,ok,re,PV,hg,rfl⟩:=h;intro g6 A outer s0 H E hr;have nd:Nst.Nodup:=Te.nd;have nc:(["_law_desk_here"]:List Str).Nodup:=∎
  have Sn:=ok.p5.ok.dn;refine aG (cu 4 (zp (VE.to (VO.ve (eU (own:=["_law_desk_here"]) (cap:=[]) (cl:=[]) (tgt:=.one 0) (F:=Fto) rfl #[rfl,∎,∎,rfl,rfl,by simp] (dY (du hr (ai 0 rfl) aW (pI p))) (λf s3 H3=>gJ 0 nc) rfl (small (by rw[ae];omega)) (λd hd=>?_))) (by rw[Rn])) (by rw[Om];exact ok.gd.dn) rfl md) nd) ?_
  ·obtain⟨z,hz,rfl⟩:=au.mp hd
   exact Ee rfl rfl λf s3 H3=>VE.to (dR (ao (gA 0 0 rfl rfl) (ao (gA 0 1 rfl rfl) aR))) rfl
  refine aG (ia 5 (ds:=[]) (dS aR) nd) ?_
  refine aG (cu 6 (dz (fU (ai 1 rfl) (ai 3 rfl) (cM (Dn hg))) aE (cM (j:=1) rfl)) nd) ?_
  refine aG (cu 7 (d:=.none) dQ nd) ?_
  refine aG (Iw (tgt:=.one 8) bY rfl (dY (ai 2 rfl)) (gJ 8 nd) (λk=>slL p day book g (qJ p day g (book.take k))) book.length rfl (by rw[ae];exact aT _) (λk d hk hd=>?_) (.inl #[by rw[ae],rfl])) ?_
  ·obtain⟨e,he,rfl⟩:∃e,book[k]?=some e/\d=qZ e:=by
    rw[ay]at hd
    cases e:book[k]? with
    |none=>rw[e]at hd;cases hd
    |some z=>rw[e]at hd;cases hd;exact#[z,rfl,rfl]
   obtain⟨s',Tf,Dt⟩:=re.at he;have hs:=Tf.ZM ok hg;have hL:=Ds ok hg (book.take k);refine#[_,rfl,?_]
   rw[take_snoc he,kS];have hz:(qJ p day g (book.take k)).stays.length<=63:=bU hL.len (by rw[bh];omega)
   generalize qJ p day g (book.take k)=L at hs hL hz
   have mD:=hL.pl;have hlen:(L.stays.map sy).length<sizeLine:=fw (by rw[ae];omega)
   clear hL
   cases hn:e.names g with
   |false=>
    rw[pS hn];refine MX (VT.to (Fk (e:=e) (g:=g) hr (dz (VE.to (ai 8 rfl) (wM e)) aE (cM (j:=0) rfl)) (dz (VE.to (ai 8 rfl) (wM e)) aE (cM (j:=0) rfl)) (dR (ao aW (ao aW aR))) (dR (ao aW (ao aW aR))) (ai 3 rfl) (ai 3 rfl) (λt x h=>?_) (λt d gs h=>?_)) (by rw[hn];rfl)) #[.inr rfl,.inr rfl,.inr rfl,.inr rfl,.inr rfl,.inr rfl,.inr rfl,.inr rfl,.inl rfl,trivial]
    ·rcases h with rfl|rfl<;>exact gA 8 2 rfl rfl
    ·rcases h with rfl|rfl<;>exact gA 8 3 rfl rfl
   |true=>
    refine MY (VT.to (Fk (e:=e) (g:=g) hr (dz (VE.to (ai 8 rfl) (wM e)) aE (cM (j:=0) rfl)) (dz (VE.to (ai 8 rfl) (wM e)) aE (cM (j:=0) rfl)) (dR (ao aW (ao aW aR))) (dR (ao aW (ao aW aR))) (ai 3 rfl) (ai 3 rfl) (λt x h=>?_) (λt d gs h=>?_)) (by rw[hn];rfl)) ?_
    ·rcases h with rfl|rfl<;>exact gA 8 2 rfl rfl
    ·rcases h with rfl|rfl<;>exact gA 8 3 rfl rfl
    rw[vR hn];cases e with
    |come t x=>
     exact aG (dq (VT.to (vw (e:=.come t x) hr (gA 8 0 rfl rfl) aW cg) (qQ1 rfl)) (aY (cu 7 (d:=.int t) (gA 8 1 rfl rfl) nd))) (fj (aY (yy (b:=some t) hr (bu mD) (ai 6 rfl) aW dQ rfl nd)) #[.inr rfl,.inr rfl,.inr rfl,.inr rfl,.inr rfl,.inr rfl,.inr rfl,.inr rfl,.inl rfl,trivial])
    |put t d gs=>
     refine aG (bV (VT.to (vw (e:=.put t d gs) hr (gA 8 0 rfl rfl) aW cg) (qQ0 (show ¬(("put":Str)="come") by symm))) (aY (dq (VT.to (vw (e:=.put t d gs) hr (gA 8 0 rfl rfl) aW cg) (qQ1 rfl)) (aY (Mr 6 7 (d2:=.int t) (du hr (ai 4 rfl) (gA 8 2 rfl rfl) (yx Dt.1)) (gA 8 1 rfl rfl) rfl nd ⋯))))) ?_
     exact fj (aY (yy (b:=some t) hr (bu (Dr ok d)) (ai 6 rfl) aW dQ rfl nd)) #[.inr rfl,.inr rfl,.inr rfl,.inr rfl,.inr rfl,.inr rfl,.inr rfl,.inr rfl,.inl rfl,trivial]
    |spoil t x=>
     obtain rfl:x=g:=qQ4 hn;obtain⟨b,hb⟩:=hs.on (Dt);refine aG (bV (VT.to (vw (e:=.spoil t x) hr (gA 8 0 rfl rfl) aW cg) (qQ0 (show ¬(("spoil":Str)="come") by symm))) (aY (bV (VT.to (vw (e:=.spoil t x) hr (gA 8 0 rfl rfl) aW cg) (qQ0 (show ¬(("spoil":Str)="put") by symm))) (aG (gO 5 rfl (dR (ao (ai 6 rfl) (ao (ai 7 rfl) (ao (gA 8 1 rfl rfl) aR)))) hlen) (aY (cu 7 (d:=.none) dQ nd)))))) ?_
     rw[Oo hb];exact fj (aY (yy (b:=none) hr (bu mD) (ai 6 rfl) aW dQ rfl nd)) #[.inr rfl,.inr rfl,.inr rfl,.inr rfl,.inr rfl,.inr rfl,.inr rfl,.inr rfl,.inl rfl,trivial]
    |take t d gs=>
     obtain⟨b,hb⟩:=hs.on (Dt.2.2.2.2.2 g (qQ4 hn));refine aG (bV (VT.to (vw (e:=.take t d gs) hr (gA 8 0 rfl rfl) aW cg) (qQ0 (show ¬(("take":Str)="come") by symm))) (aY (bV (VT.to (vw (e:=.take t d gs) hr (gA 8 0 rfl rfl) aW cg) (qQ0 (show ¬(("take":Str)="put") by symm))) (aG (gO 5 rfl (dR (ao (ai 6 rfl) (ao (ai 7 rfl) (ao (gA 8 1 rfl rfl) aR)))) hlen) (aY (cu 7 (d:=.none) dQ nd)))))) ?_
     rw[Oo hb];exact fj (aY (yy (b:=none) hr (bu mD) (ai 6 rfl) aW dQ rfl nd)) #[.inr rfl,.inr rfl,.inr rfl,.inr rfl,.inr rfl,.inr rfl,.inr rfl,.inr rfl,.inl rfl,trivial]
  ·show rP _ _ _ _
   rw[cy];have hL:=(Ds ok hg book).len
   generalize qJ p day g book=L at hL
   cases hb:L.beg with
   |none=>
    have ef:(kB L).map sy=L.stays.map sy:=by unfold kB zZ;rw[hb];exact qQ6 _ (b9 _)
    rw[ef];refine aG (bV (VT.to (e9 mj AO (ai 7 rfl) dQ (eV _)) (by rw[hb];rfl)) bG) ?_
    exact dM 5 rfl (aY (ck (ai 5 rfl)))
   |some b=>
    have ef:(kB L).map sy=L.stays.map sy ++ [.tuple [.str L.place,Dq L.beg,.none]]:=by unfold kB zZ;rw[hb,aP];rfl
    rw[ef];refine aG (dq (VT.to (e9 mj AO (ai 7 rfl) dQ (eV _)) (by rw[hb];rfl)) (aY (gO 5 (d:=.tuple [.str L.place,Dq L.beg,.none]) rfl (dR (ao (ai 6 rfl) (ao (ai 7 rfl) (ao dQ aR)))) (fw (by rw[ae];omega))))) ?_
    exact dM 5 rfl (aY (ck (ai 5 rfl)))
end
def qK(r:List AQ):aj:=.list (r.map sy)
theorem Rq{r:List AQ}(h:∀x∈r,lX x.1):Lay 20 (qK r):=ou λd hd=>by
 obtain⟨x,hx,rfl⟩:=au.mp hd;refine iE λz hz=>?_
 rcases ax.mp hz with rfl|hz
 ·exact bu (h x hx)
 rcases ax.mp hz with rfl|hz
 ·exact bQ _ _
 ·rw[aQ.mp hz]
  cases x.2.2
  ·exact Iz _
  ·exact bQ _ _
structure VX(rows:List (List AQ)):Prop where
 n:rows.length<=30
 r:∀r∈rows,r.length<=64/\∀x∈r,lX x.1
def Rsm(ds:List aj)(d:aj):Prop:=∃rows:List (List AQ),ds=[.list (rows.map qK),.list (rows.map qK)]/\VX rows/\d=.bool true
def ZO(u:Int):Option Int->Int
 |none=>u
 |some t=>t
def xY(u:Int)(s:AQ):Int:=ZO u s.2.2-s.2.1
def mx(m z:Int):Int:=if z>m then z else m
def sC(l:List Int):Int:=l.foldl mx 0
theorem Du:∀(l:List Int)(m:Int),l.foldl mx m∈m::l/\∀z∈m::l,z<=l.foldl mx m
 | [],m=>#[aQ.mpr rfl,λz hz=>by rw[aQ.mp hz];exact Ai _]
 |y::l,m=>by
  obtain⟨h1,h2⟩:=Du l (mx m y);have e:(y::l).foldl mx m=l.foldl mx _:=rfl;rw[e];have hm:m<=mx m y/\y<=mx m y/\(mx m y=m\/mx m y=y):=by unfold mx;split<;>omega
  have h3:=h2 _ aM;refine#[?_,λz hz=>?_]
  ·rcases ax.mp h1 with h|h
   ·rcases hm.2.2 with q|q
    ·rw[h,q];exact aM
    ·rw[h,q];exact aN _ aM
   ·exact aN _ (aN _ h)
  ·rcases ax.mp hz with rfl|hz
   ·omega
   rcases ax.mp hz with rfl|hz
   ·omega
   ·exact h2 z (aN _ hz)
def m9(u:Int)(rows:List (List AQ)):List Int:=(rows.map λr=>r.map (xY u)).flatten
theorem z8(u:Int)(l:List (List AQ))(r:List AQ):m9 u (l ++ [r])=m9 u l++r.map (xY u):=by
 unfold m9;simp
theorem BQ{u:Int}:∀{rows:List (List AQ)},(∀r∈rows,r.length<=64)->(m9 u rows).length<=64*rows.length
 | [],_=>aT _
 |r::rows,h=>by
  have ih:=BQ (u:=u) λz hz=>h z (aN _ hz)
  have h1:=h r aM;have e:m9 u (r::rows)=r.map _++m9 u rows:=rfl;rw[e,aV,ae,bf];omega
def Rlo(ds:List aj)(d:aj):Prop:=∃(rows:List (List AQ))(u:Int),ds=[.list (rows.map qK),.int u]/\VX rows/\d=.int (sC (m9 u rows))
def Fle(u:Int):aj->Option aj
 | .tuple [_,.int b,.none]=>some (.int (u-b))
 | .tuple [_,.int b,.int t]=>some (.int (t-b))
 |_=>none
theorem Dv(u:Int)(s:AQ):Fle u (sy s)=some (.int (xY u s)):=by
 obtain⟨x,b,o⟩:=s;cases o<;>rfl
theorem Rr(u:Int)(r:List AQ):(r.map sy).filterMap (Fle u)=(r.map (xY u)).map .int:=by
 rw[bP,aB];exact filterMap_some λq _=>Dv u q
theorem yz{rows:List (List AQ)}{k:Nat}{d:aj}(h:(rows.map qK)[k]?=some d):∃r,rows[k]?=some r/\d=qK r:=by
 rw[ay]at h
 cases e:rows[k]? with
 |none=>rw[e]at h;cases h
 |some r=>rw[e]at h;cases h;exact#[r,rfl,rfl]
section
variable{P:bA}{w:cn}{K:aq}{mg:Str->Option aF}{base:cX}{f:aH}{k:Nat}
abbrev Nsm:List Str:=["_law_found","_law_due","_law_row","_law_other","_law_one"]
theorem Tg:cw Nsm ["_law_found","_law_due"] (bL (top 62)):=by grind
theorem zdo(F:kX K "_law_same" "_law_same" (top 62) f fd)(n:Na mg)(mz:mg "zip"=none)(kt:Ka K):eW P w K mg base kD 1 f fd ["_law_found","_law_due"] (g7 K Rsm):=
 jz F Tg (by ext) λ_ _ h=>by
  obtain⟨rows,rfl,ok,rfl⟩:=h;intro g6 A outer s0 H E hr;have nd:Nsm.Nodup:=Tg.nd;refine aG (bV (VT.to (h8 (VT.to (oV (jM (ux (ai 0 rfl) rfl kt.ll rfl n.UB n.lst rfl) rfl)) rfl) (λ_=>VT.to (iI hr (bQ 20 _) (bQ 20 _) (fY (ai 0 rfl) n.len) (fY (ai 1 rfl) n.len)) (by rw[jd,qQ1 rfl];rfl))) rfl) bG) ?_
  refine aG (jN (tgt:=.tup [2,3]) bY rfl (CF .lst .lst (ai 0 rfl) (ai 1 rfl) mz) (gK rfl (bT (gJ 2 nd) (bT (gJ 3 nd) fF))) (λ_=>[.val _,.val _,.un,.un,.un]) rows.length rfl (by rw[oy,ae,Nat.min_self];exact aT _) (λk d hk hd=>?_) (.inl #[by rw[oy,ae,Nat.min_self],rfl])) (aY (ck Iq))
  obtain⟨dx,dy,hx,hy,rfl⟩:=Em hd;obtain⟨r,gq,rfl⟩:=yz hx;obtain⟨r2,Lh,rfl⟩:=yz hy;obtain rfl:r2=r:=cG (Lh.symm.trans gq);obtain⟨h64,hok⟩:=ok.r r2 (aK gq);have hL:=Rq hok;refine#[_,rfl,?_]
  refine aG (bV (VT.to (h8 (VT.to (oV (jM (ux (ai 2 rfl) rfl kt.ll rfl n.UB n.lst rfl) rfl)) rfl) (λ_=>VT.to (iI hr hL hL (ai 2 rfl) (ai 3 rfl)) (by rw[SeqAt.eqv_refl _ hL.1];rfl))) rfl) bG) ?_
  refine fj (aY (jN (tgt:=.one 4) bY rfl (dY (ai 2 rfl)) (gJ 4 nd) (λ_=>[.val _,.val _,.val (qK r2),.val (qK r2),.un]) r2.length rfl (by rw[ae];exact aT _) (λj d hj hd=>?_) (.inl #[by rw[ae],rfl]))) #[.inr rfl,.inr rfl,.inl rfl,.inl rfl,.inl rfl,trivial]
  obtain⟨x,hx,rfl⟩:=au.mp (aK hd);refine#[_,rfl,fj (aY (bV (VT.to (F9 (VT.to (oV (jM (ux (ai 4 rfl) rfl kt.tt rfl n.UB n.tup rfl) rfl)) rfl) (λ_=>VT.to (oV (jM (ux (gA 4 0 rfl rfl) rfl kt.ss rfl n.UB n.str rfl) rfl)) rfl) (λ_ _=>VT.to (jM (ux (gA 4 1 rfl rfl) rfl kt.ib rfl n.UB n.bool rfl) rfl) rfl)) rfl) bG)) #[.inr rfl,.inr rfl,.inr rfl,.inr rfl,.inl rfl,trivial]]
abbrev Nlo:List Str:=["waits","until","lengths","stays"]
theorem Ti:cw Nlo ["waits","until"] (bL (top 2)):=by grind
theorem zdp(F:kX K "longest" "longest" (top 2) f fd)(n:Na mg):eW P w K mg base kD 1 f fd ["waits","until"] (g7 K Rlo):=
 jz F Ti (by ext) λ_ _ h=>by
  obtain⟨rows,u,rfl,ok,rfl⟩:=h;intro g6 A outer s0 H E hr;have nd:Nlo.Nodup:=Ti.nd;have nc:(["place","since","to","until"]:List Str).Nodup:=∎
  have Rf:=ok.n;refine aG (ia 2 (dS (ao aE aR)) nd) ?_
  refine aG (jN (tgt:=.one 3) bY rfl (dY (ai 0 rfl)) (gJ 3 nd) (λk=>[.val _,.val (.int u),.own ((0::m9 u (rows.take k)).map .int),.un]) rows.length rfl (by rw[ae];exact aT _) (λk d hk hd=>?_) (.inl #[by rw[ae],rfl])) ?_
  ·obtain⟨r,gq,rfl⟩:=yz hd
   obtain⟨h64,hok⟩:=ok.r r (aK gq);refine#[_,rfl,?_]
   have e1:((0::m9 u (rows.take (k+1))).map c9)=(0::m9 u (rows.take k)).map c9++(r.map (xY u)).map .int:=by
    rw[take_snoc gq,z8,<-aP];rfl
   rw[e1];have hlk:(m9 u (rows.take k)).length<=64*30:=bU (BQ λz hz=>(ok.r z (eC hz)).1) (Nat.mul_le_mul_left _ (by rw[bh];omega))
   refine fj (aY (Kk 2 rfl (VO.to (eU (own:=["place","since","to"]) (cap:=[1]) (tgt:=.tup [0,1,2]) rfl #[rfl,∎,∎,rfl,rfl,?_] (dY (ai 3 rfl)) (λf s3 H3=>gK rfl (bT (gJ 0 nc) (bT (gJ 1 nc) (bT (gJ 2 nc) fF)))) rfl (small (by rw[ae];omega)) (λd hd=>?_)) (Rr u r)) (small (by rw[ae,bf,ae,ae];omega)))) #[.inr rfl,.inr rfl,.inr rfl,.inl rfl,trivial]
   ·intro j hj
    rcases ax.mp hj with rfl|hj
    ·exact#[(by show(1:Nat)<4;decide),(by left),rfl]
    ·cases hj
   ·obtain⟨⟨x,b,o⟩,hx,rfl⟩:=au.mp hd
    refine#[_,rfl,λf s3 H3=>by rw[Dv];exact jW,λr ky f s3 H3=>?_]
    rw[Dv]at ky;cases ky;cases o with
    |none=>exact Cv (rL (VT.to (e9 j' m8 (ai 2 rfl) dQ (eV _)) rfl) (λ_=>ai 3 rfl) (λh=>nomatch h)) (ai 1 rfl)
    |some t=>exact Cv (rL (VT.to (e9 j' m8 (ai 2 rfl) dQ (eV _)) rfl) (λh=>nomatch h) (λ_=>ai 2 rfl)) (ai 1 rfl)
  ·show rP _ _ [.val _,.val (.int u),.own ((0::m9 u _).map .int),.un] _
   rw[cy];obtain⟨m1,m2⟩:=Du (m9 u rows) 0;exact dM 2 rfl (aY (ck (gR (sL rfl) (Iy m1 m2) (ao (ai 2 rfl) aR) n.max rfl)))
end
def Oq(l d1 d2 l':List aj):Prop:=∃(x:Str)(t:Int),d2=[.str x,.int t]/\l.length<=100/\l'=l ++ [.tuple [.str x,.int t,.none]]
def VY(l d1 d2 l':List aj):Prop:=∃(l0:List aj)(x:Str)(b t:Int),d2=[.int t]/\l0.length<=100/\l=l0 ++ [.tuple [.str x,.int b,.none]]/\l'=l0 ++ [.tuple [.str x,.int b,.int t]]
section
variable{P:bA}{w:cn}{K:aq}{mg:Str->Option aF}{base:cX}{f:aH}{k:Nat}
theorem ZP:cw ["stays","place","time"] ["stays","place","time"] (bL (top 3)):=by grind
theorem zdq(F:kX K "begin_stay" "begin_stay" (top 3) f fd):eW P w K mg base kD 1 f fd ["stays","place","time"] (qo K (List aj) (LR K) 0 Oq):=by
 refine F.ok ZP (λvs H Q E h=>?_) (λg6 A outer s0 H vs Q E hr h=>?_)
 ·obtain⟨H0,a,v1,v2,as,s,s',d1,d2,rfl,hl,sm,r1,r2,own,W,⟨x,t,rfl,_⟩,q⟩:=h
  rw[aV,bf,r1.length,r2.length,hl];rfl
 ·obtain⟨H0,a,v1,v2,as,l,l',d1,d2,rfl,hl,sm,r1,r2,own,W,⟨x,t,rfl,hll,rfl⟩,q⟩:=h
  obtain rfl:=gy hl;cases r1;obtain⟨u1,u2,rfl,q1,q2⟩:=r2.two;refine#[_,la,?_]
  have f0:fP K H0 H H0 H (start ["stays","place","time"] [.ref a,u1,u2]) [.ref a,.val (.str x),.val (.int t)]:=by
   refine#[.refl sm,rfl,λi sl hi=>?_,λi j a b p' _ h1=>?_]
   ·match i,hi with
    |0,hi=>cases hi;exact rfl
    |1,hi=>cases hi;exact#[_,rfl,q1]
    |2,hi=>cases hi;exact#[_,rfl,q2]
    |i+3,hi=>simp at hi
   ·exact qQ7 h1 (gE (δ:=[.ref _,.val _,.val _]) rfl i _)
  have G0:=CV own W f0 rfl;refine bS (IZ G0 0 rfl (dR (ao (ai 1 rfl) (ao (ai 2 rfl) (ao dQ aR)))) (fw ∅) λH1 H2 G1=>?_)
  obtain⟨z1,z2,z3,z4,as',z5,W'⟩:=M6 G1;exact q _ _ as' z1 z2 z3 z5 z4 W'
theorem Tj:cw ["stays","time","stay"] ["stays","time"] (bL (top 4)):=by grind
theorem zdr(F:kX K "end_stay" "end_stay" (top 4) f fd):eW P w K mg base kD 1 f fd ["stays","time"] (qo K (List aj) (LR K) 0 VY):=by
 refine F.ok Tj (λvs H Q E h=>?_) (λg6 A outer s0 H vs Q E hr h=>?_)
 ·obtain⟨H0,a,v1,v2,as,s,s',d1,d2,rfl,hl,sm,r1,r2,own,W,⟨l0,x,b,t,rfl,_⟩,q⟩:=h
  rw[aV,bf,r1.length,r2.length,hl];rfl
 ·obtain⟨H0,a,v1,v2,as,l,l',d1,d2,rfl,hl,sm,r1,r2,own,W,⟨l0,x,b,t,rfl,hll,rfl,rfl⟩,q⟩:=h
  obtain rfl:=gy hl;cases r1;obtain⟨u1,rfl,q1⟩:=r2.one;refine#[_,la,?_]
  have f0:fP K H0 H H0 H (start ["stays","time","stay"] [.ref a,u1]) [.ref a,.val (.int t),.un]:=by
   refine#[.refl sm,rfl,λi sl hi=>?_,λi j a b p' _ h1=>?_]
   ·match i,hi with
    |0,hi=>cases hi;exact rfl
    |1,hi=>cases hi;exact#[_,rfl,q1]
    |2,hi=>cases hi;exact trivial
    |i+3,hi=>simp at hi
   ·exact qQ7 h1 (gE (δ:=[.ref _,.val (.int t),.un]) rfl i _)
  have G0:=CV (R:=LR K a (l0 ++ [.tuple [.str x,.int b,.none]])) own W f0 rfl;refine cI (Qs G0 0 2 rfl rfl Tj.nd λσ1 H1 dD G1=>?_)
  refine bS (IZ G1 0 rfl (dR (ao (gA 2 0 rfl rfl) (ao (gA 2 1 rfl rfl) (ao (ai 1 rfl) aR)))) (fw ∅) λH1 H2 G1=>?_)
  obtain⟨z1,z2,z3,z4,as',z5,W'⟩:=M6 G1;exact q _ _ as' z1 z2 z3 z5 z4 W'
end
end Mg
namespace Mg
open L2 PySem PyProof.Rows
seal L2.VE L2.VS L2.rP L2.VT L2.VO L2.Fy L2.VU
variable{day:List pX}{cells:List Int}{book:List We}{g:Nat}{F:Nat->List aj}{p:Pl}{d:aj}{e:We}
def fx(n:Nat)(F:Nat->List aj):List (List aj):=(cx n).map F
theorem pT{n: Nat}(h:g<n):(fx n F)[g]?=some (F g):=by
 unfold fx;rw[ay,iP h];rfl
theorem z_{n: Nat}{F': Nat->List aj}{v:List aj}(h:g<n)(hg:F' g=v)(ho:∀x,x<n->x≠g->F' x=F x):(fx n F).set g v=fx n F':=by
 refine gD λi=>?_
 have hl:(fx n F).length=n:=by unfold fx;rw[ae,cY]
 by_cases hi:i<n
 ·rw[pT hi]
  by_cases e:i=g
  ·subst e
   rw[a_ (by rw[hl];exact h),hg]
  ·rw[a7 (bJ e),pT hi,ho i hi e]
 ·rw[dI (by rw[kW,hl];omega),dI (by unfold fx;rw[ae,cY];omega)]
theorem qL{n:Nat}{F': Nat->List aj}(h:∀x,x<n->F x=F' x):fx n F=fx n F':=eQ λx hx=>h x (cA.mp hx)
def pY(p:Pl)(day:List pX)(book:List We)(g:Nat):List aj:=(kB (qJ p day g book)).map sy
def xZ(p:Pl)(day:List pX)(l:List We)(e:We)(gs:List Nat)(j:Nat)(g:Nat):List aj:=if g∈gs.take j then pY p day (l ++ [e]) g else pY p day l g
theorem Tn{gs:List Nat}{j:Nat}(h:(kj gs)[j]?=some d):∃g,gs[j]?=some g/\d=.int (g:Int):=by
 unfold kj at h;rw[ay]at h
 cases e:gs[j]? with
 |none=>rw[e]at h;cases h
 |some g=>rw[e]at h;cases h;exact#[g,rfl,rfl]
def oO(p:Pl)(k:Nat):List (Str×aj):=(p.desks.take k).map λd=>(d.name,.str d.to)
theorem Ot{kv:List (Str×aj)}{y:Str}(h:y∉kv.map (·.1)):Gq kv y d=kv ++ [(y,d)]:=by
 unfold Gq;rw[qQ2];intro e;obtain⟨q,hq,e2⟩:=iR.mp e;exact h (au.mpr #[q,hq,qQ4 e2])
section
variable{p:Pl}{day:List pX}{l:List We}{s:Ws}{g:Nat}{t:Int}{d:Str}{gs:List Nat}
theorem Hv(h:e.names g=false):pY p day (l ++ [e]) g=pY p day l g:=by unfold pY;rw[kS,pS h]
theorem Fm(hg:g<day.length)(hn:∀x,x≠g->e.names x=false):(fx day.length (pY p day l)).set g (pY p day (l ++ [e]) g)=fx day.length (pY p day (l ++ [e])):=z_ hg rfl λx _ hx=>Hv (hn x hx)
theorem Ou(ok:Ak p day)(re:Reach p day s l)(hg:g<day.length)(he:Oa p day s (.come t g)):Oq (pY p day l g) [] [.str (mM day g),.int t] (pY p day (l ++ [.come t g]) g)\/100<(pY p day l g).length:=by
 by_cases hl:(pY p day l g).length<=100
 ·refine .inl #[_,_,rfl,hl,?_]
  unfold pY;rw[kS,K0 ok (re.ZM ok hg) (re.V ok) hg he.2,aP];rfl
 ·exact .inr ∅
theorem Hw(ok:Ak p day)(hg:g<day.length)(hl:l.length<=63):(pY p day l g).length<=64:=by
 unfold pY;have:=(Ds ok hg l).full.1;rw[ae];omega
theorem Rt(ok:Ak p day)(re:Reach p day s l)(hl:l.length<=63)(hg:g<day.length)(he:Oa p day s (.come t g)):Oq (pY p day l g) [] [.str (mM day g),.int t] (pY p day (l ++ [.come t g]) g):=
 (Ou ok re hg he).resolve_right (by have:=Hw ok hg hl;omega)
theorem Ov(ok:Ak p day)(re:Reach p day s l)(hl:l.length<=63)(hg:g<day.length)(hn:e.names g=true)(hw:g∈eD s)(hm:∀L:Ht,Hu p L e=#[L.stays ++ [(L.place,L.beg.getD 0,some t)],L.place,none]):VY (pY p day l g) [] [.int t] (pY p day (l ++ [e]) g):=by
 obtain⟨l0,x,b,e1,e2⟩:=Oj hn (hm _) ((re.ZM ok hg).on hw);have h64:=Hw ok hg hl;unfold pY at h64 ⊢;rw[e1,ae,aV,f6]at h64;rw[kS,e1,e2];exact#[l0.map sy,x,b,t,rfl,by rw[ae];omega,by rw[aP];rfl,by rw[aP];rfl]
theorem VZ(ok:Ak p day)(re:Reach p day s l)(hl:l.length<=63)(hg:g<day.length)(hx:g∈gs)(hw:g∉eD s)(h0:Aj p d≠""):Oq (pY p day l g) [] [.str (Aj p d),.int t] (pY p day (l ++ [.put t d gs]) g):=by
 refine#[_,_,rfl,by have:=Hw ok hg hl;omega,?_]
 unfold pY;rw[kS,Fj ((re.ZM ok hg).off hw) hx,qQ2 h0,aP];rfl
theorem Ru(ok:Ak p day)(re:Reach p day s l)(hg:g<day.length)(hw:∀x∈gs,x∉eD s)(h0:Aj p d=""):pY p day (l ++ [.put t d gs]) g=pY p day l g:=by
 by_cases hx:g∈gs
 ·unfold pY
  rw[kS,Fj ((re.ZM ok hg).off (hw g hx)) hx,qQ3 h0]
 ·exact Hv (qQ0 hx)
theorem Tp(e:We):fx day.length (xZ p day l e gs 0)=fx day.length (pY p day l):=qL λx _=>qQ2 (by simp)
theorem Rv(hn:∀x,x∉gs->e.names x=false):fx day.length (xZ p day l e gs gs.length)=fx day.length (pY p day (l ++ [e])):=qL λx _=>by
 unfold xZ;rw[cy];by_cases h:x∈gs
 ·rw[qQ3 h]
 ·rw[qQ2 h,Hv (hn x h)]
theorem Ow{j:Nat}(nd:gs.Nodup)(hj:gs[j]?=some g)(hg:g<day.length):(fx day.length (xZ p day l e gs j))[g]?=some (pY p day l g)/\(fx day.length (xZ p day l e gs j)).set g (pY p day (l ++ [e]) g)=fx day.length (xZ p day l e gs (j+1)):=by
 have hni:g∉gs.take j:=λh=>by
  obtain⟨i,hi,e⟩:=j7.mp h;rw[bh]at hi;rw[List.getElem_take]at e;have e1:gs[i]?=some g:=by rw[av ∅,e]
  have:=(iB ∅ nd).mp (e1.trans hj.symm)
  omega
 refine#[by rw[pT hg];unfold xZ;rw[qQ2 hni],z_ hg ?_ λx _ hx=>?_]
 ·unfold xZ
  rw[take_snoc hj,qQ3 (by simp)]
 ·unfold xZ
  rw[take_snoc hj];by_cases h:x∈gs.take j
  ·rw[qQ3 h,qQ3 (bM _ h)]
  ·rw[qQ2 h,qQ2 λz=>(bo.mp z).elim h λy=>hx (aQ.mp y)]
end
abbrev Nwt:List Str:=["plant","day","book","lines","desk","waits","entry","good"]
def Rwt(K:aq)(ds:List aj)(U:UR):Prop:=∃(p:Pl)(day:List pX)(book:List We)(s:Ws),ds=[lE p,.list (day.map oh),.list (book.map qZ)]/\Ak p day/\Reach p day s book/\book.length<=63/\U=Sy (LX K (fx day.length (pY p day book)))
section
variable{P:bA}{w:cn}{K:aq}{mg:Str->Option aF}{base:cX}{f:aH}{k:Nat}
theorem Tq:cw Nwt ["plant","day","book"] (bL (top 1)):=by grind
theorem zdt{fd:eM}(F:kX K "waits_of" "waits_of" (top 1) f fd)(C1:bB P w K mg base 1 "begin_stay" ["stays","place","time"] (qo K (List aj) (LR K) 0 Oq))(C2:bB P w K mg base 1 "end_stay" ["stays","time"] (qo K (List aj) (LR K) 0 VY)):eW P w K mg base kD 2 f fd ["plant","day","book"] (Wr K (Rwt K)):=
 Yq F Tq (by ext) λ_ _ h=>by
  obtain⟨p,day,book,s,rfl,ok,re,PV,rfl⟩:=h;intro g6 A outer s0 H E hr;have nd:Nwt.Nodup:=Tq.nd;have nc:(["good"]:List Str).Nodup:=∎
  have gq:eB 1 _:=hr.mono ∅
  have Sn:=ok.p5.ok.dn;have Rf:=ok.dl;refine pH λB0 B σ H0 Hh D fr VN=>?_
  refine cI (U_ fr 3 nd (λ_=>rfl) λa σ1 H1 G1=>?_)
  refine cI (Bt (tgt:=.one 4) (ds:=p.desks.map ej) (λk=>DR K a (oO p k)) (λ_=>DR.mono) G1 bY rfl (dY (oX (ai 0 rfl) (zH p))) (gJ 4 nd) (λk d hd=>?_) λσ2 H2 fX G2=>?_)
  ·obtain⟨z,hz,rfl⟩:∃z,p.desks[k]?=some z/\d=ej z:=by
    rw[ay]at hd
    cases e:p.desks[k]? with
    |none=>rw[e]at hd;cases hd
    |some z=>rw[e]at hd;cases hd;exact#[z,rfl,rfl]
   have e1:Gq (oO p k) z.name (.str z.to)=oO p (k+1):=by
    rw[Ot]
    ·unfold oO;rw[take_snoc hz,aP];rfl
    ·unfold oO
     rw[aB];intro h;obtain⟨y,hy,e⟩:=au.mp h;obtain⟨i,hi,rfl⟩:=j7.mp hy;rw[bh]at hi;rw[List.getElem_take]at e;have hk:=(aJ.mp hz).1
     have e2:(p.desks.map (·.name))[i]?=(p.desks.map (·.name))[k]?:=by
      rw[ay,ay,hz,av ∅]
      exact qQ6 some e
     have:=(iB (by rw[ae];omega) ok.gd.dn).mp e2
     omega
   refine#[_,rfl,rfl,λD C0 σ' cW H' G post=>?_]
   refine bS (Va G hr 3 rfl (gA 4 0 rfl rfl) (gA 4 1 rfl rfl) (fw (by unfold oO;rw[ae,bh];omega)) λHa Hb G'=>?_)
   rw[e1]at G';exact post _ _ _ (G'.forget DR.mono #[.inr rfl,.inr rfl,.inr rfl,.inr rfl,.inl rfl,.inr rfl,.inr rfl,.inr rfl,trivial] rfl)
  have eL:oO p (p.desks.map ej).length=sA p:=by unfold oO sA;rw[ae,cy]
  rw[eL]at G2;obtain⟨H3,sm3,f3⟩:=G2.done (i:=3) rfl DR.rep;refine cI (IL (own:=["good"]) (cap:=[]) (N:=["good"]) (cl:=[]) (tgt:=.one 0) (ds:=day.map oh) 5 f3 rfl rfl #[rfl,∎,∎,rfl,rfl,by simp] (dY (ai 1 rfl)) (λf s3 H3=>gJ 0 nc) rfl (small (by rw[ae];omega)) (λd hd=>#[_,rfl]) nd (λσ4 b ps H4 UM G5=>?_) (λ_=>rfl))
  have e0:bw (day.map oh).length ([]:List aj)=fx day.length (pY p day (book.take 0)):=by
   rw[ae];unfold fx;have:(λg=>pY p day (book.take 0) g)=λ_=>[]:=rfl
   rw[show(pY p day (book.take 0))=λ_=>[]from rfl,List.map_const',cY]
  rw[e0]at G5;refine cI (Bt (tgt:=.one 6) (ds:=book.map qZ) (λk=>LL K b ps (fx day.length (pY p day (book.take k)))) (λ_=>LL.mono) G5 bY rfl (dY (ai 2 rfl)) (gJ 6 nd) (λk d hd=>?_) λσ6 H6 H6' G6=>?_)
  ·obtain⟨e,he,rfl⟩:∃e,book[k]?=some e/\d=qZ e:=by
    rw[ay]at hd
    cases e:book[k]? with
    |none=>rw[e]at hd;cases hd
    |some z=>rw[e]at hd;cases hd;exact#[z,rfl,rfl]
   obtain⟨s',Tf,Dt⟩:=re.at he;have hv:=Tf.V ok;have hd2:=(Dp ok.gd ok.p5 hv ok.gt Dt).2;have hbk:(book.take k).length<=63:=by rw[bh];omega
   refine#[_,rfl,rfl,λD C0 σ' cW H' G post=>?_]
   rw[take_snoc he]at post
   generalize book.take k=l at *
   have fin:∀{σ' Ha Hb},OF K C0 B _ Ha Hb σ' [.val (lE p),.val (.list (day.map oh)),.val (.list (book.map qZ)),.val (lV (sA p)),.un,.ref b,.val (qZ e),.un]->D.nx σ' Hb:=λG=>post _ _ _ (G.forget LL.mono #[.inr rfl,.inr rfl,.inr rfl,.inr rfl,.inr rfl,.inr rfl,.inl rfl,.inr rfl,trivial] rfl)
   have loop:∀(gs:List Nat){σ' Ha Hb},(∀x,x∉gs->e.names x=false)->OF K C0 B (LL K b ps (fx day.length (xZ p day l e gs gs.length))) Ha Hb σ' [.val (lE p),.val (.list (day.map oh)),.val (.list (book.map qZ)),.val (lV (sA p)),.un,.ref b,.val (qZ e),.un]->D.nx σ' Hb:=λgs {σ' Ha Hb} hn G=>fin (by rw[Rv hn]at G;exact G)
   cases e with
   |come t g=>
    refine bS (vp LL.mono G (VT.to (vw (e:=.come t g) gq (gA 6 0 rfl rfl) aW cg) (qQ1 rfl)) λHa Hb G1=>?_)
    refine bS (CW (j:=g) C1 gq G1 5 rfl (gA 6 2 rfl rfl) (pT Dt.1) (ao (dz (fU (ai 1 rfl) (gA 6 2 rfl rfl) (cM (Dn Dt.1))) aE (cM (j:=1) rfl)) (ao (gA 6 1 rfl rfl) aR)) (Rt ok Tf hbk Dt.1 Dt) λHc Hd G2=>?_)
    rw[Fm (e:=.come t g) Dt.1 λx hx=>qQ0 λz:g=x=>hx z.symm]at G2
    exact fin G2
   |spoil t g=>
    have Nk:=hv.ml g (hv.mt g (bM _ Dt));refine bS (nS LL.mono G (VT.to (vw (e:=.spoil t g) gq (gA 6 0 rfl rfl) aW cg) (qQ0 (show ¬(("spoil":Str)="come") by symm))) λHa Hb G1=>?_)
    refine bS (vp LL.mono G1 (VT.to (vw (e:=.spoil t g) gq (gA 6 0 rfl rfl) aW cg) (qQ1 rfl)) λHc Hd G2=>?_)
    refine bS (CW (j:=g) C2 gq G2 5 rfl (gA 6 2 rfl rfl) (pT Nk) (ao (gA 6 1 rfl rfl) aR) (Ov (e:=.spoil t g) (t:=t) ok Tf hbk Nk (qQ1 rfl) Dt λ_=>rfl) λHe Hf G3=>?_)
    rw[Fm (e:=.spoil t g) Nk λx hx=>qQ0 λz:g=x=>hx z.symm]at G3
    exact fin G3
   |take t d gs=>
    obtain⟨_,_,_,_,ndg,WR⟩:=Dt;have Nk:∀x∈gs,x<day.length:=λx hx=>hv.ml x (hv.mt x (bM _ (WR x hx)))
    refine bS (nS LL.mono G (VT.to (vw (e:=.take t d gs) gq (gA 6 0 rfl rfl) aW cg) (qQ0 (show ¬(("take":Str)="come") by symm))) λHa Hb G1=>?_)
    refine bS (nS LL.mono G1 (VT.to (vw (e:=.take t d gs) gq (gA 6 0 rfl rfl) aW cg) (qQ0 (show ¬(("take":Str)="spoil") by symm))) λHc Hd G2=>?_)
    refine bS (vp LL.mono G2 (VT.to (vw (e:=.take t d gs) gq (gA 6 0 rfl rfl) aW cg) (qQ1 rfl)) λHe Hf G3=>?_)
    rw[<-Tp (gs:=gs) (.take t d gs)]at G3;refine bS (Bt (tgt:=.one 7) (ds:=kj gs) (λj=>LL K b ps (fx day.length (xZ p day l (.take t d gs) gs j))) (λ_=>LL.mono) G3 bY rfl (rN (gA 6 3 rfl rfl)) (gJ 7 nd) (λj d' OZ=>?_) λσ7 H7 H7' G7=>loop gs (λx hx=>(qQ0 hx)) (by rw[f7]at G7;exact G7))
    obtain⟨g,hj,rfl⟩:=Tn OZ;have hg:=Nk g (aK hj);obtain⟨a1,a2⟩:=Ow (p:=p) (day:=day) (l:=l) (e:=.take t d gs) ndg hj hg;refine#[_,rfl,rfl,λD C0 σ' cW H' G post=>?_]
    refine bS (CW (j:=g) C2 gq G 5 rfl (ai 7 rfl) a1 (ao (gA 6 1 rfl rfl) aR) (Ov (e:=.take t d gs) (t:=t) ok Tf hbk hg (qQ1 (aK hj)) (WR g (aK hj)) λ_=>rfl) λHg Hh G4=>?_)
    rw[a2]at G4;exact post _ _ _ (G4.forget LL.mono #[.inr rfl,.inr rfl,.inr rfl,.inr rfl,.inr rfl,.inr rfl,.inr rfl,.inl rfl,trivial] rfl)
   |put t d gs=>
    obtain⟨_,_,ndg,WR⟩:=hd2;have Nk:∀x∈gs,x<day.length:=λx hx=>hv.ml x (WR x hx).1
    refine bS (nS LL.mono G (VT.to (vw (e:=.put t d gs) gq (gA 6 0 rfl rfl) aW cg) (qQ0 (show ¬(("put":Str)="come") by symm))) λHa Hb G1=>?_)
    refine bS (nS LL.mono G1 (VT.to (vw (e:=.put t d gs) gq (gA 6 0 rfl rfl) aW cg) (qQ0 (show ¬(("put":Str)="spoil") by symm))) λHc Hd G2=>?_)
    refine bS (nS LL.mono G2 (VT.to (vw (e:=.put t d gs) gq (gA 6 0 rfl rfl) aW cg) (qQ0 (show ¬(("put":Str)="take") by symm))) λHe Hf G3=>?_)
    by_cases h0:Aj p d=""
    ·refine bS (nS LL.mono G3 (VT.to (iI gq (bu (Dr ok d)) cg (du gq (ai 3 rfl) (gA 6 2 rfl rfl) (yx Dt.1)) aW) (by rw[bN,qQ1 h0];rfl)) λHg Hh G4=>sO (fin (Ha:=Hg) ?_))
     rw[qL λx hx=>(Ru (t:=t) (gs:=gs) ok Tf hx (λy hy=>(WR y hy).2) h0).symm]at G4
     exact G4
    ·refine bS (vp LL.mono G3 (VT.to (iI gq (bu (Dr ok d)) cg (du gq (ai 3 rfl) (gA 6 2 rfl rfl) (yx Dt.1)) aW) (by rw[bN,qQ0 h0];rfl)) λHg Hh G4=>?_)
     rw[<-Tp (gs:=gs) (.put t d gs)]at G4;refine bS (Bt (tgt:=.one 7) (ds:=kj gs) (λj=>LL K b ps (fx day.length (xZ p day l (.put t d gs) gs j))) (λ_=>LL.mono) G4 bY rfl (rN (gA 6 3 rfl rfl)) (gJ 7 nd) (λj d' OZ=>?_) λσ7 H7 H7' G7=>loop gs (λx hx=>(qQ0 hx)) (by rw[f7]at G7;exact G7))
     obtain⟨g,hj,rfl⟩:=Tn OZ;have hx:=aK hj;have hg:=Nk g hx;obtain⟨a1,a2⟩:=Ow (p:=p) (day:=day) (l:=l) (e:=.put t d gs) ndg hj hg;refine#[_,rfl,rfl,λD C0 σ' cW H' G post=>?_]
     refine bS (CW (j:=g) C1 gq G 5 rfl (ai 7 rfl) a1 (ao (du gq (ai 3 rfl) (gA 6 2 rfl rfl) (yx Dt.1)) (ao (gA 6 1 rfl rfl) aR)) (VZ ok Tf hbk hg hx (WR g hx).2 h0) λHi Hj G5=>?_)
     rw[a2]at G5;exact post _ _ _ (G5.forget LL.mono #[.inr rfl,.inr rfl,.inr rfl,.inr rfl,.inr rfl,.inr rfl,.inr rfl,.inl rfl,trivial] rfl)
  ·rw[show(book.map qZ).length=book.length from ae _,cy]at G6
   exact bS (Vi G6 5 rfl (λHa Hb as h=>#[as,λ_ z=>z,ps,h]) VN)
end
theorem V0(ns:List Int):N3 (dF ns):=by
 have gd:=wK ns;refine#[yr ns,λd hd=>?_,(bR.mp gd.pn).2.1,gd.pn]
 obtain⟨h1,h2,h3⟩:=gd.dk d hd;exact#[h2,h1.2.2.2.2.1,h3.imp_right λ#[r,h,_]=>au.mpr #[_,h,rfl]]
def uP(c m:Int):List Int:=(cx (1+m%30).toNat).map λ(k:Nat)=>c+(k:Int)*(k:Int)
theorem Hz(c m:Int):(uP c m).length<=30:=by
 unfold uP;rw[ae,cY];omega
def Fck(c:Int):aj->Option aj
 | .int k=>some (.int (c+k*k))
 |_=>none
theorem Rw(c m:Int):(iJ (1+m%30).toNat).filterMap (Fck c)=(uP c m).map .int:=by
 unfold iJ uP;rw[bP,aB];exact filterMap_some λq _=>rfl
theorem K1(h:g<(vz p cells).length):(vz p cells).getD g (0,"","","")=C7 p cells g:=by
 unfold vz at h ⊢;rw[ae,cY]at h;rw[aO,ay,iP h];rfl
theorem K2(p:Pl)(cells:List Int):(vz p cells).length=cells.length:=by unfold vz;rw[ae,cY]
theorem V1(ns:List Int)(h:cells.length<=30):Ak (dF ns) (vz (dF ns) cells):=by
 refine#[wK ns,V0 ns,λg hg=>?_,by rw[K2];exact h]
 unfold mM;rw[K1 hg];exact(jD (F:=aX) (iQ.mpr (qI ns).2) _).2
theorem K3(m:Int):lX (pJ m):=by
 have h:∀x∈([("":Str),"p","q","pp","r"]:List Str),lX x:=λx hx=>by
  simp[ax,bD,or_false]at hx;rcases hx with rfl|rfl|rfl|rfl|rfl<;>exact gX
 unfold pJ;rw[aO]
 cases e:([("":Str),"p","q","pp","r"])[(m/10000%5).toNat]? with
 |none=>exact gX
 |some x=>exact h x (aK e)
theorem Ox(ns cells:List Int):Lay 19 (.list ((vz (dF ns) cells).map oh)):=ou λd hd=>by
 obtain⟨g,hg,rfl⟩:=au.mp hd;obtain⟨k,hk,rfl⟩:=au.mp hg;have ok:=yr ns;refine iE λz hz=>?_
 simp[ax,bD,or_false]at hz;rcases hz with rfl|rfl|rfl|rfl
 ·exact bQ _ _
 ·exact bu (ok.gates _ (jD (F:=aX) (iQ.mpr (qI ns).2) _).2).ok.2
 ·exact bu (ok.kinds _ (jD (F:=λ(q:Str×Option Int)=>aX q.1) (iQ.mpr (qI ns).1) _).2).1.ok.2
 ·exact bu (K3 _)
theorem Oy{s:Ws}(ok:Ak p day)(re:Reach p day s book):Lay 19 (.list (book.map qZ)):=ou λd hd=>by
 obtain⟨e,he,rfl⟩:=au.mp hd;obtain⟨k,hk⟩:=sE.mp he;obtain⟨s',_,Dt⟩:=re.at hk;refine N5 λt d gs h=>?_
 have hd:d∈p.desks.map (·.name):=by
  rcases h with rfl|rfl
  ·exact Dt.1
  ·exact Dt.1
 obtain⟨z,hz,rfl⟩:=au.mp hd;exact(ok.p5.ok.desks z hz).1.ok.2
def Fti:aj->Option aj
 | .tuple (_::t::_)=>some t
 |_=>none
theorem Rx(l:List We):(l.map qZ).filterMap Fti=(l.map We.time).map .int:=by
 rw[bP,aB];exact filterMap_some λe _=>by cases e<;>rfl
def Aa(p:Pl)(day:List pX)(book:List We):List (List AQ):=(cx day.length).map λg=>kB (qJ p day g book)
def Fdu(p:Pl)(day:List pX)(book:List We):aj->Option aj
 | .int g=>some (qK (kB (qJ p day g.toNat book)))
 |_=>none
theorem Ry(p:Pl)(day:List pX)(book:List We):(iJ day.length).filterMap (Fdu p day book)=(Aa p day book).map qK:=by
 unfold iJ Aa;rw[bP,aB];exact filterMap_some λq _=>rfl
theorem Rz(p:Pl)(day:List pX)(book:List We):(fx day.length (pY p day book)).map ik=(Aa p day book).map qK:=by
 unfold fx Aa;rw[aB,aB];rfl
theorem RA(ok:Ak p day)(hb:book.length<=63):VX (Aa p day book):=by
 refine#[by unfold Aa;rw[ae,cY];exact ok.dl,λr hr=>?_]
 obtain⟨g,hg,rfl⟩:=au.mp hr;obtain⟨h1,h2⟩:=(Ds ok (cA.mp hg) book).full;exact#[∅,h2]
theorem HB(l:List Int)(z:Int):sC (l ++ [z])=mx (sC l) z:=by unfold sC;rw[eS];rfl
theorem HC{α:Type}(l:List α)(lo hi:Option Int):(L2.cutD l lo hi).length<=l.length:=by
 unfold L2.cutD;rw[bh,cV];omega
structure LawC(P:bA)(w:cn)(K:aq)(mg:Str->Option aF)(base:cX):Prop where
 n:Na mg
 kt:Ka K
 ca:bB P w K mg base 1 "_law_cell_at" ["_law_script","_law_k"] (g7 K Ja)
 mx:bB P w K mg base 1 "_law_mix" ["_law_cell","_law_k"] (g7 K EF)
 pl:bB P w K mg base 4 "_law_plant" ["_law_script"] (g7 K Rpl)
 pt:bB P w K mg base 3 "_law_plant_text" ["_law_h"] (g7 K Rpt)
 rp:bB P w K mg base 9 "read_plant" ["text"] (g7 K Rrp)
 dy:bB P w K mg base 2 "_law_day" ["_law_h","_law_cells"] (Gf K Rdy)
 wi:bB P w K mg base 4 "_law_wild" ["_law_h","_law_day_here","_law_cells"] (g7 K Rwi)
 st:bB P w K mg base 1 "_law_stays_of" ["_law_h","_law_day_here","_law_book","_law_good"] (g7 K Rst)
 sm:bB P w K mg base 1 "_law_same" ["_law_found","_law_due"] (g7 K Rsm)
 lo:bB P w K mg base 1 "longest" ["waits","until"] (g7 K Rlo)
 wt:bB P w K mg base 2 "waits_of" ["plant","day","book"] (Wr K (Rwt K))
abbrev slA(ns:List Int)(p:Pl)(m:Int)(day:List pX)(book:List We)(u:Int)(rows:List (List AQ))(mo:Int):List Slot:=[.val (oC ns),.val (fL p),.val (lE p),.val (.int m),.val (.list (day.map oh)),.val (.list (book.map qZ)),.val (.int u),.val (.list (rows.map qK)),.val (.int mo),.un,.un,.un,.un,.un,.un,.un]
abbrev slB(ns:List Int)(p:Pl)(m:Int)(day:List pX)(book:List We)(u:Int)(rows:List (List AQ))(mo:Int)(r:List AQ):List Slot:=[.val (oC ns),.val (fL p),.val (lE p),.val (.int m),.val (.list (day.map oh)),.val (.list (book.map qZ)),.val (.int u),.val (.list (rows.map qK)),.val (.int mo),.val (qK r),.un,.un,.un,.un,.un,.un]
theorem V2{X:Cx}{δ:List Slot}{c a b:bK}{pos pc:Pos}{u:Int}(o:Option Int)(h1:VE X a δ (.int u))(h2:VE X b δ (Dq o))(hc:VE X c δ (Dq o)){n}(hn:VE X n δ .none):VE X (.IfExp (.Compare c [.Is] [n] pc) a b pos) δ (.int (ZO u o)):=by
 cases o with
 |none=>exact rL (VT.to (e9 j' m8 hc hn (eV _)) rfl) (λ_=>h1) (λh=>nomatch h)
 |some t=>exact rL (VT.to (e9 j' m8 hc hn (eV _)) rfl) (λh=>nomatch h) (λ_=>h2)
section
variable{P:bA}{w:cn}{K:aq}{mg:Str->Option aF}{base:cX}{f:aH}{k:Nat}
abbrev V3:List Str:=["_law_script","_law_h","_law_plant_here","_law_m","_law_day_here","_law_book","_law_until","_law_due","_law_most","_law_row","_law_place","_law_begin","_law_end","_law_handed","_law_found","_law_told"]
theorem Oz:cw V3 ["_law_script"] (bL (top 63)):=by grind
def ZQ(ds:List aj)(d:aj):Prop:=∃ns:List Int,ds=[oC ns]/\ns.length<=63/\d=.bool true
theorem ZR(C:LawC P w K mg base){ds:List aj}(h:ZQ ds d):y0 P w K mg base V3 "law" (top 63) f 9 ds (.rt d):=by
 obtain⟨ns,rfl,hn,rfl⟩:=h;intro g6 A outer s H E hr;have n:=C.n;have kt:=C.kt;have nd:V3.Nodup:=Oz.nd;have gq:eB 1 _:=hr.mono ∅
 have Lh:eB 2 _:=hr.mono ∅
 have hr3:eB 3 _:=hr.mono ∅
 have hr4:eB 4 _:=hr.mono ∅
 have okp:=yr ns;have gdp:=wK ns;obtain⟨Z5,hg0⟩:=qI ns;have otx:=KR ns;refine aG (cu 1 (d:=fL (dF ns)) (bF C.pl hr4 (ao (ai 0 rfl) aR) #[ns,rfl,rfl]) nd) ?_
 refine aG (cu 2 (d:=lE (dF ns)) (bF C.rp hr (ao (bF C.pt hr3 (ao (ai 1 rfl) aR) #[dF ns,rfl,okp,rfl]) aR) #[sS (dF ns),E7 (dF ns),rfl,otx,E9 okp Z5,Zu okp gdp,by rw[(NZ okp gdp).2]]) nd) ?_
 refine aG (cu 3 (d:=.int (c7 (ns.getD 3 0) 7)) (bF C.mx gq (ao (bF C.ca gq (ao (ai 0 rfl) (ao aE aR)) #[ns,3,rfl,rfl]) (ao aE aR)) #[ns.getD 3 0,7,rfl,⋯,⋯,rfl]) nd) ?_
 have hm0:=yo (ns.getD 3 0) 7
 generalize c7 (ns.getD 3 0) 7=m at *
 have ZK:=Hz (ns.getD 4 0) m;have nk:(["_law_k","_law_script"]:List Str).Nodup:=∎
 refine aG (cu 4 (VO.ve (oq C.dy Lh (ao (ai 1 rfl) (ao (VE.to (VO.ve (eU (own:=["_law_k"]) (cap:=[0]) (N:=["_law_k","_law_script"]) (tgt:=.one 0) (F:=Fck (ns.getD 4 0)) (ds:=iJ (1+m%30).toNat) rfl #[rfl,∎,∎,rfl,rfl,?_] (pF (n:=1+m%30) (dZ aE (cq (ai 3 rfl) aE ⋯)) n.rng ∅ ∅) (λf s3 H3=>gJ 0 nk) rfl (small (by rw[jv];omega)) (λd hd=>?_))) (qQ6 ik (Rw _ m))) aR)) #[dF ns,uP (ns.getD 4 0) m,rfl,iQ.mpr hg0,iQ.mpr Z5,∅,rfl])) nd) ?_
 ·intro j hj
  obtain rfl:=aQ.mp hj;exact#[(by show(0:Nat)<16;decide),(by left),rfl]
 ·obtain⟨i,hi,rfl⟩:=au.mp hd
  exact Ee rfl rfl λf s3 H3=>dZ (bF C.ca gq (ao (ai 1 rfl) (ao aE aR)) #[ns,4,rfl,rfl]) (rJ (ai 0 rfl) (ai 0 rfl) (.inl #[by have:=cA.mp hi;omega,by have:=cA.mp hi;omega]))
 have V4:=V1 ns ZK;have hLd:=Ox ns (uP (ns.getD 4 0) m);have Gk:(L2.cutD ns (some 5) (some 63)).length<=63:=bU (HC _ _ _) hn
 generalize vz (dF ns) (uP (ns.getD 4 0) m)=day at *
 refine aG (cu 5 (bF C.wi hr4 (ao (ai 1 rfl) (ao (ai 4 rfl) (ao (VO.ve (VO.to (h_ (ds:=ns.map c9) (ai 0 rfl) (.yes aE) (.yes aE)) (oF _ _ _ _))) aR))) #[dF ns,day,L2.cutD ns (some 5) (some 63),rfl,V4,Gk,rfl]) nd) ?_
 obtain⟨re,zdw⟩:=wN V4 (L2.cutD ns (some 5) (some 63)) (L2.cutD ns (some 5) (some 63)).length;have PV:=bU zdw Gk
 generalize(Fz (dF ns) day (L2.cutD ns (some 5) (some 63)) (L2.cutD ns (some 5) (some 63)).length).2=book at *
 generalize(Fz (dF ns) day (L2.cutD ns (some 5) (some 63)) (L2.cutD ns (some 5) (some 63)).length).1=s' at *
 have hLb:=Oy V4 re
 generalize dF ns=p at *
 have ne1:(["_law_entry"]:List Str).Nodup:=∎
 obtain⟨YM,YN⟩:=Du (book.map We.time) 0;refine aG (cu 6 (d:=.int (sC (book.map We.time)+m/30%9)) (dZ (gR (sL rfl) (Iy (ns:=0::book.map We.time) YM YN) (ao (VE.to (VO.ve (lb (d1:=[.int 0]) (d2:=(book.map We.time).map .int) (VO.ve (dS (ao aE aR))) (VE.to (VO.ve (eU (own:=["_law_entry"]) (cap:=[]) (N:=["_law_entry"]) (cl:=[]) (tgt:=.one 0) (F:=Fti) (ds:=book.map qZ) rfl #[rfl,∎,∎,rfl,rfl,by simp] (dY (ai 5 rfl)) (λf s3 H3=>gJ 0 ne1) rfl (small (by rw[ae];omega)) (λd hd=>?_))) (qQ6 ik (Rx book))) (small (by rw[ae,ae];show 1+book.length<=_;omega)))) rfl) aR) n.max rfl) (cq (eI (ai 3 rfl) aE #[⋯,⋯]) aE ⋯)) nd) ?_
 ·obtain⟨e,he,rfl⟩:=au.mp hd
  refine#[_,rfl,λf s3 H3=>by cases e<;>exact jW,λr ky f s3 H3=>?_]
  obtain rfl:c9 e.time=r:=by cases e<;>(cases ky;rfl)
  exact dz (VE.to (ai 0 rfl) (wM e)) aE (cM (j:=1) rfl)
 generalize sC (book.map We.time)+m/30%9=u
 have Le:=V4.dl;have hro:=RA V4 PV;have ng:(["_law_good","_law_h","_law_day_here","_law_book"]:List Str).Nodup:=∎
 refine aG (vj 7 (own:=["_law_good"]) (cap:=[1,4,5]) (tgt:=.one 0) (F:=Fdu p day book) (ds:=iJ day.length) rfl #[rfl,∎,∎,rfl,rfl,?_] (pF (n:=(day.length:Int)) (VE.to (fY (ai 4 rfl) n.len) (by rw[ae])) n.rng ∅ ∅) (λf s3 H3=>gJ 0 ng) rfl (small (by rw[jv];omega)) (λd hd=>?_) nd) ?_
 ·intro j hj
  rcases ax.mp hj with rfl|hj
  ·exact#[(by show(1:Nat)<16;decide),(by left),rfl]
  rcases ax.mp hj with rfl|hj
  ·exact#[(by show(4:Nat)<16;decide),(by left),rfl]
  obtain rfl:=aQ.mp hj;exact#[(by show(5:Nat)<16;decide),(by left),rfl]
 ·obtain⟨g,hg,rfl⟩:=au.mp hd
  exact Ee rfl rfl λf s3 H3=>bF C.st gq (ao (ai 1 rfl) (ao (ai 2 rfl) (ao (ai 3 rfl) (ao (ai 0 rfl) aR)))) #[p,day,book,s',g,rfl,V4,re,PV,cA.mp hg,rfl]
 rw[Ry];refine dM 7 rfl ?_
 have hre:=Rz p day book
 generalize Aa p day book=rows at *
 refine aG (cu 8 (d:=.int 0) aE nd) ?_
 have Rf:=hro.n;refine aG (jN (tgt:=.one 9) (ds:=rows.map qK) bY rfl (dY (ai 7 rfl)) (gJ 9 nd) (λk=>slA ns p m day book u rows (sC (m9 u (rows.take k)))) rows.length rfl (by rw[ae];exact aT _) (λk d hk hd=>?_) (.inl #[by rw[ae],rfl])) ?_
 ·obtain⟨r,hr5,rfl⟩:=yz hd
  refine#[_,rfl,?_]
  rw[take_snoc hr5,z8]
  generalize m9 u (rows.take k)=ls
  have er:r.map (xY u)=(r.take r.length).map (xY u):=by rw[cy]
  refine fj (aY (jN (tgt:=.tup [10,11,12]) (ds:=r.map sy) bY rfl (dY (ai 9 rfl)) (gK rfl (bT (gJ 10 nd) (bT (gJ 11 nd) (bT (gJ 12 nd) fF)))) (λj=>slB ns p m day book u rows (sC (ls++(r.take j).map (xY u))) r) r.length (by show slB ns p m day book u rows (sC (ls ++ [])) r=_;rw[b9];rfl) (by rw[ae];exact aT _) (λj d hj hd=>?_) (.inl #[by rw[ae],rfl]))) (by rw[er];exact#[.inr rfl,.inr rfl,.inr rfl,.inr rfl,.inr rfl,.inr rfl,.inr rfl,.inr rfl,.inr rfl,.inl rfl,.inl rfl,.inl rfl,.inl rfl,.inl rfl,.inl rfl,.inl rfl,trivial])
  obtain⟨⟨x,b,o⟩,hx,rfl⟩:∃x,r[j]?=some x/\d=sy x:=by
   rw[ay]at hd
   cases e:r[j]? with
   |none=>rw[e]at hd;cases hd
   |some z=>rw[e]at hd;cases hd;exact#[z,rfl,rfl]
  refine#[_,rfl,?_]
  rw[take_snoc hx,aP,<-cC];show rP _ _ _ (.nx (slB ns p m day book u rows (sC (ls++(r.take j).map (xY u) ++ [xY u (x,b,o)])) r));rw[HB];refine fj (aY (cu 8 (gR (JF rfl) (UC _ (xY u (x,b,o))) (ao (ai 8 rfl) (ao (VE.to (k:=.int (xY u (x,b,o))) (Cv (V2 o (ai 6 rfl) (ai 12 rfl) (ai 12 rfl) dQ) (ai 11 rfl)) rfl) aR)) n.max rfl) nd)) #[.inr rfl,.inr rfl,.inr rfl,.inr rfl,.inr rfl,.inr rfl,.inr rfl,.inr rfl,.inr rfl,.inr rfl,.inl rfl,.inl rfl,.inl rfl,.inl rfl,.inl rfl,.inl rfl,trivial]
 rw[cy];refine aG (cu 13 (dR (ao (VO.ve (nF k9 Mm (ao (ai 4 rfl) aR) n.lst rfl)) (ao (VO.ve (nF k9 Mm (ao (ai 5 rfl) aR) n.lst rfl)) aR))) nd) ?_
 have hLt:Lay 20 (.tuple [.list (day.map oh),.list (book.map qZ)]):=iE (n:=19) λz hz=>by
  rcases ax.mp hz with rfl|hz
  ·exact hLd
  ·rw[aQ.mp hz];exact hLb
 have hwt:Rwt K [lE p,.list (day.map oh),.list (book.map qZ)] (Sy (LX K (fx day.length (pY p day book)))):=#[p,day,book,s',rfl,V4,re,PV,rfl];have hsm:Rsm [.list (rows.map qK),.list (rows.map qK)] (.bool true):=#[rows,rfl,hro,rfl];have Vr:∀r∈fx day.length (pY p day book),r.length<sizeLine:=λr hr=>by
  have hm:ik r∈rows.map qK:=by rw[<-hre];exact au.mpr #[r,hr,rfl]
  obtain⟨z,hz,e⟩:=au.mp hm;have e:z.map sy=r:=by injection e
  have:=(hro.r z hz).1;exact fw (by rw[<-e,ae];omega)
 have hrn:(fx day.length (pY p day book)).length<=30:=by unfold fx;rw[ae,cY];exact Le
 generalize fx day.length (pY p day book)=gs at *
 refine pH λB0 B σ H0 Hh D fr VN=>?_
 refine cI (M8 fr 14 (CN C.wt Lh zt (ao (ai 2 rfl) (ao (gA 13 0 rfl rfl) (ao (gA 13 1 rfl rfl) aR))) hwt) nd (λ_=>rfl) λa σ1 H1 dD G1=>?_)
 obtain⟨ps,G1⟩:=G1.llx;have V5:∀Ha Hb as,cU Ha Hb->LL K a ps gs Ha Hb as->Rep K (jG as Hb Ha) (.ref a) (.list (rows.map qK)):=λHa Hb as sb h=>by rw[<-hre];exact LL.rep Ha Hb as sb h
 refine cI (Sv (kb:=false) LL.mono G1 14 rfl V5 (VT.to (h8 (k1:=false) (k2:=false) (VT.to (oV (jM (bF C.sm gq (ao (ai 14 rfl) (ao (ai 7 rfl) aR)) hsm) rfl)) rfl) (λ_=>VT.to (iI gq hLt hLt (ai 13 rfl) (dR (ao (ai 4 rfl) (ao (ai 5 rfl) aR)))) (by rw[SeqAt.eqv_refl _ hLt.1];rfl))) rfl) (λh=>nomatch h) λ_ H2 G2=>sO ?_)
 refine cI (MF LL.mono G2 14 15 rfl V5 (d:=.int (sC (m9 u rows))) (bF C.lo gq (ao (ai 14 rfl) (ao (ai 6 rfl) aR)) #[rows,u,rfl,hro,rfl]) rfl rfl (λσ3 H3 uv G3=>?_) nd)
 refine cI (Sv (kb:=false) LL.mono G3 14 rfl V5 (Qc (VT.to (oV (jM (ux (tn:="int") (ai 15 rfl) rfl kt.ii rfl n.UB n.int rfl) rfl)) rfl) (VT.to (jM (ux (tn:="bool") (ai 15 rfl) rfl kt.ib rfl n.UB n.bool rfl) rfl) rfl) (VT.to (iI gq (bQ 20 _) (bQ 20 _) (ai 15 rfl) (ai 8 rfl)) (by rw[jd,qQ1 rfl];rfl)) (VT.to (oV (jM (bF C.sm gq (ao (ai 14 rfl) (ao (ai 7 rfl) aR)) hsm) rfl)) rfl)) (λh=>nomatch h) λ_ H4 G4=>sO ?_)
 refine cI (Qu (dv:=.tuple [.str "",.int 0,.int 0]) G4 bY rfl 14 9 rfl (by show(9:Nat)<16;decide) (λ_=>rfl) (λ_=>#[.inr rfl,.inr rfl,.inr rfl,.inr rfl,.inr rfl,.inr rfl,.inr rfl,.inr rfl,.inr rfl,.inl rfl,.inr rfl,.inr rfl,.inr rfl,.inr rfl,.inr rfl,.inr rfl,trivial]) (λ_=>dR (ao aW (ao aE (ao aE aR)))) Vr (gJ 9 nd) λσ5 H5 UN G5=>?_)
 refine cI (Qv G5 14 rfl (fw (by rw[ae];omega)) λH6 G6=>?_)
 exact bS (Ve G6 (VE.to (oW (bF C.sm gq (ao (Qp (CN C.wt Lh zt (ao (ai 2 rfl) (ao (gA 13 0 rfl rfl) (ao (gA 13 1 rfl rfl) aR))) hwt) (λa Ha Hb as sb h=>by rw[<-hre];exact LX.rep a Ha Hb as sb h)) (ao (ai 7 rfl) aR)) hsm) (λ_=>kK (tQ gq (bQ 20 _) (bQ 20 _) (bF C.lo gq (ao (VO.ve (dS aR)) (ao (ai 6 rfl) aR)) #[[],u,rfl,#[bj _,λr hr=>nomatch hr],rfl]) aE))) (by rw[jd];rfl)) VN)
end
end Mg
namespace Mg
open L2 PySem PyProof.Rows
variable{g:aH}{LQ:Array (Option aF)}{fd:eM}{h:cX}{ps:List Str}{od:Option aH}{K:aq}{st:fQ}{oc:aF}
structure eJ(K:aq)(mg:Str->Option aF)(g x:Str)(st:fQ)(ps:List Str):Prop where
 ex:∃f fd,kX K x x st f fd/\mg g=some (.ref f)/\∀us:List aF,us.length=ps.length->bindArgs fd #[us,[]]=pure (ps.zip us)
theorem Ab{mg:Str->Option aF}{g x:Str}{f:aH}{an: Option aH}{kV doc pm g6 ct:aF}(X:K.In h)(G:h.Ns mainGlobals mg)
  (hb:∀(kV doc pm:aF)(an:Option aH)(g6 ct:aF)(us:List aF),us.length=ps.length->bindArgs (iX x x (qe st) (mq st) (bL st) .none kV doc pm an g6 ct) #[us,[]]=pure (ps.zip us))
  (a:PySem.W.nsIn K mainGlobals g=some (some (.ref f)))(l:K.lookup f=some #[oc,od,.func (iX x x (qe st) (mq st) (bL st) .none kV doc pm an g6 ct),LQ])
  (c:nI K g6 x=true)(k:iH K (.ref f)=true):eJ K mg g x st ps:=
 #[f,_,L6 l c k,oS X G a,hb kV doc pm an g6 ct]
section
variable{P:bA}{w:cn}{K:aq}{mg:Str->Option aF}{base:cX}{f:aH}{k:Nat}
theorem eJ.call{g x:Str}{sp:Sp}(D:eJ K mg g x st ps)(h:∀f fd,kX K x x st f fd->eW P w K mg base kD k f fd ps sp):bB P w K mg base k g ps sp:=by
 obtain⟨f,fd,F,hm,hb⟩:=D.ex;exact#[f,fd,h f fd F,hm,F.kp,.all hb]
theorem lH{ws:List Str}{its:Array aF}{n:Nat}{sl:Array (Option aF)}(l:K.lookup g=some #[.type "tuple",od,.seq its n,sl])(hs:its.size<=100)(hv:dU (ws.map V.str) its.toList):MA K g ws:=
 #[_,_,_,l,rfl,rfl,small ∅,hv]
theorem Tr{pr:BZ}{kvs:List (Str×List Str)}{es:Array wW}{ep:Nat}(nm:(g==sysModules)=false)(nd:(kvs.map (·.1)).Nodup)(l:K.lookup g=some #[.type "dict",none,.dict es ep,#[]])(ge:GE pr K es.toList kvs):GD pr K g kvs:=
 #[nm,nd,_,es,ep,l,#[rfl,rfl,rfl],rfl,ge]
structure RB(K:aq)(mg:Str->Option aF):Prop where
 ex:∃C fi fd,mg "Plant"=some (.ref C)/\DW K C/\(∀f∈fsN,kf K C f)/\Mk K C fi/\kX K "__init__" "Plant.__init__" BH fi fd/\Binds K fd ["self"] []
theorem ZS{C f:aH}{an: Option aH}{kV doc pm g6 ct:aF}(X:K.In h)(G:h.Ns mainGlobals mg)(aC:PySem.W.nsIn K mainGlobals "Plant"=some (some (.ref C)))
  (a1:dB K (.ref C) "__init__"=some (some (.ref f)))(i1:PySem.W.isFn K (.ref f)=true)(l:K.lookup f=some #[oc,od,.func (iX "__init__" "Plant.__init__" (qe BH) (mq BH) (bL BH) .none kV doc pm an g6 ct),LQ])(c:nI K g6 "Plant.__init__"=true)(k:iH K (.ref f)=true)
  (pg:o_ K C gi=true)(hd:oi K C=true)(po:uX K C=true)(sa:dB K (.ref C) "__setattr__"=some (some (.builtin "object.__setattr__")))(mk:xI K C=true)(kc:iH K (.ref C)=true)
  (z1:dB K (.ref C) "kinds"=some none)(z2:dB K (.ref C) "gates"=some none)(z3:dB K (.ref C) "lines"=some none)(z4:dB K (.ref C) "desks"=some none)(z5:dB K (.ref C) "times"=some none)(z6:dB K (.ref C) "hours"=some none)(z7:dB K (.ref C) "paces"=some none):RB K mg:=by
 have F:=L6 l c k;refine#[C,f,_,oS X G aC,#[pg,hd,po,sa],λf hf=>?_,#[mk,a1,i1,kc],F,F.binds λ_ _ _ _ _ _ us hl=>match us,hl with | [_],_=>rfl]
 simp[ax,bD,or_false]at hf;rcases hf with rfl|rfl|rfl|rfl|rfl|rfl|rfl
 ·exact z1
 ·exact z2
 ·exact z3
 ·exact z4
 ·exact z5
 ·exact z6
 ·exact z7
theorem RB.pc(T:RB K mg):PlC P w K mg base:=by
 obtain⟨C,fi,fd,h1,h2,h3,h4,h5,h6⟩:=T.ex;exact#[C,fi,fd,h1,h2,h3,h4,zcZ h5 h2 h3,h6]
structure Defs(K:aq)(mg:Str->Option aF)(pr:BZ):Prop where
 n:Np mg pr K
 nw:Nw mg
 kt:Ka K
 pa:RB K mg
 md:mg "dict"=none
 d0:eJ K mg "is_made_of" "is_made_of" (top 15) ["signs","longest","word"]
 d1:eJ K mg "is_name" "is_name" (top 16) ["word"]
 d2:eJ K mg "is_number" "is_number" (top 17) ["word"]
 d3:eJ K mg "words_of" "words_of" (top 18) ["row"]
 d4:eJ K mg "rows_of" "rows_of" (top 19) ["text"]
 d5:eJ K mg "greatest_load" "greatest_load" (top 9) ["rule","many"]
 d6:eJ K mg "read_plant" "read_plant" (top 25) ["text"]
 d7:eJ K mg "fits" "fits" (top 26) ["shape","word"]
 d8:eJ K mg "value_of" "value_of" (top 27) ["shape","word"]
 d9:eJ K mg "values_of" "values_of" (top 28) ["shapes","words"]
 d10:eJ K mg "entry_of" "entry_of" (top 29) ["words"]
 d11:eJ K mg "desk_entry" "desk_entry" (top 30) ["words"]
 d12:eJ K mg "rule_of" "rule_of" (top 31) ["words","many"]
 d13:eJ K mg "are_places" "are_places" (top 32) ["names"]
 d14:eJ K mg "fault_of" "fault_of" (top 33) ["plant","entry"]
 d15:eJ K mg "tells_twice" "tells_twice" (top 34) ["plant","entry"]
 d16:eJ K mg "lacks_name" "lacks_name" (top 35) ["plant","entry"]
 d17:eJ K mg "lacks_room" "lacks_room" (top 36) ["plant","entry"]
 d18:eJ K mg "is_place" "is_place" (top 37) ["plant","name"]
 d19:eJ K mg "is_desk" "is_desk" (top 38) ["plant","name"]
 d20:eJ K mg "takers_of" "takers_of" (top 39) ["plant","place"]
 d21:eJ K mg "add_entry" "add_entry" (top 40) ["plant","entry"]
 d22:eJ K mg "waits_of" "waits_of" (top 1) ["plant","day","book"]
 d23:eJ K mg "longest" "longest" (top 2) ["waits","until"]
 d24:eJ K mg "begin_stay" "begin_stay" (top 3) ["stays","place","time"]
 d25:eJ K mg "end_stay" "end_stay" (top 4) ["stays","time"]
 d26:eJ K mg "_law_cell_at" "_law_cell_at" (top 42) ["_law_script","_law_k"]
 d27:eJ K mg "_law_mix" "_law_mix" (top 43) ["_law_cell","_law_k"]
 d28:eJ K mg "_law_names" "_law_names" (top 44) ["_law_cell","_law_many"]
 d29:eJ K mg "_law_rule" "_law_rule" (top 45) ["_law_m","_law_many"]
 d30:eJ K mg "_law_greatest" "_law_greatest" (top 46) ["_law_rule_here","_law_many"]
 d31:eJ K mg "_law_desks" "_law_desks" (top 47) ["_law_cell","_law_places","_law_lines"]
 d32:eJ K mg "_law_plant" "_law_plant" (top 48) ["_law_script"]
 d33:eJ K mg "_law_dash" "_law_dash" (top 49) ["_law_thing"]
 d34:eJ K mg "_law_rule_text" "_law_rule_text" (top 50) ["_law_rule_here"]
 d35:eJ K mg "_law_plant_text" "_law_plant_text" (top 51) ["_law_h"]
 d36:eJ K mg "_law_day" "_law_day" (top 52) ["_law_h","_law_cells"]
 d37:eJ K mg "_law_free" "_law_free" (top 53) ["_law_h","_law_state","_law_desk_here"]
 d38:eJ K mg "_law_wild_load" "_law_wild_load" (top 54) ["_law_h","_law_day_here","_law_state","_law_m","_law_t"]
 d39:eJ K mg "_law_ripe" "_law_ripe" (top 55) ["_law_h","_law_state","_law_t"]
 d40:eJ K mg "_law_wild_entry" "_law_wild_entry" (top 56) ["_law_h","_law_day_here","_law_state","_law_m","_law_t"]
 d41:eJ K mg "_law_desk" "_law_desk" (top 57) ["_law_h","_law_name"]
 d42:eJ K mg "_law_do" "_law_do" (top 58) ["_law_h","_law_day_here","_law_state","_law_entry"]
 d43:eJ K mg "_law_begun" "_law_begun" (top 59) ["_law_h"]
 d44:eJ K mg "_law_wild" "_law_wild" (top 60) ["_law_h","_law_day_here","_law_cells"]
 d45:eJ K mg "_law_stays_of" "_law_stays_of" (top 61) ["_law_h","_law_day_here","_law_book","_law_good"]
 d46:eJ K mg "_law_same" "_law_same" (top 62) ["_law_found","_law_due"]
theorem Defs.all(D:Defs K mg w.params):LawC P w K mg base:=by
 have n:=D.n;have nw:=D.nw;have pc:=D.pa.pc (P:=P) (w:=w) (base:=base);have vS:=D.d0.call (P:=P) (w:=w) (base:=base) λ_ _ F=>zch F nw
 have wQ:=D.d1.call λ_ _ F=>zci F nw vS
 have xE:=D.d2.call λ_ _ F=>zcj F nw vS
 have K4:=D.d4.call (P:=P) (w:=w) (base:=base) λ_ _ F=>zcl F nw (D.d3.call (P:=P) (w:=w) (base:=base) λ_ _ F=>zck F)
 have RC:=D.d7.call (P:=P) (w:=w) (base:=base) λ_ _ F=>YV F n.toNa wQ xE
 have V6:=D.d7.call (P:=P) (w:=w) (base:=base) λ_ _ F=>zcB F n.toNa wQ xE RC
 have HD:=D.d8.call (P:=P) (w:=w) (base:=base) λ_ _ F=>zcC F n.toNa
 have sD:=D.d9.call (P:=P) (w:=w) (base:=base) λ_ _ F=>zcD F n.toNa n.zip V6 HD
 have K5:=D.d12.call (P:=P) (w:=w) (base:=base) λ_ _ F=>Y0 F n sD
 have Dw:=D.d13.call (P:=P) (w:=w) (base:=base) λ_ _ F=>zcH F n wQ
 have Dx:=D.d11.call (P:=P) (w:=w) (base:=base) λ_ _ F=>zcJ F n sD K5 Dw
 have HF:=D.d10.call (P:=P) (w:=w) (base:=base) λ_ _ F=>zcP F n sD Dx
 have Ac:=D.d18.call (P:=P) (w:=w) (base:=base) λ_ _ F=>zcS F
 have BR:=D.d19.call (P:=P) (w:=w) (base:=base) λ_ _ F=>zcT F
 have Fn:=D.d20.call (P:=P) (w:=w) (base:=base) λ_ _ F=>zcU F
 have AU:=D.d15.call (P:=P) (w:=w) (base:=base) λ_ _ F=>zcW F n Ac BR Fn
 have Dy:=D.d16.call (P:=P) (w:=w) (base:=base) λ_ _ F=>zcX F n Ac BR
 have Dz:=D.d17.call (P:=P) (w:=w) (base:=base) λ_ _ F=>Zd F n (D.d5.call (P:=P) (w:=w) (base:=base) λ_ _ F=>zcV F)
 have HG:=D.d14.call λ_ _ F=>zcY F AU Dy Dz
 have DB:=D.d6.call (P:=P) (w:=w) (base:=base) λ_ _ F=>zc7 F n pc K4 HF HG (D.d21.call (P:=P) (w:=w) (base:=base) λ_ _ F=>zc1 F)
 have HJ:=D.d25.call (P:=P) (w:=w) (base:=base) λ_ _ F=>zdr F
 have HK:=D.d22.call (P:=P) (w:=w) (base:=base) λ_ _ F=>zdt F (D.d24.call (P:=P) (w:=w) (base:=base) λ_ _ F=>zdq F) HJ
 have K6:=D.d23.call (P:=P) (w:=w) (base:=base) λ_ _ F=>zdp F n.toNa
 have ub:=D.d26.call (P:=P) (w:=w) (base:=base) λ_ _ F=>Vm F n.len
 have nG:=D.d27.call (P:=P) (w:=w) (base:=base) λ_ _ F=>YK F
 have xF:=D.d28.call λ_ _ F=>zcn F n.toNm nG
 have HL:=D.d29.call (P:=P) (w:=w) (base:=base) λ_ _ F=>zco F n.toNm
 have Fo:=D.d31.call (P:=P) (w:=w) (base:=base) λ_ _ F=>zcq F n.toNm nG xF HL
 have Fp:=D.d32.call (P:=P) (w:=w) (base:=base) λ_ _ F=>zcs F n.toNm ub nG xF (D.d30.call (P:=P) (w:=w) (base:=base) λ_ _ F=>zcp F) Fo
 have Ad:=D.d33.call (P:=P) (w:=w) (base:=base) λ_ _ F=>zcx F n.toNa
 have x3:=D.d34.call λ_ _ F=>zcz F n.toNa Ad
 have K7:=D.d36.call (P:=P) (w:=w) (base:=base) λ_ _ F=>zcv F n.toNm nG
 have HM:=D.d37.call (P:=P) (w:=w) (base:=base) λ_ _ F=>Zx F
 have x4:=D.d38.call (P:=P) (w:=w) (base:=base) λ_ _ F=>zda F n.toNa HM
 have HN:=D.d39.call (P:=P) (w:=w) (base:=base) λ_ _ F=>zdb F n.toNa D.md
 have wR:=D.d40.call (P:=P) (w:=w) (base:=base) λ_ _ F=>zdc F n.toNa HN x4
 have HP:=D.d41.call (P:=P) (w:=w) (base:=base) λ_ _ F=>ZF F
 have OB:=D.d42.call (P:=P) (w:=w) (base:=base) λ_ _ F=>zdh F n.toNa D.md HP
 have Fq:=D.d43.call (P:=P) (w:=w) (base:=base) λ_ _ F=>zdk F D.md
 have HQ:=D.d44.call (P:=P) (w:=w) (base:=base) λ_ _ F=>zdl F n.toNa nG Fq wR OB
 have Ae:=D.d45.call (P:=P) (w:=w) (base:=base) λ_ _ F=>zdm F D.md
 have HR:=D.d46.call (P:=P) (w:=w) (base:=base) λ_ _ F=>zdo F n.toNa n.zip D.kt
 exact#[n.toNa,D.kt,ub,nG,Fp,D.d35.call (P:=P) (w:=w) (base:=base) λ_ _ F=>zcA F n.toNa Ad x3,DB,K7,HQ,Ae,HR,K6,HK]
def OD(K:aq):Sp:=λvs H Q _=>∃(a:aH)(ns:List Int),vs=[.ref a]/\jy K H a (ns.map V.int)/\ns.length<=63/\∀H',Q (.bl true) H'
theorem BU{H:Hp}:∀ns:List Int,cz K H (ns.map V.int) (ns.map c9)
 | []=>.nil
 |n::ns=>.cons (.int n) (BU ns)
theorem RD(F:eW P w K mg base kD k f fd ps (g7 K ZQ)):eW P w K mg base kD k f fd ps (OD K):=F.imp λvs H Q E h=>by
 obtain⟨a,ns,rfl,hS,hn,q⟩:=h;exact#[H,_,_,cU.refl _,.cons (.lst hS (BU ns)) .nil,#[ns,rfl,hn,rfl],λv cW H' g r=>by cases r;exact q H']
theorem ZT(F:kX K "law" "law" (top 63) f fd)(C:LawC P w K mg base):eW P w K mg base kD 10 f fd ["_law_script"] (OD K):=
 RD (jz F Oz (by ext) λ_ _ h=>ZR C h)
end
theorem walk{l:PySem.W.OpenLaw}{q:bA}{loose:List Str}{XP:(Str->Option aF)->cX->Prop}{YP:cn->cX->Prop}{d:DefRec}{K:BZ->aq}(hn:l.most=some 63)(XA:d.params.defaults=[])(Sn:d.name="law")
  (hY:∀(w:cn)(h:cX),YP w h->(K w.params).In h)
  (F:∀(w:cn)(mg:Str->Option aF)(h:cX),(K w.params).In h->h.Ns mainGlobals mg->Defs (K w.params) mg w.params/\eJ (K w.params) mg "law" "law" (top 63) ["_law_script"]):
  PySem.W.WalkO q loose XP YP l.row.toRowW d [] (λf vs=>PySem.call f vs):=
 L2.Px (k:=10) (sp:=λw=>OD (K w.params)) hn ⋯ XA #[rfl,⋯,⋯] hY (λw mg fa h X G Lb=>by
  obtain⟨D,L⟩:=F w mg h X G;obtain⟨f,fd,Fl,hm,hb⟩:=L.ex;rw[Sn]at Lb;rw[hm]at Lb;cases Lb;exact#[fd,λs v=>.of_eq (hb [v] rfl),λbase _ _=>ZT Fl D.all]) (λ_ _ a ns hl _ hS=>#[a,ns,rfl,hS,hl,λ_=>rfl]) λ_ _ _ _ _ z=>z
end Mg
end
namespace PySem.W.Fast
def tw10200126743962015257:=()
def tw10290979564613884622:=()
def tw10332336691418114901:=()
def tw1040419485305217599:=()
def tw10471496264702215602:=()
def tw1050738821914026234:=()
def tw10529845452476303440:=()
def tw10539780451930986504:=()
def tw10629604513117656063:=()
def tw10668763223269023541:=()
def tw1075124479518148808:=()
def tw10767821324284195090:=()
def tw10771840250913234286:=()
def tw10946185989589435319:=()
def tw10978663912109329419:=()
def tw11211308640350392674:=()
def tw11222020537591988339:=()
def tw11263388419170252852:=()
def tw11329846825087261034:=()
def tw11395806772526498057:=()
def tw11525062230456687122:=()
def tw11584831048156482771:=()
def tw11703430092730783530:=()
def tw11717274476915579875:=()
def tw11719613070859429259:=()
def tw11730134603713164675:=()
def tw11782483451910885829:=()
def tw11806369579873975151:=()
def tw11829276163922916358:=()
def tw11907582249607537894:=()
def tw11916726211168825223:=()
def tw11934086261565536517:=()
def tw11948589070028453134:=()
def tw11978880999344943726:=()
def tw12035106555029169789:=()
def tw12110125886313256875:=()
def tw12134951681795690781:=()
def tw12197417438083553617:=()
def tw12246638185754706310:=()
def tw12277691837030010903:=()
def tw12308265186795162923:=()
def tw123116877715103032:=()
def tw12338951370876225230:=()
def tw12352676052230538815:=()
def tw12500269239802148614:=()
def tw12526774638418377359:=()
def tw12563740844693289888:=()
def tw12604651791724099984:=()
def tw12634909651016903225:=()
def tw1263674159856570300:=()
def tw12712297625991686532:=()
def tw1273855466212082899:=()
def tw1278591803310733106:=()
def tw12859673061606698518:=()
def tw12863115683369715163:=()
def tw12886417047641903251:=()
def tw1292933607677012733:=()
def tw12986587267797838465:=()
def tw13096099822906744660:=()
def tw13225249821043821024:=()
def tw13270980477660728780:=()
def tw13275088563186061748:=()
def tw1333518993728176548:=()
def tw13354288510517301475:=()
def tw13511551447269860736:=()
def tw13534708038115445249:=()
def tw13535021501588390054:=()
def tw13630677237082030249:=()
def tw13632634352400139987:=()
def tw13648376826540510274:=()
def tw13649732075366292364:=()
def tw13695712002337534315:=()
def tw13699343427403998997:=()
def tw13705084067183391697:=()
def tw13783447879479272232:=()
def tw1379084177594401246:=()
def tw13977114842505772852:=()
def tw14039749099239287815:=()
def tw14087164867339353664:=()
def tw14181957983836457865:=()
def tw14241908112414659507:=()
def tw14283449944953037828:=()
def tw1433110330052542185:=()
def tw14352255296613269320:=()
def tw1436816057472487346:=()
def tw14373472614839724750:=()
def tw14414696046907274836:=()
def tw14419131247051435321:=()
def tw14440259721144886597:=()
def tw14485942769372660677:=()
def tw14578738503356567870:=()
def tw1469519320621935967:=()
def tw14732086058739987154:=()
def tw14737802844053069955:=()
def tw14821358625173080499:=()
def tw14998208057276498776:=()
def tw15079227917637896178:=()
def tw1508768915864286931:=()
def tw15112821208908878058:=()
def tw15206690782855063585:=()
def tw15247821380557889069:=()
def tw15278845004837803272:=()
def tw15342070049511735134:=()
def tw15343685297085189663:=()
def tw15372142052402726284:=()
def tw15373107922348686626:=()
def tw15398986903624273486:=()
def tw15401144347867426355:=()
def tw1542025825502519779:=()
def tw1547916690904884524:=()
def tw15495270576172223475:=()
def tw15580483552439959500:=()
def tw1573425653463071922:=()
def tw15759832272792472786:=()
def tw15770098397926351775:=()
def tw15870998135766114842:=()
def tw15922273487276519126:=()
def tw15940845437292216438:=()
def tw15966199744582157867:=()
def tw16003374021884328499:=()
def tw16186814106338194748:=()
def tw16204490589150406989:=()
def tw16232393360374935236:=()
def tw16421096493901078431:=()
def tw16452304330860626590:=()
def tw16474791424404607293:=()
def tw16486606717692487185:=()
def tw16508206336746254820:=()
def tw16520255049299464825:=()
def tw16525234373636961956:=()
def tw16625670630830255702:=()
def tw1664679942982231383:=()
def tw16649337032075490971:=()
def tw16712826245914737017:=()
def tw16739965279929197415:=()
def tw16818708180938326314:=()
def tw16845903302535393130:=()
def tw16855077601592281559:=()
def tw16855565517004633221:=()
def tw16919590862556904511:=()
def tw17115074153156319394:=()
def tw17119186925965903532:=()
def tw17137573344934403760:=()
def tw17139292713913884383:=()
def tw17203115749188976183:=()
def tw17265512779394713855:=()
def tw17443951785923615279:=()
def tw17519860025576125998:=()
def tw17579769555771752268:=()
def tw17611511811273785952:=()
def tw17634037941117876499:=()
def tw1763827028291476506:=()
def tw17675255766653174394:=()
def tw17782302861330082154:=()
def tw17804301020680110837:=()
def tw17805081671089569502:=()
def tw17809698432183695650:=()
def tw17830375201094451681:=()
def tw17870260179032605999:=()
def tw17882843405353528962:=()
def tw17962385973437582794:=()
def tw17976455636405749403:=()
def tw17985986941057574920:=()
def tw18047972575245748769:=()
def tw18106475192007925966:=()
def tw18107038064538320721:=()
def tw18154358237110550487:=()
def tw18257429830811259021:=()
def tw18300617524552286760:=()
def tw18316531061017888027:=()
def tw18373691424442344005:=()
def tw1893518390222637249:=()
def tw1925494867631218366:=()
def tw19305520606827704:=()
def tw1934398503513580367:=()
def tw1948915340346298910:=()
def tw1966848705753075901:=()
def tw1972102830696717114:=()
def tw200678856153681608:=()
def tw2038441174583330928:=()
def tw2046216335556050302:=()
def tw206332108265617482:=()
def tw2084508880189720744:=()
def tw2115660653878811293:=()
def tw2224210214534071109:=()
def tw2249940677994112467:=()
def tw2302624022261276900:=()
def tw2314412063538003112:=()
def tw23160366489893092:=()
def tw2353263967289333643:=()
def tw2498841278450243379:=()
def tw2499286087770886585:=()
def tw2557278409251044791:=()
def tw2567348545192372292:=()
def tw2577550791256627973:=()
def tw2583973227511786669:=()
def tw2652095342108841824:=()
def tw278384819035231910:=()
def tw2801338033303890095:=()
def tw2973490817667474171:=()
def tw3024520688965617759:=()
def tw303177089854762291:=()
def tw3053629620530075635:=()
def tw31120873546541546:=()
def tw3386598047060486698:=()
def tw3428194837356305500:=()
def tw3446095308261107524:=()
def tw3472373064880387826:=()
def tw3508821651642193688:=()
def tw3581109707463361659:=()
def tw3607703207612490643:=()
def tw3610756268558037196:=()
def tw3733076768583238322:=()
def tw3733174917938499615:=()
def tw3744352798564828421:=()
def tw3921462579005785883:=()
def tw3976680585324138668:=()
def tw4065613477052839970:=()
def tw4078577465956638931:=()
def tw4144938827083632309:=()
def tw4162534751979264458:=()
def tw4188752193271722029:=()
def tw4329991367879855554:=()
def tw4338847047439664705:=()
def tw4426315996198628128:=()
def tw4451786583363249354:=()
def tw4475750560183526018:=()
def tw4588815919459425763:=()
def tw4654156151661263239:=()
def tw4675436985234426630:=()
def tw4716978139109505114:=()
def tw4805814906547396864:=()
def tw4812633753966650689:=()
def tw4815500643664811683:=()
def tw4924656899845960389:=()
def tw4949379212330373079:=()
def tw5022119049429678659:=()
def tw5040998145156894878:=()
def tw5082153232697376571:=()
def tw5085244409203881638:=()
def tw5085367637972783168:=()
def tw5145424668066801375:=()
def tw5155786808751298725:=()
def tw5236347624623087569:=()
def tw5259993730470894765:=()
def tw5334689318238927830:=()
def tw5363662298141980790:=()
def tw5383743917401294305:=()
def tw5463328333209897082:=()
def tw5468420838090336653:=()
def tw5504521109140378472:=()
def tw5643548009104092491:=()
def tw5739288315722188075:=()
def tw5885960398283412145:=()
def tw5908086837242527364:=()
def tw5950541891899685768:=()
def tw5978161480820306980:=()
def tw5994003212130447778:=()
def tw5996135690453123317:=()
def tw602944014708695962:=()
def tw6046365440217142579:=()
def tw6072341042330561256:=()
def tw6133273419111894361:=()
def tw6150238351824412337:=()
def tw6315211249729045786:=()
def tw6339684075961116414:=()
def tw6353869941024409963:=()
def tw6360846013278481151:=()
def tw6460401704260762820:=()
def tw6486278819606399062:=()
def tw6494315159673861824:=()
def tw6497123507492940994:=()
def tw6555611178281198858:=()
def tw660541671755686731:=()
def tw66342917427194848:=()
def tw6657773705641152094:=()
def tw667926854853119665:=()
def tw6706653451825024582:=()
def tw6828956786692875366:=()
def tw6875851409813510182:=()
def tw6895733812878602925:=()
def tw689687296439930768:=()
def tw6929049779132219872:=()
def tw6952585547616331126:=()
def tw6979203817734163889:=()
def tw6989946257975816095:=()
def tw701795689746706012:=()
def tw7029631060415091900:=()
def tw703661564330378005:=()
def tw7126324087610181467:=()
def tw7138951146891748382:=()
def tw7568861374820570226:=()
def tw7586601396800443284:=()
def tw7606968034414136623:=()
def tw762086242941371158:=()
def tw7893445265615329412:=()
def tw7898736642256419597:=()
def tw8004638759635708882:=()
def tw8029722392874317249:=()
def tw8155119008170805534:=()
def tw8297124402905632427:=()
def tw8396614877788686585:=()
def tw841463626334228634:=()
def tw8500360665040871202:=()
def tw8577339616234637898:=()
def tw8654732874294371580:=()
def tw8660611026160308506:=()
def tw8687633069406385177:=()
def tw875581036647523229:=()
def tw8763767655929637886:=()
def tw8793351801948296944:=()
def tw8856914406624301405:=()
def tw8914589171492397605:=()
def tw8969835642111987637:=()
def tw907479379881888409:=()
def tw9176525267739665945:=()
def tw9203474612805991063:=()
def tw9206401219852158495:=()
def tw9321376176876267283:=()
def tw932794429783794507:=()
def tw9376873035111590348:=()
def tw9525933499432689548:=()
def tw9671612035251795265:=()
def tw9687493911337464322:=()
def tw9690344428227367371:=()
def tw9757402702509820703:=()
def tw9778645859107293554:=()
def tw9831898697867715728:=()
def tw987103162735371757:=()
def tw9871321203160760905:=()
def tw9881101032621033124:=()
def tw9890579840917053537:=()
def tw9900634702912058203:=()
def tw990152226940191826:=()
def tw9939099259257455135:=()
def tw9994006315820945198:=()
end PySem.W.Fast
open PySem PySem.W PyProof.Rows
theorem PySem.Challenge.cw_mergeline_k54_waits_holds : PySem.Challenge.rw_mergeline_k54_waits.Holds := by
 w_on;o_law;k_head;(case hw=>w_witness2)
 k_fill
 refine Mg.walk (l:=PySem.Challenge.rw_mergeline_k54_waits) rfl rfl rfl (λw h Y=>PySem.W.kIn_of Y) ?F
 case F=>
  intro w mg h KX G;refine⟨⟨⟨⟨⟨?n1,?n2,?n3,?n4,?n5,?n6,?n7,?n8,?n9,?n10,?n11,?n12⟩,?n13,?n14⟩,?y1,?y2,?y3,?ymp,?yfo,?yru⟩,⟨?w1,?w2,?w3,?xa,?xb,?xc,?xd⟩,⟨?t0,?t1,?t2,?t3,?t4,?t5,?t6,?t7,?t8,?t9,?t10,?t11⟩,?ypl,?md,?d0,?d1,?d2,?d3,?d4,?d5,?d6,?d7,?d8,?d9,?d10,?d11,?d12,?d13,?d14,?d15,?d16,?d17,?d18,?d19,?d20,?d21,?d22,?d23,?d24,?d25,?d26,?d27,?d28,?d29,?d30,?d31,?d32,?d33,?d34,?d35,?d36,?d37,?d38,?d39,?d40,?d41,?d42,?d43,?d44,?d45,?d46⟩,?law⟩
  case n1|n2|n3|n4|n5|n6|n7|n8|n9|n10|n11|n12|n13|n14|y1|y2|y3|w1|w2|w3|md=>exact PySem.W.mg_none_of KX G (by k_is)
  case ymp|xa|xb|xc|xd=>exact⟨_,oS KX G (by k_is)⟩
  case yfo=>refine⟨_,oS KX G (by k_is),Mg.Tr (by decide) (by symm) (by k_is) (.cons rfl (Mg.lH (by k_is) (by decide) (.cons ⟨_,rfl⟩ (.cons ⟨_,rfl⟩ .nil))) (.cons rfl (Mg.lH (by k_is) (by decide) (.cons ⟨_,rfl⟩ .nil)) (.cons rfl (Mg.lH (by k_is) (by decide) (.cons ⟨_,rfl⟩ (.cons ⟨_,rfl⟩ .nil))) (.cons rfl (Mg.lH (by k_is) (by decide) (.cons ⟨_,rfl⟩ (.cons ⟨_,rfl⟩ (.cons ⟨_,rfl⟩ .nil)))) (.cons rfl (Mg.lH (by k_is) (by decide) (.cons ⟨_,rfl⟩ (.cons ⟨_,rfl⟩ (.cons ⟨_,rfl⟩ .nil)))) (.cons rfl (Mg.lH (by k_is) (by decide) (.cons ⟨_,rfl⟩ (.cons ⟨_,rfl⟩ (.cons ⟨_,rfl⟩ (.cons ⟨_,rfl⟩ .nil))))) .nil))))))⟩
  case yru=>refine⟨_,oS KX G (by k_is),Mg.Tr (by decide) (by symm) (by k_is) (.cons rfl (Mg.lH (by k_is) (by decide) .nil) (.cons rfl (Mg.lH (by k_is) (by decide) (.cons ⟨_,rfl⟩ .nil)) (.cons rfl (Mg.lH (by k_is) (by decide) (.cons ⟨_,rfl⟩ .nil)) (.cons rfl (Mg.lH (by k_is) (by decide) (.cons ⟨_,rfl⟩ (.cons ⟨_,rfl⟩ .nil))) (.cons rfl (Mg.lH (by k_is) (by decide) .nil) .nil)))))⟩
  case t0|t1|t2|t3|t4|t5|t6|t7|t8|t9|t10|t11=>kit_is
  case ypl=>refine' Mg.ZS KX G ?aC ?a1 ?i1 ?l ?c ?k ?pg ?hd ?po ?sa ?mk ?kc ?z1 ?z2 ?z3 ?z4 ?z5 ?z6 ?z7;(case aC|a1|i1|l|c|k|pg|hd|po|sa|mk|kc|z1|z2|z3|z4|z5|z6|z7=>k_is)
  case d1|d2|d3|d4|d6|d10|d11|d13|d32|d33|d34|d35|d43|law=>refine' Mg.Ab KX G (λ_ _ _ _ _ _ us hl=>match us,hl with | [_],_=>rfl) ?a ?l ?c ?k;(case a|l|c|k=>k_is)
  case d5|d7|d8|d9|d12|d14|d15|d16|d17|d18|d19|d20|d21|d23|d25|d26|d27|d28|d29|d30|d36|d41|d46=>refine' Mg.Ab KX G (λ_ _ _ _ _ _ us hl=>match us,hl with | [_,_],_=>rfl) ?a ?l ?c ?k;(case a|l|c|k=>k_is)
  case d0|d22|d24|d31|d37|d39|d44=>refine' Mg.Ab KX G (λ_ _ _ _ _ _ us hl=>match us,hl with | [_,_,_],_=>rfl) ?a ?l ?c ?k;(case a|l|c|k=>k_is)
  case d42|d45=>refine' Mg.Ab KX G (λ_ _ _ _ _ _ us hl=>match us,hl with | [_,_,_,_],_=>rfl) ?a ?l ?c ?k;(case a|l|c|k=>k_is)
  case d38|d40=>refine' Mg.Ab KX G (λ_ _ _ _ _ _ us hl=>match us,hl with | [_,_,_,_,_],_=>rfl) ?a ?l ?c ?k;(case a|l|c|k=>k_is)
