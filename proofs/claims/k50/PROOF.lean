import PyProof.Rows.All
import KE.KFromBytes
import KE.KSortTup
import KE.KIsAll
import PyProof.InstStoreFacts
import PyProof.InstSpecial
import PyProof.FString
import OpenK.KCls
import PyProof.TupleKey
import PyProof.Rows.TupTab
import PyProof.FactsAll.NoneType
import PyProof.DictRoadsH
import PyProof.Rows.TupDisplay
import KE.KDictList
import PyProof.AttrMiss
import KE.KDictOf
import KE.KIntText
import PyProof.NeData
import PySem.Challenge.RW_throwruns_k50_shares_of_who_first
set_option Elab.async false
set_option linter.all false
set_option genSizeOf false
set_option genSizeOfSpec false
set_option genInjectivity false
set_option maxRecDepth 100000
set_option maxHeartbeats 0
def DV.nf{P:Prop}(h:false=true):P:=absurd h Bool.false_ne_true
open List (mem_filter mem_range filterMap_cons mem_cons_self mem_cons_of_mem mem_cons mem_append mem_append_left getElem?_set_self getElem?_set_ne mem_filterMap mem_append_right append_nil nodup_cons of_mem_zip replicate length getElem?_append_right getElem?_append_left getElem?_map mem_of_getElem? length_append length_map size_toArray filterMap_map all_cons any_cons replicate_succ flatten_cons foldl append_assoc foldl_cons map_nil map_cons find?_cons map_append nodup_append mem_singleton mem_map map_map map_congr_left sublist_cons_self eraseIdx_sublist nil_append perm_append_comm sublist_append_right cons_append ext_getElem? length_cons filterMap drop_length perm_middle zip_cons_cons lookup_cons forIn_cons forIn_nil all_eq_true mem_nil_iff take_add_one getElem?_eq_getElem sum_append take_length range_succ reverse_cons zipWith length_nil not_mem_nil getElem_mem isEmpty_iff set_set range' sum_cons getD_eq_getElem?_getD getElem?_range getElem_range length_range getElem?_eq_none)
open Nat (lt_of_lt_of_le lt_irrefl ne_of_lt le_trans le_of_lt ne_of_gt le_refl zero_le succ_mul mul_comm lt_trans lt_succ_of_lt not_lt le_succ le_add_right zero_add gcd_dvd_left gcd_dvd_right mul_pos gcd_comm gcd_rec mod_lt pow_succ pow_le_pow_right sub_zero sub_self pow_add mul_le_mul one_le_two_pow pow_le_pow_left div_le_self lt_of_le_of_lt le_of_dvd pow_pos add_mul mul_assoc mul_add le_add_left)
open PySem.W (clsIn typeIn findIn specialIn takesIn nsIn codeIn keepIn fnOf excIn methodObj hideAll hideAll_get of_hideAll cellsFrom_some kitOne kia_one mg_of)
open PySem.Heap (lt_size get?_push_of_some get?_push_size size_push)
noncomputable section
def qA:=@PySem.Heap.get?_push_of_some
def qB:=@PySem.wpAny_bind
def qC:=@PySem.wpAny_pure
def qE:=@List.mem_cons_self
def qF:=@Bool.false_ne_true
def qG:=@List.getElem?_eq_some_iff
def qJ:=@Option.some.inj
def qK:=@List.mem_append_right
abbrev qH:=PySem.W.Frag
namespace L2
open PySem
def Jv(s:Stmt):Arguments:=match s with
 | .FunctionDef _ a _ _ _ _ _ _ _ _=>a|_=>{posonlyargs:=[],args:=[],vararg:=none,kwonlyargs:=[],kw_defaults:=[],kwarg:=none,defaults:=[]}
def jR(s:Stmt):List Stmt:=match s with
 | .FunctionDef _ _ b _ _ _ _ _ _ _=>b|_=>[]
def zn(s:Stmt):Scope:=match s with
 | .FunctionDef _ _ _ _ _ _ sc _ _ _=>sc|_=>{kind:=.function,names:=[],isGenerator:=false,isCoroutine:=false}
end L2
namespace DV
open PySem L2
abbrev VB:List Value:=[.type "ValueError",.type "Exception",.type "BaseException",.type "object"]
def xIn(K:qH)(c:Str)(C T:Addr):Bool:=(match clsIn K C with|some cd=>cd.name==c&&cd.mro==[.ref C,.ref T,.type "ValueError",.type "Exception",.type "BaseException",.type "object"]|none=>false)
 && typeIn K (.ref C)==some (.type "type")&&findIn K (.ref C) "__getattribute__" == some (some (.builtin "BaseException.__getattribute__"))&&findIn K (.ref C) "__getattr__" == some none
 && findIn K (.ref C) "__class__" == some (some (.builtin "object.__class__"))&&specialIn K (.builtin "object.__class__") "__get__" == some (some (.builtin "getset_descriptor.__get__"))&&takesIn K (.builtin "object.__class__")==some true&&!(C==T)
def tIn(K:qH)(T:Addr):Bool:=(match clsIn K T with|some cd=>cd.mro==(.ref T::VB)|none=>false)&&typeIn K (.ref T)==some (.type "type")
def isFr:Obj->Bool
 |⟨_,_,.freed,_⟩=>true|_=>false
def GL:List Obj->Nat->List Addr->qH
 | [],_,_=>[]|_::_,_,[]=>[]
 |o::os,i,a::as=>match Nat.beq i a with
  |true=>(match isFr o with
   |true=>GL os (i+1) as|false=>(i,o)::GL os (i+1) as)
  |false=>GL os (i+1) (a::as)
def J8(h:Heap)(as:List Addr):qH:=GL h.objs.toList 0 as
def FvT:Type:=Bool×Str×Str×Arguments×FuncBody×Scope×Addr×List (Str×Addr)×Value×Addr
def fvOf(b:Bool)(fd:FuncData):FvT:=(b,fd.name,fd.qualname,fd.params,fd.body,fd.scope,fd.globals,fd.closure,fd.defaults,fd.builtins)
def yC(K:qH)(n:Str):Option FvT:=match nsIn K mainGlobals n with
 |some (some (.ref a))=>(match K.lookup a with
  |some ⟨_,_,.func fd,_⟩=>some (fvOf (codeIn K fd.code n&&keepIn K (.ref a)) fd)|_=>none)
 |_=>none
def yF(n:Str)(st:Stmt):Option FvT:=some (fvOf true (fnOf n n (Jv st) (jR st) (zn st) .none .none .none .none none .none .none))
def ZJ(K:qH)(n:Str):Option Int:=match nsIn K mainGlobals n with
 |some (some (.int i _))=>some i|_=>none
def zAL(K:qH)(n:Str)(i j:Int):Bool:=match nsIn K mainGlobals n with
 |some (some (.ref a))=>(match K.lookup a with
  |some ⟨.type t,_,.seq its _,_⟩=>t == "tuple"&&(match its.toList with
   | [.int x _,.int y _]=>x==i&&y==j|_=>false)
  |_=>false)
 |_=>false
def zBq(K:qH)(n:Str)(j:Int):Bool:=match nsIn K mainGlobals n with
 |some (some (.ref a))=>(match K.lookup a with
  |some ⟨.type t,_,.seq its _,_⟩=>t == "tuple"&&(match its.toList with
   | [.none,.int y _]=>y==j|_=>false)
  |_=>false)
 |_=>false
def jN(K:qH)(n:Str):Bool:=match nsIn K mainGlobals n with
 |some none=>true|_=>false
def Jf(K:qH)(n:Str):Option Addr:=match nsIn K mainGlobals n with
 |some (some (.ref a))=>some a|_=>none
def zBr(K:qH):Bool:=match K.lookup sysModules with
 |some o=>(match o.data with | .dict _ _=>true|_=>false)
 |none=>false
def zFo(K:qH)(cl rs:List Str):Bool :=
 (cl.isEmpty||(match Jf K "ThrowError" with
  |some T=>tIn K T&&cl.all λc=>(match Jf K c with|some C=>xIn K c C T|none=>false)
  |none=>false)) &&
 (rs.all λc=>(match Jf K c with|some C=>excIn K C VB "ValueError.__new__" |none=>false))&&zBr K
end DV
namespace My
open PySem L2 DV
def top(i:Nat):Stmt:=PySem.Challenge.pw_throwruns_k50_shares_of_who_first.main.body.getD i (.Pass ⟨0,0,0,0⟩)
abbrev vX:Stmt:=top 8
abbrev wB:Stmt:=top 9
abbrev jt:Stmt:=top 10
abbrev ZK:Stmt:=top 11
abbrev vY:Stmt:=top 12
abbrev ZL:Stmt:=top 13
abbrev ZM:Stmt:=top 14
abbrev J9:Stmt:=top 15
abbrev vZ:Stmt:=top 16
abbrev YA:Stmt:=top 17
abbrev WC:Stmt:=top 18
abbrev va:Stmt:=top 24
abbrev vb:Stmt:=top 25
abbrev YB:Stmt:=top 26
abbrev WD:Stmt:=top 27
abbrev Jg:Stmt:=top 30
abbrev ZN:Stmt:=top 32
abbrev ZO:Stmt:=top 31
abbrev ZP:Stmt:=top 36
abbrev ZQ:Stmt:=top 37
abbrev YC:Stmt:=top 38
abbrev Jh:Stmt:=top 39
abbrev YD:Stmt:=top 41
abbrev YE:Stmt:=top 40
abbrev ZR:Stmt:=top 42
abbrev YF:Stmt:=top 43
abbrev Ji:Stmt:=top 45
abbrev WE:Stmt:=top 46
abbrev YG:Stmt:=top 47
abbrev WF:Stmt:=top 48
abbrev ZT:Stmt:=top 49
abbrev vc:Stmt:=top 50
abbrev ZU:Stmt:=top 51
abbrev YH:Stmt:=top 52
abbrev wz:Stmt:=top 53
abbrev YI:Stmt:=top 54
abbrev YJ:Stmt:=top 55
abbrev YK:Stmt:=top 56
abbrev WG:Stmt:=top 57
abbrev s_law:Stmt:=top 58
def cl_:List Str:=[]
def rs_:List Str:=[]
def lkT:Type:=List (Option FvT)×List (Option Int)×List Bool×Bool
def WH(K:qH):lkT:=([yC K "is_whole",yC K "is_whole_within",yC K "greatest_divisor",yC K "share_good",yC K "share_of",yC K "share_plus",yC K "share_less",yC K "share_times",yC K "share_by",yC K "share_power",yC K "share_sum",yC K "die_good",yC K "need_die",yC K "need_number",yC K "need_sign",yC K "need_awaited",yC K "waits_list",yC K "mean_first",yC K "match_good",yC K "need_match",yC K "stands_list",yC K "stand_behind",yC K "share_paper",yC K "first_share",yC K "paper_good",yC K "mean_throws",yC K "_law_cell_at",yC K "_law_next",yC K "_law_pen_of",yC K "_law_draw",yC K "_law_share",yC K "_law_add",yC K "_law_times",yC K "_law_die_by",yC K "_law_match_by",yC K "_law_stands",yC K "_law_behind",yC K "_law_values",yC K "_law_bent",yC K "law"],[ZJ K "LEAST_SIGNS",ZJ K "LEAST_WEIGHT",ZJ K "MOST_AWAITED",ZJ K "MOST_MATCHED",ZJ K "MOST_SIGNS",ZJ K "MOST_WEIGHT"],[jN K "abs",jN K "all",jN K "bool",jN K "dict",jN K "enumerate",jN K "int",jN K "isinstance",jN K "len",jN K "list",jN K "max",jN K "range",jN K "repr",jN K "sum",jN K "tuple",jN K "zip",zAL K "ALL" 1 1,zAL K "NOTHING" 0 1,zBq K "NO_STAND" 0],zFo K cl_ rs_)
def wants:lkT:=([yF "is_whole" vX,yF "is_whole_within" wB,yF "greatest_divisor" jt,yF "share_good" ZK,yF "share_of" vY,yF "share_plus" ZL,yF "share_less" ZM,yF "share_times" J9,yF "share_by" vZ,yF "share_power" YA,yF "share_sum" WC,yF "die_good" va,yF "need_die" vb,yF "need_number" YB,yF "need_sign" WD,yF "need_awaited" Jg,yF "waits_list" ZN,yF "mean_first" ZO,yF "match_good" ZP,yF "need_match" ZQ,yF "stands_list" YC,yF "stand_behind" Jh,yF "share_paper" YD,yF "first_share" YE,yF "paper_good" ZR,yF "mean_throws" YF,yF "_law_cell_at" Ji,yF "_law_next" WE,yF "_law_pen_of" YG,yF "_law_draw" WF,yF "_law_share" ZT,yF "_law_add" vc,yF "_law_times" ZU,yF "_law_die_by" YH,yF "_law_match_by" wz,yF "_law_stands" YI,yF "_law_behind" YJ,yF "_law_values" YK,yF "_law_bent" WG,yF "law" s_law],[some 2,some 1,some 8,some 6,some 3,some 9],[true,true,true,true,true,true,true,true,true,true,true,true,true,true,true,true,true,true],true)
def q0:Program:=PySem.Challenge.pw_throwruns_k50_shares_of_who_first
def isLaw:Stmt->Bool
 | .FunctionDef f ..=>f == "law"|_=>false
def qP:Program:={q0 with main:={q0.main with body:=q0.main.body.filter isLaw}}
def nameOf:Stmt->List Str
 | .FunctionDef f ..=>[f]| .ClassDef f ..=>[f]| .Assign [.Name x _] _ _=>[x]|_=>[]
def ls:List Str:=(q0.main.body.flatMap nameOf).filter (· != "law")
def as:List Addr:=[1,2,3,15,22,23,24,25,28,35,36,37,40,47,48,49,52,59,60,61,64,65,66,68,69,71,72,73,75,76,78,79,80,82,83,85,86,87,89,90,92,93,94,96,97,99,100,101,103,104,106,107,108,110,111,113,114,115,117,118,120,121,122,124,125,127,128,129,131,132,134,135,136,138,139,141,142,143,146,147,148,150,151,153,154,155,157,158,160,161,162,164,165,167,168,169,171,172,174,175,176,178,179,181,182,183,186,187,188,189,192,193,194,196,197,199,200,201,204,205,206,208,209,211,212,213,215,216,218,219,220,223,224,225,228,229,230,232,233,235,236,237,239,240,242,243,244,246,247,249,250,251,253,254,256,257,258,260,261,263,264,265,267,268,270,271,272,274,275,277,278,279,281,282,284,285,286,289,290,291,293,294,296,297,298,301,302,303,305,306,308,309,310,313,314,315,317,318,320,321,322,325,326]
end My
section
open PySem PySem.W PyProof.Rows
theorem My.hz:OpenLaw.wellSaid PySem.Challenge.rw_throwruns_k50_shares_of_who_first=true:=by decide +kernel
theorem My.h2{α β γ:Type}{o:Option α}{f:α->β}{g:α->γ}{b:β}{c:γ}(h1:o.map f=some b)(h2:o.map g=some c):o.map (λs=>(f s,g s))=some (b,c):=by
 cases o with
 |none=>cases h1|some s=>cases h1;cases h2;rfl
theorem My.hu:∀(w:World) (os:OsState),(topFrom treeTable (OpenLaw.row PySem.Challenge.rw_throwruns_k50_shares_of_who_first).toRowW.prog w 4440 ⟨boot_heap w.params,#[],boot_drawn,boot_toks,os⟩).map (λs=>openSeen My.qP My.ls (importedModules (OpenLaw.row PySem.Challenge.rw_throwruns_k50_shares_of_who_first).toRowW.prog.main.body) (λs=>xlAt My.qP [] s&&recOk (RowW.records (OpenLaw.row PySem.Challenge.rw_throwruns_k50_shares_of_who_first).toRowW) s) true s)=some (openGood My.qP My.ls):=by
 intro w os
 kernel_rfl
theorem My.h4{α γ:Type}{o:Option α}{g:α->List γ}{w:List γ}(n:Nat)(ha:o.map (λs=>(g s).take n)=some (w.take n))(hb:o.map (λs=>(g s).drop n)=some (w.drop n)):o.map g=some w:=by
 cases o with
 |none=>cases ha|some s=>exact congrArg some ((List.take_append_drop n (g s)).symm.trans ((congr (congrArg HAppend.hAppend (qJ ha)) (qJ hb)).trans (List.take_append_drop n w)))
theorem My.h5{α γ δ:Type}{o:Option α}{g:α->γ×δ}{w:γ×δ}(ha:o.map (λs=>(g s).1)=some w.1)(hc:o.map (λs=>(g s).2)=some w.2):o.map g=some w:=by
 cases o with
 |none=>cases ha|some s=>exact congrArg some (Prod.ext (qJ ha) (qJ hc))
theorem My.hv0:∀(w:World) (os:OsState),(topFrom treeTable (OpenLaw.row PySem.Challenge.rw_throwruns_k50_shares_of_who_first).toRowW.prog w 4440 ⟨boot_heap w.params,#[],boot_drawn,boot_toks,os⟩).map (λs=>((My.WH (DV.J8 s.heap My.as)).1.take 20))=some (My.wants.1.take 20):=by
 intro w os
 kernel_rfl
theorem My.hv1:∀(w:World) (os:OsState),(topFrom treeTable (OpenLaw.row PySem.Challenge.rw_throwruns_k50_shares_of_who_first).toRowW.prog w 4440 ⟨boot_heap w.params,#[],boot_drawn,boot_toks,os⟩).map (λs=>((My.WH (DV.J8 s.heap My.as)).1.drop 20))=some (My.wants.1.drop 20):=by
 intro w os
 kernel_rfl
theorem My.hvc:∀(w:World) (os:OsState),(topFrom treeTable (OpenLaw.row PySem.Challenge.rw_throwruns_k50_shares_of_who_first).toRowW.prog w 4440 ⟨boot_heap w.params,#[],boot_drawn,boot_toks,os⟩).map (λs=>(My.WH (DV.J8 s.heap My.as)).2)=some My.wants.2:=by
 intro w os
 kernel_rfl
theorem My.hv(w:World)(os:OsState):(topFrom treeTable (OpenLaw.row PySem.Challenge.rw_throwruns_k50_shares_of_who_first).toRowW.prog w 4440 ⟨boot_heap w.params,#[],boot_drawn,boot_toks,os⟩).map (λs=>My.WH (DV.J8 s.heap My.as))=some My.wants:=My.h5 (My.h4 20 (My.hv0 w os) (My.hv1 w os)) (My.hvc w os)
theorem My.ht:∀(w:World) (os:OsState),(topFrom treeTable (OpenLaw.row PySem.Challenge.rw_throwruns_k50_shares_of_who_first).toRowW.prog w 4440 ⟨boot_heap w.params,#[],boot_drawn,boot_toks,os⟩).map (λs=>(openSeen My.qP My.ls (importedModules (OpenLaw.row PySem.Challenge.rw_throwruns_k50_shares_of_who_first).toRowW.prog.main.body) (λs=>xlAt My.qP [] s&&recOk (RowW.records (OpenLaw.row PySem.Challenge.rw_throwruns_k50_shares_of_who_first).toRowW) s) true s,My.WH (DV.J8 s.heap My.as)))=some (openGood My.qP My.ls,My.wants):=λw os=>My.h2 (My.hu w os) (My.hv w os)
theorem My.ho:opening (OpenLaw.row PySem.Challenge.rw_throwruns_k50_shares_of_who_first).toRowW.prog=plainProg (OpenLaw.row PySem.Challenge.rw_throwruns_k50_shares_of_who_first).toRowW.prog.main.scope.names:=by kernel_rfl
theorem My.hf:∀s,fenceModules? (OpenLaw.row PySem.Challenge.rw_throwruns_k50_shares_of_who_first).toRowW.prog s=some s:=by
 intro s
 kernel_rfl
theorem My.hl:LeftO (OpenLaw.row PySem.Challenge.rw_throwruns_k50_shares_of_who_first).toRowW.prog My.qP My.ls (λs=>xlAt My.qP [] s&&recOk (RowW.records (OpenLaw.row PySem.Challenge.rw_throwruns_k50_shares_of_who_first).toRowW) s) (λs=>My.WH (DV.J8 s.heap My.as)) (λ_=>My.wants) 4440:=by
 intro w;obtain⟨s,hs,hv⟩:=Option.map_eq_some_iff.mp (boot_open My.ho (N:=4440) rfl My.hf w);unfold openEnds;rw[hs];obtain⟨h,g,d,t,os⟩:=s;have h1:h=boot_heap w.params:=congrArg Prod.fst hv;have h2:g=#[]:=congrArg (λx=>x.2.1) hv;have h3:d=boot_drawn:=congrArg (λx=>x.2.2.1) hv;have h4:t=boot_toks:=congrArg (λx=>x.2.2.2) hv;subst h1;subst h2;subst h3;subst h4;exact My.ht w os
end
namespace L2
open PySem PySem.Spec PyProof.Rows
abbrev Key:=Sum Int Str
def keyIs:Key->Value->Bool
 | .inl k,v=>Value.isInt k v| .inr x,v=>Value.isStrOf x v
def keyH(w:World):Key->Int
 | .inl k=>hashInt k| .inr x=>hashStr w x
def yR:∀{k:Key} {v:Value},keyIs k v=true->(∃i t,k=Sum.inl i/\v=Value.int i t)\/(∃x t,k=Sum.inr x/\v=Value.str x t)
 | .inl i,v,h=>by
  obtain⟨t,e⟩:=Value.isInt_shape (k:=i) (v:=v) h;exact .inl ⟨i,t,rfl,e⟩
 | .inr x,v,h=>by
  obtain⟨t,e⟩:=Value.isStrOf_shape (x:=x) (v:=v) h;exact .inr ⟨x,t,rfl,e⟩
def key_ll(a b:Int):decide ((Sum.inl a:Key)=Sum.inl b)=(a==b):=by
 by_cases e:a=b
 ·subst e;simp
 ·have h:¬(Sum.inl a:Key)=Sum.inl b:=λq=>e (Sum.inl.inj q)
  rw[decide_eq_false h];exact(beq_eq_false_iff_ne.mpr e).symm
def key_rr(a b:Str):decide ((Sum.inr a:Key)=Sum.inr b)=decide (a=b):=by
 by_cases e:a=b
 ·subst e;simp
 ·have h:¬(Sum.inr a:Key)=Sum.inr b:=λq=>e (Sum.inr.inj q)
  rw[decide_eq_false h,decide_eq_false e]
def key_lr(a:Int)(b:Str):decide ((Sum.inl a:Key)=Sum.inr b)=false:=decide_eq_false (λq=>nomatch q)
def key_rl(a:Str)(b:Int):decide ((Sum.inr a:Key)=Sum.inl b)=false:=decide_eq_false (λq=>nomatch q)
def QP(prog:Program)(w:World):PySem.KeyKind prog w Key where
 is:=keyIs
 hash:=keyH w
 inj:=λv a b ha hb=>by
  rcases yR ha with⟨i,t,rfl,rfl⟩|⟨x,t,rfl,rfl⟩
  ·rcases yR hb with⟨j,u,rfl,e⟩|⟨y,u,rfl,e⟩
   ·injection e with e1 _;rw[e1]
   ·exact nomatch e
  ·rcases yR hb with⟨j,u,rfl,e⟩|⟨y,u,rfl,e⟩
   ·exact nomatch e
   ·injection e with e1 _;rw[e1]
 byValue:=λk v h=>by
  rcases yR h with⟨i,t,rfl,rfl⟩|⟨x,t,rfl,rfl⟩<;>rfl
 pyHash:=λhv h=>by
  rcases yR hv with⟨i,t,rfl,rfl⟩|⟨x,t,rfl,rfl⟩
  ·exact wpAny_pyHash_int h
  ·exact wpAny_pyHash_str h
 eqBool:=λhu hv h=>by
  rcases yR hu with⟨i,t,rfl,rfl⟩|⟨x,t,rfl,rfl⟩
  ·rcases yR hv with⟨j,u,rfl,rfl⟩|⟨y,u,rfl,rfl⟩
   ·rw[key_ll]at h;exact wpAny_eqBool_int h
   ·rw[key_lr]at h;exact SeqAt.EqAt.int_str i t y u _ _ _ _ h
  ·rcases yR hv with⟨j,u,rfl,rfl⟩|⟨y,u,rfl,rfl⟩
   ·rw[key_rl]at h;exact SeqAt.EqAt.str_int x t j u _ _ _ _ h
   ·rw[key_rr]at h;exact wpAny_eqBool_str h
 «strs»:=λk x t v h=>by
  rcases yR h with⟨i,u,rfl,e⟩|⟨y,u,rfl,e⟩
  ·exact nomatch e
  ·injection e with e1 _
   subst e1;cases v<;>rfl
set_option genInjectivity true in
inductive V where
 |non|bl (b:Bool)|int (i:Int)|str (x:Str)|byt (b:Array UInt8)|flt (b:UInt64)|ref (a:Addr)|ty (n:String)
 deriving DecidableEq
def yp:V->Value->Prop
 | .non,u=>u=Value.none| .bl b,u=>u=Value.bool b| .int i,u=>∃t,u=Value.int i t| .str x,u=>∃t,u=Value.str x t| .byt b,u=>∃t,u=Value.bytes b t| .flt b,u=>∃t,u=Value.float b t| .ref a,u=>u=Value.ref a| .ty n,u=>u=Value.type n
abbrev yW:List V->List Value->Prop:=Paired yp
theorem yW.length{xs:List V}{us:List Value}(r:yW xs us):xs.length=us.length:=Paired.length r
theorem yW.get:∀{xs:List V} {us:List Value} {i:Nat} {x:V},yW xs us->xs[i]?=some x->∃u,us[i]?=some u/\yp x u
 |_,_,_,_,.nil,e=>by simp at e|_,_,0,_,.cons r _,e=>by simp at e;subst e;exact⟨_,rfl,r⟩
 |_,_,i+1,x,.cons _ t,e=>by
  obtain⟨u,h1,h2⟩:=yW.get (i:=i) (x:=x) t (by simpa using e);exact⟨u,by simpa using h1,h2⟩
theorem yW.set(r:yp x u):∀{xs:List V} {us:List Value} (i:Nat),yW xs us->yW (xs.set i x) (us.set i u)
 |_,_,_,.nil=>.nil|_,_,0,.cons _ t=>.cons r t|_,_,i+1,.cons q t=>.cons q (yW.set r i t)
theorem yW.append:∀{xs ys:List V} {us ws:List Value},yW xs us->yW ys ws->yW (xs++ys) (us++ws)
 |_,_,_,_,.nil,s=>s|_,_,_,_,.cons r t,s=>.cons r (yW.append t s)
theorem yW.take:∀{xs:List V} {us:List Value} (n:Nat),yW xs us->yW (xs.take n) (us.take n)
 |_,_,0,_=>.nil|_,_,_+1,.nil=>.nil|_,_,n+1,.cons r t=>.cons r (yW.take n t)
theorem yW.drop:∀{xs:List V} {us:List Value} (n:Nat),yW xs us->yW (xs.drop n) (us.drop n)
 |_,_,0,r=>r|_,_,_+1,.nil=>.nil|_,_,n+1,.cons _ t=>yW.drop n t
def RelO:Option V->Option Value->Prop
 |some v,some u=>yp v u|none,none=>True|_,_=>False
def KV{κ:Type}:List (κ×V)->List (κ×Value)->Prop:=Paired λ(p:κ×V) (q:κ×Value)=>p.1=q.1/\yp p.2 q.2
def kV:Key->V
 | .inl i=>.int i| .inr x=>.str x
inductive HO where
 /-- a list -/
 |l (xs:List V)
 /-- a tuple (never changes) -/
 |t (xs:List V)
 /-- a dict whose keys are ints and texts; one whose keys are tuples of ints and texts (the empty one is both) -/
 |dK (kvs:List (Key×V))|dT (kvs:List (List Key×V))
 /-- a set of ints: its members,its size -/
 |set (S:Int->Bool) (n:Nat)
 /-- an instance of the class at C,its dict at dx,its attributes -/
 |ins (C dx:Addr) (fs:List (Str×V))
 /-- the dict of the instance at x -/
 |own (x:Addr)
 /-- the dict of an exception -/
 |xd (fs:List (Str×V))
 /-- a bound method,f of x -/
 |met (f x:Addr)
 /-- a range object lo,lo+1,.. below hi -/
 |rng (lo hi:Int)
 /-- a thing that is known to the object (the script; a dict while a loop walks it): read,never written while it is so -/
 |frz (o:Obj) (u:HO)
 /-- a code object's table -/
 |tbl (ps:Array Value)
 /-- any other thing,by what is true of its one object (a def of one's own: SetO a S n:=HO.ext fun h=>..) -/
 |ext (φ:Heap->Prop)
 |dN (φ:Heap->Prop)
abbrev Hp:=Addr->Option HO
def upd(H:Hp)(a:Addr)(o:HO):Hp:=λb=>if b=a then some o else H b
def yq{H:Hp}{a:Addr}{o:HO}:upd H a o a=some o:=by unfold upd;rw[if_pos rfl]
def zr{H:Hp}{a b:Addr}{o:HO}(h:b≠a):upd H a o b=H b:=by unfold upd;rw[if_neg h]
def wC{H:Hp}{a b:Addr}{o:HO}(h:H a=some o)(h':H b=none):a≠b:=by
 intro e;subst e;rw[h]at h';cases h'
section
variable(P:Program)(w:World)
def jz(H:Hp)(h:Heap)(a:Addr):HO->Prop
 | .l xs=>xs.length<=sizeLine/\∃(its:List Value) (n:Nat),yW xs its/\h.get? a=some {cls:=.type "list",data:=.seq its.toArray n}| .t xs=>xs.length<=sizeLine/\∃its:List Value,yW xs its/\IsTup h a its.toArray| .dK kvs=>kvs.length<=sizeLine/\(a==sysModules)=false/\∃vs,KV kvs vs/\h.DictOf (QP P w) a vs
 | .dT kvs=>kvs.length<=sizeLine/\(a==sysModules)=false/\∃xs:List (List Key×Addr×Value),
   Paired (λ(p:List Key×V) (q:List Key×Addr×Value)=>p.1=q.1/\H q.2.1=some (.t (p.1.map kV))/\yp p.2 q.2.2) kvs xs /\
   ∃o es ep,h.get? a=some o/\o.ExactDict/\o.data=.dict es ep/\es.toList=xs.map (entryOfKey (tupleKind (QP P w)))/\(xs.map (·.1)).Nodup
 | .set S n=>h.SetOf (intKind P w) a S n
 | .ins C dx fs=>H dx=some (.own a)/\fs.length<=1000/\dx≠a/\h.get? a=some (PySem.W.instObj C dx) /\
   ∃mA,h.Ns1 dx mA/\(∀f,RelO (fs.lookup f) (mA f))/\PySem.Within mA (fs.map (·.1))
 | .own _=>∃o,h.get? a=some o| .xd fs=>∃mA,h.Ns1 a mA/\∀f,RelO (fs.lookup f) (mA f)| .rng lo hi=>∃t u v,h.get? a=some {cls:=.type "range",data:=.fields #[.int lo t,.int hi u,.int 1 v]}| .frz o u=>h.get? a=some o/\jz H h a u| .tbl ps=>h.get? a=some {cls:=.none,data:=.fields ps}| .met f x=>h.get? a=some (methodObj (.ref f) (.ref x))| .ext φ=>φ h/\(∃o,h.get? a=some o)/\∀h1 h2:Heap,φ h1->(∀o,h1.get? a=some o->h2.get? a=some o)->φ h2| .dN φ=>φ h/\(∃o,h.get? a=some o)/\∀h1 h2:Heap,φ h1->(∀o,h1.get? a=some o->h2.get? a=some o)->φ h2
def HOk(H:Hp)(h:Heap):Prop:=∀a o,H a=some o->jz P w H h a o
end
section
variable{P:Program}{w:World}{H H':Hp}{h h':Heap}{a:Addr}{o:HO}
theorem jz.lt(x:jz P w H h a o):a<h.objs.size:=by
 cases o with
 |l xs=>obtain⟨_,_,_,_,e⟩:=x;exact lt_size e|t xs=>obtain⟨_,_,_,p⟩:=x;exact p.lt|dK kvs=>obtain⟨_,_,_,_,o,_,_,e,_⟩:=x;exact lt_size e|dT kvs=>obtain⟨_,_,_,_,o,_,_,e,_⟩:=x;exact lt_size e|set S n=>obtain⟨o,_,_,_,e,_⟩:=x;exact lt_size e|ins C dx fs=>obtain⟨_,_,_,e,_⟩:=x;exact lt_size e|own y=>obtain⟨_,e⟩:=x;exact lt_size e|xd fs=>obtain⟨_,⟨_,_,_,e,_⟩,_⟩:=x;exact lt_size e|rng lo hi=>obtain⟨_,_,_,e⟩:=x;exact lt_size e|frz ob u=>obtain⟨e,_⟩:=x;exact lt_size e|tbl ps=>exact lt_size (show h.get? a=some _ from x)|met f y=>exact lt_size (show h.get? a=some _ from x)|ext φ=>obtain⟨_,⟨_,e⟩,_⟩:=x;exact lt_size e|dN φ=>obtain⟨_,⟨_,e⟩,_⟩:=x;exact lt_size e
theorem Paired.mapP{α β:Type}{F G:α->β->Prop}:∀{l₁:List α} {l₂:List β},Paired F l₁ l₂->(∀a b,F a b->G a b)->Paired G l₁ l₂
 |_,_,.nil,_=>.nil|_,_,.cons r t,f=>.cons (f _ _ r) (Paired.mapP t f)
def jz.stay(x:jz P w H h a o)(k:∀b u,(b=a\/H b=some (.own a))->h.get? b=some u->h'.get? b=some u)
  (ho:∀b,H b=some (.own a)->H' b=some (.own a)) (ht:∀b xs,H b=some (.t xs)->H' b=some (.t xs)):jz P w H' h' a o:=by
 induction o with
 |l xs=>obtain⟨z,its,n,r,e⟩:=x;exact⟨z,its,n,r,k _ _ (.inl rfl) e⟩|t xs=>obtain⟨z,its,r,ob,e,c⟩:=x;exact⟨z,its,r,ob,k _ _ (.inl rfl) e,c⟩|dK kvs=>obtain⟨z,y,vs,r,ob,es,ep,e,c⟩:=x;exact⟨z,y,vs,r,ob,es,ep,k _ _ (.inl rfl) e,c⟩
 |dT kvs =>
  obtain⟨z,y,xs,r,ob,es,ep,e,c⟩:=x;exact⟨z,y,xs,Paired.mapP r λp q z=>⟨z.1,ht _ _ z.2.1,z.2.2⟩,ob,es,ep,k _ _ (.inl rfl) e,c⟩
 |set S n=>obtain⟨ob,es,ep,t,e,c⟩:=x;exact⟨ob,es,ep,t,k _ _ (.inl rfl) e,c⟩
 |ins C dx fs =>
  obtain⟨d,z,ne,e,mA,⟨od,es,ep,e2,c⟩,r⟩:=x;exact⟨ho _ d,z,ne,k _ _ (.inl rfl) e,mA,⟨od,es,ep,k _ _ (.inr d) e2,c⟩,r⟩
 |own y=>obtain⟨ob,e⟩:=x;exact⟨ob,k _ _ (.inl rfl) e⟩|xd fs=>obtain⟨mA,⟨od,es,ep,e,c⟩,r⟩:=x;exact⟨mA,⟨od,es,ep,k _ _ (.inl rfl) e,c⟩,r⟩|rng lo hi=>obtain⟨t,u,v,e⟩:=x;exact⟨t,u,v,k _ _ (.inl rfl) e⟩|frz ob u ih=>obtain⟨e,q⟩:=x;exact⟨k _ _ (.inl rfl) e,ih q⟩
 |tbl ps =>
  have e:h.get? a=some {cls:=.none,data:=.fields ps}:=x;show h'.get? a=some {cls:=.none,data:=.fields ps};exact k a _ (.inl rfl) e
 |met f y =>
  have e:h.get? a=some (methodObj (.ref f) (.ref y)):=x;show h'.get? a=some (methodObj (.ref f) (.ref y));exact k a _ (.inl rfl) e
 |ext φ=>obtain⟨p,⟨o,e⟩,st⟩:=x;exact⟨st _ _ p λo q=>k _ _ (.inl rfl) q,⟨o,k _ _ (.inl rfl) e⟩,st⟩|dN φ=>obtain⟨p,⟨o,e⟩,st⟩:=x;exact⟨st _ _ p λo q=>k _ _ (.inl rfl) q,⟨o,k _ _ (.inl rfl) e⟩,st⟩
theorem HOk.lt(x:HOk P w H h)(e:H a=some o):a<h.objs.size:=(x a o e).lt
def HOk.fresh(x:HOk P w H h)(e:h.objs.size<=a):H a=none:=by
 cases q:H a with
 |none=>rfl|some u=>exact absurd (lt_of_lt_of_le (x.lt q) e) (lt_irrefl _)
def HOk.kept(x:HOk P w H h)(k:∀b u,h.get? b=some u->h'.get? b=some u):HOk P w H h':=λa o e =>
 (x a o e).stay (λb u _ q=>k b u q) (λ_ q=>q) λ_ _ q=>q
def HOk.laid(x:HOk P w H h)(k:∀b u,h.get? b=some u->h'.get? b=some u)(hp:h.objs.size<=a)(new:jz P w (upd H a o) h' a o):HOk P w (upd H a o) h':=λb u e=>by
 have hn:=x.fresh hp;by_cases hb:b=a
 ·subst hb;rw[yq]at e;cases e;exact new
 ·rw[zr hb]at e
  exact(x b u e).stay (λc v _ q=>k c v q) (λc q=>by rw[zr (wC q hn)];exact q) λc xs q=>by rw[zr (wC q hn)];exact q
end
def Rd(H:Hp)(a:Addr)(u:HO):Prop:=H a=some u\/∃o,H a=some (.frz o u)
def Rd.ok{P:Program}{w:World}{H:Hp}{h:Heap}{a:Addr}{u:HO}(r:Rd H a u)(x:HOk P w H h):jz P w H h a u:=by
 rcases r with r|⟨o,r⟩
 ·exact x a u r
 ·obtain⟨_,q⟩:=x a _ r
  exact q
def Mut:Option HO->Prop
 |some (.l _)=>True|some (.dK _)=>True|some (.dT _)=>True|some (.set _ _)=>True|some (.ins _ _ _)=>True|some (.ext _)=>True|some (.dN _)=>True|_=>False
section
variable{P:Program}{w:World}{H:Hp}{h h':Heap}{x e:Addr}{o':HO}
def HOk.write(ok:HOk P w H h)(mu:Mut (H x))(he:e=x\/H e=some (.own x))(k:∀b u,b≠e->h.get? b=some u->h'.get? b=some u)(heo:∃u,h'.get? e=some u)
  (new:jz P w (upd H x o') h' x o'):HOk P w (upd H x o') h':=λb u q=>by
 have nown:∀c y,H c=some (.own y)->c≠x:=λc y r z=>by subst z;rw[r]at mu;exact mu
 have ntup:∀c xs,H c=some (.t xs)->c≠x:=λc xs r z=>by subst z;rw[r]at mu;exact mu
 by_cases hb:b=x
 ·subst hb;rw[yq]at q;cases q;exact new
 ·rw[zr hb]at q
  by_cases hbe:b=e
  ·have q':H b=some (.own x):=by
    rcases he with z|z
    ·exact absurd (hbe.trans z) hb
    ·rw[hbe];exact z
   rw[q]at q';cases q';obtain⟨v,hv⟩:=heo;exact⟨v,by rw[hbe];exact hv⟩
  ·refine(ok b u q).stay (λc v hc r=>k c v ?_ r) (λc r=>by rw[zr (nown c b r)];exact r) λc xs r=>by rw[zr (ntup c xs r)];exact r
   rcases hc with rfl|hc
   ·exact hbe
   ·rintro rfl
    rcases he with z|z
    ·exact nown c b hc z
    ·rw[hc]at z;cases z;exact hb rfl
end
structure Un(fs ex:List Addr)(H H':Hp)(h h':Heap):Prop where
 keep:∀b o,h.get? b=some o->H b=none->b∉fs->b∉ex->h'.get? b=some o
 slot:∀b o,h.get? b=some o->H b=none->b∈fs->b∉ex->∃sl,h'.get? b=some {o with slots:=sl}
 free:∀b o,h.get? b=some o->H b=none->b∉ex->H' b=none
 there:∀b o,h.get? b=some o->b∉ex->∃o',h'.get? b=some o'
 tups:∀b xs,H b=some (.t xs)->H' b=some (.t xs)
 frzs:∀b o u,H b=some (.frz o u)->H' b=some (.frz o u)
 tbls:∀b ps,H b=some (.tbl ps)->∃more,H' b=some (.tbl (ps++more))
section
variable{fs fs' ex ex':List Addr}{H H1 H2:Hp}{h h1 h2 h':Heap}{a x e:Addr}{o:HO}
def Un.any(u:Un fs ex H H1 h h1){b:Addr}{ob:Obj}(q:h.get? b=some ob)(n:H b=none)(hx:b∉ex):∃sl,h1.get? b=some {ob with slots:=sl}:=by
 by_cases hb:b∈fs
 ·exact u.slot b ob q n hb hx
 ·exact⟨ob.slots,u.keep b ob q n hb hx⟩
def Un.kept(k:∀b u,h.get? b=some u->h'.get? b=some u):Un fs ex H H h h' :=
 ⟨λb ob q _ _ _=>k b ob q,λb ob q _ _ _=>⟨ob.slots,k b ob q⟩,λ_ _ _ n _=>n,λb ob q _=>⟨ob,k b ob q⟩,λ_ _ q=>q,λ_ _ _ q=>q,λ_ ps q=>⟨#[],by rw[q];simp⟩⟩
def Un.refl:Un fs ex H H h h:=Un.kept λ_ _ q=>q
def Un.laid(k:∀b u,h.get? b=some u->h'.get? b=some u)(hp:h.objs.size<=a)(hn:H a=none):Un fs ex H (upd H a o) h h' where
 keep:=λb u q _ _ _=>k b u q
 slot:=λb u q _ _ _=>⟨u.slots,k b u q⟩
 free:=λb u q n _=>by rw[zr (ne_of_lt (lt_of_lt_of_le (lt_size q) hp))];exact n
 there:=λb u q _=>⟨u,k b u q⟩
 tups:=λb xs q=>by rw[zr (wC q hn)];exact q
 frzs:=λb u xs q=>by rw[zr (wC q hn)];exact q
 tbls:=λb ps q=>⟨#[],by rw[zr (wC q hn),q];simp⟩
def Un.write(mu:Mut (H x))(he:e=x\/H e=some (.own x))(k:∀b u,b≠e->h.get? b=some u->h'.get? b=some u)(heo:∃u,h'.get? e=some u):Un fs ex H (upd H x o) h h':=by
 have hx:∀b,H b=none->b≠x:=λb n z=>by subst z;rw[n]at mu;exact mu
 have hb:∀b,H b=none->b≠e:=λb n z=>by
  subst z;rcases he with r|r
  ·exact hx b n r
  ·rw[n]at r;cases r
 have hm:∀b u,H b=some u->¬Mut (some u)->b≠x:=λb u q nm z=>by subst z;rw[q]at mu;exact nm mu
 refine⟨λb u q n _ _=>k b u (hb b n) q,λb u q n _ _=>⟨u.slots,k b u (hb b n) q⟩,λb u q n _=>by rw[zr (hx b n)];exact n,λb u q _=>?_,
  λb xs q=>by rw[zr (hm b _ q λz=>z)];exact q,λb u xs q=>by rw[zr (hm b _ q λz=>z)];exact q,λb ps q=>⟨#[],by rw[zr (hm b _ q λz=>z),q];simp⟩⟩
 by_cases hbe:b=e
 ·subst hbe;exact heo
 ·exact⟨u,k b u hbe q⟩
end
def trk(h:Heap)(H:Hp):List Addr:=(List.range h.objs.size).filter λa=>(H a).isSome
def zD8(h:Heap)(H:Hp):Heap:=hideAll h (trk h H)
def zBs(h:Heap)(H:Hp):(zD8 h H).objs.size=h.objs.size:=PySem.W.hideAll_size _ _
def zD9(e:h.get? b=some o)(n:H b=none):(zD8 h H).get? b=some o :=
 hideAll_get _ e λhm=>by
  have q:(H b).isSome=true:=(mem_filter.mp hm).2;rw[n]at q;simp at q
def of_hidT(e:(zD8 h H).get? b=some o):h.get? b=some o/\H b=none:=by
 have e':h.get? b=some o:=of_hideAll (trk h H) e;refine⟨e',?_⟩;cases q:H b with
 |none=>rfl
 |some x =>
  have hm:b∈trk h H:=mem_filter.mpr ⟨mem_range.mpr (lt_size e'),by simp[q]⟩;have z:(zD8 h H).get? b=none:=PySem.W.hideAll_none (trk h H) hm;rw[z]at e;cases e
def allNews(g h:Heap)(L:Addr):List (Addr×Obj):=(List.range h.objs.size).filterMap λa=>if a=L\/(g.get? a).isSome=true then none else(h.get? a).map λo=>(a,o)
def ZV(g h:Heap)(L d:Addr):List (Addr×Obj):=(allNews g h L).filter λp=>decide (p.1≠d)
structure Mod(K:qH)(mg:Str->Option Value)(base:Heap):Prop where
 kin:K.In base
 glob:base.Ns mainGlobals mg
 blt:∃mb,base.Ns builtinsNs mb/\∀x:Str,x≠"__name__"->mb x=bootBuiltins x
 nolimit:base.NoLimit
structure Cx where
 prog:Program
 w:World
 K:qH
 mg:Str->Option Value
 base:Heap
 A:Around
 N:List Str
 s₀:Shared
 H₀:Hp
 env:Env
 outer:List Env
 stack:List Env
 ex:List Addr
 fn:Str->Bool
 calm:Bool
 pn:List (Addr×Obj)
 xe:Value->Shared->Prop
def frs(l:List Env):List Addr:=l.filterMap (·.frame)
abbrev Cx.fs(X:Cx):List Addr:=frs X.outer
def Vis(sc:Scope)(x:Str):Prop:=sc.names.lookup x=some .local\/sc.names.lookup x=some .cell\/sc.names.lookup x=some .free
def Loc(sc:Scope)(x:Str):Prop:=sc.names.lookup x=some .local\/sc.names.lookup x=some .cell
def Look(env:Env)(h:Heap)(m:Str->Option Value)(x:Str)(u:Value):Prop :=
 (env.kindOf x=some .local/\m x=some u)\/((env.kindOf x=some .cell\/env.kindOf x=some .free)/\∃c,env.cells.lookup x=some c/\h.IsCell c (some u))
structure Cx.Ok(X:Cx):Prop where
 mod:Mod X.K X.mg X.base
 kind:X.env.scope.kind=.function
 glob:X.env.globals=mainGlobals
 blt:X.env.builtins=builtinsNs
 above:X.s₀.heap.objs.size<=X.env.locals
 inj:∀x y c,X.env.cells.lookup x=some c->X.env.cells.lookup y=some c->x=y
 has:∀x,(X.env.kindOf x=some .cell\/X.env.kindOf x=some .free)->∃c,X.env.cells.lookup x=some c
 cab:∀x c,X.fn x=true->X.env.cells.lookup x=some c->X.s₀.heap.objs.size<=c
 hd:X.calm=true->X.A.handled=none
 frames:X.A.frames=some X.stack
 stk:X.stack=X.outer\/(X.stack=X.env::X.outer/\X.env.frame=some X.env.locals)
 exf:∀b∈X.ex,b≠X.env.locals/\∀x c,X.env.cells.lookup x=some c->c≠b
 bs:∀b o,X.base.get? b=some o->X.s₀.heap.get? b=some o/\X.H₀ b=none
 bsz:X.base.objs.size<=X.s₀.heap.objs.size
 noex:∀b o,X.base.get? b=some o->b∉X.ex
 exfs:∀b∈X.ex,b∉X.fs
 funs:X.s₀.heap.FunFrames X.base X.outer
 frf:∀b∈X.fs,X.H₀ b=none
structure Inv(X:Cx)(pins:List (Addr×Obj))(O:List (Option V))(H:Hp)(s:Shared):Prop where
 ok:X.Ok
 os:s.os=X.s₀.os
 bare:AllBare s.gens
 base:Un X.fs X.ex X.H₀ H X.s₀.heap s.heap
 loc:∃m,s.heap.Ns X.env.locals m/\∀(i:Nat) (x:Str) (v:V),X.N[i]?=some x->O[i]?=some (some v)->Vis X.env.scope x->∃u,yp v u/\Look X.env s.heap m x u
 cell:∀x c,X.env.cells.lookup x=some c->∃v,s.heap.IsCell c v
 free:H X.env.locals=none
 freeC:∀x c,X.env.cells.lookup x=some c->H c=none
 pin:∀p∈X.pn++pins,s.heap.get? p.1=some p.2/\H p.1=none/\p.1≠X.env.locals/\p.1∉X.fs/\∀v,p.2.data≠.cell v
 hok:HOk X.prog X.w H s.heap
 len:O.length=X.N.length
section
variable{X:Cx}{pins:List (Addr×Obj)}{O:List (Option V)}{H H':Hp}{s:Shared}{h':Heap}
def Cx.Ok.nofr(ok:X.Ok)(e:X.base.get? b=some o):b∉X.fs:=λhb=>by
 have:=(ok.funs.mem hb).1;rw[e]at this;cases this
theorem Inv.bs(I:Inv X pins O H s):∀b o,X.base.get? b=some o->s.heap.get? b=some o/\H b=none:=λb o e =>
 ⟨I.base.keep b o (I.ok.bs b o e).1 (I.ok.bs b o e).2 (I.ok.nofr e) (I.ok.noex b o e),I.base.free b o (I.ok.bs b o e).1 (I.ok.bs b o e).2 (I.ok.noex b o e)⟩
def Inv.bk(I:Inv X pins O H s):∀b o,X.base.get? b=some o->s.heap.get? b=some o:=λb o e=>(I.bs b o e).1
theorem Inv.mod(I:Inv X pins O H s):Mod X.K X.mg X.base:=I.ok.mod
def Inv.kIn(I:Inv X pins O H s):X.K.In s.heap:=I.ok.mod.kin.keeps I.bk
theorem Inv.lt(I:Inv X pins O H s):X.env.locals<s.heap.objs.size:=let ⟨_,hn,_⟩:=I.loc;hn.lt
def Inv.sz(I:Inv X pins O H s):X.s₀.heap.objs.size<=s.heap.objs.size:=le_trans I.ok.above (le_of_lt I.lt)
def Inv.nofs(I:Inv X pins O H s)(h:s.heap.objs.size<=a):a∉X.fs:=λhb=>by
 obtain⟨_,o,ho,_⟩:=I.ok.funs.mem hb;exact absurd (lt_of_lt_of_le (lt_size ho) (le_trans I.sz h)) (lt_irrefl _)
def Inv.cne(I:Inv X pins O H s):∀x c,X.env.cells.lookup x=some c->c≠X.env.locals:=λx c e z=>by
 obtain⟨v,o,ho,hd⟩:=I.cell x c e;obtain⟨m,⟨o',es,ep,ho',hd',_⟩,_⟩:=I.loc;rw[z,ho']at ho;cases ho;rw[hd']at hd;cases hd
theorem Inv.funs(I:Inv X pins O H s):s.heap.FunFrames X.base X.outer:=by
 have all:∀(l:List Env),(∀b∈frs l,b∈X.fs)->X.s₀.heap.FunFrames X.base l->s.heap.FunFrames X.base l:=by
  intro l
  induction l with
  |nil=>intro _ _;trivial
  |cons env r ih =>
   intro hs hl;obtain⟨hk,⟨L,o,hf,hn,ho,hd⟩,hr⟩:=hl;have hL:L∈X.fs:=hs L (by unfold frs;rw[filterMap_cons,hf];exact qE);obtain⟨sl,e⟩:=I.base.slot L o ho (I.ok.frf L hL) hL λz=>I.ok.exfs L z hL
   exact⟨hk,⟨L,_,hf,hn,e,hd⟩,ih (λb hb=>hs b (by unfold frs;rw[filterMap_cons,hf];exact mem_cons_of_mem _ hb)) hr⟩
 exact all X.outer (λ_ hb=>hb) I.ok.funs
theorem Inv.stack(I:Inv X pins O H s):s.heap.FunFrames X.base X.stack:=by
 rcases I.ok.stk with e|⟨e,hf⟩
 ·rw[e];exact I.funs
 ·rw[e]
  obtain⟨m,hn,_⟩:=I.loc;refine .cons (by rw[I.ok.kind];decide) hf hn ?_ I.funs;exact Heap.get?_none_of_le (le_trans I.ok.bsz I.ok.above)
def Inv.stkSub(I:Inv X pins O H s):∀b∈frs X.stack,b∈X.env.locals::X.fs:=λb hb=>by
 rcases I.ok.stk with e|⟨e,hf⟩
 ·rw[e]at hb;exact mem_cons_of_mem _ hb
 ·rw[e]at hb
  unfold frs at hb;rw[filterMap_cons,hf]at hb;exact hb
def Inv.stkFree(I:Inv X pins O H s):∀b∈frs X.stack,H b=none:=λb hb=>by
 rcases mem_cons.mp (I.stkSub b hb)with e|hb
 ·rw[e];exact I.free
 ·obtain⟨_,o,ho,_⟩:=I.ok.funs.mem hb
  exact I.base.free b o ho (I.ok.frf b hb) λz=>I.ok.exfs b z hb
def Inv.step{g':Array GenState}{t':Nat}{d':Drawn}{ch:List Addr}(I:Inv X pins O H s)
  (hch:∀b∈ch,(b∈X.ex\/X.s₀.heap.objs.size<=b)/\b≠X.env.locals/\(∀x c,X.env.cells.lookup x=some c->c≠b)/\∀p∈X.pn++pins,p.1≠b)
  (keep:∀b o,b≠X.env.locals->b∉X.fs->b∉ch->s.heap.get? b=some o->H b=none->h'.get? b=some o)
  (slot:∀b o,b≠X.env.locals->b∈X.fs->b∉ch->s.heap.get? b=some o->H b=none->∃sl,h'.get? b=some {o with slots:=sl}) (free:∀b o,b∉ch->s.heap.get? b=some o->H b=none->H' b=none)
  (there:∀b o,b∉ch->s.heap.get? b=some o->∃o',h'.get? b=some o')
  (tups:∀b xs,H b=some (.t xs)->H' b=some (.t xs)) (frzs:∀b o u,H b=some (.frz o u)->H' b=some (.frz o u)) (tbls:∀b ps,H b=some (.tbl ps)->∃more,H' b=some (.tbl (ps++more)))
  (ns:∀m,s.heap.Ns X.env.locals m->h'.Ns X.env.locals m) (hok:HOk X.prog X.w H' h') (hg:AllBare g') :
  Inv X pins O H' {s with heap:=h',gens:=g',drawn:=d',toks:=t'}:=by
 have neL:∀b o,X.s₀.heap.get? b=some o->b≠X.env.locals:=λb o e=>ne_of_lt (lt_of_lt_of_le (lt_size e) I.ok.above)
 have neC:∀b o,X.s₀.heap.get? b=some o->b∉X.ex->b∉ch:=λb o e hx hb=>by
  rcases(hch b hb).1 with z|z
  ·exact hx z
  ·exact absurd (lt_of_lt_of_le (lt_size e) z) (lt_irrefl _)
 have cellK:∀x c,X.env.cells.lookup x=some c->∀v,s.heap.IsCell c v->h'.IsCell c v:=λx c e v ⟨o,ho,hd⟩=>by
  have nch:c∉ch:=λz=>(hch c z).2.2.1 x c e rfl
  by_cases hc:c∈X.fs
  ·obtain⟨sl,q⟩:=slot c o (I.cne x c e) hc nch ho (I.freeC x c e)
   exact⟨_,q,hd⟩
  ·exact⟨o,keep c o (I.cne x c e) hc nch ho (I.freeC x c e),hd⟩
 refine⟨I.ok,I.os,hg,⟨λb o e n hb hx=>?_,λb o e n hb hx=>?_,λb o e n hx=>?_,λb o e hx=>?_,λb xs e=>tups b xs (I.base.tups b xs e),λb o xs e=>frzs b o xs (I.base.frzs b o xs e),λb ps e=>?_⟩,?_,λx c e=>?_,?_,λx c e=>?_,λp hp=>?_,hok,I.len⟩
 ·exact keep b o (neL b o e) hb (neC b o e hx) (I.base.keep b o e n hb hx) (I.base.free b o e n hx)
 ·obtain⟨sl,e1⟩:=I.base.slot b o e n hb hx
  obtain⟨sl',e2⟩:=slot b _ (neL b o e) hb (neC b o e hx) e1 (I.base.free b o e n hx);exact⟨sl',e2⟩
 ·obtain⟨o',e1⟩:=I.base.there b o e hx
  exact free b o' (neC b o e hx) e1 (I.base.free b o e n hx)
 ·obtain⟨o',e1⟩:=I.base.there b o e hx
  exact there b o' (neC b o e hx) e1
 ·obtain⟨m1,e1⟩:=I.base.tbls b ps e
  obtain⟨m2,e2⟩:=tbls b _ e1;exact⟨m1++m2,by rw[e2,Array.append_assoc]⟩
 ·obtain⟨m,hn,hl⟩:=I.loc
  refine⟨m,ns m hn,λi x v e1 e2 e3=>?_⟩;obtain⟨u,r,l⟩:=hl i x v e1 e2 e3;refine⟨u,r,?_⟩;rcases l with l|⟨k,c,e,z⟩
  ·exact .inl l
  ·exact .inr ⟨k,c,e,cellK x c e _ z⟩
 ·obtain⟨v,z⟩:=I.cell x c e
  exact⟨v,cellK x c e v z⟩
 ·obtain⟨m,⟨o,_,_,ho,_⟩,_⟩:=I.loc
  exact free _ o (λz=>(hch _ z).2.1 rfl) ho I.free
 ·obtain⟨v,o,ho,hd⟩:=I.cell x c e
  exact free c o (λz=>(hch c z).2.2.1 x c e rfl) ho (I.freeC x c e)
 ·obtain⟨e,n,ne,nf,d⟩:=I.pin p hp
  have nch:p.1∉ch:=λz=>(hch p.1 z).2.2.2 p hp rfl
  exact⟨keep p.1 p.2 ne nf nch e n,free p.1 p.2 nch e n,ne,nf,d⟩
def Inv.un{t':Nat}(I:Inv X pins O H s)(u:Un X.fs [] H H' s.heap h')(hok:HOk X.prog X.w H' h'):Inv X pins O H' {s with heap:=h',toks:=t'}:=by
 obtain⟨m,⟨o,es,ep,ho,r⟩,_⟩:=id I.loc;obtain⟨sl,hL⟩:=u.any ho I.free (by simp);exact I.step (g':=s.gens) (d':=s.drawn) (ch:=[]) (λ_ z=>nomatch z) (λb o _ hb _ e n=>u.keep b o e n hb (by simp)) (λb o _ hb _ e n=>u.slot b o e n hb (by simp)) (λb o _ e n=>u.free b o e n (by simp)) (λb o _ e=>u.there b o e (by simp)) u.tups u.frzs u.tbls (λm' hm=>by
  obtain⟨o',es',ep',ho',r'⟩:=hm;rw[ho]at ho';cases ho';exact⟨_,es',ep',hL,r'⟩) hok I.bare
def Inv.call{g':Array GenState}{t':Nat}{d':Drawn}{ch:List Addr}(I:Inv X pins O H s)(u:Un (frs X.stack) ch H H' s.heap h')(hok:HOk X.prog X.w H' h')(hg:AllBare g')
  (hch:∀b∈ch,(b∈X.ex\/X.s₀.heap.objs.size<=b)/\b≠X.env.locals/\(∀x c,X.env.cells.lookup x=some c->c≠b)/\∀p∈X.pn++pins,p.1≠b) :
  Inv X pins O H' {s with heap:=h',gens:=g',drawn:=d',toks:=t'}:=by
 obtain⟨m,⟨o,es,ep,ho,r⟩,_⟩:=id I.loc;obtain⟨sl,hL⟩:=u.any ho I.free λz=>(hch _ z).2.1 rfl
 exact I.step (ch:=ch) hch (λb o hL hb hc e n=>u.keep b o e n (λz=>(mem_cons.mp (I.stkSub b z)).elim hL hb) hc) (λb o _ _ hc e n=>u.any e n hc) (λb o hc e n=>u.free b o e n hc) (λb o hc e=>u.there b o e hc) u.tups u.frzs u.tbls (λm' hm=>by
  obtain⟨o',es',ep',ho',r'⟩:=hm;rw[ho]at ho';cases ho';exact⟨_,es',ep',hL,r'⟩) hok hg
def Inv.turned{t':Nat}{it:Addr}(I:Inv X pins O H s)(k:∀b o,b≠it->s.heap.get? b=some o->h'.get? b=some o)(hn:H it=none)(hL:it≠X.env.locals)
  (h1:it∈X.ex\/X.s₀.heap.objs.size<=it) (h2:∀x c,X.env.cells.lookup x=some c->c≠it) (h3:∀p∈X.pn++pins,p.1≠it):Inv X pins O H {s with heap:=h',toks:=t'}:=by
 have nit:∀b u,H b=some u->b≠it:=λb u e z=>by rw[z,hn]at e;cases e
 refine I.step (g':=s.gens) (d':=s.drawn) (ch:=[it]) (λb hb=>?_) (λb o _ _ hc e _=>k b o (λz=>hc (by simp[z])) e) (λb o _ _ hc e _=>⟨o.slots,k b o (λz=>hc (by simp[z])) e⟩) (λ_ _ _ _ n=>n)
  (λb o hc e=>⟨o,k b o (λz=>hc (by simp[z])) e⟩) (λ_ _ e=>e) (λ_ _ _ e=>e) (λb ps e=>⟨#[],by rw[e];simp⟩) (λm hm=>?_) (λb u e=>?_) I.bare
 ·have e:b=it:=by simpa using hb
  subst e;exact⟨h1,hL,h2,h3⟩
 ·obtain⟨o,es,ep,ho,r⟩:=hm
  exact⟨o,es,ep,k _ o (Ne.symm hL) ho,r⟩
 ·refine(I.hok b u e).stay (λc v hc q=>k c v ?_ q) (λ_ q=>q) λ_ _ q=>q
  rcases hc with z|z
  ·rw[z];exact nit b u e
  ·exact nit c _ z
def Inv.tok(I:Inv X pins O H s)(t:Nat):Inv X pins O H {s with toks:=t}:=I.un (h':=s.heap) (t':=t) Un.refl I.hok
theorem Inv.kept(I:Inv X pins O H s)(k:∀b u,s.heap.get? b=some u->h'.get? b=some u):Inv X pins O H {s with heap:=h',toks:=t'}:=I.un (Un.kept k) (I.hok.kept k)
theorem Inv.laid{a:Addr}{o:HO}{t':Nat}(I:Inv X pins O H s)(k:∀b u,s.heap.get? b=some u->h'.get? b=some u)(hp:s.heap.objs.size<=a)(new:jz X.prog X.w (upd H a o) h' a o) :
  Inv X pins O (upd H a o) {s with heap:=h',toks:=t'}:=I.un (Un.laid k hp (I.hok.fresh hp)) (I.hok.laid k hp new)
theorem Inv.write(I:Inv X pins O H s)(mu:Mut (H x))(he:e=x\/H e=some (.own x))(k:∀b u,b≠e->s.heap.get? b=some u->h'.get? b=some u)(heo:∃u,h'.get? e=some u)
  (new:jz X.prog X.w (upd H x o) h' x o):Inv X pins O (upd H x o) {s with heap:=h',toks:=t'}:=I.un (Un.write mu he k heo) (I.hok.write mu he k heo new)
def Inv.pins_of(I:Inv X pins O H s)(h:∀p∈pins',s.heap.get? p.1=some p.2/\H p.1=none/\p.1≠X.env.locals/\p.1∉X.fs/\∀v,p.2.data≠.cell v):Inv X pins' O H s :=
 ⟨I.ok,I.os,I.bare,I.base,I.loc,I.cell,I.free,I.freeC,λp hp=>(mem_append.mp hp).elim (λz=>I.pin p (mem_append_left _ z)) (h p),I.hok,I.len⟩
def zAM{N:List Str}(hN:N.Nodup){i j:Nat}{x:Str}(a:N[i]?=some x)(b:N[j]?=some x):i=j:=by
 obtain⟨h1,e1⟩:=qG.mp a;obtain⟨h2,e2⟩:=qG.mp b;exact(List.getElem_inj hN).mp (e1.trans e2.symm)
def GM{M:Model}{A:Around}{E:Value->Shared->Prop}{i:Nat}{x:Str}{v:V}{u:Value}{Q:Unit->Shared->Prop}(I:Inv X pins O H s)(hN:X.N.Nodup)(hi:X.N[i]?=some x)(hx:Loc X.env.scope x)(r:yp v u)
  (h:∀s',Inv X pins (O.set i (some v)) H s'->(∃a,Heap.SameBut a s.heap s'.heap/\(a=X.env.locals\/X.env.cells.lookup x=some a))->Q () s') (hf:X.fn x=true\/X.env.scope.names.lookup x=some .local:=by first|exact .inl rfl|exact .inr rfl|assumption):wpAny M A (storeName X.env x u) Q E s:=by
 obtain⟨m,hn,hl⟩:=id I.loc;have hcls:(X.env.scope.kind==.class||(X.env.scope.kind==.module&&X.env.locals != X.env.globals))=false:=by rw[I.ok.kind];rfl
 have hiO:i<O.length:=by rw[I.len];exact(qG.mp hi).1
 have cne:=I.cne;have tracked:∀{a:Addr} {h':Heap},(∃o,s.heap.get? a=some o/\H a=none)->Heap.SameBut a s.heap h'->HOk X.prog X.w H h':=λ{a h'} ha hs b ob e=>by
  obtain⟨_,_,hfree⟩:=ha;refine(I.hok b ob e).stay (λc w' hc q=>(hs.2 c ?_).trans q) (λ_ q=>q) λ_ _ q=>q
  rintro rfl
  rcases hc with rfl|hc
  ·rw[hfree]at e;cases e
  ·rw[hfree]at hc;cases hc
 rcases hx with hk|hk
 ·refine wpAny_storeName_local hk hn (λh' hn' hs=>?_) hcls
  obtain⟨oL,_,_,hoL,_⟩:=id hn;refine h _ ⟨I.ok,I.os,I.bare,⟨λb o e n hb hx=>?_,λb o e n hb hx=>?_,I.base.free,λb o e hx=>?_,I.base.tups,I.base.frzs,I.base.tbls⟩,⟨_,hn',λj y v' e1 e2 e3=>?_⟩,λy c e=>?_,I.free,I.freeC,λp hp=>?_,tracked ⟨oL,hoL,I.free⟩ hs,by simpa using I.len⟩ ⟨_,hs,.inl rfl⟩
  ·exact(hs.2 b (ne_of_lt (lt_of_lt_of_le (lt_size e) I.ok.above))).trans (I.base.keep b o e n hb hx)
  ·obtain⟨sl,e1⟩:=I.base.slot b o e n hb hx
   exact⟨sl,(hs.2 b (ne_of_lt (lt_of_lt_of_le (lt_size e) I.ok.above))).trans e1⟩
  ·obtain⟨o',e1⟩:=I.base.there b o e hx
   exact⟨o',(hs.2 b (ne_of_lt (lt_of_lt_of_le (lt_size e) I.ok.above))).trans e1⟩
  ·by_cases hj:j=i
   ·subst hj
    rw[hi]at e1;cases e1;rw[getElem?_set_self hiO]at e2;cases e2;exact⟨u,r,.inl ⟨hk,by simp⟩⟩
   ·rw[getElem?_set_ne (Ne.symm hj)]at e2
    obtain⟨u',r',q⟩:=hl j y v' e1 e2 e3;refine⟨u',r',?_⟩;rcases q with⟨k,e⟩|⟨k,c,e,z⟩
    ·refine .inl ⟨k,?_⟩
     have:y≠x:=λe=>hj (zAM hN e1 (e▸hi))
     simp[this,e]
    ·exact .inr ⟨k,c,e,z.sameBut hs (cne y c e)⟩
  ·obtain⟨w',z⟩:=I.cell y c e
   exact⟨w',z.sameBut hs (cne y c e)⟩
  ·obtain⟨e,n,ne,nf,d⟩:=I.pin p hp
   exact⟨(hs.2 p.1 ne).trans e,n,ne,nf,d⟩
 ·have hfn:X.fn x=true:=by
   rcases hf with z|z
   ·exact z
   ·rw[z]at hk;cases hk
  obtain⟨c,hc⟩:=I.ok.has x (.inl hk);obtain⟨w',z⟩:=I.cell x c hc;refine wpAny_storeName_cell I.ok.kind hk hc z (λh' hc' hs=>?_);obtain⟨oc,hoc,hocd⟩:=id z;refine h {s with heap:=h'} ⟨I.ok,I.os,I.bare,⟨λb o e n hb hx=>?_,λb o e n hb hx=>?_,I.base.free,λb o e hx=>?_,I.base.tups,I.base.frzs,I.base.tbls⟩,⟨m,hn.sameBut hs (Ne.symm (cne x c hc)),λj y v' e1 e2 e3=>?_⟩,λy c' e=>?_,I.free,I.freeC,λp hp=>?_,tracked ⟨oc,hoc,I.freeC x c hc⟩ hs,by simpa using I.len⟩ ⟨c,hs,.inr hc⟩
  ·exact(hs.2 b (ne_of_lt (lt_of_lt_of_le (lt_size e) (I.ok.cab x c hfn hc)))).trans (I.base.keep b o e n hb hx)
  ·obtain⟨sl,e1⟩:=I.base.slot b o e n hb hx
   exact⟨sl,(hs.2 b (ne_of_lt (lt_of_lt_of_le (lt_size e) (I.ok.cab x c hfn hc)))).trans e1⟩
  ·obtain⟨o',e1⟩:=I.base.there b o e hx
   exact⟨o',(hs.2 b (ne_of_lt (lt_of_lt_of_le (lt_size e) (I.ok.cab x c hfn hc)))).trans e1⟩
  ·by_cases hj:j=i
   ·subst hj
    rw[hi]at e1;cases e1;rw[getElem?_set_self hiO]at e2;cases e2;exact⟨u,r,.inr ⟨.inl hk,c,hc,hc'⟩⟩
   ·rw[getElem?_set_ne (Ne.symm hj)]at e2
    obtain⟨u',r',q⟩:=hl j y v' e1 e2 e3;refine⟨u',r',?_⟩;rcases q with q|⟨k,c',e,z'⟩
    ·exact .inl q
    ·refine .inr ⟨k,c',e,z'.sameBut hs ?_⟩
     rintro rfl
     exact hj (zAM hN e1 (I.ok.inj _ _ _ e hc▸hi))
  ·by_cases hcc:c'=c
   ·subst hcc;exact⟨_,hc'⟩
   ·obtain⟨w2,z2⟩:=I.cell y c' e
    exact⟨w2,z2.sameBut hs hcc⟩
  ·obtain⟨e,n,ne,nf,d⟩:=I.pin p hp
   refine⟨(hs.2 p.1 ?_).trans e,n,ne,nf,d⟩;intro q;rw[q,hoc]at e;have q':oc=p.2:=qJ e;exact d w' (by rw[<- q'];exact hocd)
def Z0{E:Value->Shared->Prop}{Q:Unit->Shared->Prop}(I:Inv X pins O H s)(hN:X.N.Nodup)(hi:X.N[i]?=some x)(hx:Loc X.env.scope x)(r:yp v u)
  (h:∀s',Inv X pins (O.set i (some v)) H s'->Q () s') (hf:X.fn x=true\/X.env.scope.names.lookup x=some .local:=by first|exact .inl rfl|exact .inr rfl|assumption):wpAny M A (storeName X.env x u) Q E s :=
 GM I hN hi hx r (λs' I' _=>h s' I') hf
def Inv.call'(I:Inv X pins O H s)(ho:s'.os=s.os)(u:Un (frs X.stack) ch H H' s.heap s'.heap)(hok:HOk X.prog X.w H' s'.heap)(hg:AllBare s'.gens)
  (hch:∀b∈ch,(b∈X.ex\/X.s₀.heap.objs.size<=b)/\b≠X.env.locals/\(∀x c,X.env.cells.lookup x=some c->c≠b)/\∀p∈X.pn++pins,p.1≠b):Inv X pins O H' s':=by
 obtain⟨h',g',d',t',o'⟩:=s';have e:o'=s.os:=ho;subst e;exact I.call (g':=g') (t':=t') (d':=d') u hok hg hch
end
abbrev XK:=Value->Option Addr->Hp->Prop
abbrev St:=List (Option V)
abbrev VK:=V->Hp->Prop
abbrev TE:=St->Hp->VK->Prop
abbrev TT:=St->Hp->(Bool->Hp->Prop)->Prop
abbrev TA:=St->Hp->(List V->Hp->Prop)->Prop
structure Ends where
 nx:St->Hp->Prop
 rt:VK
 bk:St->Hp->Prop:=λ_ _=>False
 ct:St->Hp->Prop:=λ_ _=>False
abbrev TS:=Ends->St->Hp->Prop
def EP(X:Cx)(pins:List (Addr×Obj))(O:St)(Q:VK)(u:Value)(s':Shared):Prop:=∃v H',Inv X pins O H' s'/\yp v u/\Q v H'
def TP(X:Cx)(pins:List (Addr×Obj))(O:St)(Q:Bool->Hp->Prop)(b:Bool)(s':Shared):Prop:=∃H',Inv X pins O H' s'/\Q b H'
def AP(X:Cx)(pins:List (Addr×Obj))(O:St)(Q:List V->Hp->Prop)(us:List Value)(s':Shared):Prop:=∃vs H',Inv X pins O H' s'/\yW vs us/\Q vs H'
def SP(X:Cx)(pins:List (Addr×Obj))(D:Ends)(f:Flow)(s':Shared):Prop :=
 match f with
 | .next=>∃O' H',Inv X pins O' H' s'/\D.nx O' H'| .brk=>∃O' H',Inv X pins O' H' s'/\D.bk O' H'| .cont=>∃O' H',Inv X pins O' H' s'/\D.ct O' H'| .ret u=>∃v O' H',Inv X pins O' H' s'/\yp v u/\D.rt v H'
def PE(X:Cx)(e:Expr)(t:TE):Prop :=
 ∀(pins:List (Addr×Obj)) (s:Shared) (O:St) (H:Hp) (Q:VK),Inv X pins O H s->t O H Q->wpAny (model X.prog X.w) X.A (eval e X.env) (EP X pins O Q) X.xe s
def PT(X:Cx)(e:Expr)(t:TT):Prop :=
 ∀(pins:List (Addr×Obj)) (s:Shared) (O:St) (H:Hp) (Q:Bool->Hp->Prop),Inv X pins O H s->t O H Q->wpAny (model X.prog X.w) X.A (isTrue e X.env (eval e X.env)) (TP X pins O Q) X.xe s
def PW(X:Cx)(e:Expr)(t:TT):Prop :=
 ∀(whole:Sem Value) (pins:List (Addr×Obj)) (s:Shared) (O:St) (H:Hp) (Q:Bool->Hp->Prop),Inv X pins O H s->t O H Q->wpAny (model X.prog X.w) X.A (isTrue e X.env whole) (TP X pins O Q) X.xe s
def PW.pt(h:PW X e t):PT X e t:=h _
def PA(X:Cx)(es:List Expr)(t:TA):Prop :=
 ∀(pos:Pos) (pins:List (Addr×Obj)) (s:Shared) (O:St) (H:Hp) (Q:List V->Hp->Prop),Inv X pins O H s->t O H Q->wpAny (model X.prog X.w) X.A (spliced (backTo pos (starEach es X.env))) (AP X pins O Q) X.xe s
def PS(X:Cx)(st:Stmt)(t:TS):Prop :=
 ∀(pins:List (Addr×Obj)) (s:Shared) (O:St) (H:Hp) (D:Ends),Inv X pins O H s->t D O H->wpAny (model X.prog X.w) X.A (exec st X.env) (SP X pins D) X.xe s
def PSs(X:Cx)(st:List Stmt)(t:TS):Prop :=
 ∀(pins:List (Addr×Obj)) (s:Shared) (O:St) (H:Hp) (D:Ends),Inv X pins O H s->t D O H->wpAny (model X.prog X.w) X.A (execs st X.env) (SP X pins D) X.xe s
def thn{α:Type}{t:Sem α}{Q Q':α->Shared->Prop}{M:Model}{A:Around}{E:Value->Shared->Prop}{s:Shared}(h:wpAny M A t Q E s)(hQ:∀a s,Q a s->Q' a s):wpAny M A t Q' E s:=wpAny_mono h hQ λ_ _ x=>x
section
variable{X:Cx}
def bin{a b:Expr}{ta tb:TE}(ha:PE X a ta)(hb:PE X b tb){pins:List (Addr×Obj)}{s:Shared}{O:St}{H:Hp}{R:V->V->Hp->Prop}(I:Inv X pins O H s)(h:ta O H λx H1=>tb O H1 λy H2=>R x y H2)
  {α:Type} {Q:α->Shared->Prop} {f:Value->Value->Sem α}
  (hf:∀v u s2 x y H2,Inv X pins O H2 s2->yp x v->yp y u->R x y H2->wpAny (model X.prog X.w) X.A (f v u) Q X.xe s2) :
  wpAny (model X.prog X.w) X.A (eval a X.env) (λv s₁=>wpAny (model X.prog X.w) X.A (eval b X.env) (λu s₂=>wpAny (model X.prog X.w) X.A (f v u) Q X.xe s₂) X.xe s₁) X.xe s:=by
 refine thn (ha pins s O H _ I h) λv s1 ⟨x,H1,I1,r1,q1⟩=>?_
 refine thn (hb pins s1 O H1 _ I1 q1) λu s2 ⟨y,H2,I2,r2,q2⟩=>?_
 exact hf v u s2 x y H2 I2 r1 r2 q2
def vd(i:Nat):TE:=λO H Q=>∃v,O[i]?=some (some v)/\Q v H
def tC(v:V):TE:=λ_ H Q=>Q v H
def pe_var(hN:X.N[i]?=some x)(hv:Vis X.env.scope x)(hd:(x==("__debug__":Str))=false:=by decide)(hcd:(x==("__classdict__":Str))=false:=by decide):PE X (.Name x pos) (vd i):=by
 intro pins s O H Q I h;obtain⟨v,e,h⟩:=h;obtain⟨m,hn,hl⟩:=I.loc;obtain⟨u,r,l⟩:=hl i x v hN e hv;have fin:EP X pins O Q u s:=⟨v,H,I,r,h⟩;rcases l with⟨hk,hm⟩|⟨hk,c,hc,hcell⟩
 ·exact wpAny_Name (wpAny_loadName_local I.ok.kind hk hn hm fin) hd
 ·rcases hk with hk|hk
  ·exact wpAny_Name (wpAny_loadName_cell I.ok.kind hk hc hcell fin) hd
  ·exact wpAny_Name (wpAny_loadName_free I.ok.kind hk hc hcell fin hcd) hd
def zBt{i j pos}:PE X (.Constant (.int i) j pos) (tC (.int i)):=λ_ _ _ H _ I h=>wpAny_Constant_int ⟨.int i,H,I.tok _,⟨_,rfl⟩,h⟩
def pe_bl{b j pos}:PE X (.Constant (.bool b) j pos) (tC (.bl b)):=λ_ _ _ H _ I h=>Constant_bool ⟨.bl b,H,I,rfl,h⟩
def pe_non{j pos}:PE X (.Constant .none j pos) (tC .non):=λ_ _ _ H _ I h=>Constant_none ⟨.non,H,I,rfl,h⟩
def pe_str{x j pos}:PE X (.Constant (.str x) j pos) (tC (.str x)):=λ_ _ _ H _ I h=>Calls.Constant_str ⟨.str x,H,I.tok _,⟨_,rfl⟩,h⟩
def Gl(X:Cx)(x:Str):Prop:=X.env.kindOf x=some .globalImplicit
def zBu{E:Value->Shared->Prop}{Q:Value->Shared->Prop}(I:Inv X pins O H s)(hg:Gl X x)(hm:X.mg x=some u)(h:Q u s)
  (hd:(x==("__debug__":Str))=false:=by decide):wpAny (model X.prog X.w) X.A (eval (.Name x pos) X.env) Q E s :=
 Calls.Name_function_global I.ok.kind hg (Calls.loadGlobal_global (by rw[I.ok.glob];exact I.mod.glob.keeps I.bk) hm h) hd
def YL{E:Value->Shared->Prop}{Q:Value->Shared->Prop}(I:Inv X pins O H s)(hg:Gl X x)(hm:X.mg x=none)(hv:bootBuiltins x=some u)(h:Q u s)
  (hn:x≠"__name__":=by decide) (hd:(x==("__debug__":Str))=false:=by decide):wpAny (model X.prog X.w) X.A (eval (.Name x pos) X.env) Q E s:=by
 obtain⟨mb,h1,h2⟩:=I.mod.blt;exact Calls.Name_function_global I.ok.kind hg (Calls.loadGlobal_builtin (by rw[I.ok.glob];exact I.mod.glob.keeps I.bk) hm (by rw[I.ok.blt];exact h1.keeps I.bk) ((h2 x hn).trans hv) h) hd
def pe_glob(hg:Gl X x)(hm:X.mg x=some u)(r:yp v u)(hd:(x==("__debug__":Str))=false:=by decide):PE X (.Name x pos) (tC v) :=
 λ_ _ _ H _ I h=>zBu I hg hm ⟨v,H,I,r,h⟩ hd
def pe_bltn(hg:Gl X x)(hm:X.mg x=none)(hv:bootBuiltins x=some u)(r:yp v u)(hn:x≠"__name__":=by decide)(hd:(x==("__debug__":Str))=false:=by decide):PE X (.Name x pos) (tC v) :=
 λ_ _ _ H _ I h=>YL I hg hm hv ⟨v,H,I,r,h⟩ hn hd
variable{a b:Expr}{ta tb:TE}{pos:Pos}
def tB(t:TE):TT:=λO H Q=>t O H λx H1=>∃c,x=.bl c/\Q c H1
def pt_val{e:Expr}{t:TE}(h:PE X e t)(he:∀whole,isTrue e X.env whole=(do let v <- whole;standAt e.pos;holding [v] (truthy v)):=by intro _;rfl):PT X e (tB t):=by
 intro pins s O H Q I hw;refine isTrue_plain (thn (h pins s O H _ I hw) λv s1 ⟨x,H1,I1,r1,q1⟩=>?_) (he _);obtain⟨d,rfl,q⟩:=q1;cases r1;exact wpAny_truthy_bool ⟨H1,I1,q⟩
variable{tA tB':TT}{ZV:List Expr}
def tAnd(t u:TT):TT:=λO H Q=>t O H λc H1=>if c=true then u O H1 Q else Q false H1
def tOr(t u:TT):TT:=λO H Q=>t O H λc H1=>if c=true then Q true H1 else u O H1 Q
def tNot(t:TT):TT:=λO H Q=>t O H λc H1=>Q (!c) H1
def pw_and1(ha:PT X a tA):PW X (.BoolOp .And [a] pos) tA:=by
 intro wh pins s O H Q I h;refine isTrue_and (thn (ha pins s O H Q I h) λc s1 e=>?_);cases c with
 |true=>exact isTrue_and_nil e|false=>exact e
def pw_or1(ha:PT X a tA):PW X (.BoolOp .Or [a] pos) tA:=by
 intro wh pins s O H Q I h;refine isTrue_or (thn (ha pins s O H Q I h) λc s1 e=>?_);cases c with
 |false=>exact isTrue_or_nil e|true=>exact e
def pw_and(ha:PT X a tA)(hb:PW X (.BoolOp .And (b::ZV) pos) tB'):PW X (.BoolOp .And (a::b::ZV) pos) (tAnd tA tB'):=by
 intro wh pins s O H Q I h;refine isTrue_and (thn (ha pins s O H _ I h) λc s1 ⟨H1,I1,q1⟩=>?_);cases c with
 |true=>exact hb wh pins s1 O H1 Q I1 q1|false=>exact⟨H1,I1,q1⟩
def pw_or(ha:PT X a tA)(hb:PW X (.BoolOp .Or (b::ZV) pos) tB'):PW X (.BoolOp .Or (a::b::ZV) pos) (tOr tA tB'):=by
 intro wh pins s O H Q I h;refine isTrue_or (thn (ha pins s O H _ I h) λc s1 ⟨H1,I1,q1⟩=>?_);cases c with
 |true=>exact⟨H1,I1,q1⟩|false=>exact hb wh pins s1 O H1 Q I1 q1
def pt_not(ha:PT X a tA):PT X (.UnaryOp .Not a pos) (tNot tA):=by
 intro pins s O H Q I h;exact isTrue_not (ha pins s O H (λc H1=>Q (!c) H1) I h)
def tAndV(ta tb:TE):TE:=λO H Q=>ta O H λx H1=>∃c,x=.bl c/\if c=true then tb O H1 Q else Q (.bl false) H1
def tNotV(ta:TE):TE:=λO H Q=>ta O H λx H1=>∃c,x=.bl c/\Q (.bl (!c)) H1
def pe_one{op}(h:PE X a t):PE X (.BoolOp op [a] pos) t:=λpins s O H Q I hw=>BoolOp_one (h pins s O H Q I hw)
def pe_and(ha:PE X a ta)(hb:PE X (.BoolOp .And (b::ZV) pos) tb):PE X (.BoolOp .And (a::b::ZV) pos) (tAndV ta tb):=by
 intro pins s O H Q I h;refine BoolOp_and (thn (ha pins s O H _ I h) λv s1 ⟨x,H1,I1,r1,q1⟩=>?_);obtain⟨c,rfl,q1⟩:=q1;cases r1;refine wpAny_truthy_bool ?_;cases c with
 |true=>exact hb pins s1 O H1 Q I1 q1|false=>exact⟨.bl false,H1,I1,rfl,q1⟩
def pe_not(ha:PE X a ta):PE X (.UnaryOp .Not a pos) (tNotV ta):=by
 intro pins s O H Q I h;refine UnaryOp_ (thn (ha pins s O H _ I h) λv s1 ⟨x,H1,I1,r1,q1⟩=>?_);obtain⟨c,rfl,q1⟩:=q1;cases r1;exact not_of (wpAny_truthy_bool ⟨.bl (!c),H1,I1,rfl,q1⟩)
def tIf(t:TT)(ta tb:TE):TE:=λO H Q=>t O H λc H1=>if c=true then ta O H1 Q else tb O H1 Q
def zEA{c:Expr}(hc:PT X c tA)(ha:PE X a ta)(hb:PE X b tb):PE X (.IfExp c a b pos) (tIf tA ta tb):=by
 intro pins s O H Q I h;refine wpAny_IfExp (thn (hc pins s O H _ I h) λd s1 ⟨H1,I1,q1⟩=>?_);cases d with
 |true=>exact ha pins s1 O H1 Q I1 q1|false=>exact hb pins s1 O H1 Q I1 q1
end
def SqL(K:qH)(H:Hp)(a:Addr)(xs:List V):Prop :=
 Rd H a (.l xs) \/
  ∃(o:Obj) (its:Array Value) (n:Nat),K.lookup a=some o/\o.cls=.type "list"/\o.dict=none/\o.data=.seq its n/\its.size<=sizeLine/\yW xs its.toList
def SqT(K:qH)(H:Hp)(a:Addr)(xs:List V):Prop :=
 Rd H a (.t xs) \/
  ∃(o:Obj) (its:Array Value) (n:Nat),K.lookup a=some o/\o.cls=.type "tuple"/\o.data=.seq its n/\its.size<=sizeLine/\yW xs its.toList
def absV:Value->Option V
 | .none=>some .non| .bool b=>some (.bl b)| .int i _=>some (.int i)| .str x _=>some (.str x)| .bytes b _=>some (.byt b)| .float b _=>some (.flt b)| .ref a=>some (.ref a)| .type n=>some (.ty n)|_=>none
def yp.abs(r:yp x u):absV u=some x:=by
 cases x with
 |non=>cases r;rfl|bl _=>cases r;rfl|int _=>obtain⟨t,rfl⟩:=r;rfl|str _=>obtain⟨t,rfl⟩:=r;rfl|byt _=>obtain⟨t,rfl⟩:=r;rfl|flt _=>obtain⟨t,rfl⟩:=r;rfl|ref _=>cases r;rfl|ty _=>cases r;rfl
theorem yp.inj{x y:V}{u:Value}(r:yp x u)(q:yp y u):x=y:=qJ (r.abs.symm.trans q.abs)
theorem yW.inj:∀{xs ys:List V} {us:List Value},yW xs us->yW ys us->xs=ys
 |_,_,_,.nil,.nil=>rfl|_,_,_,.cons r t,.cons r' t'=>by rw[r.inj r',yW.inj t t']
section
variable{X:Cx}{pins:List (Addr×Obj)}{O:St}{H:Hp}{s:Shared}{a:Addr}{xs ys:List V}
def SqL.of{K:qH}(h:H a=some (.l xs)):SqL K H a xs:=.inl (.inl h)
def SqT.of{K:qH}(h:H a=some (.t xs)):SqT K H a xs:=.inl (.inl h)
def Inv.list(I:Inv X pins O H s)(h:SqL X.K H a xs):∃its:List Value,yW xs its/\PlainL s.heap a its.toArray/\xs.length<=sizeLine:=by
 rcases h with h|⟨o,its,n,hk,hc,hd,hs,hz,r⟩
 ·obtain⟨z,its,n,r,e⟩:=h.ok I.hok
  exact⟨its,r,⟨_,n,e,rfl,rfl,rfl⟩,z⟩
 ·refine⟨its.toList,r,⟨o,n,I.kIn a o hk,hc,hd,by simpa using hs⟩,?_⟩
  have e:=r.length;simp only[Array.length_toList]at e;omega
def Inv.tuple(I:Inv X pins O H s)(h:SqT X.K H a xs):∃its:List Value,yW xs its/\IsTup s.heap a its.toArray/\xs.length<=sizeLine:=by
 rcases h with h|⟨o,its,n,hk,hc,hs,hz,r⟩
 ·obtain⟨z,its,r,p⟩:=h.ok I.hok
  exact⟨its,r,p,z⟩
 ·refine⟨its.toList,r,⟨o,I.kIn a o hk,hc,n,by simpa using hs⟩,?_⟩
  have e:=r.length;simp only[Array.length_toList]at e;omega
def Inv.list_inj(I:Inv X pins O H s)(h:SqL X.K H a xs)(h':SqL X.K H a ys):xs=ys:=by
 obtain⟨its,r,⟨o,n,e,_,_,d⟩,_⟩:=I.list h;obtain⟨its',r',⟨o',n',e',_,_,d'⟩,_⟩:=I.list h';rw[e]at e';cases e';rw[d]at d';injection d' with d1 _
 have:its=its':=by simpa using congrArg Array.toList d1
 subst this;exact r.inj r'
def Inv.tuple_inj(I:Inv X pins O H s)(h:SqT X.K H a xs)(h':SqT X.K H a ys):xs=ys:=by
 obtain⟨its,r,⟨o,e,_,n,d⟩,_⟩:=I.tuple h;obtain⟨its',r',⟨o',e',_,n',d'⟩,_⟩:=I.tuple h';rw[e]at e';cases e';rw[d]at d';injection d' with d1 _
 have:its=its':=by simpa using congrArg Array.toList d1
 subst this;exact r.inj r'
end
abbrev Cx.wish(X:Cx)(E:Value->Shared->Prop):Cx:={X with xe:=E}
abbrev Cx.nox(X:Cx):Cx:=X.wish λ_ _=>False
theorem Cx.Ok.wish{X:Cx}(ok:X.Ok)(E:Value->Shared->Prop):(X.wish E).Ok :=
 ⟨ok.mod,ok.kind,ok.glob,ok.blt,ok.above,ok.inj,ok.has,ok.cab,ok.hd,ok.frames,ok.stk,ok.exf,ok.bs,ok.bsz,ok.noex,ok.exfs,ok.funs,ok.frf⟩
def Cx.Ok.unwish{X:Cx}{E:Value->Shared->Prop}(ok:(X.wish E).Ok):X.Ok :=
 ⟨ok.mod,ok.kind,ok.glob,ok.blt,ok.above,ok.inj,ok.has,ok.cab,ok.hd,ok.frames,ok.stk,ok.exf,ok.bs,ok.bsz,ok.noex,ok.exfs,ok.funs,ok.frf⟩
section
variable{X:Cx}{pins:List (Addr×Obj)}{O:St}{H:Hp}{s:Shared}{E:Value->Shared->Prop}
theorem Inv.wish(I:Inv X pins O H s)(E:Value->Shared->Prop):Inv (X.wish E) pins O H s:=⟨I.ok.wish E,I.os,I.bare,I.base,I.loc,I.cell,I.free,I.freeC,I.pin,I.hok,I.len⟩
theorem Inv.unwish(I:Inv (X.wish E) pins O H s):Inv X pins O H s:=⟨I.ok.unwish,I.os,I.bare,I.base,I.loc,I.cell,I.free,I.freeC,I.pin,I.hok,I.len⟩
theorem SP.unwish{D:Ends}{f:Flow}{s':Shared}(h:SP (X.wish E) pins D f s'):SP X pins D f s':=by
 cases f with
 |next=>obtain⟨O',H',I,q⟩:=h;exact⟨O',H',I.unwish,q⟩|brk=>obtain⟨O',H',I,q⟩:=h;exact⟨O',H',I.unwish,q⟩|cont=>obtain⟨O',H',I,q⟩:=h;exact⟨O',H',I.unwish,q⟩|ret u=>obtain⟨v,O',H',I,r,q⟩:=h;exact⟨v,O',H',I.unwish,r,q⟩
theorem PE.nox(h:PE X.nox e t):PE X e t:=λpins s O H Q I hw =>
 wpAny_mono (h pins s O H Q (I.wish _) hw) (λ_ _ ⟨v,H',I',r,q⟩=>⟨v,H',I'.unwish,r,q⟩) λ_ _ z=>False.elim z
end
section
variable{X:Cx}{st:Stmt}{ZV:List Stmt}{t u:TS}{e:Expr}{te:TE}{pos:Pos}
def tNext:TS:=λD O H=>D.nx O H
def tSeq(t u:TS):TS:=λD O H=>t {D with nx:=u D} O H
def pss_nil:PSs X [] tNext:=λ_ _ O H _ I h=>wpAny_execs_nil ⟨O,H,I,h⟩
def zEB(h1:PS X st t)(h2:PSs X ZV u):PSs X (st::ZV) (tSeq t u):=by
 intro pins s O H D I h;refine wpAny_execs_cons (thn (h1 pins s O H {D with nx:=u D} I h) λf s1 q=>?_)
 cases f with
 |next =>
  obtain⟨O',H',I',q⟩:=q;exact h2 pins s1 O' H' D I' q
 |ret v=>exact q|brk=>exact q|cont=>exact q
def pss_one(h1:PS X st t):PSs X [st] t:=by
 intro pins s O H D I h;refine wpAny_execs_cons (thn (h1 pins s O H D I h) λf s1 q=>?_);cases f with
 |next=>exact wpAny_execs_nil q|ret v=>exact q|brk=>exact q|cont=>exact q
def Inv.quiet{pins:List (Addr×Obj)}{O:St}{H:Hp}{s:Shared}(I:Inv X pins O H s):interactive X.env=false:=by simp[interactive,I.ok.kind]
def tDrop(te:TE):TS:=λD O H=>te O H λ_ H1=>D.nx O H1
def zBv(he:PE X e te)(hs:swapsWith e none pos.line X.env=pure false:=by rfl):PS X (.Expr e pos) (tDrop te):=by
 intro pins s O H D I h;exact wpAny_Expr_any (thn (he pins s O H _ I h) λv s1 ⟨x,H1,I1,r1,q1⟩=>⟨O,H1,I1,q1⟩) I.quiet hs
def tRet(te:TE):TS:=λD O H=>te O H D.rt
def ps_ret(he:PE X e te):PS X (.Return (some e) pos) (tRet te):=by
 intro pins s O H D I h;exact wpAny_Return_some (thn (he pins s O H _ I h) λv s1 ⟨x,H1,I1,r1,q1⟩=>⟨x,O,H1,I1,r1,q1⟩)
def tIfS(c:TT)(t u:TS):TS:=λD O H=>c O H λb H1=>if b=true then t D O H1 else u D O H1
def ps_if{c:Expr}{a b:List Stmt}{tc:TT}(hc:PT X c tc)(ha:PSs X a t)(hb:PSs X b u):PS X (.If c a b pos) (tIfS tc t u):=by
 intro pins s O H D I h;refine wpAny_If (thn (hc pins s O H _ I h) λd s1 ⟨H1,I1,q1⟩=>?_);cases d with
 |true=>exact ha pins s1 O H1 D I1 q1|false=>exact hb pins s1 O H1 D I1 q1
def tNever:TS:=λ_ _ _=>False
def zEC:PS X st tNever:=λ_ _ _ _ _ _ h=>h.elim
end
abbrev TG:=V->St->Hp->(St->Hp->Prop)->Prop
abbrev TGs:=List V->St->Hp->(St->Hp->Prop)->Prop
def PG(X:Cx)(target:Expr)(t:TG):Prop :=
 ∀(pins:List (Addr×Obj)) (s:Shared) (O:St) (H:Hp) (v:V) (u:Value) (Q:St->Hp->Prop),Inv X pins O H s->yp v u->t v O H Q ->
  wpAny (model X.prog X.w) X.A (assign target X.env u) (λ_ s'=>∃O' H',Inv X pins O' H' s'/\Q O' H') X.xe s
def PGs(X:Cx)(ts:List Expr)(t:TGs):Prop :=
 ∀(pins:List (Addr×Obj)) (s:Shared) (O:St) (H:Hp) (vs:List V) (us:List Value) (Q:St->Hp->Prop),Inv X pins O H s->yW vs us->t vs O H Q ->
  wpAny (model X.prog X.w) X.A (assignInOrder ((assignEach ts X.env).map (·.2)) us) (λ_ s'=>∃O' H',Inv X pins O' H' s'/\Q O' H') X.xe s
abbrev TSet:=V->V->V->Hp->(Hp->Prop)->Prop
def PSet(X:Cx)(t:TSet):Prop :=
 ∀(pins:List (Addr×Obj)) (s:Shared) (O:St) (H:Hp) (o i v:V) (ov iv u:Value) (Q:Hp->Prop),Inv X pins O H s->yp o ov->yp i iv->yp v u->t o i v H Q ->
  wpAny (model X.prog X.w) X.A (setItem ov iv u) (λ_ s'=>∃H',Inv X pins O H' s'/\Q H') X.xe s
section
variable{X:Cx}{pos:Pos}
def QR(i:Nat):TG:=λv O H Q=>Q (O.set i (some v)) H
def zBw(hN:X.N.Nodup)(hi:X.N[i]?=some x)(hx:Loc X.env.scope x)(hf:X.fn x=true\/X.env.scope.names.lookup x=some .local:=by first|exact .inl rfl|exact .inr rfl|assumption):PG X (.Name x pos) (QR i):=by
 intro pins s O H v u Q I r h;exact wpAny_assign_Name (Z0 I hN hi hx r (λs' I'=>⟨_,H,I',h⟩) hf)
def gNil:TGs:=λvs O H Q=>vs=[]/\Q O H
def zED(t:TG)(u:TGs):TGs:=λvs O H Q=>∃v r,vs=v::r/\t v O H λO' H'=>u r O' H' Q
def zBx:PGs X [] gNil:=by
 intro pins s O H vs us Q I r h;obtain⟨e,h⟩:=h;subst e;cases r;exact assignInOrder_nil ⟨O,H,I,h⟩
def uC{e:Expr}{es:List Expr}{t:TG}{u:TGs}(h1:PG X e t)(h2:PGs X es u)
  (hs:(assignEach (e::es) X.env).map (·.2)=assign e X.env::(assignEach es X.env).map (·.2):=by rfl):PGs X (e::es) (zED t u):=by
 intro pins s O H vs us Q I r h;obtain⟨v,vr,e1,h⟩:=h;subst e1;cases r with
 |cons r rr =>
  rw[hs];refine assignInOrder_cons (thn (h1 pins s O H _ _ _ I r h) λ_ s1 ⟨O1,H1,I1,q1⟩=>?_);exact h2 pins s1 O1 H1 _ _ Q I1 rr q1
def gTup(K:qH)(n:Nat)(t:TGs):TG:=λv O H Q=>∃a xs,v=.ref a/\SqT K H a xs/\xs.length=n/\t xs O H Q
def zBy(hc:X.calm=true)(h:PGs X es t)
  (hn:(assignEach es X.env).length=n:=by rfl) (hst:(assignEach es X.env).findIdx? (·.1)=none:=by rfl):PG X (.Tuple es k pos) (gTup X.K n t):=by
 intro pins s O H v u Q I r hw;obtain⟨a,xs,e1,hq,hl,hw⟩:=hw;subst e1;cases r;obtain⟨its,rv,ht,hz⟩:=I.tuple hq;refine assign_Tuple_tuple (I.ok.hd hc) ht (by simp[hn,<- hl,rv.length]) hst λh' hx=>?_
 have I1:Inv X pins O H {s with heap:=h'}:=I.kept (t':=s.toks) λb o e=>hx b o (ne_of_lt (lt_size e)) e
 exact h pins _ O H xs _ Q I1 (by simpa using rv) hw
def gSub(to ti:TE)(t:TSet):TG:=λv O H Q=>to O H λo H1=>ti O H1 λi H2=>t o i v H2 λH3=>Q O H3
def zAN{o i:Expr}{to ti:TE}{t:TSet}(ho:PE X o to)(hi:PE X i ti)(hs:PSet X t)
  (ha:∀v,assign (.Subscript o i pos) X.env v=(do
   let ov <- holding [v] (eval o X.env)
   let iv <- holding [v,ov] (eval i X.env)
   standAt pos
   holding [v,ov,iv] (setItem ov iv v)
   release [v,ov,iv] []):=by intro _;rfl):PG X (.Subscript o i pos) (gSub to ti t):=by
 intro pins s O H v u Q I r h;rw[ha];refine qB (wpAny_holding (thn (ho pins s O H _ I h) λov s1 ⟨x,H1,I1,r1,q1⟩=>?_));refine qB (wpAny_holding (thn (hi pins s1 O H1 _ I1 q1) λiv s2 ⟨y,H2,I2,r2,q2⟩=>?_));refine qB (wpAny_standAt (qB (wpAny_holding (thn (hs pins s2 O H2 x y v ov iv u _ I2 r1 r2 r q2) λ_ s3 ⟨H3,I3,q3⟩=>?_))));exact wpAny_release ⟨O,H3,I3,q3⟩
def zFp(te:TE)(g:TG):TS:=λD O H=>te O H λx H1=>g x O H1 D.nx
def zAO{tg e:Expr}{te:TE}{g:TG}(he:PE X e te)(hg:PG X tg g)(hs:swapsWithSole [tg] e pos.line X.env=pure false:=by rfl)(hw:swappedStores [tg] e X.env=pure none:=by rfl)
  (h1:(assignEach [tg] X.env).map (·.2)=[assign tg X.env]:=by rfl):PS X (.Assign [tg] e pos) (zFp te g):=by
 intro pins s O H D I h;refine wpAny_Assign_stores (thn (he pins s O H _ I h) λv s1 ⟨x,H1,I1,r1,q1⟩=>?_) hs hw;rw[h1];exact thn (hg pins s1 O H1 x v _ I1 r1 q1) λ_ s2 q=>q
def ps_set{i:Nat}{x:Str}{e:Expr}{te:TE}{pos':Pos}(hN:X.N.Nodup)(hi:X.N[i]?=some x)(hx:Loc X.env.scope x)(he:PE X e te)(hs:swapsWith e (some (.Name x pos')) pos.line X.env=pure false:=by rfl)(hf:X.fn x=true\/X.env.scope.names.lookup x=some .local:=by first|exact .inl rfl|exact .inr rfl|assumption) :
  PS X (.Assign [.Name x pos'] e pos) (zFp te (QR i)):=by
 intro pins s O H D I h;refine wpAny_Assign_Name (thn (he pins s O H _ I h) λv s1 ⟨y,H1,I1,r1,q1⟩=>?_) hs;exact Z0 I1 hN hi hx r1 (λs2 I2=>⟨_,H1,I2,q1⟩) hf
def tPar(i j:Nat)(ta:TA):TS:=λD O H=>ta O H λvs H1=>∃v w,vs=[v,w]/\D.nx ((O.set i (some v)).set j (some w)) H1
def ps_par{i j:Nat}{x y:Str}{a b:Expr}{ta:TA}{px py pt:Pos}{kt k2 pt2}(hc:X.calm=true)(hN:X.N.Nodup)(hi:X.N[i]?=some x)(hj:X.N[j]?=some y)(hij:i≠j)
  (hx:X.env.scope.names.lookup x=some .local) (hy:X.env.scope.names.lookup y=some .local) (ha:PA X [a,b] ta)
  (hw:swappedStores [.Tuple [.Name x px,.Name y py] kt pt] (.Tuple [a,b] k2 pt2) X.env=pure (some [x,y]))
  (hs:swapsWithSole [.Tuple [.Name x px,.Name y py] kt pt] (.Tuple [a,b] k2 pt2) pos.line X.env=pure false:=by rfl) :
  PS X (.Assign [.Tuple [.Name x px,.Name y py] kt pt] (.Tuple [a,b] k2 pt2) pos) (tPar i j ta):=by
 intro pins s O H D I h;rw[exec_Assign_arm];refine qB (wpAny_standAt ?_);rw[hs];refine qB (qC ?_);rw[if_neg (by decide)];refine qB (Tuple_ (thn (ha _ pins s O H _ I h) λus s1 ⟨vs,H1,I1,r1,q1⟩=>?_));obtain⟨v,w,e1,q1⟩:=q1;subst e1;obtain⟨u1,u2,rfl,rv,rw'⟩:∃u1 u2,us=[u1,u2]/\yp v u1/\yp w u2:=by
  cases r1 with
  |cons p q =>
   cases q with
   |cons p' q' =>
    cases q';exact⟨_,_,rfl,p,p'⟩
 refine wpAny_newObj_type ?_ (by show 2<=sizeLine;decide);have I2:Inv X pins O H1 {s1 with heap:=s1.heap.push {cls:=.type "tuple",data:=.seq [u1,u2].toArray}}:=I1.kept (t':=s1.toks) λb o e=>qA _ e
 rw[hw];refine qB (qC ?_);show wpAny (model X.prog X.w) X.A (do rule "assign.swapped-stores";let items <- unpackItems (.ref s1.heap.objs.size) 2 none;assignInOrder [λv=>bindName X.env y v,λv=>bindName X.env x v] items.reverse;pure Flow.next) _ _ _;refine qB (wpAny_rule (qB (unpackItems_tuple (items:=#[u1,u2]) (I.ok.hd hc) (IsTup.new s1.heap _) λh' hx'=>?_)));have I3:=I2.kept (h':=h') (t':=s1.toks) λb o e=>hx' b o (ne_of_lt (lt_size e)) e
 show wpAny _ _ (assignInOrder [λv=>bindName X.env y v,λv=>bindName X.env x v] [u2,u1] >>= λ_=>pure Flow.next) _ _ _
 refine qB (assignInOrder_cons (wpAny_bindName (Z0 I3 hN hj (.inl hy) rw' (λs2 I4=>?_) (.inr hy))));refine assignInOrder_cons (wpAny_bindName (Z0 I4 hN hi (.inl hx) rv (λs3 I5=>assignInOrder_nil (qC ?_)) (.inr hx)));rw[List.set_comm _ _ (Ne.symm hij)]at I5;exact⟨_,H1,I5,q1⟩
end
section
variable{X:Cx}{pos:Pos}
def zFq(c:TT)(tb:TS):TS:=λD O H=>∃W:Nat->St->Hp->Prop,(∃m,W m O H)/\∀m O H,W m O H ->
 c O H λb H1=>if b=true then ∃N:St->Hp->Prop,(∀O' H',N O' H'->∃m',m'<m/\W m' O' H')/\tb {D with nx:=N,ct:=N,bk:=D.nx} O H1 else D.nx O H1
def zEE{c:Expr}{body:List Stmt}{tc:TT}{tb:TS}(hp:PassesOwn (model X.prog X.w) X.A X.env X.xe)(hc:PT X c tc)(hb:PSs X body tb):PS X (.While c body [] pos) (zFq tc tb):=by
 intro pins s O H D I h;obtain⟨W,⟨m0,w0⟩,turn⟩:=h;refine wpAny_While (codeAny_whileLoop (λn s'=>∃O' H',Inv X pins O' H' s'/\W n O' H') ?_ m0 ⟨O,H,I,w0⟩)
 rintro n s1 ⟨O1,H1,I1,w1⟩
 refine wpAny_passesOwn hp (thn (hc pins s1 O1 H1 _ I1 (turn n O1 H1 w1)) λb s2 ⟨H2,I2,q2⟩=>?_);cases b with
 |true =>
  obtain⟨N,hN,q2⟩:=q2;rw[if_pos rfl];refine wpAny_passesOwn hp (thn (hb pins s2 O1 H2 _ I2 q2) λf s3 q3=>?_);cases f with
  |next =>
   obtain⟨O3,H3,I3,n3⟩:=q3;obtain⟨m',hm,w3⟩:=hN O3 H3 n3;exact⟨m',hm,O3,H3,I3,w3⟩
  |cont =>
   obtain⟨O3,H3,I3,n3⟩:=q3;obtain⟨m',hm,w3⟩:=hN O3 H3 n3;exact⟨m',hm,O3,H3,I3,w3⟩
  |brk=>exact q3|ret v=>exact q3
 |false =>
  rw[if_neg qF];exact wpAny_execs_nil ⟨O1,H2,I2,q2⟩
end
structure It where
 go:Nat->Hp->Prop
 yld:Nat->Hp->V->Hp->Prop
 stop:Nat->Hp->Prop
def zBN(X:Cx)(pins:List (Addr×Obj))(H:Hp)(b:Addr):Prop :=
 H b=none/\b≠X.env.locals/\b∉X.fs/\(b∈X.ex\/X.s₀.heap.objs.size<=b)/\(∀x c,X.env.cells.lookup x=some c->c≠b)/\∀p∈X.pn++pins,p.1≠b
def Inv.fpOk(I:Inv X pins O H s)(hb:s.heap.objs.size<=b)(hn:H' b=none):zBN X pins H' b:=by
 refine⟨hn,ne_of_gt (lt_of_lt_of_le I.lt hb),I.nofs hb,.inr (le_trans I.sz hb),λx c e z=>?_,λp hp z=>?_⟩
 ·obtain⟨v,q⟩:=I.cell x c e
  exact absurd (lt_of_lt_of_le q.lt (by rw[z];exact hb)) (lt_irrefl _)
 ·exact absurd (lt_of_lt_of_le (lt_size (I.pin p hp).1) (by rw[z];exact hb)) (lt_irrefl _)
structure Turn(P:Program)(w:World)(K:qH)(tg:Expr)(J:It)(fp:List Addr)(it:Addr)(tn:Nat->Heap->Prop):Prop where
 mem:it∈fp
 obj:∀i h,tn i h->∀b∈fp,∃o,h.get? b=some o/\∀v,o.data≠.cell v
 keep:∀i h h',tn i h->(∀b∈fp,∀o,h.get? b=some o->h'.get? b=some o)->tn i h'
 item:∀(X:Cx),X.prog=P->X.w=w->X.K=K->X.calm=true->∀(i:Nat) (pins:List (Addr×Obj)) (s:Shared) (O:St) (H:Hp) (E:Value->Shared->Prop),Inv X pins O H s->(∀b∈fp,zBN X pins H b)->tn i s.heap->J.go i H ->
  wpAny (model P w) X.A (pyNext (.ref it)) (λr s1=>∃u,r=some u /\
   wpAny (model P w) X.A (letOwnedTupleGo tg (.ref it) u) (λ_ s2=>∃x H',Inv X pins O H' s2/\yp x u/\J.yld i H x H'/\tn (i+1) s2.heap/\∀b∈fp,H' b=none) E s1) E s
 done:∀(X:Cx),X.prog=P->X.w=w->X.K=K->X.calm=true->∀(i:Nat) (pins:List (Addr×Obj)) (s:Shared) (O:St) (H:Hp) (E:Value->Shared->Prop),Inv X pins O H s->(∀b∈fp,zBN X pins H b)->tn i s.heap->J.stop i H ->
  wpAny (model P w) X.A (pyNext (.ref it)) (λr s1=>r=none/\Inv X pins O H s1) E s
 self:∀(A:Around) (i:Nat) (s:Shared) (Q:Value->Shared->Prop) (E:Value->Shared->Prop),tn i s.heap->Q (.ref it) s->wpAny (model P w) A (pyIter (.ref it)) Q E s
abbrev TI:=St->Hp->(It->Hp->Prop)->Prop
def PIE(X:Cx)(pins:List (Addr×Obj))(O:St)(tg:Expr)(R:It->Hp->Prop)(itv:Value)(s2:Shared):Prop :=
 ∃(it:Addr) (fp:List Addr) (tn:Nat->Heap->Prop) (J:It) (H':Hp),itv=.ref it/\Inv X pins O H' s2/\Turn X.prog X.w X.K tg J fp it tn/\tn 0 s2.heap/\(∀b∈fp,zBN X pins H' b)/\R J H'
def PI(X:Cx)(tg iter:Expr)(wi:TI):Prop :=
 ∀(pins:List (Addr×Obj)) (s:Shared) (O:St) (H:Hp) (R:It->Hp->Prop),Inv X pins O H s->wi O H R ->
  wpAny (model X.prog X.w) X.A (eval iter X.env) (λv s1=>wpAny (model X.prog X.w) X.A (pyIter v) (PIE X pins O tg R) X.xe s1) X.xe s
def uD{E:Value->Shared->Prop}{Q:Unit->Shared->Prop}(ho:s.heap.get? it=some o)(hc:o.cls=.type n)(hd:o.data=.fields vs)
  (hn:["enumerate","zip","dict_itemiterator","dict_reverseitemiterator","odict_iterator","itertools.zip_longest","itertools.pairwise"].contains n=false) (hQ:Q () s):wpAny M A (letOwnedTupleGo tg (.ref it) u) Q E s:=by
 unfold letOwnedTupleGo
 cases tg<;>first
  |exact qC hQ
  | (cases u<;>first
    |exact qC hQ
    | (refine qB (wpAny_load ho ?_)
       rw[hc,hd];show wpAny M A (if(["enumerate","zip","dict_itemiterator","dict_reverseitemiterator","odict_iterator","itertools.zip_longest","itertools.pairwise"].contains n&&vs[0]?==some (rawInt _))=true then _ else _) Q E s;rw[if_neg (by intro h;rw[hn,Bool.false_and]at h;cases h)];exact qC hQ))
def Itl(K:qH)(a:Addr):It :=
 ⟨λi H=>∃xs x,SqL K H a xs/\xs[i]?=some x,λi H x H'=>H'=H/\∀xs,SqL K H a xs->xs[i]?=some x,λi H=>∃xs,SqL K H a xs/\xs.length<=i⟩
def Itt(K:qH)(a:Addr):It :=
 ⟨λi H=>∃xs x,SqT K H a xs/\xs[i]?=some x,λi H x H'=>H'=H/\∀xs,SqT K H a xs->xs[i]?=some x,λi H=>∃xs,SqT K H a xs/\xs.length<=i⟩
def Itr(lo:Int)(n:Nat):It:=⟨λi _=>i<n,λi H x H'=>H'=H/\x=.int (lo+i),λi _=>n<=i⟩
def zBz{P:Program}{w:World}{K:qH}{tg:Expr}(a it:Addr):Turn P w K tg (Itl K a) [it] it (λi h=>h.IsListIter it a i) where
 mem:=by simp
 obj:=λi h st b hb=>by
  have e:b=it:=by simpa using hb
  subst e;obtain⟨o,e,c,d⟩:=st;exact⟨o,e,λv z=>by rw[d]at z;cases z⟩
 keep:=λi h h' st k=>st.at λo e=>k it (by simp) o e
 item:=by
  intro X hP hw hK hc i pins s O H E I hf st hg;subst hP hw hK;obtain⟨xs,x,hq,hx⟩:=hg;obtain⟨its,rv,p,hz⟩:=I.list hq;obtain⟨u,hu,ru⟩:=rv.get hx;obtain⟨f0,f1,f2,f3,f4,f5⟩:=hf it (by simp);refine wpAny_pyNext_list_item st p.isList (x:=u) (by simpa using hu) λh' st' sb=>?_
  have I1:Inv X pins O H {s with heap:=h'}:=I.turned (t':=s.toks) (λb o hb e=>(sb.2 b hb).trans e) f0 f1 f3 f4 f5
  obtain⟨o,e,c,d⟩:=id st';exact⟨u,rfl,uD (s:={s with heap:=h'}) e c d (by decide) ⟨x,H,I1,ru,⟨rfl,λys hy=>by rw[I.list_inj hy hq];exact hx⟩,st',λb hb=>(hf b hb).1⟩⟩
 done:=by
  intro X hP hw hK hc i pins s O H E I hf st hg;subst hP hw hK;obtain⟨xs,hq,hx⟩:=hg;obtain⟨its,rv,p,hz⟩:=I.list hq;obtain⟨f0,f1,f2,f3,f4,f5⟩:=hf it (by simp);have hl:=rv.length;exact wpAny_pyNext_list_end (I.ok.hd hc) st p.isList (by simp;omega) λh' eb=>⟨rfl,I.turned (t':=s.toks) (λb o hb e=>eb b o hb e) f0 f1 f3 f4 f5⟩
 self:=λ_ _ _ _ _ st h=>wpAny_pyIter_listiter st h
def zBO{P:Program}{w:World}{K:qH}{tg:Expr}(a it:Addr):Turn P w K tg (Itt K a) [it] it (λi h=>h.IsTupleIter it a i) where
 mem:=by simp
 obj:=λi h st b hb=>by
  have e:b=it:=by simpa using hb
  subst e;obtain⟨o,e,c,d⟩:=st;exact⟨o,e,λv z=>by rw[d]at z;cases z⟩
 keep:=λi h h' st k=>st.at λo e=>k it (by simp) o e
 item:=by
  intro X hP hw hK hc i pins s O H E I hf st hg;subst hP hw hK;obtain⟨xs,x,hq,hx⟩:=hg;obtain⟨its,rv,p,hz⟩:=I.tuple hq;obtain⟨u,hu,ru⟩:=rv.get hx;obtain⟨f0,f1,f2,f3,f4,f5⟩:=hf it (by simp);refine wpAny_pyNext_tuple_item st (show s.heap.IsTuple a its.toArray from p) (x:=u) (by simpa using hu) λh' st' sb=>?_
  have I1:Inv X pins O H {s with heap:=h'}:=I.turned (t':=s.toks) (λb o hb e=>(sb.2 b hb).trans e) f0 f1 f3 f4 f5
  obtain⟨o,e,c,d⟩:=id st';exact⟨u,rfl,uD (s:={s with heap:=h'}) e c d (by decide) ⟨x,H,I1,ru,⟨rfl,λys hy=>by rw[I.tuple_inj hy hq];exact hx⟩,st',λb hb=>(hf b hb).1⟩⟩
 done:=by
  intro X hP hw hK hc i pins s O H E I hf st hg;subst hP hw hK;obtain⟨xs,hq,hx⟩:=hg;obtain⟨its,rv,p,hz⟩:=I.tuple hq;obtain⟨f0,f1,f2,f3,f4,f5⟩:=hf it (by simp);have hl:=rv.length;exact wpAny_pyNext_tuple_end (I.ok.hd hc) st (show s.heap.IsTuple a its.toArray from p) (by simp;omega) λh' eb=>⟨rfl,I.turned (t':=s.toks) (λb o hb e=>eb b o hb e) f0 f1 f3 f4 f5⟩
 self:=λ_ _ _ _ _ st h=>wpAny_pyIter_tupleiter st h
def zBP{P:Program}{w:World}{K:qH}{tg:Expr}(it:Addr)(lo:Int)(n:Nat):Turn P w K tg (Itr lo n) [it] it (λi h=>IsRangeIter h it (lo+(i:Nat)*1) ((n:Int)-(i:Nat)) 1) where
 mem:=by simp
 obj:=λi h st b hb=>by
  have e:b=it:=by simpa using hb
  subst e;exact⟨_,st,λv z=>by
   have z':Data.fields _=Data.cell v:=z;cases z'⟩
 keep:=λi h h' st k=>k it (by simp) _ st
 item:=by
  intro X hP hw hK hc i pins s O H E I hf st hg;subst hP hw hK;obtain⟨f0,f1,f2,f3,f4,f5⟩:=hf it (by simp);have W:=Walks.range (prog:=X.prog) (w:=X.w) (I.ok.hd hc) it lo 1 n;refine W.item i s _ _ hg st λv h' tk hv st' kk=>?_
  obtain⟨t,rfl⟩:=hv;have I1:Inv X pins O H {s with heap:=h',toks:=tk}:=I.turned (λb o hb e=>kk b o (by simpa using hb) e) f0 f1 f3 f4 f5
  refine⟨_,rfl,uD (s:={s with heap:=h',toks:=tk}) (n:="range_iterator") st' rfl rfl (by decide) ⟨.int (lo+i),H,I1,⟨t,?_⟩,⟨rfl,rfl⟩,st',λb hb=>(hf b hb).1⟩⟩
  rw[Int.mul_one]
 done:=by
  intro X hP hw hK hc i pins s O H E I hf st hg;subst hP hw hK;obtain⟨f0,f1,f2,f3,f4,f5⟩:=hf it (by simp);exact wpAny_pyNext_range_end (I.ok.hd hc) st (by have:n<=i:=hg;omega) λh' eb=>⟨rfl,I.turned (t':=s.toks) (λb o hb e=>eb b o hb e) f0 f1 f3 f4 f5⟩
 self:=λ_ _ _ _ _ st h=>wpAny_pyIter_rangeiter st h
section
variable{X:Cx}{tg:Expr}
def iList(K:qH)(tl:TE):TI:=λO H R=>tl O H λx H1=>∃a,x=.ref a/\(∃xs,SqL K H1 a xs)/\R (Itl K a) H1
def iTup(K:qH)(tl:TE):TI:=λO H R=>tl O H λx H1=>∃a,x=.ref a/\(∃xs,SqT K H1 a xs)/\R (Itt K a) H1
def zB0{l:Expr}{tl:TE}(hl:PE X l tl):PI X tg l (iList X.K tl):=by
 intro pins s O H R I h;refine thn (hl pins s O H _ I h) λv s1 ⟨x,H1,I1,r1,q1⟩=>?_
 obtain⟨a,e,⟨xs,hq⟩,q⟩:=q1;subst e;cases r1;obtain⟨its,rv,p,hz⟩:=I1.list hq;refine wpAny_pyIter_list p.isList ?_;refine⟨s1.heap.objs.size,[s1.heap.objs.size],_,_,H1,rfl,I1.kept (t':=s1.toks) λb o e=>qA _ e,zBz a _,⟨_,get?_push_size _ rfl,rfl,rfl⟩,λb hb=>?_,q⟩;have e:b=s1.heap.objs.size:=by simpa using hb
 subst e;exact I1.fpOk (le_refl _) (I1.hok.fresh (le_refl _))
def pi_tup(hl:PE X l tl):PI X tg l (iTup X.K tl):=by
 intro pins s O H R I h;refine thn (hl pins s O H _ I h) λv s1 ⟨x,H1,I1,r1,q1⟩=>?_
 obtain⟨a,e,⟨xs,hq⟩,q⟩:=q1;subst e;cases r1;obtain⟨its,rv,p,hz⟩:=I1.tuple hq;refine wpAny_pyIter_tuple (show s1.heap.IsTuple a its.toArray from p) ?_;refine⟨s1.heap.objs.size,[s1.heap.objs.size],_,_,H1,rfl,I1.kept (t':=s1.toks) λb o e=>qA _ e,zBO a _,⟨_,get?_push_size _ rfl,rfl,rfl⟩,λb hb=>?_,q⟩;have e:b=s1.heap.objs.size:=by simpa using hb
 subst e;exact I1.fpOk (le_refl _) (I1.hok.fresh (le_refl _))
def zAP{pins:List (Addr×Obj)}{O:St}{H:Hp}{s:Shared}{R:It->Hp->Prop}{E:Value->Shared->Prop}{lo hi:Int}{t u v:Tok}{tk:Nat}(I:Inv X pins O H s)(h1:-(2^62)<=lo)(h2:lo<2^62)(h3:-(2^62)<=hi)(h4:hi<2^62)
  (q:R (Itr lo (hi-lo).toNat) H):wpAny (model X.prog X.w) X.A (pyIter (.ref s.heap.objs.size)) (PIE X pins O tg R) E {s with heap:=s.heap.push {cls:=.type "range",data:=.fields #[.int lo t,.int hi u,.int 1 v]},toks:=tk}:=by
 refine wpAny_pyIter_range (IsRange.new ..) (small_one h1 h2 h3 h4) ?_;have I1:Inv X pins O H {s with heap:=s.heap.push {cls:=.type "range",data:=.fields #[.int lo t,.int hi u,.int 1 v]},toks:=tk}:=I.kept λb o e=>qA _ e
 refine⟨(s.heap.push {cls:=.type "range",data:=.fields #[.int lo t,.int hi u,.int 1 v]}).objs.size,[(s.heap.push {cls:=.type "range",data:=.fields #[.int lo t,.int hi u,.int 1 v]}).objs.size],_,_,H,rfl,
  I1.kept (t':=tk) λb o e=>qA _ e,zBP _ lo (hi-lo).toNat,?_,λb hb=>?_,q⟩
 ·have e1:lo+((0:Nat):Int)*1=lo:=by simp
  have e2:(((hi-lo).toNat:Nat):Int)-((0:Nat):Int)=Builtin.Range.rangeSize lo hi 1:=by rw[rangeSize_one];split<;>omega
  show IsRangeIter _ _ (lo+((0:Nat):Int)*1) ((((hi-lo).toNat:Nat):Int)-((0:Nat):Int)) 1
  rw[e1,e2];exact get?_push_size _ rfl
 ·have e:b=(s.heap.push {cls:=.type "range",data:=.fields #[.int lo t,.int hi u,.int 1 v]}).objs.size:=by simpa using hb
  subst e;exact I1.fpOk (le_refl _) (I1.hok.fresh (le_refl _))
def iRng1(ta:TA):TI:=λO H R=>ta O H λvs H1=>∃j:Int,vs=[.int j]/\-(2^62)<=j/\j<2^62/\R (Itr 0 j.toNat) H1
def iRng2(ta:TA):TI:=λO H R=>ta O H λvs H1=>∃i j:Int,vs=[.int i,.int j]/\(-(2^62)<=i/\i<2^62/\-(2^62)<=j/\j<2^62)/\R (Itr i (j-i).toNat) H1
def GN{a:Expr}{ta:TA}{p pos:Pos}(hg:Gl X "range")(hm:X.mg "range"=none)(ha:PA X [a] ta)(hs:starEach [a] X.env=[(false,eval a X.env)]:=by rfl):PI X tg (.Call (.Name "range" p) [a] [] pos) (iRng1 ta):=by
 intro pins s O H R I h;refine Call_ (YL I hg hm boot_range (PyProof.Rows.callWith_type1 (thn (ha pos pins s O H _ I h) λus s1 ⟨vs,H1,I1,r1,q1⟩=>?_) hs rfl));obtain⟨j,e,q1,q2,q⟩:=q1;subst e;cases r1 with
 |cons r rr =>
  cases rr;obtain⟨t,rfl⟩:=r;exact call_range_1 (zAP I1 (by omega) (by omega) q1 q2 (by simpa using q))
def zB1(hg:Gl X "range")(hm:X.mg "range"=none)(ha:PA X [a,b] ta)(hs:starEach [a,b] X.env=[(false,eval a X.env),(false,eval b X.env)]:=by rfl)(hs2:starEach [b] X.env=[(false,eval b X.env)]:=by rfl) :
  PI X tg (.Call (.Name "range" p) [a,b] [] pos) (iRng2 ta):=by
 intro pins s O H R I h;refine Call_ (YL I hg hm boot_range (PyProof.Rows.callWith_type1 (thn (ha pos pins s O H _ I h) λus s1 ⟨vs,H1,I1,r1,q1⟩=>?_) (by rw[hs,hs2]) (by rw[hs2];rfl)));obtain⟨i,j,e,⟨q1,q2,q3,q4⟩,q⟩:=q1;subst e;cases r1 with
 |cons r rr =>
  cases rr with
  |cons r' rr =>
   cases rr;obtain⟨t,rfl⟩:=r;obtain⟨t',rfl⟩:=r';exact call_range_2 (zAP I1 q1 q2 q3 q4 q)
def tFor(wi:TI)(g:TG)(tb:TS):TS:=λD O H=>wi O H λJ H1=>∃W:Nat->Nat->St->Hp->Prop,(∃m,W 0 m O H1)/\∀i m O H,W i m O H ->
 (J.stop i H/\D.nx O H)\/(J.go i H/\∃N:St->Hp->Prop,(∀O' H',N O' H'->∃m',m'<m/\W (i+1) m' O' H')/\∀x H',J.yld i H x H'->g x O H' λO2 H2=>tb {D with nx:=N,ct:=N,bk:=D.nx} O2 H2)
def GO(fp:List Addr)(h:Heap):List (Addr×Obj):=fp.filterMap λb=>(h.get? b).map λo=>(b,o)
def JZ(hb:b∈fp)(e:h.get? b=some o):(b,o)∈GO fp h:=mem_filterMap.mpr ⟨b,hb,by rw[e];rfl⟩
def zB2(hp:p∈GO fp h):p.1∈fp/\h.get? p.1=some p.2:=by
 obtain⟨b,hb,e⟩:=mem_filterMap.mp hp;cases q:h.get? b with
 |none=>rw[q]at e;cases e
 |some o =>
  rw[q]at e;have e':(b,o)=p:=qJ e;subst e';exact⟨hb,q⟩
def Inv.pinned(I:Inv X pins O H s)(hf:∀b∈fp,zBN X pins H b)(ho:∀b∈fp,∃o,s.heap.get? b=some o/\∀v,o.data≠.cell v):Inv X (pins++GO fp s.heap) O H s :=
 I.pins_of λp hp=>(mem_append.mp hp).elim (λz=>I.pin p (qK _ z)) λz=>by
  obtain⟨hb,e⟩:=zB2 z;obtain⟨f0,f1,f2,_⟩:=hf p.1 hb;obtain⟨o,e',d⟩:=ho p.1 hb;rw[e]at e';cases e';exact⟨e,f0,f1,f2,d⟩
def Inv.unpinned(I:Inv X (pins++pl) O H s):Inv X pins O H s:=I.pins_of λp hp=>I.pin p (qK _ (mem_append_left _ hp))
def zB3(hp:PassesOwn (model X.prog X.w) X.A X.env X.xe)(hc:X.calm=true)(hi:PI X tg iter wi)(hg:PG X tg g)(hb:PSs X body tb)
  (hs:∀x,foldedSetIterable iter X.env x=pure x:=by intro _;rfl):PS X (.For tg iter body [] pos) (tFor wi g tb):=by
 intro pins s O H D I h;refine wpAny_For (thn (hi pins s O H _ I h) λv s1 h1=>thn h1 λitv s2 h2=>?_) hs;obtain⟨it,fp,tn,J,H2,e,I2,T,st2,f2,W,⟨m0,w0⟩,turn⟩:=h2;subst e
 -- what stays true of the iterator's objects through the loop
 have stat:∀{H':Hp},(∀b∈fp,H' b=none)->∀b∈fp,zBN X pins H' b:=λhn b hb=>⟨hn b hb,(f2 b hb).2⟩
 refine codeAny_forLoop_any (λn s'=>∃i O' H',Inv X pins O' H' s'/\tn i s'.heap/\(∀b∈fp,H' b=none)/\W i n O' H') ?_ m0 ⟨0,O,H2,I2,st2,λb hb=>(f2 b hb).1,w0⟩
 rintro n s3 ⟨i,O3,H3,I3,st3,fr3,w3⟩
 rcases turn i n O3 H3 w3 with⟨stop,qn⟩|⟨go,N,hN,step⟩
 ·refine wpAny_passesOwn hp (thn (T.done X rfl rfl rfl hc i pins s3 O3 H3 X.xe I3 (stat fr3) st3 stop) λr s4 ⟨hr,I4⟩=>?_)
  subst hr;exact wpAny_execs_nil ⟨O3,H3,I4,qn⟩
 ·refine wpAny_passesOwn hp (thn (T.item X rfl rfl rfl hc i pins s3 O3 H3 X.xe I3 (stat fr3) st3 go) λr s4 ⟨u,hr,h4⟩=>?_)
  subst hr;refine wpAny_passesOwn hp (thn h4 λ_ s5 ⟨x,H5,I5,r5,y5,st5,fr5⟩=>?_);have I5':=I5.pinned (stat fr5) (T.obj _ _ st5);refine wpAny_passesOwn hp (thn (hg _ s5 O3 H5 x u _ I5' r5 (step x H5 y5)) λ_ s6 ⟨O6,H6,I6,q6⟩=>?_);refine wpAny_passesOwn hp (thn (hb _ s6 O6 H6 _ I6 q6) λf s7 q7=>?_);have again:∀{O7:St} {H7:Hp},Inv X (pins++GO fp s5.heap) O7 H7 s7->N O7 H7->∃m,m<n/\∃i O' H',Inv X pins O' H' s7/\tn i s7.heap/\(∀b∈fp,H' b=none)/\W i m O' H':=λ{O7 H7} I7 n7=>by
   obtain⟨m',hm,w7⟩:=hN O7 H7 n7;refine⟨m',hm,i+1,O7,H7,I7.unpinned,T.keep _ _ _ st5 λb hb o e=>(I7.pin (b,o) (qK _ (qK _ (JZ hb e)))).1,λb hb=>?_,w7⟩;obtain⟨o,e,d⟩:=T.obj _ _ st5 b hb;exact(I7.pin (b,o) (qK _ (qK _ (JZ hb e)))).2.1
  cases f with
  |next=>obtain⟨O7,H7,I7,n7⟩:=q7;exact again I7 n7|cont=>obtain⟨O7,H7,I7,n7⟩:=q7;exact again I7 n7|brk=>obtain⟨O7,H7,I7,q7⟩:=q7;exact⟨O7,H7,I7.unpinned,q7⟩|ret v=>obtain⟨x7,O7,H7,I7,r7,q7⟩:=q7;exact⟨x7,O7,H7,I7.unpinned,r7,q7⟩
end
def zEF{K:qH}{a:Addr}{xs:List V}{g:TG}{tb:TS}{D:Ends}{O:St}{H:Hp}(Pv:Nat->St->Hp->Prop)(h0:Pv 0 O H)(hl:∀i O H,i<=xs.length->Pv i O H->SqL K H a xs)
  (hs:∀i x O H,xs[i]?=some x->Pv i O H->g x O H λO2 H2=>tb {D with nx:=Pv (i+1),ct:=Pv (i+1),bk:=D.nx} O2 H2) (hd:∀O H,Pv xs.length O H->D.nx O H) :
  ∃W:Nat->Nat->St->Hp->Prop,(∃m,W 0 m O H)/\∀i m O H,W i m O H ->
   ((Itl K a).stop i H/\D.nx O H)\/((Itl K a).go i H/\∃N:St->Hp->Prop,(∀O' H',N O' H'->∃m',m'<m/\W (i+1) m' O' H')/\∀x H',(Itl K a).yld i H x H'->g x O H' λO2 H2=>tb {D with nx:=N,ct:=N,bk:=D.nx} O2 H2):=by
 refine⟨λi m O H=>m=xs.length-i/\i<=xs.length/\Pv i O H,⟨xs.length,by simp,zero_le _,h0⟩,?_⟩
 rintro i m O H ⟨rfl,hi,p⟩
 have q:=hl i O H hi p;by_cases hlt:i<xs.length
 ·refine .inr ⟨⟨xs,xs[i],q,by simp[hlt]⟩,Pv (i+1),λO' H' p'=>⟨xs.length-(i+1),by omega,rfl,hlt,p'⟩,λx H' y=>?_⟩
  obtain⟨e,y⟩:=y;subst e;exact hs i x O _ (y xs q) p
 ·have e:i=xs.length:=by omega
  subst e;exact .inl ⟨⟨xs,q,le_refl _⟩,hd O H p⟩
def zB4{lo:Int}{n:Nat}{g:TG}{tb:TS}{D:Ends}{O:St}{H:Hp}(Pv:Nat->St->Hp->Prop)(h0:Pv 0 O H)
  (hs:∀i O H,i<n->Pv i O H->g (.int (lo+i)) O H λO2 H2=>tb {D with nx:=Pv (i+1),ct:=Pv (i+1),bk:=D.nx} O2 H2) (hd:∀O H,Pv n O H->D.nx O H) :
  ∃W:Nat->Nat->St->Hp->Prop,(∃m,W 0 m O H)/\∀i m O H,W i m O H ->
   ((Itr lo n).stop i H/\D.nx O H)\/((Itr lo n).go i H/\∃N:St->Hp->Prop,(∀O' H',N O' H'->∃m',m'<m/\W (i+1) m' O' H')/\∀x H',(Itr lo n).yld i H x H'->g x O H' λO2 H2=>tb {D with nx:=N,ct:=N,bk:=D.nx} O2 H2):=by
 refine⟨λi m O H=>m=n-i/\i<=n/\Pv i O H,⟨n,by simp,zero_le _,h0⟩,?_⟩
 rintro i m O H ⟨rfl,hi,p⟩
 by_cases hlt:i<n
 ·refine .inr ⟨hlt,Pv (i+1),λO' H' p'=>⟨n-(i+1),by omega,rfl,hlt,p'⟩,λx H' y=>?_⟩
  obtain⟨e,y⟩:=y;subst e y;exact hs i O _ hlt p
 ·have e:i=n:=by omega
  subst e;exact .inl ⟨le_refl _,hd O H p⟩
abbrev R2:=V->V->Hp->VK->Prop
def OpR(X:Cx)(f:Value->Value->Sem Value)(r:R2):Prop :=
 ∀(pins:List (Addr×Obj)) (s:Shared) (O:St) (H:Hp) (x y:V) (v u:Value) (Q:VK),Inv X pins O H s->yp x v->yp y u->r x y H Q ->
  wpAny (model X.prog X.w) X.A (f v u) (EP X pins O Q) X.xe s
def UnR(X:Cx)(f:Value->Sem Value)(r:V->Hp->VK->Prop):Prop :=
 ∀(pins:List (Addr×Obj)) (s:Shared) (O:St) (H:Hp) (x:V) (v:Value) (Q:VK),Inv X pins O H s->yp x v->r x H Q ->
  wpAny (model X.prog X.w) X.A (f v) (EP X pins O Q) X.xe s
def wy(X:Cx)(f:Value)(r:List V->Hp->VK->Prop):Prop :=
 ∀(pins:List (Addr×Obj)) (s:Shared) (O:St) (H:Hp) (xs:List V) (us:List Value) (Q:VK),Inv X pins O H s->yW xs us->r xs H Q ->
  wpAny (model X.prog X.w) X.A (call f us) (EP X pins O Q) X.xe s
def tOp(r:R2)(ta tb:TE):TE:=λO H Q=>ta O H λx H1=>tb O H1 λy H2=>r x y H2 Q
def tUn(r:V->Hp->VK->Prop)(ta:TE):TE:=λO H Q=>ta O H λx H1=>r x H1 Q
def rI(C:Int->Int->Prop)(g:Int->Int->V):R2:=λx y H Q=>∃i j,x=.int i/\y=.int j/\C i j/\Q (g i j) H
def rI0(g:Int->Int->V):R2:=λx y H Q=>∃i j,x=.int i/\y=.int j/\Q (g i j) H
def rU(g:Int->V):V->Hp->VK->Prop:=λx H Q=>∃i,x=.int i/\Q (g i) H
section
variable{X:Cx}{a b c:Expr}{ta tb tc:TE}{pos:Pos}
def binT(ha:PE X a ta)(hb:PE X b tb){R:V->V->Hp->Prop}(I:Inv X pins O H s)
  (h:ta O H λx H1=>tb O H1 λy H2=>R x y H2) {Q:Value->Shared->Prop} {f:Value->Value->Sem Value}
  (hf:∀v u s2 x y H2,Inv X pins O H2 s2->yp x v->yp y u->R x y H2->wpAny (model X.prog X.w) X.A (f v u) Q X.xe s2) :
  wpAny (model X.prog X.w) X.A (eval a X.env) (λv s₁=>wpAny (model X.prog X.w) X.A (eval b X.env) (λu s₂=>wpAny (model X.prog X.w) X.A (f v u) Q X.xe s₂) X.xe s₁) X.xe s:=by
 refine thn (ha pins s O H _ I h) λv s1 ⟨x,H1,I1,r1,q1⟩=>?_
 refine thn (hb pins s1 O H1 _ I1 q1) λu s2 ⟨y,H2,I2,r2,q2⟩=>?_
 exact hf v u s2 x y H2 I2 r1 r2 q2
def pe_op(ho:OpR X (binaryOp op) r)(ha:PE X a ta)(hb:PE X b tb):PE X (.BinOp a op b pos) (tOp r ta tb):=by
 intro pins s O H Q I h;exact wpAny_BinOp (binT ha hb I h λv u s2 x y H2 I2 rx ry q=>ho pins s2 O H2 x y v u Q I2 rx ry q)
def pe_un{r:V->Hp->VK->Prop}(ho:UnR X (unaryOp op) r)(ha:PE X a ta):PE X (.UnaryOp op a pos) (tUn r ta):=by
 intro pins s O H Q I h;exact UnaryOp_ (thn (ha pins s O H _ I h) λv s1 ⟨x,H1,I1,r1,q1⟩=>ho pins s1 O H1 x v Q I1 r1 q1)
def opI{f:Value->Value->Sem Value}{C:Int->Int->Prop}{g:Int->Int->Int}
  (rule:∀(i j:Int) (t u:Tok) (s:Shared) (Q:Value->Shared->Prop) (E:Value->Shared->Prop),C i j->Q (.int (g i j) s.toks) {s with toks:=s.toks+1}->wpAny (model X.prog X.w) X.A (f (.int i t) (.int j u)) Q E s) :
  OpR X f (rI C λi j=>.int (g i j)):=by
 intro pins s O H x y v u Q I rx ry h;obtain⟨i,j,rfl,rfl,hc,q⟩:=h;obtain⟨t,rfl⟩:=rx;obtain⟨t',rfl⟩:=ry;exact rule i j t t' s _ _ hc ⟨.int (g i j),H,I.tok _,⟨_,rfl⟩,q⟩
def opI0{f:Value->Value->Sem Value}{g:Int->Int->Int}
  (rule:∀(i j:Int) (t u:Tok) (s:Shared) (Q:Value->Shared->Prop) (E:Value->Shared->Prop),Q (.int (g i j) s.toks) {s with toks:=s.toks+1}->wpAny (model X.prog X.w) X.A (f (.int i t) (.int j u)) Q E s) :
  OpR X f (rI0 λi j=>.int (g i j)):=by
 intro pins s O H x y v u Q I rx ry h;obtain⟨i,j,rfl,rfl,q⟩:=h;obtain⟨t,rfl⟩:=rx;obtain⟨t',rfl⟩:=ry;exact rule i j t t' s _ _ ⟨.int (g i j),H,I.tok _,⟨_,rfl⟩,q⟩
def opB0{f:Value->Value->Sem Value}{g:Int->Int->Bool}
  (rule:∀(i j:Int) (t u:Tok) (s:Shared) (Q:Value->Shared->Prop) (E:Value->Shared->Prop),Q (.bool (g i j)) s->wpAny (model X.prog X.w) X.A (f (.int i t) (.int j u)) Q E s) :
  OpR X f (rI0 λi j=>.bl (g i j)):=by
 intro pins s O H x y v u Q I rx ry h;obtain⟨i,j,rfl,rfl,q⟩:=h;obtain⟨t,rfl⟩:=rx;obtain⟨t',rfl⟩:=ry;exact rule i j t t' s _ _ ⟨.bl (g i j),H,I,rfl,q⟩
def CPow(i j:Int):Prop:=0<=j/\j<=1000000/\i.natAbs<2^64
def CMul(i j:Int):Prop:=(-(2^64)<i/\i<2^64)\/(-(2^64)<j/\j<2^64)
def CMul.ok{i j:Int}(h:CMul i j):IntMulOk i j:=by
 rcases h with⟨h1,h2⟩|⟨h1,h2⟩
 ·exact .of_left (intBits_le_64 h1 h2)
 ·exact .of_right (intBits_le_64 h1 h2)
def op_add:OpR X (binaryOp .Add) (rI0 λi j=>.int (i+j)):=opI0 λ_ _ _ _ _ _ _ q=>add_int q
def op_sub:OpR X (binaryOp .Sub) (rI0 λi j=>.int (i-j)):=opI0 λ_ _ _ _ _ _ _ q=>sub_int q
def op_mod:OpR X (binaryOp .Mod) (rI (λ_ j=>0<j) λi j=>.int (i%j)):=opI λi j _ _ _ _ _ hc q=>by
 have h1:(0:Int)<j:=hc;exact mod_int' (by omega) (by rw[Int.fmod_eq_emod_of_nonneg i (by omega)];exact q)
def op_pow:OpR X (binaryOp .Pow) (rI CPow λi j=>.int (i^j.toNat)):=opI λ_ _ _ _ _ _ _ hc q=>pow_int_small hc.1 hc.2.1 hc.2.2 q
def unI{f:Value->Sem Value}{g:Int->Int}
  (rule:∀(i:Int) (t:Tok) (s:Shared) (Q:Value->Shared->Prop) (E:Value->Shared->Prop),Q (.int (g i) s.toks) {s with toks:=s.toks+1}->wpAny (model X.prog X.w) X.A (f (.int i t)) Q E s) :
  UnR X f (rU λi=>.int (g i)):=by
 intro pins s O H x v Q I rx h;obtain⟨i,rfl,q⟩:=h;obtain⟨t,rfl⟩:=rx;exact rule i t s _ _ ⟨.int (g i),H,I.tok _,⟨_,rfl⟩,q⟩
def zFr:UnR X (unaryOp .USub) (rU λi=>.int (-i)):=unI λ_ _ _ _ _ q=>neg_int q
end
def scal:V->V->Bool
 | .non,.non=>true | .non,.int _=>true | .int _,.non=>true | .non,.bl _=>true | .bl _,.non=>true | .non,.str _=>true | .str _,.non=>true
 | .int _,.int _=>true | .bl _,.bl _=>true | .str _,.str _=>true | .byt _,.byt _=>true
 | .int _,.str _=>true | .str _,.int _=>true | .bl _,.str _=>true | .str _,.bl _=>true
 |_,_=>false
def rEq:R2:=λx y H Q=>scal x y=true/\Q (.bl (decide (x=y))) H
def rNe:R2:=λx y H Q=>scal x y=true/\Q (.bl (!decide (x=y))) H
def zB5:decide (V.int i=V.int j)=(i==j):=by
 rw[Bool.eq_iff_iff];simp
def zFs:decide (V.bl i=V.bl j)=(i==j):=by
 rw[Bool.eq_iff_iff];simp
def zB6:decide (V.str i=V.str j)=(i==j):=by
 rw[Bool.eq_iff_iff];simp
def zB7:decide (V.byt i=V.byt j)=(i.toList==j.toList):=by
 rw[Bool.eq_iff_iff];cases i;cases j;simp
section
variable{X:Cx}{a b c:Expr}{ta tb tc:TE}{pos:Pos}
def zx(I:Inv X pins O H s)(q:Q (.bl k) H)(e:k=k'):EP X pins O Q (.bool k') s:=by
 subst e;exact⟨.bl k,H,I,rfl,q⟩
def op_eq:OpR X (compareOp .Eq) rEq:=by
 intro pins s O H x y v u Q I rx ry h;obtain⟨hs,q⟩:=h;cases x with
 |non =>
  cases rx;cases y with
  |non=>cases ry;exact PySem.EqNone.eq_none_none (zx I q (by simp))|bl j=>cases ry;exact PySem.EqNone.eq_none_bool (zx I q (by simp))|int j=>obtain⟨t',rfl⟩:=ry;exact PySem.EqNone.eq_none_int (zx I q (by simp))|str j=>obtain⟨t',rfl⟩:=ry;exact PySem.EqNone.eq_none_str (zx I q (by simp))|_=>exact absurd (show false=true from hs) qF
 |bl i =>
  cases rx;cases y with
  |non=>cases ry;exact PySem.EqNone.eq_bool_none (zx I q (by simp))|bl j=>cases ry;exact eq_bool (zx I q zFs)|str j=>obtain⟨t',rfl⟩:=ry;exact PySem.EqMixed.eq_bool_str (zx I q (by simp))|_=>exact absurd (show false=true from hs) qF
 |int i =>
  obtain⟨t,rfl⟩:=rx;cases y with
  |non=>cases ry;exact PySem.EqNone.eq_int_none (zx I q (by simp))|int j=>obtain⟨t',rfl⟩:=ry;exact eq_int (zx I q zB5)|str j=>obtain⟨t',rfl⟩:=ry;exact PySem.EqMixed.eq_int_str (zx I q (by simp))|_=>exact absurd (show false=true from hs) qF
 |str i =>
  obtain⟨t,rfl⟩:=rx;cases y with
  |non=>cases ry;exact PySem.EqNone.eq_str_none (zx I q (by simp))|bl j=>cases ry;exact PySem.EqMixed.eq_str_bool (zx I q (by simp))|int j=>obtain⟨t',rfl⟩:=ry;exact PySem.EqMixed.eq_str_int (zx I q (by simp))|str j=>obtain⟨t',rfl⟩:=ry;exact eq_str (zx I q zB6)|_=>exact absurd (show false=true from hs) qF
 |byt i =>
  obtain⟨t,rfl⟩:=rx;cases y with
  |byt j=>obtain⟨t',rfl⟩:=ry;exact PySem.W.eq_bytes (zx I q zB7)|_=>exact absurd (show false=true from hs) qF
 |_=>cases y<;>exact absurd (show false=true from hs) qF
def op_ne:OpR X (compareOp .NotEq) rNe:=by
 intro pins s O H x y v u Q I rx ry h;obtain⟨hs,q⟩:=h;cases x with
 |non =>
  cases rx;cases y with
  |non=>cases ry;exact PySem.EqNone.ne_none_none (zx I q (by simp))|bl j=>cases ry;exact PySem.EqNone.ne_none_bool (zx I q (by simp))|int j=>obtain⟨t',rfl⟩:=ry;exact PySem.EqNone.ne_none_int (zx I q (by simp))|str j=>obtain⟨t',rfl⟩:=ry;exact PySem.EqNone.ne_none_str (zx I q (by simp))|_=>exact absurd (show false=true from hs) qF
 |bl i =>
  cases rx;cases y with
  |non=>cases ry;exact PySem.EqNone.ne_bool_none (zx I q (by simp))|bl j=>cases ry;exact ne_bool (zx I q (congrArg not zFs))|str j=>obtain⟨t',rfl⟩:=ry;exact PySem.EqMixed.ne_bool_str (zx I q (by simp))|_=>exact absurd (show false=true from hs) qF
 |int i =>
  obtain⟨t,rfl⟩:=rx;cases y with
  |non=>cases ry;exact PySem.EqNone.ne_int_none (zx I q (by simp))|int j=>obtain⟨t',rfl⟩:=ry;exact ne_int (zx I q (congrArg not zB5))|str j=>obtain⟨t',rfl⟩:=ry;exact PySem.EqMixed.ne_int_str (zx I q (by simp))|_=>exact absurd (show false=true from hs) qF
 |str i =>
  obtain⟨t,rfl⟩:=rx;cases y with
  |non=>cases ry;exact PySem.EqNone.ne_str_none (zx I q (by simp))|bl j=>cases ry;exact PySem.EqMixed.ne_str_bool (zx I q (by simp))|int j=>obtain⟨t',rfl⟩:=ry;exact PySem.EqMixed.ne_str_int (zx I q (by simp))|str j=>obtain⟨t',rfl⟩:=ry;exact ne_str (zx I q (congrArg not zB6))|_=>exact absurd (show false=true from hs) qF
 |byt i =>
  obtain⟨t,rfl⟩:=rx;cases y with
  |byt j=>obtain⟨t',rfl⟩:=ry;exact PySem.W.ne_bytes (zx I q (congrArg not zB7))|_=>exact absurd (show false=true from hs) qF
 |_=>cases y<;>exact absurd (show false=true from hs) qF
def op_lt:OpR X (compareOp .Lt) (rI0 λi j=>.bl (decide (i<j))):=opB0 λ_ _ _ _ _ _ _ q=>lt_int q
def op_le:OpR X (compareOp .LtE) (rI0 λi j=>.bl (decide (i<=j))):=opB0 λ_ _ _ _ _ _ _ q=>le_int q
def op_gt:OpR X (compareOp .Gt) (rI0 λi j=>.bl (decide (j<i))):=opB0 λ_ _ _ _ _ _ _ q=>gt_int q
def op_ge:OpR X (compareOp .GtE) (rI0 λi j=>.bl (decide (j<=i))):=opB0 λ_ _ _ _ _ _ _ q=>ge_int q
def OpR.or{f:Value->Value->Sem Value}{r r':R2}(h:OpR X f r)(h':OpR X f r'):OpR X f (λx y H Q=>r x y H Q\/r' x y H Q):=by
 intro pins s O H x y v u Q I rx ry q;rcases q with q|q
 ·exact h pins s O H x y v u Q I rx ry q
 ·exact h' pins s O H x y v u Q I rx ry q
def pe_cmpR(ho:OpR X (compareOp op) r)(ha:PE X a ta)(hb:PE X b tb)(hm:behindInMarks op b=false):PE X (.Compare a [op] [b] pos) (tOp r ta tb):=by
 intro pins s O H Q I h;exact wpAny_Compare1 (binT ha hb I h λv u s2 x y H2 I2 rx ry q=>ho pins s2 O H2 x y v u Q I2 rx ry q) hm
def tTest(t:TE):TT:=λO H Q=>t O H λx H'=>∃k,x=.bl k/\Q k H'
def pt_cmpR(ho:OpR X (compareOp op) r)(ha:PE X a ta)(hb:PE X b tb)(hm:behindInMarks op b=false):PT X (.Compare a [op] [b] pos) (tTest (tOp r ta tb)):=by
 intro pins s O H Q I h;refine wpAny_isTrue_Compare1 (thn (ha pins s O H _ I h) λv s1 ⟨x,H1,I1,r1,q1⟩=>thn (hb pins s1 O H1 _ I1 q1) λu s2 ⟨y,H2,I2,r2,q2⟩ =>
  thn (ho pins s2 O H2 x y v u _ I2 r1 r2 q2) λc s3 ⟨z,H3,I3,r3,k,e,q3⟩=>?_) hm
 subst e;cases r3;exact wpAny_truthy_bool ⟨H3,I3,q3⟩
def zB8(r r':R2)(ta tb tc:TE):TE:=λO H Q=>ta O H λx H1=>tb O H1 λy H2=>r x y H2 λz H3=>∃k,z=.bl k /\
 (if k=true then tc O H3 λw' H4=>r' y w' H4 Q else Q (.bl false) H3)
def zEG(ho:OpR X (compareOp op) r)(ho':OpR X (compareOp op') r')(ha:PE X a ta)(hb:PE X b tb)(hc:PE X c tc)
  (hm:lastMarks [op,op'] [b,c]=false:=by with_unfolding_all rfl):PE X (.Compare a [op,op'] [b,c] pos) (zB8 r r' ta tb tc):=by
 intro pins s O H Q I h;refine Compare_chain (thn (ha pins s O H _ I h) λv s1 ⟨x,H1,I1,r1,q1⟩=>chain_link (thn (hb pins s1 O H1 _ I1 q1) λu s2 ⟨y,H2,I2,r2,q2⟩ =>
  thn (ho pins s2 O H2 x y v u _ I2 r1 r2 q2) λd s3 ⟨z,H3,I3,r3,k,e,q3⟩=>?_)) hm
 subst e;cases r3;refine wpAny_truthy_bool ?_;cases k with
 |false=>exact ite_ff ⟨.bl false,H3,I3,rfl,q3⟩|true=>exact ite_tt (chain_last (thn (hc pins s3 O H3 _ I3 q3) λw' s4 ⟨z',H4,I4,r4,q4⟩=>ho' pins s4 O H4 y z' u w' Q I4 r2 r4 q4))
def zEH(ho:OpR X (compareOp op) r)(ho':OpR X (compareOp op') r')(ha:PE X a ta)(hb:PE X b tb)(hc:PE X c tc)
  (hm:lastMarks [op,op'] [b,c]=false:=by with_unfolding_all rfl):PT X (.Compare a [op,op'] [b,c] pos) (tTest (zB8 r r' ta tb tc)):=by
 intro pins s O H Q I h;refine isTrue_chain (thn (ha pins s O H _ I h) λv s1 ⟨x,H1,I1,r1,q1⟩=>test_link (thn (hb pins s1 O H1 _ I1 q1) λu s2 ⟨y,H2,I2,r2,q2⟩ =>
  thn (ho pins s2 O H2 x y v u _ I2 r1 r2 q2) λd s3 ⟨z,H3,I3,r3,k,e,q3⟩=>?_)) hm
 subst e;cases r3;refine wpAny_truthy_bool ?_;cases k with
 |false =>
  obtain⟨k',e',q'⟩:=q3;cases e';exact ite_ff ⟨H3,I3,q'⟩
 |true =>
  refine ite_tt (test_last (thn (hc pins s3 O H3 _ I3 q3) λw' s4 ⟨z',H4,I4,r4,q4⟩=>thn (ho' pins s4 O H4 y z' u w' _ I4 r2 r4 q4) λd' s5 ⟨z2,H5,I5,r5,k2,e2,q5⟩=>?_));subst e2;cases r5;exact wpAny_truthy_bool ⟨H5,I5,q5⟩
def zAQ:(sizeLine:Nat)<2^63:=by rw[sizeLine_eq];decide
def uE(r:yW [x] us):∃u,us=[u]/\yp x u:=by
 cases r with
 |cons r1 r2=>cases r2;exact⟨_,rfl,r1⟩
def vals2(r:yW [x,y] us):∃u w',us=[u,w']/\yp x u/\yp y w':=by
 cases r with
 |cons r1 r2 =>
  cases r2 with
  |cons r3 r4=>cases r4;exact⟨_,_,rfl,r1,r3⟩
def zEI:wy X (.builtin "abs") (λxs H Q=>∃i,xs=[.int i]/\Q (.int (if i<0 then -i else i)) H):=by
 intro pins s O H xs us Q I r h;obtain⟨i,rfl,q⟩:=h;obtain⟨u,rfl,t,rfl⟩:=uE r;exact call_abs_int λu tk=>⟨.int (if i<0 then -i else i),H,I.tok _,⟨_,rfl⟩,q⟩
def zB9(hc:X.calm=true):wy X (.builtin "max") (λxs H Q=>∃i j,xs=[.int i,.int j]/\Q (.int (if j > i then j else i)) H):=by
 intro pins s O H xs us Q I r h;obtain⟨i,j,rfl,q⟩:=h;obtain⟨u,w',rfl,⟨t,rfl⟩,⟨t',rfl⟩⟩:=vals2 r;refine max_two_ints (I.ok.hd hc) λh' tk k=>⟨_,H,I.kept k,?_,q⟩
 by_cases hj:j > i
 ·rw[if_pos hj,if_pos hj];exact⟨_,rfl⟩
 ·rw[if_neg hj,if_neg hj];exact⟨_,rfl⟩
def zCA:wy X (.type "int") (λxs H Q=>(∃i,xs=[.int i]/\Q (.int i) H)\/∃k,xs=[.bl k]/\Q (.int (if k then 1 else 0)) H):=by
 intro pins s O H xs us Q I r h;rcases h with⟨i,rfl,q⟩|⟨k,rfl,q⟩
 ·obtain⟨u,rfl,t,rfl⟩:=uE r
  exact call_int_int ⟨.int i,H,I,⟨_,rfl⟩,q⟩
 ·obtain⟨u,rfl,r1⟩:=uE r
  cases r1;exact call_int_bool ⟨.int (if k then 1 else 0),H,I.tok _,⟨_,rfl⟩,q⟩
end
structure Room(k:Nat)(A:Around):Prop where
 hd:A.handled=none
 gd:A.guards=some []
 dp:A.depth+3*k+5<recursionLimit
 un:A.units+16*k+200<cLine
def Room.mono(r:Room k A)(h:j<=k):Room j A:=⟨r.hd,r.gd,by have:=r.dp;omega,by have:=r.un;omega⟩
def tNil:TA:=λ_ H Q=>Q [] H
def zEJ(ta:TE)(tr:TA):TA:=λO H Q=>ta O H λx H1=>tr O H1 λxs H2=>Q (x::xs) H2
section
variable{X:Cx}{e:Expr}{es:List Expr}{te:TE}{t:TA}{pos:Pos}
def GP:PA X [] tNil:=λ_ _ _ _ H Q I h=>Calls.spliced_nil ⟨[],H,I,.nil,h⟩
def Jw(ha:PE X e te)(hr:PA X es t)(hs:starEach (e::es) X.env=(false,eval e X.env)::starEach es X.env:=by rfl):PA X (e::es) (zEJ te t):=by
 intro pos pins s O H Q I h;rw[hs];show wpAny _ _ (spliced ((false,eval e X.env)::backTo pos (starEach es X.env))) _ _ s;refine Calls.spliced_cons (thn (ha pins s O H _ I h) λu s1 ⟨x,H1,I1,r1,q1⟩=>?_);exact thn (hr pos pins s1 O H1 _ I1 q1) λus s2 ⟨xs,H2,I2,r2,q2⟩=>⟨x::xs,H2,I2,.cons r1 r2,q2⟩
def tTup(t:TA):TE:=λO H Q=>t O H λxs H1=>xs.length<=sizeLine/\∀p,H1 p=none->Q (.ref p) (upd H1 p (.t xs))
def tLst(t:TA):TE:=λO H Q=>t O H λxs H1=>xs.length<=sizeLine/\∀p,H1 p=none->Q (.ref p) (upd H1 p (.l xs))
def pe_tup{x1}(h:PA X es t):PE X (.Tuple es x1 pos) (tTup t):=by
 intro pins s O H Q I hq;refine wpAny_Tuple_spliced (thn (h pos pins s O H _ I hq) λus s1 ⟨xs,H1,I1,r,z,q⟩=>⟨by rw[<- r.length];exact z,?_⟩);have hf:H1 s1.heap.objs.size=none:=I1.hok.fresh (le_refl _);refine⟨.ref s1.heap.objs.size,upd H1 s1.heap.objs.size (.t xs),I1.laid (t':=s1.toks) (λb u e=>qA _ e) (le_refl _) ?_,rfl,q _ hf⟩;exact⟨z,us,r,⟨_,get?_push_size _ rfl,rfl,_,rfl⟩⟩
def pe_lst(h:PA X es t):PE X (.List es pos) (tLst t):=by
 intro pins s O H Q I hq;refine wpAny_List_spliced (thn (h pos pins s O H _ I hq) λus s1 ⟨xs,H1,I1,r,z,q⟩=>⟨by rw[<- r.length];exact z,?_⟩);have hf:H1 s1.heap.objs.size=none:=I1.hok.fresh (le_refl _);refine⟨.ref s1.heap.objs.size,upd H1 s1.heap.objs.size (.l xs),I1.laid (t':=s1.toks) (λb u e=>qA _ e) (le_refl _) ?_,rfl,q _ hf⟩;exact⟨z,us,0,r,get?_push_size _ rfl⟩
end
abbrev Sp:=List V->Hp->VK->XK->Prop
abbrev CXT:=List Env->Hp->Shared->XK->Value->Shared->Prop
structure Env0(P:Program)(w:World)(K:qH)(mg:Str->Option Value)(base:Heap)(A:Around)(outer:List Env)(s:Shared)(H:Hp):Prop where
 frames:A.frames=some outer
 mod:Mod K mg base
 bs:∀b o,base.get? b=some o->s.heap.get? b=some o/\H b=none
 bsz:base.objs.size<=s.heap.objs.size
 funs:s.heap.FunFrames base outer
 frf:∀b∈frs outer,H b=none
 hok:HOk P w H s.heap
 bare:AllBare s.gens
def CE(outer:List Env)(P:Program)(w:World)(H:Hp)(s:Shared)(Q:VK)(u:Value)(s':Shared):Prop :=
 ∃v H',s'.os=s.os/\AllBare s'.gens/\Un (frs outer) [] H H' s.heap s'.heap/\HOk P w H' s'.heap/\yp v u/\Q v H'
def CR(CX:CXT)(outer:List Env)(P:Program)(w:World)(H:Hp)(s:Shared)(Q:VK)(E:XK)(r:Result)(s':Shared):Prop :=
 match r with
 | .ok (.ret u)=>CE outer P w H s Q u s'| .ok _=>False| .error e=>CX outer H s E e s'
structure FnOk(P:Program)(w:World)(K:qH)(mg:Str->Option Value)(base:Heap)(CX:CXT)(k:Nat)(f:Addr)(fd:FuncData)(ps:List Str)(sp:Sp):Prop where
 len:∀vs H Q E,sp vs H Q E->vs.length=ps.length
 run:∀(A:Around) (outer:List Env) (s:Shared) (H:Hp) (args:Args) (us:List Value) (vs:List V) (Q:VK) (E:XK),Room k A->Env0 P w K mg base A outer s H->BindsTo s fd args (ps.zip us)->yW vs us->sp vs H Q E ->
  codeAny (model P w) A (.call (.ref f) args) (CR CX outer P w H s Q E) s
theorem FnOk.mono{P:Program}{w:World}{K:qH}{mg:Str->Option Value}{base:Heap}{CX:CXT}{j k:Nat}{f:Addr}{fd:FuncData}{ps:List Str}{sp:Sp}(F:FnOk P w K mg base CX j f fd ps sp)(h:j<=k) :
  FnOk P w K mg base CX k f fd ps sp:=⟨F.len,λA outer s H args us vs Q E hr=>F.run A outer s H args us vs Q E (hr.mono h)⟩
def FnOk.imp{P:Program}{w:World}{K:qH}{mg:Str->Option Value}{base:Heap}{CX:CXT}{k:Nat}{f:Addr}{fd:FuncData}{ps:List Str}{sp sp':Sp}(F:FnOk P w K mg base CX k f fd ps sp)
  (h:∀vs H Q E,sp' vs H Q E->sp vs H Q E):FnOk P w K mg base CX k f fd ps sp' :=
 ⟨λvs H Q E q=>F.len vs H Q E (h _ _ _ _ q),λA outer s H args us vs Q E hr he hb hv hs=>F.run A outer s H args us vs Q E hr he hb hv (h _ _ _ _ hs)⟩
section
variable{X:Cx}{pins:List (Addr×Obj)}{O:St}{H:Hp}{s s':Shared}
def Inv.env0(I:Inv X pins O H s):Env0 X.prog X.w X.K X.mg X.base X.A X.stack s H :=
 ⟨I.ok.frames,I.ok.mod,I.bs,le_trans I.ok.bsz I.sz,I.stack,I.stkFree,I.hok,I.bare⟩
def Inv.after(I:Inv X pins O H s)(h:CE X.stack X.prog X.w H s Q u s'):EP X pins O Q u s':=by
 obtain⟨v,H',os,bare,un,hok,r,q⟩:=h;obtain⟨hh,g,d,t,os'⟩:=s';obtain rfl:os'=s.os:=os;exact⟨v,H',I.call (h':=hh) (g':=g) (d':=d) (t':=t) (ch:=[]) un hok bare (λb z=>absurd z (by simp)),r,q⟩
end
def Zs(K:qH)(fd:FuncData)(ps:List Str)(ds:List Value):Prop :=
 ∀(s:Shared) (us:List Value),K.In s.heap->(us++ds).length=ps.length->BindsTo s fd ⟨us,[]⟩ (ps.zip (us++ds))
def Zs.all{K:qH}{fd:FuncData}{ps:List Str}(h:∀us:List Value,us.length=ps.length->bindArgs fd ⟨us,[]⟩=pure (ps.zip us)):Zs K fd ps []:=λs us _ hl=>by
 rw[append_nil]at hl ⊢;exact .of_eq (h us hl)
structure FnScope(N P:List Str)(sc:Scope):Prop where
 kind:sc.kind=.function
 co:sc.isCoroutine=false
 gen:sc.isGenerator=false
 nd:N.Nodup
 pre:N.take P.length=P
 par:∀x∈P,sc.names.lookup x=some .local\/sc.names.lookup x=some .cell
 nofree:∀y∈sc.names,y.2≠.free
theorem GQ{kindOf:Str->Option NameKind}:∀{binds:List (Str×Value)} {m:Str->Option Value},(∀v,(x,v)∉binds)->bindL kindOf binds m x=m x
 | [],_,_=>rfl
 | (n,v)::r,m,h=>by
  unfold bindL;rw[GQ λw hw=>h w (mem_cons_of_mem _ hw)];split
  ·have:x≠n:=by rintro rfl;exact h v qE
   simp[this]
  ·rfl
theorem GR{kindOf:Str->Option NameKind}:∀{binds:List (Str×Value)} {m:Str->Option Value},(∀v,(x,v)∉binds)->bindC kindOf binds m x=m x
 | [],_,_=>rfl
 | (n,v)::r,m,h=>by
  unfold bindC;rw[GR λw hw=>h w (mem_cons_of_mem _ hw)];split
  ·rfl
  ·have:x≠n:=by rintro rfl;exact h v qE
   simp[this]
theorem GS{kindOf:Str->Option NameKind}:∀{P:List Str} {vs:List Value} {i:Nat} {m:Str->Option Value},P.Nodup->P[i]?=some x->vs[i]?=some v->kindOf x=some .local ->
  bindL kindOf (P.zip vs) m x=some v
 | [],_,_,_,_,h,_,_=>by simp at h|_::_,[],_,_,_,_,h,_=>by simp at h
 |p::P,w::vs,0,m,nd,h1,h2,hk=>by
  simp at h1 h2;subst h1;subst h2
  show bindL kindOf ((p,w)::P.zip vs) m p=_
  unfold bindL;rw[GQ λv hv=>(nodup_cons.mp nd).1 (of_mem_zip hv).1,if_pos hk];simp
 |p::P,w::vs,i+1,m,nd,h1,h2,hk=>by
  show bindL kindOf ((p,w)::P.zip vs) m x=_
  unfold bindL;exact GS (i:=i) (nodup_cons.mp nd).2 (by simpa using h1) (by simpa using h2) hk
theorem GT{kindOf:Str->Option NameKind}:∀{P:List Str} {vs:List Value} {i:Nat} {m:Str->Option Value},P.Nodup->P[i]?=some x->vs[i]?=some v->kindOf x≠some .local ->
  bindC kindOf (P.zip vs) m x=some v
 | [],_,_,_,_,h,_,_=>by simp at h|_::_,[],_,_,_,_,h,_=>by simp at h
 |p::P,w::vs,0,m,nd,h1,h2,hk=>by
  simp at h1 h2;subst h1;subst h2
  show bindC kindOf ((p,w)::P.zip vs) m p=_
  unfold bindC;rw[GR λv hv=>(nodup_cons.mp nd).1 (of_mem_zip hv).1,if_neg hk];simp
 |p::P,w::vs,i+1,m,nd,h1,h2,hk=>by
  show bindC kindOf ((p,w)::P.zip vs) m x=_
  unfold bindC;exact GT (i:=i) (nodup_cons.mp nd).2 (by simpa using h1) (by simpa using h2) hk
def JA(N:List Str)(vs:List V):St:=vs.map some++replicate (N.length-vs.length) none
def cxOf(CX:CXT)(P:Program)(w:World)(K:qH)(mg:Str->Option Value)(base:Heap)(N:List Str)(qual:Str)(scope:Scope)(f:Addr)(cd:Value)(A:Around)(outer:List Env)(s:Shared)(H:Hp)(E:XK):Cx where
 prog:=P
 w:=w
 K:=K
 mg:=mg
 base:=base
 A:=A.deeper (envOfC qual scope s.heap.objs.size f cd)
 N:=N
 s₀:=s
 H₀:=H
 env:=envOfC qual scope s.heap.objs.size f cd
 outer:=outer
 stack:=envOfC qual scope s.heap.objs.size f cd::outer
 ex:=[]
 calm:=true
 fn:=λ_=>true
 pn:=[]
 xe:=λe s'=>wpAny (model P w) (A.deeper (envOfC qual scope s.heap.objs.size f cd)) (leaving (envOfC qual scope s.heap.objs.size f cd) e) (λ_ s''=>CX outer H s E e s'') (λe' s''=>CX outer H s E e' s'') s'
def zAR{sc:Scope}{n:Nat}{x:Str}(h:sc.names.lookup x=some .cell):∃c,(cellsFrom n sc.names []).lookup x=some c:=by
 have q:=cellsFrom_some sc.names n [] (.inl h);exact Option.isSome_iff_exists.mp q
def zCB{CX:CXT}{P:Program}{w:World}{K:qH}{mg:Str->Option Value}{base:Heap}{N ps:List Str}{qual:Str}{scope:Scope}{f:Addr}{cd:Value}{A:Around}{outer:List Env}{s s1:Shared}{H:Hp}{E:XK}{us:List Value}{vs:List V}
  (S:FnScope N ps scope) (hd:A.handled=none) (e0:Env0 P w K mg base A outer s H) (hl:vs.length=ps.length) (r:yW vs us)
  (x:InCallC s s.heap.objs.size (bindL (envOfC qual scope s.heap.objs.size f cd).kindOf (ps.zip us) λ_=>none) (cellsFrom (s.heap.objs.size+1) scope.names []) (bindC (envOfC qual scope s.heap.objs.size f cd).kindOf (ps.zip us) λ_=>none) s1) :
  Inv (cxOf CX P w K mg base N qual scope f cd A outer s H E) [] (JA N vs) H s1:=by
 have hpl:ps.length<=N.length:=by have:=congrArg length S.pre;rw[List.length_take]at this;omega
 obtain⟨h1,tk,rfl,hk⟩:=x.done;have noA:∀b:Addr,b∉(cxOf CX P w K mg base N qual scope f cd A outer s H E).ex:=λb z=>absurd (show b∈([]:List Addr)from z) (by simp)
 refine⟨⟨e0.mod,S.kind,rfl,rfl,le_refl _,λy z c h1 h2=>?_,λy hy=>?_,λy c _ h=>?_,λ_=>hd,Around.frames_deeper e0.frames,.inr ⟨rfl,rfl⟩,λb z=>absurd z (noA b),e0.bs,e0.bsz,λb _ _=>noA b,λb z=>absurd z (noA b),e0.funs,e0.frf⟩,
  rfl,e0.bare,Un.kept hk,⟨_,x.toInCall.ns,λi y v h1 h2 h3=>?_⟩,λy c h=>⟨_,x.cell y c h⟩,e0.hok.fresh (le_refl _),λy c h=>?_,λp hp=>absurd (show p∈([]:List (Addr×Obj))from hp) (by simp),e0.hok.kept hk,?_⟩
 ·exact name_of_addr x.apart (PySem.mem_of_lookup h1) (PySem.mem_of_lookup h2)
 ·have hy:scope.names.lookup y=some .cell\/scope.names.lookup y=some .free:=hy
  rcases hy with hy|hy
  ·exact zAR hy
  ·exact absurd rfl (S.nofree _ (PySem.mem_of_lookup hy))
 ·exact le_of_lt (x.above y c (PySem.mem_of_lookup h))
 ·have hi:i<vs.length:=by
   unfold JA at h2;by_cases hi:i<vs.length
   ·exact hi
   ·rw[getElem?_append_right (by simpa using hi)]at h2
    rw[List.getElem?_replicate]at h2;split at h2<;>cases h2
  have ha:vs[i]?=some v:=by
   unfold JA at h2;rw[getElem?_append_left (by simpa using hi),getElem?_map]at h2;cases e:vs[i]? with
   |none=>rw[e]at h2;cases h2|some a=>rw[e]at h2;cases h2;rfl
  obtain⟨u,hu,rv⟩:=r.get ha;have hp:ps[i]?=some y:=by
   rw[<- S.pre,List.getElem?_take_of_lt (by omega)];exact h1
  have ndP:ps.Nodup:=by rw[<- S.pre];exact S.nd.sublist (List.take_sublist _ _)
  refine⟨u,rv,?_⟩;rcases S.par y (mem_of_getElem? hp)with k|k
  ·exact .inl ⟨k,GS ndP hp hu k⟩
  ·obtain⟨c,e⟩:=zAR (n:=s.heap.objs.size+1) k
   refine .inr ⟨.inl k,c,e,?_⟩;have q:=x.cell y c e;rw[GT ndP hp hu (by show scope.names.lookup y≠_;rw[k];decide)]at q;exact q
 ·exact e0.hok.fresh (le_of_lt (x.above y c (PySem.mem_of_lookup h)))
 ·unfold JA
  show _=N.length
  rw[length_append,length_map,List.length_replicate];omega
section
variable{X:Cx}{x:Str}{p pos:Pos}{e:Expr}{es:List Expr}{t:TA}{id T:String}{r:List V->Hp->VK->Prop}
def tCB(r:List V->Hp->VK->Prop)(t:TA):TE:=λO H Q=>t O H λvs H1=>r vs H1 Q
def zAS(hc:wy X (.builtin id) r)(hg:Gl X x)(hm:X.mg x=none)(hv:bootBuiltins x=some (.builtin id))(ha:PA X (e::es) t)(hn:x≠"__name__":=by decide)(hdb:(x==("__debug__":Str))=false:=by decide)
  (he:starEach (e::es) X.env=(false,eval e X.env)::starEach es X.env:=by rfl) (hpl:(backTo pos (starEach es X.env)).any (·.1)=false:=by rfl):PE X (.Call (.Name x p) (e::es) [] pos) (tCB r t):=by
 intro pins s O H Q I h;refine wpAny_Call_Name_kw (YL I hg hm hv ?_ hn hdb);exact PyProof.Rows.callWith_builtin1 (thn (ha pos pins s O H _ I h) λus s1 ⟨vs,H1,I1,r1,q1⟩=>hc pins s1 O H1 vs us Q I1 r1 q1) he hpl
def zCC(hc:wy X (.type T) r)(hg:Gl X x)(hm:X.mg x=none)(hv:bootBuiltins x=some (.type T))(ha:PA X (e::es) t)(hn:x≠"__name__":=by decide)(hdb:(x==("__debug__":Str))=false:=by decide)
  (he:starEach (e::es) X.env=(false,eval e X.env)::starEach es X.env:=by rfl) (hpl:(backTo pos (starEach es X.env)).any (·.1)=false:=by rfl):PE X (.Call (.Name x p) (e::es) [] pos) (tCB r t):=by
 intro pins s O H Q I h;refine wpAny_Call_Name_kw (YL I hg hm hv ?_ hn hdb);exact PyProof.Rows.callWith_type1 (thn (ha pos pins s O H _ I h) λus s1 ⟨vs,H1,I1,r1,q1⟩=>hc pins s1 O H1 vs us Q I1 r1 q1) he hpl
end
end L2
namespace HT
open PySem PyProof.Rows
section
variable{prog:Program}{w:World}{A:Around}{E:Value->Shared->Prop}{s:Shared}
def cat_tup{Q:Value->Shared->Prop}(ht:IsTup s.heap t vs.toArray)(hb:IsTup s.heap b ws.toArray)(hv:vs≠[])
  (h1:ws=[]->Q (.ref t) s) (h2:ws≠[]->Q (.ref s.heap.objs.size) {s with heap:=s.heap.push {cls:=.type "tuple",data:=.seq (vs++ws).toArray}})
  (hsz:vs.length+ws.length<=sizeLine):wpAny (model prog w) A (binaryOp .Add (.ref t) (.ref b)) Q E s:=by
 obtain⟨⟨cls,dd,data,sl⟩,ho,hc,n,hd⟩:=id ht;obtain⟨⟨cls2,dd2,data2,sl2⟩,ho2,hc2,n2,hd2⟩:=id hb;simp only at hc hd hc2 hd2;subst hc hd hc2 hd2;have e:vs.toArray++ws.toArray=(vs++ws).toArray:=by simp
 by_cases hw:ws=[]
 ·exact concat_meets ⟨_,ho,rfl⟩ ⟨_,ho2,rfl⟩ noFill_tuple_add seq_tuple_add PySem.F.slot_tuple_add PySem.F.entry_tuple_add (PySem.F.args_tuple_add_2 _ _)
   (tuple_addW1 t b vs.toArray ws.toArray n n2 dd dd2 sl sl2 (by simpa using hv) (by simp[hw])) ⟨ho,ho2,h1 hw⟩
 ·refine concat_meets ⟨_,ho,rfl⟩ ⟨_,ho2,rfl⟩ noFill_tuple_add seq_tuple_add PySem.F.slot_tuple_add PySem.F.entry_tuple_add (PySem.F.args_tuple_add_2 _ _)
   (tuple_addW2 t b vs.toArray ws.toArray n n2 dd dd2 sl sl2 (by simpa using hv) (by simpa using hw) (by rw[size_toArray,size_toArray];exact hsz)) ⟨ho,ho2,?_⟩
  rw[e];exact h2 hw
def sIx(n d:Nat):Option Int->Nat
 |none=>d|some v=>if v<0 then(v+(n:Int)).toNat else min v.toNat n
def sIx_nat(n d k:Nat):sIx n d (some (k:Int))=min k n:=by
 show(if(k:Int)<0 then((k:Int)+(n:Int)).toNat else min (k:Int).toNat n)=min k n
 rw[if_neg (by omega),Int.toNat_natCast]
def sIx_le(n d:Nat)(hd:d<=n)(o:Option Int):sIx n d o<=n:=by
 cases o with
 |none=>exact hd
 |some v =>
  show(if v<0 then(v+(n:Int)).toNat else min v.toNat n)<=n
  by_cases hv:v<0
  ·rw[if_pos hv];omega
  ·rw[if_neg hv];exact Nat.min_le_right _ _
def zCD(v:Int)(n d:Nat):(if v<0 then max (v+(n:Int)) 0 else min v (n:Int))=((sIx n d (some v):Nat):Int):=by
 show(if v<0 then max (v+(n:Int)) 0 else min v (n:Int))=(((if v<0 then(v+(n:Int)).toNat else min v.toNat n):Nat):Int)
 by_cases hv:v<0
 ·simp only[if_pos hv];omega
 ·simp only[if_neg hv];omega
def zBQ(lo hi:Option Int)(n:Nat):Builtin.Slice.sliceAdjust lo hi 1 (n:Int)=(((sIx n 0 lo:Nat):Int),((sIx n n hi:Nat):Int)):=by
 have h1:¬((1:Int)<0):=by omega
 unfold Builtin.Slice.sliceAdjust;simp only[h1,if_false];refine Prod.ext ?_ ?_
 ·cases lo with
  |none=>rfl|some v=>exact zCD v n 0
 ·cases hi with
  |none=>rfl|some v=>exact zCD v n n
def zBR(i j:Nat):Builtin.Slice.slicePlaces (i:Int) (j:Int) 1=j-i:=by
 unfold Builtin.Slice.slicePlaces;have h1:(1:Int) > 0:=by omega
 simp only[h1,if_true,Int.ediv_one];split<;>omega
def slicePart_{Q:Option Int->Shared->Prop}(p:IsPart v o)(h:Q o s):wpAny (model prog w) A (Builtin.Slice.slicePartIndex v) Q E s:=by
 cases p with
 |none=>exact slicePart_none h|int i t=>exact slicePart_int h
def sliceApplied_gen{sl:Addr}{vl vu:Value}{lo hi:Option Int}{n:Nat}{Q:Int×Int×Nat->Shared->Prop}(hs:s.heap.IsSliceOf sl vl vu .none)(pl:IsPart vl lo)(pu:IsPart vu hi)
  (h:Q (((sIx n 0 lo:Nat):Int),1,sIx n n hi-sIx n 0 lo) s):wpAny (model prog w) A (Builtin.Slice.sliceApplied (.ref sl) (pure (n:Int))) Q E s:=by
 obtain⟨os,hos,hcs,hds⟩:=id hs;unfold Builtin.Slice.sliceApplied Builtin.Slice.sliceFields;refine qB (qB (wpAny_field hos hds (x:=vl) rfl (qB (wpAny_field hos hds (x:=vu) rfl (qB (wpAny_field hos hds (x:=.none) rfl (qC ?_)))))));refine qB (slicePart_none ?_);show wpAny _ _ (if((1:Int)==0)=true then _ else _) _ _ s;rw[if_neg (by decide)];refine qB (slicePart_ pl (qB (slicePart_ pu (qB (qC ?_)))));show wpAny _ _ (match Builtin.Slice.sliceAdjust lo hi 1 (n:Int)with|(lo,hi)=>pure (lo,(1:Int),Builtin.Slice.slicePlaces lo hi 1)) _ _ s
 rw[zBQ lo hi n];show wpAny _ _ (pure (((sIx n 0 lo:Nat):Int),(1:Int),Builtin.Slice.slicePlaces ((sIx n 0 lo:Nat):Int) ((sIx n n hi:Nat):Int) 1)) _ _ s;rw[zBR];exact qC h
def zEK(xs:Array Value)(i k:Nat):((List.range k).filterMap λ(m:Nat)=>xs[((i:Int)+(m:Int)*1).toNat]?).toArray=((xs.toList.drop i).take k).toArray:=by
 have e:(λ(m:Nat)=>xs[((i:Int)+(m:Int)*1).toNat]?)=λm=>xs[i+m]?:=by
  funext m
  have:((i:Int)+(m:Int)*1).toNat=i+m:=by omega
  rw[this]
 rw[e];have:=pick_run xs i k;rw[filterMap_map]at this;have e2:((λx=>xs[x]?) ∘ λx=>i+x)=λm=>xs[i+m]?:=rfl
 rw[e2]at this;rw[this]
def getItem_tuple_cut{t sl:Addr}{items:Array Value}{vl vu:Value}{lo hi:Option Int}{Q:Value->Shared->Prop}(ht:IsTup s.heap t items)(hs:s.heap.IsSliceOf sl vl vu .none)(pl:IsPart vl lo)(pu:IsPart vu hi)
  (hw:¬(sIx items.size 0 lo=0/\sIx items.size items.size hi=items.size))
  (h:Q (.ref s.heap.objs.size) {s with heap:=s.heap.push {cls:=.type "tuple",data:=.seq ((items.toList.drop (sIx items.size 0 lo)).take (sIx items.size items.size hi-sIx items.size 0 lo)).toArray}})
  (hsz:items.size<=sizeLine):wpAny (model prog w) A (getItem (.ref t) (.ref sl)) Q E s:=by
 have htake:sizeOk (.seq ((items.toList.drop (sIx items.size 0 lo)).take (sIx items.size items.size hi-sIx items.size 0 lo)).toArray):=by
  show((items.toList.drop (sIx items.size 0 lo)).take (sIx items.size items.size hi-sIx items.size 0 lo)).toArray.size<=sizeLine
  rw[size_toArray,List.length_take,List.length_drop,Array.length_toList];omega
 have hj:sIx items.size items.size hi<=items.size:=sIx_le _ _ (le_refl _) hi;obtain⟨os,hos,hcs,hds⟩:=id hs;have hTs:s.TypeIs (.ref sl) "slice":=⟨os,hos,hcs⟩;unfold getItem
 try with_reducible refine wpAny_holding ?_
 first|refine qB (qC ?_)|skip
 refine qB (wpAny_sequenceKey ht.typeIs (by decide) ?_);refine qB (wpAny_callSpecial?_slot (name:=Str.ofString "__getitem__") ht.typeIs PyProof.Rows.slot_tuple_getitem
  (wpAny_call_entry PyProof.Rows.slot_tuple_getitem ht.typeIs entry_tuple_getitem ?_ (args_tuple_getitem _ _)))
 show wpAny _ _ (Builtin.Tuple.tupleItemsOf (.ref t) >>= _) _ _ s
 refine qB (tupleItemsOf_ ht ?_);refine qB (wpAny_typeOf hTs ?_);rw[if_pos (by decide)];refine qB (sliceApplied_gen hs pl pu ?_);have hno:¬((((sIx items.size 0 lo:Nat):Int)==0&&(1:Int)==1&&(sIx items.size items.size hi-sIx items.size 0 lo)==items.size)=true):=by
  intro q;rw[Bool.and_eq_true,Bool.and_eq_true]at q;have q1:((sIx items.size 0 lo:Nat):Int)=0:=eq_of_beq q.1.1;have q2:sIx items.size items.size hi-sIx items.size 0 lo=items.size:=eq_of_beq q.2;exact hw ⟨by omega,by omega⟩
 show wpAny _ _ (if(((sIx items.size 0 lo:Nat):Int)==0&&(1:Int)==1&&(sIx items.size items.size hi-sIx items.size 0 lo)==items.size)=true then _ else _) _ _ s
 rw[if_neg hno,zEK]
 first
  |exact qB (m:=Builtin.Tuple.tupleExact _) (wpAny_newObj_type (qC ⟨_,rfl,qC h⟩) htake)
  |exact qB (m:=Builtin.Tuple.tupleExact _) (wpAny_newObj_type (qB (qC (qC ⟨_,rfl,qC h⟩))) htake)
  |exact qB (qB (m:=Builtin.Tuple.tupleExact _) (wpAny_newObj_type (qC (qC ⟨_,rfl,qC h⟩)) htake))
  |exact qB (qB (m:=Builtin.Tuple.tupleExact _) (wpAny_newObj_type (qC ⟨_,rfl,qC h⟩) htake))
end
end HT
namespace L2
open PySem PySem.Spec PyProof.Rows
abbrev TO:=St->Hp->(Option Int->Hp->Prop)->Prop
def PO(X:Cx)(e:Option Expr)(t:TO):Prop :=
 ∀(pins:List (Addr×Obj)) (s:Shared) (O:St) (H:Hp) (Q:Option Int->Hp->Prop),Inv X pins O H s->t O H Q ->
  wpAny (model X.prog X.w) X.A (evalPart e X.env) (λu s'=>∃o H',Inv X pins O H' s'/\IsPart u o/\Q o H') X.xe s
def tNoPart:TO:=λ_ H Q=>Q none H
def tPart(t:TE):TO:=λO H Q=>t O H λx H1=>∃i,x=.int i/\Q (some i) H1
section
variable{X:Cx}{e:Expr}{te:TE}{lo hi:Option Expr}{tl th:TO}{pos p2:Pos}
def po_none:PO X none tNoPart:=by
 intro pins s O H Q I h;rw[evalPart_none];exact qC ⟨none,H,I,.none,h⟩
def po_some(h:PE X e te):PO X (some e) (tPart te):=by
 intro pins s O H Q I hw;rw[evalPart_some];refine thn (h pins s O H _ I hw) λu s1 ⟨x,H1,I1,r1,q1⟩=>?_
 obtain⟨i,rfl,q⟩:=q1;obtain⟨t,rfl⟩:=r1;exact⟨some i,H1,I1,.int i t,q⟩
def SlR(X:Cx)(r:V->Option Int->Option Int->Hp->VK->Prop):Prop :=
 ∀(pins:List (Addr×Obj)) (s:Shared) (O:St) (H:Hp) (x:V) (v vl vu:Value) (lo hi:Option Int) (sl:Addr) (Q:VK),Inv X pins O H s->yp x v->s.heap.IsSliceOf sl vl vu .none->IsPart vl lo->IsPart vu hi->r x lo hi H Q ->
  ∃T id,typeLookup (.type T) "__getitem__"=pure (some (.builtin id))/\s.TypeIs v T/\wpAny (model X.prog X.w) X.A (getItem v (.ref sl)) (EP X pins O Q) X.xe s
def SlR.or{r r':V->Option Int->Option Int->Hp->VK->Prop}(h:SlR X r)(h':SlR X r'):SlR X (λx lo hi H Q=>r x lo hi H Q\/r' x lo hi H Q):=by
 intro pins s O H x v vl vu lo hi sl Q I rx hs pl pu q;rcases q with q|q
 ·exact h pins s O H x v vl vu lo hi sl Q I rx hs pl pu q
 ·exact h' pins s O H x v vl vu lo hi sl Q I rx hs pl pu q
def tSl(r:V->Option Int->Option Int->Hp->VK->Prop)(te:TE)(tl th:TO):TE:=λO H Q=>te O H λx H1=>tl O H1 λl H2=>th O H2 λu H3=>r x l u H3 Q
def zEL{r:V->Option Int->Option Int->Hp->VK->Prop}(hr:SlR X r)(he:PE X e te)(hl:PO X lo tl)(hu:PO X hi th):PE X (.Subscript e (.Slice lo hi none p2) pos) (tSl r te tl th):=by
 intro pins s O H Q I h;refine Subscript_ (thn (he pins s O H _ I h) λv s1 ⟨x,H1,I1,r1,q1⟩=>?_);refine wpAny_Slice (thn (hl pins s1 O H1 _ I1 q1) λvl s2 ⟨l,H2,I2,pl,q2⟩=>thn (hu pins s2 O H2 _ I2 q2) λvu s3 ⟨u,H3,I3,pu,q3⟩=>?_);rw[evalPart_none];refine qC ?_;have I4:Inv X pins O H3 {s3 with heap:=s3.heap.push {cls:=.type "slice",data:=.fields #[vl,vu,.none]}}:=I3.kept (t':=s3.toks) λb ob q=>qA _ q
 obtain⟨T,id,hT,ht,hg⟩:=hr pins {s3 with heap:=s3.heap.push {cls:=.type "slice",data:=.fields #[vl,vu,.none]}} O H3 x v vl vu l u s3.heap.objs.size Q I4 r1 (Heap.IsSliceOf.new ..) pl pu q3
 show wpAny (model X.prog X.w) X.A (subscriptTail e (.Slice lo hi none p2) v (.ref s3.heap.objs.size)) (EP X pins O Q) X.xe {s3 with heap:=s3.heap.push {cls:=.type "slice",data:=.fields #[vl,vu,.none]}}
 exact tail_any (ops:=[.ref s3.heap.objs.size,v]) ht hT hg (by with_unfolding_all rfl)
def zEM(xs:List V)(lo hi:Option Int):List V:=(xs.drop (HT.sIx xs.length 0 lo)).take (HT.sIx xs.length xs.length hi-HT.sIx xs.length 0 lo)
def WI(xs:List V)(lo hi:Option Int):(zEM xs lo hi).length<=xs.length:=by
 unfold zEM;rw[List.length_take,List.length_drop];omega
def rSlT(K:qH):V->Option Int->Option Int->Hp->VK->Prop:=λx lo hi H Q=>∃a xs,x=.ref a/\SqT K H a xs /\
 ¬(HT.sIx xs.length 0 lo=0/\HT.sIx xs.length xs.length hi=xs.length)/\∀p,H p=none->Q (.ref p) (upd H p (.t (zEM xs lo hi)))
def sl_tup:SlR X (rSlT X.K):=by
 intro pins s O H x v vl vu lo hi sl Q I rx hs pl pu h;obtain⟨a,xs,rfl,hx,hw,q⟩:=h;cases rx;obtain⟨its,r,ht,hz⟩:=I.tuple hx;have hlen:its.toArray.size=xs.length:=by rw[size_toArray];exact r.length.symm
 refine⟨"tuple",_,PyProof.Rows.slot_tuple_getitem.lookup,ht.typeIs,?_⟩;refine HT.getItem_tuple_cut ht hs pl pu (by rw[hlen];exact hw) ?_ (by rw[hlen];exact hz);rw[hlen];refine⟨.ref s.heap.objs.size,_,I.laid (t':=s.toks) (o:=.t (zEM xs lo hi)) (λb ob q=>qA _ q) (le_refl _) ?_,rfl,q _ (I.hok.fresh (le_refl _))⟩;exact⟨le_trans (WI xs lo hi) hz,_,(r.drop (HT.sIx xs.length 0 lo)).take (HT.sIx xs.length xs.length hi-HT.sIx xs.length 0 lo),IsTup.new _ _⟩
def rCatT(K:qH):R2:=λx y H Q=>∃a b xs ys,x=.ref a/\y=.ref b/\SqT K H a xs/\SqT K H b ys/\xs≠[]/\xs.length+ys.length<=sizeLine /\
 (ys=[]->Q (.ref a) H)/\(ys≠[]->∀p,H p=none->Q (.ref p) (upd H p (.t (xs++ys))))
def yW.nil_iff(r:yW xs us):us=[]↔xs=[]:=by
 cases r with
 |nil=>simp|cons _ _=>simp
def op_catT:OpR X (binaryOp .Add) (rCatT X.K):=by
 intro pins s O H x y v u Q I rx ry h;obtain⟨a,b,xs,ys,rfl,rfl,ha,hb,hx,hz,q1,q2⟩:=h;cases rx;cases ry;obtain⟨its,r1,p1,_⟩:=I.tuple ha;obtain⟨its2,r2,p2,_⟩:=I.tuple hb;refine HT.cat_tup p1 p2 (λz=>hx (r1.nil_iff.mp z)) (λz=>⟨.ref a,H,I,rfl,q1 (r2.nil_iff.mp z)⟩) (λz=>?_) (by rw[<- r1.length,<- r2.length];exact hz);refine⟨.ref s.heap.objs.size,_,I.laid (t':=s.toks) (o:=.t (xs++ys)) (λb ob q=>qA _ q) (le_refl _) ?_,rfl,q2 (λw=>z (r2.nil_iff.mpr w)) _ (I.hok.fresh (le_refl _))⟩;exact⟨by rw[length_append];exact hz,_,r1.append r2,IsTup.new _ _⟩
end
def ixN(n:Nat)(i:Int):Option Nat:=if 0<=i then(if i<n then some i.toNat else none)else if -(n:Int)<=i then some (i+n).toNat else none
def atI{α:Type}(xs:List α)(i:Int):Option α:=(ixN xs.length i).bind λj=>xs[j]?
def zCE(h:ixN n i=some j):seqIndex? i n=some j/\j<n/\-(n:Int)<=i/\i<n:=by
 unfold ixN at h;by_cases h0:0<=i
 ·rw[if_pos h0]at h
  by_cases h1:i<n
  ·rw[if_pos h1]at h
   have e:i.toNat=j:=qJ h;exact⟨by rw[seqIndex_of h0 h1,e],by omega,by omega,h1⟩
  ·rw[if_neg h1]at h;cases h
 ·rw[if_neg h0]at h
  by_cases h1:-(n:Int)<=i
  ·rw[if_pos h1]at h
   have e:(i+n).toNat=j:=qJ h;exact⟨by rw[seqIndex_neg (by omega) h1,e],by omega,h1,by omega⟩
  ·rw[if_neg h1]at h;cases h
def zCF{α:Type}{xs:List α}{i:Int}{v:α}(h:atI xs i=some v):∃j,seqIndex? i xs.length=some j/\xs[j]?=some v/\j<xs.length/\-(xs.length:Int)<=i/\i<xs.length:=by
 unfold atI at h;cases e:ixN xs.length i with
 |none=>rw[e]at h;cases h
 |some j =>
  rw[e]at h;obtain⟨h1,h2,h3,h4⟩:=zCE e;exact⟨j,h1,h,h2,h3,h4⟩
def WJ(b:Expr):Prop:=∀o i,subscripted b false o i=operate [o,i] (getItem o i)
def IxR(X:Cx)(r:R2):Prop :=
 ∀(value slice:Expr) (pins:List (Addr×Obj)) (s:Shared) (O:St) (H:Hp) (x y:V) (v u:Value) (Q:VK),Inv X pins O H s->yp x v->yp y u->r x y H Q ->
  subscripted slice false v u=operate [v,u] (getItem v u)->wpAny (model X.prog X.w) X.A (subscriptTail value slice v u) (EP X pins O Q) X.xe s
def MtR(X:Cx)(id:String)(r:V->List V->Hp->VK->Prop):Prop :=
 ∀(pins:List (Addr×Obj)) (s:Shared) (O:St) (H:Hp) (x:V) (xs:List V) (v:Value) (us:List Value) (Q:VK),Inv X pins O H s->yp x v->yW xs us->r x xs H Q ->
  wpAny (model X.prog X.w) X.A (call (.builtin id) (v::us)) (EP X pins O Q) X.xe s
section
variable{X:Cx}{a b:Expr}{ta tb:TE}{pos:Pos}
def IxR.or{r r':R2}(h:IxR X r)(h':IxR X r'):IxR X (λx y H Q=>r x y H Q\/r' x y H Q):=by
 intro value slice pins s O H x y v u Q I rx ry q hs;rcases q with q|q
 ·exact h value slice pins s O H x y v u Q I rx ry q hs
 ·exact h' value slice pins s O H x y v u Q I rx ry q hs
def pe_ix(hr:IxR X r)(ha:PE X a ta)(hb:PE X b tb)(hs:WJ b):PE X (.Subscript a b pos) (tOp r ta tb):=by
 intro pins s O H Q I h;exact Subscript_ (binT ha hb I h λv u s2 x y H2 I2 rx ry q=>hr a b pins s2 O H2 x y v u Q I2 rx ry q (hs _ _))
def rIxL(K:qH):R2:=λx y H Q=>∃p xs i v,x=.ref p/\y=.int i/\SqL K H p xs/\atI xs i=some v/\Q v H
def rIxT(K:qH):R2:=λx y H Q=>∃p xs i v,x=.ref p/\y=.int i/\SqT K H p xs/\atI xs i=some v/\Q v H
def zCG:IxR X (rIxL X.K):=by
 intro value slice pins s O H x y v u Q I rx ry h hs;obtain⟨p,xs,i,z,rfl,rfl,hq,he,q⟩:=h;cases rx;obtain⟨t,rfl⟩:=ry;obtain⟨its,r,pl,hz⟩:=I.list hq;obtain⟨j,h1,h2,h3,h4,h5⟩:=zCF he;obtain⟨w,ew,rw'⟩:=r.get h2;have hl:=r.length;have hn:=zAQ;have fin:EP X pins O Q w s:=⟨z,H,I,rw',q⟩;by_cases h0:0<=i
 ·have hj:i.toNat=j:=by
   rw[seqIndex_of h0 h5]at h1;exact qJ h1
  exact item_listR pl.isList h0 (by omega) (by rw[hj];simpa using ew) fin hs
 ·have hj:(i+(its.toArray.size:Int)).toNat=j:=by
   rw[seqIndex_neg (by omega) h4]at h1;rw[size_toArray,<- hl];exact qJ h1
  exact subscriptTail_builtinR (x:=w) pl.isList.typeIs slot_list_getitem.lookup
   (wpAny_getItem_list_neg (Q:=λr s'=>r=w/\EP X pins O Q r s') pl.isList (by omega) (by rw[size_toArray]<;>omega) (by omega) (by rw[hj];simpa using ew) ⟨rfl,fin⟩) hs
def ix_tup:IxR X (rIxT X.K):=by
 intro value slice pins s O H x y v u Q I rx ry h hs;obtain⟨p,xs,i,z,rfl,rfl,hq,he,q⟩:=h;cases rx;obtain⟨t,rfl⟩:=ry;obtain⟨its,r,pl,hz⟩:=I.tuple hq;obtain⟨j,h1,h2,h3,h4,h5⟩:=zCF he;obtain⟨w,ew,rw'⟩:=r.get h2;have hl:=r.length;have hn:=zAQ;have fin:EP X pins O Q w s:=⟨z,H,I,rw',q⟩;exact subscriptTail_builtinR (x:=w) pl.typeIs slot_tuple_getitem.lookup
  (getItem_tuple (j:=j) (Q:=λr s'=>r=w/\EP X pins O Q r s') pl (by omega) (by omega) (by rw[size_toArray,<- hl];exact h1) (by simpa using ew) ⟨rfl,fin⟩) hs
def zBS(its:List Value)(n j:Nat)(u:Value):Obj.mapSeq (·.setIfInBounds j u) {cls:=.type "list",data:=.seq its.toArray n}={cls:=.type "list",data:=.seq (its.set j u).toArray n}:=by
 simp[Obj.mapSeq]
theorem Inv.lst{pins:List (Addr×Obj)}{O:St}{H:Hp}{s:Shared}{p:Addr}{xs:List V}(I:Inv X pins O H s)(h:H p=some (.l xs)) :
  ∃(its:List Value) (n:Nat),yW xs its/\s.heap.get? p=some {cls:=.type "list",data:=.seq its.toArray n}/\xs.length<=sizeLine:=by
 obtain⟨z,its,n,r,e⟩:=I.hok p _ h;exact⟨its,n,r,e,z⟩
def Inv.lstUpd{pins:List (Addr×Obj)}{O:St}{H:Hp}{s:Shared}{p:Addr}{xs ys:List V}{its its':List Value}{n n':Nat}{f:Obj->Obj}(I:Inv X pins O H s)(h:H p=some (.l xs))
  (ho:s.heap.get? p=some {cls:=.type "list",data:=.seq its.toArray n}) (hf:f {cls:=.type "list",data:=.seq its.toArray n}={cls:=.type "list",data:=.seq its'.toArray n'}) (r:yW ys its') (hz:ys.length<=sizeLine) (t:Nat) :
  Inv X pins O (upd H p (.l ys)) {s with heap:=s.heap.update p f,toks:=t}:=by
 have e:(s.heap.update p f).get? p=some {cls:=.type "list",data:=.seq its'.toArray n'}:=by
  rw[Heap.get?_update_self f ho (by rw[hf]<;>rfl),hf]
 refine I.write (x:=p) (e:=p) (by rw[h];trivial) (.inl rfl) (λb u hb q=>(Heap.get?_update_other _ _ (Ne.symm hb)).trans q) ⟨_,e⟩ ?_;exact⟨hz,its',n',r,e⟩
def zCH:V->V->V->Hp->(Hp->Prop)->Prop:=λo i v H Q=>∃p xs k j,o=.ref p/\i=.int k/\H p=some (.l xs)/\ixN xs.length k=some j/\Q (upd H p (.l (xs.set j v)))
def uF:PSet X zCH:=by
 intro pins s O H o i v ov iv u Q I ro ri rv h;obtain⟨p,xs,k,j,rfl,rfl,hp,hj,q⟩:=h;cases ro;obtain⟨t,rfl⟩:=ri;obtain⟨its,n,r,ho,hz⟩:=I.lst hp;obtain⟨h1,h2,h3,h4⟩:=zCE hj;have hl:=r.length;have hn:=zAQ;have I':Inv X pins O (upd H p (.l (xs.set j v))) {s with heap:=s.heap.update p (Obj.mapSeq (·.setIfInBounds j u))} :=
  I.lstUpd hp ho (zBS its n j u) (r.set rv j) (by rw[List.length_set];exact hz) s.toks
 by_cases h0:0<=k
 ·have hk:k.toNat=j:=by
   rw[seqIndex_of h0 h4]at h1;exact qJ h1
  exact PySem.W.ki_setAt ho h0 (by omega) (by rw[size_toArray,<- hl];exact h4) (by rw[hk];exact⟨_,I',q⟩)
 ·have hk:(k+(its.toArray.size:Int)).toNat=j:=by
   rw[seqIndex_neg (by omega) h3]at h1;rw[size_toArray,<- hl];exact qJ h1
  exact PySem.W.ki_setBack ho (by omega) (by rw[size_toArray,<- hl];exact h3) (by omega) (by rw[hk];exact⟨_,I',q⟩)
def GU(lo hi:Option Int)(n:Nat):(sliceBounds lo hi none n).1=((HT.sIx n 0 lo:Nat):Int)/\(sliceBounds lo hi none n).2.1=((HT.sIx n n hi:Nat):Int)/\(sliceBounds lo hi none n).2.2=1:=by
 refine⟨?_,?_,rfl⟩
 ·cases lo with
  |none=>simp[sliceBounds,HT.sIx]
  |some i =>
   simp only[sliceBounds,HT.sIx,Option.getD_none,show(1:Int) > 0 by decide,if_true];by_cases h:i<0
   ·simp only[h,if_true]<;>omega
   ·simp only[h,if_false]<;>omega
 ·cases hi with
  |none=>simp[sliceBounds,HT.sIx]
  |some i =>
   simp only[sliceBounds,HT.sIx,Option.getD_none,show(1:Int) > 0 by decide,if_true];by_cases h:i<0
   ·simp only[h,if_true]<;>omega
   ·simp only[h,if_false]<;>omega
def uG(its:List Value)(lo hi:Option Int):slicePick its.toArray lo hi none=((its.drop (HT.sIx its.length 0 lo)).take (HT.sIx its.length its.length hi-HT.sIx its.length 0 lo)).toArray:=by
 obtain⟨h1,h2,h3⟩:=GU lo hi its.toArray.size;unfold slicePick;rw[h1,h2,h3];simp only[sliceRange_one,pick_run,size_toArray]<;>rfl
def rSlL(K:qH):V->Option Int->Option Int->Hp->VK->Prop:=λx lo hi H Q=>∃a xs,x=.ref a/\SqL K H a xs/\∀p,H p=none->Q (.ref p) (upd H p (.l (zEM xs lo hi)))
def sl_list:SlR X (rSlL X.K):=by
 intro pins s O H x v vl vu lo hi sl Q I rx hs pl pu h;obtain⟨a,xs,rfl,hx,q⟩:=h;cases rx;obtain⟨its,r,ht,hz⟩:=I.list hx;have hlen:=r.length;refine⟨"list",_,slot_list_getitem.lookup,ht.isList.typeIs,?_⟩;refine wpAny_getItem_list_slice ht.isList hs pl pu .none (by simp) ?_ (by rw[size_toArray]<;>omega);rw[uG,<- hlen];refine⟨.ref s.heap.objs.size,_,I.laid (t':=s.toks) (o:=.l (zEM xs lo hi)) (λb ob q=>qA _ q) (le_refl _) ?_,rfl,q _ (I.hok.fresh (le_refl _))⟩;exact⟨le_trans (WI xs lo hi) hz,_,0,(r.drop (HT.sIx xs.length 0 lo)).take (HT.sIx xs.length xs.length hi-HT.sIx xs.length 0 lo),get?_push_size _ rfl⟩
def W8:V->Bool
 | .non=>true| .bl _=>true| .int _=>true| .str _=>true|_=>false
def eqV:V->V->Bool
 | .non,.non=>true| .bl a,.bl b=>a==b| .bl a,.int b=>(if a then 1 else 0)==b| .int a,.bl b=>a==(if b then 1 else 0)| .int a,.int b=>a==b| .str a,.str b=>a==b|_,_=>false
def zAT(ry:yp y u)(rx:yp x v)(fy:W8 y=true)(fx:W8 x=true):SeqAt.EqAt A s u v (eqV y x):=by
 cases y with
 |non =>
  cases ry;cases x with
  |non=>cases rx;exact SeqAt.EqAt.same _|bl b=>cases rx;exact SeqAt.EqAt.none_bool b|int b=>obtain⟨t,rfl⟩:=rx;exact SeqAt.EqAt.none_int b t|str b=>obtain⟨t,rfl⟩:=rx;exact SeqAt.EqAt.none_str b t|_=>exact absurd (show false=true from fx) qF
 |bl a =>
  cases ry;cases x with
  |non=>cases rx;exact SeqAt.EqAt.bool_none a|bl b=>cases rx;exact SeqAt.EqAt.bool_bool a b|int b=>obtain⟨t,rfl⟩:=rx;exact SeqAt.EqAt.bool_int a b t|str b=>obtain⟨t,rfl⟩:=rx;exact SeqAt.EqAt.bool_str a b t|_=>exact absurd (show false=true from fx) qF
 |int a =>
  obtain⟨t',rfl⟩:=ry;cases x with
  |non=>cases rx;exact SeqAt.EqAt.int_none a t'|bl b=>cases rx;exact SeqAt.EqAt.int_bool a t' b|int b=>obtain⟨t,rfl⟩:=rx;exact SeqAt.EqAt.int_int a t' b t|str b=>obtain⟨t,rfl⟩:=rx;exact SeqAt.EqAt.int_str a t' b t|_=>exact absurd (show false=true from fx) qF
 |str a =>
  obtain⟨t',rfl⟩:=ry;cases x with
  |non=>cases rx;exact SeqAt.EqAt.str_none a t'|bl b=>cases rx;exact SeqAt.EqAt.str_bool a t' b|int b=>obtain⟨t,rfl⟩:=rx;exact SeqAt.EqAt.str_int a t' b t|str b=>obtain⟨t,rfl⟩:=rx;exact SeqAt.EqAt.str_str a t' b t|_=>exact absurd (show false=true from fx) qF
 |_=>exact absurd (show false=true from fy) qF
def eqU(x:V)(u:Value):Bool:=match u with
 | .none=>eqV .non x| .bool b=>eqV (.bl b) x| .int i _=>eqV (.int i) x| .str z _=>eqV (.str z) x|_=>false
def zFt(r:yp y u)(f:W8 y=true):eqU x u=eqV y x:=by
 cases y with
 |non=>cases r;rfl|bl b=>cases r;rfl|int i=>obtain⟨t,rfl⟩:=r;rfl|str z=>obtain⟨t,rfl⟩:=r;rfl|_=>exact absurd (show false=true from f) qF
theorem QS:∀{xs:List V} {us:List Value},yW xs us->xs.all W8=true->us.any (eqU x)=xs.any λy=>eqV y x
 |_,_,.nil,_=>rfl
 |y::xs,u::us,.cons r t,f=>by
  rw[all_cons,Bool.and_eq_true]at f;rw[any_cons,any_cons,zFt r f.1,QS t f.2]
theorem uH(rx:yp x v)(fx:W8 x=true):∀{xs:List V} {us:List Value},yW xs us->xs.all W8=true->∀u∈us,SeqAt.EqAt A s u v (eqU x u)
 |_,_,.nil,_=>λu hu=>by cases hu
 |y::xs,u::us,.cons r t,f=>λu' hu=>by
  rw[all_cons,Bool.and_eq_true]at f;rcases mem_cons.mp hu with rfl|hu
  ·rw[zFt r f.1];exact zAT r rx f.1 fx
  ·exact uH rx fx t f.2 u' hu
def inV(x:V)(xs:List V):Bool:=xs.any λy=>eqV y x
def rIn(K:qH)(neg:Bool):R2:=λx y H Q=>∃p xs,y=.ref p/\(SqL K H p xs\/SqT K H p xs)/\W8 x=true/\xs.all W8=true/\Q (.bl (if neg then !inV x xs else inV x xs)) H
def ZW:OpR X (compareOp .NotIn) (rIn X.K true):=by
 intro pins s O H x y v u Q I rx ry h;obtain⟨p,xs,rfl,hq,fx,fs,q⟩:=h;cases ry;rcases hq with hq|hq
 ·obtain⟨its,r,pl,hz⟩:=I.list hq
  refine SeqAt.notIn_listAt (eqU x) pl.isList (λw hw=>uH rx fx r fs w (by simpa using hw)) ⟨.bl _,H,I,rfl,?_⟩;rw[show its.toArray.any (eqU x)=its.any (eqU x)by simp,QS r fs];exact q
 ·obtain⟨its,r,pl,hz⟩:=I.tuple hq
  refine SeqAt.notIn_tupleAt (eqU x) pl (λw hw=>uH rx fx r fs w (by simpa using hw)) ⟨.bl _,H,I,rfl,?_⟩;rw[show its.toArray.any (eqU x)=its.any (eqU x)by simp,QS r fs];exact q
def GV:wy X (.builtin "len") (λxs H Q=>∃p ys,xs=[.ref p]/\(SqL X.K H p ys\/SqT X.K H p ys)/\Q (.int ys.length) H):=by
 intro pins s O H xs us Q I r h;obtain⟨p,ys,rfl,hq,q⟩:=h;obtain⟨u,rfl,rx⟩:=uE r;cases rx;have hn:=zAQ;rcases hq with hq|hq
 ·obtain⟨its,r',pl,hz⟩:=I.list hq
  have hlen:=r'.length;exact Calls.call_len_list pl.isList (by simp only[size_toArray]<;>omega) ⟨.int ys.length,H,I.tok _,⟨s.toks+1,by rw[size_toArray,hlen]⟩,q⟩
 ·obtain⟨its,r',pl,hz⟩:=I.tuple hq
  have hlen:=r'.length;exact len_tuple pl (by simp only[size_toArray]<;>omega) ⟨.int ys.length,H,I.tok _,⟨s.toks+1,by rw[size_toArray,hlen]⟩,q⟩
def GW:wy X (.type "list") (λxs H Q=>∃p ys,xs=[.ref p]/\(SqL X.K H p ys\/SqT X.K H p ys)/\∀l,H l=none->Q (.ref l) (upd H l (.l ys))):=by
 intro pins s O H xs us Q I r h;obtain⟨p,ys,rfl,hq,q⟩:=h;obtain⟨u,rfl,rx⟩:=uE r;cases rx;have fin:∀(its:List Value),yW ys its->ys.length<=sizeLine->∀(h':Heap) (c':Nat),(∀b o',s.heap.get? b=some o'->h'.get? b=some o') ->
   h'.get? s.heap.objs.size=some {cls:=.type "list",dict:=none,data:=.seq its.toArray c',slots:=#[]}->EP X pins O Q (.ref s.heap.objs.size) {s with heap:=h'}:=λits r' hz h' c' kp e =>
  ⟨.ref s.heap.objs.size,_,I.laid (t':=s.toks) kp (le_refl _) (show jz X.prog X.w _ h' _ (.l ys)from⟨hz,its,c',r',e⟩),rfl,q _ (I.hok.fresh (le_refl _))⟩
 rcases hq with hq|hq
 ·obtain⟨its,r',pl,hz⟩:=I.list hq
  have hlen:=r'.length;obtain⟨o,ho,hc,n,hd⟩:=pl.isList;exact call_list_seq p (.inl rfl) ho hc hd (λh' c' kp e=>fin its r' hz h' c' kp e) (by simp only[size_toArray]<;>omega)
 ·obtain⟨its,r',pl,hz⟩:=I.tuple hq
  have hlen:=r'.length;obtain⟨o,ho,hc,n,hd⟩:=pl;exact call_list_seq p (.inr rfl) ho hc hd (λh' c' kp e=>fin its r' hz h' c' kp e) (by simp only[size_toArray]<;>omega)
def uI:wy X (.type "tuple") (λxs H Q=>∃p ys,xs=[.ref p]/\((SqL X.K H p ys/\∀l,H l=none->Q (.ref l) (upd H l (.t ys)))\/(SqT X.K H p ys/\Q (.ref p) H))):=by
 intro pins s O H xs us Q I r h;obtain⟨p,ys,rfl,h⟩:=h;obtain⟨u,rfl,rx⟩:=uE r;cases rx;rcases h with⟨hq,q⟩|⟨hq,q⟩
 ·obtain⟨its,r',pl,hz⟩:=I.list hq
  have hlen:=r'.length;refine call_tuple_list pl.isList (λh' kp=>?_) (by simp only[size_toArray]<;>omega);have I1:Inv X pins O H {s with heap:=h'}:=I.kept (t':=s.toks) kp
  have I2:Inv X pins O (upd H h'.objs.size (.t ys)) {s with heap:=h'.push {cls:=.type "tuple",data:=.seq its.toArray}} :=
   I1.laid (t':=s.toks) (λb o e=>qA _ e) (le_refl _) (show jz X.prog X.w _ _ _ (.t ys)from⟨hz,its,r',IsTup.new _ _⟩)
  exact⟨.ref h'.objs.size,_,I2,rfl,q _ (I1.hok.fresh (le_refl _))⟩
 ·obtain⟨its,r',pl,hz⟩:=I.tuple hq
  exact call_tuple_same pl ⟨.ref p,H,I,rfl,q⟩
def tyV(K:qH)(T:String)(x:V)(H:Hp):Prop:=match x with
 | .str _=>T="str"| .int _=>T="int"
 | .ref p=>(T="list"/\∃xs,SqL K H p xs)\/(T="tuple"/\∃o,K.lookup p=some o/\o.cls=.type "tuple"/\o.dict=none) \/
   (T="dict"/\((∃kvs,H p=some (.dK kvs))\/∃kvs,H p=some (.dT kvs)))\/(T="set"/\∃S n,H p=some (.set S n))
 |_=>False
def tyV_is(I:Inv X pins O H s)(r:yp x v)(ty:tyV X.K T x H) :
  s.TypeIs v T/\∀a,v=.ref a->∃ob,s.heap.get? a=some ob/\ob.dict=none:=by
 cases x with
 |str z =>
  obtain⟨t,rfl⟩:=r;cases (show T="str" from ty);exact⟨typeIs_str s z t,λ_ e=>nomatch e⟩
 |int i =>
  obtain⟨t,rfl⟩:=r;cases (show T="int" from ty);exact⟨typeIs_int s i t,λ_ e=>nomatch e⟩
 |ref p =>
  cases r;rcases ty with⟨rfl,xs,hq⟩|⟨rfl,o,hk,hc,hd⟩|⟨rfl,hk⟩|⟨rfl,S,n,hk⟩
  ·obtain⟨its,_,pl,_⟩:=I.list hq
   refine⟨pl.isList.typeIs,λa e=>?_⟩;cases e;obtain⟨o,n,e,c,hd,_⟩:=pl;exact⟨o,e,hd⟩
  ·refine⟨⟨o,I.kIn p o hk,hc⟩,λa e=>?_⟩
   cases e;exact⟨o,I.kIn _ o hk,hd⟩
  ·have z:∃o,s.heap.get? p=some o/\o.ExactDict:=by
    rcases hk with⟨kvs,hk⟩|⟨kvs,hk⟩
    ·obtain⟨_,_,_,_,o,_,_,e,ex,_⟩:=I.hok p _ hk
     exact⟨o,e,ex⟩
    ·obtain⟨_,_,_,_,o,_,_,e,ex,_⟩:=I.hok p _ hk
     exact⟨o,e,ex⟩
   obtain⟨o,e,ex⟩:=z;refine⟨⟨o,e,ex.1⟩,λa e2=>?_⟩;cases e2;exact⟨o,e,ex.2.1⟩
  ·obtain⟨o,_,_,_,e,ex,_⟩:=I.hok p _ hk
   refine⟨⟨o,e,ex.1⟩,λa e2=>?_⟩;cases e2;exact⟨o,e,ex.2.1⟩
 |_=>exact False.elim ty
def tBM(K:qH)(T:String)(r:V->List V->Hp->VK->Prop)(to:TE)(t:TA):TE:=λO H Q=>to O H λx H1=>tyV K T x H1/\t O H1 λxs H2=>r x xs H2 Q
variable{o e:Expr}{es:List Expr}{to:TE}{t:TA}{name:Str}{apos cpos:Pos}{T id:String}{r:V->List V->Hp->VK->Prop}
def pe_bm(pa:PlainAttrs T)(slot:Slot T name id)(hty:typeOf (.builtin id)=pure (.type "method_descriptor"))(hm:MtR X id r)(ho:PE X o to)(ha:PA X (e::es) t)
  (hbase:attributeBase o name X.env (eval o X.env)=eval o X.env:=by rfl)
  (hfew:((backTo cpos (starEach (e::es) X.env)).all (λx=>!x.1)&&(backToKw cpos (keywordEach [] X.env)).all (λx=>x.1.isSome)
   && decide ((e::es).length+([]:List Keyword).length+(if([]:List Keyword).isEmpty then 0 else 1)<30))=true:=by rfl)
  (hline:(apos.endLine==cpos.line)=true:=by rfl) (hs:starEach (e::es) X.env=(false,eval e X.env)::starEach es X.env:=by rfl) (hplain:(backTo cpos (starEach es X.env)).any (·.1)=false:=by rfl) :
  PE X (.Call (.Attribute o name apos) (e::es) [] cpos) (tBM X.K T r to t):=by
 intro pins s O H Q I h;refine wpAny_Call_method_late hbase hfew hline rfl (thn (ho pins s O H _ I h) λv s1 ⟨x,H1,I1,r1,ty,q1⟩=>?_);obtain⟨h1,h2⟩:=tyV_is I1 r1 ty;refine⟨T,id,pa,slot,hty,h1,h2,?_⟩;have hA:=ha cpos pins s1 O H1 _ I1 q1;rw[hs]at hA ⊢;refine Calls.callWith_builtin (by show(false||(backTo cpos (starEach es X.env)).any (·.1))=false;rw[hplain]<;>rfl) (Calls.evalArgs_plain ?_);exact thn hA λus s2 ⟨vs,H2,I2,r2,q2⟩=>hm pins s2 O H2 x vs v us Q I2 r1 r2 q2
end
def MtM(X:Cx)(id:String)(r:V->List V->Hp->VK->Prop):Prop :=
 ∀(pins:List (Addr×Obj)) (s:Shared) (O:St) (H:Hp) (x:V) (xs:List V) (v:Value) (us:List Value) (Q:VK),Inv X pins O H s->yp x v->yW xs us->r x xs H Q ->
  wpAny (model X.prog X.w) X.A (call (.builtin id) (v::us)) (EP X pins O Q) X.xe s
def yW.one{x:V}{us:List Value}(h:yW [x] us):∃u,us=[u]/\yp x u:=by cases h with|cons r t=>cases t;exact⟨_,rfl,r⟩
theorem yW.rep(h:yW xs us):∀k:Nat,yW (replicate k xs).flatten (replicate k us).flatten
 |0=>.nil
 |k+1=>by
  rw[replicate_succ,replicate_succ,flatten_cons,flatten_cons];exact yW.append h (yW.rep h k)
theorem WK(its:List Value):∀(k:Nat) (acc:List Value),
  foldl (λx1 x2=>x1++x2) acc.toArray (replicate k its.toArray)=(acc++(replicate k its).flatten).toArray
 |0,acc=>by simp
 |k+1,acc=>by
  have e:acc.toArray++its.toArray=(acc++its).toArray:=by simp
  have e2:(acc++its)++(replicate k its).flatten=acc++(replicate (k+1) its).flatten:=by
   rw[replicate_succ,flatten_cons,append_assoc]
  rw[<- e2,<- WK its k (acc++its),<- e,replicate_succ,foldl_cons]
section
variable{X:Cx}{pins:List (Addr×Obj)}{O:St}{H:Hp}{s:Shared}{l b:Addr}{xs ys zs:List V}
def Inv.lset{its its':List Value}{n:Nat}{f:Array Value->Array Value}{t':Nat}(I:Inv X pins O H s)(hH:H l=some (.l xs))
  (e:s.heap.get? l=some {cls:=.type "list",data:=.seq its.toArray n}) (hf:f its.toArray=its'.toArray) (hv:yW ys its') (hz:ys.length<=sizeLine) :
  Inv X pins O (upd H l (.l ys)) {s with heap:=s.heap.update l (Obj.mapSeq f),toks:=t'}:=by
 have q:=PySem.IsL.update e f;rw[hf]at q;refine I.write (x:=l) (e:=l) (by rw[hH];exact trivial) (.inl rfl) (λb' u hb hu=>(Heap.get?_update_other s.heap (Obj.mapSeq f) (Ne.symm hb)).trans hu) ⟨_,q⟩ ?_;exact⟨hz,its',_,hv,q⟩
def Inv.lnew(I:Inv X pins O H s)(hv:yW ys its)(hz:ys.length<=sizeLine) :
  Inv X pins O (upd H s.heap.objs.size (.l ys)) {s with heap:=s.heap.push {cls:=.type "list",data:=.seq its.toArray},toks:=t'} :=
 I.laid (λ_ _ q=>qA _ q) (le_refl _) ⟨hz,its,0,hv,get?_push_size _ rfl⟩
theorem Inv.fresh(I:Inv X pins O H s):H s.heap.objs.size=none:=I.hok.fresh (le_refl _)
def Inv.lstM(I:Inv X pins O H s)(hH:H l=some (.l xs)):xs.length<=sizeLine/\∃(its:List Value) (n:Nat),yW xs its/\xs.length=its.length/\s.heap.get? l=some {cls:=.type "list",data:=.seq its.toArray n}:=by
 obtain⟨z,its,n,r,e⟩:=I.hok l _ hH;exact⟨z,its,n,r,r.length,e⟩
def zEN{n:Nat}(h:n<=sizeLine):Builtin.List.listTooLong n=false:=by
 unfold Builtin.List.listTooLong;exact decide_eq_false (by omega)
end
section
variable{X:Cx}
def zCI:V->List V->Hp->VK->Prop:=λx vs H Q=>∃l xs y,x=.ref l/\vs=[y]/\H l=some (.l xs)/\xs.length<sizeLine/\Q .non (upd H l (.l (xs++[y])))
def GX:MtM X "list.append" zCI:=by
 intro pins s O H x vs v us Q I rx rv h;obtain⟨l,xs,y,rfl,rfl,hH,hz,q⟩:=h;cases rx;obtain⟨u,rfl,ru⟩:=rv.one;obtain⟨z,its,n,r,hl,e⟩:=I.lstM hH;refine call_meets F.slot_list_append ⟨_,e,rfl⟩ F.entry_list_append (F.args_list_append_2 _ _) (PySem.list_append l its.toArray n u (by rw[size_toArray];omega)) ⟨e,?_⟩;refine⟨.non,_,I.lset (its':=its++[u]) hH e (by simp) (r.append (.cons ru .nil)) ?_,rfl,q⟩;rw[length_append,List.length_singleton];omega
def QT{α:Type}(xs:List α)(k:Nat):(replicate k xs).flatten.length=k*xs.length:=by
 induction k with
 |zero=>simp|succ k ih=>rw[replicate_succ,flatten_cons,length_append,ih,succ_mul,Nat.add_comm]
end
end L2
namespace Att
open PySem PySem.W PySem.Calls PyProof.Rows
def WL:∀(ns:List Int) (vs:List Value),WellAll P h vs (ns.map WData.int)->IntsAre vs ns:=by
 intro ns
 induction ns with
 |nil =>
  intro vs w;rw[map_nil]at w;cases w;exact .nil
 |cons n ns ih =>
  intro vs w;rw[map_cons]at w;cases w with
  |cons a b =>
   cases a;exact .cons _ _ (ih _ b)
def zCJ{l:OpenLaw}{n:Nat}(hn:l.most=some n){P:Params}{h:Heap}{args:List WData}{vals:List Value}
  (hpre:l.row.toRowW.claim.pre args=true) (hwl:WellAll P h vals args) :
  ∃a vs ns,vals=[Value.ref a]/\args=[WData.list (ns.map WData.int)]/\h.get? a=some {cls:=.type "list",data:=.seq vs.toArray}/\IntsAre vs ns/\ns.length<=n:=by
 have hsh:WShape.hasAll [] args [.list .int]=true:=(pre_splitW hpre).1;have hc:l.pre.holds [] {args:=args}=true:=(pre_splitW hpre).2;obtain⟨d,r,rfl,h1,h2⟩:=hasAllW_cons hsh;obtain rfl:=hasAllW_nil h2;obtain⟨xs,rfl,h3⟩:=hasW_list h1;obtain⟨ns,rfl⟩:=items_int h3;have hlen:ns.length<=n:=by
  unfold OpenLaw.pre at hc;have h4:(WTm.not (.lt (.lit (.int (n:Int))) (.len (.arg 0)))).holds [] {args:=[.list (ns.map .int)]}=true:=by
   have h4:=(holds_andW hc).1;rw[hn]at h4;exact h4
  have h5:=condW_of h4 (w_not (w_lt w_lit (w_len_list (w_arg rfl))));rw[length_map]at h5;refine Nat.le_of_not_lt λq=>?_
  have q':(n:Int)<((ns.length:Nat):Int):=by omega
  first
   | (rw[decide_eq_true q']at h5;exact absurd h5 (by decide))
   | (simp at h5;omega)
 cases hwl with
 |cons w1 w2 =>
  cases w2;cases w1 with
  |list ho hall=>exact⟨_,_,ns,rfl,rfl,ho,WL ns _ hall,hlen⟩
def zCK(l:OpenLaw)(args:List WData):l.row.toRowW.claim.post args (.bool true) args=true :=
 postW_of (r:=l.row.toRowW) (X:=(true==true))
  (show WShape.has [] (.bool true) .bool=true by first|rfl|decide|simp[WShape.has,WShape.arms,WShape.armsAll])
  (show(WTm.eq .res (.lit (.bool true))).value [] {args:=args,res:=some (.bool true),after:=args}=some (.bool (true==true))from w_eq_bool (w_res rfl) w_lit) rfl
def attach_call{l:OpenLaw}{n:Nat}{q:Program}{loose:List Str}{XP:(Str->Option Value)->Heap->Prop}{YP:World->Heap->Prop}{d:DefRec}
  (hn:l.most=some n) (hdf:d.params.defaults=[])
  (call:∀(w:World) (s₀ s₁:Shared) (mg mb:Str->Option Value) (fa:Addr) (o:Obj) (pm cd doc:Value) (a:Addr) (vs:List Value) (ns:List Int),
   Ground q loose [] XP w s₀ mg mb s₁.heap->YP w s₁.heap ->
   s₁.heap.get? fa=some o->o.data=.func (docDef d.name d.params d.body d.scope pm cd doc)->s₁.heap.CodeRec cd d.name->mg d.name=some (.ref fa) ->
   s₁.heap.get? a=some {cls:=.type "list",data:=.seq vs.toArray}->IntsAre vs ns->ns.length<=n->s₁.gens=#[] ->
   codeAny (model l.prog w) callerA (.call (.ref fa) ⟨[.ref a],[]⟩) (λr s'=>r=.ok (.ret (.bool true))/\OldK s₁.heap s'.heap/\s'.os=s₁.os/\AllBare s'.gens) s₁) :
  WalkO q loose XP YP l.row.toRowW d [] (λf vs=>PySem.call f vs):=by
 intro w s₀ s₁ mg mb G Y fa o pm cd doc dV kV ho hd hcd hD hmg hg args vals as hpre hlay hrd hwl hlo;obtain rfl:dV=.none:=Dflts.none hD hdf;obtain rfl:kV=.none:=Dflts.noKw hD;obtain⟨a,vs,ns,rfl,rfl,hobj,hints,hlen⟩:=zCJ hn hpre hwl;refine enter_call (codeAny_mono (call w s₀ s₁ mg mb fa o pm cd doc a vs ns G Y ho (fd_plain hd) hcd hmg hobj hints hlen hg) λr s' hq=>?_);obtain⟨rfl,h2,h3,h4⟩:=hq;exact⟨.inl ⟨.bool true,.bool true,[],rfl,λ_=>rfl,.bool true,zCK l _,λ_=>⟨List.Pairwise.nil,λ_ hm=>(nomatch hm)⟩⟩,h2,h3,h4⟩
end Att
namespace L2
open PySem PySem.Spec PyProof.Rows
theorem GY:∀{vs:List Value} {ns:List Int},IntsAre vs ns->yW (ns.map V.int) vs
 |_,_,.nil=>.nil|_,_,.cons n t h=>.cons ⟨t,rfl⟩ (GY h)
def Only(H:Hp):Prop:=∀b,H b=none\/∃o xs,H b=some (.frz o (.l xs))
def zEO{P:Program}{w:World}{K:qH}{mg mb:Str->Option Value}{CX:CXT}{k:Nat}{fa a:Addr}{fd:FuncData}{x:Str}{sp:Sp}{s₁:Shared}{vs:List Value}{ns:List Int}
  (KX:K.In s₁.heap) (hns:s₁.heap.Ns mainGlobals mg) (hb:s₁.heap.Ns builtinsNs mb) (hbb:∀x:Str,x≠"__name__"->mb x=bootBuiltins x) (hlim:s₁.heap.NoLimit) (hg:s₁.gens=#[])
  (ha:s₁.heap.get? a=some {cls:=.type "list",data:=.seq vs.toArray}) (hi:IntsAre vs ns) (hl:ns.length<=sizeLine) (hr:Room k callerA)
  (F:∀base:Heap,K.In base->base.Ns mainGlobals mg->FnOk P w K mg base CX k fa fd [x] sp) (hbind:∀(s:Shared) (u:Value),BindsTo s fd ⟨[u],[]⟩ [(x,u)])
  (hsp:∀H:Hp,Only H->SqL K H a (ns.map V.int)->sp [.ref a] H (λv _=>v=.bl true) λ_ _ _=>False)
  (hCX:∀H e s',CX [] H s₁ (λ_ _ _=>False) e s'->False) :
  codeAny (model P w) callerA (.call (.ref fa) ⟨[.ref a],[]⟩) (λr s'=>r=.ok (.ret (.bool true))/\OldK s₁.heap s'.heap/\s'.os=s₁.os/\AllBare s'.gens) s₁:=by
 have rv:=GY hi;have lenV:=hi.length
 -- from an abstract heap in which nothing but the script may be tracked
 have core:∀H:Hp,Only H->SqL K H a (ns.map V.int)->HOk P w H s₁.heap->(∀b,H b≠none->b=a)->(H a≠none->K.lookup a=none) ->
   codeAny (model P w) callerA (.call (.ref fa) ⟨[.ref a],[]⟩) (λr s'=>r=.ok (.ret (.bool true))/\OldK s₁.heap s'.heap/\s'.os=s₁.os/\AllBare s'.gens) s₁:=by
  intro H hO hS hok hA hK;have base_of:∀{b:Addr} {o:Obj},s₁.heap.get? b=some o->H b=none->(zD8 s₁.heap H).get? b=some o:=λe n=>zD9 e n
  have noA:∀{b:Addr} {o:Obj} {es:Array DictEntry} {ep:Nat},s₁.heap.get? b=some o->o.data=.dict es ep->H b=none:=λ{b o es ep} e d=>by
   cases q:H b with
   |none=>rfl
   |some u =>
    have e':b=a:=hA b (by rw[q];simp);subst e';rw[ha]at e;cases e;have d':Data.seq vs.toArray _=Data.dict es ep:=d;cases d'
  have nsK:∀{b:Addr} {m:Str->Option Value},s₁.heap.Ns b m->(zD8 s₁.heap H).Ns b m:=λ{b m} ⟨o,es,ep,e,d,r⟩=>⟨o,es,ep,base_of e (noA e d),d,r⟩
  have hKb:K.In (zD8 s₁.heap H):=λb o e=>base_of (KX b o e) (by
   cases q:H b with
   |none=>rfl
   |some u =>
    have e':b=a:=hA b (by rw[q];simp);subst e';rw[hK (by rw[q];simp)]at e;cases e)
  have hM:Mod K mg (zD8 s₁.heap H):=⟨hKb,nsK hns,⟨mb,nsK hb,hbb⟩,let ⟨mc,h1,h2⟩:=hlim;⟨mc,nsK h1,h2⟩⟩;have e0:Env0 P w K mg (zD8 s₁.heap H) callerA [] s₁ H:=⟨rfl,hM,λb o e=>of_hidT e,Nat.le_of_eq (zBs _ _),trivial,λb hb=>absurd (show b∈([]:List Addr)from hb) (by simp),hok,.of_eq hg⟩;refine codeAny_mono ((F _ hKb (nsK hns)).run callerA [] s₁ H ⟨[.ref a],[]⟩ [.ref a] [.ref a] _ _ hr e0 (hbind s₁ (.ref a)) (.cons rfl .nil) (hsp H hO hS)) λr s' h=>?_
  cases r with
  |error e=>exact(hCX H e s' h).elim
  |ok fl =>
   cases fl with
   |next=>exact False.elim h|brk=>exact False.elim h|cont=>exact False.elim h
   |ret u =>
    obtain⟨v,H',os,bare,un,hok',r',q⟩:=h;have q':v=.bl true:=q;subst q';obtain rfl:u=Value.bool true:=r';refine⟨rfl,OldK.of_keep λb o e=>?_,os,bare⟩;cases q:H b with
    |none=>exact un.keep b o e q (by intro z;exact absurd (show b∈([]:List Addr)from z) (by simp)) (by simp)
    |some u =>
     rcases hO b with z|⟨ob,xs,z⟩
     ·rw[q]at z;cases z
     ·have z2:=un.frzs b ob _ z
      obtain⟨e1,_⟩:=hok b _ z;obtain⟨e2,_⟩:=hok' b _ z2;rw[e]at e1;cases e1;exact e2
 cases hk:K.lookup a with
 |some o =>
  -- the script is one of the module's own objects
  have e:=KX a o hk;rw[ha]at e;cases e;refine core (λ_=>none) (λ_=>.inl rfl) (.inr ⟨_,vs.toArray,_,hk,rfl,rfl,rfl,by rw[size_toArray,lenV];exact hl,by simpa using rv⟩) (λb u z=>by have z':(none:Option HO)=some u:=z;cases z') (λb z=>absurd rfl z) λz=>absurd rfl z
 |none =>
  refine core (λb=>if b=a then some (.frz {cls:=.type "list",data:=.seq vs.toArray} (.l (ns.map V.int)))else none) (λb=>?_) (.inl (.inr ⟨{cls:=.type "list",data:=.seq vs.toArray},if_pos rfl⟩)) (λb u z=>?_) (λb z=>?_) λ_=>hk
  ·by_cases hb:b=a
   ·exact .inr ⟨_,_,if_pos hb⟩
   ·exact .inl (if_neg hb)
  ·by_cases hb:b=a
   ·have z':=(if_pos hb).symm.trans z
    cases z';subst hb;exact⟨ha,by rw[length_map];exact hl,vs,_,rv,ha⟩
   ·have z':=(if_neg hb).symm.trans z
    cases z'
  ·by_cases hb:b=a
   ·exact hb
   ·exact absurd (if_neg hb) z
abbrev E0:XK:=λ_ _ _=>False
structure Fun(K:qH)(x qual:Str)(st:Stmt)(f:Addr)(fd:FuncData):Prop where
 ex:∃(oc:Value) (od:Option Addr) (kV doc pm:Value) (an:Option Addr) (cdv ct:Value) (osl:Array (Option Value)),
  fd=fnOf x qual (Jv st) (jR st) (zn st) .none kV doc pm an cdv ct/\K.lookup f=some ⟨oc,od,.func fd,osl⟩/\codeIn K cdv qual=true
 kp:keepIn K (.ref f)=true
section
variable{P:Program}{w:World}{K:qH}{mg:Str->Option Value}{base:Heap}
def Fun.binds{x qual:Str}{st:Stmt}{f:Addr}{fd:FuncData}{ps:List Str}(F:Fun K x qual st f fd)
  (h:∀(kV doc pm:Value) (an:Option Addr) (cdv ct:Value) (us:List Value),us.length=ps.length->bindArgs (fnOf x qual (Jv st) (jR st) (zn st) .none kV doc pm an cdv ct) ⟨us,[]⟩=pure (ps.zip us)):Zs K fd ps []:=by
 obtain⟨oc,od,kV,doc,pm,an,cdv,ct,osl,rfl,lk,hcd⟩:=F.ex;exact .all (h kV doc pm an cdv ct)
def zFu{x qual:Str}{st:Stmt}{f:Addr}{oc:Value}{od an:Option Addr}{osl:Array (Option Value)}{kV doc pm cdv ct:Value}(l:K.lookup f=some ⟨oc,od,.func (fnOf x qual (Jv st) (jR st) (zn st) .none kV doc pm an cdv ct),osl⟩)
  (c:codeIn K cdv qual=true) (k:keepIn K (.ref f)=true):Fun K x qual st f (fnOf x qual (Jv st) (jR st) (zn st) .none kV doc pm an cdv ct):=⟨⟨oc,od,kV,doc,pm,an,cdv,ct,osl,rfl,l,c⟩,k⟩
end
def zFv{A B:Prop}(h:B):if false=true then A else B:=by
 rw[if_neg qF];exact h
def zFw{A B:Prop}(h:A):if true=true then A else B:=by
 rw[if_pos rfl];exact h
def Yv(H H':Hp):Prop:=∀b o,H b=some o->H' b=some o
def Yv.refl(H:Hp):Yv H H:=λ_ _ h=>h
def Yv.trans(a:Yv H H1)(b:Yv H1 H2):Yv H H2:=λc o h=>b c o (a c o h)
def Yv.seq{K:qH}{H H':Hp}{a:Addr}{xs:List V}(e:Yv H H')(h:SqL K H a xs):SqL K H' a xs:=by
 rcases h with(h|⟨o,h⟩)|h
 ·exact .inl (.inl (e _ _ h))
 ·exact .inl (.inr ⟨o,e _ _ h⟩)
 ·exact .inr h
end L2
namespace DV
open PySem L2
abbrev KN:=Option Int
def oV:KN->V
 |none=>.non|some i=>.int i
def knIs:KN->Value->Bool
 |none,.none=>true|some i,v=>Value.isInt i v|_,_=>false
def jY(h:knIs k v=true):(k=none/\v=.none)\/∃i t,k=some i/\v=.int i t:=by
 cases k with
 |none=>cases v<;>first|exact .inl ⟨rfl,rfl⟩|(cases h)
 |some i=>obtain⟨t,e⟩:=Value.isInt_shape (k:=i) (v:=v) h;exact .inr ⟨i,t,rfl,e⟩
def kn_of(r:yp (oV k) u):knIs k u=true:=by
 cases k with
 |none=>cases r;rfl|some i=>obtain⟨t,rfl⟩:=r;simp[knIs,Value.isInt]
def hN:KN->Int
 |none=>0xFCA86420|some i=>hashInt i
section
variable{prog:Program}{w:World}{A:Around}{E:Value->Shared->Prop}{s:Shared}
def Yx{Q:Int->Shared->Prop}(h:Q 0xFCA86420 {s with toks:=s.toks+1}):wpAny (model prog w) A (pyHash .none) Q E s:=by
 have hT:s.TypeIs .none "NoneType":=rfl;unfold pyHash
 first|unfold pyHashByItsType|skip
 have hv:[Value.none].any Value.onHeap=false:=rfl;refine qB ?_;rw[cRoomFor,if_neg (by rw[hv];exact qF)];refine qC ?_;refine qB (wpAny_specialOf hT F.slot_NoneType_hash.lookup ?_);show wpAny _ _ (if(some (Value.builtin "NoneType.__hash__")==some Value.none)=true then _ else _) Q E s;rw[if_neg (by rw[beq_builtin_none];exact qF)];refine qB (wpAny_specialOf hT F.slot_NoneType_hash.lookup ?_);show wpAny _ _ (callSpecialIfBoundUnlessNone? .none "__hash__" _ >>= _) Q E s;refine qB (wpAny_callSpecialIfBoundUnlessNone?_slot hT F.slot_NoneType_hash
  (wpAny_call_entry F.slot_NoneType_hash hT F.entry_NoneType_hash
   (show wpAny _ _ (do ret (<- mkInt 0xFCA86420)) _ _ s from wpAny_ret_mkInt ?_) (F.args_NoneType_hash_1 _)))
 exact qC h
end
def JB(prog:Program)(w:World):KeyKind prog w KN where
 is:=knIs
 hash:=hN
 inj:=λv a b ha hb=>by
  rcases jY ha with⟨rfl,rfl⟩|⟨i,t,rfl,rfl⟩
  ·rcases jY hb with⟨rfl,e⟩|⟨j,u,rfl,e⟩
   ·rfl
   ·cases e
  ·rcases jY hb with⟨rfl,e⟩|⟨j,u,rfl,e⟩
   ·cases e
   ·injection e with e1 _;rw[e1]
 byValue:=λk v h=>by
  rcases jY h with⟨rfl,rfl⟩|⟨i,t,rfl,rfl⟩<;>rfl
 pyHash:=λhv h=>by
  rcases jY hv with⟨rfl,rfl⟩|⟨i,t,rfl,rfl⟩
  ·exact Yx h
  ·exact wpAny_pyHash_int h
 eqBool:=λ{A E s a b u v Q} hu hv h=>by
  have e:(if eqV (oV a) (oV b)=true then True else True):=by split<;>trivial
  rcases jY hu with⟨rfl,rfl⟩|⟨i,t,rfl,rfl⟩
  ·rcases jY hv with⟨rfl,rfl⟩|⟨j,u,rfl,rfl⟩
   ·exact zAT (y:=.non) (x:=.non) rfl rfl rfl rfl _ _ _ _ h
   ·exact zAT (y:=.non) (x:=.int j) rfl ⟨u,rfl⟩ rfl rfl _ _ _ _ h
  ·rcases jY hv with⟨rfl,rfl⟩|⟨j,u,rfl,rfl⟩
   ·exact zAT (y:=.int i) (x:=.non) ⟨t,rfl⟩ rfl rfl rfl _ _ _ _ h
   ·refine wpAny_eqBool_int ?_
    have:(i==j)=decide (some i=some j):=by
     by_cases q:i=j
     ·subst q;simp
     ·simp[q]
    rw[this];exact h
 «strs»:=λk x t v h=>by
  rcases jY h with⟨_,e⟩|⟨_,_,_,e⟩<;>cases e
def hT(ks:List KN):Int:=reduceHash (Builtin.Tuple.tupleHashOf (ks.map hN))
abbrev DE:=List KN×Addr×V
abbrev DX:=List KN×Addr×Value
def entN(x:DX):DictEntry:=⟨hT x.1,.ref x.2.1,x.2.2⟩
abbrev wL:List DE->List DX->Prop:=Paired λe x=>x.1=e.1/\x.2.1=e.2.1/\yp e.2.2 x.2.2
def dicP(a:Addr)(es:List DE)(h:Heap):Prop:=(a==sysModules)=false/\es.length<=sizeLine/\(es.map (·.1)).Nodup/\∃(o:Obj) (esA:Array DictEntry) (ep:Nat) (xs:List DX),h.get? a=some o/\o.ExactDict/\o.data=.dict esA ep/\wL es xs/\esA.toList=xs.map entN
def QU(a:Addr)(es:List DE):HO:=.dN (dicP a es)
def OwnK(o:HO):Prop:=(∃xs,o=.l xs)\/∃φ,o=.dN φ
def zCL(x:dicP a es h1)(k:∀o,h1.get? a=some o->h2.get? a=some o):dicP a es h2:=by
 obtain⟨x1,x2,x3,o,esA,ep,xs,e,r⟩:=x;exact⟨x1,x2,x3,o,esA,ep,xs,k o e,r⟩
def zFx(x:dicP a es h):jz P w H h a (QU a es):=by
 obtain⟨_,_,_,o,_,_,_,e,_⟩:=id x;exact⟨x,⟨o,e⟩,λh1 h2 y k=>zCL y k⟩
section
variable{P:Program}{w:World}{h:Heap}{a:Addr}{es:List DE}{xs:List DX}
theorem wL.keys:∀{es:List DE} {xs:List DX},wL es xs->xs.map (·.1)=es.map (·.1)
 |_,_,.nil=>rfl|_,_,.cons r t=>by simp only[map_cons];rw[r.1,wL.keys t]
theorem wL.mem:∀{es:List DE} {xs:List DX} {x:DX},wL es xs->x∈xs->∃e∈es,x.1=e.1/\x.2.1=e.2.1/\yp e.2.2 x.2.2
 |_,_,_,.nil,h=>by cases h
 |_,_,_,.cons r t,h=>by
  rcases mem_cons.mp h with rfl|h
  ·exact⟨_,qE,r⟩
  ·obtain⟨e,he,q⟩:=wL.mem t h
   exact⟨e,mem_cons_of_mem _ he,q⟩
def atE(es:List DE)(k:List KN):Option V:=(es.find? λe=>decide (e.1=k)).map (·.2.2)
theorem wL.at:∀{es:List DE} {xs:List DX} {k:List KN} {v:V},wL es xs->atE es k=some v->∃p,atKey xs k=some p/\yp v p.2
 |_,_,_,_,.nil,h=>by cases h
 |e::es,x::xs,k,v,.cons r t,h=>by
  unfold atE atKey at *;rw[find?_cons]at h ⊢;by_cases q:e.1=k
  ·rw[decide_eq_true q]at h
   rw[decide_eq_true (r.1.trans q)];simp only[Option.map_some,Option.some.injEq]at h;subst h;exact⟨x.2,rfl,r.2.2⟩
  ·rw[decide_eq_false q]at h
   rw[decide_eq_false (λz=>q (r.1.symm.trans z))];exact wL.at t h
theorem wL.none:∀{es:List DE} {xs:List DX} {k:List KN},wL es xs->atE es k=none->atKey xs k=none
 |_,_,_,.nil,_=>rfl
 |e::es,x::xs,k,.cons r t,h=>by
  unfold atE atKey at *;rw[find?_cons]at h ⊢;by_cases q:e.1=k
  ·rw[decide_eq_true q]at h;cases h
  ·rw[decide_eq_false q]at h
   rw[decide_eq_false (λz=>q (r.1.symm.trans z))];exact wL.none t h
def W7(es:List DE)(k:List KN)(ka:Addr)(v:V):List DE:=if(atE es k).isSome then es.map (λe=>if e.1=k then(e.1,e.2.1,v)else e)else es++[(k,ka,v)]
theorem wL.mapP:∀{es:List DE} {xs:List DX} {k:List KN} {v:V} {u:Value},wL es xs->yp v u->wL (es.map λe=>if e.1=k then(e.1,e.2.1,v)else e) (xs.map (putAt k u))
 |_,_,_,_,_,.nil,_=>.nil
 |e::es,x::xs,k,v,u,.cons r t,rv=>by
  simp only[map_cons];refine .cons ?_ (wL.mapP t rv);unfold putAt;by_cases q:e.1=k
  ·rw[if_pos q,if_pos (r.1.trans q)];exact⟨r.1,r.2.1,rv⟩
  ·rw[if_neg q,if_neg (λz=>q (r.1.symm.trans z))];exact r
theorem wL.app:∀{es fs:List DE} {xs ys:List DX},wL es xs->wL fs ys->wL (es++fs) (xs++ys)
 |_,_,_,_,.nil,g=>g|_,_,_,_,.cons r t,g=>.cons r (wL.app t g)
def wL.put(h:wL es xs)(rv:yp v u):wL (W7 es k ka v) (storedH xs k ka u):=by
 unfold W7 storedH;cases q:atE es k with
 |none=>rw[wL.none h q];exact h.app (.cons ⟨rfl,rfl,rv⟩ .nil)
 |some y =>
  obtain⟨p,e,_⟩:=wL.at h q;rw[e];exact h.mapP rv
def zCM(hn:(es.map (·.1)).Nodup):((W7 es k ka v).map (·.1)).Nodup/\(W7 es k ka v).length<=es.length+1:=by
 unfold W7;cases q:atE es k with
 |none =>
  simp only[Option.isSome_none,Bool.false_eq_true,if_false];refine⟨?_,by simp⟩;rw[map_append];refine nodup_append.mpr ⟨hn,by simp,λa ha b hb=>?_⟩;simp only[map_cons,map_nil,mem_singleton]at hb;subst hb;intro z;subst z;obtain⟨e,he,rfl⟩:=mem_map.mp ha;unfold atE at q;simp only[Option.map_eq_none_iff,List.find?_eq_none]at q;exact q e he (decide_eq_true rfl)
 |some y =>
  simp only[Option.isSome_some,if_true];refine⟨?_,by simp⟩;have:(es.map λe=>if e.1=k then(e.1,e.2.1,v)else e).map (·.1)=es.map (·.1):=by
   rw[map_map];refine map_congr_left λe _=>?_
   simp only[Function.comp];split<;>rfl
  rw[this];exact hn
end
section
variable{X:Cx}{pins:List (Addr×Obj)}{O:L2.St}{H:Hp}{s:Shared}{a:Addr}{es:List DE}
def zAU(I:Inv X pins O H s)(h:SqT X.K H ka (ks.map oV)):IsTupleKey (JB X.prog X.w) s.heap ks ka:=by
 obtain⟨its,r,p,_⟩:=I.tuple h;obtain⟨o,ho,hc,n,hd⟩:=p;refine⟨o,its.toArray,n,ho,hc,hd,?_⟩;have gen:∀{ks:List KN} {us:List Value},yW (ks.map oV) us->ItemsAre (JB X.prog X.w) ks us:=λ{ks}=>by
  induction ks with
  |nil=>intro us h;cases h;exact .nil
  |cons k ks ih=>intro us h;cases h with|cons r t=>exact .cons (kn_of r) (ih t)
 exact gen r
def zFy(I:Inv X pins O H s)(e:H a=some (QU a es))(hk:∀x∈es,SqT X.K H x.2.1 (x.1.map oV)):∃xs:List DX,wL es xs/\s.heap.DictOfH (tupleKind (JB X.prog X.w)) a xs/\(a==sysModules)=false/\es.length<=sizeLine/\(es.map (·.1)).Nodup:=by
 obtain⟨⟨x1,x2,x3,o,esA,ep,xs,h1,h2,h3,h4,h5⟩,_⟩:=(show jz X.prog X.w H s.heap a (QU a es)from I.hok a _ e);refine⟨xs,h4,⟨o,esA,ep,h1,h2,h3,h5,λx hx=>?_,by rw[wL.keys h4];exact x3⟩,x1,x2,x3⟩;obtain⟨y,hy,q1,q2,_⟩:=wL.mem h4 hx;rw[q1,q2];exact zAU I (hk y hy)
end
def wM(h h':Heap):Prop:=∀b o,h.get? b=some o->∃o',h'.get? b=some o'/\o'.dict=o.dict
def wM.refl(h:Heap):wM h h:=λ_ o e=>⟨o,e,rfl⟩
theorem wM.trans{h1 h2 h3:Heap}(a:wM h1 h2)(b:wM h2 h3):wM h1 h3:=λc o e=>by
 obtain⟨o1,e1,d1⟩:=a c o e;obtain⟨o2,e2,d2⟩:=b c o1 e1;exact⟨o2,e2,d2.trans d1⟩
def wM.of_keeps{h h':Heap}(k:∀b o,h.get? b=some o->h'.get? b=some o):wM h h':=λb o e=>⟨o,k b o e,rfl⟩
def wM.upd{h:Heap}{a:Addr}{f:Obj->Obj}(hf:∀o,(f o).dict=o.dict/\(o.isFreed=false->(f o).isFreed=false)):wM h (h.update a f):=λb o e=>by
 by_cases hb:a=b
 ·subst hb
  exact⟨f o,Heap.get?_update_self _ e ((hf o).2 (Heap.get?_some_iff.mp e).2),(hf o).1⟩
 ·exact⟨o,(Heap.get?_update_other _ _ hb).trans e,rfl⟩
def jZ{α:Type}:Sem α->Prop
 | .pure _=>True| .raise _=>True| .unsupported _=>True| .finish _=>True| .rule _ k=>jZ (k ())| .at _ k=>jZ (k ())| .load _ _ k=>∀o,jZ (k o)| .update _ _ f k=>(∀o,(f o).dict=o.dict/\(o.isFreed=false->(f o).isFreed=false))/\jZ (k ())| .alloc _ k=>∀a,jZ (k a)| .stack k=>∀l,jZ (k l)|_=>False
theorem jZ.bind{α β:Type}{f:α->Sem β}(hf:∀a,jZ (f a)){t:Sem α}(ht:jZ t):jZ (t >>= f):=by
 show jZ (t.bind f)
 induction t with
 |pure a=>exact hf a|raise _=>trivial|unsupported _=>trivial|finish _=>trivial|rule _ k ih=>exact ih () ht| «at» _ k ih=>exact ih () ht|load _ _ k ih=>exact λo=>ih o (ht o)|update _ _ _ k ih=>exact⟨ht.1,ih () ht.2⟩|alloc _ k ih=>exact λa=>ih a (ht a)|stack k ih=>exact λl=>ih l (ht l)|_=>exact False.elim ht
def tame_wp{α:Type}(M:Model)(Γ:Ctx)(h0:Heap)(Q:α->Pos->Shared->Prop)(E:Value->Pos->Shared->Prop)(t:Sem α):∀(p:Pos) (s:Shared),jZ t->wM h0 s.heap->Sem.wp M Γ t Q E p s ->
  Sem.wp M Γ t (λa p' s'=>Q a p' s'/\wM h0 s'.heap) (λe p' s'=>E e p' s'/\wM h0 s'.heap) p s:=by
 induction t with
 |pure a=>intro p s _ k h;rw[Sem.wp]at h ⊢;exact⟨h,k⟩|raise a=>intro p s _ k h;rw[Sem.wp]at h ⊢;exact⟨h,k⟩|unsupported _=>intro p s _ k h;rw[Sem.wp]at h;exact h.elim|finish _=>intro p s _ k h;rw[Sem.wp]at h;exact h.elim|rule _ f ih=>intro p s t k h;rw[Sem.wp]at h ⊢;exact ih () p s t k h| «at» _ f ih=>intro p s t k h;rw[Sem.wp]at h ⊢;exact ih () _ s t k h
 |load a _ f ih =>
  intro p s t k h;rw[Sem.wp]at h ⊢;obtain⟨o,e,h⟩:=h;exact⟨o,e,ih o p s (t o) k h⟩
 |update a _ g f ih =>
  intro p s t k h;rw[Sem.wp]at h ⊢;exact⟨h.1,ih () p _ t.2 (k.trans (wM.upd t.1)) h.2⟩
 |alloc o f ih =>
  intro p s t k h;rw[Sem.wp]at h ⊢;exact ih _ p _ (t _) (k.trans (wM.of_keeps λb o e=>qA _ e)) h
 |stack f ih=>intro p s t k h;rw[Sem.wp]at h ⊢;exact ih _ p s (t _) k h|_=>intro p s t;exact False.elim t
def ve{α:Type}{M:Model}{A:Around}{t:Sem α}{Q:α->Shared->Prop}{E:Value->Shared->Prop}{s:Shared}(ht:jZ t)(h:wpAny M A t Q E s) :
  wpAny M A t (λa s'=>Q a s'/\wM s.heap s'.heap) (λe s'=>E e s'/\wM s.heap s'.heap) s:=λΓ p hΓ =>
 tame_wp M Γ s.heap _ _ t p s ht (wM.refl _) (h Γ p hΓ)
def ja{α:Type}{c:Prop}[Decidable c]{a b:Sem α}(ha:jZ a)(hb:jZ b):jZ (if c then a else b):=by split<;>assumption
def mapF_ok(f:Array Value->Array Value)(o:Obj):(Obj.mapFields f o).dict=o.dict/\(o.isFreed=false->(Obj.mapFields f o).isFreed=false):=by
 obtain⟨c,d,dt,sl⟩:=o;cases dt<;>exact⟨rfl,λh=>h⟩
def WM(a:Addr):jZ (load a):=λ_=>trivial
def zAV{a:Addr}{f:Obj->Obj}(h:∀o,(f o).dict=o.dict/\(o.isFreed=false->(f o).isFreed=false)):jZ (update a f):=⟨h,trivial⟩
def Ja(v:Value)(i:Nat):jZ (field v i):=by
 unfold field fieldsOf;refine jZ.bind (λa=>?_) ?_
 ·cases a[i]?<;>trivial
 ·cases v<;>first|trivial|skip
  refine jZ.bind (λo=>?_) (WM _);cases o.data<;>trivial
def wO(v:Value)(i:Nat)(x:Value):jZ (setField v i x):=by
 unfold setField updateField;cases v with
 |ref a =>
  refine jZ.bind (λo=>?_) (WM _);cases o.data<;>first|trivial|skip;exact ja (zAV (mapF_ok _)) trivial
 |_=>trivial
def Yy:jZ stack:=λ_=>trivial
def W9(v:Value)(f:Option Addr):jZ (setFlight v f):=by
 unfold setFlight;refine jZ.bind (λtb=>ja (wO _ _ _) ?_) (Ja v 1);exact trivial
theorem vf:∀l:List Env,jZ (readyFrames l)
 | []=>trivial
 |env::outer=>by
  unfold readyFrames;cases env.frame with
  |none=>trivial
  |some f =>
   refine jZ.bind (λo=>ja ?_ ?_) (WM f)
   ·exact trivial
   refine jZ.bind (λim=>?_) ?_
   ·refine jZ.bind (λbk=>?_) ?_
    ·refine jZ.bind (λ_=>vf outer) (zAV λo=>⟨rfl,?_⟩)
     obtain⟨c,d,dt,sl⟩:=o;cases dt<;>exact λh=>h
    ·cases outer with
     |nil =>
      refine ja ?_ (jZ.bind (λb=>?_) (jZ.bind (λ_=>?_) Yy))
      all_goals exact trivial
     |cons c r=>exact trivial
   ·unfold behindIsImport
    refine ja ?_ (ja ?_ (jZ.bind (λ_=>?_) (Ja _ _)))
    all_goals exact trivial
def zCN(v:Value)(env:Env):jZ (noteFrame v env):=by
 unfold noteFrame;cases env.frame with
 |none=>trivial
 |some f =>
  have hN:∀head:Value,jZ (do setField v 1 (<- EntryCells.newEntry head (<- frameOf env) .none (rawInt f) .none (<- entryPlaceOf f (head != .none)))):=λhead=>by
   refine jZ.bind (λfr=>?_) ?_
   ·refine jZ.bind (λpl=>?_) ?_
    ·refine jZ.bind (λx=>wO _ _ _) ?_
     unfold EntryCells.newEntry newFields newObj;refine ja ?_ ?_
     ·exact trivial
     ·exact λa=>trivial
    ·unfold entryPlaceOf
     refine jZ.bind (λacts=>?_) Yy;split<;>exact trivial
   ·unfold frameOf frameObject
    refine jZ.bind (λe=>?_) (jZ.bind (λ_=>?_) Yy)
    ·refine jZ.bind (λo=>?_) ?_
     ·cases o<;>exact trivial
     ·split
      ·exact trivial
      ·refine jZ.bind (λ_=>?_) (vf _)
       exact trivial
    ·exact trivial
  refine jZ.bind (λhead=>ja ?_ (hN head)) (Ja v 1);refine jZ.bind (λx=>ja ?_ ?_) (Ja _ _)
  ·exact trivial
  ·exact jZ.bind (λ_=>hN head) (wO _ _ _)
def ZX(env:Env)(v:Value):jZ (leaving env v):=jZ.bind (λ_=>W9 v none) (zCN v env)
end DV
namespace DV
open PySem L2 PyProof.Rows
def ExO(C a:Addr):HO:=.ext λh=>∃o,h.get? a=some o/\o.cls=.ref C
def ExA(C d a:Addr):HO:=.ext λh=>∃o,h.get? a=some o/\o.cls=.ref C/\o.dict=some d/\∃vs,o.data=.fields vs
def XD(d:Addr)(fs:List (Str×V)):HO:=.ext λh=>∃mA,h.Ns1 d mA/\∀f,RelO (fs.lookup f) (mA f)
def QV(a:Addr)(od:Option Addr)(h:Heap):Prop:=∀d,od=some d->∃o,h.get? a=some o/\o.dict=some d
def QV.on(l:QV a od h)(k:wM h h'):QV a od h':=λd e=>by
 obtain⟨o,e1,d1⟩:=l d e;obtain⟨o',e2,d2⟩:=k a o e1;exact⟨o',e2,d2.trans d1⟩
structure MadeD(h h':Heap)(a:Addr)(C:Value)(od:Option Addr):Prop where
 keeps:∀b o,h.get? b=some o->h'.get? b=some o
 new:h.get? a=none
 there:∃oe vs t,h'.get? a=some oe/\oe.cls=C/\(∀d,od=some d->oe.dict=some d)/\oe.data=.fields vs/\vs[1]?=some .none/\vs[0]?=some (.ref t)
def MadeD.link(x:MadeD h h' a C od):QV a od h':=λd e=>by
 obtain⟨oe,_,_,h1,_,h2,_⟩:=x.there;exact⟨oe,h1,h2 d e⟩
def zEP(x:jz P w H h a o):∃u,h.get? a=some u:=by
 cases o with
 |l xs=>obtain⟨_,_,_,_,e⟩:=x;exact⟨_,e⟩|t xs=>obtain⟨_,_,_,o,e,_⟩:=x;exact⟨_,e⟩|dK kvs=>obtain⟨_,_,_,_,o,_,_,e,_⟩:=x;exact⟨_,e⟩|dT kvs=>obtain⟨_,_,_,_,o,_,_,e,_⟩:=x;exact⟨_,e⟩|set S n=>obtain⟨o,_,_,_,e,_⟩:=x;exact⟨_,e⟩|ins C dx fs=>obtain⟨_,_,_,e,_⟩:=x;exact⟨_,e⟩|own y=>exact x|xd fs=>obtain⟨_,⟨_,_,_,e,_⟩,_⟩:=x;exact⟨_,e⟩|rng lo hi=>obtain⟨_,_,_,e⟩:=x;exact⟨_,e⟩|frz ob u=>obtain⟨e,_⟩:=x;exact⟨_,e⟩|tbl ps=>exact⟨_,(show h.get? a=some _ from x)⟩|met f y=>exact⟨_,(show h.get? a=some _ from x)⟩|ext φ=>obtain⟨_,e,_⟩:=x;exact e|dN φ=>obtain⟨_,e,_⟩:=x;exact e
def zFz(B:Heap)(H:Hp)(g:Heap)(fs:List Addr)(h:Heap):Prop:=∀b o,h.get? b=some o->((∃o',g.get? b=some o')\/H b≠none)->b∉fs->B.get? b=some o
def Flies(l:List Env)(H:Hp)(g:Heap)(a C:Addr)(h:Heap):Prop:=∃B t,Heap.FlyingW B l a (.ref C) (.ref t) h/\zFz B H g (frs l) h
def CXx(P:Program)(w:World):CXT:=λouter H s E e s'=>∃a C od H',e=.ref a/\s'.os=s.os/\AllBare s'.gens/\Un (frs outer) [] H H' s.heap s'.heap/\HOk P w H' s'.heap/\H' a=none/\Flies outer H' s.heap a C s'.heap/\QV a od s'.heap/\E (.ref C) od H'
section
variable{P:Program}{w:World}{fs:List Addr}{H H':Hp}{g h h' B:Heap}{L:Addr}
def un_on(u:Un fs [] H H' g h)(ok:HOk P w H' h)(kb:zFz B H' g (L::fs) h)(st:B.StaysIn h')(hL:g.get? L=none)(hf:∀b∈fs,∀o,h.get? b=some o->∃sl,h'.get? b=some {o with slots:=sl}):Un fs [] H H' g h' where
 keep:=λb o e n hb hx=>st b o (kb b o (u.keep b o e n hb hx) (.inl ⟨o,e⟩) λz=>by
  rcases mem_cons.mp z with rfl|z
  ·rw[hL]at e;cases e
  ·exact hb z)
 slot:=λb o e n hb hx=>by
  obtain⟨sl,q⟩:=u.slot b o e n hb hx;obtain⟨sl',q'⟩:=hf b hb _ q;exact⟨sl',q'⟩
 free:=u.free
 there:=λb o e hx=>by
  obtain⟨o',q⟩:=u.there b o e hx;by_cases hb:b∈fs
  ·obtain⟨sl,q'⟩:=hf b hb _ q;exact⟨_,q'⟩
  ·exact⟨o',st b o' (kb b o' q (.inl ⟨o,e⟩) λz=>by
    rcases mem_cons.mp z with rfl|z
    ·rw[hL]at e;cases e
    ·exact hb z)⟩
 tups:=u.tups
 frzs:=u.frzs
 tbls:=u.tbls
def zF0(ok:HOk P w H' h)(kb:zFz B H' g (L::fs) h)(st:B.StaysIn h')(hn:∀b∈L::fs,H' b=none):HOk P w H' h':=λa o e=>by
 refine(ok a o e).stay (λb u hb q=>?_) (λ_ q=>q) λ_ _ q=>q
 have ht:H' b≠none:=by
  rcases hb with rfl|hb
  ·rw[e];exact λz=>by cases z
  ·rw[hb];exact λz=>by cases z
 exact st b u (kb b u q (.inr ht) λz=>ht (hn b z))
def zCO(u:Un fs [] H H' g h)(ok:HOk P w H' h)(kb:zFz B H' g (L::fs) h)(st:B.StaysIn h')(hL:g.get? L=none)(hn:∀b∈L::fs,H' b=none):zFz B H' g fs h':=λb o e hb nf=>by
 have nL:b∉L::fs:=λz=>by
  rcases mem_cons.mp z with rfl|z
  ·rcases hb with⟨o',q⟩|q
   ·rw[hL]at q;cases q
   ·exact q (hn _ (qE))
  ·exact nf z
 have:∃o1,h.get? b=some o1:=by
  rcases hb with⟨o',q⟩|q
  ·exact u.there b o' q (by simp)
  ·obtain⟨x,hx⟩:=Option.ne_none_iff_exists'.mp q
   exact zEP (ok b x hx)
 obtain⟨o1,q1⟩:=this;have q2:=kb b o1 q1 hb nL;have q3:=st b o1 q2;rw[e]at q3;cases q3;exact q2
end
section
variable{P:Program}{w:World}{K:qH}{mg:Str->Option Value}{base:Heap}{N:List Str}{qual:Str}{scope:Scope}{f:Addr}{cd:Value}{A:Around}{outer:List Env}{s:Shared}{H:Hp}{E:XK}
abbrev cxC(c:Bool)(P:Program)(w:World)(K:qH)(mg:Str->Option Value)(base:Heap)(N:List Str)(qual:Str)(scope:Scope)(f:Addr)(cd:Value)(A:Around)(outer:List Env)(s:Shared)(H:Hp)(E:XK):Cx :=
 {cxOf (CXx P w) P w K mg base N qual scope f cd A outer s H E with calm:=c}
variable{c:Bool}
abbrev cxX(P:Program)(w:World)(K:qH)(mg:Str->Option Value)(base:Heap)(N:List Str)(qual:Str)(scope:Scope)(f:Addr)(cd:Value)(A:Around)(outer:List Env)(s:Shared)(H:Hp)(E:XK):Cx :=
 cxOf (CXx P w) P w K mg base N qual scope f cd A outer s H E
variable{pins:List (Addr×Obj)}{O:L2.St}{H':Hp}{s' s1:Shared}{a C:Addr}
def QW:frs (envOfC qual scope s.heap.objs.size f cd::outer)=s.heap.objs.size::frs outer:=rfl
def zBT(I:Inv (cxC c P w K mg base N qual scope f cd A outer s H E) pins O H' s')(u:Un (frs outer) [] H H' s.heap s'.heap)(hn:H' a=none)
  (hf:∃B t,Heap.FlyingW B (cxC c P w K mg base N qual scope f cd A outer s H E).stack a (.ref C) (.ref t) s'.heap/\zFz B H' s.heap (frs (cxC c P w K mg base N qual scope f cd A outer s H E).stack) s'.heap) (dl:QV a od s'.heap) (hE:E (.ref C) od H') :
  (cxC c P w K mg base N qual scope f cd A outer s H E).xe (.ref a) s':=by
 obtain⟨B,t,fl,kb⟩:=hf;have hL:s.heap.get? s.heap.objs.size=none:=Heap.get?_none_of_le (le_refl _);have hN:∀b∈s.heap.objs.size::frs outer,H' b=none:=λb hb=>I.stkFree b (by show b∈frs (envOfC qual scope s.heap.objs.size f cd::outer);rw[QW];exact hb)
 have kb':zFz B H' s.heap (s.heap.objs.size::frs outer) s'.heap:=kb;refine wpAny_mono (ve (ZX _ _) (wpAny_leaves_onW (base:=B) (E:=λ_ _=>False) (Q:=λ_ z=>∃h',z={s' with heap:=h'}/\Heap.FlyingW B outer a (.ref C) (.ref t) h'/\s'.heap.UpToSlots h') I.ok.frames rfl fl λh' fl' sl=>⟨h',rfl,fl',sl⟩)) (λ_ z ⟨⟨h',ez,fl',sl⟩,kd⟩=>?_) λ_ _ z=>z.1.elim
 subst ez;have st:B.StaysIn h':=fl'.1;have hfs:∀b∈frs outer,∀o,s'.heap.get? b=some o->∃sl,h'.get? b=some {o with slots:=sl}:=λb hb o e=>by
  obtain⟨_,o',q,nd⟩:=I.funs.mem hb;rw[e]at q;cases q;exact sl b o e nd
 exact⟨a,C,od,H',rfl,I.os,I.bare,un_on u I.hok kb' st hL hfs,zF0 I.hok kb' st hN,hn,⟨B,t,fl',zCO u I.hok kb' st hL hN⟩,dl.on kd,hE⟩
def QX(I:Inv (cxC c P w K mg base N qual scope f cd A outer s H E) pins O H' s1)(hx:MadeD s1.heap s'.heap a (.ref C) od)(hs:s'={s1 with heap:=s'.heap})(hn:H' a=none)(hE:E (.ref C) od H') :
  (cxC c P w K mg base N qual scope f cd A outer s H E).xe (.ref a) s':=by
 have u:Un (frs outer) [] H H' s.heap s1.heap:=I.base;have hL:s.heap.get? s.heap.objs.size=none:=Heap.get?_none_of_le (le_refl _);have hN:∀b∈s.heap.objs.size::frs outer,H' b=none:=λb hb=>I.stkFree b (by show b∈frs (envOfC qual scope s.heap.objs.size f cd::outer);rw[QW];exact hb)
 have kb:zFz (hideAll s1.heap (s.heap.objs.size::frs outer)) H' s.heap (s.heap.objs.size::frs outer) s1.heap:=λb o e _ nf=>hideAll_get _ e nf
 have hin:∀env∈(envOfC qual scope s.heap.objs.size f cd::outer),∀b,env.frame=some b->b∈s.heap.objs.size::frs outer:=λenv he b hb=>by
  rw[<- QW (qual:=qual) (scope:=scope) (f:=f) (cd:=cd)];exact mem_filterMap.mpr ⟨env,he,hb⟩
 have hstk:s1.heap.FunFrames base (envOfC qual scope s.heap.objs.size f cd::outer):=I.stack;obtain⟨oe,vs,t,e1,e2,e3,e4,e5,e6⟩:=hx.there;have fresh:(hideAll s1.heap (s.heap.objs.size::frs outer)).get? a=none:=by
  cases q:(hideAll s1.heap (s.heap.objs.size::frs outer)).get? a with
  |none=>rfl|some o'=>have:=of_hideAll _ q;rw[hx.new]at this;cases this
 have hfun:s'.heap.FunFrames (hideAll s1.heap (s.heap.objs.size::frs outer)) (envOfC qual scope s.heap.objs.size f cd::outer):=(PySem.W.funFrames_hide hstk hin).of_keeps λb o hb _=>⟨o,hx.keeps b o hb,rfl⟩
 refine wpAny_mono (ve (ZX _ _) (wpAny_leaving_firstW (base:=hideAll s1.heap (s.heap.objs.size::frs outer)) (a0:=.ref t) (E:=λ_ _=>False) (Q:=λ_ z=>∃h',z={s' with heap:=h'}/\Heap.LeftW (hideAll s1.heap (s.heap.objs.size::frs outer)) (envOfC qual scope s.heap.objs.size f cd::outer) a oe.cls (.ref t) s'.heap h') I.ok.frames hfun rfl e1 (λb o q=>hx.keeps b o (of_hideAll _ q)) fresh e4 e5 e6 λh' hL=>⟨h',rfl,hL⟩)) (λ_ z ⟨⟨h',ez,k1,⟨_,_,k2⟩,k3,x4⟩,kd⟩=>?_) λ_ _ z=>z.1.elim
 subst ez;rw[e2]at k3;have x1:Heap.FlyingW (hideAll s1.heap (s.heap.objs.size::frs outer)) outer a (.ref C) (.ref t) h':=⟨k1,fresh,k2,k3⟩;have st:=x1.1;have hfs:∀b∈frs outer,∀o,s1.heap.get? b=some o->∃sl,h'.get? b=some {o with slots:=sl}:=λb hb o e=>by
  obtain⟨_,o',q,nd⟩:=I.funs.mem hb;rw[e]at q;cases q;exact x4 b o (hx.keeps b o e) nd
 have os:s'.os=s1.os:=by rw[hs]
 have ge:s'.gens=s1.gens:=by rw[hs]
 refine⟨a,C,od,H',rfl,os.trans I.os,?_,un_on u I.hok kb st hL hfs,zF0 I.hok kb st hN,hn,⟨_,t,x1,zCO u I.hok kb st hL hN⟩,hx.link.on kd,hE⟩;show AllBare s'.gens;rw[ge];exact I.bare
end
structure RoomN(k:Nat)(A:Around):Prop where
 gd:A.guards=some []
 dp:A.depth+3*k+5<recursionLimit
 un:A.units+16*k+200<cLine
def RoomN.mono(r:RoomN k A)(h:j<=k):RoomN j A:=⟨r.gd,by have:=r.dp;omega,by have:=r.un;omega⟩
theorem RoomN.deeper(r:RoomN (k+1) A)(env:Env):RoomN k (A.deeper env) :=
 ⟨r.gd,by have:=r.dp;show A.depth+1+3*k+5<_;omega,by have:=r.un;show A.units+3+16*k+200<_;omega⟩
theorem RoomN.depth(r:RoomN k A):A.depth<recursionLimit:=by have:=r.dp;omega
def zEQ(r:Room k A):RoomN k A:=⟨r.gd,r.dp,r.un⟩
section
variable{X:Cx}{pins:List (Addr×Obj)}{O:L2.St}{H:Hp}{s:Shared}
def vg(I:Inv X pins O H s)(A':Around)(c:Bool)(E:Value->Shared->Prop)(hd:c=true->A'.handled=none)(fr:A'.frames=some X.stack):Inv {X with A:=A',calm:=c,xe:=E} pins O H s :=
 ⟨⟨I.ok.mod,I.ok.kind,I.ok.glob,I.ok.blt,I.ok.above,I.ok.inj,I.ok.has,I.ok.cab,hd,fr,I.ok.stk,I.ok.exf,I.ok.bs,I.ok.bsz,I.ok.noex,I.ok.exfs,I.ok.funs,I.ok.frf⟩,I.os,I.bare,I.base,I.loc,I.cell,I.free,I.freeC,I.pin,I.hok,I.len⟩
end
abbrev cxN(c:Bool)(P:Program)(w:World)(K:qH)(mg:Str->Option Value)(base:Heap)(N:List Str)(qual:Str)(scope:Scope)(f:Addr)(cd:Value)(A:Around)(outer:List Env)(s:Shared)(H:Hp)(E:XK):Cx :=
 cxC c P w K mg base N qual scope f cd A outer s H E
structure FnOkN(c:Bool)(P:Program)(w:World)(K:qH)(mg:Str->Option Value)(base:Heap)(k:Nat)(f:Addr)(fd:FuncData)(ps:List Str)(sp:Sp):Prop where
 len:∀vs H Q E,sp vs H Q E->vs.length=ps.length
 run:∀(A:Around) (outer:List Env) (s:Shared) (H:Hp) (args:Args) (us:List Value) (vs:List V) (Q:VK) (E:XK),(c=true->A.handled=none)->RoomN k A->Env0 P w K mg base A outer s H->BindsTo s fd args (ps.zip us)->yW vs us->sp vs H Q E ->
  codeAny (model P w) A (.call (.ref f) args) (CR (CXx P w) outer P w H s Q E) s
section
variable{c:Bool}{P:Program}{w:World}{K:qH}{mg:Str->Option Value}{base:Heap}
def FnOkN.fn(F:FnOkN c P w K mg base k f fd ps sp):FnOk P w K mg base (CXx P w) k f fd ps sp :=
 ⟨F.len,λA outer s H args us vs Q E hr=>F.run A outer s H args us vs Q E (λ_=>hr.hd) (zEQ hr)⟩
def fn_ofN{k:Nat}{f:Addr}{name qual:Str}{params:Arguments}{body:List Stmt}{scope:Scope}{dV kV doc pm cdv ct oc:Value}{an od:Option Addr}
  {osl:Array (Option Value)} {N ps:List Str} {sp:Sp} (lk:K.lookup f=some ⟨oc,od,.func (fnOf name qual params body scope dV kV doc pm an cdv ct),osl⟩) (hcd:codeIn K cdv qual=true) (S:FnScope N ps scope)
  (len:∀vs H Q E,sp vs H Q E->vs.length=ps.length)
  (hbody:∀(A:Around) (outer:List Env) (s:Shared) (H:Hp) (vs:List V) (Q:VK) (E:XK),(c=true->A.handled=none)->RoomN k (A.deeper (envOfC qual scope s.heap.objs.size f cdv))->sp vs H Q E ->
   ∃t,PSs (cxN c P w K mg base N qual scope f cdv A outer s H E) body t/\t {nx:=λ_ H'=>Q .non H',rt:=Q} (JA N vs) H) :
  FnOkN c P w K mg base (k+1) f (fnOf name qual params body scope dV kV doc pm an cdv ct) ps sp:=by
 refine⟨len,λA outer s H args us vs Q E hd hr e0 hb r hsp=>?_⟩;have hl:=len _ _ _ _ hsp;have KX:K.In s.heap:=e0.mod.kin.keeps λb o e=>(e0.bs b o e).1
 have lim:s.heap.NoLimit:=e0.mod.nolimit.keeps λb o e=>(e0.bs b o e).1
 have hkind:∀y∈ps.zip us,scope.names.lookup y.1=some .local\/(scope.names.lookup y.1=some .cell/\((cellsFrom (s.heap.objs.size+1) scope.names []).lookup y.1).isSome=true):=λ⟨n,v⟩ hy=>by
  rcases S.par n (of_mem_zip hy).1 with q|q
  ·exact .inl q
  ·exact .inr ⟨q,cellsFrom_some _ _ _ (.inl q)⟩
 refine codeAny_call_function hr.depth (KX _ _ lk) rfl S.co S.gen rfl (PySem.W.codeRec_of KX hcd) (hb _ _ _ _ ?_);refine wpAny_newFunctionEnv_cells S.kind hkind λenv he s1 x=>?_
 subst he;refine⟨lim.keeps x.toInCall.keep,codeAny_func ?_⟩;obtain⟨t,ht,hq⟩:=hbody A outer s H vs Q E hd (hr.deeper _) hsp;have e1:Env0 P w K mg base {A with handled:=none} outer s H:=⟨e0.frames,e0.mod,e0.bs,e0.bsz,e0.funs,e0.frf,e0.hok,e0.bare⟩
 have I0:Inv (cxOf (CXx P w) P w K mg base N qual scope f cdv {A with handled:=none} outer s H E) [] (JA N vs) H s1:=zCB S rfl e1 hl r x
 have I:Inv (cxN c P w K mg base N qual scope f cdv A outer s H E) [] (JA N vs) H s1:=vg I0 (A.deeper (envOfC qual scope s.heap.objs.size f cdv)) c _ hd (Around.frames_deeper e0.frames);refine wpAny_mono (ht [] s1 (JA N vs) H _ I hq) (λfl s' hs=>?_) λe s' hs=>hs
 have fin:∀{O':L2.St} {H':Hp} {v:V} {u:Value},Inv (cxN c P w K mg base N qual scope f cdv A outer s H E) [] O' H' s'->yp v u->Q v H'->CE outer P w H s Q u s' :=
  λ{O' H' v u} J rv q=>⟨v,H',J.os,J.bare,J.base,J.hok,rv,q⟩
 cases fl with
 |ret u =>
  obtain⟨v,O',H',J,rv,q⟩:=hs;exact fin J rv q
 |next =>
  obtain⟨O',H',J,q⟩:=hs;exact fin (v:=V.non) (u:=Value.none) J rfl q
 |brk =>
  obtain⟨_,_,_,q⟩:=hs;exact False.elim q
 |cont =>
  obtain⟨_,_,_,q⟩:=hs;exact False.elim q
end
structure Exn where
 cls:Str
 made:Bool
 vs:List Int
 deriving Inhabited
def zCP(c:Str):List Str:=if c == "TooGreat" then ["many","most"]else if c == "NoText" then ["row"]else []
def fsV(c:Str)(vs:List Int):List (Str×V):=(zCP c).zip (vs.map V.int)
def Fs(od:Option Addr)(H:Hp)(c:Str)(vs:List Int):Prop:=vs=[]\/∃d,od=some d/\H d=some (XD d (fsV c vs))
def RelX(X:Cx)(pins:List (Addr×Obj))(O:L2.St)(x:Exn)(H:Hp)(e:Value)(s:Shared):Prop:=∃a C od,e=.ref a/\X.mg x.cls=some (.ref C)/\H a=none/\Fs od H x.cls x.vs /\
 ((x.made=true/\∃s1,Inv X pins O H s1/\s={s1 with heap:=s.heap}/\MadeD s1.heap s.heap a (.ref C) od) \/
  (x.made=false/\∃sc Hc,Inv X pins O Hc sc/\Un (frs X.stack) [] Hc H sc.heap s.heap/\Flies X.stack H sc.heap a C s.heap/\QV a od s.heap))
def XE(X:Cx)(O:L2.St)(H:Hp)(x:Exn):Prop:=∀(pins:List (Addr×Obj)) (s:Shared) (e:Value),Inv X pins O H s->RelX X pins O x H e s->X.xe e s
def EX(X:Cx)(O:L2.St):XK:=λc od H'=>∃x C,c=.ref C/\X.mg x.cls=some (.ref C)/\x.made=false/\Fs od H' x.cls x.vs/\XE X O H' x
section
variable{X:Cx}{pins:List (Addr×Obj)}{O:L2.St}{H:Hp}{s s':Shared}{e:Value}
def pass_x(I:Inv X pins O H s)(h:CXx X.prog X.w X.stack H s (EX X O) e s'):X.xe e s':=by
 obtain⟨a,C,od,H',rfl,os,bare,un,hok,hn,fl,dl,x,C',ec,hm,hmd,hf,k⟩:=h;cases ec;have I':Inv X pins O H' s':=I.call' (ch:=[]) os un hok bare (λb z=>absurd z (by simp));exact k pins s' _ I' ⟨a,C,od,rfl,hm,hn,hf,.inr ⟨hmd,s,H,I,un,fl,dl⟩⟩
def run_fnN(F:FnOkN c X.prog X.w X.K X.mg X.base k f fd ps sp)(hd:c=true->X.A.handled=none)(hr:RoomN k X.A)(hb:Zs X.K fd ps [])
  (I:Inv X pins O H s) (r:yW vs us) (h:sp vs H Q (EX X O)):wpAny (model X.prog X.w) X.A (call (.ref f) us) (EP X pins O Q) X.xe s:=by
 have hl:us.length=ps.length:=by rw[<- r.length];exact F.len _ _ _ _ h
 have hbd:=hb s us I.kIn (by rw[append_nil];exact hl);rw[append_nil]at hbd;refine wpAny_call (codeAny_mono (F.run X.A X.stack s H ⟨us,[]⟩ us vs Q (EX X O) hd hr I.env0 hbd r h) λr s' hq=>?_);cases r with
 |error e=>exact pass_x I hq
 |ok fl =>
  cases fl with
  |ret u=>exact I.after hq|next=>exact False.elim hq|brk=>exact False.elim hq|cont=>exact False.elim hq
end
section
variable{X:Cx}{c:Bool}{k:Nat}{f:Addr}{fd:FuncData}{ps:List Str}{sp:Sp}{x:Str}{p pos:Pos}{e:Expr}{es:List Expr}{t:TA}
def zER(F:FnOkN c X.prog X.w X.K X.mg X.base k f fd ps sp)(hdl:c=true->X.A.handled=none)(hr:RoomN k X.A)(hg:Gl X x)(hm:X.mg x=some (.ref f))(hk:keepIn X.K (.ref f)=true)(hb:Zs X.K fd ps [])
  (ha:PA X (e::es) t) (hdb:(x==("__debug__":Str))=false:=by decide) (he:starEach (e::es) X.env=(false,eval e X.env)::starEach es X.env:=by rfl) (hpl:(backTo pos (starEach es X.env)).any (·.1)=false:=by rfl) :
  PE X (.Call (.Name x p) (e::es) [] pos) (λO H Q=>t O H λvs H1=>sp vs H1 Q (EX X O)):=by
 intro pins s O H Q I h;refine wpAny_Call_Name_kw (zBu I hg hm ?_ hdb);refine PySem.W.callWith_K (h₀:=X.base) I.ok.mod.kin hk (thn (ha pos pins s O H _ I h) λus s1 ⟨vs,H1,I1,r,q⟩=>⟨I1.kIn,?_⟩) he hpl;exact run_fnN F hdl hr hb I1 r q
end
def zES{c:Bool}{P:Program}{w:World}{K:qH}{mg:Str->Option Value}{base:Heap}{N:List Str}{qual:Str}{scope:Scope}{f:Addr}{cd:Value}{A:Around}{outer:List Env}{s:Shared}{H H':Hp}{E:XK}{O:L2.St}{x:Exn}
  (hE:∀C od,mg x.cls=some (.ref C)->Fs od H' x.cls x.vs->E (.ref C) od H'):XE (cxN c P w K mg base N qual scope f cd A outer s H E) O H' x:=by
 intro pins s' e I ⟨a,C,od,he,hm,hn,hf,h⟩;subst he;have sw:∀{H1:Hp} {s1:Shared},Inv (cxN c P w K mg base N qual scope f cd A outer s H E) pins O H1 s1->Inv (cxX P w K mg base N qual scope f cd {A with handled:=none} outer s H E) pins O H1 s1:=λJ=>vg J _ true _ (λ_=>rfl) J.ok.frames
 rcases h with⟨_,s1,I1,hs,hx⟩|⟨_,sc,Hc,Ic,un,fl,dl⟩
 ·exact QX I1 hx hs hn (hE C od hm hf)
 ·obtain⟨B,t,f1,f2⟩:=fl
  refine zBT I I.base hn ⟨B,t,f1,λb o q z nf=>f2 b o q ?_ nf⟩ dl (hE C od hm hf);rcases z with⟨o',z⟩|z
  ·exact .inl (Ic.base.there b o' z (by show b∉([]:List Addr);simp))
  ·exact .inr z
end DV
namespace DV
open PySem L2 PyProof.Rows PySem.Spec
open PySem.W (Frag Looks)
structure XCls(K:Frag)(c:Str)(C T:Addr):Prop where
 cd:∃cd,clsIn K C=some cd/\cd.name=c/\cd.mro=[.ref C,.ref T,.type "ValueError",.type "Exception",.type "BaseException",.type "object"]
 ty:typeIn K (.ref C)=some (.type "type")
 ga:findIn K (.ref C) "__getattribute__"=some (some (.builtin "BaseException.__getattribute__"))
 gn:findIn K (.ref C) "__getattr__"=some none
 gc:findIn K (.ref C) "__class__"=some (some (.builtin "object.__class__"))
 sp:specialIn K (.builtin "object.__class__") "__get__"=some (some (.builtin "getset_descriptor.__get__"))
 tk:takesIn K (.builtin "object.__class__")=some true
structure TCls(K:Frag)(T:Addr):Prop where
 cd:∃cd,clsIn K T=some cd/\cd.mro=.ref T::VB
 ty:typeIn K (.ref T)=some (.type "type")
end DV
namespace DV
open PySem L2 PyProof.Rows PySem.Spec
open PySem.W (Looks)
structure XSet(K:qH)(C T:Addr):Prop where
 cd:∃cd,clsIn K C=some cd/\cd.mro=.ref C::.ref T::VB/\cd.hasDict=true
 sa:findIn K (.ref C) "__setattr__"=some (some (.builtin "object.__setattr__"))
end DV
namespace DV
open PySem L2
set_option genInjectivity true in
inductive D where
 |non
 |bl (b:Bool)
 |int (i:Int)
 |str (x:Str)
 |t (ds:List D)
 |l (ds:List D)
 |fn (x:Str)
 |dic
 |exn (c:Str) (vs:List Int)
 |dct (ks:List (List KN)) (vs:List D)
 deriving Inhabited
mutual
def Rep(K:qH)(mg:Str->Option Value)(H:Hp):D->V->Prop
 | .non,v=>v=.non| .bl b,v=>v=.bl b| .int i,v=>v=.int i| .str x,v=>v=.str x| .t ds,v=>∃a xs,v=.ref a/\SqT K H a xs/\Reps K mg H ds xs| .l ds,v=>∃a xs,v=.ref a/\SqL K H a xs/\Reps K mg H ds xs| .fn x,v=>∃f,v=.ref f/\mg x=some (.ref f)| .dic,v=>∃a,v=.ref a/\H a=some (.dK [])| .exn c vs,v=>∃a C,v=.ref a/\mg c=some (.ref C)/\((vs=[]/\H a=some (ExO C a))\/∃d,H a=some (ExA C d a)/\H d=some (XD d (fsV c vs)))| .dct ks vs,v=>∃a es,v=.ref a/\H a=some (QU a es)/\ks=es.map (·.1)/\(∀e∈es,SqT K H e.2.1 (e.1.map oV))/\Reps K mg H vs (es.map (·.2.2))
def Reps(K:qH)(mg:Str->Option Value)(H:Hp):List D->List V->Prop
 | [],vs=>vs=[]|d::ds,vs=>∃v r,vs=v::r/\Rep K mg H d v/\Reps K mg H ds r
end
section
variable{K:qH}{mg:Str->Option Value}{H H':Hp}
def zS(e:Yv H H')(h:SqT K H a xs):SqT K H' a xs:=by
 rcases h with(h|⟨o,h⟩)|h
 ·exact .inl (.inl (e _ _ h))
 ·exact .inl (.inr ⟨o,e _ _ h⟩)
 ·exact .inr h
mutual
theorem Rep.mono(e:Yv H H'):∀{d:D} {v:V},Rep K mg H d v->Rep K mg H' d v
 | .non,_,h=>by simpa only[Rep]using h| .bl _,_,h=>by simpa only[Rep]using h| .int _,_,h=>by simpa only[Rep]using h| .str _,_,h=>by simpa only[Rep]using h
 | .t ds,_,h=>by
  simp only[Rep]at h ⊢;obtain⟨a,xs,h1,h2,h3⟩:=h;exact⟨a,xs,h1,zS e h2,Reps.mono e h3⟩
 | .l ds,_,h=>by
  simp only[Rep]at h ⊢;obtain⟨a,xs,h1,h2,h3⟩:=h;exact⟨a,xs,h1,e.seq h2,Reps.mono e h3⟩
 | .fn _,_,h=>by simpa only[Rep]using h
 | .dic,_,h=>by
  simp only[Rep]at h ⊢;obtain⟨a,h1,h2⟩:=h;exact⟨a,h1,e _ _ h2⟩
 | .exn _ _,_,h=>by
  simp only[Rep]at h ⊢;obtain⟨a,C,h1,h2,h3⟩:=h;refine⟨a,C,h1,h2,?_⟩;rcases h3 with⟨hv,h3⟩|⟨d,h3,h4⟩
  ·exact .inl ⟨hv,e _ _ h3⟩
  ·exact .inr ⟨d,e _ _ h3,e _ _ h4⟩
 | .dct ks vs,_,h=>by
  simp only[Rep]at h ⊢;obtain⟨a,es,h1,h2,h3,h4,h5⟩:=h;exact⟨a,es,h1,e _ _ h2,h3,λx hx=>zS e (h4 x hx),Reps.mono e h5⟩
theorem Reps.mono(e:Yv H H'):∀{ds:List D} {vs:List V},Reps K mg H ds vs->Reps K mg H' ds vs
 | [],_,h=>by simpa only[Reps]using h
 |d::ds,_,h=>by
  simp only[Reps]at h ⊢;obtain⟨v,r,h1,h2,h3⟩:=h;exact⟨v,r,h1,Rep.mono e h2,Reps.mono e h3⟩
end
theorem Reps.length:∀{ds:List D} {vs:List V},Reps K mg H ds vs->vs.length=ds.length
 | [],_,h=>by simp only[Reps]at h;subst h;rfl
 |d::ds,_,h=>by
  simp only[Reps]at h;obtain⟨v,r,rfl,h2,h3⟩:=h;simp[Reps.length h3]
def Reps.nil:Reps K mg H [] []:=by simp only[Reps]
def Reps.cons(h:Rep K mg H d v)(t:Reps K mg H ds vs):Reps K mg H (d::ds) (v::vs):=by
 simp only[Reps];exact⟨v,vs,rfl,h,t⟩
theorem Reps.get:∀{ds:List D} {vs:List V} {i:Nat} {v:V},Reps K mg H ds vs->vs[i]?=some v->∃d,ds[i]?=some d/\Rep K mg H d v
 | [],_,_,_,h,e=>by simp only[Reps]at h;subst h;simp at e
 |d::ds,_,i,v,h,e=>by
  simp only[Reps]at h;obtain⟨v',r,rfl,h2,h3⟩:=h;cases i with
  |zero=>simp at e;subst e;exact⟨d,rfl,h2⟩|succ i=>simp at e;obtain⟨d',q1,q2⟩:=Reps.get h3 e;exact⟨d',by simpa using q1,q2⟩
theorem Reps.get':∀{ds:List D} {vs:List V} {i:Nat} {d:D},Reps K mg H ds vs->ds[i]?=some d->∃v,vs[i]?=some v/\Rep K mg H d v
 | [],_,_,_,h,e=>by simp at e
 |d::ds,_,i,d',h,e=>by
  simp only[Reps]at h;obtain⟨v',r,rfl,h2,h3⟩:=h;cases i with
  |zero=>simp at e;subst e;exact⟨v',rfl,h2⟩|succ i=>simp at e;obtain⟨v,q1,q2⟩:=Reps.get' h3 e;exact⟨v,by simpa using q1,q2⟩
theorem Reps.append:∀{ds es:List D} {vs ws:List V},Reps K mg H ds vs->Reps K mg H es ws->Reps K mg H (ds++es) (vs++ws)
 | [],_,_,_,h,g=>by simp only[Reps]at h;subst h;exact g
 |d::ds,_,_,_,h,g=>by
  simp only[Reps]at h;obtain⟨v',r,rfl,h2,h3⟩:=h;exact Reps.cons h2 (Reps.append h3 g)
theorem Reps.set:∀{ds:List D} {vs:List V} (i:Nat) {d:D} {v:V},Reps K mg H ds vs->Rep K mg H d v->Reps K mg H (ds.set i d) (vs.set i v)
 | [],_,_,_,_,h,g=>by simp only[Reps]at h;subst h;exact Reps.nil
 |d::ds,_,i,_,_,h,g=>by
  simp only[Reps]at h;obtain⟨v',r,rfl,h2,h3⟩:=h;cases i with
  |zero=>exact Reps.cons g h3|succ i=>exact Reps.cons h2 (Reps.set i h3 g)
theorem Reps.take:∀{ds:List D} {vs:List V} (n:Nat),Reps K mg H ds vs->Reps K mg H (ds.take n) (vs.take n)
 | [],_,_,h=>by simp only[Reps]at h;subst h;simp[Reps.nil]
 |d::ds,_,n,h=>by
  simp only[Reps]at h;obtain⟨v',r,rfl,h2,h3⟩:=h;cases n with
  |zero=>exact Reps.nil|succ n=>exact Reps.cons h2 (Reps.take n h3)
theorem Reps.drop:∀{ds:List D} {vs:List V} (n:Nat),Reps K mg H ds vs->Reps K mg H (ds.drop n) (vs.drop n)
 | [],_,_,h=>by simp only[Reps]at h;subst h;simp[Reps.nil]
 |d::ds,_,n,h=>by
  simp only[Reps]at h;obtain⟨v',r,rfl,h2,h3⟩:=h;cases n with
  |zero=>exact Reps.cons h2 h3|succ n=>exact Reps.drop n h3
theorem Reps.flatten(h:Reps K mg H ds vs):∀n:Nat,Reps K mg H (replicate n ds).flatten (replicate n vs).flatten
 |0=>Reps.nil|n+1=>by simp only[replicate_succ,flatten_cons];exact h.append (Reps.flatten h n)
end
open Classical in
def Hm(M:Addr->Prop)(H:Hp):Hp:=λb=>if M b then none else H b
section
variable{M M':Addr->Prop}{H H':Hp}{b:Addr}{o:HO}
def zp:Hm M H b=some o↔¬M b/\H b=some o:=by
 unfold Hm;by_cases h:M b
 ·simp[h]
 ·simp[h]
def zH:Yv (Hm M H) H:=λb o h=>(zp.mp h).2
def jS(h:∀b,M' b->M b):Yv (Hm M H) (Hm M' H):=λb o e=>zp.mpr ⟨λx=>(zp.mp e).1 (h b x),(zp.mp e).2⟩
end
inductive Slot where
 |e
 |v (d:D)
 |own (ds:List D)
 |par (ds:List D)
 |dct (ks:List (List KN)) (vs:List D)
 deriving Inhabited
abbrev zV:=List Slot
set_option genInjectivity true in
inductive R where
 |v (d:D)
 |own (ds:List D)
 |dct (ks:List (List KN)) (vs:List D)
 deriving Inhabited
def R.slot:R->Slot
 | .v d=>.v d| .own ds=>.own ds| .dct ks vs=>.dct ks vs
def R.d:R->D
 | .v d=>d| .own ds=>.l ds| .dct ks vs=>.dct ks vs
inductive Ct where
 |l (ds:List D)
 |d (ks:List (List KN)) (vs:List D)
def Slot.ct?:Slot->Option Ct
 | .own ds=>some (.l ds)| .par ds=>some (.l ds)| .dct ks vs=>some (.d ks vs)|_=>none
def CRep(K:qH)(mg:Str->Option Value)(H:Hp)(a:Addr):Ct->HO->Prop
 | .l ds,o=>∃xs,o=.l xs/\Reps K mg H ds xs| .d ks vs,o=>∃es,o=QU a es/\ks=es.map (·.1)/\(∀e∈es,SqT K H e.2.1 (e.1.map oV))/\Reps K mg H vs (es.map (·.2.2))
theorem CRep.mono{mg:Str->Option Value}(e:Yv H H'):∀{c:Ct},CRep K mg H a c o->CRep K mg H' a c o
 | .l ds,⟨xs,h1,h2⟩=>⟨xs,h1,h2.mono e⟩| .d ks vs,⟨es,h1,h2,h3,h4⟩=>⟨es,h1,h2,λx hx=>zS e (h3 x hx),h4.mono e⟩
def Slot.list?:Slot->Option (List D)
 | .own ds=>some ds| .par ds=>some ds|_=>none
abbrev Fz:=List (Option V×Slot)
def uJ:Option V×Slot->Option Addr
 | (some (.ref a),.own _)=>some a| (some (.ref a),.par _)=>some a| (some (.ref a),.dct _ _)=>some a|_=>none
def yI(Z:Fz):List Addr:=Z.filterMap uJ
def Mo(M:Addr->Prop)(Z:Fz):Addr->Prop:=λb=>M b\/b∈yI Z
def zY(Z T:Fz):yI (Z++T)=yI Z++yI T:=List.filterMap_append
def zW(o:Option V)(d:D)(Z:Fz):yI ((o,.v d)::Z)=yI Z:=by
 unfold yI;rw[List.filterMap_cons_none];cases o with
 |none=>rfl
 |some v=>cases v<;>rfl
def YM(a:Addr)(ds:List D)(Z:Fz):yI ((some (.ref a),.own ds)::Z)=a::yI Z:=rfl
def YN(a:Addr)(ks:List (List KN))(vs:List D)(Z:Fz):yI ((some (.ref a),.dct ks vs)::Z)=a::yI Z:=rfl
def zt(o:Option V)(Z:Fz):yI ((o,.e)::Z)=yI Z:=by
 unfold yI;rw[List.filterMap_cons_none];cases o with
 |none=>rfl
 |some v=>cases v<;>rfl
def jO(M:Addr->Prop)(T Z:Fz):Mo M (T++Z)=Mo (Mo M T) Z:=by
 funext b
 apply propext;simp only[Mo,zY,mem_append];constructor
 ·rintro (h|h|h)
  ·exact .inl (.inl h)
  ·exact .inl (.inr h)
  ·exact .inr h
 ·rintro ((h|h)|h)
  ·exact .inl h
  ·exact .inr (.inl h)
  ·exact .inr (.inr h)
def uK{M:Addr->Prop}(p:T.Perm Z):Mo M T=Mo M Z:=by
 funext b
 apply propext;simp only[Mo,yI];rw[(p.filterMap uJ).mem_iff]
def ZY(M:Addr->Prop)(o:Option V)(d:D)(Z:Fz):Mo M ((o,.v d)::Z)=Mo M Z:=by unfold Mo;rw[zW]
def GZ(M:Addr->Prop)(o:Option V)(Z:Fz):Mo M ((o,.e)::Z)=Mo M Z:=by unfold Mo;rw[zt]
structure FR(K:qH)(mg:Str->Option Value)(M:Addr->Prop)(H:Hp)(Z:Fz):Prop where
 val:∀o d,(o,Slot.v d)∈Z->∃v,o=some v/\Rep K mg (Hm (Mo M Z) H) d v
 own:∀o s c,(o,s)∈Z->s.ct?=some c->∃a ho,o=some (.ref a)/\H a=some ho/\¬M a/\CRep K mg (Hm (Mo M Z) H) a c ho
 nd:(yI Z).Nodup
 mal:∀b,M b->∃o,H b=some o/\OwnK o
structure Step(M:Addr->Prop)(H:Hp)(Z:Fz)(H':Hp)(Z':Fz):Prop where
 same:Yv (Hm (Mo M Z) H) (Hm (Mo M Z') H')
 keep:∀b o,M b->H b=some o->H' b=some o
section
variable{K:qH}{mg:Str->Option Value}{M:Addr->Prop}{H H' H1 H2:Hp}{Z Z' T Z1 Z2:Fz}
theorem Step.refl:Step M H Z H Z:=⟨Yv.refl _,λ_ _ _ h=>h⟩
theorem Step.trans(a:Step M H Z H1 Z1)(b:Step M H1 Z1 H2 Z2):Step M H Z H2 Z2 :=
 ⟨a.same.trans b.same,λx o m h=>b.keep x o m (a.keep x o m h)⟩
def JC(h:∀b,b∈yI Z->b∈yI Z'):∀b,Mo M Z b->Mo M Z' b:=λb q=>q.elim .inl λq=>.inr (h b q)
def Step.weak(a:Step M H Z H' Z')(h:∀b,b∈yI T->b∈yI Z'):Step M H Z H' T :=
 ⟨a.same.trans (jS (JC h)),a.keep⟩
def Step.left(a:Step M H Z H' Z')(h:∀b,b∈yI Z->b∈yI T):Step M H T H' Z' :=
 ⟨(jS (JC h)).trans a.same,a.keep⟩
def zC(h:T.Sublist Z):∀b,b∈yI T->b∈yI Z:=λb q=>(h.filterMap uJ).subset q
def zD(h:T.Perm Z):∀b,b∈yI T->b∈yI Z:=λb q=>(h.filterMap uJ).subset q
def FR.perm(h:FR K mg M H Z)(p:Z.Perm T):FR K mg M H T where
 val:=λo d q=>by rw[<- uK p];exact h.val o d (p.mem_iff.mpr q)
 own:=λo s ds q e=>by rw[<- uK p];exact h.own o s ds (p.mem_iff.mpr q) e
 nd:=(p.filterMap uJ).nodup_iff.mp h.nd
 mal:=h.mal
def FR.sub(h:FR K mg M H Z)(p:T.Sublist Z):FR K mg M H T where
 val:=λo d q=>by
  obtain⟨v,e,r⟩:=h.val o d (p.subset q);exact⟨v,e,r.mono (jS (JC (zC p)))⟩
 own:=λo s ds q e=>by
  obtain⟨a,xs,e1,e2,e3,r⟩:=h.own o s ds (p.subset q) e;exact⟨a,xs,e1,e2,e3,r.mono (jS (JC (zC p)))⟩
 nd:=h.nd.sublist (p.filterMap uJ)
 mal:=h.mal
def FR.tail(h:FR K mg M H (x::Z)):FR K mg M H Z:=h.sub (sublist_cons_self _ _)
def zCQ{s:Slot}{ds:List D}(e:s.list?=some ds):s.ct?=some (.l ds):=by
 cases s<;>first|(cases e;rfl)|(cases e)
def FR.ownL(h:FR K mg M H Z)(o:Option V)(s:Slot)(ds:List D)(m:(o,s)∈Z)(e:s.list?=some ds):∃a xs,o=some (.ref a)/\H a=some (.l xs)/\¬M a/\Reps K mg (Hm (Mo M Z) H) ds xs:=by
 obtain⟨a,ho,e1,e2,e3,xs,rfl,r⟩:=h.own o s _ m (zCQ e);exact⟨a,xs,e1,e2,e3,r⟩
def jC(h:(o,s)∈Z)(e:s.ct?=some c)(ho:o=some (.ref a)):a∈yI Z:=by
 subst ho;refine mem_filterMap.mpr ⟨_,h,?_⟩;cases s<;>simp[Slot.ct?]at e<;>rfl
def QY{o:Option V}{s:Slot}{ds:List D}{a:Addr}(h:(o,s)∈Z)(e:s.list?=some ds)(ho:o=some (.ref a)):a∈yI Z:=jC h (zCQ e) ho
def QZ(h:a∈yI Z):∃s c,(some (V.ref a),s)∈Z/\Slot.ct? s=some c:=by
 obtain⟨⟨o,s⟩,h1,h2⟩:=mem_filterMap.mp h;unfold uJ at h2;split at h2
 ·rename_i e;cases e;cases h2;exact⟨_,_,h1,rfl⟩
 ·rename_i e;cases e;cases h2;exact⟨_,_,h1,rfl⟩
 ·rename_i e;cases e;cases h2;exact⟨_,_,h1,rfl⟩
 ·cases h2
def CRep.own{mg:Str->Option Value}:∀{c:Ct},CRep K mg H a c o->OwnK o
 | .l _,⟨xs,h,_⟩=>.inl ⟨xs,h⟩| .d _ _,⟨es,h,_⟩=>.inr ⟨_,h⟩
def FR.ownAt(h:FR K mg M H Z)(e:a∈yI Z):∃o,H a=some o/\¬M a/\OwnK o:=by
 obtain⟨s,c,h1,h2⟩:=QZ e;obtain⟨a',o,e1,e2,e3,r⟩:=h.own _ s c h1 h2;cases e1;exact⟨o,e2,e3,r.own⟩
def FR.moAl(h:FR K mg M H Z)(b:Addr)(e:Mo M Z b):∃o,H b=some o/\OwnK o:=by
 rcases e with e|e
 ·exact h.mal b e
 ·obtain⟨xs,q,_,z⟩:=h.ownAt e
  exact⟨_,q,z⟩
def FR.inner(h:FR K mg M H (T++Z)):FR K mg (Mo M T) H Z where
 val:=λo d q=>by rw[<- jO];exact h.val o d (qK _ q)
 own:=λo s ds q e=>by
  obtain⟨a,xs,e1,e2,e3,r⟩:=h.own o s ds (qK _ q) e;refine⟨a,xs,e1,e2,λm=>?_,by rw[<- jO];exact r⟩;rcases m with m|m
  ·exact e3 m
  ·have nd:=h.nd
   rw[zY]at nd;exact(nodup_append.mp nd).2.2 a m a (jC q e e1) rfl
 nd:=by
  have nd:=h.nd;rw[zY]at nd;exact(nodup_append.mp nd).2.1
 mal:=λb q=>by
  rcases q with q|q
  ·exact h.mal b q
  ·obtain⟨xs,q,_,z⟩:=h.ownAt (a:=b) (by rw[zY];exact mem_append_left _ q)
   exact⟨_,q,z⟩
def FR.outer(h:FR K mg M H (T++Z))(g:FR K mg (Mo M T) H' Z')(st:Step (Mo M T) H Z H' Z'):FR K mg M H' (T++Z') where
 val:=λo d q=>by
  rw[jO];rcases mem_append.mp q with q|q
  ·obtain⟨v,e,r⟩:=h.val o d (mem_append_left _ q)
   rw[jO]at r;exact⟨v,e,r.mono st.same⟩
  ·exact g.val o d q
 own:=λo s ds q e=>by
  rw[jO];rcases mem_append.mp q with q|q
  ·obtain⟨a,xs,e1,e2,e3,r⟩:=h.own o s ds (mem_append_left _ q) e
   rw[jO]at r;exact⟨a,xs,e1,st.keep a _ (.inr (jC q e e1)) e2,e3,r.mono st.same⟩
  ·obtain⟨a,xs,e1,e2,e3,r⟩:=g.own o s ds q e
   exact⟨a,xs,e1,e2,λm=>e3 (.inl m),r⟩
 nd:=by
  rw[zY];have nd:=h.nd;rw[zY]at nd;refine nodup_append.mpr ⟨(nodup_append.mp nd).1,g.nd,λa ha b hb e=>?_⟩;subst e;obtain⟨xs,_,q,_⟩:=g.ownAt hb;exact q (.inr ha)
 mal:=λb q=>g.mal b (.inl q)
def Step.outer(st:Step (Mo M T) H Z H' Z'):Step M H (T++Z) H' (T++Z') :=
 ⟨by rw[jO,jO];exact st.same,λb o m h=>st.keep b o (.inl m) h⟩
def yS(hp:H p=none):Yv H (upd H p o):=λb u e=>by
 rw[zr (λq=>by subst q;rw[hp]at e;cases e)];exact e
def FR.grow(h:FR K mg M H Z)(hp:H p=none):FR K mg M (upd H p o) Z where
 val:=λo' d q=>by
  obtain⟨v,e,r⟩:=h.val o' d q;exact⟨v,e,r.mono λb u x=>zp.mpr ⟨(zp.mp x).1,yS hp b u (zp.mp x).2⟩⟩
 own:=λo' s ds q e=>by
  obtain⟨a,xs,e1,e2,e3,r⟩:=h.own o' s ds q e;exact⟨a,xs,e1,yS hp _ _ e2,e3,r.mono λb u x=>zp.mpr ⟨(zp.mp x).1,yS hp b u (zp.mp x).2⟩⟩
 nd:=h.nd
 mal:=λb q=>by obtain⟨u,e,z⟩:=h.mal b q;exact⟨u,yS hp _ _ e,z⟩
def Step.grow(hp:H p=none):Step M H Z (upd H p o) Z :=
 ⟨λb u x=>zp.mpr ⟨(zp.mp x).1,yS hp b u (zp.mp x).2⟩,λb u _ e=>yS hp b u e⟩
def FR.add(h:FR K mg M H Z)(r:Rep K mg (Hm (Mo M Z) H) d v):FR K mg M H ((some v,.v d)::Z) where
 val:=λo d' q=>by
  rw[ZY];rcases mem_cons.mp q with q|q
  ·cases q;exact⟨v,rfl,r⟩
  ·exact h.val o d' q
 own:=λo s ds q e=>by
  rw[ZY];rcases mem_cons.mp q with q|q
  ·cases q;cases e
  ·exact h.own o s ds q e
 nd:=by rw[zW];exact h.nd
 mal:=h.mal
def Step.add(st:Step M H Z H' Z'):Step M H Z H' ((v,.v d)::Z'):=by
 refine⟨?_,st.keep⟩;rw[ZY];exact st.same
def Jb(h:FR K mg M H Z)(hp:H p=none):¬Mo M Z p:=λq=>by
 obtain⟨o,e,_⟩:=h.moAl p q;rw[hp]at e;cases e
def wP(h:FR K mg M H Z)(hp:H p=none):Yv (Hm (Mo M Z) H) (Hm (Mo M ((some (.ref p),.own ds)::Z)) (upd H p (.l xs))):=λb u x=>by
 obtain⟨h1,h2⟩:=zp.mp x;refine zp.mpr ⟨λq=>?_,yS hp _ _ h2⟩;rcases q with q|q
 ·exact h1 (.inl q)
 ·rw[YM]at q
  rcases mem_cons.mp q with q|q
  ·subst q;rw[hp]at h2;cases h2
  ·exact h1 (.inr q)
def FR.newOwn(h:FR K mg M H Z)(hp:H p=none)(r:Reps K mg (Hm (Mo M Z) H) ds xs):FR K mg M (upd H p (.l xs)) ((some (.ref p),.own ds)::Z) where
 val:=λo d q=>by
  rcases mem_cons.mp q with q|q
  ·cases q
  ·obtain⟨v,e,r⟩:=h.val o d q
   exact⟨v,e,r.mono (wP h hp)⟩
 own:=λo s ds' q e=>by
  rcases mem_cons.mp q with q|q
  ·cases q;cases e
   exact⟨p,_,rfl,yq,λm=>Jb h hp (.inl m),xs,rfl,r.mono (wP h hp)⟩
  ·obtain⟨a,ys,e1,e2,e3,r⟩:=h.own o s ds' q e
   exact⟨a,ys,e1,yS hp _ _ e2,e3,r.mono (wP h hp)⟩
 nd:=by
  rw[YM];exact nodup_cons.mpr ⟨λq=>Jb h hp (.inr q),h.nd⟩
 mal:=λb q=>by obtain⟨u,e,z⟩:=h.mal b q;exact⟨u,yS hp _ _ e,z⟩
def Step.newOwn(h:FR K mg M H Z)(hp:H p=none):Step M H Z (upd H p (.l xs)) ((some (.ref p),.own ds)::Z) :=
 ⟨wP h hp,λb u _ e=>yS hp b u e⟩
def ji(h:FR K mg M H Z)(hp:H p=none):Yv (Hm (Mo M Z) H) (Hm (Mo M ((some (.ref p),.dct ks vs)::Z)) (upd H p o)):=λb u x=>by
 obtain⟨h1,h2⟩:=zp.mp x;refine zp.mpr ⟨λq=>?_,yS hp _ _ h2⟩;rcases q with q|q
 ·exact h1 (.inl q)
 ·rw[YN]at q
  rcases mem_cons.mp q with q|q
  ·subst q;rw[hp]at h2;cases h2
  ·exact h1 (.inr q)
def FR.newDct(h:FR K mg M H Z)(hp:H p=none)(hk:∀e∈es,SqT K (Hm (Mo M Z) H) e.2.1 (e.1.map oV))(r:Reps K mg (Hm (Mo M Z) H) vs (es.map (·.2.2))):FR K mg M (upd H p (QU p es)) ((some (.ref p),.dct (es.map (·.1)) vs)::Z) where
 val:=λo d q=>by
  rcases mem_cons.mp q with q|q
  ·cases q
  ·obtain⟨v,e,r⟩:=h.val o d q
   exact⟨v,e,r.mono (ji h hp)⟩
 own:=λo s c q e=>by
  rcases mem_cons.mp q with q|q
  ·cases q;cases e
   exact⟨p,_,rfl,yq,λm=>Jb h hp (.inl m),es,rfl,rfl,λx hx=>zS (ji h hp) (hk x hx),r.mono (ji h hp)⟩
  ·obtain⟨a,ys,e1,e2,e3,r⟩:=h.own o s c q e
   exact⟨a,ys,e1,yS hp _ _ e2,e3,r.mono (ji h hp)⟩
 nd:=by
  rw[YN];exact nodup_cons.mpr ⟨λq=>Jb h hp (.inr q),h.nd⟩
 mal:=λb q=>by obtain⟨u,e,z⟩:=h.mal b q;exact⟨u,yS hp _ _ e,z⟩
def Step.newDct(h:FR K mg M H Z)(hp:H p=none):Step M H Z (upd H p o) ((some (.ref p),.dct ks vs)::Z) :=
 ⟨ji h hp,λb u _ e=>yS hp b u e⟩
def FR.newTup(h:FR K mg M H Z)(hp:H p=none)(r:Reps K mg (Hm (Mo M Z) H) ds xs):FR K mg M (upd H p (.t xs)) ((some (.ref p),.v (.t ds))::Z):=by
 refine(h.grow hp).add ?_;simp only[Rep];refine⟨p,xs,rfl,SqT.of (zp.mpr ⟨Jb h hp,yq⟩),r.mono λb u x=>zp.mpr ⟨(zp.mp x).1,yS hp b u (zp.mp x).2⟩⟩
def Step.newVal(hp:H p=none):Step M H Z (upd H p o) ((v,.v d)::Z):=(Step.grow hp).add
def FR.frz{o:Option V}{r:R}(h:FR K mg M H ((o,r.slot)::Z)):FR K mg M H ((o,.v r.d)::Z):=by
 cases r with
 |v d=>exact h
 |own ds =>
  obtain⟨a,xs,e1,e2,e3,rr⟩:=h.ownL o (.own ds) ds qE rfl;subst e1;have hn:¬Mo M Z a:=λq=>by
   rcases q with q|q
   ·exact e3 q
   ·exact(nodup_cons.mp h.nd).1 q
  refine h.tail.add ?_;simp only[R.d,Rep];exact⟨a,xs,rfl,SqL.of (zp.mpr ⟨hn,e2⟩),rr.mono (jS (JC (zC (sublist_cons_self _ _))))⟩
 |dct ks vs =>
  obtain⟨a,ho,e1,e2,e3,es,rfl,r1,r2,r3⟩:=h.own o (.dct ks vs) (.d ks vs) qE rfl;subst e1;have hn:¬Mo M Z a:=λq=>by
   rcases q with q|q
   ·exact e3 q
   ·exact(nodup_cons.mp h.nd).1 q
  refine h.tail.add ?_;have sm:=jS (H:=H) (JC (M:=M) (zC (sublist_cons_self ((some (V.ref a),Slot.dct ks vs)) Z)));simp only[R.d,Rep];exact⟨a,es,rfl,zp.mpr ⟨hn,e2⟩,r1,λx hx=>zS sm (r2 x hx),r3.mono sm⟩
def Step.frz{o:Option V}{r:R}(h:Step M H Z H' ((o,r.slot)::Z')):Step M H Z H' ((o,.v r.d)::Z'):=by
 cases r with
 |v d=>exact h
 |own ds =>
  refine h.weak λb q=>?_
  rw[zW]at q;exact(zC (sublist_cons_self _ _)) b q
 |dct ks vs =>
  refine h.weak λb q=>?_
  rw[zW]at q;exact(zC (sublist_cons_self _ _)) b q
theorem uL:∀(O:St) (E:zV) (i:Nat) (o:Option V) (s:Slot),(O.set i o).zip (E.set i s)=(O.zip E).set i (o,s)
 | [],_,_,_,_=>by simp|_::_,[],_,_,_=>by simp|x::O,y::E,0,o,s=>by simp|x::O,y::E,i+1,o,s=>by simp[uL O E i o s]
theorem zQ{α:Type}(x:α):∀(l:List α) (i:Nat),i<l.length->(l.set i x).Perm (x::l.eraseIdx i)
 | [],_,h=>by simp at h|y::l,0,_=>List.Perm.refl _
 |y::l,i+1,h=>by
  have ih:=zQ x l i (by simpa using h);simp only[List.set_cons_succ,List.eraseIdx_cons_succ];exact(ih.cons y).trans (List.Perm.swap x y _)
def FR.put(h:FR K mg M H (((o:Option V),s)::Z))(hi:i<Z.length):FR K mg M H (Z.set i (o,s)) :=
 (h.sub ((eraseIdx_sublist Z i).cons_cons (o,s))).perm (zQ _ _ _ hi).symm
def Step.put(h:Step M H Z H' ((o,s)::Z'))(hi:i<Z'.length):Step M H Z H' (Z'.set i (o,s)):=by
 refine h.weak λb q=>?_
 exact zC ((eraseIdx_sublist Z' i).cons_cons (o,s)) b (zD (zQ _ _ _ hi) b q)
end
inductive Out(α:Type) where
 |z
 |ok (a:α)
 |exc (x:Exn) (E:zV)
 deriving Inhabited
abbrev ME:=zV->Out (R×zV)
abbrev MA:=zV->Out (List R×zV)
abbrev MT:=zV->Out (Bool×zV)
def PKp(O:St)(E:zV)(O':St)(E':zV):Prop:=∀(i:Nat) ds,E[i]?=some (.par ds)->(∃ds',E'[i]?=some (.par ds'))/\O'[i]?=O[i]?
def PKp.refl{O:St}{E:zV}:PKp O E O E:=λi ds h=>⟨⟨ds,h⟩,rfl⟩
theorem PKp.trans{O O1 O2:St}{E E1 E2:zV}(a:PKp O E O1 E1)(b:PKp O1 E1 O2 E2):PKp O E O2 E2:=λi ds h=>by
 obtain⟨⟨ds1,h1⟩,e1⟩:=a i ds h;obtain⟨h2,e2⟩:=b i ds1 h1;exact⟨h2,e2.trans e1⟩
structure Got(K:qH)(mg:Str->Option Value)(M:Addr->Prop)(O:St)(E:zV)(H:Hp)(T0:Fz)(O':St)(E':zV)(H':Hp)(T:Fz):Prop where
 len:E'.length=O'.length
 fr:FR K mg M H' (T++(T0++O'.zip E'))
 st:Step M H (T0++O.zip E) H' (T++(T0++O'.zip E'))
 pk:PKp O E O' E'
def zCR(vs:List V)(rs:List R):Fz:=(vs.zip rs).map λp=>(some p.1,p.2.slot)
def KM(X:Cx)(M:Addr->Prop)(O:St)(E:zV)(H:Hp)(T0:Fz)(Q:VK):Out (R×zV)->Prop
 | .z=>False| .ok (r,E')=>∀v H',Got X.K X.mg M O E H T0 O E' H' [(some v,r.slot)]->Q v H'| .exc x E'=>∀H',Got X.K X.mg M O E H T0 O E' H' []->XE X O H' x
def KT(X:Cx)(M:Addr->Prop)(O:St)(E:zV)(H:Hp)(T0:Fz)(Q:Bool->Hp->Prop):Out (Bool×zV)->Prop
 | .z=>False| .ok (b,E')=>∀H',Got X.K X.mg M O E H T0 O E' H' []->Q b H'| .exc x E'=>∀H',Got X.K X.mg M O E H T0 O E' H' []->XE X O H' x
def KA(X:Cx)(M:Addr->Prop)(O:St)(E:zV)(H:Hp)(T0:Fz)(Q:List V->Hp->Prop):Out (List R×zV)->Prop
 | .z=>False| .ok (rs,E')=>∀vs H',vs.length=rs.length->Got X.K X.mg M O E H T0 O E' H' (zCR vs rs)->Q vs H'| .exc x E'=>∀H',Got X.K X.mg M O E H T0 O E' H' []->XE X O H' x
def tM(X:Cx)(m:ME):TE:=λO H Q=>∃M E,E.length=O.length/\FR X.K X.mg M H (O.zip E)/\KM X M O E H [] Q (m E)
def tMT(X:Cx)(m:MT):TT:=λO H Q=>∃M E,E.length=O.length/\FR X.K X.mg M H (O.zip E)/\KT X M O E H [] Q (m E)
def tMA(X:Cx)(m:MA):TA:=λO H Q=>∃M E,E.length=O.length/\FR X.K X.mg M H (O.zip E)/\KA X M O E H [] Q (m E)
abbrev EOk(X:Cx)(e:Expr)(m:ME):Prop:=PE X e (tM X m)
abbrev TOk(X:Cx)(e:Expr)(m:MT):Prop:=PT X e (tMT X m)
abbrev AOk(X:Cx)(es:List Expr)(m:MA):Prop:=PA X es (tMA X m)
def zu{X:Cx}{e:Expr}{t t':TE}(h:PE X e t)(i:∀O H Q,t' O H Q->t O H Q):PE X e t':=λpins s O H Q I q=>h pins s O H Q I (i O H Q q)
def zAW{X:Cx}{e:Expr}{t t':TT}(h:PT X e t)(i:∀O H Q,t' O H Q->t O H Q):PT X e t':=λpins s O H Q I q=>h pins s O H Q I (i O H Q q)
def zF1{X:Cx}{e:Expr}{t t':TT}(h:PW X e t)(i:∀O H Q,t' O H Q->t O H Q):PW X e t':=λwh pins s O H Q I q=>h wh pins s O H Q I (i O H Q q)
def Ga{X:Cx}{e:List Expr}{t t':TA}(h:PA X e t)(i:∀O H Q,t' O H Q->t O H Q):PA X e t':=λp pins s O H Q I q=>h p pins s O H Q I (i O H Q q)
def jV{X:Cx}{e:Stmt}{t t':TS}(h:PS X e t)(i:∀D O H,t' D O H->t D O H):PS X e t':=λpins s O H D I q=>h pins s O H D I (i D O H q)
def zCS{X:Cx}{e:List Stmt}{t t':TS}(h:PSs X e t)(i:∀D O H,t' D O H->t D O H):PSs X e t':=λpins s O H D I q=>h pins s O H D I (i D O H q)
section
variable{X:Cx}{K:qH}{mg:Str->Option Value}{M:Addr->Prop}{O O' O1 O2:St}{E E' E1 E2:zV}{H H' H1 H2:Hp}{T0 T T1 T2:Fz}{Q:VK}
def swapP{α:Type}(A B C:List α):(A++(B++([]++C))).Perm (B++(A++C)):=by
 rw[nil_append,<- append_assoc,<- append_assoc];exact(perm_append_comm).append_right _
def ju{α:Type}{l:List α}{i:Nat}{x:α}(h:l[i]?=some x):l.set i x=l:=by
 obtain⟨hi,rfl⟩:=qG.mp h;exact List.set_getElem_self hi
theorem Got.outer(h:FR K mg M H (T0++O.zip E))(g:Got K mg (Mo M T0) O E H [] O' E' H' T):Got K mg M O E H T0 O' E' H' T where
 len:=g.len
 fr:=by
  have q:=FR.outer h g.fr g.st;exact q.perm (swapP _ _ _)
 st:=by
  have q:=Step.outer g.st;refine q.weak λb hb=>?_
  exact zD (swapP _ _ _).symm b hb
 pk:=g.pk
theorem Got.trans(a:Got K mg M O E H T0 O1 E1 H1 T1)(b:Got K mg M O1 E1 H1 (T1++T0) O2 E2 H2 T2):Got K mg M O E H T0 O2 E2 H2 (T2++T1) where
 len:=b.len
 fr:=by
  have q:=b.fr;rw[append_assoc]at q;rw[append_assoc];exact q
 st:=by
  have q:=b.st;rw[append_assoc,append_assoc]at q;rw[append_assoc];exact a.st.trans q
 pk:=a.pk.trans b.pk
def Got.dropAll(a:Got K mg M O E H T0 O1 E1 H1 T1):Got K mg M O E H T0 O1 E1 H1 [] where
 len:=a.len
 fr:=a.fr.sub (sublist_append_right _ _)
 st:=a.st.weak (zC (sublist_append_right _ _))
 pk:=a.pk
def Got.trans'(a:Got K mg M O E H [] O1 E1 H1 T1)(b:Got K mg M O1 E1 H1 T1 O2 E2 H2 T2):Got K mg M O E H [] O2 E2 H2 (T2++T1):=a.trans (by rw[append_nil];exact b)
theorem Got.refl(hl:E.length=O.length)(h:FR K mg M H (T0++O.zip E)):Got K mg M O E H T0 O E H []:=⟨hl,h,Step.refl,PKp.refl⟩
def Got.more(a:Got K mg M O E H [] O1 E1 H1 T1)(f:FR K mg M H2 (T++O1.zip E1))(s:Step M H1 (O1.zip E1) H2 (T++O1.zip E1)):Got K mg M O E H [] O1 E1 H2 T where
 len:=a.len
 fr:=f
 st:=(a.st.weak (zC (sublist_append_right _ _))).trans s
 pk:=a.pk
def Got.frame(a:Got K mg M O E H [] O1 E1 H1 T1):FR K mg M H1 (O1.zip E1):=a.fr.sub (sublist_append_right _ _)
def vh(v:V)(r:R)(vs:List V)(rs:List R):zCR (v::vs) (r::rs)=(some v,r.slot)::zCR vs rs:=rfl
theorem zCT:∀{vs:List V} {rs:List R} {Z:Fz},vs.length=rs.length->FR K mg M H (zCR vs rs++Z)->Reps K mg (Hm (Mo M Z) H) (rs.map R.d) vs
 | [],[],Z,_,h=>Reps.nil
 |v::vs,r::rs,Z,hl,h=>by
  rw[vh,cons_append]at h;refine Reps.cons ?_ (zCT (by simpa using hl) h.tail);obtain⟨v',e,q⟩:=h.frz.val (some v) r.d qE;cases e;refine q.mono (jS (JC λb hb=>?_));rw[zW,zY];exact qK _ hb
def Got.reps{vs:List V}{rs:List R}(hl:vs.length=rs.length)(a:Got K mg M O E H [] O1 E1 H1 (zCR vs rs)):Reps K mg (Hm (Mo M (O1.zip E1)) H1) (rs.map R.d) vs:=zCT hl a.fr
def Got.rep{v:V}{r:R}(a:Got K mg M O E H [] O1 E1 H1 [(some v,r.slot)]):Rep K mg (Hm (Mo M (O1.zip E1)) H1) r.d v:=by
 have q:=Got.reps (vs:=[v]) (rs:=[r]) rfl a;simp only[List.map,Reps]at q;obtain⟨v',r',e,h,_⟩:=q;cases e;exact h
def zk{m:ME}(hl:E.length=O.length)(h:FR X.K X.mg M H (T0++O.zip E))
  (k:KM X M O E H T0 Q (m E)):tM X m O H Q:=by
 refine⟨Mo M T0,E,hl,h.inner,?_⟩;cases e:m E with
 |z=>rw[e]at k;exact k|ok a=>rw[e]at k;exact λv H' g=>k v H' (g.outer h)|exc x E'=>rw[e]at k;exact λH' g=>k H' (g.outer h)
def JD{m:MT}{Q:Bool->Hp->Prop}(hl:E.length=O.length)(h:FR X.K X.mg M H (T0++O.zip E))
  (k:KT X M O E H T0 Q (m E)):tMT X m O H Q:=by
 refine⟨Mo M T0,E,hl,h.inner,?_⟩;cases e:m E with
 |z=>rw[e]at k;exact k|ok a=>rw[e]at k;exact λH' g=>k H' (g.outer h)|exc x E'=>rw[e]at k;exact λH' g=>k H' (g.outer h)
def JE{m:MA}{Q:List V->Hp->Prop}(hl:E.length=O.length)(h:FR X.K X.mg M H (T0++O.zip E))
  (k:KA X M O E H T0 Q (m E)):tMA X m O H Q:=by
 refine⟨Mo M T0,E,hl,h.inner,?_⟩;cases e:m E with
 |z=>rw[e]at k;exact k|ok a=>rw[e]at k;exact λvs H' hv g=>k vs H' hv (g.outer h)|exc x E'=>rw[e]at k;exact λH' g=>k H' (g.outer h)
def eC(d:D):ME:=λE=>.ok (.v d,E)
def flat:D->Bool
 | .non | .bl _ | .int _ | .str _=>true
 |_=>false
def flV:D->V
 | .bl b=>.bl b| .int i=>.int i| .str x=>.str x|_=>.non
def zAX{d:D}(h:flat d=true):Rep K mg H d (flV d):=by
 cases d<;>simp[flat]at h<;>simp[Rep,flV]
theorem Got.flat(a:Got K mg M O E H [] O1 E1 H1 T1){d:D}(h:flat d=true):Got K mg M O E H [] O1 E1 H1 [(some (flV d),.v d)] :=
 a.more (a.frame.add (zAX h)) Step.refl.add
def ok_c{e:Expr}{d:D}(h:PE X e (tC (flV d)))(hf:flat d=true:=by rfl):EOk X e (eC d):=zu h λO H Q ⟨M,E,hl,f,k⟩ =>
 k (flV d) H ((Got.refl (T0:=[]) hl f).flat hf)
def ok_int{i j pos}:EOk X (.Constant (.int i) j pos) (eC (.int i)):=ok_c zBt
def ok_bl{b j pos}:EOk X (.Constant (.bool b) j pos) (eC (.bl b)):=ok_c pe_bl
def ok_non{j pos}:EOk X (.Constant .none j pos) (eC .non):=ok_c pe_non
def ok_str{x j pos}:EOk X (.Constant (.str x) j pos) (eC (.str x)):=ok_c pe_str
def zCU(i:Nat):ME:=λE=>match E[i]? with
 |some (.v d)=>.ok (.v d,E)|some (.own ds)=>.ok (.v (.l ds),E.set i (.v (.l ds)))|some (.dct ks vs)=>.ok (.v (.dct ks vs),E.set i (.v (.dct ks vs)))|_=>.z
def jj{i:Nat}{s:Slot}(hl:E.length=O.length)(h:E[i]?=some s):∃o,O[i]?=some o/\(O.zip E)[i]?=some (o,s):=by
 have hi:i<E.length:=(qG.mp h).1;have:i<O.length:=hl▸hi;refine⟨O[i],by simp[this],?_⟩;rw[List.getElem?_zip_eq_some];exact⟨by simp[this],h⟩
def wQ{i:Nat}{s:Slot}(hl:E.length=O.length)(h:E[i]?=some s):∃o,O[i]?=some o/\(o,s)∈O.zip E:=by
 obtain⟨o,h1,h2⟩:=jj hl h;exact⟨o,h1,mem_of_getElem? h2⟩
def zT{i:Nat}{o:Option V}(s:Slot)(h:O[i]?=some o):O.zip (E.set i s)=(O.zip E).set i (o,s):=by
 rw[<- uL];congr 1;have hi:i<O.length:=(qG.mp h).1;apply ext_getElem?;intro j;by_cases e:i=j
 ·subst e;rw[getElem?_set_self hi,h]
 ·rw[getElem?_set_ne e]
def vi{i:Nat}{s:Slot}{ds0:List D}(h:E[i]?=some s)(hs:∀ds,s≠.par ds)(o:Slot):PKp O E O (E.set i o):=λj ds e=>by
 have ne:i≠j:=λq=>by subst q;rw[h]at e;exact hs ds (qJ e)
 exact⟨⟨ds,by rw[getElem?_set_ne ne];exact e⟩,rfl⟩
def ok_var(i:Nat){x:Str}{pos:Pos}(h:PE X (.Name x pos) (vd i)):EOk X (.Name x pos) (zCU i):=zu h λO H Q ⟨M,E,hl,f,k⟩=>by
 unfold zCU at k;cases e:E[i]? with
 |none=>rw[e]at k;exact k.elim
 |some sl =>
 rw[e]at k;cases sl with
 |e=>exact k.elim|par ds=>exact k.elim
 |v d =>
  obtain⟨o,h1,h2⟩:=wQ hl e;obtain⟨v,rfl,r⟩:=f.val o d h2;exact⟨v,h1,k v H ⟨hl,f.add r,Step.refl.add,PKp.refl⟩⟩
 |own ds =>
  obtain⟨o,h1,h2⟩:=jj hl e;obtain⟨a,xs,rfl,q1,q2,q3⟩:=f.ownL o (.own ds) ds (mem_of_getElem? h2) rfl;refine⟨.ref a,h1,k _ H ?_⟩;have hlt:i<(O.zip E).length:=(qG.mp h2).1;have p:(O.zip E).Perm ((some (.ref a),R.slot (.own ds))::(O.zip E).eraseIdx i):=by
   have:=zQ (some (V.ref a),Slot.own ds) (O.zip E) i hlt;rw[ju h2]at this;exact this
  have f1:=(f.perm p).frz;have f2:FR X.K X.mg M H ((O.zip E).set i (some (.ref a),.v (.l ds))):=f1.perm (zQ _ _ _ hlt).symm;rw[<- zT (.v (.l ds)) h1]at f2;have r:=f1.val _ _ qE;obtain⟨v,ev,rr⟩:=r;cases ev;have em:Mo M ((some (V.ref a),Slot.v (R.own ds).d)::(O.zip E).eraseIdx i)=Mo M (O.zip (E.set i (.v (.l ds)))):=by
   rw[zT (.v (.l ds)) h1];exact(uK (zQ _ _ _ hlt)).symm
  rw[em]at rr;refine⟨by simp[hl],f2.add rr,?_,?_⟩
  ·refine Step.add ?_
   refine Step.weak Step.refl λb hb=>?_
   refine zD p.symm b ?_;rw[nil_append,zT (.v (.l ds)) h1]at hb;have hb':=zD (zQ _ _ _ hlt) b hb;rw[zW]at hb';exact zC (sublist_cons_self _ _) b hb'
  ·exact vi (ds0:=[]) e (λds' q=>by cases q) _
 |dct ks vs =>
  obtain⟨o,h1,h2⟩:=jj hl e;obtain⟨a,ho,rfl,q1,q2,q3⟩:=f.own o (.dct ks vs) (.d ks vs) (mem_of_getElem? h2) rfl;refine⟨.ref a,h1,k _ H ?_⟩;have hlt:i<(O.zip E).length:=(qG.mp h2).1;have p:(O.zip E).Perm ((some (.ref a),R.slot (.dct ks vs))::(O.zip E).eraseIdx i):=by
   have:=zQ (some (V.ref a),Slot.dct ks vs) (O.zip E) i hlt;rw[ju h2]at this;exact this
  have f1:=(f.perm p).frz;have f2:FR X.K X.mg M H ((O.zip E).set i (some (.ref a),.v (.dct ks vs))):=f1.perm (zQ _ _ _ hlt).symm;rw[<- zT (.v (.dct ks vs)) h1]at f2;have r:=f1.val _ _ qE;obtain⟨v,ev,rr⟩:=r;cases ev;have em:Mo M ((some (V.ref a),Slot.v (R.dct ks vs).d)::(O.zip E).eraseIdx i)=Mo M (O.zip (E.set i (.v (.dct ks vs)))):=by
   rw[zT (.v (.dct ks vs)) h1];exact(uK (zQ _ _ _ hlt)).symm
  rw[em]at rr;refine⟨by simp[hl],f2.add rr,?_,?_⟩
  ·refine Step.add ?_
   refine Step.weak Step.refl λb hb=>?_
   refine zD p.symm b ?_;rw[nil_append,zT (.v (.dct ks vs)) h1]at hb;have hb':=zD (zQ _ _ _ hlt) b hb;rw[zW]at hb';exact zC (sublist_cons_self _ _) b hb'
  ·exact vi (ds0:=[]) e (λds' q=>by cases q) _
end
def zX:Expr->Bool
 | .Starred _ _=>true|_=>false
def jk:List Expr->Bool
 | []=>true|e::es=>!zX e&&jk es
def zf{e:Expr}{es:List Expr}{env:Env}(h:zX e=false):starEach (e::es) env=(false,eval e env)::starEach es env:=by
 cases e<;>first|rfl|(cases h)
def star2{a b:Expr}{env:Env}(ha:zX a=false)(hb:zX b=false):starEach [a,b] env=[(false,eval a env),(false,eval b env)]:=by
 rw[zf ha,zf hb];rfl
def zBU{a:Expr}{env:Env}(ha:zX a=false):starEach [a] env=[(false,eval a env)]:=by
 rw[zf ha];rfl
def wD:Expr->Bool
 | .Set _ _ _=>false|_=>true
def wE{e:Expr}{env:Env}(h:wD e=true):∀x,foldedSetIterable e env x=pure x:=by
 intro x;cases e<;>first|rfl|(cases h)
def Jx:Expr->Bool
 | .ListComp _ _ _ _=>false| .SetComp _ _ _ _=>false| .DictComp _ _ _ _ _=>false|_=>true
def uM{e:Expr}{t:Option Expr}{l:Nat}{env:Env}(h:Jx e=true):swapsWith e t l env=pure false:=by
 cases e<;>first|rfl|(cases h)
def zF2:Expr->Bool
 | .UnaryOp .Not _ _=>false| .BoolOp _ _ _=>false| .IfExp _ _ _ _=>false| .Compare _ _ _ _=>false|_=>true
def test_of{e:Expr}{env:Env}(h:zF2 e=true):∀whole,isTrue e env whole=(do let v <- whole;standAt e.pos;holding [v] (truthy v)):=by
 intro x;cases e<;>first|rfl|(cases h)|skip;rename_i op _ _;cases op<;>first|rfl|(cases h)
def uN:Expr->Bool
 | .Slice _ _ _ _=>false|_=>true
theorem Gb{env:Env}:∀{es:List Expr},jk es=true->(starEach es env).any (·.1)=false
 | [],_=>rfl
 |e::es,h=>by
  simp only[jk,Bool.and_eq_true,Bool.not_eq_true']at h;rw[zf h.1];simp[Gb h.2]
def zET(pos:Pos)(l:List (Bool×Sem Value)):(backTo pos l).any (·.1)=l.any (·.1):=by
 unfold backTo;rw[List.any_map];rfl
def YO{env:Env}{es:List Expr}{pos:Pos}(h:jk es=true):(backTo pos (starEach es env)).any (·.1)=false:=by
 rw[zET,Gb h]
end DV
namespace L2
open PySem PySem.Spec PyProof.Rows
section
variable{X:Cx}
def zF3(K:qH):R2:=λx y H Q=>∃a b xs ys,x=.ref a/\y=.ref b/\SqT K H a xs/\SqT K H b ys/\xs.length+ys.length<=sizeLine /\
 (xs=[]->Q (.ref b) H)/\(xs≠[]->ys=[]->Q (.ref a) H)/\(xs≠[]->ys≠[]->∀p,H p=none->Q (.ref p) (upd H p (.t (xs++ys))))
def zEU:OpR X (binaryOp .Add) (zF3 X.K):=by
 intro pins s O H x y v u Q I rx ry h;obtain⟨a,b,xs,ys,rfl,rfl,ha,hb,hz,q0,q1,q2⟩:=h;cases rx;cases ry;obtain⟨its,r1,p1,_⟩:=I.tuple ha;obtain⟨its2,r2,p2,_⟩:=I.tuple hb;by_cases hx:xs=[]
 ·have hi:its=[]:=r1.nil_iff.mpr hx
  obtain⟨⟨cls,dd,data,sl⟩,ho,hc,n,hd⟩:=id p1;obtain⟨⟨cls2,dd2,data2,sl2⟩,ho2,hc2,n2,hd2⟩:=id p2;simp only at hc hd hc2 hd2;subst hc hd hc2 hd2;exact concat_meets ⟨_,ho,rfl⟩ ⟨_,ho2,rfl⟩ noFill_tuple_add seq_tuple_add PySem.F.slot_tuple_add PySem.F.entry_tuple_add (PySem.F.args_tuple_add_2 _ _)
   (tuple_addW0 a b its.toArray its2.toArray n n2 dd dd2 sl sl2 (by simp[hi])) ⟨ho,ho2,⟨.ref b,H,I,rfl,q0 hx⟩⟩
 ·exact op_catT pins s O H (.ref a) (.ref b) (.ref a) (.ref b) Q I rfl rfl ⟨a,b,xs,ys,rfl,rfl,ha,hb,hx,hz,q1 hx,q2 hx⟩
def rCatL(K:qH):R2:=λx y H Q=>∃l b xs zs,x=.ref l/\y=.ref b/\SqL K H l xs/\SqL K H b zs/\xs.length+zs.length<=sizeLine/\∀p,H p=none->Q (.ref p) (upd H p (.l (xs++zs)))
def op_catL:OpR X (binaryOp .Add) (rCatL X.K):=by
 intro pins s O H x y v u Q I rx ry h;obtain⟨l,b,xs,zs,rfl,rfl,hH,hB,hz,q⟩:=h;cases rx;cases ry;obtain⟨its,r,pl,_⟩:=I.list hH;obtain⟨its2,r2,pl2,_⟩:=I.list hB;have hl:=r.length;have hl2:=r2.length;obtain⟨⟨cls,dd,data,sl⟩,n,ho,hc,hdd,hd⟩:=pl;obtain⟨⟨cls2,dd2,data2,sl2⟩,n2,ho2,hc2,hdd2,hd2⟩:=pl2;simp only at hc hd hc2 hd2;subst hc hd hc2 hd2;refine concat_meets ⟨_,ho,rfl⟩ ⟨_,ho2,rfl⟩ noFill_list_add seq_list_add PySem.F.slot_list_add PySem.F.entry_list_add (PySem.F.args_list_add_2 _ _) (list_addW l b its.toArray its2.toArray n n2 dd dd2 sl sl2 (by rw[size_toArray,size_toArray];omega)) ⟨ho,ho2,?_⟩;have ea:its.toArray++its2.toArray=(its++its2).toArray:=by simp
 rw[ea];exact⟨.ref _,_,I.lnew (t':=s.toks) (r.append r2) (by rw[length_append];omega),rfl,q _ I.fresh⟩
def Jy{prog:Program}{w:World}{A:Around}{E:Value->Shared->Prop}{s:Shared}{t sl:Addr}{items:Array Value}{vl vu:Value}{lo hi:Option Int}{Q:Value->Shared->Prop}(ht:IsTup s.heap t items)(hs:s.heap.IsSliceOf sl vl vu .none)(pl:IsPart vl lo)(pu:IsPart vu hi)
  (h1:HT.sIx items.size 0 lo=0) (h2:HT.sIx items.size items.size hi=items.size)
  (h:Q (.ref t) s):wpAny (model prog w) A (getItem (.ref t) (.ref sl)) Q E s:=by
 obtain⟨os,hos,hcs,hds⟩:=id hs;have hTs:s.TypeIs (.ref sl) "slice":=⟨os,hos,hcs⟩;unfold getItem
 try with_reducible refine wpAny_holding ?_
 first|refine qB (qC ?_)|skip
 refine qB (wpAny_sequenceKey ht.typeIs (by decide) ?_);refine qB (wpAny_callSpecial?_slot (name:=Str.ofString "__getitem__") ht.typeIs PyProof.Rows.slot_tuple_getitem
  (wpAny_call_entry PyProof.Rows.slot_tuple_getitem ht.typeIs entry_tuple_getitem ?_ (args_tuple_getitem _ _)))
 show wpAny _ _ (Builtin.Tuple.tupleItemsOf (.ref t) >>= _) _ _ s
 refine qB (tupleItemsOf_ ht ?_);refine qB (wpAny_typeOf hTs ?_);rw[if_pos (by decide)];refine qB (HT.sliceApplied_gen hs pl pu ?_);have hyes:(((HT.sIx items.size 0 lo:Nat):Int)==0&&(1:Int)==1&&(HT.sIx items.size items.size hi-HT.sIx items.size 0 lo)==items.size)=true:=by
  rw[h1,h2];simp
 show wpAny _ _ (if(((HT.sIx items.size 0 lo:Nat):Int)==0&&(1:Int)==1&&(HT.sIx items.size items.size hi-HT.sIx items.size 0 lo)==items.size)=true then _ else _) _ _ s
 rw[if_pos hyes];unfold Builtin.Tuple.tupleIsExact;refine qB (qB (wpAny_typeOf ht.typeIs (qC ?_)));rw[if_pos (by decide)];exact qB (wpAny_rule (qC ⟨_,rfl,qC h⟩))
def rSlTT(K:qH):V->Option Int->Option Int->Hp->VK->Prop:=λx lo hi H Q=>∃a xs,x=.ref a/\SqT K H a xs /\
 ((HT.sIx xs.length 0 lo=0/\HT.sIx xs.length xs.length hi=xs.length)->Q (.ref a) H) /\
 (¬(HT.sIx xs.length 0 lo=0/\HT.sIx xs.length xs.length hi=xs.length)->∀p,H p=none->Q (.ref p) (upd H p (.t (zEM xs lo hi))))
def sl_tupT:SlR X (rSlTT X.K):=by
 intro pins s O H x v vl vu lo hi sl Q I rx hs pl pu h;obtain⟨a,xs,rfl,hx,q1,q2⟩:=h;by_cases hw:HT.sIx xs.length 0 lo=0/\HT.sIx xs.length xs.length hi=xs.length
 ·cases rx
  obtain⟨its,r,ht,hz⟩:=I.tuple hx;have hlen:its.toArray.size=xs.length:=by rw[size_toArray];exact r.length.symm
  refine⟨"tuple",_,PyProof.Rows.slot_tuple_getitem.lookup,ht.typeIs,?_⟩;exact Jy ht hs pl pu (by rw[hlen];exact hw.1) (by rw[hlen];exact hw.2) ⟨.ref a,H,I,rfl,q1 hw⟩
 ·exact sl_tup pins s O H (.ref a) v vl vu lo hi sl Q I rx hs pl pu ⟨a,xs,rfl,hx,hw,q2 hw⟩
theorem Gc:∀bs:List Bool,(List.range bs.length).all (λi=>bs.getD i false)=bs.all id
 | []=>rfl
 |b::bs=>by
  rw[length_cons,List.range_succ_eq_map,all_cons,all_cons,List.all_map,<- Gc bs];rfl
def zEV(hc:X.calm=true):wy X (.builtin "all") (λxs H Q=>∃(p:Addr) (bs:List Bool),xs=[.ref p]/\SqL X.K H p (bs.map V.bl)/\Q (.bl (bs.all id)) H):=by
 intro pins s O H xs us Q I r h;obtain⟨p,bs,rfl,hq,q⟩:=h;obtain⟨u,rfl,rx⟩:=uE r;cases rx;obtain⟨its,rv,pl,hz⟩:=I.list hq;have hlen:=rv.length;refine call_all_walk (wpAny_pyIter_list pl.isList ?_);have hp:p<s.heap.objs.size:=by obtain⟨o,n,e,_⟩:=pl;exact lt_size e
 have hk:∀b o,s.heap.get? b=some o->(s.heap.push {cls:=.type "list_iterator",data:=.fields #[.ref p,.int 0 0]}).get? b=some o:=λb o e=>qA _ e
 have htr:∀(i:Nat) (v:Value),its.toArray[i]?=some v->v=Value.bool (bs.getD i false):=λi v hv=>by
  have hv':its[i]?=some v:=by simpa using hv
  have hi:i<its.length:=(qG.mp hv').1;have hx:i<(bs.map V.bl).length:=by rw[hlen];exact hi
  obtain⟨u',e1,e2⟩:=rv.get (i:=i) (x:=(bs.map V.bl)[i]) (by simp[hx]);rw[hv']at e1;cases e1;rw[length_map]at hx;rw[List.getElem_map]at e2;have:v=.bool (bs[i]):=e2;rw[this];simp[hx]
 refine⟨s.heap.objs.size,[s.heap.objs.size,p],[s.heap.objs.size],its.toArray.size,_,_,λi=>bs.getD i false,rfl,
  Walks.list (by show X.A.handled=none;exact I.ok.hd hc) _ p (ne_of_lt hp) its.toArray,⟨⟨_,get?_push_size _ rfl,rfl,rfl⟩,?_⟩,?_,?_⟩
 ·obtain⟨o,e,c⟩:=pl.isList
  exact⟨o,hk _ _ e,c⟩
 ·intro i v s' Q' E' hv hQ
  rw[htr i v hv];exact wpAny_truthy_bool hQ
 ·intro h' tk kp
  have e:(List.range its.toArray.size).all (λi=>bs.getD i false)=bs.all id:=by
   rw[size_toArray,<- hlen,length_map,Gc]
  rw[e];exact⟨.bl (bs.all id),H,I.kept (t':=tk) λb o eb=>kp b o (λm=>by
   have:b=s.heap.objs.size:=by simpa using m
   subst this;exact absurd (lt_size eb) (lt_irrefl _)) (hk b o eb),rfl,q⟩
def Zt:fillsNumberSlot (.type "tuple") "mul"=pure false :=
 PySem.fillsNumberSlot_seq (id:="tuple.__mul__") (r:=some (.builtin "tuple.__rmul__")) F.slot_tuple_mul.lookup (by decide +kernel) F.slot_tuple_rmul.lookup (by decide +kernel)
def Gd:seqRepeat? (.type "tuple")=pure (some (.builtin "tuple.__mul__")):=by
 unfold seqRepeat?;rw[PySem.seqSlot_of (T:="tuple") (name:="__mul__") (id:="tuple.__mul__") F.slot_tuple_mul.lookup (by decide +kernel),PySem.seqSlot_of (T:="tuple") (name:="__rmul__") (id:="tuple.__rmul__") F.slot_tuple_rmul.lookup (by decide +kernel)];rfl
def vA(a:Int)(t:Tok)(l:Addr)(items:Array Value)(n:Nat)(dd:Option Addr)(sl:Array (Option Value)) :
  Meets (Builtin.«int.__rmul__» ⟨[.int a t,.ref l],[]⟩) (λ_ R s=>s.heap.get? l=some {cls:=.type "tuple",dict:=dd,data:=.seq items n,slots:=sl}/\R (.ok (.ret Value.notImplemented)) s) :=
 .of_wp λprog w A R s h=>by obtain⟨hp,g,d,tk,os⟩:=s;obtain⟨hl,h⟩:=h;wp_walk;exact⟨_,rfl,h⟩
def vB{E:Value->Shared->Prop}{Q:Value->Shared->Prop}(hl:IsTup s.heap l items)(h1:-(2^63)<=k)(h2:k<2^63)
  (hz:(items.size:Int)*k<=sizeLine) (q0:items.isEmpty=true\/k=1->Q (.ref l) s)
  (q1:k<=0->Q (.ref s.heap.objs.size) {s with heap:=s.heap.push {cls:=.type "tuple",data:=.seq #[]}})
  (q2:Q (.ref s.heap.objs.size) {s with heap:=s.heap.push {cls:=.type "tuple",data:=.seq ((replicate k.toNat items).foldl (·++·) #[])}})
  (hfit:sizeOk (.seq ((replicate k.toNat items).foldl (·++·) #[]))) :
  wpAny (model prog w) A (call (.builtin "tuple.__mul__") [.ref l,.int k t]) Q E s:=by
 refine wpAny_call_entry F.slot_tuple_mul hl.typeIs F.entry_tuple_mul ?_ (F.args_tuple_mul_2 _ _);show wpAny _ _ (asIndex (.int k t) >>= _) _ _ s;refine qB (wpAny_of_eq (a:=k) rfl ?_);dsimp only;rw[if_neg (by simp only[Bool.or_eq_true,decide_eq_true_eq];omega)];refine qB (tupleItemsOf_ hl ?_);by_cases e1:(items.isEmpty||k==1)=true
 ·rw[if_pos e1]
  unfold Builtin.Tuple.tupleIsExact;refine qB (qB (wpAny_typeOf hl.typeIs (qC ?_)));rw[if_pos (by decide)];refine qB (wpAny_rule (qC ⟨_,rfl,q0 ?_⟩));rw[Bool.or_eq_true,beq_iff_eq]at e1;exact e1
 ·rw[if_neg e1]
  by_cases e2:(decide (k<=0)||items.isEmpty)=true
  ·rw[if_pos e2]
   have hk:k<=0:=by
    simp only[Bool.or_eq_true,decide_eq_true_eq,beq_iff_eq,not_or]at e1 e2;rcases e2 with e2|e2
    ·exact e2
    ·exact absurd e2 e1.1
   exact qB (m:=Builtin.Tuple.tupleExact _) (wpAny_newObj_type (qC ⟨_,rfl,q1 hk⟩) (by show(#[]:Array Value).size<=sizeLine;simp))
  ·rw[if_neg e2]
   have hs:sizeLine=16777216:=sizeLine_eq;rw[if_neg (by rw[hs]at hz;omega),if_neg (by unfold Builtin.Tuple.tupleTooMany;simp only[decide_eq_true_eq];omega)];exact qB (m:=Builtin.Tuple.tupleExact _) (wpAny_newObj_type (qC ⟨_,rfl,q2⟩) hfit)
def rRepT(K:qH):R2:=λx y H Q=>∃l k xs,x=.ref l/\y=.int k/\SqT K H l xs/\-(2^63)<=k/\k<2^63/\xs.length*k.toNat<=sizeLine /\
 (xs=[]\/k=1->Q (.ref l) H)/\(∀p,H p=none->Q (.ref p) (upd H p (.t (replicate k.toNat xs).flatten)))
def op_repT:OpR X (binaryOp .Mult) (rRepT X.K):=by
 intro pins s O H x y v u Q I rx ry h;obtain⟨l,k,xs,rfl,rfl,hH,h1,h2,hz,q0,q⟩:=h;cases rx;obtain⟨t,rfl⟩:=ry;obtain⟨its,r,pt,_⟩:=I.tuple hH;have hl:=r.length;obtain⟨⟨cls,dd,data,sl⟩,ho,hc,n,hd⟩:=id pt;simp only at hc hd;subst hc hd;have hnew:foldl (λx1 x2=>x1++x2) #[] (replicate k.toNat its.toArray)=(replicate k.toNat its).flatten.toArray:=by
  have:=WK its k.toNat [];rw[nil_append]at this;exact this
 have hlen:(replicate k.toNat its).flatten.length<=sizeLine:=by rw[QT,mul_comm,<- hl];exact hz
 have hzz:((its.toArray.size:Nat):Int)*k<=(sizeLine:Nat):=by
  rw[size_toArray,<- hl];by_cases hk:0<=k
  ·obtain⟨m,rfl⟩:=Int.eq_ofNat_of_zero_le hk
   have:xs.length*m<=sizeLine:=by simpa using hz
   exact_mod_cast this
  ·have:(xs.length:Int)*k<=0:=Int.mul_nonpos_of_nonneg_of_nonpos (Int.natCast_nonneg _) (by omega)
   omega
 refine wpAny_binaryOp_repeat_ref (T:="tuple") (U:="int") (by decide) ⟨_,ho,rfl⟩ (λs'=>typeIs_int s' k t) Zt F.fills_int_mul F.slot_int_rmul Gd F.slot_int_index.lookup
  (call_meets F.slot_int_rmul (typeIs_int s k t) F.entry_int_rmul (F.args_int_rmul_2 _ _) (vA k t l its.toArray n dd sl) ⟨ho,rfl,⟨_,ho,rfl⟩,?_⟩)
 refine vB pt h1 h2 hzz (λe=>⟨.ref l,H,I,rfl,q0 ?_⟩) (λe=>?_) ?_ ?_
 ·rcases e with e|e
  ·left
   have:its=[]:=by simpa using e
   exact r.nil_iff.mp this
  ·right;exact e
 ·have ek:k.toNat=0:=by omega
  have q':=q s.heap.objs.size I.fresh;rw[ek]at q';exact⟨.ref s.heap.objs.size,_,I.laid (t':=s.toks) (o:=.t []) (λb ob q=>qA _ q) (le_refl _) ⟨zero_le _,[],.nil,IsTup.new _ _⟩,rfl,q'⟩
 ·rw[hnew]
  exact⟨.ref s.heap.objs.size,_,I.laid (t':=s.toks) (o:=.t (replicate k.toNat xs).flatten) (λb ob q=>qA _ q) (le_refl _) ⟨by rw[QT,mul_comm];exact hz,_,r.rep k.toNat,IsTup.new _ _⟩,rfl,q _ I.fresh⟩
 ·rw[hnew]
  show(replicate k.toNat its).flatten.toArray.size<=sizeLine
  rw[size_toArray];exact hlen
end
end L2
namespace DV
open PySem L2
def cap:Nat:=1000000
def wu(h:n<=cap):n<=sizeLine:=le_trans h (by rw[sizeLine_eq];decide)
abbrev Kt(K:qH)(mg:Str->Option Value)(M:Addr->Prop)(H:Hp)(Z:Fz)(res:R)(Q:VK):Prop :=
 ∀v H',FR K mg M H' ((some v,res.slot)::Z)->Step M H Z H' ((some v,res.slot)::Z)->Q v H'
def ROk(K:qH)(mg:Str->Option Value)(rel:R2)(f:D->D->Option R):Prop :=
 ∀(M:Addr->Prop) (H:Hp) (Z:Fz) (x y:V) (d1 d2:D) (res:R) (Q:VK),FR K mg M H Z->Rep K mg (Hm (Mo M Z) H) d1 x->Rep K mg (Hm (Mo M Z) H) d2 y->f d1 d2=some res->Kt K mg M H Z res Q->rel x y H Q
def COk(K:qH)(mg:Str->Option Value)(rel:List V->Hp->VK->Prop)(f:List D->Option R):Prop :=
 ∀(M:Addr->Prop) (H:Hp) (Z:Fz) (xs:List V) (ds:List D) (res:R) (Q:VK),FR K mg M H Z->Reps K mg (Hm (Mo M Z) H) ds xs->f ds=some res->Kt K mg M H Z res Q->rel xs H Q
section
variable{X:Cx}{K:qH}{mg:Str->Option Value}{M:Addr->Prop}{H H':Hp}{Z:Fz}{Q:VK}{O:St}
theorem Kt.flat(k:Kt K mg M H Z (.v d) Q)(f:FR K mg M H Z)(h:flat d=true):Q (flV d) H:=k _ _ (f.add (zAX h)) Step.refl.add
def Kt.rep(k:Kt K mg M H Z (.v d) Q)(f:FR K mg M H Z)(h:Rep K mg (Hm (Mo M Z) H) d v):Q v H:=k _ _ (f.add h) Step.refl.add
theorem Kt.tup{ds:List D}{xs:List V}{p:Addr}(k:Kt K mg M H Z (.v (.t ds)) Q)(f:FR K mg M H Z)(hp:H p=none)(h:Reps K mg (Hm (Mo M Z) H) ds xs):Q (.ref p) (upd H p (.t xs)):=k _ _ (f.newTup hp h) (Step.newVal hp)
theorem Kt.own(k:Kt K mg M H Z (.own ds) Q)(f:FR K mg M H Z)(hp:H p=none)(h:Reps K mg (Hm (Mo M Z) H) ds xs):Q (.ref p) (upd H p (.l xs)):=k _ _ (f.newOwn hp h) (Step.newOwn f hp)
def WN(f:D->D->Option R)(a b:ME):ME:=λE=>match a E with
 | .z=>.z| .exc x E1=>.exc x E1
 | .ok (r1,E1)=>match b E1 with
  | .z=>.z| .exc x E2=>.exc x E2
  | .ok (r2,E2)=>match f r1.d r2.d with
   |some r=>.ok (r,E2)|none=>.z
def uO{f:D->D->Option R}(hr:ROk X.K X.mg rel f)(h:tM X (WN f a b) O H Q):tOp rel (tM X a) (tM X b) O H Q:=by
 obtain⟨M,E,hl,fr,k⟩:=h;unfold WN at k;refine zk (T0:=[]) hl fr ?_;cases ea:a E with
 |z=>rw[ea]at k;exact k|exc x E1=>rw[ea]at k;exact λH' g=>k H' g
 |ok p =>
  obtain⟨r1,E1⟩:=p;rw[ea]at k;intro x H1 g1;refine zk (T0:=[(some x,r1.slot)]) g1.len g1.fr ?_;dsimp only at k;cases eb:b E1 with
  |z=>rw[eb]at k;exact k|exc x E2=>rw[eb]at k;exact λH' g=>k H' (g1.trans' g).dropAll
  |ok p =>
   obtain⟨r2,E2⟩:=p;rw[eb]at k;intro y H2 g2;have g:=g1.trans' g2;have rp:=Got.reps (vs:=[y,x]) (rs:=[r2,r1]) rfl g;simp only[List.map,Reps]at rp;obtain⟨y',_,e1,ry,x',_,e2,rx,_⟩:=rp;cases e1;cases e2;dsimp only at k;cases ef:f r1.d r2.d with
   |none=>rw[ef]at k;exact k.elim
   |some r =>
    rw[ef]at k;exact hr M H2 _ x y r1.d r2.d r Q g.frame rx ry ef λv H' f' s'=>k v H' (g.more (T:=[(some v,r.slot)]) f' s')
def zBV{f:D->D->Option R}(ho:OpR X (binaryOp op) rel)(hr:ROk X.K X.mg rel f)(ha:EOk X a ma)(hb:EOk X b mb):EOk X (.BinOp a op b pos) (WN f ma mb) :=
 zu (pe_op ho ha hb) λO H Q h=>uO hr h
def WO{f:D->D->Option R}(ho:OpR X (compareOp op) rel)(hr:ROk X.K X.mg rel f)(hm:behindInMarks op b=false)(ha:EOk X a ma)(hb:EOk X b mb):EOk X (.Compare a [op] [b] pos) (WN f ma mb) :=
 zu (pe_cmpR ho ha hb hm) λO H Q h=>uO hr h
def ok_ix{f:D->D->Option R}(ho:IxR X rel)(hr:ROk X.K X.mg rel f)(hs:WJ b)(ha:EOk X a ma)(hb:EOk X b mb):EOk X (.Subscript a b pos) (WN f ma mb) :=
 zu (pe_ix ho ha hb hs) λO H Q h=>uO hr h
def tT(m:ME):MT:=λE=>match m E with
 | .z=>.z| .exc x E1=>.exc x E1| .ok (.v (.bl b),E1)=>.ok (b,E1)|_=>.z
def zCV{Q:Bool->Hp->Prop}(h:tMT X (tT m) O H Q):tM X m O H λx H'=>∃k,x=.bl k/\Q k H':=by
 obtain⟨M,E,hl,fr,k⟩:=h;refine⟨M,E,hl,fr,?_⟩;unfold tT at k;cases e:m E with
 |z=>rw[e]at k;exact k|exc x E1=>rw[e]at k;exact k
 |ok p =>
  obtain⟨r,E1⟩:=p;rw[e]at k;cases r with
  |own ds=>exact k.elim|dct _ _=>exact k.elim
  |v d =>
   cases d with
   |bl b =>
    intro v H' g;have rp:=g.rep;simp only[R.d,Rep]at rp;exact⟨b,rp,k H' g.dropAll⟩
   |_=>exact k.elim
def ok_test(h:EOk X e m)(he:∀whole,isTrue e X.env whole=(do let v <- whole;standAt e.pos;holding [v] (truthy v)):=by intro _;rfl):TOk X e (tT m) :=
 zAW (pt_val h he) λO H Q q=>zCV q
def Jz{f:D->D->Option R}(ho:OpR X (compareOp op) rel)(hr:ROk X.K X.mg rel f)(hm:behindInMarks op b=false)(ha:EOk X a ma)(hb:EOk X b mb):TOk X (.Compare a [op] [b] pos) (tT (WN f ma mb)) :=
 zAW (pt_cmpR ho ha hb hm) λO H Q h=>uO hr (zCV h)
def Zv(a b:MT):MT:=λE=>match a E with
 | .ok (true,E1)=>b E1|o=>o
def zBk(a b:MT):MT:=λE=>match a E with
 | .ok (false,E1)=>b E1|o=>o
def WP(a:MT):MT:=λE=>match a E with
 | .z=>.z| .exc x E1=>.exc x E1| .ok (b,E1)=>.ok (!b,E1)
def and_run{Q:Bool->Hp->Prop}(h:tMT X (Zv a b) O H Q):tAnd (tMT X a) (tMT X b) O H Q:=by
 obtain⟨M,E,hl,fr,k⟩:=h;unfold Zv at k;refine JD (T0:=[]) hl fr ?_;cases ea:a E with
 |z=>rw[ea]at k;exact k|exc x E1=>rw[ea]at k;exact k
 |ok p =>
  obtain⟨c,E1⟩:=p;rw[ea]at k;intro H1 g1;cases c with
  |false=>exact zFv (k H1 g1)
  |true =>
   refine zFw ?_;refine JD (T0:=[]) g1.len g1.fr ?_;dsimp only at k;cases eb:b E1 with
   |z=>rw[eb]at k;exact k|exc x E2=>rw[eb]at k;exact λH' g=>k H' (g1.trans' g)|ok p=>rw[eb]at k;exact λH' g=>k H' (g1.trans' g)
def or_run{Q:Bool->Hp->Prop}(h:tMT X (zBk a b) O H Q):tOr (tMT X a) (tMT X b) O H Q:=by
 obtain⟨M,E,hl,fr,k⟩:=h;unfold zBk at k;refine JD (T0:=[]) hl fr ?_;cases ea:a E with
 |z=>rw[ea]at k;exact k|exc x E1=>rw[ea]at k;exact k
 |ok p =>
  obtain⟨c,E1⟩:=p;rw[ea]at k;intro H1 g1;cases c with
  |true=>exact zFw (k H1 g1)
  |false =>
   refine zFv ?_;refine JD (T0:=[]) g1.len g1.fr ?_;dsimp only at k;cases eb:b E1 with
   |z=>rw[eb]at k;exact k|exc x E2=>rw[eb]at k;exact λH' g=>k H' (g1.trans' g)|ok p=>rw[eb]at k;exact λH' g=>k H' (g1.trans' g)
def not_run{Q:Bool->Hp->Prop}(h:tMT X (WP a) O H Q):tNot (tMT X a) O H Q:=by
 obtain⟨M,E,hl,fr,k⟩:=h;unfold WP at k;refine JD (T0:=[]) hl fr ?_;cases ea:a E with
 |z=>rw[ea]at k;exact k|exc x E1=>rw[ea]at k;exact k|ok p=>rw[ea]at k;exact k
abbrev WOk(X:Cx)(e:Expr)(m:MT):Prop:=PW X e (tMT X m)
def wk_and1(h:TOk X a m):WOk X (.BoolOp .And [a] pos) m:=pw_and1 h
def wk_or1(h:TOk X a m):WOk X (.BoolOp .Or [a] pos) m:=pw_or1 h
def zF4{a b:Expr}{ZV:List Expr}{ma mb:MT}{pos:Pos}(ha:TOk X a ma)(hb:WOk X (.BoolOp .And (b::ZV) pos) mb):WOk X (.BoolOp .And (a::b::ZV) pos) (Zv ma mb):=zF1 (pw_and ha hb) λO H Q=>and_run
def wk_or{a b:Expr}{ZV:List Expr}{ma mb:MT}{pos:Pos}(ha:TOk X a ma)(hb:WOk X (.BoolOp .Or (b::ZV) pos) mb):WOk X (.BoolOp .Or (a::b::ZV) pos) (zBk ma mb):=zF1 (pw_or ha hb) λO H Q=>or_run
def tk_w(h:WOk X e m):TOk X e m:=h.pt
def tk_not(h:TOk X a m):TOk X (.UnaryOp .Not a pos) (WP m):=zAW (pt_not h) λO H Q=>not_run
def zEW(a:ME):ME:=λE=>match a E with
 | .ok (.v (.bl b),E1)=>.ok (.v (.bl (!b)),E1)| .exc x E1=>.exc x E1|_=>.z
def zBl(a b:ME):ME:=λE=>match a E with
 | .ok (.v (.bl true),E1)=>b E1| .ok (.v (.bl false),E1)=>.ok (.v (.bl false),E1)| .exc x E1=>.exc x E1|_=>.z
def eOr(a b:ME):ME:=λE=>match a E with
 | .ok (.v (.bl false),E1)=>b E1| .ok (.v (.bl true),E1)=>.ok (.v (.bl true),E1)| .exc x E1=>.exc x E1|_=>.z
def zEX(h:tM X (zEW a) O H Q):tNotV (tM X a) O H Q:=by
 obtain⟨M,E,hl,fr,k⟩:=h;unfold zEW at k;refine zk (T0:=[]) hl fr ?_;cases ea:a E with
 |z=>rw[ea]at k;exact k|exc x E1=>rw[ea]at k;exact k
 |ok p =>
  obtain⟨r,E1⟩:=p;rw[ea]at k;cases r with
  |own ds=>exact k.elim|dct _ _=>exact k.elim
  |v d =>
   cases d with
   |bl b =>
    intro v H' g;have rp:=g.rep;simp only[R.d,Rep]at rp;exact⟨b,rp,k _ H' (g.flat (d:=.bl (!b)) rfl)⟩
   |_=>exact k.elim
def zEY(h:tM X (zBl a b) O H Q):tAndV (tM X a) (tM X b) O H Q:=by
 obtain⟨M,E,hl,fr,k⟩:=h;unfold zBl at k;refine zk (T0:=[]) hl fr ?_;cases ea:a E with
 |z=>rw[ea]at k;exact k|exc x E1=>rw[ea]at k;exact k
 |ok p =>
  obtain⟨r,E1⟩:=p;rw[ea]at k;cases r with
  |own ds=>exact k.elim|dct _ _=>exact k.elim
  |v d =>
   cases d with
   |bl c =>
    intro v H' g;have rp:=g.rep;simp only[R.d,Rep]at rp;refine⟨c,rp,?_⟩;cases c with
    |false=>exact zFv (k _ H' (g.flat (d:=.bl false) rfl))
    |true =>
     refine zFw (zk (T0:=[]) g.len g.frame ?_);dsimp only at k;cases eb:b E1 with
     |z=>rw[eb]at k;exact k|exc x E2=>rw[eb]at k;exact λH'' g'=>k H'' (g.dropAll.trans' g')|ok p=>rw[eb]at k;exact λv'' H'' g'=>k v'' H'' (g.dropAll.trans' g')
   |_=>exact k.elim
def ok_not(h:EOk X a m):EOk X (.UnaryOp .Not a pos) (zEW m):=zu (pe_not h) λO H Q=>zEX
def zF5{a b:Expr}{ZV:List Expr}{ma mb:ME}{pos:Pos}(ha:EOk X a ma)(hb:EOk X (.BoolOp .And (b::ZV) pos) mb):EOk X (.BoolOp .And (a::b::ZV) pos) (zBl ma mb):=zu (pe_and ha hb) λO H Q=>zEY
def ok_one(h:EOk X a m):EOk X (.BoolOp op [a] pos) m:=pe_one h
def eIf(c:MT)(a b:ME):ME:=λE=>match c E with
 | .ok (true,E1)=>a E1| .ok (false,E1)=>b E1| .exc x E1=>.exc x E1| .z=>.z
def if_run(h:tM X (eIf c a b) O H Q):tIf (tMT X c) (tM X a) (tM X b) O H Q:=by
 obtain⟨M,E,hl,fr,k⟩:=h;unfold eIf at k;refine JD (T0:=[]) hl fr ?_;cases ea:c E with
 |z=>rw[ea]at k;exact k|exc x E1=>rw[ea]at k;exact k
 |ok p =>
  obtain⟨t,E1⟩:=p;rw[ea]at k;intro H1 g1;cases t with
  |true =>
   refine zFw (zk (T0:=[]) g1.len g1.fr ?_);dsimp only at k;cases eb:a E1 with
   |z=>rw[eb]at k;exact k|exc x E2=>rw[eb]at k;exact λH' g=>k H' (g1.trans' g)|ok p=>rw[eb]at k;exact λv H' g=>k v H' (g1.trans' g)
  |false =>
   refine zFv (zk (T0:=[]) g1.len g1.fr ?_);dsimp only at k;cases eb:b E1 with
   |z=>rw[eb]at k;exact k|exc x E2=>rw[eb]at k;exact λH' g=>k H' (g1.trans' g)|ok p=>rw[eb]at k;exact λv H' g=>k v H' (g1.trans' g)
def ok_if(hc:TOk X c mc)(ha:EOk X a ma)(hb:EOk X b mb):EOk X (.IfExp c a b pos) (eIf mc ma mb):=zu (zEA hc ha hb) λO H Q=>if_run
def zEZ:MA:=λE=>.ok ([],E)
def WQ(a:ME)(m:MA):MA:=λE=>match a E with
 | .z=>.z| .exc x E1=>.exc x E1
 | .ok (r,E1)=>match m E1 with
  | .z=>.z| .exc x E2=>.exc x E2| .ok (rs,E2)=>.ok (r::rs,E2)
def ak_nil:AOk X [] zEZ:=Ga GP λO H Q ⟨M,E,hl,fr,k⟩=>k [] H rfl (Got.refl (T0:=[]) hl fr)
theorem Got.perm{mg:Str->Option Value}{M:Addr->Prop}(a:Got K mg M O E H T0 O1 E1 H1 T)(p:T.Perm T'):Got K mg M O E H T0 O1 E1 H1 T' where
 len:=a.len
 fr:=a.fr.perm (p.append_right _)
 st:=a.st.weak (zD (p.append_right _).symm)
 pk:=a.pk
def zEa{Q:List V->Hp->Prop}(h:tMA X (WQ a m) O H Q):zEJ (tM X a) (tMA X m) O H Q:=by
 obtain⟨M,E,hl,fr,k⟩:=h;unfold WQ at k;refine zk (T0:=[]) hl fr ?_;cases ea:a E with
 |z=>rw[ea]at k;exact k|exc x E1=>rw[ea]at k;exact k
 |ok p =>
  obtain⟨r1,E1⟩:=p;rw[ea]at k;intro x H1 g1;refine JE (T0:=[(some x,r1.slot)]) g1.len g1.fr ?_;dsimp only at k;cases eb:m E1 with
  |z=>rw[eb]at k;exact k|exc x E2=>rw[eb]at k;exact λH' g=>k H' (g1.trans' g).dropAll
  |ok p =>
   obtain⟨rs,E2⟩:=p;rw[eb]at k;intro vs H2 hv g2;refine k (x::vs) H2 (by simp[hv]) ?_;rw[vh];exact(g1.trans' g2).perm (perm_append_comm)
def ak_cons(ha:EOk X e a)(hm:AOk X es m)(hs:zX e=false:=by rfl):AOk X (e::es) (WQ a m):=Ga (Jw ha hm (zf hs)) λO H Q=>zEa
def eCB(f:List D->Option R)(m:MA):ME:=λE=>match m E with
 | .z=>.z| .exc x E1=>.exc x E1
 | .ok (rs,E1)=>match f (rs.map R.d)with
  |some r=>.ok (r,E1)|none=>.z
def Ge{rel:List V->Hp->VK->Prop}{f:List D->Option R}(hr:COk X.K X.mg rel f)(h:tM X (eCB f m) O H Q):tCB rel (tMA X m) O H Q:=by
 obtain⟨M,E,hl,fr,k⟩:=h;unfold eCB at k;refine JE (T0:=[]) hl fr ?_;cases ea:m E with
 |z=>rw[ea]at k;exact k|exc x E1=>rw[ea]at k;exact k
 |ok p =>
  obtain⟨rs,E1⟩:=p;rw[ea]at k;intro vs H1 hv g;have rp:=Got.reps hv g;dsimp only at k;cases ef:f (rs.map R.d)with
  |none=>rw[ef]at k;exact k.elim
  |some r =>
   rw[ef]at k;exact hr M H1 _ vs _ r Q g.frame rp ef λv H' f' s'=>k v H' (g.more (T:=[(some v,r.slot)]) f' s')
def zEb(m:MA):ME:=eCB (λds=>if ds.length<=cap then some (.v (.t ds))else none) m
def zEc(m:MA):ME:=eCB (λds=>if ds.length<=cap then some (.own ds)else none) m
def ok_tup(h:AOk X es m):EOk X (.Tuple es x1 pos) (zEb m) :=
 zu (pe_tup h) λO H Q q=>Ge (rel:=λxs H1 Q=>xs.length<=sizeLine/\∀p,H1 p=none->Q (.ref p) (upd H1 p (.t xs))) (λM H Z xs ds res Q f r e k=>by
  split at e
  ·rename_i hc
   cases e;exact⟨by rw[r.length];exact wu hc,λp hp=>k.tup f hp r⟩
  ·cases e) q
def ok_lst(h:AOk X es m):EOk X (.List es pos) (zEc m) :=
 zu (pe_lst h) λO H Q q=>Ge (rel:=λxs H1 Q=>xs.length<=sizeLine/\∀p,H1 p=none->Q (.ref p) (upd H1 p (.l xs))) (λM H Z xs ds res Q f r e k=>by
  split at e
  ·rename_i hc
   cases e;exact⟨by rw[r.length];exact wu hc,λp hp=>k.own f hp r⟩
  ·cases e) q
def Jc{f:List D->Option R}{m:MA}{rel:List V->Hp->VK->Prop}{id:String}{x:Str}{p pos:Pos}{e:Expr}{es:List Expr}(hc:wy X (.builtin id) rel)(hr:COk X.K X.mg rel f)(hg:Gl X x)(hm:X.mg x=none)(hv:bootBuiltins x=some (.builtin id))(ha:AOk X (e::es) m)(hn:x≠"__name__":=by decide)(hdb:(x==("__debug__":Str))=false:=by decide)
  (he:zX e=false:=by rfl) (hpl:jk es=true:=by rfl):EOk X (.Call (.Name x p) (e::es) [] pos) (eCB f m) :=
 zu (zAS hc hg hm hv ha hn hdb (zf he) (YO hpl)) λO H Q q=>Ge hr q
def WR{f:List D->Option R}{rel:List V->Hp->VK->Prop}(hc:wy X (.type T) rel)(hr:COk X.K X.mg rel f)(hg:Gl X x)(hm:X.mg x=none)(hv:bootBuiltins x=some (.type T))(ha:AOk X (e::es) m)(hn:x≠"__name__":=by decide)(hdb:(x==("__debug__":Str))=false:=by decide)
  (he:zX e=false:=by rfl) (hpl:jk es=true:=by rfl):EOk X (.Call (.Name x p) (e::es) [] pos) (eCB f m) :=
 zu (zCC hc hg hm hv ha hn hdb (zf he) (YO hpl)) λO H Q q=>Ge hr q
end
section
variable{X:Cx}{K:qH}{mg:Str->Option Value}
def zR(h:Rep K mg H (.int i) v):v=.int i:=by simpa only[Rep]using h
def ZZ(h:Rep K mg H (.bl i) v):v=.bl i:=by simpa only[Rep]using h
def Yz(h:Rep K mg H (.str i) v):v=.str i:=by simpa only[Rep]using h
def Qa(h:Rep K mg H .non v):v=.non:=by simpa only[Rep]using h
def yY(h:Rep K mg H (.t ds) v):∃a xs,v=.ref a/\SqT K H a xs/\Reps K mg H ds xs:=by simpa only[Rep]using h
def yJ(h:Rep K mg H (.l ds) v):∃a xs,v=.ref a/\SqL K H a xs/\Reps K mg H ds xs:=by simpa only[Rep]using h
def Qb(hf:flat d=true)(h:Rep K mg H d v):v=flV d:=by
 cases d<;>simp[flat]at hf<;>simpa only[Rep,flV]using h
def QN:D->D->Option R
 | .int i,.int j=>some (.v (.int (i+j)))| .t a,.t b=>if a.length+b.length<=cap then some (.v (.t (a++b)))else none| .l a,.l b=>if a.length+b.length<=cap then some (.own (a++b))else none|_,_=>none
def rAddD(K:qH):R2:=λx y H Q=>rI0 (λi j=>.int (i+j)) x y H Q\/(zF3 K x y H Q\/rCatL K x y H Q)
def op_addD:OpR X (binaryOp .Add) (rAddD X.K):=op_add.or (zEU.or op_catL)
def ro_add:ROk K mg (rAddD K) QN:=by
 intro M H Z x y d1 d2 res Q f r1 r2 e k;cases d1 with
 |int i =>
  cases d2 with
  |int j =>
   cases e;exact .inl ⟨i,j,zR r1,zR r2,k.flat f rfl⟩
  |_=>cases e
 |t a =>
  cases d2 with
  |t b =>
   simp only[QN]at e;split at e
   ·rename_i hc
    cases e;obtain⟨p,xs,rfl,h1,h2⟩:=yY r1;obtain⟨q,ys,rfl,h3,h4⟩:=yY r2;have l1:=h2.length;have l2:=h4.length;refine .inr (.inl ⟨p,q,xs,ys,rfl,rfl,zS zH h1,zS zH h3,by rw[l1,l2];exact wu hc,λe=>?_,λ_ e=>?_,λ_ _ p' hp=>k.tup f hp (h2.append h4)⟩)
    ·subst e
     have:a=[]:=by simpa using l1.symm
     subst this;exact k.rep f (by simpa using r2)
    ·subst e
     have:b=[]:=by simpa using l2.symm
     subst this;exact k.rep f (by simpa using r1)
   ·cases e
  |_=>cases e
 |l a =>
  cases d2 with
  |l b =>
   simp only[QN]at e;split at e
   ·rename_i hc
    cases e;obtain⟨p,xs,rfl,h1,h2⟩:=yJ r1;obtain⟨q,ys,rfl,h3,h4⟩:=yJ r2;have l1:=h2.length;have l2:=h4.length;exact .inr (.inr ⟨p,q,xs,ys,rfl,rfl,zH.seq h1,zH.seq h3,by rw[l1,l2];exact wu hc,λp' hp=>k.own f hp (h2.append h4)⟩)
   ·cases e
  |_=>cases e
 |_=>cases e
def zCW(C:Int->Int->Bool)(g:Int->Int->D):D->D->Option R
 | .int i,.int j=>if C i j=true then some (.v (g i j))else none|_,_=>none
def zCX{C:Int->Int->Bool}{P:Int->Int->Prop}{g:Int->Int->D}{gv:Int->Int->V}(hC:∀i j,C i j=true->P i j)(hg:∀i j,flat (g i j)=true/\flV (g i j)=gv i j):ROk K mg (rI P gv) (zCW C g):=by
 intro M H Z x y d1 d2 res Q f r1 r2 e k;cases d1 with
 |int i =>
  cases d2 with
  |int j =>
   simp only[zCW]at e;split at e
   ·rename_i hc
    cases e;refine⟨i,j,zR r1,zR r2,hC i j hc,?_⟩;have:=k.flat f (hg i j).1;rw[(hg i j).2]at this;exact this
   ·cases e
  |_=>cases e
 |_=>cases e
def zCY(g:Int->Int->D):D->D->Option R
 | .int i,.int j=>some (.v (g i j))|_,_=>none
def WS{g:Int->Int->D}{gv:Int->Int->V}(hg:∀i j,flat (g i j)=true/\flV (g i j)=gv i j):ROk K mg (rI0 gv) (zCY g):=by
 intro M H Z x y d1 d2 res Q f r1 r2 e k;cases d1 with
 |int i =>
  cases d2 with
  |int j =>
   cases e;refine⟨i,j,zR r1,zR r2,?_⟩;have:=k.flat f (hg i j).1;rw[(hg i j).2]at this;exact this
  |_=>cases e
 |_=>cases e
abbrev subD:=zCY λi j=>.int (i-j)
def ro_sub:ROk K mg (rI0 λi j=>.int (i-j)) subD:=WS λ_ _=>⟨rfl,rfl⟩
def Big:Nat:=2^4000
def zCZ(h:n<Big):n.log2<4000:=by
 by_cases h0:n=0
 ·subst h0;decide +kernel
 ·exact(Nat.log2_lt h0).mpr h
def zAY(h:i.natAbs<Big):Builtin.Int.intBits i<=4000:=by
 unfold Builtin.Int.intBits;split
 ·exact zero_le _
 ·exact zCZ h
def big_mul(h1:i.natAbs<Big)(h2:j.natAbs<Big):IntMulOk i j:=by
 have b1:=zAY h1;have b2:=zAY h2;unfold IntMulOk;have:Builtin.Int.intTooBig (((Builtin.Int.intBits i:Nat):Int)+(Builtin.Int.intBits j:Nat))=false:=by
  unfold Builtin.Int.intTooBig bitsLine;simp only[decide_eq_false_iff_not];have:(2^27:Nat)=134217728:=by decide
  omega
 rw[this,Bool.and_false];decide
def CDivB(i j:Int):Prop:=0<j/\(j<1073741824\/j.natAbs<Big)
def zEd:OpR X (binaryOp .FloorDiv) (rI CDivB λi j=>.int (i/j)):=opI λi j _ _ _ _ _ hc q=>by
 have h1:(0:Int)<j:=hc.1;refine PyProof.Rows.floordiv_int (by omega) (by rw[Int.fdiv_eq_ediv_of_nonneg i (by omega)];exact q) (.inl ?_);rcases hc.2 with h|h
 ·exact PyProof.noPylong_small (by omega)
 ·exact PyProof.noPylong_of_log2 (lt_of_lt_of_le (zCZ h) (by decide))
def CMulB(i j:Int):Prop:=CMul i j\/(i.natAbs<Big/\j.natAbs<Big)
def op_mulB:OpR X (binaryOp .Mult) (rI CMulB λi j=>.int (i*j)):=opI λ_ _ _ _ _ _ _ hc q=>PyProof.Rows.mul_int q (by
 rcases hc with h|h
 ·exact h.ok
 ·exact big_mul h.1 h.2)
abbrev zBW:=zCW (λ_ j=>decide (0<j/\(j<1073741824\/j.natAbs<Big))) λi j=>.int (i/j)
def ro_fdiv:ROk K mg (rI CDivB λi j=>.int (i/j)) zBW:=zCX (λi j h=>(of_decide_eq_true h:0<j/\(j<1073741824\/j.natAbs<Big))) λ_ _=>⟨rfl,rfl⟩
abbrev zF6:=zCW (λ_ j=>decide (0<j)) λi j=>.int (i%j)
def ro_mod:ROk K mg (rI (λ_ j=>0<j) λi j=>.int (i%j)) zF6:=zCX (λi j h=>of_decide_eq_true h) λ_ _=>⟨rfl,rfl⟩
abbrev powD:=zCW (λi j=>decide (0<=j/\j<=1000000/\i.natAbs<2^64)) λi j=>.int (i^j.toNat)
def ro_pow:ROk K mg (rI CPow λi j=>.int (i^j.toNat)) powD:=zCX (λi j h=>(of_decide_eq_true h:0<=j/\j<=1000000/\i.natAbs<2^64)) λ_ _=>⟨rfl,rfl⟩
def QO:D->D->Option R
 | .int i,.int j=>if((-(2^64)<i/\i<2^64)\/(-(2^64)<j/\j<2^64))\/(i.natAbs<Big/\j.natAbs<Big)then some (.v (.int (i*j)))else none| .t a,.int k=>if -(2^63)<=k/\k<2^63/\a.length*k.toNat<=cap then some (.v (.t (replicate k.toNat a).flatten))else none|_,_=>none
def rMulD(K:qH):R2:=λx y H Q=>rI CMulB (λi j=>.int (i*j)) x y H Q\/rRepT K x y H Q
def op_mulD:OpR X (binaryOp .Mult) (rMulD X.K):=op_mulB.or op_repT
def ro_mul:ROk K mg (rMulD K) QO:=by
 intro M H Z x y d1 d2 res Q f r1 r2 e k;cases d1 with
 |int i =>
  cases d2 with
  |int j =>
   simp only[QO]at e;split at e
   ·rename_i hc
    cases e;exact .inl ⟨i,j,zR r1,zR r2,hc,k.flat f rfl⟩
   ·cases e
  |_=>cases e
 |t a =>
  cases d2 with
  |int n =>
   simp only[QO]at e;split at e
   ·rename_i hc
    cases e;obtain⟨p,xs,rfl,h1,h2⟩:=yY r1;have l1:=h2.length;refine .inr ⟨p,n,xs,rfl,zR r2,zS zH h1,hc.1,hc.2.1,by rw[l1];exact wu hc.2.2,λe=>?_,λp' hp=>k.tup f hp (h2.flatten _)⟩;refine k.rep f ?_;rcases e with e|e
    ·subst e
     have:a=[]:=by simpa using l1.symm
     subst this;simpa using r1
    ·subst e
     simpa using r1
   ·cases e
  |_=>cases e
 |_=>cases e
abbrev ltD:=zCY λi j=>.bl (decide (i<j))
def ro_lt:ROk K mg (rI0 λi j=>.bl (decide (i<j))) ltD:=WS λ_ _=>⟨rfl,rfl⟩
abbrev leD:=zCY λi j=>.bl (decide (i<=j))
def ro_le:ROk K mg (rI0 λi j=>.bl (decide (i<=j))) leD:=WS λ_ _=>⟨rfl,rfl⟩
abbrev gtD:=zCY λi j=>.bl (decide (j<i))
def ro_gt:ROk K mg (rI0 λi j=>.bl (decide (j<i))) gtD:=WS λ_ _=>⟨rfl,rfl⟩
abbrev geD:=zCY λi j=>.bl (decide (j<=i))
def ro_ge:ROk K mg (rI0 λi j=>.bl (decide (j<=i))) geD:=WS λ_ _=>⟨rfl,rfl⟩
def eqF:D->D->Option R
 | .int i,.int j=>some (.v (.bl (decide (i=j))))| .bl i,.bl j=>some (.v (.bl (decide (i=j))))| .str i,.str j=>some (.v (.bl (decide (i=j))))|_,_=>none
def neF:D->D->Option R
 | .int i,.int j=>some (.v (.bl (!decide (i=j))))| .bl i,.bl j=>some (.v (.bl (!decide (i=j))))| .str i,.str j=>some (.v (.bl (!decide (i=j))))|_,_=>none
def vint:decide (V.int i=V.int j)=decide (i=j):=by simp
def vbl:decide (V.bl i=V.bl j)=decide (i=j):=by simp
def vstr:decide (V.str i=V.str j)=decide (i=j):=by simp
def ro_eq:ROk K mg rEq eqF:=by
 intro M H Z x y d1 d2 res Q f r1 r2 e k;cases d1<;>cases d2<;>cases e
 ·rw[ZZ r1,ZZ r2];refine⟨rfl,?_⟩;rw[vbl];exact k.flat f rfl
 ·rw[zR r1,zR r2];refine⟨rfl,?_⟩;rw[vint];exact k.flat f rfl
 ·rw[Yz r1,Yz r2];refine⟨rfl,?_⟩;rw[vstr];exact k.flat f rfl
def ro_ne:ROk K mg rNe neF:=by
 intro M H Z x y d1 d2 res Q f r1 r2 e k;cases d1<;>cases d2<;>cases e
 ·rw[ZZ r1,ZZ r2];refine⟨rfl,?_⟩;rw[vbl];exact k.flat f rfl
 ·rw[zR r1,zR r2];refine⟨rfl,?_⟩;rw[vint];exact k.flat f rfl
 ·rw[Yz r1,Yz r2];refine⟨rfl,?_⟩;rw[vstr];exact k.flat f rfl
def inF(neg:Bool)(d:D):D->Option R
 | .t ds=>if flat d=true/\ds.all flat=true then some (.v (.bl (if neg then !inV (flV d) (ds.map flV)else inV (flV d) (ds.map flV))))else none| .l ds=>if flat d=true/\ds.all flat=true then some (.v (.bl (if neg then !inV (flV d) (ds.map flV)else inV (flV d) (ds.map flV))))else none|_=>none
theorem WT:∀{ds:List D} {xs:List V},ds.all flat=true->Reps K mg H ds xs->xs=ds.map flV
 | [],_,_,h=>by simp only[Reps]at h;subst h;rfl
 |d::ds,_,hf,h=>by
  simp only[Reps]at h;obtain⟨v,r,rfl,h1,h2⟩:=h;simp only[all_cons,Bool.and_eq_true]at hf;rw[Qb hf.1 h1,WT hf.2 h2];rfl
def WU(h:flat d=true):W8 (flV d)=true:=by cases d<;>simp[flat]at h<;>rfl
theorem WV:∀{ds:List D},ds.all flat=true->(ds.map flV).all W8=true
 | [],_=>rfl
 |d::ds,h=>by
  simp only[all_cons,Bool.and_eq_true]at h;simp only[map_cons,all_cons,Bool.and_eq_true];exact⟨WU h.1,WV h.2⟩
def ro_in:ROk K mg (rIn K neg) (inF neg):=by
 intro M H Z x y d1 d2 res Q f r1 r2 e k;cases d2 with
 |t ds =>
  simp only[inF]at e;split at e
  ·rename_i hc
   cases e;obtain⟨p,xs,rfl,h1,h2⟩:=yY r2;rw[Qb hc.1 r1];have:=WT hc.2 h2;subst this;exact⟨p,_,rfl,.inr (zS zH h1),WU hc.1,WV hc.2,k.flat f rfl⟩
  ·cases e
 |l ds =>
  simp only[inF]at e;split at e
  ·rename_i hc
   cases e;obtain⟨p,xs,rfl,h1,h2⟩:=yJ r2;rw[Qb hc.1 r1];have:=WT hc.2 h2;subst this;exact⟨p,_,rfl,.inl (zH.seq h1),WU hc.1,WV hc.2,k.flat f rfl⟩
  ·cases e
 |_=>cases e
def ixD:D->D->Option R
 | .t ds,.int i=>(atI ds i).map .v| .l ds,.int i=>(atI ds i).map .v|_,_=>none
def Z3(h:Reps K mg H ds xs)(e:atI ds i=some d):∃v,atI xs i=some v/\Rep K mg H d v:=by
 unfold atI at e ⊢;have hl:=h.length;rw[hl];cases hj:ixN ds.length i with
 |none=>rw[hj]at e;cases e
 |some j =>
  rw[hj]at e;exact h.get' e
def ro_ix:ROk K mg (λx y H Q=>rIxL K x y H Q\/rIxT K x y H Q) ixD:=by
 intro M H Z x y d1 d2 res Q f r1 r2 e k;cases d1 with
 |t ds =>
  cases d2 with
  |int i =>
   simp only[ixD]at e;cases ea:atI ds i with
   |none=>rw[ea]at e;cases e
   |some d =>
    rw[ea]at e;cases e;obtain⟨p,xs,rfl,h1,h2⟩:=yY r1;obtain⟨v,e1,e2⟩:=Z3 h2 ea;exact .inr ⟨p,xs,i,v,rfl,zR r2,zS zH h1,e1,k.rep f e2⟩
  |_=>cases e
 |l ds =>
  cases d2 with
  |int i =>
   simp only[ixD]at e;cases ea:atI ds i with
   |none=>rw[ea]at e;cases e
   |some d =>
    rw[ea]at e;cases e;obtain⟨p,xs,rfl,h1,h2⟩:=yJ r1;obtain⟨v,e1,e2⟩:=Z3 h2 ea;exact .inl ⟨p,xs,i,v,rfl,zR r2,zH.seq h1,e1,k.rep f e2⟩
  |_=>cases e
 |_=>cases e
def ix_both:IxR X (λx y H Q=>rIxL X.K x y H Q\/rIxT X.K x y H Q):=zCG.or ix_tup
def Gf:List D->Option R
 | [.t ds]=>some (.v (.int ds.length))| [.l ds]=>some (.v (.int ds.length))|_=>none
def J0(h:Reps K mg H [d] xs):∃v,xs=[v]/\Rep K mg H d v:=by
 simp only[Reps]at h;obtain⟨v,r,rfl,h1,rfl⟩:=h;exact⟨v,rfl,h1⟩
def zEe(h:Reps K mg H [d,e] xs):∃v w,xs=[v,w]/\Rep K mg H d v/\Rep K mg H e w:=by
 simp only[Reps]at h;obtain⟨v,r,rfl,h1,w,r',rfl,h2,rfl⟩:=h;exact⟨v,w,rfl,h1,h2⟩
def co_len:COk K mg (λxs H Q=>∃p ys,xs=[.ref p]/\(SqL K H p ys\/SqT K H p ys)/\Q (.int ys.length) H) Gf:=by
 intro M H Z xs ds res Q f r e k
 match ds,e with
 | [.t ds],e =>
  cases e;obtain⟨v,rfl,h⟩:=J0 r;obtain⟨p,ys,rfl,h1,h2⟩:=yY h;refine⟨p,ys,rfl,.inr (zS zH h1),?_⟩;rw[h2.length];exact k.flat f rfl
 | [.l ds],e =>
  cases e;obtain⟨v,rfl,h⟩:=J0 r;obtain⟨p,ys,rfl,h1,h2⟩:=yJ h;refine⟨p,ys,rfl,.inl (zH.seq h1),?_⟩;rw[h2.length];exact k.flat f rfl
def zEf:List D->Option R
 | [.int i,.int j]=>some (.v (.int (if j > i then j else i)))|_=>none
def co_max:COk K mg (λxs H Q=>∃i j,xs=[.int i,.int j]/\Q (.int (if j > i then j else i)) H) zEf:=by
 intro M H Z xs ds res Q f r e k
 match ds,e with
 | [.int i,.int j],e =>
  cases e;obtain⟨v,w,rfl,h1,h2⟩:=zEe r;exact⟨i,j,by rw[zR h1,zR h2],k.flat f rfl⟩
def intF:List D->Option R
 | [.int i]=>some (.v (.int i))| [.bl b]=>some (.v (.int (if b then 1 else 0)))|_=>none
def co_int:COk K mg (λxs H Q=>(∃i,xs=[.int i]/\Q (.int i) H)\/∃k,xs=[.bl k]/\Q (.int (if k then 1 else 0)) H) intF:=by
 intro M H Z xs ds res Q f r e k
 match ds,e with
 | [.int i],e =>
  cases e;obtain⟨v,rfl,h1⟩:=J0 r;exact .inl ⟨i,by rw[zR h1],k.flat f rfl⟩
 | [.bl b],e =>
  cases e;obtain⟨v,rfl,h1⟩:=J0 r;exact .inr ⟨b,by rw[ZZ h1],k.flat f rfl⟩
def zF7:List D->Option R
 | [.l ds]=>some (.v (.t ds))| [.t ds]=>some (.v (.t ds))|_=>none
def zEg:COk K mg (λxs H Q=>∃p ys,xs=[.ref p]/\((SqL K H p ys/\∀l,H l=none->Q (.ref l) (upd H l (.t ys)))\/(SqT K H p ys/\Q (.ref p) H))) zF7:=by
 intro M H Z xs ds res Q f r e k
 match ds,e with
 | [.l ds],e =>
  cases e;obtain⟨v,rfl,h⟩:=J0 r;obtain⟨p,ys,rfl,h1,h2⟩:=yJ h;exact⟨p,ys,rfl,.inl ⟨zH.seq h1,λl hl=>k.tup f hl h2⟩⟩
 | [.t ds],e =>
  cases e;obtain⟨v,rfl,h⟩:=J0 r;have h':=h;obtain⟨p,ys,rfl,h1,h2⟩:=yY h;exact⟨p,ys,rfl,.inr ⟨zS zH h1,k.rep f h'⟩⟩
def listD:List D->Option R
 | [.l ds]=>some (.own ds)| [.t ds]=>some (.own ds)|_=>none
def co_list:COk K mg (λxs H Q=>∃p ys,xs=[.ref p]/\(SqL K H p ys\/SqT K H p ys)/\∀l,H l=none->Q (.ref l) (upd H l (.l ys))) listD:=by
 intro M H Z xs ds res Q f r e k
 match ds,e with
 | [.l ds],e =>
  cases e;obtain⟨v,rfl,h⟩:=J0 r;obtain⟨p,ys,rfl,h1,h2⟩:=yJ h;exact⟨p,ys,rfl,.inl (zH.seq h1),λl hl=>k.own f hl h2⟩
 | [.t ds],e =>
  cases e;obtain⟨v,rfl,h⟩:=J0 r;obtain⟨p,ys,rfl,h1,h2⟩:=yY h;exact⟨p,ys,rfl,.inr (zS zH h1),λl hl=>k.own f hl h2⟩
def JF:List D->Option (List Bool)
 | []=>some []| .bl b::ds=>(JF ds).map (b::·)|_=>none
theorem vj:∀{ds:List D} {xs:List V} {bs:List Bool},JF ds=some bs->Reps K mg H ds xs->xs=bs.map V.bl
 | [],_,_,e,h=>by cases e;simp only[Reps]at h;subst h;rfl
 |d::ds,_,bs,e,h=>by
  simp only[Reps]at h;obtain⟨v,r,rfl,h1,h2⟩:=h;cases d with
  |bl b =>
   simp only[JF]at e;cases eb:JF ds with
   |none=>rw[eb]at e;cases e
   |some cs =>
    rw[eb]at e;cases e;rw[ZZ h1,vj eb h2];rfl
  |_=>cases e
def allD:List D->Option R
 | [.l ds]=>(JF ds).map λbs=>.v (.bl (bs.all id))|_=>none
def co_all:COk K mg (λxs H Q=>∃(p:Addr) (bs:List Bool),xs=[.ref p]/\SqL K H p (bs.map V.bl)/\Q (.bl (bs.all id)) H) allD:=by
 intro M H Z xs ds res Q f r e k
 match ds,e with
 | [.l ds],e =>
  simp only[allD]at e;cases eb:JF ds with
  |none=>rw[eb]at e;cases e
  |some bs =>
   rw[eb]at e;cases e;obtain⟨v,rfl,h⟩:=J0 r;obtain⟨p,ys,rfl,h1,h2⟩:=yJ h;have:=vj eb h2;subst this;exact⟨p,bs,rfl,zH.seq h1,k.flat f rfl⟩
end
abbrev MO:=zV->Out (Option Int×zV)
def tMO(X:Cx)(m:MO):TO:=λO H Q=>∃M E,E.length=O.length/\FR X.K X.mg M H (O.zip E)/\match m E with
 | .z=>False| .ok (b,E')=>∀H',Got X.K X.mg M O E H [] O E' H' []->Q b H'| .exc x E'=>∀H',Got X.K X.mg M O E H [] O E' H' []->XE X O H' x
section
variable{X:Cx}{K:qH}{mg:Str->Option Value}{O:St}{M:Addr->Prop}{E:zV}{H:Hp}{T0:Fz}
def zCa{Q:Option Int->Hp->Prop}(hl:E.length=O.length)(h:FR X.K X.mg M H (T0++O.zip E))
  (k:match m E with | .z=>False | .ok (b,E')=>∀H',Got X.K X.mg M O E H T0 O E' H' []->Q b H' | .exc x E'=>∀H',Got X.K X.mg M O E H T0 O E' H' []->XE X O H' x):tMO X m O H Q:=by
 refine⟨Mo M T0,E,hl,h.inner,?_⟩;cases e:m E with
 |z=>rw[e]at k;exact k|ok a=>rw[e]at k;exact λH' g=>k H' (g.outer h)|exc x E'=>rw[e]at k;exact λH' g=>k H' (g.outer h)
abbrev OOk(X:Cx)(e:Option Expr)(m:MO):Prop:=PO X e (tMO X m)
def zF8(h:PO X e t)(i:∀O H Q,t' O H Q->t O H Q):PO X e t':=λpins s O H Q I q=>h pins s O H Q I (i O H Q q)
def zEh:MO:=λE=>.ok (none,E)
def zCb(m:ME):MO:=λE=>match m E with
 | .ok (.v (.int i),E1)=>.ok (some i,E1)| .exc x E1=>.exc x E1|_=>.z
def oo_none:OOk X none zEh:=zF8 po_none λO H Q ⟨M,E,hl,fr,k⟩=>k H (Got.refl (T0:=[]) hl fr)
def oo_some(h:EOk X e m):OOk X (some e) (zCb m):=zF8 (po_some h) λO H Q ⟨M,E,hl,fr,k⟩=>by
 unfold zCb at k;refine zk (T0:=[]) hl fr ?_;cases ea:m E with
 |z=>rw[ea]at k;exact k|exc x E1=>rw[ea]at k;exact k
 |ok p =>
  obtain⟨r,E1⟩:=p;rw[ea]at k;cases r with
  |own ds=>exact k.elim|dct _ _=>exact k.elim
  |v d =>
   cases d with
   |int i =>
    intro v H' g;exact⟨i,zR g.rep,k H' g.dropAll⟩
   |_=>exact k.elim
def eSl(f:D->Option Int->Option Int->Option R)(a:ME)(lo hi:MO):ME:=λE=>match a E with
 | .z=>.z| .exc x E1=>.exc x E1
 | .ok (r,E1)=>match lo E1 with
  | .z=>.z| .exc x E2=>.exc x E2
  | .ok (l,E2)=>match hi E2 with
   | .z=>.z| .exc x E3=>.exc x E3
   | .ok (u,E3)=>match f r.d l u with
    |some r=>.ok (r,E3)|none=>.z
def Qc(ds:List D)(lo hi:Option Int):List D:=(ds.drop (HT.sIx ds.length 0 lo)).take (HT.sIx ds.length ds.length hi-HT.sIx ds.length 0 lo)
def slD:D->Option Int->Option Int->Option R
 | .t ds,lo,hi=>some (.v (.t (Qc ds lo hi)))| .l ds,lo,hi=>some (.own (Qc ds lo hi))|_,_,_=>none
def zAZ(h:Reps K mg H ds xs)(lo hi:Option Int):Reps K mg H (Qc ds lo hi) (zEM xs lo hi):=by
 unfold Qc zEM;rw[h.length];exact(h.drop _).take _
def sl_run(h:tM X (eSl slD a lo hi) O H Q):tSl (λx l u H Q=>rSlTT X.K x l u H Q\/rSlL X.K x l u H Q) (tM X a) (tMO X lo) (tMO X hi) O H Q:=by
 obtain⟨M,E,hl,fr,k⟩:=h;unfold eSl at k;refine zk (T0:=[]) hl fr ?_;cases ea:a E with
 |z=>rw[ea]at k;exact k|exc x E1=>rw[ea]at k;exact λH' g=>k H' g
 |ok p =>
  obtain⟨r1,E1⟩:=p;rw[ea]at k;intro x H1 g1;refine zCa (T0:=[(some x,r1.slot)]) g1.len g1.fr ?_;dsimp only at k;cases eb:lo E1 with
  |z=>rw[eb]at k;exact k|exc x E2=>rw[eb]at k;exact λH' g=>k H' (g1.trans' g).dropAll
  |ok p =>
   obtain⟨l,E2⟩:=p;rw[eb]at k;intro H2 g2;have g12:=g1.trans' g2;refine zCa (T0:=[(some x,r1.slot)]) g12.len g12.fr ?_;dsimp only at k;cases ec:hi E2 with
   |z=>rw[ec]at k;exact k|exc x E3=>rw[ec]at k;exact λH' g=>k H' (g12.trans' g).dropAll
   |ok p =>
    obtain⟨u,E3⟩:=p;rw[ec]at k;intro H3 g3;have g:=g12.trans' g3;have rx:=g.rep;dsimp only at k;have f:=g.frame;cases ed:r1.d with
    |t ds =>
     rw[ed]at k rx;have k':Kt X.K X.mg M H3 (O.zip E3) (.v (.t (Qc ds l u))) Q:=λv H' f' s'=>k v H' (g.more (T:=[(some v,_)]) f' s')
     obtain⟨p,xs,rfl,h1,h2⟩:=yY rx;refine .inl ⟨p,xs,rfl,zS zH h1,λhw=>k'.rep f ?_,λ_ p' hp=>k'.tup f hp (zAZ h2 l u)⟩;have:Qc ds l u=ds:=by
      have hl:=h2.length;rw[hl]at hw;unfold Qc;rw[hw.1,hw.2];simp
     rw[this];exact rx
    |l ds =>
     rw[ed]at k rx;have k':Kt X.K X.mg M H3 (O.zip E3) (.own (Qc ds l u)) Q:=λv H' f' s'=>k v H' (g.more (T:=[(some v,_)]) f' s')
     obtain⟨p,xs,rfl,h1,h2⟩:=yJ rx;exact .inr ⟨p,xs,rfl,zH.seq h1,λp' hp=>k'.own f hp (zAZ h2 l u)⟩
    |_=>rw[ed]at k;exact k.elim
def ok_sl(ha:EOk X a ma)(hl:OOk X lo ml)(hh:OOk X hi mh):EOk X (.Subscript a (.Slice lo hi none p2) pos) (eSl slD ma ml mh) :=
 zu (zEL (sl_tupT.or sl_list) ha hl hh) λO H Q=>sl_run
def tyD:D->Option String
 | .non=>some "NoneType"| .bl _=>some "bool"| .int _=>some "int"| .str _=>some "str"| .t _=>some "tuple"| .l _=>some "list"| .dic=>some "dict"| .fn _=>none| .exn _ _=>none| .dct _ _=>none
def vC(t T:String):Bool:=t==T||(t == "bool"&&T == "int")
def zEi(hk:∀t∈["NoneType","bool","int","str","tuple","list","dict"],kitOne X.K (.type t) (.type T)=some (vC t T)) :
  wy X (.builtin "isinstance") (λxs H Q=>∃x d t,xs=[x,.ty T]/\Rep X.K X.mg H d x/\tyD d=some t/\Q (.bl (vC t T)) H):=by
 intro pins s O H xs us Q I r h;obtain⟨x,d,t,rfl,rd,et,q⟩:=h;obtain⟨u,w',rfl,rx,ry⟩:=vals2 r;cases (show w'=Value.type T from ry);have fin:∀tk,EP X pins O Q (.bool (vC t T)) {s with toks:=tk}:=λtk=>⟨.bl _,H,I.tok tk,rfl,q⟩
 cases d with
 |non=>cases et;rw[Qa rd]at rx;cases (show u=Value.none from rx);exact kia_one PySem.W.kitx_none I.kIn True.intro (hk _ (by simp)) (λz=>nomatch z) fin|bl b=>cases et;rw[ZZ rd]at rx;cases (show u=Value.bool b from rx);exact kia_one PySem.W.kitx_bool I.kIn True.intro (hk _ (by simp)) (λz=>nomatch z) fin|int i=>cases et;rw[zR rd]at rx;obtain⟨t,q⟩:=(show ∃t,u=Value.int i t from rx);cases q;exact kia_one PySem.W.kitx_int I.kIn True.intro (hk _ (by simp)) (λz=>nomatch z) fin|str y=>cases et;rw[Yz rd]at rx;obtain⟨t,q⟩:=(show ∃t,u=Value.str y t from rx);cases q;exact kia_one PySem.W.kitx_str I.kIn True.intro (hk _ (by simp)) (λz=>nomatch z) fin
 |t ds =>
  cases et;obtain⟨a,xs,rfl,h1,_⟩:=yY rd;cases (show u=Value.ref a from rx);obtain⟨its,_,p,_⟩:=I.tuple h1;obtain⟨o,e1,e2,_⟩:=p;exact kia_one PySem.W.kitx_tuple I.kIn ⟨o,e1,e2⟩ (hk _ (by simp)) (λz=>nomatch z) fin
 |l ds =>
  cases et;obtain⟨a,xs,rfl,h1,_⟩:=yJ rd;cases (show u=Value.ref a from rx);obtain⟨its,_,p,_⟩:=I.list h1;obtain⟨o,n,e1,e2,_⟩:=p;exact kia_one PySem.W.kitx_list I.kIn ⟨o,e1,e2⟩ (hk _ (by simp)) (λz=>nomatch z) fin
 |dic =>
  cases et;simp only[Rep]at rd;obtain⟨a,rfl,e⟩:=rd;cases (show u=Value.ref a from rx);obtain⟨_,_,vs,_,p⟩:=(show jz X.prog X.w H s.heap a (.dK [])from I.hok a _ e);obtain⟨o,es,ep,h1,h2,_⟩:=p;exact kia_one PySem.W.kitx_dict I.kIn ⟨o,h1,h2.1⟩ (hk _ (by simp)) (λz=>nomatch z) fin
 |fn x=>cases et|exn x y=>cases et|dct _ _=>cases et
def eIs(T:String)(m:ME):ME:=λE=>match m E with
 | .z=>.z| .exc x E1=>.exc x E1
 | .ok (r,E1)=>match tyD r.d with
  |some t=>.ok (.v (.bl (vC t T)),E1)|none=>.z
def ok_is(hk:∀t∈["NoneType","bool","int","str","tuple","list","dict"],kitOne X.K (.type t) (.type T)=some (vC t T))(hg:Gl X "isinstance")(hm:X.mg "isinstance"=none)
  (hgT:Gl X x) (hmT:X.mg x=none) (hvT:bootBuiltins x=some (.type T)) (ha:EOk X a m) (hv:bootBuiltins "isinstance"=some (.builtin "isinstance")) (hn:x≠"__name__":=by decide) (hd:(x==("__debug__":Str))=false:=by decide)
  (he:zX a=false:=by rfl) :
  EOk X (.Call (.Name "isinstance" p) [a,.Name x p1] [] pos) (eIs T m):=by
 refine zu (zAS (zEi hk) hg hm hv (Jw ha (Jw (pe_bltn (v:=.ty T) hgT hmT hvT rfl hn hd) GP (zf rfl)) (zf he)) (by decide) (by decide) (zf he) (YO rfl)) λO H Q ⟨M,E,hl,fr,k⟩=>?_
 unfold eIs at k;refine zk (T0:=[]) hl fr ?_;cases ea:m E with
 |z=>rw[ea]at k;exact k|exc x E1=>rw[ea]at k;exact k
 |ok pr =>
  obtain⟨r,E1⟩:=pr;rw[ea]at k;intro v H' g;dsimp only at k;cases et:tyD r.d with
  |none=>rw[et]at k;exact k.elim
  |some t =>
   rw[et]at k;exact⟨v,r.d,t,rfl,g.rep.mono zH,et,k _ H' (g.flat (d:=.bl (vC t T)) rfl)⟩
inductive Fl where
 |nx
 |ret (r:R)
 |bk
 |ct
 deriving Inhabited
abbrev MS:=zV->Out (Fl×zV)
def KS(X:Cx)(M:Addr->Prop)(O:St)(E:zV)(H:Hp)(T0:Fz)(D:Ends):Out (Fl×zV)->Prop
 | .z=>False| .ok (.nx,E')=>∀O' H',Got X.K X.mg M O E H T0 O' E' H' []->D.nx O' H'| .ok (.bk,E')=>∀O' H',Got X.K X.mg M O E H T0 O' E' H' []->D.bk O' H'| .ok (.ct,E')=>∀O' H',Got X.K X.mg M O E H T0 O' E' H' []->D.ct O' H'| .ok (.ret r,E')=>∀v O' H',Got X.K X.mg M O E H T0 O' E' H' [(some v,r.slot)]->D.rt v H'| .exc x E'=>∀O' H',Got X.K X.mg M O E H T0 O' E' H' []->XE X O' H' x
def tS(X:Cx)(m:MS):TS:=λD O H=>∃M E,E.length=O.length/\FR X.K X.mg M H (O.zip E)/\KS X M O E H [] D (m E)
abbrev SOk(X:Cx)(st:Stmt)(m:MS):Prop:=PS X st (tS X m)
abbrev Qd(X:Cx)(st:List Stmt)(m:MS):Prop:=PSs X st (tS X m)
def vk{m:MS}{D:Ends}(hl:E.length=O.length)(h:FR X.K X.mg M H (T0++O.zip E))
  (k:KS X M O E H T0 D (m E)):tS X m D O H:=by
 refine⟨Mo M T0,E,hl,h.inner,?_⟩;cases e:m E with
 |z=>rw[e]at k;exact k
 |ok a =>
  obtain⟨fl,E'⟩:=a;rw[e]at k;cases fl with
  |nx=>exact λO' H' g=>k O' H' (g.outer h)|bk=>exact λO' H' g=>k O' H' (g.outer h)|ct=>exact λO' H' g=>k O' H' (g.outer h)|ret r=>exact λv O' H' g=>k v O' H' (g.outer h)
 |exc x E'=>rw[e]at k;exact λO' H' g=>k O' H' (g.outer h)
def zEj:MS:=λE=>.ok (.nx,E)
def zBm(a b:MS):MS:=λE=>match a E with
 | .ok (.nx,E1)=>b E1|o=>o
def sk_nil:Qd X [] zEj:=zCS pss_nil λD O H ⟨M,E,hl,fr,k⟩=>k O H (Got.refl (T0:=[]) hl fr)
def sk_one(h:SOk X st m):Qd X [st] m:=pss_one h
def seq_run{a b:MS}{D:Ends}(h:tS X (zBm a b) D O H):tSeq (tS X a) (tS X b) D O H:=by
 obtain⟨M,E,hl,fr,k⟩:=h;unfold zBm at k;refine vk (T0:=[]) hl fr ?_;cases ea:a E with
 |z=>rw[ea]at k;exact k|exc x E1=>rw[ea]at k;exact k
 |ok p =>
  obtain⟨fl,E1⟩:=p;rw[ea]at k;cases fl with
  |bk=>exact k|ct=>exact k|ret r=>exact k
  |nx =>
   intro O1 H1 g1;refine vk (T0:=[]) g1.len g1.fr ?_;dsimp only at k;cases eb:b E1 with
   |z=>rw[eb]at k;exact k|exc x E2=>rw[eb]at k;exact λO' H' g=>k O' H' (g1.trans' g)
   |ok p =>
    obtain⟨fl2,E2⟩:=p;rw[eb]at k;cases fl2 with
    |nx=>exact λO' H' g=>k O' H' (g1.trans' g)|bk=>exact λO' H' g=>k O' H' (g1.trans' g)|ct=>exact λO' H' g=>k O' H' (g1.trans' g)|ret r=>exact λv O' H' g=>k v O' H' (g1.trans' g)
def sk_cons{st:Stmt}{ZV:List Stmt}{a b:MS}(h1:SOk X st a)(h2:Qd X ZV b):Qd X (st::ZV) (zBm a b):=zCS (zEB h1 h2) λD O H=>seq_run
def sIf(c:MT)(a b:MS):MS:=λE=>match c E with
 | .ok (true,E1)=>a E1| .ok (false,E1)=>b E1| .exc x E1=>.exc x E1| .z=>.z
def tS_go{m:MS}{D:Ends}{O1:St}{E1:zV}{H1:Hp}(g1:Got X.K X.mg M O E H [] O1 E1 H1 [])
  (k:match m E1 with
   | .z=>False| .ok (.nx,E')=>∀O' H',Got X.K X.mg M O E H [] O' E' H' []->D.nx O' H'| .ok (.bk,E')=>∀O' H',Got X.K X.mg M O E H [] O' E' H' []->D.bk O' H'| .ok (.ct,E')=>∀O' H',Got X.K X.mg M O E H [] O' E' H' []->D.ct O' H'| .ok (.ret r,E')=>∀v O' H',Got X.K X.mg M O E H [] O' E' H' [(some v,r.slot)]->D.rt v H'
   | .exc x E'=>∀O' H',Got X.K X.mg M O E H [] O' E' H' []->XE X O' H' x):tS X m D O1 H1:=by
 refine vk (T0:=[]) g1.len g1.fr ?_;cases eb:m E1 with
 |z=>rw[eb]at k;exact k|exc x E2=>rw[eb]at k;exact λO' H' g=>k O' H' (g1.trans' g)
 |ok p =>
  obtain⟨fl2,E2⟩:=p;rw[eb]at k;cases fl2 with
  |nx=>exact λO' H' g=>k O' H' (g1.trans' g)|bk=>exact λO' H' g=>k O' H' (g1.trans' g)|ct=>exact λO' H' g=>k O' H' (g1.trans' g)|ret r=>exact λv O' H' g=>k v O' H' (g1.trans' g)
def sif_run{c:MT}{a b:MS}{D:Ends}(h:tS X (sIf c a b) D O H):tIfS (tMT X c) (tS X a) (tS X b) D O H:=by
 obtain⟨M,E,hl,fr,k⟩:=h;unfold sIf at k;refine JD (T0:=[]) hl fr ?_;cases ea:c E with
 |z=>rw[ea]at k;exact k|exc x E1=>rw[ea]at k;exact λH' g=>k O H' g
 |ok p =>
  obtain⟨t,E1⟩:=p;rw[ea]at k;intro H1 g1;cases t with
  |true=>exact zFw (tS_go g1 k)|false=>exact zFv (tS_go g1 k)
def sk_if(hc:TOk X c mc)(ha:Qd X a ma)(hb:Qd X b mb):SOk X (.If c a b pos) (sIf mc ma mb):=jV (ps_if hc ha hb) λD O H=>sif_run
def vF(i:Nat)(r:R)(E:zV):Out zV:=match E[i]? with
 |none=>.z|some (.par _)=>.z|some _=>.ok (E.set i r.slot)
def sSet(i:Nat)(m:ME):MS:=λE=>match m E with
 | .z=>.z| .exc x E1=>.exc x E1
 | .ok (r,E1)=>match vF i r E1 with
  | .ok E2=>.ok (.nx,E2)|_=>.z
def Qe(g:Got K mg M O E H T0 O1 E1 H1 [(some v,r.slot)])(e:vF i r E1=.ok E2):Got K mg M O E H T0 (O1.set i (some v)) E2 H1 []:=by
 unfold vF at e;cases e1:E1[i]? with
 |none=>rw[e1]at e;cases e
 |some sl =>
  rw[e1]at e;have hne:∀ds,sl≠.par ds:=λds q=>by subst q;cases e
  have e2:E2=E1.set i r.slot:=by
   cases sl with
   |par ds=>exact absurd rfl (hne ds)|_=>cases e;rfl
  subst e2;have hi:i<E1.length:=(qG.mp e1).1;have hl:=g.len;have hz:i<(O1.zip E1).length:=by rw[List.length_zip];omega
  have hT:T0++((O1.set i (some v)).zip (E1.set i r.slot))=(T0++O1.zip E1).set (T0.length+i) (some v,r.slot):=by
   rw[uL,List.set_append_right _ _ (by omega)];congr 2;omega
  have hz2:T0.length+i<(T0++O1.zip E1).length:=by rw[length_append];omega
  refine⟨by simp[hl],?_,?_,?_⟩
  ·show FR K mg M H1 (T0++((O1.set i (some v)).zip (E1.set i r.slot)))
   rw[hT];exact FR.put g.fr hz2
  ·show Step M H _ H1 (T0++((O1.set i (some v)).zip (E1.set i r.slot)))
   rw[hT];exact Step.put g.st hz2
  ·refine g.pk.trans λj ds q=>?_
   have ne:i≠j:=λz=>by subst z;rw[e1]at q;exact hne ds (qJ q)
   exact⟨⟨ds,by rw[getElem?_set_ne ne];exact q⟩,by rw[getElem?_set_ne ne]⟩
def zCc{i:Nat}{m:ME}{D:Ends}(h:tS X (sSet i m) D O H):zFp (tM X m) (QR i) D O H:=by
 obtain⟨M,E,hl,fr,k⟩:=h;unfold sSet at k;refine zk (T0:=[]) hl fr ?_;cases ea:m E with
 |z=>rw[ea]at k;exact k|exc x E1=>rw[ea]at k;exact λH' g=>k O H' g
 |ok p =>
  obtain⟨r,E1⟩:=p;rw[ea]at k;intro v H' g;dsimp only at k;cases ep:vF i r E1 with
  |z=>rw[ep]at k;exact k.elim|exc _ _=>rw[ep]at k;exact k.elim
  |ok E2 =>
   rw[ep]at k;exact k _ H' (Qe g ep)
def zF9(hN:X.N.Nodup)(hi:X.N[i]?=some x)(hx:Loc X.env.scope x)(he:EOk X e m)(hs:swapsWith e (some (.Name x pos')) pos.line X.env=pure false:=by rfl)
  (hf:X.fn x=true\/X.env.scope.names.lookup x=some .local:=by first|exact .inl rfl|exact .inr rfl|assumption):SOk X (.Assign [.Name x pos'] e pos) (sSet i m) :=
 jV (ps_set hN hi hx he hs hf) λD O H=>zCc
def sRet(m:ME):MS:=λE=>match m E with
 | .z=>.z| .exc x E1=>.exc x E1| .ok (r,E1)=>.ok (.ret r,E1)
def ret_run{m:ME}{D:Ends}(h:tS X (sRet m) D O H):tRet (tM X m) D O H:=by
 obtain⟨M,E,hl,fr,k⟩:=h;unfold sRet at k;refine zk (T0:=[]) hl fr ?_;cases ea:m E with
 |z=>rw[ea]at k;exact k|exc x E1=>rw[ea]at k;exact λH' g=>k O H' g|ok p=>rw[ea]at k;exact λv H' g=>k v O H' g
def sk_ret(he:EOk X e m):SOk X (.Return (some e) pos) (sRet m):=jV (ps_ret he) λD O H=>ret_run
def zCd(i:Nat):ME:=λE=>match E[i]? with
 |some (.own ds)=>.ok (.own ds,E.set i .e)|some (.dct ks vs)=>.ok (.dct ks vs,E.set i .e)|some (.v d)=>.ok (.v d,E)|_=>.z
def ok_move(i:Nat)(h:PE X (.Name x pos) (vd i)):EOk X (.Name x pos) (zCd i):=zu h λO H Q ⟨M,E,hl,f,k⟩=>by
 unfold zCd at k;cases e:E[i]? with
 |none=>rw[e]at k;exact k.elim
 |some sl =>
 rw[e]at k;cases sl with
 |e=>exact k.elim|par ds=>exact k.elim
 |v d =>
  obtain⟨o,h1,h2⟩:=wQ hl e;obtain⟨v,rfl,r⟩:=f.val o d h2;exact⟨v,h1,k v H ⟨hl,f.add r,Step.refl.add,PKp.refl⟩⟩
 |own ds =>
  obtain⟨o,h1,h2⟩:=jj hl e;obtain⟨a,xs,rfl,q1,q2,q3⟩:=f.ownL o (.own ds) ds (mem_of_getElem? h2) rfl;refine⟨.ref a,h1,k _ H ?_⟩;have hlt:i<(O.zip E).length:=(qG.mp h2).1;have p:(O.zip E).Perm ((some (.ref a),R.slot (.own ds))::(O.zip E).eraseIdx i):=by
   have:=zQ (some (V.ref a),Slot.own ds) (O.zip E) i hlt;rw[ju h2]at this;exact this
  have ez:O.zip (E.set i .e)=(O.zip E).set i (some (.ref a),.e):=zT .e h1;have p2:((some (V.ref a),R.slot (.own ds))::O.zip (E.set i .e)).Perm ((some (V.ref a),Slot.e)::((some (V.ref a),R.slot (.own ds))::(O.zip E).eraseIdx i)):=by
   rw[ez];exact((zQ _ _ _ hlt).cons _).trans (List.Perm.swap _ _ _)
  have f1:=f.perm p;have f2:FR X.K X.mg M H ((some (V.ref a),Slot.e)::((some (V.ref a),R.slot (.own ds))::(O.zip E).eraseIdx i)):={
   val:=λo d q=>by
    rw[GZ];rcases mem_cons.mp q with q|q
    ·cases q
    ·exact f1.val o d q
   own:=λo s ds' q e'=>by
    rw[GZ];rcases mem_cons.mp q with q|q
    ·cases q;cases e'
    ·exact f1.own o s ds' q e'
   nd:=by rw[zt];exact f1.nd
   mal:=f1.mal}
  refine⟨by simp[hl],f2.perm p2.symm,?_,vi (ds0:=[]) e (λds' q=>by cases q) _⟩;refine Step.weak Step.refl λb hb=>?_
  have hb':=zD p2 b hb;rw[zt]at hb';exact zD p.symm b hb'
 |dct ks vs =>
  obtain⟨o,h1,h2⟩:=jj hl e;obtain⟨a,ho,rfl,q1,q2,q3⟩:=f.own o (.dct ks vs) (.d ks vs) (mem_of_getElem? h2) rfl;refine⟨.ref a,h1,k _ H ?_⟩;have hlt:i<(O.zip E).length:=(qG.mp h2).1;have p:(O.zip E).Perm ((some (.ref a),R.slot (.dct ks vs))::(O.zip E).eraseIdx i):=by
   have:=zQ (some (V.ref a),Slot.dct ks vs) (O.zip E) i hlt;rw[ju h2]at this;exact this
  have ez:O.zip (E.set i .e)=(O.zip E).set i (some (.ref a),.e):=zT .e h1;have p2:((some (V.ref a),R.slot (.dct ks vs))::O.zip (E.set i .e)).Perm ((some (V.ref a),Slot.e)::((some (V.ref a),R.slot (.dct ks vs))::(O.zip E).eraseIdx i)):=by
   rw[ez];exact((zQ _ _ _ hlt).cons _).trans (List.Perm.swap _ _ _)
  have f1:=f.perm p;have f2:FR X.K X.mg M H ((some (V.ref a),Slot.e)::((some (V.ref a),R.slot (.dct ks vs))::(O.zip E).eraseIdx i)):={
   val:=λo d q=>by
    rw[GZ];rcases mem_cons.mp q with q|q
    ·cases q
    ·exact f1.val o d q
   own:=λo s ds' q e'=>by
    rw[GZ];rcases mem_cons.mp q with q|q
    ·cases q;cases e'
    ·exact f1.own o s ds' q e'
   nd:=by rw[zt];exact f1.nd
   mal:=f1.mal}
  refine⟨by simp[hl],f2.perm p2.symm,?_,vi (ds0:=[]) e (λds' q=>by cases q) _⟩;refine Step.weak Step.refl λb hb=>?_
  have hb':=zD p2 b hb;rw[zt]at hb';exact zD p.symm b hb'
def sDrop(m:ME):MS:=λE=>match m E with
 | .z=>.z| .exc x E1=>.exc x E1| .ok (_,E1)=>.ok (.nx,E1)
def zEk{m:ME}{D:Ends}(h:tS X (sDrop m) D O H):tDrop (tM X m) D O H:=by
 obtain⟨M,E,hl,fr,k⟩:=h;unfold sDrop at k;refine zk (T0:=[]) hl fr ?_;cases ea:m E with
 |z=>rw[ea]at k;exact k|exc x E1=>rw[ea]at k;exact λH' g=>k O H' g|ok p=>rw[ea]at k;exact λv H' g=>k O H' g.dropAll
def sk_drop(he:EOk X e m)(hs:swapsWith e none pos.line X.env=pure false:=by rfl):SOk X (.Expr e pos) (sDrop m):=jV (zBv he hs) λD O H=>zEk
end
theorem yr{α β:Type}{f:α->Option β}{x y:α}(h:f y=f x):∀{l:List α} {i:Nat},l[i]?=some x->(l.set i y).filterMap f=l.filterMap f
 | [],_,e=>by simp at e
 |a::l,0,e=>by
  simp at e;subst e
  simp only[List.set_cons_zero,filterMap_cons,h]
 |a::l,i+1,e=>by
  simp at e
  simp only[List.set_cons_succ,filterMap_cons,yr h e]
section
variable{X:Cx}{K:qH}{mg:Str->Option Value}{O:St}{M:Addr->Prop}{E:zV}{H:Hp}{T0 Z:Fz}
def Slot.put:Slot->List D->Slot
 | .own _,es=>.own es| .par _,es=>.par es|s,_=>s
def uP(hs:s.list?=some ds):uJ (some (.ref p),s.put es)=uJ (some (.ref p),s)/\(s.put es).list?=some es:=by
 cases s<;>simp[Slot.list?]at hs<;>exact⟨rfl,rfl⟩
def FR.mut(h:FR K mg M H Z){i:Nat}{p:Addr}{s:Slot}{ds es:List D}{ys:List V}(hi:Z[i]?=some (some (.ref p),s))(hs:s.list?=some ds)(r:Reps K mg (Hm (Mo M Z) H) es ys) :
  FR K mg M (upd H p (.l ys)) (Z.set i (some (.ref p),s.put es))/\Step M H Z (upd H p (.l ys)) (Z.set i (some (.ref p),s.put es)):=by
 have eo:yI (Z.set i (some (.ref p),s.put es))=yI Z:=yr (uP hs).1 hi;have em:Mo M (Z.set i (some (.ref p),s.put es))=Mo M Z:=by unfold Mo;rw[eo]
 have hp:p∈yI Z:=QY (mem_of_getElem? hi) hs rfl;obtain⟨xs0,hH,hM,_⟩:=h.ownAt hp;have ehm:Hm (Mo M Z) (upd H p (.l ys))=Hm (Mo M Z) H:=by
  funext b
  unfold Hm;by_cases hb:Mo M Z b
  ·simp[hb]
  ·have:b≠p:=λe=>hb (by subst e;exact .inr hp)
   simp[hb,zr this]
 have mem:∀{q:Option V×Slot},q∈Z.set i (some (.ref p),s.put es)->q=(some (.ref p),s.put es)\/q∈Z:=λ{q} hq=>(List.mem_or_eq_of_mem_set hq).symm
 have hlt:i<Z.length:=(qG.mp hi).1;have nd2:(yI (Z.eraseIdx i)).Nodup/\p∉yI (Z.eraseIdx i):=by
  have pz:Z.Perm ((some (.ref p),s)::Z.eraseIdx i):=by
   have:=zQ (some (V.ref p),s) Z i hlt;rw[ju hi]at this;exact this
  have nd:=(pz.filterMap uJ).nodup_iff.mp h.nd;have e:filterMap uJ ((some (V.ref p),s)::Z.eraseIdx i)=p::yI (Z.eraseIdx i):=by
   cases s<;>simp[Slot.list?]at hs<;>rfl
  rw[e]at nd;exact⟨(nodup_cons.mp nd).2,(nodup_cons.mp nd).1⟩
 have pz2:(Z.set i (some (.ref p),s.put es)).Perm ((some (.ref p),s.put es)::Z.eraseIdx i):=zQ _ _ _ hlt;refine⟨⟨λo d q=>?_,λo s' ds' q e=>?_,by rw[eo];exact h.nd,λb q=>?_⟩,⟨by rw[em,ehm];exact Yv.refl _,λb o m e=>?_⟩⟩
 ·rw[em,ehm]
  rcases mem q with q|q
  ·exfalso
   cases s<;>simp[Slot.list?]at hs<;>cases q
  ·exact h.val o d q
 ·rw[em,ehm]
  rcases mem_cons.mp (pz2.mem_iff.mp q)with q'|q'
  ·cases q'
   rw[zCQ (uP (p:=p) hs).2]at e;cases e;exact⟨p,_,rfl,yq,hM,ys,rfl,r⟩
  ·have q'':(o,s')∈Z:=(eraseIdx_sublist Z i).subset q'
   obtain⟨a,xs,e1,e2,e3,rr⟩:=h.own o s' ds' q'' e;have ne:a≠p:=λz=>by
    subst z;exact nd2.2 (jC q' e e1)
   exact⟨a,xs,e1,by rw[zr ne];exact e2,e3,rr⟩
 ·obtain⟨o,e,ko⟩:=h.mal b q
  by_cases z:b=p
  ·subst z;exact⟨_,yq,.inl ⟨_,rfl⟩⟩
  ·exact⟨o,by rw[zr z];exact e,ko⟩
 ·have ne:b≠p:=λz=>hM (by subst z;exact m)
  rw[zr ne];exact e
theorem Got.mut(g:Got K mg M O E H [] O1 E1 H1 T)(hi:E1[i]?=some s)(hs:s.list?=some ds)(r:Reps K mg (Hm (Mo M (O1.zip E1)) H1) es ys) :
  ∃p,O1[i]?=some (some (.ref p))/\Got K mg M O E H [] O1 (E1.set i (s.put es)) (upd H1 p (.l ys)) []:=by
 obtain⟨o,h1,h2⟩:=jj g.len hi;obtain⟨p,xs,rfl,_⟩:=g.frame.ownL o s ds (mem_of_getElem? h2) hs;refine⟨p,h1,?_⟩;obtain⟨f,st⟩:=FR.mut g.frame h2 hs r;have e:=zT (E:=E1) (s.put es) h1;rw[<- e]at f st;refine⟨by simp[g.len],f,(g.st.weak (zC (sublist_append_right _ _))).trans st,g.pk.trans λj ds' q=>?_⟩;by_cases ej:i=j
 ·subst ej
  rw[hi]at q;cases q;have hlt:i<E1.length:=(qG.mp hi).1;exact⟨⟨es,by rw[getElem?_set_self hlt];rfl⟩,rfl⟩
 ·exact⟨⟨ds',by rw[getElem?_set_ne ej];exact q⟩,rfl⟩
def vm{i:Nat}{s:Slot}(hl:E.length=O.length)(f:FR K mg M H (O.zip E))(h:E[i]?=some s)(hs:s≠.e):∃v,O[i]?=some (some v):=by
 obtain⟨o,h1,h2⟩:=wQ hl h;cases s with
 |e=>exact absurd rfl hs|v d=>obtain⟨v,rfl,_⟩:=f.val o d h2;exact⟨v,h1⟩|own ds=>obtain⟨a,_,rfl,_⟩:=f.own o _ _ h2 rfl;exact⟨_,h1⟩|par ds=>obtain⟨a,_,rfl,_⟩:=f.own o _ _ h2 rfl;exact⟨_,h1⟩|dct ks vs=>obtain⟨a,_,rfl,_⟩:=f.own o _ _ h2 rfl;exact⟨_,h1⟩
def jB:Option Slot->Bool
 |none=>true|some .e=>true|_=>false
def Y0(h:jB o=false):∃s,o=some s/\s≠.e:=by
 cases o with
 |none=>cases h
 |some s=>cases s<;>simp[jB]at h<;>exact⟨_,rfl,by intro q;cases q⟩
def ixS:Slot->Int->Option D
 | .own ds,i=>atI ds i| .par ds,i=>atI ds i| .v (.l ds),i=>atI ds i|_,_=>none
def zD3(i:Nat)(m:ME):ME:=λE=>if jB E[i]?=true then .z else match m E with
 | .z=>.z| .exc x E1=>.exc x E1
 | .ok (.v (.int k),E1)=>match E1[i]? with
  |some s=>match ixS s k with
   |some d=>.ok (.v d,E1)|none=>.z
  |none=>.z
 |_=>.z
def ixO_run{i:Nat}{m:ME}{Q:VK}(h:tM X (zD3 i m) O H Q):tOp (rIxL X.K) (vd i) (tM X m) O H Q:=by
 obtain⟨M,E,hl,fr,k⟩:=h;unfold zD3 at k;cases em:jB E[i]? with
 |true=>rw[em]at k;exact k.elim
 |false =>
  rw[em]at k;obtain⟨s,hs1,hs2⟩:=Y0 em;obtain⟨v,hv⟩:=vm hl fr hs1 hs2;refine⟨v,hv,?_⟩;refine zk (T0:=[]) hl fr ?_;simp only[Bool.false_eq_true,if_false]at k;cases ea:m E with
  |z=>rw[ea]at k;exact k|exc x E1=>rw[ea]at k;exact k
  |ok p =>
   obtain⟨r,E1⟩:=p;rw[ea]at k;cases r with
   |own ds=>exact k.elim|dct _ _=>exact k.elim
   |v d =>
    cases d with
    |int n =>
     intro y H' g;dsimp only at k;cases e1:E1[i]? with
     |none=>rw[e1]at k;exact k.elim
     |some s1 =>
      rw[e1]at k;dsimp only at k;cases e2:ixS s1 n with
      |none=>rw[e2]at k;exact k.elim
      |some d =>
       rw[e2]at k;have f:=g.frame;have fin:∀{w:V},Rep X.K X.mg (Hm (Mo M (O.zip E1)) H') d w->Q w H':=λ{w} rw'=>k w H' (g.more (T:=[(some w,.v d)]) (f.add rw') Step.refl.add)
       obtain⟨o,h1,h2⟩:=wQ g.len e1;have ho:o=some v:=by rw[hv]at h1;exact(qJ h1).symm
       subst ho;have key:∀{ds:List D},s1.list?=some ds->atI ds n=some d->rIxL X.K v y H' Q:=λ{ds} hl1 ha=>by
        obtain⟨a,xs,ev,q1,_,q3⟩:=f.ownL _ s1 ds h2 hl1;cases ev;obtain⟨w,a1,a2⟩:=Z3 q3 ha;exact⟨a,xs,n,w,rfl,zR g.rep,SqL.of q1,a1,fin a2⟩
       cases s1 with
       |e=>cases e2|own ds=>exact key rfl e2|par ds=>exact key rfl e2|dct _ _=>cases e2
       |v dd =>
        cases dd with
        |l ds =>
         obtain⟨v',ev,rr⟩:=f.val _ _ h2;cases ev;obtain⟨a,xs,rfl,q1,q2⟩:=yJ rr;obtain⟨w,a1,a2⟩:=Z3 q2 e2;exact⟨a,xs,n,w,rfl,zR g.rep,zH.seq q1,a1,fin a2⟩
        |_=>cases e2
    |_=>exact k.elim
def ok_ixO(i:Nat)(hv:PE X (.Name x p) (vd i))(hb:EOk X b m)(hs:WJ b):EOk X (.Subscript (.Name x p) b pos) (zD3 i m) :=
 zu (pe_ix zCG hv hb hs) λO H Q=>ixO_run
def Za(i:Nat)(mi mv:ME):MS:=λE=>if jB E[i]?=true then .z else match mv E with
 | .z=>.z| .exc x E1=>.exc x E1
 | .ok (r,E1)=>match mi E1 with
  | .z=>.z| .exc x E2=>.exc x E2
  | .ok (.v (.int k),E2)=>match E2[i]? with
   |none=>.z
   |some s=>match s.list? with
    |none=>.z
    |some ds=>match ixN ds.length k with
     |none=>.z|some j=>.ok (.nx,E2.set i (s.put (ds.set j r.d)))
  |_=>.z
def zCe{i:Nat}{mi mv:ME}{D:Ends}(h:tS X (Za i mi mv) D O H):zFp (tM X mv) (gSub (vd i) (tM X mi) zCH) D O H:=by
 obtain⟨M,E,hl,fr,k⟩:=h;unfold Za at k;cases em:jB E[i]? with
 |true=>rw[em]at k;exact k.elim
 |false =>
  rw[em]at k;obtain⟨s,hs1,hs2⟩:=Y0 em;obtain⟨v,hv⟩:=vm hl fr hs1 hs2;refine zk (T0:=[]) hl fr ?_;simp only[Bool.false_eq_true,if_false]at k;cases ea:mv E with
  |z=>rw[ea]at k;exact k|exc x E1=>rw[ea]at k;exact λH' g=>k O H' g
  |ok p =>
   obtain⟨r,E1⟩:=p;rw[ea]at k;intro y H1 g1;refine⟨v,hv,?_⟩;refine zk (T0:=[(some y,r.slot)]) g1.len g1.fr ?_;dsimp only at k;cases eb:mi E1 with
   |z=>rw[eb]at k;exact k|exc x E2=>rw[eb]at k;exact λH' g=>k O H' (g1.trans' g).dropAll
   |ok p =>
    obtain⟨r2,E2⟩:=p;rw[eb]at k;cases r2 with
    |own ds=>exact k.elim|dct _ _=>exact k.elim
    |v d =>
     cases d with
     |int n =>
      intro z H2 g2;have g:=g1.trans' g2;dsimp only at k;cases e1:E2[i]? with
      |none=>rw[e1]at k;exact k.elim
      |some s1 =>
       rw[e1]at k;dsimp only at k;cases e2:s1.list? with
       |none=>rw[e2]at k;exact k.elim
       |some ds =>
        rw[e2]at k;dsimp only at k;cases e3:ixN ds.length n with
        |none=>rw[e3]at k;exact k.elim
        |some j =>
         rw[e3]at k;have rp:=Got.reps (vs:=[z,y]) (rs:=[.v (.int n),r]) rfl g;simp only[List.map,Reps]at rp;obtain⟨z',_,q1,rz,y',_,q2,ry,_⟩:=rp;cases q1;cases q2;obtain⟨o,h1,h2⟩:=wQ g.len e1;obtain⟨a,xs,ev,w1,_,w3⟩:=g.frame.ownL _ s1 ds h2 e2;subst ev;have ev:v=.ref a:=by rw[hv]at h1;exact qJ (qJ h1)
         subst ev;obtain⟨p,hp,g'⟩:=g.mut e1 e2 (w3.set j ry);have ep:p=a:=by rw[h1]at hp;cases hp;rfl
         subst ep;exact⟨p,xs,n,j,rfl,zR rz,w1,by rw[w3.length];exact e3,k O _ g'⟩
     |_=>exact k.elim
def zEl(i:Nat)(hv:PE X (.Name x p) (vd i))(hb:EOk X b mi)(he:EOk X e mv)
  (ha:∀v,assign (.Subscript (.Name x p) b p1) X.env v=(do
   let ov <- holding [v] (eval (.Name x p) X.env)
   let iv <- holding [v,ov] (eval b X.env)
   standAt p1
   holding [v,ov,iv] (setItem ov iv v)
   release [v,ov,iv] []):=by intro _;rfl) (hs:swapsWithSole [.Subscript (.Name x p) b p1] e pos.line X.env=pure false:=by rfl):SOk X (.Assign [.Subscript (.Name x p) b p1] e pos) (Za i mi mv) :=
 jV (zAO he (zAN hv hb uF ha) hs) λD O H=>zCe
def sApp(i:Nat)(m:ME):MS:=λE=>match E[i]? with
 |none=>.z
 |some s0=>match s0.list? with
  |none=>.z
  |some _=>match m E with
   | .z=>.z| .exc x E1=>.exc x E1
   | .ok (r,E1)=>match E1[i]? with
    |none=>.z
    |some s=>match s.list? with
     |none=>.z|some ds=>if ds.length<cap then .ok (.nx,E1.set i (s.put (ds++[r.d])))else .z
def app_run{i:Nat}{m:ME}{D:Ends}(h:tS X (sApp i m) D O H):tDrop (tBM X.K "list" zCI (vd i) (zEJ (tM X m) tNil)) D O H:=by
 obtain⟨M,E,hl,fr,k⟩:=h;unfold sApp at k;cases e0:E[i]? with
 |none=>rw[e0]at k;exact k.elim
 |some s0 =>
  rw[e0]at k;dsimp only at k;cases e00:s0.list? with
  |none=>rw[e00]at k;exact k.elim
  |some ds0 =>
   rw[e00]at k;obtain⟨o,h1,h2⟩:=wQ hl e0;obtain⟨a,xs,ev,w1,_,w3⟩:=fr.ownL _ s0 ds0 h2 e00;subst ev;refine⟨.ref a,h1,.inl ⟨rfl,xs,SqL.of w1⟩,?_⟩;refine zk (T0:=[]) hl fr ?_;dsimp only at k;cases ea:m E with
   |z=>rw[ea]at k;exact k|exc x E1=>rw[ea]at k;exact λH' g=>k O H' g
   |ok p =>
    obtain⟨r,E1⟩:=p;rw[ea]at k;intro y H1 g;dsimp only at k;cases e1:E1[i]? with
    |none=>rw[e1]at k;exact k.elim
    |some s =>
     rw[e1]at k;dsimp only at k;cases e2:s.list? with
     |none=>rw[e2]at k;exact k.elim
     |some ds =>
      rw[e2]at k;dsimp only at k;by_cases hc:ds.length<cap
      ·rw[if_pos hc]at k
       obtain⟨o,h1',h2'⟩:=wQ g.len e1;obtain⟨a',ys,ev,q1,_,q3⟩:=g.frame.ownL _ s ds h2' e2;subst ev;have ea':a'=a:=by rw[h1]at h1';cases h1';rfl
       subst ea';obtain⟨p,hp,g'⟩:=g.mut e1 e2 (q3.append (Reps.cons g.rep Reps.nil));have ep:p=a':=by rw[h1]at hp;cases hp;rfl
       subst ep;exact⟨p,ys,y,rfl,rfl,q1,by rw[q3.length];exact lt_of_lt_of_le hc (wu (le_refl _)),k O _ g'⟩
      ·rw[if_neg hc]at k;exact k.elim
def sk_app(i:Nat)(hv:PE X (.Name x p) (vd i))(he:EOk X e m)
  (hbase:attributeBase (.Name x p) "append" X.env (eval (.Name x p) X.env)=eval (.Name x p) X.env:=by rfl)
  (hfew:((backTo cpos (starEach (e::[]) X.env)).all (λx=>!x.1)&&(backToKw cpos (keywordEach [] X.env)).all (λx=>x.1.isSome)
   && decide ((e::([]:List Expr)).length+([]:List Keyword).length+(if([]:List Keyword).isEmpty then 0 else 1)<30))=true:=by rfl)
  (hline:(apos.endLine==cpos.line)=true:=by rfl) (hs:starEach (e::[]) X.env=(false,eval e X.env)::starEach [] X.env:=by rfl) (hplain:(backTo cpos (starEach [] X.env)).any (·.1)=false:=by rfl)
  (hsw:swapsWith (.Call (.Attribute (.Name x p) "append" apos) [e] [] cpos) none pos.line X.env=pure false:=by rfl):SOk X (.Expr (.Call (.Attribute (.Name x p) "append" apos) [e] [] cpos) pos) (sApp i m) :=
 jV (zBv (pe_bm PySem.F.plainAttrs_list PySem.F.slot_list_append PySem.F.type_list_append GX hv (Jw he GP hs) hbase hfew hline hs hplain) hsw) λD O H=>app_run
end
section
variable{X:Cx}{K:qH}{mg:Str->Option Value}{O:St}{M:Addr->Prop}{E:zV}{H:Hp}{T0 Z:Fz}
abbrev MG:=D->zV->Out zV
def GOk(X:Cx)(g:TG)(tg:MG):Prop:=∀(M:Addr->Prop) (O:St) (E:zV) (H:Hp) (T0:Fz) (x:V) (d:D) (E':zV) (Q:St->Hp->Prop),E.length=O.length->FR X.K X.mg M H ((some x,.v d)::(T0++O.zip E))->tg d E=.ok E' ->
 (∀O',Got X.K X.mg M O E H T0 O' E' H []->Q O' H)->g x O H Q
def gN(i:Nat):MG:=λd E=>vF i (.v d) E
def go_name(i:Nat):GOk X (QR i) (gN i):=λM O E H T0 x d E' Q hl f e k =>
 k _ (Qe (O1:=O) (E1:=E) (H1:=H) (r:=.v d) (v:=x) ⟨hl,f,Step.refl.add,PKp.refl⟩ e)
def gNs:List Nat->List D->zV->Out zV
 | [],[],E=>.ok E
 |i::is,d::ds,E=>match vF i (.v d) E with
  | .ok E1=>gNs is ds E1|_=>.z
 |_,_,_=>.z
def gT(is:List Nat):MG:=λd E=>match d with
 | .t ds=>gNs is ds E|_=>.z
def J1:List Nat->TGs
 | []=>gNil|i::is=>zED (QR i) (J1 is)
theorem WW:∀(is:List Nat) (ds:List D) (xs:List V) {M:Addr->Prop} {O0 O:St} {E0 E E':zV} {H:Hp} {T0:Fz} {a:Addr} {ts:List D} {Q:St->Hp->Prop},
  Got X.K X.mg M O0 E0 H T0 O E H []->Reps X.K X.mg (Hm (Mo M (T0++O.zip E)) H) ds xs->gNs is ds E=.ok E'->(∀O',Got X.K X.mg M O0 E0 H T0 O' E' H []->Q O' H)->J1 is xs O H Q
 | [],[],xs,M,O0,O,E0,E,E',H,T0,a,ts,Q,g,r,e,k=>by
  cases e;simp only[Reps]at r;exact⟨r,k O g⟩
 | [],d::ds,xs,M,O0,O,E0,E,E',H,T0,a,ts,Q,g,r,e,k=>by cases e|i::is,[],xs,M,O0,O,E0,E,E',H,T0,a,ts,Q,g,r,e,k=>by cases e
 |i::is,d::ds,xs,M,O0,O,E0,E,E',H,T0,a,ts,Q,g,r,e,k=>by
  simp only[Reps]at r;obtain⟨x,ZV,rfl,rx,rr⟩:=r;simp only[gNs]at e;cases e1:vF i (.v d) E with
  |z=>rw[e1]at e;cases e|exc _ _=>rw[e1]at e;cases e
  |ok E1 =>
   rw[e1]at e;refine⟨x,ZV,rfl,?_⟩;have g1:Got X.K X.mg M O0 E0 H T0 O E H [(some x,R.slot (.v d))]:=⟨g.len,g.fr.add rx,g.st.add,g.pk⟩;have g2:=Qe g1 e1;refine WW is ds ZV (a:=a) (ts:=ts) g2 (rr.mono ?_) e k;refine jS (JC λb hb=>?_);have st:=g2.fr
   -- the stored slot is a value: it yI nothing
   unfold vF at e1;cases e2:E[i]? with
   |none=>rw[e2]at e1;cases e1
   |some sl =>
    rw[e2]at e1;have e3:E1=E.set i (.v d):=by cases sl<;>cases e1<;>rfl
    subst e3;have hi:i<E.length:=(qG.mp e2).1;have hz:i<(O.zip E).length:=by rw[List.length_zip];have:=g.len;omega
    rw[uL]at hb;rw[zY]at hb ⊢;rcases mem_append.mp hb with hb|hb
    ·exact mem_append_left _ hb
    ·refine qK _ ?_
     have:=zD (zQ _ _ _ hz) b hb;rw[zW]at this;exact zC (eraseIdx_sublist _ _) b this
def zGA(is:List Nat)(hn:is.length=n):GOk X (gTup X.K n (J1 is)) (gT is):=λM O E H T0 x d E' Q hl f e k=>by
 cases d with
 |t ds =>
  obtain⟨v,ev,r⟩:=f.val _ _ qE;cases ev;obtain⟨a,xs,rfl,h1,h2⟩:=yY r;rw[ZY]at h2;have hlen:ds.length=is.length:=by
   have:∀(is:List Nat) (ds:List D) (E E':zV),gNs is ds E=.ok E'->ds.length=is.length:=by
    intro is
    induction is with
    |nil=>intro ds E E' h;cases ds with|nil=>rfl|cons d ds=>cases h
    |cons i is ih =>
     intro ds E E' h;cases ds with
     |nil=>cases h
     |cons d ds =>
      simp only[gNs]at h;cases e1:vF i (.v d) E with
      |ok E1=>rw[e1]at h;simp[ih ds E1 E' h]|z=>rw[e1]at h;cases h|exc _ _=>rw[e1]at h;cases h
   exact this is ds E E' e
  refine⟨a,xs,rfl,zS zH h1,by rw[h2.length,hlen,hn],?_⟩;exact WW is ds xs (a:=a) (ts:=[]) (Got.refl hl f.tail) h2 e k
 |_=>cases e
def J2(tg:MG)(body:MS):List D->zV->Out (Fl×zV)
 | [],E=>.ok (.nx,E)
 |d::ds,E=>match tg d E with
  | .ok E1=>match body E1 with
   | .ok (.nx,E2)=>J2 tg body ds E2| .ok (.ct,E2)=>J2 tg body ds E2| .ok (.bk,E2)=>.ok (.nx,E2)| .ok (.ret r,E2)=>.ok (.ret r,E2)| .exc x E2=>.exc x E2| .z=>.z
  |_=>.z
def Fin(X:Cx)(M:Addr->Prop)(O:St)(E:zV)(H:Hp)(D:Ends)(o:Out (Fl×zV)):Prop:=match o with
 | .z=>False| .ok (.nx,E')=>∀O' H',Got X.K X.mg M O E H [] O' E' H' []->D.nx O' H'| .ok (.bk,E')=>∀O' H',Got X.K X.mg M O E H [] O' E' H' []->D.bk O' H'| .ok (.ct,E')=>∀O' H',Got X.K X.mg M O E H [] O' E' H' []->D.ct O' H'| .ok (.ret r,E')=>∀v O' H',Got X.K X.mg M O E H [] O' E' H' [(some v,r.slot)]->D.rt v H'| .exc x E'=>∀O' H',Got X.K X.mg M O E H [] O' E' H' []->XE X O' H' x
def Got.dropT{mg:Str->Option Value}{M:Addr->Prop}(a:Got K mg M O E H [] O1 E1 H1 (T++T')):Got K mg M O E H [] O1 E1 H1 T where
 len:=a.len
 fr:=a.fr.sub (by rw[append_assoc];exact(sublist_append_right _ _).append_left _)
 st:=a.st.weak (zC (by rw[append_assoc];exact(sublist_append_right _ _).append_left _))
 pk:=a.pk
def uQ{tg:MG}{body:MS}{g:TG}{D:Ends}{d:DV.D}{ds:List DV.D}{O1:St}{E1:zV}{H1:Hp}{T:Fz}{x:V}{P:St->Hp->Prop}(hg:GOk X g tg)
  (g1:Got X.K X.mg M O E H [] O1 E1 H1 T) (rx:Rep X.K X.mg (Hm (Mo M (T++O1.zip E1)) H1) d x) (fin:Fin X M O E H D (J2 tg body (d::ds) E1))
  (next:∀O2 E2 H2,Got X.K X.mg M O E H [] O2 E2 H2 T->Step M H1 (T++O1.zip E1) H2 (T++O2.zip E2)->Fin X M O E H D (J2 tg body ds E2)->P O2 H2) :
  g x O1 H1 λO2 H2=>tS X body {D with nx:=P,ct:=P,bk:=D.nx} O2 H2:=by
 simp only[J2]at fin;cases e1:tg d E1 with
 |z=>rw[e1]at fin;exact fin.elim|exc _ _=>rw[e1]at fin;exact fin.elim
 |ok E2 =>
  rw[e1]at fin;dsimp only at fin;refine hg M O1 E1 H1 T x d E2 _ g1.len (g1.fr.add rx) e1 λO2 g2=>?_
  have g12:=g1.trans' g2;refine vk (T0:=T) g2.len g2.fr ?_;cases e2:body E2 with
  |z=>rw[e2]at fin;exact fin|exc y E3=>rw[e2]at fin;exact λO' H' g'=>fin O' H' (g12.trans' g').dropAll
  |ok p =>
   obtain⟨fl,E3⟩:=p;rw[e2]at fin;cases fl with
   |nx=>exact λO' H' g'=>next O' E3 H' (g12.trans' g') (g2.st.trans g'.st) fin|ct=>exact λO' H' g'=>next O' E3 H' (g12.trans' g') (g2.st.trans g'.st) fin|bk=>exact λO' H' g'=>fin O' H' (g12.trans' g').dropAll|ret r=>exact λv O' H' g'=>fin v O' H' (g12.trans' g').dropT
def sForL(m:ME)(tg:MG)(body:MS):MS:=λE=>match m E with
 | .z=>.z| .exc x E1=>.exc x E1
 | .ok (r,E1)=>match r.d with
  | .l ds=>J2 tg body ds E1|_=>.z
def zCf{m:MS}{D:Ends}(h:tS X m D O H):∃M E,E.length=O.length/\FR X.K X.mg M H (O.zip E)/\Fin X M O E H D (m E):=h
def zEm{m:ME}{tg:MG}{g:TG}{body:MS}{D:Ends}(hg:GOk X g tg)(h:tS X (sForL m tg body) D O H):tFor (iList X.K (tM X m)) g (tS X body) D O H:=by
 obtain⟨M,E,hl,fr,k⟩:=zCf h;unfold sForL at k;refine zk (T0:=[]) hl fr ?_;cases ea:m E with
 |z=>rw[ea]at k;exact k|exc x E1=>rw[ea]at k;exact λH' g=>k O H' g
 |ok p =>
  obtain⟨r,E1⟩:=p;rw[ea]at k;intro v H1 g0;have g1:Got X.K X.mg M O E H [] O E1 H1 [(some v,.v r.d)]:=⟨g0.len,g0.fr.frz,g0.st.frz,g0.pk⟩;dsimp only at k;cases ed:r.d with
  |l ds =>
   rw[ed]at k g1;have rl:=g0.rep;rw[ed]at rl;obtain⟨a,xs,rfl,q1,q2⟩:=yJ rl;refine⟨a,rfl,⟨xs,zH.seq q1⟩,?_⟩;have em:∀(O':St) (E':zV),Mo M ([(some (V.ref a),Slot.v (.l ds))]++O'.zip E')=Mo M (O'.zip E'):=λO' E'=>ZY _ _ _ _
   refine zEF (K:=X.K) (a:=a) (xs:=xs) (λi O1 H2=>∃E2,Got X.K X.mg M O E H [] O1 E2 H2 [(some (.ref a),.v (.l ds))]/\SqL X.K (Hm (Mo M (O1.zip E2)) H2) a xs/\Reps X.K X.mg (Hm (Mo M (O1.zip E2)) H2) ds xs/\Fin X M O E H D (J2 tg body (ds.drop i) E2))
    ⟨E1,g1,q1,q2,k⟩ (λi O' H' _ ⟨E2,_,q,_⟩=>zH.seq q) ?_ ?_
   ·rintro i x O1 H2 hx ⟨E2,g2,s2,r2,fin⟩
    obtain⟨d,hd,rx⟩:=r2.get hx;have ed:ds.drop i=d::ds.drop (i+1):=by
     obtain⟨hi,rfl⟩:=qG.mp hd;exact List.drop_eq_getElem_cons hi
    rw[ed]at fin;refine uQ hg g2 (by rw[em];exact rx) fin λO3 E3 H3 g3 st fin3=>?_
    have sm:=st.same;rw[em,em]at sm;exact⟨E3,g3,sm.seq s2,r2.mono sm,fin3⟩
   ·rintro O1 H2 ⟨E2,g2,s2,r2,fin⟩
    rw[r2.length,drop_length]at fin;exact fin O1 H2 g2.dropAll
  |_=>rw[ed]at k;exact k.elim
def zK(lo:Int):Nat->List D
 |0=>[]|n+1=>.int lo::zK (lo+1) n
theorem yZ(lo:Int):∀n,(zK lo n).length=n
 |0=>rfl|n+1=>by simp[zK,yZ (lo+1) n]
theorem wR:∀(n i:Nat) (lo:Int),i<n->(zK lo n).drop i=.int (lo+i)::(zK lo n).drop (i+1)
 |0,_,_,h=>by omega|n+1,0,lo,_=>by simp[zK]
 |n+1,i+1,lo,h=>by
  have:=wR n i (lo+1) (by omega);simp only[zK,List.drop_succ_cons];rw[this];congr 2;omega
def sForR1(m:MA)(tg:MG)(body:MS):MS:=λE=>match m E with
 | .z=>.z| .exc x E1=>.exc x E1
 | .ok ([r],E1)=>match r.d with
  | .int j=>if -(2^62)<=j/\j<2^62 then J2 tg body (zK 0 j.toNat) E1 else .z|_=>.z
 |_=>.z
def Qf{tg:MG}{g:TG}{body:MS}{D:Ends}(hg:GOk X g tg){lo:Int}{n:Nat}{E1:zV}{H1:Hp}(g1:Got X.K X.mg M O E H [] O E1 H1 [])(fin:Fin X M O E H D (J2 tg body (zK lo n) E1)) :
  ∃W:Nat->Nat->St->Hp->Prop,(∃m,W 0 m O H1)/\∀i m O H,W i m O H ->
   ((Itr lo n).stop i H/\D.nx O H)\/((Itr lo n).go i H/\∃N:St->Hp->Prop,(∀O' H',N O' H'->∃m',m'<m/\W (i+1) m' O' H')/\∀x H',(Itr lo n).yld i H x H'->g x O H' λO2 H2=>tS X body {D with nx:=N,ct:=N,bk:=D.nx} O2 H2):=by
 refine zB4 (λi O1 H2=>∃E2,Got X.K X.mg M O E H [] O1 E2 H2 []/\Fin X M O E H D (J2 tg body ((zK lo n).drop i) E2)) ⟨E1,g1,fin⟩ ?_ ?_
 ·rintro i O1 H2 hi ⟨E2,g2,fin⟩
  rw[wR n i lo hi]at fin;exact uQ hg g2 (by simp only[Rep]) fin λO3 E3 H3 g3 st fin3=>⟨E3,g3,fin3⟩
 ·rintro O1 H2 ⟨E2,g2,fin⟩
  rw[List.drop_of_length_le (by rw[yZ];exact le_refl _)]at fin;exact fin O1 H2 g2
def zCg{m:MA}{tg:MG}{g:TG}{body:MS}{D:Ends}(hg:GOk X g tg)(h:tS X (sForR1 m tg body) D O H):tFor (iRng1 (tMA X m)) g (tS X body) D O H:=by
 obtain⟨M,E,hl,fr,k⟩:=zCf h;unfold sForR1 at k;refine JE (T0:=[]) hl fr ?_;cases ea:m E with
 |z=>rw[ea]at k;exact k|exc x E1=>rw[ea]at k;exact λH' g=>k O H' g
 |ok p =>
  obtain⟨rs,E1⟩:=p;rw[ea]at k
  match rs,k with
  | [r],k =>
   intro vs H1 hv g1;have rp:=Got.reps hv g1;dsimp only at k;cases ed:r.d with
   |int j =>
    rw[ed]at k;simp only[List.map,ed]at rp;obtain⟨v,rfl,h1⟩:=J0 rp;dsimp only at k;by_cases hc:-(2^62)<=j/\j<2^62
    ·rw[if_pos hc]at k
     exact⟨j,by rw[zR h1],hc.1,hc.2,Qf hg g1.dropAll k⟩
    ·rw[if_neg hc]at k;exact k.elim
   |_=>rw[ed]at k;exact k.elim
  | [],k=>exact k.elim|_::_::_,k=>exact k.elim
def sk_forL(hp:PassesOwn (model X.prog X.w) X.A X.env X.xe)(hc:X.calm=true)(hi:EOk X iter m)(hg:PG X tgt g)(ho:GOk X g tg)(hb:Qd X body mb)
  (hs:∀x,foldedSetIterable iter X.env x=pure x:=by intro _;rfl):SOk X (.For tgt iter body [] pos) (sForL m tg mb):=jV (zB3 hp hc (zB0 hi) hg hb hs) λD O H=>zEm ho
def zEn(hp:PassesOwn (model X.prog X.w) X.A X.env X.xe)(hc:X.calm=true)(hgl:Gl X "range")(hm:X.mg "range"=none)(ha:AOk X [a] m)(hg:PG X tgt g)(ho:GOk X g tg)(hb:Qd X body mb)
  (hst:zX a=false:=by rfl) (hs:∀x,foldedSetIterable (.Call (.Name "range" p) [a] [] cpos) X.env x=pure x:=by intro _;rfl):SOk X (.For tgt (.Call (.Name "range" p) [a] [] cpos) body [] pos) (sForR1 m tg mb) :=
 jV (zB3 hp hc (GN hgl hm ha (zBU hst)) hg hb hs) λD O H=>zCg ho
end
section
variable{X:Cx}{K:qH}{mg:Str->Option Value}{O:St}{M:Addr->Prop}{E:zV}{H H':Hp}{T0 Z T:Fz}
def zEo(h:s.list?=some ds)(h':s'.list?=some ds):uJ (o,s')=uJ (o,s):=by
 cases s<;>simp[Slot.list?]at h<;>cases s'<;>simp[Slot.list?]at h'<;>(cases o with|none=>rfl|some v=>cases v<;>rfl)
def Z4(h:s.list?=some ds)(h':s'.list?=some ds):yI ((o,s')::Z)=yI ((o,s)::Z):=by
 unfold yI;rw[filterMap_cons,filterMap_cons,zEo h h']
def FR.lab(f:FR K mg M H ((o,s)::Z))(h:s.list?=some ds)(h':s'.list?=some ds):FR K mg M H ((o,s')::Z):=by
 have em:Mo M ((o,s')::Z)=Mo M ((o,s)::Z):=by unfold Mo;rw[Z4 h h']
 refine⟨λo' d q=>?_,λo' t es q e=>?_,by rw[Z4 h h'];exact f.nd,f.mal⟩
 ·rw[em]
  rcases mem_cons.mp q with q|q
  ·cases q;cases h'
  ·exact f.val o' d (mem_cons_of_mem _ q)
 ·rw[em]
  rcases mem_cons.mp q with q|q
  ·cases q
   rw[zCQ h']at e;cases e;exact f.own o s _ qE (zCQ h)
  ·exact f.own o' t es (mem_cons_of_mem _ q) e
def Gg(hi:Z[i]?=some (o,s2)):((o,s1)::(T++Z)).Perm ((o,s2)::(T++Z.set i (o,s1))):=by
 have hlt:i<Z.length:=(qG.mp hi).1;have p1:Z.Perm ((o,s2)::Z.eraseIdx i):=by
  have:=zQ (o,s2) Z i hlt;rw[ju hi]at this;exact this
 have p2:(Z.set i (o,s1)).Perm ((o,s1)::Z.eraseIdx i):=zQ _ _ _ hlt;refine((p1.append_left T).cons _).trans ?_;refine List.Perm.trans ?_ ((p2.append_left T).cons _).symm;have a:(T++(o,s2)::Z.eraseIdx i).Perm ((o,s2)::(T++Z.eraseIdx i)):=perm_middle;have b:(T++(o,s1)::Z.eraseIdx i).Perm ((o,s1)::(T++Z.eraseIdx i)):=perm_middle;exact((a.cons _).trans (List.Perm.swap _ _ _)).trans (b.cons _).symm
inductive AR where
 |tmp (d:D)
 |ln (i:Nat)
 deriving Inhabited
def AR.slot:AR->Slot
 | .tmp d=>.v d| .ln _=>.e
def zv(vs:List V)(as:List AR):Fz:=(vs.map some).zip (as.map AR.slot)
def AV(O:St):List AR->List V->Prop
 | [],vs=>vs=[]| .tmp _::as,vs=>∃v r,vs=v::r/\AV O as r| .ln i::as,vs=>∃v r,vs=v::r/\O[i]?=some (some v)/\AV O as r
theorem AV.length:∀{as:List AR} {vs:List V},AV O as vs->vs.length=as.length
 | [],_,h=>by simp only[AV]at h;subst h;rfl| .tmp _::as,_,h=>by simp only[AV]at h;obtain⟨v,r,rfl,h⟩:=h;simp[AV.length h]| .ln i::as,_,h=>by simp only[AV]at h;obtain⟨v,r,rfl,_,h⟩:=h;simp[AV.length h]
def zM:List AR->zV->Out (List Slot×zV)
 | [],E=>.ok ([],E)
 | .tmp d::as,E=>match zM as E with
  | .ok (ss,E')=>.ok (.v d::ss,E')|_=>.z
 | .ln i::as,E=>match E[i]? with
  |none=>.z
  |some s=>match s.list? with
   |none=>.z
   |some ds=>match zM as (E.set i .e)with
    | .ok (ss,E')=>.ok (.par ds::ss,E')|_=>.z
def zJ:List AR->List Slot->zV->zV->Out zV
 | [],[],_,E=>.ok E| .tmp _::as,_::ss,E0,E=>zJ as ss E0 E
 | .ln i::as,s'::ss,E0,E=>match E0[i]? with
  |none=>.z
  |some s=>match s.list?,s'.list?,E[i]? with
   |some _,some ds,some .e=>zJ as ss E0 (E.set i (s.put ds))|_,_,_=>.z
 |_,_,_,_=>.z
theorem WX:∀(as:List AR) {vs:List V} {E E':zV} {ss:List Slot} {T:Fz},E.length=O.length->AV O as vs->zM as E=.ok (ss,E')->FR K mg M H (T++(zv vs as++O.zip E)) ->
  FR K mg M H (T++((vs.map some).zip ss++O.zip E'))/\(∀b,b∈yI (T++(zv vs as++O.zip E))↔b∈yI (T++((vs.map some).zip ss++O.zip E')))/\ss.length=as.length/\E'.length=O.length
 | [],vs,E,E',ss,T,hl,av,e,f=>by
  cases e;simp only[AV]at av;subst av;exact⟨f,λb=>Iff.rfl,rfl,hl⟩
 | .tmp d::as,vs,E,E',ss,T,hl,av,e,f=>by
  simp only[AV]at av;obtain⟨v,r,rfl,av⟩:=av;simp only[zM]at e;cases e1:zM as E with
  |z=>rw[e1]at e;cases e|exc _ _=>rw[e1]at e;cases e
  |ok p =>
   obtain⟨ss1,E1⟩:=p;rw[e1]at e;cases e;have f1:FR K mg M H ((T++[(some v,.v d)])++(zv r as++O.zip E)):=by
    rw[append_assoc];exact f
   obtain⟨g1,g2,g3,g4⟩:=WX as hl av e1 f1;refine⟨by rw[append_assoc]at g1;exact g1,λb=>?_,by simp[g3],g4⟩;have:=g2 b;rw[append_assoc,append_assoc]at this;exact this
 | .ln i::as,vs,E,E',ss,T,hl,av,e,f=>by
  simp only[AV]at av;obtain⟨v,r,rfl,hv,av⟩:=av;simp only[zM]at e;cases e0:E[i]? with
  |none=>rw[e0]at e;cases e
  |some s =>
   rw[e0]at e;dsimp only at e;cases e2:s.list? with
   |none=>rw[e2]at e;cases e
   |some ds =>
    rw[e2]at e;dsimp only at e;cases e1:zM as (E.set i .e)with
    |z=>rw[e1]at e;cases e|exc _ _=>rw[e1]at e;cases e
    |ok p =>
     obtain⟨ss1,E1⟩:=p;rw[e1]at e;cases e;obtain⟨o,h1,h2⟩:=jj hl e0;have ho:o=some v:=by rw[hv]at h1;exact(qJ h1).symm
     subst ho;have ez:O.zip (E.set i .e)=(O.zip E).set i (some v,.e):=zT .e hv;have pA:(T++(((some v,Slot.e)::zv r as)++O.zip E)).Perm ((some v,s)::(T++(zv r as++O.zip (E.set i .e)))):=by
      rw[ez];have a:(T++(((some v,Slot.e)::zv r as)++O.zip E)).Perm ((some v,Slot.e)::((T++zv r as)++O.zip E)):=by
       rw[append_assoc];exact perm_middle
      refine a.trans ((Gg h2).trans ?_);rw[append_assoc]
     have f1:=(f.perm pA).lab e2 (s':=.par ds) rfl;have f2:FR K mg M H ((((some v,Slot.par ds))::T)++(zv r as++O.zip (E.set i .e))):=f1;obtain⟨g1,g2,g3,g4⟩:=WX as (by simp[hl]) av e1 f2;have pB:(((some v,Slot.par ds)::T)++((r.map some).zip ss1++O.zip E')).Perm (T++(((some v,Slot.par ds)::(r.map some).zip ss1)++O.zip E')):=perm_middle.symm;refine⟨g1.perm pB,λb=>?_,by simp[g3],g4⟩;have x1:b∈yI (T++(((some v,Slot.e)::zv r as)++O.zip E))↔b∈yI ((some v,s)::(T++(zv r as++O.zip (E.set i .e)))):=(pA.filterMap uJ).mem_iff;have x2:yI ((some v,Slot.par ds)::(T++(zv r as++O.zip (E.set i .e))))=yI ((some v,s)::(T++(zv r as++O.zip (E.set i .e)))):=Z4 e2 rfl;have x3:=g2 b;have x4:b∈yI (((some v,Slot.par ds)::T)++((r.map some).zip ss1++O.zip E'))↔b∈yI (T++(((some v,Slot.par ds)::(r.map some).zip ss1)++O.zip E')):=(pB.filterMap uJ).mem_iff;refine x1.trans ?_;rw[<- x2];exact x3.trans x4
theorem uR:∀(as:List AR) {vs:List V} {E0 E E':zV} {ss:List Slot} {T:Fz},E.length=O.length->AV O as vs->zJ as ss E0 E=.ok E'->FR K mg M H (T++((vs.map some).zip ss++O.zip E)) ->
  FR K mg M H (T++O.zip E')/\(∀b,b∈yI (T++O.zip E')->b∈yI (T++((vs.map some).zip ss++O.zip E)))/\E'.length=O.length
 | [],vs,E0,E,E',ss,T,hl,av,e,f=>by
  cases ss with
  |cons _ _=>cases e
  |nil =>
   cases e;simp only[AV]at av;subst av;exact⟨f,λb q=>q,hl⟩
 | .tmp d::as,vs,E0,E,E',ss,T,hl,av,e,f=>by
  simp only[AV]at av;obtain⟨v,r,rfl,av⟩:=av;cases ss with
  |nil=>cases e
  |cons s ss =>
   simp only[zJ]at e;have sub:(T++((r.map some).zip ss++O.zip E)).Sublist (T++(((some v,s)::(r.map some).zip ss)++O.zip E)):=(sublist_cons_self _ _).append_left _;obtain⟨g1,g2,g3⟩:=uR as hl av e (f.sub sub);exact⟨g1,λb q=>zC sub b (g2 b q),g3⟩
 | .ln i::as,vs,E0,E,E',ss,T,hl,av,e,f=>by
  simp only[AV]at av;obtain⟨v,r,rfl,hv,av⟩:=av;cases ss with
  |nil=>cases e
  |cons s' ss =>
   simp only[zJ]at e;cases e0:E0[i]? with
   |none=>rw[e0]at e;cases e
   |some s =>
    rw[e0]at e;dsimp only at e;cases e1:s.list? with
    |none=>rw[e1]at e;cases e
    |some ds0 =>
     cases e2:s'.list? with
     |none=>rw[e1,e2]at e;cases e
     |some ds =>
      cases e3:E[i]? with
      |none=>rw[e1,e2,e3]at e;cases e
      |some se =>
       rw[e1,e2,e3]at e;cases se with
       |e =>
        dsimp only at e;obtain⟨o,h1,h2⟩:=jj hl e3;have ho:o=some v:=by rw[hv]at h1;exact(qJ h1).symm
        subst ho;have ez:O.zip (E.set i (s.put ds))=(O.zip E).set i (some v,s.put ds):=zT _ hv;have hp:(s.put ds).list?=some ds:=(uP (p:=0) e1).2;have pA:(T++(((some v,s')::(r.map some).zip ss)++O.zip E)).Perm ((some v,s')::((T++(r.map some).zip ss)++O.zip E)):=by
         rw[append_assoc];exact perm_middle
        have f1:=(f.perm pA).lab e2 hp;have pB:((some v,s.put ds)::((T++(r.map some).zip ss)++O.zip E)).Perm ((some v,Slot.e)::((T++(r.map some).zip ss)++O.zip (E.set i (s.put ds)))):=by
         rw[ez];exact Gg h2
        have f2:=(f1.perm pB).tail;rw[append_assoc]at f2;obtain⟨g1,g2,g3⟩:=uR as (by simp[hl]) av e f2;refine⟨g1,λb q=>?_,g3⟩;have q1:=g2 b q;rw[<- append_assoc]at q1;have q2:b∈yI ((some v,Slot.e)::((T++(r.map some).zip ss)++O.zip (E.set i (s.put ds)))):=zC (sublist_cons_self _ _) b q1;have q3:=zD pB.symm b q2;rw[Z4 e2 hp]at q3;exact zD pA.symm b q3
       |_=>cases e
def Qg:List AR->List Nat
 | []=>[]| .tmp _::as=>Qg as| .ln i::as=>i::Qg as
theorem uS:∀(as:List AR) {E E':zV} {ss:List Slot},zM as E=.ok (ss,E')->∀(k:Nat),k∉Qg as->E'[k]?=E[k]?
 | [],E,E',ss,e,k,h=>by cases e;rfl
 | .tmp d::as,E,E',ss,e,k,h=>by
  simp only[zM]at e;cases e1:zM as E with
  |z=>rw[e1]at e;cases e|exc _ _=>rw[e1]at e;cases e
  |ok p =>
   obtain⟨ss1,E1⟩:=p;rw[e1]at e;cases e;exact uS as e1 k h
 | .ln i::as,E,E',ss,e,k,h=>by
  simp only[zM]at e;cases e0:E[i]? with
  |none=>rw[e0]at e;cases e
  |some s =>
   rw[e0]at e;dsimp only at e;cases e2:s.list? with
   |none=>rw[e2]at e;cases e
   |some ds =>
    rw[e2]at e;dsimp only at e;cases e1:zM as (E.set i .e)with
    |z=>rw[e1]at e;cases e|exc _ _=>rw[e1]at e;cases e
    |ok p =>
     obtain⟨ss1,E1⟩:=p;rw[e1]at e;cases e;simp only[Qg,mem_cons,not_or]at h;rw[uS as e1 k h.2,getElem?_set_ne (λq=>h.1 q.symm)]
theorem Z5:∀(as:List AR) {E0 E E':zV} {ss:List Slot},zJ as ss E0 E=.ok E'->∀(k:Nat),E'[k]?=E[k]?\/∃(s:Slot) (ds:List D),E0[k]?=some s/\E'[k]?=some (s.put ds)
 | [],E0,E,E',ss,e,k=>by
  cases ss with
  |cons _ _=>cases e|nil=>cases e;exact .inl rfl
 | .tmp d::as,E0,E,E',ss,e,k=>by
  cases ss with
  |nil=>cases e|cons s ss=>exact Z5 as e k
 | .ln i::as,E0,E,E',ss,e,k=>by
  cases ss with
  |nil=>cases e
  |cons s' ss =>
   simp only[zJ]at e;cases e0:E0[i]? with
   |none=>rw[e0]at e;cases e
   |some s =>
    rw[e0]at e;dsimp only at e;cases e1:s.list? with
    |none=>rw[e1]at e;cases e
    |some ds0 =>
     cases e2:s'.list? with
     |none=>rw[e1,e2]at e;cases e
     |some ds =>
      cases e3:E[i]? with
      |none=>rw[e1,e2,e3]at e;cases e
      |some se =>
       rw[e1,e2,e3]at e;cases se with
       |e =>
        dsimp only at e;rcases Z5 as e k with q|q
        ·by_cases ek:i=k
         ·subst ek
          have hlt:i<E.length:=(qG.mp e3).1;rw[getElem?_set_self hlt]at q;exact .inr ⟨s,ds,e0,q⟩
         ·rw[getElem?_set_ne ek]at q
          exact .inl q
        ·exact .inr q
       |_=>cases e
theorem WY:∀(as:List AR) {E0 E E':zV} {ss:List Slot},zJ as ss E0 E=.ok E'->∀(k:Nat),k∈Qg as->∃(s:Slot) (ds:List D),E0[k]?=some s/\E'[k]?=some (s.put ds)
 | [],E0,E,E',ss,e,k,h=>by cases h
 | .tmp d::as,E0,E,E',ss,e,k,h=>by
  cases ss with
  |nil=>cases e|cons s ss=>exact WY as e k h
 | .ln i::as,E0,E,E',ss,e,k,h=>by
  cases ss with
  |nil=>cases e
  |cons s' ss =>
   simp only[zJ]at e;cases e0:E0[i]? with
   |none=>rw[e0]at e;cases e
   |some s =>
    rw[e0]at e;dsimp only at e;cases e1:s.list? with
    |none=>rw[e1]at e;cases e
    |some ds0 =>
     cases e2:s'.list? with
     |none=>rw[e1,e2]at e;cases e
     |some ds =>
      cases e3:E[i]? with
      |none=>rw[e1,e2,e3]at e;cases e
      |some se =>
       rw[e1,e2,e3]at e;cases se with
       |e =>
        dsimp only at e;by_cases ek:i=k
        ·subst ek
         rcases Z5 as e i with q|q
         ·have hlt:i<E.length:=(qG.mp e3).1
          rw[getElem?_set_self hlt]at q;exact⟨s,ds,e0,q⟩
         ·exact q
        ·simp only[Qg,mem_cons]at h
         rcases h with h|h
         ·exact absurd h.symm ek
         ·exact WY as e k h
       |_=>cases e
def zCh(h1:zM as E1=.ok (ss,E2))(h2:zJ as outs E1 E2=.ok E3):PKp O E1 O E3:=λk ds e=>by
 refine⟨?_,rfl⟩;by_cases hk:k∈Qg as
 ·obtain⟨s,es,q1,q2⟩:=WY as h2 k hk
  rw[e]at q1;cases q1;exact⟨es,q2⟩
 ·rcases Z5 as h2 k with q|⟨s,es,q1,q2⟩
  ·rw[q,uS as h1 k hk];exact⟨ds,e⟩
  ·rw[e]at q1;cases q1
   exact⟨es,q2⟩
abbrev MF:=List Slot->Out (R×List Slot)
def spM(K:qH)(mg:Str->Option Value)(n:Nat)(F:MF):Sp:=λvs H Q XQ=>vs.length=n/\∃(M:Addr->Prop) (ss:List Slot),ss.length=vs.length/\FR K mg M H ((vs.map some).zip ss)/\match F ss with
 | .z=>False| .ok (r,outs)=>∀v H',outs.length=vs.length->FR K mg M H' ((some v,r.slot)::(vs.map some).zip outs)->Step M H ((vs.map some).zip ss) H' ((some v,r.slot)::(vs.map some).zip outs)->Q v H'| .exc x _=>∀C od H',mg x.cls=some (.ref C)->Fs od H' x.cls x.vs->FR K mg M H' []->Step M H ((vs.map some).zip ss) H' []->XQ (.ref C) od H'
inductive Arg where
 |ev (m:ME)
 |lend (i:Nat)
def yE:List Arg->zV->Out (List AR×zV)
 | [],E=>.ok ([],E)
 | .ev m::as,E=>match m E with
  | .z=>.z| .exc x E1=>.exc x E1
  | .ok (r,E1)=>match yE as E1 with
   | .ok (ars,E2)=>.ok (.tmp r.d::ars,E2)| .exc x E2=>.exc x E2| .z=>.z
 | .lend i::as,E=>if jB E[i]?=true then .z else match yE as E with
  | .ok (ars,E2)=>.ok (.ln i::ars,E2)| .exc x E2=>.exc x E2| .z=>.z
def tArgs(X:Cx)(as:List Arg):TA:=λO H Q=>∃M E,E.length=O.length/\FR X.K X.mg M H (O.zip E)/\match yE as E with
 | .z=>False| .ok (ars,E')=>∀vs H',AV O ars vs->Got X.K X.mg M O E H [] O E' H' (zv vs ars)->Q vs H'| .exc x E'=>∀H',Got X.K X.mg M O E H [] O E' H' []->XE X O H' x
abbrev zD4(X:Cx)(es:List Expr)(as:List Arg):Prop:=PA X es (tArgs X as)
def WZ{Q:List V->Hp->Prop}(hl:E.length=O.length)(h:FR X.K X.mg M H (T0++O.zip E))
  (k:match yE as E with | .z=>False | .ok (ars,E')=>∀vs H',AV O ars vs->Got X.K X.mg M O E H T0 O E' H' (zv vs ars)->Q vs H' | .exc x E'=>∀H',Got X.K X.mg M O E H T0 O E' H' []->XE X O H' x):tArgs X as O H Q:=by
 refine⟨Mo M T0,E,hl,h.inner,?_⟩;cases e:yE as E with
 |z=>rw[e]at k;exact k|ok a=>rw[e]at k;exact λvs H' av g=>k vs H' av (g.outer h)|exc x E'=>rw[e]at k;exact λH' g=>k H' (g.outer h)
def ga_nil:zD4 X [] []:=Ga GP λO H Q ⟨M,E,hl,fr,k⟩=>k [] H (by simp only[AV]) (Got.refl (T0:=[]) hl fr)
def ga_ev(he:EOk X e m)(hr:zD4 X es as)(hs:zX e=false:=by rfl):zD4 X (e::es) (.ev m::as):=Ga (Jw he hr (zf hs)) λO H Q ⟨M,E,hl,fr,k⟩=>by
 simp only[yE]at k;refine zk (T0:=[]) hl fr ?_;cases ea:m E with
 |z=>rw[ea]at k;exact k|exc x E1=>rw[ea]at k;exact k
 |ok p =>
  obtain⟨r1,E1⟩:=p;rw[ea]at k;intro x H1 g0;have g1:Got X.K X.mg M O E H [] O E1 H1 [(some x,.v r1.d)]:=⟨g0.len,g0.fr.frz,g0.st.frz,g0.pk⟩;refine WZ (T0:=[(some x,.v r1.d)]) g1.len g1.fr ?_;dsimp only at k;cases eb:yE as E1 with
  |z=>rw[eb]at k;exact k|exc x E2=>rw[eb]at k;exact λH' g=>k H' (g1.trans' g).dropAll
  |ok p =>
   obtain⟨ars,E2⟩:=p;rw[eb]at k;intro vs H2 av g2;refine k (x::vs) H2 (by simp only[AV];exact⟨x,vs,rfl,av⟩) ?_;exact(g1.trans' g2).perm (perm_append_comm)
def ga_lend(hv:PE X (.Name x p) (vd i))(hr:zD4 X es as)  : zD4 X (.Name x p::es) (.lend i::as):=Ga (Jw hv hr (zf rfl)) λO H Q ⟨M,E,hl,fr,k⟩=>by
 simp only[yE]at k;cases em:jB E[i]? with
 |true=>rw[em]at k;exact k.elim
 |false =>
  rw[em]at k;simp only[Bool.false_eq_true,if_false]at k;obtain⟨s,hs1,hs2⟩:=Y0 em;obtain⟨v,hv⟩:=vm hl fr hs1 hs2;refine⟨v,hv,?_⟩;refine WZ (T0:=[]) hl fr ?_;cases eb:yE as E with
  |z=>rw[eb]at k;exact k|exc x E2=>rw[eb]at k;exact k
  |ok p =>
   obtain⟨ars,E2⟩:=p;rw[eb]at k;intro vs H2 av g2;refine k (v::vs) H2 (by simp only[AV];exact⟨v,vs,rfl,hv,av⟩) ?_;have em2:Mo M ((some v,Slot.e)::(zv vs ars++([]++O.zip E2)))=Mo M (zv vs ars++([]++O.zip E2)):=GZ _ _ _;refine⟨g2.len,⟨λo d q=>?_,λo t ds q e=>?_,?_,g2.fr.mal⟩,⟨?_,g2.st.keep⟩,g2.pk⟩
   ·show ∃v',_/\Rep X.K X.mg (Hm (Mo M ((some v,Slot.e)::(zv vs ars++([]++O.zip E2)))) H2) d v'
    rw[em2];rcases mem_cons.mp q with q|q
    ·cases q
    ·exact g2.fr.val o d q
   ·show ∃a ho,_/\_/\_/\CRep X.K X.mg (Hm (Mo M ((some v,Slot.e)::(zv vs ars++([]++O.zip E2)))) H2) a ds ho
    rw[em2];rcases mem_cons.mp q with q|q
    ·cases q;cases e
    ·exact g2.fr.own o t ds q e
   ·show(yI ((some v,Slot.e)::(zv vs ars++([]++O.zip E2)))).Nodup
    rw[zt];exact g2.fr.nd
   ·show Yv _ (Hm (Mo M ((some v,Slot.e)::(zv vs ars++([]++O.zip E2)))) H2)
    rw[em2];exact g2.st.same
def Gh:List AR->Bool
 | []=>true| .tmp _::as=>Gh as| .ln _::_=>false
theorem vn:∀{as:List AR} {E E':zV} {ss:List Slot},Gh as=true->zM as E=.ok (ss,E')->E'=E
 | [],E,E',ss,_,e=>by cases e;rfl
 | .tmp d::as,E,E',ss,h,e=>by
  simp only[zM]at e;cases q:zM as E with
  |z=>rw[q]at e;cases e|exc _ _=>rw[q]at e;cases e|ok p=>obtain⟨s1,E1⟩:=p;rw[q]at e;cases e;exact vn (as:=as) h q
 | .ln i::as,E,E',ss,h,e=>by cases h
def wT(F:MF)(as:List Arg):ME:=λE=>match yE as E with
 | .z=>.z| .exc x E1=>.exc x E1
 | .ok (ars,E1)=>match zM ars E1 with
  | .ok (ss,E2)=>match F ss with
   | .ok (r,outs)=>match zJ ars outs E1 E2 with
    | .ok E3=>.ok (r,E3)|_=>.z
   | .exc x _=>if Gh ars=true then .exc ⟨x.cls,false,x.vs⟩ E1 else .z| .z=>.z
  |_=>.z
def zEp(hn:ars.length=n)(e1:zM ars E1=.ok (ss,E2))(e2:F ss=.ok (r,outs))(e3:zJ ars outs E1 E2=.ok E3)
  (av:AV O ars vs) (g:Got K mg M O E H [] O E1 H1 (zv vs ars)) (k:∀v H',Got K mg M O E H [] O E3 H' [(some v,r.slot)]->Q v H'):spM K mg n F vs H1 Q XQ:=by
 obtain⟨f1,o1,l1,l2⟩:=WX (T:=[]) ars g.len av e1 g.fr;have f1':FR K mg M H1 (O.zip E2++(vs.map some).zip ss):=FR.perm (T:=O.zip E2++(vs.map some).zip ss) (Z:=(vs.map some).zip ss++O.zip E2) f1 perm_append_comm;have hlen:=av.length;refine⟨hlen.trans hn,Mo M (O.zip E2),ss,l1.trans hlen.symm,f1'.inner,?_⟩;rw[e2];intro v H' ol f2 s2;have f3:=FR.outer f1' f2 s2;have s3:=Step.outer s2;have p:(O.zip E2++((some v,r.slot)::(vs.map some).zip outs)).Perm ([(some v,r.slot)]++((vs.map some).zip outs++O.zip E2)):=by
  refine perm_append_comm.trans ?_;exact List.Perm.refl _
 obtain⟨f4,o4,l4⟩:=uR ars l2 av e3 (f3.perm p);refine k v H' ⟨l4,f4,?_,g.pk.trans (zCh e1 e3)⟩;have st1:Step M H (O.zip E) H1 (O.zip E2++(vs.map some).zip ss):=g.st.weak λb hb=>(o1 b).mpr (zD (T:=O.zip E2++(vs.map some).zip ss) (Z:=(vs.map some).zip ss++O.zip E2) perm_append_comm b hb)
 have st2:=st1.trans s3;exact st2.weak λb hb=>zD p.symm b (o4 b hb)
def zEq(hn:ars.length=n)(hl:Gh ars=true)(e1:zM ars E1=.ok (ss,E2))(e2:F ss=.exc x outs)
  (av:AV O ars vs) (g:Got K mg M O E H [] O E1 H1 (zv vs ars)) (k:∀C od H',mg x.cls=some (.ref C)->Fs od H' x.cls x.vs->Got K mg M O E H [] O E1 H' []->XQ (.ref C) od H'):spM K mg n F vs H1 Q XQ:=by
 obtain⟨f1,o1,l1,l2⟩:=WX (T:=[]) ars g.len av e1 g.fr;have f1':FR K mg M H1 (O.zip E2++(vs.map some).zip ss):=FR.perm (T:=O.zip E2++(vs.map some).zip ss) (Z:=(vs.map some).zip ss++O.zip E2) f1 perm_append_comm;have hlen:=av.length;refine⟨hlen.trans hn,Mo M (O.zip E2),ss,l1.trans hlen.symm,f1'.inner,?_⟩;rw[e2];intro C od H' hm hf f2 s2;have f3:=FR.outer f1' f2 s2;have s3:=Step.outer s2;rw[append_nil]at f3 s3;have st1:Step M H (O.zip E) H1 (O.zip E2++(vs.map some).zip ss):=g.st.weak λb hb=>(o1 b).mpr (zD (T:=O.zip E2++(vs.map some).zip ss) (Z:=(vs.map some).zip ss++O.zip E2) perm_append_comm b hb)
 obtain rfl:=vn hl e1;exact k C od H' hm hf ⟨g.len,f3,st1.trans s3,g.pk⟩
theorem jb:∀(as:List Arg) {E E':zV} {ars:List AR},yE as E=.ok (ars,E')->ars.length=as.length
 | [],E,E',ars,e=>by cases e;rfl
 | .ev m::as,E,E',ars,e=>by
  simp only[yE]at e;cases ea:m E with
  |z=>rw[ea]at e;cases e|exc _ _=>rw[ea]at e;cases e
  |ok p =>
   obtain⟨r,E1⟩:=p;rw[ea]at e;dsimp only at e;cases eb:yE as E1 with
   |z=>rw[eb]at e;cases e|exc _ _=>rw[eb]at e;cases e|ok p=>obtain⟨a,b⟩:=p;rw[eb]at e;cases e;simp[jb as eb]
 | .lend i::as,E,E',ars,e=>by
  simp only[yE]at e;split at e
  ·cases e
  ·cases eb:yE as E with
   |z=>rw[eb]at e;cases e|exc _ _=>rw[eb]at e;cases e|ok p=>obtain⟨a,b⟩:=p;rw[eb]at e;cases e;simp[jb as eb]
def zEr(hn:as.length=n)(h:tM X (wT F as) O H Q):tArgs X as O H λvs H1=>spM X.K X.mg n F vs H1 Q (EX X O):=by
 obtain⟨M,E,hl,fr,k⟩:=h;unfold wT at k;refine WZ (T0:=[]) hl fr ?_;cases ea:yE as E with
 |z=>rw[ea]at k;exact k|exc x E1=>rw[ea]at k;exact k
 |ok p =>
  obtain⟨ars,E1⟩:=p;rw[ea]at k;intro vs H1 av g;dsimp only at k;cases e1:zM ars E1 with
  |z=>rw[e1]at k;exact k.elim|exc _ _=>rw[e1]at k;exact k.elim
  |ok p =>
   obtain⟨ss,E2⟩:=p;rw[e1]at k;dsimp only at k;cases e2:F ss with
   |z=>rw[e2]at k;exact k.elim
   |exc x o =>
    rw[e2]at k;dsimp only at k;cases hl:Gh ars with
    |false=>rw[hl]at k;exact k.elim
    |true =>
     rw[hl]at k;exact zEq ((jb as ea).trans hn) hl e1 e2 av g λC od H' hm hf g'=>⟨⟨x.cls,false,x.vs⟩,C,rfl,hm,rfl,hf,k H' g'⟩
   |ok p =>
    obtain⟨r,outs⟩:=p;rw[e2]at k;dsimp only at k;cases e3:zJ ars outs E1 E2 with
    |z=>rw[e3]at k;exact k.elim|exc _ _=>rw[e3]at k;exact k.elim
    |ok E3 =>
     rw[e3]at k;exact zEp ((jb as ea).trans hn) e1 e2 e3 av g k
inductive Mask:Fz->Fz->Prop
 |nil (Z:Fz):Mask Z []
 |keep {z:Option V×Slot} {Z W:Fz}:Mask Z W->Mask (z::Z) (z::W)
 |skip {z:Option V×Slot} {Z W:Fz}:Mask Z W->Mask (z::Z) W
 |extra {o:Option V} {Z W:Fz}:Mask Z W->Mask Z ((o,.e)::W)
def Mask.emq(h:Mask Z W):Mask (z::Z) ((o,.e)::W):=.skip (.extra h)
theorem Mask.sub:∀{Z W:Fz},Mask Z W->(yI W).Sublist (yI Z)
 |_,_,.nil Z=>by simp[yI]
 |_,_,.keep (z:=z) (Z:=Z) (W:=W) h=>by
  have e:∀W:Fz,yI (z::W)=yI [z]++yI W:=λW=>zY [z] W
  rw[e Z,e W];exact h.sub.append_left _
 |_,_,.skip (z:=z) (Z:=Z) (W:=W) h=>by
  have e:∀W:Fz,yI (z::W)=yI [z]++yI W:=λW=>zY [z] W
  rw[e Z];exact h.sub.trans (sublist_append_right _ _)
 |_,_,.extra (Z:=Z) (W:=W) h=>by
  rw[zt];exact h.sub
theorem Mask.mem:∀{Z W:Fz},Mask Z W->∀o s,s≠Slot.e->(o,s)∈W->(o,s)∈Z
 |_,_,.nil Z,o,s,hs,h=>by cases h
 |_,_,.keep h,o,s,hs,q=>by
  rcases mem_cons.mp q with q|q
  ·subst q;exact qE
  ·exact mem_cons_of_mem _ (h.mem o s hs q)
 |_,_,.skip h,o,s,hs,q=>mem_cons_of_mem _ (h.mem o s hs q)
 |_,_,.extra h,o,s,hs,q=>by
  rcases mem_cons.mp q with q|q
  ·cases q;exact absurd rfl hs
  ·exact h.mem o s hs q
def FR.mask(f:FR K mg M H Z)(h:Mask Z W):FR K mg M H W where
 val:=λo d q=>by
  obtain⟨v,e,r⟩:=f.val o d (h.mem o _ (by intro z;cases z) q);exact⟨v,e,r.mono (jS (JC λb hb=>h.sub.subset hb))⟩
 own:=λo s ds q e=>by
  obtain⟨a,xs,e1,e2,e3,r⟩:=f.own o s ds (h.mem o s (by intro z;subst z;cases e) q) e;exact⟨a,xs,e1,e2,e3,r.mono (jS (JC λb hb=>h.sub.subset hb))⟩
 nd:=f.nd.sublist h.sub
 mal:=f.mal
def zg:List Slot->zV->List Slot
 | [],_=>[]| .par _::ss,s::E=>s::zg ss E|_::ss,_::E=>.e::zg ss E|_::ss,[]=>.e::zg ss []
def fnM(N:Nat)(body:MS):MF:=λss=>match body (ss++replicate (N-ss.length) .e)with
 | .ok (.ret r,E')=>.ok (r,zg ss E')| .ok (.nx,E')=>.ok (.v .non,zg ss E')| .exc x E'=>.exc x (zg ss E')|_=>.z
theorem zd:∀(ss:List Slot) (E:zV),(zg ss E).length=ss.length
 | [],_=>rfl| .par _::ss,s::E=>by simp[zg,zd ss E]| .e::ss,s::E=>by simp[zg,zd ss E]| .v _::ss,s::E=>by simp[zg,zd ss E]| .own _::ss,s::E=>by simp[zg,zd ss E]| .dct _ _::ss,s::E=>by simp[zg,zd ss E]| .par _::ss,[]=>by simp[zg,zd ss []]| .e::ss,[]=>by simp[zg,zd ss []]| .v _::ss,[]=>by simp[zg,zd ss []]| .own _::ss,[]=>by simp[zg,zd ss []]| .dct _ _::ss,[]=>by simp[zg,zd ss []]
theorem Z6:∀(ss:List Slot) (vs:List (Option V)) (O:St) (E:zV),E.length=O.length->vs.length=ss.length->(∀(i:Nat) ds,ss[i]?=some (.par ds)->O[i]?=vs[i]?)->Mask (O.zip E) (vs.zip (zg ss E))
 | [],vs,O,E,_,_,_=>by
  simp only[zg,List.zip_nil_right];exact .nil _
 |s::ss,[],O,E,_,h,_=>by simp at h|s::ss,v::vs,[],y::E,h,_,_=>by simp at h|s::ss,v::vs,x::O,[],h,_,_=>by simp at h
 |s::ss,v::vs,[],[],h1,h2,h4=>by
  have ih:=Z6 ss vs [] [] rfl (by simpa using h2) λi ds e=>by
   have:=h4 (i+1) ds (by simpa using e);simpa using this
  cases s<;>exact .extra ih
 |s::ss,v::vs,x::O,y::E,h1,h2,h4=>by
  have ih:=Z6 ss vs O E (by simpa using h1) (by simpa using h2) λi ds e=>by
   have:=h4 (i+1) ds (by simpa using e);simpa using this
  cases s with
  |par ds =>
   have e:=h4 0 ds rfl;simp at e;subst e;simp only[zg,zip_cons_cons];exact .keep ih
  |e=>simp only[zg,zip_cons_cons];exact .emq ih|v d=>simp only[zg,zip_cons_cons];exact .emq ih|own ds=>simp only[zg,zip_cons_cons];exact .emq ih|dct ks vs=>simp only[zg,zip_cons_cons];exact .emq ih
theorem Qh:∀n:Nat,(replicate n (none:Option V)).zip (replicate n Slot.e)=replicate n (none,Slot.e)
 |0=>rfl|n+1=>by simp[replicate_succ,Qh n]
def uT(n:Nat):yI (replicate n ((none:Option V),Slot.e))=[]:=by
 induction n with
 |zero=>rfl|succ n ih=>rw[replicate_succ,zt,ih]
def FR.emps(f:FR K mg M H Z)(n:Nat):FR K mg M H (Z++replicate n (none,.e)):=by
 have eo:yI (Z++replicate n (none,Slot.e))=yI Z:=by rw[zY,uT,append_nil]
 have em:Mo M (Z++replicate n (none,Slot.e))=Mo M Z:=by unfold Mo;rw[eo]
 refine⟨λo d q=>?_,λo s ds q e=>?_,by rw[eo];exact f.nd,f.mal⟩
 ·rw[em]
  rcases mem_append.mp q with q|q
  ·exact f.val o d q
  ·have:=List.eq_of_mem_replicate q;cases this
 ·rw[em]
  rcases mem_append.mp q with q|q
  ·exact f.own o s ds q e
  ·have:=List.eq_of_mem_replicate q;cases this;cases e
def body_ok(hx:∀x O' H',(∀C od,X.mg x.cls=some (.ref C)->Fs od H' x.cls x.vs->XQ (.ref C) od H')->XE X O' H' x)(h:spM X.K X.mg n (fnM N.length body) vs H Q XQ):tS X body {nx:=λ_ H'=>Q .non H',rt:=Q} (L2.JA N vs) H:=by
 obtain⟨hv,M,ss,hl,f,k⟩:=h;have e0:(L2.JA N vs).zip (ss++replicate (N.length-ss.length) Slot.e)=(vs.map some).zip ss++replicate (N.length-ss.length) (none,.e):=by
  unfold L2.JA;rw[List.zip_append (by simp[hl]),hl,Qh]
 have hE:(ss++replicate (N.length-ss.length) Slot.e).length=(L2.JA N vs).length:=by
  unfold L2.JA;simp[hl]
 have f0:FR X.K X.mg M H ((L2.JA N vs).zip (ss++replicate (N.length-ss.length) Slot.e)):=by rw[e0];exact f.emps _
 have eo:∀b,b∈yI ((L2.JA N vs).zip (ss++replicate (N.length-ss.length) Slot.e))->b∈yI ((vs.map some).zip ss):=λb hb=>by
  rw[e0,zY,uT,append_nil]at hb;exact hb
 refine⟨M,ss++replicate (N.length-ss.length) Slot.e,hE,f0,?_⟩;unfold fnM at k;have fin:∀{O':St} {E':zV} {H':Hp} {v:V} {r:R},Got X.K X.mg M (L2.JA N vs) (ss++replicate (N.length-ss.length) Slot.e) H [] O' E' H' [(some v,r.slot)] ->
   (∀v H',(zg ss E').length=vs.length->FR X.K X.mg M H' ((some v,r.slot)::(vs.map some).zip (zg ss E'))->Step M H ((vs.map some).zip ss) H' ((some v,r.slot)::(vs.map some).zip (zg ss E'))->Q v H')->Q v H':=λ{O' E' H' v r} g kk=>by
  have mk:Mask (O'.zip E') ((vs.map some).zip (zg ss E')):=Z6 ss _ O' E' g.len (by simp[hl]) λi ds e=>by
   have hi:i<ss.length:=(qG.mp e).1;have e1:(ss++replicate (N.length-ss.length) Slot.e)[i]?=some (.par ds):=by rw[getElem?_append_left hi];exact e
   have:=(g.pk i ds e1).2;rw[this];unfold L2.JA;rw[getElem?_append_left (by simp;omega)]
  refine kk v H' (by rw[zd,hl]) (g.fr.mask (.keep mk)) ?_;exact(g.st.weak λb hb=>(Mask.keep mk).sub.subset hb).left eo
 cases eb:body (ss++replicate (N.length-ss.length) Slot.e)with
 |z=>rw[eb]at k;exact k
 |exc x E' =>
  rw[eb]at k;intro O' H' g;refine hx x O' H' λC od hm hf=>k C od H' hm hf (g.fr.sub (List.nil_sublist _)) ?_
  exact(g.st.weak λb hb=>by cases hb).left eo
 |ok p =>
  obtain⟨fl,E'⟩:=p;rw[eb]at k;cases fl with
  |bk=>exact k.elim|ct=>exact k.elim|ret r=>exact λv O' H' g=>fin g k|nx=>exact λO' H' g=>fin (r:=.v .non) (g.flat (d:=.non) rfl) k
end
section
variable{P:Program}{w:World}{K:qH}{mg:Str->Option Value}{base:Heap}
def fn_ok(F:Fun K x qual st f fd)(S:FnScope N ps (zn st))
  (hb:∀(cdv:Value) (A:Around) (outer:List Env) (s:Shared) (H:Hp) (E:XK),(c=true->A.handled=none)->RoomN k (A.deeper (PyProof.Rows.envOfC qual (zn st) s.heap.objs.size f cdv)) ->
   Qd (cxN c P w K mg base N qual (zn st) f cdv A outer s H E) (jR st) body):FnOkN c P w K mg base (k+1) f fd ps (spM K mg ps.length (fnM N.length body)):=by
 obtain⟨oc,od,kV,doc,pm,an,cdv,ct,osl,rfl,lk,hcd⟩:=F.ex;exact fn_ofN lk hcd S (λvs H Q E h=>h.1) λA outer s H vs Q E hd hr h=>⟨_,hb cdv A outer s H E hd hr,body_ok (X:=cxN c P w K mg base N qual (zn st) f cdv A outer s H E) (λx O' H' hE=>zES hE) h⟩
end
section
variable{X:Cx}{k:Nat}{f:Addr}{fd:FuncData}{ps:List Str}{F:MF}{x:Str}{p pos:Pos}{e:Expr}{es:List Expr}{as:List Arg}
def ok_call(G:FnOkN c X.prog X.w X.K X.mg X.base k f fd ps (spM X.K X.mg ps.length F))(hd:c=true->X.A.handled=none)(hr:RoomN k X.A)(hg:Gl X x)(hm:X.mg x=some (.ref f))(hk:keepIn X.K (.ref f)=true)(hb:Zs X.K fd ps [])(ha:zD4 X (e::es) as)(hn:as.length=ps.length:=by rfl)
  (hdb:(x==("__debug__":Str))=false:=by decide) (he:zX e=false:=by rfl) (hpl:jk es=true:=by rfl):EOk X (.Call (.Name x p) (e::es) [] pos) (wT F as) :=
 zu (zER G hd hr hg hm hk hb ha hdb (zf he) (YO hpl)) λO H Q=>zEr hn
end
section
variable{X:Cx}{O:St}{H:Hp}
def ok_dic(h:PE X (.Dict [] [] pos) (λ_ H Q=>∀p,H p=none->Q (.ref p) (upd H p (.dK [])))):EOk X (.Dict [] [] pos) (eC .dic):=zu h λO H Q ⟨M,E,hl,fr,k⟩=>λp hp=>by
 refine k _ _ ((Got.refl (T0:=[]) hl fr).more (T:=[(some (.ref p),.v .dic)]) ((fr.grow hp).add ?_) (Step.newVal hp));simp only[Rep];exact⟨p,rfl,zp.mpr ⟨Jb fr hp,yq⟩⟩
end
end DV
namespace L2
open PySem PySem.Spec PyProof.Rows
def Inv.big(I:Inv X pins O H s):sysModules<s.heap.objs.size:=by
 have h:mainGlobals<s.heap.objs.size:=(I.mod.glob.keeps I.bk).lt;exact lt_trans (by decide) h
def pe_dicK:PE X (.Dict [] [] pos) (λ_ H Q=>∀p,H p=none->Q (.ref p) (upd H p (.dK []))):=λpins s O H Q I h =>
 wpAny_Dict_empty ⟨.ref s.heap.objs.size,_,I.laid (a:=s.heap.objs.size) (o:=.dK []) (t':=s.toks) (λ_ _ q=>qA _ q) (le_refl _)
  ⟨zero_le _,beq_eq_false_iff_ne.mpr (Ne.symm (ne_of_lt I.big)),[],.nil,Heap.DictOf.new s.heap⟩,rfl,h _ (I.hok.fresh (le_refl _))⟩
def cxB(X:Cx)(N:List Str)(scope:Scope)(cl:List (Str×Addr))(C:Addr)(ex:List Addr)(s:Shared)(H:Hp):Cx :=
 {X with N:=N,s₀:=s,H₀:=H,env:=compEnvC scope cl C X.env,outer:=X.stack,ex:=ex,fn:=λy=>scope.names.lookup y==some NameKind.cell,pn:=[]}
def J3{R:Result->Shared->Prop}(I:Nat->Shared->Prop)
  (turn:∀n s,I n s->wpAny (model prog w) A (pyNext it) (λr s₁=>match r with
   |none=>R (.ok .next) s₁
   |some v=>wpAny (model prog w) A (letOwnedTupleGo target it v) (λ_ s₁=>wpAny (model prog w) A (assign target env v) (λ_ s₂ =>
     wpAny (model prog w) A (forIn ifs true λc r=>if r=true then do let ok <- isTrue c env (eval c env);pure (ForInStep.yield ok)else pure (ForInStep.yield r)) (λok s₃ =>
      if ok=true then wpAny (model prog w) A (eval elt env) (λx s₄ =>
       wpAny (model prog w) A (call (.builtin "list.append") [acc,x]) (λ_ s₅=>∃m,m<n/\I m s₅) (notedBy (model prog w) A env λe s'=>R (.error e) s') s₄) (notedBy (model prog w) A env λe s'=>R (.error e) s') s₃
      else ∃m,m<n/\I m s₃) (notedBy (model prog w) A env λe s'=>R (.error e) s') s₂) (notedBy (model prog w) A env λe s'=>R (.error e) s') s₁) (notedBy (model prog w) A env λe s'=>R (.error e) s') s₁) (notedBy (model prog w) A env λe s'=>R (.error e) s') s)
  (n:Nat) (h:I n s) :
  codeAny (model prog w) A (.compLoop (.ListComp elt [⟨target,iter,ifs,0⟩] scope pos) 0 it acc env) R s:=by
 refine codeAny_loop rfl I (λn s hI=>?_) n h;show wpAny _ A ((compTurn (.ListComp elt [⟨target,iter,ifs,0⟩] scope pos) 0 it acc env).onRaise (λx=>do noteFrame x env;theTreesLotGoes x)) _ _ s;refine wpAny_noted ?_;rw[compTurn_list];refine qB (wpAny_standAt (qB (wpAny_mono (turn n s hI) (λr s₁ h₁=>?_) λ_ _ h'=>h')));cases r with
 |none=>exact qC h₁
 |some v =>
  refine qB (wpAny_mono h₁ (λ_ s₁' h₁'=>?_) λ_ _ h'=>h');refine qB (wpAny_mono h₁' (λ_ s₂ h₂=>qB (wpAny_mono h₂ (λok s₃ h₃=>?_) λ_ _ h'=>h')) λ_ _ h'=>h');cases ok with
  |false=>exact qC ⟨rfl,h₃⟩
  |true =>
   exact qB (qB (wpAny_mono h₃ (λx s₄ h₄=>qB (wpAny_mono h₄ (λ_ s₅ h₅=>qC (qC ⟨rfl,h₅⟩)) λ_ _ h'=>h')) λ_ _ h'=>h'))
def zGB(X:Cx)(ifs:List Expr)(t:TT):Prop:=∀(pins:List (Addr×Obj)) (s:Shared) (O:St) (H:Hp) (Q:Bool->Hp->Prop),Inv X pins O H s->t O H Q ->
 wpAny (model X.prog X.w) X.A (forIn ifs true λc r=>if r=true then do let ok <- isTrue c X.env (eval c X.env);pure (ForInStep.yield ok)else pure (ForInStep.yield r)) (TP X pins O Q) X.xe s
def pif_nil:zGB X [] (λO H Q=>Q true H):=λpins s O H Q I h=>wpAny_tests_nil ⟨H,I,h⟩
def pif_one(h:PT X c t):zGB X [c] t:=λpins s O H Q I q=>wpAny_tests_one (h pins s O H Q I q)
def yf(nl:Nat)(caps:List Nat)(O:St):St:=replicate nl none++caps.map λj=>(O[j]?).getD none
def zEs(nl:Nat)(caps:List Nat)(wi:TI)(g:TG)(tt:TT)(te:TE):TE:=λO H Q=>wi O H λJ H1=>∀D,H1 D=none->∃W:Nat->Nat->St->Hp->Prop,(∃m,W 0 m (yf nl caps O) (upd H1 D (.l [])))/\∀i m O' H',W i m O' H' ->
 (J.stop i H'/\Q (.ref D) H')\/(J.go i H'/\∃Nx:St->Hp->Prop,(∀O'' H'',Nx O'' H''->∃m',m'<m/\W (i+1) m' O'' H'')/\∀x H'',J.yld i H' x H''->g x O' H'' λO2 H2 =>
  tt O2 H2 λb H3=>if b=true then te O2 H3 λy H4=>∃ys,H4 D=some (.l ys)/\ys.length<sizeLine/\Nx O2 (upd H4 D (.l (ys++[y])))else Nx O2 H3)
theorem Jj{env:Env}:∀{names:List (Str×NameKind)} {x:Str} {k:NameKind},(names.map λ(n,k)=>if(k==NameKind.free&&env.scope.kind==.function&&env.kindOf n==some .cell)then(n,NameKind.cell)else(n,k)).lookup x=some k ->
  ∃k0,names.lookup x=some k0/\(k=k0\/(k0=.free/\k=.cell))
 | [],_,_,h=>by simp at h
 | (n,k1)::r,x,k,h=>by
  have ih:=@Jj env r x k;rw[map_cons]at h;by_cases hc:(k1==NameKind.free&&env.scope.kind==.function&&env.kindOf n==some .cell)=true
  ·simp only[hc,if_true]at h
   cases hx:x==n with
   |true =>
    simp only[lookup_cons,hx]at h ⊢;cases h;refine⟨k1,rfl,.inr ⟨?_,rfl⟩⟩;simp only[Bool.and_eq_true,beq_iff_eq]at hc;exact hc.1.1
   |false=>simp only[lookup_cons,hx]at h ⊢;exact ih h
  ·have hc':(k1==NameKind.free&&env.scope.kind==.function&&env.kindOf n==some .cell)=false:=by simpa using hc
   simp only[hc',Bool.false_eq_true,if_false]at h;cases hx:x==n with
   |true=>simp only[lookup_cons,hx]at h ⊢;cases h;exact⟨k1,rfl,.inl rfl⟩|false=>simp only[lookup_cons,hx]at h ⊢;exact ih h
theorem Zb{env:Env}:∀{names:List (Str×NameKind)} {x:Str},names.lookup x=some .free->env.scope.kind=.function->env.kindOf x=some .cell ->
  (names.map λ(n,k)=>if(k==NameKind.free&&env.scope.kind==.function&&env.kindOf n==some .cell)then(n,NameKind.cell)else(n,k)).lookup x=some .cell
 | [],_,h,_,_=>by simp at h
 | (n,k1)::r,x,h,hk,hc=>by
  have ih:=@Zb env r x;rw[map_cons];cases hx:x==n with
  |true =>
   have:x=n:=by simpa using hx
   subst this;simp only[lookup_cons,hx]at h;cases h;have:(NameKind.free==NameKind.free&&env.scope.kind==.function&&env.kindOf x==some .cell)=true:=by simp[hk,hc]
   simp only[this,if_true,lookup_cons,hx]
  |false =>
   simp only[lookup_cons,hx]at h;by_cases hcc:(k1==NameKind.free&&env.scope.kind==.function&&env.kindOf n==some .cell)=true
   ·simp only[hcc,if_true,lookup_cons,hx];exact ih h hk hc
   ·have hcc':(k1==NameKind.free&&env.scope.kind==.function&&env.kindOf n==some .cell)=false:=by simpa using hcc
    simp only[hcc',Bool.false_eq_true,if_false,lookup_cons,hx];exact ih h hk hc
def zBn(env:Env):List (Str×NameKind)->List (Str×Addr)->List (Str×Addr)
 | [],cs=>cs| (n,k)::r,cs=>if k==.free then zBn env r ((n,(env.cells.lookup n).getD 0)::cs)else zBn env r cs
theorem Y1:∀(names:List (Str×NameKind)) (cs:List (Str×Addr)),(∀y∈names,y.2=.free->∃c,env.cells.lookup y.1=some c) ->
  (forIn names cs (λx r=>if(x.snd==NameKind.free)=true then do
    let c <- cellOf env x.fst
    pure (ForInStep.yield ((x.fst,c)::r))
   else pure (ForInStep.yield r)):Sem (List (Str×Addr)))=pure (zBn env names cs)
 | [],cs,_=>by rfl
 | (n,k)::r,cs,h=>by
  rw[forIn_cons];dsimp only;by_cases hk:(k==NameKind.free)=true
  ·obtain⟨c,hc⟩:=h (n,k) qE (by simpa using hk)
   have ec:cellOf env n=pure c:=by unfold cellOf;rw[hc]
   rw[if_pos hk,ec];show(forIn r ((n,c)::cs) _:Sem (List (Str×Addr)))=_;rw[Y1 r _ λy hy=>h y (mem_cons_of_mem _ hy)]
   conv=>rhs;unfold zBn
   rw[if_pos hk,hc];rfl
  ·rw[if_neg hk]
   show(forIn r cs _:Sem (List (Str×Addr)))=_
   rw[Y1 r _ λy hy=>h y (mem_cons_of_mem _ hy)]
   conv=>rhs;unfold zBn
   rw[if_neg hk]
theorem wU:∀(names:List (Str×NameKind)) (cs:List (Str×Addr)) (x:Str),(∀y∈names,y.2=.free->∃c,env.cells.lookup y.1=some c)->(∀c,cs.lookup x=some c->env.cells.lookup x=some c) ->
  (∀c,(zBn env names cs).lookup x=some c->env.cells.lookup x=some c)/\(((∃c,cs.lookup x=some c)\/∃y∈names,y.1=x/\y.2=.free)->∃c,(zBn env names cs).lookup x=some c)
 | [],cs,x,_,hcs=>⟨hcs,λh=>h.elim id λ⟨y,hy,_⟩=>by cases hy⟩
 | (n,k)::r,cs,x,h,hcs=>by
  unfold zBn;by_cases hk:(k==NameKind.free)=true
  ·rw[if_pos hk]
   obtain⟨c,hc⟩:=h (n,k) qE (by simpa using hk);have ih:=wU r ((n,(env.cells.lookup n).getD 0)::cs) x (λy hy=>h y (mem_cons_of_mem _ hy)) (λc' e=>by
    rw[lookup_cons]at e;cases hx:x==n with
    |true =>
     have:x=n:=by simpa using hx
     subst this;rw[hx]at e;simp only[hc,Option.getD_some]at e;rw[hc];exact e
    |false=>rw[hx]at e;exact hcs c' e)
   refine⟨ih.1,λq=>ih.2 ?_⟩;rcases q with⟨c',q⟩|⟨y,hy,q1,q2⟩
   ·left
    rw[lookup_cons];cases hx:x==n with
    |true=>exact⟨_,rfl⟩|false=>exact⟨c',q⟩
   ·rcases mem_cons.mp hy with hy|hy
    ·subst hy
     left
     have q1:n=x:=q1;subst q1;exact⟨(env.cells.lookup n).getD 0,by rw[lookup_cons,beq_self_eq_true]⟩
    ·right;exact⟨y,hy,q1,q2⟩
  ·rw[if_neg hk]
   have ih:=wU r cs x (λy hy=>h y (mem_cons_of_mem _ hy)) hcs;refine⟨ih.1,λq=>ih.2 ?_⟩;rcases q with q|⟨y,hy,q1,q2⟩
   ·exact .inl q
   ·rcases mem_cons.mp hy with hy|hy
    ·subst hy
     exact absurd (by simpa using q2) hk
    ·exact .inr ⟨y,hy,q1,q2⟩
theorem Wa:∀(names:List (Str×NameKind)) (h:Heap) (acc:List (Str×Addr)) (x:Str) (c:Addr),(cellsFrom h.objs.size names acc).lookup x=some c ->
  acc.lookup x=some c\/((x,NameKind.cell)∈names/\h.objs.size<=c/\(pushCells h names).IsCell c none)
 | [],h,acc,x,c,e=>.inl e
 | (n,k)::r,h,acc,x,c,e=>by
  unfold cellsFrom at e;unfold pushCells;split at e
  ·rename_i hk
   rw[if_pos hk];have sz:(h.push {cls:=.type "cell",data:=.cell none}).objs.size=h.objs.size+1:=size_push ..;rw[<- sz]at e;rcases Wa r (h.push {cls:=.type "cell",data:=.cell none}) _ x c e with q|⟨q1,q2,q3⟩
   ·rw[lookup_cons]at q
    cases hx:x==n with
    |true =>
     rw[hx]at q;cases q;have hx':x=n:=by simpa using hx
     have hk':k=.cell:=by simpa using hk
     subst hx';subst hk';exact .inr ⟨qE,le_refl _,⟨_,pushCells_keeps _ _ _ _ (get?_push_size _ rfl),rfl⟩⟩
    |false=>rw[hx]at q;exact .inl q
   ·exact .inr ⟨mem_cons_of_mem _ q1,by rw[sz]at q2;omega,q3⟩
  ·rename_i hk
   rw[if_neg hk];rcases Wa r h acc x c e with q|⟨q1,q2,q3⟩
   ·exact .inl q
   ·exact .inr ⟨mem_cons_of_mem _ q1,q2,q3⟩
theorem uU:∀(names:List (Str×NameKind)) (n:Nat) (acc:List (Str×Addr)) (x:Str),(x,NameKind.cell)∉names->(cellsFrom n names acc).lookup x=acc.lookup x
 | [],n,acc,x,_=>rfl
 | (y,k)::r,n,acc,x,h=>by
  simp only[mem_cons,not_or]at h;unfold cellsFrom;split
  ·rename_i hk
   rw[uU r _ _ x h.2,lookup_cons];cases hx:x==y with
   |true =>
    have hx':x=y:=by simpa using hx
    have hk':k=.cell:=by simpa using hk
    subst hx';subst hk';exact absurd rfl h.1
   |false=>rfl
  ·exact uU r _ _ x h.2
theorem zCi:∀(names:List (Str×NameKind)) (n:Nat) (acc:List (Str×Addr)) (x:Str) (c:Addr),(x,NameKind.cell)∈names->(cellsFrom n names acc).lookup x=some c->n<=c
 | [],_,_,_,_,h,_=>by cases h
 | (y,k)::r,n,acc,x,c,h,e=>by
  unfold cellsFrom at e;by_cases hr:(x,NameKind.cell)∈r
  ·split at e
   ·exact Nat.le_of_succ_le (zCi r _ _ x c hr e)
   ·exact zCi r _ _ x c hr e
  ·rcases mem_cons.mp h with q|q
   ·cases q
    rw[if_pos (by rfl),uU r _ _ _ hr,lookup_cons,beq_self_eq_true]at e;cases e;exact le_refl _
   ·exact absurd q hr
theorem zCj:∀(names:List (Str×NameKind)) (n:Nat) (acc:List (Str×Addr)),(∀x y c,acc.lookup x=some c->acc.lookup y=some c->x=y)->(∀x c,acc.lookup x=some c->c<n) ->
  ∀x y c,(cellsFrom n names acc).lookup x=some c->(cellsFrom n names acc).lookup y=some c->x=y
 | [],n,acc,hi,_,x,y,c,e1,e2=>hi x y c e1 e2
 | (z,k)::r,n,acc,hi,hb,x,y,c,e1,e2=>by
  unfold cellsFrom at e1 e2;split at e1
  ·refine zCj r (n+1) ((z,n)::acc) (λx y c e1 e2=>?_) (λx c e=>?_) x y c e1 (by rename_i hk;rwa [if_pos hk]at e2)
   ·rw[lookup_cons]at e1 e2
    cases hx:x==z with
    |true =>
     rw[hx]at e1;cases e1;have hx':x=z:=by simpa using hx
     cases hy:y==z with
     |true =>
      have hy':y=z:=by simpa using hy
      rw[hx',hy']
     |false=>rw[hy]at e2;exact absurd (hb y _ e2) (lt_irrefl _)
    |false =>
     rw[hx]at e1;cases hy:y==z with
     |true=>rw[hy]at e2;cases e2;exact absurd (hb x _ e1) (lt_irrefl _)|false=>rw[hy]at e2;exact hi x y c e1 e2
   ·rw[lookup_cons]at e
    cases hx:x==z with
    |true=>rw[hx]at e;cases e;exact Nat.lt_succ_self _|false=>rw[hx]at e;exact lt_succ_of_lt (hb x c e)
  ·exact zCj r n acc hi hb x y c e1 (by rename_i hk;rwa [if_neg hk]at e2)
def Zw{E:Value->Shared->Prop}{Q:Env->Shared->Prop}
  (hQ:Q (newEnv scope s.heap.objs.size globals (cellsFrom (s.heap.objs.size+1) scope.names cl) qual none .none (some env) builtinsNs) {s with heap:=pushCells (s.heap.push {cls:=.type "dict",data:=.dict #[]}) scope.names}) :
  wpAny M A (newFunctionEnv scope globals cl [] qual none .none (some env)) Q E s:=by
 simp only[newFunctionEnv,Option.isSome_some,if_true];refine qB (wpAny_alloc ?_);refine qB (wpAny_layCells _ (λname kind cells=>by cases hkc:kind==NameKind.cell<;>simp[hkc]) _ _ _ _ ?_);rw[show({s with heap:=s.heap.push {cls:=.type "dict",data:=.dict #[]}}:Shared).heap.objs.size=s.heap.objs.size+1 from size_push ..]
 rw[forIn_nil];exact qB (qC (qC hQ))
section
variable{X:Cx}{elt target iter:Expr}{ifs:List Expr}{scope:Scope}{pos:Pos}{nl:Nat}{caps:List Nat}{N':List Str}
def Gi{use:Option (Value->Sem Unit)}{QQ:Value->Shared->Prop}(hx:∀e s,¬X.xe e s)(hc:X.calm=true)(hkind:scope.kind=.function)(hnames:∀y∈scope.names,y.2=.local->scope.names.lookup y.1=some .local)(hcell:∀y∈scope.names,y.2=.cell->scope.names.lookup y.1=some .cell)
  (hfree:(scope.names.all λy=>y.2 != .free||X.env.kindOf y.1==some .cell)=true)
  (hlen:N'.length=nl+caps.length) (hcap:∀(i j:Nat),caps[i]?=some j->∃x,N'[nl+i]?=some x/\X.N[j]?=some x/\scope.names.lookup x=some .free)
  (hi:PI X target iter wi) (hg:∀cl C ex s H,PG (cxB X N' scope cl C ex s H) target g) (ht:∀cl C ex s H,zGB (cxB X N' scope cl C ex s H) ifs tt) (he:∀cl C ex s H,PE (cxB X N' scope cl C ex s H) elt te)
  (hs:∀x,foldedSetIterable iter X.env x=pure x) (I:Inv X pins O H s) (h:zEs nl caps wi g tt te O H Q)
  (hfin:∀(D C:Addr) (H5:Hp) (s6:Shared) (m6:Str->Option Value),Inv X pins O H5 s6->zBN X pins H5 C->s6.heap.Ns C m6->Q (.ref D) H5->compPost (model X.prog X.w) X.A X.xe use QQ (.ref D) C (.ok .next) s6) :
  wpAny (model X.prog X.w) X.A (comprehension (.ListComp elt [⟨target,iter,ifs,0⟩] scope pos) scope X.env p0 (newList []) false (eval iter X.env) use) QQ X.xe s:=by
 have hfr:∀y∈scope.names,y.2=.free->X.env.kindOf y.1=some .cell:=λy hy e=>by
  have:=all_eq_true.mp hfree y hy;rw[e]at this;simpa using this
 have hcl:∀y∈scope.names,y.2=.free->∃c,X.env.cells.lookup y.1=some c:=λy hy e=>I.ok.has y.1 (.inl (hfr y hy e))
 have hclos:closureFor scope X.env=pure (zBn X.env scope.names []):=by
  simp only[closureFor];rw[Y1 scope.names [] hcl];rfl
 have cl1:∀x c,(zBn X.env scope.names []).lookup x=some c->X.env.cells.lookup x=some c:=λx c e=>(wU scope.names [] x hcl (λ_ z=>by cases z)).1 c e
 have cl2:∀x,(∃y∈scope.names,y.1=x/\y.2=.free)->∃c,(zBn X.env scope.names []).lookup x=some c:=λx q=>(wU scope.names [] x hcl (λ_ z=>by cases z)).2 (.inr q)
 generalize zBn X.env scope.names []=cl at hclos cl1 cl2;refine wpAny_comprehension_free (use:=use) rfl hs hclos hkind hnames (thn (hi pins s O H _ I h) λxv s1 h1=>thn h1 λitv s2 h2=>?_);obtain⟨it,fp,tn,J,H2,e,I2,T,st2,f2,turn⟩:=h2;subst e;refine wpAny_newObj_type (Zw ?_) (by show(#[]:Array Value).size<=sizeLine;simp);dsimp only;generalize hH3:s2.heap.push {cls:=.type "list",dict:=none,data:=.seq ([]:List Value).toArray}=h3;have hC:h3.objs.size=s2.heap.objs.size+1:=by rw[<- hH3,size_push]
 have hD:H2 s2.heap.objs.size=none:=I2.hok.fresh (le_refl _);obtain⟨W,⟨m0,w0⟩,step⟩:=turn s2.heap.objs.size hD
 -- the state at the block's entry
 have I3:Inv X pins O (upd H2 s2.heap.objs.size (.l [])) {s2 with heap:=h3}:=by
  rw[<- hH3];exact I2.laid (t':=s2.toks) (λb o q=>qA _ q) (le_refl _) ⟨zero_le _,[],0,.nil,get?_push_size _ rfl⟩
 have hcfr:∀x,scope.names.lookup x=some .free->(x,NameKind.cell)∉scope.names:=λx e z=>by
  have:=hcell _ z rfl;rw[e]at this;cases this
 have szp:(h3.push {cls:=.type "dict",data:=.dict #[]}).objs.size=h3.objs.size+1:=size_push ..;have cw:∀x c,(cellsFrom (h3.objs.size+1) scope.names cl).lookup x=some c->cl.lookup x=some c\/((x,NameKind.cell)∈scope.names/\h3.objs.size+1<=c/\(pushCells (h3.push {cls:=.type "dict",data:=.dict #[]}) scope.names).IsCell c none):=λx c e=>by
  rw[<- szp]at e ⊢;exact Wa _ _ _ x c e
 have cfr:∀x,scope.names.lookup x=some .free->(cellsFrom (h3.objs.size+1) scope.names cl).lookup x=cl.lookup x:=λx e=>uU _ _ _ x (hcfr x e)
 have chas:∀x,scope.names.lookup x=some .cell->∃c,(cellsFrom (h3.objs.size+1) scope.names cl).lookup x=some c:=λx e=>by
  have:=cellsFrom_some scope.names (h3.objs.size+1) cl (x:=x) (.inl e);exact Option.isSome_iff_exists.mp this
 have clt:∀x c,cl.lookup x=some c->c<h3.objs.size:=λx c e=>by
  obtain⟨v,q⟩:=I3.cell x c (cl1 x c e);exact q.lt
 have cinj:=zCj scope.names (h3.objs.size+1) cl (λx y c e1 e2=>I.ok.inj x y c (cl1 x c e1) (cl1 y c e2)) λx c e=>lt_succ_of_lt (clt x c e)
 have hns₁:(pushCells (h3.push {cls:=.type "dict",data:=.dict #[]}) scope.names).Ns h3.objs.size λ_=>none:=(Heap.Ns.new h3 (.type "dict")).keeps (pushCells_keeps _ _)
 have old:∀b o,h3.get? b=some o->(pushCells (h3.push {cls:=.type "dict",data:=.dict #[]}) scope.names).get? b=some o:=λb o e=>pushCells_keeps _ _ b o (qA _ e)
 generalize hh1:pushCells (h3.push {cls:=.type "dict",data:=.dict #[]}) scope.names=h₁ at hns₁ old cw ⊢;generalize hcs:cellsFrom (h3.objs.size+1) scope.names cl=cs at cw cfr chas cinj ⊢;have fpD:∀b∈fp,b≠s2.heap.objs.size:=λb hb z=>by
  obtain⟨o,e,_⟩:=T.obj 0 s2.heap st2 b hb;subst z;exact absurd (lt_size e) (lt_irrefl _)
 have fp3:∀b∈fp,upd H2 s2.heap.objs.size (.l []) b=none:=λb hb=>by rw[zr (fpD b hb)];exact(f2 b hb).1
 have fpC:∀b∈fp,b≠h3.objs.size:=λb hb z=>by
  obtain⟨o,e,_⟩:=T.obj 0 s2.heap st2 b hb;have q:b<s2.heap.objs.size:=lt_size e;rw[z,hC]at q;exact absurd q (not_lt.mpr (le_succ _))
 have hCn:upd H2 s2.heap.objs.size (.l []) h3.objs.size=none:=I3.hok.fresh (le_refl _);have fpok:∀b∈fp,(b∈X.ex\/X.s₀.heap.objs.size<=b)/\b≠X.env.locals/\(∀x c,X.env.cells.lookup x=some c->c≠b)/\∀p∈X.pn++pins,p.1≠b:=λb hb=>by
  obtain⟨_,q2,_,q4,q5,q6⟩:=f2 b hb;exact⟨q4,q2,q5,q6⟩
 have fpH:∀b∈fp,b<h3.objs.size:=λb hb=>by
  obtain⟨o,e,_⟩:=T.obj 0 s2.heap st2 b hb;have q:b<s2.heap.objs.size:=lt_size e;rw[hC];exact lt_succ_of_lt q
 have fpcs:∀b∈fp,∀x c,cs.lookup x=some c->c≠b:=λb hb x c e=>by
  rcases cw x c e with q|⟨_,q,_⟩
  ·exact(fpok b hb).2.2.1 x c (cl1 x c q)
  ·intro z;subst z
   exact absurd (lt_of_lt_of_le (fpH _ hb) (Nat.le_of_succ_le q)) (lt_irrefl _)
 let Y:Cx:=cxB X N' scope cs h3.objs.size fp {s2 with heap:=h3} (upd H2 s2.heap.objs.size (.l []))
 have kindY:∀x k,Y.env.kindOf x=some k->∃k0,scope.names.lookup x=some k0/\(k=k0\/(k0=.free/\k=.cell)):=λx k e=>Jj e
 have okY:Y.Ok:={
  mod:=I.ok.mod
  kind:=hkind
  glob:=I.ok.glob
  blt:=I.ok.blt
  above:=le_refl _
  inj:=cinj
  has:=λx q=>by
   have:scope.names.lookup x=some .cell\/scope.names.lookup x=some .free:=by
    rcases q with q|q
    ·obtain⟨k0,e,z⟩:=kindY x _ q
     rcases z with z|z
     ·subst z;exact .inl e
     ·rw[z.1]at e;exact .inr e
    ·obtain⟨k0,e,z⟩:=kindY x _ q
     rcases z with z|z
     ·subst z;exact .inr e
     ·rw[z.1]at e;exact .inr e
   rcases this with q|q
   ·exact chas x q
   ·obtain⟨c,e⟩:=cl2 x ⟨(x,.free),PySem.mem_of_lookup q,rfl,rfl⟩
    exact⟨c,by show cs.lookup x=_;rw[cfr x q];exact e⟩
  cab:=λx c z e=>by
   have z:scope.names.lookup x=some .cell:=by
    have z:(scope.names.lookup x==some NameKind.cell)=true:=z;simpa using z
   have e:cs.lookup x=some c:=e;rw[<- hcs]at e;exact le_trans (le_succ _) (zCi _ _ _ x c (PySem.mem_of_lookup z) e)
  hd:=I.ok.hd
  frames:=I.ok.frames
  stk:=.inl rfl
  exf:=λb hb=>⟨fpC b hb,fpcs b hb⟩
  bs:=λb o e=>I3.bs b o e
  bsz:=le_trans I.ok.bsz I3.sz
  noex:=λb o e hb=>by
   obtain⟨q,_⟩:=fpok b hb;rcases q with q|q
   ·exact I.ok.noex b o e q
   ·exact absurd (lt_of_lt_of_le (lt_size e) I.ok.bsz) (not_lt.mpr q)
  exfs:=λb hb z=>by
   have:=I2.stkSub b z;rcases mem_cons.mp this with q|q
   ·exact(fpok b hb).2.1 q
   ·exact(f2 b hb).2.2.1 q
  funs:=I3.stack
  frf:=I3.stkFree}
 have keep1:∀b o,h3.get? b=some o->h₁.get? b=some o:=old;have lenY:(yf nl caps O).length=N'.length:=by unfold yf;simp[hlen]
 have IY:Inv Y [] (yf nl caps O) (upd H2 s2.heap.objs.size (.l [])) {s2 with heap:=h₁}:={
  ok:=okY
  os:=rfl
  bare:=I3.bare
  base:=Un.kept keep1
  loc:=by
   refine⟨_,hns₁,λi x v e1 e2 e3=>?_⟩;have e1:N'[i]?=some x:=e1;have hi:nl<=i:=by
    by_cases z:nl<=i
    ·exact z
    ·unfold yf at e2
     rw[getElem?_append_left (by simp;omega),List.getElem?_replicate]at e2;split at e2<;>cases e2
   unfold yf at e2;rw[getElem?_append_right (by simpa using hi),List.length_replicate,getElem?_map]at e2;cases ej:caps[i-nl]? with
   |none=>rw[ej]at e2;cases e2
   |some j =>
    rw[ej]at e2;simp only[Option.map_some,Option.some.injEq]at e2;obtain⟨x',c1,c2,c3⟩:=hcap (i-nl) j ej;have ex:x'=x:=by
     rw[show nl+(i-nl)=i by omega,e1]at c1;exact(qJ c1).symm
    subst ex;have e4:O[j]?=some (some v):=by
     cases z:O[j]? with
     |none=>rw[z]at e2;cases e2|some o=>rw[z]at e2;simp at e2;rw[e2]
    have kx:X.env.kindOf x'=some .cell:=hfr (x',.free) (PySem.mem_of_lookup c3) rfl;obtain⟨mm,_,lk⟩:=I3.loc;obtain⟨u,ru,lu⟩:=lk j x' v c2 e4 (.inr (.inl kx));refine⟨u,ru,?_⟩;rcases lu with⟨z,_⟩|⟨_,c,d1,d2⟩
    ·rw[kx]at z;cases z
    ·obtain⟨c',d3⟩:=cl2 x' ⟨(x',.free),PySem.mem_of_lookup c3,rfl,rfl⟩
     have:c'=c:=by have:=cl1 x' c' d3;rw[d1]at this;exact(qJ this).symm
     subst this;exact .inr ⟨.inl (Zb c3 I.ok.kind kx),c',by show cs.lookup _=_;rw[cfr x' c3];exact d3,d2.keeps old⟩
  cell:=λx c e=>by
   rcases cw x c e with e|⟨_,_,q⟩
   ·obtain⟨v,q⟩:=I3.cell x c (cl1 x c e)
    exact⟨v,q.keeps old⟩
   ·exact⟨_,q⟩
  free:=hCn
  freeC:=λx c e=>by
   rcases cw x c e with e|⟨_,q,_⟩
   ·exact I3.freeC x c (cl1 x c e)
   ·exact I3.hok.fresh (le_trans (le_succ _) q)
  pin:=λp hp=>absurd (show p∈([]:List (Addr×Obj))from hp) (by simp)
  hok:=I3.hok.kept old
  len:=lenY}
 have st1:tn 0 h₁:=T.keep 0 s2.heap h₁ st2 λb hb o e=>old b o (by rw[<- hH3];exact qA _ e)
 have fpY:∀{H':Hp},(∀b∈fp,H' b=none)->∀b∈fp,zBN Y [] H' b:=λhn b hb =>
  ⟨hn b hb,fpC b hb,okY.exfs b hb,.inl hb,fpcs b hb,λp hp=>absurd (show p∈([]:List (Addr×Obj))from hp) (by simp)⟩
 have hA:Y.A=X.A:=rfl;have noE:∀{E':Value->Shared->Prop} {e:Value} {s:Shared},X.xe e s->E' e s:=λq=>absurd q (hx _ _)
 have fin:∀s₄:Shared,s₄={s2 with heap:=h₁} ->
   codeAny (model X.prog X.w) X.A (.compLoop (.ListComp elt [⟨target,iter,ifs,0⟩] scope pos) 0 (.ref it) (.ref s2.heap.objs.size) Y.env)
    (compPost (model X.prog X.w) X.A X.xe use QQ (.ref s2.heap.objs.size) h3.objs.size) s₄:=by
  rintro s₄ rfl
  refine J3 (λn s'=>∃i O' H',Inv Y [] O' H' s'/\tn i s'.heap/\(∀b∈fp,H' b=none)/\W i n O' H') ?_ m0 ⟨0,yf nl caps O,_,IY,st1,fp3,w0⟩
  rintro n s5 ⟨i,O5,H5,I5,st5,fr5,w5⟩
  rcases step i n O5 H5 w5 with⟨stop,q⟩|⟨go,Nx,hN,turn⟩
  ·refine wpAny_mono (T.done Y rfl rfl rfl hc i [] s5 O5 H5 (λ_ _=>False) I5 (fpY fr5) st5 stop) (λr s6 ⟨hr,I6⟩=>?_) (λ_ _ z=>z.elim)
   subst hr;obtain⟨m6,n6,_⟩:=I6.loc;have u:Un (frs X.stack) fp (upd H2 s2.heap.objs.size (.l [])) H5 h3 s6.heap:=I6.base;have I7:Inv X pins O H5 s6:=I3.call' (s':=s6) (ch:=fp) I6.os u I6.hok I6.bare fpok;exact hfin _ _ H5 s6 m6 I7 (I3.fpOk (le_refl _) I6.free) n6 q
  ·refine wpAny_mono (T.item Y rfl rfl rfl hc i [] s5 O5 H5 (λ_ _=>False) I5 (fpY fr5) st5 go) (λr s6 ⟨u,hr,h6⟩=>?_) (λ_ _ z=>z.elim)
   subst hr;refine wpAny_mono h6 (λ_ s7 ⟨x,H7,I7,r7,y7,st7,fr7⟩=>?_) (λ_ _ z=>z.elim);have I7':=I7.pinned (fpY fr7) (T.obj _ _ st7);refine wpAny_mono (hg _ _ _ _ _ _ s7 O5 H7 x u _ I7' r7 (turn x H7 y7)) (λ_ s8 ⟨O8,H8,I8,q8⟩=>?_) (λ_ _ z=>noE z);refine wpAny_mono (ht _ _ _ _ _ _ s8 O8 H8 _ I8 q8) (λb s9 ⟨H9,I9,q9⟩=>?_) (λ_ _ z=>noE z);have again:∀{O7:St} {H':Hp} {s':Shared},Inv Y ([]++GO fp s7.heap) O7 H' s'->Nx O7 H'->∃m,m<n/\∃i O' H',Inv Y [] O' H' s'/\tn i s'.heap/\(∀b∈fp,H' b=none)/\W i m O' H':=λ{O7 H' s'} I' n7=>by
    obtain⟨m',hm,w7⟩:=hN O7 H' n7;refine⟨m',hm,i+1,O7,H',I'.unpinned,T.keep _ _ _ st7 λb hb o e=>(I'.pin (b,o) (qK _ (qK _ (JZ hb e)))).1,λb hb=>?_,w7⟩;obtain⟨o,e,d⟩:=T.obj _ _ st7 b hb;exact(I'.pin (b,o) (qK _ (qK _ (JZ hb e)))).2.1
   cases b with
   |false =>
    rw[if_neg qF]at q9 ⊢;exact again I9 q9
   |true =>
    rw[if_pos rfl]at q9 ⊢;refine wpAny_mono (he _ _ _ _ _ _ s9 O8 H9 _ I9 q9) (λy s10 ⟨vy,H10,I10,r10,ys,hy,hz,n10⟩=>?_) (λ_ _ z=>noE z);have ap:=GX (X:=Y) _ s10 O8 H10 (.ref s2.heap.objs.size) [vy] (.ref s2.heap.objs.size) [y] (λv H'=>Nx O8 H') I10 rfl (.cons r10 .nil) ⟨_,ys,vy,rfl,rfl,hy,hz,n10⟩;refine wpAny_mono ap (λ_ s11 ⟨v11,H11,I11,_,n11⟩=>?_) (λ_ _ z=>noE z);exact again I11 n11
 exact codeAny_compStart_list (fin _ rfl) (T.self X.A 0 _ _ _ st1 (fin _ rfl))
def pe_comp(hx:∀e s,¬X.xe e s)(hc:X.calm=true)(hkind:scope.kind=.function)(hnames:∀y∈scope.names,y.2=.local->scope.names.lookup y.1=some .local)(hcell:∀y∈scope.names,y.2=.cell->scope.names.lookup y.1=some .cell)
  (hfree:(scope.names.all λy=>y.2 != .free||X.env.kindOf y.1==some .cell)=true)
  (hlen:N'.length=nl+caps.length) (hcap:∀(i j:Nat),caps[i]?=some j->∃x,N'[nl+i]?=some x/\X.N[j]?=some x/\scope.names.lookup x=some .free)
  (hi:PI X target iter wi) (hg:∀cl C ex s H,PG (cxB X N' scope cl C ex s H) target g) (ht:∀cl C ex s H,zGB (cxB X N' scope cl C ex s H) ifs tt) (he:∀cl C ex s H,PE (cxB X N' scope cl C ex s H) elt te)
  (hs:∀x,foldedSetIterable iter X.env x=pure x:=by intro _;rfl):PE X (.ListComp elt [⟨target,iter,ifs,0⟩] scope pos) (zEs nl caps wi g tt te):=by
 intro pins s O H Q I h;rw[eval_ListComp];refine Gi (use:=none) hx hc hkind hnames hcell hfree hlen hcap hi hg ht he hs I h λD C H5 s6 m6 I7 f n6 q=>?_
 refine⟨m6,n6,λh' hs'=>?_⟩;obtain⟨f1,f2,f3,f4,f5,f6⟩:=f;exact⟨.ref D,H5,I7.turned (it:=C) (t':=s6.toks) (λb o hb e=>hs'.extBut b o hb e) f1 (λz=>f2 z) f4 f5 f6,rfl,q⟩
def ps_setC(hN:X.N.Nodup)(hi':X.N[i]?=some y)(hy:Loc X.env.scope y)(hf:X.fn y=true\/X.env.scope.names.lookup y=some .local)(hx:∀e s,¬X.xe e s)(hc:X.calm=true)(hkind:scope.kind=.function)(hnames:∀y∈scope.names,y.2=.local->scope.names.lookup y.1=some .local)(hcell:∀y∈scope.names,y.2=.cell->scope.names.lookup y.1=some .cell)
  (hfree:(scope.names.all λy=>y.2 != .free||X.env.kindOf y.1==some .cell)=true)
  (hlen:N'.length=nl+caps.length) (hcap:∀(i j:Nat),caps[i]?=some j->∃x,N'[nl+i]?=some x/\X.N[j]?=some x/\scope.names.lookup x=some .free)
  (hi:PI X target iter wi) (hg:∀cl C ex s H,PG (cxB X N' scope cl C ex s H) target g) (ht:∀cl C ex s H,zGB (cxB X N' scope cl C ex s H) ifs tt) (he:∀cl C ex s H,PE (cxB X N' scope cl C ex s H) elt te)
  (hs:∀x,foldedSetIterable iter X.env x=pure x) (hsw:swapsWith (.ListComp elt [⟨target,iter,ifs,0⟩] scope pos) (some (.Name y py)) spos.line X.env=pure true) :
  PS X (.Assign [.Name y py] (.ListComp elt [⟨target,iter,ifs,0⟩] scope pos) spos) (zFp (zEs nl caps wi g tt te) (QR i)):=by
 intro pins s O H D I h;rw[exec_Assign_Name_used _ _ _ _ hsw];refine qB (wpAny_standAt (qB ?_));show wpAny _ X.A (do let _ <- comprehension (.ListComp elt [⟨target,iter,ifs,0⟩] scope pos) scope X.env _ (newList []) false (eval iter X.env) (some (assign (.Name y py) X.env))) _ _ s;refine qB (wpAny_mono (Gi (use:=some (assign (.Name y py) X.env)) (QQ:=λ_ s'=>SP X pins D .next s') hx hc hkind hnames hcell hfree hlen hcap hi hg ht he hs I h λDa C H5 s6 m6 I7 f n6 q=>?_) (λ_ s' hq=>qC (qC hq)) λ_ _ e=>e);obtain⟨f1,f2,f3,f4,f5,f6⟩:=f;show wpAny _ X.A (assign (.Name y py) X.env (.ref Da)) _ _ s6;refine wpAny_assign_Name (GM I7 hN hi' hy (v:=.ref Da) rfl (λs7 I8 ⟨a,sb,ha⟩=>?_) hf);have hne:C≠a:=by
  rcases ha with ha|ha
  ·rw[ha];exact f2
  ·exact λz=>f5 y a ha z.symm
 refine⟨m6,n6.sameBut sb hne,λh' hs'=>?_⟩;exact⟨_,H5,I8.turned (it:=C) (t':=s7.toks) (λb o hb e=>hs'.extBut b o hb e) f1 (λz=>f2 z) f4 f5 f6,q⟩
end
end L2
namespace DV
open PySem L2
section
variable{X:Cx}{K:qH}{mg:Str->Option Value}{O:St}{M:Addr->Prop}{E:zV}{H:Hp}{T0 Z T:Fz}
structure ItOk(K:qH)(mg:Str->Option Value)(J:It)(ds:List D)(Iv:Hp->Prop):Prop where
 mono:∀H H',Yv H H'->Iv H->Iv H'
 go:∀i Hh H,Yv Hh H->Iv Hh->i<ds.length->J.go i H
 yld:∀i Hh H x H',Yv Hh H->Iv Hh->i<ds.length->J.yld i H x H'->∃d,ds[i]?=some d/\((H'=H/\Rep K mg Hh d x)\/∃q xs es,H q=none/\H'=upd H q (.t xs)/\x=.ref q/\d=.t es/\Reps K mg Hh es xs)
 stop:∀i Hh H,Yv Hh H->Iv Hh->ds.length<=i->J.stop i H
abbrev MI:=zV->Out (List D×zV)
def tMI(X:Cx)(m:MI):TI:=λO H R=>∃M E,E.length=O.length/\FR X.K X.mg M H (O.zip E)/\match m E with
 | .z=>False| .ok (ds,E')=>∀J Iv H',ItOk X.K X.mg J ds Iv->Iv (Hm (Mo M (O.zip E')) H')->Got X.K X.mg M O E H [] O E' H' []->R J H'| .exc x E'=>∀H',Got X.K X.mg M O E H [] O E' H' []->XE X O H' x
abbrev IOk(X:Cx)(tg e:Expr)(m:MI):Prop:=PI X tg e (tMI X m)
def vo(h:PI X tg e t)(i:∀O H R,t' O H R->t O H R):PI X tg e t':=λpins s O H R I q=>h pins s O H R I (i O H R q)
def iL(m:ME):MI:=λE=>match m E with
 | .z=>.z| .exc x E1=>.exc x E1
 | .ok (r,E1)=>match r.d with
  | .l ds=>.ok (ds,E1)|_=>.z
def iT(m:ME):MI:=λE=>match m E with
 | .z=>.z| .exc x E1=>.exc x E1
 | .ok (r,E1)=>match r.d with
  | .t ds=>.ok (ds,E1)|_=>.z
def it_list:ItOk K mg (Itl K a) ds (λH=>SqL K H a xs/\Reps K mg H ds xs) where
 mono:=λH H' s h=>⟨s.seq h.1,h.2.mono s⟩
 go:=λi Hh H s h hi=>⟨xs,xs[i]'(by rw[h.2.length];exact hi),s.seq h.1,by simp⟩
 yld:=λi Hh H x H' s h hi y=>by
  obtain⟨e,y⟩:=y;obtain⟨d,h1,h2⟩:=h.2.get (y xs (s.seq h.1));exact⟨d,h1,.inl ⟨e,h2⟩⟩
 stop:=λi Hh H s h hi=>⟨xs,s.seq h.1,by rw[h.2.length];exact hi⟩
def it_tup:ItOk K mg (Itt K a) ds (λH=>SqT K H a xs/\Reps K mg H ds xs) where
 mono:=λH H' s h=>⟨zS s h.1,h.2.mono s⟩
 go:=λi Hh H s h hi=>⟨xs,xs[i]'(by rw[h.2.length];exact hi),zS s h.1,by simp⟩
 yld:=λi Hh H x H' s h hi y=>by
  obtain⟨e,y⟩:=y;obtain⟨d,h1,h2⟩:=h.2.get (y xs (zS s h.1));exact⟨d,h1,.inl ⟨e,h2⟩⟩
 stop:=λi Hh H s h hi=>⟨xs,zS s h.1,by rw[h.2.length];exact hi⟩
def Gj:∀(n i:Nat) (lo:Int),i<n->(zK lo n)[i]?=some (.int (lo+i)):=λn i lo h=>by
 have:=wR n i lo h;have e:((zK lo n).drop i)[0]?=some (.int (lo+i)):=by rw[this];rfl
 rw[List.getElem?_drop]at e;simpa using e
def zGC:ItOk K mg (Itr lo n) (zK lo n) (λ_=>True) where
 mono:=λ_ _ _ h=>h
 go:=λi Hh H s h hi=>by rw[yZ]at hi;exact hi
 yld:=λi Hh H x H' s h hi y=>by
  obtain⟨e,y⟩:=y;rw[yZ]at hi;exact⟨_,Gj n i lo hi,.inl ⟨e,by rw[y];simp only[Rep]⟩⟩
 stop:=λi Hh H s h hi=>by rw[yZ]at hi;exact hi
def io_list(h:EOk X e m):IOk X tg e (iL m):=vo (zB0 h) λO H R ⟨M,E,hl,fr,k⟩=>by
 unfold iL at k;refine zk (T0:=[]) hl fr ?_;cases ea:m E with
 |z=>rw[ea]at k;exact k|exc x E1=>rw[ea]at k;exact k
 |ok p =>
  obtain⟨r,E1⟩:=p;rw[ea]at k;intro v H1 g;dsimp only at k;cases ed:r.d with
  |l ds =>
   rw[ed]at k;have rl:=g.rep;rw[ed]at rl;obtain⟨a,xs,rfl,q1,q2⟩:=yJ rl;exact⟨a,rfl,⟨xs,zH.seq q1⟩,k _ _ H1 it_list ⟨q1,q2⟩ g.dropAll⟩
  |_=>rw[ed]at k;exact k.elim
def io_tup(h:EOk X e m):IOk X tg e (iT m):=vo (pi_tup h) λO H R ⟨M,E,hl,fr,k⟩=>by
 unfold iT at k;refine zk (T0:=[]) hl fr ?_;cases ea:m E with
 |z=>rw[ea]at k;exact k|exc x E1=>rw[ea]at k;exact k
 |ok p =>
  obtain⟨r,E1⟩:=p;rw[ea]at k;intro v H1 g;dsimp only at k;cases ed:r.d with
  |t ds =>
   rw[ed]at k;have rl:=g.rep;rw[ed]at rl;obtain⟨a,xs,rfl,q1,q2⟩:=yY rl;exact⟨a,rfl,⟨xs,zS zH q1⟩,k _ _ H1 it_tup ⟨q1,q2⟩ g.dropAll⟩
  |_=>rw[ed]at k;exact k.elim
def iR1(m:MA):MI:=λE=>match m E with
 | .z=>.z| .exc x E1=>.exc x E1
 | .ok ([r],E1)=>match r.d with
  | .int j=>if -(2^62)<=j/\j<2^62 then .ok (zK 0 j.toNat,E1)else .z|_=>.z
 |_=>.z
def iR2(m:MA):MI:=λE=>match m E with
 | .z=>.z| .exc x E1=>.exc x E1
 | .ok ([r,r'],E1)=>match r.d,r'.d with
  | .int i,.int j=>if -(2^62)<=i/\i<2^62/\-(2^62)<=j/\j<2^62 then .ok (zK i (j-i).toNat,E1)else .z|_,_=>.z
 |_=>.z
def io_r1(hgl:Gl X "range")(hm:X.mg "range"=none)(ha:AOk X [a] m)(hst:zX a=false:=by rfl):IOk X tg (.Call (.Name "range" p) [a] [] cpos) (iR1 m):=vo (GN hgl hm ha (zBU hst)) λO H R ⟨M,E,hl,fr,k⟩=>by
 unfold iR1 at k;refine JE (T0:=[]) hl fr ?_;cases ea:m E with
 |z=>rw[ea]at k;exact k|exc x E1=>rw[ea]at k;exact k
 |ok p =>
  obtain⟨rs,E1⟩:=p;rw[ea]at k
  match rs,k with
  | [r],k =>
   intro vs H1 hv g1;have rp:=Got.reps hv g1;dsimp only at k;cases ed:r.d with
   |int j =>
    rw[ed]at k;simp only[List.map,ed]at rp;obtain⟨v,rfl,h1⟩:=J0 rp;dsimp only at k;by_cases hc:-(2^62)<=j/\j<2^62
    ·rw[if_pos hc]at k
     exact⟨j,by rw[zR h1],hc.1,hc.2,k _ _ H1 zGC trivial g1.dropAll⟩
    ·rw[if_neg hc]at k;exact k.elim
   |_=>rw[ed]at k;exact k.elim
  | [],k=>exact k.elim|_::_::_,k=>exact k.elim
def io_r2(hgl:Gl X "range")(hm:X.mg "range"=none)(ha:AOk X [a,b] m)(hst:zX a=false:=by rfl)(hst2:zX b=false:=by rfl) :
  IOk X tg (.Call (.Name "range" p) [a,b] [] cpos) (iR2 m):=vo (zB1 hgl hm ha (star2 hst hst2) (zBU hst2)) λO H R ⟨M,E,hl,fr,k⟩=>by
 unfold iR2 at k;refine JE (T0:=[]) hl fr ?_;cases ea:m E with
 |z=>rw[ea]at k;exact k|exc x E1=>rw[ea]at k;exact k
 |ok p =>
  obtain⟨rs,E1⟩:=p;rw[ea]at k
  match rs,k with
  | [r,r'],k =>
   intro vs H1 hv g1;have rp:=Got.reps hv g1;dsimp only at k;cases ed:r.d with
   |int i =>
    cases ed':r'.d with
    |int j =>
     rw[ed,ed']at k;simp only[List.map,ed,ed']at rp;obtain⟨v,w,rfl,h1,h2⟩:=zEe rp;dsimp only at k;by_cases hc:-(2^62)<=i/\i<2^62/\-(2^62)<=j/\j<2^62
     ·rw[if_pos hc]at k
      exact⟨i,j,by rw[zR h1,zR h2],hc,k _ _ H1 zGC trivial g1.dropAll⟩
     ·rw[if_neg hc]at k;exact k.elim
    |_=>rw[ed,ed']at k;exact k.elim
   |_=>rw[ed]at k;exact k.elim
  | [],k=>exact k.elim| [_],k=>exact k.elim|_::_::_::_,k=>exact k.elim
def j0(tg:MG)(tt:MT)(el:ME):List D->zV->List D->Out (List D×zV)
 | [],E,acc=>.ok (acc,E)
 |d::ds,E,acc=>match tg d E with
  | .ok E1=>match tt E1 with
   | .ok (true,E2)=>match el E2 with
    | .ok (r,E3)=>if acc.length<cap then j0 tg tt el ds E3 (acc++[r.d])else .z|_=>.z
   | .ok (false,E2)=>j0 tg tt el ds E2 acc|_=>.z
  |_=>.z
def wV(E:zV):List Nat->Out (List AR)
 | []=>.ok []
 |j::js=>match E[j]? with
  |some (.v d)=>match wV E js with
   | .ok as=>.ok (.tmp d::as)|_=>.z
  |some s=>match s.list? with
   |some _=>match wV E js with
    | .ok as=>.ok (.ln j::as)|_=>.z
   |none=>.z
  |none=>.z
def J4(nl:Nat)(caps:List Nat)(mi:MI)(tg:MG)(tt:MT)(el:ME):ME:=λE=>match mi E with
 | .z=>.z| .exc x E1=>.exc x E1
 | .ok (ds,E1)=>match wV E1 caps with
  | .ok ars=>match zM ars E1 with
   | .ok (ss,E2)=>match j0 tg tt el ds (replicate nl .e++ss) []with
    | .ok (res,Eb)=>match zJ ars ((zg (replicate nl .e++ss) Eb).drop nl) E1 E2 with
     | .ok E3=>.ok (.own res,E3)|_=>.z
    |_=>.z
   |_=>.z
  |_=>.z
def Zx:MT:=λE=>.ok (true,E)
abbrev IfOk(X:Cx)(ifs:List Expr)(m:MT):Prop:=zGB X ifs (tMT X m)
def uV(h:zGB X ifs t)(i:∀O H Q,t' O H Q->t O H Q):zGB X ifs t':=λpins s O H Q I q=>h pins s O H Q I (i O H Q q)
def ifk_nil:IfOk X [] Zx:=uV pif_nil λO H Q ⟨M,E,hl,fr,k⟩=>k H (Got.refl (T0:=[]) hl fr)
def zCk(h:TOk X c m):IfOk X [c] m:=pif_one h
theorem zCl:∀(js:List Nat) {as:List AR} {T:Fz},E.length=O.length->wV E js=.ok as->FR K mg M H (T++O.zip E) ->
  ∃vs,AV O as vs/\vs.map some=js.map (λj=>(O[j]?).getD none)/\FR K mg M H (T++(zv vs as++O.zip E))/\∀b,b∈yI (T++(zv vs as++O.zip E))->b∈yI (T++O.zip E)
 | [],as,T,hl,e,f=>by
  cases e;exact⟨[],by simp only[AV],rfl,f,λb q=>q⟩
 |j::js,as,T,hl,e,f=>by
  simp only[wV]at e;cases ej:E[j]? with
  |none=>rw[ej]at e;cases e
  |some s =>
   rw[ej]at e;obtain⟨o,h1,h2⟩:=wQ hl ej;have lnk:∀{ds:List D},s.list?=some ds->(match wV E js with | .ok as=>Out.ok (AR.ln j::as)|_=>.z)=.ok as->∃vs,AV O as vs/\vs.map some=(j::js).map (λj=>(O[j]?).getD none)/\FR K mg M H (T++(zv vs as++O.zip E))/\∀b,b∈yI (T++(zv vs as++O.zip E))->b∈yI (T++O.zip E):=λ{ds} hs e=>by
    cases ec:wV E js with
    |z=>rw[ec]at e;cases e|exc _ _=>rw[ec]at e;cases e
    |ok as1 =>
     rw[ec]at e;cases e;obtain⟨a,xs,ev,_⟩:=f.ownL o s ds (qK _ h2) hs;subst ev;obtain⟨vs,q1,q2,q3,q4⟩:=zCl js hl ec f;have p:(T++(((some (V.ref a),Slot.e)::zv vs as1)++O.zip E)).Perm ((some (V.ref a),Slot.e)::(T++(zv vs as1++O.zip E))):=perm_middle;have fe:FR K mg M H ((some (V.ref a),Slot.e)::(T++(zv vs as1++O.zip E))):=q3.mask (.extra (by
      have:∀W:Fz,Mask W W:=by
       intro W
       induction W with
       |nil=>exact .nil _|cons x W ih=>exact .keep ih
      exact this _))
     refine⟨.ref a::vs,by simp only[AV];exact⟨_,vs,rfl,h1,q1⟩,by simp[h1,q2],fe.perm p.symm,λb hb=>?_⟩;have:=zD p b hb;rw[zt]at this;exact q4 b this
   cases s with
   |e=>cases e|own ds=>exact lnk rfl e|par ds=>exact lnk rfl e|dct _ _=>cases e
   |v d =>
    dsimp only at e;cases ec:wV E js with
    |z=>rw[ec]at e;cases e|exc _ _=>rw[ec]at e;cases e
    |ok as1 =>
     rw[ec]at e;cases e;obtain⟨v,ev,r⟩:=f.val o d (qK _ h2);subst ev;obtain⟨vs,q1,q2,q3,q4⟩:=zCl js hl ec f;obtain⟨v',ev',r'⟩:=q3.val (some v) d (qK _ (qK _ h2));cases ev';have p:(T++(((some v,Slot.v d)::zv vs as1)++O.zip E)).Perm ((some v,Slot.v d)::(T++(zv vs as1++O.zip E))):=perm_middle;refine⟨v::vs,by simp only[AV];exact⟨v,vs,rfl,q1⟩,by simp[h1,q2],(q3.add r').perm p.symm,λb hb=>?_⟩;have:=zD p b hb;rw[zW]at this;exact q4 b this
def zCm(n:Nat)(Z:Fz):yI (replicate n ((none:Option V),Slot.e)++Z)=yI Z:=by rw[zY,uT,nil_append]
def FR.emps0(f:FR K mg M H Z)(n:Nat):FR K mg M H (replicate n (none,.e)++Z):=(f.emps n).perm perm_append_comm
end
def tN(K:qH)(mg:Str->Option Value)(m:ME):TE:=λO H Q=>∃M E,E.length=O.length/\FR K mg M H (O.zip E)/\match m E with
 | .ok (r,E')=>∀v H',Got K mg M O E H [] O E' H' [(some v,r.slot)]->Q v H'|_=>False
def tNT(K:qH)(mg:Str->Option Value)(m:MT):TT:=λO H Q=>∃M E,E.length=O.length/\FR K mg M H (O.zip E)/\match m E with
 | .ok (b,E')=>∀H',Got K mg M O E H [] O E' H' []->Q b H'|_=>False
section
variable{X:Cx}{K:qH}{mg:Str->Option Value}{O:St}{M:Addr->Prop}{E:zV}{H:Hp}{T0 Z T:Fz}
def tN_M(h:tN X.K X.mg m O H Q):tM X m O H Q:=by
 obtain⟨M,E,hl,fr,k⟩:=h;refine⟨M,E,hl,fr,?_⟩;cases e:m E with
 |z=>rw[e]at k;exact k|exc x E1=>rw[e]at k;exact k.elim|ok p=>rw[e]at k;exact k
def tNT_M{Q:Bool->Hp->Prop}(h:tNT X.K X.mg m O H Q):tMT X m O H Q:=by
 obtain⟨M,E,hl,fr,k⟩:=h;refine⟨M,E,hl,fr,?_⟩;cases e:m E with
 |z=>rw[e]at k;exact k|exc x E1=>rw[e]at k;exact k.elim|ok p=>rw[e]at k;exact k
def tN_run(hl:E.length=O.length)(h:FR K mg M H (T0++O.zip E))(e:m E=.ok (r,E'))(k:∀v H',Got K mg M O E H T0 O E' H' [(some v,r.slot)]->Q v H'):tN K mg m O H Q:=by
 refine⟨Mo M T0,E,hl,h.inner,?_⟩;rw[e];exact λv H' g=>k v H' (g.outer h)
def tNT_run{Q:Bool->Hp->Prop}(hl:E.length=O.length)(h:FR K mg M H (T0++O.zip E))(e:m E=.ok (b,E'))(k:∀H',Got K mg M O E H T0 O E' H' []->Q b H'):tNT K mg m O H Q:=by
 refine⟨Mo M T0,E,hl,h.inner,?_⟩;rw[e];exact λH' g=>k H' (g.outer h)
def zCn{ars:List AR}{E1 E2 E3:zV}{ss outs:List Slot}{r:R}{vs:List V}{v:V}{H1 H':Hp}(e1:zM ars E1=.ok (ss,E2))(e3:zJ ars outs E1 E2=.ok E3)
  (av:AV O ars vs) (f1':FR K mg M H1 (O.zip E2++(vs.map some).zip ss)) (st1:Step M H (O.zip E) H1 (O.zip E2++(vs.map some).zip ss)) (l2:E2.length=O.length) (pk:PKp O E O E1)
  (f2:FR K mg (Mo M (O.zip E2)) H' ((some v,r.slot)::(vs.map some).zip outs)) (s2:Step (Mo M (O.zip E2)) H1 ((vs.map some).zip ss) H' ((some v,r.slot)::(vs.map some).zip outs)):Got K mg M O E H [] O E3 H' [(some v,r.slot)]:=by
 have f3:=FR.outer f1' f2 s2;have s3:=Step.outer s2;have p:(O.zip E2++((some v,r.slot)::(vs.map some).zip outs)).Perm ([(some v,r.slot)]++((vs.map some).zip outs++O.zip E2)):=by
  refine perm_append_comm.trans ?_;exact List.Perm.refl _
 obtain⟨f4,o4,l4⟩:=uR ars l2 av e3 (f3.perm p);refine⟨l4,f4,?_,pk.trans (zCh e1 e3)⟩;have st2:=st1.trans s3;exact st2.weak λb hb=>zD p.symm b (o4 b hb)
theorem YQ:∀(n:Nat) {Z W:Fz},Mask Z W->Mask Z (W.drop n)
 |0,_,_,h=>h|n+1,_,_,.nil Z=>by simp only[List.drop_nil];exact .nil _|n+1,_,_,.keep h=>.skip (YQ n h)|n+1,_,_,.skip h=>.skip (YQ (n+1) h)|n+1,_,_,.extra h=>YQ n h
theorem Gm{α β:Type}:∀(n:Nat) (l:List α) (m:List β),(l.zip m).drop n=(l.drop n).zip (m.drop n)
 |0,_,_=>rfl|n+1,[],_=>by simp|n+1,_::_,[]=>by simp|n+1,_::l,_::m=>by simp[Gm n l m]
def yld_got{J:It}{ds:List D}{Iv:Hp->Prop}{O0 O':St}{E0 E':zV}{H1 H' H'':Hp}{Da:Addr}{acc:List D}{i:Nat}{x:V}(it:ItOk K mg J ds Iv)(hlt:i<ds.length)(gb:Got K mg M O0 E0 H1 [] O' E' H' [(some (.ref Da),.own acc)])(ivb:Iv (Hm (Mo M ((some (.ref Da),Slot.own acc)::O'.zip E')) H'))(y:J.yld i H' x H'') :
  ∃d,ds[i]?=some d/\Got K mg M O0 E0 H1 [] O' E' H'' [(some (.ref Da),.own acc)]/\Iv (Hm (Mo M ((some (.ref Da),Slot.own acc)::O'.zip E')) H'')/\Rep K mg (Hm (Mo M ((some (.ref Da),Slot.own acc)::O'.zip E')) H'') d x:=by
 obtain⟨d,hd,h⟩:=it.yld i _ _ x _ zH ivb hlt y;rcases h with⟨rfl,rx⟩|⟨q,xs,es,hq,rfl,rfl,rfl,rs⟩
 ·exact⟨d,hd,gb,ivb,rx⟩
 ·have f:FR K mg M H' ((some (.ref Da),Slot.own acc)::O'.zip E'):=gb.fr
  have f1:=f.newTup hq rs;have s1:Step M H' ((some (.ref Da),Slot.own acc)::O'.zip E') (upd H' q (.t xs)) ((some (.ref q),.v (.t es))::((some (.ref Da),Slot.own acc)::O'.zip E')):=Step.newVal hq;obtain⟨v,ev,rv⟩:=f1.val _ _ qE;cases ev;have sm:=s1.same;rw[ZY]at rv sm;have s2:Step M H' ((some (.ref Da),Slot.own acc)::O'.zip E') (upd H' q (.t xs)) ((some (.ref Da),Slot.own acc)::O'.zip E'):=⟨sm,s1.keep⟩;exact⟨_,hd,⟨gb.len,f1.tail,gb.st.trans s2,gb.pk⟩,it.mono _ _ sm ivb,rv⟩
def zAa{nl:Nat}{caps:List Nat}{mi:MI}{tg:MG}{tt:MT}{el:ME}{g:TG}{Q:VK}(ho:GOk X g tg)(h:tM X (J4 nl caps mi tg tt el) O H Q):zEs nl caps (tMI X mi) g (tNT X.K X.mg tt) (tN X.K X.mg el) O H Q:=by
 obtain⟨M,E,hl,fr,k⟩:=h;unfold J4 at k;refine⟨M,E,hl,fr,?_⟩;cases ei:mi E with
 |z=>rw[ei]at k;exact k|exc x E1=>rw[ei]at k;exact k
 |ok p =>
  obtain⟨ds,E1⟩:=p;rw[ei]at k;intro J Iv H1 it iv g1 D hD;dsimp only at k;cases ec:wV E1 caps with
  |z=>rw[ec]at k;exact k.elim|exc _ _=>rw[ec]at k;exact k.elim
  |ok ars =>
   rw[ec]at k;dsimp only at k;cases el1:zM ars E1 with
   |z=>rw[el1]at k;exact k.elim|exc _ _=>rw[el1]at k;exact k.elim
   |ok p =>
    obtain⟨ss,E2⟩:=p;rw[el1]at k;dsimp only at k;cases em:j0 tg tt el ds (replicate nl .e++ss) []with
    |z=>rw[em]at k;exact k.elim|exc _ _=>rw[em]at k;exact k.elim
    |ok p =>
     obtain⟨res,Eb⟩:=p;rw[em]at k;dsimp only at k;cases eb:zJ ars ((zg (replicate nl .e++ss) Eb).drop nl) E1 E2 with
     |z=>rw[eb]at k;exact k.elim|exc _ _=>rw[eb]at k;exact k.elim
     |ok E3 =>
      rw[eb]at k;obtain⟨vs,av,evs,f1,o1⟩:=zCl (T:=[]) caps g1.len ec g1.fr;obtain⟨f2,o2,l2,l3⟩:=WX (T:=[]) ars g1.len av el1 f1;have hv:=av.length;have f2':FR X.K X.mg M H1 (O.zip E2++(vs.map some).zip ss):=FR.perm (T:=O.zip E2++(vs.map some).zip ss) (Z:=(vs.map some).zip ss++O.zip E2) f2 perm_append_comm;have osub:∀b,b∈yI (O.zip E2++(vs.map some).zip ss)->b∈yI (O.zip E1):=λb hb =>
       o1 b ((o2 b).mpr (zD (T:=O.zip E2++(vs.map some).zip ss) (Z:=(vs.map some).zip ss++O.zip E2) perm_append_comm b hb))
      have st1:Step M H (O.zip E) H1 (O.zip E2++(vs.map some).zip ss):=g1.st.weak osub;have eO:yf nl caps O=replicate nl none++vs.map some:=by unfold L2.yf;rw[evs]
      rw[eO];have ez:(replicate nl (none:Option V)++vs.map some).zip (replicate nl Slot.e++ss)=replicate nl (none,.e)++(vs.map some).zip ss:=by
       rw[List.zip_append (by simp),Qh]
      have f4:FR X.K X.mg (Mo M (O.zip E2)) H1 ((replicate nl (none:Option V)++vs.map some).zip (replicate nl Slot.e++ss)):=by
       rw[ez];exact(FR.inner f2').emps0 nl
      have oo:yI ((replicate nl (none:Option V)++vs.map some).zip (replicate nl Slot.e++ss))=yI ((vs.map some).zip ss):=by rw[ez,zCm]
      generalize hO0:replicate nl (none:Option V)++vs.map some=O0 at f4 oo ⊢;generalize hE0:replicate nl Slot.e++ss=E0 at f4 oo em eb ⊢;have hl0:E0.length=O0.length:=by rw[<- hO0,<- hE0];simp[l2,hv]
      have f5:=f4.newOwn (ds:=[]) (xs:=[]) hD Reps.nil;have s5:=Step.newOwn (ds:=[]) (xs:=[]) f4 hD;have iv5:Iv (Hm (Mo (Mo M (O.zip E2)) ((some (.ref D),Slot.own [])::O0.zip E0)) (upd H1 D (.l []))):=by
       refine it.mono _ _ s5.same (it.mono _ _ (jS λb hb=>?_) iv);rcases hb with hb|hb
       ·rcases hb with hb|hb
        ·exact .inl hb
        ·exact .inr (osub b (by rw[zY];exact mem_append_left _ hb))
       ·rw[oo]at hb
        exact .inr (osub b (by rw[zY];exact qK _ hb))
      refine⟨λi m O' H'=>m=ds.length-i/\i<=ds.length/\∃E' acc,Got X.K X.mg (Mo M (O.zip E2)) O0 E0 H1 [] O' E' H' [(some (.ref D),.own acc)]/\Iv (Hm (Mo (Mo M (O.zip E2)) ((some (.ref D),Slot.own acc)::O'.zip E')) H')/\j0 tg tt el (ds.drop i) E' acc=.ok (res,Eb),
       ⟨ds.length,by simp,zero_le _,E0,[],⟨hl0,f5,s5,PKp.refl⟩,iv5,em⟩,?_⟩
      rintro i m O' H' ⟨rfl,hi,E',acc,gb,ivb,cm⟩
      by_cases hlt:i<ds.length
      ·refine .inr ⟨it.go i _ H' zH ivb hlt,λO'' H''=>(i+1<=ds.length/\∃E' acc,Got X.K X.mg (Mo M (O.zip E2)) O0 E0 H1 [] O'' E' H'' [(some (.ref D),.own acc)]/\Iv (Hm (Mo (Mo M (O.zip E2)) ((some (.ref D),Slot.own acc)::O''.zip E')) H'')/\j0 tg tt el (ds.drop (i+1)) E' acc=.ok (res,Eb)),
        λO'' H'' q=>⟨ds.length-(i+1),by omega,rfl,q⟩,λx H'' y=>?_⟩
       obtain⟨d,hd,gb,ivb,rx⟩:=yld_got it hlt gb ivb y;have ed:ds.drop i=d::ds.drop (i+1):=by
        obtain⟨hi',rfl⟩:=qG.mp hd;exact List.drop_eq_getElem_cons hi'
       rw[ed]at cm;simp only[j0]at cm;cases e1:tg d E' with
       |z=>rw[e1]at cm;cases cm|exc _ _=>rw[e1]at cm;cases cm
       |ok Ea =>
        rw[e1]at cm;dsimp only at cm;refine ho _ O' E' _ [(some (.ref D),.own acc)] x d Ea _ gb.len (gb.fr.add rx) e1 λO2 ga=>?_
        have g2:=gb.trans' ga;cases e2:tt Ea with
        |z=>rw[e2]at cm;cases cm|exc _ _=>rw[e2]at cm;cases cm
        |ok p =>
         obtain⟨b,Eb2⟩:=p;rw[e2]at cm;refine tNT_run ga.len ga.fr e2 λH3 gt=>?_
         have g3:=g2.trans' gt;have iv3:=it.mono _ _ (ga.st.same.trans gt.st.same) ivb;cases b with
         |false =>
          refine zFv ⟨hlt,Eb2,acc,g3,iv3,cm⟩
         |true =>
          refine zFw ?_;dsimp only at cm;cases e3:el Eb2 with
          |z=>rw[e3]at cm;cases cm|exc _ _=>rw[e3]at cm;cases cm
          |ok p =>
           obtain⟨r,Ec⟩:=p;rw[e3]at cm;dsimp only at cm;by_cases hcap:acc.length<cap
           ·rw[if_pos hcap]at cm
            refine tN_run g3.len g3.fr e3 λyv H4 ge=>?_
            have g4:=g3.trans' ge;have fz:FR X.K X.mg (Mo M (O.zip E2)) H4 ((some yv,.v r.d)::((some (.ref D),Slot.own acc)::O2.zip Ec)):=g4.fr.frz;obtain⟨yv',ey,ry⟩:=fz.val _ _ qE;cases ey;rw[ZY]at ry;have fo:=fz.tail;obtain⟨a,ys,ea,ha,_,rys⟩:=fo.ownL _ _ acc qE rfl;cases ea;refine⟨ys,ha,by rw[rys.length];exact lt_of_lt_of_le hcap (wu (le_refl _)),hlt,Ec,acc++[r.d],?_⟩;obtain⟨fm,sm⟩:=FR.mut (i:=0) (s:=.own acc) fo rfl rfl (rys.append (Reps.cons ry Reps.nil));have fm':FR X.K X.mg (Mo M (O.zip E2)) (upd H4 D (.l (ys++[yv]))) ((some (.ref D),Slot.own (acc++[r.d]))::O2.zip Ec):=fm;have sm':Step (Mo M (O.zip E2)) H4 ((some (.ref D),Slot.own acc)::O2.zip Ec) (upd H4 D (.l (ys++[yv]))) ((some (.ref D),Slot.own (acc++[r.d]))::O2.zip Ec):=sm;have sz:Step (Mo M (O.zip E2)) H3 ((some (.ref D),Slot.own acc)::O2.zip Eb2) H4 ((some (.ref D),Slot.own acc)::O2.zip Ec):=ge.st.weak (zC (sublist_cons_self _ _));have sz0:Step (Mo M (O.zip E2)) H1 (O0.zip E0) H4 ((some (.ref D),Slot.own acc)::O2.zip Ec):=g4.st.weak (zC (sublist_cons_self _ _));exact⟨⟨g4.len,fm',sz0.trans sm',g4.pk⟩,it.mono _ _ (sz.same.trans sm'.same) iv3,cm⟩
           ·rw[if_neg hcap]at cm;cases cm
      ·have ei2:i=ds.length:=by omega
       subst ei2;rw[drop_length]at cm;simp only[j0]at cm;cases cm;refine .inl ⟨it.stop _ _ H' zH ivb (le_refl _),k _ H' ?_⟩;have mk0:Mask (O'.zip Eb) (O0.zip (zg E0 Eb)):=Z6 E0 O0 O' Eb gb.len (hl0.symm) λj ds' e=>(gb.pk j ds' e).2
       have mk:Mask (O'.zip Eb) ((vs.map some).zip ((zg E0 Eb).drop nl)):=by
        have:=YQ nl mk0;have e:(O0.zip (zg E0 Eb)).drop nl=(vs.map some).zip ((zg E0 Eb).drop nl):=by
         rw[Gm,<- hO0];congr 1;rw[List.drop_left' (by simp)]
        rw[e]at this;exact this
       refine zCn (r:=.own res) el1 eb av f2' st1 l3 g1.pk (gb.fr.mask (.keep mk)) ?_;refine(gb.st.weak λb hb=>(Mask.keep mk).sub.subset hb).left λb hb=>?_
       show b∈yI _
       rw[nil_append,oo]at hb;exact hb
end
section
variable{X:Cx}{elt target iter:Expr}{ifs:List Expr}{scope:Scope}{pos:Pos}
def ok_comp(nl:Nat)(caps:List Nat)(N':List Str)(hx:∀e s,¬X.xe e s)(hc:X.calm=true)(hkind:scope.kind=.function)(hnames:∀y∈scope.names,y.2=.local->scope.names.lookup y.1=some .local)(hcell:∀y∈scope.names,y.2=.cell->scope.names.lookup y.1=some .cell)
  (hfree:(scope.names.all λy=>y.2 != .free||X.env.kindOf y.1==some .cell)=true)
  (hlen:N'.length=nl+caps.length) (hcap:∀(i j:Nat),caps[i]?=some j->∃x,N'[nl+i]?=some x/\X.N[j]?=some x/\scope.names.lookup x=some .free)
  (hi:IOk X target iter mi) (hg:∀cl C ex s H,PG (cxB X N' scope cl C ex s H) target g) (ho:GOk X g tg) (ht:∀cl C ex s H,IfOk (cxB X N' scope cl C ex s H) ifs tt) (he:∀cl C ex s H,EOk (cxB X N' scope cl C ex s H) elt el)
  (hs:∀x,foldedSetIterable iter X.env x=pure x:=by intro _;rfl):EOk X (.ListComp elt [⟨target,iter,ifs,0⟩] scope pos) (J4 nl caps mi tg tt el) :=
 zu (pe_comp (te:=tN X.K X.mg el) (tt:=tNT X.K X.mg tt) hx hc hkind hnames hcell hfree hlen hcap hi hg (λcl C ex s H=>uV (ht cl C ex s H) λO H Q q=>tNT_M (X:=cxB X N' scope cl C ex s _) q) (λcl C ex s H=>zu (he cl C ex s H) λO H Q q=>tN_M (X:=cxB X N' scope cl C ex s _) q) hs) λO H Q=>zAa ho
def sk_comp(nl:Nat)(caps:List Nat)(N':List Str)(hN:X.N.Nodup)(hi':X.N[i]?=some y)(hy:Loc X.env.scope y)(hf:X.fn y=true\/X.env.scope.names.lookup y=some .local)(hx:∀e s,¬X.xe e s)(hc:X.calm=true)(hkind:scope.kind=.function)(hnames:∀y∈scope.names,y.2=.local->scope.names.lookup y.1=some .local)(hcell:∀y∈scope.names,y.2=.cell->scope.names.lookup y.1=some .cell)
  (hfree:(scope.names.all λy=>y.2 != .free||X.env.kindOf y.1==some .cell)=true)
  (hlen:N'.length=nl+caps.length) (hcap:∀(i j:Nat),caps[i]?=some j->∃x,N'[nl+i]?=some x/\X.N[j]?=some x/\scope.names.lookup x=some .free)
  (hi:IOk X target iter mi) (hg:∀cl C ex s H,PG (cxB X N' scope cl C ex s H) target g) (ho:GOk X g tg) (ht:∀cl C ex s H,IfOk (cxB X N' scope cl C ex s H) ifs tt) (he:∀cl C ex s H,EOk (cxB X N' scope cl C ex s H) elt el)
  (hs:∀x,foldedSetIterable iter X.env x=pure x) (hsw:swapsWith (.ListComp elt [⟨target,iter,ifs,0⟩] scope pos) (some (.Name y py)) spos.line X.env=pure true) :
  SOk X (.Assign [.Name y py] (.ListComp elt [⟨target,iter,ifs,0⟩] scope pos) spos) (sSet i (J4 nl caps mi tg tt el)) :=
 jV (ps_setC (te:=tN X.K X.mg el) (tt:=tNT X.K X.mg tt) hN hi' hy hf hx hc hkind hnames hcell hfree hlen hcap hi hg (λcl C ex s H=>uV (ht cl C ex s H) λO H Q q=>tNT_M (X:=cxB X N' scope cl C ex s _) q) (λcl C ex s H=>zu (he cl C ex s H) λO H Q q=>tN_M (X:=cxB X N' scope cl C ex s _) q) hs hsw) λD O H h=>zAa ho (zCc h)
end
def mem7{P:String->Prop}(h1:P "NoneType")(h2:P "bool")(h3:P "int")(h4:P "str")(h5:P "tuple")(h6:P "list")(h7:P "dict"):∀t∈["NoneType","bool","int","str","tuple","list","dict"],P t:=by
 intro t ht;simp only[mem_cons,mem_nil_iff,or_false]at ht;rcases ht with rfl|rfl|rfl|rfl|rfl|rfl|rfl<;>assumption
abbrev Kit(K:qH)(T:String):Prop:=∀t∈["NoneType","bool","int","str","tuple","list","dict"],kitOne K (.type t) (.type T)=some (vC t T)
def kit_int(K:qH):Kit K "int":=mem7 rfl rfl rfl rfl rfl rfl rfl
def zEt(K:qH):Kit K "bool":=mem7 rfl rfl rfl rfl rfl rfl rfl
def zCo(K:qH):Kit K "tuple":=mem7 rfl rfl rfl rfl rfl rfl rfl
def zEu(K:qH):Kit K "list":=mem7 rfl rfl rfl rfl rfl rfl rfl
def kit_str(K:qH):Kit K "str":=mem7 rfl rfl rfl rfl rfl rfl rfl
def zEv(K:qH):Kit K "dict":=mem7 rfl rfl rfl rfl rfl rfl rfl
def uW:bootBuiltins "isinstance"=some (.builtin "isinstance"):=by decide +kernel
def bt_len:bootBuiltins "len"=some (.builtin "len"):=by decide +kernel
def bt_max:bootBuiltins "max"=some (.builtin "max"):=by decide +kernel
def bt_all:bootBuiltins "all"=some (.builtin "all"):=by decide +kernel
def zGD:bootBuiltins "int"=some (.type "int"):=by decide +kernel
def bt_bool:bootBuiltins "bool"=some (.type "bool"):=by decide +kernel
def zAb:bootBuiltins "tuple"=some (.type "tuple"):=by decide +kernel
def zCp:bootBuiltins "list"=some (.type "list"):=by decide +kernel
def bt_str:bootBuiltins "str"=some (.type "str"):=by decide +kernel
def zCq:bootBuiltins "dict"=some (.type "dict"):=by decide +kernel
section
variable{X:Cx}{K:qH}{mg:Str->Option Value}{O:St}{H:Hp}
def eNeg(a:ME):ME:=λE=>match a E with
 | .ok (.v (.int i),E1)=>.ok (.v (.int (-i)),E1)| .exc x E1=>.exc x E1|_=>.z
def ok_neg(h:EOk X a m):EOk X (.UnaryOp .USub a pos) (eNeg m):=zu (pe_un zFr h) λO H Q ⟨M,E,hl,fr,k⟩=>by
 unfold eNeg at k;refine zk (T0:=[]) hl fr ?_;cases ea:m E with
 |z=>rw[ea]at k;exact k|exc x E1=>rw[ea]at k;exact k
 |ok p =>
  obtain⟨r,E1⟩:=p;rw[ea]at k;cases r with
  |own ds=>exact k.elim|dct _ _=>exact k.elim
  |v d =>
   cases d with
   |int i =>
    intro v H' g;exact⟨i,zR g.rep,k _ H' (g.flat (d:=.int (-i)) rfl)⟩
   |_=>exact k.elim
def wv(p p':Int->Int->Bool)(a b c:ME):ME:=λE=>match a E with
 | .z=>.z| .exc x E1=>.exc x E1
 | .ok (.v (.int i),E1)=>match b E1 with
  | .z=>.z| .exc x E2=>.exc x E2
  | .ok (.v (.int j),E2)=>if p i j=true then match c E2 with
    | .z=>.z| .exc x E3=>.exc x E3| .ok (.v (.int k),E3)=>.ok (.v (.bl (p' j k)),E3)|_=>.z
   else .ok (.v (.bl false),E2)
  |_=>.z
 |_=>.z
def Gn{p p':Int->Int->Bool}(h:tM X (wv p p' a b c) O H Q):zB8 (rI0 λi j=>.bl (p i j)) (rI0 λi j=>.bl (p' i j)) (tM X a) (tM X b) (tM X c) O H Q:=by
 obtain⟨M,E,hl,fr,k⟩:=h;unfold wv at k;refine zk (T0:=[]) hl fr ?_;cases ea:a E with
 |z=>rw[ea]at k;exact k|exc x E1=>rw[ea]at k;exact k
 |ok q =>
  obtain⟨r,E1⟩:=q;rw[ea]at k;cases r with
  |own ds=>exact k.elim|dct _ _=>exact k.elim
  |v d =>
   cases d with
   |int i =>
    intro x H1 g1;have g1':=g1.dropAll;refine zk (T0:=[]) g1'.len g1'.fr ?_;dsimp only at k;cases eb:b E1 with
    |z=>rw[eb]at k;exact k|exc x E2=>rw[eb]at k;exact λH' g=>k H' (g1'.trans' g)
    |ok q =>
     obtain⟨r2,E2⟩:=q;rw[eb]at k;cases r2 with
     |own ds=>exact k.elim|dct _ _=>exact k.elim
     |v d2 =>
      cases d2 with
      |int j =>
       intro y H2 g2;have g12:=(g1'.trans' g2).dropAll;refine⟨i,j,zR g1.rep,zR g2.rep,p i j,rfl,?_⟩;dsimp only at k;cases ep:p i j with
       |false =>
        rw[ep]at k;exact zFv (k _ H2 (g12.flat (d:=.bl false) rfl))
       |true =>
        rw[ep]at k;simp only[if_true]at k;refine zFw (zk (T0:=[]) g12.len g12.fr ?_);cases ec:c E2 with
        |z=>rw[ec]at k;exact k|exc x E3=>rw[ec]at k;exact λH' g=>k H' (g12.trans' g)
        |ok q =>
         obtain⟨r3,E3⟩:=q;rw[ec]at k;cases r3 with
         |own ds=>exact k.elim|dct _ _=>exact k.elim
         |v d3 =>
          cases d3 with
          |int n =>
           intro w H3 g3;exact⟨j,n,zR g2.rep,zR g3.rep,k _ H3 ((g12.trans' g3).flat (d:=.bl (p' j n)) rfl)⟩
          |_=>exact k.elim
      |_=>exact k.elim
   |_=>exact k.elim
def zEw{p p':Int->Int->Bool}(ho:OpR X (compareOp op) (rI0 λi j=>.bl (p i j)))(ho':OpR X (compareOp op') (rI0 λi j=>.bl (p' i j)))(ha:EOk X a ma)(hb:EOk X b mb)(hc:EOk X c mc)
  (hm:lastMarks [op,op'] [b,c]=false:=by with_unfolding_all rfl):EOk X (.Compare a [op,op'] [b,c] pos) (wv p p' ma mb mc):=zu (zEG ho ho' ha hb hc hm) λO H Q=>Gn
def zCr{p p':Int->Int->Bool}(ho:OpR X (compareOp op) (rI0 λi j=>.bl (p i j)))(ho':OpR X (compareOp op') (rI0 λi j=>.bl (p' i j)))(ha:EOk X a ma)(hb:EOk X b mb)(hc:EOk X c mc)
  (hm:lastMarks [op,op'] [b,c]=false:=by with_unfolding_all rfl):TOk X (.Compare a [op,op'] [b,c] pos) (tT (wv p p' ma mb mc)):=zAW (zEH ho ho' ha hb hc hm) λO H Q q=>Gn (zCV q)
abbrev ltB:Int->Int->Bool:=λi j=>decide (i<j)
abbrev leB:Int->Int->Bool:=λi j=>decide (i<=j)
abbrev gtB:Int->Int->Bool:=λi j=>decide (j<i)
abbrev geB:Int->Int->Bool:=λi j=>decide (j<=i)
def zCs(X:Cx)(scope:Scope):List Nat->List Str->Prop
 | [],[]=>True|j::js,x::xs=>X.N[j]?=some x/\scope.names.lookup x=some .free/\zCs X scope js xs|_,_=>False
theorem zCt{scope:Scope}{loc:List Str}:∀{caps:List Nat} {capn:List Str},zCs X scope caps capn->capn.length=caps.length/\∀(i j:Nat),caps[i]?=some j->∃x,capn[i]?=some x/\X.N[j]?=some x/\scope.names.lookup x=some .free
 | [],[],h=>⟨rfl,λi j e=>by simp at e⟩| [],_::_,h=>h.elim|_::_,[],h=>h.elim
 |j::js,x::xs,h=>by
  obtain⟨h1,h2,h3⟩:=h;obtain⟨i1,i2⟩:=zCt (loc:=loc) h3;refine⟨by simp[i1],λi k e=>?_⟩;cases i with
  |zero=>simp at e;subst e;exact⟨x,rfl,h1,h2⟩|succ i=>simp at e;obtain⟨y,q⟩:=i2 i k e;exact⟨y,by simpa using q⟩
def ok_lc{elt target iter:Expr}{ifs:List Expr}{scope:Scope}{pos:Pos}{mi:MI}{tg:MG}{tt:MT}{el:ME}{g:TG}{nl:Nat}{caps:List Nat}(loc capn:List Str)(hnl:loc.length=nl)(hx:∀e s,¬X.xe e s)(hc:X.calm=true)(hkind:scope.kind=.function)(hnames:∀y∈scope.names,y.2=.local->scope.names.lookup y.1=some .local)(hcell:∀y∈scope.names,y.2=.cell->scope.names.lookup y.1=some .cell)
  (hfree:(scope.names.all λy=>y.2 != .free||X.env.kindOf y.1==some .cell)=true) (hcap:zCs X scope caps capn)
  (hi:IOk X target iter mi) (hg:∀cl C ex s H,PG (cxB X (loc++capn) scope cl C ex s H) target g) (ho:GOk X g tg) (ht:∀cl C ex s H,IfOk (cxB X (loc++capn) scope cl C ex s H) ifs tt) (he:∀cl C ex s H,EOk (cxB X (loc++capn) scope cl C ex s H) elt el)
  (hs:∀x,foldedSetIterable iter X.env x=pure x:=by intro _;rfl):EOk X (.ListComp elt [⟨target,iter,ifs,0⟩] scope pos) (J4 nl caps mi tg tt el):=by
 obtain⟨c1,c2⟩:=zCt (loc:=loc) hcap;refine ok_comp nl caps (loc++capn) hx hc hkind hnames hcell hfree (by simp[hnl,c1]) (λi j e=>?_) hi hg ho ht he hs;obtain⟨x,q1,q2,q3⟩:=c2 i j e;refine⟨x,?_,q2,q3⟩;rw[getElem?_append_right (by omega),hnl,Nat.add_sub_cancel_left];exact q1
def sk_lc{elt target iter:Expr}{ifs:List Expr}{scope:Scope}{pos:Pos}{mi:MI}{tg:MG}{tt:MT}{el:ME}{g:TG}{nl:Nat}{caps:List Nat}{i:Nat}{y:Str}{py spos:Pos}(loc capn:List Str)(hN:X.N.Nodup)(hi':X.N[i]?=some y)(hy:Loc X.env.scope y)(hf:X.fn y=true\/X.env.scope.names.lookup y=some .local)(hnl:loc.length=nl)(hx:∀e s,¬X.xe e s)(hc:X.calm=true)(hkind:scope.kind=.function)(hnames:∀y∈scope.names,y.2=.local->scope.names.lookup y.1=some .local)(hcell:∀y∈scope.names,y.2=.cell->scope.names.lookup y.1=some .cell)
  (hfree:(scope.names.all λy=>y.2 != .free||X.env.kindOf y.1==some .cell)=true) (hcap:zCs X scope caps capn)
  (hi:IOk X target iter mi) (hg:∀cl C ex s H,PG (cxB X (loc++capn) scope cl C ex s H) target g) (ho:GOk X g tg) (ht:∀cl C ex s H,IfOk (cxB X (loc++capn) scope cl C ex s H) ifs tt) (he:∀cl C ex s H,EOk (cxB X (loc++capn) scope cl C ex s H) elt el)
  (hs:∀x,foldedSetIterable iter X.env x=pure x) (hsw:swapsWith (.ListComp elt [⟨target,iter,ifs,0⟩] scope pos) (some (.Name y py)) spos.line X.env=pure true) :
  SOk X (.Assign [.Name y py] (.ListComp elt [⟨target,iter,ifs,0⟩] scope pos) spos) (sSet i (J4 nl caps mi tg tt el)):=by
 obtain⟨c1,c2⟩:=zCt (loc:=loc) hcap;refine sk_comp nl caps (loc++capn) hN hi' hy hf hx hc hkind hnames hcell hfree (by simp[hnl,c1]) (λi j e=>?_) hi hg ho ht he hs hsw;obtain⟨x,q1,q2,q3⟩:=c2 i j e;refine⟨x,?_,q2,q3⟩;rw[getElem?_append_right (by omega),hnl,Nat.add_sub_cancel_left];exact q1
end
section
variable(P:Program)(w:World)(K:qH)(mg:Str->Option Value)(base:Heap)
def j5(x:Str)(st:Stmt)(ps:List Str):Prop:=∃(a:Addr) (fd:FuncData),mg x=some (.ref a)/\Fun K x x st a fd/\Zs K fd ps []
def FOk(c:Bool)(x:Str)(k:Nat)(ps:List Str)(F:MF):Prop:=∃(a:Addr) (fd:FuncData),mg x=some (.ref a)/\keepIn K (.ref a)=true/\Zs K fd ps []/\FnOkN c P w K mg base k a fd ps (spM K mg ps.length F)
end
mutual
def deq:D->D->Bool
 | .t a,d=>match d with
  | .t b=>deqs a b|_=>false
 | .l a,d=>match d with
  | .l b=>deqs a b|_=>false
 |a,d=>match d with
  | .t _=>false| .l _=>false|b=>eqV (flV a) (flV b)
def deqs:List D->List D->Bool
 | [],[]=>true|a::as,b::bs=>deq a b&&deqs as bs| [],_::_=>false|_::_,[]=>false
end
def eqb:Nat->D->Bool
 |_,.non=>true|_,.bl _=>true|_,.int _=>true|_,.str x=>PyData.canLay0 (.str x)|n+1,.t ds=>ds.all (eqb n)|n+1,.l ds=>ds.all (eqb n)|_,_=>false
section
variable{X:Cx}{K:qH}{mg:Str->Option Value}
def rEqD(K:qH)(mg:Str->Option Value)(neg:Bool):R2:=λx y H Q=>∃d e,eqb 20 d=true/\eqb 20 e=true/\Rep K mg H d x/\Rep K mg H e y/\Q (.bl (if neg then !deq d e else deq d e)) H
def eqDD(neg:Bool)(d e:D):Option R:=if eqb 20 d=true/\eqb 20 e=true then some (.v (.bl (if neg then !deq d e else deq d e)))else none
def zGE:ROk K mg (rEqD K mg neg) (eqDD neg):=by
 intro M H Z x y d1 d2 res Q f r1 r2 e k;unfold eqDD at e;split at e
 ·rename_i hc
  cases e;exact⟨d1,d2,hc.1,hc.2,r1.mono zH,r2.mono zH,k.flat f rfl⟩
 ·cases e
end
end DV
namespace L2
open PySem PySem.Spec PyProof.Rows
section
variable{X:Cx}
def zAc{ns:List Int}{its:List Value}(rv:yW (ns.map V.int) its)(i:Nat)(v:Value)(hv:its.toArray[i]?=some v):∃t,v=.int (ns.getD i 0) t:=by
 have hv':its[i]?=some v:=by simpa using hv
 have hi:i<its.length:=(qG.mp hv').1;have hl:=rv.length;have hx:i<(ns.map V.int).length:=by rw[hl];exact hi
 obtain⟨u',e1,e2⟩:=rv.get (i:=i) (x:=(ns.map V.int)[i]) (by simp[hx]);rw[hv']at e1;cases e1;rw[length_map]at hx;rw[List.getElem_map]at e2;obtain⟨t,e⟩:=(show ∃t,v=.int (ns[i]) t from e2);exact⟨t,by rw[e];simp[hx]⟩
def maxAt(ns:List Int):Int:=ns.getD (argBest (λi j=>decide (ns.getD i 0 > ns.getD j 0)) (ns.length-1)) 0
theorem Wb(ns:List Int):∀k,k<=ns.length->preSum (λi=>ns.getD i 0) k=(ns.take k).sum
 |0,_=>by simp[preSum]
 |k+1,h=>by
  have hk:k<ns.length:=by omega
  rw[preSum,Wb ns k (by omega),take_add_one,getElem?_eq_getElem hk,sum_append];simp[hk]
def zCu(hc:X.calm=true):wy X (.builtin "sum") (λxs H Q=>∃(p:Addr) (ns:List Int),xs=[.ref p]/\SqL X.K H p (ns.map V.int)/\Q (.int ns.sum) H):=by
 intro pins s O H xs us Q I r h;obtain⟨p,ns,rfl,hq,q⟩:=h;obtain⟨u,rfl,rx⟩:=uE r;cases rx;obtain⟨its,rv,pl,hz⟩:=I.list hq;have hlen:its.length=ns.length:=by rw[<- rv.length,length_map]
 have hp:p<s.heap.objs.size:=by obtain⟨o,n,e,_⟩:=pl;exact lt_size e
 have hk:∀b o,s.heap.get? b=some o->(s.heap.push {cls:=.type "list_iterator",data:=.fields #[.ref p,.int 0 0]}).get? b=some o:=λb o e=>qA _ e
 refine call_sum_walkAnyS (wpAny_pyIter_list pl.isList ?_);refine⟨s.heap.objs.size,[s.heap.objs.size,p],[s.heap.objs.size],_,its.toArray.size,_,_,λi=>ns.getD i 0,rfl,
  (Walks.list (by show X.A.handled=none;exact I.ok.hd hc) _ p (ne_of_lt hp) its.toArray).toS,⟨⟨_,get?_push_size _ rfl,rfl,rfl⟩,?_⟩,?_,zAc rv,?_⟩
 ·obtain⟨o,e,c⟩:=pl.isList
  exact⟨o,hk _ _ e,c⟩
 ·intro b hb
  rw[size_push];rcases mem_cons.mp hb with rfl|hb
  ·exact Nat.lt_succ_self _
  ·have:b=p:=by simpa using hb
   subst this;exact lt_succ_of_lt hp
 ·intro s' t' mv
  rw[size_toArray,hlen,Wb ns _ (le_refl _),take_length];obtain⟨h',g',d',tk,o'⟩:=s';have e1:g'=s.gens:=mv.gens;have e2:d'=s.drawn:=mv.drawn;have e3:o'=s.os:=mv.os;subst e1 e2 e3;exact⟨.int ns.sum,H,I.kept (t':=tk) λb o eb=>mv.heap b o (λm=>by
   have:b=s.heap.objs.size:=by simpa using m
   subst this;exact absurd (lt_size eb) (lt_irrefl _)) (hk b o eb),⟨_,rfl⟩,q⟩
def zCv(hc:X.calm=true):wy X (.builtin "sum") (λxs H Q=>∃(p:Addr) (ns:List Int),xs=[.ref p]/\SqT X.K H p (ns.map V.int)/\Q (.int ns.sum) H):=by
 intro pins s O H xs us Q I r h;obtain⟨p,ns,rfl,hq,q⟩:=h;obtain⟨u,rfl,rx⟩:=uE r;cases rx;obtain⟨its,rv,pl,hz⟩:=I.tuple hq;have hlen:its.length=ns.length:=by rw[<- rv.length,length_map]
 have hp:p<s.heap.objs.size:=by obtain⟨o,e,_⟩:=pl;exact lt_size e
 have hk:∀b o,s.heap.get? b=some o->(s.heap.push {cls:=.type "tuple_iterator",data:=.fields #[.ref p,.int 0 0]}).get? b=some o:=λb o e=>qA _ e
 refine call_sum_walkAnyS (wpAny_pyIter_tuple (show s.heap.IsTuple p its.toArray from pl) ?_);refine⟨s.heap.objs.size,[s.heap.objs.size,p],[s.heap.objs.size],_,its.toArray.size,_,_,λi=>ns.getD i 0,rfl,
  (Walks.tuple (by show X.A.handled=none;exact I.ok.hd hc) _ p (ne_of_lt hp) its.toArray).toS,⟨⟨_,get?_push_size _ rfl,rfl,rfl⟩,?_⟩,?_,zAc rv,?_⟩
 ·obtain⟨o,e,c⟩:=pl
  exact⟨o,hk _ _ e,c⟩
 ·intro b hb
  rw[size_push];rcases mem_cons.mp hb with rfl|hb
  ·exact Nat.lt_succ_self _
  ·have:b=p:=by simpa using hb
   subst this;exact lt_succ_of_lt hp
 ·intro s' t' mv
  rw[size_toArray,hlen,Wb ns _ (le_refl _),take_length];obtain⟨h',g',d',tk,o'⟩:=s';have e1:g'=s.gens:=mv.gens;have e2:d'=s.drawn:=mv.drawn;have e3:o'=s.os:=mv.os;subst e1 e2 e3;exact⟨.int ns.sum,H,I.kept (t':=tk) λb o eb=>mv.heap b o (λm=>by
   have:b=s.heap.objs.size:=by simpa using m
   subst this;exact absurd (lt_size eb) (lt_irrefl _)) (hk b o eb),⟨_,rfl⟩,q⟩
def zBX(a:Int)(t:Tok)(l:Addr)(its:Array Value)(n:Nat)(dd:Option Addr)(sl:Array (Option Value)) :
  Meets (Builtin.«int.__rmul__» ⟨[.int a t,.ref l],[]⟩) (λ_ R s=>s.heap.get? l=some {cls:=.type "list",dict:=dd,data:=.seq its n,slots:=sl}/\R (.ok (.ret Value.notImplemented)) s) :=
 .of_wp λprog w A R s h=>by
  obtain⟨hp,g,d,tk,os⟩:=s;obtain⟨hl,h⟩:=h
  wp_walk
  exact⟨_,rfl,h⟩
def zCw(l:Addr)(its:Array Value)(n:Nat)(dd:Option Addr)(sl:Array (Option Value))(k:Int)(u:Tok)(h0:¬(!Builtin.List.listFitsIndex k)=true)(h1:¬its.size*k.toNat > (2^63-1)/8)(h2:¬Builtin.List.listTooLong (its.size*k.toNat)=true) :
  Meets (Builtin.«list.__mul__» ⟨[.ref l,.int k u],[]⟩) (λ_ R s=>s.heap.get? l=some {cls:=.type "list",dict:=dd,data:=.seq its n,slots:=sl} /\
   R (.ok (.ret (Value.ref s.heap.objs.size))) {s with heap:=s.heap.push {cls:=Value.type "list",data:=Data.seq (foldl (λa b=>a++b) #[] (replicate (if its.isEmpty=true then 0 else k.toNat) its))},toks:=s.toks}) :=
 .of_wp λprog w A R s h=>by
  obtain⟨hp,g,d,tk,os⟩:=s;obtain⟨hl,h⟩:=h;have fits:=AutoListH.joined_fits h2
  wp_walk
  refine wpAny_ite_false (decide_eq_false (not_lt.mpr fits)) ?_
  wp_walk
  exact⟨_,rfl,h⟩
def rRepL(K:qH):R2:=λx y H Q=>∃l k xs,x=.ref l/\y=.int k/\SqL K H l xs/\-(2^63)<=k/\k<2^63/\xs.length*k.toNat<=sizeLine /\
 ∀p,H p=none->Q (.ref p) (upd H p (.l (replicate k.toNat xs).flatten))
def op_repL:OpR X (binaryOp .Mult) (rRepL X.K):=by
 intro pins s O H x y v u Q I rx ry h;obtain⟨l,k,xs,rfl,rfl,hH,h1,h2,hz,q⟩:=h;cases rx;obtain⟨t,rfl⟩:=ry;obtain⟨its,r,pl,_⟩:=I.list hH;have hl:=r.length;obtain⟨⟨cls,dd,data,sl⟩,n,ho,hc,hdd,hd⟩:=pl;simp only at hc hd;subst hc hd;have hlen:its.toArray.size*k.toNat<=sizeLine:=by rw[size_toArray,<- hl];exact hz
 have c1:¬its.toArray.size*k.toNat > (2^63-1)/8:=by
  have:(sizeLine:Nat)<=(2^63-1)/8:=by decide
  omega
 have c2:¬(!Builtin.List.listFitsIndex k)=true:=by rw[fitsIndex_both h1 h2];exact qF
 have c3:¬Builtin.List.listTooLong (its.toArray.size*k.toNat)=true:=by rw[zEN hlen];exact qF
 have hnew:foldl (λa b=>a++b) #[] (replicate (if its.toArray.isEmpty=true then 0 else k.toNat) its.toArray)=(replicate k.toNat its).flatten.toArray:=by
  have f0:∀m:Nat,foldl (λa b=>a++b) #[] (replicate m its.toArray)=(replicate m its).flatten.toArray:=λm=>by
   have:=WK its m [];rw[nil_append]at this;exact this
  rw[f0];cases its with
  |nil=>simp|cons a r'=>rw[if_neg (by simp)]
 refine wpAny_binaryOp_repeat_ref (T:="list") (U:="int") (by decide) ⟨_,ho,rfl⟩ (λs'=>typeIs_int s' k t) noFill_list_mul F.fills_int_mul F.slot_int_rmul repeat_list F.slot_int_index.lookup
  (call_meets F.slot_int_rmul (typeIs_int s k t) F.entry_int_rmul (F.args_int_rmul_2 _ _) (zBX k t l its.toArray n dd sl) ⟨ho,rfl,⟨_,ho,rfl⟩,?_⟩)
 refine call_meets F.slot_list_mul ⟨_,ho,rfl⟩ F.entry_list_mul (F.args_list_mul_2 _ _) (zCw l its.toArray n dd sl k t c2 c1 c3) ⟨ho,?_⟩;rw[hnew];exact⟨.ref _,_,I.lnew (t':=s.toks) (r.rep k.toNat) (by rw[QT,mul_comm];exact hz),rfl,q _ I.fresh⟩
end
def evens{α:Type}:List α->List α
 | []=>[]| [a]=>[a]|a::_::r=>a::evens r
theorem Zc{α:Type}:∀xs:List α,(evens xs).length=(xs.length+1)/2
 | []=>by simp[evens]| [a]=>by simp[evens]
 |a::_::r=>by
  simp only[evens,length_cons,Zc r];omega
theorem Y2{α:Type}:∀(xs:List α),(List.range ((xs.length+1)/2)).filterMap (λk=>xs[2*k]?)=evens xs
 | []=>by simp[evens]| [a]=>by simp[evens,range_succ]
 |a::b::r=>by
  have e:((a::b::r).length+1)/2=(r.length+1)/2+1:=by simp only[length_cons];omega
  rw[e,List.range_succ_eq_map,filterMap_cons];simp only[Nat.mul_zero,List.getElem?_cons_zero,filterMap_map,evens];congr 1;rw[<- Y2 r];congr 1
def zAd{α:Type}(xs:List α):(List.range xs.length).filterMap (λk=>xs[xs.length-1-k]?)=xs.reverse:=by
 have key:∀m,m<=xs.length->(List.range m).filterMap (λk=>xs[xs.length-1-k]?)=xs.reverse.take m:=by
  intro m
  induction m with
  |zero=>intro _;simp
  |succ m ih =>
   intro hm;rw[range_succ,List.filterMap_append,ih (by omega),take_add_one];congr 1;rw[List.getElem?_reverse (by omega)];have h:xs.length-1-m<xs.length:=by omega
   simp[getElem?_eq_getElem h]
 rw[key _ (le_refl _)];rw[show xs.length=xs.reverse.length by simp,take_length]
theorem YR{α β:Type}{f g:α->Option β}:∀{l:List α},(∀x∈l,f x=g x)->l.filterMap f=l.filterMap g
 | [],_=>rfl
 |a::l,h=>by
  rw[filterMap_cons,filterMap_cons,h a qE,YR λx hx=>h x (mem_cons_of_mem _ hx)]
def neg1:(- -1:Int)=1:=rfl
def jP{α:Type}(k:Bool)(xs:List α):List α:=if k then evens xs else xs.reverse
def ya(k:Bool):Int:=if k then 2 else -1
def JG{α:Type}(k:Bool)(xs:List α):(jP k xs).length<=xs.length:=by
 cases k
 ·simp[jP]
 ·simp[jP,Zc];omega
theorem yW.evens:∀{xs:List V} {us:List Value},yW xs us->yW (evens xs) (L2.evens us)
 | [],_,h=>by cases h;exact .nil
 | [_],_,h=>by cases h with|cons a t=>cases t;exact .cons a .nil
 |_::_::_,_,h=>by cases h with|cons a t=>cases t with|cons _ r=>exact .cons a (yW.evens r)
def yW.rev(r:yW xs us):yW xs.reverse us.reverse:=by
 induction r with
 |nil=>exact .nil|cons a r ih=>rw[reverse_cons,reverse_cons];exact ih.append (.cons a .nil)
def yW.step(k:Bool)(r:yW xs us):yW (jP k xs) (jP k us):=by
 cases k
 ·simp only[jP,Bool.false_eq_true,if_false];exact r.rev
 ·simp only[jP,if_true];exact r.evens
def Qi(k:Bool)(n:Nat):Builtin.Slice.sliceAdjust none none (ya k) (n:Int)=(if k then((0:Int),(n:Int))else((n:Int)-1,-1)):=by
 cases k
 ·simp[Builtin.Slice.sliceAdjust,ya]
 ·simp[Builtin.Slice.sliceAdjust,ya]
def Qj(k:Bool)(xs:Array Value):((List.range (Builtin.Slice.slicePlaces (if k then(0:Int)else(xs.size:Int)-1) (if k then(xs.size:Int)else -1) (ya k))).filterMap λ(m:Nat)=>xs[((if k then(0:Int)else(xs.size:Int)-1)+(m:Int)*ya k).toNat]?)=jP k xs.toList:=by
 cases k
 ·have e:Builtin.Slice.slicePlaces ((xs.size:Int)-1) (-1) (-1)=xs.size:=by
   simp only[Builtin.Slice.slicePlaces];rw[if_neg (by decide)];by_cases h:(xs.size:Int)-1 > -1
   ·rw[if_pos h,neg1,Int.ediv_one];omega
   ·rw[if_neg h];omega
  simp only[ya,jP,Bool.false_eq_true,if_false,e];rw[<- zAd xs.toList];rw[Array.length_toList];refine YR λm hm=>?_
  have hm:m<xs.size:=by simpa using hm
  rw[show(((xs.size:Int)-1)+(m:Int) * -1).toNat=xs.size-1-m by omega];simp
 ·have e:Builtin.Slice.slicePlaces (0:Int) (xs.size:Int) 2=(xs.size+1)/2:=by
   simp only[Builtin.Slice.slicePlaces];rw[if_pos (by decide)];by_cases h:(0:Int)<(xs.size:Int)
   ·rw[if_pos h];omega
   ·rw[if_neg h];omega
  simp only[ya,jP,if_true,e];rw[<- Y2 xs.toList];rw[Array.length_toList];refine YR λm hm=>?_
  rw[show((0:Int)+(m:Int)*2).toNat=2*m by omega];simp
section
variable{prog:Program}{w:World}{A:Around}{E:Value->Shared->Prop}{s:Shared}
def Go(k:Bool){sl:Addr}{t:Tok}{n:Nat}{Q:Int×Int×Nat->Shared->Prop}(hs:s.heap.IsSliceOf sl .none .none (.int (ya k) t))
  (h:Q ((if k then(0:Int)else(n:Int)-1),ya k,Builtin.Slice.slicePlaces (if k then(0:Int)else(n:Int)-1) (if k then(n:Int)else -1) (ya k)) s):wpAny (model prog w) A (Builtin.Slice.sliceApplied (.ref sl) (pure (n:Int))) Q E s:=by
 obtain⟨os,o1,o2,o3⟩:=id hs;unfold Builtin.Slice.sliceApplied;unfold Builtin.Slice.sliceFields;refine qB (qB (wpAny_field o1 o3 (x:=.none) rfl ?_));refine qB (wpAny_field o1 o3 (x:=.none) rfl ?_);refine qB (wpAny_field o1 o3 (x:=.int (ya k) t) rfl (qC ?_));refine qB (HT.slicePart_ (.int (ya k) t) ?_);show wpAny _ _ (if(ya k==0)=true then _ else _) _ _ s;rw[if_neg (by cases k<;>decide)];refine qB (HT.slicePart_ .none ?_);refine qB (HT.slicePart_ .none ?_);refine qB (qC ?_);show wpAny _ _ (match Builtin.Slice.sliceAdjust none none (ya k) (n:Int)with|(lo,hi)=>pure (lo,ya k,Builtin.Slice.slicePlaces lo hi (ya k))) _ _ s
 rw[Qi k n];cases k<;>exact qC h
def YS(k:Bool){Q:Value->Shared->Prop}(ht:IsTup s.heap a its)(hs:s.heap.IsSliceOf sl .none .none (.int (ya k) t))(hz:its.size<=sizeLine)
  (h:Q (.ref s.heap.objs.size) {s with heap:=s.heap.push {cls:=.type "tuple",data:=.seq (jP k its.toList).toArray}}):wpAny (model prog w) A (getItem (.ref a) (.ref sl)) Q E s:=by
 obtain⟨os,o1,o2,o3⟩:=id hs;have ts:s.TypeIs (.ref sl) "slice":=⟨os,o1,o2⟩;have hfit:sizeOk (.seq (jP k its.toList).toArray):=by
  show(jP k its.toList).toArray.size<=sizeLine
  have h1:=JG k its.toList;have h2:its.toList.length=its.size:=Array.length_toList;rw[size_toArray];omega
 unfold getItem
 try with_reducible refine wpAny_holding ?_
 first|refine qB (qC ?_)|skip
 refine qB (wpAny_sequenceKey ht.typeIs (by decide) ?_);refine qB (wpAny_callSpecial?_slot (name:=Str.ofString "__getitem__") ht.typeIs PyProof.Rows.slot_tuple_getitem
  (wpAny_call_entry PyProof.Rows.slot_tuple_getitem ht.typeIs entry_tuple_getitem ?_ (args_tuple_getitem _ _)))
 show wpAny _ _ (Builtin.Tuple.tupleItemsOf (.ref a) >>= _) _ _ s
 refine qB (tupleItemsOf_ ht ?_);refine qB (wpAny_typeOf ts ?_);rw[if_pos (by decide)];refine qB (Go k hs ?_);have hno:¬(((if k then(0:Int)else(its.size:Int)-1)==0&&ya k==1&&(Builtin.Slice.slicePlaces (if k then(0:Int)else(its.size:Int)-1) (if k then(its.size:Int)else -1) (ya k))==its.size)=true):=by
  intro q;rw[Bool.and_eq_true,Bool.and_eq_true]at q;have q1:=q.1.2;cases k<;>simp[ya]at q1
 show wpAny _ _ (if((if k then(0:Int)else(its.size:Int)-1)==0&&ya k==1&&(Builtin.Slice.slicePlaces (if k then(0:Int)else(its.size:Int)-1) (if k then(its.size:Int)else -1) (ya k))==its.size)=true then _ else _) _ _ s
 rw[if_neg hno,Qj]
 first
  |exact qB (m:=Builtin.Tuple.tupleExact _) (wpAny_newObj_type (qC ⟨_,rfl,qC h⟩) hfit)
  |exact qB (qB (m:=Builtin.Tuple.tupleExact _) (wpAny_newObj_type (qC ⟨_,rfl,qC h⟩) hfit))
end
def vG(k:Bool)(its:Array Value):slicePick its none none (some (ya k))=(jP k its.toList).toArray:=by
 unfold slicePick;congr 1;cases k
 ·simp only[ya,sliceBounds,Option.getD_some,Bool.false_eq_true,if_false,jP,sliceRange]
  simp only[show ¬((-1:Int) > 0)by decide,if_false];have e:(if(its.size:Int)-1 > -1 then((its.size:Int)-1 - -1 - -1-1)/(- -1)else 0).toNat=its.size:=by
   by_cases h:(its.size:Int)-1 > -1
   ·rw[if_pos h,neg1,Int.ediv_one];omega
   ·rw[if_neg h];omega
  rw[e,filterMap_map,<- zAd its.toList,Array.length_toList];refine YR λm hm=>?_
  have hm:m<its.size:=by simpa using hm
  show its[(((its.size:Int)-1)+-1*(m:Int)).toNat]?=_
  rw[show(((its.size:Int)-1)+-1*(m:Int)).toNat=its.size-1-m by omega];simp
 ·simp only[ya,sliceBounds,Option.getD_some,if_true,jP,sliceRange]
  simp only[show((2:Int) > 0)by decide,if_true];have e:(if(0:Int)<(its.size:Int)then((its.size:Int)-0+2-1)/2 else 0).toNat=(its.size+1)/2:=by
   by_cases h:(0:Int)<(its.size:Int)
   ·rw[if_pos h];omega
   ·rw[if_neg h];omega
  rw[e,filterMap_map,<- Y2 its.toList,Array.length_toList];refine YR λm hm=>?_
  show its[((0:Int)+2*(m:Int)).toNat]?=_
  rw[show((0:Int)+2*(m:Int)).toNat=2*m by omega];simp
section
variable{X:Cx}{e st:Expr}{te:TE}{pos p2:Pos}
def rStep(K:qH)(k:Bool):V->Hp->VK->Prop:=λx H Q=>∃a xs,x=.ref a/\((SqT K H a xs/\∀p,H p=none->Q (.ref p) (upd H p (.t (jP k xs))))\/(SqL K H a xs/\∀p,H p=none->Q (.ref p) (upd H p (.l (jP k xs)))))
def pe_step(k:Bool)(he:PE X e te)(hst:PE X st (tC (.int (ya k)))):PE X (.Subscript e (.Slice none none (some st) p2) pos) (λO H Q=>te O H λx H1=>rStep X.K k x H1 Q):=by
 intro pins s O H Q I h;refine Subscript_ (thn (he pins s O H _ I h) λv s1 ⟨x,H1,I1,r1,q1⟩=>?_);refine wpAny_Slice ?_;rw[evalPart_none];refine qC ?_;refine qC ?_;rw[evalPart_some];refine thn (hst pins s1 O H1 (λz H'=>z=.int (ya k)/\rStep X.K k x H' Q) I1 ⟨rfl,q1⟩) λvs s2 ⟨z,H2,I2,rz,ez,q2⟩=>?_
 subst ez;obtain⟨t,rfl⟩:=rz;have I3:Inv X pins O H2 {s2 with heap:=s2.heap.push {cls:=.type "slice",data:=.fields #[.none,.none,.int (ya k) t]}}:=I2.kept (t':=s2.toks) λb ob q=>qA _ q
 have hsl:(s2.heap.push {cls:=.type "slice",data:=.fields #[.none,.none,.int (ya k) t]}).IsSliceOf s2.heap.objs.size .none .none (.int (ya k) t):=Heap.IsSliceOf.new ..;generalize hs3:s2.heap.push {cls:=.type "slice",data:=.fields #[.none,.none,.int (ya k) t]}=h3 at I3 hsl;obtain⟨a,xs,rfl,q3⟩:=q2;cases r1;rcases q3 with⟨hx,q⟩|⟨hx,q⟩
 ·obtain⟨its,r,ht,hz⟩:=I3.tuple hx
  have hlen:=r.length;refine tail_any (ops:=[.ref a,.ref s2.heap.objs.size]) ht.typeIs PyProof.Rows.slot_tuple_getitem.lookup (YS k ht hsl (by rw[size_toArray];omega) ?_) (by with_unfolding_all rfl)
  exact⟨.ref _,_,I3.laid (t':=s2.toks) (o:=.t (jP k xs)) (λb ob q=>qA _ q) (le_refl _) ⟨le_trans (JG k xs) hz,_,r.step k,IsTup.new _ _⟩,rfl,q _ (I3.hok.fresh (le_refl _))⟩
 ·obtain⟨its,r,ht,hz⟩:=I3.list hx
  have hlen:=r.length;refine tail_any (ops:=[.ref a,.ref s2.heap.objs.size]) ht.isList.typeIs slot_list_getitem.lookup (wpAny_getItem_list_slice ht.isList hsl .none .none (.int (ya k) t) (by cases k<;>simp[ya]) ?_ (by rw[size_toArray];omega)) (by with_unfolding_all rfl)
  rw[vG];exact⟨.ref _,_,I3.laid (t':=s2.toks) (o:=.l (jP k xs)) (λb ob q=>qA _ q) (le_refl _) ⟨le_trans (JG k xs) hz,_,0,r.step k,get?_push_size _ rfl⟩,rfl,q _ (I3.hok.fresh (le_refl _))⟩
end
end L2
namespace DV
open PySem PySem.W PyProof.Rows
variable{κ:Nat->Int}
def ev(κ:Nat->Int){α:Type}:KasT α->α
 | .ret a=>a| .ask i j k=>ev κ (k (decide (κ i<κ j)))
def getD_q(p:Array Nat)(t:Nat):p.getD t 0=(p[t]?).getD 0:=by simp
end DV
namespace L2
open PySem PySem.Spec PyProof.Rows PySem.W
end L2
namespace DV
open PySem L2 PyProof.Rows PySem.W
end DV
namespace L2
open PySem PySem.Spec PyProof.Rows
end L2
namespace DV
open PySem L2
section
variable{X:Cx}{K:qH}{mg:Str->Option Value}
def call_or{r r':List V->Hp->VK->Prop}(h:wy X f r)(h':wy X f r'):wy X f (λxs H Q=>r xs H Q\/r' xs H Q):=by
 intro pins s O H xs us Q I rv q;rcases q with q|q
 ·exact h pins s O H xs us Q I rv q
 ·exact h' pins s O H xs us Q I rv q
def eqG(d e:D):Option R:=match eqF d e with
 |some r=>some r|none=>eqDD false d e
def neG(d e:D):Option R:=match neF d e with
 |some r=>some r|none=>eqDD true d e
def zGF:ROk K mg (λx y H Q=>rEq x y H Q\/rEqD K mg false x y H Q) eqG:=by
 intro M H Z x y d1 d2 res Q f r1 r2 e k;unfold eqG at e;cases h:eqF d1 d2 with
 |some r=>rw[h]at e;cases e;exact .inl (ro_eq M H Z x y d1 d2 res Q f r1 r2 h k)|none=>rw[h]at e;exact .inr (zGE M H Z x y d1 d2 res Q f r1 r2 e k)
def zGG:ROk K mg (λx y H Q=>rNe x y H Q\/rEqD K mg true x y H Q) neG:=by
 intro M H Z x y d1 d2 res Q f r1 r2 e k;unfold neG at e;cases h:neF d1 d2 with
 |some r=>rw[h]at e;cases e;exact .inl (ro_ne M H Z x y d1 d2 res Q f r1 r2 h k)|none=>rw[h]at e;exact .inr (zGE M H Z x y d1 d2 res Q f r1 r2 e k)
def zAe(d e:D):Option R:=match QO d e with
 |some r=>some r
 |none=>match d,e with
  | .l a,.int k=>if -(2^63)<=k/\k<2^63/\a.length*k.toNat<=cap then some (.own (replicate k.toNat a).flatten)else none|_,_=>none
def ro_mulG:ROk K mg (λx y H Q=>rMulD K x y H Q\/rRepL K x y H Q) zAe:=by
 intro M H Z x y d1 d2 res Q f r1 r2 e k;unfold zAe at e;cases h:QO d1 d2 with
 |some r=>rw[h]at e;cases e;exact .inl (ro_mul M H Z x y d1 d2 res Q f r1 r2 h k)
 |none =>
  rw[h]at e;cases d1 with
  |l a =>
   cases d2 with
   |int n =>
    dsimp only at e;split at e
    ·rename_i hc
     cases e;obtain⟨p,xs,rfl,h1,h2⟩:=yJ r1;rw[zR r2];exact .inr ⟨p,n,xs,rfl,rfl,zH.seq h1,hc.1,hc.2.1,by rw[h2.length];exact wu hc.2.2,λq hq=>k.own f hq (h2.flatten _)⟩
    ·cases e
   |_=>cases e
  |_=>cases e
def Y3:List D->Option (List Int)
 | []=>some []| .int i::ds=>(Y3 ds).map (i::·)|_::_=>none
theorem Y4:∀{ds:List D} {xs:List V} {ns:List Int},Y3 ds=some ns->Reps K mg H ds xs->xs=ns.map V.int
 | [],_,_,e,h=>by cases e;simp only[Reps]at h;subst h;rfl
 |d::ds,_,ns,e,h=>by
  simp only[Reps]at h;obtain⟨v,r,rfl,h1,h2⟩:=h;cases d with
  |int i =>
   simp only[Y3]at e;cases eb:Y3 ds with
   |none=>rw[eb]at e;cases e
   |some cs =>
    rw[eb]at e;cases e;rw[zR h1,Y4 eb h2];rfl
  |_=>cases e
def maxG:List D->Option R
 | [.int i,.int j]=>zEf [.int i,.int j]
 | [.l ds]=>match Y3 ds with
  |some ns=>if 0<ns.length then some (.v (.int (maxAt ns)))else none|none=>none
 |_=>none
def sumG:List D->Option R
 | [.l ds]=>(Y3 ds).map λns=>.v (.int ns.sum)| [.t ds]=>(Y3 ds).map λns=>.v (.int ns.sum)|_=>none
def co_sumG:COk K mg (λxs H Q=>(∃(p:Addr) (ns:List Int),xs=[.ref p]/\SqL K H p (ns.map V.int)/\Q (.int ns.sum) H)\/∃(p:Addr) (ns:List Int),xs=[.ref p]/\SqT K H p (ns.map V.int)/\Q (.int ns.sum) H) sumG:=by
 intro M H Z xs ds res Q f r e k
 match ds,e with
 | [.l ds],e =>
  simp only[sumG]at e;cases hi:Y3 ds with
  |none=>rw[hi]at e;cases e
  |some ns =>
   rw[hi]at e;cases e;obtain⟨v,rfl,h⟩:=J0 r;obtain⟨p,ys,rfl,h1,h2⟩:=yJ h;rw[Y4 hi h2]at h1;exact .inl ⟨p,ns,rfl,zH.seq h1,k.flat f rfl⟩
 | [.t ds],e =>
  simp only[sumG]at e;cases hi:Y3 ds with
  |none=>rw[hi]at e;cases e
  |some ns =>
   rw[hi]at e;cases e;obtain⟨v,rfl,h⟩:=J0 r;obtain⟨p,ys,rfl,h1,h2⟩:=yY h;rw[Y4 hi h2]at h1;exact .inr ⟨p,ns,rfl,zS zH h1,k.flat f rfl⟩
def absG:List D->Option R
 | [.int i]=>some (.v (.int (if i<0 then -i else i)))|_=>none
def co_absG:COk K mg (λxs H Q=>∃i,xs=[.int i]/\Q (.int (if i<0 then -i else i)) H) absG:=by
 intro M H Z xs ds res Q f r e k
 match ds,e with
 | [.int i],e =>
  cases e;obtain⟨v,rfl,h⟩:=J0 r;exact⟨i,by rw[zR h],k.flat f rfl⟩
end
section
variable{X:Cx}{O:St}{H:Hp}
def eUn(f:D->Option R)(m:ME):ME:=λE=>match m E with
 | .z=>.z| .exc x E1=>.exc x E1
 | .ok (r,E1)=>match f r.d with
  |some r'=>.ok (r',E1)|none=>.z
def eUn_run{rel:V->Hp->VK->Prop}{f:D->Option R}(hr:∀(M:Addr->Prop) (H:Hp) (Z:Fz) (x:V) (d:D) (res:R) (Q:VK),FR X.K X.mg M H Z->Rep X.K X.mg (Hm (Mo M Z) H) d x->f d=some res->Kt X.K X.mg M H Z res Q->rel x H Q)
  (h:tM X (eUn f m) O H Q):tM X m O H λx H1=>rel x H1 Q:=by
 obtain⟨M,E,hl,fr,k⟩:=h;unfold eUn at k;refine zk (T0:=[]) hl fr ?_;cases ea:m E with
 |z=>rw[ea]at k;exact k|exc x E1=>rw[ea]at k;exact k
 |ok p =>
  obtain⟨r,E1⟩:=p;rw[ea]at k;intro v H1 g;dsimp only at k;cases ef:f r.d with
  |none=>rw[ef]at k;exact k.elim
  |some res =>
   rw[ef]at k;exact hr M H1 _ v r.d res Q g.frame g.rep ef λv' H' f' s'=>k v' H' (g.more (T:=[(some v',res.slot)]) f' s')
def zEx(k:Bool):D->Option R
 | .t ds=>some (.v (.t (jP k ds)))| .l ds=>some (.own (jP k ds))|_=>none
theorem Reps.evens{mg:Str->Option Value}:∀{ds:List D} {xs:List V},Reps K mg H ds xs->Reps K mg H (L2.evens ds) (L2.evens xs)
 | [],_,h=>by simp only[Reps]at h;subst h;simp only[L2.evens];exact Reps.nil
 | [d],_,h=>by
  simp only[Reps]at h;obtain⟨v,r,rfl,h1,rfl⟩:=h;simp only[L2.evens];exact Reps.cons h1 Reps.nil
 |d::e::ds,_,h=>by
  simp only[Reps]at h;obtain⟨v,r,rfl,h1,v',r',rfl,h2,h3⟩:=h;simp only[L2.evens];exact Reps.cons h1 (Reps.evens h3)
theorem Reps.rev{mg:Str->Option Value}:∀{ds:List D} {xs:List V},Reps K mg H ds xs->Reps K mg H ds.reverse xs.reverse
 | [],_,h=>by simp only[Reps]at h;subst h;exact Reps.nil
 |d::ds,_,h=>by
  simp only[Reps]at h;obtain⟨v,r,rfl,h1,h2⟩:=h;rw[reverse_cons,reverse_cons];exact(Reps.rev h2).append (Reps.cons h1 Reps.nil)
def Reps.step{mg:Str->Option Value}(k:Bool)(h:Reps K mg H ds xs):Reps K mg H (jP k ds) (jP k xs):=by
 cases k
 ·simp only[jP,Bool.false_eq_true,if_false];exact h.rev
 ·simp only[jP,if_true];exact h.evens
def ok_step(k:Bool)(he:EOk X e m)(hst:PE X st (tC (.int (ya k)))):EOk X (.Subscript e (.Slice none none (some st) p2) pos) (eUn (zEx k) m) :=
 zu (pe_step k he hst) λO H Q=>eUn_run λM H Z x d res Q f r e kk=>by
  cases d with
  |t ds =>
   cases e;obtain⟨a,xs,rfl,h1,h2⟩:=yY r;exact⟨a,xs,rfl,.inl ⟨zS zH h1,λp hp=>kk.tup f hp (h2.step k)⟩⟩
  |l ds =>
   cases e;obtain⟨a,xs,rfl,h1,h2⟩:=yJ r;exact⟨a,xs,rfl,.inr ⟨zH.seq h1,λp hp=>kk.own f hp (h2.step k)⟩⟩
  |_=>cases e
def sTup(is:List Nat)(m:ME):MS:=λE=>match m E with
 | .z=>.z| .exc x E1=>.exc x E1
 | .ok (r,E1)=>match gT is r.d E1 with
  | .ok E2=>.ok (.nx,E2)|_=>.z
def zEy{is:List Nat}{m:ME}{D:Ends}(h:tS X (sTup is m) D O H):zFp (tM X m) (gTup X.K is.length (J1 is)) D O H:=by
 obtain⟨M,E,hl,fr,k⟩:=h;unfold sTup at k;refine zk (T0:=[]) hl fr ?_;cases ea:m E with
 |z=>rw[ea]at k;exact k|exc x E1=>rw[ea]at k;exact λH' g=>k O H' g
 |ok p =>
  obtain⟨r,E1⟩:=p;rw[ea]at k;intro v H1 g;dsimp only at k;cases eg:gT is r.d E1 with
  |z=>rw[eg]at k;exact k.elim|exc _ _=>rw[eg]at k;exact k.elim
  |ok E2 =>
   rw[eg]at k;have g0:=g.dropAll;exact zGA (X:=X) is rfl M O E1 H1 [] v r.d E2 _ g0.len (FR.add g0.frame g.rep) eg λO' g'=>k O' H1 (g0.trans' g')
def sk_tup(hg:PG X (.Tuple es k p) (gTup X.K is.length (J1 is)))(he:EOk X e m)(hs:swapsWithSole [.Tuple es k p] e pos.line X.env=pure false)(hw:swappedStores [.Tuple es k p] e X.env=pure none):SOk X (.Assign [.Tuple es k p] e pos) (sTup is m) :=
 jV (zAO he hg hs hw) λD O H=>zEy
def sPar(i j:Nat)(m:MA):MS:=λE=>match m E with
 | .z=>.z| .exc x E1=>.exc x E1
 | .ok ([r1,r2],E1)=>match gNs [i,j] [r1.d,r2.d] E1 with
  | .ok E2=>.ok (.nx,E2)|_=>.z
 |_=>.z
def zEz{i j:Nat}{m:MA}{D:Ends}(h:tS X (sPar i j m) D O H):tPar i j (tMA X m) D O H:=by
 obtain⟨M,E,hl,fr,k⟩:=h;unfold sPar at k;refine JE (T0:=[]) hl fr ?_;cases ea:m E with
 |z=>rw[ea]at k;exact k|exc x E1=>rw[ea]at k;exact λH' g=>k O H' g
 |ok p =>
  obtain⟨rs,E1⟩:=p;rw[ea]at k
  match rs,k with
  | [r1,r2],k =>
   intro vs H1 hv g;dsimp only at k;cases eg:gNs [i,j] [r1.d,r2.d] E1 with
   |z=>rw[eg]at k;exact k.elim|exc _ _=>rw[eg]at k;exact k.elim
   |ok E2 =>
    rw[eg]at k
    match vs,hv with
    | [v,w],_ =>
     have rp:=Got.reps rfl g;have g0:=g.dropAll;have q:=WW (X:=X) [i,j] [r1.d,r2.d] [v,w] (a:=0) (ts:=[]) (Q:=D.nx) (Got.refl (T0:=[]) g0.len g0.fr) rp eg λO' g'=>k O' H1 (g0.trans' g')
     obtain⟨v1,rr,e1,v2,rr2,e2,e3,q⟩:=q;cases e1;cases e2;exact⟨v,w,rfl,q⟩
  | [],k=>exact k.elim| [_],k=>exact k.elim|_::_::_::_,k=>exact k.elim
def sk_any:SOk X st (λ_=>.z):=jV zEC λD O H ⟨M,E,hl,fr,k⟩=>k
end
section
variable{X:Cx}{O:L2.St}{H:Hp}
def eMet(f:D->D->Option R)(a b:ME):ME:=λE=>match a E with
 | .z=>.z| .exc x E1=>.exc x E1
 | .ok (r1,E1)=>match r1.d with
  | .l _=>(match b E1 with
   | .z=>.z| .exc x E2=>.exc x E2
   | .ok (r2,E2)=>match f r1.d r2.d with
    |some r=>.ok (r,E2)|none=>.z)
  |_=>.z
def met_run{f:D->D->Option R}{rel:V->List V->Hp->VK->Prop}(hr:ROk X.K X.mg (λx y H Q=>rel x [y] H Q) f)(h:tM X (eMet f a b) O H Q):tBM X.K "list" rel (tM X a) (zEJ (tM X b) tNil) O H Q:=by
 obtain⟨M,E,hl,fr,k⟩:=h;unfold eMet at k;refine zk (T0:=[]) hl fr ?_;cases ea:a E with
 |z=>rw[ea]at k;exact k|exc x E1=>rw[ea]at k;exact k
 |ok p =>
  obtain⟨r1,E1⟩:=p;rw[ea]at k;intro x H1 g1;dsimp only at k;cases ed:r1.d with
  |l ds =>
   rw[ed]at k;have rx:=g1.rep;rw[ed]at rx;obtain⟨l,xs,ex,hs,_⟩:=yJ rx;subst ex;refine⟨(show tyV X.K "list" (.ref l) H1 from .inl ⟨rfl,xs,zH.seq hs⟩),?_⟩;refine zk (T0:=[(some (.ref l),r1.slot)]) g1.len g1.fr ?_;dsimp only at k;cases eb:b E1 with
   |z=>rw[eb]at k;exact k|exc x E2=>rw[eb]at k;exact λH' g=>k H' (g1.trans' g).dropAll
   |ok p =>
    obtain⟨r2,E2⟩:=p;rw[eb]at k;intro y H2 g2;have g:=g1.trans' g2;have rp:=Got.reps (vs:=[y,.ref l]) (rs:=[r2,r1]) rfl g;simp only[List.map,Reps]at rp;obtain⟨y',_,e1,ry,x',_,e2,rx,_⟩:=rp;cases e1;cases e2;dsimp only at k;cases ef:f (.l ds) r2.d with
    |none=>rw[ef]at k;exact k.elim
    |some r =>
     rw[ef]at k;rw[ed]at rx;exact hr M H2 _ (.ref l) y (.l ds) r2.d r Q g.frame rx ry ef λv H' f' s'=>k v H' (g.more (T:=[(some v,r.slot)]) f' s')
  |_=>rw[ed]at k;exact k.elim
end
end DV
namespace DV
open PySem L2 PyProof.Rows
def xinIn(K:qH)(C f:Addr):Bool:=match K.lookup C with
 |some ⟨.type "type",_,.cls cd,sl⟩=>(match cd.mro,sl.toList with
  | .ref C'::bm,[_,_,_,_,some (.builtin n),_]=>(C'==C&&n == "ValueError.__new__")&&(!cd.hasDel&&PySem.W.tailIn K VB bm)&&(PySem.W.nsOkIn K cd.ns&&nsIn K cd.ns "__init__" == some (some (.ref f)))|_,_=>false)
 |_=>false
def XO(C a:Addr)(od:Option Addr):HO:=.ext λh=>∃o t,h.get? a=some o/\o.cls=.ref C/\o.dict=od/\o.data=.fields #[.ref t,.none,.none,.none,.bool false,.none]
def spI(c:Str)(C:Addr):Sp:=λvs H Q _=>∃(a:Addr) (ns:List Int),vs=.ref a::ns.map V.int/\ns.length=(zCP c).length/\(∀n∈ns,n.natAbs.log2<1920)/\H a=some (XO C a none)/\∀d,H d=none->Q .non (upd (upd H d (XD d (fsV c ns))) a (XO C a (some d)))
def RIok(P:Program)(w:World)(K:qH)(mg:Str->Option Value)(base:Heap)(c:Str):Prop:=∃C f fd,mg c=some (.ref C)/\keepIn K (.ref C)=true/\xinIn K C f=true/\typeIn K (.ref f)=some (.type "function") /\
 Zs K fd ("self"::zCP c) []/\FnOkN true P w K mg base 2 f fd ("self"::zCP c) (spI c C)
end DV
namespace DV
open PySem L2 PyProof.Rows
open PySem.W (Looks)
def ris_nil{R:Str->Prop}:∀c∈([]:List Str),R c:=λ_ h=>by cases h
def RAok(K:qH)(mg:Str->Option Value)(c:Str):Prop:=∃C T,mg c=some (.ref C)/\mg "ThrowError"=some (.ref T)/\XSet K C T/\∀n∈zCP c,findIn K (.ref C) n=some none
end DV
namespace DV
open PySem L2
section
variable{X:Cx}{O:L2.St}{H:Hp}{K:qH}{mg:Str->Option Value}{M:Addr->Prop}{E E1:zV}{T0:Fz}
def whN(c:MT)(b:MS):Nat->MS
 |0=>λ_=>.z
 |n+1=>λE=>match c E with
  | .z=>.z| .exc x E1=>.exc x E1| .ok (false,E1)=>.ok (.nx,E1)
  | .ok (true,E1)=>match b E1 with
   | .ok (.nx,E2)=>whN c b n E2| .ok (.ct,E2)=>whN c b n E2| .ok (.bk,E2)=>.ok (.nx,E2)|o=>o
def whN_run{c:MT}{b:MS}{D:Ends}{n:Nat}(h:tS X (whN c b n) D O H):zFq (tMT X c) (tS X b) D O H:=by
 refine⟨λm O H=>tS X (whN c b m) D O H,⟨n,h⟩,λm O H h=>?_⟩;cases m with
 |zero=>obtain⟨M,E,hl,fr,k⟩:=h;exact k.elim
 |succ m =>
  obtain⟨M,E,hl,fr,k⟩:=h;unfold whN at k;refine JD (T0:=[]) hl fr ?_;cases ec:c E with
  |z=>rw[ec]at k;exact k|exc x E1=>rw[ec]at k;exact λH' g=>k O H' g
  |ok p =>
   obtain⟨t,E1⟩:=p;rw[ec]at k;intro H1 g1;cases t with
   |false=>exact zFv (k O H1 g1)
   |true =>
    refine zFw ⟨λO' H'=>tS X (whN c b m) D O' H',λO' H' q=>⟨m,Nat.lt_succ_self m,q⟩,?_⟩;refine vk (T0:=[]) g1.len g1.fr ?_;dsimp only at k;cases eb:b E1 with
    |z=>rw[eb]at k;exact k|exc x E2=>rw[eb]at k;exact λO' H' g=>k O' H' (g1.trans' g)
    |ok p =>
     obtain⟨fl,E2⟩:=p;rw[eb]at k;cases fl with
     |ret r=>exact λv O' H' g=>k v O' H' (g1.trans' g)|bk=>exact λO' H' g=>k O' H' (g1.trans' g)|nx=>exact λO' H' g=>go g1 g k|ct=>exact λO' H' g=>go g1 g k
where
 go {c:MT} {b:MS} {D:Ends} {n:Nat} {M:Addr->Prop} {O O1 O':L2.St} {E E1 E2:zV} {H H1 H':Hp} (g1:Got X.K X.mg M O E H [] O1 E1 H1 []) (g:Got X.K X.mg M O1 E1 H1 [] O' E2 H' [])
  (k:match whN c b n E2 with
   | .z=>False| .ok (.nx,E')=>∀O' H',Got X.K X.mg M O E H [] O' E' H' []->D.nx O' H'| .ok (.bk,E')=>∀O' H',Got X.K X.mg M O E H [] O' E' H' []->D.bk O' H'| .ok (.ct,E')=>∀O' H',Got X.K X.mg M O E H [] O' E' H' []->D.ct O' H'| .ok (.ret r,E')=>∀v O' H',Got X.K X.mg M O E H [] O' E' H' [(some v,r.slot)]->D.rt v H'
   | .exc x E'=>∀O' H',Got X.K X.mg M O E H [] O' E' H' []->XE X O' H' x):tS X (whN c b n) D O' H':=by
  have gg:=g1.trans' g;refine vk (T0:=[]) gg.len gg.fr ?_;cases e:whN c b n E2 with
  |z=>rw[e]at k;exact k|exc x E3=>rw[e]at k;exact λO3 H3 g3=>k O3 H3 (gg.trans' g3)
  |ok p =>
   obtain⟨fl,E3⟩:=p;rw[e]at k;cases fl with
   |nx=>exact λO3 H3 g3=>k O3 H3 (gg.trans' g3)|bk=>exact λO3 H3 g3=>k O3 H3 (gg.trans' g3)|ct=>exact λO3 H3 g3=>k O3 H3 (gg.trans' g3)|ret r=>exact λv O3 H3 g3=>k v O3 H3 (gg.trans' g3)
def sWhile(c:MT)(b:MS):MS:=whN c b 1000000
def zE0(hp:PassesOwn (model X.prog X.w) X.A X.env X.xe)(hc:TOk X c mc)(hb:Qd X body mb):SOk X (.While c body [] pos) (sWhile mc mb) :=
 jV (zEE hp hc hb) λD O H h=>whN_run h
end
mutual
def pyD:D->Option PyData
 | .non=>some .none| .bl b=>some (.bool b)| .int i=>some (.int i)| .str x=>some (.str x)| .t ds=>(pyDs ds).map .tuple| .l ds=>(pyDs ds).map .list| .dic=>some (.dict [])|_=>none
def pyDs:List D->Option (List PyData)
 | []=>some []
 |d::ds=>match pyD d,pyDs ds with
  |some x,some xs=>some (x::xs)|_,_=>none
end
section
variable{X:Cx}{O:L2.St}{pins:List (Addr×Obj)}{H:Hp}{s:Shared}
def zCx(K:qH):Prop:=∃o es n,K.lookup sysModules=some o/\o.data=.dict es n
def sm_ne(I:Inv X pins O H s)(S:zCx X.K)(e1:s.heap.get? a=some o)(e2:o.data=.seq vs n):sysModules≠a:=by
 obtain⟨p,es,m,q1,q2⟩:=S;intro e;have:=I.kIn _ _ q1;rw[e,e1]at this;cases this;rw[q2]at e2;cases e2
mutual
theorem wW(I:Inv X pins O H s)(S:zCx X.K):∀{d:D} {v:V} {u:Value} {x:PyData},Rep X.K X.mg H d v->yp v u->pyD d=some x->∃as,Reads s.heap u x as/\sysModules∉as
 | .non,v,u,x=>λr rv e=>by cases e;rw[Qa r]at rv;cases (show u=Value.none from rv);exact⟨_,.none,by simp⟩| .bl b,v,u,x=>λr rv e=>by cases e;rw[ZZ r]at rv;cases (show u=Value.bool b from rv);exact⟨_,.bool b,by simp⟩| .int i,v,u,x=>λr rv e=>by cases e;rw[zR r]at rv;obtain⟨t,q⟩:=(show ∃t,u=Value.int i t from rv);subst q;exact⟨_,.int i t,by simp⟩| .str y,v,u,x=>λr rv e=>by cases e;rw[Yz r]at rv;obtain⟨t,q⟩:=(show ∃t,u=Value.str y t from rv);subst q;exact⟨_,.str y t,by simp⟩
 | .t ds,v,u,x=>λr rv e=>by
  obtain⟨a,xs,rfl,h1,h2⟩:=yY r;cases (show u=Value.ref a from rv);obtain⟨its,r1,p,_⟩:=I.tuple h1;obtain⟨o,e1,e2,n,e3⟩:=p;simp only[pyD]at e;cases eq:pyDs ds with
  |none=>rw[eq]at e;cases e
  |some ys =>
   rw[eq]at e;cases e;obtain⟨as,q,z⟩:=readss_of I S h2 r1 eq;exact⟨_,.tuple e1 e2 e3 (by simpa using q),z⟩
 | .l ds,v,u,x=>λr rv e=>by
  obtain⟨a,xs,rfl,h1,h2⟩:=yJ r;cases (show u=Value.ref a from rv);obtain⟨its,r1,p,_⟩:=I.list h1;obtain⟨o,n,e1,e2,_,e3⟩:=p;simp only[pyD]at e;cases eq:pyDs ds with
  |none=>rw[eq]at e;cases e
  |some ys =>
   rw[eq]at e;cases e;obtain⟨as,q,z⟩:=readss_of I S h2 r1 eq;exact⟨_,.list e1 e2 e3 (by simpa using q),λhm=>(mem_cons.mp hm).elim (sm_ne I S e1 e3) z⟩
 | .fn y,v,u,x=>λr rv e=>by cases e
 | .dic,v,u,x=>λr rv e=>by
  cases e;simp only[Rep]at r;obtain⟨a,rfl,h1⟩:=r;cases (show u=Value.ref a from rv);obtain⟨_,hS,vs,kv,o,es,ep,g1,g2,g3,_,g5,_⟩:(([]:List (Key×V)).length<=sizeLine)/\(a==sysModules)=false/\∃vs,KV [] vs/\s.heap.DictOf (QP X.prog X.w) a vs:=I.hok a _ h1;cases kv;have e0:es.toList=[]:=by cases h:es.toList with|nil=>rfl|cons y ys=>rw[h]at g5;cases g5
  refine⟨_,.dict g1 g2.1 g3 (kvs:=[]) (by rw[e0];exact .nil) (by rw[e0];exact .nil),λhm=>?_⟩;rcases mem_cons.mp hm with hm|hm
  ·exact beq_eq_false_iff_ne.mp hS hm.symm
  ·cases hm
 | .exn _ _,_,_,_=>λ_ _ e=>by cases e| .dct _ _,_,_,_=>λ_ _ e=>by cases e
theorem readss_of(I:Inv X pins O H s)(S:zCx X.K):∀{ds:List D} {vs:List V} {us:List Value} {xs:List PyData},Reps X.K X.mg H ds vs->yW vs us->pyDs ds=some xs->∃as,ReadsAll s.heap us xs as/\sysModules∉as
 | [],vs,us,xs=>λr rv e=>by
  cases e;simp only[Reps]at r;subst r;cases rv;exact⟨_,.nil,by simp⟩
 |d::ds,vs,us,xs=>λr rv e=>by
  simp only[Reps]at r;obtain⟨v,vs',rfl,r1,r2⟩:=r;cases rv with
  |cons p q =>
   simp only[pyDs]at e;cases e1:pyD d with
   |none=>rw[e1]at e;cases e
   |some x =>
    cases e2:pyDs ds with
    |none=>rw[e1,e2]at e;cases e
    |some ys =>
     rw[e1,e2]at e;cases e;obtain⟨as,a1,z1⟩:=wW I S r1 p e1;obtain⟨bs,a2,z2⟩:=readss_of I S r2 q e2;exact⟨_,.cons a1 a2,λhm=>(mem_append.mp hm).elim z1 z2⟩
end
def Gp(d:D):Option R:=match pyD d with
 |some x=>if x.showable=true/\x.depth<=60/\x.shown.length<=cap then some (.v (.str x.shown))else none|none=>none
def zBY(S:zCx X.K)(hg:X.A.guards=some [])(hu:X.A.units+64<cLine):wy X (.builtin "repr") (λxs H Q=>∃x d r,xs=[x]/\Rep X.K X.mg H d x/\Gp d=some r/\∃t,r=.v (.str t)/\Q (.str t) H):=by
 intro pins s O H xs us Q I rv h;obtain⟨x,d,r,rfl,rd,er,t,rfl,q⟩:=h;obtain⟨u,rfl,ru⟩:=rv.one;unfold Gp at er;cases ep:pyD d with
 |none=>rw[ep]at er;cases er
 |some p =>
  rw[ep]at er;dsimp only at er;split at er
  ·rename_i hc
   cases er;obtain⟨as,rs,z⟩:=wW I S rd ru ep;have fin:∀h' tk tk2,(∀b o,s.heap.get? b=some o->h'.get? b=some o)->EP X pins O Q (.str p.shown tk) {s with heap:=h',toks:=tk2}:=λh' tk tk2 hk=>⟨.str _,H,I.kept (t':=tk2) hk,⟨_,rfl⟩,q⟩
   have fin0:EP X pins O Q (.str p.shown s.toks) {s with toks:=s.toks+1}:=⟨.str _,H,I.tok _,⟨_,rfl⟩,q⟩
   cases rs with
   |none=>exact PySem.P.repr_of_none fin0|bool b=>exact PySem.P.repr_of_bool fin0
   |int i t =>
    have hi:(decide (i.natAbs.log2<1920))=true:=hc.1;exact PySem.P.repr_of_int (of_decide_eq_true hi) fin0
   |str y t=>exact PySem.P.repr_of_str fin0 (wu hc.2.2)|list h1 h2 h3 h4=>exact repr_of_reads' (.list h1 h2 h3 h4) hc.1 (λ_=>z) hg (by have:=hc.2.1;omega) (λ_ _ e=>e) (λh' u tk hk=>fin h' u tk hk) (wu hc.2.2)|tuple h1 h2 h3 h4=>exact repr_of_reads' (.tuple h1 h2 h3 h4) hc.1 (λ_=>z) hg (by have:=hc.2.1;omega) (λ_ _ e=>e) (λh' u tk hk=>fin h' u tk hk) (wu hc.2.2)|dict h1 h2 h3 h4 h5=>exact repr_of_reads' (.dict h1 h2 h3 h4 h5) hc.1 (λ_=>z) hg (by have:=hc.2.1;omega) (λ_ _ e=>e) (λh' u tk hk=>fin h' u tk hk) (wu hc.2.2)
  ·cases er
def zCy:List D->Option R
 | [d]=>Gp d|_=>none
def co_repr{mg:Str->Option Value}:COk K mg (λxs H Q=>∃x d r,xs=[x]/\Rep K mg H d x/\Gp d=some r/\∃t,r=.v (.str t)/\Q (.str t) H) zCy:=by
 intro M H Z xs ds res Q f r e k
 match ds,e with
 | [d],e =>
  simp only[Reps]at r;obtain⟨v,r',rfl,r1,rfl⟩:=r;have e':=e;replace e':Gp d=some res:=e';unfold Gp at e';cases ep:pyD d with
  |none=>rw[ep]at e';cases e'
  |some p =>
   rw[ep]at e';dsimp only at e';split at e'
   ·cases e'
    exact⟨v,d,_,rfl,r1.mono zH,e,_,rfl,k.flat f rfl⟩
   ·cases e'
end
end DV
namespace L2
open PySem PySem.Spec PyProof.Rows
section
variable{X:Cx}{pins:List (Addr×Obj)}{O:List (Option V)}{H:Hp}{s:Shared}{h':Heap}
def Inv.turnLay{t':Nat}{fp:List Addr}{q:Addr}{xs:List V}(I:Inv X pins O H s)(hf:∀b∈fp,zBN X pins H b)(k:∀b o,b∉fp->s.heap.get? b=some o->h'.get? b=some o)(hq:s.heap.objs.size<=q)(new:jz X.prog X.w (upd H q (.t xs)) h' q (.t xs)):Inv X pins O (upd H q (.t xs)) {s with heap:=h',toks:=t'}:=by
 have hn:H q=none:=I.hok.fresh hq;have nq:∀b u,H b=some u->b≠q:=λb u e z=>by rw[z,hn]at e;cases e
 have nf:∀b u,H b=some u->b∉fp:=λb u e z=>by rw[(hf b z).1]at e;cases e
 refine I.step (g':=s.gens) (d':=s.drawn) (ch:=fp) (λb hb=>?_) (λb o _ _ hc e _=>k b o hc e) (λb o _ _ hc e _=>⟨o.slots,k b o hc e⟩) (λb o _ e n=>?_) (λb o hc e=>⟨o,k b o hc e⟩)
  (λb ys e=>?_) (λb o u e=>?_) (λb ps e=>⟨#[],?_⟩) (λm hm=>?_) (λb u e=>?_) I.bare
 ·obtain⟨_,f1,_,f3,f4,f5⟩:=hf b hb
  exact⟨f3,f1,f4,f5⟩
 ·have:b≠q:=λz=>by subst z;exact absurd (lt_of_lt_of_le (lt_size e) hq) (lt_irrefl _)
  rw[zr this];exact n
 ·rw[zr (nq b _ e)];exact e
 ·rw[zr (nq b _ e)];exact e
 ·rw[zr (nq b _ e),e];simp
 ·obtain⟨o,es,ep,ho,r⟩:=hm
  exact⟨o,es,ep,k _ o (λz=>(hf _ z).2.1 rfl) ho,r⟩
 ·by_cases hb:b=q
  ·subst hb;rw[yq]at e;cases e;exact new
  ·rw[zr hb]at e
   refine(I.hok b u e).stay (λc v hc q'=>k c v ?_ q') (λc q'=>?_) λc ys q'=>?_
   ·rcases hc with z|z
    ·rw[z];exact nf b u e
    ·exact nf c _ z
   ·rw[zr (nq c _ q')];exact q'
   ·rw[zr (nq c _ q')];exact q'
def Inv.turnL{t':Nat}{fp:List Addr}(I:Inv X pins O H s)(hf:∀b∈fp,zBN X pins H b)(k:∀b o,b∉fp->s.heap.get? b=some o->h'.get? b=some o):Inv X pins O H {s with heap:=h',toks:=t'}:=by
 have nf:∀b u,H b=some u->b∉fp:=λb u e z=>by rw[(hf b z).1]at e;cases e
 refine I.step (g':=s.gens) (d':=s.drawn) (ch:=fp) (λb hb=>?_) (λb o _ _ hc e _=>k b o hc e) (λb o _ _ hc e _=>⟨o.slots,k b o hc e⟩) (λ_ _ _ _ n=>n) (λb o hc e=>⟨o,k b o hc e⟩)
  (λ_ _ e=>e) (λ_ _ _ e=>e) (λb ps e=>⟨#[],by rw[e];simp⟩) (λm hm=>?_) (λb u e=>?_) I.bare
 ·obtain⟨_,f1,_,f3,f4,f5⟩:=hf b hb
  exact⟨f3,f1,f4,f5⟩
 ·obtain⟨o,es,ep,ho,r⟩:=hm
  exact⟨o,es,ep,k _ o (λz=>(hf _ z).2.1 rfl) ho,r⟩
 ·refine(I.hok b u e).stay (λc v hc q'=>k c v ?_ q') (λ_ q=>q) λ_ _ q=>q
  rcases hc with z|z
  ·rw[z];exact nf b u e
  ·exact nf c _ z
end
end L2
namespace DV
open PySem
abbrev IsZ(h:Heap)(z TI TO:Addr)(f0:Value)(b:Bool):Prop:=h.get? z=some {cls:=.type "zip",dict:=none,data:=.fields #[f0,.bool b,.bool false,.ref TI,.ref TO],slots:=#[]}
def Wt(f0:Value):Prop:=f0=.none\/∃a:Nat,f0=rawInt a
section
variable{prog:Program}{w:World}{A:Around}{E:Value->Shared->Prop}{s:Shared}
def st_iter{α:Type}{Q:α->Shared->Prop}(hh:A.handled=none)(hE:∀h' e,(∀b o,s.heap.get? b=some o->h'.get? b=some o)->(∃o,h'.get? e=some o/\o.cls=.type "StopIteration")->E (.ref e) {s with heap:=h'}):wpAny (model prog w) A.in1 (Builtin.SmallTypes.stopIteration:Sem α) Q E s:=by
 unfold Builtin.SmallTypes.stopIteration;refine qB ?_;unfold newExc newTuple;refine qB (wpAny_newObj_type ?_ (by size_fits));refine qB (m:=firstArgMember _ _) (wpAny_of_eq (a:=Value.none) rfl ?_);refine wpAny_newObj_type ?_ (by size_fits);unfold raiseNew;have hh':A.in1.handled=none:=hh;refine qB (wpAny_handled ?_);rw[hh'];refine qB (qC (wpAny_throw ?_));exact hE _ _ (λb o eb=>qA _ (qA _ eb)) ⟨_,get?_push_size _ rfl,rfl⟩
def sp_tup{Q:Option Value->Shared->Prop}(hh:A.handled=none)(hit:s.heap.IsTupleIter it t i)(ht:s.heap.IsTuple t items)
  (h1:∀x,items[i]?=some x->∀h',h'.IsTupleIter it t (i+1)->Heap.SameBut it s.heap h'->Q (some x) {s with heap:=h'})
  (h2:items[i]?=none->∀h' e,Heap.ExtBut it s.heap h'->(∃o,h'.get? e=some o/\o.cls=.type "StopIteration")->E (.ref e) {s with heap:=h'}) :
  wpAny (model prog w) A (callSpecial? (.ref it) (Str.ofString "__next__")) Q E s:=by
 have⟨o,ho,hc,hd⟩:=id hit;obtain⟨u,hu,_,n,du⟩:=ht;refine wpAny_callSpecial?_slot hit.typeIs F.slot_tuple_iterator_next (wpAny_call_entry F.slot_tuple_iterator_next hit.typeIs F.entry_tuple_iterator_next ?_ (F.args_tuple_iterator_next_1 _));refine qB (m:=field (.ref it) 0) (wpAny_field ho hd (x:=.ref t) rfl ?_);have nn:¬(Value.ref t==Value.none)=true:=qF;simp only[nn,Bool.false_eq_true,if_false];refine qB (m:=field (.ref it) 1) (wpAny_field ho hd (x:=.int i 0) rfl ?_);refine qB (m:=seqItems? (.ref t)) (wpAny_seqItems hu du ?_);cases hx:items[i]? with
 |some x =>
  simp only[Int.toNat_natCast,hx];refine qB (wpAny_setField ho hd (by simp) (qC ⟨x,rfl,h1 x hx _ ?_ (Heap.SameBut.update ..)⟩));exact⟨_,Heap.get?_update_self _ ho (Obj.isFreed_of_fields (Obj.data_mapFields hd _)),(Obj.cls_mapFields ..).trans hc,by rw[Obj.data_mapFields hd];simp[rawInt]⟩
 |none =>
  simp only[Int.toNat_natCast,hx];refine qB (wpAny_rule (qB (wpAny_setField ho hd (by simp) ?_)));refine st_iter hh λh' e k q=>h2 hx h' e (λb o nb eb=>k b o ?_) q
  exact(Heap.SameBut.update ..).extBut b o nb eb
structure Src(prog:Program)(w:World)(A:Around)(it l:Addr)(items:Array Value)(st:Nat->Heap->Prop):Prop where
 keep:∀{i:Nat} {h h':Heap},st i h->(∀b,b=it\/b=l->∀o,h.get? b=some o->h'.get? b=some o)->st i h'
 lt:∀{i:Nat} {h:Heap},st i h->it<h.objs.size
 next:∀{i:Nat} {s:Shared} {Q:Value->Shared->Prop} {E:Value->Shared->Prop},st i s.heap->(∀x,items[i]?=some x->∀h',st (i+1) h'->Heap.SameBut it s.heap h'->Q x {s with heap:=h'}) ->
  (items[i]?=none->∀h' e,Heap.ExtBut it s.heap h'->(∃o,h'.get? e=some o/\o.cls=.type "StopIteration")->E (.ref e) {s with heap:=h'})->wpAny (model prog w) A (Builtin.SmallTypes.nextOf (.ref it)) Q E s
def src_tup(hh:A.handled=none)(ne:t≠it)(items:Array Value):Src prog w A it t items (λi h=>h.IsTupleIter it t i/\h.IsTuple t items) where
 keep:=λst k=>⟨st.1.at λo e=>k it (.inl rfl) o e,st.2.at λo e=>k t (.inr rfl) o e⟩
 lt:=λst=>by obtain⟨⟨o,e,_⟩,_⟩:=st;exact lt_size e
 next:=λ{i s Q E} st h1 h2=>by
  unfold Builtin.SmallTypes.nextOf;exact qB (sp_tup hh st.1 st.2 (λx hx h' a b=>qC (h1 x hx h' ⟨a,st.2.extBut b.extBut ne⟩ b)) h2)
def zE1(hh:A.handled=none)(ne:t≠it)(items:Array Value):Src prog w A it t items (λi h=>h.IsListIter it t i/\h.IsList t items) where
 keep:=λst k=>⟨st.1.at λo e=>k it (.inl rfl) o e,st.2.at λo e=>k t (.inr rfl) o e⟩
 lt:=λst=>by obtain⟨⟨o,e,_⟩,_⟩:=st;exact lt_size e
 next:=λ{i s Q E} st h1 h2=>by
  cases hx:items[i]? with
  |some x=>exact wpAny_nextOf_list_item st.1 st.2 hx λh' a b=>h1 x hx h' ⟨a,st.2.extBut b.extBut ne⟩ b|none=>exact wpAny_nextOf_list_end hh st.1 st.2 hx (h2 hx)
def zE2{Q:Bool->Shared->Prop}(hz:IsZ s.heap z TI TO f0 b)(hf:Wt f0)(ht:Q true s)(hn:∀h' b',IsZ h' z TI TO f0 b'->(∀c o,c≠z->s.heap.get? c=some o->h'.get? c=some o)->h'.objs.size=s.heap.objs.size->Q false {s with heap:=h'}) :
  wpAny (model prog w) A (Builtin.SmallTypes.ownedTupleIsFree (.ref z)) Q E s:=by
 unfold Builtin.SmallTypes.ownedTupleIsFree;rcases hf with rfl|⟨a,rfl⟩
 ·exact qB (wpAny_field hz rfl (x:=.none) rfl (qC ht))
 ·refine qB (wpAny_field hz rfl (x:=rawInt a) rfl ?_)
  show wpAny _ _ (loadIfAlive ((a:Int).toNat) >>= _) _ _ _
  refine qB ?_;have al:∀(Q':Option Obj->Shared->Prop),Q' (s.heap.get? (a:Int).toNat) s->wpAny (model prog w) A (loadIfAlive (a:Int).toNat) Q' E s:=λQ' h=>λ_ _ _=>h
  refine al _ ?_;cases s.heap.get? (a:Int).toNat with
  |none=>exact qC ht
  |some o =>
   refine qB (wpAny_field hz rfl (x:=.bool b) rfl ?_);cases b with
   |true=>exact qC (hn s.heap true hz (λ_ _ _ e=>e) rfl)|false=>exact qB (wpAny_setField_rec hz (by simp) λh' z' b'=>qC (hn h' true z' (λc o c1 e=>b'.extBut _ _ c1 e) b'.1))
def zq_next{st1 st2:Nat->Heap->Prop}{Q:Value->Shared->Prop}(S1:Src prog w A i1 l1 xs st1)(S2:Src prog w A i2 l2 ys st2)(D:ZipApart z TI TO i1 i2 l1 l2)
  (hz:IsZ s.heap z TI TO f0 bb) (hf:Wt f0) (hTI:IsPair s.heap TI (.ref i1) (.ref i2)) (hTO:IsPair s.heap TO a b) (h1:st1 k s.heap) (h2:st2 k s.heap)
  (hQ:∀x y,xs[k]?=some x->ys[k]?=some y->∀h' f1 b1,Wt f1->IsZ h' z TI TO f1 b1->(∃u v,IsPair h' TO u v)->st1 (k+1) h'->st2 (k+1) h'->IsPair h' s.heap.objs.size x y ->
   (∀c o,c≠z->c≠TO->c≠i1->c≠i2->s.heap.get? c=some o->h'.get? c=some o)->Q (.ref s.heap.objs.size) {s with heap:=h'})
  (hE:xs[k]?=none\/ys[k]?=none->∀h' e,(∀c o,c≠z->c≠TO->c≠i1->c≠i2->s.heap.get? c=some o->h'.get? c=some o)->(∃o,h'.get? e=some o/\o.cls=.type "StopIteration")->E (.ref e) {s with heap:=h'}) :
  wpAny (model prog w) A (Builtin.«zip.__next__» ⟨[.ref z],[]⟩) (λfin s'=>∃v,fin=.done (.ret v)/\Q v s') E s:=by
 refine qB (m:=field (.ref z) 2) (wpAny_field hz rfl (x:=.bool false) rfl ?_);refine qB (m:=field (.ref z) 3) (wpAny_field hz rfl (x:=.ref TI) rfl ?_);refine qB (wpAny_seqItems hTI rfl ?_);refine qB (m:=Builtin.SmallTypes.ownedTupleIsFree (.ref z)) (zE2 hz hf ?_ λg1 b1 z1 k1 e1=>?_)
 ·simp only[if_true]
  refine qB (wpAny_rule (qB (wpAny_field hz rfl (x:=.ref TO) rfl (qB (wpAny_setField_rec hz (by simp) λg1 z1 b1=>?_)))));have z1:IsZ g1 z TI TO .ellipsis bb:=z1;refine qB ?_;simp only[List.zipIdx_cons,List.zipIdx_nil,forIn_cons,forIn_nil];have s1:st1 k g1:=S1.keep h1 λc hc o e=>b1.extBut c o (by rcases hc with rfl|rfl;exact D.i1z;exact D.l1z) e
  refine qB (qB (wpAny_onRaise (qB (m:=Builtin.SmallTypes.nextOf (.ref i1)) (S1.next s1 (λx hx g2 s2 b2=>qC ?_) λhx g2 e b2 he=>?_))))
  ·have t2:IsPair g2 TO a b:=b2.extBut _ _ D.TOi1 (b1.extBut _ _ D.TOz hTO)
   refine qB (wpAny_seqItems t2 rfl (qB (wpAny_updateSeq_pair t2 λg3 t3 b3=>qB (wpAny_letGo (qC ?_)))));have t3:IsPair g3 TO x b:=t3;have k3:∀c o,c≠z->c≠TO->c≠i1->s.heap.get? c=some o->g3.get? c=some o:=λc o c1 c2 c3 e=>b3.extBut _ _ c2 (b2.extBut _ _ c3 (b1.extBut _ _ c1 e))
   have s3:st1 (k+1) g3:=S1.keep s2 λc hc o e=>b3.extBut c o (by rcases hc with rfl|rfl;exact D.TOi1.symm;exact D.l1TO) e
   have r3:st2 k g3:=S2.keep h2 λc hc o e=>k3 c o (by rcases hc with rfl|rfl;exact D.i2z;exact D.l2z) (by rcases hc with rfl|rfl;exact D.TOi2.symm;exact D.l2TO) (by rcases hc with rfl|rfl;exact D.i12.symm;exact D.l2i1) e
   have z3:IsZ g3 z TI TO .ellipsis bb:=b3.extBut _ _ D.TOz.symm (b2.extBut _ _ D.i1z.symm z1);refine qB (qB (wpAny_onRaise (qB (m:=Builtin.SmallTypes.nextOf (.ref i2)) (S2.next r3 (λy hy g4 r4 b4=>qC ?_) λhy g4 e b4 he=>?_))))
   ·have t4:IsPair g4 TO x b:=b4.extBut _ _ D.TOi2 t3
    refine qB (wpAny_seqItems t4 rfl (qB (wpAny_updateSeq_pair t4 λg5 t5 b5=>qB (wpAny_letGo (qC (qC ?_))))));have t5:IsPair g5 TO x y:=t5;have k5:∀c o,c≠z->c≠TO->c≠i1->c≠i2->s.heap.get? c=some o->g5.get? c=some o:=λc o c1 c2 c3 c4 e=>b5.extBut _ _ c2 (b4.extBut _ _ c4 (k3 c o c1 c2 c3 e))
    have s5:st1 (k+1) g5:=S1.keep s3 λc hc o e=>b5.extBut c o (by rcases hc with rfl|rfl;exact D.TOi1.symm;exact D.l1TO) (b4.extBut c o (by rcases hc with rfl|rfl;exact D.i12;exact D.l1i2) e)
    have r5:st2 (k+1) g5:=S2.keep r4 λc hc o e=>b5.extBut c o (by rcases hc with rfl|rfl;exact D.TOi2.symm;exact D.l2TO) e
    have z5:IsZ g5 z TI TO .ellipsis bb:=b5.extBut _ _ D.TOz.symm (b4.extBut _ _ D.i2z.symm z3);have sz:g5.objs.size=s.heap.objs.size:=by rw[b5.1,b4.1,b3.1,b2.1,b1.1]
    refine qB (wpAny_seqItems t5 rfl (qB (wpAny_newTuple ?_)));refine qB (m:=Builtin.SmallTypes.ownedTupleHandOut (.ref z) (.ref g5.objs.size)) ?_;unfold Builtin.SmallTypes.ownedTupleHandOut;have z6:IsZ (g5.push {cls:=.type "tuple",data:=.seq #[x,y]}) z TI TO .ellipsis bb:=qA _ z5;refine qB (wpAny_setField_rec z6 (by simp) λg7 z7 b7=>?_);have z7:IsZ g7 z TI TO (rawInt g5.objs.size) bb:=z7;refine wpAny_setField_rec z7 (by simp) λg8 z8 b8=>?_
    have z8:IsZ g8 z TI TO (rawInt g5.objs.size) false:=z8;have up:∀c o,c≠z->g5.get? c=some o->g8.get? c=some o:=λc o c1 e=>b8.extBut _ _ c1 (b7.extBut _ _ c1 (qA _ e))
    have zl:z<g5.objs.size:=lt_size z5;have p8:IsPair g8 g5.objs.size x y:=b8.extBut _ _ (ne_of_gt zl) (b7.extBut _ _ (ne_of_gt zl) (get?_push_size _ rfl));rw[sz]at p8;refine qC ⟨_,rfl,?_⟩;show Q (.ref g5.objs.size) _;have fin:=hQ x y hx hy g8 _ _ (.inr ⟨_,rfl⟩) z8 ⟨_,_,up _ _ D.TOz t5⟩ (S1.keep s5 λc hc o e=>up c o (by rcases hc with rfl|rfl;exact D.i1z;exact D.l1z) e) (S2.keep r5 λc hc o e=>up c o (by rcases hc with rfl|rfl;exact D.i2z;exact D.l2z) e) p8 λc o c1 c2 c3 c4 e=>up c o c1 (k5 c o c1 c2 c3 c4 e)
    rw[sz];exact fin
   ·have z4:IsZ g4 z TI TO .ellipsis bb:=b4 _ _ D.i2z.symm z3
    obtain⟨oe,ho,hc⟩:=he;have ez:e≠z:=λq=>by subst q;rw[z4]at ho;cases ho;simp at hc
    exact wpAny_setField_rec z4 (by simp) λg5 _ b5=>hE (.inr hy) g5 e (λc o c1 c2 c3 c4 x=>b5.extBut _ _ c1 (b4 _ _ c4 (k3 c o c1 c2 c3 x))) ⟨oe,b5.extBut _ _ ez ho,hc⟩
  ·have z2:IsZ g2 z TI TO .ellipsis bb:=b2 _ _ D.i1z.symm z1
   obtain⟨oe,ho,hc⟩:=he;have ez:e≠z:=λq=>by subst q;rw[z2]at ho;cases ho;simp at hc
   exact wpAny_setField_rec z2 (by simp) λg3 _ b3=>hE (.inl hx) g3 e (λc o c1 c2 c3 c4 x=>b3.extBut _ _ c1 (b2 _ _ c3 (b1.extBut _ _ c1 x))) ⟨oe,b3.extBut _ _ ez ho,hc⟩
 ·simp only[Bool.false_eq_true,if_false]
  refine qB ?_;rw[<- Array.forIn_toList];simp only[forIn_cons,forIn_nil];have s1:st1 k g1:=S1.keep h1 λc hc o e=>k1 c o (by rcases hc with rfl|rfl;exact D.i1z;exact D.l1z) e
  refine qB (qB (wpAny_holding (qB (m:=Builtin.SmallTypes.nextOf (.ref i1)) (S1.next s1 (λx hx g2 s2 b2=>qC ?_) λhx g2 e b2 he=>?_))))
  ·refine qC ?_
   dsimp only;have k2:∀c o,c≠z->c≠i1->s.heap.get? c=some o->g2.get? c=some o:=λc o c1 c3 e=>b2.extBut _ _ c3 (k1 _ _ c1 e)
   have r2:st2 k g2:=S2.keep h2 λc hc o e=>k2 c o (by rcases hc with rfl|rfl;exact D.i2z;exact D.l2z) (by rcases hc with rfl|rfl;exact D.i12.symm;exact D.l2i1) e
   refine qB (qB (wpAny_holding (qB (m:=Builtin.SmallTypes.nextOf (.ref i2)) (S2.next r2 (λy hy g3 r3 b3=>qC ?_) λhy g3 e b3 he=>?_))))
   ·refine qC ?_
    dsimp only;refine qC ?_;dsimp only;refine qB (wpAny_newTuple (hsz:=by simp[sizeLine_eq]) (qC ⟨_,rfl,?_⟩));have sz:g3.objs.size=s.heap.objs.size:=by rw[b3.1,b2.1,e1]
    have k3:∀c o,c≠z->c≠i1->c≠i2->s.heap.get? c=some o->g3.get? c=some o:=λc o c1 c3 c4 e=>b3.extBut _ _ c4 (k2 c o c1 c3 e)
    have s3:st1 (k+1) g3:=S1.keep s2 λc hc o e=>b3.extBut c o (by rcases hc with rfl|rfl;exact D.i12;exact D.l1i2) e
    have z3:IsZ g3 z TI TO f0 b1:=b3.extBut _ _ D.i2z.symm (b2.extBut _ _ D.i1z.symm z1);have fin:=hQ x y hx hy (g3.push {cls:=.type "tuple",data:=.seq #[x,y]}) _ _ hf (qA _ z3) ⟨_,_,qA _ (k3 _ _ D.TOz D.TOi1 D.TOi2 hTO)⟩ (S1.keep s3 λc hc o e=>qA _ e) (S2.keep r3 λc hc o e=>qA _ e) (sz▸get?_push_size _ rfl) λc o c1 c2 c3 c4 e=>qA _ (k3 c o c1 c3 c4 e)
    show Q (.ref g3.objs.size) _
    rw[sz];exact fin
   ·exact hE (.inr hy) g3 e (λc o c1 c2 c3 c4 x=>b3 _ _ c4 (k2 c o c1 c3 x)) he
  ·exact hE (.inl hx) g2 e (λc o c1 c2 c3 c4 x=>b2 _ _ c3 (k1 _ _ c1 x)) he
def YT{st1 st2:Nat->Heap->Prop}{Q:Option Value->Shared->Prop}(S1:Src prog w A.in1 i1 l1 xs st1)(S2:Src prog w A.in1 i2 l2 ys st2)(D:ZipApart z TI TO i1 i2 l1 l2)
  (hz:IsZ s.heap z TI TO f0 bb) (hf:Wt f0) (hTI:IsPair s.heap TI (.ref i1) (.ref i2)) (hTO:IsPair s.heap TO a b) (h1:st1 k s.heap) (h2:st2 k s.heap)
  (hQ:∀x y,xs[k]?=some x->ys[k]?=some y->∀h' f1 b1,Wt f1->IsZ h' z TI TO f1 b1->(∃u v,IsPair h' TO u v)->st1 (k+1) h'->st2 (k+1) h'->IsPair h' s.heap.objs.size x y ->
   (∀c o,c≠z->c≠TO->c≠i1->c≠i2->s.heap.get? c=some o->h'.get? c=some o)->Q (some (.ref s.heap.objs.size)) {s with heap:=h'})
  (hE:xs[k]?=none\/ys[k]?=none->∀h',(∀c o,c≠z->c≠TO->c≠i1->c≠i2->s.heap.get? c=some o->h'.get? c=some o)->Q none {s with heap:=h'}):wpAny (model prog w) A (pyNext (.ref z)) Q E s:=by
 have hT:s.TypeIs (.ref z) "zip":=⟨_,hz,rfl⟩;unfold pyNext;refine qB (wpAny_attempt (wpAny_callSpecial?_slot hT F.slot_zip_next (wpAny_call_entry F.slot_zip_next hT F.entry_zip_next (zq_next S1 S2 D hz hf hTI hTO h1 h2 (λx y hx hy h' f1 b1 a0 a1 a2 a3 a4 a5 a6=>?_) λhend h' e hk he=>?_) (F.args_zip_next_1 _))))
 ·exact qC (hQ x y hx hy h' f1 b1 a0 a1 a2 a3 a4 a5 a6)
 ·obtain⟨o,ho,hc⟩:=he
  exact qB (wpAny_isInstance (T:="StopIteration") (b:=true) ⟨o,ho,hc⟩ isSubtype_stop (qC (hE hend h' hk)))
def zCz{Q:Value->Shared->Prop}(hz:IsZ s.heap z TI TO f0 b)(h:Q (.ref z) s):wpAny (model prog w) A (pyIter (.ref z)) Q E s:=by
 have hT:s.TypeIs (.ref z) "zip":=⟨_,hz,rfl⟩;refine wpAny_pyIter_slot hT F.slot_zip_iter (wpAny_call_entry F.slot_zip_iter hT F.entry_zip_iter ?_ (F.args_zip_iter_1 _));show wpAny _ _ (ret (.ref z)) _ _ s;exact qC ⟨_,rfl,"zip",_,hT,F.slot_zip_next.lookup,h⟩
def TgZ(tg:Expr):Prop:=(∃el x p,tg=.Tuple el x p)\/∃y p,tg=.Name y p
def lo_zip{Q:Unit->Shared->Prop}(ht:TgZ tg)(hf:Wt f0)(hz:IsZ s.heap z TI TO f0 b)(hQ:∀h' f1,Wt f1->IsZ h' z TI TO f1 b->(∀c o,c≠z->s.heap.get? c=some o->h'.get? c=some o)->Q () {s with heap:=h'}):wpAny (model prog w) A (letOwnedTupleGo tg (.ref z) (.ref T)) Q E s:=by
 rcases ht with⟨el,x,p,rfl⟩|⟨y,p,rfl⟩
 ·unfold letOwnedTupleGo
  refine qB (wpAny_load hz ?_);show wpAny _ _ (if(["enumerate","zip","dict_itemiterator","dict_reverseitemiterator","odict_iterator","itertools.zip_longest","itertools.pairwise"].contains "zip"&&(#[f0,.bool b,.bool false,.ref TI,.ref TO]:Array Value)[0]?==some (rawInt T))=true then _ else _) Q E s;refine wpAny_ite_split (λ_=>qB (wpAny_rule ?_)) (λ_=>qC (hQ s.heap f0 hf hz λ_ _ _ e=>e));show wpAny _ _ (setField (.ref z) 0 .none) Q E s;exact wpAny_setField_rec hz (by simp) λh' hz' hs'=>hQ h' .none (.inl rfl) hz' λc o c1 e=>hs'.extBut _ _ c1 e
 ·exact qC (hQ s.heap f0 hf hz λ_ _ _ e=>e)
end
abbrev itO(c:String)(l:Addr):Obj:={cls:=.type c,data:=.fields #[.ref l,.int 0 0]}
abbrev zpA(h:Heap)(c1 c2:String)(l1 l2:Addr):Heap:=(h.push (itO c1 l1)).push (itO c2 l2)
abbrev zpB(h:Heap)(c1 c2:String)(l1 l2:Addr):Heap:=(zpA h c1 c2 l1 l2).push {cls:=.type "tuple",data:=.seq #[.ref h.objs.size,.ref (h.push (itO c1 l1)).objs.size]}
abbrev zpC(h:Heap)(c1 c2:String)(l1 l2:Addr):Heap:=(zpB h c1 c2 l1 l2).push {cls:=.type "tuple",data:=.seq #[.none,.none]}
abbrev zpD(h:Heap)(c1 c2:String)(l1 l2:Addr):Heap:=(zpC h c1 c2 l1 l2).push {cls:=.type "zip",data:=.fields #[.none,.bool false,.bool false,.ref (zpA h c1 c2 l1 l2).objs.size,.ref (zpB h c1 c2 l1 l2).objs.size]}
def zE3(l1 l2:Addr)(xs ys:Array Value):Meets (Builtin.«zip.__new__» ⟨[.type "zip",.ref l1,.ref l2],[]⟩) (λ_ R s=>s.heap.IsTuple l1 xs/\s.heap.IsTuple l2 ys/\R (.ok (.ret (.ref (zpC s.heap "tuple_iterator" "tuple_iterator" l1 l2).objs.size))) {s with heap:=zpD s.heap "tuple_iterator" "tuple_iterator" l1 l2}) :=
 .of_wp λprog w A R s h=>by
  obtain⟨hp,g,d,tk,os⟩:=s;obtain⟨h1,h2,h⟩:=h;have hs:=sub_zip;have a1:Heap.IsTuple (Shared.heap ⟨hp,g,d,tk,os⟩) l1 xs:=h1;have a2:Heap.IsTuple (Shared.heap ⟨hp.push (itO "tuple_iterator" l1),g,d,tk,os⟩) l2 ys:=h2.at λo e=>qA _ e
  wp_walk using wpAny_pyIter_tuple a1,wpAny_pyIter_tuple a2
  exact⟨_,rfl,h⟩
def zE4(l1 l2:Addr)(xs ys:Array Value):Meets (Builtin.«zip.__new__» ⟨[.type "zip",.ref l1,.ref l2],[]⟩) (λ_ R s=>s.heap.IsTuple l1 xs/\s.heap.IsList l2 ys/\R (.ok (.ret (.ref (zpC s.heap "tuple_iterator" "list_iterator" l1 l2).objs.size))) {s with heap:=zpD s.heap "tuple_iterator" "list_iterator" l1 l2}) :=
 .of_wp λprog w A R s h=>by
  obtain⟨hp,g,d,tk,os⟩:=s;obtain⟨h1,h2,h⟩:=h;have hs:=sub_zip;have a1:Heap.IsTuple (Shared.heap ⟨hp,g,d,tk,os⟩) l1 xs:=h1;have a2:Heap.IsList (Shared.heap ⟨hp.push (itO "tuple_iterator" l1),g,d,tk,os⟩) l2 ys:=h2.at λo e=>qA _ e
  wp_walk using wpAny_pyIter_tuple a1,wpAny_pyIter_list a2
  exact⟨_,rfl,h⟩
def zE5(l1 l2:Addr)(xs ys:Array Value):Meets (Builtin.«zip.__new__» ⟨[.type "zip",.ref l1,.ref l2],[]⟩) (λ_ R s=>s.heap.IsList l1 xs/\s.heap.IsTuple l2 ys/\R (.ok (.ret (.ref (zpC s.heap "list_iterator" "tuple_iterator" l1 l2).objs.size))) {s with heap:=zpD s.heap "list_iterator" "tuple_iterator" l1 l2}) :=
 .of_wp λprog w A R s h=>by
  obtain⟨hp,g,d,tk,os⟩:=s;obtain⟨h1,h2,h⟩:=h;have hs:=sub_zip;have a1:Heap.IsList (Shared.heap ⟨hp,g,d,tk,os⟩) l1 xs:=h1;have a2:Heap.IsTuple (Shared.heap ⟨hp.push (itO "list_iterator" l1),g,d,tk,os⟩) l2 ys:=h2.at λo e=>qA _ e
  wp_walk using wpAny_pyIter_list a1,wpAny_pyIter_tuple a2
  exact⟨_,rfl,h⟩
def zE6(l1 l2:Addr)(xs ys:Array Value):Meets (Builtin.«zip.__new__» ⟨[.type "zip",.ref l1,.ref l2],[]⟩) (λ_ R s=>s.heap.IsList l1 xs/\s.heap.IsList l2 ys/\R (.ok (.ret (.ref (zpC s.heap "list_iterator" "list_iterator" l1 l2).objs.size))) {s with heap:=zpD s.heap "list_iterator" "list_iterator" l1 l2}):=meets_zip_new l1 l2 xs ys
structure Zp(h h':Heap)(c1 c2:String)(l1 l2:Addr):Prop where
 z:IsZip h' (h.objs.size+4) (h.objs.size+2) (h.objs.size+3) .none
 a:IsPair h' (h.objs.size+2) (.ref h.objs.size) (.ref (h.objs.size+1))
 b:IsPair h' (h.objs.size+3) .none .none
 i1:h'.get? h.objs.size=some (itO c1 l1)
 i2:h'.get? (h.objs.size+1)=some (itO c2 l2)
 kp:∀c o,h.get? c=some o->h'.get? c=some o
def zp_of(h:Heap)(c1 c2:String)(l1 l2:Addr):Zp h (zpD h c1 c2 l1 l2) c1 c2 l1 l2/\(zpC h c1 c2 l1 l2).objs.size=h.objs.size+4:=by
 have n1:(h.push (itO c1 l1)).objs.size=h.objs.size+1:=size_push ..;have n2:(zpA h c1 c2 l1 l2).objs.size=h.objs.size+2:=by rw[size_push,n1]
 have n3:(zpB h c1 c2 l1 l2).objs.size=h.objs.size+3:=by rw[size_push,n2]
 have n4:(zpC h c1 c2 l1 l2).objs.size=h.objs.size+4:=by rw[size_push,n3]
 have u:=λ(h:Heap) (o:Obj) {b:Addr} {q:Obj} (e:h.get? b=some q)=>qA (h:=h) o e
 have g5:(zpD h c1 c2 l1 l2).get? (zpC h c1 c2 l1 l2).objs.size=some _:=get?_push_size _ rfl;have g4:(zpD h c1 c2 l1 l2).get? (zpB h c1 c2 l1 l2).objs.size=some _:=qA _ (get?_push_size _ rfl);have g3:(zpD h c1 c2 l1 l2).get? (zpA h c1 c2 l1 l2).objs.size=some _:=qA _ (qA _ (get?_push_size _ rfl));have g2:(zpD h c1 c2 l1 l2).get? (h.push (itO c1 l1)).objs.size=some (itO c2 l2):=qA _ (qA _ (qA _ (get?_push_size _ rfl)));have g1:(zpD h c1 c2 l1 l2).get? h.objs.size=some (itO c1 l1):=qA _ (qA _ (qA _ (qA _ (get?_push_size _ rfl))));rw[n2,n3,n4]at g5;rw[n1,n2]at g3;rw[n3]at g4;rw[n1]at g2;exact⟨⟨g5,g3,g4,g1,g2,λc o e=>qA _ (qA _ (qA _ (qA _ (qA _ e))))⟩,n4⟩
section
variable{prog:Program}{w:World}{A:Around}{E:Value->Shared->Prop}{s:Shared}
def SqO(h:Heap)(t:Bool)(l:Addr)(xs:Array Value):Prop:=if t then h.IsTuple l xs else h.IsList l xs
def itC(t:Bool):String:=if t then "tuple_iterator" else "list_iterator"
def zC0{Q:Value->Shared->Prop}(h1:SqO s.heap t1 l1 xs)(h2:SqO s.heap t2 l2 ys)(h:∀h',Zp s.heap h' (itC t1) (itC t2) l1 l2->Q (.ref (s.heap.objs.size+4)) {s with heap:=h'}):wpAny (model prog w) A (call (.type "zip") [.ref l1,.ref l2]) Q E s:=by
 obtain⟨z,n⟩:=zp_of s.heap (itC t1) (itC t2) l1 l2;have hz:=h _ z;have fin:∀{P:Heap->Prop},P s.heap->Meets (Builtin.«zip.__new__» ⟨[.type "zip",.ref l1,.ref l2],[]⟩) (λ_ R s=>P s.heap/\R (.ok (.ret (.ref (zpC s.heap (itC t1) (itC t2) l1 l2).objs.size))) {s with heap:=zpD s.heap (itC t1) (itC t2) l1 l2})->wpAny (model prog w) A (call (.type "zip") [.ref l1,.ref l2]) Q E s:=λ{P} hP m=>by
  refine callType_new F.called_zip (by decide) (F.typeCall_zip_2 _ _) (F.newCall_zip_2 _ _) (λobj=>F.args_object_init_3 obj _ _) F.entry_zip_new m ⟨hP,?_⟩;show _/\_;rw[n];exact⟨⟨_,z.z,rfl⟩,hz⟩
 cases t1<;>cases t2
 ·exact fin (P:=λh=>h.IsList l1 xs/\h.IsList l2 ys) ⟨h1,h2⟩ (Meets.of_imp (zE6 l1 l2 xs ys) λA R s q=>⟨q.1.1,q.1.2,q.2⟩)
 ·exact fin (P:=λh=>h.IsList l1 xs/\h.IsTuple l2 ys) ⟨h1,h2⟩ (Meets.of_imp (zE5 l1 l2 xs ys) λA R s q=>⟨q.1.1,q.1.2,q.2⟩)
 ·exact fin (P:=λh=>h.IsTuple l1 xs/\h.IsList l2 ys) ⟨h1,h2⟩ (Meets.of_imp (zE4 l1 l2 xs ys) λA R s q=>⟨q.1.1,q.1.2,q.2⟩)
 ·exact fin (P:=λh=>h.IsTuple l1 xs/\h.IsTuple l2 ys) ⟨h1,h2⟩ (Meets.of_imp (zE3 l1 l2 xs ys) λA R s q=>⟨q.1.1,q.1.2,q.2⟩)
end
end DV
namespace DV
open PySem L2 PySem.Spec PyProof.Rows
def SqH(K:qH)(H:Hp)(t:Bool)(a:Addr)(xs:List V):Prop:=if t then SqT K H a xs else SqL K H a xs
section
variable{X:Cx}{pins:List (Addr×Obj)}{O:L2.St}{H:Hp}{s:Shared}{a b:Addr}{xs ys:List V}
def jl(I:Inv X pins O H s)(h:SqH X.K H t a xs):∃its:List Value,yW xs its/\SqO s.heap t a its.toArray:=by
 cases t with
 |true =>
  obtain⟨its,r,p,_⟩:=I.tuple h;exact⟨its,r,p⟩
 |false =>
  obtain⟨its,r,p,_⟩:=I.list h;exact⟨its,r,p.isList⟩
def Qk(I:Inv X pins O H s)(h:SqH X.K H t a xs)(h':SqH X.K H t a ys):xs=ys:=by
 cases t with
 |true=>exact I.tuple_inj h h'|false=>exact I.list_inj h h'
def vq(I:Inv X pins O H s)(h:SqH X.K H t a xs)(f:zBN X pins H b):a≠b:=by
 intro z;subst z;have key:∀o,X.K.lookup a=some o->False:=λo hk=>by
  have hb:=I.ok.mod.kin a o hk;have e:=I.ok.bs a o hb;rcases f.2.2.2.1 with q|q
  ·exact I.ok.noex a o hb q
  ·exact absurd (lt_of_lt_of_le (lt_size e.1) q) (lt_irrefl _)
 have key2:∀u,Rd H a u->False:=λu r=>by
  rcases r with r|⟨o,r⟩<;>rw[f.1]at r<;>cases r
 cases t with
 |true =>
  rcases h with h|⟨o,its,n,hk,_⟩
  ·exact key2 _ h
  ·exact key o hk
 |false =>
  rcases h with h|⟨o,its,n,hk,_⟩
  ·exact key2 _ h
  ·exact key o hk
end
def Itz(K:qH)(t1 t2:Bool)(a b:Addr):It :=
 ⟨λi H=>∃xs ys,SqH K H t1 a xs/\SqH K H t2 b ys/\i<xs.length/\i<ys.length,
  λi H x H'=>∃q u v,(∀xs,SqH K H t1 a xs->xs[i]?=some u)/\(∀ys,SqH K H t2 b ys->ys[i]?=some v)/\H q=none/\H'=upd H q (.t [u,v])/\x=.ref q,
  λi H=>∃xs ys,SqH K H t1 a xs/\SqH K H t2 b ys/\(xs.length<=i\/ys.length<=i)⟩
def ItA(t:Bool)(h:Heap)(it l:Addr)(i:Nat):Prop:=if t then h.IsTupleIter it l i else h.IsListIter it l i
def Zd(x:ItA t h it l i)(k:∀o,h.get? it=some o->h'.get? it=some o):ItA t h' it l i:=by
 cases t with
 |true=>exact Heap.IsTupleIter.at x k|false=>exact Heap.IsListIter.at x k
def Y5(x:ItA t h it l i):∃o,h.get? it=some o/\∀v,o.data≠.cell v:=by
 cases t with
 |true=>obtain⟨o,e,c,d⟩:=x;exact⟨o,e,λv z=>by rw[d]at z;cases z⟩|false=>obtain⟨o,e,c,d⟩:=x;exact⟨o,e,λv z=>by rw[d]at z;cases z⟩
def zD5(hh:A.handled=none)(t:Bool)(ne:l≠it)(items:Array Value):Src prog w A it l items (λi h=>ItA t h it l i/\SqO h t l items):=by
 cases t with
 |true=>exact src_tup hh ne items|false=>exact zE1 hh ne items
structure Five(z TI TO i1 i2:Addr):Prop where
 a1:TI≠z
 a2:TO≠z
 a3:i1≠z
 a4:i2≠z
 a5:TI≠TO
 a6:TI≠i1
 a7:TI≠i2
 a8:TO≠i1
 a9:TO≠i2
 a10:i1≠i2
def ZSn(z TI TO i1 i2:Addr)(t1 t2:Bool)(a b:Addr)(i:Nat)(h:Heap):Prop:=(∃f0 b,Wt f0/\IsZ h z TI TO f0 b)/\IsPair h TI (.ref i1) (.ref i2)/\(∃u v,IsPair h TO u v)/\ItA t1 h i1 a i/\ItA t2 h i2 b i
def zE7{P:Program}{w:World}{K:qH}{tg:Expr}{z TI TO i1 i2:Addr}(ht:TgZ tg)(F:Five z TI TO i1 i2)(t1 t2:Bool)(a b:Addr):Turn P w K tg (Itz K t1 t2 a b) [z,TI,TO,i1,i2] z (ZSn z TI TO i1 i2 t1 t2 a b) where
 mem:=by simp
 obj:=λi h st c hc=>by
  obtain⟨⟨f0,bb,hf0,hz⟩,hI,⟨u,v,hO⟩,h1,h2⟩:=st;simp only[mem_cons,mem_nil_iff,or_false]at hc;rcases hc with rfl|rfl|rfl|rfl|rfl
  ·exact⟨_,hz,λv z=>by cases z⟩
  ·exact⟨_,hI,λv z=>by cases z⟩
  ·exact⟨_,hO,λv z=>by cases z⟩
  ·exact Y5 h1
  ·exact Y5 h2
 keep:=λi h h' st k=>by
  obtain⟨⟨f0,bb,hf0,hz⟩,hI,⟨u,v,hO⟩,h1,h2⟩:=st;exact⟨⟨f0,bb,hf0,k z (by simp) _ hz⟩,k TI (by simp) _ hI,⟨u,v,k TO (by simp) _ hO⟩,Zd h1 λo e=>k i1 (by simp) o e,Zd h2 λo e=>k i2 (by simp) o e⟩
 item:=by
  intro X hP hw hK hc i pins s O H E I hf st hg;subst hP hw hK;obtain⟨⟨f0,bb,hf0,hz⟩,hI,⟨u0,v0,hO⟩,h1,h2⟩:=st;obtain⟨xs,ys,q1,q2,l1,l2⟩:=hg;obtain⟨us,r1,p1⟩:=jl I q1;obtain⟨vs,r2,p2⟩:=jl I q2;have na:∀c∈[z,TI,TO,i1,i2],a≠c:=λc hc=>vq I q1 (hf c hc)
  have nb:∀c∈[z,TI,TO,i1,i2],b≠c:=λc hc=>vq I q2 (hf c hc)
  have D:ZipApart z TI TO i1 i2 a b:=⟨F.a1,F.a2,F.a3,F.a4,F.a5,F.a6,F.a7,F.a8,F.a9,F.a10,na z (by simp),na TO (by simp),na i1 (by simp),na i2 (by simp),nb z (by simp),nb TO (by simp),nb i1 (by simp),nb i2 (by simp)⟩;have hh:X.A.in1.handled=none:=I.ok.hd hc;obtain⟨u,eu⟩:∃u,xs[i]?=some u:=⟨_,getElem?_eq_getElem l1⟩;obtain⟨v,ev⟩:∃v,ys[i]?=some v:=⟨_,getElem?_eq_getElem l2⟩;obtain⟨u',eu',ru⟩:=r1.get eu;obtain⟨v',ev',rv⟩:=r2.get ev;refine YT (zD5 hh t1 (na i1 (by simp)) us.toArray) (zD5 hh t2 (nb i2 (by simp)) vs.toArray) D hz hf0 hI hO ⟨h1,p1⟩ ⟨h2,p2⟩ (λx y hx hy h' f1 b1 w1 z1 o1 s1 s2 pq kk=>?_) (λhe=>?_)
  ·have ex:x=u':=by simp[eu']at hx;exact hx.symm
   have ey:y=v':=by simp[ev']at hy;exact hy.symm
   subst ex ey;refine⟨_,rfl,lo_zip (s:={s with heap:=h'}) ht w1 z1 λh2 f2 w2 z2 b2=>?_⟩
   have lt:∀{c o},s.heap.get? c=some o->s.heap.objs.size≠c:=λe=>ne_of_gt (lt_size e)
   have pq2:IsPair h2 s.heap.objs.size x y:=b2 _ _ (lt hz) pq;have k2:∀c o,c∉[z,TI,TO,i1,i2]->s.heap.get? c=some o->h2.get? c=some o:=λc o hc e=>b2 _ _ (λq=>hc (by simp[q])) (kk c o (λq=>hc (by simp[q])) (λq=>hc (by simp[q])) (λq=>hc (by simp[q])) (λq=>hc (by simp[q])) e)
   obtain⟨ou,ov,o1⟩:=o1;have new:jz X.prog X.w (upd H s.heap.objs.size (.t [u,v])) h2 s.heap.objs.size (.t [u,v]):=⟨by simp[sizeLine_eq],[x,y],.cons ru (.cons rv .nil),⟨_,pq2,rfl,_,rfl⟩⟩;have I2:=I.turnLay (t':=s.toks) hf k2 (le_refl _) new;have fresh:H s.heap.objs.size=none:=I.hok.fresh (le_refl _);refine⟨.ref s.heap.objs.size,_,I2,rfl,⟨_,u,v,λzs hz=>by rw[Qk I hz q1];exact eu,λzs hz=>by rw[Qk I hz q2];exact ev,fresh,rfl,rfl⟩,⟨⟨f2,b1,w2,z2⟩,b2 _ _ F.a1 (kk TI _ F.a1 F.a5 F.a6 F.a7 hI),⟨_,_,b2 _ _ F.a2 o1⟩,Zd s1.1 λo e=>b2 _ _ F.a3 e,Zd s2.1 λo e=>b2 _ _ F.a4 e⟩,λc hc=>?_⟩;have:c≠s.heap.objs.size:=λq=>by
    obtain⟨o,e⟩:∃o,s.heap.get? c=some o:=by
     simp only[mem_cons,mem_nil_iff,or_false]at hc;rcases hc with rfl|rfl|rfl|rfl|rfl
     ·exact⟨_,hz⟩
     ·exact⟨_,hI⟩
     ·exact⟨_,hO⟩
     ·obtain⟨o,e,_⟩:=Y5 h1;exact⟨o,e⟩
     ·obtain⟨o,e,_⟩:=Y5 h2;exact⟨o,e⟩
    exact lt e q.symm
   rw[zr this];exact(hf c hc).1
  ·exfalso
   rcases he with he|he
   ·simp[eu']at he
   ·simp[ev']at he
 done:=by
  intro X hP hw hK hc i pins s O H E I hf st hg;subst hP hw hK;obtain⟨⟨f0,bb,hf0,hz⟩,hI,⟨u0,v0,hO⟩,h1,h2⟩:=st;obtain⟨xs,ys,q1,q2,l12⟩:=hg;obtain⟨us,r1,p1⟩:=jl I q1;obtain⟨vs,r2,p2⟩:=jl I q2;have na:∀c∈[z,TI,TO,i1,i2],a≠c:=λc hc=>vq I q1 (hf c hc)
  have nb:∀c∈[z,TI,TO,i1,i2],b≠c:=λc hc=>vq I q2 (hf c hc)
  have D:ZipApart z TI TO i1 i2 a b:=⟨F.a1,F.a2,F.a3,F.a4,F.a5,F.a6,F.a7,F.a8,F.a9,F.a10,na z (by simp),na TO (by simp),na i1 (by simp),na i2 (by simp),nb z (by simp),nb TO (by simp),nb i1 (by simp),nb i2 (by simp)⟩;have hh:X.A.in1.handled=none:=I.ok.hd hc;have e1:=r1.length;have e2:=r2.length;refine YT (zD5 hh t1 (na i1 (by simp)) us.toArray) (zD5 hh t2 (nb i2 (by simp)) vs.toArray) D hz hf0 hI hO ⟨h1,p1⟩ ⟨h2,p2⟩ (λx y hx hy=>?_) (λhe h' kk=>⟨rfl,?_⟩)
  ·exfalso
   simp at hx hy
   have a1:=(qG.mp hx).1;have a2:=(qG.mp hy).1;omega
  ·exact I.turnL (t':=s.toks) hf λc o hc e=>kk c o (λq=>hc (by simp[q])) (λq=>hc (by simp[q])) (λq=>hc (by simp[q])) (λq=>hc (by simp[q])) e
 self:=λ_ _ _ _ _ st h=>by
  obtain⟨⟨f0,bb,hf0,hz⟩,_⟩:=st;exact zCz hz h
section
variable{X:Cx}{K:qH}{mg:Str->Option Value}{O:L2.St}{H:Hp}
def iZip(K:qH)(t1 t2:Bool)(ta:TA):TI:=λO H R=>ta O H λvs H1=>∃a b xs ys,vs=[.ref a,.ref b]/\SqH K H1 t1 a xs/\SqH K H1 t2 b ys/\R (Itz K t1 t2 a b) H1
def zGH:bootBuiltins "zip"=some (.type "zip"):=by decide +kernel
def uX(e:h.get? it=some (itO (itC t) l)):ItA t h it l 0:=by
 cases t with
 |true=>exact⟨_,e,rfl,rfl⟩|false=>exact⟨_,e,rfl,rfl⟩
def five(n:Addr):Five (n+4) (n+2) (n+3) n (n+1) :=
 have e:∀i j:Nat,i≠j->n+i≠n+j:=λi j h q=>h (Nat.add_left_cancel q)
 ⟨e 2 4 (by decide),e 3 4 (by decide),e 0 4 (by decide),e 1 4 (by decide),e 2 3 (by decide),e 2 0 (by decide),e 2 1 (by decide),e 3 0 (by decide),e 3 1 (by decide),e 0 1 (by decide)⟩
def pi_zip(ht:TgZ tg)(hg:Gl X "zip")(hm:X.mg "zip"=none)(ha:PA X [e,f] ta)(hs:starEach [e,f] X.env=[(false,eval e X.env),(false,eval f X.env)]:=by rfl)(hs2:starEach [f] X.env=[(false,eval f X.env)]:=by rfl) :
  PI X tg (.Call (.Name "zip" p) [e,f] [] pos) (iZip X.K t1 t2 ta):=by
 intro pins s O H R I h;refine Call_ (YL I hg hm zGH (PyProof.Rows.callWith_type1 (thn (ha pos pins s O H _ I h) λus s1 ⟨vs,H1,I1,r1,q1⟩=>?_) (by rw[hs,hs2]) (by rw[hs2];rfl)));obtain⟨a,b,xs,ys,ev,qa,qb,q⟩:=q1;subst ev;cases r1 with
 |cons r rr =>
  cases rr with
  |cons r' rr =>
   cases rr;cases r;cases r';obtain⟨u1,v1,p1⟩:=jl I1 qa;obtain⟨u2,v2,p2⟩:=jl I1 qb;refine zC0 p1 p2 λh' z=>?_
   refine wpAny_pyIter_zip (s:={s1 with heap:=h'}) z.z ?_
   have n:∀j,s1.heap.objs.size<=s1.heap.objs.size+j:=λj=>le_add_right _ _
   have fr:∀c,s1.heap.objs.size<=c->zBN X pins H1 c:=λc hc=>I1.fpOk hc (I1.hok.fresh hc)
   refine⟨_,[s1.heap.objs.size+4,s1.heap.objs.size+2,s1.heap.objs.size+3,s1.heap.objs.size,s1.heap.objs.size+1],_,_,H1,rfl,I1.kept (t':=s1.toks) z.kp,zE7 ht (five _) t1 t2 a b,⟨⟨.none,false,.inl rfl,z.z⟩,z.a,⟨_,_,z.b⟩,uX z.i1,uX z.i2⟩,λc hc=>?_,q⟩;simp only[mem_cons,mem_nil_iff,or_false]at hc;rcases hc with rfl|rfl|rfl|rfl|rfl
   ·exact fr _ (n 4)
   ·exact fr _ (n 2)
   ·exact fr _ (n 3)
   ·exact fr _ (n 0)
   ·exact fr _ (n 1)
def Gq(d e:D):D:=.t [d,e]
def zy(e:Yv H H')(h:SqH K H t a xs):SqH K H' t a xs:=by
 cases t with
 |true=>exact zS e h|false=>exact e.seq h
def it_zip:ItOk K mg (Itz K t1 t2 a b) (zipWith Gq ds es) (λH=>SqH K H t1 a xs/\Reps K mg H ds xs/\SqH K H t2 b ys/\Reps K mg H es ys) where
 mono:=λH H' s h=>⟨zy s h.1,h.2.1.mono s,zy s h.2.2.1,h.2.2.2.mono s⟩
 go:=λi Hh H s h hi=>by
  rw[List.length_zipWith]at hi;exact⟨xs,ys,zy s h.1,zy s h.2.2.1,by rw[h.2.1.length];omega,by rw[h.2.2.2.length];omega⟩
 yld:=λi Hh H x H' s h hi y=>by
  obtain⟨q,u,v,h1,h2,hq,rfl,rfl⟩:=y;have e1:=h1 xs (zy s h.1);have e2:=h2 ys (zy s h.2.2.1);obtain⟨d,g1,r1⟩:=h.2.1.get e1;obtain⟨e,g2,r2⟩:=h.2.2.2.get e2;refine⟨Gq d e,by rw[List.getElem?_zipWith,g1,g2],.inr ⟨q,[u,v],[d,e],hq,rfl,rfl,rfl,Reps.cons r1 (Reps.cons r2 Reps.nil)⟩⟩
 stop:=λi Hh H s h hi=>by
  rw[List.length_zipWith]at hi;refine⟨xs,ys,zy s h.1,zy s h.2.2.1,?_⟩;rw[h.2.1.length,h.2.2.2.length];omega
end
end DV
namespace DV
open PySem L2
section
variable{X:Cx}
def Ql:Bool->D->Option (List D)
 |true,.t ds=>some ds|false,.l ds=>some ds|_,_=>none
def iZ(t1 t2:Bool)(m:MA):MI:=λE=>match m E with
 | .z=>.z| .exc x E1=>.exc x E1
 | .ok ([r,r'],E1)=>match Ql t1 r.d,Ql t2 r'.d with
  |some ds,some es=>.ok (zipWith Gq ds es,E1)|_,_=>.z
 |_=>.z
def Wc{mg:Str->Option Value}(e:Ql t d=some ds)(r:Rep K mg H d v):∃a xs,v=.ref a/\SqH K H t a xs/\Reps K mg H ds xs:=by
 cases t with
 |true =>
  cases d with
  |t es=>cases e;exact yY r|_=>cases e
 |false =>
  cases d with
  |l es=>cases e;exact yJ r|_=>cases e
def io_zip(ht:TgZ tg)(hgl:Gl X "zip")(hm:X.mg "zip"=none)(ha:AOk X [a,b] m)(hst:zX a=false:=by rfl)(hst2:zX b=false:=by rfl) :
  IOk X tg (.Call (.Name "zip" p) [a,b] [] cpos) (iZ t1 t2 m):=vo (pi_zip ht hgl hm ha (star2 hst hst2) (zBU hst2)) λO H R ⟨M,E,hl,fr,k⟩=>by
 unfold iZ at k;refine JE (T0:=[]) hl fr ?_;cases ea:m E with
 |z=>rw[ea]at k;exact k|exc x E1=>rw[ea]at k;exact k
 |ok p =>
  obtain⟨rs,E1⟩:=p;rw[ea]at k
  match rs,k with
  | [r,r'],k =>
   intro vs H1 hv g1;have rp:=Got.reps hv g1;dsimp only at k;cases ed:Ql t1 r.d with
   |none=>rw[ed]at k;exact k.elim
   |some ds =>
    cases ed':Ql t2 r'.d with
    |none=>rw[ed,ed']at k;exact k.elim
    |some es =>
     rw[ed,ed']at k;simp only[List.map]at rp;obtain⟨v,w,rfl,h1,h2⟩:=zEe rp;obtain⟨c,xs,rfl,c1,c2⟩:=Wc ed h1;obtain⟨d,ys,rfl,d1,d2⟩:=Wc ed' h2;exact⟨c,d,xs,ys,rfl,zy zH c1,zy zH d1,k _ _ H1 it_zip ⟨c1,c2,d1,d2⟩ g1.dropAll⟩
  | [],k=>exact k.elim| [_],k=>exact k.elim|_::_::_::_,k=>exact k.elim
end
section
variable{X:Cx}{K:qH}{mg:Str->Option Value}{O:L2.St}{M:Addr->Prop}{E:zV}{H:Hp}
def zE8{J:It}{ds:List D}{Iv:Hp->Prop}{O0 O':L2.St}{E0 E':zV}{H1 H' H'':Hp}{i:Nat}{x:V}(it:ItOk K mg J ds Iv)(hlt:i<ds.length)(gb:Got K mg M O0 E0 H1 [] O' E' H' [])(ivb:Iv (Hm (Mo M (O'.zip E')) H'))(y:J.yld i H' x H'') :
  ∃d,ds[i]?=some d/\Got K mg M O0 E0 H1 [] O' E' H'' []/\Iv (Hm (Mo M (O'.zip E')) H'')/\Rep K mg (Hm (Mo M (O'.zip E')) H'') d x:=by
 obtain⟨d,hd,h⟩:=it.yld i _ _ x _ zH ivb hlt y;rcases h with⟨rfl,rx⟩|⟨q,xs,es,hq,rfl,rfl,rfl,rs⟩
 ·exact⟨d,hd,gb,ivb,rx⟩
 ·have f:FR K mg M H' (O'.zip E'):=gb.fr
  have f1:=f.newTup hq rs;have s1:Step M H' (O'.zip E') (upd H' q (.t xs)) ((some (.ref q),.v (.t es))::O'.zip E'):=Step.newVal hq;obtain⟨v,ev,rv⟩:=f1.val _ _ qE;cases ev;have sm:=s1.same;rw[ZY]at rv sm;have s2:Step M H' (O'.zip E') (upd H' q (.t xs)) (O'.zip E'):=⟨sm,s1.keep⟩;exact⟨_,hd,⟨gb.len,f1.tail,gb.st.trans s2,gb.pk⟩,it.mono _ _ sm ivb,rv⟩
def sForI(mi:MI)(tg:MG)(body:MS):MS:=λE=>match mi E with
 | .z=>.z| .exc x E1=>.exc x E1| .ok (ds,E1)=>J2 tg body ds E1
def zE9{mi:MI}{tg:MG}{g:TG}{body:MS}{D:Ends}(hg:GOk X g tg)(h:tS X (sForI mi tg body) D O H):tFor (tMI X mi) g (tS X body) D O H:=by
 obtain⟨M,E,hl,fr,k⟩:=zCf h;unfold sForI at k;refine⟨M,E,hl,fr,?_⟩;cases ei:mi E with
 |z=>rw[ei]at k;exact k|exc x E1=>rw[ei]at k;exact λH' g=>k O H' g
 |ok p =>
  obtain⟨ds,E1⟩:=p;rw[ei]at k;intro J Iv H1 it iv g1;refine⟨λi m O1 H2=>m=ds.length-i/\i<=ds.length/\∃E2,Got X.K X.mg M O E H [] O1 E2 H2 []/\Iv (Hm (Mo M (O1.zip E2)) H2)/\Fin X M O E H D (J2 tg body (ds.drop i) E2),⟨ds.length,by simp,zero_le _,E1,g1,iv,k⟩,?_⟩
  rintro i m O1 H2 ⟨rfl,hi,E2,g2,iv2,fin⟩
  by_cases hlt:i<ds.length
  ·refine .inr ⟨it.go i _ H2 zH iv2 hlt,λO3 H3=>i+1<=ds.length/\∃E3,Got X.K X.mg M O E H [] O3 E3 H3 []/\Iv (Hm (Mo M (O3.zip E3)) H3)/\Fin X M O E H D (J2 tg body (ds.drop (i+1)) E3),λO3 H3 q=>⟨ds.length-(i+1),by omega,rfl,q⟩,λx H3 y=>?_⟩
   obtain⟨d,hd,g3,iv3,rx⟩:=zE8 it hlt g2 iv2 y;have ed:ds.drop i=d::ds.drop (i+1):=by
    obtain⟨hi',rfl⟩:=qG.mp hd;exact List.drop_eq_getElem_cons hi'
   rw[ed]at fin;exact uQ hg g3 rx fin λO4 E4 H4 g4 st fin4=>⟨hlt,E4,g4,it.mono _ _ st.same iv3,fin4⟩
  ·have e:i=ds.length:=by omega
   subst e;rw[drop_length]at fin;exact .inl ⟨it.stop _ _ H2 zH iv2 (le_refl _),fin O1 H2 g2⟩
def sk_forI(hp:PassesOwn (model X.prog X.w) X.A X.env X.xe)(hc:X.calm=true)(hi:IOk X tgt iter mi)(hg:PG X tgt g)(ho:GOk X g tg)(hb:Qd X body mb)
  (hs:∀x,foldedSetIterable iter X.env x=pure x:=by intro _;rfl):SOk X (.For tgt iter body [] pos) (sForI mi tg mb):=jV (zB3 hp hc hi hg hb hs) λD O H=>zE9 ho
end
end DV
namespace DV
open PySem L2 PySem.Spec PyProof.Rows
section
variable{prog:Program}{w:World}{A:Around}{E:Value->Shared->Prop}{s:Shared}
def en_next{e it l:Addr}{k:Nat}{items:Array Value}{st:Nat->Heap->Prop}{old:Value}{Q:Value->Shared->Prop}(S:Src prog w A it l items st)(ne:e≠it)(nl:l≠e)(he:IsEnum s.heap e it k old)(h1:st k s.heap)
  (hQ:∀x,items[k]?=some x->∀h',IsEnumOut h' e it ((k:Int)+1) x s.heap.objs.size->st (k+1) h'->IsPair h' s.heap.objs.size (.int k s.toks) x->(∀b o,b≠e->b≠it->s.heap.get? b=some o->h'.get? b=some o)->Q (.ref s.heap.objs.size) {s with heap:=h',toks:=s.toks+1})
  (hE:items[k]?=none->∀h' x,Heap.ExtBut it s.heap h'->(∃o,h'.get? x=some o/\o.cls=.type "StopIteration")->E (.ref x) {s with heap:=h'}) :
  wpAny (model prog w) A (Builtin.«enumerate.__next__» ⟨[.ref e],[]⟩) (λfin s'=>∃v,fin=.done (.ret v)/\Q v s') E s:=by
 obtain⟨hp,g,d,tk,os⟩:=s;refine qB (m:=field (.ref e) 2) (wpAny_field he rfl (x:=.ref it) rfl (qB (S.next h1 (λx hx g1 s1 b1=>?_) hE)));have b1:Heap.SameBut it hp g1:=b1;have e1:IsEnum g1 e it k old:=(b1.2 e ne).trans he;refine qB (m:=field (.ref e) 3) (wpAny_field e1 rfl (x:=rawInt k) rfl ?_);refine qB (m:=field (.ref e) 4) (wpAny_field e1 rfl (x:=.none) rfl ?_);refine qB (m:=mkInt k) (wpAny_mkInt ?_);refine qB (m:=setField (.ref e) 3 (rawInt ((k:Int)+1))) (wpAny_setField_rec e1 (by simp) λg2 e2 b2=>?_);have b2:Heap.SameBut e g1 g2:=b2;have e2:IsEnum g2 e it ((k:Int)+1) old:=e2;refine qB (m:=setField (.ref e) 4 .none) (wpAny_setField_rec e2 (by simp) λg3 e3 b3=>?_);have b3:Heap.SameBut e g2 g3:=b3;have e3:IsEnum g3 e it ((k:Int)+1) old:=e3;refine qB (m:=newTuple [.int k tk,x]) (wpAny_newTuple ?_);have sz:g3.objs.size=hp.objs.size:=by rw[b3.1,b2.1,b1.1]
 have el:e<hp.objs.size:=lt_size he;have e4:IsEnum (g3.push {cls:=.type "tuple",data:=.seq #[.int k tk,x]}) e it ((k:Int)+1) old:=qA _ e3;have p4:IsPair (g3.push {cls:=.type "tuple",data:=.seq #[.int k tk,x]}) hp.objs.size (.int k tk) x:=by rw[<- sz];exact get?_push_size _ rfl
 have k4:∀b o,b≠e->g1.get? b=some o->(g3.push {cls:=.type "tuple",data:=.seq #[.int k tk,x]}).get? b=some o:=λb o nb q=>qA _ (b3.extBut b o nb (b2.extBut b o nb q))
 generalize g3.push {cls:=.type "tuple",data:=.seq #[.int k tk,x]}=g4 at e4 p4 k4;refine qB (m:=Builtin.SmallTypes.ownedTupleIsFree (.ref e)) ?_;rw[sz];unfold Builtin.SmallTypes.ownedTupleIsFree;refine qB (wpAny_field e4 rfl (x:=.none) rfl (qC ?_));simp only[if_true];refine qB (wpAny_rule (qB (wpAny_field e4 rfl (x:=old) rfl (qB (wpAny_setField_rec e4 (by simp) λg5 e5 b5=>?_)))));have b5:Heap.SameBut e g4 g5:=b5;have e5:IsEnum g5 e it ((k:Int)+1) x:=e5;refine qB (m:=Builtin.SmallTypes.ownedTupleHandOut (.ref e) (.ref hp.objs.size)) ?_;unfold Builtin.SmallTypes.ownedTupleHandOut;refine qB (wpAny_setField_rec e5 (by simp) λg6 e6 b6=>?_);have b6:Heap.SameBut e g5 g6:=b6;have e6:IsEnumOut g6 e it ((k:Int)+1) x hp.objs.size:=e6;refine wpAny_setField_rec e6 (by simp) λg7 e7 b7=>?_
 have b7:Heap.SameBut e g6 g7:=b7;have e7:IsEnumOut g7 e it ((k:Int)+1) x hp.objs.size:=e7;have up:∀b o,b≠e->g4.get? b=some o->g7.get? b=some o:=λb o nb q=>b7.extBut b o nb (b6.extBut b o nb (b5.extBut b o nb q))
 refine qB (wpAny_letGo (qC ⟨_,rfl,hQ x hx g7 e7 (S.keep s1 λb hb o q=>?_) (up _ _ (ne_of_gt el) p4) λb o nb ni q=>up b o nb (k4 b o nb (b1.extBut b o ni q))⟩));have nb:b≠e:=by rcases hb with rfl|rfl;exact ne.symm;exact nl
 exact up b o nb (k4 b o nb q)
def Gr{e it l:Addr}{k:Nat}{items:Array Value}{st:Nat->Heap->Prop}{old:Value}{Q:Option Value->Shared->Prop}(S:Src prog w A.in1 it l items st)(ne:e≠it)(nl:l≠e)(he:IsEnum s.heap e it k old)(h1:st k s.heap)
  (hQ:∀x,items[k]?=some x->∀h',IsEnumOut h' e it ((k:Int)+1) x s.heap.objs.size->st (k+1) h'->IsPair h' s.heap.objs.size (.int k s.toks) x->(∀b o,b≠e->b≠it->s.heap.get? b=some o->h'.get? b=some o)->Q (some (.ref s.heap.objs.size)) {s with heap:=h',toks:=s.toks+1})
  (hE:items[k]?=none->∀h',(∀b o,b≠it->s.heap.get? b=some o->h'.get? b=some o)->Q none {s with heap:=h'}):wpAny (model prog w) A (pyNext (.ref e)) Q E s:=by
 have hT:s.TypeIs (.ref e) "enumerate":=⟨_,he,rfl⟩;unfold pyNext;refine qB (wpAny_attempt (wpAny_callSpecial?_slot hT F.slot_enumerate_next (wpAny_call_entry F.slot_enumerate_next hT F.entry_enumerate_next (en_next S ne nl he h1 (λx hx h' a1 a2 a3 a4=>?_) λhx h' y hk q=>?_) (F.args_enumerate_next_1 _))))
 ·exact qC (hQ x hx h' a1 a2 a3 a4)
 ·obtain⟨o,ho,hc⟩:=q
  exact qB (wpAny_isInstance (T:="StopIteration") (b:=true) ⟨o,ho,hc⟩ isSubtype_stop (qC (hE hx h' λb o nb e=>hk b o nb e)))
end
def Ite(K:qH)(t:Bool)(a:Addr):It :=
 ⟨λi H=>∃xs,SqH K H t a xs/\i<xs.length,
  λi H x H'=>∃q u,(∀xs,SqH K H t a xs->xs[i]?=some u)/\H q=none/\H'=upd H q (.t [.int i,u])/\x=.ref q,
  λi H=>∃xs,SqH K H t a xs/\xs.length<=i⟩
def ESt(e it:Addr)(t:Bool)(a:Addr)(i:Nat)(h:Heap):Prop:=(∃old,IsEnum h e it i old)/\ItA t h it a i
def zC1{P:Program}{w:World}{K:qH}{elts:List Expr}{x1}{pos:Pos}{e it:Addr}(ne:e≠it)(t:Bool)(a:Addr):Turn P w K (.Tuple elts x1 pos) (Ite K t a) [e,it] e (ESt e it t a) where
 mem:=by simp
 obj:=λi h st c hc=>by
  obtain⟨⟨old,he⟩,h1⟩:=st;simp only[mem_cons,mem_nil_iff,or_false]at hc;rcases hc with rfl|rfl
  ·exact⟨_,he,λv z=>by cases z⟩
  ·exact Y5 h1
 keep:=λi h h' st k=>by
  obtain⟨⟨old,he⟩,h1⟩:=st;exact⟨⟨old,k e (by simp) _ he⟩,Zd h1 λo q=>k it (by simp) o q⟩
 item:=by
  intro X hP hw hK hc i pins s O H E I hf st hg;subst hP hw hK;obtain⟨⟨old,he⟩,h1⟩:=st;obtain⟨xs,q1,l1⟩:=hg;obtain⟨us,r1,p1⟩:=jl I q1;have na:∀c∈[e,it],a≠c:=λc hc=>vq I q1 (hf c hc)
  have hh:X.A.in1.handled=none:=I.ok.hd hc;obtain⟨u,eu⟩:∃u,xs[i]?=some u:=⟨_,getElem?_eq_getElem l1⟩;obtain⟨u',eu',ru⟩:=r1.get eu;refine Gr (zD5 hh t (na it (by simp)) us.toArray) ne (na e (by simp)) he ⟨h1,p1⟩ (λx hx h' o1 s1 pq kk=>?_) (λhx=>?_)
  ·have ex:x=u':=by simp[eu']at hx;exact hx.symm
   subst ex;refine⟨_,rfl,wpAny_letOwnedTupleGo_enum o1 λh2 z2 b2=>?_⟩;have lt:∀{c o},s.heap.get? c=some o->s.heap.objs.size≠c:=λq=>ne_of_gt (lt_size q)
   have pq2:IsPair h2 s.heap.objs.size (.int i s.toks) x:=b2.extBut _ _ (lt he) pq;have k2:∀c o,c∉[e,it]->s.heap.get? c=some o->h2.get? c=some o:=λc o hc q=>b2.extBut _ _ (λz=>hc (by simp[z])) (kk c o (λz=>hc (by simp[z])) (λz=>hc (by simp[z])) q)
   have new:jz X.prog X.w (upd H s.heap.objs.size (.t [.int i,u])) h2 s.heap.objs.size (.t [.int i,u]):=⟨by simp[sizeLine_eq],[.int i s.toks,x],.cons ⟨_,rfl⟩ (.cons ru .nil),⟨_,pq2,rfl,_,rfl⟩⟩;have I2:=I.turnLay (t':=s.toks+1) hf k2 (le_refl _) new;have fresh:H s.heap.objs.size=none:=I.hok.fresh (le_refl _);refine⟨.ref s.heap.objs.size,_,I2,rfl,⟨_,u,λzs hz=>by rw[Qk I hz q1];exact eu,fresh,rfl,rfl⟩,⟨⟨_,by have:=z2;simpa using this⟩,Zd s1.1 λo q=>b2.extBut _ _ ne.symm q⟩,λc hc=>?_⟩;have:c≠s.heap.objs.size:=λq=>by
    obtain⟨o,e⟩:∃o,s.heap.get? c=some o:=by
     simp only[mem_cons,mem_nil_iff,or_false]at hc;rcases hc with rfl|rfl
     ·exact⟨_,he⟩
     ·obtain⟨o,e,_⟩:=Y5 h1;exact⟨o,e⟩
    exact lt e q.symm
   rw[zr this];exact(hf c hc).1
  ·exfalso
   simp[eu']at hx
 done:=by
  intro X hP hw hK hc i pins s O H E I hf st hg;subst hP hw hK;obtain⟨⟨old,he⟩,h1⟩:=st;obtain⟨xs,q1,l1⟩:=hg;obtain⟨us,r1,p1⟩:=jl I q1;have na:∀c∈[e,it],a≠c:=λc hc=>vq I q1 (hf c hc)
  have hh:X.A.in1.handled=none:=I.ok.hd hc;have e1:=r1.length;refine Gr (zD5 hh t (na it (by simp)) us.toArray) ne (na e (by simp)) he ⟨h1,p1⟩ (λx hx=>?_) (λhx h' kk=>⟨rfl,?_⟩)
  ·exfalso
   simp at hx
   have a1:=(qG.mp hx).1;omega
  ·exact I.turnL (t':=s.toks) hf λc o hc q=>kk c o (λz=>hc (by simp[z])) q
 self:=λ_ _ _ _ _ st h=>by
  obtain⟨⟨old,he⟩,_⟩:=st;exact wpAny_pyIter_enum he h
end DV
namespace DV
open PySem L2 PySem.Spec PyProof.Rows
open AutoSeq1 (wpAny_loadPart')
abbrev enH(h:Heap)(c:String)(l:Addr):Heap:=(h.push (itO c l)).push {cls:=.type "enumerate",data:=.fields #[.none,.bool false,.ref h.objs.size,rawInt 0,.none,.none]}
def en_newT(l:Addr)(items:Array Value)(n:Nat)(dd:Option Addr)(sl:Array (Option Value)) :
  Meets (Builtin.«enumerate.__new__» ⟨[.type "enumerate",.ref l],[]⟩) (λ_ R s=>s.heap.get? l=some {cls:=.type "tuple",dict:=dd,data:=.seq items n,slots:=sl}/\R (.ok (.ret (.ref (s.heap.push (itO "tuple_iterator" l)).objs.size))) {s with heap:=enH s.heap "tuple_iterator" l}) :=
 .of_wp λprog w A R s h=>by
  obtain⟨hp,g,d,tk,os⟩:=s;obtain⟨hl,h⟩:=h;have hs:=sub_enumerate;have a1:Heap.IsTuple (Shared.heap ⟨hp,g,d,tk,os⟩) l items:=⟨_,hl,rfl,n,rfl⟩
  wp_walk using wpAny_loadPart' hl
  refine wpAny_stack_any λst=>qC ?_
  split
  ·rename_i c _ _ _ _ _
   cases (c==Value.type "enumerate")<;>(wp_walk using wpAny_loadPart' hl,wpAny_pyIter_tuple a1;exact⟨_,rfl,h⟩)
  ·wp_walk using wpAny_loadPart' hl,wpAny_pyIter_tuple a1;exact⟨_,rfl,h⟩
section
variable{prog:Program}{w:World}{A:Around}{E:Value->Shared->Prop}{s:Shared}
structure En(h h':Heap)(c:String)(l:Addr):Prop where
 e:IsEnum h' (h.objs.size+1) h.objs.size 0 .none
 i:h'.get? h.objs.size=some (itO c l)
 kp:∀b o,h.get? b=some o->h'.get? b=some o
def en_call{Q:Value->Shared->Prop}(h1:SqO s.heap t l xs)(h:∀h',(IsEnum h' (s.heap.objs.size+1) s.heap.objs.size 0 .none)->ItA t h' s.heap.objs.size l 0->(∀b o,s.heap.get? b=some o->h'.get? b=some o)->Q (.ref (s.heap.objs.size+1)) {s with heap:=h'}):wpAny (model prog w) A (call (.type "enumerate") [.ref l]) Q E s:=by
 cases t with
 |false =>
  exact call_enumerate_list h1 λh' a b c k=>h h' a b k
 |true =>
  obtain⟨⟨cl,dd,da,sl⟩,e,c,n,d⟩:=(h1:s.heap.IsTuple l xs);simp only at c d;subst c d;refine callType_new F.called_enumerate (by decide) (F.typeCall_enumerate_1 _) (F.newCall_enumerate_1 _) (λobj=>F.args_object_init_2 obj _) F.entry_enumerate_new (en_newT l xs n dd sl) ⟨e,?_⟩;have hz:(s.heap.push (itO "tuple_iterator" l)).objs.size=s.heap.objs.size+1:=size_push ..;have g1:(enH s.heap "tuple_iterator" l).get? (s.heap.push (itO "tuple_iterator" l)).objs.size=some _:=get?_push_size _ rfl;rw[hz]at g1;show _/\_;rw[hz];exact⟨⟨_,g1,rfl⟩,h _ g1 ⟨_,qA _ (get?_push_size _ rfl),rfl,rfl⟩ λb o x=>qA _ (qA _ x)⟩
end
section
variable{X:Cx}{K:qH}{mg:Str->Option Value}{O:L2.St}{H:Hp}
def iEnum(K:qH)(t:Bool)(ta:TA):TI:=λO H R=>ta O H λvs H1=>∃a xs,vs=[.ref a]/\SqH K H1 t a xs/\R (Ite K t a) H1
def bt_enum:bootBuiltins "enumerate"=some (.type "enumerate"):=by decide +kernel
def pi_enum{x1}(hg:Gl X "enumerate")(hm:X.mg "enumerate"=none)(ha:PA X [e] ta)(hs:starEach [e] X.env=[(false,eval e X.env)]:=by rfl) :
  PI X (.Tuple elts x1 tp) (.Call (.Name "enumerate" p) [e] [] pos) (iEnum X.K t ta):=by
 intro pins s O H R I h;refine Call_ (YL I hg hm bt_enum (PyProof.Rows.callWith_type1 (thn (ha pos pins s O H _ I h) λus s1 ⟨vs,H1,I1,r1,q1⟩=>?_) hs rfl));obtain⟨a,xs,ev,qa,q⟩:=q1;subst ev;cases r1 with
 |cons r rr =>
  cases rr;cases r;obtain⟨u1,v1,p1⟩:=jl I1 qa;refine en_call p1 λh' z0 z1 kp=>?_
  refine wpAny_pyIter_enum (s:={s1 with heap:=h'}) z0 ?_
  have fr:∀c,s1.heap.objs.size<=c->zBN X pins H1 c:=λc hc=>I1.fpOk hc (I1.hok.fresh hc)
  have nn:s1.heap.objs.size+1≠s1.heap.objs.size:=λz=>by have:=Nat.succ_ne_self s1.heap.objs.size;exact this z
  refine⟨_,[s1.heap.objs.size+1,s1.heap.objs.size],_,_,H1,rfl,I1.kept (t':=s1.toks) kp,zC1 nn t a,⟨⟨_,z0⟩,z1⟩,λc hc=>?_,q⟩;simp only[mem_cons,mem_nil_iff,or_false]at hc;rcases hc with rfl|rfl
  ·exact fr _ (le_succ _)
  ·exact fr _ (le_refl _)
def zAf:Nat->List D->List D
 |_,[]=>[]|n,d::ds=>.t [.int (n:Int),d]::zAf (n+1) ds
theorem Z7:∀(ds:List D) (n:Nat),(zAf n ds).length=ds.length
 | [],_=>rfl|d::ds,n=>by simp[zAf,Z7 ds]
theorem zAg:∀(ds:List D) (n i:Nat) (d:D),ds[i]?=some d->(zAf n ds)[i]?=some (.t [.int ((n+i:Nat):Int),d])
 | [],_,_,_,h=>by simp at h|e::ds,n,0,d,h=>by simp at h;subst h;simp[zAf]
 |e::ds,n,i+1,d,h=>by
  simp only[List.getElem?_cons_succ]at h;have:=zAg ds (n+1) i d h;simp only[zAf,List.getElem?_cons_succ];rw[this,show n+1+i=n+(i+1)by omega]
def it_enum:ItOk K mg (Ite K t a) (zAf 0 ds) (λH=>SqH K H t a xs/\Reps K mg H ds xs) where
 mono:=λH H' s h=>⟨zy s h.1,h.2.mono s⟩
 go:=λi Hh H s h hi=>by
  rw[Z7]at hi;exact⟨xs,zy s h.1,by rw[h.2.length];omega⟩
 yld:=λi Hh H x H' s h hi y=>by
  obtain⟨q,u,h1,hq,rfl,rfl⟩:=y;have e1:=h1 xs (zy s h.1);obtain⟨d,g1,r1⟩:=h.2.get e1;refine⟨_,zAg ds 0 i d g1,.inr ⟨q,[.int (i:Int),u],[.int ((0+i:Nat):Int),d],hq,rfl,rfl,rfl,Reps.cons (by rw[zero_add];simp only[Rep]) (Reps.cons r1 Reps.nil)⟩⟩
 stop:=λi Hh H s h hi=>by
  rw[Z7]at hi;exact⟨xs,zy s h.1,by rw[h.2.length];omega⟩
def iE(t:Bool)(m:MA):MI:=λE=>match m E with
 | .z=>.z| .exc x E1=>.exc x E1
 | .ok ([r],E1)=>match Ql t r.d with
  |some ds=>.ok (zAf 0 ds,E1)|none=>.z
 |_=>.z
def io_enum{x1}(hgl:Gl X "enumerate")(hm:X.mg "enumerate"=none)(ha:AOk X [a] m)(hst:zX a=false:=by rfl) :
  IOk X (.Tuple elts x1 tp) (.Call (.Name "enumerate" p) [a] [] cpos) (iE t m):=vo (pi_enum hgl hm ha (zBU hst)) λO H R ⟨M,E,hl,fr,k⟩=>by
 unfold iE at k;refine JE (T0:=[]) hl fr ?_;cases ea:m E with
 |z=>rw[ea]at k;exact k|exc x E1=>rw[ea]at k;exact k
 |ok p =>
  obtain⟨rs,E1⟩:=p;rw[ea]at k
  match rs,k with
  | [r],k =>
   intro vs H1 hv g1;have rp:=Got.reps hv g1;dsimp only at k;cases ed:Ql t r.d with
   |none=>rw[ed]at k;exact k.elim
   |some ds =>
    rw[ed]at k;simp only[List.map]at rp;obtain⟨v,rfl,h1⟩:=J0 rp;obtain⟨c,xs,rfl,c1,c2⟩:=Wc ed h1;exact⟨c,xs,rfl,zy zH c1,k _ _ H1 it_enum ⟨c1,c2⟩ g1.dropAll⟩
  | [],k=>exact k.elim|_::_::_,k=>exact k.elim
end
end DV
namespace PySem
open Sem (wp)
open AutoSeq1 (wpAny_loadPart')
end PySem
namespace L2
open PySem PySem.Spec PyProof.Rows
end L2
namespace DV
open PySem L2
section
variable{X:Cx}{K:qH}{mg:Str->Option Value}{P P':Addr->Prop}{H:Hp}{a:Addr}{xs:List V}
def eFrz(m:ME):ME:=λE=>match m E with
 | .ok (r,E1)=>.ok (.v r.d,E1)| .exc x E1=>.exc x E1| .z=>.z
def ok_frz(h:EOk X e m):EOk X e (eFrz m):=zu h λO H Q ⟨M,E,hl,f,k⟩=>by
 refine⟨M,E,hl,f,?_⟩;unfold eFrz at k;cases em:m E with
 |z=>rw[em]at k;exact k.elim|exc x E1=>rw[em]at k;exact k
 |ok p =>
  obtain⟨r,E1⟩:=p;rw[em]at k;intro v H' g;exact k v H' ⟨g.len,FR.frz g.fr,Step.frz g.st,g.pk⟩
def zC2(mi:MI)(tg:MG)(body:MS):MS:=λE=>match mi E with
 | .exc x E1=>.exc x E1
 |_=>(match sForI mi tg body E with
  | .exc _ _=>.z|o=>o)
def ps_forX(hi:PI X tg iter wi)(hs:∀x,foldedSetIterable iter X.env x=pure x):PS X (.For tg iter body [] pos) (λD O H=>wi O H λ_ _=>False):=by
 intro pins s O H D I h;refine wpAny_For (thn (hi pins s O H _ I h) λv s1 h1=>thn h1 λitv s2 h2=>?_) hs;obtain⟨it,fp,tn,J,H2,e,I2,T,st2,f2,f⟩:=h2;exact f.elim
end
def tupI:D->Option (List Int)
 | .t ds=>Y3 ds|_=>none
def tupIs:List D->Option (List (List Int))
 | []=>some []
 |d::ds=>match tupI d,tupIs ds with
  |some a,some as=>some (a::as)|_,_=>none
def inT(neg:Bool)(d:D):D->Option R
 | .l ds=>match tupI d,tupIs ds with
  |some a,some as=>some (.v (.bl (if neg then !as.contains a else as.contains a)))|_,_=>none
 |_=>none
def inG(neg:Bool)(d e:D):Option R:=match inF neg d e with
 |some r=>some r|none=>inT neg d e
end DV
namespace DV
open PySem L2 PyProof.Rows PySem.Calls
end DV
namespace DV
open PySem L2
end DV
namespace DV
open PySem PyProof.Rows
end DV
namespace DV
open PySem L2
abbrev TA:=Addr->St->Hp->(St->Hp->Prop)->Prop
def PA(Y:Cx)(act:Value->Env->Sem PySem.Fin->Sem PySem.Fin)(ta:TA):Prop:=∀(D:Addr) (pins:List (Addr×Obj)) (s:Shared) (O:St) (H:Hp) (Nx:St->Hp->Prop) (k:Sem PySem.Fin) (Q:PySem.Fin->Shared->Prop) (E:Value->Shared->Prop),Inv Y pins O H s->ta D O H Nx ->
 (∀O' H' s',Inv Y pins O' H' s'->Nx O' H'->wpAny (model Y.prog Y.w) Y.A k Q E s')->wpAny (model Y.prog Y.w) Y.A (act (.ref D) Y.env k) Q E s
end DV
namespace DV
open PySem PyProof.Rows
end DV
namespace DV
open PySem L2
def DicAt(K:qH)(H:Hp)(a:Addr)(es:List DE):Prop:=H a=some (QU a es)/\∀e∈es,SqT K H e.2.1 (e.1.map oV)
section
variable{X:Cx}{pins:List (Addr×Obj)}{O:L2.St}{H:Hp}{s:Shared}{a:Addr}{es:List DE}
def rDIx(K:qH):R2:=λx y H Q=>∃a es kb ks v,x=.ref a/\DicAt K H a es/\y=.ref kb/\SqT K H kb (ks.map oV)/\atE es ks=some v/\Q v H
def ix_dic(hu:X.A.units+1<cLine):IxR X (rDIx X.K):=by
 intro value slice pins s O H x y v u Q I rx ry h hs;obtain⟨a,es,kb,ks,w,rfl,⟨e,hk⟩,rfl,hb,hat,q⟩:=h;cases rx;cases ry;obtain⟨xs,r,hm,hd,_⟩:=zFy I e hk;obtain⟨p,hp,rw'⟩:=wL.at r hat
 exact PyProof.Rows.tail_any hm.typeIs slot_dict_getitem.lookup (wpAny_getItem_heap (tupleKind_room_in1 hu) (zAU I hb) hm hp ⟨w,H,I.tok _,rw',q⟩) hs
def zC3(hm:h.DictOfH (tupleKind (JB X.prog X.w)) a xs)(hd:(a==sysModules)=false)(hl:es.length<=sizeLine)(r:wL es xs):dicP a es h:=by
 obtain⟨o,esA,ep,h1,h2,h3,h4,_,h5⟩:=hm;exact⟨hd,hl,by rw[<- wL.keys r];exact h5,o,esA,ep,xs,h1,h2,h3,r,h4⟩
def rSetD(K:qH):V->V->V->Hp->(Hp->Prop)->Prop:=λo i v H Q=>∃a es kb ks,o=.ref a/\DicAt K H a es/\i=.ref kb/\SqT K H kb (ks.map oV)/\es.length<1000000/\Q (upd H a (QU a (W7 es ks kb v)))
def set_dic(hu:X.A.units+1<cLine):PSet X (rSetD X.K):=by
 intro pins s O H o i v ov iv u Q I ro ri rv h;obtain⟨a,es,kb,ks,rfl,⟨e,hk⟩,rfl,hb,hl,q⟩:=h;cases ro;cases ri;obtain⟨xs,r,hm,hd,hz,hn⟩:=zFy I e hk;have hsl:(1000000:Nat)<=sizeLine:=by decide +kernel
 have hlen:xs.length=es.length:=by have:=congrArg length (wL.keys r);simpa using this
 refine wpAny_setItem_heap (tupleKind_room_in1 hu) (zAU I hb) hm (λh' hm' sb=>?_) (by omega);have dp:dicP a (W7 es ks kb v) h':=zC3 hm' hd (by have:=(zCM (k:=ks) (ka:=kb) (v:=v) hn).2;omega) (r.put rv);obtain⟨_,_,_,o',_,_,_,e',_⟩:=id dp;refine⟨_,I.write (x:=a) (e:=a) (by rw[e];trivial) (.inl rfl) (λb w hb' q'=>(sb.2 b hb').trans q') ⟨o',e'⟩ (zFx dp),q⟩
end
def Gs:List D->Option (List KN)
 | []=>some []| .int i::ds=>(Gs ds).map (some i::·)| .non::ds=>(Gs ds).map (none::·)|_::_=>none
def zC4:D->Option (List KN)
 | .t ds=>Gs ds|_=>none
def vt:List (List KN)->List D->List KN->Option D
 |k::ks,v::vs,q=>if k=q then some v else vt ks vs q|_,_,_=>none
def setV:List (List KN)->List D->List KN->D->List D
 |k::ks,v::vs,q,d=>(if k=q then d else v)::setV ks vs q d|_,vs,_,_=>vs
def zC5(ks:List (List KN))(vs:List D)(q:List KN)(d:D):List (List KN)×List D:=match vt ks vs q with
 |some _=>(ks,setV ks vs q d)|none=>(ks++[q],vs++[d])
section
variable{K:qH}{mg:Str->Option Value}{X:Cx}{O:L2.St}{H:Hp}{M:Addr->Prop}
theorem Qm:∀{ds:List D} {ks:List KN} {xs:List V},Gs ds=some ks->Reps K mg H ds xs->xs=ks.map oV
 | [],_,_,e,r=>by cases e;simp only[Reps]at r;subst r;rfl
 |d::ds,ks,xs,e,r=>by
  simp only[Reps]at r;obtain⟨v,t,rfl,r1,r2⟩:=r;cases d with
  |int i =>
   simp only[Gs]at e;cases h:Gs ds with
   |none=>rw[h]at e;cases e|some q=>rw[h]at e;cases e;rw[zR r1,Qm h r2];rfl
  |non =>
   simp only[Gs]at e;cases h:Gs ds with
   |none=>rw[h]at e;cases e|some q=>rw[h]at e;cases e;rw[Qa r1,Qm h r2];rfl
  |_=>cases e
def Qn(e:zC4 d=some ks)(r:Rep K mg H d v):∃kb,v=.ref kb/\SqT K H kb (ks.map oV):=by
 cases d with
 |t ds =>
  obtain⟨a,xs,rfl,h1,h2⟩:=yY r;rw[Qm e h2]at h1;exact⟨a,rfl,h1⟩
 |_=>cases e
theorem Wd:∀{es:List DE} {vs:List D} {q:List KN} {d:D},Reps K mg H vs (es.map (·.2.2))->vt (es.map (·.1)) vs q=some d->∃v,atE es q=some v/\Rep K mg H d v
 | [],_,_,_,_,e=>by simp[vt]at e
 |x::es,vs,q,d,r,e=>by
  cases vs with
  |nil=>simp[vt]at e
  |cons y vs =>
   simp only[map_cons,Reps]at r;obtain⟨v,t,h0,r1,r2⟩:=r;cases h0;simp only[map_cons,vt]at e;unfold atE;rw[find?_cons];by_cases h:x.1=q
   ·rw[if_pos h]at e;cases e
    rw[decide_eq_true h];exact⟨_,rfl,r1⟩
   ·rw[if_neg h]at e
    rw[decide_eq_false h];exact Wd r2 e
theorem Gu:∀{es:List DE} {vs:List D} {q:List KN},Reps K mg H vs (es.map (·.2.2))->vt (es.map (·.1)) vs q=none->atE es q=none
 | [],_,_,_,_=>rfl
 |x::es,vs,q,r,e=>by
  cases vs with
  |nil=>simp only[map_cons,Reps]at r;cases r
  |cons y vs =>
   simp only[map_cons,Reps]at r;obtain⟨v,t,h0,r1,r2⟩:=r;cases h0;simp only[map_cons,vt]at e;unfold atE;rw[find?_cons];by_cases h:x.1=q
   ·rw[if_pos h]at e;cases e
   ·rw[if_neg h]at e
    rw[decide_eq_false h];exact Gu r2 e
def Qo(r:Reps K mg H vs (es.map (·.2.2))):(atE es q).isSome=(vt (es.map (·.1)) vs q).isSome:=by
 cases h:vt (es.map (·.1)) vs q with
 |none=>rw[Gu r h];rfl|some d=>obtain⟨v,e,_⟩:=Wd r h;rw[e];rfl
theorem zAh:∀{es:List DE} {vs:List D} {q:List KN} {d:D} {v:V},Reps K mg H vs (es.map (·.2.2))->Rep K mg H d v->Reps K mg H (setV (es.map (·.1)) vs q d) ((es.map λe=>if e.1=q then(e.1,e.2.1,v)else e).map (·.2.2))
 | [],vs,_,_,_,r,_=>by
  cases vs with
  |nil=>exact r|cons _ _=>simp only[map_nil,Reps]at r;obtain⟨_,_,z,_⟩:=r;cases z
 |x::es,vs,q,d,v,r,rd=>by
  cases vs with
  |nil=>simp only[map_cons,Reps]at r;cases r
  |cons y vs =>
   simp only[map_cons,Reps]at r;obtain⟨w,t,h0,r1,r2⟩:=r;cases h0;simp only[map_cons,setV];refine Reps.cons ?_ (zAh r2 rd);by_cases h:x.1=q
   ·rw[if_pos h,if_pos h];exact rd
   ·rw[if_neg h,if_neg h];exact r1
def zC6(r:Reps K mg H vs (es.map (·.2.2)))(rd:Rep K mg H d v) :
  (W7 es q kb v).map (·.1)=(zC5 (es.map (·.1)) vs q d).1/\Reps K mg H (zC5 (es.map (·.1)) vs q d).2 ((W7 es q kb v).map (·.2.2)):=by
 unfold W7 zC5;rw[Qo r];cases h:vt (es.map (·.1)) vs q with
 |none =>
  simp only[Option.isSome_none,Bool.false_eq_true,if_false,map_append,map_cons,map_nil];exact⟨trivial,r.append (Reps.cons rd Reps.nil)⟩
 |some y =>
  simp only[Option.isSome_some,if_true];refine⟨?_,zAh r rd⟩;rw[map_map];refine map_congr_left λe _=>?_
  simp only[Function.comp];split<;>rfl
def zAi(h:∀e∈es,SqT K H e.2.1 (e.1.map oV))(hb:SqT K H kb (q.map oV)):∀e∈W7 es q kb v,SqT K H e.2.1 (e.1.map oV):=λe he=>by
 unfold W7 at he;split at he
 ·obtain⟨x,hx,rfl⟩:=mem_map.mp he
  have:=h x hx;split
  ·exact this
  ·exact this
 ·rcases mem_append.mp he with he|he
  ·exact h e he
  ·rw[mem_singleton.mp he];exact hb
def ctD:Slot->Option (List (List KN)×List D)
 | .dct ks vs=>some (ks,vs)| .v (.dct ks vs)=>some (ks,vs)|_=>none
def zGI{E:zV}{i:Nat}{s:Slot}{ks:List (List KN)}{vs:List D}(hl:E.length=O.length)(f:FR K mg M H (O.zip E))(h:E[i]?=some s)(hs:ctD s=some (ks,vs)):∃a es,O[i]?=some (some (.ref a))/\H a=some (QU a es)/\ks=es.map (·.1)/\(∀e∈es,SqT K (Hm (Mo M (O.zip E)) H) e.2.1 (e.1.map oV))/\Reps K mg (Hm (Mo M (O.zip E)) H) vs (es.map (·.2.2)):=by
 obtain⟨o,h1,h2⟩:=wQ hl h;cases s with
 |dct ks' vs' =>
  cases hs;obtain⟨a,ho,rfl,e2,_,es,rfl,r1,r2,r3⟩:=f.own o _ _ h2 rfl;exact⟨a,es,h1,e2,r1,r2,r3⟩
 |v d =>
  cases d with
  |dct ks' vs' =>
   cases hs;obtain⟨v,rfl,r⟩:=f.val o _ h2;simp only[Rep]at r;obtain⟨a,es,rfl,e2,r1,r2,r3⟩:=r;exact⟨a,es,h1,zH _ _ e2,r1,r2,r3⟩
  |_=>cases hs
 |_=>cases hs
def eDgO(i:Nat)(m:ME):ME:=λE=>if jB E[i]?=true then .z else match m E with
 | .z=>.z| .exc x E1=>.exc x E1
 | .ok (r,E1)=>match E1[i]? with
  |some s=>match ctD s with
   |some (ks,vs)=>match zC4 r.d with
    |some q=>match vt ks vs q with
     |some d=>.ok (.v d,E1)|none=>.z
    |none=>.z
   |none=>.z
  |none=>.z
def dgO_run{i:Nat}{m:ME}{Q:VK}(h:tM X (eDgO i m) O H Q):tOp (rDIx X.K) (vd i) (tM X m) O H Q:=by
 obtain⟨M,E,hl,fr,k⟩:=h;unfold eDgO at k;cases em:jB E[i]? with
 |true=>rw[em]at k;exact k.elim
 |false =>
  rw[em]at k;simp only[Bool.false_eq_true,if_false]at k;obtain⟨s,hs1,hs2⟩:=Y0 em;obtain⟨v,hv⟩:=vm hl fr hs1 hs2;refine⟨v,hv,?_⟩;refine zk (T0:=[]) hl fr ?_;cases ea:m E with
  |z=>rw[ea]at k;exact k|exc x E1=>rw[ea]at k;exact k
  |ok p =>
   obtain⟨r,E1⟩:=p;rw[ea]at k;intro y H1 g;dsimp only at k;cases e1:E1[i]? with
   |none=>rw[e1]at k;exact k.elim
   |some s1 =>
    rw[e1]at k;dsimp only at k;cases e2:ctD s1 with
    |none=>rw[e2]at k;exact k.elim
    |some pr =>
     obtain⟨ks,vs⟩:=pr;rw[e2]at k;dsimp only at k;cases e3:zC4 r.d with
     |none=>rw[e3]at k;exact k.elim
     |some q =>
      rw[e3]at k;dsimp only at k;cases e4:vt ks vs q with
      |none=>rw[e4]at k;exact k.elim
      |some d =>
       rw[e4]at k;obtain⟨a,es,h1,h2,rfl,h4,h5⟩:=zGI g.len g.frame e1 e2;have ev:v=.ref a:=by rw[hv]at h1;exact qJ (qJ h1)
       subst ev;obtain⟨kb,rfl,hb⟩:=Qn e3 g.rep;obtain⟨w,hw,rw'⟩:=Wd h5 e4;exact⟨a,es,kb,q,w,rfl,⟨h2,λx hx=>zS zH (h4 x hx)⟩,rfl,zS zH hb,hw,k w H1 (g.more (T:=[(some w,.v d)]) (g.frame.add rw') Step.refl.add)⟩
def ok_dgO(i:Nat)(hu:X.A.units+1<cLine)(hv:PE X (.Name x p) (vd i))(hs:WJ b)(hb:EOk X b m):EOk X (.Subscript (.Name x p) b pos) (eDgO i m) :=
 zu (pe_ix (ix_dic hu) hv hb hs) λO H Q h=>dgO_run h
def FR.mutD(h:FR K mg M H Z)(hi:Z[i]?=some (some (.ref p),.dct ks vs))(hk:∀e∈es,SqT K (Hm (Mo M Z) H) e.2.1 (e.1.map oV))(r:Reps K mg (Hm (Mo M Z) H) vs' (es.map (·.2.2))) :
  FR K mg M (upd H p (QU p es)) (Z.set i (some (.ref p),.dct (es.map (·.1)) vs'))/\Step M H Z (upd H p (QU p es)) (Z.set i (some (.ref p),.dct (es.map (·.1)) vs')):=by
 have eo:yI (Z.set i (some (.ref p),.dct (es.map (·.1)) vs'))=yI Z:=yr (show uJ (some (.ref p),Slot.dct (es.map (·.1)) vs')=uJ (some (.ref p),Slot.dct ks vs)from rfl) hi;have em:Mo M (Z.set i (some (.ref p),.dct (es.map (·.1)) vs'))=Mo M Z:=by unfold Mo;rw[eo]
 have hp:p∈yI Z:=jC (c:=.d ks vs) (mem_of_getElem? hi) rfl rfl;obtain⟨o0,hH,hM,_⟩:=h.ownAt hp;have ehm:Hm (Mo M Z) (upd H p (QU p es))=Hm (Mo M Z) H:=by
  funext b
  unfold Hm;by_cases hb:Mo M Z b
  ·simp[hb]
  ·have:b≠p:=λe=>hb (by subst e;exact .inr hp)
   simp[hb,zr this]
 have hlt:i<Z.length:=(qG.mp hi).1;have nd2:p∉yI (Z.eraseIdx i):=by
  have pz:Z.Perm ((some (.ref p),.dct ks vs)::Z.eraseIdx i):=by
   have:=zQ (some (V.ref p),Slot.dct ks vs) Z i hlt;rw[ju hi]at this;exact this
  have nd:=(pz.filterMap uJ).nodup_iff.mp h.nd;have e:filterMap uJ ((some (V.ref p),Slot.dct ks vs)::Z.eraseIdx i)=p::yI (Z.eraseIdx i):=rfl;rw[e]at nd;exact(nodup_cons.mp nd).1
 have pz2:(Z.set i (some (.ref p),.dct (es.map (·.1)) vs')).Perm ((some (.ref p),.dct (es.map (·.1)) vs')::Z.eraseIdx i):=zQ _ _ _ hlt;refine⟨⟨λo d q=>?_,λo s' c q e=>?_,by rw[eo];exact h.nd,λb q=>?_⟩,⟨by rw[em,ehm];exact Yv.refl _,λb o m e=>?_⟩⟩
 ·rw[em,ehm]
  rcases(List.mem_or_eq_of_mem_set q).symm with q|q
  ·cases q
  ·exact h.val o d q
 ·rw[em,ehm]
  rcases mem_cons.mp (pz2.mem_iff.mp q)with q'|q'
  ·cases q';cases e
   exact⟨p,_,rfl,yq,hM,es,rfl,rfl,hk,r⟩
  ·have q'':(o,s')∈Z:=(eraseIdx_sublist Z i).subset q'
   obtain⟨a,ho,e1,e2,e3,rr⟩:=h.own o s' c q'' e;have ne:a≠p:=λz=>by subst z;exact nd2 (jC q' e e1)
   exact⟨a,ho,e1,by rw[zr ne];exact e2,e3,rr⟩
 ·obtain⟨o,e,ko⟩:=h.mal b q
  by_cases z:b=p
  ·subst z;exact⟨_,yq,.inr ⟨_,rfl⟩⟩
  ·exact⟨o,by rw[zr z];exact e,ko⟩
 ·have ne:b≠p:=λz=>hM (by subst z;exact m)
  rw[zr ne];exact e
def sDput(i:Nat)(mk mv:ME):MS:=λE=>if jB E[i]?=true then .z else match mv E with
 | .z=>.z| .exc x E1=>.exc x E1
 | .ok (r,E1)=>match mk E1 with
  | .z=>.z| .exc x E2=>.exc x E2
  | .ok (r2,E2)=>match E2[i]? with
   |some (.dct ks vs)=>match zC4 r2.d with
    |some q=>if ks.length<1000000 then .ok (.nx,E2.set i (.dct (zC5 ks vs q r.d).1 (zC5 ks vs q r.d).2))else .z|none=>.z
   |_=>.z
def zFA{i:Nat}{mk mv:ME}{D:Ends}(h:tS X (sDput i mk mv) D O H):zFp (tM X mv) (gSub (vd i) (tM X mk) (rSetD X.K)) D O H:=by
 obtain⟨M,E,hl,fr,k⟩:=h;unfold sDput at k;cases em:jB E[i]? with
 |true=>rw[em]at k;exact k.elim
 |false =>
  rw[em]at k;obtain⟨s,hs1,hs2⟩:=Y0 em;obtain⟨v,hv⟩:=vm hl fr hs1 hs2;refine zk (T0:=[]) hl fr ?_;simp only[Bool.false_eq_true,if_false]at k;cases ea:mv E with
  |z=>rw[ea]at k;exact k|exc x E1=>rw[ea]at k;exact λH' g=>k O H' g
  |ok p =>
   obtain⟨r,E1⟩:=p;rw[ea]at k;intro y H1 g1;refine⟨v,hv,?_⟩;refine zk (T0:=[(some y,r.slot)]) g1.len g1.fr ?_;dsimp only at k;cases eb:mk E1 with
   |z=>rw[eb]at k;exact k|exc x E2=>rw[eb]at k;exact λH' g=>k O H' (g1.trans' g).dropAll
   |ok p =>
    obtain⟨r2,E2⟩:=p;rw[eb]at k;intro z H2 g2;have g:=g1.trans' g2;dsimp only at k;cases e1:E2[i]? with
    |none=>rw[e1]at k;exact k.elim
    |some s1 =>
     rw[e1]at k;cases s1 with
     |dct ks vs =>
      dsimp only at k;cases e3:zC4 r2.d with
      |none=>rw[e3]at k;exact k.elim
      |some q =>
       rw[e3]at k;dsimp only at k;by_cases hc:ks.length<1000000
       ·rw[if_pos hc]at k
        have rp:=Got.reps (vs:=[z,y]) (rs:=[r2,r]) rfl g;simp only[List.map,Reps]at rp;obtain⟨z',_,q1,rz,y',_,q2,ry,_⟩:=rp;cases q1;cases q2;obtain⟨a,es,h1,h2,rfl,h4,h5⟩:=zGI g.len g.frame e1 rfl;have ev:v=.ref a:=by rw[hv]at h1;exact qJ (qJ h1)
        subst ev;obtain⟨kb,rfl,hb⟩:=Qn e3 rz;obtain⟨o,h1',h2'⟩:=jj g.len e1;have eo:o=some (.ref a):=by rw[h1]at h1';exact(qJ h1').symm
        subst eo;obtain⟨pk1,pk2⟩:=zC6 (q:=q) (kb:=kb) h5 ry;obtain⟨f,st⟩:=FR.mutD g.frame h2' (zAi h4 hb) pk2;rw[pk1]at f st;have e:=zT (E:=E2) (.dct (zC5 (es.map (·.1)) vs q r.d).1 (zC5 (es.map (·.1)) vs q r.d).2) h1;rw[<- e]at f st;refine⟨a,es,kb,q,rfl,⟨h2,λx hx=>zS zH (h4 x hx)⟩,rfl,zS zH hb,by simpa using hc,k O _ ?_⟩;exact⟨by simp[g.len],f,(g.st.weak (zC (sublist_append_right _ _))).trans st,g.pk.trans (vi (ds0:=[]) e1 (λds' q=>by cases q) _)⟩
       ·rw[if_neg hc]at k;exact k.elim
     |_=>exact k.elim
def sk_dput(i:Nat)(hu:X.A.units+1<cLine)(hv:PE X (.Name x p) (vd i))(hb:EOk X b mk)(he:EOk X e mv)
  (ha:∀v,assign (.Subscript (.Name x p) b p1) X.env v=(do
   let ov <- holding [v] (eval (.Name x p) X.env)
   let iv <- holding [v,ov] (eval b X.env)
   standAt p1
   holding [v,ov,iv] (setItem ov iv v)
   release [v,ov,iv] []):=by intro _;rfl) (hs:swapsWithSole [.Subscript (.Name x p) b p1] e pos.line X.env=pure false:=by rfl):SOk X (.Assign [.Subscript (.Name x p) b p1] e pos) (sDput i mk mv) :=
 jV (zAO he (zAN hv hb (set_dic hu) ha) hs) λD O H=>zFA
end
section
variable{X:Cx}{K:qH}{mg:Str->Option Value}{M:Addr->Prop}{O:St}{E:zV}{H:Hp}
def got_frz{i:Nat}{r:R}(hl:E.length=O.length)(f:FR K mg M H (O.zip E))(e:E[i]?=some r.slot):Got K mg M O E H [] O (E.set i (.v r.d)) H []:=by
 obtain⟨o,h1,h2⟩:=jj hl e;have hlt:i<(O.zip E).length:=(qG.mp h2).1;have p:(O.zip E).Perm ((o,r.slot)::(O.zip E).eraseIdx i):=by
  have:=zQ (o,r.slot) (O.zip E) i hlt;rw[ju h2]at this;exact this
 have f2:FR K mg M H ((O.zip E).set i (o,.v r.d)):=((f.perm p).frz).perm (zQ _ _ _ hlt).symm;rw[<- zT (.v r.d) h1]at f2;refine⟨by simp[hl],f2,Step.weak Step.refl λb hb=>zD p.symm b ?_,vi (ds0:=[]) e (λds' q=>by cases r<;>cases q) _⟩;rw[nil_append,nil_append,zT (.v r.d) h1]at hb;have hb':=zD (zQ _ _ _ hlt) b hb;rw[zW]at hb';exact zC (sublist_cons_self _ _) b hb'
def slR:DV.Slot->Option R
 | .dct ks vs=>some (.dct ks vs)| .own ds=>some (.own ds)|_=>none
def slR_eq(h:slR s=some r):s=r.slot:=by
 cases s<;>first|(cases h;rfl)|(cases h)
def eFrd(i:Nat)(m:ME):ME:=λE=>match E[i]?.bind slR with
 |some r=>m (E.set i (.v r.d))|none=>m E
def ok_frd(i:Nat)(h:EOk X e m):EOk X e (eFrd i m):=zu h λO H Q ⟨M,E,hl,f,k⟩=>by
 unfold eFrd at k;cases hd:E[i]?.bind slR with
 |none=>rw[hd]at k;exact⟨M,E,hl,f,k⟩
 |some r =>
  rw[hd]at k;have hs:E[i]?=some r.slot:=by
   cases e0:E[i]? with
   |none=>rw[e0]at hd;cases hd|some s=>rw[e0]at hd;rw[slR_eq hd]
  have g:=got_frz hl f hs;refine⟨M,_,g.len,g.fr,?_⟩;dsimp only at k;cases em:m (E.set i (.v r.d))with
  |z=>rw[em]at k;exact k|exc x E1=>rw[em]at k;exact λH' g'=>k H' (g.trans g')|ok p=>rw[em]at k;exact λv H' g'=>k v H' (g.trans g')
end
end DV
namespace DV
open PySem
def zFB:entryFor table "zip.__getattribute__"=some Builtin.«object.__getattribute__» :=
 entryFor_alias (id':="object.__getattribute__") (by kernel_rfl) (by first|rfl|decide +kernel) (by decide +kernel) (by kernel_rfl)
def zk_keys:typeLookup (.type "zip") "keys"=pure none:=by rw[typeLookup_type,builtinLookup_eq_fast];kernel_rfl
def zk_ga:typeLookup (.type "zip") "__getattr__"=pure none:=by rw[typeLookup_type,builtinLookup_eq_fast];kernel_rfl
def zFC(z:Addr)(fl:Array Value)(u:Tok):Meets (Builtin.«object.__getattribute__» ⟨[.ref z,.str "keys" u],[]⟩) (λA R s=>s.heap.get? z=some {cls:=.type "zip",dict:=none,data:=.fields fl,slots:=#[]}/\raisesAttr (.ref z) "keys" A R s) :=
 Meets.of_wp λprog w A R s hs=>by
  obtain⟨h,g,d,t,os⟩:=s;obtain⟨hz,hA,hE⟩:=hs;have hz:h.get? z=some {cls:=.type "zip",dict:=none,data:=.fields fl,slots:=#[]}:=hz;have hT:(⟨h,g,d,t,os⟩:Shared).TypeIs (.ref z) "zip":=⟨_,hz,rfl⟩;have f1:=zk_keys;unfold Builtin.«object.__getattribute__»
  repeat (any_goals (first|assumption|wp_step))
  exact wpAny_raiseAttrError hA hE (attrMsg_fits (by decide +kernel) (by decide +kernel))
section
variable{prog:Program}{w:World}{A:Around}{E:Value->Shared->Prop}{s:Shared}
def zk_none{Q:Option Value->Shared->Prop}(hz:s.heap.get? z=some {cls:=.type "zip",dict:=none,data:=.fields fl,slots:=#[]})(hA:A.handled=none)
  (hQ:∀h' tk,(∀b ob,s.heap.get? b=some ob->h'.get? b=some ob)->Q none {s with heap:=h',toks:=tk}):wpAny (model prog w) A (getAttr? (.ref z) "keys") Q E s:=by
 obtain⟨h,g,d,t,os⟩:=s;have hz:h.get? z=some {cls:=.type "zip",dict:=none,data:=.fields fl,slots:=#[]}:=hz;have hT:∀t,(⟨h,g,d,t,os⟩:Shared).TypeIs (.ref z) "zip":=λ_=>⟨_,hz,rfl⟩
 have f1:=sub_AttributeError;have f3:=PySem.F.slot_zip_getattribute.lookup;have f4:=PySem.F.slot_zip_getattribute.bind (.ref z);have f5:=zk_ga;unfold getAttr? getAttrBy? getAttrBy
 repeat (any_goals (first|assumption|((with_reducible show wpAny _ _ (call (Value.builtin "zip.__getattribute__") _ _) _ _ _);refine call_meets PySem.F.slot_zip_getattribute (hT _) zFB (PySem.F.args_zip_getattribute_2 _ _) (zFC z fl _) ⟨hz,hA,λh' tk' e hx=>?_⟩)|wp_step))
 obtain⟨t',u',he⟩:=hx.there;show wpAny _ _ (getattributeRaised _ _ _ _ _ _ _) _ _ _;unfold getattributeRaised
 repeat (any_goals (first|assumption|wp_step))
 exact hQ _ _ hx.keeps
def Z8:plainId "dict.update.loop"=true:=by decide +kernel
def zAj:entryFor table "dict.update.loop"=some Builtin.«dict.update.loop»:=entryFor_of_fast (by kernel_rfl)
def zAk(k:IsTupleKey (JB prog w) h ks a)(e:∀o,h.get? a=some o->h'.get? a=some o):IsTupleKey (JB prog w) h' ks a:=by
 obtain⟨o,its,n,ho,r⟩:=k;exact⟨o,its,n,e o ho,r⟩
def key_lt(k:IsTupleKey (JB prog w) h ks a):a<h.objs.size:=by
 obtain⟨o,its,n,ho,r⟩:=k;exact lt_size ho
def ZS(z TI TO i1 i2 l1 l2:Addr)(t1 t2:Bool)(us vs:Array Value)(k:Nat)(h:Heap):Prop :=
 (∃f0 b,Wt f0/\IsZ h z TI TO f0 b)/\IsPair h TI (.ref i1) (.ref i2)/\(∃u v,IsPair h TO u v)/\(ItA t1 h i1 l1 k/\SqO h t1 l1 us)/\(ItA t2 h i2 l2 k/\SqO h t2 l2 vs)
theorem SqO.at(x:SqO h t l us)(e:∀o,h.get? l=some o->h'.get? l=some o):SqO h' t l us:=by
 cases t with
 |true=>exact Heap.IsTuple.at x e|false=>exact Heap.IsList.at x e
def We{h h':Heap}{d:Addr}{acc:List DX}(D:h.DictOfH (tupleKind (JB prog w)) d acc)(e:∀o,h.get? d=some o->h'.get? d=some o)(e2:∀x∈acc,∀o,h.get? x.2.1=some o->h'.get? x.2.1=some o):h'.DictOfH (tupleKind (JB prog w)) d acc:=by
 obtain⟨o,es,ep,h1,h2,h3,h4,h5,h6⟩:=D;exact⟨o,es,ep,e o h1,h2,h3,h4,λx hx=>zAk (h5 x hx) (e2 x hx),h6⟩
def zBZ{acc:List DX}{k:List KN}{a:Addr}{v:Value}{n:Nat}(h:∀x∈acc,x.2.1<n)(ha:a<n):∀x∈storedH acc k a v,x.2.1<n:=λx hx=>by
 unfold storedH at hx;split at hx
 ·obtain⟨y,hy,rfl⟩:=mem_map.mp hx
  have:=h y hy;unfold putAt;split<;>exact this
 ·rcases mem_append.mp hx with hx|hx
  ·exact h x hx
  ·rw[mem_singleton.mp hx];exact ha
def zBa{acc:List DX}{k:List KN}{a:Addr}{v:Value}:(storedH acc k a v).length<=acc.length+1:=by
 unfold storedH;split<;>simp
def zFD{R:Result->Shared->Prop}{s0:Shared}{n0:Nat}{d z TI TO i1 i2 l1 l2:Addr}{t1 t2:Bool}{ps:List DX}{res:Value}(hA:A.handled=none)(hu:A.units+1<cLine)(D:ZipApart z TI TO i1 i2 l1 l2)
  (hd:∀c∈[z,TI,TO,i1,i2],d≠c) (hn:∀c∈[d,z,TO,i1,i2],n0<=c) (hnl:l1<n0/\l2<n0) (hk:∀p∈ps,IsTupleKey (JB prog w) s0.heap p.1 p.2.1) (hkn:s0.heap.objs.size=n0) (hl:ps.length<=1000) :
  ∀(m k:Nat) (h:Heap) (tk:Nat) (i:Int) (ti:Tok) (acc:List DX),ps.length-k=m->k<=ps.length->ZS z TI TO i1 i2 l1 l2 t1 t2 (ps.map λp=>Value.ref p.2.1).toArray (ps.map (·.2.2)).toArray k h->h.DictOfH (tupleKind (JB prog w)) d acc->acc.length<=k->(∀x∈acc,x.2.1<n0) ->
   (∀c o,s0.heap.get? c=some o->h.get? c=some o)->(∀h' tk',h'.DictOfH (tupleKind (JB prog w)) d ((ps.drop k).foldl (λa p=>storedH a p.1 p.2.1 p.2.2) acc)->(∀c o,s0.heap.get? c=some o->h'.get? c=some o)->R (.ok (.ret res)) {s0 with heap:=h',toks:=tk'}) ->
   codeAny (model prog w) A (.builtin "dict.update.loop" ⟨[.ref d,.ref z,.int i ti,res],[]⟩) R {s0 with heap:=h,toks:=tk}:=by
 have hh:A.in1.in1.handled=none:=hA;have no:∀c,c<n0->c≠d/\c≠z/\c≠TO/\c≠i1/\c≠i2:=λc hc=>⟨ne_of_lt (lt_of_lt_of_le hc (hn d (by simp))),ne_of_lt (lt_of_lt_of_le hc (hn z (by simp))),ne_of_lt (lt_of_lt_of_le hc (hn TO (by simp))),ne_of_lt (lt_of_lt_of_le hc (hn i1 (by simp))),ne_of_lt (lt_of_lt_of_le hc (hn i2 (by simp)))⟩
 have lt0:∀{c o},s0.heap.get? c=some o->c<n0:=λe=>hkn▸lt_size e
 intro m
 induction m with
 |zero =>
  intro k h tk i ti acc hm hk' st hD ha hac old hR;have ek:k=ps.length:=by omega
  subst ek;obtain⟨⟨f0,bb,hf0,hz⟩,hI,⟨u0,v0,hO⟩,h1,h2⟩:=st;refine codeAny_builtin zAj ?_;rw[Around.under_plainId Z8 _];show wpAny _ A.in1 (pyNext (.ref z) >>= _) _ _ _;refine qB (YT (zD5 hh t1 D.l1i1 _) (zD5 hh t2 D.l2i2 _) D hz hf0 hI hO h1 h2 (λx y hx=>?_) λ_ h' kk=>?_)
  ·simp at hx
  ·show wpAny _ A.in1 (Builtin.Dict.addKeywords d [] >>= λ_=>ret res) _ _ _
   refine qB (qC (qC (hR h' tk ?_ λc o e=>?_)))
   ·rw[drop_length]
    exact We hD (λo e=>kk d o (hd z (by simp)) (hd TO (by simp)) (hd i1 (by simp)) (hd i2 (by simp)) e) λx hx o e=>by
     obtain⟨_,q1,q2,q3,q4⟩:=no _ (hac x hx);exact kk _ o q1 q2 q3 q4 e
   ·obtain⟨_,q1,q2,q3,q4⟩:=no _ (lt0 e)
    exact kk _ o q1 q2 q3 q4 (old c o e)
 |succ m ih =>
  intro k h tk i ti acc hm hk' st hD ha hac old hR;have hkl:k<ps.length:=by omega
  obtain⟨p,hp⟩:∃p,ps[k]?=some p:=⟨_,getElem?_eq_getElem hkl⟩;have mp:=mem_of_getElem? hp;obtain⟨⟨f0,bb,hf0,hz⟩,hI,⟨u0,v0,hO⟩,h1,h2⟩:=st;refine codeAny_builtin zAj ?_;rw[Around.under_plainId Z8 _];show wpAny _ A.in1 (pyNext (.ref z) >>= _) _ _ _;refine qB (YT (zD5 hh t1 D.l1i1 _) (zD5 hh t2 D.l2i2 _) D hz hf0 hI hO h1 h2 (λx y hx hy h' f1 b1 w1 z1 o1 s1 s2 pq kk=>?_) λhe=>?_)
  ·have ex:x=.ref p.2.1:=by simp[hp]at hx;exact hx.symm
   have ey:y=p.2.2:=by simp[hp]at hy;exact hy.symm
   subst ex ey;refine qB (wpAny_holding (qB (wpAny_tryCatch ?_)));unfold Builtin.Dict.pairItems;refine qB (wpAny_typeOf (T:="tuple") ⟨_,pq,rfl⟩ ?_);rw[if_pos (by decide)];refine qB (wpAny_seqItems pq rfl (qC ?_));have kpD:h'.DictOfH (tupleKind (JB prog w)) d acc:=We hD (λo e=>kk d o (hd z (by simp)) (hd TO (by simp)) (hd i1 (by simp)) (hd i2 (by simp)) e) λx hx o e=>by
     obtain⟨_,q1,q2,q3,q4⟩:=no _ (hac x hx);exact kk _ o q1 q2 q3 q4 e
   have old':∀c o,s0.heap.get? c=some o->h'.get? c=some o:=λc o e=>by
    obtain⟨_,q1,q2,q3,q4⟩:=no _ (lt0 e);exact kk _ o q1 q2 q3 q4 (old c o e)
   have key:IsTupleKey (JB prog w) h' p.1 p.2.1:=zAk (hk p mp) (old' _);have hsl:(1000000:Nat)<=sizeLine:=by decide +kernel
   refine wpAny_holding (wpAny_dictSet_heap (tupleKind_room_in1 hu) key kpD (λh'' hm'' sb=>?_) (by omega));have stay:∀c o,c≠d->h'.get? c=some o->h''.get? c=some o:=λc o hc e=>(sb.2 c hc).trans e
   obtain⟨u1,v1,o1⟩:=o1;refine qC ⟨plainId_quiet Z8 _,ih (k+1) h'' _ _ _ _ (by omega) (by omega) ⟨⟨f1,b1,w1,stay _ _ (hd z (by simp)).symm z1⟩,stay _ _ (hd TI (by simp)).symm (kk TI _ D.TIz D.TITO D.TIi1 D.TIi2 hI),⟨u1,v1,stay _ _ (hd TO (by simp)).symm o1⟩,⟨Zd s1.1 λo e=>stay _ _ (hd i1 (by simp)).symm e,s1.2.at λo e=>stay _ _ (no l1 hnl.1).1 e⟩,⟨Zd s2.1 λo e=>stay _ _ (hd i2 (by simp)).symm e,s2.2.at λo e=>stay _ _ (no l2 hnl.2).1 e⟩⟩ hm'' (le_trans zBa (by omega)) (zBZ hac (hkn▸key_lt (hk p mp))) (λc o e=>stay _ _ (no c (lt0 e)).1 (old' c o e)) λh3 tk3 hd3 old3=>hR h3 tk3 ?_ old3⟩;have:ps.drop k=p::ps.drop (k+1):=by
    rw[<- List.getElem_cons_drop hkl];congr 1;exact(qG.mp hp).2
   rw[this];exact hd3
  ·exfalso
   rcases he with he|he<;>simp[hp]at he
def zFE{l1 l2:Addr}{t1 t2:Bool}{ps:List DX}{hz:Heap}{Q:Value->Shared->Prop}(hA:A.handled=none)(hu:A.in1.units+1<cLine)(s1:SqO s.heap t1 l1 (ps.map λp=>Value.ref p.2.1).toArray)(s2:SqO s.heap t2 l2 (ps.map (·.2.2)).toArray)(z:Zp s.heap hz (itC t1) (itC t2) l1 l2)(hk:∀p∈ps,IsTupleKey (JB prog w) s.heap p.1 p.2.1)(hl:ps.length<=1000)
  (hQ:∀h' tk d,s.heap.objs.size<=d->h'.DictOfH (tupleKind (JB prog w)) d (ps.foldl (λa p=>storedH a p.1 p.2.1 p.2.2) [])->(∀c o,s.heap.get? c=some o->h'.get? c=some o)->Q (.ref d) {s with heap:=h',toks:=tk}) :
  wpAny (model prog w) A (call (.type "dict") [.ref (s.heap.objs.size+4)]) Q E {s with heap:=hz}:=by
 have lt1:∀{c o},hz.get? c=some o->c<hz.objs.size:=λe=>lt_size e
 have hl1:l1<s.heap.objs.size:=by
  cases t1 with
  |true=>obtain⟨o,e,_⟩:=s1;exact lt_size e|false=>obtain⟨o,e,_⟩:=s1;exact lt_size e
 have hl2:l2<s.heap.objs.size:=by
  cases t2 with
  |true=>obtain⟨o,e,_⟩:=s2;exact lt_size e|false=>obtain⟨o,e,_⟩:=s2;exact lt_size e
 have D:ZipApart (s.heap.objs.size+4) (s.heap.objs.size+2) (s.heap.objs.size+3) s.heap.objs.size (s.heap.objs.size+1) l1 l2 :=
  have F:=five s.heap.objs.size;have n1:∀j:Nat,l1≠s.heap.objs.size+j:=λj=>ne_of_lt (lt_of_lt_of_le hl1 (le_add_right _ _))
  have n2:∀j:Nat,l2≠s.heap.objs.size+j:=λj=>ne_of_lt (lt_of_lt_of_le hl2 (le_add_right _ _))
  ⟨F.a1,F.a2,F.a3,F.a4,F.a5,F.a6,F.a7,F.a8,F.a9,F.a10,n1 4,n1 3,n1 0,n1 1,n2 4,n2 3,n2 0,n2 1⟩
 refine callType_codes (Q₁:=λobj s₁=>obj=.ref hz.objs.size/\s₁={s with heap:=hz.push {cls:=.type "dict",data:=.dict #[]}}) PySem.F.kt_called_dict (PySem.F.kt_typeCall_dict_1 _) PySem.F.entry_dict_init (kt_code_dict_new _ ⟨rfl,rfl⟩) ?_
 rintro obj s₁ ⟨rfl,rfl⟩
 have hnew:(hz.push {cls:=.type "dict",data:=.dict #[]}).DictOfH (tupleKind (JB prog w)) hz.objs.size []:=Heap.DictOfH.new hz;refine⟨hnew.typeIs,PySem.F.args_dict_init_2 _ _,?_⟩;unfold Builtin.«dict.__init__»;refine qB ?_;unfold Builtin.Dict.selfAndRest;refine qB (wpAny_notOrdered_dict hnew.typeIs ?_);show wpAny _ _ (pure (hz.objs.size,[Value.ref (s.heap.objs.size+4)])) _ _ _;refine qC ?_;show wpAny _ _ (Builtin.Dict.updateFrom "dict.__init__" hz.objs.size (.ref (s.heap.objs.size+4)) [] .none) _ _ _;unfold Builtin.Dict.updateFrom;have up:∀c o,hz.get? c=some o->(hz.push {cls:=.type "dict",data:=.dict #[]}).get? c=some o:=λc o e=>qA _ e
 refine qB (wpAny_typeOf (T:="zip") ⟨_,up _ _ z.z,rfl⟩ ?_);rw[if_pos (by decide)];refine qB (zk_none (A:=A.in1.in1) (up _ _ z.z) hA λh' tk kp=>?_);rw[if_pos (by rfl)];refine qB (wpAny_rule (qB (zCz (s:={s with heap:=h',toks:=tk}) (kp _ _ (up _ _ z.z)) ?_)))
 have q2:∀c o,hz.get? c=some o->h'.get? c=some o:=λc o e=>kp _ _ (up _ _ e)
 have q1:∀c o,s.heap.get? c=some o->h'.get? c=some o:=λc o e=>q2 _ _ (z.kp _ _ e)
 have ge:∀j:Nat,s.heap.objs.size<=s.heap.objs.size+j:=λj=>le_add_right _ _
 have gd:s.heap.objs.size<=hz.objs.size:=le_of_lt (lt1 z.i1);refine qC ⟨plainId_quiet Z8 _,zFD (A:=A.in1) (s0:=s) (n0:=s.heap.objs.size) (ps:=ps) hA hu D (λc hc=>?_) (λc hc=>?_) ⟨hl1,hl2⟩ hk rfl hl ps.length 0 h' tk _ _ [] (by simp) (zero_le _) ⟨⟨.none,false,.inl rfl,q2 _ _ z.z⟩,q2 _ _ z.a,⟨_,_,q2 _ _ z.b⟩,⟨uX (q2 _ _ z.i1),s1.at λo e=>q1 _ _ e⟩,⟨uX (q2 _ _ z.i2),s2.at λo e=>q1 _ _ e⟩⟩ (We hnew (λo e=>kp _ _ e) λx hx=>by cases hx) (le_refl _) (λx hx=>by cases hx) q1 λh3 tk3 hd3 old3=>?_⟩
 ·simp only[mem_cons,mem_nil_iff,or_false]at hc
  rcases hc with rfl|rfl|rfl|rfl|rfl
  ·exact ne_of_gt (lt1 z.z)
  ·exact ne_of_gt (lt1 z.a)
  ·exact ne_of_gt (lt1 z.b)
  ·exact ne_of_gt (lt1 z.i1)
  ·exact ne_of_gt (lt1 z.i2)
 ·simp only[mem_cons,mem_nil_iff,or_false]at hc
  rcases hc with rfl|rfl|rfl|rfl|rfl
  ·exact gd
  ·exact ge 4
  ·exact ge 3
  ·exact ge 0
  ·exact ge 1
 ·exact⟨rfl,hQ h3 tk3 _ gd (by simpa using hd3) old3⟩
end
open L2 PySem.Spec PyProof.Rows
section
variable{X:Cx}{K:qH}{mg:Str->Option Value}{O:L2.St}{H:Hp}
def fE(es:List DE):List DE:=es.foldl (λa e=>W7 a e.1 e.2.1 e.2.2) []
def rDzip(K:qH)(t1 t2:Bool):List V->Hp->VK->Prop:=λvs H Q=>∃a b es,vs=[.ref a,.ref b]/\SqH K H t1 a (es.map λe:DE=>.ref e.2.1)/\SqH K H t2 b (es.map (·.2.2))/\(∀e∈es,SqT K H e.2.1 (e.1.map oV))/\es.length<=1000/\∀p,H p=none->Q (.ref p) (upd H p (QU p (fE es)))
def mkP:List DE->List Value->List DX
 |e::es,u::us=>(e.1,e.2.1,u)::mkP es us|_,_=>[]
theorem zGJ:∀{es:List DE} {us vs:List Value},yW (es.map λe:DE=>.ref e.2.1) us->yW (es.map (·.2.2)) vs->wL es (mkP es vs)/\us=(mkP es vs).map (λp=>Value.ref p.2.1)/\vs=(mkP es vs).map (·.2.2)/\∀p∈mkP es vs,∃e∈es,p.1=e.1/\p.2.1=e.2.1
 | [],_,_,.nil,.nil=>⟨.nil,rfl,rfl,λp hp=>by cases hp⟩
 |e::es,_,_,.cons r t,.cons r' t'=>by
  obtain⟨h1,h2,h3,h4⟩:=zGJ t t';cases (show _=Value.ref e.2.1 from r);refine⟨.cons ⟨rfl,rfl,r'⟩ h1,by simp only[mkP,map_cons];rw[<- h2],by simp only[mkP,map_cons];rw[<- h3],λp hp=>?_⟩;rcases mem_cons.mp hp with rfl|hp
  ·exact⟨e,qE,rfl,rfl⟩
  ·obtain⟨e',m,q⟩:=h4 p hp
   exact⟨e',mem_cons_of_mem _ m,q⟩
theorem Gv:∀{es:List DE} {ps:List DX} {ac:List DE} {ac':List DX},wL es ps->wL ac ac'->wL (es.foldl (λa e=>W7 a e.1 e.2.1 e.2.2) ac) (ps.foldl (λa p=>storedH a p.1 p.2.1 p.2.2) ac')
 | [],_,_,_,.nil,g=>g
 |e::es,_,_,_,.cons (b:=p) r t,g=>by
  have q:=wL.put (k:=e.1) (ka:=e.2.1) g r.2.2;rw[foldl_cons,foldl_cons,r.1,r.2.1];exact Gv t q
def pe_dzip{t1 t2:Bool}{a b:Expr}{ta:L2.TA}{p p0 pos pos0:Pos}(hc:X.calm=true)(hu:X.A.units+2<cLine)(hgd:Gl X "dict")(hmd:X.mg "dict"=none)(hvd:bootBuiltins "dict"=some (.type "dict"))(hg:Gl X "zip")(hm:X.mg "zip"=none)(ha:L2.PA X [a,b] ta)(h1:zX a=false)(h2:zX b=false) :
  PE X (.Call (.Name "dict" p0) [.Call (.Name "zip" p) [a,b] [] pos] [] pos0) (tCB (rDzip X.K t1 t2) ta):=by
 intro pins s O H Q I h;refine Call_ (YL I hgd hmd hvd (PyProof.Rows.callWith_type1 (Calls.spliced_cons ?_) rfl rfl));refine Call_ (YL I hg hm zGH (PyProof.Rows.callWith_type1 (thn (ha pos pins s O H _ I h) λus s1 ⟨vs,H1,I1,r1,q1⟩=>?_) (zf h1) (by rw[zBU h2];rfl)));obtain⟨a,b,es,ev,qa,qb,hk,hl,q⟩:=q1;subst ev;cases r1 with
 |cons r rr =>
  cases rr with
  |cons r' rr =>
   cases rr;cases r;cases r';obtain⟨u1,v1,p1⟩:=jl I1 qa;obtain⟨u2,v2,p2⟩:=jl I1 qb;obtain⟨e1,e2,e3,e4⟩:=zGJ v1 v2;have hlen:(mkP es u2).length=es.length:=by have:=congrArg length (wL.keys e1);simpa using this
   refine zC0 p1 p2 λh' z=>Calls.spliced_nil ?_
   have hh:X.A.handled=none:=I1.ok.hd hc;rw[e2]at p1;have p2':SqO s1.heap t2 b ((mkP es u2).map (·.2.2)).toArray:=by rw[<- e3];exact p2
   refine zFE (s:=s1) (ps:=mkP es u2) hh hu p1 p2' z (λx hx=>?_) (by omega) λh2 tk d hd hD old=>?_
   ·obtain⟨e,m,q1,q2⟩:=e4 x hx
    rw[q1,q2];exact zAU I1 (hk e m)
   ·have hn:=I1.hok.fresh hd
    have I2:Inv X pins O H1 {s1 with heap:=h2,toks:=tk}:=I1.kept (t':=tk) old
    have hsm:(d==sysModules)=false:=by
     have:=Inv.big I1;rw[beq_eq_false_iff_ne];exact ne_of_gt (lt_of_lt_of_le this hd)
    have fl:∀(es:List DE) (ac:List DE),(es.foldl (λa e=>W7 a e.1 e.2.1 e.2.2) ac).length<=ac.length+es.length:=by
     intro es
     induction es with
     |nil=>exact λac=>le_refl _
     |cons e es ih =>
      intro ac;have:=ih (W7 ac e.1 e.2.1 e.2.2);have q:(W7 ac e.1 e.2.1 e.2.2).length<=ac.length+1:=by unfold W7;split<;>simp
      simp only[foldl_cons,length_cons]at this ⊢;omega
    have hsl:(1000000:Nat)<=sizeLine:=by decide +kernel
    have dp:dicP d (fE es) h2:=zC3 (X:=X) hD hsm (by have:=fl es [];simp only[length_nil]at this;unfold fE;omega) (Gv e1 .nil);have I3:Inv X pins O (upd H1 d (QU d (fE es))) {s1 with heap:=h2,toks:=tk}:=I1.laid (t':=tk) old hd (zFx dp)
    exact⟨.ref d,_,I3,rfl,q _ hn⟩
end
end DV
namespace DV
open PySem L2
section
variable{X:Cx}{K:qH}{mg:Str->Option Value}{H:Hp}
def Gw:List D->Option (List (List KN))
 | []=>some []
 |d::ds=>match zC4 d,Gw ds with
  |some k,some ks=>some (k::ks)|_,_=>none
def zAl:List (List KN)->List D->List (List KN)×List D->List (List KN)×List D
 |k::ks,d::ds,acc=>zAl ks ds (zC5 acc.1 acc.2 k d)|_,_,acc=>acc
def Gy(t1 t2:Bool):List D->Option R
 | [a,b]=>match Ql t1 a,Ql t2 b with
  |some ds,some es=>match Gw ds with
   |some ks=>if ds.length=es.length/\ds.length<=1000 then some (.dct (zAl ks es ([],[])).1 (zAl ks es ([],[])).2)else none|none=>none
  |_,_=>none
 |_=>none
theorem build:∀{ds es:List D} {ks:List (List KN)} {xs ys:List V},Gw ds=some ks->ds.length=es.length->Reps K mg H ds xs->Reps K mg H es ys->∃E:List DE,E.map (·.1)=ks/\xs=E.map (λe=>.ref e.2.1)/\ys=E.map (·.2.2)/\(∀e∈E,SqT K H e.2.1 (e.1.map oV))/\E.length=ds.length
 | [],[],ks,xs,ys,e,_,r1,r2=>by
  cases e;simp only[Reps]at r1 r2;subst r1 r2;exact⟨[],rfl,rfl,rfl,(λe he=>absurd he not_mem_nil),rfl⟩
 | [],_::_,_,_,_,_,h,_,_=>by cases h|_::_,[],_,_,_,_,h,_,_=>by cases h
 |d::ds,f::es,ks,xs,ys,e,h,r1,r2=>by
  simp only[Gw]at e;cases e1:zC4 d with
  |none=>rw[e1]at e;cases e
  |some k =>
   cases e2:Gw ds with
   |none=>rw[e1,e2]at e;cases e
   |some kt =>
    rw[e1,e2]at e;cases e;simp only[Reps]at r1 r2;obtain⟨v,xt,rfl,ra,rb⟩:=r1;obtain⟨w,yt,rfl,rc,rd⟩:=r2;obtain⟨kb,rfl,hb⟩:=Qn e1 ra;obtain⟨E,q1,q2,q3,q4,q5⟩:=build e2 (by simpa using h) rb rd;refine⟨(k,kb,w)::E,by simp[q1],by simp[q2],by simp[q3],λx hx=>?_,by simp[q5]⟩;rcases mem_cons.mp hx with rfl|hx
    ·exact hb
    ·exact q4 x hx
theorem zAm:∀{E ac:List DE} {es vs:List D},Reps K mg H es (E.map (·.2.2))->(∀e∈E,SqT K H e.2.1 (e.1.map oV))->Reps K mg H vs (ac.map (·.2.2))->(∀e∈ac,SqT K H e.2.1 (e.1.map oV)) ->
  (E.foldl (λa e=>W7 a e.1 e.2.1 e.2.2) ac).map (·.1)=(zAl (E.map (·.1)) es (ac.map (·.1),vs)).1/\Reps K mg H (zAl (E.map (·.1)) es (ac.map (·.1),vs)).2 ((E.foldl (λa e=>W7 a e.1 e.2.1 e.2.2) ac).map (·.2.2))/\∀e∈E.foldl (λa e=>W7 a e.1 e.2.1 e.2.2) ac,SqT K H e.2.1 (e.1.map oV)
 | [],ac,es,vs,r,_,ra,ha=>by
  simp only[map_nil,zAl,List.foldl_nil];exact⟨trivial,ra,ha⟩
 |e::E,ac,es,vs,r,he,ra,ha=>by
  cases es with
  |nil=>simp only[map_cons,Reps]at r;cases r
  |cons d es =>
   simp only[map_cons,Reps]at r;obtain⟨v,t,h0,r1,r2⟩:=r;cases h0;obtain⟨p1,p2⟩:=zC6 (q:=e.1) (kb:=e.2.1) ra r1;have p3:=zAi (v:=e.2.2) ha (he e qE);have ih:=zAm (ac:=W7 ac e.1 e.2.1 e.2.2) r2 (λx hx=>he x (mem_cons_of_mem _ hx)) p2 p3;simp only[map_cons,zAl,foldl_cons];rw[p1]at ih;exact ih
def co_dzip:COk K mg (rDzip K t1 t2) (Gy t1 t2):=by
 intro M H Z xs ds res Q f r e k
 match ds,e with
 | [a,b],e =>
  simp only[Gy]at e;cases e1:Ql t1 a with
  |none=>rw[e1]at e;cases e
  |some ls =>
   cases e2:Ql t2 b with
   |none=>rw[e1,e2]at e;cases e
   |some es =>
    rw[e1,e2]at e;dsimp only at e;cases e3:Gw ls with
    |none=>rw[e3]at e;cases e
    |some ks =>
     rw[e3]at e;dsimp only at e;by_cases hc:ls.length=es.length/\ls.length<=1000
     ·rw[if_pos hc]at e
      cases e;obtain⟨v,w,rfl,h1,h2⟩:=zEe r;obtain⟨c,xs,rfl,c1,c2⟩:=Wc e1 h1;obtain⟨d,ys,rfl,d1,d2⟩:=Wc e2 h2;obtain⟨E,q1,q2,q3,q4,q5⟩:=build e3 hc.1 c2 d2;subst q2 q3;refine⟨c,d,E,rfl,zy zH c1,zy zH d1,λx hx=>zS zH (q4 x hx),by omega,λp hp=>?_⟩;obtain⟨w1,w2,w3⟩:=zAm (ac:=[]) (vs:=[]) d2 q4 Reps.nil (λe he=>by cases he);rw[q1]at w1 w2;have nf:=f.newDct (es:=fE E) hp w3 w2;have ns:=Step.newDct (ks:=(fE E).map (·.1)) (vs:=(zAl ks es ([],[])).2) (o:=QU p (fE E)) f hp;have w1':(fE E).map (·.1)=(zAl ks es ([],[])).1:=w1;rw[w1']at nf ns;exact k _ _ nf ns
     ·rw[if_neg hc]at e;cases e
def ok_dzip(hc:X.calm=true)(hu:X.A.units+2<cLine)(hgd:Gl X "dict")(hmd:X.mg "dict"=none)(hvd:bootBuiltins "dict"=some (.type "dict"))(hg:Gl X "zip")(hm:X.mg "zip"=none)(ha:AOk X [a,b] m)(h1:zX a=false)(h2:zX b=false) :
  EOk X (.Call (.Name "dict" p0) [.Call (.Name "zip" p) [a,b] [] pos] [] pos0) (eCB (Gy t1 t2) m) :=
 zu (pe_dzip hc hu hgd hmd hvd hg hm ha h1 h2) λO H Q h=>Ge co_dzip h
end
section
variable{X:Cx}{K:qH}{mg:Str->Option Value}{O:St}{M:Addr->Prop}{E:zV}{H:Hp}{T0 Z:Fz}
def zD6(i:Nat)(m:ME)(d:D):zV->Out zV:=λE=>if jB E[i]?=true then .z else match m E with
 | .ok (.v (.int k),E2)=>match E2[i]? with
  |none=>.z
  |some s=>match s.list? with
   |none=>.z
   |some ds=>match ixN ds.length k with
    |none=>.z|some j=>.ok (E2.set i (s.put (ds.set j d)))
 |_=>.z
def zAn{Q:St->Hp->Prop}(hl:E.length=O.length)(f:FR X.K X.mg M H (T0++O.zip E))(hx:(some x,Slot.v d)∈T0)(e:zD6 i m d E=.ok E')
  (k:∀H',Got X.K X.mg M O E H T0 O E' H' []->Q O H'):gSub (vd i) (tM X m) zCH x O H Q:=by
 unfold zD6 at e;cases em:jB E[i]? with
 |true=>rw[em]at e;cases e
 |false =>
  rw[em]at e;simp only[Bool.false_eq_true,if_false]at e;obtain⟨s,hs1,hs2⟩:=Y0 em;obtain⟨v,hv⟩:=vm hl (f.sub (sublist_append_right _ _)) hs1 hs2;refine⟨v,hv,zk (T0:=T0) hl f ?_⟩;cases eb:m E with
  |z=>rw[eb]at e;cases e|exc x E2=>rw[eb]at e;cases e
  |ok p =>
   obtain⟨r2,E2⟩:=p;rw[eb]at e;cases r2 with
   |own ds=>cases e|dct _ _=>cases e
   |v dd =>
    cases dd with
    |int n =>
     intro z H2 g2;dsimp only at e;cases e1:E2[i]? with
     |none=>rw[e1]at e;cases e
     |some s1 =>
      rw[e1]at e;dsimp only at e;cases e2:s1.list? with
      |none=>rw[e2]at e;cases e
      |some ds =>
       rw[e2]at e;dsimp only at e;cases e3:ixN ds.length n with
       |none=>rw[e3]at e;cases e
       |some j =>
        rw[e3]at e;cases e;obtain⟨z',q1,rz⟩:=g2.fr.val (some z) (.int n) qE;cases q1;have g:=g2.dropAll;have fr:FR X.K X.mg M H2 (T0++O.zip E2):=g.fr;obtain⟨x',q2,ry⟩:=fr.val (some x) d (mem_append_left _ hx);cases q2;obtain⟨o,h1,h2⟩:=jj g.len e1;obtain⟨a,xs,ev,w1,_,w3⟩:=fr.ownL _ s1 ds (qK _ (mem_of_getElem? h2)) e2;subst ev;have ev:v=.ref a:=by rw[hv]at h1;exact qJ (qJ h1)
        subst ev;have h2':(T0++O.zip E2)[T0.length+i]?=some (some (.ref a),s1):=by
         rw[getElem?_append_right (by omega),show T0.length+i-T0.length=i by omega];exact h2
        obtain⟨f',st⟩:=FR.mut fr h2' e2 (w3.set j ry);have e5:(T0++O.zip E2).set (T0.length+i) (some (.ref a),s1.put (ds.set j d))=T0++O.zip (E2.set i (s1.put (ds.set j d))):=by
         rw[List.set_append_right _ _ (by omega),show T0.length+i-T0.length=i by omega,<- zT (E:=E2) (s1.put (ds.set j d)) h1]
        rw[e5]at f' st;refine⟨a,xs,n,j,rfl,zR rz,w1,by rw[w3.length];exact e3,k _ ⟨by simp[g.len],f',g.st.trans st,g.pk.trans λl ds' q=>?_⟩⟩;by_cases ej:i=l
        ·subst ej
         rw[e1]at q;cases q;have hlt:i<E2.length:=(qG.mp e1).1;exact⟨⟨ds.set j d,by rw[getElem?_set_self hlt];rfl⟩,rfl⟩
        ·exact⟨⟨ds',by rw[getElem?_set_ne ej];exact q⟩,rfl⟩
    |_=>cases e
def sSw(i:Nat)(m1 m2 mv:ME):MS:=λE=>match mv E with
 | .z=>.z| .exc x E1=>.exc x E1
 | .ok (.v (.t [d1,d2]),E1)=>match zD6 i m1 d1 E1 with
  | .ok E2=>match zD6 i m2 d2 E2 with
   | .ok E3=>.ok (.nx,E3)|_=>.z
  |_=>.z
 |_=>.z
def sSw_run{i:Nat}{m1 m2 mv:ME}{D:Ends}(h:tS X (sSw i m1 m2 mv) D O H):zFp (tM X mv) (gTup X.K 2 (zED (gSub (vd i) (tM X m1) zCH) (zED (gSub (vd i) (tM X m2) zCH) gNil))) D O H:=by
 obtain⟨M,E,hl,fr,k⟩:=h;unfold sSw at k;refine zk (T0:=[]) hl fr ?_;cases ea:mv E with
 |z=>rw[ea]at k;exact k|exc x E1=>rw[ea]at k;exact λH' g=>k O H' g
 |ok p =>
  obtain⟨r,E1⟩:=p;rw[ea]at k
  match r,k with
  | .v (.t [d1,d2]),k =>
   intro v H1 g;dsimp only at k;cases e1:zD6 i m1 d1 E1 with
   |z=>rw[e1]at k;exact k.elim|exc _ _=>rw[e1]at k;exact k.elim
   |ok E2 =>
    rw[e1]at k;dsimp only at k;cases e2:zD6 i m2 d2 E2 with
    |z=>rw[e2]at k;exact k.elim|exc _ _=>rw[e2]at k;exact k.elim
    |ok E3 =>
     rw[e2]at k;obtain⟨a,xs,rfl,h1,h2⟩:=yY g.rep;simp only[Reps]at h2;obtain⟨x1,_,rfl,r1,x2,_,rfl,r2,rfl⟩:=h2;refine⟨a,[x1,x2],rfl,zS zH h1,rfl,x1,[x2],rfl,?_⟩;have f2:FR X.K X.mg M H1 ([(some x1,.v d1),(some x2,.v d2)]++O.zip E1):=by
      refine FR.add (FR.add g.frame r2) (r1.mono (jS (JC λb hb=>?_)));replace hb:b∈yI ((some x2,Slot.v d2)::O.zip E1):=hb;rw[zW]at hb;exact hb
     refine zAn (T0:=[(some x1,.v d1),(some x2,.v d2)]) g.len f2 qE e1 λH2 g2=>⟨x2,[],rfl,?_⟩
     refine zAn (T0:=[(some x1,.v d1),(some x2,.v d2)]) g2.len g2.fr (mem_cons_of_mem _ qE) e2 λH3 g3=>⟨rfl,?_⟩
     have g12:Got X.K X.mg M O E H [] O E1 H1 [(some x1,.v d1),(some x2,.v d2)]:=⟨g.len,f2,g.dropAll.st.add.add,g.pk⟩;exact k O H3 ((g12.trans' g2).trans' g3).dropAll
  | .own _,k=>exact k.elim| .dct _ _,k=>exact k.elim
def sk_sw(i:Nat)(hc:X.calm=true)(hv:PE X (.Name x p1) (vd i))(hw:PE X (.Name y p3) (vd i))(h1:EOk X b1 m1)(h2:EOk X b2 m2)(he:EOk X e mv)(hs:swapsWithSole [.Tuple [.Subscript (.Name x p1) b1 p2,.Subscript (.Name y p3) b2 p4] k p] e pos.line X.env=pure false)(ho:swappedStores [.Tuple [.Subscript (.Name x p1) b1 p2,.Subscript (.Name y p3) b2 p4] k p] e X.env=pure none)
  (ha:∀v,assign (.Subscript (.Name x p1) b1 p2) X.env v=(do
   let ov <- holding [v] (eval (.Name x p1) X.env)
   let iv <- holding [v,ov] (eval b1 X.env)
   standAt p2
   holding [v,ov,iv] (setItem ov iv v)
   release [v,ov,iv] [])) (hb:∀v,assign (.Subscript (.Name y p3) b2 p4) X.env v=(do
   let ov <- holding [v] (eval (.Name y p3) X.env)
   let iv <- holding [v,ov] (eval b2 X.env)
   standAt p4
   holding [v,ov,iv] (setItem ov iv v)
   release [v,ov,iv] [])):SOk X (.Assign [.Tuple [.Subscript (.Name x p1) b1 p2,.Subscript (.Name y p3) b2 p4] k p] e pos) (sSw i m1 m2 mv) :=
 jV (zAO he (zBy hc (uC (zAN hv h1 uF ha) (uC (zAN hw h2 uF hb) zBx))) hs ho) λD O H=>sSw_run
end
theorem uY(ih:∀d,eqb n d=true->∃x,pyD d=some x/\x.canLay0=true/\x.depth<=n+1):∀ds:List D,ds.all (eqb n)=true->∃xs,pyDs ds=some xs/\PyData.canLayAll0 xs=true/\PyData.depthAll xs<=n+1
 | [],_=>⟨[],rfl,rfl,by simp[PyData.depthAll]⟩
 |d::ds,h=>by
  rw[all_cons,Bool.and_eq_true]at h;obtain⟨x,e1,c1,p1⟩:=ih d h.1;obtain⟨xs,e2,c2,p2⟩:=uY ih ds h.2;refine⟨x::xs,by simp only[pyDs,e1,e2],?_,by simp only[PyData.depthAll];omega⟩;simp only[PyData.canLayAll0,c1,c2];rfl
def vv:∀(n:Nat) (d:D),eqb n d=true->∃x,pyD d=some x/\x.canLay0=true/\x.depth<=n+1:=by
 intro n
 induction n with
 |zero =>
  intro d h;cases d with
  |non=>exact⟨_,rfl,rfl,by simp[PyData.depth]⟩|bl b=>exact⟨_,rfl,rfl,by simp[PyData.depth]⟩|int i=>exact⟨_,rfl,rfl,by simp[PyData.depth]⟩|str i=>exact⟨_,rfl,h,by simp[PyData.depth]⟩|_=>cases h
 |succ n ih =>
  intro d h;cases d with
  |non=>exact⟨_,rfl,rfl,by simp[PyData.depth]⟩|bl b=>exact⟨_,rfl,rfl,by simp[PyData.depth]⟩|int i=>exact⟨_,rfl,rfl,by simp[PyData.depth]⟩|str i=>exact⟨_,rfl,h,by simp[PyData.depth]⟩
  |t ds =>
   obtain⟨xs,e,c,p⟩:=uY ih ds h;exact⟨.tuple xs,by simp only[pyD,e];rfl,by simp only[PyData.canLay0];exact c,by simp only[PyData.depth];omega⟩
  |l ds =>
   obtain⟨xs,e,c,p⟩:=uY ih ds h;exact⟨.list xs,by simp only[pyD,e];rfl,by simp only[PyData.canLay0];exact c,by simp only[PyData.depth];omega⟩
  |_=>cases h
def JH(h:pyDs (d::ds)=some xs):∃y ys,xs=y::ys/\pyD d=some y/\pyDs ds=some ys:=by
 simp only[pyDs]at h;cases h1:pyD d with
 |none=>rw[h1]at h;cases h
 |some y =>
  cases h2:pyDs ds with
  |none=>rw[h1,h2]at h;cases h|some ys=>rw[h1,h2]at h;cases h;exact⟨y,ys,rfl,rfl,rfl⟩
def zAo(h:pyDs (d::ds)=some xs):∃y ys,xs=y::ys:=by
 obtain⟨y,ys,e,_⟩:=JH h;exact⟨y,ys,e⟩
mutual
theorem uZ:∀{d e:D} {x y:PyData},pyD d=some x->pyD e=some y->x.canLay0=true->y.canLay0=true->PyData.eqv x y=deq d e
 | .t ds,e,x,y,h1,h2,c1,c2=>by
  simp only[pyD,Option.map_eq_some_iff]at h1;obtain⟨xs,h1,rfl⟩:=h1;cases e with
  |t es =>
   simp only[pyD,Option.map_eq_some_iff]at h2;obtain⟨ys,h2,rfl⟩:=h2;simp only[PyData.eqv,deq];exact eqvs_deq h1 h2 (by simpa[PyData.canLay0]using c1) (by simpa[PyData.canLay0]using c2)
  |l es=>simp only[pyD,Option.map_eq_some_iff]at h2;obtain⟨ys,_,rfl⟩:=h2;rfl|non=>cases h2;rfl|bl _=>cases h2;rfl|int _=>cases h2;rfl|str _=>cases h2;rfl|dic=>cases h2;cases c2|_=>cases h2
 | .l ds,e,x,y,h1,h2,c1,c2=>by
  simp only[pyD,Option.map_eq_some_iff]at h1;obtain⟨xs,h1,rfl⟩:=h1;cases e with
  |l es =>
   simp only[pyD,Option.map_eq_some_iff]at h2;obtain⟨ys,h2,rfl⟩:=h2;simp only[PyData.eqv,deq];exact eqvs_deq h1 h2 (by simpa[PyData.canLay0]using c1) (by simpa[PyData.canLay0]using c2)
  |t es=>simp only[pyD,Option.map_eq_some_iff]at h2;obtain⟨ys,_,rfl⟩:=h2;rfl|non=>cases h2;rfl|bl _=>cases h2;rfl|int _=>cases h2;rfl|str _=>cases h2;rfl|dic=>cases h2;cases c2|_=>cases h2
 | .non,e,x,y,h1,h2,c1,c2=>by
  cases h1;cases e with
  |t es=>simp only[pyD,Option.map_eq_some_iff]at h2;obtain⟨ys,_,rfl⟩:=h2;rfl|l es=>simp only[pyD,Option.map_eq_some_iff]at h2;obtain⟨ys,_,rfl⟩:=h2;rfl|dic=>cases h2;cases c2
  |_=>first|(cases h2;rfl)|(cases h2)
 | .bl _,e,x,y,h1,h2,c1,c2=>by
  cases h1;cases e with
  |t es=>simp only[pyD,Option.map_eq_some_iff]at h2;obtain⟨ys,_,rfl⟩:=h2;rfl|l es=>simp only[pyD,Option.map_eq_some_iff]at h2;obtain⟨ys,_,rfl⟩:=h2;rfl|dic=>cases h2;cases c2
  |_=>first|(cases h2;rfl)|(cases h2)
 | .int _,e,x,y,h1,h2,c1,c2=>by
  cases h1;cases e with
  |t es=>simp only[pyD,Option.map_eq_some_iff]at h2;obtain⟨ys,_,rfl⟩:=h2;rfl|l es=>simp only[pyD,Option.map_eq_some_iff]at h2;obtain⟨ys,_,rfl⟩:=h2;rfl|dic=>cases h2;cases c2
  |_=>first|(cases h2;rfl)|(cases h2)
 | .str _,e,x,y,h1,h2,c1,c2=>by
  cases h1;cases e with
  |t es=>simp only[pyD,Option.map_eq_some_iff]at h2;obtain⟨ys,_,rfl⟩:=h2;rfl|l es=>simp only[pyD,Option.map_eq_some_iff]at h2;obtain⟨ys,_,rfl⟩:=h2;rfl|dic=>cases h2;cases c2
  |_=>first|(cases h2;rfl)|(cases h2)
 | .dic,_,_,_,h1,_,c1,_=>by cases h1;cases c1| .fn _,_,_,_,h1,_,_,_=>by cases h1| .exn _ _,_,_,_,h1,_,_,_=>by cases h1| .dct _ _,_,_,_,h1,_,_,_=>by cases h1
theorem eqvs_deq:∀{ds es:List D} {xs ys:List PyData},pyDs ds=some xs->pyDs es=some ys->PyData.canLayAll0 xs=true->PyData.canLayAll0 ys=true->PyData.eqvAll xs ys=deqs ds es
 | [],[],xs,ys,h1,h2,_,_=>by cases h1;cases h2;rfl
 | [],e::es,xs,ys,h1,h2,_,_=>by
  cases h1;obtain⟨y,ys,rfl⟩:=zAo h2;rfl
 |d::ds,[],xs,ys,h1,h2,_,_=>by
  cases h2;obtain⟨y,ys,rfl⟩:=zAo h1;rfl
 |d::ds,e::es,xs,ys,h1,h2,c1,c2=>by
  obtain⟨x,xs,rfl,p1,p2⟩:=JH h1;obtain⟨y,ys,rfl,q1,q2⟩:=JH h2;simp only[PyData.canLayAll0,Bool.and_eq_true]at c1 c2;simp only[PyData.eqvAll,deqs];rw[uZ p1 q1 c1.1 c2.1,eqvs_deq p2 q2 c1.2 c2.2]
end
section
variable{X:Cx}
def zGK(S:zCx X.K)(hu:X.A.units+21<cLine):OpR X (compareOp .Eq) (rEqD X.K X.mg false):=by
 intro pins s O H x y v u Q I rx ry h;obtain⟨d,e,h1,h2,r1,r2,q⟩:=h;obtain⟨a,p1,c1,l1⟩:=vv 20 d h1;obtain⟨b,p2,c2,l2⟩:=vv 20 e h2;obtain⟨_,ra,_⟩:=wW I S r1 rx p1;obtain⟨_,rb,_⟩:=wW I S r2 ry p2;have k:=SeqAt.rcAt_reads (A:=X.A) ra rb c1 c2 (by omega);rw[uZ p1 p2 c1 c2]at k;exact k X.prog X.w _ _ ⟨.bl (deq d e),H,I,rfl,q⟩
def zGL(S:zCx X.K)(hu:X.A.units+21<cLine):OpR X (compareOp .NotEq) (rEqD X.K X.mg true):=by
 intro pins s O H x y v u Q I rx ry h;obtain⟨d,e,h1,h2,r1,r2,q⟩:=h;obtain⟨a,p1,c1,l1⟩:=vv 20 d h1;obtain⟨b,p2,c2,l2⟩:=vv 20 e h2;obtain⟨_,ra,_⟩:=wW I S r1 rx p1;obtain⟨_,rb,_⟩:=wW I S r2 ry p2;have k:=SeqAt.rcNeAt_reads (A:=X.A) ra rb c1 c2 (by omega);rw[uZ p1 p2 c1 c2]at k;exact k X.prog X.w _ _ ⟨.bl (!deq d e),H,I,rfl,q⟩
end
theorem zGM:∀{ds:List D} {xs:List PyData},pyDs ds=some xs->ds.length=xs.length/\∀(j:Nat) (h:j<ds.length) (h':j<xs.length),pyD ds[j]=some xs[j]
 | [],xs,h=>by cases h;exact⟨rfl,λj h=>by simp at h⟩
 |d::ds,xs,h=>by
  obtain⟨y,ys,rfl,h1,h2⟩:=JH h;obtain⟨h3,h4⟩:=zGM h2;refine⟨by simp[h3],λj h h'=>?_⟩;cases j with
  |zero=>exact h1|succ j=>exact h4 j (by simpa using h) (by simpa using h')
theorem zC7:∀{xs:List PyData},PyData.canLayAll0 xs=true->∀x∈xs,x.canLay0=true
 |y::xs,h,x,hx=>by
  simp only[PyData.canLayAll0,Bool.and_eq_true]at h;rcases mem_cons.mp hx with rfl|hx
  ·exact h.1
  ·exact zC7 h.2 x hx
def idxK:D->D->Option R
 | .l ds,d=>if eqb 18 d=true/\ds.all (eqb 18)=true then(match ds.findIdx? (deq · d)with
   |some j=>if j<1000000 then some (.v (.int (j:Nat)))else none|none=>none)else none
 |_,_=>none
section
variable{X:Cx}{O:L2.St}{pins:List (Addr×Obj)}{H:Hp}{s:Shared}{K:qH}{mg:Str->Option Value}
def rIdxK(K:qH)(mg:Str->Option Value)(x:V)(vs:List V)(H:Hp)(Q:VK):Prop:=∃y d ds j,vs=[y]/\Rep K mg H d y/\Rep K mg H (.l ds) x/\eqb 18 d=true/\ds.all (eqb 18)=true/\ds.findIdx? (deq · d)=some j/\j<1000000/\Q (.int (j:Nat)) H
def zC8(S:zCx X.K)(hu:X.A.units+20<cLine):MtM X "list.index" (rIdxK X.K X.mg):=by
 intro pins s O H x vs v us Q I rx rv h;obtain⟨y,d,ds,j,rfl,r1,r2,e1,e2,hj,hj2,q⟩:=h;obtain⟨u,rfl,ru⟩:=rv.one;obtain⟨a,p1,c1,l1⟩:=vv 18 d e1;obtain⟨as,p2,c2,l2⟩:=uY (vv 18) ds e2;obtain⟨hl,pa⟩:=zGM p2;obtain⟨bs,rd,_⟩:=wW I S r1 ru p1;obtain⟨l,xs,rfl,hs,rs⟩:=yJ r2;cases rx;obtain⟨its,r,p,_⟩:=I.list hs;obtain⟨⟨c0,dd,dt,sl⟩,n,e,ec,ed,es⟩:=p;dsimp only at ec ed es;subst ec ed es;obtain⟨cs,rl,_⟩:=readss_of I S rs r p2;have hm:=SeqAt.readsAll_map _ _ _ c2 rl;have hlen:its.length=as.length:=by have:=congrArg length hm;simpa using this
 have at_:∀m (h:m<its.length) (h':m<ds.length),PyData.eqv (SeqAt.readOf s.heap its[m]) a=deq ds[m] d:=λm h h'=>by
  have h1:(its.map (SeqAt.readOf s.heap))[m]'(by simpa using h)=as[m]'(by omega):=by simp only[hm]
  rw[List.getElem_map]at h1;rw[h1];exact uZ (pa m h' (by omega)) p1 (zC7 c2 _ (getElem_mem _)) c1
 obtain⟨h1,h2,h3⟩:=List.findIdx?_eq_some_iff_getElem.mp hj;refine call_meets PySem.F.slot_list_index ⟨_,e,rfl⟩ PySem.F.entry_list_index (PySem.F.args_list_index_2 _ _) (SeqAt.list_indexAt l _ n none sl u (λy=>PyData.eqv (SeqAt.readOf s.heap y) a) j (by simp[hlen];omega) (by omega) ?_ ?_) ⟨e,SeqAt.items_eqAt (by simpa using rl) rd c2 c1 (by have:=Nat.min_le_right (PyData.depthAll as) a.depth;omega),⟨.int _,H,I.tok _,⟨_,rfl⟩,q⟩⟩
 ·exact(at_ j (by omega) h1).trans h2
 ·intro m hm' hlt
  exact(at_ m (by simpa using hm') (by omega)).trans (by have:=h3 m hlt;simpa using this)
def ro_idxK:ROk K mg (λx y H Q=>rIdxK K mg x [y] H Q) idxK:=by
 intro M H Z x y d1 d2 res Q f r1 r2 e k;cases d1 with
 |l ds =>
  simp only[idxK]at e;split at e
  ·rename_i hc
   split at e
   ·rename_i j hj
    split at e
    ·rename_i hl
     cases e;exact⟨y,d2,ds,j,rfl,r2.mono zH,r1.mono zH,hc.1,hc.2,hj,hl,k.flat f rfl⟩
    ·cases e
   ·cases e
  ·cases e
 |_=>cases e
def ok_idxK(S:zCx X.K)(hu:X.A.units+20<cLine)(ho:EOk X o a)(he:EOk X e b)(hbase:attributeBase o "index" X.env (eval o X.env)=eval o X.env)(hs:zX e=false)(hline:(apos.endLine==cpos.line)=true)
  (hfew:((backTo cpos (starEach (e::[]) X.env)).all (λx=>!x.1)&&(backToKw cpos (keywordEach [] X.env)).all (λx=>x.1.isSome)&&decide ((e::([]:List Expr)).length+([]:List Keyword).length+(if([]:List Keyword).isEmpty then 0 else 1)<30))=true) :
  EOk X (.Call (.Attribute o "index" apos) [e] [] cpos) (eMet idxK a b) :=
 zu (pe_bm PySem.F.plainAttrs_list PySem.F.slot_list_index PySem.F.type_list_index (zC8 S hu) ho (Jw he GP (zf hs)) hbase hfew hline (zf hs) rfl) λO H Q h=>met_run ro_idxK h
end
inductive Op2 where
 |add|sub|mul|fdiv|mod|pow
def Op2.op:Op2->Operator
 | .add=>.Add | .sub=>.Sub | .mul=>.Mult | .fdiv=>.FloorDiv | .mod=>.Mod | .pow=>.Pow
def Op2.f:Op2->D->D->Option R
 | .add=>QN | .sub=>subD | .mul=>zAe | .fdiv=>zBW | .mod=>zF6 | .pow=>powD
inductive Cp where
 |lt|le|gt|ge|eq|ne|nin
def Cp.op:Cp->CmpOp
 | .lt=>.Lt | .le=>.LtE | .gt=>.Gt | .ge=>.GtE | .eq=>.Eq | .ne=>.NotEq | .nin=>.NotIn
def Cp.f:Cp->D->D->Option R
 | .lt=>ltD | .le=>leD | .gt=>gtD | .ge=>geD | .eq=>eqG | .ne=>neG | .nin=>inF true
def Cp.isI:Cp->Bool
 | .lt | .le | .gt | .ge=>true
 |_=>false
def Cp.b:Cp->Int->Int->Bool
 | .lt=>ltB | .le=>leB | .gt=>gtB|_=>geB
inductive Bi where
 |len|max|all|int|tuple|list|sum|abs|repr
def Bi.nm:Bi->Str
 | .len=>"len" | .max=>"max" | .all=>"all" | .int=>"int" | .tuple=>"tuple" | .list=>"list" | .sum=>"sum" | .abs=>"abs" | .repr=>"repr"
def Bi.f:Bi->List D->Option R
 | .len=>Gf | .max=>zEf | .all=>allD | .int=>intF | .tuple=>zF7 | .list=>listD | .sum=>sumG | .abs=>absG | .repr=>zCy
inductive Ty where
 |int|bool|tuple|list|str|dict
def Ty.s:Ty->String
 | .int=>"int" | .bool=>"bool" | .tuple=>"tuple" | .list=>"list" | .str=>"str" | .dict=>"dict"
def Ty.nm:Ty->Str
 | .int=>"int" | .bool=>"bool" | .tuple=>"tuple" | .list=>"list" | .str=>"str" | .dict=>"dict"
inductive Tg where
 |n (i:Nat)
 |t (is:List Nat)
def Tg.m:Tg->MG
 | .n i=>gN i| .t is=>gT is
mutual
inductive Ex where
 |c (d:D)|gl (d:D)|var (i:Nat)|mov (i:Nat)
 |bin (o:Op2) (a b:Ex)|cmp (o:Cp) (a b:Ex)|chain (o o':Cp) (a b c:Ex)
 |neg (a:Ex)|not (a:Ex)|and (a b:Ex)
 |ifx (t:Tx) (a b:Ex)|t (as:Ax)|l (as:Ax)|dic
 |ix (a b:Ex)|ixO (i:Nat) (b:Ex)|sl (a:Ex) (l h:Ox)
 |comp (nl:Nat) (loc capn:List Str) (caps:List Nat) (it:Ix) (tg:Tg) (tt:Tx) (el:Ex)
 |is (T:Ty) (a:Ex)|cB (b:Bi) (as:Ax)|call (k:Nat) (as:Gx)
 |stp (k:Bool) (a:Ex)
 |frz (a:Ex)|idxK (a b:Ex)
 |dzip (t1 t2:Bool) (as:Ax)|frd (i:Nat) (a:Ex)|dgO (i:Nat) (b:Ex)
inductive Tx where
 |tAnd (a b:Tx)|tOr (a b:Tx)|tNot (a:Tx)|tE (a:Ex)|tTr
inductive Ax where
 |nil|cons (a:Ex) (as:Ax)
inductive Gx where
 |nil|ev (a:Ex) (as:Gx)|lend (i:Nat) (as:Gx)
inductive Ox where
 |oN|oS (a:Ex)
inductive Ix where
 |iL (a:Ex)|iT (a:Ex)|iR1 (as:Ax)|iR2 (as:Ax)|iZ (t1 t2:Bool) (as:Ax)|iE (t1:Bool) (as:Ax)
end
mutual
inductive Sx where
 |sIf (t:Tx) (a b:Bx)|sSet (i:Nat) (a:Ex)|sRet (a:Ex)|sDrop (a:Ex)|sIx (i:Nat) (b a:Ex)|sApp (i:Nat) (a:Ex)
 |sForL (a:Ex) (tg:Tg) (b:Bx)|sForR1 (as:Ax) (tg:Tg) (b:Bx)|sForI (it:Ix) (tg:Tg) (b:Bx)
 |sDput (i:Nat) (b a:Ex)|sSw (i:Nat) (b c a:Ex)
 |sAny|sTup (is:List Nat) (a:Ex)|sPar (i j:Nat) (as:Ax)
 |sWhile (t:Tx) (b:Bx)
inductive Bx where
 |bNil|bOne (s:Sx)|bSeq (s:Sx) (b:Bx)
end
structure FI where
 x:Str
 n:Nat
 lv:Nat
 wild:Bool
 F:MF
def fiF(fs:List FI)(k:Nat):MF:=match fs[k]? with
 |some i=>i.F|none=>λ_=>.z
def fiX(fs:List FI)(k:Nat):Str:=match fs[k]? with
 |some i=>i.x|none=>""
def zBb(m:ME):ME:=λE=>match m E with
 | .exc _ _=>.z|o=>o
def GK(m:MS):MS:=λE=>match m E with
 | .exc _ _=>.z|o=>o
def Y6{m:ME}{E:zV}{p:R×zV}(h:m E=.ok p):zBb m E=.ok p:=by simp only[zBb,h]
def ua{m:MS}{E:zV}{p:Fl×zV}(h:m E=.ok p):GK m E=.ok p:=by simp only[GK,h]
def no_E{X:Cx}{e:Expr}{m:ME}(h:EOk X.nox e m):EOk X e (zBb m):=zu h.nox λO H Q ⟨M,E,hl,fr,k⟩=>by
 unfold zBb at k;refine⟨M,E,hl,fr,?_⟩;cases e:m E with
 |z=>rw[e]at k;exact k|exc x E1=>rw[e]at k;exact k.elim|ok p=>rw[e]at k;exact k
def no_S{X:Cx}{st:Stmt}{m:MS}(h:SOk X.nox st m):SOk X st (GK m):=λpins s O H D I ⟨M,E,hl,fr,k⟩=>by
 refine wpAny_mono (h pins s O H D (I.wish _) ⟨M,E,hl,fr,?_⟩) (λ_ _ q=>q.unwish) λ_ _ z=>False.elim z
 unfold GK at k;cases e:m E with
 |z=>rw[e]at k;exact k|exc x E1=>rw[e]at k;exact k.elim
 |ok p =>
  rw[e]at k;obtain⟨fl,E1⟩:=p;cases fl<;>exact k
def sk_forN{X:Cx}{st:Stmt}{mi:MI}{tg:MG}{body:MS}(h1:PS X st (λD O H=>tMI X mi O H λ_ _=>False))(h2:SOk X st (GK (sForI mi tg body))):SOk X st (zC2 mi tg body):=λpins s O H D I ⟨M,E,hl,fr,k⟩=>by
 unfold zC2 at k;cases e:mi E with
 |exc x E1=>rw[e]at k;exact h1 pins s O H D I ⟨M,E,hl,fr,by rw[e];exact λH' g=>k O H' g⟩|z=>rw[e]at k;exact h2 pins s O H D I ⟨M,E,hl,fr,k⟩|ok p=>rw[e]at k;exact h2 pins s O H D I ⟨M,E,hl,fr,k⟩
def no_set{i:Nat}{m:ME}:GK (sSet i m)=sSet i (zBb m):=by
 funext E
 simp only[GK,sSet,zBb];cases m E with
 |z=>rfl|exc x E1=>rfl
 |ok p =>
  obtain⟨r,E1⟩:=p;dsimp only;cases vF i r E1<;>rfl
mutual
def dE(fs:List FI):Ex->ME
 | .c d=>eC d| .gl d=>eC d| .var i=>zCU i| .mov i=>zCd i| .bin o a b=>WN o.f (dE fs a) (dE fs b)| .cmp o a b=>WN o.f (dE fs a) (dE fs b)| .chain o o' a b c=>wv o.b o'.b (dE fs a) (dE fs b) (dE fs c)| .neg a=>eNeg (dE fs a)| .not a=>zEW (dE fs a)| .and a b=>zBl (dE fs a) (dE fs b)| .ifx t a b=>eIf (dT fs t) (dE fs a) (dE fs b)| .t as=>zEb (dA fs as)| .l as=>zEc (dA fs as)| .dic=>eC .dic| .ix a b=>WN ixD (dE fs a) (dE fs b)| .ixO i b=>zD3 i (dE fs b)| .sl a l h=>eSl slD (dE fs a) (dO fs l) (dO fs h)| .comp nl _ _ caps it tg tt el=>zBb (J4 nl caps (dI fs it) tg.m (dT fs tt) (dE fs el))| .is T a=>eIs T.s (dE fs a)| .cB b as=>eCB b.f (dA fs as)| .call k as=>wT (fiF fs k) (dG fs as)| .stp k a=>eUn (zEx k) (dE fs a)| .frz a=>eFrz (dE fs a)| .idxK a b=>eMet idxK (dE fs a) (dE fs b)| .dgO i b=>eDgO i (dE fs b)| .frd i a=>eFrd i (dE fs a)| .dzip t1 t2 as=>eCB (Gy t1 t2) (dA fs as)
def dT(fs:List FI):Tx->MT
 | .tAnd a b=>Zv (dT fs a) (dT fs b)| .tOr a b=>zBk (dT fs a) (dT fs b)| .tNot a=>WP (dT fs a)| .tE a=>tT (dE fs a)| .tTr=>Zx
def dA(fs:List FI):Ax->MA
 | .nil=>zEZ| .cons a as=>WQ (dE fs a) (dA fs as)
def dG(fs:List FI):Gx->List Arg
 | .ev a as=>.ev (dE fs a)::dG fs as| .lend i as=>.lend i::dG fs as| .nil=>[]
def dO(fs:List FI):Ox->MO
 | .oN=>zEh| .oS a=>zCb (dE fs a)
def dI(fs:List FI):Ix->MI
 | .iL a=>iL (dE fs a)| .iT a=>iT (dE fs a)| .iR1 as=>iR1 (dA fs as)| .iR2 as=>iR2 (dA fs as)| .iZ t1 t2 as=>iZ t1 t2 (dA fs as)| .iE t1 as=>iE t1 (dA fs as)
end
mutual
def dS(fs:List FI):Sx->MS
 | .sIf t a b=>sIf (dT fs t) (dB fs a) (dB fs b)| .sSet i a=>sSet i (dE fs a)| .sRet a=>sRet (dE fs a)| .sDrop a=>sDrop (dE fs a)| .sIx i b a=>Za i (dE fs b) (dE fs a)| .sSw i b c a=>DV.sSw i (dE fs b) (dE fs c) (dE fs a)| .sDput i b a=>DV.sDput i (dE fs b) (dE fs a)| .sApp i a=>sApp i (dE fs a)| .sTup is a=>sTup is (dE fs a)| .sPar i j as=>sPar i j (dA fs as)| .sForL a tg b=>GK (sForL (dE fs a) tg.m (dB fs b))| .sForI it tg b=>zC2 (dI fs it) tg.m (dB fs b)| .sForR1 a tg b=>GK (sForR1 (dA fs a) tg.m (dB fs b))| .sAny=>λ_=>.z| .sWhile t b=>GK (DV.sWhile (dT fs t) (dB fs b))
def dB(fs:List FI):Bx->MS
 | .bNil=>zEj| .bOne s=>dS fs s| .bSeq s b=>zBm (dS fs s) (dB fs b)
end
def zGN{fs d}:dE fs (.c d)=eC d:=rfl
def rE_gl{fs d}:dE fs (.gl d)=eC d:=rfl
def YU{fs i}:dE fs (.var i)=zCU i:=rfl
def rE_mov{fs i}:dE fs (.mov i)=zCd i:=rfl
def Wf{fs o a b}:dE fs (.bin o a b)=WN o.f (dE fs a) (dE fs b):=rfl
def vw{fs o a b}:dE fs (.cmp o a b)=WN o.f (dE fs a) (dE fs b):=rfl
def zFF{fs o o' a b c}:dE fs (.chain o o' a b c)=wv o.b o'.b (dE fs a) (dE fs b) (dE fs c):=rfl
def zC9{fs a b}:dE fs (.and a b)=zBl (dE fs a) (dE fs b):=rfl
def zGO{fs t a b}:dE fs (.ifx t a b)=eIf (dT fs t) (dE fs a) (dE fs b):=rfl
def zDA{fs as}:dE fs (.t as)=zEb (dA fs as):=rfl
def Wg{fs as}:dE fs (.l as)=zEc (dA fs as):=rfl
def zGP{fs}:dE fs (.dic)=eC .dic:=rfl
def zFG{fs a b}:dE fs (.ix a b)=WN ixD (dE fs a) (dE fs b):=rfl
def Gz{fs i b}:dE fs (.ixO i b)=zD3 i (dE fs b):=rfl
def rE_sl{fs a l h}:dE fs (.sl a l h)=eSl slD (dE fs a) (dO fs l) (dO fs h):=rfl
def Y7{fs nl u1 u2 caps it tg tt el}:dE fs (.comp nl u1 u2 caps it tg tt el)=zBb (J4 nl caps (dI fs it) tg.m (dT fs tt) (dE fs el)):=rfl
def rE_is{fs T a}:dE fs (.is T a)=eIs T.s (dE fs a):=rfl
def zDB{fs b as}:dE fs (.cB b as)=eCB b.f (dA fs as):=rfl
def jm{fs k as}:dE fs (.call k as)=wT (fiF fs k) (dG fs as):=rfl
def zGQ{fs k a}:dE fs (.stp k a)=eUn (zEx k) (dE fs a):=rfl
def zGR{fs a}:dE fs (.frz a)=eFrz (dE fs a):=rfl
def rE_idxK{fs a b}:dE fs (.idxK a b)=eMet idxK (dE fs a) (dE fs b):=rfl
def zGS{fs i b}:dE fs (.dgO i b)=eDgO i (dE fs b):=rfl
def zGT{fs i a}:dE fs (.frd i a)=eFrd i (dE fs a):=rfl
def rE_dzip{fs t1 t2 as}:dE fs (.dzip t1 t2 as)=eCB (Gy t1 t2) (dA fs as):=rfl
def Qp{fs a b}:dT fs (.tAnd a b)=Zv (dT fs a) (dT fs b):=rfl
def zDC{fs a b}:dT fs (.tOr a b)=zBk (dT fs a) (dT fs b):=rfl
def zDD{fs a}:dT fs (.tNot a)=WP (dT fs a):=rfl
def zBc{fs a}:dT fs (.tE a)=tT (dE fs a):=rfl
def vx{fs}:dT fs (.tTr)=Zx:=rfl
def G0{fs}:dA fs (.nil)=zEZ:=rfl
def Qq{fs a as}:dA fs (.cons a as)=WQ (dE fs a) (dA fs as):=rfl
def Qs{fs a as}:dG fs (.ev a as)=.ev (dE fs a)::dG fs as:=rfl
def ub{fs i as}:dG fs (.lend i as)=.lend i::dG fs as:=rfl
def JI{fs}:dG fs (.nil)=[]:=rfl
def rO_oN{fs}:dO fs (.oN)=zEh:=rfl
def rO_oS{fs a}:dO fs (.oS a)=zCb (dE fs a):=rfl
def rI_iL{fs a}:dI fs (.iL a)=iL (dE fs a):=rfl
def rI_iT{fs a}:dI fs (.iT a)=iT (dE fs a):=rfl
def rI_iR1{fs as}:dI fs (.iR1 as)=iR1 (dA fs as):=rfl
def rI_iR2{fs as}:dI fs (.iR2 as)=iR2 (dA fs as):=rfl
def rI_iZ{fs t1 t2 as}:dI fs (.iZ t1 t2 as)=iZ t1 t2 (dA fs as):=rfl
def rI_iE{fs t1 as}:dI fs (.iE t1 as)=iE t1 (dA fs as):=rfl
def G1{fs t a b}:dS fs (.sIf t a b)=sIf (dT fs t) (dB fs a) (dB fs b):=rfl
def Wh{fs i a}:dS fs (.sSet i a)=sSet i (dE fs a):=rfl
def Y8{fs a}:dS fs (.sRet a)=sRet (dE fs a):=rfl
def zFH{fs a}:dS fs (.sDrop a)=sDrop (dE fs a):=rfl
def zDE{fs i b a}:dS fs (.sIx i b a)=Za i (dE fs b) (dE fs a):=rfl
def rS_sSw{fs i b c a}:dS fs (.sSw i b c a)=DV.sSw i (dE fs b) (dE fs c) (dE fs a):=rfl
def zFI{fs i b a}:dS fs (.sDput i b a)=DV.sDput i (dE fs b) (dE fs a):=rfl
def rS_sApp{fs i a}:dS fs (.sApp i a)=sApp i (dE fs a):=rfl
def rS_sTup{fs is a}:dS fs (.sTup is a)=sTup is (dE fs a):=rfl
def rS_sPar{fs i j as}:dS fs (.sPar i j as)=sPar i j (dA fs as):=rfl
def zFJ{fs a tg b}:dS fs (.sForL a tg b)=GK (sForL (dE fs a) tg.m (dB fs b)):=rfl
def zFK{fs it tg b}:dS fs (.sForI it tg b)=zC2 (dI fs it) tg.m (dB fs b):=rfl
def zDF{fs a tg b}:dS fs (.sForR1 a tg b)=GK (sForR1 (dA fs a) tg.m (dB fs b)):=rfl
def G2{fs t b}:dS fs (.sWhile t b)=GK (DV.sWhile (dT fs t) (dB fs b)):=rfl
def uc{fs}:dB fs (.bNil)=zEj:=rfl
def Y9{fs s}:dB fs (.bOne s)=dS fs s:=rfl
def J5{fs s b}:dB fs (.bSeq s b)=zBm (dS fs s) (dB fs b):=rfl
structure Sg where
 N:List Str
 sc:Scope
 top:Bool
 cs:List (Str×D)
 fs:List FI
 bs:List Str
 lv:Nat
 calm:Bool
 cl:List Str
 rs:List Str
 oc:List Str
 ri:List Str
def kIs(sg:Sg)(x:Str)(k:NameKind):Bool:=sg.sc.names.lookup x==some k
def vis(sg:Sg)(i:Nat)(x:Str):Bool:=sg.N[i]?==some x&&(kIs sg x .local||(kIs sg x .cell||kIs sg x .free))&&(!(x==("__debug__":Str))&&!(x==("__classdict__":Str)))
def glb(sg:Sg)(x:Str):Bool:=kIs sg x .globalImplicit&&!(x==("__debug__":Str))
def locd(sg:Sg)(i:Nat)(x:Str):Bool:=sg.N[i]?==some x&&(kIs sg x .local||(kIs sg x .cell&&(sg.top||sg.oc.contains x)))
def cIs:D->Const->Bool
 | .non,.none=>true| .bl b,.bool c=>b==c| .int i,.int j=>i==j| .str x,.str y=>x==y|_,_=>false
def feq:D->D->Bool
 | .non,.non=>true| .bl b,.bl c=>b==c| .int i,.int j=>i==j| .str x,.str y=>x==y|_,_=>false
def geq:D->D->Bool
 | .t [.int a,.int b],.t [.int c,.int d]=>a==c&&b==d| .t [.non,.int b],.t [.non,.int d]=>b==d|d,e=>feq d e
def gIs(sg:Sg)(x:Str)(d:D):Bool:=match sg.cs.lookup x with
 |some d'=>geq d d'|none=>false
def fIs(sg:Sg)(k:Nat)(x:Str):Bool:=match sg.fs[k]? with
 |some i=>i.x==x|none=>false
def fArg(sg:Sg)(n:Nat)(k:Nat):Bool:=match sg.fs[k]? with
 |some i=>i.n==n&&decide (i.lv<=sg.lv)&&(sg.calm||i.wild)
 |none=>false
def bIn(sg:Sg)(x:Str):Bool:=sg.bs.contains x
def gLen:Gx->Nat
 | .ev _ as=>gLen as+1| .lend _ as=>gLen as+1| .nil=>0
def zDG:Tg->Sg->Expr->Bool
 | .n i,sg,e=>match e with
  | .Name x _=>locd sg i x|_=>false
 | .t is,sg,e=>match e with
  | .Tuple es _ _=>all2 sg is es|_=>false
where all2 (sg:Sg):List Nat->List Expr->Bool
 | [],[]=>true
 |i::is,e::es=>(match e with | .Name x _=>locd sg i x|_=>false)&&all2 sg is es
 |_,_=>false
def relab(scope:Scope)(sc:Scope):Scope:={scope with names:=scope.names.map λ(n,k)=>if(k==NameKind.free&&sc.kind==.function&&sc.names.lookup n==some .cell)then(n,NameKind.cell)else(n,k)}
def capB(sg:Sg)(scope:Scope):List Nat->List Str->Bool
 | [],[]=>true|j::js,x::xs=>sg.N[j]?==some x&&scope.names.lookup x==some .free&&capB sg scope js xs|_,_=>false
def Qt(sg:Sg)(N:List Str)(scope:Scope):Sg:={sg with N:=N,sc:=relab scope sg.sc,top:=false,oc:=(scope.names.filter λy=>y.2==.cell).map Prod.fst}
def zFL(sg:Sg)(nl:Nat)(loc capn:List Str)(caps:List Nat)(scope:Scope):Bool :=
 loc.length==nl&&scope.kind==.function&&decide (loc++capn).Nodup&&scope.names.all (λy=>y.2 != .local||scope.names.lookup y.1==some .local)&&scope.names.all (λy=>y.2 != .cell||scope.names.lookup y.1==some .cell)
  && scope.names.all (λy=>y.2 != .free||sg.sc.names.lookup y.1==some .cell)&&capB sg scope caps capn
def stIs:Bool->Expr->Bool
 |true,e=>match e with
  | .Constant (.int i) _ _=>i==2|_=>false
 |false,e=>match e with
  | .UnaryOp .USub (.Constant (.int i) _ _) _=>i==1|_=>false
def swOk(sg:Sg)(es:List Expr)(v:Expr):Bool:=match v with
 | .Tuple vs _ _=>es.any (λe=>match e with | .Name x _=>!(kIs sg x .local)|_=>true)||vs.all (foldedForSure 8)
 |_=>true
def swB(sg:Sg)(x:Str)(px:Pos)(scope:Scope)(vp:Pos):Bool:=kIs sg x .local&&px.line==vp.line&&!(scope.names.any λy=>y.1==x&&(y.2==.local||y.2==.cell))
def isCo:Ex->Bool
 | .comp _ _ _ _ _ _ _ _=>true|_=>false
def setOk(sg:Sg)(x:Str)(px:Pos)(a:Ex)(v:Expr):Bool:=match v with
 | .ListComp _ _ scope vp=>sg.sc.kind==.function&&(!swB sg x px scope vp||isCo a)
 |v=>Jx v
def zFM(sg:Sg)(i j:Nat)(x y:Str)(px py:Pos)(a b:Expr):Bool :=
 sg.sc.kind==.function&&sg.N[i]?==some x&&sg.N[j]?==some y&&i != j&&kIs sg x .local&&kIs sg y .local&&py.line==px.line&&!(x==y)&&!zX a&&!zX b&&!([a,b].all (foldedForSure 8))&&!([a,b].all (constantsAlone 8))
def isTr:Tx->Bool
 | .tTr=>true|_=>false
def chkZ:Ix->Expr->Bool
 | .iZ _ _ _,e=>match e with
  | .Tuple _ _ _=>true|_=>false
 | .iE _ _,e=>match e with
  | .Tuple _ _ _=>true|_=>false
 |_,_=>true
structure SgOk(X:Cx)(sg:Sg):Prop where
 N:X.N=sg.N
 sc:X.env.scope=sg.sc
 fn:sg.top=true->∀x,X.fn x=true
 oc:∀x∈sg.oc,X.env.scope.names.lookup x=some .cell->X.fn x=true
 calm:sg.calm=true->X.calm=true
 hd:sg.calm=true->X.A.handled=none
 stk:sg.top=true->X.stack=X.env::X.outer/\X.env.frame=some X.env.locals
 nd:X.N.Nodup
 cs:∀x d,sg.cs.lookup x=some d->∃u v,X.mg x=some u/\yp v u/\∀H,Rep X.K X.mg H d v
 fs:∀i∈sg.fs,∃f fd ps,X.mg i.x=some (.ref f)/\keepIn X.K (.ref f)=true/\Zs X.K fd ps []/\ps.length=i.n/\FnOkN (!i.wild) X.prog X.w X.K X.mg X.base i.lv f fd ps (spM X.K X.mg i.n i.F)
 bs:∀x∈sg.bs,X.mg x=none
 room:RoomN sg.lv X.A
 cl:sg.cl≠[]->∃T,X.mg "ThrowError"=some (.ref T)/\TCls X.K T/\∀c∈sg.cl,∃C,X.mg c=some (.ref C)/\XCls X.K c C T/\C≠T
 rs:∀c∈sg.rs,∃C,X.mg c=some (.ref C)/\excIn X.K C VB "ValueError.__new__"=true
 sm:zCx X.K
 ri:∀c∈sg.ri,RIok X.prog X.w X.K X.mg X.base c/\RAok X.K X.mg c
section
variable{X:Cx}{sg:Sg}
def ww(G:SgOk X sg){x:Str}{k:NameKind}(h:kIs sg x k=true):X.env.scope.names.lookup x=some k:=by
 rw[G.sc];simpa[kIs]using h
def wF(G:SgOk X sg){x:Str}(h:glb sg x=true):Gl X x/\(x==("__debug__":Str))=false:=by
 simp only[glb,Bool.and_eq_true,Bool.not_eq_true']at h;exact⟨ww G h.1,h.2⟩
def Jk(G:SgOk X sg){x:Str}{i:Nat}{pos:Pos}(h:vis sg i x=true):PE X (.Name x pos) (vd i):=by
 simp only[vis,Bool.and_eq_true,Bool.or_eq_true,Bool.not_eq_true']at h;refine pe_var (by rw[G.N];simpa using h.1.1) ?_ h.2.1 h.2.2;rcases h.1.2 with q|q|q
 ·exact .inl (ww G q)
 ·exact .inr (.inl (ww G q))
 ·exact .inr (.inr (ww G q))
def Qu(G:SgOk X sg){x:Str}{i:Nat}(h:locd sg i x=true):X.N[i]?=some x/\Loc X.env.scope x/\(X.fn x=true\/X.env.scope.names.lookup x=some .local):=by
 simp only[locd,Bool.and_eq_true,Bool.or_eq_true]at h;refine⟨by rw[G.N];simpa using h.1,?_⟩;rcases h.2 with q|q
 ·exact⟨.inl (ww G q),.inr (ww G q)⟩
 ·refine⟨.inr (ww G q.1),.inl ?_⟩
  rcases q.2 with q2|q2
  ·exact G.fn q2 x
  ·exact G.oc x (by simpa using q2) (ww G q.1)
def Jl(G:SgOk X sg){x:Str}(h:bIn sg x=true):X.mg x=none:=G.bs x (by simpa[bIn]using h)
def feq_of{d d':D}(h:feq d d'=true):d=d':=by
 cases d<;>cases d'<;>simp[feq]at h<;>first|rfl|(subst h;rfl)
def geq_of{d d':D}(h:geq d d'=true):d=d':=by
 unfold geq at h;split at h
 ·obtain⟨h1,h2⟩:=Bool.and_eq_true_iff.mp h
  have:=beq_iff_eq.mp h1;have:=beq_iff_eq.mp h2
  subst_vars;rfl
 ·have:=beq_iff_eq.mp h
  subst_vars;rfl
 ·exact feq_of h
def ok_glR{x:Str}{d:D}{u:Value}{v:V}{pos:Pos}(hg:Gl X x)(hm:X.mg x=some u)(r:yp v u)(hr:∀H,Rep X.K X.mg H d v)(hd:(x==("__debug__":Str))=false):EOk X (.Name x pos) (eC d) :=
 zu (pe_glob hg hm r hd) λO H Q ⟨M,E,hl,fr,k⟩=>k _ H ((Got.refl (T0:=[]) hl fr).more (T:=[(some v,.v d)]) (FR.add fr (hr _)) Step.refl.add)
def fIs_of{k:Nat}{x:Str}(h:fIs sg k x=true):∃i,sg.fs[k]?=some i/\i.x=x:=by
 unfold fIs at h;split at h
 ·rename_i i e;exact⟨i,e,by simpa using h⟩
 ·cases h
def fArg_of{k n:Nat}(h:fArg sg n k=true):∃i,sg.fs[k]?=some i/\i.n=n/\i.lv<=sg.lv/\(sg.calm||i.wild)=true:=by
 unfold fArg at h;split at h
 ·rename_i i e
  simp only[Bool.and_eq_true,decide_eq_true_eq,beq_iff_eq]at h;exact⟨i,e,h.1.1,h.1.2,by simpa using h.2⟩
 ·cases h
def hd_of(G:SgOk X sg){b:Bool}(h:(sg.calm||b)=true):(!b)=true->X.A.handled=none:=λhb=>G.hd (by
 cases b with
 |true=>cases hb|false=>simpa using h)
def fiF_of{fs:List FI}{k:Nat}{i:FI}(h:fs[k]?=some i):fiF fs k=i.F/\fiX fs k=i.x:=by
 unfold fiF fiX;rw[h];exact⟨rfl,rfl⟩
def ZA{b:Expr}(h:uN b=true):WJ b:=by
 intro o i;cases b<;>first|rfl|(cases h)
def Ze(es:List Expr)(is:List Nat)(G:SgOk X sg)(h:zDG.all2 sg is es=true):PGs X es (J1 is)/\(assignEach es X.env).length=is.length/\(assignEach es X.env).findIdx? (·.1)=none:=by
 induction es generalizing is with
 |nil =>
  cases is with
  |nil=>exact⟨zBx,rfl,rfl⟩|cons i is=>cases h
 |cons e es ih =>
  cases is with
  |nil=>cases h
  |cons i is =>
   simp only[zDG.all2,Bool.and_eq_true]at h;obtain⟨h1,h2⟩:=h;cases e with
   |Name x pos =>
    obtain⟨q1,q2,q3⟩:=Qu G h1;obtain⟨i1,i2,i3⟩:=ih is h2;refine⟨uC (zBw G.nd q1 q2 q3) i1 rfl,?_,?_⟩
    ·show(assignEach es X.env).length+1=_
     rw[i2];rfl
    ·show List.findIdx? _ ((false,_)::assignEach es X.env)=none
     simp only[List.findIdx?_cons,i3];rfl
   |_=>cases h1
def gOf(K:qH):Tg->TG
 | .n i=>QR i| .t is=>gTup K is.length (J1 is)
def uD(tg:Tg):GOk X (gOf X.K tg) tg.m:=by
 cases tg with
 |n i=>exact go_name i|t is=>exact zGA is rfl
def zDH{tg:Tg}{t:Expr}(hcm:sg.calm=true)(G:SgOk X sg)(h:zDG tg sg t=true):PG X t (gOf X.K tg):=by
 cases tg with
 |n i =>
  simp only[zDG]at h;cases t with
  |Name x pos =>
   obtain⟨q1,q2,q3⟩:=Qu G h;exact zBw G.nd q1 q2 q3
  |_=>cases h
 |t is =>
  simp only[zDG]at h;cases t with
  |Tuple es k pos =>
   obtain⟨q1,q2,q3⟩:=Ze es is G h;exact zBy (G.calm hcm) q1 q2 q3
  |_=>cases h
def zAp(G:SgOk X sg){N:List Str}{scope:Scope}(hn:N.Nodup)(hcell:∀y∈scope.names,y.2=.cell->scope.names.lookup y.1=some .cell){cl C ex s H}:SgOk (cxB X N scope cl C ex s H) (Qt sg N scope) where
 N:=rfl
 sc:=by
  show relabel scope X.env=relab scope sg.sc
  rw[<- G.sc];rfl
 fn:=λh=>by cases h
 oc:=λx h _=>by
  obtain⟨y,hy,rfl⟩:=mem_map.mp (show x∈(scope.names.filter λy=>y.2==.cell).map Prod.fst from h);obtain⟨q1,q2⟩:=mem_filter.mp hy;show(scope.names.lookup y.1==some NameKind.cell)=true;rw[hcell y q1 (by simpa using q2)];rfl
 calm:=G.calm
 hd:=G.hd
 stk:=λh=>by cases h
 nd:=hn
 cs:=G.cs
 fs:=G.fs
 bs:=G.bs
 room:=G.room
 cl:=G.cl
 rs:=G.rs
 sm:=G.sm
 ri:=G.ri
def yu(G:SgOk X sg):SgOk X.nox sg:=⟨G.N,G.sc,G.fn,G.oc,G.calm,G.hd,G.stk,G.nd,G.cs,G.fs,G.bs,G.room,G.cl,G.rs,G.sm,G.ri⟩
end
section
open Bool
def kit_of(K:qH)(T:Ty):Kit K T.s:=by
 cases T
 ·exact kit_int K
 ·exact zEt K
 ·exact zCo K
 ·exact zEu K
 ·exact kit_str K
 ·exact zEv K
def bt_of(T:Ty):bootBuiltins T.nm=some (.type T.s):=by
 cases T
 ·exact zGD
 ·exact bt_bool
 ·exact zAb
 ·exact zCp
 ·exact bt_str
 ·exact zCq
def nm_of(T:Ty):T.nm≠"__name__":=by cases T<;>decide +kernel
def bin_of{X:Cx}{o:Op2}{a b:Expr}{ma mb:ME}{pos:Pos}(ha:EOk X a ma)(hb:EOk X b mb):EOk X (.BinOp a o.op b pos) (WN o.f ma mb):=by
 cases o
 ·exact zBV op_addD ro_add ha hb
 ·exact zBV op_sub ro_sub ha hb
 ·exact zBV (op_mulD.or op_repL) ro_mulG ha hb
 ·exact zBV zEd ro_fdiv ha hb
 ·exact zBV op_mod ro_mod ha hb
 ·exact zBV op_pow ro_pow ha hb
def zAq{X:Cx}{sg:Sg}(G:SgOk X sg):X.A.units+21<cLine:=by have:=G.room.un;omega
def zAr{X:Cx}{sg:Sg}(G:SgOk X sg):X.A.units+20<cLine:=by have:=G.room.un;omega
def bt_sum:bootBuiltins "sum"=some (.builtin "sum"):=by decide +kernel
def bt_abs:bootBuiltins "abs"=some (.builtin "abs"):=by decide +kernel
def bt_repr:bootBuiltins "repr"=some (.builtin "repr"):=by decide +kernel
def room64{X:Cx}{sg:Sg}(G:SgOk X sg):X.A.units+64<cLine:=by have:=G.room.un;omega
def yU{op:CmpOp}{b:Expr}(h:wD b=true):behindInMarks op b=false:=by
 cases b<;>first|rfl|(cases h)
def cmp_of{X:Cx}{sg:Sg}(G:SgOk X sg){o:Cp}{a b:Expr}{ma mb:ME}{pos:Pos}(hn:wD b=true)(ha:EOk X a ma)(hb:EOk X b mb):EOk X (.Compare a [o.op] [b] pos) (WN o.f ma mb):=by
 cases o
 ·exact WO op_lt ro_lt (yU hn) ha hb
 ·exact WO op_le ro_le (yU hn) ha hb
 ·exact WO op_gt ro_gt (yU hn) ha hb
 ·exact WO op_ge ro_ge (yU hn) ha hb
 ·exact WO (op_eq.or (zGK G.sm (zAq G))) zGF (yU hn) ha hb
 ·exact WO (op_ne.or (zGL G.sm (zAq G))) zGG (yU hn) ha hb
 ·exact WO ZW (ro_in (neg:=true)) (yU hn) ha hb
def cmpT_of{X:Cx}{sg:Sg}(G:SgOk X sg){o:Cp}{a b:Expr}{ma mb:ME}{pos:Pos}(hn:wD b=true)(ha:EOk X a ma)(hb:EOk X b mb):TOk X (.Compare a [o.op] [b] pos) (tT (WN o.f ma mb)):=by
 cases o
 ·exact Jz op_lt ro_lt (yU hn) ha hb
 ·exact Jz op_le ro_le (yU hn) ha hb
 ·exact Jz op_gt ro_gt (yU hn) ha hb
 ·exact Jz op_ge ro_ge (yU hn) ha hb
 ·exact Jz (op_eq.or (zGK G.sm (zAq G))) zGF (yU hn) ha hb
 ·exact Jz (op_ne.or (zGL G.sm (zAq G))) zGG (yU hn) ha hb
 ·exact Jz ZW (ro_in (neg:=true)) (yU hn) ha hb
def zDI{o o':CmpOp}{b c:Expr}(h:wD c=true):lastMarks [o,o'] [b,c]=false:=yU h
def zAs{X:Cx}{o:Cp}(h:o.isI=true):OpR X (compareOp o.op) (rI0 λi j=>.bl (o.b i j)):=by
 cases o<;>first|exact op_lt|exact op_le|exact op_gt|exact op_ge|(cases h)
def bi_of{X:Cx}{sg:Sg}(hcm:sg.calm=true)(G:SgOk X sg)(b:Bi){x:Expr}{es:List Expr}{m:MA}{p pos:Pos}(hg:Gl X b.nm)(hm:X.mg b.nm=none)(hs:jk (x::es)=true)(ha:AOk X (x::es) m):EOk X (.Call (.Name b.nm p) (x::es) [] pos) (eCB b.f m):=by
 have h1:zX x=false:=by simp only[jk,Bool.and_eq_true,Bool.not_eq_true']at hs;exact hs.1
 have h2:jk es=true:=by simp only[jk,Bool.and_eq_true,Bool.not_eq_true']at hs;exact hs.2
 cases b with
 |len=>exact Jc GV co_len hg hm bt_len ha (by decide +kernel) (by decide +kernel) h1 h2|max=>exact Jc (zB9 (G.calm hcm)) co_max hg hm bt_max ha (by decide +kernel) (by decide +kernel) h1 h2|all=>exact Jc (zEV (G.calm hcm)) co_all hg hm bt_all ha (by decide +kernel) (by decide +kernel) h1 h2|int=>exact WR zCA co_int hg hm zGD ha (by decide +kernel) (by decide +kernel) h1 h2|tuple=>exact WR uI zEg hg hm zAb ha (by decide +kernel) (by decide +kernel) h1 h2|list=>exact WR GW co_list hg hm zCp ha (by decide +kernel) (by decide +kernel) h1 h2|sum=>exact Jc (call_or (zCu (G.calm hcm)) (zCv (G.calm hcm))) co_sumG hg hm bt_sum ha (by decide +kernel) (by decide +kernel) h1 h2|abs=>exact Jc zEI co_absG hg hm bt_abs ha (by decide +kernel) (by decide +kernel) h1 h2|repr=>exact Jc (zBY G.sm G.room.gd (room64 G)) co_repr hg hm bt_repr ha (by decide +kernel) (by decide +kernel) h1 h2
theorem zDJ(fs:List FI):∀as:Gx,(dG fs as).length=gLen as
 | .nil=>rfl| .ev a as=>congrArg (·+1) (zDJ fs as)| .lend i as=>congrArg (·+1) (zDJ fs as)
def call_ok{X:Cx}{sg:Sg}(G:SgOk X sg){k:Nat}{as:Gx}{f:Str}{x:Expr}{es:List Expr}{p pos:Pos}(h1:glb sg f=true)(h2:fIs sg k f=true)(h3:fArg sg (gLen as) k=true)(h4:jk (x::es)=true)(ha:zD4 X (x::es) (dG sg.fs as)):EOk X (.Call (.Name f p) (x::es) [] pos) (wT (fiF sg.fs k) (dG sg.fs as)):=by
 obtain⟨g1,g2⟩:=wF G h1;obtain⟨i,e1,e2⟩:=fIs_of h2;obtain⟨i',e1',e3,e4,e5⟩:=fArg_of h3;rw[e1]at e1';cases e1';obtain⟨a,fd,ps,m1,m2,m3,m4,m5⟩:=G.fs i (mem_of_getElem? e1);rw[(fiF_of e1).1];subst e2;simp only[jk,Bool.and_eq_true,Bool.not_eq_true']at h4;rw[<- m4]at m5;exact ok_call m5 (hd_of G e5) (G.room.mono e4) g1 m1 m2 m3 ha (by rw[zDJ,m4,e3]) g2 h4.1 h4.2
theorem zDK{X:Cx}{sg:Sg}(G:SgOk X sg){scope:Scope}:∀{caps:List Nat} {capn:List Str},capB sg scope caps capn=true->zCs X scope caps capn
 | [],[],_=>trivial| [],_::_,h=>by cases h|_::_,[],h=>by cases h
 |j::js,x::xs,h=>by
  simp only[capB,Bool.and_eq_true]at h;exact⟨by rw[G.N];simpa using h.1.1,by simpa using h.1.2,zDK G h.2⟩
end
section
def zAt{x:Str}{p p1:Pos}{b:Expr}{env:Env}(h:uN b=true):∀v,assign (.Subscript (.Name x p) b p1) env v=(do
   let ov <- holding [v] (eval (.Name x p) env)
   let iv <- holding [v,ov] (eval b env)
   standAt p1
   holding [v,ov,iv] (setItem ov iv v)
   release [v,ov,iv] []):=by
 intro v;cases b<;>first|rfl|(cases h)
def ud{t e:Expr}{l:Nat}{env:Env}(h:Jx e=true):swapsWithSole [t] e l env=pure false:=by
 show swapsWith e (some t) l env=pure false
 exact uM h
def zFN{a b e:Expr}{p:Pos}{l:Nat}{env:Env}:swapsWithSole [.Subscript a b p] e l env=pure false:=by cases e<;>rfl
def sw_sub{a b c d:Expr}{p q r:Pos}{k:Nat}{env:Env}(e:Expr):swappedStores [.Tuple [.Subscript a b p,.Subscript c d q] k r] e env=pure none:=by
 cases e with
 |Tuple vs k2 p2 =>
  unfold swappedStores;simp only[length,filterMap];split
  ·rfl
  ·split
   ·rfl
   ·rfl
 |_=>rfl
def st_of{X:Cx}{k:Bool}{st:Expr}(h:stIs k st=true):PE X st (tC (.int (ya k))):=by
 cases k with
 |true =>
  simp only[stIs]at h;split at h
  ·have:=beq_iff_eq.mp h;subst this
   exact zBt
  ·cases h
 |false =>
  simp only[stIs]at h;split at h
  ·have:=beq_iff_eq.mp h;subst this
   exact zu (pe_un zFr zBt) λO H Q q=>⟨1,rfl,q⟩
  ·cases h
def zDL{X:Cx}{sg:Sg}(G:SgOk X sg)(h:(sg.sc.kind==ScopeKind.function)=true):X.env.blockKind=.function:=by
 have:X.env.scope.kind=.function:=by rw[G.sc];exact beq_iff_eq.mp h
 unfold Env.blockKind;rw[this];rfl
def zGU{X:Cx}{sg:Sg}(G:SgOk X sg)(hk:(sg.sc.kind==ScopeKind.function)=true){el:Expr}{gs:List Comprehension}{scope:Scope}{vp px:Pos}{x:Str}{l:Nat}:swapsWith (.ListComp el gs scope vp) (some (.Name x px)) l X.env=pure (swB sg x px scope vp):=by
 show(pure (X.env.blockKind==.function&&X.env.kindOf x==some .local&&px.line==vp.line&&!(scope.names.any λ(n,k)=>n==x&&(k==.local||k==.cell))):Sem Bool)=_
 rw[zDL G hk];unfold swB kIs Env.kindOf;rw[G.sc];simp
theorem zGV{α β:Type}(f:α->Option β):∀l:List α,(l.filterMap f).length<=l.length
 | []=>le_refl _
 |a::l=>by
  have:=zGV f l;rw[filterMap_cons];split
  ·simp only[length_cons];omega
  ·simp only[length_cons];omega
theorem fm_lt{α β:Type}(f:α->Option β):∀l:List α,(∃a∈l,f a=none)->(l.filterMap f).length<l.length
 | [],h=>by obtain⟨a,h,_⟩:=h;cases h
 |b::l,h=>by
  obtain⟨a,hm,hf⟩:=h;rw[filterMap_cons];rcases mem_cons.mp hm with rfl|hm
  ·rw[hf]
   have:=zGV f l;simp only[length_cons];omega
  ·have:=fm_lt f l ⟨a,hm,hf⟩
   split
   ·simp only[length_cons];omega
   ·simp only[length_cons];omega
def sw_ok{X:Cx}{sg:Sg}(G:SgOk X sg){es:List Expr}{k:Nat}{p:Pos}{v:Expr}(h:swOk sg es v=true):swappedStores [.Tuple es k p] v X.env=pure none:=by
 cases v with
 |Tuple vs k2 p2 =>
  unfold swappedStores;dsimp only;split
  ·rfl
  split
  ·rfl
  split
  ·rfl
  rename_i hn;split
  ·rfl
  rename_i hf
  exfalso
  rcases Bool.or_eq_true _ _ |>.mp h with h|h
  ·obtain⟨e,he,hk⟩:=List.any_eq_true.mp h
   refine hn (Bool.or_eq_true _ _ |>.mpr (.inl ?_));refine bne_iff_ne.mpr (ne_of_lt (fm_lt _ es ⟨e,he,?_⟩));cases e with
   |Name x q =>
    have:X.env.kindOf x≠some .local:=λz=>by
     have z':sg.sc.names.lookup x=some .local:=by rw[<- G.sc];exact z
     simp[kIs,z']at hk
    have e1:(X.env.kindOf x==some NameKind.local)=false:=by simpa using this
    simp[e1]
   |_=>rfl
  ·exact hf h
 |_=>rfl
def sw_par0{env:Env}{x y:Str}{px py p p2:Pos}{a b:Expr}{kt k2:Nat}(hk:env.blockKind=.function)(hx:env.kindOf x=some .local)(hy:env.kindOf y=some .local)(hl:py.line=px.line)(hxy:(x==y)=false)(ha:zX a=false)(hb:zX b=false)(hf:[a,b].all (foldedForSure 8)=false)(hc:[a,b].all (constantsAlone 8)=false) :
  swappedStores [.Tuple [.Name x px,.Name y py] kt p] (.Tuple [a,b] k2 p2) env=pure (some [x,y]):=by
 have sa:∀e:Expr,(match e with | .Starred _ _=>true|_=>false)=zX e:=λe=>by cases e<;>rfl
 have e1:([Expr.Name x px,Expr.Name y py].filterMap fun
  | .Name id pos=>if env.kindOf id==some .local&&pos.line==px.line then some id else none|_=>none)=[x,y]:=by simp[hx,hy,hl]
 have e2:[x,y].eraseDups.length=2:=by
  have:y≠x:=λz=>by subst z;simp at hxy
  have h2:(y==x)=false:=by simpa using this
  simp[List.eraseDups,List.eraseDupsBy,List.eraseDupsBy.loop,h2]
 have e3:([a,b].any fun | .Starred ..=>true|_=>false)=false:=by
  simp only[any_cons,List.any_nil,Bool.or_false];rw[sa,sa,ha,hb];rfl
 show(if !(2==2||2==3)||2 != 2||env.blockKind != .function then pure none else if([a,b].any fun | .Starred ..=>true|_=>false)then pure none else
  (let names:=([Expr.Name x px,Expr.Name y py].filterMap fun
  | .Name id pos=>if env.kindOf id==some .local&&pos.line==px.line then some id else none|_=>none)
  if names.length != 2||names.eraseDups.length != names.length then pure none else if [a,b].all (foldedForSure 8)then pure none else if [a,b].all (constantsAlone 8)then(do unsupported "assign.tuple-of-constant-expressions:order-of-the-stores";pure (some names))else pure (some names)):Sem (Option (List Str)))=_
 rw[hk,e3,e1,hf,hc];simp[e2]
def sw_par{X:Cx}{sg:Sg}(G:SgOk X sg){i j:Nat}{x y:Str}{px py p p2:Pos}{a b:Expr}{kt k2:Nat}(h:zFM sg i j x y px py a b=true):swappedStores [.Tuple [.Name x px,.Name y py] kt p] (.Tuple [a,b] k2 p2) X.env=pure (some [x,y]):=by
 unfold zFM at h;simp only[Bool.and_eq_true,Bool.not_eq_true',beq_iff_eq,bne_iff_ne]at h;obtain⟨⟨⟨⟨⟨⟨⟨⟨⟨⟨⟨kk,_⟩,_⟩,_⟩,l1⟩,l2⟩,ln⟩,xy⟩,sa⟩,sb⟩,f1⟩,f2⟩:=h;exact sw_par0 (zDL G (by rw[kk];rfl)) (ww G l1) (ww G l2) ln xy sa sb f1 f2
def zGW{X:Cx}{op:BoolOp}{vs:List Expr}{p:Pos}{m:MT}(h:TOk X (.BoolOp op vs p) m):WOk X (.BoolOp op vs p) m:=λwh=>h
def zGX{e:Expr}{env:Env}{cpos:Pos}(h:zX e=false):((backTo cpos (starEach (e::[]) env)).all (λx=>!x.1)&&(backToKw cpos (keywordEach [] env)).all (λx=>x.1.isSome)
   && decide ((e::([]:List Expr)).length+([]:List Keyword).length+(if([]:List Keyword).isEmpty then 0 else 1)<30))=true:=by
 rw[zf h];rfl
def zL{a b:Bool}(h:(a&&b)=true):a=true/\b=true:=by simpa using h
def nst{a:Bool}(h:(!a)=true):a=false:=by simpa using h
def zGY{X:Cx}{fs:List FI}{tt:Tx}(h:isTr tt=true):IfOk X [] (dT fs tt):=by
 cases tt<;>first|(cases h;done)|exact ifk_nil
structure Ck(P:Prop) where
 yes:Bool
 why:yes=true->P
instance {P:Prop}:Inhabited (Ck P):=⟨⟨false,λh=>nomatch h⟩⟩
@[elab_as_elim] def qAnd{M:BoolOp->Type}[∀e,Inhabited (M e)](e:BoolOp)(f:M .And):M e:=match e with
 | .And=>f|_=>default
@[elab_as_elim] def qAssign{M:Stmt->Type}[∀e,Inhabited (M e)](e:Stmt)(f:∀a b c,M (.Assign a b c)):M e:=match e with
 | .Assign a b c=>f a b c|_=>default
@[elab_as_elim] def qAttribute{M:Expr->Type}[∀e,Inhabited (M e)](e:Expr)(f:∀a b c,M (.Attribute a b c)):M e:=match e with
 | .Attribute a b c=>f a b c|_=>default
@[elab_as_elim] def qBinOp{M:Expr->Type}[∀e,Inhabited (M e)](e:Expr)(f:∀a b c d,M (.BinOp a b c d)):M e:=match e with
 | .BinOp a b c d=>f a b c d|_=>default
@[elab_as_elim] def qBoolOp{M:Expr->Type}[∀e,Inhabited (M e)](e:Expr)(f:∀a b c,M (.BoolOp a b c)):M e:=match e with
 | .BoolOp a b c=>f a b c|_=>default
@[elab_as_elim] def qCall{M:Expr->Type}[∀e,Inhabited (M e)](e:Expr)(f:∀a b c d,M (.Call a b c d)):M e:=match e with
 | .Call a b c d=>f a b c d|_=>default
@[elab_as_elim] def qCompare{M:Expr->Type}[∀e,Inhabited (M e)](e:Expr)(f:∀a b c d,M (.Compare a b c d)):M e:=match e with
 | .Compare a b c d=>f a b c d|_=>default
@[elab_as_elim] def qConstant{M:Expr->Type}[∀e,Inhabited (M e)](e:Expr)(f:∀a b c,M (.Constant a b c)):M e:=match e with
 | .Constant a b c=>f a b c|_=>default
@[elab_as_elim] def qDict{M:Expr->Type}[∀e,Inhabited (M e)](e:Expr)(f:∀a b c,M (.Dict a b c)):M e:=match e with
 | .Dict a b c=>f a b c|_=>default
@[elab_as_elim] def qExpr{M:Stmt->Type}[∀e,Inhabited (M e)](e:Stmt)(f:∀a b,M (.Expr a b)):M e:=match e with
 | .Expr a b=>f a b|_=>default
@[elab_as_elim] def qFor{M:Stmt->Type}[∀e,Inhabited (M e)](e:Stmt)(f:∀a b c d e,M (.For a b c d e)):M e:=match e with
 | .For a b c d e=>f a b c d e|_=>default
@[elab_as_elim] def qIf{M:Stmt->Type}[∀e,Inhabited (M e)](e:Stmt)(f:∀a b c d,M (.If a b c d)):M e:=match e with
 | .If a b c d=>f a b c d|_=>default
@[elab_as_elim] def qIfExp{M:Expr->Type}[∀e,Inhabited (M e)](e:Expr)(f:∀a b c d,M (.IfExp a b c d)):M e:=match e with
 | .IfExp a b c d=>f a b c d|_=>default
@[elab_as_elim] def qList{M:Expr->Type}[∀e,Inhabited (M e)](e:Expr)(f:∀a b,M (.List a b)):M e:=match e with
 | .List a b=>f a b|_=>default
@[elab_as_elim] def qListComp{M:Expr->Type}[∀e,Inhabited (M e)](e:Expr)(f:∀a b c d,M (.ListComp a b c d)):M e:=match e with
 | .ListComp a b c d=>f a b c d|_=>default
@[elab_as_elim] def qName{M:Expr->Type}[∀e,Inhabited (M e)](e:Expr)(f:∀a b,M (.Name a b)):M e:=match e with
 | .Name a b=>f a b|_=>default
@[elab_as_elim] def qNot{M:UnaryOp->Type}[∀e,Inhabited (M e)](e:UnaryOp)(f:M .Not):M e:=match e with
 | .Not=>f|_=>default
@[elab_as_elim] def qOr{M:BoolOp->Type}[∀e,Inhabited (M e)](e:BoolOp)(f:M .Or):M e:=match e with
 | .Or=>f|_=>default
@[elab_as_elim] def qReturn{M:Stmt->Type}[∀e,Inhabited (M e)](e:Stmt)(f:∀a b,M (.Return a b)):M e:=match e with
 | .Return a b=>f a b|_=>default
@[elab_as_elim] def qSlice{M:Expr->Type}[∀e,Inhabited (M e)](e:Expr)(f:∀a b c d,M (.Slice a b c d)):M e:=match e with
 | .Slice a b c d=>f a b c d|_=>default
@[elab_as_elim] def qSubscript{M:Expr->Type}[∀e,Inhabited (M e)](e:Expr)(f:∀a b c,M (.Subscript a b c)):M e:=match e with
 | .Subscript a b c=>f a b c|_=>default
@[elab_as_elim] def qTuple{M:Expr->Type}[∀e,Inhabited (M e)](e:Expr)(f:∀a b c,M (.Tuple a b c)):M e:=match e with
 | .Tuple a b c=>f a b c|_=>default
@[elab_as_elim] def qUSub{M:UnaryOp->Type}[∀e,Inhabited (M e)](e:UnaryOp)(f:M .USub):M e:=match e with
 | .USub=>f|_=>default
@[elab_as_elim] def qUnaryOp{M:Expr->Type}[∀e,Inhabited (M e)](e:Expr)(f:∀a b c,M (.UnaryOp a b c)):M e:=match e with
 | .UnaryOp a b c=>f a b c|_=>default
@[elab_as_elim] def qWhile{M:Stmt->Type}[∀e,Inhabited (M e)](e:Stmt)(f:∀a b c d,M (.While a b c d)):M e:=match e with
 | .While a b c d=>f a b c d|_=>default
@[elab_as_elim] def qCons{α:Type}{M:List α->Type}[∀e,Inhabited (M e)](e:List α)(f:∀a b,M (a::b)):M e:=match e with
 |a::b=>f a b| []=>default
@[elab_as_elim] def qNil{α:Type}{M:List α->Type}[∀e,Inhabited (M e)](e:List α)(f:M []):M e:=match e with
 | []=>f|_::_=>default
@[elab_as_elim] def qSome{α:Type}{M:Option α->Type}[∀e,Inhabited (M e)](e:Option α)(f:∀a,M (some a)):M e:=match e with
 |some a=>f a|none=>default
@[elab_as_elim] def qNone{α:Type}{M:Option α->Type}[∀e,Inhabited (M e)](e:Option α)(f:M none):M e:=match e with
 |none=>f|some _=>default
@[elab_as_elim] def qCm{M:Comprehension->Type}[∀e,Inhabited (M e)](e:Comprehension)(f:∀a b c,M ⟨a,b,c,0⟩):M e:=match e with
 |⟨a,b,c,0⟩=>f a b c|_=>default
def gkE{t:Ex}{sg:Sg}{e:Expr}{X:Cx}{c:Ck (∀X,SgOk X sg->EOk X e (dE sg.fs t))}(h:c.yes=true)(G:SgOk X sg):EOk X e (dE sg.fs t):=c.why h X G
def gkT{t:Tx}{sg:Sg}{e:Expr}{X:Cx}{c:Ck (∀X,SgOk X sg->TOk X e (dT sg.fs t))}(h:c.yes=true)(G:SgOk X sg):TOk X e (dT sg.fs t):=c.why h X G
def gkA{t:Ax}{sg:Sg}{e:List Expr}{X:Cx}{c:Ck (∀X,SgOk X sg->AOk X e (dA sg.fs t))}(h:c.yes=true)(G:SgOk X sg):AOk X e (dA sg.fs t):=c.why h X G
def gkG{t:Gx}{sg:Sg}{e:List Expr}{X:Cx}{c:Ck (∀X,SgOk X sg->zD4 X e (dG sg.fs t))}(h:c.yes=true)(G:SgOk X sg):zD4 X e (dG sg.fs t):=c.why h X G
def gkO{t:Ox}{sg:Sg}{e:Option Expr}{X:Cx}{c:Ck (∀X,SgOk X sg->OOk X e (dO sg.fs t))}(h:c.yes=true)(G:SgOk X sg):OOk X e (dO sg.fs t):=c.why h X G
def gkI{t:Ix}{sg:Sg}{e tg:Expr}{X:Cx}{c:Ck (∀X tg,SgOk X sg->chkZ t tg=true->IOk X tg e (dI sg.fs t))}(h:c.yes=true)(G:SgOk X sg)(z:chkZ t tg=true):IOk X tg e (dI sg.fs t):=c.why h X tg G z
def gkS{t:Sx}{sg:Sg}{e:Stmt}{X:Cx}{c:Ck (∀X,SgOk X sg->SOk X e (dS sg.fs t))}(h:c.yes=true)(G:SgOk X sg):SOk X e (dS sg.fs t):=c.why h X G
def gkB{t:Bx}{sg:Sg}{e:List Stmt}{X:Cx}{c:Ck (∀X,SgOk X sg->Qd X e (dB sg.fs t))}(h:c.yes=true)(G:SgOk X sg):Qd X e (dB sg.fs t):=c.why h X G
mutual
noncomputable def cE:(t:Ex)->(sg:Sg)->(e:Expr)->Ck (∀X,SgOk X sg->EOk X e (dE sg.fs t))
 | .c d,sg,e=>qConstant e λk _ _=>⟨cIs d k,λh X G=>by
   unfold cIs at h;split at h
   ·exact ok_non
   ·have:=(beq_iff_eq.mp h);subst this;exact ok_bl
   ·have:=(beq_iff_eq.mp h);subst this;exact ok_int
   ·have:=(beq_iff_eq.mp h);subst this;exact ok_str
   ·cases h⟩
 | .gl d,sg,e=>qName e λx _=>⟨glb sg x&&gIs sg x d,λh X G=>by
   obtain⟨h1,h2⟩:=zL h;obtain⟨g1,g2⟩:=wF G h1;unfold gIs at h2;split at h2
   ·rename_i d' e
    have:=geq_of h2;subst this;obtain⟨u,v,q1,q2,q3⟩:=G.cs x d e;exact ok_glR g1 q1 q2 q3 g2
   ·cases h2⟩
 | .var i,sg,e=>qName e λx _=>⟨vis sg i x,λh X G=>by
   exact ok_var i (Jk G h)⟩
 | .mov i,sg,e=>qName e λx _=>⟨vis sg i x,λh X G=>by
   exact ok_move i (Jk G h)⟩
 | .bin o a b,sg,e=>qBinOp e λx op y _=>⟨op==o.op&&((cE a sg x).yes&&(cE b sg y).yes),λh X G=>by
   obtain⟨h1,h2⟩:=zL h;obtain⟨h2,h3⟩:=zL h2;have:=beq_iff_eq.mp h1;subst this;exact bin_of (gkE h2 G) (gkE h3 G)⟩
 | .cmp o a b,sg,e=>qCompare e λx w1 w2 _=>qCons w1 λop w4=>qNil w4 <| qCons w2 λy w3=>qNil w3 <| ⟨op==o.op&&wD y&&((cE a sg x).yes&&(cE b sg y).yes),λh X G=>by
   obtain⟨h1,h2⟩:=zL h;obtain⟨h1,h0⟩:=zL h1;obtain⟨h2,h3⟩:=zL h2;have:=beq_iff_eq.mp h1;subst this;exact cmp_of G h0 (gkE h2 G) (gkE h3 G)⟩
 | .chain o o' a b c,sg,e=>qCompare e λx w1 w2 _=>qCons w1 λop w5=>qCons w5 λop' w6=>qNil w6 <| qCons w2 λy w3=>qCons w3 λz w4=>qNil w4 <| ⟨op==o.op&&op'==o'.op&&o.isI&&o'.isI&&wD z&&((cE a sg x).yes&&((cE b sg y).yes&&(cE c sg z).yes)),λh X G=>by
   obtain⟨h1,h2⟩:=zL h;obtain⟨h1,k5⟩:=zL h1;obtain⟨h1,k4⟩:=zL h1;obtain⟨h1,k3⟩:=zL h1;obtain⟨k1,k2⟩:=zL h1;obtain⟨h2,h3⟩:=zL h2;obtain⟨h3,h4⟩:=zL h3;have:=beq_iff_eq.mp k1;subst this;have:=beq_iff_eq.mp k2;subst this;exact zEw (zAs k3) (zAs k4) (gkE h2 G) (gkE h3 G) (gkE h4 G) (zDI k5)⟩
 | .neg a,sg,e=>qUnaryOp e λw1 x _=>qUSub w1 <| ⟨(cE a sg x).yes,λh X G=>by
   exact ok_neg (gkE h G)⟩
 | .not a,sg,e=>qUnaryOp e λw1 x _=>qNot w1 <| ⟨(cE a sg x).yes,λh X G=>by
   exact ok_not (gkE h G)⟩
 | .and a b,sg,e=>qBoolOp e λw1 w2 p=>qAnd w1 <| qCons w2 λx w3=>qCons w3 λy r=>⟨(cE a sg x).yes&&(match r with | []=>(cE b sg y).yes|z::r'=>(cE b sg (.BoolOp .And (y::z::r') p)).yes),λh X G=>by
   obtain⟨h1,h2⟩:=zL h;cases r with
   |nil=>exact zF5 (gkE h1 G) (ok_one (gkE h2 G))|cons z r'=>exact zF5 (gkE h1 G) (gkE h2 G)⟩
 | .ifx t a b,sg,e=>qIfExp e λc x y _=>⟨(cT t sg c).yes&&((cE a sg x).yes&&(cE b sg y).yes),λh X G=>by
   obtain⟨h1,h2⟩:=zL h;obtain⟨h2,h3⟩:=zL h2;exact ok_if (gkT h1 G) (gkE h2 G) (gkE h3 G)⟩
 | .t as,sg,e=>qTuple e λes _ _=>⟨(cA as sg es).yes,λh X G=>by
   exact ok_tup (gkA h G)⟩
 | .l as,sg,e=>qList e λes _=>⟨(cA as sg es).yes,λh X G=>by
   exact ok_lst (gkA h G)⟩
 | .dic,sg,e=>qDict e λw1 w2 _=>qNil w1 <| qNil w2 <| ⟨true,λh X G=>by
   exact ok_dic pe_dicK⟩
 | .ix a b,sg,e=>qSubscript e λx y _=>⟨uN y&&((cE a sg x).yes&&(cE b sg y).yes),λh X G=>by
   obtain⟨h1,h2⟩:=zL h;obtain⟨h2,h3⟩:=zL h2;exact ok_ix ix_both ro_ix (ZA h1) (gkE h2 G) (gkE h3 G)⟩
 | .ixO i b,sg,e=>qSubscript e λw1 y _=>qName w1 λx _=>⟨vis sg i x&&uN y&&(cE b sg y).yes,λh X G=>by
   obtain⟨h1,h2⟩:=zL h;obtain⟨h1,h3⟩:=zL h1;exact ok_ixO i (Jk G h1) (gkE h2 G) (ZA h3)⟩
 | .sl a l hh,sg,e=>qSubscript e λx w1 _=>qSlice w1 λlo hi w2 _=>qNone w2 <| ⟨(cE a sg x).yes&&((cO l sg lo).yes&&(cO hh sg hi).yes),λh X G=>by
   obtain⟨h1,h2⟩:=zL h;obtain⟨h2,h3⟩:=zL h2;exact ok_sl (gkE h1 G) (gkO h2 G) (gkO h3 G)⟩
 | .comp nl loc capn caps it tg tt el,sg,e=>qListComp e λelt w1 scope _=>qCons w1 λw2 w3=>qCm w2 λtarget iter ifs=>qNil w3 <| ⟨sg.calm&&(zFL sg nl loc capn caps scope&&wD iter&&((chkZ it target&&(cI it sg iter).yes)&&(zDG tg (Qt sg (loc++capn) scope) target&&((match ifs with | []=>isTr tt|c::cs=>cs.isEmpty&&(cT tt (Qt sg (loc++capn) scope) c).yes)&&(cE el (Qt sg (loc++capn) scope) elt).yes)))),λh X G=>by
   obtain⟨hcm,h⟩:=zL h;obtain⟨h1,h2⟩:=zL h;obtain⟨h1,k9⟩:=zL h1;unfold zFL at h1;obtain⟨h1,k7⟩:=zL h1;obtain⟨h1,k6⟩:=zL h1;obtain⟨h1,k5⟩:=zL h1;obtain⟨h1,k4⟩:=zL h1;obtain⟨h1,k3⟩:=zL h1;obtain⟨k1,k2⟩:=zL h1;obtain⟨q1,q2⟩:=zL h2;obtain⟨q0,q1⟩:=zL q1;obtain⟨q2,q3⟩:=zL q2;obtain⟨q3,q4⟩:=zL q3;have nd:(loc++capn).Nodup:=of_decide_eq_true k3;have kc:∀y∈scope.names,y.2=.cell->scope.names.lookup y.1=some .cell:=λy hy hc=>by
    have:=all_eq_true.mp k5 y hy;rw[hc]at this;simpa using this
   have I:∀cl C ex s H,SgOk (cxB X.nox (loc++capn) scope cl C ex s H) (Qt sg (loc++capn) scope):=λ_ _ _ _ _=>zAp (yu G) nd kc
   refine no_E (ok_lc (X:=X.nox) loc capn (beq_iff_eq.mp k1) (λe s z=>z) (G.calm hcm) (beq_iff_eq.mp k2) (λy hy hl=>?_) (λy hy hc=>?_) (by rw[show X.env.kindOf=λn=>X.env.scope.names.lookup n from rfl,G.sc];exact k6) (zDK (yu G) k7) (gkI q1 (yu G) q0) (g:=gOf X.K tg) (λcl C ex s H=>zDH (sg:=Qt sg (loc++capn) scope) hcm (I cl C ex s H) q2) (uD tg) (λcl C ex s H=>?_) (λcl C ex s H=>gkE (sg:=Qt sg (loc++capn) scope) q4 (I cl C ex s H)) (wE k9))
   ·have:=all_eq_true.mp k4 y hy
    rw[hl]at this;simpa using this
   ·exact kc y hy hc
   ·cases ifs with
    |nil=>exact zGY q3
    |cons c cs =>
     obtain⟨q3,q5⟩:=zL q3;have:=isEmpty_iff.mp q3;subst this;exact zCk (gkT (sg:=Qt sg (loc++capn) scope) q5 (I cl C ex s H))⟩
 | .dzip t1 t2 as,sg,e=>qCall e λw1 w2 w3 _=>qName w1 λt _=>qCons w2 λw4 w5=>qCall w4 λw6 w7 w8 _=>qName w6 λf _=>qCons w7 λx w9=>qCons w9 λy w10=>qNil w10 <| qNil w8 <| qNil w5 <| qNil w3 <| ⟨sg.calm&&(t == "dict"&&f == "zip"&&glb sg "dict"&&bIn sg "dict"&&glb sg "zip"&&bIn sg "zip"&&!zX x&&!zX y&&(cA as sg [x,y]).yes),λh X G=>by
   obtain⟨hcm,h⟩:=zL h;obtain⟨h1,h2⟩:=zL h;obtain⟨h1,k8⟩:=zL h1;obtain⟨h1,k7⟩:=zL h1;obtain⟨h1,k6⟩:=zL h1;obtain⟨h1,k5⟩:=zL h1;obtain⟨h1,k4⟩:=zL h1;obtain⟨h1,k3⟩:=zL h1;obtain⟨k1,k2⟩:=zL h1;have:=beq_iff_eq.mp k1;subst this;have:=beq_iff_eq.mp k2;subst this;exact ok_dzip (G.calm hcm) (by have:=zAr G;omega) (wF G k3).1 (Jl G k4) zCq (wF G k5).1 (Jl G k6) (gkA h2 G) (nst k7) (nst k8)⟩
 | .frd i a,sg,e=>⟨(cE a sg e).yes,λh X G=>ok_frd i (gkE h G)⟩
 | .dgO i b,sg,e=>qSubscript e λw1 y _=>qName w1 λx _=>⟨vis sg i x&&uN y&&(cE b sg y).yes,λh X G=>by
   obtain⟨h1,h2⟩:=zL h;obtain⟨h1,h3⟩:=zL h1;exact ok_dgO i (by have:=zAr G;omega) (Jk G h1) (ZA h3) (gkE h2 G)⟩
 | .is T a,sg,e=>qCall e λw1 w2 w3 _=>qName w1 λf _=>qCons w2 λx w4=>qCons w4 λw5 w6=>qName w5 λy _=>qNil w6 <| qNil w3 <| ⟨f == "isinstance"&&y==T.nm&&glb sg "isinstance"&&bIn sg "isinstance"&&glb sg T.nm&&bIn sg T.nm&&!zX x&&(cE a sg x).yes,λh X G=>by
   obtain⟨h1,h2⟩:=zL h;obtain⟨h1,k7⟩:=zL h1;obtain⟨h1,k6⟩:=zL h1;obtain⟨h1,k5⟩:=zL h1;obtain⟨h1,k4⟩:=zL h1;obtain⟨h1,k3⟩:=zL h1;obtain⟨k1,k2⟩:=zL h1;have:=beq_iff_eq.mp k1;subst this;have:=beq_iff_eq.mp k2;subst this;exact ok_is (kit_of _ T) (wF G k3).1 (Jl G k4) (wF G k5).1 (Jl G k6) (bt_of T) (gkE h2 G) uW (nm_of T) (wF G k5).2 (nst k7)⟩
 | .cB b as,sg,e=>qCall e λw1 w2 w3 _=>qName w1 λf _=>qCons w2 λx es=>qNil w3 <| ⟨sg.calm&&(f==b.nm&&glb sg b.nm&&bIn sg b.nm&&jk (x::es)&&(cA as sg (x::es)).yes),λh X G=>by
   obtain⟨hcm,h⟩:=zL h;obtain⟨h1,h2⟩:=zL h;obtain⟨h1,k4⟩:=zL h1;obtain⟨h1,k3⟩:=zL h1;obtain⟨k1,k2⟩:=zL h1;have:=beq_iff_eq.mp k1;subst this;exact bi_of hcm G b (wF G k2).1 (Jl G k3) k4 (gkA h2 G)⟩
 | .call k as,sg,e=>qCall e λw1 w2 w3 _=>qName w1 λf _=>qCons w2 λx es=>qNil w3 <| ⟨glb sg f&&fIs sg k f&&fArg sg (gLen as) k&&jk (x::es)&&(cG as sg (x::es)).yes,λh X G=>by
   obtain⟨h1,h2⟩:=zL h;obtain⟨h1,k4⟩:=zL h1;obtain⟨h1,k3⟩:=zL h1;obtain⟨k1,k2⟩:=zL h1;exact call_ok G k1 k2 k3 k4 (gkG h2 G)⟩
 | .stp k a,sg,e=>qSubscript e λx w1 _=>qSlice w1 λw2 w3 w4 _=>qNone w2 <| qNone w3 <| qSome w4 λst=>⟨stIs k st&&(cE a sg x).yes,λh X G=>by
   obtain⟨h1,h2⟩:=zL h;exact ok_step k (gkE h2 G) (st_of h1)⟩
 | .frz a,sg,e=>⟨(cE a sg e).yes,λh X G=>ok_frz (gkE h G)⟩
 | .idxK a b,sg,e=>qCall e λw1 w2 w3 cp=>qAttribute w1 λw5 m ap=>qName w5 λx p=>qCons w2 λv w4=>qNil w4 <| qNil w3 <| ⟨m == "index"&&ap.endLine==cp.line&&!zX v&&((cE a sg (.Name x p)).yes&&(cE b sg v).yes),λh X G=>by
   obtain⟨h,h2⟩:=zL h;obtain⟨h2,h3⟩:=zL h2;obtain⟨h,k3⟩:=zL h;obtain⟨k1,k2⟩:=zL h;have:=beq_iff_eq.mp k1;subst this;exact ok_idxK G.sm (zAr G) (gkE h2 G) (gkE h3 G) rfl (nst k3) k2 (zGX (nst k3))⟩
noncomputable def cT:(t:Tx)->(sg:Sg)->(e:Expr)->Ck (∀X,SgOk X sg->TOk X e (dT sg.fs t))
 | .tAnd a b,sg,e=>qBoolOp e λw1 w2 p=>qAnd w1 <| qCons w2 λx w3=>qCons w3 λy r=>⟨(cT a sg x).yes&&(match r with | []=>(cT b sg y).yes|z::r'=>(cT b sg (.BoolOp .And (y::z::r') p)).yes),λh X G=>by
   obtain⟨h1,h2⟩:=zL h;cases r with
   |nil=>exact tk_w (zF4 (gkT h1 G) (wk_and1 (gkT h2 G)))|cons z r'=>exact tk_w (zF4 (gkT h1 G) (zGW (gkT h2 G)))⟩
 | .tOr a b,sg,e=>qBoolOp e λw1 w2 p=>qOr w1 <| qCons w2 λx w3=>qCons w3 λy r=>⟨(cT a sg x).yes&&(match r with | []=>(cT b sg y).yes|z::r'=>(cT b sg (.BoolOp .Or (y::z::r') p)).yes),λh X G=>by
   obtain⟨h1,h2⟩:=zL h;cases r with
   |nil=>exact tk_w (wk_or (gkT h1 G) (wk_or1 (gkT h2 G)))|cons z r'=>exact tk_w (wk_or (gkT h1 G) (zGW (gkT h2 G)))⟩
 | .tNot a,sg,e=>qUnaryOp e λw1 x _=>qNot w1 <| ⟨(cT a sg x).yes,λh X G=>by
   exact tk_not (gkT h G)⟩
 | .tE (.cmp o a b),sg,e=>qCompare e λx w1 w2 _=>qCons w1 λop w4=>qNil w4 <| qCons w2 λy w3=>qNil w3 <| ⟨op==o.op&&wD y&&((cE a sg x).yes&&(cE b sg y).yes),λh X G=>by
   obtain⟨h1,k1⟩:=zL h;obtain⟨h1,h0⟩:=zL h1;obtain⟨k2,k3⟩:=zL k1;have:=beq_iff_eq.mp h1;subst this;exact cmpT_of G h0 (gkE k2 G) (gkE k3 G)⟩
 | .tE (.chain o o' a b c),sg,e=>qCompare e λx w1 w2 _=>qCons w1 λop w5=>qCons w5 λop' w6=>qNil w6 <| qCons w2 λy w3=>qCons w3 λz w4=>qNil w4 <| ⟨op==o.op&&op'==o'.op&&o.isI&&o'.isI&&wD z&&((cE a sg x).yes&&((cE b sg y).yes&&(cE c sg z).yes)),λh X G=>by
   obtain⟨h1,j2⟩:=zL h;obtain⟨h1,k5⟩:=zL h1;obtain⟨h1,k4⟩:=zL h1;obtain⟨h1,k3⟩:=zL h1;obtain⟨k1,k2⟩:=zL h1;obtain⟨j2,j3⟩:=zL j2;obtain⟨j3,j4⟩:=zL j3;have:=beq_iff_eq.mp k1;subst this;have:=beq_iff_eq.mp k2;subst this;exact zCr (zAs k3) (zAs k4) (gkE j2 G) (gkE j3 G) (gkE j4 G) (zDI k5)⟩
 | .tE a,sg,e=>⟨zF2 e&&(cE a sg e).yes,λh X G=>by
  obtain⟨h1,h2⟩:=zL h;exact ok_test (gkE h2 G) (test_of h1)⟩
 | .tTr,sg,e=>⟨false,λh X G=>absurd h qF⟩
noncomputable def cA:(t:Ax)->(sg:Sg)->(e:List Expr)->Ck (∀X,SgOk X sg->AOk X e (dA sg.fs t))
 | .nil,sg,e=>⟨e.isEmpty,λh X G=>by
  have:=isEmpty_iff.mp h;subst this;exact ak_nil⟩
 | .cons a as,sg,e=>qCons e λx r=>⟨!zX x&&((cE a sg x).yes&&(cA as sg r).yes),λh X G=>by
   obtain⟨h1,h2⟩:=zL h;obtain⟨h2,h3⟩:=zL h2;exact ak_cons (gkE h2 G) (gkA h3 G) (nst h1)⟩
noncomputable def cG:(t:Gx)->(sg:Sg)->(e:List Expr)->Ck (∀X,SgOk X sg->zD4 X e (dG sg.fs t))
 | .nil,sg,e=>⟨e.isEmpty,λh X G=>by
  have:=isEmpty_iff.mp h;subst this;exact ga_nil⟩
 | .ev a as,sg,e=>qCons e λx r=>⟨!zX x&&((cE a sg x).yes&&(cG as sg r).yes),λh X G=>by
   obtain⟨h1,h2⟩:=zL h;obtain⟨h2,h3⟩:=zL h2;exact ga_ev (gkE h2 G) (gkG h3 G) (nst h1)⟩
 | .lend i as,sg,e=>qCons e λw1 r=>qName w1 λx _=>⟨vis sg i x&&(cG as sg r).yes,λh X G=>by
   obtain⟨h1,h2⟩:=zL h;exact ga_lend (Jk G h1) (gkG h2 G)⟩
noncomputable def cO:(t:Ox)->(sg:Sg)->(e:Option Expr)->Ck (∀X,SgOk X sg->OOk X e (dO sg.fs t))
 | .oN,sg,e=>⟨e.isNone,λh X G=>by
  cases e with
  |none=>exact oo_none|some e=>cases h⟩
 | .oS a,sg,e=>qSome e λe=>⟨(cE a sg e).yes,λh X G=>by
   exact oo_some (gkE h G)⟩
noncomputable def cI:(t:Ix)->(sg:Sg)->(e:Expr)->Ck (∀X tg,SgOk X sg->chkZ t tg=true->IOk X tg e (dI sg.fs t))
 | .iL a,sg,e=>⟨(cE a sg e).yes,λh X tg G hz=>by
  exact io_list (gkE h G)⟩
 | .iT a,sg,e=>⟨(cE a sg e).yes,λh X tg G hz=>by
  exact io_tup (gkE h G)⟩
 | .iR1 as,sg,e=>qCall e λw1 w2 w3 _=>qName w1 λf _=>qCons w2 λx w4=>qNil w4 <| qNil w3 <| ⟨f == "range"&&glb sg "range"&&bIn sg "range"&&!zX x&&(cA as sg [x]).yes,λh X tg G hz=>by
   obtain⟨h1,h2⟩:=zL h;obtain⟨h1,k4⟩:=zL h1;obtain⟨h1,k3⟩:=zL h1;obtain⟨k1,k2⟩:=zL h1;have:=beq_iff_eq.mp k1;subst this;exact io_r1 (wF G k2).1 (Jl G k3) (gkA h2 G) (nst k4)⟩
 | .iR2 as,sg,e=>qCall e λw1 w2 w3 _=>qName w1 λf _=>qCons w2 λx w4=>qCons w4 λy w5=>qNil w5 <| qNil w3 <| ⟨f == "range"&&glb sg "range"&&bIn sg "range"&&!zX x&&!zX y&&(cA as sg [x,y]).yes,λh X tg G hz=>by
   obtain⟨h1,h2⟩:=zL h;obtain⟨h1,k5⟩:=zL h1;obtain⟨h1,k4⟩:=zL h1;obtain⟨h1,k3⟩:=zL h1;obtain⟨k1,k2⟩:=zL h1;have:=beq_iff_eq.mp k1;subst this;exact io_r2 (wF G k2).1 (Jl G k3) (gkA h2 G) (nst k4) (nst k5)⟩
 | .iE t1 as,sg,e=>qCall e λw1 w2 w3 _=>qName w1 λf _=>qCons w2 λx w4=>qNil w4 <| qNil w3 <| ⟨f == "enumerate"&&glb sg "enumerate"&&bIn sg "enumerate"&&!zX x&&(cA as sg [x]).yes,λh X tg G hz=>by
   obtain⟨h1,h2⟩:=zL h;obtain⟨h1,k4⟩:=zL h1;obtain⟨h1,k3⟩:=zL h1;obtain⟨k1,k2⟩:=zL h1;have:=beq_iff_eq.mp k1;subst this;cases tg with
   |Tuple tE tX tP=>exact io_enum (wF G k2).1 (Jl G k3) (gkA h2 G) (nst k4)|_=>exact absurd hz qF⟩
 | .iZ t1 t2 as,sg,e=>qCall e λw1 w2 w3 _=>qName w1 λf _=>qCons w2 λx w4=>qCons w4 λy w5=>qNil w5 <| qNil w3 <| ⟨f == "zip"&&glb sg "zip"&&bIn sg "zip"&&!zX x&&!zX y&&(cA as sg [x,y]).yes,λh X tg G hz=>by
   obtain⟨h1,h2⟩:=zL h;obtain⟨h1,k5⟩:=zL h1;obtain⟨h1,k4⟩:=zL h1;obtain⟨h1,k3⟩:=zL h1;obtain⟨k1,k2⟩:=zL h1;have:=beq_iff_eq.mp k1;subst this;cases tg with
   |Tuple tE tX tP=>exact io_zip (.inl ⟨_,_,_,rfl⟩) (wF G k2).1 (Jl G k3) (gkA h2 G) (nst k4) (nst k5)|_=>exact absurd hz qF⟩
end
def SwOk(X:Cx)(e:Expr)(m:ME):Prop:=∀i x px spos,X.N[i]?=some x->Loc X.env.scope x->(X.fn x=true\/X.env.scope.names.lookup x=some .local)->swapsWith e (some (.Name x px)) spos.line X.env=pure true->SOk X (.Assign [.Name x px] e spos) (sSet i m)
def cW:(t:Ex)->(sg:Sg)->(e:Expr)->Ck (∀X,SgOk X sg->SwOk X e (dE sg.fs t))
 | .comp nl loc capn caps it tg tt el,sg,e=>qListComp e λelt w1 scope _=>qCons w1 λw2 w3=>qCm w2 λtarget iter ifs=>qNil w3 <| ⟨sg.calm&&(zFL sg nl loc capn caps scope&&wD iter&&((chkZ it target&&(cI it sg iter).yes)&&(zDG tg (Qt sg (loc++capn) scope) target&&((match ifs with | []=>isTr tt|c::cs=>cs.isEmpty&&(cT tt (Qt sg (loc++capn) scope) c).yes)&&(cE el (Qt sg (loc++capn) scope) elt).yes)))),λh X G i x px spos hi hx hf hsw=>by
   obtain⟨hcm,h⟩:=zL h;obtain⟨h1,h2⟩:=zL h;obtain⟨h1,k9⟩:=zL h1;unfold zFL at h1;obtain⟨h1,k7⟩:=zL h1;obtain⟨h1,k6⟩:=zL h1;obtain⟨h1,k5⟩:=zL h1;obtain⟨h1,k4⟩:=zL h1;obtain⟨h1,k3⟩:=zL h1;obtain⟨k1,k2⟩:=zL h1;obtain⟨q1,q2⟩:=zL h2;obtain⟨q0,q1⟩:=zL q1;obtain⟨q2,q3⟩:=zL q2;obtain⟨q3,q4⟩:=zL q3;have nd:(loc++capn).Nodup:=of_decide_eq_true k3;have kc:∀y∈scope.names,y.2=.cell->scope.names.lookup y.1=some .cell:=λy hy hc=>by
    have:=all_eq_true.mp k5 y hy;rw[hc]at this;simpa using this
   have I:∀cl C ex s H,SgOk (cxB X.nox (loc++capn) scope cl C ex s H) (Qt sg (loc++capn) scope):=λ_ _ _ _ _=>zAp (yu G) nd kc
   refine no_set▸no_S (sk_lc (X:=X.nox) loc capn G.nd hi hx hf (beq_iff_eq.mp k1) (λe s z=>z) (G.calm hcm) (beq_iff_eq.mp k2) (λy hy hl=>?_) (λy hy hc=>?_) (by rw[show X.env.kindOf=λn=>X.env.scope.names.lookup n from rfl,G.sc];exact k6) (zDK (yu G) k7) (gkI q1 (yu G) q0) (g:=gOf X.K tg) (λcl C ex s H=>zDH (sg:=Qt sg (loc++capn) scope) hcm (I cl C ex s H) q2) (uD tg) (λcl C ex s H=>?_) (λcl C ex s H=>gkE (sg:=Qt sg (loc++capn) scope) q4 (I cl C ex s H)) (wE k9) hsw)
   ·have:=all_eq_true.mp k4 y hy
    rw[hl]at this;simpa using this
   ·exact kc y hy hc
   ·cases ifs with
    |nil=>exact zGY q3
    |cons c cs =>
     obtain⟨q3,q5⟩:=zL q3;have:=isEmpty_iff.mp q3;subst this;exact zCk (gkT (sg:=Qt sg (loc++capn) scope) q5 (I cl C ex s H))⟩
 |_,_,_=>default
mutual
noncomputable def cS:(t:Sx)->(sg:Sg)->(e:Stmt)->Ck (∀X,SgOk X sg->SOk X e (dS sg.fs t))
 | .sIf t a b,sg,e=>qIf e λc x y _=>⟨(cT t sg c).yes&&((cB a sg x).yes&&(cB b sg y).yes),λh X G=>by
   obtain⟨h1,h2⟩:=zL h;obtain⟨h2,h3⟩:=zL h2;exact sk_if (gkT h1 G) (gkB h2 G) (gkB h3 G)⟩
 | .sSet i a,sg,e=>qAssign e λw1 v p=>qCons w1 λw2 w3=>qNil w3 <| qName w2 λx px=>⟨locd sg i x&&setOk sg x px a v&&((cE a sg v).yes&&(!isCo a||(cW a sg v).yes)),λh X G=>by
   obtain⟨h1,h2⟩:=zL h;obtain⟨h2,hw⟩:=zL h2;obtain⟨h1,h3⟩:=zL h1;obtain⟨q1,q2,q3⟩:=Qu G h1;unfold setOk at h3;split at h3
   ·obtain⟨k1,k2⟩:=zL h3
    rename_i el gs scope vp _;cases hb:swB sg _ _ scope vp with
    |false=>exact zF9 G.nd q1 q2 (gkE h2 G) (by rw[zGU G k1,hb]) q3
    |true =>
     rw[hb]at k2;have k3:isCo a=true:=by simpa using k2
     rw[k3]at hw;exact(cW a sg _).why (by simpa using hw) X G _ _ _ _ q1 q2 q3 (by rw[zGU G k1,hb])
   ·exact zF9 G.nd q1 q2 (gkE h2 G) (uM h3) q3⟩
 | .sAny,sg,e=>⟨true,λh X G=>by
  exact sk_any⟩
 | .sTup is a,sg,e=>qAssign e λw1 v _=>qCons w1 λw2 w3=>qTuple w2 λes k p=>qNil w3 <| ⟨sg.calm&&(zDG.all2 sg is es&&Jx v&&swOk sg es v&&(cE a sg v).yes),λh X G=>by
   obtain⟨hcm,h⟩:=zL h;obtain⟨h1,h2⟩:=zL h;obtain⟨h1,k3⟩:=zL h1;obtain⟨k1,k2⟩:=zL h1;obtain⟨q1,q2,q3⟩:=Ze _ is G k1;exact sk_tup (zBy (G.calm hcm) q1 q2 q3) (gkE h2 G) (ud k2) (sw_ok G k3)⟩
 | .sPar i j as,sg,e=>qAssign e λw1 w2 _=>qCons w1 λw6 w7=>qTuple w6 λw8 _ _=>qCons w8 λw9 w10=>qName w9 λx px=>qCons w10 λw11 w12=>qName w11 λy py=>qNil w12 <| qNil w7 <| qTuple w2 λw3 _ _=>qCons w3 λa w4=>qCons w4 λb w5=>qNil w5 <| ⟨sg.calm&&(zFM sg i j x y px py a b&&(cA as sg [a,b]).yes),λh X G=>by
   obtain⟨hcm,h⟩:=zL h;obtain⟨h1,h2⟩:=zL h;have h1':=h1;unfold zFM at h1;simp only[Bool.and_eq_true,Bool.not_eq_true',beq_iff_eq,bne_iff_ne]at h1;obtain⟨⟨⟨⟨⟨⟨⟨⟨⟨⟨⟨_,n1⟩,n2⟩,n3⟩,l1⟩,l2⟩,_⟩,_⟩,_⟩,_⟩,_⟩,_⟩:=h1;exact jV (ps_par (G.calm hcm) G.nd (by rw[G.N];exact n1) (by rw[G.N];exact n2) n3 (ww G l1) (ww G l2) (gkA h2 G) (sw_par G h1') (ud rfl)) λD O H=>zEz⟩
 | .sRet a,sg,e=>qReturn e λw1 _=>qSome w1 λv=>⟨(cE a sg v).yes,λh X G=>by
   exact sk_ret (gkE h G)⟩
 | .sDrop a,sg,e=>qExpr e λv _=>⟨Jx v&&(cE a sg v).yes,λh X G=>by
   obtain⟨h1,h2⟩:=zL h;exact sk_drop (gkE h2 G) (uM h1)⟩
 | .sIx i b a,sg,e=>qAssign e λw1 v _=>qCons w1 λw2 w3=>qSubscript w2 λw4 y _=>qName w4 λx _=>qNil w3 <| ⟨vis sg i x&&uN y&&((cE b sg y).yes&&(cE a sg v).yes),λh X G=>by
   obtain⟨h1,h2⟩:=zL h;obtain⟨h1,h4⟩:=zL h1;obtain⟨h2,h3⟩:=zL h2;exact zEl i (Jk G h1) (gkE h2 G) (gkE h3 G) (zAt h4) zFN⟩
 | .sSw i b c a,sg,e=>qAssign e λw1 v _=>qCons w1 λw2 w3=>qTuple w2 λw4 _ _=>qCons w4 λw5 w6=>qSubscript w5 λw10 y _=>qName w10 λx _=>qCons w6 λw7 w8=>qSubscript w7 λw9 u _=>qName w9 λz _=>qNil w8 <| qNil w3 <| ⟨sg.calm&&(vis sg i x&&vis sg i z&&uN y&&uN u&&Jx v&&((cE b sg y).yes&&(cE c sg u).yes&&(cE a sg v).yes)),λh X G=>by
   obtain⟨hcm,h⟩:=zL h;obtain⟨h1,h2⟩:=zL h;obtain⟨h1,h0⟩:=zL h1;obtain⟨h1,h7⟩:=zL h1;obtain⟨h1,h6⟩:=zL h1;obtain⟨h1,h5⟩:=zL h1;obtain⟨h2,h3⟩:=zL h2;obtain⟨h2,h4⟩:=zL h2;exact sk_sw i (G.calm hcm) (Jk G h1) (Jk G h5) (gkE h2 G) (gkE h4 G) (gkE h3 G) (ud h0) (sw_sub _) (zAt h6) (zAt h7)⟩
 | .sDput i b a,sg,e=>qAssign e λw1 v _=>qCons w1 λw2 w3=>qSubscript w2 λw4 y _=>qName w4 λx _=>qNil w3 <| ⟨vis sg i x&&uN y&&Jx v&&((cE b sg y).yes&&(cE a sg v).yes),λh X G=>by
   obtain⟨h1,h2⟩:=zL h;obtain⟨h1,h0⟩:=zL h1;obtain⟨h1,h4⟩:=zL h1;obtain⟨h2,h3⟩:=zL h2;exact sk_dput i (by have:=zAr G;omega) (Jk G h1) (gkE h2 G) (gkE h3 G) (zAt h4) (ud h0)⟩
 | .sApp i a,sg,e=>qExpr e λw1 _=>qCall w1 λw2 w3 w4 cp=>qAttribute w2 λw6 m ap=>qName w6 λx _=>qCons w3 λv w5=>qNil w5 <| qNil w4 <| ⟨m == "append"&&ap.endLine==cp.line&&vis sg i x&&!zX v&&(cE a sg v).yes,λh X G=>by
   obtain⟨h1,h2⟩:=zL h;obtain⟨h1,k4⟩:=zL h1;obtain⟨h1,k3⟩:=zL h1;obtain⟨k1,k2⟩:=zL h1;have:=beq_iff_eq.mp k1;subst this;exact sk_app i (Jk G k3) (gkE h2 G) rfl (zGX (nst k4)) k2 (zf (nst k4)) rfl rfl⟩
 | .sForL a tg b,sg,e=>qFor e λt it body w1 _=>qNil w1 <| ⟨sg.calm&&(wD it&&zDG tg sg t&&((cE a sg it).yes&&(cB b sg body).yes)),λh X G=>by
   obtain⟨hcm,h⟩:=zL h;obtain⟨h1,h2⟩:=zL h;obtain⟨h1,h0⟩:=zL h1;obtain⟨h2,h3⟩:=zL h2;exact no_S (sk_forL (X:=X.nox) PassesOwn.never (G.calm hcm) (gkE h2 (yu G)) (zDH hcm (yu G) h0) (uD tg) (gkB h3 (yu G)) (wE h1))⟩
 | .sForI ix tg b,sg,e=>qFor e λt it body w1 _=>qNil w1 <| ⟨sg.calm&&(wD it&&zDG tg sg t&&((chkZ ix t&&(cI ix sg it).yes)&&(cB b sg body).yes)),λh X G=>by
   obtain⟨hcm,h⟩:=zL h;obtain⟨h1,h2⟩:=zL h;obtain⟨h1,h0⟩:=zL h1;obtain⟨h2,h3⟩:=zL h2;obtain⟨h4,h2⟩:=zL h2;exact sk_forN (ps_forX (gkI h2 G h4) (wE h1)) (no_S (sk_forI (X:=X.nox) PassesOwn.never (G.calm hcm) (gkI h2 (yu G) h4) (zDH hcm (yu G) h0) (uD tg) (gkB h3 (yu G)) (wE h1)))⟩
 | .sForR1 as tg b,sg,e=>qFor e λt w1 body w2 _=>qCall w1 λw3 w4 w5 _=>qName w3 λf _=>qCons w4 λx w6=>qNil w6 <| qNil w5 <| qNil w2 <| ⟨sg.calm&&(f == "range"&&glb sg "range"&&bIn sg "range"&&!zX x&&zDG tg sg t&&((cA as sg [x]).yes&&(cB b sg body).yes)),λh X G=>by
   obtain⟨hcm,h⟩:=zL h;obtain⟨h1,h2⟩:=zL h;obtain⟨h1,k5⟩:=zL h1;obtain⟨h1,k4⟩:=zL h1;obtain⟨h1,k3⟩:=zL h1;obtain⟨k1,k2⟩:=zL h1;obtain⟨h2,h3⟩:=zL h2;have:=beq_iff_eq.mp k1;subst this;exact no_S (zEn (X:=X.nox) PassesOwn.never (G.calm hcm) (wF (yu G) k2).1 (Jl (yu G) k3) (gkA h2 (yu G)) (zDH hcm (yu G) k5) (uD tg) (gkB h3 (yu G)) (nst k4) (wE rfl))⟩
 | .sWhile t b,sg,e=>qWhile e λc body w1 _=>qNil w1 <| ⟨(cT t sg c).yes&&(cB b sg body).yes,λh X G=>by
   obtain⟨h1,h2⟩:=zL h;exact no_S (zE0 (X:=X.nox) PassesOwn.never (gkT h1 (yu G)) (gkB h2 (yu G)))⟩
noncomputable def cB:(t:Bx)->(sg:Sg)->(e:List Stmt)->Ck (∀X,SgOk X sg->Qd X e (dB sg.fs t))
 | .bNil,sg,e=>⟨e.isEmpty,λh X G=>by
  have:=isEmpty_iff.mp h;subst this;exact sk_nil⟩
 | .bOne a,sg,e=>qCons e λs w1=>qNil w1 <| ⟨(cS a sg s).yes,λh X G=>by
   exact sk_one (gkS h G)⟩
 | .bSeq a b,sg,e=>qCons e λs r=>⟨(cS a sg s).yes&&(cB b sg r).yes,λh X G=>by
   obtain⟨h1,h2⟩:=zL h;exact sk_cons (gkS h1 G) (gkB h2 G)⟩
end
def sB(t:Bx){X:Cx}{sg:Sg}{e:List Stmt}(G:SgOk X sg)(h:(cB t sg e).yes=true):Qd X e (dB sg.fs t):=gkB h G
abbrev chkB(t:Bx)(sg:Sg)(e:List Stmt):Bool:=(cB t sg e).yes
end
def ClOk(K:qH)(mg:Str->Option Value)(cl rs:List Str):Prop :=
 (cl≠[]->∃T,mg "ThrowError"=some (.ref T)/\TCls K T/\∀c∈cl,∃C,mg c=some (.ref C)/\XCls K c C T/\C≠T)/\(∀c∈rs,∃C,mg c=some (.ref C)/\excIn K C VB "ValueError.__new__"=true)/\zCx K
abbrev zDM(P:Program)(w:World)(K:qH)(mg:Str->Option Value)(base:Heap)(ri:List Str):Prop:=∀c∈ri,RIok P w K mg base c/\RAok K mg c
def def_ok{P:Program}{w:World}{K:qH}{mg:Str->Option Value}{base:Heap}{x:Str}{st:Stmt}{ps N:List Str}{n lv:Nat}{cs:List (Str×D)}{fs:List FI}{bs:List Str}{c:Bool}{cl rs:List Str}(t:Bx)(T:j5 K mg x st ps)(S:FnScope N ps (zn st))(hn:N.length=n)
  (hcs:∀x d,cs.lookup x=some d->∃u v,mg x=some u/\yp v u/\∀H,Rep K mg H d v)
  (hfs:∀i∈fs,∃f fd ps,mg i.x=some (.ref f)/\keepIn K (.ref f)=true/\Zs K fd ps []/\ps.length=i.n/\FnOkN (!i.wild) P w K mg base i.lv f fd ps (spM K mg i.n i.F))
  (hbs:∀x∈bs,mg x=none) (hcl:ClOk K mg cl rs) {ri:List Str} (hri:zDM P w K mg base ri) (h:(cB t ⟨N,zn st,true,cs,fs,bs,lv,c,cl,rs,[],ri⟩ (jR st)).yes=true):FOk P w K mg base c x (lv+1) ps (fnM n (dB fs t)):=by
 obtain⟨a,fd,hm,F,bnd⟩:=T;subst hn;refine⟨a,fd,hm,F.kp,bnd,fn_ok F S λcdv A outer s H E hd hr=>?_⟩;exact gkB h ⟨rfl,rfl,λ_ _=>rfl,(λx h=>by cases h),id,hd,λ_=>⟨rfl,rfl⟩,S.nd,hcs,hfs,hbs,hr,hcl.1,hcl.2.1,hcl.2.2,hri⟩
def zDN(K:qH)(mg:Str->Option Value)(cs:List (Str×D)):Prop:=∀x d,cs.lookup x=some d->∃u v,mg x=some u/\yp v u/\∀H,Rep K mg H d v
def BsOk(mg:Str->Option Value)(bs:List Str):Prop:=∀x∈bs,mg x=none
def FsOk(P:Program)(w:World)(K:qH)(mg:Str->Option Value)(base:Heap)(fs:List FI):Prop :=
 ∀i∈fs,∃f fd ps,mg i.x=some (.ref f)/\keepIn K (.ref f)=true/\Zs K fd ps []/\ps.length=i.n/\FnOkN (!i.wild) P w K mg base i.lv f fd ps (spM K mg i.n i.F)
section
variable{P:Program}{w:World}{K:qH}{mg:Str->Option Value}{base:Heap}
def cs_nil:zDN K mg []:=λx d h=>by cases h
def zGZ(h:∃u v,mg x=some u/\yp v u/\∀H,Rep K mg H d v)(t:zDN K mg cs):zDN K mg ((x,d)::cs):=λy d' e=>by
 rw[lookup_cons]at e;cases hy:y==x with
 |true =>
  rw[hy]at e;cases e;have:y=x:=by simpa using hy
  subst this;exact h
 |false=>rw[hy]at e;exact t y d' e
def ZB(h:∃t,mg x=some (.int i t))(t:zDN K mg cs):zDN K mg ((x,.int i)::cs):=by
 obtain⟨k,h⟩:=h;exact zGZ ⟨_,.int i,h,⟨_,rfl⟩,λH=>by simp only[Rep]⟩ t
def zDO(h:∃a,mg x=some (.ref a)/\∀H,Rep K mg H d (.ref a))(t:zDN K mg cs):zDN K mg ((x,d)::cs):=by
 obtain⟨a,h,r⟩:=h;exact zGZ ⟨_,.ref a,h,rfl,r⟩ t
def bs_nil:BsOk mg []:=λx h=>by cases h
def yl(h:mg x=none)(t:BsOk mg bs):BsOk mg (x::bs):=λy e=>by
 rcases mem_cons.mp e with e|e
 ·subst e;exact h
 ·exact t y e
def zc:FsOk P w K mg base []:=λx h=>by cases h
def zF(h:FOk P w K mg base (!wl) x lv ps F)(hl:ps.length=n)(t:FsOk P w K mg base fs):FsOk P w K mg base (⟨x,n,lv,wl,F⟩::fs):=λi e=>by
 rcases mem_cons.mp e with e|e
 ·subst e
  subst hl;obtain⟨a,fd,h1,h2,h3,h4⟩:=h;exact⟨a,fd,ps,h1,h2,h3,rfl,h4⟩
 ·exact t i e
def def_at(t:Bx)(F:Fun K x x st a fd)(S:FnScope N ps (zn st))(hn:N.length=n)
  (hcs:zDN K mg cs) (hfs:FsOk P w K mg base fs) (hbs:BsOk mg bs) (hcl:ClOk K mg cl rs) (hri:zDM P w K mg base ri) (h:chkB t ⟨N,zn st,true,cs,fs,bs,lv,true,cl,rs,[],ri⟩ (jR st)=true):FnOk P w K mg base (CXx P w) (lv+1) a fd ps (spM K mg ps.length (fnM n (dB fs t))):=by
 subst hn;refine(fn_ok (c:=true) F S λcdv A outer s H E hd hr=>?_).fn;exact sB (sg:=⟨N,zn st,true,cs,fs,bs,lv,true,cl,rs,[],ri⟩) t ⟨rfl,rfl,λ_ _=>rfl,(λx h=>by cases h),id,hd,λ_=>⟨rfl,rfl⟩,S.nd,hcs,hfs,hbs,hr,hcl.1,hcl.2.1,hcl.2.2,hri⟩ h
def scP(N P:List Str)(sc:Scope):Prop:=sc.kind=.function/\sc.isCoroutine=false/\sc.isGenerator=false/\N.Nodup/\N.take P.length=P/\(∀x∈P,sc.names.lookup x=some .local\/sc.names.lookup x=some .cell)/\∀y∈sc.names,y.2≠.free
instance scD (N P:List Str) (sc:Scope):Decidable (scP N P sc):=by unfold scP;infer_instance
def sc_of{N P:List Str}{sc:Scope}(h:scP N P sc):FnScope N P sc:=⟨h.1,h.2.1,h.2.2.1,h.2.2.2.1,h.2.2.2.2.1,h.2.2.2.2.2.1,h.2.2.2.2.2.2⟩
def zN(t:Bx)(N:List Str)(T:j5 K mg x st ps)
  (hcs:zDN K mg cs) (hfs:FsOk P w K mg base fs) (hbs:BsOk mg bs) (hcl:ClOk K mg cl rs) (hri:zDM P w K mg base ri) (h:(decide (scP N ps (zn st))&&chkB t ⟨N,zn st,true,cs,fs,bs,lv,c,cl,rs,[],ri⟩ (jR st))=true):FOk P w K mg base c x (lv+1) ps (fnM N.length (dB fs t)) :=
 def_ok t T (sc_of (of_decide_eq_true (Bool.and_eq_true_iff.mp h).1)) rfl hcs hfs hbs hcl hri (Bool.and_eq_true_iff.mp h).2
def def_atB(t:Bx)(N:List Str)(F:Fun K x x st a fd)
  (hcs:zDN K mg cs) (hfs:FsOk P w K mg base fs) (hbs:BsOk mg bs) (hcl:ClOk K mg cl rs) (hri:zDM P w K mg base ri) (h:(decide (scP N ps (zn st))&&chkB t ⟨N,zn st,true,cs,fs,bs,lv,true,cl,rs,[],ri⟩ (jR st))=true):FnOk P w K mg base (CXx P w) (lv+1) a fd ps (spM K mg ps.length (fnM N.length (dB fs t))) :=
 def_at t F (sc_of (of_decide_eq_true (Bool.and_eq_true_iff.mp h).1)) rfl hcs hfs hbs hcl hri (Bool.and_eq_true_iff.mp h).2
def zDP(h:xIn K c C T=true):XCls K c C T/\C≠T:=by
 unfold xIn at h;simp only[Bool.and_eq_true,beq_iff_eq,Bool.not_eq_true']at h;obtain⟨⟨⟨⟨⟨⟨⟨h1,h2⟩,h3⟩,h4⟩,h5⟩,h6⟩,h7⟩,h8⟩:=h;refine⟨⟨?_,h2,h3,h4,h5,h6,h7⟩,by simpa using h8⟩;cases e:clsIn K C with
 |none=>rw[e]at h1;cases h1
 |some cd =>
  rw[e]at h1;simp only[Bool.and_eq_true,beq_iff_eq]at h1;exact⟨cd,rfl,h1.1,h1.2⟩
def tcls_of(h:tIn K T=true):TCls K T:=by
 unfold tIn at h;simp only[Bool.and_eq_true,beq_iff_eq]at h;obtain⟨h1,h2⟩:=h;refine⟨?_,h2⟩;cases e:clsIn K T with
 |none=>rw[e]at h1;cases h1|some cd=>rw[e]at h1;exact⟨cd,rfl,by simpa using h1⟩
def spLaw(K:qH):Sp:=λvs H Q _=>∃(a:Addr) (ns:List Int),vs=[.ref a]/\SqL K H a (ns.map V.int)/\ns.length<=63/\∀H',Q (.bl true) H'
theorem G3:∀ns:List Int,Reps K mg H (ns.map D.int) (ns.map V.int)
 | []=>Reps.nil|n::ns=>Reps.cons (by simp only[Rep]) (G3 ns)
def law_imp(hm:∀ns:List Int,ns.length<=63->∃outs,F [.v (.l (ns.map D.int))]=.ok (.v (.bl true),outs))(vs:List V)(H:Hp)(Q:VK)(E:XK)(h:spLaw K vs H Q E):spM K mg 1 F vs H Q E:=by
 obtain⟨a,ns,rfl,hS,hl,k⟩:=h;obtain⟨outs,hF⟩:=hm ns hl;have em:∀b,¬Mo (λ_=>False) [(some (V.ref a),Slot.v (.l (ns.map D.int)))] b:=by
  intro b q;rcases q with q|q
  ·exact q
  ·rw[zW]at q;cases q
 have sm:Yv H (Hm (Mo (λ_=>False) [(some (V.ref a),Slot.v (.l (ns.map D.int)))]) H):=λb o q=>zp.mpr ⟨em b,q⟩
 refine⟨rfl,λ_=>False,[.v (.l (ns.map D.int))],rfl,⟨?_,?_,?_,?_⟩,?_⟩
 ·intro o d q
  have q':=mem_singleton.mp q
  cases q';refine⟨_,rfl,?_⟩;simp only[Rep];exact⟨a,_,rfl,sm.seq hS,G3 ns⟩
 ·intro o s ds q e
  have q':=mem_singleton.mp q
  cases q';cases e
 ·show(yI [(some (V.ref a),Slot.v (.l (ns.map D.int)))]).Nodup
  rw[zW];exact List.nodup_nil
 ·intro b q;cases q
 ·rw[hF]
  intro v H' _ fr _;obtain⟨v',e,r⟩:=fr.val (some v) (.bl true) qE;cases e;simp only[Rep]at r;subst r;exact k H'
end
def Wi:zg [] E=[]:=rfl
def Wj:zg (.par ds::ss) (s::E)=s::zg ss E:=rfl
def Wk:zg (.v d::ss) (s::E)=.e::zg ss E:=rfl
def Wl:zg (.own d::ss) (s::E)=.e::zg ss E:=rfl
def Wm:zg (.e::ss) (s::E)=.e::zg ss E:=rfl
theorem JJ(I:Nat->zV->List D->Prop):∀(ds:List D) (k:Nat) (E:zV) (acc:List D),I k E acc->acc.length+ds.length<=cap ->
  (∀i d,ds[i]?=some d->∀E acc,I (k+i) E acc->acc.length<cap->∃E1 E2 r E3,tg d E=.ok E1/\tt E1=.ok (true,E2)/\el E2=.ok (r,E3)/\I (k+i+1) E3 (acc++[r.d])) ->
  ∃res E',j0 tg tt el ds E acc=.ok (res,E')/\I (k+ds.length) E' res
 | [],k,E,acc,h,hc,step=>⟨acc,E,rfl,h⟩
 |d::ds,k,E,acc,h,hc,step=>by
  simp only[length_cons]at hc;obtain⟨E1,E2,r,E3,h1,h2,h3,h4⟩:=step 0 d rfl E acc h (by omega);obtain⟨res,E',q1,q2⟩:=JJ I ds (k+1) E3 (acc++[r.d]) h4 (by simp;omega) λi d' e E acc h hl=>by
   have:=step (i+1) d' (by simpa using e) E acc (by rw[show k+(i+1)=k+1+i by omega];exact h) hl;rw[show k+(i+1)=k+1+i by omega]at this;exact this
  refine⟨res,E',?_,?_⟩
  ·simp only[j0,h1,h2,h3]
   rw[if_pos (by omega)];exact q1
  ·rw[length_cons,show k+(ds.length+1)=k+1+ds.length by omega];exact q2
theorem jF(I:Nat->zV->Prop):∀(ds:List D) (k:Nat) (E:zV),I k E ->
  (∀i d,ds[i]?=some d->∀E,I (k+i) E->∃E1 E2,tg d E=.ok E1/\body E1=.ok (.nx,E2)/\I (k+i+1) E2) ->
  ∃E',J2 tg body ds E=.ok (.nx,E')/\I (k+ds.length) E'
 | [],k,E,h,step=>⟨E,rfl,h⟩
 |d::ds,k,E,h,step=>by
  obtain⟨E1,E2,h1,h2,h4⟩:=step 0 d rfl E h;obtain⟨E',q1,q2⟩:=jF I ds (k+1) E2 h4 λi d' e E h=>by
   have:=step (i+1) d' (by simpa using e) E (by rw[show k+(i+1)=k+1+i by omega];exact h);rw[show k+(i+1)=k+1+i by omega]at this;exact this
  refine⟨E',?_,?_⟩
  ·simp only[J2,h1,h2]
   exact q1
  ·rw[length_cons,show k+(ds.length+1)=k+1+ds.length by omega];exact q2
theorem ue:∀(n:Nat) (lo:Int) (i:Nat) (d:D),(zK lo n)[i]?=some d->i<n/\d=.int (lo+i)
 |0,_,_,_,h=>by simp[zK]at h
 |n+1,lo,0,d,h=>by
  simp[zK]at h;exact⟨by omega,by rw[<- h];simp⟩
 |n+1,lo,i+1,d,h=>by
  simp only[zK,List.getElem?_cons_succ]at h;obtain⟨h1,h2⟩:=ue n (lo+1) i d h;refine⟨by omega,?_⟩;rw[h2];congr 1
  push_cast
  omega
theorem jG:∀(n:Nat) (lo:Int),(zK lo n).length=n
 |0,_=>rfl|n+1,lo=>by simp[zK,jG n]
def zz:Slot->Bool
 | .par _=>false|_=>true
theorem zAu:∀(vs:List D) (E:zV),zM (vs.map AR.tmp) E=.ok (vs.map Slot.v,E)
 | [],_=>rfl|d::vs,E=>by simp only[map_cons,zM,zAu vs E]
theorem zAv:∀(vs:List D) (outs:List Slot) (E0 E:zV),outs.length=vs.length->zJ (vs.map AR.tmp) outs E0 E=.ok E
 | [],[],_,_,_=>rfl| [],_::_,_,_,h=>by cases h|_::_,[],_,_,h=>by cases h|d::vs,s::outs,E0,E,h=>by simp only[map_cons,zJ];exact zAv vs outs E0 E (by simpa using h)
theorem G4{vs:List D}{tg:MG}{tt:MT}{el:ME}{nl:Nat}(pat:D->List DV.Slot)(f:D->Bool)(g:D->D):∀(ds:List D),
  (∀d∈ds,∀S:List DV.Slot,S.length=nl->(∀s∈S,zz s=true)->tg d (S++vs.map Slot.v)=.ok (pat d++vs.map Slot.v)) ->
  (∀d∈ds,(pat d).length=nl/\∀s∈pat d,zz s=true) ->
  (∀d∈ds,tt (pat d++vs.map Slot.v)=.ok (f d,pat d++vs.map Slot.v)) ->
  (∀d∈ds,f d=true->∃r,el (pat d++vs.map Slot.v)=.ok (r,pat d++vs.map Slot.v)/\r.d=g d) ->
  ∀(S:List DV.Slot) (acc:List D),S.length=nl->(∀s∈S,zz s=true)->acc.length+ds.length<=cap->∃S',S'.length=nl/\j0 tg tt el ds (S++vs.map Slot.v) acc=.ok (acc++(ds.filter f).map g,S'++vs.map Slot.v)
 | [],_,_,_,_,S,acc,hS,_,_=>⟨S,hS,by simp[j0]⟩
 |d::ds,h1,h2,h3,h4,S,acc,hS,hn,hc=>by
  have m:=qE (a:=d) (l:=ds);have r1:=h1 d m S hS hn;have r3:=h3 d m;have r2:=h2 d m;simp only[length_cons]at hc;have go:=G4 pat f g ds (λz hz=>h1 z (mem_cons_of_mem _ hz)) (λz hz=>h2 z (mem_cons_of_mem _ hz)) (λz hz=>h3 z (mem_cons_of_mem _ hz)) (λz hz=>h4 z (mem_cons_of_mem _ hz)) (pat d);cases hf:f d with
  |false =>
   rw[hf]at r3;obtain⟨S',l',e'⟩:=go acc r2.1 r2.2 (by omega);refine⟨S',l',?_⟩;simp only[j0,r1,r3,e',List.filter_cons,hf];simp
  |true =>
   rw[hf]at r3;obtain⟨r,r4,r5⟩:=h4 d m hf;obtain⟨S',l',e'⟩:=go (acc++[r.d]) r2.1 r2.2 (by simp;omega);refine⟨S',l',?_⟩;simp only[j0,r1,r3,r4];rw[if_pos (by omega),e',r5];simp[List.filter_cons,hf]
def zFO{vs:List D}{tg:MG}{tt:MT}{el:ME}{nl:Nat}{caps:List Nat}(pat:D->List DV.Slot)(f:D->Bool)(g:D->D)(ds:List D)
  (h1:∀d∈ds,∀S:List DV.Slot,S.length=nl->(∀s∈S,zz s=true)->tg d (S++vs.map Slot.v)=.ok (pat d++vs.map Slot.v))
  (h2:∀d∈ds,(pat d).length=nl/\∀s∈pat d,zz s=true)
  (h3:∀d∈ds,tt (pat d++vs.map Slot.v)=.ok (f d,pat d++vs.map Slot.v))
  (h4:∀d∈ds,f d=true->∃r,el (pat d++vs.map Slot.v)=.ok (r,pat d++vs.map Slot.v)/\r.d=g d) (hc:ds.length<=cap)
  {mi:MI} {E E1:zV} (hi:mi E=.ok (ds,E1)) (hcap:wV E1 caps=.ok (vs.map AR.tmp)):J4 nl caps mi tg tt el E=.ok (.own ((ds.filter f).map g),E1):=by
 obtain⟨S',l',e'⟩:=G4 (vs:=vs) (tg:=tg) (tt:=tt) (el:=el) (nl:=nl) pat f g ds h1 h2 h3 h4 (replicate nl .e) [] (by simp) (λs hs=>by rw[(List.mem_replicate.mp hs).2];rfl) (by simpa using hc);simp only[J4,hi,hcap,zAu,e'];rw[zAv vs _ _ _ (by rw[List.length_drop,zd];simp)];simp
def gN_ok1{a:D}{S:List DV.Slot}{R:List DV.Slot}(hS:S.length=1)(hn:∀s∈S,zz s=true):gN 0 a (S++R)=.ok ([.v a]++R):=by
 match S,hS,hn with
 | [x],_,hn =>
  have hx:=hn x (by simp);cases x<;>first|(cases hx;done)|rfl
theorem zAw:∀(l:List Obj) (i:Nat) (as:List Addr) (a:Addr) (o:Obj),(GL l i as).lookup a=some o->∃j,a=i+j/\l[j]?=some o/\isFr o=false
 | [],_,_,a,o,e=>by cases e|_::_,_,[],a,o,e=>by cases e
 |x::os,i,b::as,a,o,e=>by
  have up:∀{as:List Addr},(GL os (i+1) as).lookup a=some o->∃j,a=i+j/\(x::os)[j]?=some o/\isFr o=false:=λe=>by
   obtain⟨j,h1,h2,h3⟩:=zAw os (i+1) _ a o e;exact⟨j+1,h1.trans ((Nat.add_assoc i 1 j).trans (congrArg (i+·) (Nat.add_comm 1 j))),by simpa using h2,h3⟩
  unfold GL at e;cases hb:Nat.beq i b with
  |false=>rw[hb]at e;exact up e
  |true =>
   rw[hb]at e;cases hf:isFr x with
   |true=>rw[hf]at e;exact up e
   |false =>
    rw[hf]at e;replace e:(match a==i with|true=>some x|false=>List.lookup a (GL os (i+1) as))=some o:=e
    cases ha:a==i with
    |true =>
     rw[ha]at e;cases e;exact⟨0,beq_iff_eq.mp ha,rfl,hf⟩
    |false=>rw[ha]at e;exact up e
def zDQ(as:List Addr):(J8 h as).In h:=λa o e=>by
 obtain⟨j,h1,h2,h3⟩:=zAw _ _ _ _ _ e;rw[zero_add]at h1;subst h1;have h4:h.objs[a]?=some o:=by rw[<- Array.getElem?_toList];exact h2
 unfold Heap.get?;rw[h4];obtain⟨c,d,dt,sl⟩:=o;cases dt<;>first|rfl|(cases h3)
def zAx(as:List Addr)(α:Type)(L:qH->α)(v:α):PySem.W.Hook :=
 ⟨α,λs=>L (J8 s.heap as),λ_=>v,λ_ h=>∃K:qH,K.In h/\L K=v,λ_ s e=>⟨_,zDQ as,e⟩,λ_ _ _ ⟨K,x,e⟩ k=>⟨K,x.keeps k,e⟩⟩
def zFP(e:yC K n=yF n st):∃(f:Addr) (oc:Value) (od:Option Addr) (kV dc pm:Value) (an:Option Addr) (cd ct:Value) (sl:Array (Option Value)),
  nsIn K mainGlobals n=some (some (.ref f))/\K.lookup f=some ⟨oc,od,.func (fnOf n n (Jv st) (jR st) (zn st) .none kV dc pm an cd ct),sl⟩/\codeIn K cd n=true/\keepIn K (.ref f)=true:=by
 unfold yC at e;split at e
 ·rename_i a ha
  split at e
  ·rename_i oc od fd sl hl
   have e:=qJ e;unfold fvOf at e;injection e with e1 e
   injection e with e2 e
   injection e with e3 e
   injection e with e4 e
   injection e with e5 e
   injection e with e6 e
   injection e with e7 e
   injection e with e8 e
   injection e with e9 e10
   obtain⟨k,p⟩:=zL e1;cases fd;simp only at e2 e3 e4 e5 e6 e7 e8 e9 e10;subst e2 e3 e4 e5 e6 e7 e8 e9 e10;exact⟨_,_,_,_,_,_,_,_,_,_,ha,hl,k,p⟩
  ·cases e
 ·cases e
def nth{α:Type}:List α->Nat->Option α
 | [],_=>none|a::_,0=>some a|_::l,n+1=>nth l n
def ix{α:Type}{l l':List α}(n:Nat)(h:l=l'):nth l n=nth l' n:=congrArg (λl=>nth l n) h
section
variable{K:qH}{h:Heap}{mg:Str->Option Value}
def ar0{P:List Value->Prop}(h:P []):∀us:List Value,us.length=0->P us
 | [],_=>h
def arS{P:List Value->Prop}{n:Nat}(h:∀a us,us.length=n->P (a::us)):∀us:List Value,us.length=n+1->P us:=by intro us e;cases us with|nil=>cases e|cons a t=>exact h a t (Nat.succ.inj e)
def ar1{P:List Value->Prop}(h:∀a:Value,P [a]):∀us:List Value,us.length=1->P us:=arS λa=>ar0 (P:=λus=>P (a::us)) (h a)
def ar2{P:List Value->Prop}(h:∀a b:Value,P [a,b]):∀us:List Value,us.length=2->P us:=arS λa=>ar1 (P:=λus=>P (a::us)) (h a)
def ar3{P:List Value->Prop}(h:∀a b c:Value,P [a,b,c]):∀us:List Value,us.length=3->P us:=arS λa=>ar2 (P:=λus=>P (a::us)) (h a)
def yK(X:K.In h)(G:h.Ns mainGlobals mg)(e:some (yC K n)=some (yF n st))
  (b:∀(kV doc pm:Value) (an:Option Addr) (cdv ct:Value) (us:List Value),us.length=ps.length->bindArgs (fnOf n n (Jv st) (jR st) (zn st) .none kV doc pm an cdv ct) ⟨us,[]⟩=pure (ps.zip us):=by intro _ _ _ _ _ _;first|exact ar1 (λ_=>rfl)|exact ar2 (λ_ _=>rfl)|exact ar3 (λ_ _ _=>rfl)|exact ar0 rfl):j5 K mg n st ps:=by
 obtain⟨f,oc,od,kV,dc,pm,an,cd,ct,sl,a,l,k,p⟩:=zFP (qJ e);exact⟨_,_,mg_of X G a,zFu (st:=st) l k p,(zFu (st:=st) l k p).binds b⟩
def zBd(X:K.In h)(G:h.Ns mainGlobals mg)(e:some (ZJ K n)=some (some i)):∃t,mg n=some (.int i t):=by
 have e:=qJ e;unfold ZJ at e;split at e
 ·rename_i j t hj
  cases e;exact⟨_,mg_of X G hj⟩
 ·cases e
def tt_at(X:K.In h)(G:h.Ns mainGlobals mg)(e:some (zAL K n i j)=some true):∃a,mg n=some (.ref a)/\∀H,Rep K mg H (.t [.int i,.int j]) (.ref a):=by
 have e:=qJ e;unfold zAL at e;split at e
 ·rename_i a ha
  split at e
  ·rename_i t od its k sl hl
   obtain⟨e1,e2⟩:=zL e;have:=beq_iff_eq.mp e1;subst this;split at e2
   ·rename_i x t1 y t2 hi
    obtain⟨e3,e4⟩:=zL e2;have:=beq_iff_eq.mp e3;have:=beq_iff_eq.mp e4
    subst_vars
    refine⟨a,mg_of X G ha,λH=>?_⟩;simp only[Rep,Reps];refine⟨a,[.int x,.int y],rfl,.inr ⟨_,its,k,hl,rfl,rfl,?_,?_⟩,.int x,_,rfl,rfl,.int y,_,rfl,rfl,rfl⟩
    ·have:its.size=2:=by rw[<- Array.length_toList,hi];rfl
     rw[this];decide
    ·rw[hi];exact .cons ⟨_,rfl⟩ (.cons ⟨_,rfl⟩ .nil)
   ·cases e2
  ·cases e
 ·cases e
def tn_at(X:K.In h)(G:h.Ns mainGlobals mg)(e:some (zBq K n j)=some true):∃a,mg n=some (.ref a)/\∀H,Rep K mg H (.t [.non,.int j]) (.ref a):=by
 have e:=qJ e;unfold zBq at e;split at e
 ·rename_i a ha
  split at e
  ·rename_i t od its k sl hl
   obtain⟨e1,e2⟩:=zL e;have:=beq_iff_eq.mp e1;subst this;split at e2
   ·rename_i y t2 hi
    have:=beq_iff_eq.mp e2
    subst_vars
    refine⟨a,mg_of X G ha,λH=>?_⟩;simp only[Rep,Reps];refine⟨a,[.non,.int y],rfl,.inr ⟨_,its,k,hl,rfl,rfl,?_,?_⟩,.non,_,rfl,rfl,.int y,_,rfl,rfl,rfl⟩
    ·have:its.size=2:=by rw[<- Array.length_toList,hi];rfl
     rw[this];decide
    ·rw[hi];exact .cons rfl (.cons ⟨_,rfl⟩ .nil)
   ·cases e2
  ·cases e
 ·cases e
def J6(X:K.In h)(G:h.Ns mainGlobals mg)(e:some (jN K n)=some true):mg n=none:=by
 have e:=qJ e;unfold jN at e;split at e
 ·rename_i hj
  exact PySem.W.mg_none_of X G hj
 ·cases e
def Qv(X:K.In h)(G:h.Ns mainGlobals mg)(e:Jf K n=some a):mg n=some (.ref a):=by
 unfold Jf at e;split at e
 ·rename_i b hb
  cases e;exact mg_of X G hb
 ·cases e
def sm_at(e:zBr K=true):zCx K:=by
 unfold zBr at e;cases h:K.lookup sysModules with
 |none=>rw[h]at e;cases e
 |some o =>
  rw[h]at e;dsimp only at e;cases hd:o.data with
  |dict es n=>exact⟨o,es,n,h,hd⟩|_=>rw[hd]at e;cases e
def cl_at(X:K.In h)(G:h.Ns mainGlobals mg)(e:zFo K cl rs=true):ClOk K mg cl rs:=by
 obtain⟨e,e3⟩:=zL e;obtain⟨e1,e2⟩:=zL e;refine⟨λhc=>?_,λc hc=>?_,sm_at e3⟩
 ·cases cl with
  |nil=>exact absurd rfl hc
  |cons c0 cs =>
   replace e1:(match Jf K "ThrowError" with
    |some T=>tIn K T&&(c0::cs).all λc=>(match Jf K c with|some C=>xIn K c C T|none=>false)
    |none=>false)=true:=e1
   cases hT:Jf K "ThrowError" with
   |none=>rw[hT]at e1;cases e1
   |some T =>
    rw[hT]at e1;obtain⟨t1,t2⟩:=zL e1;refine⟨T,Qv X G hT,tcls_of t1,λc hc=>?_⟩;have q:=all_eq_true.mp t2 c hc;cases hC:Jf K c with
    |none=>rw[hC]at q;cases q
    |some C =>
     rw[hC]at q;exact⟨C,Qv X G hC,(zDP q).1,(zDP q).2⟩
 ·have q:=all_eq_true.mp e2 c hc
  cases hC:Jf K c with
  |none=>rw[hC]at q;cases q
  |some C =>
   rw[hC]at q;exact⟨C,Qv X G hC,q⟩
end
def walkE{l:PySem.W.OpenLaw}{q:Program}{loose:List Str}{XP:(Str->Option Value)->Heap->Prop}{d:DefRec}{as:List Addr}{α:Type}{L:qH->α}{v:α}{x:Str}{F:MF}(hm:∀ns:List Int,ns.length<=63->∃outs,F [.v (.l (ns.map D.int))]=.ok (.v (.bl true),outs))
  (hn:l.most=some 63) (hdf:d.params.defaults=[])
  (Gk:∀(w:World) (K:qH) (mg:Str->Option Value) (fa:Addr) (h:Heap),K.In h->L K=v->h.Ns mainGlobals mg->mg d.name=some (.ref fa) ->
   ∃fd:FuncData,(∀(s:Shared) (u:Value),BindsTo s fd ⟨[u],[]⟩ [(x,u)])/\∀base:Heap,FnOk l.prog w K mg base (CXx l.prog w) 40 fa fd [x] (spM K mg 1 F)) :
  PySem.W.WalkO q loose XP (zAx as α L v).says l.row.toRowW d [] (λf vs=>PySem.call f vs):=by
 refine Att.attach_call hn hdf λw s₀ s₁ mg mb fa o pm cd doc a vs ns G Y ho hd hcd hmg hobj hints hlen hg=>?_
 obtain⟨K,KX,e⟩:=Y;obtain⟨fd,hb,hF⟩:=Gk w K mg fa _ KX e G.T.g hmg;exact zEO (sp:=spLaw K) (k:=40) KX G.T.g G.T.b G.T.builtins G.T.nolimit hg hobj hints (le_trans hlen (by decide)) ⟨rfl,rfl,by decide,by decide⟩ (λbase _ _=>(hF base).imp (law_imp hm)) hb (λH hO hS=>⟨a,ns,rfl,hS,hlen,λ_=>rfl⟩) λH e s' ⟨_,_,_,_,_,_,_,_,_,_,_,_,z⟩=>z
end DV
namespace My
open PySem L2 DV
def cs_:List (Str×D):=[("ALL",.t [.int 1,.int 1]),("LEAST_SIGNS",.int 2),("LEAST_WEIGHT",.int 1),("MOST_AWAITED",.int 8),("MOST_MATCHED",.int 6),("MOST_SIGNS",.int 3),("MOST_WEIGHT",.int 9),("NOTHING",.t [.int 0,.int 1]),("NO_STAND",.t [.non,.int 0])]
def bs_:List Str:=["abs","all","bool","dict","enumerate","int","isinstance","len","list","max","range","repr","sum","tuple","zip"]
def ri_:List Str:=[]
def vz:Bx :=
  (.bOne (.sRet (.and (.is .int (.var 0)) (.not (.is .bool (.var 0))))))
def Qw:List FI:=[]
def yX:MF:=fnM 1 (dB Qw vz)
def wG:Bx :=
  (.bOne (.sRet (.and (.call 0 (.ev (.var 0) .nil)) (.chain .le .le (.var 1) (.var 0) (.var 2)))))
def YV:List FI:=[⟨"is_whole",1,1,false,yX⟩]
def zb:MF:=fnM 3 (dB YV wG)
abbrev jW:Bx :=
  (.bOne (.sPar 0 1 (.cons (.var 1) (.cons (.bin .mod (.var 0) (.var 1)) .nil))))
def jv:Bx :=
  (.bSeq (.sPar 0 1 (.cons (.cB .abs (.cons (.var 0) .nil)) (.cons (.cB .abs (.cons (.var 1) .nil)) .nil)))
  (.bSeq (.sWhile (.tE (.cmp .ne (.var 1) (.c (.int 0))))
  jW)
  (.bOne (.sRet (.var 0)))))
def ym:List FI:=[]
def zo:MF:=fnM 2 (dB ym jv)
def Zf:Bx :=
  (.bSeq (.sIf (.tOr (.tNot (.tE (.is .tuple (.var 0)))) (.tE (.cmp .ne (.cB .len (.cons (.var 0) .nil)) (.c (.int 2))))) (.bOne (.sRet (.c (.bl false)))) .bNil)
  (.bSeq (.sTup [1,2] (.var 0))
  (.bSeq (.sIf (.tOr (.tNot (.tE (.call 1 (.ev (.var 1) .nil)))) (.tNot (.tE (.call 1 (.ev (.var 2) .nil))))) (.bOne (.sRet (.c (.bl false)))) .bNil)
  (.bOne (.sRet (.and (.cmp .gt (.var 2) (.c (.int 0))) (.cmp .eq (.call 0 (.ev (.var 1) (.ev (.var 2) .nil))) (.c (.int 1)))))))))
def wX:List FI:=[⟨"greatest_divisor",2,1,false,zo⟩,⟨"is_whole",1,1,false,yX⟩]
def yP:MF:=fnM 3 (dB wX Zf)
def v3:Bx :=
  (.bSeq (.sIf (.tE (.cmp .eq (.var 1) (.c (.int 0)))) (.bOne .sAny) .bNil)
  (.bSeq (.sSet 2 (.call 0 (.ev (.var 0) (.ev (.var 1) .nil))))
  (.bSeq (.sIf (.tE (.cmp .lt (.var 1) (.c (.int 0)))) (.bOne (.sSet 2 (.neg (.var 2)))) .bNil)
  (.bOne (.sRet (.t (.cons (.bin .fdiv (.var 0) (.var 2)) (.cons (.bin .fdiv (.var 1) (.var 2)) .nil))))))))
def Qx:List FI:=[⟨"greatest_divisor",2,1,false,zo⟩]
def zh:MF:=fnM 3 (dB Qx v3)
def JK:Bx :=
  (.bOne (.sRet (.call 0 (.ev (.bin .add (.bin .mul (.ix (.var 0) (.c (.int 0))) (.ix (.var 1) (.c (.int 1)))) (.bin .mul (.ix (.var 1) (.c (.int 0))) (.ix (.var 0) (.c (.int 1))))) (.ev (.bin .mul (.ix (.var 0) (.c (.int 1))) (.ix (.var 1) (.c (.int 1)))) .nil)))))
def uf:List FI:=[⟨"share_of",2,2,false,zh⟩]
def z9:MF:=fnM 2 (dB uf JK)
def Zg:Bx :=
  (.bOne (.sRet (.call 0 (.ev (.bin .sub (.bin .mul (.ix (.var 0) (.c (.int 0))) (.ix (.var 1) (.c (.int 1)))) (.bin .mul (.ix (.var 1) (.c (.int 0))) (.ix (.var 0) (.c (.int 1))))) (.ev (.bin .mul (.ix (.var 0) (.c (.int 1))) (.ix (.var 1) (.c (.int 1)))) .nil)))))
def ug:List FI:=[⟨"share_of",2,2,false,zh⟩]
def jQ:MF:=fnM 2 (dB ug Zg)
def wY:Bx :=
  (.bOne (.sRet (.call 0 (.ev (.bin .mul (.ix (.var 0) (.c (.int 0))) (.ix (.var 1) (.c (.int 0)))) (.ev (.bin .mul (.ix (.var 0) (.c (.int 1))) (.ix (.var 1) (.c (.int 1)))) .nil)))))
def vH:List FI:=[⟨"share_of",2,2,false,zh⟩]
def zi:MF:=fnM 2 (dB vH wY)
def v4:Bx :=
  (.bOne (.sRet (.call 0 (.ev (.bin .mul (.ix (.var 0) (.c (.int 0))) (.ix (.var 1) (.c (.int 1)))) (.ev (.bin .mul (.ix (.var 0) (.c (.int 1))) (.ix (.var 1) (.c (.int 0)))) .nil)))))
def Qy:List FI:=[⟨"share_of",2,2,false,zh⟩]
def yn:MF:=fnM 2 (dB Qy v4)
abbrev JL:Bx :=
  (.bOne (.sSet 2 (.call 0 (.ev (.var 2) (.ev (.var 0) .nil)))))
def YW:Bx :=
  (.bSeq (.sSet 2 (.gl (.t [.int 1,.int 1])))
  (.bSeq (.sForR1 (.cons (.var 1) .nil) (.n 3)
  JL)
  (.bOne (.sRet (.var 2)))))
def Jm:List FI:=[⟨"share_times",2,3,false,zi⟩]
def jc:MF:=fnM 4 (dB Jm YW)
abbrev wZ:Bx :=
  (.bOne (.sSet 1 (.call 0 (.ev (.var 1) (.ev (.var 2) .nil)))))
def Wn:Bx :=
  (.bSeq (.sSet 1 (.gl (.t [.int 0,.int 1])))
  (.bSeq (.sForL (.var 0) (.n 2)
  wZ)
  (.bOne (.sRet (.var 1)))))
def JM:List FI:=[⟨"share_plus",2,3,false,z9⟩]
def yb:MF:=fnM 3 (dB JM Wn)
def v5:Bx :=
  (.bSeq (.sIf (.tOr (.tNot (.tE (.is .tuple (.var 0)))) (.tNot (.tE (.chain .le .le (.gl (.int 2)) (.cB .len (.cons (.var 0) .nil)) (.gl (.int 3)))))) (.bOne (.sRet (.c (.bl false)))) .bNil)
  (.bOne (.sRet (.cB .all (.cons (.comp 1 ["weight"] [] [] (.iT (.var 0)) (.n 0) .tTr (.call 0 (.ev (.var 0) (.ev (.gl (.int 1)) (.ev (.gl (.int 9)) .nil))))) .nil)))))
def Qz:List FI:=[⟨"is_whole_within",3,2,false,zb⟩]
def wH:MF:=fnM 1 (dB Qz v5)
def v6:Bx :=
  (.bOne (.sIf (.tNot (.tE (.call 0 (.ev (.var 0) .nil)))) (.bOne .sAny) .bNil))
def Q2:List FI:=[⟨"die_good",1,3,false,wH⟩]
def Jd:MF:=fnM 1 (dB Q2 v6)
def YX:Bx :=
  (.bOne (.sIf (.tNot (.tE (.call 0 (.ev (.var 0) (.ev (.var 1) (.ev (.var 2) .nil)))))) (.bOne .sAny) .bNil))
def vI:List FI:=[⟨"is_whole_within",3,2,false,zb⟩]
def yw:MF:=fnM 3 (dB vI YX)
def Wo:Bx :=
  (.bOne (.sDrop (.call 0 (.ev (.var 0) (.ev (.c (.int 0)) (.ev (.bin .sub (.var 1) (.c (.int 1))) .nil))))))
def G5:List FI:=[⟨"need_number",3,3,false,yw⟩]
def wc:MF:=fnM 2 (dB G5 Wo)
def Jn:Bx :=
  (.bSeq (.sDrop (.call 2 (.ev (.var 0) .nil)))
  (.bSeq (.sDrop (.call 1 (.ev (.var 1) (.ev (.cB .len (.cons (.var 0) .nil)) .nil))))
  (.bOne (.sDrop (.call 0 (.ev (.var 2) (.ev (.c (.int 1)) (.ev (.gl (.int 8)) .nil))))))))
def Wp:List FI:=[⟨"need_number",3,3,false,yw⟩,⟨"need_sign",2,4,false,wc⟩,⟨"need_die",1,4,false,Jd⟩]
def jH:MF:=fnM 3 (dB Wp Jn)
def Zh:Bx :=
  (.bSeq (.sDrop (.call 3 (.ev (.var 0) (.ev (.var 1) (.ev (.var 2) .nil)))))
  (.bSeq (.sSet 3 (.frz (.comp 1 ["i"] ["die","sign"] [0,1] (.iR1 (.cons (.bin .add (.var 2) (.c (.int 1))) .nil)) (.n 0) .tTr (.call 1 (.ev (.call 2 (.ev (.cB .sum (.cons (.var 1) .nil)) (.ev (.ix (.var 1) (.var 2)) .nil))) (.ev (.var 0) .nil))))))
  (.bOne (.sRet (.comp 1 ["j"] ["powers"] [3] (.iR1 (.cons (.var 2) .nil)) (.n 0) .tTr (.call 0 (.ev (.sl (.var 1) (.oS (.bin .add (.var 0) (.c (.int 1)))) .oN) .nil)))))))
def YY:List FI:=[⟨"share_sum",1,4,false,yb⟩,⟨"share_power",2,4,false,jc⟩,⟨"share_of",2,2,false,zh⟩,⟨"need_awaited",3,5,false,jH⟩]
def yc:MF:=fnM 4 (dB YY Zh)
def Zi:Bx :=
  (.bOne (.sRet (.ix (.call 0 (.ev (.var 0) (.ev (.var 1) (.ev (.var 2) .nil)))) (.c (.int 0)))))
def uh:List FI:=[⟨"waits_list",3,6,false,yc⟩]
def jw:MF:=fnM 3 (dB uh Zi)
def Zj:Bx :=
  (.bSeq (.sIf (.tOr (.tNot (.tE (.is .tuple (.var 0)))) (.tE (.cmp .ne (.cB .len (.cons (.var 0) .nil)) (.c (.int 5))))) (.bOne (.sRet (.c (.bl false)))) .bNil)
  (.bSeq (.sTup [1,2,3,4,5] (.var 0))
  (.bSeq (.sIf (.tNot (.tE (.call 1 (.ev (.var 1) .nil)))) (.bOne (.sRet (.c (.bl false)))) .bNil)
  (.bSeq (.sIf (.tNot (.tE (.cB .all (.cons (.comp 1 ["thrown"] ["die"] [1] (.iT (.t (.cons (.var 2) (.cons (.var 4) .nil)))) (.n 0) .tTr (.call 0 (.ev (.var 0) (.ev (.c (.int 0)) (.ev (.bin .sub (.cB .len (.cons (.var 1) .nil)) (.c (.int 1))) .nil))))) .nil)))) (.bOne (.sRet (.c (.bl false)))) .bNil)
  (.bOne (.sRet (.and (.cmp .ne (.var 2) (.var 4)) (.cB .all (.cons (.comp 1 ["wanted"] [] [] (.iT (.t (.cons (.var 3) (.cons (.var 5) .nil)))) (.n 0) .tTr (.call 0 (.ev (.var 0) (.ev (.c (.int 1)) (.ev (.gl (.int 6)) .nil))))) .nil)))))))))
def ul:List FI:=[⟨"is_whole_within",3,2,false,zb⟩,⟨"die_good",1,3,false,wH⟩]
def jx:MF:=fnM 6 (dB ul Zj)
def Zk:Bx :=
  (.bOne (.sIf (.tNot (.tE (.call 0 (.ev (.var 0) .nil)))) (.bOne .sAny) .bNil))
def um:List FI:=[⟨"match_good",1,4,false,jx⟩]
def yQ:MF:=fnM 1 (dB um Zk)
def YZ:Bx :=
  (.bSeq (.sDrop (.call 0 (.ev (.var 0) .nil)))
  (.bSeq (.sTup [1,2,3,4,5] (.var 0))
  (.bSeq (.sSet 6 (.comp 1 ["many"] ["sign"] [2] (.iR2 (.cons (.c (.int 1)) (.cons (.var 3) .nil))) (.n 0) .tTr (.t (.cons (.var 1) (.cons (.var 0) .nil)))))
  (.bSeq (.sSet 7 (.comp 1 ["many"] ["other"] [4] (.iR2 (.cons (.c (.int 1)) (.cons (.var 5) .nil))) (.n 0) .tTr (.t (.cons (.var 1) (.cons (.var 0) .nil)))))
  (.bOne (.sRet (.bin .add (.bin .add (.l (.cons (.gl (.t [.non,.int 0])) .nil)) (.var 6)) (.var 7))))))))
def j6:List FI:=[⟨"need_match",1,5,false,yQ⟩]
def jd:MF:=fnM 8 (dB j6 YZ)
def Jo:Bx :=
  (.bSeq (.sTup [3,4,5,6,7] (.var 0))
  (.bSeq (.sIf (.tE (.cmp .nin (.var 2) (.t (.cons (.var 4) (.cons (.var 6) .nil))))) (.bOne (.sRet (.gl (.t [.non,.int 0])))) .bNil)
  (.bOne (.sRet (.ifx (.tE (.cmp .eq (.var 2) (.ix (.var 1) (.c (.int 0))))) (.t (.cons (.var 2) (.cons (.bin .add (.ix (.var 1) (.c (.int 1))) (.c (.int 1))) .nil))) (.t (.cons (.var 2) (.cons (.c (.int 1)) .nil))))))))
def JN:List FI:=[]
def jI:MF:=fnM 8 (dB JN Jo)
def Yb:Bx :=
  (.bSeq (.sDrop (.call 4 (.ev (.var 0) .nil)))
  (.bSeq (.sTup [1,2,3,4,5] (.var 0))
  (.bSeq (.sPar 6 7 (.cons (.call 3 (.ev (.var 1) (.ev (.var 2) (.ev (.var 3) .nil)))) (.cons (.call 3 (.ev (.var 1) (.ev (.var 4) (.ev (.var 5) .nil)))) .nil)))
  (.bSeq (.sSet 8 (.call 2 (.ev (.ix (.var 6) (.c (.int 0))) (.ev (.ix (.var 7) (.c (.int 0))) .nil))))
  (.bSeq (.sSet 9 (.l (.cons (.call 0 (.ev (.ix (.var 7) (.c (.int 0))) (.ev (.var 8) .nil))) .nil)))
  (.bSeq (.sSet 10 (.comp 1 ["wait"] ["together"] [8] (.iL (.sl (.var 6) (.oS (.c (.int 1))) .oN)) (.n 0) .tTr (.call 1 (.ev (.gl (.t [.int 1,.int 1])) (.ev (.call 0 (.ev (.var 0) (.ev (.var 1) .nil))) .nil)))))
  (.bSeq (.sSet 11 (.comp 1 ["wait"] ["together"] [8] (.iL (.sl (.var 7) (.oS (.c (.int 1))) .oN)) (.n 0) .tTr (.call 0 (.ev (.var 0) (.ev (.var 1) .nil)))))
  (.bOne (.sRet (.cB .tuple (.cons (.bin .add (.bin .add (.var 9) (.var 10)) (.var 11)) .nil)))))))))))
def j7:List FI:=[⟨"share_by",2,3,false,yn⟩,⟨"share_less",2,3,false,jQ⟩,⟨"share_plus",2,3,false,z9⟩,⟨"waits_list",3,6,false,yc⟩,⟨"need_match",1,5,false,yQ⟩]
def yg:MF:=fnM 12 (dB j7 Yb)
def Yc:Bx :=
  (.bOne (.sRet (.ix (.call 0 (.ev (.var 0) .nil)) (.c (.int 0)))))
def vJ:List FI:=[⟨"share_paper",1,7,false,yg⟩]
def yV:MF:=fnM 1 (dB vJ Yc)
abbrev jJ:Bx :=
  (.bSeq (.sSet 11 (.comp 1 ["thrown"] ["shares","match","stand"] [8,0,10] (.iR1 (.cons (.frd 8 (.cB .len (.cons (.var 3) .nil))) .nil)) (.n 0) .tTr (.dgO 1 (.call 2 (.ev (.var 2) (.ev (.var 3) (.ev (.var 0) .nil)))))))
  (.bOne (.sIf (.tE (.cmp .ne (.dgO 8 (.var 10)) (.call 0 (.ev (.comp 2 ["chance","share"] [] [] (.iZ false false (.cons (.var 9) (.cons (.var 11) .nil))) (.t [0,1]) .tTr (.call 1 (.ev (.var 0) (.ev (.var 1) .nil)))) .nil)))) (.bOne (.sRet (.c (.bl false)))) .bNil)))
def JO:Bx :=
  (.bSeq (.sSet 2 (.call 5 (.ev (.var 0) .nil)))
  (.bSeq (.sIf (.tOr (.tNot (.tE (.is .tuple (.var 1)))) (.tE (.cmp .ne (.cB .len (.cons (.var 1) .nil)) (.cB .len (.cons (.var 2) .nil))))) (.bOne (.sRet (.c (.bl false)))) .bNil)
  (.bSeq (.sIf (.tNot (.tE (.cB .all (.cons (.comp 1 ["share"] [] [] (.iT (.var 1)) (.n 0) .tTr (.call 4 (.ev (.var 0) .nil))) .nil)))) (.bOne (.sRet (.c (.bl false)))) .bNil)
  (.bSeq (.sTup [3,4,5,6,7] (.var 0))
  (.bSeq (.sSet 8 (.dzip false true (.cons (.var 2) (.cons (.var 1) .nil))))
  (.bSeq (.sDput 8 (.t (.cons (.var 4) (.cons (.var 5) .nil))) (.gl (.t [.int 1,.int 1])))
  (.bSeq (.sDput 8 (.t (.cons (.var 6) (.cons (.var 7) .nil))) (.gl (.t [.int 0,.int 1])))
  (.bSeq (.sSet 9 (.comp 1 ["weight"] ["die"] [3] (.iT (.var 3)) (.n 0) .tTr (.call 3 (.ev (.var 0) (.ev (.cB .sum (.cons (.var 1) .nil)) .nil)))))
  (.bSeq (.sForL (.var 2) (.n 10)
  jJ)
  (.bOne (.sRet (.c (.bl true)))))))))))))
def zO:List FI:=[⟨"share_sum",1,4,false,yb⟩,⟨"share_times",2,3,false,zi⟩,⟨"stand_behind",3,1,false,jI⟩,⟨"share_of",2,2,false,zh⟩,⟨"share_good",1,2,false,yP⟩,⟨"stands_list",1,6,false,jd⟩]
def yA:MF:=fnM 12 (dB zO JO)
def Yd:Bx :=
  (.bSeq (.sDrop (.call 3 (.ev (.var 0) .nil)))
  (.bSeq (.sTup [1,2,3,4,5] (.var 0))
  (.bOne (.sRet (.call 0 (.ev (.call 2 (.ev (.var 1) (.ev (.var 2) (.ev (.var 3) .nil)))) (.ev (.call 1 (.ev (.var 0) .nil)) .nil)))))))
def vK:List FI:=[⟨"share_times",2,3,false,zi⟩,⟨"first_share",1,8,false,yV⟩,⟨"mean_first",3,7,false,jw⟩,⟨"need_match",1,5,false,yQ⟩]
def yx:MF:=fnM 6 (dB vK Yd)
def j8:Bx :=
  (.bSeq (.sIf (.tE (.cmp .lt (.var 1) (.cB .len (.cons (.var 0) .nil)))) (.bOne (.sRet (.ix (.var 0) (.var 1)))) .bNil)
  (.bOne (.sRet (.c (.int 0)))))
def JP:List FI:=[]
def yj:MF:=fnM 2 (dB JP j8)
def J7:Bx :=
  (.bSeq (.sSet 0 (.bin .mod (.bin .add (.var 0) (.c (.int 7919))) (.c (.int 2147483647))))
  (.bOne (.sRet (.bin .mod (.bin .add (.bin .add (.bin .mul (.var 0) (.var 0)) (.bin .mul (.c (.int 48271)) (.var 0))) (.c (.int 12345))) (.c (.int 2147483629))))))
def Zl:List FI:=[]
def wd:MF:=fnM 1 (dB Zl J7)
def we:Bx :=
  (.bSeq (.sSet 1 (.cB .max (.cons (.var 0) (.cons (.bin .sub (.c (.int 0)) (.var 0)) .nil))))
  (.bOne (.sRet (.l (.cons (.var 1) (.cons (.cB .int (.cons (.cmp .ge (.var 1) (.bin .pow (.c (.int 10)) (.c (.int 18)))) .nil)) (.cons (.bin .mod (.var 1) (.c (.int 1000003))) .nil)))))))
def Jp:List FI:=[]
def yy:MF:=fnM 2 (dB Jp we)
def wf:Bx :=
  (.bSeq (.sIf (.tE (.cmp .eq (.ixO 0 (.c (.int 1))) (.c (.int 1)))) (.bSeq (.sSet 2 (.bin .mod (.ixO 0 (.c (.int 0))) (.var 1)))
  (.bSeq (.sIx 0 (.c (.int 0)) (.bin .fdiv (.ixO 0 (.c (.int 0))) (.var 1)))
  (.bOne (.sRet (.var 2))))) .bNil)
  (.bSeq (.sIx 0 (.c (.int 2)) (.call 0 (.ev (.bin .add (.call 0 (.ev (.ixO 0 (.c (.int 2))) .nil)) (.c (.int 7))) .nil)))
  (.bOne (.sRet (.bin .mod (.bin .fdiv (.ixO 0 (.c (.int 2))) (.c (.int 64))) (.var 1))))))
def JQ:List FI:=[⟨"_law_next",1,1,false,wd⟩]
def zZ:MF:=fnM 3 (dB JQ wf)
abbrev Jq:Bx :=
  (.bOne (.sPar 2 3 (.cons (.var 3) (.cons (.bin .mod (.var 2) (.var 3)) .nil))))
def Zm:Bx :=
  (.bSeq (.sPar 2 3 (.cons (.cB .abs (.cons (.var 0) .nil)) (.cons (.cB .abs (.cons (.var 1) .nil)) .nil)))
  (.bSeq (.sWhile (.tE (.cmp .ne (.var 3) (.c (.int 0))))
  Jq)
  (.bSeq (.sIf (.tE (.cmp .lt (.var 1) (.c (.int 0)))) (.bOne (.sSet 2 (.bin .sub (.c (.int 0)) (.var 2)))) .bNil)
  (.bOne (.sRet (.t (.cons (.bin .fdiv (.var 0) (.var 2)) (.cons (.bin .fdiv (.var 1) (.var 2)) .nil))))))))
def wg:List FI:=[]
def zm:MF:=fnM 4 (dB wg Zm)
def v7:Bx :=
  (.bOne (.sRet (.call 0 (.ev (.bin .add (.bin .mul (.ix (.var 0) (.c (.int 0))) (.ix (.var 1) (.c (.int 1)))) (.bin .mul (.ix (.var 1) (.c (.int 0))) (.ix (.var 0) (.c (.int 1))))) (.ev (.bin .mul (.ix (.var 0) (.c (.int 1))) (.ix (.var 1) (.c (.int 1)))) .nil)))))
def Wq:List FI:=[⟨"_law_share",2,1,false,zm⟩]
def jh:MF:=fnM 2 (dB Wq v7)
def Zn:Bx :=
  (.bOne (.sRet (.call 0 (.ev (.bin .mul (.ix (.var 0) (.c (.int 0))) (.ix (.var 1) (.c (.int 0)))) (.ev (.bin .mul (.ix (.var 0) (.c (.int 1))) (.ix (.var 1) (.c (.int 1)))) .nil)))))
def Ye:List FI:=[⟨"_law_share",2,1,false,zm⟩]
def yo:MF:=fnM 2 (dB Ye Zn)
def Yg:Bx :=
  (.bSeq (.sSet 1 (.ix (.l (.cons (.c (.int 1)) (.cons (.c (.int 3)) (.cons (.c (.int 9)) .nil)))) (.call 0 (.lend 0 (.ev (.c (.int 3)) .nil)))))
  (.bOne (.sRet (.cB .tuple (.cons (.comp 1 ["_law_sign"] ["_law_pen","_law_top"] [0,1] (.iR1 (.cons (.bin .add (.c (.int 2)) (.call 0 (.lend 0 (.ev (.c (.int 2)) .nil)))) .nil)) (.n 0) .tTr (.bin .add (.c (.int 1)) (.call 0 (.lend 1 (.ev (.var 2) .nil))))) .nil)))))
def jK:List FI:=[⟨"_law_draw",2,2,false,zZ⟩]
def je:MF:=fnM 2 (dB jK Yg)
def JR:Bx :=
  (.bSeq (.sSet 1 (.call 1 (.lend 0 .nil)))
  (.bSeq (.sSet 2 (.call 0 (.lend 0 (.ev (.cB .len (.cons (.var 1) .nil)) .nil))))
  (.bSeq (.sSet 3 (.bin .mod (.bin .add (.bin .add (.var 2) (.c (.int 1))) (.call 0 (.lend 0 (.ev (.bin .sub (.cB .len (.cons (.var 1) .nil)) (.c (.int 1))) .nil)))) (.cB .len (.cons (.var 1) .nil))))
  (.bOne (.sRet (.t (.cons (.var 1) (.cons (.var 2) (.cons (.bin .add (.c (.int 1)) (.call 0 (.lend 0 (.ev (.c (.int 6)) .nil)))) (.cons (.var 3) (.cons (.bin .add (.c (.int 1)) (.call 0 (.lend 0 (.ev (.c (.int 6)) .nil)))) .nil)))))))))))
def wx:List FI:=[⟨"_law_draw",2,2,false,zZ⟩,⟨"_law_die_by",1,3,false,je⟩]
def yz:MF:=fnM 4 (dB wx JR)
abbrev y1:Bx :=
  (.bOne (.sSet 1 (.bin .add (.var 1) (.comp 1 ["_law_length"] ["_law_sign"] [2] (.iR2 (.cons (.c (.int 1)) (.cons (.var 3) .nil))) (.n 0) .tTr (.t (.cons (.var 1) (.cons (.var 0) .nil)))))))
def Yh:Bx :=
  (.bSeq (.sSet 1 (.l (.cons (.t (.cons (.c .non) (.cons (.c (.int 0)) .nil))) .nil)))
  (.bSeq (.sForL (.l (.cons (.t (.cons (.ix (.var 0) (.c (.int 1))) (.cons (.ix (.var 0) (.c (.int 2))) .nil))) (.cons (.t (.cons (.ix (.var 0) (.c (.int 3))) (.cons (.ix (.var 0) (.c (.int 4))) .nil))) .nil))) (.t [2,3])
  y1)
  (.bOne (.sRet (.var 1)))))
def zj:List FI:=[]
def jf:MF:=fnM 4 (dB zj Yh)
abbrev JS:Bx :=
  (.bOne (.sIf (.tE (.cmp .eq (.var 2) (.var 4))) (.bOne (.sRet (.ifx (.tE (.cmp .eq (.var 3) (.var 5))) (.var 6) (.t (.cons (.var 2) (.cons (.var 3) .nil)))))) .bNil))
def Yi:Bx :=
  (.bSeq (.sSet 3 (.ifx (.tE (.cmp .eq (.ix (.var 1) (.c (.int 0))) (.var 2))) (.bin .add (.ix (.var 1) (.c (.int 1))) (.c (.int 1))) (.c (.int 1))))
  (.bSeq (.sForL (.l (.cons (.t (.cons (.ix (.var 0) (.c (.int 1))) (.cons (.ix (.var 0) (.c (.int 2))) (.cons (.c (.int 1)) .nil)))) (.cons (.t (.cons (.ix (.var 0) (.c (.int 3))) (.cons (.ix (.var 0) (.c (.int 4))) (.cons (.c (.int 0)) .nil)))) .nil))) (.t [4,5,6])
  JS)
  (.bOne (.sRet (.t (.cons (.c .non) (.cons (.c (.int 0)) .nil)))))))
def jL:List FI:=[]
def y3:MF:=fnM 7 (dB jL Yi)
abbrev y4:Bx :=
  (.bOne (.sIf (.tAnd (.tE (.cmp .ne (.var 6) (.var 12))) (.tE (.cmp .ne (.ix (.ix (.ixO 5 (.var 6)) (.var 12)) (.c (.int 0))) (.c (.int 0))))) (.bSeq (.sSet 10 (.t (.cons (.bin .sub (.c (.int 0)) (.ix (.ix (.ixO 5 (.var 6)) (.var 12)) (.c (.int 0)))) (.cons (.ix (.ix (.ixO 5 (.var 6)) (.var 12)) (.c (.int 1))) .nil))))
  (.bOne (.sIx 5 (.var 6) (.comp 2 ["_law_one","_law_two"] ["_law_part"] [10] (.iZ false false (.cons (.ixO 5 (.var 6)) (.cons (.ixO 5 (.var 12)) .nil))) (.t [0,1]) .tTr (.call 0 (.ev (.var 0) (.ev (.call 1 (.ev (.var 2) (.ev (.var 1) .nil))) .nil))))))) .bNil))
abbrev y6:Bx :=
  (.bSeq (.sSet 13 (.comp 1 ["_law_at"] ["_law_rows","_law_place"] [5,12] (.iR2 (.cons (.var 12) (.cons (.var 4) .nil))) (.n 0) (.tE (.cmp .ne (.ix (.ix (.ixO 1 (.var 0)) (.var 2)) (.c (.int 0))) (.c (.int 0)))) (.var 0)))
  (.bSeq (.sSw 5 (.var 12) (.ix (.var 13) (.c (.int 0))) (.t (.cons (.ixO 5 (.ix (.var 13) (.c (.int 0)))) (.cons (.ixO 5 (.var 12)) .nil))))
  (.bSeq (.sTup [14,15] (.ix (.ixO 5 (.var 12)) (.var 12)))
  (.bSeq (.sIx 5 (.var 12) (.comp 1 ["_law_one"] ["_law_bottom","_law_top"] [15,14] (.iL (.ixO 5 (.var 12))) (.n 0) .tTr (.call 1 (.ev (.var 0) (.ev (.call 2 (.ev (.var 1) (.ev (.var 2) .nil))) .nil)))))
  (.bOne (.sForR1 (.cons (.var 4) .nil) (.n 6)
  y4))))))
abbrev yd:Bx :=
  (.bSeq (.sSet 10 (.call 2 (.ev (.ix (.ix (.var 0) (.c (.int 0))) (.var 9)) (.ev (.cB .sum (.cons (.ix (.var 0) (.c (.int 0))) .nil)) .nil))))
  (.bSeq (.sSet 11 (.call 3 (.ev (.var 0) (.ev (.var 7) (.ev (.var 9) .nil)))))
  (.bOne (.sIf (.tE (.is .int (.var 11))) (.bOne (.sIx 8 (.var 4) (.call 0 (.ev (.ixO 8 (.var 4)) (.ev (.call 1 (.ev (.var 10) (.ev (.t (.cons (.ix (.var 1) (.var 11)) (.cons (.c (.int 1)) .nil))) .nil))) .nil))))) (.bSeq (.sSet 12 (.idxK (.var 3) (.var 11)))
  (.bOne (.sIx 8 (.var 12) (.call 0 (.ev (.ixO 8 (.var 12)) (.ev (.t (.cons (.bin .sub (.c (.int 0)) (.ix (.var 10) (.c (.int 0)))) (.cons (.ix (.var 10) (.c (.int 1))) .nil))) .nil))))))))))
abbrev y8:Bx :=
  (.bSeq (.sSet 8 (.bin .add (.comp 1 ["_law_place"] ["_law_at"] [6] (.iR1 (.cons (.var 4) .nil)) (.n 0) .tTr (.t (.cons (.cB .int (.cons (.cmp .eq (.var 0) (.var 1)) .nil)) (.cons (.c (.int 1)) .nil)))) (.l (.cons (.t (.cons (.var 2) (.cons (.c (.int 1)) .nil))) .nil))))
  (.bSeq (.sForR1 (.cons (.cB .len (.cons (.ix (.var 0) (.c (.int 0))) .nil)) .nil) (.n 9)
  yd)
  (.bOne (.sApp 5 (.mov 8)))))
def Yj:Bx :=
  (.bSeq (.sSet 3 (.call 4 (.ev (.var 0) .nil)))
  (.bSeq (.sSet 4 (.cB .len (.cons (.var 3) .nil)))
  (.bSeq (.sSet 5 (.l .nil))
  (.bSeq (.sForI (.iE false (.cons (.var 3) .nil)) (.t [6,7])
  y8)
  (.bSeq (.sForR1 (.cons (.var 4) .nil) (.n 12)
  y6)
  (.bOne (.sRet (.cB .tuple (.cons (.comp 1 ["_law_row"] ["_law_size"] [4] (.iL (.var 5)) (.n 0) .tTr (.ix (.var 0) (.var 1))) .nil)))))))))
def zE:List FI:=[⟨"_law_add",2,2,false,jh⟩,⟨"_law_times",2,2,false,yo⟩,⟨"_law_share",2,1,false,zm⟩,⟨"_law_behind",3,1,false,y3⟩,⟨"_law_stands",1,1,false,jf⟩]
def y9:MF:=fnM 16 (dB zE Yj)
def Wr:Bx :=
  (.bSeq (.sSet 2 (.call 0 (.lend 1 (.ev (.cB .len (.cons (.var 0) .nil)) .nil))))
  (.bSeq (.sTup [3,4] (.ix (.var 0) (.var 2)))
  (.bSeq (.sSet 5 (.l (.cons (.t (.cons (.bin .add (.var 3) (.var 4)) (.cons (.var 4) .nil))) (.cons (.t (.cons (.bin .mul (.c (.int 2)) (.var 3)) (.cons (.bin .mul (.c (.int 2)) (.var 4)) .nil))) (.cons (.var 3) (.cons (.c (.bl true)) (.cons (.c .non) (.cons (.t (.cons (.var 3) .nil)) (.cons (.l (.cons (.var 3) (.cons (.var 4) .nil))) (.cons (.t (.cons (.c (.int 1)) (.cons (.c (.int 2)) .nil))) .nil))))))))))
  (.bSeq (.sSet 5 (.ix (.var 5) (.call 0 (.lend 1 (.ev (.c (.int 8)) .nil)))))
  (.bSeq (.sSet 6 (.l (.cons (.bin .add (.bin .add (.sl (.var 0) .oN (.oS (.var 2))) (.t (.cons (.var 5) .nil))) (.sl (.var 0) (.oS (.bin .add (.var 2) (.c (.int 1)))) .oN)) (.cons (.bin .add (.sl (.var 0) .oN (.oS (.var 2))) (.sl (.var 0) (.oS (.bin .add (.var 2) (.c (.int 1)))) .oN)) (.cons (.bin .add (.var 0) (.t (.cons (.var 5) .nil))) (.cons (.cB .list (.cons (.var 0) .nil)) .nil))))))
  (.bOne (.sRet (.ix (.bin .add (.var 6) (.l (.cons (.stp false (.var 0)) (.cons (.c .non) (.cons (.c (.int 0)) (.cons .dic (.cons (.t (.cons (.var 0) .nil)) (.cons (.t .nil) .nil)))))))) (.call 0 (.lend 1 (.ev (.c (.int 10)) .nil)))))))))))
def JT:List FI:=[⟨"_law_draw",2,2,false,zZ⟩]
def wj:MF:=fnM 7 (dB JT Wr)
abbrev Q3:Bx :=
  (.bSeq (.sSet 6 (.call 2 (.ev (.var 3) (.ev (.var 5) .nil))))
  (.bOne (.sIf (.tOr (.tNot (.tE (.is .bool (.var 6)))) (.tE (.cmp .ne (.var 6) (.cmp .eq (.cB .repr (.cons (.var 5) .nil)) (.cB .repr (.cons (.var 4) .nil)))))) (.bOne (.sRet (.c (.bl false)))) .bNil)))
abbrev Q4:Bx :=
  (.bSeq (.sSet 2 (.call 7 (.ev (.var 1) .nil)))
  (.bSeq (.sSet 3 (.call 6 (.lend 2 .nil)))
  (.bSeq (.sSet 4 (.call 4 (.ev (.var 3) (.ev (.l (.cons (.c (.int 0)) (.cons (.c (.int 1)) .nil))) (.ev (.c (.int 0)) .nil)))))
  (.bSeq (.sIf (.tOr (.tE (.cmp .ne (.cB .repr (.cons (.call 5 (.ev (.var 3) .nil)) .nil)) (.cB .repr (.cons (.var 4) .nil)))) (.tE (.cmp .ne (.cB .repr (.cons (.call 1 (.ev (.var 3) .nil)) .nil)) (.cB .repr (.cons (.ix (.var 4) (.c (.int 0))) .nil))))) (.bOne (.sRet (.c (.bl false)))) .bNil)
  (.bSeq (.sIf (.tE (.cmp .ne (.cB .repr (.cons (.call 0 (.ev (.var 3) .nil)) .nil)) (.cB .repr (.cons (.ix (.call 4 (.ev (.var 3) (.ev (.l (.cons (.c (.int 0)) (.cons (.c (.int 0)) .nil))) (.ev (.c (.int 1)) .nil)))) (.c (.int 0))) .nil)))) (.bOne (.sRet (.c (.bl false)))) .bNil)
  (.bOne (.sForL (.bin .add (.l (.cons (.var 4) .nil)) (.comp 1 ["_law_turn"] ["_law_due","_law_pen"] [4,2] (.iR1 (.cons (.c (.int 5)) .nil)) (.n 0) .tTr (.call 3 (.ev (.var 1) (.lend 2 .nil))))) (.n 5)
  Q3)))))))
def t_law:Bx :=
  (.bSeq (.sForL (.bin .add (.l (.cons (.call 8 (.ev (.var 0) (.ev (.c (.int 0)) .nil))) .nil)) (.sl (.var 0) (.oS (.c (.int 1))) (.oS (.c (.int 3))))) (.n 1)
  Q4)
  (.bOne (.sRet (.and (.cmp .eq (.call 1 (.ev (.t (.cons (.t (.cons (.c (.int 1)) (.cons (.c (.int 1)) .nil))) (.cons (.c (.int 0)) (.cons (.c (.int 1)) (.cons (.c (.int 1)) (.cons (.c (.int 1)) .nil)))))) .nil)) (.t (.cons (.c (.int 1)) (.cons (.c (.int 2)) .nil)))) (.cmp .eq (.call 0 (.ev (.t (.cons (.t (.cons (.c (.int 1)) (.cons (.c (.int 1)) .nil))) (.cons (.c (.int 0)) (.cons (.c (.int 1)) (.cons (.c (.int 1)) (.cons (.c (.int 1)) .nil)))))) .nil)) (.t (.cons (.c (.int 1)) (.cons (.c (.int 1)) .nil))))))))
def JU:List FI:=[⟨"mean_throws",1,9,false,yx⟩,⟨"first_share",1,8,false,yV⟩,⟨"paper_good",2,7,false,yA⟩,⟨"_law_bent",2,3,false,wj⟩,⟨"_law_values",3,3,false,y9⟩,⟨"share_paper",1,7,false,yg⟩,⟨"_law_match_by",1,4,false,yz⟩,⟨"_law_pen_of",1,1,false,yy⟩,⟨"_law_cell_at",2,1,false,yj⟩]
def m_law:MF:=fnM 7 (dB JU t_law)
structure Txt(K:qH)(mg:Str->Option Value):Prop where
 n_abs:mg "abs"=none
 n_all:mg "all"=none
 n_bool:mg "bool"=none
 n_dict:mg "dict"=none
 n_enumerate:mg "enumerate"=none
 n_int:mg "int"=none
 n_isinstance:mg "isinstance"=none
 n_len:mg "len"=none
 n_list:mg "list"=none
 n_max:mg "max"=none
 n_range:mg "range"=none
 n_repr:mg "repr"=none
 n_sum:mg "sum"=none
 n_tuple:mg "tuple"=none
 n_zip:mg "zip"=none
 c_ALL:∃a,mg "ALL"=some (.ref a)/\∀H,Rep K mg H (.t [.int 1,.int 1]) (.ref a)
 c_LEAST_SIGNS:∃t,mg "LEAST_SIGNS"=some (.int 2 t)
 c_LEAST_WEIGHT:∃t,mg "LEAST_WEIGHT"=some (.int 1 t)
 c_MOST_AWAITED:∃t,mg "MOST_AWAITED"=some (.int 8 t)
 c_MOST_MATCHED:∃t,mg "MOST_MATCHED"=some (.int 6 t)
 c_MOST_SIGNS:∃t,mg "MOST_SIGNS"=some (.int 3 t)
 c_MOST_WEIGHT:∃t,mg "MOST_WEIGHT"=some (.int 9 t)
 c_NOTHING:∃a,mg "NOTHING"=some (.ref a)/\∀H,Rep K mg H (.t [.int 0,.int 1]) (.ref a)
 c_NO_STAND:∃a,mg "NO_STAND"=some (.ref a)/\∀H,Rep K mg H (.t [.non,.int 0]) (.ref a)
 f_is_whole:j5 K mg "is_whole" vX ["thing"]
 f_is_whole_within:j5 K mg "is_whole_within" wB ["thing","low","high"]
 f_greatest_divisor:j5 K mg "greatest_divisor" jt ["one","other"]
 f_share_good:j5 K mg "share_good" ZK ["thing"]
 f_share_of:j5 K mg "share_of" vY ["top","bottom"]
 f_share_plus:j5 K mg "share_plus" ZL ["one","other"]
 f_share_less:j5 K mg "share_less" ZM ["one","other"]
 f_share_times:j5 K mg "share_times" J9 ["one","other"]
 f_share_by:j5 K mg "share_by" vZ ["one","other"]
 f_share_power:j5 K mg "share_power" YA ["share","exponent"]
 f_share_sum:j5 K mg "share_sum" WC ["shares"]
 f_die_good:j5 K mg "die_good" va ["thing"]
 f_need_die:j5 K mg "need_die" vb ["thing"]
 f_need_number:j5 K mg "need_number" YB ["thing","low","high"]
 f_need_sign:j5 K mg "need_sign" WD ["thing","signs"]
 f_need_awaited:j5 K mg "need_awaited" Jg ["die","sign","k"]
 f_waits_list:j5 K mg "waits_list" ZN ["die","sign","k"]
 f_mean_first:j5 K mg "mean_first" ZO ["die","sign","k"]
 f_match_good:j5 K mg "match_good" ZP ["thing"]
 f_need_match:j5 K mg "need_match" ZQ ["thing"]
 f_stands_list:j5 K mg "stands_list" YC ["match"]
 f_stand_behind:j5 K mg "stand_behind" Jh ["match","stand","thrown"]
 f_share_paper:j5 K mg "share_paper" YD ["match"]
 f_first_share:j5 K mg "first_share" YE ["match"]
 f_paper_good:j5 K mg "paper_good" ZR ["match","thing"]
 f_mean_throws:j5 K mg "mean_throws" YF ["match"]
 f__law_cell_at:j5 K mg "_law_cell_at" Ji ["_law_script","_law_k"]
 f__law_next:j5 K mg "_law_next" WE ["_law_seed"]
 f__law_pen_of:j5 K mg "_law_pen_of" YG ["_law_cell"]
 f__law_draw:j5 K mg "_law_draw" WF ["_law_pen","_law_many"]
 f__law_share:j5 K mg "_law_share" ZT ["_law_top","_law_bottom"]
 f__law_add:j5 K mg "_law_add" vc ["_law_one","_law_other"]
 f__law_times:j5 K mg "_law_times" ZU ["_law_one","_law_other"]
 f__law_die_by:j5 K mg "_law_die_by" YH ["_law_pen"]
 f__law_match_by:j5 K mg "_law_match_by" wz ["_law_pen"]
 f__law_stands:j5 K mg "_law_stands" YI ["_law_match"]
 f__law_behind:j5 K mg "_law_behind" YJ ["_law_match","_law_stand","_law_sign"]
 f__law_values:j5 K mg "_law_values" YK ["_law_match","_law_gains","_law_cost"]
 f__law_bent:j5 K mg "_law_bent" WG ["_law_paper","_law_pen"]
 f_law:j5 K mg "law" s_law ["_law_script"]
 cl:ClOk K mg cl_ rs_
section
variable{P:Program}{w:World}{K:qH}{mg:Str->Option Value}{base:Heap}
def yL(T:Txt K mg):zDN K mg cs_:=(zDO T.c_ALL (ZB T.c_LEAST_SIGNS (ZB T.c_LEAST_WEIGHT (ZB T.c_MOST_AWAITED (ZB T.c_MOST_MATCHED (ZB T.c_MOST_SIGNS (ZB T.c_MOST_WEIGHT (zDO T.c_NOTHING (zDO T.c_NO_STAND cs_nil)))))))))
def yM(T:Txt K mg):zDM P w K mg base ri_:=ris_nil
def yO(T:Txt K mg):BsOk mg bs_:=(yl T.n_abs (yl T.n_all (yl T.n_bool (yl T.n_dict (yl T.n_enumerate (yl T.n_int (yl T.n_isinstance (yl T.n_len (yl T.n_list (yl T.n_max (yl T.n_range (yl T.n_repr (yl T.n_sum (yl T.n_tuple (yl T.n_zip bs_nil)))))))))))))))
def Ws(T:Txt K mg):FOk P w K mg base true "is_whole" 1 ["thing"] yX:=zN vz ["thing"] T.f_is_whole (yL T) zc (yO T) T.cl (yM T) (by decide +kernel)
def jA(T:Txt K mg):FOk P w K mg base true "is_whole_within" 2 ["thing","low","high"] zb:=zN wG ["thing","low","high"] T.f_is_whole_within (yL T) (zF (Ws T) rfl zc) (yO T) T.cl (yM T) (by decide +kernel)
def jn(T:Txt K mg):FOk P w K mg base true "greatest_divisor" 1 ["one","other"] zo:=zN jv ["one","other"] T.f_greatest_divisor (yL T) zc (yO T) T.cl (yM T) (by decide +kernel)
def uo(T:Txt K mg):FOk P w K mg base true "share_good" 2 ["thing"] yP:=zN Zf ["thing","top","bottom"] T.f_share_good (yL T) (zF (jn T) rfl (zF (Ws T) rfl zc)) (yO T) T.cl (yM T) (by decide +kernel)
def jD(T:Txt K mg):FOk P w K mg base true "share_of" 2 ["top","bottom"] zh:=zN v3 ["top","bottom","divisor"] T.f_share_of (yL T) (zF (jn T) rfl zc) (yO T) T.cl (yM T) (by decide +kernel)
def Yk(T:Txt K mg):FOk P w K mg base true "share_plus" 3 ["one","other"] z9:=zN JK ["one","other"] T.f_share_plus (yL T) (zF (jD T) rfl zc) (yO T) T.cl (yM T) (by decide +kernel)
def uq(T:Txt K mg):FOk P w K mg base true "share_less" 3 ["one","other"] jQ:=zN Zg ["one","other"] T.f_share_less (yL T) (zF (jD T) rfl zc) (yO T) T.cl (yM T) (by decide +kernel)
def j9(T:Txt K mg):FOk P w K mg base true "share_times" 3 ["one","other"] zi:=zN wY ["one","other"] T.f_share_times (yL T) (zF (jD T) rfl zc) (yO T) T.cl (yM T) (by decide +kernel)
def Q5(T:Txt K mg):FOk P w K mg base true "share_by" 3 ["one","other"] yn:=zN v4 ["one","other"] T.f_share_by (yL T) (zF (jD T) rfl zc) (yO T) T.cl (yM T) (by decide +kernel)
def vL(T:Txt K mg):FOk P w K mg base true "share_power" 4 ["share","exponent"] jc:=zN YW ["share","exponent","power","step"] T.f_share_power (yL T) (zF (j9 T) rfl zc) (yO T) T.cl (yM T) (by decide +kernel)
def Zo(T:Txt K mg):FOk P w K mg base true "share_sum" 4 ["shares"] yb:=zN Wn ["shares","total","share"] T.f_share_sum (yL T) (zF (Yk T) rfl zc) (yO T) T.cl (yM T) (by decide +kernel)
def Wu(T:Txt K mg):FOk P w K mg base true "die_good" 3 ["thing"] wH:=zN v5 ["thing"] T.f_die_good (yL T) (zF (jA T) rfl zc) (yO T) T.cl (yM T) (by decide +kernel)
def Q6(T:Txt K mg):FOk P w K mg base true "need_die" 4 ["thing"] Jd:=zN v6 ["thing"] T.f_need_die (yL T) (zF (Wu T) rfl zc) (yO T) T.cl (yM T) (by decide +kernel)
def Jr(T:Txt K mg):FOk P w K mg base true "need_number" 3 ["thing","low","high"] yw:=zN YX ["thing","low","high"] T.f_need_number (yL T) (zF (jA T) rfl zc) (yO T) T.cl (yM T) (by decide +kernel)
def G6(T:Txt K mg):FOk P w K mg base true "need_sign" 4 ["thing","signs"] wc:=zN Wo ["thing","signs"] T.f_need_sign (yL T) (zF (Jr T) rfl zc) (yO T) T.cl (yM T) (by decide +kernel)
def Wv(T:Txt K mg):FOk P w K mg base true "need_awaited" 5 ["die","sign","k"] jH:=zN Jn ["die","sign","k"] T.f_need_awaited (yL T) (zF (Jr T) rfl (zF (G6 T) rfl (zF (Q6 T) rfl zc))) (yO T) T.cl (yM T) (by decide +kernel)
def Yl(T:Txt K mg):FOk P w K mg base true "waits_list" 6 ["die","sign","k"] yc:=zN Zh ["die","sign","k","powers"] T.f_waits_list (yL T) (zF (Zo T) rfl (zF (vL T) rfl (zF (jD T) rfl (zF (Wv T) rfl zc)))) (yO T) T.cl (yM T) (by decide +kernel)
def ur(T:Txt K mg):FOk P w K mg base true "mean_first" 7 ["die","sign","k"] jw:=zN Zi ["die","sign","k"] T.f_mean_first (yL T) (zF (Yl T) rfl zc) (yO T) T.cl (yM T) (by decide +kernel)
def ut(T:Txt K mg):FOk P w K mg base true "match_good" 4 ["thing"] jx:=zN Zj ["thing","die","sign","k","other","length"] T.f_match_good (yL T) (zF (jA T) rfl (zF (Wu T) rfl zc)) (yO T) T.cl (yM T) (by decide +kernel)
def wk(T:Txt K mg):FOk P w K mg base true "need_match" 5 ["thing"] yQ:=zN Zk ["thing"] T.f_need_match (yL T) (zF (ut T) rfl zc) (yO T) T.cl (yM T) (by decide +kernel)
def vM(T:Txt K mg):FOk P w K mg base true "stands_list" 6 ["match"] jd:=zN YZ ["match","die","sign","k","other","length","of_one","of_other"] T.f_stands_list (yL T) (zF (wk T) rfl zc) (yO T) T.cl (yM T) (by decide +kernel)
def Ww(T:Txt K mg):FOk P w K mg base true "stand_behind" 1 ["match","stand","thrown"] jI:=zN Jo ["match","stand","thrown","die","sign","k","other","length"] T.f_stand_behind (yL T) zc (yO T) T.cl (yM T) (by decide +kernel)
def Js(T:Txt K mg):FOk P w K mg base true "share_paper" 7 ["match"] yg:=zN Yb ["match","die","sign","k","other","length","ones","others","together","nothing","of_one","of_other"] T.f_share_paper (yL T) (zF (Q5 T) rfl (zF (uq T) rfl (zF (Yk T) rfl (zF (Yl T) rfl (zF (wk T) rfl zc))))) (yO T) T.cl (yM T) (by decide +kernel)
def Jt(T:Txt K mg):FOk P w K mg base true "first_share" 8 ["match"] yV:=zN Yc ["match"] T.f_first_share (yL T) (zF (Js T) rfl zc) (yO T) T.cl (yM T) (by decide +kernel)
def uu(T:Txt K mg):FOk P w K mg base true "paper_good" 7 ["match","thing"] yA:=zN JO ["match","thing","stands","die","sign","k","other","length","shares","chances","stand","follows"] T.f_paper_good (yL T) (zF (Zo T) rfl (zF (j9 T) rfl (zF (Ww T) rfl (zF (jD T) rfl (zF (uo T) rfl (zF (vM T) rfl zc)))))) (yO T) T.cl (yM T) (by decide +kernel)
def vN(T:Txt K mg):FOk P w K mg base true "mean_throws" 9 ["match"] yx:=zN Yd ["match","die","sign","k","other","length"] T.f_mean_throws (yL T) (zF (j9 T) rfl (zF (Jt T) rfl (zF (ur T) rfl (zF (wk T) rfl zc)))) (yO T) T.cl (yM T) (by decide +kernel)
def Wx(T:Txt K mg):FOk P w K mg base true "_law_cell_at" 1 ["_law_script","_law_k"] yj:=zN j8 ["_law_script","_law_k"] T.f__law_cell_at (yL T) zc (yO T) T.cl (yM T) (by decide +kernel)
def G7(T:Txt K mg):FOk P w K mg base true "_law_next" 1 ["_law_seed"] wd:=zN J7 ["_law_seed"] T.f__law_next (yL T) zc (yO T) T.cl (yM T) (by decide +kernel)
def vO(T:Txt K mg):FOk P w K mg base true "_law_pen_of" 1 ["_law_cell"] yy:=zN we ["_law_cell","_law_left"] T.f__law_pen_of (yL T) zc (yO T) T.cl (yM T) (by decide +kernel)
def JV(T:Txt K mg):FOk P w K mg base true "_law_draw" 2 ["_law_pen","_law_many"] zZ:=zN wf ["_law_pen","_law_many","_law_found"] T.f__law_draw (yL T) (zF (G7 T) rfl zc) (yO T) T.cl (yM T) (by decide +kernel)
def wm(T:Txt K mg):FOk P w K mg base true "_law_share" 1 ["_law_top","_law_bottom"] zm:=zN Zm ["_law_top","_law_bottom","_law_one","_law_other"] T.f__law_share (yL T) zc (yO T) T.cl (yM T) (by decide +kernel)
def Q7(T:Txt K mg):FOk P w K mg base true "_law_add" 2 ["_law_one","_law_other"] jh:=zN v7 ["_law_one","_law_other"] T.f__law_add (yL T) (zF (wm T) rfl zc) (yO T) T.cl (yM T) (by decide +kernel)
def uw(T:Txt K mg):FOk P w K mg base true "_law_times" 2 ["_law_one","_law_other"] yo:=zN Zn ["_law_one","_law_other"] T.f__law_times (yL T) (zF (wm T) rfl zc) (yO T) T.cl (yM T) (by decide +kernel)
def vP(T:Txt K mg):FOk P w K mg base true "_law_die_by" 3 ["_law_pen"] je:=zN Yg ["_law_pen","_law_top"] T.f__law_die_by (yL T) (zF (JV T) rfl zc) (yO T) T.cl (yM T) (by decide +kernel)
def Zy(T:Txt K mg):FOk P w K mg base true "_law_match_by" 4 ["_law_pen"] yz:=zN JR ["_law_pen","_law_die","_law_sign","_law_other"] T.f__law_match_by (yL T) (zF (JV T) rfl (zF (vP T) rfl zc)) (yO T) T.cl (yM T) (by decide +kernel)
def vR(T:Txt K mg):FOk P w K mg base true "_law_stands" 1 ["_law_match"] jf:=zN Yh ["_law_match","_law_found","_law_sign","_law_most"] T.f__law_stands (yL T) zc (yO T) T.cl (yM T) (by decide +kernel)
def vT(T:Txt K mg):FOk P w K mg base true "_law_behind" 1 ["_law_match","_law_stand","_law_sign"] y3:=zN Yi ["_law_match","_law_stand","_law_sign","_law_length","_law_own","_law_most","_law_value"] T.f__law_behind (yL T) zc (yO T) T.cl (yM T) (by decide +kernel)
def vU(T:Txt K mg):FOk P w K mg base true "_law_values" 3 ["_law_match","_law_gains","_law_cost"] y9:=zN Yj ["_law_match","_law_gains","_law_cost","_law_spots","_law_size","_law_rows","_law_at","_law_stand","_law_row","_law_sign","_law_part","_law_there","_law_place","_law_good","_law_top","_law_bottom"] T.f__law_values (yL T) (zF (Q7 T) rfl (zF (uw T) rfl (zF (wm T) rfl (zF (vT T) rfl (zF (vR T) rfl zc))))) (yO T) T.cl (yM T) (by decide +kernel)
def G8(T:Txt K mg):FOk P w K mg base true "_law_bent" 3 ["_law_paper","_law_pen"] wj:=zN Wr ["_law_paper","_law_pen","_law_spot","_law_top","_law_bottom","_law_odd","_law_some"] T.f__law_bent (yL T) (zF (JV T) rfl zc) (yO T) T.cl (yM T) (by decide +kernel)
end
def law_fd{P:Program}{w:World}{K:qH}{mg:Str->Option Value}{fa:Addr}(hfa:mg "law"=some (.ref fa))(T:Txt K mg):∃fd:FuncData,(∀(s:Shared) (u:Value),BindsTo s fd ⟨[u],[]⟩ [("_law_script",u)])/\∀base:Heap,FnOk P w K mg base (CXx P w) 40 fa fd ["_law_script"] (spM K mg 1 m_law):=by
 obtain⟨a,fd,hm,F,bnd⟩:=T.f_law;have e:=hfa.symm.trans hm;cases e;refine⟨fd,?_,λbase=>(def_atB (P:=P) (w:=w) (base:=base) (fs:=JU) (lv:=9) t_law ["_law_script","_law_cell","_law_pen","_law_match","_law_due","_law_thing","_law_found"] F (yL T) (zF (vN T) rfl (zF (Jt T) rfl (zF (uu T) rfl (zF (G8 T) rfl (zF (vU T) rfl (zF (Js T) rfl (zF (Zy T) rfl (zF (vO T) rfl (zF (Wx T) rfl zc))))))))) (yO T) T.cl (yM T) (by decide +kernel)).mono (by decide)⟩;obtain⟨oc,od,kV,doc,pm,an,cdv,ct,osl,rfl,lk,hcd⟩:=F.ex;exact λs u=>.of_eq rfl
end My
namespace DV
open PySem L2
section
variable{fs:List FI}{E E1 E2 E3:zV}
def x_c:dE fs (.c d) E=.ok (.v d,E):=by simp only[zGN,eC]
def zAy:dE fs (.gl d) E=.ok (.v d,E):=by simp only[rE_gl,eC]
def zA(h:E[i]?=some (.v d)):dE fs (.var i) E=.ok (.v d,E):=by simp only[YU,zCU,h]
def jX(h:E[i]?=some (.own ds))(h':E.set i (.v (.l ds))=E1):dE fs (.var i) E=.ok (.v (.l ds),E1):=by simp only[YU,Wg,zCU,h,h']
def x_movO(h:E[i]?=some (.own ds))(h':E.set i .e=E1):dE fs (.mov i) E=.ok (.own ds,E1):=by simp only[rE_mov,zCd,h,h']
def zq(h1:dE fs a E=.ok (r1,E1))(h2:dE fs b E1=.ok (r2,E2))(h3:o.f r1.d r2.d=some r):dE fs (.bin o a b) E=.ok (r,E2):=by simp only[Wf,WN,h1,h2,h3]
def yD(h1:dE fs a E=.ok (r1,E1))(h2:dE fs b E1=.ok (r2,E2))(h3:o.f r1.d r2.d=some r):dE fs (.cmp o a b) E=.ok (r,E2):=by simp only[vw,WN,h1,h2,h3]
def yh(h1:dE fs a E=.ok (r1,E1))(h2:dE fs b E1=.ok (r2,E2))(h3:ixD r1.d r2.d=some r):dE fs (.ix a b) E=.ok (r,E2):=by simp only[zFG,WN,h1,h2,h3]
def x_stp(h1:dE fs a E=.ok (r,E1))(h2:zEx k r.d=some r'):dE fs (.stp k a) E=.ok (r',E1):=by simp only[zGQ,eUn,h1,h2]
def jr(h1:dA fs as E=.ok (rs,E1))(h2:b.f (rs.map R.d)=some r):dE fs (.cB b as) E=.ok (r,E1):=by simp only[zDB,eCB,h1,h2]
def yG(h1:dA fs as E=.ok (rs,E1))(h2:rs.map R.d=ds)(h3:ds.length<=cap):dE fs (.t as) E=.ok (.v (.t ds),E1):=by
 subst h2;simp only[zDA,zEb,eCB,h1];rw[if_pos h3]
def Je(h1:dA fs as E=.ok (rs,E1))(h2:rs.map R.d=ds)(h3:ds.length<=cap):dE fs (.l as) E=.ok (.own ds,E1):=by
 subst h2;simp only[Wg,zEc,eCB,h1];rw[if_pos h3]
def x_sl(h1:dE fs a E=.ok (r,E1))(h2:dO fs l E1=.ok (lo,E2))(h3:dO fs u E2=.ok (hi,E3))(h4:slD r.d lo hi=some r'):dE fs (.sl a l u) E=.ok (r',E3):=by simp only[rE_sl,eSl,h1,h2,h3,h4]
def ze(h0:fiF fs k=F)(h1:dE fs a E=.ok (r,E1))(h2:F [.v r.d]=.ok (r',[o])):dE fs (.call k (.ev a .nil)) E=.ok (r',E1):=by
 subst h0;simp only[jm,Qs,JI,wT,yE,h1,zM,h2,zJ]
def za(h0:fiF fs k=F)(h1:dE fs a E=.ok (r,E1))(h1':dE fs b E1=.ok (r2,E2))(h2:F [.v r.d,.v r2.d]=.ok (r',[o,o2])):dE fs (.call k (.ev a (.ev b .nil))) E=.ok (r',E2):=by
 subst h0;simp only[jm,Qs,JI,wT,yE,h1,h1',zM,h2,zJ]
def zDR(h1:dE fs a E=.ok (.v (.int i),E1))(h2:dE fs b E1=.ok (.v (.int j),E2))(h3:o.b i j=true)(h4:dE fs c E2=.ok (.v (.int k),E3))(h5:o'.b j k=v):dE fs (.chain o o' a b c) E=.ok (.v (.bl v),E3):=by
 subst h5;simp only[zFF,wv,h1,h2,h4];rw[if_pos h3]
def yi(h0:fiF fs k=F)(h1:dE fs a E=.ok (r,E1))(h1':dE fs b E1=.ok (r2,E2))(h1'':dE fs c E2=.ok (r3,E3))(h2:F [.v r.d,.v r2.d,.v r3.d]=.ok (r',[o,o2,o3])):dE fs (.call k (.ev a (.ev b (.ev c .nil)))) E=.ok (r',E3):=by
 subst h0;simp only[jm,Qs,JI,wT,yE,h1,h1',h1'',zM,h2,zJ]
def ye(h:body (ss++replicate (n-ss.length) .e)=.ok (.ret r,E1))(ho:zg ss E1=o):fnM n body ss=.ok (r,o):=by
 subst ho;simp only[fnM,h]
def f_nx(h:body (ss++replicate (n-ss.length) .e)=.ok (.nx,E1))(ho:zg ss E1=o):fnM n body ss=.ok (.v .non,o):=by
 subst ho;simp only[fnM,h]
def zG:dA fs .nil E=.ok ([],E):=by simp only[G0,zEZ]
def zB(h1:dE fs a E=.ok (r,E1))(h2:dA fs as E1=.ok (rs,E2)):dA fs (.cons a as) E=.ok (r::rs,E2):=by simp only[Qq,WQ,h1,h2]
def o_N:dO fs .oN E=.ok (none,E):=by simp only[rO_oN,zEh]
def o_S(h:dE fs a E=.ok (.v (.int i),E1)):dO fs (.oS a) E=.ok (some i,E1):=by simp only[rO_oS,zCb,h]
def t_E(h:dE fs a E=.ok (.v (.bl b),E1)):dT fs (.tE a) E=.ok (b,E1):=by simp only[zBc,tT,h]
def zDS(h1:dT fs a E=.ok (false,E1))(h2:dT fs b E1=.ok (c,E2)):dT fs (.tOr a b) E=.ok (c,E2):=by simp only[zDC,zBk,h1,h2]
def t_orT(h1:dT fs a E=.ok (true,E1)):dT fs (.tOr a b) E=.ok (true,E1):=by simp only[zDC,zBk,h1]
def jo(h1:dT fs a E=.ok (b,E1))(h2:(!b)=c):dT fs (.tNot a) E=.ok (c,E1):=by subst h2;simp only[zDD,WP,h1]
def zw(h1:dE fs a E=.ok (r,E1))(h2:vF i r E1=.ok E2):dS fs (.sSet i a) E=.ok (.nx,E2):=by simp only[Wh,sSet,h1,h2]
def jT(h1:dT fs t E=.ok (false,E1))(h2:dB fs b E1=o):dS fs (.sIf t a b) E=o:=by subst h2;simp only[G1,sIf,h1]
def ZC(h1:dT fs t E=.ok (true,E1))(h2:dB fs a E1=o):dS fs (.sIf t a b) E=o:=by subst h2;simp only[G1,sIf,h1]
def yH(h1:dE fs a E=.ok (r,E1)):dS fs (.sRet a) E=.ok (.ret r,E1):=by simp only[Y8,sRet,h1]
def Zq(h1:dE fs a E=.ok (r,E1)):dS fs (.sDrop a) E=.ok (.nx,E1):=by simp only[zFH,sDrop,h1]
def G9(h1:dE fs a E=.ok (r,E1))(h2:gT is r.d E1=.ok E2):dS fs (.sTup is a) E=.ok (.nx,E2):=by simp only[rS_sTup,sTup,h1,h2]
def zDT(h1:dA fs as E=.ok ([r1,r2],E1))(h2:gNs [i,j] [r1.d,r2.d] E1=.ok E2):dS fs (.sPar i j as) E=.ok (.nx,E2):=by simp only[rS_sPar,sPar,h1,h2]
def Ju(h1:dE fs a E=.ok (r,E1))(h2:r.d=.l ds)(h3:J2 tg.m (dB fs b) ds E1=.ok p):dS fs (.sForL a tg b) E=.ok p:=by simp only[zFJ];exact ua (by simp only[sForL,h1,h2,h3])
def ux(h1:dA fs a E=.ok ([r],E1))(h2:r.d=.int j)(hj:-1000000<=j/\j<=1000000)(h3:J2 tg.m (dB fs b) (zK 0 j.toNat) E1=.ok p):dS fs (.sForR1 a tg b) E=.ok p:=by
 simp only[zDF];refine ua ?_;simp only[sForR1,h1,h2];rw[if_pos ⟨by omega,by omega⟩,h3]
def i_L(h1:dE fs a E=.ok (r,E1))(h2:r.d=.l ds):dI fs (.iL a) E=.ok (ds,E1):=by simp only[rI_iL,iL,h1,h2]
def i_T(h1:dE fs a E=.ok (r,E1))(h2:r.d=.t ds):dI fs (.iT a) E=.ok (ds,E1):=by simp only[rI_iT,iT,h1,h2]
def i_R1(h1:dA fs a E=.ok ([r],E1))(h2:r.d=.int j)(hj:-1000000<=j/\j<=1000000):dI fs (.iR1 a) E=.ok (zK 0 j.toNat,E1):=by
 simp only[rI_iR1,iR1,h1,h2];rw[if_pos ⟨by omega,by omega⟩]
def jg:dB fs .bNil E=.ok (.nx,E):=by simp only[uc,zEj]
def zU(h:dS fs s E=o):dB fs (.bOne s) E=o:=by simp only[Y9,h]
def zI(h:dS fs s E=.ok (.nx,E1))(h2:dB fs b E1=o):dB fs (.bSeq s b) E=o:=by simp only[J5,zBm,h,h2]
def Wy(h:dS fs s E=.ok (.ret r,E1)):dB fs (.bSeq s b) E=.ok (.ret r,E1):=by simp only[J5,zBm,h]
def wA:[d].length<=cap:=by simp only[List.length_singleton,cap];omega
def zDU:([]:List D).length<=cap:=by simp only[length_nil,cap];omega
def zP:[d,e].length<=cap:=by simp only[length_cons,length_nil,cap];omega
def zGa{nl:Nat}{xs ys:List Str}{caps:List Nat}{it tt el:_}{tg:Tg}{ds rs:List D}{vs:List D}(pat:D->List DV.Slot)(f:D->Bool)(g:D->D)(hi:dI fs it E=.ok (ds,E1))(hcap:wV E1 caps=.ok (vs.map AR.tmp))
  (h1:∀d∈ds,∀S:List DV.Slot,S.length=nl->(∀s∈S,zz s=true)->tg.m d (S++vs.map Slot.v)=.ok (pat d++vs.map Slot.v))
  (h2:∀d∈ds,(pat d).length=nl/\∀s∈pat d,zz s=true)
  (h3:∀d∈ds,dT fs tt (pat d++vs.map Slot.v)=.ok (f d,pat d++vs.map Slot.v))
  (h4:∀d∈ds,f d=true->∃r,dE fs el (pat d++vs.map Slot.v)=.ok (r,pat d++vs.map Slot.v)/\r.d=g d) (hc:ds.length<=cap) (hr:(ds.filter f).map g=rs):dE fs (.comp nl xs ys caps it tg tt el) E=.ok (.own rs,E1):=by
 subst hr;simp only[Y7];exact Y6 <| zFO pat f g ds h1 h2 h3 h4 hc hi hcap
def jp{xs ys:List Str}{caps:List Nat}{it el:_}{ds rs:List D}{vs:List D}(g:D->D)(hi:dI fs it E=.ok (ds,E1))(hcap:wV E1 caps=.ok (vs.map AR.tmp))
  (h4:∀d∈ds,∃r,dE fs el (.v d::vs.map Slot.v)=.ok (r,.v d::vs.map Slot.v)/\r.d=g d) (hc:ds.length<=cap) (hr:ds.map g=rs):dE fs (.comp 1 xs ys caps it (.n 0) .tTr el) E=.ok (.own rs,E1):=by
 refine zGa (λd=>[.v d]) (λ_=>true) g hi hcap (λd hd S hS hn=>gN_ok1 hS hn) (λd hd=>⟨rfl,λs hs=>?_⟩) (λd hd=>?_) (λd hd _=>h4 d hd) hc ?_
 ·rw[mem_singleton]at hs;subst hs;rfl
 ·simp only[vx,Zx]
 ·rw[List.filter_eq_self.mpr (λ_ _=>rfl),hr]
end
end DV
namespace SM
open PySem L2 DV
def ends(w o k:Nat):Nat->List Nat
 |0=>1::replicate k 0|n+1=>(o*(ends w o k n).sum)::((ends w o k n).dropLast.map (w*·))
def U(w o k n:Nat):Nat:=(ends w o k n).sum
def F(w o k m:Nat):Nat->Nat
 |0=>0|r+1=>F w o k m r+w^r*o*U w o k (m-1-r)
def fE(w o k n j:Nat):Nat:=if j<n then w^j*o*U w o k (n-1-j)else if j=n then w^n else 0
def dot:List Nat->(Nat->Nat)->Nat
 | [],_=>0|e::es,g=>e*g 0+dot es λj=>g (j+1)
theorem uy:∀l:List Nat,dot l (λ_=>1)=l.sum
 | []=>rfl|a::l=>by simp[dot,uy l]
def stp(s:Nat)(p:Nat×Nat)(x:Nat):Nat×Nat:=(max p.1 (if x=s then p.2+1 else 0),if x=s then p.2+1 else 0)
def Die(die:List Nat):Prop:=(die.length=2\/die.length=3)/\∀x∈die,1<=x/\x<=9
def red(t u B b:Nat)(hB:0<B)(hb:0<b)(h:t*b=u*B):t/t.gcd B=u/u.gcd b/\B/t.gcd B=b/u.gcd b:=by
 have g0:0<t.gcd B:=Nat.gcd_pos_of_pos_right _ hB;have h0:0<u.gcd b:=Nat.gcd_pos_of_pos_right _ hb;have c1:=Nat.coprime_div_gcd_div_gcd (m:=t) (n:=B) g0;have c2:=Nat.coprime_div_gcd_div_gcd (m:=u) (n:=b) h0;have t1:t=t.gcd B*(t/t.gcd B):=(Nat.mul_div_cancel' (gcd_dvd_left t B)).symm;have B1:B=t.gcd B*(B/t.gcd B):=(Nat.mul_div_cancel' (gcd_dvd_right t B)).symm;have u1:u=u.gcd b*(u/u.gcd b):=(Nat.mul_div_cancel' (gcd_dvd_left u b)).symm;have b1:b=u.gcd b*(b/u.gcd b):=(Nat.mul_div_cancel' (gcd_dvd_right u b)).symm;generalize t.gcd B=g at *;generalize u.gcd b=k at *;generalize t/g=x at *;generalize B/g=y at *;generalize u/k=z at *;generalize b/k=v at *;have e:x*v=z*y:=by
  have:(g*k)*(x*v)=(g*k)*(z*y):=by
   calc (g*k)*(x*v)=(g*x)*(k*v):=by grind
    _=t*b:=by rw[<- t1,<- b1]
    _=u*B:=h
    _=(k*z)*(g*y):=by rw[<- u1,<- B1]
    _=(g*k)*(z*y):=by grind
  exact Nat.eq_of_mul_eq_mul_left (mul_pos g0 h0) this
 have d1:y∣v:=c1.symm.dvd_of_dvd_mul_left ⟨z,by rw[e,mul_comm]⟩;have d2:v∣y:=c2.symm.dvd_of_dvd_mul_left ⟨x,by rw[<- e,mul_comm]⟩;have yv:y=v:=Nat.dvd_antisymm d1 d2;refine⟨?_,yv⟩;subst yv;have y0:0<y:=by
  rcases Nat.eq_zero_or_pos y with h'|h'
  ·rw[h',Nat.mul_zero]at B1;omega
  ·exact h'
 exact Nat.eq_of_mul_eq_mul_right y0 e
def zBo(t:Int)(b:Nat):Int:=t/(t.natAbs.gcd b:Nat)
def zGb(t:Int)(b:Nat):Nat:=b/t.natAbs.gcd b
def nrm(t:Int)(b:Nat):D:=.t [.int (zBo t b),.int (zGb t b:Nat)]
def uz(n b:Nat):zBo (n:Int) b=((n/n.gcd b:Nat):Int):=by
 simp[zBo]
def nrm_eq{T W:Int}{B b:Nat}(hB:0<B)(hb:0<b)(h:T*b=W*B):nrm T B=nrm W b:=by
 have hn:T.natAbs*b=W.natAbs*B:=by
  have:=congrArg Int.natAbs h;simpa[Int.natAbs_mul]using this
 obtain⟨r1,r2⟩:=red T.natAbs W.natAbs B b hB hb hn;have e2:zGb T B=zGb W b:=r2;have e1:zBo T B=zBo W b:=by
  by_cases c:0<=T
  ·have cw:0<=W:=by
    have h1:0<=T*b:=Int.mul_nonneg c (by omega);rw[h]at h1;exact Int.nonneg_of_mul_nonneg_left h1 (by omega)
   obtain⟨n,rfl⟩:=Int.eq_ofNat_of_zero_le c;obtain⟨m,rfl⟩:=Int.eq_ofNat_of_zero_le cw;rw[uz,uz];simp only[Int.natAbs_natCast]at r1;rw[r1]
  ·have cw:¬0<=W:=λq=>by
    have h1:0<=W*B:=Int.mul_nonneg q (by omega);rw[<- h]at h1;exact c (Int.nonneg_of_mul_nonneg_left h1 (by omega))
   obtain⟨n,hn'⟩:=Int.eq_ofNat_of_zero_le (a:=-T) (by omega);obtain⟨m,hm'⟩:=Int.eq_ofNat_of_zero_le (a:=-W) (by omega);have f1:T=-(n:Int):=by omega
   have f2:W=-(m:Int):=by omega
   subst f1;subst f2;simp only[Int.natAbs_neg,Int.natAbs_natCast]at r1;have f:∀n b:Nat,zBo (-(n:Int)) b=-((n/n.gcd b:Nat):Int):=λn b=>by
    unfold zBo;rw[Int.natAbs_neg,Int.natAbs_natCast,Int.neg_ediv_of_dvd (by exact_mod_cast gcd_dvd_left n b)];simp
   rw[f,f,r1]
 unfold nrm;rw[e1,e2]
theorem u7(mk:Nat->Nat->zV)(hc:∀a b,c (mk a b)=.ok (decide (b≠0),mk a b))(hb:∀a b,b≠0->bd (mk a b)=.ok (.nx,mk b (a%b))) :
  ∀(k n a b:Nat),b<2^k->2*k+1<=n->whN c bd n (mk a b)=.ok (.nx,mk (a.gcd b) 0)
 |0,n,a,b,h,hn=>by
  have:b=0:=by omega
  subst this;obtain⟨m,rfl⟩:∃m,n=m+1:=⟨n-1,by omega⟩;simp only[whN,hc,ne_eq,not_true_eq_false,decide_false,Nat.gcd_zero_right]
 |k+1,n,a,b,h,hn=>by
  obtain⟨m,rfl⟩:∃m,n=m+2:=⟨n-2,by omega⟩;by_cases b0:b=0
  ·subst b0
   simp only[whN,hc,ne_eq,not_true_eq_false,decide_false,Nat.gcd_zero_right]
  ·by_cases r0:a%b=0
   ·simp only[whN,hc,hb a b b0,ne_eq,b0,not_false_eq_true,decide_true,r0,not_true_eq_false,decide_false]
    rw[gcd_comm,gcd_rec,r0,Nat.gcd_zero_left]
   ·have lt:a%b<b:=mod_lt _ (by omega)
    have lt2:b%(a%b)<a%b:=mod_lt _ (by omega);have half:b%(a%b)<2^k:=by
     have:2*(b%(a%b))<b:=by
      by_cases q:2*(a%b)<=b
      ·omega
      ·have:b%(a%b)=b-a%b:=by
        rw[Nat.mod_eq_sub_mod (by omega),Nat.mod_eq_of_lt (by omega)]
       omega
     rw[pow_succ]at h;omega
    have ih:=u7 mk hc hb k m (a%b) (b%(a%b)) half (by omega);simp only[whN,hc,hb a b b0,hb b (a%b) r0,ne_eq,b0,r0,not_false_eq_true,decide_true];rw[ih];rw[gcd_comm a b,gcd_rec b a,gcd_comm (a%b) b,gcd_comm (a%b),<- gcd_rec,gcd_comm b]
def tot(es:List (List Nat)):Nat:=(es.map List.sum).sum
def al(ws:List Nat)(k:Nat):Nat->List (List Nat)
 |0=>ws.map λw=>w::replicate (k-1) 0|n+1=>zipWith (λw e=>(w*(tot (al ws k n)-e.sum))::e.dropLast.map (w*·)) ws (al ws k n)
def A(ws:List Nat)(n k:Nat):Nat:=if n=0 then 1 else if k=0 then 0 else tot (al ws k (n-1))
def cross(t:Int)(b:Nat):zBo t b*b=t*(zGb t b:Nat):=by
 unfold zBo zGb;have h1:((t.natAbs.gcd b:Nat):Int)∣t:=by
  have:=gcd_dvd_left t.natAbs b;exact Int.ofNat_dvd_left.mpr this
 have h2:t.natAbs.gcd b∣b:=gcd_dvd_right _ _;obtain⟨x,hx⟩:=h1;obtain⟨y,hy⟩:=h2;generalize hg:t.natAbs.gcd b=g at *;by_cases c:g=0
 ·subst c
  simp at hx hy
  subst hx;subst hy;simp
 ·have e1:t/(g:Int)=x:=by rw[hx];exact Int.mul_ediv_cancel_left _ (by omega)
  have e2:b/g=y:=by rw[hy];exact Nat.mul_div_cancel_left _ (by omega)
  rw[e1,e2,hx,hy,Int.natCast_mul]
  grind
end SM
namespace DV
open PySem L2
inductive Cq:Nat->D->Prop
 |cN {n:Nat} {i:Nat}:i<2^210->Cq n (.int (i:Nat))
 |cO {n:Nat}:Cq n .non
 |cB {n:Nat} {b:Bool}:Cq n (.bl b)
 |cE {n:Nat}:Cq n .dic
 |cT {n:Nat} {ds:List D}:ds.length<=13->(∀d∈ds,Cq n d)->Cq (n+1) (.t ds)
 |cL {n:Nat} {ds:List D}:ds.length<=13->(∀d∈ds,Cq n d)->Cq (n+1) (.l ds)
inductive Cx:PyData->Prop
 |xN {i:Nat}:Cx (.int (i:Nat))
 |xO:Cx .none
 |xB {b:Bool}:Cx (.bool b)
 |xE:Cx (.dict [])
 |xT {xs:List PyData}:(∀x∈xs,Cx x)->Cx (.tuple xs)
 |xL {xs:List PyData}:Cx (.list xs)
inductive Cy:PyData->Prop
 |yN {i:Nat}:Cy (.int (i:Nat))
 |yT {xs:List PyData}:(∀x∈xs,Cy x)->Cy (.tuple xs)
def rpB:Nat->Nat
 |0=>70|n+1=>13*(rpB n+2)+10
theorem QA(n:Nat):70<=rpB n:=by
 cases n with
 |zero=>exact le_refl _|succ n=>have:=QA n;simp only[rpB];omega
def zFQ(h:i.natAbs<2^210):(PyData.int i).showable=true:=by
 have:i.natAbs.log2<1920:=by
  by_cases c:i.natAbs=0
  ·rw[c];decide
  ·rw[Nat.log2_lt c]
   exact lt_of_lt_of_le h (pow_le_pow_right (by omega) (by omega))
 simp only[PyData.showable,decide_eq_true_eq];exact this
def len_int(h:i.natAbs<2^210):((PyData.int i).shown).length<=70:=by
 have e:=int_text_length_le10 (a:=i) (k:=69) (by omega) (lt_trans h (by decide +kernel));simp only[PyData.shown];rw[ofString_length];exact e
theorem zDV(M:Nat):∀ts:List Str,(∀t∈ts,t.length<=M)->(Str.join ", " ts).length<=ts.length*(M+2)
 | [],_=>by rw[show(Str.join ", " ([]:List Str)).length=0 by decide +kernel];omega
 | [t],h=>by
  have h1:=h t qE;show t.length<=_;simp;omega
 |t::u::ts,h=>by
  have ih:=zDV M (u::ts) (λx hx=>h x (mem_cons_of_mem _ hx));have h1:=h t qE;show(t++", "++Str.join ", " (u::ts)).length<=_;have e2:((", ":String):Str).length=2:=by decide +kernel
  rw[strLen_append,strLen_append,e2];have:(t::u::ts).length*(M+2)=(u::ts).length*(M+2)+(M+2):=by rw[length_cons,succ_mul]
  omega
theorem zDW(M:Nat):∀(ts:List Str) (k:Nat) (acc:Str),(∀t∈ts,t.length<=M)->(textFrom k acc ts).length<=acc.length+ts.length*(M+2)
 | [],k,acc,_=>by simp[textFrom]
 |t::ts,k,acc,h=>by
  have ih:=zDW M ts (k+1) (acc++(if k > 0 then ", " else "":String)++t) (λx hx=>h x (mem_cons_of_mem _ hx));have h1:=h t qE;have e2:((if k > 0 then ", " else "":String):Str).length<=2:=by split<;>decide +kernel
  rw[strLen_append,strLen_append]at ih;show(textFrom (k+1) (acc++(if k > 0 then ", " else "":String)++t) ts).length<=_;have:(t::ts).length*(M+2)=ts.length*(M+2)+(M+2):=by rw[length_cons,succ_mul]
  omega
theorem jy:∀xs:List PyData,PyData.shownAll xs=xs.map PyData.shown
 | []=>by simp[PyData.shownAll]|x::xs=>by simp[PyData.shownAll,jy xs]
structure Rp(n:Nat)(x:PyData):Prop where
 sh:x.showable=true
 dp:x.depth<=n+2
 ln:x.shown.length<=rpB n
 cx:Cx x
theorem rps:∀(ds:List D),(∀d∈ds,∃x,pyD d=some x/\Rp n x)->∃xs,pyDs ds=some xs/\xs.length=ds.length/\PyData.showableAll xs=true/\PyData.depthAll xs<=n+2/\∀x∈xs,x.shown.length<=rpB n/\Cx x
 | [],_=>⟨[],rfl,rfl,rfl,by simp[PyData.depthAll],λx h=>by cases h⟩
 |d::ds,h=>by
  obtain⟨x,e1,h1⟩:=h d qE;obtain⟨xs,e2,q1,q2,q3,q4⟩:=rps ds (λy hy=>h y (mem_cons_of_mem _ hy));refine⟨x::xs,by simp only[pyDs,e1,e2],by simp[q1],?_,?_,λy hy=>?_⟩
  ·simp only[PyData.showableAll,h1.sh,q2];rfl
  ·have:=h1.dp;simp only[PyData.depthAll];omega
  ·rcases mem_cons.mp hy with rfl|hy
   ·exact⟨h1.ln,h1.cx⟩
   ·exact q4 y hy
def cd_py(h:Cq n d):∃x,pyD d=some x/\Rp n x:=by
 induction h with
 | @cN n i h =>
  have b:=QA n;have h':((i:Int)).natAbs<2^210:=by simpa using h
  have e:=len_int h';exact⟨.int (i:Nat),rfl,zFQ h',by simp[PyData.depth],by omega,.xN⟩
 | @cO n=>exact⟨.none,rfl,rfl,by simp[PyData.depth],le_trans (by decide +kernel) (QA n),.xO⟩
 | @cB n b=>exact⟨.bool b,rfl,rfl,by simp[PyData.depth],le_trans (by cases b<;>decide +kernel) (QA n),.xB⟩
 | @cE n=>exact⟨.dict [],rfl,rfl,by simp[PyData.depth,PyData.depthKv],le_trans (by decide +kernel) (QA n),.xE⟩
 | @cT n ds h _ ih =>
  obtain⟨xs,e,q1,q2,q3,q4⟩:=rps ds ih;refine⟨.tuple xs,by simp only[pyD,e];rfl,by simp only[PyData.showable];exact q2,by simp only[PyData.depth];omega,?_,.xT λx hx=>(q4 x hx).2⟩;simp only[PyData.shown,jy,tupleText,strLen_append];have j:=zDV (rpB n) (xs.map PyData.shown) (λt ht=>by obtain⟨y,hy,rfl⟩:=mem_map.mp ht;exact(q4 y hy).1);have e1:(("(":Str)).length=1:=by decide +kernel
  have e2:((if(xs.map PyData.shown).length==1 then ",)" else ")":String):Str).length<=2:=by split<;>decide +kernel
  rw[length_map]at j;have:=Nat.mul_le_mul_right (rpB n+2) (show xs.length<=13 by omega);simp only[rpB];omega
 | @cL n ds h _ ih =>
  obtain⟨xs,e,q1,q2,q3,q4⟩:=rps ds ih;refine⟨.list xs,by simp only[pyD,e];rfl,by simp only[PyData.showable];exact q2,by simp only[PyData.depth];omega,?_,.xL⟩;simp only[PyData.shown,jy,listText,strLen_append];have j:=zDW (rpB n) (xs.map PyData.shown) 0 "[" (λt ht=>by obtain⟨y,hy,rfl⟩:=mem_map.mp ht;exact(q4 y hy).1);have e1:(("[":Str)).length=1:=by decide +kernel
  have e2:(("]":Str)).length=1:=by decide +kernel
  rw[length_map]at j;have:=Nat.mul_le_mul_right (rpB n+2) (show xs.length<=13 by omega);simp only[rpB];omega
def Cq.up(h:Cq n d):Cq (n+1) d:=by
 induction h with
 |cN h=>exact .cN h|cO=>exact .cO|cB=>exact .cB|cE=>exact .cE|cT h _ ih=>exact .cT h ih|cL h _ ih=>exact .cL h ih
def Wz(h:Cq 3 d):∃x,pyD d=some x/\Cx x/\zCy [d]=some (.v (.str x.shown)):=by
 obtain⟨x,e,r⟩:=cd_py h;refine⟨x,e,r.cx,?_⟩;show Gp d=_;unfold Gp;rw[e];have h1:=r.dp;have h2:=r.ln;have e3:rpB 3<=300000:=by decide
 dsimp only;rw[if_pos ⟨r.sh,by omega,by simp only[cap];omega⟩]
abbrev tx(x:PyData):List Nat:=x.shown.cps.toList
def bd':List (List Nat)->List Nat
 | []=>[41]| [a]=>a++[41]|a::b::r=>a++44::32::bd' (b::r)
def bd:List (List Nat)->List Nat
 | []=>[41]| [a]=>a++[44,41]|a::b::r=>a++44::32::bd' (b::r)
theorem zDX:∀(t:Str) (ts:List Str),(Str.join ", " (t::ts)).cps.toList++[41]=bd' ((t::ts).map λt=>t.cps.toList)
 |t,[]=>rfl
 |t,u::ts=>by
  have e:(Str.join ", " (t::u::ts)).cps.toList=t.cps.toList++44::32::(Str.join ", " (u::ts)).cps.toList:=by
   show((t++", "++Str.join ", " (u::ts)).cps).toList=_
   have e2:((", ":String):Str).cps.toList=[44,32]:=by decide +kernel
   show((t.cps++((", ":String):Str).cps)++(Str.join ", " (u::ts)).cps).toList=_
   rw[Array.toList_append,Array.toList_append,e2];simp
  have ih:=zDX u ts;rw[e];simp only[map_cons,bd']at ih ⊢;rw[append_assoc,cons_append,cons_append,ih]
def zAz(xs:List PyData):tx (.tuple xs)=40::bd (xs.map tx):=by
 have e1:(("(":String):Str).cps.toList=[40]:=by decide +kernel
 have e2:((",)":String):Str).cps.toList=[44,41]:=by decide +kernel
 have e3:((")":String):Str).cps.toList=[41]:=by decide +kernel
 have gen:∀(ts:List Str),(tupleText ts).cps.toList=40::bd (ts.map λt=>t.cps.toList):=λts=>by
  have s:(tupleText ts).cps.toList=(("(":String):Str).cps.toList++(Str.join ", " ts).cps.toList++((if ts.length==1 then ",)" else ")":String):Str).cps.toList:=by
   show((((("(":String):Str).cps++(Str.join ", " ts).cps)++((if ts.length==1 then ",)" else ")":String):Str).cps)).toList=_
   rw[Array.toList_append,Array.toList_append]
  rw[s,e1]
  match ts with
  | []=>show [40]++[]++((")":String):Str).cps.toList=_;rw[e3];rfl| [t]=>show [40]++t.cps.toList++((",)":String):Str).cps.toList=_;rw[e2];rfl
  |t::u::ts =>
   have:((t::u::ts).length==1)=false:=by simp
   rw[this];show [40]++(Str.join ", " (t::u::ts)).cps.toList++((")":String):Str).cps.toList=_;rw[e3,append_assoc,zDX t (u::ts)];rfl
 show(PyData.shown (.tuple xs)).cps.toList=_
 simp only[PyData.shown,jy];rw[gen,map_map];rfl
theorem zA0:∀(ts:List Str) (k:Nat) (acc:Str),∃z:List Nat,(textFrom k acc ts).cps.toList=acc.cps.toList++z
 | [],k,acc=>⟨[],by simp[textFrom]⟩
 |t::ts,k,acc=>by
  obtain⟨z,e⟩:=zA0 ts (k+1) (acc++(if k > 0 then ", " else "":String)++t);refine⟨((if k > 0 then ", " else "":String):Str).cps.toList++t.cps.toList++z,?_⟩;show(textFrom (k+1) (acc++(if k > 0 then ", " else "":String)++t) ts).cps.toList=_;rw[e];show((acc.cps++((if k > 0 then ", " else "":String):Str).cps)++t.cps).toList++z=_;rw[Array.toList_append,Array.toList_append];simp
abbrev dg(n:Nat):List Nat:=(Nat.toDigits 10 n).map Char.toNat
def zA1(n:Nat):tx (.int (n:Nat))=dg n:=by
 show(PyData.shown (.int (n:Nat))).cps.toList=_
 simp only[PyData.shown];exact PySem.W.KIN.signs_num n
def dg_in(h:c∈dg n):48<=c/\c<=57:=by
 obtain⟨ch,hch,e⟩:=mem_map.mp h;have r:=PyProof.Rows.digit_range (Nat.isDigit_of_mem_toDigits (by decide) (by decide) hch);rw[<- e];exact r
def dg_ne(n:Nat):∃c r,dg n=c::r/\48<=c/\c<=57:=by
 cases e:dg n with
 |nil =>
  have h:=toDigits_len_ge 10 n;rw[List.map_eq_nil_iff.mp e]at h;exact absurd h (by decide)
 |cons c r=>exact⟨c,r,rfl,dg_in (n:=n) (by rw[e];exact qE)⟩
def dg_inj(h:dg m=dg n):m=n:=by
 have:=congrArg NumText.digitsVal h
 rwa [PySem.W.KIN.val_back,PySem.W.KIN.val_back]at this
def nd:List Nat->Prop
 | []=>True|c::_=>c=44\/c=41
theorem zGc:∀{a b s t:List Nat},(∀c∈a,48<=c/\c<=57)->(∀c∈b,48<=c/\c<=57)->nd s->nd t->a++s=b++t->a=b/\s=t
 | [],[],s,t,_,_,_,_,e=>⟨rfl,e⟩
 | [],c::b,s,t,_,hb,hs,_,e=>by
  have:=hb c qE;cases s with
  |nil=>cases e
  |cons x s=>cases e;rcases hs with h|h<;>omega
 |c::a,[],s,t,ha,_,_,ht,e=>by
  have:=ha c qE;cases t with
  |nil=>cases e
  |cons x s=>cases e;rcases ht with h|h<;>omega
 |c::a,d::b,s,t,ha,hb,hs,ht,e=>by
  injection e with e1 e2
  subst e1;obtain⟨h1,h2⟩:=zGc (λx hx=>ha x (mem_cons_of_mem _ hx)) (λx hx=>hb x (mem_cons_of_mem _ hx)) hs ht e2;exact⟨by rw[h1],h2⟩
def tx_hd(h:Cx x):∃c r,tx x=c::r/\c≠44/\c≠41/\(c=40->∃xs,x=.tuple xs/\∀y∈xs,Cx y)/\(48<=c/\c<=57->∃n:Nat,x=.int (n:Nat)):=by
 cases h with
 | @xN i =>
  obtain⟨c,r,e,h1,h2⟩:=dg_ne i;exact⟨c,r,by rw[zA1,e],by omega,by omega,λz=>by omega,λ_=>⟨i,rfl⟩⟩
 |xO=>exact⟨78,[111,110,101],by decide +kernel,by omega,by omega,λz=>by omega,λz=>by omega⟩
 | @xB b =>
  cases b with
  |true=>exact⟨84,[114,117,101],by decide +kernel,by omega,by omega,λz=>by omega,λz=>by omega⟩|false=>exact⟨70,[97,108,115,101],by decide +kernel,by omega,by omega,λz=>by omega,λz=>by omega⟩
 |xE=>exact⟨123,[125],by decide +kernel,by omega,by omega,λz=>by omega,λz=>by omega⟩| @xT xs hx=>exact⟨40,bd (xs.map tx),zAz xs,by omega,by omega,λ_=>⟨xs,rfl,hx⟩,λz=>by omega⟩
 | @xL xs =>
  obtain⟨z,e⟩:=zA0 (PyData.shownAll xs) 0 "[";have e1:(("[":String):Str).cps.toList=[91]:=by decide +kernel
  refine⟨91,z++((("]":String):Str).cps.toList),?_,by omega,by omega,λz=>by omega,λz=>by omega⟩;show(PyData.shown (.list xs)).cps.toList=_;simp only[PyData.shown,listText];show((textFrom 0 "[" (PyData.shownAll xs)).cps++(("]":String):Str).cps).toList=_;rw[Array.toList_append,e,e1];rfl
def PreOk(y:PyData):Prop:=∀x,Cx x->∀s t,nd s->nd t->tx x++s=tx y++t->x=y/\s=t
def zD7:nd (44::s):=Or.inl rfl
def nd41:nd (41::s):=Or.inr rfl
theorem zA2:∀(ys xs:List PyData),(∀y∈ys,PreOk y)->(∀x∈xs,Cx x)->xs≠[]->ys≠[]->∀s t,bd' (xs.map tx)++s=bd' (ys.map tx)++t->xs=ys/\s=t
 | [],_,_,_,_,h,_,_,_=>absurd rfl h|_,[],_,_,h,_,_,_,_=>absurd rfl h
 | [y],[x],hy,hx,_,_,s,t,e=>by
  simp only[map_cons,map_nil,bd',append_assoc,cons_append,nil_append]at e;obtain⟨h1,h2⟩:=hy y qE x (hx x qE) _ _ nd41 nd41 e;exact⟨by rw[h1],by injection h2⟩
 | [y],x::x2::xs,hy,hx,_,_,s,t,e=>by
  simp only[map_cons,map_nil,bd',append_assoc,cons_append,nil_append]at e;obtain⟨h1,h2⟩:=hy y qE x (hx x qE) _ _ zD7 nd41 e;injection h2 with h3;omega
 |y::y2::ys,[x],hy,hx,_,_,s,t,e=>by
  simp only[map_cons,map_nil,bd',append_assoc,cons_append,nil_append]at e;obtain⟨h1,h2⟩:=hy y qE x (hx x qE) _ _ nd41 zD7 e;injection h2 with h3;omega
 |y::y2::ys,x::x2::xs,hy,hx,_,_,s,t,e=>by
  simp only[map_cons,bd',append_assoc,cons_append]at e;obtain⟨h1,h2⟩:=hy y qE x (hx x qE) _ _ zD7 zD7 e;injection h2 with _ h2
  injection h2 with _ h2
  obtain⟨h3,h4⟩:=zA2 (y2::ys) (x2::xs) (λz hz=>hy z (mem_cons_of_mem _ hz)) (λz hz=>hx z (mem_cons_of_mem _ hz)) (by simp) (by simp) s t (by simpa using h2);exact⟨by rw[h1,h3],h4⟩
def zFR(ys xs:List PyData)(hy:∀y∈ys,PreOk y/\Cx y)(hx:∀x∈xs,Cx x)(s t:List Nat)(e:bd (xs.map tx)++s=bd (ys.map tx)++t):xs=ys/\s=t:=by
 have no:∀{x:PyData} {r r':List Nat},Cx x->tx x++r=41::r'->False:=λ{x r r'} h z=>by
  obtain⟨c,q,h1,_,h2,_⟩:=tx_hd h;rw[h1]at z;injection z with z;exact h2 z
 match ys,xs,hy,hx,e with
 | [],[],_,_,e=>exact⟨rfl,by injection e⟩
 | [],[x],_,hx,e =>
  simp only[map_cons,map_nil,bd,append_assoc,cons_append,nil_append]at e;exact(no (hx x qE) e).elim
 | [],x::x2::xs,_,hx,e =>
  simp only[map_cons,map_nil,bd,append_assoc,cons_append,nil_append]at e;exact(no (hx x qE) e).elim
 | [y],[],hy,_,e =>
  simp only[map_cons,map_nil,bd,append_assoc,cons_append,nil_append]at e;exact(no (hy y qE).2 e.symm).elim
 |y::y2::ys,[],hy,_,e =>
  simp only[map_cons,map_nil,bd,append_assoc,cons_append,nil_append]at e;exact(no (hy y qE).2 e.symm).elim
 | [y],[x],hy,hx,e =>
  simp only[map_cons,map_nil,bd,append_assoc,cons_append,nil_append]at e;obtain⟨h1,h2⟩:=(hy y qE).1 x (hx x qE) _ _ zD7 zD7 e;injection h2 with _ h2
  injection h2 with _ h2
  exact⟨by rw[h1],h2⟩
 | [y],x::x2::xs,hy,hx,e =>
  simp only[map_cons,map_nil,bd,append_assoc,cons_append,nil_append]at e;obtain⟨h1,h2⟩:=(hy y qE).1 x (hx x qE) _ _ zD7 zD7 e;injection h2 with _ h2
  injection h2 with h3;omega
 |y::y2::ys,[x],hy,hx,e =>
  simp only[map_cons,map_nil,bd,append_assoc,cons_append,nil_append]at e;obtain⟨h1,h2⟩:=(hy y qE).1 x (hx x qE) _ _ zD7 zD7 e;injection h2 with _ h2
  injection h2 with h3;omega
 |y::y2::ys,x::x2::xs,hy,hx,e=>exact zA2 (y::y2::ys) (x::x2::xs) (λz hz=>(hy z hz).1) hx (by simp) (by simp) s t e
def pre(h:Cy y):PreOk y/\Cx y:=by
 induction h with
 | @yN n =>
  refine⟨λx hx s t hs ht e=>?_,.xN⟩;obtain⟨c,r,h1,_,_,_,h2⟩:=tx_hd hx;obtain⟨c',r',h3,h4⟩:=dg_ne n;have ec:c=c':=by
   rw[h1,zA1,h3]at e;injection e
  obtain⟨m,rfl⟩:=h2 (by omega);rw[zA1,zA1]at e;obtain⟨q1,q2⟩:=zGc (λc hc=>dg_in hc) (λc hc=>dg_in hc) hs ht e;exact⟨by rw[dg_inj q1],q2⟩
 | @yT ys _ ih =>
  refine⟨λx hx s t hs ht e=>?_,.xT λy hy=>(ih y hy).2⟩;obtain⟨c,r,h1,_,_,h2,_⟩:=tx_hd hx;have ec:c=40:=by
   rw[h1,zAz]at e;injection e
  obtain⟨xs,rfl,hx'⟩:=h2 ec;rw[zAz,zAz]at e;injection e with _ e
  obtain⟨q1,q2⟩:=zFR ys xs ih hx' s t e;exact⟨by rw[q1],q2⟩
mutual
def dP:PyData->D
 | .none=>.non| .bool b=>.bl b| .int i=>.int i| .str x=>.str x| .list xs=>.l (dPs xs)| .tuple xs=>.t (dPs xs)| .dict _=>.dic
def dPs:List PyData->List D
 | []=>[]|x::xs=>dP x::dPs xs
end
mutual
theorem dP_py:∀{d:D} {x:PyData},pyD d=some x->dP x=d
 | .non,_,h=>by cases h;rfl| .bl _,_,h=>by cases h;rfl| .int _,_,h=>by cases h;rfl| .str _,_,h=>by cases h;rfl| .dic,_,h=>by cases h;rfl
 | .t ds,_,h=>by
  simp only[pyD,Option.map_eq_some_iff]at h;obtain⟨xs,h1,rfl⟩:=h;simp only[dP,dPs_py h1]
 | .l ds,_,h=>by
  simp only[pyD,Option.map_eq_some_iff]at h;obtain⟨xs,h1,rfl⟩:=h;simp only[dP,dPs_py h1]
 | .fn _,_,h=>by cases h| .exn _ _,_,h=>by cases h| .dct _ _,_,h=>by cases h
theorem dPs_py:∀{ds:List D} {xs:List PyData},pyDs ds=some xs->dPs xs=ds
 | [],_,h=>by cases h;rfl
 |d::ds,xs,h=>by
  obtain⟨y,ys,rfl,h1,h2⟩:=JH h;simp only[dPs,dP_py h1,dPs_py h2]
end
def repr_eq(hd:Cq 3 d)(he:Cq 3 e)(hp:pyD e=some y)(hy:Cy y):∃t u,zCy [d]=some (.v (.str t))/\zCy [e]=some (.v (.str u))/\(t=u↔d=e):=by
 obtain⟨x,e1,c1,r1⟩:=Wz hd;obtain⟨y',e2,c2,r2⟩:=Wz he;rw[hp]at e2;cases e2;refine⟨_,_,r1,r2,λz=>?_,λz=>?_⟩
 ·have:x=y:=((pre hy).1 x c1 [] [] trivial trivial (by show x.shown.cps.toList++[]=y.shown.cps.toList++[];rw[z])).1
  subst this;rw[<- dP_py e1,dP_py hp]
 ·subst z
  rw[hp]at e1;cases e1;rfl
section
variable{fs:List FI}{E E1 E2 E3 E4 E5:zV}
def jM(h0:fiF fs k=F)(hE:E[i]?=some (.par p))(h1:dE fs a E=.ok (r,E))(h2:F [.par p,.v r.d]=.ok (r',[.par p',o]))(h3:E.set i (.par p')=E1):dE fs (.call k (.lend i (.ev a .nil))) E=.ok (r',E1):=by
 subst h0 h3;have hi:i<E.length:=(qG.mp hE).1;have hs:(E.set i .e)[i]?=some .e:=by simp[hi]
 simp only[jm,Qs,ub,JI,wT,yE,hE,jB,Bool.false_eq_true,if_false,h1,zM,Slot.list?,h2,zJ,hs,Slot.put,set_set]
def zA3(h:dE fs a E=.ok (.v (.bl true),E1))(h1:dE fs b E1=o):dE fs (.and a b) E=o:=by subst h1;simp only[zC9,zBl,h]
def x_and0(h:dE fs a E=.ok (.v (.bl false),E1)):dE fs (.and a b) E=.ok (.v (.bl false),E1):=by simp only[zC9,zBl,h]
def zBp(h:dE fs a E=.ok (r,E1))(ht:tyD r.d=some t)(hv:vC t T.s=v):dE fs (.is T a) E=.ok (.v (.bl v),E1):=by subst hv;simp only[rE_is,eIs,h,ht]
def zDY(h:dT fs t E=.ok (true,E1))(h1:dE fs a E1=o):dE fs (.ifx t a b) E=o:=by subst h1;simp only[zGO,eIf,h]
def zDZ(h:dT fs t E=.ok (false,E1))(h1:dE fs b E1=o):dE fs (.ifx t a b) E=o:=by subst h1;simp only[zGO,eIf,h]
def W0(h:E[i]?=some (.own ds))(h1:dE fs b E=.ok (.v (.int k),E))(hx:atI ds k=some d):dE fs (.ixO i b) E=.ok (.v d,E):=by
 simp only[Gz,zD3,h,jB,Bool.false_eq_true,if_false,h1,ixS,hx]
def zGd(h1:dT fs a E=.ok (true,E1))(h2:dT fs b E1=o):dT fs (.tAnd a b) E=o:=by subst h2;simp only[Qp,Zv,h1]
def t_and0(h1:dT fs a E=.ok (false,E1)):dT fs (.tAnd a b) E=.ok (false,E1):=by simp only[Qp,Zv,h1]
def i_R2(h1:dA fs a E=.ok ([r1,r2],E1))(h2:r1.d=.int i)(h2':r2.d=.int j)(hi:-1000000<=i/\i<=1000000)(hj:-1000000<=j/\j<=1000000):dI fs (.iR2 a) E=.ok (zK i (j-i).toNat,E1):=by
 simp only[rI_iR2,iR2,h1,h2,h2'];rw[if_pos ⟨by omega,by omega,by omega,by omega⟩]
def i_Z(h1:dA fs as E=.ok ([r1,r2],E1))(h2:Ql t1 r1.d=some ds)(h3:Ql t2 r2.d=some es):dI fs (.iZ t1 t2 as) E=.ok (zipWith Gq ds es,E1):=by
 simp only[rI_iZ,iZ,h1,h2,h3]
def s_app(h0:E[i]?=some (.own ds0))(h1:dE fs a E=.ok (r,E1))(h2:E1[i]?=some (.own ds))(hl:ds.length<cap)(h3:E1.set i (.own (ds++[r.d]))=E2):dS fs (.sApp i a) E=.ok (.nx,E2):=by
 subst h3;simp only[rS_sApp,sApp,h0,Slot.list?,h1,h2,Slot.put];rw[if_pos hl]
end
def put_ok(r:R)(h:E[i]?=some s)(hs:zz s=true):vF i r E=.ok (E.set i r.slot):=by
 simp only[vF,h];cases s<;>first|rfl|(cases hs)
def yB(h:E[i]?=some s)(hs:zz s=true)(e:E.set i r.slot=E1):vF i r E=.ok E1:=by
 rw[put_ok r h hs,e]
def ne_int(x y:Int):neG (.int x) (.int y)=some (.v (.bl (!decide (x=y)))):=by simp[neG,neF]
def eq_int(x y:Int):eqG (.int x) (.int y)=some (.v (.bl (decide (x=y)))):=by simp[eqG,eqF]
def eq_str(t:Str):eqG (.str t) (.str t)=some (.v (.bl true)):=by simp[eqG,eqF]
def ne_str(t:Str):neG (.str t) (.str t)=some (.v (.bl false)):=by simp[neG,neF]
def wn(a b:List D)(h:a.length+b.length<=100000):QN (.l a) (.l b)=some (.own (a++b)):=by
 simp only[QN];rw[if_pos (by simp only[cap];omega)]
def u8(a b:List D)(h:a.length+b.length<=100000):QN (.t a) (.t b)=some (.v (.t (a++b))):=by
 simp only[QN];rw[if_pos (by simp only[cap];omega)]
def mulG_of(e:QO x y=some r):zAe x y=some r:=by simp only[zAe,e]
def Zr{ds:List D}{k:Nat}{d:D}(h:ds[k]?=some d):atI ds (k:Int)=some d:=by
 obtain⟨hk,e⟩:=qG.mp h;have:(k:Int)<ds.length:=by omega
 simp[atI,ixN,this,h]
def u9(ds:List D)(i:Int):ixD (.l ds) (.int i)=(atI ds i).map .v:=rfl
def Q8(ds:List D)(i:Int):ixD (.t ds) (.int i)=(atI ds i).map .v:=rfl
def pick{ds:List D}{r:Int}(h0:0<=r)(h1:r<ds.length):∃d,d∈ds/\ixD (.l ds) (.int r)=some (.v d):=by
 obtain⟨k,rfl⟩:=Int.eq_ofNat_of_zero_le h0;have hk:k<ds.length:=by omega
 refine⟨ds[k],getElem_mem hk,?_⟩;rw[u9,Zr (getElem?_eq_getElem hk)];rfl
theorem QB(f:D->Bool):∀ds:List D,JF (ds.map λd=>D.bl (f d))=some (ds.map f)
 | []=>rfl|d::ds=>by simp only[map_cons,JF,QB f ds];rfl
theorem all_map(f:D->Bool)(ds:List D):(ds.map f).all id=ds.all f:=by simp[List.all_map]
def zDa{f:D->Bool}{ds:List D}{b:Bool}(h:ds.all f=b):allD [.l (ds.map λd=>D.bl (f d))]=some (.v (.bl b)):=by
 subst h;simp[allD,QB,all_map]
def GA(ds:List D)(k:Nat)(h:k<=ds.length):Qc ds (some (k:Int)) none=ds.drop k:=by
 unfold Qc;rw[HT.sIx_nat];simp only[HT.sIx];rw[show min k ds.length=k by omega,List.take_of_length_le (by simp)]
mutual
theorem zA4:∀(n:Nat) (d:D),eqb n d=true->deq d d=true
 |n,.non,_=>by simp[deq,eqV,flV]|n,.bl b,_=>by simp[deq,eqV,flV]|n,.int i,_=>by simp[deq,eqV,flV]|n,.str x,_=>by simp[deq,eqV,flV]|n+1,.t ds,h=>by simp only[deq];exact deqs_refl n ds (all_eq_true.mp h)|n+1,.l ds,h=>by simp only[deq];exact deqs_refl n ds (all_eq_true.mp h)|0,.t ds,h=>by cases h|0,.l ds,h=>by cases h|0,.fn _,h=>by cases h|0,.dic,h=>by cases h|0,.exn _ _,h=>by cases h|n+1,.fn _,h=>by cases h|n+1,.dic,h=>by cases h|n+1,.exn _ _,h=>by cases h|0,.dct _ _,h=>by cases h|n+1,.dct _ _,h=>by cases h
theorem deqs_refl:∀(n:Nat) (ds:List D),(∀d∈ds,eqb n d=true)->deqs ds ds=true
 |n,[],_=>by simp[deqs]
 |n,d::ds,h=>by
  simp only[deqs,Bool.and_eq_true];exact⟨zA4 n d (h d qE),deqs_refl n ds λe he=>h e (mem_cons_of_mem _ he)⟩
end
def zGe(ds:List D)(h:eqb 20 (.t ds)=true):eqG (.t ds) (.t ds)=some (.v (.bl true)):=by
 have e:eqF (.t ds) (.t ds)=none:=rfl;simp only[eqG,e,eqDD];rw[if_pos ⟨h,h⟩,zA4 20 _ h];rfl
def N(l:List Nat):List D:=l.map λn:Nat=>D.int (n:Int)
def Zz(l:List Nat):(N l).length=l.length:=by simp[N]
def zFS(h:d∈N l):∃n∈l,d=.int (n:Nat):=by
 obtain⟨n,hn,rfl⟩:=mem_map.mp h;exact⟨n,hn,rfl⟩
def N_get{l:List Nat}{k n:Nat}(h:l[k]?=some n):(N l)[k]?=some (.int (n:Nat)):=by simp[N,h]
def N_app(a b:List Nat):N (a++b)=N a++N b:=by simp[N]
def QC(n:Nat):zK 0 n=N (List.range n):=by
 have key:∀n k:Nat,zK (k:Int) n=N (range' k n):=by
  intro n
  induction n with
  |zero=>intro k;rfl
  |succ n ih =>
   intro k;have:=ih (k+1);rw[List.range'_succ];show D.int (k:Int)::zK ((k:Int)+1) n=D.int (k:Int)::N (range' (k+1) n);rw[<- this];simp
 rw[List.range_eq_range'];exact key n 0
section
variable{fs:List FI}{E E1 E2 E3:zV}
def x_vA(hs:s=.own ds\/s=.v (.l ds))(h:E[i]?=some s)(h':E.set i (.v (.l ds))=E1):dE fs (.var i) E=.ok (.v (.l ds),E1):=by
 rcases hs with rfl|rfl
 ·exact jX h h'
 ·rw[zA h]
  have:E.set i (.v (.l ds))=E:=by
   obtain⟨hi,e⟩:=qG.mp h;rw[<- e,List.set_getElem_self]
  rw[<- h',this]
def s_forI(h1:dI fs it E=.ok (ds,E1))(h3:J2 tg.m (dB fs b) ds E1=.ok p):dS fs (.sForI it tg b) E=.ok p:=by
 simp only[zFK,zC2,h1,sForI,h3]
def i_E(h1:dA fs as E=.ok ([r],E1))(h2:Ql t r.d=some ds):dI fs (.iE t as) E=.ok (zAf 0 ds,E1):=by
 simp only[rI_iE,iE,h1,h2]
end
section
variable{fs:List FI}{E E1 E2 E3 E4 E5 E6:zV}
def x_ixP(h:E[i]?=some (.par ds))(h1:dE fs b E=.ok (.v (.int k),E))(hx:atI ds k=some d):dE fs (.ixO i b) E=.ok (.v d,E):=by
 simp only[Gz,zD3,h,jB,Bool.false_eq_true,if_false,h1,ixS,hx]
end
section
variable{fs:List FI}{E E1 E2 E3 E4 E5 E6:zV}
def ZD(hi:dI fs it E=.ok (ds,E1))(hcap:wV E1 caps=.ok ars)(hl:zM ars E1=.ok (ss,E2))
  (h4:∀(i:Nat) (d:D),ds[i]?=some d->∃r,dE fs el (.v d::ss)=.ok (r,.v d::ss)/\rs[i]?=some r.d) (hn:rs.length=ds.length) (hc:ds.length<=cap) (hb:∀x:DV.Slot,zJ ars ((zg (.e::ss) (x::ss)).drop 1) E1 E2=.ok E1):dE fs (.comp 1 xs ys caps it (.n 0) .tTr el) E=.ok (.own rs,E1):=by
 obtain⟨res,E',e1,e2,x,e3,_⟩:=JJ (tg:=gN 0) (tt:=Zx) (el:=dE fs el) (λk E acc=>acc=rs.take k/\∃x,E=x::ss/\zz x=true) ds 0 (.e::ss) [] ⟨rfl,.e,rfl,rfl⟩ (by simpa using hc) (λi d q E acc ⟨ha,x,hE,hx⟩ _=>by
  rw[zero_add]at ha ⊢;obtain⟨r,e,er⟩:=h4 i d q;refine⟨.v d::ss,.v d::ss,r,.v d::ss,?_,rfl,e,?_,.v d,rfl,rfl⟩
  ·subst hE;cases x<;>first|rfl|(cases hx)
  ·rw[ha,take_add_one,er];rfl)
 rw[zero_add,<- hn,take_length]at e2;subst e2 e3;simp only[Y7];refine Y6 ?_;have e1':j0 (gN 0) Zx (dE fs el) ds (replicate 1 .e++ss) []=.ok (res,x::ss):=e1;have hb':zJ ars ((zg (replicate 1 .e++ss) (x::ss)).drop 1) E1 E2=.ok E1:=hb x;simp only[J4,hi,hcap,hl,Tg.m,vx,e1',hb']
def JW(h1:tg d E=.ok E1)(h2:body E1=.ok (.nx,E2))(h3:J2 tg body ds E2=o):J2 tg body (d::ds) E=o:=by
 subst h3;simp only[J2,h1,h2]
def zA5:J2 tg body [] E=.ok (.nx,E):=rfl
end
theorem QD(I:Nat->zV->Prop)(p:Nat->Bool)(r:Nat->R):∀(ds:List D) (k:Nat) (E:zV),I k E ->
  (∀i d,ds[i]?=some d->∀E,I (k+i) E->∃E1 E2,tg d E=.ok E1/\((p (k+i)=true/\body E1=.ok (.ret (r (k+i)),E2))\/(p (k+i)=false/\body E1=.ok (.nx,E2)/\I (k+i+1) E2))) ->
  (∃i E',i<ds.length/\p (k+i)=true/\(∀j,j<i->p (k+j)=false)/\DV.J2 tg body ds E=.ok (.ret (r (k+i)),E'))\/((∀i,i<ds.length->p (k+i)=false)/\∃E',DV.J2 tg body ds E=.ok (.nx,E')/\I (k+ds.length) E')
 | [],k,E,h,step=>.inr ⟨λi hi=>absurd hi (Nat.not_lt_zero i),E,rfl,h⟩
 |d::ds,k,E,h,step=>by
  obtain⟨E1,E2,h1,h2|⟨h2,h3,h4⟩⟩:=step 0 d rfl E h
  ·exact .inl ⟨0,E2,by simp,h2.1,λj hj=>absurd hj (Nat.not_lt_zero j),by simp only[DV.J2,h1,h2.2]⟩
  ·have ih:=QD I p r ds (k+1) E2 h4 λi d' e E h=>by
    have:=step (i+1) d' (by simpa using e) E (by rw[show k+(i+1)=k+1+i by omega];exact h);rw[show k+(i+1)=k+1+i by omega]at this;exact this
   rcases ih with⟨i,E',hi,q1,q2,q3⟩|⟨q1,E',q2,q3⟩
   ·refine .inl ⟨i+1,E',by simp;omega,by rw[show k+(i+1)=k+1+i by omega];exact q1,λj hj=>?_,?_⟩
    ·cases j with
     |zero=>exact h2|succ j=>rw[show k+(j+1)=k+1+j by omega];exact q2 j (by omega)
    ·rw[show k+(i+1)=k+1+i by omega]
     simp only[DV.J2,h1,h3];exact q3
   ·refine .inr ⟨λj hj=>?_,E',?_,?_⟩
    ·cases j with
     |zero=>exact h2|succ j=>rw[show k+(j+1)=k+1+j by omega];exact q1 j (by simp at hj;omega)
    ·simp only[DV.J2,h1,h3];exact q2
    ·rw[length_cons,show k+(ds.length+1)=k+1+ds.length by omega];exact q3
def ne_tups(h1:∀d∈a,eqb 19 d=true)(h2:∀d∈b,eqb 19 d=true):neG (.t a) (.t b)=some (.v (.bl (!deqs a b))):=by
 have e:neF (.t a) (.t b)=none:=rfl;simp only[neG,e,eqDD];rw[if_pos ⟨all_eq_true.mpr h1,all_eq_true.mpr h2⟩];rfl
theorem ZE(I:Nat->zV->List D->Prop):∀(ds:List D) (k:Nat) (E:zV) (acc:List D),I k E acc->acc.length+ds.length<=cap ->
  (∀i d,ds[i]?=some d->∀E acc,I (k+i) E acc->∃E1 E2,tg d E=.ok E1/\((tt E1=.ok (false,E2)/\I (k+i+1) E2 acc)\/∃r E3,tt E1=.ok (true,E2)/\el E2=.ok (r,E3)/\I (k+i+1) E3 (acc++[r.d]))) ->
  ∃res E',j0 tg tt el ds E acc=.ok (res,E')/\I (k+ds.length) E' res
 | [],k,E,acc,h,hc,step=>⟨acc,E,rfl,h⟩
 |d::ds,k,E,acc,h,hc,step=>by
  simp only[length_cons]at hc;have next:∀i d',ds[i]?=some d'->∀E acc,I (k+1+i) E acc->∃E1 E2,tg d' E=.ok E1/\((tt E1=.ok (false,E2)/\I (k+1+i+1) E2 acc)\/∃r E3,tt E1=.ok (true,E2)/\el E2=.ok (r,E3)/\I (k+1+i+1) E3 (acc++[r.d])):=λi d' e E acc h=>by
   have:=step (i+1) d' (by simpa using e) E acc (by rw[show k+(i+1)=k+1+i by omega];exact h);rw[show k+(i+1)=k+1+i by omega]at this;exact this
  obtain⟨E1,E2,h1,⟨h2,h3⟩|⟨r,E3,h2,h3,h4⟩⟩:=step 0 d rfl E acc h
  ·obtain⟨res,E',q1,q2⟩:=ZE I ds (k+1) E2 acc h3 (by omega) next
   refine⟨res,E',?_,by rw[length_cons,show k+(ds.length+1)=k+1+ds.length by omega];exact q2⟩;simp only[j0,h1,h2];exact q1
  ·obtain⟨res,E',q1,q2⟩:=ZE I ds (k+1) E3 (acc++[r.d]) h4 (by simp;omega) next
   refine⟨res,E',?_,by rw[length_cons,show k+(ds.length+1)=k+1+ds.length by omega];exact q2⟩;simp only[j0,h1,h2,h3];rw[if_pos (by omega)];exact q1
section
variable{fs:List FI}{E:zV}
def x_compT{xs ys:List Str}{caps:List Nat}{it tt el:_}{ds vs p:List D}{i:Nat}{E':List D->zV}{E2 E0:zV}(Pn:List D->Prop)(I:Nat->List D->Prop)(hi:dI fs it E0=.ok (ds,E))(hcap:wV E caps=.ok (.ln i::vs.map AR.tmp))(hl:zM (.ln i::vs.map AR.tmp) E=.ok (.par p::vs.map Slot.v,E2))(hp:Pn p)(h0:I 0 [])
  (h4:∀k d,ds[k]?=some d->∀p acc,Pn p->I k acc->∃p1,(dT fs tt (.v d::.par p::vs.map Slot.v)=.ok (false,.v d::.par p1::vs.map Slot.v)/\Pn p1/\I (k+1) acc) \/
   ∃r p2,dT fs tt (.v d::.par p::vs.map Slot.v)=.ok (true,.v d::.par p1::vs.map Slot.v)/\dE fs el (.v d::.par p1::vs.map Slot.v)=.ok (r,.v d::.par p2::vs.map Slot.v)/\Pn p2/\I (k+1) (acc++[r.d])) (hc:ds.length<=cap)
  (hb:∀(x:DV.Slot) (p':List D),zJ (.ln i::vs.map AR.tmp) ((zg (.e::.par p::vs.map Slot.v) (x::.par p'::vs.map Slot.v)).drop 1) E E2=.ok (E' p')) :
  ∃rs p',dE fs (.comp 1 xs ys caps it (.n 0) tt el) E0=.ok (.own rs,E' p')/\Pn p'/\I ds.length rs:=by
 obtain⟨res,E3,e1,e2,x,p',hE,_,hp'⟩:=ZE (tg:=gN 0) (tt:=dT fs tt) (el:=dE fs el) (λk E acc=>I k acc/\∃x p,E=x::.par p::vs.map Slot.v/\zz x=true/\Pn p) ds 0 (.e::.par p::vs.map Slot.v) [] ⟨h0,.e,p,rfl,rfl,hp⟩ (by simpa using hc) (λi d q E acc ⟨ha,x,p,hE,hx,hp⟩=>by
  rw[zero_add]at ha ⊢;have hg:gN 0 d E=.ok (.v d::.par p::vs.map Slot.v):=by subst hE;cases x<;>first|rfl|(cases hx)
  obtain⟨p1,⟨t1,hp1,a1⟩|⟨r,p2,t1,t2,hp2,a2⟩⟩:=h4 i d q p acc hp ha
  ·exact⟨_,_,hg,.inl ⟨t1,a1,.v d,p1,rfl,rfl,hp1⟩⟩
  ·exact⟨_,_,hg,.inr ⟨r,_,t1,t2,a2,.v d,p2,rfl,rfl,hp2⟩⟩)
 rw[zero_add]at e2;subst hE;refine⟨res,p',?_,hp',e2⟩;simp only[Y7];refine Y6 ?_;have e1':j0 (gN 0) (dT fs tt) (dE fs el) ds (replicate 1 .e++.par p::vs.map Slot.v) []=.ok (res,x::.par p'::vs.map Slot.v):=e1;have hb':zJ (.ln i::vs.map AR.tmp) ((zg (replicate 1 .e++.par p::vs.map Slot.v) (x::.par p'::vs.map Slot.v)).drop 1) E E2=.ok (E' p'):=hb x p';simp only[J4,hi,hcap,hl,Tg.m,e1',hb']
end
section
variable{fs:List FI}{E E1 E2:zV}
def x_dgO(h:E[i]?=some (.dct ks vs))(h1:dE fs b E=.ok (r,E))(h2:zC4 r.d=some q)(h3:vt ks vs q=some d):dE fs (.dgO i b) E=.ok (.v d,E):=by
 have e:jB E[i]?=false:=by rw[h];rfl
 simp only[zGS,eDgO,h1,h,ctD,h2,h3];rfl
def x_frz(h:dE fs a E=.ok (r,E1)):dE fs (.frz a) E=.ok (.v r.d,E1):=by simp only[zGR,eFrz,h]
def Q9(h:DV.whN (dT fs t) (dB fs b) 1000000 E=.ok p):dS fs (.sWhile t b) E=.ok p:=by
 simp only[G2];exact ua (by simp only[DV.sWhile];exact h)
end
theorem zDb:∀{ks:List (List KN)} {vs:List D} {q:List KN},q∉ks->vt ks vs q=none
 | [],_,_,_=>rfl|k::ks,[],_,_=>rfl
 |k::ks,v::vs,q,h=>by
  simp only[vt];have:¬k=q:=λe=>h (by rw[e];exact qE)
  rw[if_neg this,zDb λh'=>h (mem_cons_of_mem _ h')]
section
variable{fs:List FI}{E E1 E2:zV}
def x_frdD(h:E[i]?=some (.dct ks vs))(he:E.set i (.v (.dct ks vs))=E1)(h1:dE fs a E1=o):dE fs (.frd i a) E=o:=by
 subst he h1;simp only[zGT,eFrd,h,Option.bind_some,slR,R.d]
def x_frdV(h:E[i]?=some (.v d))(h1:dE fs a E=o):dE fs (.frd i a) E=o:=by
 subst h1;simp only[zGT,eFrd,h,Option.bind_some,slR]
def x_dgA(h:E[i]?=some s)(hs:s=.dct ks vs\/s=.v (.dct ks vs))(h1:dE fs b E=.ok (r,E))(h2:zC4 r.d=some q)(h3:vt ks vs q=some d):dE fs (.dgO i b) E=.ok (.v d,E):=by
 rcases hs with rfl|rfl
 ·exact x_dgO h h1 h2 h3
 ·have e:jB E[i]?=false:=by rw[h];rfl
  simp only[zGS,eDgO,h1,h,ctD,h2,h3];rfl
def zDc(h:E[i]?=some (.dct ks vs))(h1:dE fs a E=.ok (r,E))(h2:dE fs b E=.ok (r2,E))(h3:zC4 r2.d=some q)(hl:ks.length<1000000)(hp:zC5 ks vs q r.d=p)(he:E.set i (.dct p.1 p.2)=E1):dS fs (.sDput i b a) E=.ok (.nx,E1):=by
 have e:jB E[i]?=false:=by rw[h];rfl
 subst hp he;simp only[zFI,DV.sDput,h1,h2,h,h3,if_pos hl];rfl
end
end DV
namespace GJ
def dot(r u:Nat->Rat):Nat->Rat
 |0=>0|m+1=>dot r u m+r m*u m
theorem zDd(r q u:Nat->Rat)(c:Rat):∀m,dot (λx=>r x-c*q x) u m=dot r u m-c*dot q u m
 |0=>by simp only[dot];grind|m+1=>by simp only[dot];rw[zDd r q u c m];grind
theorem zAA(r u:Nat->Rat)(c:Rat):∀m,dot (λx=>r x/c) u m=dot r u m/c
 |0=>by simp only[dot];grind|m+1=>by simp only[dot];rw[zAA r u c m];grind
def el(j:Nat)(R:Nat->Nat->Rat):Nat->Nat->Rat:=λi x=>if i=j then R j x/R j j else R i x-R i j*(R j x/R j j)
def stg(M:Nat->Nat->Rat):Nat->Nat->Nat->Rat
 |0=>M|j+1=>el j (stg M j)
def el_dot{R:Nat->Nat->Rat}{u:Nat->Rat}(h:dot (R j) u m=0)(i:Nat):dot (el j R i) u m=if i=j then 0 else dot (R i) u m:=by
 by_cases e:i=j
 ·rw[if_pos e]
  have:el j R i=λx=>R j x/R j j:=by funext x;simp only[el,if_pos e]
  rw[this,zAA,h];grind
 ·rw[if_neg e]
  have:el j R i=λx=>R i x-R i j*(R j x/R j j):=by funext x;simp only[el,if_neg e]
  rw[this,zDd (R i) (λx=>R j x/R j j),zAA,h];grind
theorem inv{M:Nat->Nat->Rat}:∀j,(∀i,i<j->stg M i i i≠0)->(∀i x,x<j->stg M j i x=if i=x then 1 else 0)/\∀u,(∀i,i<j->dot (M i) u m=0)->∀i,dot (stg M j i) u m=if i<j then 0 else dot (M i) u m
 |0,hp=>⟨λi x h=>by omega,λu hu i=>by rw[if_neg (by omega)];rfl⟩
 |j+1,hp=>by
  obtain⟨h1,h2⟩:=inv (m:=m) j λi hi=>hp i (by omega)
  have p:=hp j (by omega);refine⟨λi x hx=>?_,λu hu i=>?_⟩
  ·show el j (stg M j) i x=_
   unfold el;by_cases e:x=j
   ·subst e
    by_cases e2:i=x
    ·rw[if_pos e2,if_pos e2];grind
    ·rw[if_neg e2,if_neg e2];grind
   ·have hj:=h1 j x (by omega)
    rw[if_neg (λz=>e z.symm)]at hj;have hi:=h1 i x (by omega);by_cases e2:i=j
    ·subst e2
     rw[if_pos rfl,if_neg (λz=>e z.symm),hj];grind
    ·rw[if_neg e2,hj,hi];grind
  ·have hu':=h2 u λi hi=>hu i (by omega)
   have hj:dot (stg M j j) u m=0:=by rw[hu' j,if_neg (by omega)];exact hu j (by omega)
   show dot (el j (stg M j) i) u m=_
   rw[el_dot hj i];by_cases e2:i=j
   ·rw[if_pos e2,if_pos (by omega)]
   ·rw[if_neg e2,hu' i]
    by_cases e3:i<j
    ·rw[if_pos e3,if_pos (by omega)]
    ·rw[if_neg e3,if_neg (by omega)]
theorem uy{R u:Nat->Rat}(h1:∀y,y<j->R y=if i=y then 1 else 0)(hx:j<=x)(h2:u x=1):∀m,(∀y,j<=y->y<m->y≠x->u y=0)->dot R u m=(if i<j/\i<m then u i else 0)+if x<m then R x else 0
 |0,_=>by simp only[dot];rw[if_neg (by omega),if_neg (by omega)];grind
 |m+1,h3=>by
  simp only[dot];rw[uy h1 hx h2 m λy a b c=>h3 y a (by omega) c];by_cases a:m<j
  ·rw[h1 m a]
   by_cases b:i=m
   ·subst b
    rw[if_pos rfl,if_neg (by omega),if_neg (by omega),if_pos ⟨a,by omega⟩,if_neg (by omega)];grind
   ·rw[if_neg b,if_neg (show ¬x<m by omega),if_neg (show ¬x<m+1 by omega)]
    by_cases c:i<j/\i<m
    ·rw[if_pos c,if_pos ⟨c.1,by omega⟩];grind
    ·rw[if_neg c,if_neg (by omega)];grind
  ·by_cases b:m=x
   ·subst b
    rw[h2,if_neg (show ¬m<m by omega),if_pos (show m<m+1 by omega)];by_cases c:i<j
    ·rw[if_pos ⟨c,by omega⟩,if_pos ⟨c,by omega⟩];grind
    ·rw[if_neg (by omega),if_neg (by omega)];grind
   ·rw[h3 m (by omega) (by omega) b]
    grind
def entry{M:Nat->Nat->Rat}{u:Nat->Rat}(hp:∀i,i<j->stg M i i i≠0)(hx:j<=x)(hm:x<m)(h2:u x=1)(h3:∀y,j<=y->y<m->y≠x->u y=0)(h0:∀i,i<j->dot (M i) u m=0)(i:Nat):stg M j i x=if i<j then -u i else dot (M i) u m:=by
 obtain⟨a,b⟩:=inv (m:=m) j hp;have e:=b u h0 i;rw[uy (i:=i) (λy hy=>a i y hy) hx h2 m h3,if_pos hm]at e;by_cases c:i<j
 ·rw[if_pos c]at e ⊢
  rw[if_pos ⟨c,by omega⟩]at e;grind
 ·rw[if_neg c]at e ⊢
  rw[if_neg (by omega)]at e;grind
def sol_of{M:Nat->Nat->Rat}{u:Nat->Rat}(hp:∀i,i<n->stg M i i i≠0)(h0:∀i,i<n->dot (M i) u (n+1)=0)(hi:i<n):u i+stg M n i n*u n=0:=by
 obtain⟨a,b⟩:=inv (m:=n+1) n hp;have e:=b u h0 i;rw[if_pos hi]at e;simp only[dot]at e;have:∀m,m<=n->dot (stg M n i) u m=if i<m then u i else 0:=by
  intro m
  induction m with
  |zero=>intro _;simp only[dot];rw[if_neg (by omega)]
  |succ m ih =>
   intro h;simp only[dot];rw[ih (by omega),a i m (by omega)];by_cases c:i=m
   ·subst c;rw[if_neg (by omega),if_pos rfl,if_pos (by omega)];grind
   ·rw[if_neg c]
    by_cases d:i<m
    ·rw[if_pos d,if_pos (by omega)];grind
    ·rw[if_neg d,if_neg (by omega)];grind
 rw[this n (le_refl _),if_pos hi]at e;exact e
def G(s a:Int):Nat->Int
 |0=>0|m+1=>a*G s a m+s^m
theorem G'(s a:Int):∀m,G s a (m+1)=s*G s a m+a^m
 |0=>by simp[G]
 |m+1=>by
  have:=G' s a m;simp only[G]at this ⊢
  grind
theorem G_s(h:s=a+c):∀m,s^m=a^m+c*G s a m
 |0=>by simp[G]
 |m+1=>by
  have:=G_s h m;have:=G' s a m
  grind
structure Sy where
 A:Int
 B:Int
 C:Int
 k:Nat
 l:Nat
 g:Int
 q:Int
abbrev Sy.s(p:Sy):Int:=p.A+p.B+p.C
abbrev Sy.n(p:Sy):Nat:=p.k+p.l-1
abbrev Sy.G(p:Sy)(m:Nat):Int:=GJ.G p.s p.A m
abbrev Sy.H(p:Sy)(m:Nat):Int:=GJ.G p.s p.B m
def Sy.E(p:Sy)(m t:Nat):Int:=p.B^t*p.G m+p.A^m*p.H t
def Sy.av(p:Sy)(U:Nat->Int)(m:Nat):Int:=if m<p.k then U m else -(p.g*U p.n)
def Sy.bv(p:Sy)(U:Nat->Int)(m:Nat):Int:=if m<p.l then U (p.k-1+m)else 0
def Sy.L(p:Sy)(i:Nat)(U:Nat->Int):Int:=if i<p.k then p.s*U i-p.A*p.av U (i+1)-p.B*p.bv U 1-p.C*U 0+p.s*p.q*U p.n
 else p.s*U i-p.A*p.av U 1-p.B*p.bv U (i-p.k+2)-p.C*U 0+p.s*p.q*U p.n
section
variable{p:Sy}
def e_a(p:Sy)(m t:Nat):p.s*p.E m (t+1)=p.E (m+1) (t+1)+p.A^m*(p.B*p.s*p.H t+p.C*p.H (t+1)):=by
 have h1:=G' p.s p.A m;have h2:p.H (t+1)=p.B*p.H t+p.s^t:=rfl;have h3:=G_s (s:=p.s) (a:=p.B) (c:=p.A+p.C) (by grind) (t+1);unfold Sy.E
 grind
def e_b(p:Sy)(m t:Nat):p.s*p.E (m+1) t=p.E (m+1) (t+1)+p.B^t*(p.A*p.s*p.G m+p.C*p.G (m+1)):=by
 have h1:=G' p.s p.B t;have h2:p.G (m+1)=p.A*p.G m+p.s^m:=rfl;have h3:=G_s (s:=p.s) (a:=p.A) (c:=p.B+p.C) (by grind) (m+1);unfold Sy.E
 grind
def E_0(p:Sy)(t:Nat):p.E 0 t=p.H t:=by simp[Sy.E,Sy.G,GJ.G]
def H_1(p:Sy):p.H 1=1:=by simp[Sy.H,GJ.G]
def H_0(p:Sy):p.H 0=0:=rfl
def G_1(p:Sy):p.G 1=1:=by simp[Sy.G,GJ.G]
def G_0(p:Sy):p.G 0=0:=rfl
def V1(p:Sy)(j y:Nat):Int:=if y<=j then p.A^(j-y)*p.E y 1 else 0
def V2(p:Sy)(c:Int)(z j y:Nat):Int:=if y<j then p.G (j-y)*p.s^y*c else if y=z then p.E j 1 else 0
def W1(p:Sy)(t y:Nat):Int:=if y<p.k then p.G (p.k-y)*p.s^y*p.B^(t+1)else if y<=p.k+t then p.B^(p.k+t-y)*p.E p.k (y-p.k+1)else 0
def W3(p:Sy)(t y:Nat):Int:=if y<p.k then -(p.g*p.A^(p.k-y)*p.E y (t+1)+p.q*p.s^(y+1)*p.G (p.k-y)*p.H (t+1))else if y<p.k+t then -(p.H (p.k+t-y)*p.s^(y-p.k+1)*(p.A^p.k*p.g+p.s*p.q*p.G p.k))else if y=p.n then p.E p.k (t+1)else 0
def sG(s a:Int)(m i:Nat):s^(i+1)*GJ.G s a (m+1)-a*s^(i+1)*GJ.G s a m=s^(i+1+m):=by
 have h2:GJ.G s a (m+1)=a*GJ.G s a m+s^m:=rfl;rw[h2,Int.pow_add];grind
def gG(s a:Int)(k:Nat):s*a*GJ.G s a k=s*GJ.G s a (k+1)-s^(k+1):=by
 have h3:GJ.G s a (k+1)=a*GJ.G s a k+s^k:=rfl;rw[h3,Int.pow_succ];grind
def sA(p:Sy)(m i:Nat):p.s^(i+1)*p.G (m+1)-p.A*p.s^(i+1)*p.G m=p.s^(i+1+m):=by
 have h2:p.G (m+1)=p.A*p.G m+p.s^m:=rfl;rw[h2,Int.pow_add];grind
def E_j1(p:Sy)(j:Nat):p.E j 1+p.C*p.G j=p.s^j:=by
 have:=G_s (s:=p.s) (a:=p.A) (c:=p.B+p.C) (by grind) j;unfold Sy.E;rw[H_1];grind
def V1_ok(hj:j<p.k)(hl:1<=p.l)(hi:i<j):p.L i (V1 p j)=0:=by
 obtain⟨d,rfl⟩:∃d,j=i+1+d:=⟨j-(i+1),by omega⟩;have e1:V1 p (i+1+d) i=p.A^(d+1)*p.E i 1:=by unfold V1;rw[if_pos (by omega),show i+1+d-i=d+1 by omega]
 have e2:p.av (V1 p (i+1+d)) (i+1)=p.A^d*p.E (i+1) 1:=by unfold Sy.av V1;rw[if_pos (by omega),if_pos (by omega),show i+1+d-(i+1)=d by omega]
 have e3:p.bv (V1 p (i+1+d)) 1=0:=by
  unfold Sy.bv V1;split
  ·rw[if_neg (by omega)]
  ·rfl
 have e4:V1 p (i+1+d) 0=p.A^(i+1+d):=by unfold V1;rw[if_pos (by omega),E_0,H_1,sub_zero,Int.mul_one]
 have e5:V1 p (i+1+d) p.n=0:=by unfold V1 Sy.n;rw[if_neg (by omega)]
 unfold Sy.L;rw[if_pos (by omega),e1,e2,e3,e4,e5];have:=e_a p i 0;rw[H_0,H_1]at this;rw[Int.pow_add,Int.pow_add] 
 grind
def V1_piv(hj:j<p.k)(hl:1<=p.l):p.L j (V1 p j)=p.E (j+1) 1:=by
 have e1:V1 p j j=p.E j 1:=by unfold V1;rw[if_pos (by omega),sub_self,Int.pow_zero,Int.one_mul]
 have e5:V1 p j p.n=0:=by unfold V1 Sy.n;rw[if_neg (by omega)]
 have e2:p.av (V1 p j) (j+1)=0:=by
  unfold Sy.av;split
  ·unfold V1;rw[if_neg (by omega)]
  ·rw[e5,Int.mul_zero,Int.neg_zero]
 have e3:p.bv (V1 p j) 1=0:=by
  unfold Sy.bv V1;split
  ·rw[if_neg (by omega)]
  ·rfl
 have e4:V1 p j 0=p.A^j:=by unfold V1;rw[if_pos (by omega),E_0,H_1,sub_zero,Int.mul_one]
 unfold Sy.L;rw[if_pos (by omega),e1,e2,e3,e4,e5];have:=e_a p j 0;rw[H_0,H_1]at this
 grind
def alg2{s A B C c q x g1 g0 T E g b n:Int}(k1:B*b-s*q*n=c*E)(h1:x*s*g1-A*(x*s)*g0=T)(h2:E+C*g=T):s*(g1*x*c)-A*(g0*(x*s)*c)-B*b-C*(g*c)+s*q*n=0:=by
 have k2:s*(g1*x*c)-A*(g0*(x*s)*c)=c*T:=by rw[<- h1];grind
 have k3:c*T=c*E+C*(g*c):=by rw[<- h2];grind
 omega
def V2_ok{j i z:Nat}{c:Int}(hj:j<p.k)(hl:1<=p.l)(hi:i<j)(hc:(c=p.B/\z=p.k/\1<p.l)\/(c=-(p.s*p.q)/\z=p.n)):p.L i (V2 p c z j)=0:=by
 obtain⟨d,rfl⟩:∃d,j=i+1+d:=⟨j-(i+1),by omega⟩;have en:p.n=p.k+p.l-1:=rfl;have hz:i+1+d<z:=by omega
 have e1:V2 p c z (i+1+d) i=p.G (d+1)*p.s^i*c:=by unfold V2;rw[if_pos (by omega),show i+1+d-i=d+1 by omega]
 have e2:p.av (V2 p c z (i+1+d)) (i+1)=p.G d*p.s^(i+1)*c:=by
  unfold Sy.av V2;rw[if_pos (by omega)];by_cases w:d=0
  ·subst w;rw[if_neg (by omega),if_neg (by omega),G_0];grind
  ·rw[if_pos (by omega),show i+1+d-(i+1)=d by omega]
 have e4:V2 p c z (i+1+d) 0=p.G (i+1+d)*c:=by unfold V2;rw[if_pos (by omega),sub_zero,Int.pow_zero,Int.mul_one]
 have k1:p.B*p.bv (V2 p c z (i+1+d)) 1-p.s*p.q*V2 p c z (i+1+d) p.n=c*p.E (i+1+d) 1:=by
  rcases hc with⟨rfl,rfl,h1⟩|⟨rfl,rfl⟩
  ·have e3:p.bv (V2 p p.B p.k (i+1+d)) 1=p.E (i+1+d) 1:=by unfold Sy.bv V2;rw[if_pos h1,if_neg (by omega),if_pos (by omega)]
   have e5:V2 p p.B p.k (i+1+d) p.n=0:=by unfold V2;rw[if_neg (by omega),if_neg (by omega)]
   rw[e3,e5];grind
  ·have e3:p.bv (V2 p (-(p.s*p.q)) p.n (i+1+d)) 1=0:=by
    unfold Sy.bv V2;split
    ·rw[if_neg (by omega),if_neg (by omega)]
    ·rfl
   have e5:V2 p (-(p.s*p.q)) p.n (i+1+d) p.n=p.E (i+1+d) 1:=by unfold V2;rw[if_neg (by omega),if_pos rfl]
   rw[e3,e5];grind
 unfold Sy.L;rw[if_pos (by omega),e1,e2,e4,Int.pow_succ p.s i];exact alg2 k1 (by have:=sA p d i;rw[Int.pow_succ]at this;exact this) (E_j1 p (i+1+d))
def W1_v(hy:y<=p.k):(if y<p.k then W1 p t y else 0)=p.G (p.k-y)*p.s^y*p.B^(t+1):=by
 split
 ·rename_i h;unfold W1;rw[if_pos h]
 ·have:y=p.k:=by omega
  subst this;rw[sub_self,G_0,Int.zero_mul,Int.zero_mul]
def W1_n(hk:1<=p.k)(hl:t+1<p.l):W1 p t p.n=0:=by unfold W1 Sy.n;rw[if_neg (by omega),if_neg (by omega)]
def W1_av(hk:1<=p.k)(hl:t+1<p.l)(hm:m<=p.k):p.av (W1 p t) m=p.G (p.k-m)*p.s^m*p.B^(t+1):=by
 rw[<- W1_v hm];unfold Sy.av;rw[W1_n hk hl,Int.mul_zero,Int.neg_zero]
def W1_b(hk:1<=p.k)(hm:m<=t):W1 p t (p.k+m)=p.B^(t-m)*p.E p.k (m+1):=by
 unfold W1;rw[if_neg (by omega),if_pos (by omega),show p.k+t-(p.k+m)=t-m by omega,show p.k+m-p.k+1=m+1 by omega]
def W1_bv(hk:1<=p.k)(hl:t+1<p.l)(hm:m<=t):p.bv (W1 p t) (m+1)=p.B^(t-m)*p.E p.k (m+1):=by
 unfold Sy.bv;rw[if_pos (by omega),show p.k-1+(m+1)=p.k+m by omega,W1_b hk hm]
def algW1a{s A B C q X g1 g0 T E g b b1:Int}(h1:X*g1-A*X*g0=T)(h2:E+C*g=T)(hb:b1=b*B):s*(g1*x*b1)-A*(g0*(x*s)*b1)-B*(b*E)-C*(g*1*b1)+s*q*0=0\/X≠x*s:=by grind
def W1_ok{t i:Nat}(hk:1<=p.k)(hl:t+1<p.l)(hi:i<p.k+t):p.L i (W1 p t)=0:=by
 have e4:W1 p t 0=p.G p.k*1*p.B^(t+1):=by unfold W1;rw[if_pos (by omega),sub_zero,Int.pow_zero]
 unfold Sy.L;by_cases c:i<p.k
 ·obtain⟨d,hd⟩:∃d,p.k=i+1+d:=⟨p.k-(i+1),by omega⟩
  have e1:W1 p t i=p.G (d+1)*p.s^i*p.B^(t+1):=by unfold W1;rw[if_pos c,show p.k-i=d+1 by omega]
  have e2:=W1_av hk hl (show i+1<=p.k by omega);rw[show p.k-(i+1)=d by omega]at e2;have e3:=W1_bv hk hl (zero_le t);rw[sub_zero]at e3;have h1:=sA p d i;have h2:=E_j1 p p.k;rw[<- hd]at h1;rw[if_pos c,e1,e2,e3,e4,W1_n hk hl,Int.pow_succ p.s i];exact(algW1a h1 h2 (Int.pow_succ _ _)).resolve_right (λz=>z (Int.pow_succ _ _))
 ·obtain⟨m,rfl⟩:∃m,i=p.k+m:=⟨i-p.k,by omega⟩
  obtain⟨d,rfl⟩:∃d,t=m+1+d:=⟨t-(m+1),by omega⟩;obtain⟨k,hd⟩:∃k,p.k=k+1:=⟨p.k-1,by omega⟩;have e1:=W1_b (t:=m+1+d) hk (show m<=m+1+d by omega);have e2:=W1_av hk hl hk;have e3:=W1_bv hk hl (show m+1<=m+1+d by omega);have h1:=e_b p k (m+1);rw[<- hd]at h1;rw[if_neg c,show p.k+m-p.k+2=m+1+1 by omega,e1,e2,e3,e4,W1_n hk hl,show m+1+d-m=d+1 by omega,show m+1+d-(m+1)=d by omega,show p.k-1=k by omega];rw[show m+1+d+1=m+1+(d+1)by omega,Int.pow_add p.B (m+1) (d+1),Int.pow_succ p.B d,Int.pow_one];generalize p.s=s at *
  grind
def W1_piv(hk:1<=p.k)(hl:t+1<p.l):p.L (p.k+t) (W1 p t)=p.E p.k (t+2):=by
 have e4:W1 p t 0=p.G p.k*1*p.B^(t+1):=by unfold W1;rw[if_pos (by omega),sub_zero,Int.pow_zero]
 obtain⟨k,hd⟩:∃k,p.k=k+1:=⟨p.k-1,by omega⟩;have e1:=W1_b (t:=t) hk (le_refl t);have e2:=W1_av hk hl hk;have e3:p.bv (W1 p t) (t+2)=0:=by
  unfold Sy.bv;split
  ·unfold W1;rw[if_neg (by omega),if_neg (by omega)]
  ·rfl
 have h1:=e_b p k (t+1);rw[<- hd]at h1;unfold Sy.L;rw[if_neg (by omega),show p.k+t-p.k+2=t+2 by omega,e1,e2,e3,e4,W1_n hk hl,sub_self,show p.k-1=k by omega,Int.pow_one];generalize p.s=s at *
 grind
def W3_n(hk:1<=p.k)(hl:t+1<p.l):W3 p t p.n=p.E p.k (t+1):=by unfold W3;rw[if_neg (by unfold Sy.n;omega),if_neg (by unfold Sy.n;omega),if_pos rfl]
def W3_a(hm:m<p.k):W3 p t m=-(p.g*p.A^(p.k-m)*p.E m (t+1)+p.q*p.s^(m+1)*p.G (p.k-m)*p.H (t+1)):=by unfold W3;rw[if_pos hm]
def W3_av(hk:1<=p.k)(hl:t+1<p.l)(hm:m<=p.k):p.av (W3 p t) m=-(p.g*p.A^(p.k-m)*p.E m (t+1)+p.q*p.s^(m+1)*p.G (p.k-m)*p.H (t+1)):=by
 unfold Sy.av;split
 ·rename_i h;exact W3_a h
 ·have:m=p.k:=by omega
  subst this;rw[W3_n hk hl,sub_self,G_0,Int.pow_zero];grind
def W3_b(hk:1<=p.k)(hl:t+1<p.l)(hm:m<=t):W3 p t (p.k+m)=-(p.H (t-m)*p.s^(m+1)*(p.A^p.k*p.g+p.s*p.q*p.G p.k)):=by
 unfold W3;rw[if_neg (by omega)];by_cases c:m=t
 ·subst c;rw[if_neg (by omega),if_neg (by unfold Sy.n;omega),sub_self,H_0];grind
 ·rw[if_pos (by omega),show p.k+t-(p.k+m)=t-m by omega,show p.k+m-p.k+1=m+1 by omega]
def W3_bv(hk:1<=p.k)(hl:t+1<p.l)(hm:m<=t):p.bv (W3 p t) (m+1)=-(p.H (t-m)*p.s^(m+1)*(p.A^p.k*p.g+p.s*p.q*p.G p.k)):=by
 unfold Sy.bv;rw[if_pos (by omega),show p.k-1+(m+1)=p.k+m by omega,W3_b hk hl hm]
def r1(s A B C g q a1 a Ei Ei1 X g1 g0 HT Ht ak gk Ek:Int):s * -(g*a1*Ei+q*X*g1*HT)-A * -(g*a*Ei1+q*(X*s)*g0*HT)-B * -(Ht*s*(ak*g+s*q*gk))-C * -(g*ak*HT+q*s*gk*HT)+s*q*Ek=-(g*(a1*(s*Ei)-A*a*Ei1-B*Ht*s*ak-C*ak*HT))-s*q*(HT*(X*g1-A*X*g0)-B*Ht*s*gk-C*gk*HT-Ek):=by grind
def r2(a A ai Ei1 B C s Ht HT:Int):a*A*(Ei1+ai*(B*s*Ht+C*HT))-A*a*Ei1-B*Ht*s*(a*A*ai)-C*(a*A*ai)*HT=0:=by grind
def r3(A B C ak gk HT Ht bT:Int):HT*(ak+(B+C)*gk)-B*Ht*(A+B+C)*gk-C*gk*HT-(bT*gk+ak*HT)=gk*(B*HT-B*Ht*(A+B+C)-bT):=by grind
def r4{A B C HT Ht st bT:Int}(h1:HT=B*Ht+st)(h2:st*(A+B+C)=bT+(A+C)*HT):B*HT-B*Ht*(A+B+C)-bT=0:=by
 have e:B*Ht=HT-st:=by omega
 have e2:(HT-st)*(A+B+C)=HT*(A+B+C)-st*(A+B+C):=Int.sub_mul _ _ _;rw[e,e2,h2]
 clear e e2 h1 h2
 grind
def algW3a{A B C g q a ai Ei Ei1 X g1 g0 gk HT Ht st bT:Int}(h1:(A+B+C)*Ei=Ei1+ai*(B*(A+B+C)*Ht+C*HT))(h2:X*g1-A*X*g0=a*A*ai+(B+C)*gk)
  (hT:st*(A+B+C)=bT+(A+C)*HT) (hH:HT=B*Ht+st) :
  (A+B+C) * -(g*(a*A)*Ei+q*X*g1*HT)-A * -(g*a*Ei1+q*(X*(A+B+C))*g0*HT)-B * -(Ht*(A+B+C)*(a*A*ai*g+(A+B+C)*q*gk))-C * -(g*(a*A*ai)*HT+q*(A+B+C)*gk*HT)+(A+B+C)*q*(bT*gk+a*A*ai*HT)=0:=by
 rw[r1,h1,r2,h2,r3,r4 hH hT,Int.mul_zero,Int.mul_zero,Int.mul_zero];rfl
def r5(s A B C g q a1 E1 g0 HT h1 h0 Z th ak gk Ek:Int):s * -(h1*Z*th)-A * -(g*a1*E1+q*(s*s)*g0*HT)-B * -(h0*(Z*s)*th)-C * -(g*ak*HT+q*s*gk*HT)+s*q*Ek=-(th*(s*(Z*h1-B*Z*h0)))+g*(A*a1)*E1+q*s*HT*(s*A*g0)+C*(g*ak*HT+q*s*gk*HT)+s*q*Ek:=by grind
def r6(A B C g q ak gk HT bT:Int):-((ak*g+(A+B+C)*q*gk)*(bT+(A+C)*HT))+g*ak*(bT+A*HT)+q*(A+B+C)*HT*((A+B+C)*gk-(ak+(B+C)*gk))+C*(g*ak*HT+q*(A+B+C)*gk*HT)+(A+B+C)*q*(bT*gk+ak*HT)=0:=by grind
def algW3b(hk:A*a1=ak)(h2:Z*h1-B*Z*h0=st)(hs:(A+B+C)*st=bT+(A+C)*HT)(hg:(A+B+C)*A*g0=(A+B+C)*gk-(ak+(B+C)*gk)) :
  (A+B+C) * -(h1*Z*(ak*g+(A+B+C)*q*gk))-A * -(g*a1*(bT+A*HT)+q*((A+B+C)*(A+B+C))*g0*HT)-B * -(h0*(Z*(A+B+C))*(ak*g+(A+B+C)*q*gk))-C * -(g*ak*HT+q*(A+B+C)*gk*HT)+(A+B+C)*q*(bT*gk+ak*HT)=0:=by
 rw[r5,h2,hs,hg,hk,r6]
def W3_ok(hk:1<=p.k)(hl:t+1<p.l)(hi:i<p.k+t):p.L i (W3 p t)=0:=by
 obtain⟨k,hd⟩:∃k,p.k=k+1:=⟨p.k-1,by omega⟩;have e4:W3 p t 0=-(p.g*p.A^p.k*p.H (t+1)+p.q*p.s*p.G p.k*p.H (t+1)):=by rw[W3_a (by omega),sub_zero,E_0,Int.pow_one]
 have hE:p.E p.k (t+1)=p.B^(t+1)*p.G p.k+p.A^p.k*p.H (t+1):=rfl;have hH:p.H (t+1)=p.B*p.H t+p.s^t:=rfl;have hT:p.s^t*p.s=p.B^(t+1)+(p.A+p.C)*p.H (t+1):=by rw[<- Int.pow_succ];exact G_s (by grind) (t+1)
 have hK:p.s^p.k=p.A^p.k+(p.B+p.C)*p.G p.k:=G_s (by grind) p.k;unfold Sy.L;by_cases c:i<p.k
 ·obtain⟨d,he⟩:∃d,p.k=i+1+d:=⟨p.k-(i+1),by omega⟩
  have e1:=W3_a (t:=t) c;have e2:=W3_av hk hl (show i+1<=p.k by omega);have e3:=W3_bv hk hl (zero_le t);have h1:=e_a p i t;have h2:=sA p d i;have ea:p.A^p.k=p.A^d*p.A*p.A^i:=by rw[he,<- Int.pow_succ,<- Int.pow_add];congr 1;omega
  rw[<- he,hK,ea]at h2;rw[if_pos c,e1,e2,e3,e4,W3_n hk hl,hE,sub_zero,show p.k-i=d+1 by omega,show p.k-(i+1)=d by omega,Int.pow_succ p.A d,Int.pow_succ p.s (i+1),ea,zero_add,Int.pow_one];exact algW3a h1 h2 hT hH
 ·obtain⟨m,rfl⟩:∃m,i=p.k+m:=⟨i-p.k,by omega⟩
  obtain⟨d,rfl⟩:∃d,t=m+1+d:=⟨t-(m+1),by omega⟩;have e1:=W3_b hk hl (show m<=m+1+d by omega);have e2:=W3_av hk hl hk;have e3:=W3_bv hk hl (show m+1<=m+1+d by omega);have h2:=sG p.s p.B d m;have hG:p.s*p.A*p.G k=p.s*p.G p.k-(p.A^p.k+(p.B+p.C)*p.G p.k):=by rw[<- hK,hd];exact gG p.s p.A k
  have e5:p.E 1 (m+1+d+1)=p.B^(m+1+d+1)+p.A*p.H (m+1+d+1):=by unfold Sy.E;rw[G_1,Int.mul_one,Int.pow_one]
  rw[if_neg c,show p.k+m-p.k+2=m+1+1 by omega,e1,e2,e3,e4,W3_n hk hl,hE,show m+1+d-m=d+1 by omega,show m+1+d-(m+1)=d by omega,show p.k-1=k by omega,Int.pow_succ p.s (m+1),e5,show p.s^(1+1)=p.s*p.s by rw[Int.pow_succ,Int.pow_one]];rw[Int.mul_comm]at hT;exact algW3b (by rw[hd,Int.pow_succ,Int.mul_comm]) h2 hT hG
def Zu(x y:Nat):Int:=if y=x then 1 else 0
def Zu_ok(hk:1<=p.k)(hl:1<=p.l)(hi:i<j)(hx:j<x)(hn:x≠p.n)(hb:x=p.k->p.k<j):p.L i (Zu x)=0:=by
 have z:∀y,y≠x->Zu x y=0:=λy h=>if_neg h
 have a1:∀m,m<=j->p.av (Zu x) m=0:=λm h=>by
  unfold Sy.av;split
  ·exact z m (by omega)
  ·rw[z p.n (Ne.symm hn),Int.mul_zero,Int.neg_zero]
 have e0:Zu x 0=0:=z 0 (by omega);have en:Zu x p.n=0:=z _ (Ne.symm hn);have ei:Zu x i=0:=z _ (by omega);have b1:p.bv (Zu x) 1=0:=by
  unfold Sy.bv;split
  ·exact z _ (by omega)
  ·rfl
 unfold Sy.L;split
 ·rw[a1 (i+1) (by omega),b1,e0,en,ei];simp
 ·rename_i c
  have b2:p.bv (Zu x) (i-p.k+2)=0:=by
   unfold Sy.bv;split
   ·exact z _ (by omega)
   ·rfl
  rw[a1 1 (by omega),b2,e0,en,ei];simp
end
def Bz(x:Int)(n:Nat):Prop:=x.natAbs<=2^n
def Bz.mul{x y:Int}{m n:Nat}(h1:Bz x m)(h2:Bz y n):Bz (x*y) (m+n):=by
 unfold Bz at *;rw[Int.natAbs_mul,pow_add];exact mul_le_mul h1 h2
def Bz.mono{x:Int}{m n:Nat}(h:Bz x m)(hn:m<=n):Bz x n:=le_trans h (pow_le_pow_right (by omega) hn)
def Bz.add{x y:Int}{m n r:Nat}(h1:Bz x m)(h2:Bz y n)(hm:m<r)(hn:n<r):Bz (x+y) r:=by
 obtain⟨r,rfl⟩:∃q,r=q+1:=⟨r-1,by omega⟩;have a:=h1.mono (show m<=r by omega);have b:=h2.mono (show n<=r by omega);unfold Bz at *;have:=Int.natAbs_add_le x y;rw[pow_succ];omega
def Bz.neg{x:Int}{m:Nat}(h:Bz x m):Bz (-x) m:=by unfold Bz at *;rw[Int.natAbs_neg];exact h
def Bz.zero{m:Nat}:Bz 0 m:=zero_le _
def Bz.one{m:Nat}:Bz 1 m:=one_le_two_pow
def Bz.sub{x y:Int}{m n r:Nat}(h1:Bz x m)(h2:Bz y n)(hm:m<r)(hn:n<r):Bz (x-y) r:=by rw[Int.sub_eq_add_neg];exact h1.add h2.neg hm hn
structure Sy.Ok(p:Sy):Prop where
 a:0<p.A
 b:0<p.B
 c:0<=p.C
 s:p.A+p.B+p.C<=27
 k:1<=p.k/\p.k<=6
 l:1<=p.l/\p.l<=6
 g:0<=p.g/\p.g<=1
 q:0<=p.q/\p.q<=1
section
variable{p:Sy}
def pw{x:Int}(h0:0<x)(h:x<=27){m:Nat}(hm:m<=12):0<x^m/\Bz (x^m) 60:=by
 refine⟨Int.pow_pos h0,?_⟩;unfold Bz;rw[Int.natAbs_pow];exact le_trans (pow_le_pow_left (show x.natAbs<=27 by omega) m) (le_trans (pow_le_pow_right (by omega) hm) (by decide))
theorem G_nn{s a:Int}(hs:0<s)(ha:0<a):∀m,0<=GJ.G s a m/\(1<=m->0<GJ.G s a m)
 |0=>⟨Int.le_refl _,λh=>by omega⟩
 |m+1=>by
  have h:=(G_nn hs ha m).1;have h2:0<s^m:=Int.pow_pos hs;have h3:=Int.mul_nonneg (Int.le_of_lt ha) h;have:0<GJ.G s a (m+1):=by show 0<a*GJ.G s a m+s^m;omega
  exact⟨Int.le_of_lt this,λ_=>this⟩
def G_b{s a c:Int}(h:s=a+c)(ha:0<a)(hc:0<c)(hs:s<=27){m:Nat}(hm:m<=12):Bz (GJ.G s a m) 60:=by
 have h1:=G_s h m;have h2:=(G_nn (show 0<s by omega) ha m).1;have h3:=(pw ha (show a<=27 by omega) hm).1;have h4:=(pw (show 0<s by omega) hs hm).2;have h5:GJ.G s a m<=c*GJ.G s a m:=by
  have:=Int.mul_le_mul_of_nonneg_right (show(1:Int)<=c by omega) h2;omega
 unfold Bz at *;omega
def Sy.Ok.sp(h:p.Ok):0<p.s:=by have:=h.a;have:=h.b;have:=h.c;show 0<p.A+p.B+p.C;omega
def Sy.Ok.aA(h:p.Ok){m:Nat}(hm:m<=12):0<p.A^m/\Bz (p.A^m) 60:=pw h.a (show p.A<=27 by have:=h.s;have:=h.b;have:=h.c;omega) hm
def Sy.Ok.bB(h:p.Ok){m:Nat}(hm:m<=12):0<p.B^m/\Bz (p.B^m) 60:=pw h.b (show p.B<=27 by have:=h.s;have:=h.a;have:=h.c;omega) hm
def Sy.Ok.ss(h:p.Ok){m:Nat}(hm:m<=12):0<p.s^m/\Bz (p.s^m) 60:=pw h.sp h.s hm
def Sy.Ok.gg(h:p.Ok){m:Nat}(hm:m<=12):Bz (p.G m) 60:=G_b (c:=p.B+p.C) (by show p.A+p.B+p.C=_;omega) h.a (by have:=h.b;have:=h.c;omega) h.s hm
def Sy.Ok.hh(h:p.Ok){m:Nat}(hm:m<=12):Bz (p.H m) 60:=G_b (c:=p.A+p.C) (by show p.A+p.B+p.C=_;omega) h.b (by have:=h.a;have:=h.c;omega) h.s hm
def Sy.Ok.ee(h:p.Ok){m t:Nat}(hm:m<=12)(ht:t<=12):Bz (p.E m t) 121:=((h.bB ht).2.mul (h.gg hm)).add ((h.aA hm).2.mul (h.hh ht)) (by omega) (by omega)
def Sy.Ok.ep(h:p.Ok){m t:Nat}(ht:1<=t):0<p.E m t:=by
 have h1:=Int.mul_nonneg (Int.le_of_lt (show 0<p.B^t from Int.pow_pos h.b)) (G_nn h.sp h.a m).1;have h2:=Int.mul_pos (show 0<p.A^m from Int.pow_pos h.a) ((G_nn h.sp h.b t).2 ht);unfold Sy.E;exact Int.add_pos_of_nonneg_of_pos h1 h2
def Sy.Ok.gb(h:p.Ok):Bz p.g 0:=by have:=h.g;unfold Bz;omega
def Sy.Ok.qb(h:p.Ok):Bz p.q 0:=by have:=h.q;unfold Bz;omega
def Sy.Ok.sb(h:p.Ok):Bz p.s 5:=by have:0<p.A+p.B+p.C:=h.sp;have:=h.s;show(p.A+p.B+p.C).natAbs<=2^5;omega
def vec(h:p.Ok){j x:Nat}(hj:j<p.n)(hx:j<=x)(hn:x<=p.n):∃(U:Nat->Int) (D:Int),0<D/\Bz D 121/\U x=D/\(∀y,j<=y->y<=p.n->y≠x->U y=0)/\(∀i,i<j->p.L i U=0)/\(∀y,y<=p.n->Bz (U y) 250)/\(x=j->0<p.L j U):=by
 have hk:=h.k;have hl:=h.l;have en:p.n=p.k+p.l-1:=rfl;by_cases c:j<p.k
 ·have dp:0<p.E j 1:=h.ep (by omega)
  have db:Bz (p.E j 1) 121:=h.ee (by omega) (by omega);by_cases c1:x=j
  ·subst c1
   refine⟨V1 p x,p.E x 1,dp,db,by unfold V1;rw[if_pos (by omega),sub_self,Int.pow_zero,Int.one_mul],λy a b c=>by unfold V1;rw[if_neg (by omega)],λi hi=>V1_ok c hl.1 hi,λy hy=>?_,λ_=>by rw[V1_piv c hl.1];exact h.ep (by omega)⟩;unfold V1;split
   ·exact((h.aA (by omega)).2.mul (h.ee (by omega) (by omega))).mono (by omega)
   ·exact .zero
  ·have v2:∀{c':Int},Bz c' 60->(c'=p.B/\x=p.k/\1<p.l)\/(c'=-(p.s*p.q)/\x=p.n)->∃(U:Nat->Int) (D:Int),0<D/\Bz D 121/\U x=D/\(∀y,j<=y->y<=p.n->y≠x->U y=0)/\(∀i,i<j->p.L i U=0)/\(∀y,y<=p.n->Bz (U y) 250)/\(x=j->0<p.L j U):=λ{c'} hb hc=>by
    refine⟨V2 p c' x j,p.E j 1,dp,db,by unfold V2;rw[if_neg (by omega),if_pos rfl],λy a b c=>by unfold V2;rw[if_neg (by omega),if_neg c],λi hi=>V2_ok c hl.1 hi hc,λy hy=>?_,λe=>absurd e c1⟩;unfold V2;split
    ·exact(((h.gg (by omega)).mul (h.ss (by omega)).2).mul hb).mono (by omega)
    ·split
     ·exact db.mono (by omega)
     ·exact .zero
   by_cases c2:x=p.n
   ·exact v2 ((h.sb.mul h.qb).neg.mono (by omega)) (.inr ⟨rfl,c2⟩)
   ·by_cases c3:x=p.k
    ·exact v2 ((Int.pow_one p.B)▸(h.bB (m:=1) (by omega)).2) (.inl ⟨rfl,c3,by omega⟩)
    ·refine⟨Zu x,1,by omega,.one,if_pos rfl,λy a b c=>if_neg c,λi hi=>Zu_ok hk.1 hl.1 hi (by omega) c2 (λe=>absurd e c3),λy hy=>?_,λe=>absurd e c1⟩
     unfold Zu;split
     ·exact .one
     ·exact .zero
 ·obtain⟨t,rfl⟩:∃t,j=p.k+t:=⟨j-p.k,by omega⟩
  have ht:t+1<p.l:=by omega
  have dp:0<p.E p.k (t+1):=h.ep (by omega);have db:Bz (p.E p.k (t+1)) 121:=h.ee (by omega) (by omega);by_cases c1:x=p.k+t
  ·subst c1
   refine⟨W1 p t,p.E p.k (t+1),dp,db,by rw[W1_b hk.1 (le_refl t),sub_self,Int.pow_zero,Int.one_mul],λy a b c=>by unfold W1;rw[if_neg (by omega),if_neg (by omega)],λi hi=>W1_ok hk.1 ht hi,λy hy=>?_,λ_=>by rw[W1_piv hk.1 ht];exact h.ep (by omega)⟩;unfold W1;split
   ·exact(((h.gg (by omega)).mul (h.ss (by omega)).2).mul (h.bB (by omega)).2).mono (by omega)
   ·split
    ·exact((h.bB (by omega)).2.mul (h.ee (by omega) (by omega))).mono (by omega)
    ·exact .zero
  ·by_cases c2:x=p.n
   ·subst c2
    refine⟨W3 p t,p.E p.k (t+1),dp,db,W3_n hk.1 ht,λy a b c=>by unfold W3;rw[if_neg (by omega),if_neg (by omega),if_neg c],λi hi=>W3_ok hk.1 ht hi,λy hy=>?_,λe=>absurd e c1⟩;unfold W3;split
    ·exact((((h.gb.mul (h.aA (by omega)).2).mul (h.ee (by omega) (by omega))).add (((h.qb.mul (h.ss (by omega)).2).mul (h.gg (by omega))).mul (h.hh (by omega))) (r:=200) (by omega) (by omega)).neg).mono (by omega)
    ·split
     ·exact((((h.hh (by omega)).mul (h.ss (by omega)).2).mul (((h.aA (by omega)).2.mul h.gb).add ((h.sb.mul h.qb).mul (h.gg (by omega))) (r:=100) (by omega) (by omega))).neg).mono (by omega)
     ·split
      ·exact db.mono (by omega)
      ·exact .zero
   ·refine⟨Zu x,1,by omega,.one,if_pos rfl,λy a b c=>if_neg c,λi hi=>Zu_ok hk.1 hl.1 hi (by omega) c2 (λe=>by omega),λy hy=>?_,λe=>absurd e c1⟩
    unfold Zu;split
    ·exact .one
    ·exact .zero
def L_b(h:p.Ok){U:Nat->Int}(hU:∀y,y<=p.n->Bz (U y) 250){i:Nat}(hi:i<p.n):Bz (p.L i U) 270:=by
 have hk:=h.k;have hl:=h.l;have en:p.n=p.k+p.l-1:=rfl;have av:∀m,m<=p.k->Bz (p.av U m) 250:=λm hm=>by
  unfold Sy.av;split
  ·exact hU m (by omega)
  ·have:=(h.gb.mul (hU p.n (le_refl _))).neg
   rwa [zero_add]at this
 have bv:∀m,1<=m->Bz (p.bv U m) 250:=λm hm=>by
  unfold Sy.bv;split
  ·exact hU _ (by omega)
  ·exact .zero
 have hA:Bz p.A 60:=(Int.pow_one p.A)▸(h.aA (m:=1) (by omega)).2;have a5:Bz p.A 5:=by have:=h.a;have:=h.b;have:=h.c;have:=h.s;unfold Bz;omega
 have b5:Bz p.B 5:=by have:=h.a;have:=h.b;have:=h.c;have:=h.s;unfold Bz;omega
 have c5:Bz p.C 5:=by have:=h.a;have:=h.b;have:=h.c;have:=h.s;unfold Bz;omega
 have key:∀x y:Int,Bz x 250->Bz y 250->Bz (p.s*U i-p.A*x-p.B*y-p.C*U 0+p.s*p.q*U p.n) 270:=λx y hx hy =>
  ((((h.sb.mul (hU i (by omega))).sub (a5.mul hx) (r:=260) (by omega) (by omega)).sub (b5.mul hy) (r:=261) (by omega) (by omega)).sub (c5.mul (hU 0 (by omega))) (r:=262) (by omega) (by omega)).add ((h.sb.mul h.qb).mul (hU p.n (le_refl _))) (by omega) (by omega)
 unfold Sy.L;split
 ·exact key _ _ (av _ (by omega)) (bv _ (by omega))
 ·exact key _ _ (av _ (by omega)) (bv _ (by omega))
def Bq(x:Rat)(n:Nat):Prop:=x.num.natAbs<=2^n/\x.den<=2^n
theorem zGf(r:Nat->Rat)(U:Nat->Int)(D:Int):∀m,dot r (λy=>(U y:Rat)/(D:Rat)) m=dot r (λy=>(U y:Rat)) m/(D:Rat)
 |0=>by simp only[dot];grind|m+1=>by simp only[dot];rw[zGf r U D m];grind
def Bq_of{x:Rat}{a b:Int}{n:Nat}(hb:0<b)(h:x=(a:Rat)/(b:Rat))(h1:Bz a n)(h2:Bz b n):Bq x n:=by
 have e:x=Rat.divInt a b:=by rw[h,Rat.divInt_eq_div]
 obtain⟨d,rfl⟩:∃d:Nat,b=d:=⟨b.toNat,by omega⟩;have hd:d≠0:=by omega
 have e2:x=mkRat a d:=by rw[e];rfl
 rw[<- Rat.normalize_eq_mkRat hd,Rat.normalize_eq hd]at e2;subst e2;unfold Bz at *;refine⟨le_trans (Int.natAbs_ediv_le_natAbs _ _) h1,le_trans (div_le_self _ _) ?_⟩;exact h2
def z_div(x:Rat):((0:Int):Rat)/x=0:=by
 have:((0:Int):Rat)=0:=by simp
 rw[this];grind
def rc{a:Int}(h:0<a):(a:Rat)≠0:=by
 intro e;have:a=0:=by exact_mod_cast e
 omega
def Rows(p:Sy)(M:Nat->Nat->Rat):Prop:=∀i,i<p.n->∀U:Nat->Int,(p.s:Rat)*dot (M i) (λy=>(U y:Rat)) (p.n+1)=((p.L i U:Int):Rat)
variable{M:Nat->Nat->Rat}
def dot_L(h:p.Ok)(hM:Rows p M){i:Nat}(hi:i<p.n)(U:Nat->Int){D:Int}(hD:0<D):dot (M i) (λy=>(U y:Rat)/(D:Rat)) (p.n+1)=((p.L i U:Int):Rat)/((p.s*D:Int):Rat):=by
 have h1:=hM i hi U;have h2:=rc h.sp;have h3:=rc hD;rw[zGf,<- h1,Rat.intCast_mul]
 grind
def zA6(h:p.Ok)(hM:Rows p M){j x:Nat}(hp:∀i,i<j->stg M i i i≠0)(hx:j<=x)(hn:x<=p.n)(hj:j<=p.n){U:Nat->Int}{D:Int}(hD:0<D)(h2:U x=D)(h3:∀y,j<=y->y<=p.n->y≠x->U y=0)(h0:∀i,i<j->p.L i U=0){i:Nat}(hi:i<p.n):stg M j i x=if i<j then((-U i:Int):Rat)/(D:Rat)else((p.L i U:Int):Rat)/((p.s*D:Int):Rat):=by
 have h3':=rc hD;rw[entry (u:=λy=>(U y:Rat)/(D:Rat)) (m:=p.n+1) hp hx (by omega) (by show(U x:Rat)/D=1;rw[h2];grind) (λy a b c=>by show(U y:Rat)/D=0;rw[h3 y a (by omega) c,z_div]) (λi hi=>by rw[dot_L h hM (by omega) U hD,h0 i hi,z_div]) i,dot_L h hM hi U hD];split
 ·rw[Rat.intCast_neg];grind
 ·rfl
def pq{a b:Int}(ha:0<a)(hb:0<b):0<((a:Rat)/(b:Rat)).num:=by
 have h1:(0:Rat)<a:=by exact_mod_cast ha
 have h2:(0:Rat)<b:=by exact_mod_cast hb
 have h3:0<(a:Rat)/(b:Rat):=by rw[Rat.div_def];exact Rat.mul_pos h1 (Rat.inv_pos.mpr h2)
 have h4:0<=((a:Rat)/(b:Rat)).num:=Rat.num_nonneg.mpr (Rat.le_of_lt h3);have h5:((a:Rat)/(b:Rat)).num≠0:=λe=>by
  rw[Rat.num_eq_zero]at e;rw[e]at h3;exact absurd h3 (Rat.lt_irrefl)
 omega
def pivs(h:p.Ok)(hM:Rows p M):∀j,j<p.n->stg M j j j≠0:=by
 intro j
 induction j using Nat.strongRecOn with
 |ind j ih =>
  intro hj;obtain⟨U,D,d1,d2,u1,u2,u3,u4,u5⟩:=vec h hj (le_refl j) (by omega);rw[zA6 h hM (λi hi=>ih i hi (by omega)) (le_refl j) (by omega) (by omega) d1 u1 u2 u3 hj,if_neg (by omega)];have a:=rc (u5 rfl);have b:=rc (Int.mul_pos h.sp d1)
  grind
def stg_b(h:p.Ok)(hM:Rows p M){j:Nat}(hj:j<p.n){i x:Nat}(hi:i<p.n)(hx:x<=p.n):Bq (stg M j i x) 300:=by
 by_cases c:x<j
 ·rw[(inv (m:=p.n+1) j λi hi=>pivs h hM i (by omega)).1 i x c]
  split
  ·exact⟨one_le_two_pow,one_le_two_pow⟩
  ·exact⟨zero_le _,one_le_two_pow⟩
 ·obtain⟨U,D,d1,d2,u1,u2,u3,u4,u5⟩:=vec h hj (show j<=x by omega) hx
  rw[zA6 h hM (λi hi=>pivs h hM i (by omega)) (show j<=x by omega) hx (by omega) d1 u1 u2 u3 hi];split
  ·exact Bq_of d1 rfl ((u4 i (by omega)).neg.mono (by omega)) (d2.mono (by omega))
  ·exact Bq_of (Int.mul_pos h.sp d1) rfl ((L_b h u4 hi).mono (by omega)) ((h.sb.mul d2).mono (by omega))
def piv_num(h:p.Ok)(hM:Rows p M){j:Nat}(hj:j<p.n):0<(stg M j j j).num:=by
 obtain⟨U,D,d1,d2,u1,u2,u3,u4,u5⟩:=vec h hj (le_refl j) (by omega);rw[zA6 h hM (λi hi=>pivs h hM i (by omega)) (le_refl j) (by omega) (by omega) d1 u1 u2 u3 hj,if_neg (by omega)];exact pq (u5 rfl) (Int.mul_pos h.sp d1)
def found(h:p.Ok)(hM:Rows p M){U:Nat->Int}{D:Int}(hD:0<D)(hn:U p.n=-D)(h0:∀i,i<p.n->p.L i U=0){i:Nat}(hi:i<p.n):stg M p.n i p.n=(U i:Rat)/(D:Rat):=by
 have neg:∀i,p.L i (λy=>-U y)=-p.L i U:=λi=>by
  have a1:∀m,p.av (λy=>-U y) m=-p.av U m:=λm=>by unfold Sy.av;split<;>grind
  have b1:∀m,p.bv (λy=>-U y) m=-p.bv U m:=λm=>by unfold Sy.bv;split<;>grind
  unfold Sy.L;rw[a1,a1,b1,b1];split<;>grind
 rw[zA6 (U:=λy=>-U y) h hM (λi hi=>pivs h hM i (by omega)) (le_refl _) (le_refl _) (le_refl _) hD (by show -U p.n=D;omega) (λy a b c=>absurd (Nat.le_antisymm b a) c) (λi hi=>by rw[neg,h0 i hi];rfl) hi,if_pos hi,Int.neg_neg]
end
end GJ
namespace My
open PySem L2 DV SM
def isFn:D->Bool
 | .fn _=>true| .exn _ _=>true| .dct _ _=>true|_=>false
def isW:D->Bool
 | .int _=>true|_=>false
def ZF(d:D)(h:isFn d=false):yX [.v d]=.ok (.v (.bl (isW d)),[.e]):=by
 cases d<;>first|rfl|(cases h)
def e_iw(h:lo<=i/\i<=hi):zb [.v (.int i),.v (.int lo),.v (.int hi)]=.ok (.v (.bl true),[.e,.e,.e]) :=
 ye (zU (yH (zA3 (ze (F:=yX) rfl (zA rfl) (ZF (.int i) rfl)) (zDR (zA rfl) (zA rfl) (decide_eq_true h.1) (zA rfl) (decide_eq_true h.2))))) rfl
def nxt(s:Int):Int:=((s+7919)%2147483647*((s+7919)%2147483647)+48271*((s+7919)%2147483647)+12345)%2147483629
def zAB(s:Int):wd [.v (.int s)]=.ok (.v (.int (nxt s)),[.e]):=by
 have h1:0<=(s+7919)%2147483647:=Int.emod_nonneg _ (by decide);have h2:(s+7919)%2147483647<2147483647:=Int.emod_lt_of_pos _ (by decide);have h3:-18446744073709551616<(s+7919)%2147483647/\(s+7919)%2147483647<18446744073709551616:=by omega
 simp[wd,J7,Zl,fnM,Y9,J5,Wh,Y8,zGN,YU,Wf,sRet,sIf,zBm,zEj,sSet,vF,R.slot,zBl,eOr,zEW,wT,yE,zCU,eC,zM,fiF,fiX,R.d,zJ,wv,Cp.b,Cp.f,Op2.f,Bi.f,Ty.s,Wk,Wi,Wj,Wl,Wm,zBk,Zv,WP,tT,WN,eCB,WQ,zEZ,zEb,zEc,GK,zBb,Tg.m,eqG,eqF,neG,neF,maxG,zEf,zAe,QO,QN,QO,zF6,zCW,nxt,h3]
def Pen(p:List D):Prop:=∃l f s:Int,p=[.int l,.int f,.int s]
def wo(p:List D)(hp:Pen p)(m:Int)(h0:0<m)(h1:m<1073741824):∃r p',zZ [.par p,.v (.int m)]=.ok (.v (.int r),[.par p',.e])/\0<=r/\r<m/\Pen p':=by
 obtain⟨l,f,s,rfl⟩:=hp;by_cases hf:f=1
 ·refine⟨l%m,[.int (l/m),.int f,.int s],?_,Int.emod_nonneg _ (by omega),Int.emod_lt_of_pos _ h0,_,_,_,rfl⟩
  simp[zZ,wf,JQ,fnM,uc,Y9,J5,G1,Wh,Y8,zDE,zGN,YU,Wf,vw,Gz,jm,Qs,JI,zBc,G0,sRet,sIf,zBm,zEj,sSet,vF,R.slot,zBl,eOr,zEW,wT,yE,zCU,eC,zM,fiF,fiX,R.d,zJ,wv,Cp.b,Cp.f,Op2.f,Bi.f,Ty.s,Wk,Wi,Wj,Wl,Wm,zBk,Zv,WP,tT,WN,eCB,WQ,zEZ,zEb,zEc,GK,zBb,Tg.m,eqG,eqF,neG,neF,maxG,zEf,zAe,QO,zD3,jB,ixS,atI,ixN,eqF,hf,zF6,zBW,zCW,h0,h1,Za,Slot.list?,Slot.put]
 ·refine⟨nxt (nxt s+7)/64%m,[.int l,.int f,.int (nxt (nxt s+7))],?_,Int.emod_nonneg _ (by omega),Int.emod_lt_of_pos _ h0,_,_,_,rfl⟩
  simp[zZ,wf,JQ,fnM,uc,Y9,J5,G1,Wh,Y8,zDE,zGN,YU,Wf,vw,Gz,jm,Qs,JI,zBc,G0,sRet,sIf,zBm,zEj,sSet,vF,R.slot,zBl,eOr,zEW,wT,yE,zCU,eC,zM,fiF,fiX,R.d,zJ,wv,Cp.b,Cp.f,Op2.f,Bi.f,Ty.s,Wk,Wi,Wj,Wl,Wm,zBk,Zv,WP,tT,WN,eCB,WQ,zEZ,zEb,zEc,GK,zBb,Tg.m,eqG,eqF,neG,neF,maxG,zEf,zAe,QO,zD3,jB,ixS,atI,ixN,eqF,hf,zF6,zBW,QN,zCW,h0,h1,Za,Slot.list?,Slot.put,zAB]
def GB(c:Int):∃p,yy [.v (.int c)]=.ok (.own p,[.e])/\Pen p:=by
 refine⟨[.int (if 0-c > c then 0-c else c),.int (if decide (10^18<=(if 0-c > c then 0-c else c))=true then 1 else 0),.int ((if 0-c > c then 0-c else c)%1000003)],?_,_,_,_,rfl⟩;simp[yy,we,Jp,fnM,Y9,J5,Wh,Y8,zGN,YU,Wf,vw,Wg,zDB,JI,G0,Qq,sRet,sIf,zBm,zEj,sSet,vF,R.slot,zBl,eOr,zEW,wT,yE,zCU,eC,zM,fiF,fiX,R.d,zJ,wv,Cp.b,Cp.f,Op2.f,Bi.f,Ty.s,Wk,Wi,Wj,Wl,Wm,zBk,Zv,WP,tT,WN,eCB,WQ,zEZ,zEb,zEc,GK,zBb,Tg.m,eqG,eqF,neG,neF,maxG,zEf,zAe,QO,zEf,subD,zCY,intF,geD,powD,zF6,zCW,cap]
def vV(ns:List Int):∃c,yj [.v (.l (ns.map .int)),.v (.int 0)]=.ok (.v (.int c),[.e,.e]):=by
 cases ns with
 |nil=>exact⟨0,rfl⟩
 |cons n ns => 
  refine⟨n,?_⟩;have:(0:Int)<ns.length+1:=by omega
  simp[yj,j8,JP,fnM,uc,Y9,J5,G1,Y8,zGN,YU,vw,Wg,zFG,zDB,JI,zBc,G0,Qq,sRet,sIf,zBm,zEj,sSet,vF,R.slot,zBl,eOr,zEW,wT,yE,zCU,eC,zM,fiF,fiX,R.d,zJ,wv,Cp.b,Cp.f,Op2.f,Bi.f,Ty.s,Wk,Wi,Wj,Wl,Wm,zBk,Zv,WP,tT,WN,eCB,WQ,zEZ,zEb,zEc,GK,zBb,Tg.m,eqG,eqF,neG,neF,maxG,zEf,zAe,QO,Gf,ltD,zCY,ixD,atI,ixN,this]
abbrev O1:List DV.Slot:=[.e]
abbrev O2:List DV.Slot:=[.e,.e]
abbrev Ym(die:List Nat):D:=.t (N die)
def jU(a b:Nat):QN (.int a) (.int b)=some (.v (.int ((a+b:Nat):Int))):=by simp[QN]
def wq(die:List Nat):Gf [Ym die]=some (.v (.int die.length)):=by simp only[Gf,Zz]
structure Mt(die:List Nat)(s k o l:Nat):Prop where
 d:Die die
 hs:s<die.length
 ho:o<die.length
 ne:s≠o
 hk:1<=k/\k<=6
 hl:1<=l/\l<=6
abbrev yk(die:List Nat)(s k o l:Nat):D:=.t [Ym die,.int (s:Nat),.int (k:Nat),.int (o:Nat),.int (l:Nat)]
def all_t{ds:List D}:allD [.l (ds.map λ_=>D.bl true)]=some (.v (.bl true)):=zDa (f:=λ_=>true) (by simp)
def e_dg(h:Die die):wH [.v (Ym die)]=.ok (.v (.bl true),O1):=by
 have hl:2<=die.length/\die.length<=3:=by rcases h.1 with e|e<;>omega
 exact ye (zI (jT (zDS (jo (t_E (zBp (zA rfl) rfl rfl)) rfl) (jo (t_E (zDR zAy (jr (zB (zA rfl) zG) (wq die)) (decide_eq_true (by omega)) zAy (decide_eq_true (by omega)))) rfl)) jg) (zU (yH (jr (zB (jp (vs:=[]) (λ_=>.bl true) (i_T (zA rfl) rfl) rfl (λd hd=>by
  obtain⟨n,hn,rfl⟩:=zFS hd;have:=h.2 n hn;exact⟨_,yi (F:=zb) rfl (zA rfl) zAy zAy (e_iw (by omega)),rfl⟩) (by rw[Zz];simp only[cap];omega) rfl) zG) all_t)))) rfl
def zAC{die:List Nat}{s k o l:Nat}(h:Mt die s k o l):yQ [.v (yk die s k o l)]=.ok (.v .non,O1):=by
 have h1:=h.hs;have h2:=h.ho;have h3:=h.hk;have h4:=h.hl;have two:∀{a b c:Nat},(.int (c:Nat))∈[D.int (a:Nat),.int (b:Nat)]->c=a\/c=b:=λ{a b c} hx=>by
  simp only[mem_cons,not_mem_nil,or_false,D.int.injEq]at hx;omega
 have it:∀{a b:Nat} {d:D},d∈[D.int (a:Nat),.int (b:Nat)]->∃c:Nat,d=.int (c:Nat):=λ{a b d} hx=>by
  simp only[mem_cons,not_mem_nil,or_false]at hx;rcases hx with rfl|rfl<;>exact⟨_,rfl⟩
 have n1:=ne_int (s:Int) (o:Int);rw[decide_eq_false (by have:=h.ne;omega)]at n1;have e:jx [.v (yk die s k o l)]=.ok (.v (.bl true),O1) :=
  ye (zI (jT (zDS (jo (t_E (zBp (zA rfl) rfl rfl)) rfl) (t_E (yD (jr (zB (zA rfl) zG) rfl) x_c rfl))) jg) (zI (G9 (zA rfl) rfl) (zI (jT (jo (t_E (ze (F:=wH) rfl (zA rfl) (e_dg h.d))) rfl) jg) (zI (jT (jo (t_E (jr (zB (jp (ds:=[.int (s:Nat),.int (o:Nat)]) (vs:=[Ym die]) (λ_=>.bl true) (i_T (yG (zB (zA rfl) (zB (zA rfl) zG)) rfl zP) rfl) rfl (λd hd=>by
   obtain⟨c,rfl⟩:=it hd;have:=two hd;exact⟨_,yi (F:=zb) rfl (zA rfl) x_c (zq (jr (zB (zA rfl) zG) (wq die)) x_c rfl) (e_iw (by omega)),rfl⟩) zP rfl) zG) (all_t (ds:=[.int (s:Nat),.int (o:Nat)])))) rfl) jg) (zU (yH (zA3 (yD (zA rfl) (zA rfl) n1) (jr (zB (jp (ds:=[.int (k:Nat),.int (l:Nat)]) (vs:=[]) (λ_=>.bl true) (i_T (yG (zB (zA rfl) (zB (zA rfl) zG)) rfl zP) rfl) rfl (λd hd=>by
   obtain⟨c,rfl⟩:=it hd;have:=two hd;exact⟨_,yi (F:=zb) rfl (zA rfl) x_c zAy (e_iw (by omega)),rfl⟩) zP rfl) zG) (all_t (ds:=[.int (k:Nat),.int (l:Nat)])))))))))) rfl
 exact f_nx (zU (jT (jo (t_E (ze (F:=jx) rfl (zA rfl) e)) rfl) jg)) rfl
def SP(s:Nat)(n:Nat):List D:=(zK 1 n).map λd=>.t [.int (s:Nat),d]
def SL(s k o l:Nat):List D:=[.t [.non,.int 0]]++SP s (k-1)++SP o (l-1)
def QE(s n:Nat):(SP s n).length=n:=by rw[SP,length_map,jG]
def rng(hk:k<=6)(h:dE fs a E=.ok (.v (.int (k:Nat)),E)):dI fs (.iR2 (.cons (.c (.int 1)) (.cons a .nil))) E=.ok (zK 1 (k-1),E):=by
 have:=i_R2 (fs:=fs) (E:=E) (a:=.cons (.c (.int 1)) (.cons a .nil)) (zB x_c (zB h zG)) rfl rfl ⟨by decide,by decide⟩ ⟨by omega,by omega⟩;rw[show((k:Int)-1).toNat=k-1 by omega]at this;exact this
abbrev qI(n:Nat):DV.Slot:=.v (.int n)
def zFT(h:Mt die s k o l):jd [.v (yk die s k o l)]=.ok (.own (SL s k o l),O1):=by
 have hk:=h.hk;have hl:=h.hl;have c1:dE j6 (.comp 1 ["many"] ["sign"] [2] (.iR2 (.cons (.c (.int 1)) (.cons (.var 3) .nil))) (.n 0) .tTr (.t (.cons (.var 1) (.cons (.var 0) .nil)))) [.v (yk die s k o l),.v (Ym die),qI s,qI k,qI o,qI l,.e,.e]=.ok (.own (SP s (k-1)),[.v (yk die s k o l),.v (Ym die),qI s,qI k,qI o,qI l,.e,.e]) :=
  jp (ds:=zK 1 (k-1)) (vs:=[.int (s:Nat)]) (λd=>.t [.int (s:Nat),d]) (rng hk.2 (zA rfl)) rfl (λd _=>⟨_,yG (zB (zA rfl) (zB (zA rfl) zG)) rfl zP,rfl⟩) (by rw[jG];simp only[cap];omega) rfl
 have c2:dE j6 (.comp 1 ["many"] ["other"] [4] (.iR2 (.cons (.c (.int 1)) (.cons (.var 5) .nil))) (.n 0) .tTr (.t (.cons (.var 1) (.cons (.var 0) .nil)))) [.v (yk die s k o l),.v (Ym die),qI s,qI k,qI o,qI l,.own (SP s (k-1)),.e]=.ok (.own (SP o (l-1)),[.v (yk die s k o l),.v (Ym die),qI s,qI k,qI o,qI l,.own (SP s (k-1)),.e]) :=
  jp (ds:=zK 1 (l-1)) (vs:=[.int (o:Nat)]) (λd=>.t [.int (o:Nat),d]) (rng hl.2 (zA rfl)) rfl (λd _=>⟨_,yG (zB (zA rfl) (zB (zA rfl) zG)) rfl zP,rfl⟩) (by rw[jG];simp only[cap];omega) rfl
 have a1:=wn [D.t [.non,.int 0]] (SP s (k-1)) (by rw[QE];simp;omega);have a2:=wn ([D.t [.non,.int 0]]++SP s (k-1)) (SP o (l-1)) (by rw[length_append,QE,QE];simp;omega);exact ye (zI (Zq (ze (F:=yQ) rfl (zA rfl) (zAC h))) (zI (G9 (zA rfl) rfl) (zI (zw c1 rfl) (zI (zw c2 rfl) (zU (yH (zq (zq (Je (zB zAy zG) rfl wA) (jX rfl rfl) a1) (jX rfl rfl) a2))))))) rfl
def GC(p:List D)(hp:Pen p):∃die p',je [.par p]=.ok (.v (Ym die),[.par p'])/\Pen p'/\Die die:=by
 obtain⟨r1,p1,e1,l1,u1,hp1⟩:=wo p hp 3 (by decide) (by decide);have ht:∃t:Nat,ixD (.l [.int 1,.int 3,.int 9]) (.int r1)=some (.v (.int (t:Nat)))/\0<t/\t<=9:=by
  have:r1=0\/r1=1\/r1=2:=by omega
  rcases this with rfl|rfl|rfl
  ·exact⟨1,rfl,by decide,by decide⟩
  ·exact⟨3,rfl,by decide,by decide⟩
  ·exact⟨9,rfl,by decide,by decide⟩
 obtain⟨t,ht,t0,t1⟩:=ht;obtain⟨r2,p2,e2,l2,u2,hp2⟩:=wo p1 hp1 2 (by decide) (by decide);obtain⟨q2,rfl⟩:=Int.eq_ofNat_of_zero_le l2;obtain⟨res,E',h1,h2,s,p3,l,hE,hs,hp3,hl,hn⟩:=JJ (tg:=gN 0) (tt:=Zx) (el:=dE jK (.bin .add (.c (.int 1)) (.call 0 (.lend 1 (.ev (.var 2) .nil))))) (λk E acc=>acc.length=k/\∃s p l,E=[s,.par p,qI t]/\zz s=true/\Pen p/\acc=N l/\∀x∈l,1<=x/\x<=9) (DV.zK 0 (2+q2)) 0 [.e,.par p2,qI t] [] ⟨rfl,.e,p2,[],rfl,rfl,hp2,rfl,λx hx=>by cases hx⟩ (by rw[jG];simp only[length_nil,cap];omega)
  (λi d e E acc ⟨ha,s,p,l,hE,hs,hp,hl,hn⟩ hlt=>by
   obtain⟨r,p',e',l',u',hp'⟩:=wo p hp (t:Nat) (by omega) (by omega);obtain⟨r,rfl⟩:=Int.eq_ofNat_of_zero_le l';refine⟨[.v d,.par p,qI t],[.v d,.par p,qI t],.v (.int ((1+r:Nat):Int)),[.v d,.par p',qI t],?_,rfl,?_,by simp[ha],.v d,p',l++[1+r],rfl,rfl,hp',?_,?_⟩
   ·subst hE;cases s<;>first|rfl|(cases hs)
   ·exact zq x_c (jM rfl rfl (zA rfl) e' rfl) (jU 1 r)
   ·rw[hl,N_app];rfl
   ·intro x hx
    rcases mem_append.mp hx with hx|hx
    ·exact hn x hx
    ·simp at hx;omega)
 subst hE;have cp:dE jK (.comp 1 ["_law_sign"] ["_law_pen","_law_top"] [0,1] (.iR1 (.cons (.bin .add (.c (.int 2)) (.call 0 (.lend 0 (.ev (.c (.int 2)) .nil)))) .nil)) (.n 0) .tTr (.bin .add (.c (.int 1)) (.call 0 (.lend 1 (.ev (.var 2) .nil))))) [.par p1,qI t]=.ok (.own (N l),[.par p3,qI t]):=by
  have hi:=i_R1 (fs:=jK) (E:=[.par p1,qI t]) (E1:=[.par p2,qI t]) (a:=.cons (.bin .add (.c (.int 2)) (.call 0 (.lend 0 (.ev (.c (.int 2)) .nil)))) .nil) (zB (zq x_c (jM rfl rfl x_c e2 rfl) (jU 2 q2)) zG) (j:=((2+q2:Nat):Int)) rfl ⟨by omega,by omega⟩;rw[show(((2+q2:Nat):Int)).toNat=2+q2 by omega]at hi;simp only[zGN,YU,Wf,Wg,zFG,Y7,zDB,jm]at h1 ⊢;refine Y6 ?_;simp only[Tg.m,vx];rw[<- hl];simp[J4,hi,wV,Slot.list?,zM,h1,zg,zJ,Slot.put]
 have hl2:l.length=2+q2:=by
  have:=congrArg length hl;rw[Zz]at this;rw[<- this,h2,jG];omega
 refine⟨l,p3,?_,hp3,⟨by omega,hn⟩⟩;exact ye (zI (zw (yh (Je (zB x_c (zB x_c (zB x_c zG))) rfl (by simp[cap])) (jM rfl rfl x_c e1 rfl) ht) rfl) (zU (yH (jr (zB cp zG) rfl)))) rfl
def zFU{fs:List FI}{E E1:zV}{k i:Nat}{F:MF}{r':R}{p p':List D}(h0:fiF fs k=F)(hE:E[i]?=some (.par p))(h2:F [.par p]=.ok (r',[.par p']))(h3:E.set i (.par p')=E1):dE fs (.call k (.lend i .nil)) E=.ok (r',E1):=by
 subst h0 h3;have hi:i<E.length:=(qG.mp hE).1;have hs:(E.set i .e)[i]?=some .e:=by simp[hi]
 have hp:(E.set i (.par p))[i]?=some (.par p):=by simp[hi]
 simp only[jm,ub,JI,wT,yE,hE,jB,Bool.false_eq_true,if_false,zM,Slot.list?,h2,zJ,hs,hp,Slot.put,set_set]
def zFV{fs:List FI}{E E1:zV}{k i:Nat}{F:MF}{r':R}{p p':List D}(h0:fiF fs k=F)(hE:E[i]?=some (.own p))(h2:F [.par p]=.ok (r',[.par p']))(h3:E.set i (.own p')=E1):dE fs (.call k (.lend i .nil)) E=.ok (r',E1):=by
 subst h0 h3;have hi:i<E.length:=(qG.mp hE).1;have hs:(E.set i .e)[i]?=some .e:=by simp[hi]
 simp only[jm,ub,JI,wT,yE,hE,jB,Bool.false_eq_true,if_false,zM,Slot.list?,h2,zJ,hs,Slot.put,set_set]
def zAD(a b:Nat)(h:b≠0):zF6 (.int a) (.int b)=some (.v (.int ((a%b:Nat):Int))):=by
 have:(0:Int)<b:=by omega
 simp only[zF6,zCW];rw[if_pos (decide_eq_true this)];rfl
def jE(p:List D)(hp:Pen p)(m:Nat)(h0:0<m)(h1:m<1000):∃(r:Nat) (p':List D),zZ [.par p,qI m]=.ok (.v (.int (r:Nat)),[.par p',.e])/\r<m/\Pen p':=by
 obtain⟨r,p',e,l,u,h⟩:=wo p hp m (by omega) (by omega);obtain⟨r,rfl⟩:=Int.eq_ofNat_of_zero_le l;exact⟨r,p',e,by omega,h⟩
def zBe(p:List D)(hp:Pen p):∃die s k o l p',yz [.par p]=.ok (.v (yk die s k o l),[.par p'])/\Pen p'/\Mt die s k o l:=by
 obtain⟨die,p1,e1,hp1,hd⟩:=GC p hp;have hl:2<=die.length/\die.length<=3:=by rcases hd.1 with e|e<;>omega
 obtain⟨s,p2,e2,u2,hp2⟩:=jE p1 hp1 die.length (by omega) (by omega);obtain⟨r,p3,e3,u3,hp3⟩:=jE p2 hp2 (die.length-1) (by omega) (by omega);obtain⟨a,p4,e4,u4,hp4⟩:=jE p3 hp3 6 (by decide) (by decide);obtain⟨b,p5,e5,u5,hp5⟩:=jE p4 hp4 6 (by decide) (by decide);have sb:subD (.int (die.length:Nat)) (.int 1)=some (.v (.int ((die.length-1:Nat):Int))):=by
  rw[show((die.length-1:Nat):Int)=(die.length:Int)-1 by omega];rfl
 refine⟨die,s,1+a,(s+1+r)%die.length,1+b,p5,?_,hp5,hd,u2,mod_lt _ (by omega),?_,by omega,by omega⟩
 ·have x3:dE wx (.call 0 (.lend 0 (.ev (.bin .sub (.cB .len (.cons (.var 1) .nil)) (.c (.int 1))) .nil))) [.par p2,.v (Ym die),qI s,.e]=.ok (.v (.int (r:Nat)),[.par p3,.v (Ym die),qI s,.e]):=jM (F:=zZ) rfl rfl (zq (jr (zB (zA rfl) zG) (wq die)) x_c sb) e3 rfl
  exact ye (zI (zw (zFU (F:=je) rfl rfl e1 rfl) rfl) (zI (zw (jM (F:=zZ) rfl rfl (jr (zB (zA rfl) zG) (wq die)) e2 rfl) rfl) (zI (zw (zq (zq (zq (zA rfl) x_c (jU s 1)) x3 (jU (s+1) r)) (jr (zB (zA rfl) zG) (wq die)) (zAD (s+1+r) die.length (by omega))) rfl) (zU (yH (yG (zB (zA rfl) (zB (zA rfl) (zB (zq x_c (jM (F:=zZ) rfl rfl x_c e4 rfl) (jU 1 a)) (zB (zA rfl) (zB (zq x_c (jM (F:=zZ) rfl rfl x_c e5 rfl) (jU 1 b)) zG))))) rfl (by simp only[length_cons,length_nil,cap];omega))))))) rfl
 ·rcases hd.1 with e|e<;>rw[e]at u2 u3 ⊢<;>omega
section
variable{fs:List FI}{E E1 E2 E3 E4:zV}
def Q9{t b:_}{p:Fl×zV}(h:DV.whN (dT fs t) (dB fs b) 1000000 E=.ok p):dS fs (.sWhile t b) E=.ok p:=by
 simp only[G2];exact ua (by simp only[DV.sWhile];exact h)
end
def zAE(t:Int):absG [.int t]=some (.v (.int (t.natAbs:Nat))):=by
 have:(if t<0 then -t else t)=((t.natAbs:Nat):Int):=by split<;>omega
 simp only[absG,this]
def zDe(t:Nat):absG [.int t]=some (.v (.int (t:Nat))):=by
 rw[zAE];simp
def Yo{i lo hi:Int}(h:lo<=i/\i<=hi):yw [.v (.int i),.v (.int lo),.v (.int hi)]=.ok (.v .non,[.e,.e,.e]) :=
 f_nx (zU (jT (jo (t_E (yi rfl (zA rfl) (zA rfl) (zA rfl) (e_iw h))) rfl) jg)) rfl
def zBf{die:List Nat}(h:Die die):Jd [.v (Ym die)]=.ok (.v .non,[.e]):=f_nx (zU (jT (jo (t_E (ze rfl (zA rfl) (e_dg h))) rfl) jg)) rfl
def zAF{i m:Int}(h:0<=i/\i<=m-1):wc [.v (.int i),.v (.int m)]=.ok (.v .non,[.e,.e]) :=
 f_nx (zU (Zq (yi rfl (zA rfl) x_c (zq (zA rfl) x_c rfl) (Yo h)))) rfl
def v8:Big=2^4000:=by unfold Big;exact rfl
def ZG{i j:Int}(h1:i.natAbs<Big)(h2:j.natAbs<Big):zAe (.int i) (.int j)=some (.v (.int (i*j))):=by
 unfold zAe;have:QO (.int i) (.int j)=some (.v (.int (i*j))):=by
  simp only[QO];exact if_pos (.inr ⟨h1,h2⟩)
 rw[this]
def Yp{a b:Nat}(h1:a<Big)(h2:b<Big):zAe (.int (a:Nat)) (.int (b:Nat))=some (.v (.int ((a*b:Nat):Int))):=by
 rw[ZG (by rw[Int.natAbs_natCast];exact h1) (by rw[Int.natAbs_natCast];exact h2),Int.natCast_mul]
def Z9(a:Int)(b:Nat)(h:0<b)(h2:b<Big):zBW (.int a) (.int b)=some (.v (.int (a/b))):=by
 simp only[zBW,zCW];rw[if_pos (decide_eq_true ⟨by omega,.inr (by rw[Int.natAbs_natCast];exact h2)⟩)]
def zA7(b g:Nat):((b:Int)/(g:Int))=((b/g:Nat):Int):=by simp
def zGg(t:Int)(b:Nat)(hb:b<Big):zo [.v (.int t),.v (.int b)]=.ok (.v (.int (t.natAbs.gcd b:Nat)),[.e,.e]):=by
 rw[v8]at hb;have w:=u7 (c:=dT ym (.tE (.cmp .ne (.var 1) (.c (.int 0))))) (bd:=dB ym jW) (λa b=>[qI a,qI b])
  (λa b=>t_E (yD (zA rfl) x_c (by
   show neG (.int (b:Int)) (.int 0)=_
   rw[ne_int];by_cases z:b=0
   ·subst z;rfl
   ·have:¬(b:Int)=0:=by omega
    simp[z])))
  (λa b h=>zU (zDT (zB (zA rfl) (zB (zq (zA rfl) (zA rfl) (zAD a b h)) zG)) rfl)) 4000 1000000 t.natAbs b hb (by decide)
 exact ye (zI (zDT (zB (jr (zB (zA rfl) zG) (zAE t)) (zB (jr (zB (zA rfl) zG) (zDe b)) zG)) rfl) (zI (Q9 w) (zU (yH (zA rfl))))) rfl
def jq(t:Int)(b:Nat)(h0:0<b)(hb:b<Big):zh [.v (.int t),.v (.int b)]=.ok (.v (nrm t b),[.e,.e]):=by
 have g0:0<t.natAbs.gcd b:=Nat.gcd_pos_of_pos_right _ h0;have g1:t.natAbs.gcd b<Big:=lt_of_le_of_lt (le_of_dvd h0 (gcd_dvd_right _ _)) hb;have q:eqG (.int (b:Int)) (.int 0)=some (.v (.bl false)):=by
  rw[eq_int,decide_eq_false (by omega)]
 have l:ltD (.int (b:Int)) (.int 0)=some (.v (.bl false)):=by
  simp[ltD,zCY]
 have d1:=Z9 t _ g0 g1;have d2:=Z9 b _ g0 g1;rw[zA7]at d2;exact ye (zI (jT (t_E (yD (zA rfl) x_c q)) jg) (zI (zw (za (F:=zo) rfl (zA rfl) (zA rfl) (zGg t b hb)) rfl) (zI (jT (t_E (yD (zA rfl) x_c l)) jg) (zU (yH (yG (zB (zq (zA rfl) (zA rfl) d1) (zB (zq (zA rfl) (zA rfl) d2) zG)) rfl zP)))))) rfl
abbrev nn(a b:Nat):D:=nrm ((a:Nat):Int) b
abbrev tp(a b:Nat):Nat:=a/a.gcd b
abbrev bt(a b:Nat):Nat:=b/a.gcd b
def zBg(a b:Nat):nn a b=.t [.int (tp a b:Nat),.int (bt a b:Nat)]:=by
 show D.t [.int (zBo (a:Int) b),.int (zGb (a:Int) b:Nat)]=_
 rw[uz];rfl
def bt_pos{a b:Nat}(h:0<b):0<bt a b:=Nat.div_pos (le_of_dvd h (gcd_dvd_right _ _)) (Nat.gcd_pos_of_pos_right _ h)
def tp_pos{a b:Nat}(h:0<a):0<tp a b:=Nat.div_pos (le_of_dvd h (gcd_dvd_left _ _)) (Nat.gcd_pos_of_pos_left _ h)
def zFW(a b:Nat):tp a b<=a:=div_le_self _ _
def zFX(a b:Nat):bt a b<=b:=div_le_self _ _
def crn(a b:Nat):tp a b*b=a*bt a b:=by
 have c:=cross (a:Int) b;rw[uz]at c;have c':((tp a b*b:Nat):Int)=((a*bt a b:Nat):Int):=by rw[Int.natCast_mul,Int.natCast_mul];exact c
 exact Int.ofNat.inj c'
def nn_eq{T B W b:Nat}(hB:0<B)(hb:0<b)(h:T*b=W*B):nn T B=nn W b:=nrm_eq hB hb (by rw[<- Int.natCast_mul,<- Int.natCast_mul,h])
def zA8(t b:Nat)(h0:0<b)(hb:b<Big):zh [qI t,qI b]=.ok (.v (nn t b),O2):=jq _ b h0 hb
abbrev sh(q:Rat):D:=.t [.int q.num,.int (q.den:Nat)]
def zA9(t:Int){b:Nat}(h:b≠0):nrm t b=sh (Rat.normalize t b h):=by
 rw[Rat.normalize_eq h];rfl
def zGh(t:Int){b:Nat}(h:b≠0):((t:Rat)/((b:Int):Rat))=Rat.normalize t b h:=by
 rw[<- Rat.divInt_eq_div,Rat.normalize_eq_mkRat];rfl
def nrm_q(t:Int){b:Nat}(h:0<b):nrm t b=sh ((t:Rat)/((b:Int):Rat)):=by
 rw[zGh t (by omega)];exact zA9 t (by omega)
def Yq(a:Nat){b:Nat}(h:0<b):nn a b=sh (((a:Int):Rat)/((b:Int):Rat)):=nrm_q _ h
def zGi(a:Nat){b:Nat}(h:0<b):((((a:Int):Rat)/((b:Int):Rat))).num.natAbs<=a/\((((a:Int):Rat)/((b:Int):Rat))).den<=b:=by
 rw[zGh _ (by omega),Rat.normalize_eq];exact⟨le_trans (Int.natAbs_ediv_le_natAbs _ _) (by simp),div_le_self _ _⟩
def rc0{b:Nat}(h:0<b):((b:Int):Rat)≠0:=λe=>by
 have:(b:Int)=0:=by exact_mod_cast e
 omega
section
variable{a b:Rat}
def d_lt(l3:a.den*b.den<Big):a.den<Big/\b.den<Big:=⟨lt_of_le_of_lt (Nat.le_mul_of_pos_right _ b.den_pos) l3,lt_of_le_of_lt (Nat.le_mul_of_pos_left _ a.den_pos) l3⟩
def zGj{fs:List FI}{F:MF}(h0:fiF fs 0=F)(hF:∀(t:Int) (b:Nat),0<b->b<Big->F [.v (.int t),.v (.int b)]=.ok (.v (nrm t b),O2))(l1:a.num.natAbs<Big)(l2:b.num.natAbs<Big)(l3:a.den*b.den<Big):fnM 2 (dB fs JK) [.v (sh a),.v (sh b)]=.ok (.v (sh (a+b)),O2):=by
 obtain⟨l4,l5⟩:=d_lt l3;have m1:=ZG (i:=a.num) (j:=(b.den:Int)) l1 (by simpa using l5);have m2:=ZG (i:=b.num) (j:=(a.den:Int)) l2 (by simpa using l4);have m3:=Yp l4 l5;have ad:QN (.int (a.num*b.den)) (.int (b.num*a.den))=some (.v (.int (a.num*b.den+b.num*a.den))):=by simp[QN]
 have es:=hF (a.num*b.den+b.num*a.den) (a.den*b.den) (mul_pos a.den_pos b.den_pos) l3;rw[zA9 _ (Nat.mul_ne_zero a.den_nz b.den_nz),<- Rat.add_def]at es;exact ye (zU (yH (za (F:=F) h0 (zq (zq (yh (r:=.v (.int a.num)) (zA rfl) x_c rfl) (yh (r:=.v (.int (b.den:Nat))) (zA rfl) x_c rfl) m1) (zq (yh (r:=.v (.int b.num)) (zA rfl) x_c rfl) (yh (r:=.v (.int (a.den:Nat))) (zA rfl) x_c rfl) m2) ad) (zq (yh (r:=.v (.int (a.den:Nat))) (zA rfl) x_c rfl) (yh (r:=.v (.int (b.den:Nat))) (zA rfl) x_c rfl) m3) es))) rfl
def zDf(l1:a.num.natAbs<Big)(l2:b.num.natAbs<Big)(l3:a.den*b.den<Big):z9 [.v (sh a),.v (sh b)]=.ok (.v (sh (a+b)),O2):=zGj (F:=zh) rfl jq l1 l2 l3
def e_sless(l1:a.num.natAbs<Big)(l2:b.num.natAbs<Big)(l3:a.den*b.den<Big):jQ [.v (sh a),.v (sh b)]=.ok (.v (sh (a-b)),O2):=by
 obtain⟨l4,l5⟩:=d_lt l3;have m1:=ZG (i:=a.num) (j:=(b.den:Int)) l1 (by simpa using l5);have m2:=ZG (i:=b.num) (j:=(a.den:Int)) l2 (by simpa using l4);have m3:=Yp l4 l5;have es:=jq (a.num*b.den-b.num*a.den) (a.den*b.den) (mul_pos a.den_pos b.den_pos) l3;rw[zA9 _ (Nat.mul_ne_zero a.den_nz b.den_nz),<- Rat.sub_def]at es;exact ye (zU (yH (za (F:=zh) rfl (zq (zq (yh (r:=.v (.int a.num)) (zA rfl) x_c rfl) (yh (r:=.v (.int (b.den:Nat))) (zA rfl) x_c rfl) m1) (zq (yh (r:=.v (.int b.num)) (zA rfl) x_c rfl) (yh (r:=.v (.int (a.den:Nat))) (zA rfl) x_c rfl) m2) rfl) (zq (yh (r:=.v (.int (a.den:Nat))) (zA rfl) x_c rfl) (yh (r:=.v (.int (b.den:Nat))) (zA rfl) x_c rfl) m3) es))) rfl
def zDg{fs:List FI}{F:MF}(h0:fiF fs 0=F)(hF:∀(t:Int) (b:Nat),0<b->b<Big->F [.v (.int t),.v (.int b)]=.ok (.v (nrm t b),O2))(l1:a.num.natAbs<Big)(l2:b.num.natAbs<Big)(l3:a.den*b.den<Big):fnM 2 (dB fs wY) [.v (sh a),.v (sh b)]=.ok (.v (sh (a*b)),O2):=by
 obtain⟨l4,l5⟩:=d_lt l3;have m1:=ZG l1 l2;have m3:=Yp l4 l5;have es:=hF (a.num*b.num) (a.den*b.den) (mul_pos a.den_pos b.den_pos) l3;rw[zA9 _ (Nat.mul_ne_zero a.den_nz b.den_nz),<- Rat.mul_def]at es;exact ye (zU (yH (za (F:=F) h0 (zq (yh (r:=.v (.int a.num)) (zA rfl) x_c rfl) (yh (r:=.v (.int b.num)) (zA rfl) x_c rfl) m1) (zq (yh (r:=.v (.int (a.den:Nat))) (zA rfl) x_c rfl) (yh (r:=.v (.int (b.den:Nat))) (zA rfl) x_c rfl) m3) es))) rfl
def zBA(l1:a.num.natAbs<Big)(l2:b.num.natAbs<Big)(l3:a.den*b.den<Big):zi [.v (sh a),.v (sh b)]=.ok (.v (sh (a*b)),O2):=zDg (F:=zh) rfl jq l1 l2 l3
end
section
variable{a b c d T B:Nat}
def d_nn(hb:0<b)(hd:0<d)(l3:b*d<Big):((((a:Int):Rat)/((b:Int):Rat))).den*((((c:Int):Rat)/((d:Int):Rat))).den<Big:=lt_of_le_of_lt (mul_le_mul (zGi a hb).2 (zGi c hd).2) l3
def zDh(hb:0<b)(hd:0<d)(hB:0<B)(l1:a<Big)(l2:c<Big)(l3:b*d<Big)(h:(a*d+c*b)*B=T*(b*d)):z9 [.v (nn a b),.v (nn c d)]=.ok (.v (nn T B),O2):=by
 have e:=zDf (lt_of_le_of_lt (zGi a hb).1 l1) (lt_of_le_of_lt (zGi c hd).1 l2) (d_nn hb hd l3);have h':(((a:Int):Rat)*((d:Int):Rat)+((c:Int):Rat)*((b:Int):Rat))*((B:Int):Rat)=((T:Int):Rat)*(((b:Int):Rat)*((d:Int):Rat)):=by exact_mod_cast h
 have z1:=rc0 hb;have z2:=rc0 hd;have z3:=rc0 hB;rw[Yq _ hb,Yq _ hd,Yq _ hB,e,show((a:Int):Rat)/((b:Int):Rat)+((c:Int):Rat)/((d:Int):Rat)=((T:Int):Rat)/((B:Int):Rat)by grind]
def zBB(hb:0<b)(hd:0<d)(hB:0<B)(l1:a<Big)(l2:c<Big)(l3:b*d<Big)(h:a*c*B=T*(b*d)):zi [.v (nn a b),.v (nn c d)]=.ok (.v (nn T B),O2):=by
 have e:=zBA (lt_of_le_of_lt (zGi a hb).1 l1) (lt_of_le_of_lt (zGi c hd).1 l2) (d_nn hb hd l3);have h':((a:Int):Rat)*((c:Int):Rat)*((B:Int):Rat)=((T:Int):Rat)*(((b:Int):Rat)*((d:Int):Rat)):=by exact_mod_cast h
 have z1:=rc0 hb;have z2:=rc0 hd;have z3:=rc0 hB;rw[Yq _ hb,Yq _ hd,Yq _ hB,e,show((a:Int):Rat)/((b:Int):Rat)*(((c:Int):Rat)/((d:Int):Rat))=((T:Int):Rat)/((B:Int):Rat)by grind]
def less_nn(hb:0<b)(l:b<Big)(h:a<=b):jQ [.v (.t [.int 1,.int 1]),.v (nn a b)]=.ok (.v (nn (b-a) b),O2):=by
 have e:=e_sless (a:=1) (b:=((a:Int):Rat)/((b:Int):Rat)) (by rw[v8];exact Nat.one_lt_two_pow (by omega)) (lt_of_le_of_lt (zGi a hb).1 (by omega)) (by show 1*_<_;rw[Nat.one_mul];exact lt_of_le_of_lt (zGi a hb).2 l);have z1:=rc0 hb;rw[Yq _ hb,Yq _ hb,show(((b-a:Nat):Int):Rat)=((b:Int):Rat)-((a:Int):Rat)by rw[Int.natCast_sub h,Rat.intCast_sub],show(((b:Int):Rat)-((a:Int):Rat))/((b:Int):Rat)=1-((a:Int):Rat)/((b:Int):Rat)by grind];exact e
def by_nn(hb:0<b)(hc:0<c)(hd:0<d)(hB:0<B)(l1:a<Big)(l2:d<Big)(l3:b*c<Big)(h:a*d*B=T*(b*c)):yn [.v (nn a b),.v (nn c d)]=.ok (.v (nn T B),O2):=by
 have q1:=tp_pos (b:=d) hc;have p1:=bt_pos (a:=a) hb;have c0:=lt_of_le_of_lt (mul_le_mul (zFX a b) (zFW c d)) l3;have m1:=Yp (lt_of_le_of_lt (zFW a b) l1) (lt_of_le_of_lt (zFX c d) l2);have m3:=Yp (lt_of_le_of_lt (Nat.le_mul_of_pos_right _ q1) c0) (lt_of_le_of_lt (Nat.le_mul_of_pos_left _ p1) c0);have es:=zA8 (tp a b*bt c d) (bt a b*tp c d) (mul_pos p1 q1) c0;rw[nn_eq (W:=T) (b:=B) (mul_pos p1 q1) hB (by
  have c1:=crn a b;have c2:=crn c d
  clear c0 m1 m3 q1 p1 es
  generalize tp a b=x at *;generalize bt a b=y at *;generalize tp c d=u at *;generalize bt c d=v at *;apply Nat.eq_of_mul_eq_mul_right (mul_pos hb hc);have e1:x*v*B*(b*c)=(x*b)*(c*v)*B:=by grind
  rw[e1,c1,<- c2];have e2:a*y*(u*d)*B=(a*d*B)*(y*u):=by grind
  rw[e2,h];grind)]at es
 rw[zBg a b,zBg c d];exact ye (zU (yH (za (F:=zh) rfl (zq (yh (zA rfl) x_c rfl) (yh (zA rfl) x_c rfl) m1) (zq (yh (zA rfl) x_c rfl) (yh (zA rfl) x_c rfl) m3) es))) rfl
end
def zFY{a b:Nat}(hb:0<b){n:Nat}(hn:n<=40)(la:∀i,i<=n->a^i<Big)(lb:∀i,i<=n->b^i<Big):jc [.v (nn a b),qI n]=.ok (.v (nn (a^n) (b^n)),O2):=by
 have n0:nn (a^0) (b^0)=.t [.int 1,.int 1]:=by simp[nn,nrm,zBo,zGb]
 obtain⟨E1,f1,s3,hE,h3⟩:=jF (tg:=gN 3) (body:=dB Jm JL) (λi E=>∃s3,E=[.v (nn a b),qI n,.v (nn (a^i) (b^i)),s3]/\zz s3=true) (DV.zK 0 n) 0 [.v (nn a b),qI n,.v (.t [.int 1,.int 1]),.e] ⟨.e,by rw[n0],rfl⟩ (λi d q E ⟨s3,hE,h3⟩=>by
  obtain⟨hi,rfl⟩:=ue _ _ _ _ q;rw[zero_add]at hE ⊢;have et:=zBB (a:=a^i) (b:=b^i) (c:=a) (d:=b) (T:=a^(i+1)) (B:=b^(i+1)) (pow_pos hb) hb (pow_pos hb) (la i (by omega)) (by have:=la 1 (by omega);rwa [Nat.pow_one]at this) (by rw[<- pow_succ];exact lb (i+1) (by omega)) (by rw[pow_succ,pow_succ]);refine⟨[.v (nn a b),qI n,.v (nn (a^i) (b^i)),.v (.int (0+(i:Int)))],[.v (nn a b),qI n,.v (nn (a^(i+1)) (b^(i+1))),.v (.int (0+(i:Int)))],?_,?_,_,rfl,rfl⟩
  ·subst hE;cases s3<;>first|rfl|(cases h3)
  ·exact zU (zw (za (F:=zi) rfl (zA rfl) (zA rfl) et) rfl))
 rw[jG,zero_add]at hE;subst hE;exact ye (zI (zw zAy rfl) (zI (ux (j:=(n:Int)) (zB (zA rfl) zG) rfl ⟨by omega,by omega⟩ (by rw[Int.toNat_natCast];exact f1)) (zU (yH (zA rfl))))) rfl
abbrev O3:List DV.Slot:=[.e,.e,.e]
def mul_sm0{i j:Int}(h0:0<=i)(h:i<=100000):QO (.int i) (.int j)=some (.v (.int (i*j))):=by
 simp only[QO];exact if_pos (.inl (.inl ⟨by omega,by omega⟩))
def QF(a b:Nat)(h:a<=100000):zAe (.int a) (.int b)=some (.v (.int ((a*b:Nat):Int))):=by
 have:=mulG_of (mul_sm0 (i:=(a:Int)) (j:=(b:Int)) (by omega) (by omega));rw[this,Int.natCast_mul]
def v9(a b:Nat):eqG (.int (a:Int)) (.int (b:Int))=some (.v (.bl (decide (a=b)))):=by
 rw[eq_int];congr 3;simp[Int.natCast_inj]
def zDi(a b:Nat):neG (.int (a:Int)) (.int (b:Int))=some (.v (.bl (!decide (a=b)))):=by
 rw[ne_int];congr 4;simp[Int.natCast_inj]
def zDj(l:List Int):Y3 (l.map D.int)=some l:=by
 induction l with
 |nil=>rfl|cons a l ih=>simp only[map_cons,Y3,ih];rfl
def intsD_N(l:List Nat):Y3 (N l)=some (l.map λ(n:Nat)=>(n:Int)):=by
 have:N l=(l.map λ(n:Nat)=>(n:Int)).map D.int:=by simp[N]
 rw[this,zDj]
def zFZ(l:List Nat):sumG [.t (N l)]=some (.v (.int (l.sum:Nat))):=by
 have sc:∀l:List Nat,(l.map λ(n:Nat)=>(n:Int)).sum=((l.sum:Nat):Int):=λl=>by
  induction l with
  |nil=>rfl|cons a l ih=>simp[ih]
 simp only[sumG,intsD_N,Option.map_some,sc]
def p27{n:Nat}(h:n<=80):27^n<2^400:=lt_of_le_of_lt (pow_le_pow_right (by omega) h) (by decide +kernel)
def zFa{n:Nat}(h:n<2^400):n<2^800:=lt_trans h (by decide +kernel)
theorem zAG:∀{l:List Nat} {x:Nat},x∈l->x<=l.sum
 |a::l,x,h=>by
  rw[sum_cons];rcases mem_cons.mp h with rfl|h
  ·omega
  ·have:=zAG h;omega
end My
namespace SM
end SM
namespace My
open PySem L2 DV SM
def zGk{a b:Nat}(h1:a<2^400)(h2:b<2^400):a*b<2^800:=by
 have:2^400*2^400=2^800:=by decide +kernel
 rw[<- this];exact Nat.mul_lt_mul'' h1 h2
def w_pow{w r:Nat}(h:w<=27)(hr:r<=80):w^r<2^400:=lt_of_le_of_lt (pow_le_pow_left h r) (p27 hr)
def s27{x:Nat}(h:x<=2000):x<2^400:=lt_of_le_of_lt h (by decide +kernel)
theorem QG{c:Nat}:∀{l:List Nat},(∀x∈l,1<=x/\x<=c)->l.length<=l.sum/\l.sum<=l.length*c
 | [],_=>by simp
 |a::l,h=>by
  have h1:=h a qE;have ih:=QG (l:=l) (λx hx=>h x (mem_cons_of_mem _ hx));rw[sum_cons,length_cons,succ_mul];omega
structure DS(die:List Nat)(s:Nat):Prop where
 ok:Die die
 lt:s<die.length
namespace DS
variable{die:List Nat}{s:Nat}
def S27(h:DS die s):2<=die.sum/\die.sum<=27:=by
 have:=QG h.ok.2;rcases h.ok.1 with e|e<;>rw[e]at this<;>omega
def get(h:DS die s):die[s]?=some (die.getD s 0):=by
 rw[getD_eq_getElem?_getD,getElem?_eq_getElem h.lt];rfl
def le(h:DS die s):die.getD s 0<=die.sum:=zAG (mem_of_getElem? h.get)
end DS
def zGl{die:List Nat}{s x:Nat}(h:die[s]?=some x):ixD (Ym die) (.int s)=some (.v (.int (x:Nat))):=by
 rw[Q8,Zr (N_get h)];rfl
def zDk{die:List Nat}{s:Nat}(h:DS die s){k:Nat}(hk:1<=k/\k<=8):jH [.v (Ym die),.v (.int s),.v (.int k)]=.ok (.v .non,O3) :=
 f_nx (zI (Zq (ze (F:=Jd) rfl (zA rfl) (zBf h.ok))) (zI (Zq (za (F:=wc) rfl (zA rfl) (jr (zB (zA rfl) zG) (wq die)) (zAF (by have:=h.lt;omega)))) (zU (Zq (yi (F:=yw) rfl (zA rfl) x_c zAy (Yo (by omega))))))) rfl
abbrev dw(die:List Nat)(s:Nat):Nat:=die.getD s 0
def zBC(f:Nat->D){i n:Nat}(h:i<n):ixD (.l ((List.range n).map f)) (.int (i:Nat))=some (.v (f i)):=by
 rw[u9,Zr (d:=f i) (by simp[h])];rfl
def cut_to(ds:List D)(t:Nat)(h:t<=ds.length):Qc ds none (some (t:Int))=ds.take t:=by
 unfold Qc;have h1:HT.sIx ds.length 0 none=0:=rfl;rw[HT.sIx_nat,h1];simp[Nat.min_eq_left h]
end My
namespace DV
open PySem L2
def s_ix{fs:List FI}{E E1 E2 E3:zV}{i:Nat}{a b:_}{r:R}{s0:DV.Slot}{k:Int}{ds:List D}{j:Nat}(hs:E[i]?=some s0)(hs':jB (some s0)=false)(h1:dE fs a E=.ok (r,E1))(h2:dE fs b E1=.ok (.v (.int k),E2))(h3:E2[i]?=some (.own ds))(h4:ixN ds.length k=some j)(h5:E2.set i (.own (ds.set j r.d))=E3):dS fs (.sIx i b a) E=.ok (.nx,E3):=by
 subst h5;simp only[zDE,Za,hs,hs',Bool.false_eq_true,if_false,h1,h2,h3,Slot.list?,h4,Slot.put]
end DV
namespace My
open PySem L2 DV SM
end My
namespace SM
open PySem L2 DV
def zFb{B:Nat}(h:0<B):nrm 0 B=.t [.int 0,.int 1]:=by
 simp[nrm,zBo,zGb,Nat.div_self h]
def Pt(S w:Nat):Nat->Nat
 |0=>0|t+1=>(Pt S w t+w^t)*S
theorem zDl(S w:Nat):∀t,Pt S w (t+1)=Pt S w t*w+S^(t+1)
 |0=>by simp[Pt]
 |t+1=>by
  have ih:=zDl S w t;have e:Pt S w (t+1+1)=(Pt S w (t+1)+w^(t+1))*S:=rfl;rw[e];have e2:Pt S w (t+1)=(Pt S w t+w^t)*S:=rfl;have:(Pt S w (t+1)+w^(t+1))*S=(Pt S w t+w^t)*S*w+S^(t+1+1):=by
   rw[ih]
   grind
  rw[this,<- e2]
def Rt(S w j:Nat):Nat->Nat
 |0=>0|m+1=>Rt S w j m*w+S^(j+m+1)
theorem Pt_Rt(S w j:Nat):∀m,Pt S w (j+m)=Pt S w j*w^m+Rt S w j m
 |0=>by simp[Rt]
 |m+1=>by
  rw[show j+(m+1)=j+m+1 from rfl,zDl,Pt_Rt S w j m];simp only[Rt]
  grind
theorem Pt_le{S w:Nat}(hS:S<=27)(hw:w<=S):∀t,Pt S w t<=t*27^t
 |0=>by simp[Pt]
 |t+1=>by
  have ih:=Pt_le hS hw t;have h1:w^t<=27^t:=pow_le_pow_left (by omega) t;have h2:Pt S w t+w^t<=(t+1)*27^t:=by rw[add_mul];omega
  have:=mul_le_mul h2 hS;rw[pow_succ,<- mul_assoc];exact this
end SM
namespace My
open PySem L2 DV SM
abbrev pS(S w i:Nat):D:=nrm ((S^i:Nat):Int) (w^i)
def wI{x i:Nat}(hx:x<=27)(hi:i<=40):x^i<2^400:=w_pow hx (by omega)
def zBh{x y i j:Nat}(hx:x<=27)(hi:i<=40)(hy:y<=27)(hj:j<=40):x^i*y^j<2^800:=zGk (wI hx hi) (wI hy hj)
abbrev rS(S w j m:Nat):D:=nrm ((Rt S w j m:Nat):Int) (w^(j+m))
def Rt_lt{S w j:Nat}(hS:S<=27)(hw:w<=S){m:Nat}(h:j+m<=20):Rt S w j m<2^800:=by
 have e:=Pt_Rt S w j m;have l:=Pt_le hS hw (j+m);have l2:(j+m)*27^(j+m)<2^800:=zGk (s27 (by omega)) (wI (by omega) (by omega));omega
def lt8B{n:Nat}(h:n<2^800):n<Big:=by rw[v8];exact lt_trans h (by decide +kernel)
def e_ssum{S w j k:Nat}(hS:S<=27)(hw:0<w/\w<=S)(hj:j<k)(hk:k<=8):yb [.v (.l (((List.range (k+1)).map (pS S w)).drop (j+1)))]=.ok (.v (rS S w j (k-j)),O1):=by
 have len:(((List.range (k+1)).map (pS S w)).drop (j+1)).length=k-j:=by simp
 obtain⟨E1,f1,s2,hE,h2⟩:=jF (tg:=gN 2) (body:=dB JM wZ) (λm E=>∃s2,E=[.v (.l (((List.range (k+1)).map (pS S w)).drop (j+1))),.v (rS S w j m),s2]/\zz s2=true) (((List.range (k+1)).map (pS S w)).drop (j+1)) 0 [.v (.l (((List.range (k+1)).map (pS S w)).drop (j+1))),.v (.t [.int 0,.int 1]),.e] ⟨.e,by rw[show rS S w j 0=.t [.int 0,.int 1]from zFb (pow_pos hw.1)],rfl⟩ (λm d q E ⟨s2,hE,h2⟩=>by
  have hm:m<k-j:=by rw[<- len];exact(qG.mp q).1
  rw[zero_add]at hE ⊢;have ed:d=pS S w (j+m+1):=by
   rw[List.getElem?_drop,getElem?_map,getElem?_range (by omega),Option.map_some]at q;rw[<- qJ q,show j+1+m=j+m+1 by omega]
  subst ed hE;have et:=zDh (a:=Rt S w j m) (b:=w^(j+m)) (c:=S^(j+m+1)) (d:=w^(j+m+1)) (T:=Rt S w j (m+1)) (B:=w^(j+(m+1))) (pow_pos hw.1) (pow_pos hw.1) (pow_pos hw.1) (lt8B (Rt_lt hS hw.2 (by omega))) (lt8B (zFa (wI hS (by omega)))) (lt8B (zBh (by omega) (by omega) (by omega) (by omega))) (by
   simp only[Rt];rw[show j+(m+1)=j+m+1 from rfl,pow_succ w (j+m)]
   grind)
  exact⟨_,_,yB rfl h2 rfl,zU (zw (za (F:=z9) rfl (zA rfl) (zA rfl) et) rfl),_,rfl,rfl⟩)
 rw[len,zero_add]at hE;subst hE;exact ye (zI (zw zAy rfl) (zI (Ju (zA rfl) rfl f1) (zU (yH (zA rfl))))) rfl
abbrev wS(die:List Nat)(s k j:Nat):D:=nrm ((Rt die.sum (dw die s) j (k-j):Nat):Int) (dw die s^(j+(k-j)))
def x_frz{fs:List FI}{E E1:zV}{a:_}{r:R}(h:dE fs a E=.ok (r,E1)):dE fs (.frz a) E=.ok (.v r.d,E1):=by simp only[zGR,eFrz,h]
def WA{fs:List FI}{E:zV}{a:_}{n:Nat}(hn:n<=1000)(h:dE fs a E=.ok (.v (.int (n:Nat)),E)):dI fs (.iR1 (.cons a .nil)) E=.ok (N (List.range n),E):=by
 have:=i_R1 (fs:=fs) (E:=E) (a:=.cons a .nil) (j:=(n:Int)) (zB h zG) rfl ⟨by omega,by omega⟩;rw[Int.toNat_natCast,QC]at this;exact this
def map_N(f:Nat->D)(n:Nat):(N (List.range n)).map (λd=>match d with | .int i=>f i.toNat|d=>d)=(List.range n).map f:=by
 simp only[N,map_map];refine map_congr_left λi _=>?_
 simp
def JX{die:List Nat}{s:Nat}(h:DS die s){k:Nat}(hk:1<=k/\k<=8):yc [.v (Ym die),.v (.int s),.v (.int k)]=.ok (.own ((List.range k).map (wS die s k)),O3):=by
 have hS:=h.S27;have w1:=(h.ok.2 _ (mem_of_getElem? h.get));have hwS:dw die s<=die.sum:=h.le;have hw:0<dw die s/\dw die s<=9:=⟨w1.1,w1.2⟩;have a1:QN (.int (k:Nat)) (.int 1)=some (.v (.int ((k+1:Nat):Int))):=jU k 1;have c1:dE YY (.comp 1 ["i"] ["die","sign"] [0,1] (.iR1 (.cons (.bin .add (.var 2) (.c (.int 1))) .nil)) (.n 0) .tTr (.call 1 (.ev (.call 2 (.ev (.cB .sum (.cons (.var 1) .nil)) (.ev (.ix (.var 1) (.var 2)) .nil))) (.ev (.var 0) .nil)))) [.v (Ym die),.v (.int s),.v (.int k),.e]=.ok (.own ((List.range (k+1)).map (pS die.sum (dw die s))),[.v (Ym die),.v (.int s),.v (.int k),.e]):=by
  refine jp (vs:=[Ym die,.int s]) (λd=>match d with | .int i=>pS die.sum (dw die s) i.toNat|d=>d) (WA (n:=k+1) (by omega) (zq (zA rfl) x_c a1)) rfl (λd hd=>?_) (by rw[Zz];simp[cap];omega) (map_N _ _)
  obtain⟨i,hi,rfl⟩:=zFS hd;have hi:=mem_range.mp hi;exact⟨_,za (F:=jc) rfl (za (F:=zh) rfl (jr (zB (zA rfl) zG) (zFZ die)) (yh (zA rfl) (zA rfl) (zGl h.get)) (jq (die.sum:Int) (dw die s) hw.1 (lt8B (zFa (s27 (by omega)))))) (zA rfl) (zFY hw.1 (by omega) (λi hi=>lt8B (zFa (wI hS.2 (by omega)))) (λi hi=>lt8B (zFa (wI (by omega) (by omega))))),by simp[R.d]⟩
 refine ye (E1:=[.v (Ym die),.v (.int s),.v (.int k),.v (.l ((List.range (k+1)).map (pS die.sum (dw die s))))]) ?_ rfl;refine zI (Zq (yi (F:=jH) rfl (zA rfl) (zA rfl) (zA rfl) (zDk h hk))) (zI (zw (x_frz c1) rfl) ?_);refine zU (yH (jp (vs:=[.l ((List.range (k+1)).map (pS die.sum (dw die s)))]) (λd=>match d with | .int i=>wS die s k i.toNat|d=>d) (WA (n:=k) (by omega) (zA rfl)) rfl (λd hd=>?_) (by rw[Zz];simp[cap];omega) (map_N _ _)))
 obtain⟨j,hj,rfl⟩:=zFS hd;have hj:=mem_range.mp hj;have aj:QN (.int (j:Nat)) (.int 1)=some (.v (.int ((j+1:Nat):Int))):=jU j 1;have sl:slD (.l ((List.range (k+1)).map (pS die.sum (dw die s)))) (some ((j+1:Nat):Int)) none=some (.own (((List.range (k+1)).map (pS die.sum (dw die s))).drop (j+1))):=by
  simp only[slD];rw[GA _ (j+1) (by simp;omega)]
 exact⟨_,ze (F:=yb) rfl (x_sl (zA rfl) (o_S (zq (zA rfl) x_c aj)) o_N sl) (e_ssum hS.2 ⟨hw.1,hwS⟩ hj hk.2),rfl⟩
def e_mean{die:List Nat}{s:Nat}(h:DS die s){k:Nat}(hk:1<=k/\k<=8):jw [.v (Ym die),.v (.int s),.v (.int k)]=.ok (.v (wS die s k 0),O3) :=
 ye (zU (yH (yh (yi (F:=yc) rfl (zA rfl) (zA rfl) (zA rfl) (JX h hk)) x_c (zBC (wS die s k) (i:=0) hk.1)))) rfl
abbrev St:=Option (Nat×Nat)
def ln(q:St)(t:Nat):Nat:=match q with
 |some (u,j)=>if u=t then j+1 else 1|none=>1
def nx(s o:Nat)(q:St)(t:Nat):St:=if t=s\/t=o then some (t,ln q t)else none
abbrev En(s k o l:Nat)(q:St):Prop:=q=some (s,k)\/q=some (o,l)
def ru(t n:Nat):List St:=(List.range n).map λj=>some (t,j+1)
def L0(s k o l:Nat):List St:=none::(ru s (k-1)++ru o (l-1))
def wJ:q∈ru t n↔∃j,1<=j/\j<=n/\q=some (t,j):=by
 simp only[ru,mem_map,mem_range];constructor
 ·rintro ⟨j,h,rfl⟩;exact⟨j+1,by omega,by omega,rfl⟩
 ·rintro ⟨j,h1,h2,rfl⟩;exact⟨j-1,by omega,by rw[show j-1+1=j by omega]⟩
def ru_nd(t n:Nat):(ru t n).Nodup:=by
 refine List.Pairwise.map _ (λa b h e=>h ?_) (List.nodup_range (n:=n));simp at e;exact e
section
variable{die:List Nat}{s k o l:Nat}
def L0_nd(h:Mt die s k o l):(L0 s k o l).Nodup:=by
 refine nodup_cons.mpr ⟨?_,nodup_append.mpr ⟨ru_nd _ _,ru_nd _ _,?_⟩⟩
 ·intro m
  rcases mem_append.mp m with m|m<;>(obtain⟨j,_,_,e⟩:=wJ.mp m;cases e)
 ·intro a ha b hb e
  obtain⟨j,_,_,e1⟩:=wJ.mp ha;obtain⟨i,_,_,e2⟩:=wJ.mp hb;subst e1 e2;cases e;exact h.ne rfl
def GD(h:Mt die s k o l)(hq:q∈L0 s k o l):¬En s k o l q:=by
 rcases mem_cons.mp hq with rfl|hq
 ·intro z;rcases z with z|z<;>cases z
 ·have:=h.hk;have:=h.hl
  rcases mem_append.mp hq with m|m<;>(obtain⟨j,h1,h2,rfl⟩:=wJ.mp m;intro z;rcases z with z|z<;>cases z)
  ·omega
  ·exact h.ne rfl
  ·exact h.ne rfl
  ·omega
def zDm(h:Mt die s k o l)(hq:q∈L0 s k o l)(t:Nat):nx s o q t∈L0 s k o l\/En s k o l (nx s o q t):=by
 have hk:=h.hk;have hl:=h.hl;unfold nx;by_cases c:t=s\/t=o
 ·rw[if_pos c]
  have b:1<=ln q t/\(t=s->ln q t<=k)/\(t=o->ln q t<=l):=by
   rcases mem_cons.mp hq with rfl|hq
   ·exact⟨le_refl _,λ_=>hk.1,λ_=>hl.1⟩
   ·rcases mem_append.mp hq with m|m<;>(obtain⟨j,h1,h2,rfl⟩:=wJ.mp m;unfold ln;simp only;split)
    all_goals first
     | (rename_i e;subst e;exact⟨by omega,λ_=>by omega,λe=>absurd e h.ne⟩)| (rename_i e;subst e;exact⟨by omega,λe=>absurd e.symm h.ne,λ_=>by omega⟩)|exact⟨by omega,λ_=>by omega,λ_=>by omega⟩
  rcases c with rfl|rfl
  ·by_cases e:ln q t=k
   ·exact .inr (.inl (by rw[e]))
   ·have:=b.2.1 rfl
    exact .inl (mem_cons_of_mem _ (mem_append_left _ (wJ.mpr ⟨_,b.1,by omega,rfl⟩)))
  ·by_cases e:ln q t=l
   ·exact .inr (.inr (by rw[e]))
   ·have:=b.2.2 rfl
    exact .inl (mem_cons_of_mem _ (qK _ (wJ.mpr ⟨_,b.1,by omega,rfl⟩)))
 ·rw[if_neg c];exact .inl qE
end
def kS:St->D
 |none=>.t [.non,.int 0]|some (t,j)=>.t [.int (t:Nat),.int (j:Nat)]
def kK:St->List KN
 |none=>[none,some 0]|some (t,j)=>[some (t:Int),some (j:Int)]
def zBD(q:St):zC4 (kS q)=some (kK q):=by
 match q with
 |none=>rfl|some (t,j)=>rfl
def zDn(h:kK p=kK q):p=q:=by
 match p,q with
 |none,none=>rfl|none,some (t,j)=>simp[kK]at h|some (t,j),none=>simp[kK]at h|some (t,j),some (u,i)=>simp[kK]at h;rw[show t=u by omega,show j=i by omega]
theorem zBE(v:St->D):∀{L:List St},q∈L->vt (L.map kK) (L.map v) (kK q)=some (v q)
 | [],h=>by cases h
 |p::L,h=>by
  simp only[map_cons,vt];by_cases e:p=q
  ·subst e;rw[if_pos rfl]
  ·rw[if_neg λz=>e (zDn z)]
   exact zBE v ((mem_cons.mp h).resolve_left λz=>e z.symm)
def gV_not(v:St->D){q:St}{L:List St}(h:q∉L):vt (L.map kK) (L.map v) (kK q)=none :=
 zDb λm=>by
  obtain⟨p,hp,e⟩:=mem_map.mp m;rw[zDn e]at hp;exact h hp
theorem zGm(v:St->D)(q:St)(d:D):∀L:List St,setV (L.map kK) (L.map v) (kK q) d=L.map λx=>if x=q then d else v x
 | []=>rfl
 |p::L=>by
  simp only[map_cons,setV,zGm v q d L];by_cases e:p=q
  ·rw[if_pos (congrArg kK e),if_pos e]
  ·rw[if_neg λz=>e (zDn z),if_neg e]
def addK(L:List St)(q:St):List St:=if q∈L then L else L++[q]
def zAH(v:St->D)(q:St)(d:D)(L:List St):zC5 (L.map kK) (L.map v) (kK q) d=((addK L q).map kK,(addK L q).map λx=>if x=q then d else v x):=by
 unfold zC5 addK;by_cases h:q∈L
 ·rw[zBE v h,if_pos h,zGm]
 ·rw[gV_not v h,if_neg h]
  simp only[map_append,map_cons,map_nil,if_true];have:(L.map λx=>if x=q then d else v x)=L.map v:=map_congr_left λx hx=>if_neg λ(e:x=q)=>h (by rw[<- e];exact hx)
  rw[this]
def GE(h:q∉L):addK L q=L++[q]:=if_neg h
abbrev O5:List DV.Slot:=[.e,.e,.e]
def nin_two(t s o:Nat):Cp.f .nin (.int (t:Nat)) (.t [.int (s:Nat),.int (o:Nat)])=some (.v (.bl (!decide (t=s\/t=o)))):=by
 by_cases h2:t=s
 ·subst h2
  have b2:eqV (.int (t:Nat)) (.int ((t:Nat):Int))=true:=by simp[eqV]
  simp[Cp.f,inG,inF,flat,flV,inV,b2]
 ·by_cases h3:t=o
  ·subst h3
   have b2:eqV (.int (t:Nat)) (.int ((t:Nat):Int))=true:=by simp[eqV]
   simp[Cp.f,inG,inF,flat,flV,inV,b2]
  ·have b2:eqV (.int (s:Nat)) (.int ((t:Nat):Int))=false:=by simp[eqV];omega
   have b3:eqV (.int (o:Nat)) (.int ((t:Nat):Int))=false:=by simp[eqV];omega
   simp[Cp.f,inG,inF,flat,flV,inV,b2,b3,h2,h3]
def fst':St->D
 |none=>.non|some (t,_)=>.int (t:Nat)
def snd':St->Nat
 |none=>0|some (_,j)=>j
def kS_0(q:St):ixD (kS q) (.int 0)=some (.v (fst' q)):=by cases q<;>rfl
def kS_1(q:St):ixD (kS q) (.int 1)=some (.v (.int (snd' q:Nat))):=by cases q<;>rfl
def isT(q:St)(t:Nat):Bool:=match q with
 |none=>false|some (u,_)=>decide (u=t)
def eq_fst(q:St)(t:Nat):eqG (.int (t:Nat)) (fst' q)=some (.v (.bl (isT q t))):=by
 match q with
 |none=>rfl
 |some (u,j) =>
  show eqG (.int (t:Nat)) (.int (u:Nat))=some (.v (.bl (decide (u=t))))
  rw[v9];by_cases e:t=u
  ·subst e;rfl
  ·rw[decide_eq_false e,decide_eq_false λz=>e z.symm]
def eq_fst'(q:St)(t:Nat):eqG (fst' q) (.int (t:Nat))=some (.v (.bl (isT q t))):=by
 match q with
 |none=>rfl|some (u,j)=>exact v9 u t
def ln_T(q:St)(t:Nat):ln q t=if isT q t then snd' q+1 else 1:=by
 match q with
 |none=>rfl|some (u,j)=>simp[ln,isT,snd']
section
variable{die:List Nat}{s k o l:Nat}
def vW(q:St)(t:Nat):jI [.v (yk die s k o l),.v (kS q),qI t]=.ok (.v (kS (nx s o q t)),O5):=by
 have s1:dS JN (.sTup [3,4,5,6,7] (.var 0)) [.v (yk die s k o l),.v (kS q),qI t,.e,.e,.e,.e,.e]=.ok (.nx,[.v (yk die s k o l),.v (kS q),qI t,.v (Ym die),qI s,qI k,qI o,qI l]):=rfl;have t1:=nin_two t s o;by_cases c:t=s\/t=o
 ·rw[decide_eq_true c]at t1
  have e:nx s o q t=some (t,ln q t):=if_pos c;rw[e,ln_T];have x1:=eq_fst q t;cases b:isT q t with
  |true =>
   rw[b]at x1;exact ye (zI s1 (zI (jT (t_E (yD (zA rfl) (yG (zB (zA rfl) (zB (zA rfl) zG)) rfl zP) t1)) jg) (zU (yH (zDY (t_E (yD (zA rfl) (yh (zA rfl) x_c (kS_0 q)) x1)) (yG (zB (zA rfl) (zB (zq (yh (zA rfl) x_c (kS_1 q)) x_c (jU _ 1)) zG)) rfl zP)))))) rfl
  |false =>
   rw[b]at x1;exact ye (zI s1 (zI (jT (t_E (yD (zA rfl) (yG (zB (zA rfl) (zB (zA rfl) zG)) rfl zP) t1)) jg) (zU (yH (zDZ (t_E (yD (zA rfl) (yh (zA rfl) x_c (kS_0 q)) x1)) (yG (zB (zA rfl) (zB x_c zG)) rfl zP)))))) rfl
 ·rw[decide_eq_false c]at t1
  have e:nx s o q t=none:=if_neg c;rw[e];exact ye (zI s1 (Wy (ZC (t_E (yD (zA rfl) (yG (zB (zA rfl) (zB (zA rfl) zG)) rfl zP) t1)) (zU (yH zAy))))) rfl
end
section
variable{die:List Nat}{s k o l:Nat}
def KS(s k o l:Nat):List St:=L0 s k o l++[some (s,k)]++[some (o,l)]
def ints_ru(t n:Nat):∀j:Nat,(DV.zK ((j+1:Nat):Int) n).map (λd=>D.t [.int (t:Nat),d])=((range' j n).map λi=>(some (t,i+1):St)).map kS:=by
 induction n with
 |zero=>intro j;rfl
 |succ n ih =>
  intro j;have:=ih (j+1);simp only[DV.zK,map_cons,List.range'_succ];rw[<- this];rfl
def SL_eq:SL s k o l=(L0 s k o l).map kS:=by
 have e:∀t n,SP t n=(ru t n).map kS:=λt n=>by
  have:=ints_ru t n 0;rw[<- List.range_eq_range']at this;exact this
 simp only[SL,L0,e,map_cons,map_append,List.singleton_append,cons_append];rfl
def zDo(h:Mt die s k o l):(L0 s k o l).length<=11:=by
 have:=h.hk;have:=h.hl;simp[L0,ru];omega
def KS_in:x∈KS s k o l↔x∈L0 s k o l\/En s k o l x:=by
 simp[KS,or_assoc]
def E_ne(h:Mt die s k o l):¬(some (o,l):St)=some (s,k):=λe=>by cases e;exact h.ne rfl
def add1(h:Mt die s k o l):addK (L0 s k o l) (some (s,k))=L0 s k o l++[some (s,k)]:=GE λm=>GD h m (.inl rfl)
def add2(h:Mt die s k o l):addK (L0 s k o l++[some (s,k)]) (some (o,l))=KS s k o l:=GE λm=>by
 rcases mem_append.mp m with m|m
 ·exact GD h m (.inr rfl)
 ·exact E_ne h (mem_singleton.mp m)
def kl{L:List St}(h:L.length<=1000):(L.map kK).length<1000000:=by rw[length_map];omega
end
section
variable{die:List Nat}{s k o l:Nat}
def Mt.ds(h:Mt die s k o l):DS die s:=⟨h.d,h.hs⟩
end
def Pn(S w k j:Nat):Nat:=Rt S w j (k-j)
theorem Rt_E3(S w:Nat):∀(m j:Nat),S*Rt S w j (m+1)=w*Rt S w (j+1) m+S^(j+m+2)
 |0,j=>by simp only[Rt,Nat.zero_mul,zero_add,Nat.mul_zero,Nat.add_zero];rw[pow_succ S (j+1)];rw[mul_comm]
 |m+1,j=>by
  have ih:=Rt_E3 S w m j;have e1:Rt S w j (m+2)=Rt S w j (m+1)*w+S^(j+(m+1)+1):=rfl;have e2:Rt S w (j+1) (m+1)=Rt S w (j+1) m*w+S^(j+1+m+1):=rfl;rw[e1,e2,show j+1+m+1=j+m+2 by omega,show j+(m+1)+1=j+m+2 by omega,show j+(m+1)+2=(j+m+2)+1 by omega,pow_succ S (j+m+2)]
  grind
def Pn_E3(S w:Nat)(h:j<k):S*Pn S w k j=w*Pn S w k (j+1)+S^(k+1):=by
 have:=Rt_E3 S w (k-j-1) j;unfold Pn;rw[show k-j-1+1=k-j by omega,show j+(k-j-1)+2=k+1 by omega]at this;rw[this,show k-(j+1)=k-j-1 by omega]
theorem Rt_E1(S w:Nat):∀m:Nat,S*Rt S w 0 m+S*w^m=w*Rt S w 0 m+S^(m+1)
 |0=>by simp[Rt]
 |m+1=>by
  have ih:=Rt_E1 S w m;have e1:Rt S w 0 (m+1)=Rt S w 0 m*w+S^(0+m+1):=rfl;rw[e1,zero_add,pow_succ w m,pow_succ S (m+1)]
  grind
def Pn_E1(S w k:Nat):S*Pn S w k 0+S*w^k=w*Pn S w k 0+S^(k+1):=Rt_E1 S w k
def zBF(S w k:Nat):Pn S w k k=0:=by unfold Pn;rw[sub_self];rfl
theorem Rt_le(S w:Nat):∀(m j:Nat),Rt S w (j+1) m<=Rt S w j (m+1)
 |0,j=>by simp[Rt]
 |m+1,j=>by
  have ih:=Rt_le S w m j;have e1:Rt S w j (m+2)=Rt S w j (m+1)*w+S^(j+(m+1)+1):=rfl;have e2:Rt S w (j+1) (m+1)=Rt S w (j+1) m*w+S^(j+1+m+1):=rfl;rw[e1,e2,show j+1+m+1=j+(m+1)+1 by omega];have:=Nat.mul_le_mul_right w ih;omega
theorem zFc(S w k:Nat):∀{j:Nat},j<=k->Pn S w k j<=Pn S w k 0
 |0,_=>le_refl _
 |j+1,h=>by
  have ih:=zFc S w k (j:=j) (by omega);have:=Rt_le S w (k-j-1) j;unfold Pn at ih ⊢;rw[show k-j-1+1=k-j by omega]at this;rw[show k-(j+1)=k-j-1 by omega];exact le_trans this ih
def Rt_pos(hS:0<S)(hm:0<m):0<Rt S w j m:=by
 cases m with
 |zero=>omega|succ m=>have:0<S^(j+m+1):=pow_pos hS;show 0<Rt S w j m*w+S^(j+m+1);omega
def Pn_lt(hS:S<=27)(hw:w<=S)(hk:k<=7):Pn S w k 0<2^60:=by
 have gen:∀m,m<=7->Rt S w 0 m<=m*27^m:=by
  intro m
  induction m with
  |zero=>intro _;exact le_refl _
  |succ m ih =>
   intro hm;have i:=ih (by omega);have p1:Rt S w 0 m*w<=m*27^m*27:=mul_le_mul i (by omega);have p2:S^(0+m+1)<=27^(m+1):=by rw[zero_add];exact pow_le_pow_left hS _
   show Rt S w 0 m*w+S^(0+m+1)<=_
   rw[succ_mul,pow_succ 27 m]at *;rw[mul_assoc]at p1;omega
 have g:=gen k hk;have:k*27^k<=7*27^7:=mul_le_mul hk (pow_le_pow_right (by omega) hk);exact lt_of_le_of_lt (le_trans g this) (by decide +kernel)
section
variable{die:List Nat}{s k o l:Nat}
abbrev wN(die:List Nat)(s:Nat):Nat:=die.getD s 0
def Xn(die:List Nat)(s k o l:Nat):Nat:=Pn die.sum (wN die s) k 0*wN die o^l
def Yn(die:List Nat)(s k o l:Nat):Nat:=Pn die.sum (wN die o) l 0*wN die s^k
def Nn(die:List Nat)(s k o l:Nat):Nat:=Xn die s k o l+Yn die s k o l
def pn(die:List Nat)(s k o l:Nat):St->Nat
 |none=>Yn die s k o l|some (t,j)=>if t=s then Nn die s k o l-Pn die.sum (wN die s) k j*wN die o^l else Pn die.sum (wN die o) l j*wN die s^k
def QH(h:Mt die s k o l)(ht:t<die.length):0<wN die t/\wN die t<=9/\wN die t<=die.sum:=by
 have hw:die[t]?=some (die.getD t 0):=by rw[getD_eq_getElem?_getD,getElem?_eq_getElem ht];rfl
 have:=h.d.2 _ (mem_of_getElem? hw);exact⟨this.1,this.2,zAG (mem_of_getElem? hw)⟩
theorem uAa(a b x w f c:Int)(h:b=a+w*(f-c)):a+x*c+(w*f+0)=b+(x+(w+0))*c:=by rw[h,Int.mul_sub,Int.add_zero,Int.add_zero,Int.add_mul];omega
theorem uAb{s n}(p:s≠n)(a b:Int):(if s<n+1 then a else b)=if s<n then a else b:=by by_cases q:s<n;rw[if_pos q,if_pos (Nat.lt_succ_of_lt q)];rw[if_neg q,if_neg (by omega)]
theorem uAc{s o c}(w f:Nat->Int)(z:s≠o):∀n,(∀t,t<n->t≠s->t≠o->f t=c)->((List.range n).map λt=>w t*f t).sum=(if s<n then w s*(f s-c) else 0)+(if o<n then w o*(f o-c) else 0)+((List.range n).map w).sum*c
 |0,_=>by simp
 |n+1,h=>by
  have e:=uAc w f z n λt l=>h t (by omega)
  rw[range_succ,map_append,map_append,sum_append,sum_append,e];apply uAa
  by_cases p:s=n
  ·rw[uAb λq=>z (p.trans q.symm),p,if_pos n.lt_succ_self,if_neg n.lt_irrefl];omega
  rw[uAb p]
  by_cases q:o=n
  ·rw[q,if_pos n.lt_succ_self,if_neg n.lt_irrefl];omega
  rw[uAb q,h n n.lt_succ_self (Ne.symm p) (Ne.symm q)];simp
theorem uAd:∀d:List Nat,((List.range d.length).map λt=>(d.getD t 0:Int)).sum=d.sum
 |[]=>rfl
 |a::d=>by rw[length_cons,List.range_succ_eq_map,map_cons,sum_cons,map_map,sum_cons];have:=uAd d;show(a:Int)+((List.range d.length).map λt=>(d.getD t 0:Int)).sum=_;omega
def uA(h:Mt die s k o l)(f:Nat->Int)(c:Int)(hf:∀t,t<die.length->t≠s->t≠o->f t=c):((List.range die.length).map λt=>(wN die t:Int)*f t).sum=wN die s*f s+wN die o*f o+((die.sum:Int)-wN die s-wN die o)*c:=by
 rw[uAc (λt=>(wN die t:Int)) f h.ne _ hf,uAd,if_pos h.hs,if_pos h.ho];grind
theorem zAI(f:Nat->Nat):∀n,((List.range n).map λt=>((f t:Nat):Int)).sum=(((List.range n).map f).sum:Nat)
 |0=>rfl|n+1=>by rw[range_succ,map_append,map_append,sum_append,sum_append,zAI f n];simp
def QI(h:Mt die s k o l)(f:Nat->Nat)(c:Nat)(hf:∀t,t<die.length->t≠s->t≠o->f t=c):((List.range die.length).map λt=>wN die t*f t).sum+(wN die s+wN die o)*c=wN die s*f s+wN die o*f o+die.sum*c:=by
 have e:=uA h (λt=>(f t:Int)) (c:Int) (λt a b d=>by show(f t:Int)=_;rw[hf t a b d]);have e2:=zAI (λt=>wN die t*f t) die.length;simp only[Int.natCast_mul]at e2;rw[e2]at e;have e3:((die.sum:Int)-wN die s-wN die o)*(c:Int)=((die.sum*c:Nat):Int)-((wN die s*c:Nat):Int)-((wN die o*c:Nat):Int):=by simp only[Int.natCast_mul];grind
 rw[e3,<- Int.natCast_mul,<- Int.natCast_mul]at e;rw[add_mul];omega
end
def baseB{S w v W V p0 p1 q0 q1 Sk Sl u1:Nat}(h1:u1+p1*V=p0*V+q0*W)(e3:S*p0=w*p1+Sk)(e1:S*p0+S*W=w*p0+Sk)(f3:S*q0=v*q1+Sl)(f1:S*q0+S*V=v*q0+Sl):w*u1+v*(q1*W)=(w+v)*(q0*W):=by
 have a:w*p0=w*p1+S*W:=by omega
 have b:v*q0=v*q1+S*V:=by omega
 have c:w*u1+w*p1*V=w*p0*V+w*q0*W:=by
  have:=congrArg (w*·) h1;simp only[mul_add,<- mul_assoc]at this;exact this
 rw[a,add_mul]at c;have d:v*q0*W=v*q1*W+S*V*W:=by rw[b,add_mul]
 have e:S*W*V=S*V*W:=by grind
 rw[<- mul_assoc v q1 W,add_mul,<- mul_assoc w q0 W,<- mul_assoc v q0 W];omega
def baseS{S w V W p0 p1 pj pk q0 Sk N uj uk u1:Nat}(hN:N=p0*V+q0*W)(h1:u1+p1*V=N)(hj:uj+pj*V=N)(hk:uk+pk*V=N)(e3:S*p0=w*p1+Sk)(ej:S*pj=w*pk+Sk):w*uk+S*(q0*W)=S*uj+w*u1:=by
 have a:w*u1+w*p1*V=w*N:=by rw[<- h1,mul_add,mul_assoc]
 have b:S*uj+S*pj*V=S*N:=by rw[<- hj,mul_add,mul_assoc]
 have c:w*uk+w*pk*V=w*N:=by rw[<- hk,mul_add,mul_assoc]
 have d:S*N=S*p0*V+S*(q0*W):=by rw[hN,mul_add,mul_assoc]
 rw[ej,add_mul]at b;rw[e3,add_mul]at d;omega
def baseO{S v W q0 q1 qj qk Sl:Nat}(f3:S*q0=v*q1+Sl)(fj:S*qj=v*qk+Sl):v*(qk*W)+S*(q0*W)=S*(qj*W)+v*(q1*W):=by
 rw[<- mul_assoc,<- mul_assoc,<- mul_assoc,<- mul_assoc,f3,fj,add_mul,add_mul];omega
section
variable{die:List Nat}{s k o l:Nat}
def PV_le(hj:j<=k):Pn die.sum (wN die s) k j*wN die o^l<=Nn die s k o l :=
 le_trans (Nat.mul_le_mul_right _ (zFc _ _ _ hj)) (le_add_right _ _)
def pn_s(j:Nat):pn die s k o l (some (s,j))=Nn die s k o l-Pn die.sum (wN die s) k j*wN die o^l:=if_pos rfl
def pn_o(hne:s≠o)(j:Nat):pn die s k o l (some (o,j))=Pn die.sum (wN die o) l j*wN die s^k:=if_neg λe=>hne e.symm
def pn_none:pn die s k o l none=Yn die s k o l:=rfl
def pn_le(h:Mt die s k o l)(hx:x∈L0 s k o l\/En s k o l x):pn die s k o l x<=Nn die s k o l:=by
 match x,hx with
 |none,_=>exact le_add_left _ _
 |some (t,j),hx =>
  show(if t=s then _ else _)<=_
  split
  ·exact Nat.sub_le _ _
  ·rename_i hts
   have hj:j<=l:=by
    rcases hx with hx|hx
    ·rcases mem_cons.mp hx with e|hx
     ·cases e
     ·rcases mem_append.mp hx with m|m
      ·obtain⟨_,_,_,e⟩:=wJ.mp m;cases e;exact absurd rfl hts
      ·obtain⟨_,_,_,e⟩:=wJ.mp m;cases e;omega
    ·rcases hx with e|e<;>cases e
     ·exact absurd rfl hts
     ·exact le_refl _
   exact le_trans (Nat.mul_le_mul_right _ (zFc _ _ _ hj)) (le_add_left _ _)
def lin1{a b c d e f g:Nat}(h1:a+b=c+d+e)(h2:c+e=f+g)(h3:g+d=b):a=f:=by omega
def lin2{a b c d e f g:Nat}(h1:a+b=c+d+e)(h2:d+e=f+g)(h3:c+g=b):a=f:=by omega
def lin3{a b c d e:Nat}(h1:a+b=c+d+e)(h2:c+d=b):a=e:=by omega
def eqn(h:Mt die s k o l){x:St}(hx:x∈L0 s k o l):((List.range die.length).map λt=>wN die t*pn die s k o l (nx s o x t)).sum=die.sum*pn die s k o l x:=by
 have hk:=h.hk;have hl:=h.hl;have sp:=QI h (λt=>pn die s k o l (nx s o x t)) (Yn die s k o l) (λt _ h1 h2=>by
  have:nx s o x t=none:=if_neg λz=>z.elim h1 h2
  rw[this];rfl)
 have es:nx s o x s=some (s,ln x s):=if_pos (.inl rfl);have eo:nx s o x o=some (o,ln x o):=if_pos (.inr rfl);rw[es,eo,pn_s,pn_o h.ne]at sp;have e3:=λ(j:Nat) (hj:j<k)=>Pn_E3 die.sum (wN die s) hj
 have f3:=λ(j:Nat) (hj:j<l)=>Pn_E3 die.sum (wN die o) hj
 have e1:=Pn_E1 die.sum (wN die s) k;have f1:=Pn_E1 die.sum (wN die o) l;have u:=λ(j:Nat) (hj:j<=k)=>Nat.sub_add_cancel (PV_le (die:=die) (s:=s) (o:=o) (l:=l) hj)
 have hN:Nn die s k o l=Pn die.sum (wN die s) k 0*wN die o^l+Pn die.sum (wN die o) l 0*wN die s^k:=rfl;have hY:Yn die s k o l=Pn die.sum (wN die o) l 0*wN die s^k:=rfl;have B:wN die s*(Nn die s k o l-Pn die.sum (wN die s) k 1*wN die o^l)+wN die o*(Pn die.sum (wN die o) l 1*wN die s^k)=(wN die s+wN die o)*Yn die s k o l:=baseB (u 1 hk.1) (e3 0 (by omega)) e1 (f3 0 (by omega)) f1;rcases mem_cons.mp hx with rfl|hx
 ·have q1:ln none s=1:=rfl
  have q2:ln none o=1:=rfl;rw[q1,q2]at sp;exact lin3 sp B
 ·rcases mem_append.mp hx with m|m
  ·obtain⟨j,j1,j2,rfl⟩:=wJ.mp m
   have q1:ln (some (s,j)) s=j+1:=if_pos rfl;have q2:ln (some (s,j)) o=1:=if_neg h.ne;rw[q1,q2]at sp;have C:=baseS hN (u 1 hk.1) (u j (by omega)) (u (j+1) (by omega)) (e3 0 (by omega)) (e3 j (by omega));rw[pn_s];exact lin1 sp C B
  ·obtain⟨j,j1,j2,rfl⟩:=wJ.mp m
   have q1:ln (some (o,j)) s=1:=if_neg λe=>h.ne e.symm
   have q2:ln (some (o,j)) o=j+1:=if_pos rfl;rw[q1,q2]at sp;have C:=baseO (W:=wN die s^k) (f3 0 (by omega)) (f3 j (by omega));rw[pn_o h.ne];exact lin2 sp C B
end
section
variable{die:List Nat}{s k o l:Nat}
def pn_E1:pn die s k o l (some (s,k))=Nn die s k o l:=by rw[pn_s,zBF,Nat.zero_mul,sub_zero]
def pn_E0(hne:s≠o):pn die s k o l (some (o,l))=0:=by rw[pn_o hne,zBF,Nat.zero_mul]
def Y_pos(h:Mt die s k o l):0<Yn die s k o l:=mul_pos (Rt_pos (by have:=h.ds.S27;omega) (by have:=h.hl;omega)) (pow_pos (QH h h.hs).1)
def Yr(h:Mt die s k o l):0<Nn die s k o l:=lt_of_lt_of_le (Y_pos h) (le_add_left _ _)
def w20(h:Mt die s k o l)(ht:t<die.length)(hi:i<=7):wN die t^i<2^40/\0<wN die t^i :=
 ⟨lt_of_le_of_lt (pow_le_pow_left (QH h ht).2.1 i) (lt_of_le_of_lt (pow_le_pow_right (by omega) hi) (by decide)),pow_pos (QH h ht).1⟩
def P60(h:Mt die s k o l)(ht:t<die.length)(hi:i<=7)(hj:j<=i):Pn die.sum (wN die t) i j<2^60 :=
 lt_of_le_of_lt (zFc _ _ _ hj) (Pn_lt h.ds.S27.2 (QH h ht).2.2 hi)
def m100(h1:a<2^60)(h2:b<2^40):a*b<2^100:=by
 have:a*b<2^60*2^40:=Nat.mul_lt_mul'' h1 h2;rw[<- pow_add]at this;exact this
def N101(h:Mt die s k o l):Nn die s k o l<2^101:=by
 have a:Xn die s k o l<2^100:=m100 (P60 h h.hs (by have:=h.hk;omega) (zero_le _)) (w20 h h.ho (by have:=h.hl;omega)).1;have b:Yn die s k o l<2^100:=m100 (P60 h h.ho (by have:=h.hl;omega) (zero_le _)) (w20 h h.hs (by have:=h.hk;omega)).1;have:Nn die s k o l<2^100+2^100:=Nat.add_lt_add a b;exact lt_of_lt_of_le this (by decide)
def lB(h:n<2^m)(hm:m<=3000):n<Big:=by
 rw[v8];exact lt_of_lt_of_le h (pow_le_pow_right (by omega) (by omega))
def mB(h1:a<2^m)(h2:b<2^n):a*b<2^(m+n):=by
 rw[pow_add];exact Nat.mul_lt_mul'' h1 h2
end
def cut_one(ds:List D):Qc ds (some 1) none=ds.drop 1:=by
 cases ds with
 |nil=>rfl|cons a l=>exact GA (a::l) 1 (by simp)
def ix_at(h:ds[k]?=some d):ixD (.t ds) (.int (k:Nat))=some (.v d):=by rw[Q8,Zr h];rfl
section
variable{die:List Nat}{s k o l:Nat}
def Mt.do(h:Mt die s k o l):DS die o:=⟨h.d,h.ho⟩
def wS_nn(hj:j<i):wS die t i j=nn (Pn die.sum (wN die t) i j) (wN die t^i):=by
 show nrm ((Rt die.sum (dw die t) j (i-j):Nat):Int) (dw die t^(j+(i-j)))=_
 rw[show j+(i-j)=i by omega];rfl
def ws_list(t i:Nat):(List.range i).map (wS die t i)=(List.range i).map λj=>nn (Pn die.sum (wN die t) i j) (wN die t^i):=map_congr_left λj hj=>wS_nn (mem_range.mp hj)
abbrev wl(die:List Nat)(t i:Nat):List D:=(List.range i).map λj=>nn (Pn die.sum (wN die t) i j) (wN die t^i)
def wl_0(h:1<=i):ixD (.l (wl die t i)) (.int 0)=some (.v (nn (Pn die.sum (wN die t) i 0) (wN die t^i))):=zBC (λj=>nn (Pn die.sum (wN die t) i j) (wN die t^i)) (i:=0) (n:=i) (by omega)
def wl_sl(t i:Nat):slD (.l (wl die t i)) (some 1) none=some (.own ((List.range (i-1)).map λj=>nn (Pn die.sum (wN die t) i (j+1)) (wN die t^i))):=by
 simp only[slD,cut_one];congr 2;cases i with
 |zero=>rfl
 |succ i =>
  show List.drop 1 ((List.range (i+1)).map _)=_
  rw[List.range_succ_eq_map];simp[Function.comp_def]
abbrev TT(die:List Nat)(s k o l:Nat):D:=nn (Nn die s k o l) (wN die s^k*wN die o^l)
def by_one(h:Mt die s k o l)(hj:j<=k):yn [.v (nn (Pn die.sum (wN die s) k j) (wN die s^k)),.v (TT die s k o l)]=.ok (.v (nn (Pn die.sum (wN die s) k j*wN die o^l) (Nn die s k o l)),O2):=by
 have hk:=h.hk;have hl:=h.hl;have a:=w20 h h.hs (i:=k) (by omega);have b:=w20 h h.ho (i:=l) (by omega);have c:=N101 h;refine by_nn a.2 (Yr h) (mul_pos a.2 b.2) (Yr h) (lB (P60 h h.hs (by omega) hj) (by omega)) (lB (mB a.1 b.1) (by omega)) (lB (mB a.1 c) (by omega)) ?_
 grind
def zGn(h:Mt die s k o l)(hj:j<=l):yn [.v (nn (Pn die.sum (wN die o) l j) (wN die o^l)),.v (TT die s k o l)]=.ok (.v (nn (Pn die.sum (wN die o) l j*wN die s^k) (Nn die s k o l)),O2):=by
 have hk:=h.hk;have hl:=h.hl;have a:=w20 h h.hs (i:=k) (by omega);have b:=w20 h h.ho (i:=l) (by omega);have c:=N101 h;refine by_nn b.2 (Yr h) (mul_pos a.2 b.2) (Yr h) (lB (P60 h h.ho (by omega) hj) (by omega)) (lB (mB a.1 b.1) (by omega)) (lB (mB b.1 c) (by omega)) ?_
 grind
abbrev pap(die:List Nat)(s k o l:Nat):List D:=(L0 s k o l).map λx=>nn (pn die s k o l x) (Nn die s k o l)
def pap_is(h:Mt die s k o l):pap die s k o l=[nn (Yn die s k o l) (Nn die s k o l)]++((List.range (k-1)).map λj=>nn (Nn die s k o l-Pn die.sum (wN die s) k (j+1)*wN die o^l) (Nn die s k o l))++(List.range (l-1)).map λj=>nn (Pn die.sum (wN die o) l (j+1)*wN die s^k) (Nn die s k o l):=by
 simp only[pap,L0,ru,map_cons,map_append,map_map,Function.comp_def,pn_s,pn_o h.ne,pn_none,List.singleton_append,cons_append,nil_append]
abbrev frP(die:List Nat)(s k o l:Nat)(s8 s9 s10 s11:DV.Slot):zV:=[.v (yk die s k o l),.v (Ym die),qI s,qI k,qI o,qI l,.v (.l (wl die s k)),.v (.l (wl die o l)),s8,s9,s10,s11]
def Ys(h:Mt die s k o l):yg [.v (yk die s k o l)]=.ok (.v (.t (pap die s k o l)),O1):=by
 have hk:=h.hk;have hl:=h.hl;have a:=w20 h h.hs (i:=k) (by omega);have b:=w20 h h.ho (i:=l) (by omega);have c:=N101 h;have e1:=JX h.ds (k:=k) (by omega);have e2:=JX h.do (k:=l) (by omega);rw[ws_list]at e1 e2;have pl:z9 [.v (nn (Pn die.sum (wN die s) k 0) (wN die s^k)),.v (nn (Pn die.sum (wN die o) l 0) (wN die o^l))]=.ok (.v (TT die s k o l),O2) :=
  zDh a.2 b.2 (mul_pos a.2 b.2) (lB (P60 h h.hs (by omega) (zero_le _)) (by omega)) (lB (P60 h h.ho (by omega) (zero_le _)) (by omega)) (lB (mB a.1 b.1) (by omega)) rfl
 have c1:dE j7 (.comp 1 ["wait"] ["together"] [8] (.iL (.sl (.var 6) (.oS (.c (.int 1))) .oN)) (.n 0) .tTr (.call 1 (.ev (.gl (.t [.int 1,.int 1])) (.ev (.call 0 (.ev (.var 0) (.ev (.var 1) .nil))) .nil)))) (frP die s k o l (.v (TT die s k o l)) (.own [nn (Yn die s k o l) (Nn die s k o l)]) .e .e)=.ok (.own ((List.range (k-1)).map λj=>nn (Nn die s k o l-Pn die.sum (wN die s) k (j+1)*wN die o^l) (Nn die s k o l)),frP die s k o l (.v (TT die s k o l)) (.own [nn (Yn die s k o l) (Nn die s k o l)]) .e .e):=by
  refine ZD (ss:=[.v (TT die s k o l)]) (i_L (x_sl (zA rfl) (o_S x_c) o_N (wl_sl s k)) rfl) rfl rfl (λi d hd=>?_) (by simp) (by simp[cap];omega) (λx=>rfl);rw[getElem?_map,Option.map_eq_some_iff]at hd;obtain⟨j,hj,rfl⟩:=hd;obtain⟨hi,e⟩:=qG.mp hj;rw[getElem_range]at e;subst e;rw[length_range]at hi;exact⟨_,za (F:=jQ) rfl zAy (za (F:=yn) rfl (zA rfl) (zA rfl) (by_one h (j:=i+1) (by omega))) (less_nn (Yr h) (lB c (by omega)) (PV_le (by omega))),by rw[getElem?_map,getElem?_range hi];rfl⟩
 have c2:dE j7 (.comp 1 ["wait"] ["together"] [8] (.iL (.sl (.var 7) (.oS (.c (.int 1))) .oN)) (.n 0) .tTr (.call 0 (.ev (.var 0) (.ev (.var 1) .nil)))) (frP die s k o l (.v (TT die s k o l)) (.own [nn (Yn die s k o l) (Nn die s k o l)]) (.own ((List.range (k-1)).map λj=>nn (Nn die s k o l-Pn die.sum (wN die s) k (j+1)*wN die o^l) (Nn die s k o l))) .e)=.ok (.own ((List.range (l-1)).map λj=>nn (Pn die.sum (wN die o) l (j+1)*wN die s^k) (Nn die s k o l)),frP die s k o l (.v (TT die s k o l)) (.own [nn (Yn die s k o l) (Nn die s k o l)]) (.own ((List.range (k-1)).map λj=>nn (Nn die s k o l-Pn die.sum (wN die s) k (j+1)*wN die o^l) (Nn die s k o l))) .e):=by
  refine ZD (ss:=[.v (TT die s k o l)]) (i_L (x_sl (zA rfl) (o_S x_c) o_N (wl_sl o l)) rfl) rfl rfl (λi d hd=>?_) (by simp) (by simp[cap];omega) (λx=>rfl);rw[getElem?_map,Option.map_eq_some_iff]at hd;obtain⟨j,hj,rfl⟩:=hd;obtain⟨hi,e⟩:=qG.mp hj;rw[getElem_range]at e;subst e;rw[length_range]at hi;exact⟨_,za (F:=yn) rfl (zA rfl) (zA rfl) (zGn h (j:=i+1) (by omega)),by rw[getElem?_map,getElem?_range hi];rfl⟩
 have a1:=wn [nn (Yn die s k o l) (Nn die s k o l)] ((List.range (k-1)).map λj=>nn (Nn die s k o l-Pn die.sum (wN die s) k (j+1)*wN die o^l) (Nn die s k o l)) (by simp;omega);have a2:=wn ([nn (Yn die s k o l) (Nn die s k o l)]++((List.range (k-1)).map λj=>nn (Nn die s k o l-Pn die.sum (wN die s) k (j+1)*wN die o^l) (Nn die s k o l))) ((List.range (l-1)).map λj=>nn (Pn die.sum (wN die o) l (j+1)*wN die s^k) (Nn die s k o l)) (by simp;omega);rw[<- pap_is h]at a2;refine ye (r:=.v (.t (pap die s k o l))) (E1:=frP die s k o l (.v (TT die s k o l)) (.v (.l [nn (Yn die s k o l) (Nn die s k o l)])) (.v (.l ((List.range (k-1)).map λj=>nn (Nn die s k o l-Pn die.sum (wN die s) k (j+1)*wN die o^l) (Nn die s k o l)))) (.v (.l ((List.range (l-1)).map λj=>nn (Pn die.sum (wN die o) l (j+1)*wN die s^k) (Nn die s k o l))))) ?_ rfl;refine zI (Zq (ze (F:=yQ) rfl (zA rfl) (zAC h))) ?_;refine zI (G9 (zA rfl) rfl) ?_;refine zI (E1:=frP die s k o l .e .e .e .e) (zDT (zB (yi (F:=yc) rfl (zA rfl) (zA rfl) (zA rfl) e1) (zB (yi (F:=yc) rfl (zA rfl) (zA rfl) (zA rfl) e2) zG)) rfl) ?_;refine zI (E1:=frP die s k o l (.v (TT die s k o l)) .e .e .e) (zw (za (F:=z9) rfl (yh (zA rfl) x_c (wl_0 hk.1)) (yh (zA rfl) x_c (wl_0 hl.1)) pl) rfl) ?_;refine zI (E1:=frP die s k o l (.v (TT die s k o l)) (.own [nn (Yn die s k o l) (Nn die s k o l)]) .e .e) (zw (Je (zB (za (F:=yn) rfl (yh (zA rfl) x_c (wl_0 hl.1)) (zA rfl) (zGn h (j:=0) (zero_le _))) zG) rfl wA) rfl) ?_;refine zI (zw c1 rfl) (zI (zw c2 rfl) ?_);exact zU (yH (jr (zB (zq (zq (jX rfl rfl) (jX rfl rfl) a1) (jX rfl rfl) a2) zG) rfl))
def wt(h:Mt die s k o l):yV [.v (yk die s k o l)]=.ok (.v (nn (Yn die s k o l) (Nn die s k o l)),O1) :=
 ye (zU (yH (yh (ze (F:=yg) rfl (zA rfl) (Ys h)) x_c (ix_at (k:=0) rfl)))) rfl
abbrev MT(die:List Nat)(s k o l:Nat):D:=nn (Pn die.sum (wN die s) k 0*Pn die.sum (wN die o) l 0) (Nn die s k o l)
def Yt(h:Mt die s k o l):yx [.v (yk die s k o l)]=.ok (.v (MT die s k o l),O1):=by
 have hk:=h.hk;have hl:=h.hl;have a:=w20 h h.hs (i:=k) (by omega);have c:=N101 h;have em:=e_mean h.ds (k:=k) (by omega);rw[wS_nn (by omega)]at em;have y:Yn die s k o l<2^101:=lt_of_le_of_lt (le_add_left _ _) c;have et:zi [.v (nn (Pn die.sum (wN die s) k 0) (wN die s^k)),.v (nn (Yn die s k o l) (Nn die s k o l))]=.ok (.v (MT die s k o l),O2) :=
  zBB a.2 (Yr h) (Yr h) (lB (P60 h h.hs (by omega) (zero_le _)) (by omega)) (lB y (by omega)) (lB (mB a.1 c) (by omega)) (by unfold Yn;grind)
 exact ye (zI (Zq (ze (F:=yQ) rfl (zA rfl) (zAC h))) (zI (G9 (zA rfl) rfl) (zU (yH (za (F:=zi) rfl (yi (F:=jw) rfl (zA rfl) (zA rfl) (zA rfl) em) (ze (F:=yV) rfl (zA rfl) (wt h)) et))))) rfl
end
def N_at{r:List Nat}{i:Nat}{d:D}(h:(N r)[i]?=some d):∃t,r[i]?=some t/\d=.int (t:Nat):=by
 simp only[N,getElem?_map,Option.map_eq_some_iff]at h;obtain⟨t,e,rfl⟩:=h;exact⟨t,e,rfl⟩
def x_dzip{as:Ax}(h1:dA fs as E=.ok (rs,E1))(h2:Gy t1 t2 (rs.map R.d)=some r):dE fs (.dzip t1 t2 as) E=.ok (r,E1):=by simp only[rE_dzip,eCB,h1,h2]
def zFd(hi:dI fs it E=.ok (ds,E1))
  (h4:∀(i:Nat) (d:D),ds[i]?=some d->∃a b r,d=.t [a,b]/\dE fs el [.v a,.v b]=.ok (r,[.v a,.v b])/\rs[i]?=some r.d) (hn:rs.length=ds.length) (hc:ds.length<=cap):dE fs (.comp 2 xs ys [] it (.t [0,1]) .tTr el) E=.ok (.own rs,E1):=by
 obtain⟨res,E',e1,e2,x,y,e3,_⟩:=JJ (tg:=gT [0,1]) (tt:=Zx) (el:=dE fs el) (λk E acc=>acc=rs.take k/\∃x y,E=[x,y]/\zz x=true/\zz y=true) ds 0 [.e,.e] [] ⟨rfl,.e,.e,rfl,rfl,rfl⟩ (by simpa using hc) (λi d q E acc ⟨ha,x,y,hE,hx,hy⟩ _=>by
  rw[zero_add]at ha ⊢;obtain⟨a,b,r,rfl,e,er⟩:=h4 i d q;refine⟨[.v a,.v b],[.v a,.v b],r,[.v a,.v b],?_,rfl,e,?_,_,_,rfl,rfl,rfl⟩
  ·subst hE;cases x<;>first|(cases hx;done)|(cases y<;>first|rfl|(cases hy))
  ·rw[ha,take_add_one,er];rfl)
 rw[zero_add,<- hn,take_length]at e2;subst e2 e3;simp only[zDA,Y7];refine Y6 ?_;have e1':j0 (gT [0,1]) Zx (dE fs el) ds (replicate 2 .e++[]) []=.ok (res,[x,y]):=e1;have hb':(zg (replicate 2 DV.Slot.e++[]) [x,y]).drop 2=[]:=rfl;simp only[J4,hi,wV,zM,Tg.m,vx,e1',hb',zJ]
theorem zDp:∀L:List St,Gw (L.map kS)=some (L.map kK)
 | []=>rfl|q::L=>by simp only[map_cons,Gw,zBD,zDp L]
theorem zDq(v:St->D):∀(L A:List St),(A++L).Nodup->zAl (L.map kK) (L.map v) (A.map kK,A.map v)=((A++L).map kK,(A++L).map v)
 | [],A,_=>by simp[zAl]
 |q::L,A,h=>by
  have hq:q∉A:=λm=>(nodup_append.mp h).2.2 q m q qE rfl
  have p:=zAH v q (v q) A;rw[GE hq]at p;have e:((A++[q]).map λx=>if x=q then v q else v x)=(A++[q]).map v:=map_congr_left λx _=>by
   split
   ·rename_i c;rw[c]
   ·rfl
  rw[e]at p;have ih:=zDq v L (A++[q]) (by simpa using h);simp only[map_cons,zAl,p];rw[ih];simp
section
variable{die:List Nat}{s k o l:Nat}
def one_nn{N:Nat}(h:0<N):nn N N=.t [.int 1,.int 1]:=by
 rw[zBg,tp,bt,Nat.gcd_self,Nat.div_self h];rfl
def get_w(ht:t<die.length):die[t]?=some (wN die t):=by
 show die[t]?=some (die.getD t 0)
 rw[getD_eq_getElem?_getD,getElem?_eq_getElem ht];rfl
end
section
variable{die:List Nat}{s k o l:Nat}
def bD(s k o l:Nat)(x:St):D:=if x=some (s,k)then .int 1 else if x=some (o,l)then .int 0 else kS x
def zBG{tg:MG}{body:MS}{d:D}{ds:List D}{r:R}{E E1 E2:zV}(h1:tg d E=.ok E1)(h2:body E1=.ok (.ret r,E2)):DV.J2 tg body (d::ds) E=.ok (.ret r,E2):=by
 simp only[DV.J2,h1,h2]
def zGo{q:St}{t a m:Nat}{v:D}{s4 s5 s6:DV.Slot}(n:Nat) :
  dB jL JS [.v (yk die s k o l),.v (kS q),qI t,qI n,qI a,qI m,.v v]=.ok (if t=a then(.ret (.v (if n=m then v else .t [.int (t:Nat),.int (n:Nat)])))else .nx,[.v (yk die s k o l),.v (kS q),qI t,qI n,qI a,qI m,.v v]):=by
 have x1:=v9 t a;have x2:=v9 n m;by_cases e:t=a
 ·rw[decide_eq_true e]at x1
  rw[if_pos e];by_cases e2:n=m
  ·rw[decide_eq_true e2]at x2
   rw[if_pos e2];exact zU (ZC (t_E (yD (zA rfl) (zA rfl) x1)) (zU (yH (zDY (t_E (yD (zA rfl) (zA rfl) x2)) (zA rfl)))))
  ·rw[decide_eq_false e2]at x2
   rw[if_neg e2];exact zU (ZC (t_E (yD (zA rfl) (zA rfl) x1)) (zU (yH (zDZ (t_E (yD (zA rfl) (zA rfl) x2)) (yG (zB (zA rfl) (zB (zA rfl) zG)) rfl zP)))))
 ·rw[decide_eq_false e]at x1
  rw[if_neg e];exact zU (jT (t_E (yD (zA rfl) (zA rfl) x1)) jg)
def QJ(hne:s≠o)(q:St)(t:Nat):y3 [.v (yk die s k o l),.v (kS q),qI t]=.ok (.v (bD s k o l (nx s o q t)),O5):=by
 have xl:dE jL (.ifx (.tE (.cmp .eq (.ix (.var 1) (.c (.int 0))) (.var 2))) (.bin .add (.ix (.var 1) (.c (.int 1))) (.c (.int 1))) (.c (.int 1))) [.v (yk die s k o l),.v (kS q),qI t,.e,.e,.e,.e]=.ok (.v (.int (ln q t:Nat)),[.v (yk die s k o l),.v (kS q),qI t,.e,.e,.e,.e]):=by
  have x1:=eq_fst' q t;rw[ln_T];cases b:isT q t with
  |true=>rw[b]at x1;exact zDY (t_E (yD (yh (zA rfl) x_c (kS_0 q)) (zA rfl) x1)) (zq (yh (zA rfl) x_c (kS_1 q)) x_c (jU _ 1))|false=>rw[b]at x1;exact zDZ (t_E (yD (yh (zA rfl) x_c (kS_0 q)) (zA rfl) x1)) x_c
 generalize hn:ln q t=n at xl;have c3:∀a b c:D,[a,b,c].length<=cap:=λa b c=>by simp[cap]
 have xt:dE jL (.l (.cons (.t (.cons (.ix (.var 0) (.c (.int 1))) (.cons (.ix (.var 0) (.c (.int 2))) (.cons (.c (.int 1)) .nil)))) (.cons (.t (.cons (.ix (.var 0) (.c (.int 3))) (.cons (.ix (.var 0) (.c (.int 4))) (.cons (.c (.int 0)) .nil)))) .nil))) [.v (yk die s k o l),.v (kS q),qI t,qI n,.e,.e,.e]=.ok (.own [.t [.int (s:Nat),.int (k:Nat),.int 1],.t [.int (o:Nat),.int (l:Nat),.int 0]],[.v (yk die s k o l),.v (kS q),qI t,qI n,.e,.e,.e]) :=
  Je (zB (yG (zB (yh (r:=.v (.int (s:Nat))) (zA rfl) x_c rfl) (zB (yh (r:=.v (.int (k:Nat))) (zA rfl) x_c rfl) (zB x_c zG))) rfl (c3 _ _ _)) (zB (yG (zB (yh (r:=.v (.int (o:Nat))) (zA rfl) x_c rfl) (zB (yh (r:=.v (.int (l:Nat))) (zA rfl) x_c rfl) (zB x_c zG))) rfl (c3 _ _ _)) zG)) rfl zP
 have g1:gT [4,5,6] (.t [.int (s:Nat),.int (k:Nat),.int 1]) [.v (yk die s k o l),.v (kS q),qI t,qI n,.e,.e,.e]=.ok [.v (yk die s k o l),.v (kS q),qI t,qI n,qI s,qI k,.v (.int 1)]:=rfl;have g2:gT [4,5,6] (.t [.int (o:Nat),.int (l:Nat),.int 0]) [.v (yk die s k o l),.v (kS q),qI t,qI n,qI s,qI k,.v (.int 1)]=.ok [.v (yk die s k o l),.v (kS q),qI t,qI n,qI o,qI l,.v (.int 0)]:=rfl;have b1:=zGo (die:=die) (s:=s) (k:=k) (o:=o) (l:=l) (q:=q) (t:=t) (a:=s) (m:=k) (v:=.int 1) (s4:=.e) (s5:=.e) (s6:=.e) n;have b2:=zGo (die:=die) (s:=s) (k:=k) (o:=o) (l:=l) (q:=q) (t:=t) (a:=o) (m:=l) (v:=.int 0) (s4:=.e) (s5:=.e) (s6:=.e) n;unfold nx;rw[hn];by_cases e1:t=s
 ·subst e1
  rw[if_pos rfl]at b1;have k1:bD t k o l (some (t,n))=if n=k then .int 1 else .t [.int (t:Nat),.int (n:Nat)]:=by
   unfold bD;have:¬(some (t,n):St)=some (o,l):=λe=>by cases e;exact hne rfl
   rw[if_neg this];by_cases e:n=k
   ·rw[if_pos e,if_pos (by rw[e])]
   ·rw[if_neg e,if_neg λz=>by cases z;exact e rfl];rfl
  rw[if_pos (.inl rfl),k1];exact ye (zI (zw xl rfl) (Wy (Ju (tg:=.t [4,5,6]) xt rfl (zBG g1 b1)))) rfl
 ·rw[if_neg e1]at b1
  by_cases e2:t=o
  ·subst e2
   rw[if_pos rfl]at b2;have k1:bD s k t l (some (t,n))=if n=l then .int 0 else .t [.int (t:Nat),.int (n:Nat)]:=by
    unfold bD;have:¬(some (t,n):St)=some (s,k):=λe=>by cases e;exact hne rfl
    rw[if_neg this];by_cases e:n=l
    ·rw[if_pos e,if_pos (by rw[e])]
    ·rw[if_neg e,if_neg λz=>by cases z;exact e rfl];rfl
   rw[if_pos (.inr rfl),k1];exact ye (zI (zw xl rfl) (Wy (Ju (tg:=.t [4,5,6]) xt rfl (JW g1 b1 (zBG g2 b2))))) rfl
  ·rw[if_neg e2]at b2
   rw[if_neg λz=>z.elim e1 e2];have k1:bD s k o l none=.t [.non,.int 0]:=rfl;rw[k1];exact ye (zI (zw xl rfl) (zI (Ju (tg:=.t [4,5,6]) xt rfl (JW g1 b1 (JW g2 b2 zA5))) (zU (yH (yG (zB x_c (zB x_c zG)) rfl zP))))) rfl
end
def QK(h:Mt die s k o l):jf [.v (yk die s k o l)]=.ok (.v (.l (SL s k o l)),O1):=by
 have hk:=h.hk;have hl:=h.hl;have bd:∀(L:List D) (t m:Nat) (s2 s3:DV.Slot),L.length<=10->m<=6->dB zj y1 [.v (yk die s k o l),.own L,qI t,qI m]=.ok (.nx,[.v (yk die s k o l),.own (L++SP t (m-1)),qI t,qI m]):=by
  intro L t m s2 s3 hL hm;have c1:dE zj (.comp 1 ["_law_length"] ["_law_sign"] [2] (.iR2 (.cons (.c (.int 1)) (.cons (.var 3) .nil))) (.n 0) .tTr (.t (.cons (.var 1) (.cons (.var 0) .nil)))) [.v (yk die s k o l),.v (.l L),qI t,qI m]=.ok (.own (SP t (m-1)),[.v (yk die s k o l),.v (.l L),qI t,qI m]) :=
   jp (ds:=zK 1 (m-1)) (vs:=[.int (t:Nat)]) (λd=>.t [.int (t:Nat),d]) (rng hm (zA rfl)) rfl (λd _=>⟨_,yG (zB (zA rfl) (zB (zA rfl) zG)) rfl zP,rfl⟩) (by rw[jG];simp only[cap];omega) rfl
  have a1:=wn L (SP t (m-1)) (by rw[QE];omega);exact zU (zw (zq (jX rfl rfl) c1 a1) rfl)
 have f2:DV.J2 (gT [2,3]) (dB zj y1) [.t [.int (o:Nat),.int (l:Nat)]] [.v (yk die s k o l),.own ([.t [.non,.int 0]]++SP s (k-1)),qI s,qI k]=.ok (.nx,[.v (yk die s k o l),.own (SL s k o l),qI o,qI l]):=by
  have g1:gT [2,3] (.t [.int (o:Nat),.int (l:Nat)]) [.v (yk die s k o l),.own ([.t [.non,.int 0]]++SP s (k-1)),qI s,qI k]=.ok [.v (yk die s k o l),.own ([.t [.non,.int 0]]++SP s (k-1)),qI o,qI l]:=rfl;have q:([D.t [.non,.int 0]]++SP s (k-1)).length<=10:=by rw[length_append,QE];simp only[List.length_singleton];omega
  have g2:=bd ([D.t [.non,.int 0]]++SP s (k-1)) o l .e .e q hl.2;have g3:=JW (tg:=gT [2,3]) (ds:=[]) g1 g2 zA5;exact g3
 have f:DV.J2 (gT [2,3]) (dB zj y1) [.t [.int (s:Nat),.int (k:Nat)],.t [.int (o:Nat),.int (l:Nat)]] [.v (yk die s k o l),.own [.t [.non,.int 0]],.e,.e]=.ok (.nx,[.v (yk die s k o l),.own (SL s k o l),qI o,qI l]):=by
  have g1:gT [2,3] (.t [.int (s:Nat),.int (k:Nat)]) [.v (yk die s k o l),.own [.t [.non,.int 0]],.e,.e]=.ok [.v (yk die s k o l),.own [.t [.non,.int 0]],qI s,qI k]:=rfl;exact JW g1 (bd [.t [.non,.int 0]] s k .e .e (by simp) hk.2) f2
 have xs:∀(q:Int) (d:D),ixD (yk die s k o l) (.int q)=some (.v d)->dE zj (.ix (.var 0) (.c (.int q))) [.v (yk die s k o l),.own [.t [.non,.int 0]],.e,.e]=.ok (.v d,[.v (yk die s k o l),.own [.t [.non,.int 0]],.e,.e]):=λq d e=>yh (zA rfl) x_c e
 have i1:dE zj (.t (.cons (.ix (.var 0) (.c (.int 1))) (.cons (.ix (.var 0) (.c (.int 2))) .nil))) [.v (yk die s k o l),.own [.t [.non,.int 0]],.e,.e]=.ok (.v (.t [.int (s:Nat),.int (k:Nat)]),[.v (yk die s k o l),.own [.t [.non,.int 0]],.e,.e]):=yG (zB (xs 1 (.int (s:Nat)) rfl) (zB (xs 2 (.int (k:Nat)) rfl) zG)) rfl zP;have i2:dE zj (.t (.cons (.ix (.var 0) (.c (.int 3))) (.cons (.ix (.var 0) (.c (.int 4))) .nil))) [.v (yk die s k o l),.own [.t [.non,.int 0]],.e,.e]=.ok (.v (.t [.int (o:Nat),.int (l:Nat)]),[.v (yk die s k o l),.own [.t [.non,.int 0]],.e,.e]):=yG (zB (xs 3 (.int (o:Nat)) rfl) (zB (xs 4 (.int (l:Nat)) rfl) zG)) rfl zP;have i3:dE zj (.l (.cons (.t (.cons (.c .non) (.cons (.c (.int 0)) .nil))) .nil)) [.v (yk die s k o l),.e,.e,.e]=.ok (.own [.t [.non,.int 0]],[.v (yk die s k o l),.e,.e,.e]):=Je (zB (yG (zB x_c (zB x_c zG)) rfl zP) zG) rfl wA;exact ye (E1:=[.v (yk die s k o l),.v (.l (SL s k o l)),qI o,qI l]) (zI (zw i3 rfl) (zI (Ju (tg:=.t [2,3]) (Je (zB i1 (zB i2 zG)) rfl zP) rfl f) (zU (yH (jX (ds:=SL s k o l) rfl rfl))))) rfl
def WB(t:Int)(b:Nat)(h0:0<b)(hb:b<Big):zm [.v (.int t),.v (.int b)]=.ok (.v (nrm t b),O2):=by
 have g0:0<t.natAbs.gcd b:=Nat.gcd_pos_of_pos_right _ h0;have g1:t.natAbs.gcd b<Big:=lt_of_le_of_lt (le_of_dvd h0 (gcd_dvd_right _ _)) hb;rw[v8]at hb;have w:=u7 (c:=dT wg (.tE (.cmp .ne (.var 3) (.c (.int 0))))) (bd:=dB wg Jq) (λa c=>[.v (.int t),qI b,qI a,qI c])
  (λa b=>t_E (yD (zA rfl) x_c (by
   show neG (.int (b:Int)) (.int 0)=_
   rw[ne_int];by_cases z:b=0
   ·subst z;rfl
   ·have:¬(b:Int)=0:=by omega
    simp[z])))
  (λa b h=>zU (zDT (zB (zA rfl) (zB (zq (zA rfl) (zA rfl) (zAD a b h)) zG)) rfl)) 4000 1000000 t.natAbs b hb (by decide)
 have l:ltD (.int (b:Int)) (.int 0)=some (.v (.bl false)):=by simp[ltD,zCY]
 have d1:=Z9 t _ g0 g1;have d2:=Z9 b _ g0 g1;rw[zA7]at d2;exact ye (zI (E1:=[.v (.int t),qI b,.v (.int (t.natAbs:Nat)),qI b]) (zDT (zB (jr (zB (zA rfl) zG) (zAE t)) (zB (jr (zB (zA rfl) zG) (zDe b)) zG)) rfl) (zI (E1:=[.v (.int t),qI b,.v (.int ((t.natAbs.gcd b:Nat):Int)),qI (0)]) (Q9 w) (zI (jT (t_E (yD (zA rfl) x_c l)) jg) (zU (yH (yG (zB (zq (zA rfl) (zA rfl) d1) (zB (zq (zA rfl) (zA rfl) d2) zG)) rfl zP)))))) rfl
open GJ in
def lBq(h:n<=2^m)(hm:m<4000):n<Big:=by
 rw[v8];exact lt_of_le_of_lt h (Nat.pow_lt_pow_right (by omega) hm)
def lBq2(h:a<=2^m)(h2:b<=2^n)(hm:m+n<4000):a*b<Big:=by
 refine lBq (m:=m+n) ?_ hm;rw[pow_add];exact mul_le_mul h h2
def zDr(ha:GJ.Bq a m)(hb:GJ.Bq b n)(hm:m+n<4000):jh [.v (sh a),.v (sh b)]=.ok (.v (sh (a+b)),O2):=zGj (fs:=Wq) (F:=zm) rfl WB (lBq ha.1 (by omega)) (lBq hb.1 (by omega)) (lBq2 ha.2 hb.2 hm)
def GF(ha:GJ.Bq a m)(hb:GJ.Bq b n)(hm:m+n<4000):yo [.v (sh a),.v (sh b)]=.ok (.v (sh (a*b)),O2):=zDg (fs:=Ye) (F:=zm) rfl WB (lBq ha.1 (by omega)) (lBq hb.1 (by omega)) (lBq2 ha.2 hb.2 hm)
def zBH(ha:GJ.Bq a m)(hb:GJ.Bq b n):GJ.Bq (a*b) (m+n):=by
 rw[Rat.mul_def,Rat.normalize_eq];refine⟨le_trans (Int.natAbs_ediv_le_natAbs _ _) ?_,le_trans (div_le_self _ _) ?_⟩
 ·rw[Int.natAbs_mul,pow_add];exact mul_le_mul ha.1 hb.1
 ·rw[pow_add];exact mul_le_mul ha.2 hb.2
def zDs(ha:GJ.Bq a m):GJ.Bq (-a) m:=⟨by rw[Rat.neg_num,Int.natAbs_neg];exact ha.1,by rw[Rat.neg_den];exact ha.2⟩
def zGp(ha:GJ.Bq a m)(hp:0<a.num)(hm:m<4000):zm [.v (.int (a.den:Nat)),.v (.int a.num)]=.ok (.v (sh (1/a)),O2)/\GJ.Bq (1/a) m:=by
 obtain⟨n,hn⟩:∃n:Nat,a.num=n:=⟨a.num.toNat,by omega⟩;have hn0:0<n:=by omega
 have h1:n<=2^m:=by have:=ha.1;rw[hn]at this;simpa using this
 have es:=WB (a.den:Nat) n hn0 (lBq h1 hm);have e:(1:Rat)/a=(((a.den:Int)):Rat)/((n:Int):Rat):=by
  have e1:a=(a.num:Rat)/((a.den:Int):Rat):=by
   have:=Rat.mkRat_self a;rw[<- Rat.divInt_eq_div];exact this.symm
  have h2:((n:Int):Rat)≠0:=GJ.rc (by omega);have h3:(((a.den:Int)):Rat)≠0:=GJ.rc (by have:=a.den_pos;omega);rw[hn]at e1;generalize (((a.den:Int)):Rat)=d at *;generalize ((n:Int):Rat)=t at *;rw[e1]
  grind
 rw[nrm_q _ hn0,<- e]at es;refine⟨by rw[hn];exact es,GJ.Bq_of (a:=(a.den:Int)) (b:=(n:Int)) (by omega) e ?_ ?_⟩
 ·show((a.den:Int)).natAbs<=2^m;simpa using ha.2
 ·show((n:Int)).natAbs<=2^m;simpa using h1
section
variable{die:List Nat}{s k o l g q:Nat}
def psy(die:List Nat)(s k o l g q:Nat):GJ.Sy:=⟨wN die s,wN die o,(die.sum:Int)-wN die s-wN die o,k,l,g,q⟩
def psy_s:(psy die s k o l g q).s=(die.sum:Int):=by show((wN die s:Nat):Int)+(wN die o:Nat)+((die.sum:Int)-wN die s-wN die o)=_;omega
def W2:(psy die s k o l g q).n=k+l-1:=rfl
def AB_le(h:Mt die s k o l):wN die s+wN die o<=die.sum:=by
 have:=QI h (λt=>if t=s\/t=o then 0 else 1) 1 (λt _ a b=>by show(if t=s\/t=o then 0 else 1)=1;rw[if_neg (λz=>z.elim a b)]);simp at this;show die.getD s 0+die.getD o 0<=_;rw[getD_eq_getElem?_getD,getD_eq_getElem?_getD];omega
def QL(h:Mt die s k o l)(hg:g<=1)(hq:q<=1):(psy die s k o l g q).Ok:=by
 have h1:=QH h h.hs;have h2:=QH h h.ho;have h3:=AB_le h;have h4:=h.ds.S27;refine⟨?_,?_,?_,?_,h.hk,h.hl,?_,?_⟩
 ·show(0:Int)<(wN die s:Nat);omega
 ·show(0:Int)<(wN die o:Nat);omega
 ·show(0:Int)<=(die.sum:Int)-wN die s-wN die o;omega
 ·show((wN die s:Nat):Int)+(wN die o:Nat)+((die.sum:Int)-wN die s-wN die o)<=27;omega
 ·show(0:Int)<=(g:Nat)/\((g:Nat):Int)<=1;omega
 ·show(0:Int)<=(q:Nat)/\((q:Nat):Int)<=1;omega
def ps(s k:Nat):St->Nat
 |none=>0|some (t,m)=>if t=s then m else k-1+m
def wK:(L0 s k o l).length=1+(k-1)+(l-1):=by simp[L0,ru];omega
def zFe(hk:1<=k)(hi:i<k+l-1):(L0 s k o l)[i]?=some (if i=0 then none else if i<k then some (s,i)else some (o,i-k+1)):=by
 cases i with
 |zero=>rfl
 |succ i =>
  show(ru s (k-1)++ru o (l-1))[i]?=_
  rw[if_neg (by omega)];by_cases c:i+1<k
  ·rw[if_pos c,getElem?_append_left (by simp[ru];omega)]
   simp only[ru,getElem?_map,getElem?_range (show i<k-1 by omega),Option.map_some]
  ·rw[if_neg c,getElem?_append_right (by simp[ru];omega)]
   have e:i-(ru s (k-1)).length=i-(k-1):=by simp[ru]
   rw[e];simp only[ru,getElem?_map,getElem?_range (show i-(k-1)<l-1 by omega),Option.map_some];congr 3;omega
def QM(h:Mt die s k o l)(hx:x∈L0 s k o l):ps s k x<k+l-1/\(L0 s k o l)[ps s k x]?=some x:=by
 have hk:=h.hk;have hl:=h.hl;have hne:=h.ne;rcases mem_cons.mp hx with rfl|hx
 ·exact⟨by show 0<_;omega,rfl⟩
 rcases mem_append.mp hx with hx|hx
 ·obtain⟨j,h1,h2,rfl⟩:=wJ.mp hx
  have e:ps s k (some (s,j))=j:=if_pos rfl;rw[e];exact⟨by omega,by rw[zFe hk.1 (by omega),if_neg (by omega),if_pos (by omega)]⟩
 ·obtain⟨j,h1,h2,rfl⟩:=wJ.mp hx
  have e:ps s k (some (o,j))=k-1+j:=if_neg (λz=>hne z.symm);rw[e];refine⟨by omega,?_⟩;rw[zFe hk.1 (by omega),if_neg (by omega),if_neg (by omega)];congr 3;omega
def zBi(h:Mt die s k o l)(hi:i<k+l-1):∃x,(L0 s k o l)[i]?=some x/\x∈L0 s k o l/\ps s k x=i:=by
 have e:=zFe (s:=s) (o:=o) (l:=l) h.hk.1 hi;refine⟨_,e,mem_of_getElem? e,?_⟩;by_cases c:i=0
 ·subst c;rw[if_pos rfl];rfl
 ·rw[if_neg c]
  by_cases d:i<k
  ·rw[if_pos d];exact if_pos rfl
  ·rw[if_neg d]
   show(if o=s then _ else _)=_
   rw[if_neg (λz=>h.ne z.symm)];have:=h.hk;omega
def vS(s k o l g:Nat)(U:Nat->Int)(x:St):Int:=if x=some (s,k)then -((g:Int)*U (k+l-1))else if x=some (o,l)then 0 else U (ps s k x)
def vS_av(hne:s≠o)(U:Nat->Int)(hm:m<=k):vS s k o l g U (some (s,m))=(psy die s k o l g q).av U m:=by
 unfold vS GJ.Sy.av;have e2:¬(some (s,m):St)=some (o,l):=λz=>by cases z;exact hne rfl
 by_cases c:m<k
 ·have e1:¬(some (s,m):St)=some (s,k):=λz=>by cases z;omega
  rw[if_neg e1,if_neg e2,if_pos (show m<(psy die s k o l g q).k from c)];show U (if s=s then m else _)=_;rw[if_pos rfl]
 ·have:m=k:=by omega
  subst this;rw[if_pos rfl,if_neg (show ¬m<(psy die s m o l g q).k from c)];rfl
def vS_bv(hne:s≠o)(U:Nat->Int)(hm:m<=l):vS s k o l g U (some (o,m))=(psy die s k o l g q).bv U m:=by
 unfold vS GJ.Sy.bv;have e1:¬(some (o,m):St)=some (s,k):=λz=>by cases z;exact hne rfl
 rw[if_neg e1];by_cases c:m<l
 ·have e2:¬(some (o,m):St)=some (o,l):=λz=>by cases z;omega
  rw[if_neg e2,if_pos (show m<(psy die s k o l g q).l from c)];show U (if o=s then m else _)=_;rw[if_neg (λz=>hne z.symm)];rfl
 ·have:m=l:=by omega
  subst this;rw[if_pos rfl,if_neg (show ¬m<(psy die s k o m g q).l from c)]
def L_sum(h:Mt die s k o l)(U:Nat->Int)(hi:i<k+l-1)(hx:(L0 s k o l)[i]?=some x):(psy die s k o l g q).L i U=(die.sum:Int)*U i+(die.sum:Int)*q*U (k+l-1)-((List.range die.length).map λt=>(wN die t:Int)*vS s k o l g U (nx s o x t)).sum:=by
 have hk:=h.hk;have hl:=h.hl;have hne:=h.ne;rw[uA h (λt=>vS s k o l g U (nx s o x t)) (U 0) (λt _ a b=>by
  show vS s k o l g U (nx s o x t)=U 0
  have:nx s o x t=none:=if_neg (λz=>z.elim a b);rw[this];rfl)]
 have ns:nx s o x s=some (s,ln x s):=if_pos (.inl rfl);have no:nx s o x o=some (o,ln x o):=if_pos (.inr rfl);rw[ns,no];rw[zFe hk.1 hi]at hx;unfold GJ.Sy.L;rw[psy_s];by_cases c:i<k
 ·have e1:ln x s=i+1:=by
   cases hx;by_cases d:i=0
   ·subst d;rfl
   ·rw[if_neg d,if_pos c];exact if_pos rfl
  have e2:ln x o=1:=by
   cases hx;by_cases d:i=0
   ·subst d;rfl
   ·rw[if_neg d,if_pos c];exact if_neg (λz=>hne z)
  rw[e1,e2,vS_av (die:=die) (q:=q) hne U (by omega),vS_bv (die:=die) (q:=q) hne U (by omega),if_pos (show i<(psy die s k o l g q).k from c)];show _-((wN die s:Nat):Int)*_-((wN die o:Nat):Int)*_-((die.sum:Int)-wN die s-wN die o)*_+(die.sum:Int)*(q:Int)*U (k+l-1)=_;omega
 ·have e1:ln x s=1:=by
   cases hx;rw[if_neg (by omega),if_neg c];exact if_neg (λz=>hne z.symm)
  have e2:ln x o=i-k+2:=by
   cases hx;rw[if_neg (by omega),if_neg c];exact if_pos rfl
  rw[e1,e2,vS_av (die:=die) (q:=q) hne U (by omega),vS_bv (die:=die) (q:=q) hne U (by omega),if_neg (show ¬i<(psy die s k o l g q).k from c)];show _-((wN die s:Nat):Int)*_-((wN die o:Nat):Int)*_-((die.sum:Int)-wN die s-wN die o)*_+(die.sum:Int)*(q:Int)*U (k+l-1)=_;have:(psy die s k o l g q).k=k:=rfl;rw[this];omega
end
def upd(r:Nat->Rat)(p:Nat)(e:Rat):Nat->Rat:=λx=>if x=p then r x+e else r x
theorem zAJ(r:Nat->Rat)(p:Nat)(e:Rat)(u:Nat->Rat):∀m,GJ.dot (upd r p e) u m=GJ.dot r u m+if p<m then e*u p else 0
 |0=>by simp only[GJ.dot];rw[if_neg (by omega)];grind
 |m+1=>by
  simp only[GJ.dot];rw[zAJ r p e u m];unfold upd;by_cases c:m=p
  ·subst c;rw[if_pos rfl,if_neg (by omega),if_pos (by omega)];grind
  ·rw[if_neg c]
   by_cases d:p<m
   ·rw[if_pos d,if_pos (by omega)];grind
   ·rw[if_neg d,if_neg (by omega)];grind
section
variable{die:List Nat}{s k o l g q:Nat}
def cR(die:List Nat)(t:Nat):Rat:=((wN die t:Int):Rat)/((die.sum:Int):Rat)
def pp(s k o l:Nat)(x:St)(t:Nat):Nat:=if nx s o x t=some (s,k)\/nx s o x t=some (o,l)then k+l-1 else ps s k (nx s o x t)
def ee(die:List Nat)(s k o l g:Nat)(x:St)(t:Nat):Rat:=if nx s o x t=some (s,k)then cR die t*((g:Int):Rat)else if nx s o x t=some (o,l)then cR die t*((0:Int):Rat)else -(cR die t)
def zDt(n i q:Nat):Nat->Rat:=λy=>if y=n then((q:Int):Rat)else if y=i then 1 else 0
def Yw(die:List Nat)(s k o l g q:Nat)(x:St)(i:Nat):Nat->Nat->Rat
 |0=>zDt (k+l-1) i q|t+1=>upd (Yw die s k o l g q x i t) (pp s k o l x t) (ee die s k o l g x t)
theorem GG(hi:i<n)(u:Nat->Rat):∀m,m<=n+1->GJ.dot (zDt n i q) u m=(if i<m then u i else 0)+if n<m then((q:Int):Rat)*u n else 0
 |0,_=>by simp only[GJ.dot];rw[if_neg (by omega),if_neg (by omega)];grind
 |m+1,hm=>by
  simp only[GJ.dot];rw[GG hi u m (by omega),if_neg (show ¬n<m by omega)];unfold zDt;by_cases c:m=n
  ·subst c;rw[if_pos rfl,if_pos hi,if_pos (by omega),if_pos (by omega)];grind
  ·rw[if_neg c,if_neg (show ¬n<m+1 by omega)]
   by_cases d:m=i
   ·subst d;rw[if_pos rfl,if_neg (by omega),if_pos (by omega)];grind
   ·rw[if_neg d]
    by_cases e:i<m
    ·rw[if_pos e,if_pos (by omega)];grind
    ·rw[if_neg e,if_neg (by omega)];grind
def pp_lt(h:Mt die s k o l)(hx:x∈L0 s k o l)(t:Nat):pp s k o l x t<=k+l-1:=by
 unfold pp;split
 ·exact le_refl _
 ·rename_i c
  have:=zDm h hx t;exact le_of_lt (QM h (this.resolve_right c)).1
def S_rc(h:Mt die s k o l):((die.sum:Int):Rat)≠0:=GJ.rc (by have:=h.ds.S27;omega)
def zFf(h:Mt die s k o l)(U:Nat->Int)(t:Nat):((die.sum:Int):Rat)*(ee die s k o l g x t*(U (pp s k o l x t):Rat))=((-((wN die t:Int)*vS s k o l g U (nx s o x t)):Int):Rat):=by
 have hS:=S_rc h;unfold ee pp vS cR;by_cases c:nx s o x t=some (s,k)
 ·rw[if_pos c,if_pos (.inl c),if_pos c,Rat.intCast_neg,Rat.intCast_mul,Rat.intCast_neg,Rat.intCast_mul]
  grind
 ·by_cases d:nx s o x t=some (o,l)
  ·rw[if_neg c,if_pos d,if_pos (.inr d),if_neg c,if_pos d,Rat.intCast_neg,Rat.intCast_mul]
   have:((0:Int):Rat)=0:=by simp
   rw[this];grind
  ·rw[if_neg c,if_neg d,if_neg (λz=>z.elim c d),if_neg c,if_neg d,Rat.intCast_neg,Rat.intCast_mul]
   grind
theorem zBI(h:Mt die s k o l)(U:Nat->Int)(hx:x∈L0 s k o l)(hi:i<k+l-1):∀t,((die.sum:Int):Rat)*GJ.dot (Yw die s k o l g q x i t) (λy=>(U y:Rat)) (k+l-1+1)=(((die.sum:Int)*U i+(die.sum:Int)*q*U (k+l-1)-((List.range t).map λt=>(wN die t:Int)*vS s k o l g U (nx s o x t)).sum:Int):Rat)
 |0=>by
  simp only[Yw];rw[GG hi _ _ (le_refl _),if_pos (by omega),if_pos (by omega)];simp only[List.range_zero,map_nil,List.sum_nil,Int.sub_zero];rw[Rat.intCast_add,Rat.intCast_mul,Rat.intCast_mul,Rat.intCast_mul]
  grind
 |t+1=>by
  simp only[Yw];rw[zAJ,if_pos (by have:=pp_lt h hx t;omega),Rat.mul_add,zBI h U hx hi t,zFf h U t,<- Rat.intCast_add];congr 1;rw[range_succ,map_append,sum_append];simp only[map_cons,map_nil,sum_cons,List.sum_nil];omega
def MM(die:List Nat)(s k o l g q:Nat)(i:Nat):Nat->Rat:=Yw die s k o l g q ((L0 s k o l).getD i none) i die.length
def W4(h:Mt die s k o l):GJ.Rows (psy die s k o l g q) (MM die s k o l g q):=λi hi U=>by
 obtain⟨x,e1,e2,e3⟩:=zBi h (show i<k+l-1 from hi);have e:(L0 s k o l).getD i none=x:=by rw[getD_eq_getElem?_getD,e1];rfl
 unfold MM;rw[e,psy_s,L_sum h U hi e1];exact zBI h U e2 hi die.length
theorem zGq(h:Mt die s k o l)(hg:g<=1)(hq:q<=1)(x:St)(i y:Nat):∀t,t<=3->∃N:Int,Yw die s k o l g q x i t y=(N:Rat)/((die.sum:Int):Rat)/\N.natAbs<=27*(t+1)
 |0,_=>by
  have hS:=S_rc h;have hs:=h.ds.S27;simp only[Yw,zDt];by_cases c:y=k+l-1
  ·rw[if_pos c]
   refine⟨(q:Int)*(die.sum:Int),by rw[Rat.intCast_mul];grind,?_⟩;rw[Int.natAbs_mul];have:q*die.sum<=1*27:=mul_le_mul hq hs.2;simpa using this
  ·rw[if_neg c]
   by_cases d:y=i
   ·rw[if_pos d];exact⟨(die.sum:Int),by grind,by simpa using hs.2⟩
   ·rw[if_neg d];exact⟨0,by rw[GJ.z_div],by simp⟩
 |t+1,ht=>by
  have hS:=S_rc h;obtain⟨N,e,b⟩:=zGq h hg hq x i y t (by omega);simp only[Yw,upd];have hw:wN die t<=9:=by
   by_cases c:t<die.length
   ·exact(QH h c).2.1
   ·show die.getD t 0<=9
    rw[getD_eq_getElem?_getD,getElem?_eq_none (by omega)];simp
  split
  ·rw[e]
   unfold ee cR;split
   ·refine⟨N+(wN die t:Int)*(g:Int),by rw[Rat.intCast_add,Rat.intCast_mul];grind,?_⟩
    have h1:=Int.natAbs_add_le N ((wN die t:Int)*(g:Int));have h2:((wN die t:Int)*(g:Int)).natAbs<=9*1:=by rw[Int.natAbs_mul];exact mul_le_mul (by simpa using hw) (by simpa using hg)
    omega
   ·split
    ·refine⟨N,?_,by omega⟩
     have:((0:Int):Rat)=0:=by simp
     rw[this];grind
    ·refine⟨N-(wN die t:Int),by rw[Rat.intCast_sub];grind,by omega⟩
  ·exact⟨N,e,by omega⟩
def rowF_q(h:Mt die s k o l)(hg:g<=1)(hq:q<=1)(x:St)(i y:Nat)(ht:t<=3):GJ.Bq (Yw die s k o l g q x i t y) 60:=by
 obtain⟨N,e,b⟩:=zGq h hg hq x i y t ht;have hs:=h.ds.S27;refine GJ.Bq_of (by omega) e ?_ ?_
 ·show N.natAbs<=2^60;omega
 ·show((die.sum:Int)).natAbs<=2^60;omega
def cR_q(h:Mt die s k o l)(ht:t<die.length):GJ.Bq (cR die t) 60:=by
 have hs:=h.ds.S27;have hw:=QH h ht;refine GJ.Bq_of (by omega) rfl ?_ ?_
 ·show((wN die t:Int)).natAbs<=2^60;omega
 ·show((die.sum:Int)).natAbs<=2^60;omega
end
def x_idxK(h1:dE fs a E=.ok (r1,E1))(hd:r1.d=.l ds)(h2:dE fs b E1=.ok (r2,E2))(h3:idxK (.l ds) r2.d=some r):dE fs (.idxK a b) E=.ok (r,E2):=by
 simp only[Wg,rE_idxK,eMet,h1,hd,h2,h3]
def W5(h:i<n):ixN n (i:Int)=some i:=by
 unfold ixN;rw[if_pos (by omega),if_pos (by omega)];simp
abbrev rwL(n:Nat)(r:Nat->Rat):List D:=(List.range (n+1)).map λy=>sh (r y)
def JY(n:Nat)(r:Nat->Rat):(rwL n r).length=n+1:=by simp
def zDu(r:Nat->Rat)(h:y<=n):atI (rwL n r) (y:Int)=some (sh (r y)):=Zr (by rw[getElem?_map,getElem?_range (by omega)];rfl)
def zDv(r:Nat->Rat)(e:Rat)(h:p<=n):(rwL n r).set p (sh (r p+e))=rwL n (upd r p e):=by
 apply ext_getElem?;intro i;rw[List.getElem?_set];by_cases c:i<n+1
 ·rw[getElem?_map,getElem?_map,getElem?_range c]
  unfold upd;by_cases d:p=i
  ·subst d;rw[if_pos rfl,if_pos (by rw[JY];omega)];simp
  ·rw[if_neg d];simp only[Option.map_some];rw[if_neg (λz=>d z.symm)]
 ·rw[getElem?_eq_none (l:=rwL n r) (by rw[JY];omega),getElem?_eq_none (l:=rwL n (upd r p e)) (by rw[JY];omega)]
  by_cases d:p=i
  ·subst d;omega
  ·rw[if_neg d]
def zGr(c:Rat):D.t [.int (0-c.num),.int (c.den:Nat)]=sh (-c):=by
 show _=D.t [.int (-c).num,.int ((-c).den:Nat)]
 rw[Rat.neg_num,Rat.neg_den,Int.zero_sub]
def g_q(hg:g<=1):GJ.Bq (((g:Nat):Int):Rat) 1:=⟨by show((g:Int)).natAbs<=2^1;omega,by show 1<=2^1;omega⟩
section
variable{die:List Nat}{s k o l g q:Nat}
def zGs(x y:St):deq (kS x) (kS y)=decide (x=y):=by
 rw[Bool.eq_iff_iff,decide_eq_true_eq];rcases x with _|⟨a,b⟩<;>rcases y with _|⟨c,d⟩<;>simp[kS,deq,deqs,flV,eqV]<;>omega
theorem fi_K:∀(F:List St) {x:St} {i:Nat},F.Nodup->F[i]?=some x->(F.map kS).findIdx? (deq · (kS x))=some i
 | [],x,i,_,h=>by simp at h
 |y::F,x,0,_,h=>by
  simp at h;subst h
  rw[map_cons,List.findIdx?_cons];simp[zGs]
 |y::F,x,i+1,nd,h=>by
  have h':F[i]?=some x:=by simpa using h
  have ne:y≠x:=λe=>(nodup_cons.mp nd).1 (e▸mem_of_getElem? h')
  rw[map_cons,List.findIdx?_cons,zGs,decide_eq_false ne,fi_K F (nodup_cons.mp nd).2 h'];rfl
def idx_S(h:Mt die s k o l)(hx:x∈L0 s k o l):idxK (.l ((L0 s k o l).map kS)) (kS x)=some (.v (.int (ps s k x:Nat))):=by
 obtain⟨h1,h2⟩:=QM h hx;have q:∀y:St,eqb 18 (kS y)=true:=λy=>by cases y<;>rfl
 have hp:ps s k x<1000000:=by have:=h.hk;have:=h.hl;omega
 simp only[idxK,fi_K _ (L0_nd h) h2];rw[if_pos ⟨q x,by rw[List.all_map,all_eq_true];exact λy _=>q y⟩,if_pos hp]
abbrev frV(die:List Nat)(s k o l g q:Nat)(s5 s6 s7 s8 s9 s10 s11 s12 s13 s14 s15:DV.Slot):zV:=[.v (yk die s k o l),.v (.l [.int 0,.int (g:Nat)]),qI q,.v (.l ((L0 s k o l).map kS)),qI (k+l-1),s5,s6,s7,s8,s9,s10,s11,s12,s13,s14,s15]
def zFg(h:Mt die s k o l)(hg:g<=1)(hq:q<=1)(hx:x∈L0 s k o l)(ht:t<die.length)(s5 s6 s10 s11 s12 s13 s14 s15:DV.Slot)(h10:zz s10=true)(h11:zz s11=true)(h12:zz s12=true) :
  ∃t10 t11 t12,dB zE yd (frV die s k o l g q s5 s6 (.v (kS x)) (.own (rwL (k+l-1) (Yw die s k o l g q x i t))) (qI t) s10 s11 s12 s13 s14 s15)=.ok (.nx,frV die s k o l g q s5 s6 (.v (kS x)) (.own (rwL (k+l-1) (Yw die s k o l g q x i (t+1)))) (qI t) t10 t11 t12 s13 s14 s15)/\zz t10=true/\zz t11=true/\zz t12=true:=by
 have hS:=h.ds.S27;have t3:t<=3:=by rcases h.d.1 with e|e<;>omega
 have x1:=zGl (get_w ht);have es:=WB (wN die t:Nat) die.sum (by omega) (lB (m:=5) (by omega) (by omega));rw[nrm_q _ (by omega)]at es;have eb:=QJ (die:=die) (k:=k) (l:=l) h.ne x t;have hr:∀y,GJ.Bq (Yw die s k o l g q x i t y) 60:=λy=>rowF_q h hg hq x i y t3
 have hc:=cR_q h ht;have rF:Yw die s k o l g q x i (t+1)=upd (Yw die s k o l g q x i t) (pp s k o l x t) (ee die s k o l g x t):=rfl;rw[rF];have fin:∀(w g':Nat),g'<=1->bD s k o l (nx s o x t)=.int (w:Nat)->ixD (.l [.int 0,.int (g:Nat)]) (.int (w:Nat))=some (.v (.int (g':Nat)))->pp s k o l x t=k+l-1->ee die s k o l g x t=cR die t*(((g':Nat):Int):Rat)->∃t10 t11 t12,dB zE yd (frV die s k o l g q s5 s6 (.v (kS x)) (.own (rwL (k+l-1) (Yw die s k o l g q x i t))) (qI t) s10 s11 s12 s13 s14 s15)=.ok (.nx,frV die s k o l g q s5 s6 (.v (kS x)) (.own (rwL (k+l-1) (upd (Yw die s k o l g q x i t) (pp s k o l x t) (ee die s k o l g x t)))) (qI t) t10 t11 t12 s13 s14 s15)/\zz t10=true/\zz t11=true/\zz t12=true:=λw g' hg' eb' ix ep ev=>by
  rw[eb']at eb;have m1:=GF hc (g_q hg') (by omega);have m2':=zDr (hr (k+l-1)) (zBH hc (g_q hg')) (by omega);rw[ep,ev,<- zDv _ _ (le_refl _)];refine⟨.v (sh (cR die t)),.v (.int (w:Nat)),s12,?_,rfl,rfl,h12⟩;exact zI (E1:=frV die s k o l g q s5 s6 (.v (kS x)) (.own (rwL (k+l-1) (Yw die s k o l g q x i t))) (qI t) (.v (sh (cR die t))) s11 s12 s13 s14 s15) (zw (za (F:=zm) rfl (yh (yh (r:=.v (Ym die)) (zA rfl) x_c rfl) (zA rfl) x1) (jr (zB (yh (r:=.v (Ym die)) (zA rfl) x_c rfl) zG) (zFZ die)) es) (yB rfl h10 rfl)) (zI (E1:=frV die s k o l g q s5 s6 (.v (kS x)) (.own (rwL (k+l-1) (Yw die s k o l g q x i t))) (qI t) (.v (sh (cR die t))) (qI w) s12 s13 s14 s15) (zw (yi (F:=y3) rfl (zA rfl) (zA rfl) (zA rfl) eb) (yB rfl h11 rfl)) (zU (ZC (t_E (zBp (zA rfl) rfl rfl)) (zU (s_ix rfl rfl (za (F:=jh) rfl (W0 rfl (zA rfl) (zDu _ (le_refl _))) (za (F:=yo) rfl (zA rfl) (yG (zB (yh (zA rfl) (zA rfl) ix) (zB x_c zG)) rfl zP) m1) m2') (zA rfl) rfl (W5 (by rw[JY];omega)) rfl)))))
 by_cases c:nx s o x t=some (s,k)
 ·exact fin 1 g hg (if_pos c) rfl (if_pos (.inl c)) (if_pos c)
 ·by_cases d:nx s o x t=some (o,l)
  ·exact fin 0 0 (by omega) (by unfold bD;rw[if_neg c,if_pos d];rfl) rfl (if_pos (.inr d)) (by unfold ee;rw[if_neg c,if_pos d];rfl)
  ·have hy:=(zDm h hx t).resolve_right (λz=>z.elim c d)
   have eb':bD s k o l (nx s o x t)=kS (nx s o x t):=by unfold bD;rw[if_neg c,if_neg d]
   rw[eb']at eb;have ep:pp s k o l x t=ps s k (nx s o x t):=if_neg (λz=>z.elim c d);have ev:ee die s k o l g x t=-(cR die t):=by unfold ee;rw[if_neg c,if_neg d]
   have hp:=(QM h hy).1;have ix:=idx_S h hy;have m2':=zDr (hr (ps s k (nx s o x t))) (zDs hc) (by omega);rw[<- zGr]at m2';have ty:tyD (kS (nx s o x t))=some "tuple":=by cases nx s o x t<;>rfl
   rw[ep,ev,<- zDv _ _ (le_of_lt hp)];refine⟨.v (sh (cR die t)),.v (kS (nx s o x t)),.v (.int (ps s k (nx s o x t):Nat)),?_,rfl,rfl,rfl⟩;exact zI (E1:=frV die s k o l g q s5 s6 (.v (kS x)) (.own (rwL (k+l-1) (Yw die s k o l g q x i t))) (qI t) (.v (sh (cR die t))) s11 s12 s13 s14 s15) (zw (za (F:=zm) rfl (yh (yh (r:=.v (Ym die)) (zA rfl) x_c rfl) (zA rfl) x1) (jr (zB (yh (r:=.v (Ym die)) (zA rfl) x_c rfl) zG) (zFZ die)) es) (yB rfl h10 rfl)) (zI (E1:=frV die s k o l g q s5 s6 (.v (kS x)) (.own (rwL (k+l-1) (Yw die s k o l g q x i t))) (qI t) (.v (sh (cR die t))) (.v (kS (nx s o x t))) s12 s13 s14 s15) (zw (yi (F:=y3) rfl (zA rfl) (zA rfl) (zA rfl) eb) (yB rfl h11 rfl)) (zU (jT (t_E (zBp (zA rfl) ty rfl)) (zI (E1:=frV die s k o l g q s5 s6 (.v (kS x)) (.own (rwL (k+l-1) (Yw die s k o l g q x i t))) (qI t) (.v (sh (cR die t))) (.v (kS (nx s o x t))) (.v (.int (ps s k (nx s o x t):Nat))) s13 s14 s15) (zw (x_idxK (zA rfl) rfl (zA rfl) ix) (yB rfl h12 rfl)) (zU (s_ix rfl rfl (za (F:=jh) rfl (W0 rfl (zA rfl) (zDu _ (le_of_lt hp))) (yG (zB (zq x_c (yh (r:=.v (.int (cR die t).num)) (zA rfl) x_c rfl) rfl) (zB (yh (r:=.v (.int ((cR die t).den:Nat))) (zA rfl) x_c rfl) zG)) rfl zP) m2') (zA rfl) rfl (W5 (by rw[JY];omega)) rfl))))))
end
def onN(f:Nat->D):D->D
 | .int z=>f z.toNat|d=>d
def onN_map(f:Nat->D)(n:Nat):(N (List.range n)).map (onN f)=(List.range n).map f:=by
 simp only[N,map_map];exact map_congr_left λi _=>by simp[onN]
def ZH(h:vF i (.v d) E=.ok E1)(k:gNs is ds E1=.ok E2):gNs (i::is) (d::ds) E=.ok E2:=by
 show(match vF i (.v d) E with | .ok E1=>gNs is ds E1|_=>.z)=_
 rw[h];exact k
section
variable{die:List Nat}{s k o l g q:Nat}
def row0_L:((List.range n).map λy=>D.t [.int (if decide (y=i)=true then 1 else 0),.int 1])++[.t [.int (q:Nat),.int 1]]=rwL n (zDt n i q):=by
 unfold rwL;rw[range_succ,map_append];congr 1
 ·refine map_congr_left λy hy=>?_
  have:=mem_range.mp hy;unfold zDt;rw[if_neg (show ¬y=n by omega)];by_cases c:y=i
  ·rw[if_pos c,if_pos (decide_eq_true c)];rfl
  ·rw[if_neg c,if_neg (by simpa using c)];rfl
 ·show _=[sh (zDt n i q n)]
  unfold zDt;rw[if_pos rfl];rfl
inductive SI(die:List Nat)(s k o l g q:Nat)(x:St)(i:Nat)(s5 s6 s13 s14 s15:DV.Slot)(t:Nat):zV->Prop
 |mk (s9 s10 s11 s12:DV.Slot) (h9:zz s9=true) (h10:zz s10=true) (h11:zz s11=true) (h12:zz s12=true):SI die s k o l g q x i s5 s6 s13 s14 s15 t (frV die s k o l g q s5 s6 (.v (kS x)) (.own (rwL (k+l-1) (Yw die s k o l g q x i t))) s9 s10 s11 s12 s13 s14 s15)
def zFh(h:Mt die s k o l)(hg:g<=1)(hq:q<=1){x:St}(hx:x∈L0 s k o l)(i:Nat){R:List D}(hR:R.length<=1000)(s8 s9 s10 s11 s12 s13 s14 s15:DV.Slot)(h8:zz s8=true)(h9:zz s9=true)(h10:zz s10=true)(h11:zz s11=true)(h12:zz s12=true) :
  ∃t9 t10 t11 t12,dB zE y8 (frV die s k o l g q (.own R) (qI i) (.v (kS x)) s8 s9 s10 s11 s12 s13 s14 s15)=.ok (.nx,frV die s k o l g q (.own (R++[.l (rwL (k+l-1) (Yw die s k o l g q x i die.length))])) (qI i) (.v (kS x)) .e t9 t10 t11 t12 s13 s14 s15)/\zz t9=true/\zz t10=true/\zz t11=true/\zz t12=true:=by
 have hk:=h.hk;have hl:=h.hl;have c1:dE zE (.comp 1 ["_law_place"] ["_law_at"] [6] (.iR1 (.cons (.var 4) .nil)) (.n 0) .tTr (.t (.cons (.cB .int (.cons (.cmp .eq (.var 0) (.var 1)) .nil)) (.cons (.c (.int 1)) .nil)))) (frV die s k o l g q (.own R) (qI i) (.v (kS x)) s8 s9 s10 s11 s12 s13 s14 s15)=.ok (.own ((List.range (k+l-1)).map λy=>D.t [.int (if decide (y=i)=true then 1 else 0),.int 1]),frV die s k o l g q (.own R) (qI i) (.v (kS x)) s8 s9 s10 s11 s12 s13 s14 s15) :=
  jp (ds:=N (List.range (k+l-1))) (vs:=[.int (i:Nat)]) (onN λy:Nat=>D.t [.int (if decide (y=i)=true then 1 else 0),.int 1]) (WA (by omega) (zA rfl)) rfl (λd hd=>by
   obtain⟨y,_,rfl⟩:=zFS hd;refine⟨_,yG (zB (jr (zB (yD (zA rfl) (zA rfl) (v9 y i)) zG) rfl) (zB x_c zG)) rfl zP,?_⟩;show _=onN _ (.int (y:Nat));simp only[onN,Int.toNat_natCast];rfl) (by rw[Zz,length_range];simp only[cap];omega) (onN_map _ _)
 have c2:dE zE (.l (.cons (.t (.cons (.var 2) (.cons (.c (.int 1)) .nil))) .nil)) (frV die s k o l g q (.own R) (qI i) (.v (kS x)) s8 s9 s10 s11 s12 s13 s14 s15)=.ok (.own [.t [.int (q:Nat),.int 1]],frV die s k o l g q (.own R) (qI i) (.v (kS x)) s8 s9 s10 s11 s12 s13 s14 s15):=Je (zB (yG (zB (zA rfl) (zB x_c zG)) rfl zP) zG) rfl wA;have c3:=wn ((List.range (k+l-1)).map λy=>D.t [.int (if decide (y=i)=true then 1 else 0),.int 1]) [.t [.int (q:Nat),.int 1]] (by rw[length_map,length_range];simp only[List.length_singleton];omega);rw[row0_L]at c3;obtain⟨E',f,t9,t10,t11,t12,g9,g10,g11,g12⟩:=jF (tg:=gN 9) (body:=dB zE yd) (SI die s k o l g q x i (.own R) (.v (.int (i:Nat))) s13 s14 s15) (N (List.range die.length)) 0 (frV die s k o l g q (.own R) (qI i) (.v (kS x)) (.own (rwL (k+l-1) (zDt (k+l-1) i q))) s9 s10 s11 s12 s13 s14 s15) ⟨s9,s10,s11,s12,h9,h10,h11,h12⟩ (λt d e E ⟨s9,s10,s11,s12,h9,h10,h11,h12⟩=>by
  obtain⟨t',e1,rfl⟩:=N_at e;have e2:=qG.mp e1;obtain⟨e3,e4⟩:=e2;simp only[length_range]at e3;simp only[getElem_range]at e4;subst e4;rw[zero_add];obtain⟨t10,t11,t12,r,g10,g11,g12⟩:=zFg h hg hq hx (i:=i) e3 (.own R) (.v (.int (i:Nat))) s10 s11 s12 s13 s14 s15 h10 h11 h12;exact⟨_,_,yB rfl h9 rfl,r,⟨_,t10,t11,t12,rfl,g10,g11,g12⟩⟩)
 rw[zero_add,Zz,length_range]at f;refine⟨t9,t10,t11,t12,?_,g9,g10,g11,g12⟩;have hd:die.length<=3:=by rcases h.d.1 with e|e<;>omega
 have f':dS zE (.sForR1 (.cons (.cB .len (.cons (.ix (.var 0) (.c (.int 0))) .nil)) .nil) (.n 9) yd) (frV die s k o l g q (.own R) (qI i) (.v (kS x)) (.own (rwL (k+l-1) (zDt (k+l-1) i q))) s9 s10 s11 s12 s13 s14 s15)=_:=ux (tg:=.n 9) (j:=(die.length:Nat)) (zB (jr (zB (yh (r:=.v (Ym die)) (zA rfl) x_c rfl) zG) (wq die)) zG) rfl ⟨by omega,by omega⟩ (by rw[Int.toNat_natCast,QC];exact f);exact zI (E1:=frV die s k o l g q (.own R) (qI i) (.v (kS x)) (.own (rwL (k+l-1) (zDt (k+l-1) i q))) s9 s10 s11 s12 s13 s14 s15) (zw (zq c1 c2 c3) (yB rfl h8 rfl)) (zI f' (zU (s_app rfl (x_movO rfl rfl) rfl (by simp only[cap];omega) rfl)))
abbrev rwS(n:Nat)(R:Nat->Nat->Rat)(j:Nat):List D:=(List.range j).map λi=>.l (rwL n (R i))
inductive RI(die:List Nat)(s k o l g q:Nat)(j:Nat):zV->Prop
 |mk (s6 s7 s8 s9 s10 s11 s12 s13 s14 s15:DV.Slot) (h6:zz s6=true) (h7:zz s7=true) (h8:zz s8=true) (h9:zz s9=true) (h10:zz s10=true) (h11:zz s11=true) (h12:zz s12=true) (h13:zz s13=true) (h14:zz s14=true) (h15:zz s15=true):RI die s k o l g q j (frV die s k o l g q (.own (rwS (k+l-1) (MM die s k o l g q) j)) s6 s7 s8 s9 s10 s11 s12 s13 s14 s15)
theorem num_S:∀(F:List D) (n i:Nat) {d:D},(zAf n F)[i]?=some d->∃x,F[i]?=some x/\d=.t [.int ((n+i:Nat):Int),x]
 | [],_,_,_,h=>by simp[zAf]at h|e::F,n,0,d,h=>by simp[zAf]at h;exact⟨e,rfl,h.symm⟩
 |e::F,n,i+1,d,h=>by
  obtain⟨x,h1,h2⟩:=num_S F (n+1) i (d:=d) (by simpa[zAf]using h);exact⟨x,by simpa using h1,by rw[h2,show n+1+i=n+(i+1)by omega]⟩
def zFi(h:Mt die s k o l)(hg:g<=1)(hq:q<=1):∃E,dS zE (.sForI (.iE false (.cons (.var 3) .nil)) (.t [6,7]) y8) (frV die s k o l g q (.own []) .e .e .e .e .e .e .e .e .e .e)=.ok (.nx,E)/\RI die s k o l g q (k+l-1) E:=by
 have hk:=h.hk;have hl:=h.hl;obtain⟨E',f,r⟩:=jF (tg:=gT [6,7]) (body:=dB zE y8) (RI die s k o l g q) (zAf 0 ((L0 s k o l).map kS)) 0 (frV die s k o l g q (.own []) .e .e .e .e .e .e .e .e .e .e) ⟨.e,.e,.e,.e,.e,.e,.e,.e,.e,.e,rfl,rfl,rfl,rfl,rfl,rfl,rfl,rfl,rfl,rfl⟩ (λi d e E ⟨s6,s7,s8,s9,s10,s11,s12,s13,s14,s15,h6,h7,h8,h9,h10,h11,h12,h13,h14,h15⟩=>by
  obtain⟨d',e1,rfl⟩:=num_S _ _ _ e;rw[getElem?_map]at e1;cases e2:(L0 s k o l)[i]? with
  |none=>rw[e2]at e1;cases e1
  |some x =>
   rw[e2]at e1;cases e1;have hx:=mem_of_getElem? e2;have hi:i<k+l-1:=by
    have:=(qG.mp e2).1;rw[wK]at this;omega
   rw[zero_add];obtain⟨t9,t10,t11,t12,r,g9,g10,g11,g12⟩:=zFh h hg hq hx i (R:=rwS (k+l-1) (MM die s k o l g q) i) (by simp;omega) s8 s9 s10 s11 s12 s13 s14 s15 h8 h9 h10 h11 h12;have em:MM die s k o l g q i=Yw die s k o l g q x i die.length:=by
    unfold MM;rw[getD_eq_getElem?_getD,e2];rfl
   have er:rwS (k+l-1) (MM die s k o l g q) i++[.l (rwL (k+l-1) (Yw die s k o l g q x i die.length))]=rwS (k+l-1) (MM die s k o l g q) (i+1):=by
    unfold rwS;rw[range_succ,map_append,<- em];rfl
   rw[er]at r;refine⟨_,_,ZH (yB rfl h6 rfl) (ZH (yB rfl h7 rfl) rfl),r,⟨_,_,.e,t9,t10,t11,t12,s13,s14,s15,rfl,rfl,rfl,g9,g10,g11,g12,h13,h14,h15⟩⟩)
 rw[zero_add,Z7,length_map,wK,show 1+(k-1)+(l-1)=k+l-1 by omega]at r;exact⟨E',s_forI (tg:=.t [6,7]) (i_E (zB (zA rfl) zG) rfl) f,r⟩
end
def x_ixO'(hs:E[i]?=some s0)(hs':jB (some s0)=false)(h1:dE fs b E=.ok (.v (.int k),E1))(h:E1[i]?=some (.own ds))(hx:atI ds k=some d):dE fs (.ixO i b) E=.ok (.v d,E1):=by
 simp only[Gz,zD3,hs,hs',Bool.false_eq_true,if_false,h1,h,ixS,hx]
def st_ix(hs:E[i]?=some s0)(hs':jB (some s0)=false)(h1:dE fs b E=.ok (.v (.int k),E))(h:E[i]?=some (.own ds))(hx:ixN ds.length k=some j)(he:E.set i (.own (ds.set j d))=E1):zD6 i (dE fs b) d E=.ok E1:=by
 subst he;simp only[zD6,hs,hs',Bool.false_eq_true,if_false,h1,Slot.list?];rw[hs]at h;cases h;simp only[Slot.list?,hx,Slot.put]
def s_sw(h1:dE fs a E=.ok (.v (.t [d1,d2]),E1))(h2:zD6 i (dE fs b) d1 E1=.ok E2)(h3:zD6 i (dE fs c) d2 E2=.ok E3):dS fs (.sSw i b c a) E=.ok (.nx,E3):=by
 simp only[rS_sSw,DV.sSw,h1,h2,h3]
def ZI(n:Nat)(R:Nat->Nat->Rat):(rwS n R n).length=n:=by simp
def zBJ(R:Nat->Nat->Rat)(h:i<n):atI (rwS n R n) (i:Int)=some (.l (rwL n (R i))):=Zr (by rw[getElem?_map,getElem?_range h];rfl)
def zAK(R:Nat->Nat->Rat)(r:Nat->Rat)(h:j<n):(rwS n R n).set j (.l (rwL n r))=rwS n (λi=>if i=j then r else R i) n:=by
 apply ext_getElem?;intro i;rw[List.getElem?_set];by_cases c:i<n
 ·rw[getElem?_map,getElem?_map,getElem?_range c]
  by_cases d:j=i
  ·subst d;rw[if_pos rfl,if_pos (by rw[ZI];omega)];simp only[Option.map_some,if_pos]
  ·rw[if_neg d];simp only[Option.map_some];rw[if_neg (λz=>d z.symm)]
 ·rw[getElem?_eq_none (l:=rwS n R n) (by rw[ZI];omega),getElem?_eq_none (l:=rwS n _ n) (by rw[ZI];omega)]
  by_cases d:j=i
  ·subst d;omega
  ·rw[if_neg d]
def zFj(r:Nat->Rat)(h:y<=n):ixD (.l (rwL n r)) (.int (y:Nat))=some (.v (sh (r y))):=by rw[u9,zDu r h];rfl
section
variable{die:List Nat}{s k o l g q:Nat}
def zDw(hn:n<=11)(hj:j<n){R:Nat->Nat->Rat}(hp:0<(R j j).num)(hk:k+l-1=n)(s6 s7 s8 s9 s10 s11 s13 s14 s15:DV.Slot) :
  ∃rs,dE zE (.comp 1 ["_law_at"] ["_law_rows","_law_place"] [5,12] (.iR2 (.cons (.var 12) (.cons (.var 4) .nil))) (.n 0) (.tE (.cmp .ne (.ix (.ix (.ixO 1 (.var 0)) (.var 2)) (.c (.int 0))) (.c (.int 0)))) (.var 0)) (frV die s k o l g q (.own (rwS n R n)) s6 s7 s8 s9 s10 s11 (qI j) s13 s14 s15)=.ok (.own (.int (j:Nat)::rs),frV die s k o l g q (.own (rwS n R n)) s6 s7 s8 s9 s10 s11 (qI j) s13 s14 s15):=by
 subst hk;have hi:=i_R2 (fs:=zE) (E:=frV die s k o l g q (.own (rwS (k+l-1) R (k+l-1))) s6 s7 s8 s9 s10 s11 (qI j) s13 s14 s15) (a:=.cons (.var 12) (.cons (.var 4) .nil)) (i:=(j:Int)) (j:=((k+l-1:Nat):Int)) (zB (zA rfl) (zB (zA rfl) zG)) rfl rfl ⟨by omega,by omega⟩ ⟨by omega,by omega⟩;rw[show(((k+l-1:Nat):Int)-(j:Int)).toNat=k+l-1-j by omega]at hi;obtain⟨rs,p',e,hp',h0,h1⟩:=x_compT (E':=λp'=>frV die s k o l g q (.own p') s6 s7 s8 s9 s10 s11 (qI j) s13 s14 s15) (xs:=["_law_at"]) (ys:=["_law_rows","_law_place"]) (caps:=[5,12]) (tt:=.tE (.cmp .ne (.ix (.ix (.ixO 1 (.var 0)) (.var 2)) (.c (.int 0))) (.c (.int 0)))) (el:=.var 0) (λp=>p=rwS (k+l-1) R (k+l-1)) (λm acc=>(m=0->acc=[])/\(1<=m->∃rs,acc=.int (j:Nat)::rs)) (vs:=[.int (j:Nat)]) hi rfl rfl rfl ⟨λ_=>rfl,λh=>by omega⟩ (λm d hd p acc hp0 ⟨a0,a1⟩=>by
  subst hp0;obtain⟨hm,rfl⟩:=ue _ _ _ _ hd;refine⟨rwS (k+l-1) R (k+l-1),?_⟩;have e0:((j:Int)+(m:Int))=((j+m:Nat):Int):=by omega
  rw[e0];have t:dT zE (.tE (.cmp .ne (.ix (.ix (.ixO 1 (.var 0)) (.var 2)) (.c (.int 0))) (.c (.int 0)))) [qI (j+m),.par (rwS (k+l-1) R (k+l-1)),qI j]=.ok (!decide ((R (j+m) j).num=0),[qI (j+m),.par (rwS (k+l-1) R (k+l-1)),qI j]) :=
   t_E (yD (yh (yh (x_ixP rfl (zA rfl) (zBJ R (by omega))) (zA rfl) (zFj _ (by omega))) x_c rfl) x_c (ne_int _ 0))
  by_cases c:(R (j+m) j).num=0
  ·rw[decide_eq_true c]at t
   refine .inl ⟨t,rfl,λh=>by omega,λ_=>?_⟩;cases m with
   |zero=>exfalso;rw[Nat.add_zero]at c;omega|succ m=>exact a1 (by omega)
  ·rw[decide_eq_false c]at t
   refine .inr ⟨.v (.int ((j+m:Nat):Int)),rwS (k+l-1) R (k+l-1),t,zA rfl,rfl,λh=>by omega,λ_=>?_⟩;cases m with
   |zero=>rw[a0 rfl];exact⟨[],rfl⟩
   |succ m =>
    obtain⟨rs,hr⟩:=a1 (by omega);exact⟨rs++[.int ((j+(m+1):Nat):Int)],by rw[hr];rfl⟩) (by rw[jG];simp only[cap];omega) (λx p'=>rfl)
 rw[jG]at h1;obtain⟨rs',rfl⟩:=h1 (by omega);rw[hp']at e;exact⟨rs',e⟩
def zDx(a b:Rat):a*(1/b)=a/b:=by grind
end
section
variable{die:List Nat}{s k o l g q:Nat}
def e_scale(hn:n<=11)(ha:GJ.Bq a 300)(hp:0<a.num){r:Nat->Rat}(hr:∀y,y<=n->GJ.Bq (r y) 300)(hi:dI zE it E=.ok (rwL n r,E))(hc:wV E [15,14]=.ok ([D.int (a.den:Nat),.int a.num].map AR.tmp)) :
  dE zE (.comp 1 ["_law_one"] ["_law_bottom","_law_top"] [15,14] it (.n 0) .tTr (.call 1 (.ev (.var 0) (.ev (.call 2 (.ev (.var 1) (.ev (.var 2) .nil))) .nil)))) E=.ok (.own (rwL n λy=>r y/a),E):=by
 obtain⟨e1,e2⟩:=zGp ha hp (by omega);refine ZD hi hc (ss:=[.v (.int (a.den:Nat)),.v (.int a.num)]) (E2:=E) rfl (λi d hd=>?_) (by rw[JY,JY]) (by rw[JY];simp only[cap];omega) (λx=>rfl);rw[getElem?_map]at hd;have hl:i<n+1:=by
  by_cases c:i<n+1
  ·exact c
  ·rw[getElem?_eq_none (by simpa using c)]at hd;cases hd
 rw[getElem?_range hl]at hd;cases hd;have m1:=GF (hr i (by omega)) e2 (by omega);refine⟨.v (sh (r i/a)),?_,by rw[getElem?_map,getElem?_range hl];rfl⟩;rw[<- zDx];exact za (F:=yo) rfl (zA rfl) (za (F:=zm) rfl (zA rfl) (zA rfl) e1) m1
def zip_rw(n:Nat)(r r2:Nat->Rat):zipWith Gq (rwL n r) (rwL n r2)=(List.range (n+1)).map λy=>D.t [sh (r y),sh (r2 y)]:=by
 unfold rwL;rw[List.zipWith_map];simp[List.zipWith_self,Gq]
def p2:D->List DV.Slot
 | .t [a,b]=>[.v a,.v b]|_=>[]
def e_less(hn:n<=11)(hc:GJ.Bq c 300){r r2:Nat->Rat}(hr:∀y,y<=n->GJ.Bq (r y) 300)(hr2:∀y,y<=n->GJ.Bq (r2 y) 600)(hi:dI zE it E=.ok (zipWith Gq (rwL n r) (rwL n r2),E))(hcap:wV E [10]=.ok ([sh (-c)].map AR.tmp)) :
  dE zE (.comp 2 ["_law_one","_law_two"] ["_law_part"] [10] it (.t [0,1]) .tTr (.call 0 (.ev (.var 0) (.ev (.call 1 (.ev (.var 2) (.ev (.var 1) .nil))) .nil)))) E=.ok (.own (rwL n λy=>r y-c*r2 y),E):=by
 rw[zip_rw]at hi;have mem:∀d∈(List.range (n+1)).map (λy=>D.t [sh (r y),sh (r2 y)]),∃y,y<=n/\d=.t [sh (r y),sh (r2 y)]:=λd hd=>by
  obtain⟨y,hy,rfl⟩:=mem_map.mp hd;exact⟨y,by have:=mem_range.mp hy;omega,rfl⟩
 have e:∀y,sh (r y+-c*r2 y)=sh (r y-c*r2 y):=λy=>by rw[show r y+-c*r2 y=r y-c*r2 y by grind]
 have gx:∃gf:D->D,∀y,y<=n->gf (.t [sh (r y),sh (r2 y)])=sh (r y-c*r2 y):=by
  refine⟨λd=>match d with
   | .t [.t [.int a,.int b],.t [.int u,.int v]]=>sh (((a:Rat)/(b:Rat))-c*((u:Rat)/(v:Rat)))|d=>d,λy hy=>?_⟩
  have q:∀x:Rat,((x.num:Rat)/(((x.den:Int)):Rat))=x:=λx=>by rw[<- Rat.divInt_eq_div];exact Rat.mkRat_self x
  show sh _=_
  rw[q,q]
 obtain⟨gf,hgf⟩:=gx;refine zGa (nl:=2) (tg:=.t [0,1]) (vs:=[sh (-c)]) p2 (λ_=>true) gf hi hcap (λd hd S hS hN=>?_) (λd hd=>?_) (λd hd=>?_) (λd hd _=>?_) (by simp only[length_map,length_range,cap];omega) ?_
 ·obtain⟨y,_,rfl⟩:=mem d hd
  match S,hS,hN with
  | [a,b],_,hN=>exact ZH (yB rfl (hN a (by simp)) rfl) (ZH (yB rfl (hN b (by simp)) rfl) rfl)
 ·obtain⟨y,_,rfl⟩:=mem d hd
  refine⟨rfl,λx hx=>?_⟩;simp only[p2,mem_cons,not_mem_nil,or_false]at hx;rcases hx with rfl|rfl<;>rfl
 ·simp only[Qp,zBc,vx,Zx]
 ·obtain⟨y,hy,rfl⟩:=mem d hd
  have m1:=GF (zDs hc) (hr2 y hy) (by omega);have m2':=zDr (hr y hy) (zBH (zDs hc) (hr2 y hy)) (by omega);rw[e]at m2';exact⟨_,za (F:=jh) rfl (zA rfl) (za (F:=yo) rfl (zA rfl) (zA rfl) m1) m2',(hgf y hy).symm⟩
 ·rw[List.filter_eq_self.mpr (λ_ _=>rfl),map_map]
  refine map_congr_left λy hy=>?_
  have:=mem_range.mp hy;exact hgf y (by omega)
end
section
variable{die:List Nat}{s k o l g q:Nat}
def Yu{R R':Nat->Nat->Rat}(h:∀i,i<n->R i=R' i):rwS n R n=rwS n R' n:=map_congr_left λi hi=>by rw[h i (mem_range.mp hi)]
def Qr(j:Nat)(R:Nat->Nat->Rat)(i a:Nat):Nat->Rat:=if a<i\/a=j then GJ.el j R a else R a
def Qr_j(j:Nat)(R:Nat->Nat->Rat)(i:Nat):Qr j R i j=λy=>R j y/R j j:=by
 unfold Qr;rw[if_pos (.inr rfl)];funext y;simp only[GJ.el,if_pos]
abbrev frW(die:List Nat)(s k o l g q:Nat)(R:Nat->Nat->Rat)(j:Nat)(s6 s7 s8 s9 s10 s11 s13 s14 s15:DV.Slot):zV:=frV die s k o l g q (.own (rwS (k+l-1) R (k+l-1))) s6 s7 s8 s9 s10 s11 (qI j) s13 s14 s15
def zDy(hn:k+l-1<=11)(hj:j<k+l-1)(hi:i<k+l-1){R:Nat->Nat->Rat}(hR:∀a y,a<k+l-1->y<=k+l-1->GJ.Bq (R a y) 300)(hp:0<(R j j).num)(s7 s8 s9 s10 s11 s13 s14 s15:DV.Slot)(h10:zz s10=true) :
  ∃t10,dB zE y4 (frW die s k o l g q (Qr j R i) j (qI i) s7 s8 s9 s10 s11 s13 s14 s15)=.ok (.nx,frW die s k o l g q (Qr j R (i+1)) j (qI i) s7 s8 s9 t10 s11 s13 s14 s15)/\zz t10=true:=by
 have same:Qr j R i i=Qr j R (i+1) i->Qr j R (i+1)=Qr j R i:=λe=>by
  funext a
  by_cases c:a=i
  ·subst c;exact e.symm
  ·unfold Qr
   by_cases d:a<i\/a=j
   ·rw[if_pos d,if_pos (by omega)]
   ·rw[if_neg d,if_neg (by omega)]
 have n1:=zDi i j;by_cases c:i=j
 ·subst c
  rw[decide_eq_true rfl]at n1;rw[same (by unfold Qr;rw[if_pos (.inr rfl),if_pos (.inr rfl)])];exact⟨s10,zU (jT (t_and0 (t_E (yD (zA rfl) (zA rfl) n1))) jg),h10⟩
 ·rw[decide_eq_false c]at n1
  have qi:Qr j R i i=R i:=by unfold Qr;rw[if_neg (by omega)]
  have qi1:Qr j R (i+1) i=λy=>R i y-R i j*(R j y/R j j):=by
   unfold Qr;rw[if_pos (by omega)];funext y;simp only[GJ.el,if_neg c]
  have a1:=zBJ (Qr j R i) hi;have a2:=zBJ (Qr j R i) hj;rw[qi]at a1;rw[Qr_j]at a2;have x1:=zFj (R i) (le_of_lt hj);have n2:=ne_int (R i j).num 0;by_cases d:(R i j).num=0
  ·rw[decide_eq_true d]at n2
   have z:R i j=0:=Rat.num_eq_zero.mp d;rw[same (by rw[qi,qi1];funext y;rw[z];grind)];exact⟨s10,zU (jT (zGd (t_E (yD (zA rfl) (zA rfl) n1)) (t_E (yD (yh (yh (W0 rfl (zA rfl) a1) (zA rfl) x1) x_c rfl) x_c n2))) jg),h10⟩
  ·rw[decide_eq_false d]at n2
   have ci:=hR i j hi (le_of_lt hj);obtain⟨_,iv⟩:=zGp (hR j j hj (le_of_lt hj)) hp (by omega);refine⟨.v (sh (-(R i j))),?_,rfl⟩;have el:=e_less (E:=frV die s k o l g q (.own (rwS (k+l-1) (Qr j R i) (k+l-1))) (qI i) s7 s8 s9 (.v (sh (-(R i j)))) s11 (qI j) s13 s14 s15) (it:=.iZ false false (.cons (.ixO 5 (.var 6)) (.cons (.ixO 5 (.var 12)) .nil))) hn ci (λy hy=>hR i y hi hy) (r2:=λy=>R j y/R j j) (λy hy=>by rw[<- zDx];exact zBH (hR j y hj hy) iv) (i_Z (zB (W0 rfl (zA rfl) a1) (zB (W0 rfl (zA rfl) a2) zG)) rfl rfl) rfl;have fin:(rwS (k+l-1) (Qr j R i) (k+l-1)).set i (.l (rwL (k+l-1) λy=>R i y-R i j*(R j y/R j j)))=rwS (k+l-1) (Qr j R (i+1)) (k+l-1):=by
    rw[zAK _ _ hi];refine Yu λa _=>?_
    by_cases z:a=i
    ·subst z;rw[if_pos rfl,qi1]
    ·rw[if_neg z];unfold Qr
     by_cases w:a<i\/a=j
     ·rw[if_pos w,if_pos (by omega)]
     ·rw[if_neg w,if_neg (by omega)]
   have tu:dE zE (.t (.cons (.bin .sub (.c (.int 0)) (.ix (.ix (.ixO 5 (.var 6)) (.var 12)) (.c (.int 0)))) (.cons (.ix (.ix (.ixO 5 (.var 6)) (.var 12)) (.c (.int 1))) .nil))) (frW die s k o l g q (Qr j R i) j (qI i) s7 s8 s9 s10 s11 s13 s14 s15)=.ok (.v (sh (-(R i j))),frW die s k o l g q (Qr j R i) j (qI i) s7 s8 s9 s10 s11 s13 s14 s15):=by
    rw[<- zGr];exact yG (zB (zq x_c (yh (r:=.v (.int (R i j).num)) (yh (W0 rfl (zA rfl) a1) (zA rfl) x1) x_c rfl) rfl) (zB (yh (r:=.v (.int ((R i j).den:Nat))) (yh (W0 rfl (zA rfl) a1) (zA rfl) x1) x_c rfl) zG)) rfl zP
   exact zU (ZC (zGd (t_E (yD (zA rfl) (zA rfl) n1)) (t_E (yD (yh (yh (W0 rfl (zA rfl) a1) (zA rfl) x1) x_c rfl) x_c n2))) (zI (zw tu (yB rfl h10 rfl)) (zU (s_ix rfl rfl el (zA rfl) rfl (W5 (by rw[ZI];exact hi)) (by unfold frW;rw[<- fin];rfl)))))
inductive LI(die:List Nat)(s k o l g q j:Nat)(R:Nat->Nat->Rat)(s7 s8 s9 s11 s13 s14 s15:DV.Slot)(i:Nat):zV->Prop
 |mk (s6 s10:DV.Slot) (h6:zz s6=true) (h10:zz s10=true):LI die s k o l g q j R s7 s8 s9 s11 s13 s14 s15 i (frW die s k o l g q (Qr j R i) j s6 s7 s8 s9 s10 s11 s13 s14 s15)
def zBj(hn:k+l-1<=11)(hj:j<k+l-1){R:Nat->Nat->Rat}(hR:∀a y,a<k+l-1->y<=k+l-1->GJ.Bq (R a y) 300)(hp:0<(R j j).num)(s6 s7 s8 s9 s10 s11 s13 s14 s15:DV.Slot)(h6:zz s6=true)(h10:zz s10=true)(h13:zz s13=true)(h14:zz s14=true)(h15:zz s15=true) :
  ∃t6 t10 t13 t14 t15,dB zE y6 (frW die s k o l g q R j s6 s7 s8 s9 s10 s11 s13 s14 s15)=.ok (.nx,frW die s k o l g q (GJ.el j R) j t6 s7 s8 s9 t10 s11 t13 t14 t15)/\zz t6=true/\zz t10=true/\zz t13=true/\zz t14=true/\zz t15=true:=by
 obtain⟨rs,c1⟩:=zDw (die:=die) (s:=s) (o:=o) (g:=g) (q:=q) hn hj hp rfl s6 s7 s8 s9 s10 s11 s13 s14 s15;have a1:=zBJ R hj;have x1:=zFj (R j) (le_of_lt hj);have e0:(rwS (k+l-1) R (k+l-1)).set j (.l (rwL (k+l-1) (R j)))=rwS (k+l-1) R (k+l-1):=by
  rw[zAK _ _ hj];refine Yu λi _=>?_
  by_cases c:i=j
  ·subst c;rw[if_pos rfl]
  ·rw[if_neg c]
 have sw:dS zE (.sSw 5 (.var 12) (.ix (.var 13) (.c (.int 0))) (.t (.cons (.ixO 5 (.ix (.var 13) (.c (.int 0)))) (.cons (.ixO 5 (.var 12)) .nil)))) (frW die s k o l g q R j s6 s7 s8 s9 s10 s11 (.own (.int (j:Nat)::rs)) s14 s15)=.ok (.nx,frW die s k o l g q R j s6 s7 s8 s9 s10 s11 (.v (.l (.int (j:Nat)::rs))) s14 s15):=by
  have at0:ixD (.l (.int (j:Nat)::rs)) (.int 0)=some (.v (.int (j:Nat))):=by rw[u9];exact congrArg _ (Zr (k:=0) rfl)
  have ln:ixN (rwS (k+l-1) R (k+l-1)).length (j:Int)=some j:=W5 (by rw[ZI];exact hj);have es:List.set (frW die s k o l g q R j s6 s7 s8 s9 s10 s11 (.v (.l (.int (j:Nat)::rs))) s14 s15) 5 (.own ((rwS (k+l-1) R (k+l-1)).set j (.l (rwL (k+l-1) (R j)))))=frW die s k o l g q R j s6 s7 s8 s9 s10 s11 (.v (.l (.int (j:Nat)::rs))) s14 s15:=by rw[e0];rfl
  exact s_sw (d1:=.l (rwL (k+l-1) (R j))) (d2:=.l (rwL (k+l-1) (R j))) (E1:=frW die s k o l g q R j s6 s7 s8 s9 s10 s11 (.v (.l (.int (j:Nat)::rs))) s14 s15) (E2:=frW die s k o l g q R j s6 s7 s8 s9 s10 s11 (.v (.l (.int (j:Nat)::rs))) s14 s15) (yG (zB (x_ixO' rfl rfl (yh (jX rfl rfl) x_c at0) rfl a1) (zB (W0 rfl (zA rfl) a1) zG)) rfl zP) (st_ix rfl rfl (zA rfl) rfl ln es) (st_ix rfl rfl (yh (zA rfl) x_c at0) rfl ln es)
 have st:dS zE (.sTup [14,15] (.ix (.ixO 5 (.var 12)) (.var 12))) (frW die s k o l g q R j s6 s7 s8 s9 s10 s11 (.v (.l (.int (j:Nat)::rs))) s14 s15)=.ok (.nx,frW die s k o l g q R j s6 s7 s8 s9 s10 s11 (.v (.l (.int (j:Nat)::rs))) (.v (.int (R j j).num)) (.v (.int ((R j j).den:Nat)))) :=
  G9 (yh (W0 rfl (zA rfl) a1) (zA rfl) x1) (ZH (yB rfl h14 rfl) (ZH (yB rfl h15 rfl) rfl))
 have sc:=e_scale (E:=frW die s k o l g q R j s6 s7 s8 s9 s10 s11 (.v (.l (.int (j:Nat)::rs))) (.v (.int (R j j).num)) (.v (.int ((R j j).den:Nat)))) (it:=.iL (.ixO 5 (.var 12))) hn (hR j j hj (le_of_lt hj)) hp (λy hy=>hR j y hj hy) (i_L (W0 rfl (zA rfl) a1) rfl) rfl;have e1:(rwS (k+l-1) R (k+l-1)).set j (.l (rwL (k+l-1) λy=>R j y/R j j))=rwS (k+l-1) (Qr j R 0) (k+l-1):=by
  rw[zAK _ _ hj];refine Yu λi _=>?_
  by_cases c:i=j
  ·subst c;rw[if_pos rfl,Qr_j]
  ·rw[if_neg c];unfold Qr;rw[if_neg (by omega)]
 obtain⟨E',f,t6,t10,g6,g10⟩:=jF (tg:=gN 6) (body:=dB zE y4) (LI die s k o l g q j R s7 s8 s9 s11 (.v (.l (.int (j:Nat)::rs))) (.v (.int (R j j).num)) (.v (.int ((R j j).den:Nat)))) (N (List.range (k+l-1))) 0 (frW die s k o l g q (Qr j R 0) j s6 s7 s8 s9 s10 s11 (.v (.l (.int (j:Nat)::rs))) (.v (.int (R j j).num)) (.v (.int ((R j j).den:Nat)))) ⟨s6,s10,h6,h10⟩ (λi d e E ⟨s6,s10,h6,h10⟩=>by
  obtain⟨t',e1,rfl⟩:=N_at e;obtain⟨e3,e4⟩:=qG.mp e1;simp only[length_range]at e3;simp only[getElem_range]at e4;subst e4;rw[zero_add];obtain⟨t10,r,g10⟩:=zDy (die:=die) (s:=s) (o:=o) (g:=g) (q:=q) hn hj e3 hR hp s7 s8 s9 s10 s11 (.v (.l (.int (j:Nat)::rs))) (.v (.int (R j j).num)) (.v (.int ((R j j).den:Nat))) h10;exact⟨_,_,yB rfl h6 rfl,r,⟨_,t10,rfl,g10⟩⟩)
 rw[zero_add,Zz,length_range]at f;have eq:rwS (k+l-1) (Qr j R (k+l-1)) (k+l-1)=rwS (k+l-1) (GJ.el j R) (k+l-1):=Yu λi hi=>by unfold Qr;rw[if_pos (.inl hi)]
 unfold frW at f;rw[eq]at f;have f':dS zE (.sForR1 (.cons (.var 4) .nil) (.n 6) y4) (frW die s k o l g q (Qr j R 0) j s6 s7 s8 s9 s10 s11 (.v (.l (.int (j:Nat)::rs))) (.v (.int (R j j).num)) (.v (.int ((R j j).den:Nat))))=_:=ux (tg:=.n 6) (j:=((k+l-1:Nat):Int)) (zB (zA rfl) zG) rfl ⟨by omega,by omega⟩ (by rw[Int.toNat_natCast,QC];exact f);exact⟨t6,t10,_,_,_,zI (zw c1 (yB rfl h13 rfl)) (zI sw (zI st (zI (s_ix rfl rfl sc (zA rfl) rfl (W5 (by rw[ZI];exact hj)) (by unfold frW;rw[<- e1];rfl)) (zU f')))),g6,g10,rfl,rfl,rfl⟩
inductive PI(die:List Nat)(s k o l g q j:Nat):zV->Prop
 |mk (s6 s7 s8 s9 s10 s11 s12 s13 s14 s15:DV.Slot) (h6:zz s6=true) (h10:zz s10=true) (h12:zz s12=true) (h13:zz s13=true) (h14:zz s14=true) (h15:zz s15=true):PI die s k o l g q j (frV die s k o l g q (.own (rwS (k+l-1) (GJ.stg (MM die s k o l g q) j) (k+l-1))) s6 s7 s8 s9 s10 s11 s12 s13 s14 s15)
def fnd(die:List Nat)(s k o l g q:Nat):List D:=(List.range (k+l-1)).map λi=>sh (GJ.stg (MM die s k o l g q) (k+l-1) i (k+l-1))
def zBK(h:Mt die s k o l)(hg:g<=1)(hq:q<=1):y9 [.v (yk die s k o l),.v (.l [.int 0,.int (g:Nat)]),qI q]=.ok (.v (.t (fnd die s k o l g q)),O3):=by
 have hk:=h.hk;have hl:=h.hl;have ok:=QL (g:=g) (q:=q) h hg hq;have hM:=W4 (g:=g) (q:=q) h;obtain⟨E1,r1,s6,s7,s8,s9,s10,s11,s12,s13,s14,s15,h6,h7,h8,h9,h10,h11,h12,h13,h14,h15⟩:=zFi (g:=g) (q:=q) h hg hq;obtain⟨E',f,s6,s7,s8,s9,s10,s11,s12,s13,s14,s15,h6,h10,h12,h13,h14,h15⟩:=jF (tg:=gN 12) (body:=dB zE y6) (PI die s k o l g q) (N (List.range (k+l-1))) 0 _ ⟨s6,s7,s8,s9,s10,s11,s12,s13,s14,s15,h6,h10,h12,h13,h14,h15⟩ (λj d e E ⟨s6,s7,s8,s9,s10,s11,s12,s13,s14,s15,h6,h10,h12,h13,h14,h15⟩=>by
  obtain⟨t',e1,rfl⟩:=N_at e;obtain⟨e3,e4⟩:=qG.mp e1;simp only[length_range]at e3;simp only[getElem_range]at e4;subst e4;rw[zero_add];obtain⟨t6,t10,t13,t14,t15,r,g6,g10,g13,g14,g15⟩:=zBj (die:=die) (s:=s) (o:=o) (g:=g) (q:=q) (show k+l-1<=11 by omega) e3 (R:=GJ.stg (MM die s k o l g q) j) (λa y ha hy=>GJ.stg_b ok hM e3 ha hy) (GJ.piv_num ok hM e3) s6 s7 s8 s9 s10 s11 s13 s14 s15 h6 h10 h13 h14 h15;exact⟨_,_,yB rfl h12 rfl,r,⟨t6,s7,s8,s9,t10,s11,_,t13,t14,t15,g6,g10,rfl,g13,g14,g15⟩⟩)
 rw[zero_add,Zz,length_range]at f;have f':dS zE (.sForR1 (.cons (.var 4) .nil) (.n 12) y6) _=_:=ux (tg:=.n 12) (j:=((k+l-1:Nat):Int)) (zB (zA rfl) zG) rfl ⟨by omega,by omega⟩ (by rw[Int.toNat_natCast,QC];exact f);have sp:=QK h;rw[SL_eq]at sp;have ln:Gf [.l ((L0 s k o l).map kS)]=some (.v (.int ((k+l-1:Nat):Int))):=by
  simp only[Gf,length_map,wK];rw[show 1+(k-1)+(l-1)=k+l-1 by omega]
 have last:dE zE (.comp 1 ["_law_row"] ["_law_size"] [4] (.iL (.var 5)) (.n 0) .tTr (.ix (.var 0) (.var 1))) (frV die s k o l g q (.own (rwS (k+l-1) (GJ.stg (MM die s k o l g q) (k+l-1)) (k+l-1))) s6 s7 s8 s9 s10 s11 s12 s13 s14 s15)=.ok (.own (fnd die s k o l g q),frV die s k o l g q (.v (.l (rwS (k+l-1) (GJ.stg (MM die s k o l g q) (k+l-1)) (k+l-1)))) s6 s7 s8 s9 s10 s11 s12 s13 s14 s15) :=
  ZD (i_L (jX rfl rfl) rfl) (ars:=[.tmp (.int ((k+l-1:Nat):Int))]) rfl (ss:=[qI (k+l-1)]) rfl (λi d hd=>by
   rw[getElem?_map]at hd;have hi:i<k+l-1:=by
    by_cases c:i<k+l-1
    ·exact c
    ·rw[getElem?_eq_none (by simpa using c)]at hd;cases hd
   rw[getElem?_range hi]at hd;cases hd;exact⟨_,yh (zA rfl) (zA rfl) (zFj _ (le_refl _)),by unfold fnd;rw[getElem?_map,getElem?_range hi];rfl⟩) (by simp[fnd]) (by simp[cap];omega) (λx=>rfl)
 exact ye (zI (zw (ze (F:=jf) rfl (zA rfl) sp) rfl) (zI (zw (jr (zB (zA rfl) zG) ln) rfl) (zI (zw (Je zG rfl zDU) rfl) (zI r1 (zI f' (zU (yH (jr (zB last zG) rfl)))))))) rfl
end
section
variable{die:List Nat}{s k o l:Nat}
def UP(die:List Nat)(s k o l:Nat)(y:Nat):Int:=if y<k+l-1 then(pn die s k o l ((L0 s k o l).getD y none):Nat)else -(Nn die s k o l:Nat)
def UP_at(h:Mt die s k o l)(hx:x∈L0 s k o l):UP die s k o l (ps s k x)=(pn die s k o l x:Nat):=by
 obtain⟨h1,h2⟩:=QM h hx;unfold UP;rw[if_pos h1,getD_eq_getElem?_getD,h2];rfl
def UP_v(h:Mt die s k o l)(hx:x∈L0 s k o l\/En s k o l x):vS s k o l 1 (UP die s k o l) x=(pn die s k o l x:Nat):=by
 unfold vS;by_cases c:x=some (s,k)
 ·subst c
  rw[if_pos rfl,pn_E1];unfold UP;rw[if_neg (by omega)];simp
 ·rw[if_neg c]
  by_cases d:x=some (o,l)
  ·subst d;rw[if_pos rfl,pn_E0 h.ne];rfl
  ·rw[if_neg d];exact UP_at h (hx.resolve_right (λz=>z.elim c d))
def UP_L(h:Mt die s k o l)(hi:i<k+l-1):(psy die s k o l 1 0).L i (UP die s k o l)=0:=by
 obtain⟨x,e1,e2,e3⟩:=zBi h hi;rw[L_sum h _ hi e1];have e4:((List.range die.length).map λt=>(wN die t:Int)*vS s k o l 1 (UP die s k o l) (nx s o x t))=(List.range die.length).map λt=>((wN die t*pn die s k o l (nx s o x t):Nat):Int) :=
  map_congr_left λt _=>by rw[UP_v h (zDm h e2 t),Int.natCast_mul]
 rw[e4,zAI (λt=>wN die t*pn die s k o l (nx s o x t)),eqn h e2,<- e3,UP_at h e2];simp
def fnd_pap(h:Mt die s k o l):fnd die s k o l 1 0=pap die s k o l:=by
 have hk:=h.hk;have hl:=h.hl;have hN:=Yr h;apply ext_getElem?;intro i;unfold fnd pap;rw[getElem?_map,getElem?_map];by_cases c:i<k+l-1
 ·obtain⟨x,e1,e2,e3⟩:=zBi h c
  rw[getElem?_range c,e1];simp only[Option.map_some];have f:=GJ.found (QL h (by omega) (by omega)) (W4 (g:=1) (q:=0) h) (U:=UP die s k o l) (D:=(Nn die s k o l:Nat)) (by omega) (by unfold UP;rw[if_neg (by rw[W2];omega)]) (λi hi=>UP_L h hi) (show i<(psy die s k o l 1 0).n from c);rw[W2]at f;rw[f,Yq _ hN,<- e3,UP_at h e2]
 ·rw[getElem?_eq_none (l:=List.range _) (by simpa using c),getElem?_eq_none (l:=L0 s k o l) (by rw[wK];omega)];rfl
def UM(die:List Nat)(s k o l:Nat)(y:Nat):Int:=if y<k then((Pn die.sum (wN die s) k y*Pn die.sum (wN die o) l 0:Nat):Int)else if y<k+l-1 then((Pn die.sum (wN die o) l (y-k+1)*Pn die.sum (wN die s) k 0:Nat):Int)else -(Nn die s k o l:Nat)
def UM_a(hm:m<=k):(psy die s k o l 0 1).av (UM die s k o l) m=(Pn die.sum (wN die s) k m:Int)*(Pn die.sum (wN die o) l 0:Int):=by
 unfold GJ.Sy.av;by_cases c:m<k
 ·rw[if_pos (show m<(psy die s k o l 0 1).k from c)];unfold UM;rw[if_pos c,Int.natCast_mul]
 ·have:m=k:=by omega
  subst this;rw[if_neg (show ¬m<(psy die s m o l 0 1).k from c),zBF];show -(((0:Nat):Int)*_)=_;simp
def UM_b(hk:1<=k)(h1:1<=m)(hm:m<=l):(psy die s k o l 0 1).bv (UM die s k o l) m=(Pn die.sum (wN die o) l m:Int)*(Pn die.sum (wN die s) k 0:Int):=by
 unfold GJ.Sy.bv;by_cases c:m<l
 ·rw[if_pos (show m<(psy die s k o l 0 1).l from c)]
  show UM die s k o l (k-1+m)=_
  unfold UM;rw[if_neg (by omega),if_pos (by omega),Int.natCast_mul,show k-1+m-k+1=m by omega]
 ·have:m=l:=by omega
  subst this;rw[if_neg (show ¬m<(psy die s k o m 0 1).l from c),zBF];simp
def zGt{S A B P0 Pj Pk Q0 Q1 W V Sk Sl:Int}(ej:S*Pj=A*Pk+Sk)(f3:S*Q0=B*Q1+Sl)(e1:S*P0+S*W=A*P0+Sk)(f1:S*Q0+S*V=B*Q0+Sl):S*(Pj*Q0)-A*(Pk*Q0)-B*(Q1*P0)-(S-A-B)*(P0*Q0)+S*1 * -(P0*V+Q0*W)=0:=by
 have h1:S*(Pj*Q0)-A*(Pk*Q0)=Sk*Q0:=by rw[<- Int.mul_assoc,ej];grind
 have h2:B*(Q1*P0)=(S*Q0-Sl)*P0:=by rw[f3];grind
 have h3:S*(P0*V+Q0*W)=P0*(B*Q0+Sl-S*Q0)+Q0*(A*P0+Sk-S*P0):=by
  rw[show B*Q0+Sl-S*Q0=S*V by omega,show A*P0+Sk-S*P0=S*W by omega];grind
 have h4:S*1 * -(P0*V+Q0*W)=-(S*(P0*V+Q0*W)):=by grind
 rw[h4,h3,h1,h2]
 clear h1 h2 h3 h4 ej f3 e1 f1
 grind
def UM_L(h:Mt die s k o l){i:Nat}(hi:i<k+l-1):(psy die s k o l 0 1).L i (UM die s k o l)=0:=by
 have hk:=h.hk;have hl:=h.hl;have i3:∀{w k j:Nat},j<k->(die.sum:Int)*(Pn die.sum w k j:Int)=(w:Int)*(Pn die.sum w k (j+1):Int)+((die.sum^(k+1):Nat):Int):=λ{w k j} hj=>by
  have:=Pn_E3 die.sum w hj;rw[<- Int.natCast_mul,<- Int.natCast_mul,<- Int.natCast_add,this]
 have i1:∀{w k:Nat},(die.sum:Int)*(Pn die.sum w k 0:Int)+(die.sum:Int)*((w^k:Nat):Int)=(w:Int)*(Pn die.sum w k 0:Int)+((die.sum^(k+1):Nat):Int):=λ{w k}=>by
  have:=Pn_E1 die.sum w k;rw[<- Int.natCast_mul,<- Int.natCast_mul,<- Int.natCast_mul,<- Int.natCast_add,<- Int.natCast_add,this]
 have u0:UM die s k o l 0=(Pn die.sum (wN die s) k 0:Int)*(Pn die.sum (wN die o) l 0:Int):=by unfold UM;rw[if_pos (by omega),Int.natCast_mul]
 have un:UM die s k o l (k+l-1)=-((Pn die.sum (wN die s) k 0:Int)*((wN die o^l:Nat):Int)+(Pn die.sum (wN die o) l 0:Int)*((wN die s^k:Nat):Int)):=by
  unfold UM;rw[if_neg (by omega),if_neg (by omega)];rw[<- Int.natCast_mul,<- Int.natCast_mul,<- Int.natCast_add];rfl
 unfold GJ.Sy.L;rw[psy_s];by_cases c:i<k
 ·have ui:UM die s k o l i=(Pn die.sum (wN die s) k i:Int)*(Pn die.sum (wN die o) l 0:Int):=by unfold UM;rw[if_pos c,Int.natCast_mul]
  rw[if_pos (show i<(psy die s k o l 0 1).k from c),UM_a (by omega),UM_b hk.1 (by omega) (by omega),W2,u0,un,ui];exact zGt (i3 c) (i3 (by omega)) i1 i1
 ·have ui:UM die s k o l i=(Pn die.sum (wN die o) l (i-k+1):Int)*(Pn die.sum (wN die s) k 0:Int):=by unfold UM;rw[if_neg c,if_pos hi,Int.natCast_mul]
  rw[if_neg (show ¬i<(psy die s k o l 0 1).k from c),UM_a (by omega),show(psy die s k o l 0 1).k=k from rfl,UM_b hk.1 (by omega) (by omega),W2,u0,un,ui];have m:=zGt (i3 (w:=wN die o) (k:=l) (j:=i-k+1) (by omega)) (i3 (w:=wN die s) (k:=k) (j:=0) (by omega)) i1 i1;show(die.sum:Int)*_-((wN die s:Nat):Int)*_-((wN die o:Nat):Int)*_-((die.sum:Int)-wN die s-wN die o)*_+(die.sum:Int)*1*_=0;rw[show i-k+2=i-k+1+1 by omega]
  grind
def zFk(h:Mt die s k o l):(fnd die s k o l 0 1)[0]?=some (MT die s k o l):=by
 have hk:=h.hk;have hl:=h.hl;have hN:=Yr h;unfold fnd;rw[getElem?_map,getElem?_range (by omega)];simp only[Option.map_some];have f:=GJ.found (QL h (by omega) (by omega)) (W4 (g:=0) (q:=1) h) (U:=UM die s k o l) (D:=(Nn die s k o l:Nat)) (by omega) (by unfold UM;rw[if_neg (by rw[W2];omega),if_neg (by rw[W2];omega)]) (λi hi=>UM_L h hi) (show 0<(psy die s k o l 0 1).n by rw[W2];omega);rw[W2]at f;rw[f];unfold UM MT;rw[if_pos (by omega),Yq _ hN]
end
def Bq_add(ha:GJ.Bq a m)(hb:GJ.Bq b n):GJ.Bq (a+b) (m+n+1):=by
 rw[Rat.add_def,Rat.normalize_eq];have h1:a.num.natAbs*b.den<=2^(m+n):=by rw[pow_add];exact mul_le_mul ha.1 hb.2
 have h2:b.num.natAbs*a.den<=2^(m+n):=by rw[Nat.add_comm,pow_add];exact mul_le_mul hb.1 ha.2
 have h3:a.den*b.den<=2^(m+n):=by rw[pow_add];exact mul_le_mul ha.2 hb.2
 refine⟨le_trans (Int.natAbs_ediv_le_natAbs _ _) ?_,le_trans (div_le_self _ _) ?_⟩
 ·have h4:=Int.natAbs_add_le (a.num*b.den) (b.num*a.den)
  rw[Int.natAbs_mul,Int.natAbs_mul,Int.natAbs_natCast,Int.natAbs_natCast]at h4;rw[pow_succ];omega
 ·rw[pow_succ];omega
def sQ(f:Nat->Rat):Nat->Rat
 |0=>0|t+1=>sQ f t+f t
theorem sQ_b{f:Nat->Rat}(h:∀t,GJ.Bq (f t) m):∀t,GJ.Bq (sQ f t) (t*(m+1))
 |0=>⟨zero_le _,one_le_two_pow⟩
 |t+1=>by
  have:=Bq_add (sQ_b h t) (h t);rw[Nat.add_assoc]at this;rw[succ_mul];exact this
def e_ssumQ{f:Nat->Rat}(hm:m<=900)(hk:k<=3)(h:∀t,GJ.Bq (f t) m):yb [.v (.l ((List.range k).map λt=>sh (f t)))]=.ok (.v (sh (sQ f k)),O1):=by
 obtain⟨E',f1,t2,hE,_⟩:=jF (tg:=gN 2) (body:=dB JM wZ) (λi E=>∃t2,E=[.v (.l ((List.range k).map λt=>sh (f t))),.v (sh (sQ f i)),t2]/\zz t2=true) ((List.range k).map λt=>sh (f t)) 0 [.v (.l ((List.range k).map λt=>sh (f t))),.v (.t [.int 0,.int 1]),.e] ⟨.e,rfl,rfl⟩
  (λi d q E ⟨t2,hE,q2⟩=>by
   rw[zero_add]at hE ⊢;rw[getElem?_map,Option.map_eq_some_iff]at q;obtain⟨a,ea,rfl⟩:=q;obtain⟨e3,e4⟩:=qG.mp ea;simp only[length_range]at e3;simp only[getElem_range]at e4;subst e4;have i3:i<=2:=by omega
   have lm:=mul_le_mul i3 (show m+1<=901 by omega);have pl:=zDf (lBq (sQ_b h i).1 (by omega)) (lBq (h i).1 (by omega)) (lBq2 (sQ_b h i).2 (h i).2 (by omega));subst hE;exact⟨_,_,yB rfl q2 rfl,zU (zw (za (F:=z9) rfl (zA rfl) (zA rfl) pl) rfl),_,rfl,rfl⟩)
 rw[length_map,length_range,zero_add]at hE;subst hE;exact ye (zI (zw zAy rfl) (zI (Ju (tg:=.n 2) (zA rfl) rfl f1) (zU (yH (zA rfl))))) rfl
def sh_inj:sh a=sh b↔a=b:=by
 refine⟨λh=>?_,λh=>by rw[h]⟩;simp only[sh,D.t.injEq,List.cons.injEq,D.int.injEq,and_true]at h;exact Rat.ext h.1 (by omega)
def ne_sh(a b:Rat):∃c,neG (sh a) (sh b)=some (.v (.bl (!c)))/\(c=true↔a=b):=by
 refine⟨_,ne_tups (λd hd=>?_) (λd hd=>?_),?_⟩
 ·simp only[mem_cons,not_mem_nil,or_false]at hd
  rcases hd with rfl|rfl<;>rfl
 ·simp only[mem_cons,not_mem_nil,or_false]at hd
  rcases hd with rfl|rfl<;>rfl
 ·rw[<- sh_inj]
  simp only[deqs,deq,sh,D.t.injEq,List.cons.injEq,D.int.injEq,and_true,Bool.and_eq_true,Bool.and_true,beq_iff_eq,decide_eq_true_eq,flV,eqV]
def gs:D->Bool
 | .t [.int a,.int b]=>decide (0<b)&&decide (a.natAbs.gcd b.toNat=1)|_=>false
def smI:D->Prop
 | .int i=>i.natAbs<=2^200|_=>True
def okS(d:D):Prop:=isFn d=false/\∀a b,d=.t [a,b]->isFn a=false/\isFn b=false/\smI a/\smI b
def zDz(h:isW d=true):∃i,d=.int i:=by cases d<;>first|exact⟨_,rfl⟩|(cases h)
def gs_no(h:isW a=false\/isW b=false):gs (.t [a,b])=false:=by
 cases a<;>first|rfl|(cases b<;>first|rfl|(rcases h with h|h<;>cases h))
def gs_len(h:ds.length≠2):gs (.t ds)=false:=by
 match ds,h with
 | [],_=>rfl
 | [a],_=>cases a<;>rfl
 | [a,b],h=>exact absurd rfl h
 |a::b::c::ds,_=>cases a<;>first|rfl|(cases b<;>rfl)
def gs_sh(h:gs d=true):∃q:Rat,d=sh q:=by
 unfold gs at h;split at h
 ·rename_i a b
  simp only[Bool.and_eq_true,decide_eq_true_eq]at h;refine⟨⟨a,b.toNat,by omega,h.2⟩,?_⟩;show _=D.t [.int a,.int ((b.toNat:Nat):Int)];rw[Int.toNat_of_nonneg (by omega)]
 ·cases h
def sh_gs(q:Rat):gs (sh q)=true:=by
 show(decide (0<(q.den:Int))&&decide (q.num.natAbs.gcd ((q.den:Int)).toNat=1))=true
 have:=q.den_pos;rw[Int.toNat_natCast,decide_eq_true (by omega),decide_eq_true q.reduced];rfl
def zD0(h:okS d):yP [.v d]=.ok (.v (.bl (gs d)),O1):=by
 obtain⟨h1,h2⟩:=h;have no:∀{t:String},tyD d=some t->vC t "tuple"=false->gs d=false->yP [.v d]=.ok (.v (.bl (gs d)),O1):=λ{t} a b c=>by
  rw[c];exact ye (Wy (ZC (t_orT (jo (t_E (zBp (zA rfl) a b)) rfl)) (zU (yH x_c)))) rfl
 cases d with
 |t ds =>
  by_cases l:ds.length=2
  ·match ds,l with
   | [a,b],_ =>
    obtain⟨fa,fb,sa,sb⟩:=h2 a b rfl;have st:∀{o},dB wX (.bSeq (.sIf (.tOr (.tNot (.tE (.call 1 (.ev (.var 1) .nil)))) (.tNot (.tE (.call 1 (.ev (.var 2) .nil))))) (.bOne (.sRet (.c (.bl false)))) .bNil) (.bOne (.sRet (.and (.cmp .gt (.var 2) (.c (.int 0))) (.cmp .eq (.call 0 (.ev (.var 1) (.ev (.var 2) .nil))) (.c (.int 1))))))) [.v (.t [a,b]),.v a,.v b]=.ok (.ret (.v (.bl o)),[.v (.t [a,b]),.v a,.v b])->yP [.v (.t [a,b])]=.ok (.v (.bl o),O1):=λ{o} k =>
     ye (zI (jT (zDS (jo (t_E (zBp (zA rfl) rfl rfl)) rfl) (t_E (yD (jr (zB (zA rfl) zG) rfl) x_c rfl))) jg) (zI (G9 (zA rfl) rfl) k)) rfl
    have wa:=ZF a fa;have wb:=ZF b fb;cases ea:isW a with
    |false =>
     rw[ea]at wa;rw[gs_no (.inl ea)];exact st (Wy (ZC (t_orT (jo (t_E (ze (F:=yX) rfl (zA rfl) wa)) rfl)) (zU (yH x_c))))
    |true =>
     rw[ea]at wa;cases eb:isW b with
     |false =>
      rw[eb]at wb;rw[gs_no (.inr eb)];exact st (Wy (ZC (zDS (jo (t_E (ze (F:=yX) rfl (zA rfl) wa)) rfl) (jo (t_E (ze (F:=yX) rfl (zA rfl) wb)) rfl)) (zU (yH x_c))))
     |true =>
      rw[eb]at wb;obtain⟨i,rfl⟩:=zDz ea;obtain⟨j,rfl⟩:=zDz eb;have gt:gtD (.int j) (.int 0)=some (.v (.bl (decide (0<j)))):=by simp[gtD,zCY]
      have tst:=jT (fs:=wX) (a:=.bOne (.sRet (.c (.bl false)))) (zDS (jo (t_E (ze (k:=1) (a:=.var 1) (E:=[.v (.t [.int i,.int j]),.v (.int i),.v (.int j)]) (F:=yX) rfl (zA rfl) wa)) rfl) (jo (t_E (ze (k:=1) (a:=.var 2) (F:=yX) rfl (zA rfl) wb)) rfl)) jg;show yP [.v (.t [.int i,.int j])]=.ok (.v (.bl (decide (0<j)&&decide (i.natAbs.gcd j.toNat=1))),O1);by_cases z:0<j
      ·rw[decide_eq_true z]at gt ⊢
       obtain⟨m,rfl⟩:∃m:Nat,j=m:=⟨j.toNat,by omega⟩;have gc:=zGg i m (lBq (m:=200) (by have:((m:Int)).natAbs<=2^200:=sb;simpa using this) (by omega));have eq:=v9 (i.natAbs.gcd m) 1;rw[Int.toNat_natCast,Bool.true_and];exact st (zI tst (zU (yH (zA3 (yD (zA rfl) x_c gt) (yD (za (F:=zo) rfl (zA rfl) (zA rfl) gc) x_c eq)))))
      ·rw[decide_eq_false z]at gt ⊢
       exact st (zI tst (zU (yH (x_and0 (yD (zA rfl) x_c gt)))))
  ·rw[gs_len l]
   have n2:=zDi ds.length 2;rw[decide_eq_false l]at n2;exact ye (Wy (ZC (zDS (jo (t_E (zBp (zA rfl) rfl rfl)) rfl) (t_E (yD (jr (zB (zA rfl) zG) rfl) x_c n2))) (zU (yH x_c)))) rfl
 |fn _=>cases h1|exn _ _=>cases h1|dct _ _=>cases h1|_=>exact no rfl rfl rfl
section
variable{die:List Nat}{s k o l:Nat}{v:St->Rat}
def vE(s k o l:Nat)(v:St->Rat)(x:St):Rat:=if x=some (s,k)then 1 else if x=some (o,l)then 0 else v x
def av(die:List Nat)(s k o l:Nat)(v:St->Rat)(x:St):Rat:=sQ (λt=>cR die t*vE s k o l v (nx s o x t)) die.length
abbrev vD(s k o l:Nat)(v:St->Rat)(x:St):D:=sh (vE s k o l v x)
abbrev frH(die:List Nat)(s k o l:Nat)(ds:List D)(s8 s9 s10 s11:DV.Slot):zV:=[.v (yk die s k o l),.v (.t ds),.v (.l ((L0 s k o l).map kS)),.v (Ym die),qI s,qI k,qI o,qI l,s8,s9,s10,s11]
abbrev dH(s k o l:Nat)(v:St->Rat):D:=.dct ((KS s k o l).map kK) ((KS s k o l).map (vD s k o l v))
abbrev chQ(die:List Nat):List D:=(List.range die.length).map λt=>sh (cR die t)
abbrev sH(s k o l:Nat)(v:St->Rat):DV.Slot:=.dct ((KS s k o l).map kK) ((KS s k o l).map (vD s k o l v))
abbrev frK(die:List Nat)(s k o l:Nat)(v:St->Rat)(s8 s9 s10 s11:DV.Slot):zV:=frH die s k o l ((L0 s k o l).map (vD s k o l v)) s8 s9 s10 s11
def vE_b(hv:∀x,GJ.Bq (v x) 200)(x:St):GJ.Bq (vE s k o l v x) 200:=by
 unfold vE;split
 ·exact⟨one_le_two_pow,one_le_two_pow⟩
 ·split
  ·exact⟨zero_le _,one_le_two_pow⟩
  ·exact hv x
def cR_all(h:Mt die s k o l)(t:Nat):GJ.Bq (cR die t) 60:=by
 by_cases c:t<die.length
 ·exact cR_q h c
 ·have e:cR die t=0:=by
   unfold cR;have:wN die t=0:=by
    show die.getD t 0=0
    rw[getD_eq_getElem?_getD,getElem?_eq_none (by omega)];rfl
   rw[this];exact GJ.z_div _
  rw[e];exact⟨zero_le _,one_le_two_pow⟩
def stand_v(h:Mt die s k o l)(hv:∀x,GJ.Bq (v x) 200)(hx:x∈L0 s k o l)(s8 s9 s11:DV.Slot)(h8:s8=sH s k o l v\/s8=.v (dH s k o l v))(h9:s9=.own (chQ die)\/s9=.v (.l (chQ die)))(h11:zz s11=true) :
  ∃c,(c=true↔v x=av die s k o l v x)/\dB zO jJ (frH die s k o l ds s8 s9 (.v (kS x)) s11)=.ok (if c then .nx else .ret (.v (.bl false)),frH die s k o l ds (.v (dH s k o l v)) (.v (.l (chQ die))) (.v (kS x)) (.v (.l ((List.range die.length).map λt=>vD s k o l v (nx s o x t))))):=by
 have hm:die.length<=3:=by rcases h.d.1 with e|e<;>omega
 have xl:dE zO (.frd 8 (.cB .len (.cons (.var 3) .nil))) (frH die s k o l ds s8 s9 (.v (kS x)) s11)=.ok (.v (.int (die.length:Nat)),frH die s k o l ds (.v (dH s k o l v)) s9 (.v (kS x)) s11):=by
  rcases h8 with rfl|rfl
  ·exact x_frdD rfl rfl (jr (zB (zA rfl) zG) (wq die))
  ·exact x_frdV rfl (jr (zB (zA rfl) zG) (wq die))
 have hi:dI zO (.iR1 (.cons (.frd 8 (.cB .len (.cons (.var 3) .nil))) .nil)) (frH die s k o l ds s8 s9 (.v (kS x)) s11)=.ok (N (List.range die.length),frH die s k o l ds (.v (dH s k o l v)) s9 (.v (kS x)) s11):=by
  have:=i_R1 (fs:=zO) (a:=.cons (.frd 8 (.cB .len (.cons (.var 3) .nil))) .nil) (j:=(die.length:Int)) (zB xl zG) rfl ⟨by omega,by omega⟩;rw[Int.toNat_natCast,QC]at this;exact this
 have cf:dE zO (.comp 1 ["thrown"] ["shares","match","stand"] [8,0,10] (.iR1 (.cons (.frd 8 (.cB .len (.cons (.var 3) .nil))) .nil)) (.n 0) .tTr (.dgO 1 (.call 2 (.ev (.var 2) (.ev (.var 3) (.ev (.var 0) .nil)))))) (frH die s k o l ds s8 s9 (.v (kS x)) s11)=.ok (.own ((List.range die.length).map λt=>vD s k o l v (nx s o x t)),frH die s k o l ds (.v (dH s k o l v)) s9 (.v (kS x)) s11):=by
  refine ZD (ss:=[.v (dH s k o l v),.v (yk die s k o l),.v (kS x)]) hi rfl rfl (λi d hd=>?_) (by simp[N]) (by simp[N,cap];omega) (λx=>rfl);obtain⟨t,ht,rfl⟩:=N_at hd;obtain⟨hl,e⟩:=qG.mp ht;rw[getElem_range]at e;subst e;rw[length_range]at hl;refine⟨_,x_dgA (q:=kK (nx s o x i)) rfl (.inr rfl) (yi (F:=jI) rfl (zA rfl) (zA rfl) (zA rfl) (vW x i)) (zBD (nx s o x i)) (zBE (vD s k o l v) (KS_in.mpr (zDm h hx i))),?_⟩;rw[getElem?_map,getElem?_range hl];rfl
 have hz:dI zO (.iZ false false (.cons (.var 9) (.cons (.var 11) .nil))) (frH die s k o l ds (.v (dH s k o l v)) s9 (.v (kS x)) (.own ((List.range die.length).map λt=>vD s k o l v (nx s o x t))))=.ok (zipWith Gq (chQ die) ((List.range die.length).map λt=>vD s k o l v (nx s o x t)),frH die s k o l ds (.v (dH s k o l v)) (.v (.l (chQ die))) (.v (kS x)) (.v (.l ((List.range die.length).map λt=>vD s k o l v (nx s o x t))))) :=
  i_Z (zB (x_vA h9 rfl rfl) (zB (jX rfl rfl) zG)) rfl rfl
 have ct:dE zO (.comp 2 ["chance","share"] [] [] (.iZ false false (.cons (.var 9) (.cons (.var 11) .nil))) (.t [0,1]) .tTr (.call 1 (.ev (.var 0) (.ev (.var 1) .nil)))) (frH die s k o l ds (.v (dH s k o l v)) s9 (.v (kS x)) (.own ((List.range die.length).map λt=>vD s k o l v (nx s o x t))))=.ok (.own ((List.range die.length).map λt=>sh (cR die t*vE s k o l v (nx s o x t))),frH die s k o l ds (.v (dH s k o l v)) (.v (.l (chQ die))) (.v (kS x)) (.v (.l ((List.range die.length).map λt=>vD s k o l v (nx s o x t))))):=by
  refine zFd hz (λi d hd=>?_) (by simp) (by simp[cap];omega);have hl:i<die.length:=by
   have:=(qG.mp hd).1;rw[List.length_zipWith,length_map,length_map,length_range]at this;omega
  rw[List.getElem?_zipWith,getElem?_map,getElem?_map,getElem?_range hl]at hd;have hq:=vE_b (s:=s) (k:=k) (o:=o) (l:=l) hv (nx s o x i);have et:=zBA (lBq (cR_q h hl).1 (by omega)) (lBq hq.1 (by omega)) (lBq2 (cR_q h hl).2 hq.2 (by omega));refine⟨sh (cR die i),vD s k o l v (nx s o x i),_,(qJ hd).symm,za (F:=zi) rfl (zA rfl) (zA rfl) et,?_⟩;rw[getElem?_map,getElem?_range hl];rfl
 have es:=e_ssumQ (f:=λt=>cR die t*vE s k o l v (nx s o x t)) (m:=260) (by omega) hm (λt=>zBH (cR_all h t) (vE_b hv _));have gx:=zBE (vD s k o l v) (KS_in.mpr (.inl hx):x∈KS s k o l);obtain⟨c,n1,n2⟩:=ne_sh (vE s k o l v x) (av die s k o l v x);have ev:vE s k o l v x=v x:=by
  have:=GD h hx;unfold vE;rw[if_neg (λz=>this (.inl z)),if_neg (λz=>this (.inr z))]
 rw[ev]at n2;refine⟨c,n2,zI (E1:=frH die s k o l ds (.v (dH s k o l v)) s9 (.v (kS x)) (.own ((List.range die.length).map λt=>vD s k o l v (nx s o x t)))) (zw cf (yB rfl h11 rfl)) ?_⟩;cases c with
 |true=>exact zU (jT (t_E (yD (x_dgA (q:=kK x) rfl (.inr rfl) (zA rfl) (zBD x) gx) (ze (F:=yb) rfl ct es) n1)) jg)|false=>exact zU (ZC (t_E (yD (x_dgA (q:=kK x) rfl (.inr rfl) (zA rfl) (zBD x) gx) (ze (F:=yb) rfl ct es) n1)) (zU (yH x_c)))
inductive GI(die:List Nat)(s k o l:Nat)(v:St->Rat)(ds:List D):zV->Prop
 |mk (s8 s9 s10 s11:DV.Slot) (h8:s8=sH s k o l v\/s8=.v (dH s k o l v)) (h9:s9=.own (chQ die)\/s9=.v (.l (chQ die))) (h10:zz s10=true) (h11:zz s11=true):GI die s k o l v ds (frH die s k o l ds s8 s9 s10 s11)
def out2(a b:D)(E:zV):zg [.v a,.v b] E=O2:=by
 match E with
 | []=>rfl| [_]=>rfl|_::_::_=>rfl
abbrev zGu(die:List Nat)(s k o l:Nat)(th:D)(s2:DV.Slot):zV:=[.v (yk die s k o l),.v th,s2,.e,.e,.e,.e,.e,.e,.e,.e,.e]
def GH(h:Mt die s k o l)(hb:JO=.bSeq (.sSet 2 (.call 5 (.ev (.var 0) .nil))) b)(k1:dB zO b (zGu die s k o l th (.own ((L0 s k o l).map kS)))=.ok (.ret r,E))(ho:zg [.v (yk die s k o l),.v th] E=O2):yA [.v (yk die s k o l),.v th]=.ok (r,O2):=by
 have es:=zFT h;rw[SL_eq]at es;unfold yA;rw[hb];exact ye (zI (E1:=zGu die s k o l th (.own ((L0 s k o l).map kS))) (zw (ze (F:=jd) rfl (zA rfl) es) rfl) k1) ho
def e_pg(h:Mt die s k o l)(hv:∀x,GJ.Bq (v x) 200):∃b,yA [.v (yk die s k o l),.v (.t ((L0 s k o l).map λx=>sh (v x)))]=.ok (.v (.bl b),O2)/\(b=true↔∀x∈L0 s k o l,v x=av die s k o l v x):=by
 have S27:=h.ds.S27;have hl:=zDo h;have lv:∀x∈L0 s k o l,vE s k o l v x=v x:=λx hx=>by
  have:=GD h hx;unfold vE;rw[if_neg (λz=>this (.inl z)),if_neg (λz=>this (.inr z))]
 have eL:((L0 s k o l).map λx=>sh (v x))=(L0 s k o l).map (vD s k o l v):=map_congr_left λx hx=>by rw[<- lv x hx]
 rw[eL];have ln1:Gf [.t ((L0 s k o l).map (vD s k o l v))]=some (.v (.int ((L0 s k o l).length:Nat))):=by simp only[Gf,length_map]
 have ln2:Gf [.l ((L0 s k o l).map kS)]=some (.v (.int ((L0 s k o l).length:Nat))):=by simp only[Gf,length_map]
 have nel:neG (.int ((L0 s k o l).length:Nat)) (.int ((L0 s k o l).length:Nat))=some (.v (.bl false)):=by rw[ne_int,decide_eq_true rfl];rfl
 have oks:∀q:Rat,GJ.Bq q 200->okS (sh q):=λq hq=>⟨rfl,λa b e=>by cases e;exact⟨rfl,rfl,hq.1,by show((q.den:Int)).natAbs<=2^200;simpa using hq.2⟩⟩
 have cg:dE zO (.cB .all (.cons (.comp 1 ["share"] [] [] (.iT (.var 1)) (.n 0) .tTr (.call 4 (.ev (.var 0) .nil))) .nil)) (zGu die s k o l (.t ((L0 s k o l).map (vD s k o l v))) (.v (.l ((L0 s k o l).map kS))))=.ok (.v (.bl true),zGu die s k o l (.t ((L0 s k o l).map (vD s k o l v))) (.v (.l ((L0 s k o l).map kS)))) :=
  jr (zB (jp (ds:=(L0 s k o l).map (vD s k o l v)) (vs:=[]) (λd=>.bl (gs d)) (i_T (zA rfl) rfl) rfl (λd hd=>by
   obtain⟨x,_,rfl⟩:=mem_map.mp hd;exact⟨_,ze (F:=yP) rfl (zA rfl) (zD0 (oks _ (vE_b hv x))),rfl⟩) (by rw[length_map];simp only[cap];omega) rfl) zG) (zDa (f:=gs) (by
    rw[all_eq_true];intro d hd;obtain⟨x,_,rfl⟩:=mem_map.mp hd;exact sh_gs _))
 have dz:Gy false true [.l ((L0 s k o l).map kS),.t ((L0 s k o l).map (vD s k o l v))]=some (.dct ((L0 s k o l).map kK) ((L0 s k o l).map (vD s k o l v))):=by
  have z:=zDq (vD s k o l v) (L0 s k o l) [] (L0_nd h);simp only[map_nil,nil_append]at z;simp only[Gy,Ql,zDp];rw[if_pos ⟨by simp,by simp;omega⟩];show some (R.dct (zAl ((L0 s k o l).map kK) ((L0 s k o l).map (vD s k o l v)) ([],[])).1 (zAl ((L0 s k o l).map kK) ((L0 s k o l).map (vD s k o l v)) ([],[])).2)=_;rw[z]
 have mk:∀(q:St) (d:D),vD s k o l v q=d->(λx=>if x=q then d else vD s k o l v x)=vD s k o l v:=λq d e=>by
  funext x
  split
  ·rename_i c;rw[c,e]
  ·rfl
 have p1:=zAH (vD s k o l v) (some (s,k)) (.t [.int 1,.int 1]) (L0 s k o l);rw[add1 h,mk _ _ (by show sh (vE s k o l v (some (s,k)))=_;unfold vE;rw[if_pos rfl];rfl)]at p1;have p2:=zAH (vD s k o l v) (some (o,l)) (.t [.int 0,.int 1]) (L0 s k o l++[some (s,k)]);rw[add2 h,mk _ _ (by show sh (vE s k o l v (some (o,l)))=_;unfold vE;rw[if_neg (E_ne h),if_pos rfl];rfl)]at p2;have cc:dE zO (.comp 1 ["weight"] ["die"] [3] (.iT (.var 3)) (.n 0) .tTr (.call 3 (.ev (.var 0) (.ev (.cB .sum (.cons (.var 1) .nil)) .nil)))) (frK die s k o l v (sH s k o l v) .e .e .e)=.ok (.own (chQ die),frK die s k o l v (sH s k o l v) .e .e .e):=by
  refine ZD (ss:=[.v (Ym die)]) (i_T (zA rfl) rfl) rfl rfl (λi d hd=>?_) (by simp[N]) (by rw[Zz];simp only[cap];rcases h.d.1 with e|e<;>omega) (λx=>rfl)
  obtain⟨t,ht,rfl⟩:=N_at hd;have hi:=(qG.mp ht).1;have tw:t=wN die i:=by have:=get_w hi;rw[ht]at this;exact qJ this
  have sn:=zA8 t die.sum (by omega) (lB (m:=10) (lt_of_le_of_lt S27.2 (by decide)) (by omega));rw[Yq _ (by omega),tw]at sn;subst tw;refine⟨_,za (F:=zh) rfl (zA rfl) (jr (zB (zA rfl) zG) (zFZ die)) sn,?_⟩;rw[getElem?_map,getElem?_range hi];rfl
 have cls:∀x:St,∃c:Bool,c=true↔v x=av die s k o l v x:=λx=>by
  obtain⟨c,_,n2⟩:=ne_sh (v x) (av die s k o l v x);exact⟨c,n2⟩
 let cb:Nat->Bool:=λi=>!(Classical.choose (cls ((L0 s k o l).getD i none)))
 have cbs:∀{i:Nat} {x:St},(L0 s k o l)[i]?=some x->(cb i=false↔v x=av die s k o l v x):=λ{i x} e=>by
  have e':(L0 s k o l).getD i none=x:=by rw[getD_eq_getElem?_getD,e];rfl
  have:=Classical.choose_spec (cls ((L0 s k o l).getD i none));rw[e']at this;rw[<- this];show(!(Classical.choose (cls ((L0 s k o l).getD i none))))=false↔_;rw[e'];cases Classical.choose (cls x)<;>simp
 have lp:=QD (tg:=gN 10) (body:=dB zO jJ) (λ_ E=>GI die s k o l v ((L0 s k o l).map (vD s k o l v)) E) cb (λ_=>.v (.bl false)) ((L0 s k o l).map kS) 0 (frK die s k o l v (sH s k o l v) (.own (chQ die)) .e .e) ⟨_,_,_,_,.inl rfl,.inl rfl,rfl,rfl⟩
  (λi d q E ⟨t8,t9,t10,t11,q8,q9,q10,q11⟩=>by
   rw[getElem?_map,Option.map_eq_some_iff]at q;obtain⟨x,ex,rfl⟩:=q;obtain⟨c,c1,c2⟩:=stand_v h hv (mem_of_getElem? ex) (ds:=(L0 s k o l).map (vD s k o l v)) t8 t9 t11 q8 q9 q11;rw[zero_add];have cx:=cbs ex;cases c with
   |true=>exact⟨_,_,yB rfl q10 rfl,.inr ⟨cx.mpr (c1.mp rfl),c2,⟨_,_,_,_,.inr rfl,.inr rfl,rfl,rfl⟩⟩⟩
   |false =>
    refine⟨_,_,yB rfl q10 rfl,.inl ⟨?_,c2⟩⟩;cases z:cb i with
    |true=>rfl|false=>exact absurd (c1.mpr (cx.mp z)) (by simp))
 have go:∀{r:R} {E:zV},dB zO (.bSeq (.sForL (.var 2) (.n 10) jJ) (.bOne (.sRet (.c (.bl true))))) (frK die s k o l v (sH s k o l v) (.own (chQ die)) .e .e)=.ok (.ret r,E)->zg [.v (yk die s k o l),.v (.t ((L0 s k o l).map (vD s k o l v)))] E=O2->yA [.v (yk die s k o l),.v (.t ((L0 s k o l).map (vD s k o l v)))]=.ok (r,O2):=λ{r E} kk ho=>by
  refine GH h rfl ?_ ho;refine zI (E1:=zGu die s k o l (.t ((L0 s k o l).map (vD s k o l v))) (.v (.l ((L0 s k o l).map kS)))) (jT (zDS (jo (t_E (zBp (zA rfl) rfl rfl)) rfl) (t_E (yD (jr (zB (zA rfl) zG) ln1) (jr (zB (jX rfl rfl) zG) ln2) nel))) jg) ?_;refine zI (jT (jo (t_E cg) rfl) jg) ?_;refine zI (E1:=frK die s k o l v .e .e .e .e) (G9 (zA rfl) rfl) ?_;refine zI (E1:=frK die s k o l v (.dct ((L0 s k o l).map kK) ((L0 s k o l).map (vD s k o l v))) .e .e .e) (zw (r:=.dct _ _) (x_dzip (zB (zA rfl) (zB (zA rfl) zG)) dz) rfl) ?_;refine zI (E1:=frK die s k o l v (.dct ((L0 s k o l++[some (s,k)]).map kK) ((L0 s k o l++[some (s,k)]).map (vD s k o l v))) .e .e .e) (zDc (q:=kK (some (s,k))) (p:=(_,_)) rfl zAy (yG (zB (zA rfl) (zB (zA rfl) zG)) rfl zP) rfl (kl (by omega)) p1 rfl) ?_;refine zI (E1:=frK die s k o l v (sH s k o l v) .e .e .e) (zDc (q:=kK (some (o,l))) (p:=(_,_)) rfl zAy (yG (zB (zA rfl) (zB (zA rfl) zG)) rfl zP) rfl (kl (by simp;omega)) p2 rfl) ?_;exact zI (E1:=frK die s k o l v (sH s k o l v) (.own (chQ die)) .e .e) (zw cc rfl) kk
 rcases lp with⟨i,E',hi,q1,_,q3⟩|⟨q1,E',q2,t8,t9,t10,t11,_⟩
 ·refine⟨false,go (Wy (Ju (tg:=.n 10) (zA rfl) rfl q3)) (out2 _ _ _),⟨λz=>absurd z (by decide),λz=>?_⟩⟩
  rw[length_map]at hi;have ex:=getElem?_eq_getElem hi;rw[zero_add]at q1;have:=(cbs ex).mpr (z _ (mem_of_getElem? ex));rw[q1]at this;cases this
 ·refine⟨true,go (zI (Ju (tg:=.n 10) (zA rfl) rfl q2) (zU (yH x_c))) rfl,⟨λ_ x hx=>?_,λ_=>rfl⟩⟩
  obtain⟨i,hi,rfl⟩:=List.getElem_of_mem hx;have:=q1 i (by rw[length_map];exact hi);rw[zero_add]at this;exact(cbs (getElem?_eq_getElem hi)).mp this
end
section
variable{die:List Nat}{s k o l:Nat}{v:St->Rat}
def vQ(s k o l:Nat)(u:Nat->Rat)(x:St):Rat:=if x=some (s,k)then -(u (k+l-1))else if x=some (o,l)then 0 else u (ps s k x)
theorem rowQ(h:Mt die s k o l)(u:Nat->Rat)(hx:x∈L0 s k o l)(hi:i<k+l-1):∀t,GJ.dot (Yw die s k o l 1 0 x i t) u (k+l-1+1)=u i-sQ (λt=>cR die t*vQ s k o l u (nx s o x t)) t
 |0=>by
  simp only[Yw,sQ];rw[GG hi _ _ (le_refl _),if_pos (by omega),if_pos (by omega)];have:(((0:Nat):Int):Rat)=0:=rfl;rw[this];grind
 |t+1=>by
  simp only[Yw,sQ];rw[zAJ,if_pos (by have:=pp_lt h hx t;omega),rowQ h u hx hi t];have:ee die s k o l 1 x t*u (pp s k o l x t)=-(cR die t*vQ s k o l u (nx s o x t)):=by
   unfold ee pp vQ;by_cases c:nx s o x t=some (s,k)
   ·have z:(((1:Nat):Int):Rat)=1:=rfl
    rw[if_pos c,if_pos (.inl c),if_pos c,z];grind
   ·by_cases d:nx s o x t=some (o,l)
    ·have z:((0:Int):Rat)=0:=rfl
     rw[if_neg c,if_pos d,if_pos (.inr d),if_neg c,if_pos d,z];grind
    ·rw[if_neg c,if_neg d,if_neg (λz=>z.elim c d),if_neg c,if_neg d];grind
  rw[this];grind
def uv(s k o l:Nat)(v:St->Rat)(y:Nat):Rat:=if y<k+l-1 then v ((L0 s k o l).getD y none)else -1
def uv_E(h:Mt die s k o l)(hx:x∈L0 s k o l\/En s k o l x):vQ s k o l (uv s k o l v) x=vE s k o l v x:=by
 unfold vQ vE;by_cases c:x=some (s,k)
 ·rw[if_pos c,if_pos c];unfold uv;rw[if_neg (by omega)];grind
 ·by_cases d:x=some (o,l)
  ·rw[if_neg c,if_neg c,if_pos d,if_pos d]
  ·obtain⟨h1,h2⟩:=QM h (hx.resolve_right (λz=>z.elim c d))
   rw[if_neg c,if_neg c,if_neg d,if_neg d];unfold uv;rw[if_pos h1,getD_eq_getElem?_getD,h2];rfl
theorem zBL{f f':Nat->Rat}(h:∀t,f t=f' t):∀t,sQ f t=sQ f' t
 |0=>rfl|t+1=>by simp only[sQ];rw[zBL h t,h t]
def zGv(h:Mt die s k o l)(hi:i<k+l-1)(e:(L0 s k o l)[i]?=some x):GJ.dot (MM die s k o l 1 0 i) (uv s k o l v) (k+l-1+1)=v x-av die s k o l v x:=by
 have e':(L0 s k o l).getD i none=x:=by rw[getD_eq_getElem?_getD,e];rfl
 have hx:=mem_of_getElem? e;unfold MM;rw[e',rowQ h _ hx hi,zBL (λt=>by rw[uv_E h (zDm h hx t)])];unfold uv av;rw[if_pos hi,e']
def zFl(h:Mt die s k o l)(hi:i<k+l-1)(e:(L0 s k o l)[i]?=some x):GJ.stg (MM die s k o l 1 0) (k+l-1) i (k+l-1)=(((pn die s k o l x:Nat):Int):Rat)/(((Nn die s k o l:Nat):Int):Rat):=by
 have hN:=Yr h;have f:=GJ.found (QL h (by omega) (by omega)) (W4 (g:=1) (q:=0) h) (U:=UP die s k o l) (D:=(Nn die s k o l:Nat)) (by omega) (by unfold UP;rw[if_neg (by rw[W2];omega)]) (λi hi=>UP_L h hi) (show i<(psy die s k o l 1 0).n from hi);rw[W2]at f;rw[f];unfold UP;rw[if_pos hi,getD_eq_getElem?_getD,e];rfl
def zFm(h:Mt die s k o l):(∀x∈L0 s k o l,v x=av die s k o l v x)↔∀x∈L0 s k o l,v x=(((pn die s k o l x:Nat):Int):Rat)/(((Nn die s k o l:Nat):Int):Rat):=by
 have ok:=QL (g:=1) (q:=0) h (by omega) (by omega);have hM:=W4 (g:=1) (q:=0) h;have hN:=Yr h;have hNr:(((Nn die s k o l:Nat):Int):Rat)≠0:=GJ.rc (by omega);constructor
 ·intro hv x hx
  obtain⟨h1,h2⟩:=QM h hx;have e:=GJ.sol_of (M:=MM die s k o l 1 0) (n:=k+l-1) (u:=uv s k o l v) (λi hi=>GJ.pivs ok hM i hi) (λi hi=>by
   obtain⟨y,e1,e2,e3⟩:=zBi h hi;rw[zGv h hi e1,<- hv y e2];grind) h1
  rw[zFl h h1 h2]at e;unfold uv at e;rw[if_pos h1,if_neg (by omega),getD_eq_getElem?_getD,h2]at e;simp only[Option.getD_some]at e
  grind
 ·intro hv x hx
  obtain⟨h1,h2⟩:=QM h hx;have e:=zGv (v:=v) h h1 h2;have eu:∀m,m<=k+l-1+1->GJ.dot (MM die s k o l 1 0 (ps s k x)) (uv s k o l v) m=GJ.dot (MM die s k o l 1 0 (ps s k x)) (λy=>(UP die s k o l y:Rat)/(((Nn die s k o l:Nat):Int):Rat)) m:=by
   intro m
   induction m with
   |zero=>intro _;rfl
   |succ m ih =>
    intro hm;simp only[GJ.dot];rw[ih (by omega)];congr 2;unfold uv UP;by_cases c:m<k+l-1
    ·obtain⟨y,e1,e2,_⟩:=zBi h c
     rw[if_pos c,if_pos c,getD_eq_getElem?_getD,e1];exact hv y e2
    ·rw[if_neg c,if_neg c,Rat.intCast_neg];grind
  have z:=GJ.dot_L ok hM (show ps s k x<(psy die s k o l 1 0).n from h1) (UP die s k o l) (D:=((Nn die s k o l:Nat):Int)) (by omega);rw[W2,UP_L h h1,GJ.z_div]at z;rw[eu _ (le_refl _),z]at e
  grind
def okT:D->Prop
 | .t ds=>∀d∈ds,okS d|d=>isFn d=false
def qD:D->Rat
 | .t [.int a,.int b]=>(a:Rat)/(b:Rat)|_=>0
def qD_sh(q:Rat):qD (sh q)=q:=by
 show(q.num:Rat)/(((q.den:Int)):Rat)=q
 rw[<- Rat.divInt_eq_div];exact Rat.mkRat_self q
def okS_b(h:okS (sh q)):GJ.Bq q 200:=by
 obtain⟨_,_,a,b⟩:=h.2 _ _ rfl;exact⟨a,by have:((q.den:Int)).natAbs<=2^200:=b;simpa using this⟩
def e_paper(h:Mt die s k o l)(ok:okT th)(hc:∀ds,th=.t ds->ds.length<=1000):∃b,yA [.v (yk die s k o l),.v th]=.ok (.v (.bl b),O2)/\(b=true↔th=.t (pap die s k o l)):=by
 have hl:=zDo h;have ln2:Gf [.l ((L0 s k o l).map kS)]=some (.v (.int ((L0 s k o l).length:Nat))):=by simp only[Gf,length_map]
 have no:∀{t:String},tyD th=some t->vC t "tuple"=false->(∀ds,th≠.t ds)->∃b,yA [.v (yk die s k o l),.v th]=.ok (.v (.bl b),O2)/\(b=true↔th=.t (pap die s k o l)):=λ{t} a b c =>
  ⟨false,GH h rfl (Wy (ZC (t_orT (jo (t_E (zBp (zA rfl) a b)) rfl)) (zU (yH x_c)))) (out2 _ _ _),⟨λz=>absurd z (by decide),λz=>absurd z (c _)⟩⟩
 cases th with
 |t ds =>
  have hc:=hc ds rfl;have ln1:Gf [.t ds]=some (.v (.int (ds.length:Nat))):=by simp only[Gf]
  have n1:=zDi ds.length (L0 s k o l).length;by_cases c:ds.length=(L0 s k o l).length
  ·rw[decide_eq_true c]at n1
   have t1:=jT (fs:=zO) (a:=.bOne (.sRet (.c (.bl false)))) (zDS (jo (t_E (zBp (a:=.var 1) (E:=zGu die s k o l (.t ds) (.own ((L0 s k o l).map kS))) (zA rfl) (T:=.tuple) rfl rfl)) rfl) (t_E (yD (o:=.ne) (jr (b:=.len) (zB (a:=.var 1) (zA rfl) zG) ln1) (jr (b:=.len) (zB (a:=.var 2) (jX rfl rfl) zG) ln2) n1))) jg;have cg:dE zO (.cB .all (.cons (.comp 1 ["share"] [] [] (.iT (.var 1)) (.n 0) .tTr (.call 4 (.ev (.var 0) .nil))) .nil)) (zGu die s k o l (.t ds) (.v (.l ((L0 s k o l).map kS))))=.ok (.v (.bl (ds.all gs)),zGu die s k o l (.t ds) (.v (.l ((L0 s k o l).map kS)))) :=
    jr (zB (jp (ds:=ds) (vs:=[]) (λd=>.bl (gs d)) (i_T (zA rfl) rfl) rfl (λd hd=>⟨_,ze (F:=yP) rfl (zA rfl) (zD0 (ok d hd)),rfl⟩) (by simp only[cap];omega) rfl) zG) (zDa (f:=gs) rfl)
   cases ea:ds.all gs with
   |false =>
    rw[ea]at cg;refine⟨false,GH h rfl (zI t1 (Wy (ZC (jo (t_E cg) rfl) (zU (yH x_c))))) (out2 _ _ _),⟨λz=>absurd z (by decide),λz=>?_⟩⟩;cases z;have:(pap die s k o l).all gs=true:=by
     rw[all_eq_true];intro d hd;obtain⟨x,_,rfl⟩:=mem_map.mp hd;rw[Yq _ (Yr h)];exact sh_gs _
    rw[this]at ea;cases ea
   |true =>
    rw[all_eq_true]at ea;have each:∀d∈ds,d=sh (qD d)/\GJ.Bq (qD d) 200:=λd hd=>by
     obtain⟨q,rfl⟩:=gs_sh (ea d hd);rw[qD_sh];exact⟨rfl,okS_b (ok _ hd)⟩
    have eds:ds=(L0 s k o l).map λx=>sh (qD (ds.getD (ps s k x) .non)):=by
     apply ext_getElem?;intro i;rw[getElem?_map];by_cases z:i<ds.length
     ·have z':i<k+l-1:=by rw[c,wK]at z;have:=h.hk;have:=h.hl;omega
      obtain⟨x,e1,e2,e3⟩:=zBi h z';rw[e1,getElem?_eq_getElem z];simp only[Option.map_some];rw[e3,getD_eq_getElem?_getD,getElem?_eq_getElem z];simp only[Option.getD_some];rw[<- (each _ (getElem_mem z)).1]
     ·rw[getElem?_eq_none (by omega),getElem?_eq_none (l:=L0 s k o l) (by omega)];rfl
    have bv:∀x:St,GJ.Bq (qD (ds.getD (ps s k x) .non)) 200:=λx=>by
     rw[getD_eq_getElem?_getD];cases z:ds[ps s k x]? with
     |none=>exact⟨zero_le _,one_le_two_pow⟩|some d=>exact(each d (mem_of_getElem? z)).2
    obtain⟨b,r,hb⟩:=e_pg h bv;rw[<- eds]at r;refine⟨b,r,hb.trans ((zFm h).trans ?_)⟩;constructor
    ·intro q
     rw[eds];show D.t _=D.t _;congr 1;exact map_congr_left λx hx=>by rw[q x hx,Yq _ (Yr h)]
    ·intro q x hx
     have q':ds=pap die s k o l:=by cases q;rfl
     obtain⟨h1,h2⟩:=QM h hx;have:(pap die s k o l)[ps s k x]?=some (nn (pn die s k o l x) (Nn die s k o l)):=by rw[getElem?_map,h2];rfl
     rw[q',getD_eq_getElem?_getD,this];simp only[Option.getD_some];rw[Yq _ (Yr h),qD_sh]
  ·rw[decide_eq_false c]at n1
   refine⟨false,GH h rfl (Wy (ZC (zDS (jo (t_E (zBp (zA rfl) rfl rfl)) rfl) (t_E (yD (jr (zB (zA rfl) zG) ln1) (jr (zB (jX rfl rfl) zG) ln2) n1))) (zU (yH x_c)))) (out2 _ _ _),⟨λz=>absurd z (by decide),λz=>?_⟩⟩;cases z;exact absurd (by simp) c
 |fn _=>cases ok|exn _ _=>cases ok|dct _ _=>cases ok|_=>exact no rfl rfl (λ_ z=>by cases z)
end
def zFn{fs:List FI}{E E1:zV}{k i:Nat}{a:_}{F:MF}{r r':R}{p p':List D}{o:DV.Slot}(h0:fiF fs k=F)(h1:dE fs a E=.ok (r,E))(hE:E[i]?=some (.par p))(h2:F [.v r.d,.par p]=.ok (r',[o,.par p']))(h3:E.set i (.par p')=E1):dE fs (.call k (.ev a (.lend i .nil))) E=.ok (r',E1):=by
 subst h0 h3;have hi:i<E.length:=(qG.mp hE).1;have hs:(E.set i .e)[i]?=some .e:=by simp[hi]
 simp only[jm,Qs,ub,JI,wT,yE,hE,jB,Bool.false_eq_true,if_false,h1,zM,Slot.list?,h2,zJ,hs,Slot.put,set_set]
def x_dic:dE fs .dic E=.ok (.v .dic,E):=by simp only[zGP,eC]
def It(d:D):Prop:=okS d/\Cq 1 d
structure Th(d:D):Prop where
 t:okT d
 l:∀ds,d=.t ds->ds.length<=1000
 c:Cq 3 d
def uB(h:∀d∈ds,It d)(hl:ds.length<=13):Th (.t ds):=⟨λd hd=>(h d hd).1,λes e=>(by cases e;omega),.up (.cT hl λd hd=>(h d hd).2)⟩
def W6(ha:a<2^200)(hb:b<2^200):It (.t [.int (a:Nat),.int (b:Nat)]):=by
 have h2:∀{n:Nat},n<2^200->n<2^210:=λh=>lt_trans h (by decide +kernel)
 refine⟨⟨rfl,λx y e=>?_⟩,.cT (by simp) λd hd=>?_⟩
 ·cases e
  exact⟨rfl,rfl,by show((a:Int)).natAbs<=2^200;rw[Int.natAbs_natCast];omega,by show((b:Int)).natAbs<=2^200;rw[Int.natAbs_natCast];omega⟩
 ·simp only[mem_cons,not_mem_nil,or_false]at hd
  rcases hd with rfl|rfl
  ·exact .cN (h2 ha)
  ·exact .cN (h2 hb)
section
variable{die:List Nat}{s k o l:Nat}
def zBM(h:Mt die s k o l)(hd:d∈pap die s k o l):∃a b:Nat,d=.t [.int (a:Nat),.int (b:Nat)]/\a<2^101/\b<2^101:=by
 obtain⟨x,hx,rfl⟩:=mem_map.mp hd;have c:=N101 h;have pl:=pn_le h (.inl hx);exact⟨_,_,zBg _ _,lt_of_le_of_lt (zFW _ _) (lt_of_le_of_lt pl c),lt_of_le_of_lt (zFX _ _) c⟩
def zGw(h:Mt die s k o l):∀d∈pap die s k o l,It d:=λd hd=>by
 obtain⟨a,b,rfl,ha,hb⟩:=zBM h hd;exact W6 (lt_trans ha (by decide +kernel)) (lt_trans hb (by decide +kernel))
def zD1(h:Mt die s k o l):1<=(pap die s k o l).length/\(pap die s k o l).length<=11:=by
 have hl:=zDo h;rw[length_map];exact⟨by rw[wK];omega,hl⟩
def pap_Cy(h:Mt die s k o l):∃y,pyD (.t (pap die s k o l))=some y/\Cy y:=by
 have gen:∀L:List D,(∀d∈L,∃a b:Nat,d=.t [.int (a:Nat),.int (b:Nat)])->∃ys,pyDs L=some ys/\∀y∈ys,Cy y:=by
  intro L
  induction L with
  |nil=>intro _;exact⟨[],rfl,λy hy=>by cases hy⟩
  |cons d L ih =>
   intro hL;obtain⟨ys,e,hy⟩:=ih λx hx=>hL x (mem_cons_of_mem _ hx)
   obtain⟨a,b,rfl⟩:=hL d qE;refine⟨.tuple [.int (a:Nat),.int (b:Nat)]::ys,by simp only[pyDs,e];rfl,λy hm=>?_⟩;rcases mem_cons.mp hm with rfl|hm
   ·refine .yT λz hz=>?_
    simp only[mem_cons,not_mem_nil,or_false]at hz;rcases hz with rfl|rfl<;>exact .yN
   ·exact hy y hm
 obtain⟨ys,e,hy⟩:=gen _ λd hd=>by
  obtain⟨a,b,e,_⟩:=zBM h hd;exact⟨a,b,e⟩
 exact⟨.tuple ys,by simp only[pyD,e];rfl,.yT hy⟩
def zD2(h:Mt die s k o l):Th (.t (pap die s k o l)):=uB (zGw h) (by have:=zD1 h;omega)
def cap8:[a,b,c,d,e,f,g,i].length<=cap:=by simp[cap]
def cap4:[a,b,c,d].length<=cap:=by simp[cap]
def cap6:[a,b,c,d,e,f].length<=cap:=by simp[cap]
def e_bent(h:Mt die s k o l)(p:List D)(hp:Pen p):∃th p',wj [.v (.t (pap die s k o l)),.par p]=.ok (.v th,[.e,.par p'])/\Pen p'/\Th th:=by
 have pl:=zD1 h;obtain⟨sp,p1,e1,l1,hp1⟩:=jE p hp (pap die s k o l).length (by omega) (by omega);obtain⟨r2,p2,e2,l2,hp2⟩:=jE p1 hp1 8 (by decide) (by decide);obtain⟨r3,p3,e3,l3,hp3⟩:=jE p2 hp2 10 (by decide) (by decide);obtain⟨a,b,e4,ha,hb⟩:=zBM h (getElem_mem l1);have at1:ixD (.t (pap die s k o l)) (.int (sp:Nat))=some (.v (.t [.int (a:Nat),.int (b:Nat)])):=by
  rw[Q8,Zr (by rw[getElem?_eq_getElem l1,e4])];rfl
 have ln:Gf [.t (pap die s k o l)]=some (.v (.int ((pap die s k o l).length:Nat))):=by simp only[Gf]
 generalize hP:pap die s k o l=P at *;have hI:∀d∈P,It d:=hP▸zGw h
 let odds:List D:=[.t [.int ((a+b:Nat):Int),.int (b:Nat)],.t [.int ((2*a:Nat):Int),.int ((2*b:Nat):Int)],.int (a:Nat),.bl true,.non,.t [.int (a:Nat)],.l [.int (a:Nat),.int (b:Nat)],.t [.int 1,.int 2]]
 have b2:∀{n:Nat},n<2^103->n<2^200:=λh=>lt_trans h (by decide +kernel)
 have b3:∀{n:Nat},n<2^103->n<2^210:=λh=>lt_trans h (by decide +kernel)
 have hO:∀d∈odds,It d:=λd hd=>by
  simp only[odds,mem_cons,not_mem_nil,or_false]at hd;rcases hd with rfl|rfl|rfl|rfl|rfl|rfl|rfl|rfl
  ·exact W6 (b2 (by omega)) (b2 (by omega))
  ·exact W6 (b2 (by omega)) (b2 (by omega))
  ·exact⟨⟨rfl,λ_ _ e=>by cases e⟩,.cN (b3 (by omega))⟩
  ·exact⟨⟨rfl,λ_ _ e=>by cases e⟩,.cB⟩
  ·exact⟨⟨rfl,λ_ _ e=>by cases e⟩,.cO⟩
  ·refine⟨⟨rfl,λ_ _ e=>by cases e⟩,.cT (by simp) λd hd=>?_⟩
   rw[mem_singleton]at hd;subst hd;exact .cN (b3 (by omega))
  ·refine⟨⟨rfl,λ_ _ e=>by cases e⟩,.cL (by simp) λd hd=>?_⟩
   simp only[mem_cons,not_mem_nil,or_false]at hd;rcases hd with rfl|rfl<;>exact .cN (b3 (by omega))
  ·exact W6 (a:=1) (b:=2) (by decide +kernel) (by decide +kernel)
 obtain⟨od,om,o1⟩:=pick (ds:=odds) (r:=(r2:Int)) (by omega) (by show(r2:Int)<8;omega);have hod:=hO od om
 let alls:List D:=[.t (P.take sp++[od]++P.drop (sp+1)),.t (P.take sp++P.drop (sp+1)),.t (P++[od]),.l P]++[.t P.reverse,.non,.int 0,.dic,.t [.t P],.t []]
 have hA:∀d∈alls,Th d:=λd hd=>by
  have hT:∀x∈P.take sp,It x:=λx hx=>hI x (List.mem_of_mem_take hx)
  have hD:∀x∈P.drop (sp+1),It x:=λx hx=>hI x (List.mem_of_mem_drop hx)
  simp only[alls,cons_append,nil_append,mem_cons,not_mem_nil,or_false]at hd;rcases hd with rfl|rfl|rfl|rfl|rfl|rfl|rfl|rfl|rfl|rfl
  ·refine uB (λx hx=>?_) (by simp;omega)
   rcases mem_append.mp hx with hx|hx
   ·rcases mem_append.mp hx with hx|hx
    ·exact hT x hx
    ·rw[mem_singleton]at hx;subst hx;exact hod
   ·exact hD x hx
  ·refine uB (λx hx=>?_) (by simp;omega)
   rcases mem_append.mp hx with hx|hx
   ·exact hT x hx
   ·exact hD x hx
  ·refine uB (λx hx=>?_) (by simp;omega)
   rcases mem_append.mp hx with hx|hx
   ·exact hI x hx
   ·rw[mem_singleton]at hx;subst hx;exact hod
  ·exact⟨rfl,λ_ e=>(by cases e),.up (.cL (by omega) λd hd=>(hI d hd).2)⟩
  ·exact uB (λx hx=>hI x (List.mem_reverse.mp hx)) (by simp;omega)
  ·exact⟨rfl,λ_ e=>(by cases e),.cO⟩
  ·exact⟨rfl,λ_ e=>(by cases e),.cN (i:=0) (by decide +kernel)⟩
  ·exact⟨rfl,λ_ e=>(by cases e),.cE⟩
  ·refine⟨λx hx=>?_,λds e=>(by cases e;simp),.cT (by simp) λx hx=>?_⟩
   ·rw[mem_singleton]at hx;subst hx
    refine⟨rfl,λx y e=>?_⟩;have e':P=[x,y]:=by cases e;rfl
    have q:∀z∈P,isFn z=false/\smI z:=λz hz=>by
     obtain⟨u,w,e,_⟩:=zBM h (by rw[hP];exact hz);subst e;exact⟨rfl,trivial⟩
    have q1:=q x (by rw[e'];simp);have q2:=q y (by rw[e'];simp);exact⟨q1.1,q2.1,q1.2,q2.2⟩
   ·rw[mem_singleton]at hx;subst hx
    exact .cT (by omega) λd hd=>(hI d hd).2
  ·exact uB (λx hx=>by cases hx) (by simp)
 obtain⟨th,tm,t1⟩:=pick (ds:=alls) (r:=(r3:Int)) (by omega) (by show(r3:Int)<10;omega);refine⟨th,p3,?_,hp3,hA th tm⟩;have m1:=QF 2 a (by omega);have m2':=QF 2 b (by omega);have s1:slD (.t P) none (some ((sp:Nat):Int))=some (.v (.t (P.take sp))):=by simp only[slD,cut_to P sp (by omega)]
 have s2:slD (.t P) (some ((sp+1:Nat):Int)) none=some (.v (.t (P.drop (sp+1)))):=by simp only[slD,GA P (sp+1) (by omega)]
 have t2:=u8 (P.take sp) [od] (by simp;omega);have t3:=u8 (P.take sp++[od]) (P.drop (sp+1)) (by simp;omega);have t4:=u8 (P.take sp) (P.drop (sp+1)) (by simp;omega);have t5:=u8 P [od] (by simp;omega);have t6:=wn [.t (P.take sp++[od]++P.drop (sp+1)),.t (P.take sp++P.drop (sp+1)),.t (P++[od]),.l P] [.t P.reverse,.non,.int 0,.dic,.t [.t P],.t []] (by simp)
 let F:List D->DV.Slot->DV.Slot->DV.Slot->DV.Slot->DV.Slot->zV:=λp s2 s3 s4 s5 s6=>[.v (.t P),.par p,s2,s3,s4,s5,s6]
 have xs:∀{s3 s4 s5 s6:DV.Slot} {p:List D},dE JT (.sl (.var 0) .oN (.oS (.var 2))) (F p (.v (.int (sp:Nat))) s3 s4 s5 s6)=.ok (.v (.t (P.take sp)),F p (.v (.int (sp:Nat))) s3 s4 s5 s6):=λ{s3 s4 s5 s6 p}=>x_sl (zA rfl) o_N (o_S (zA rfl)) s1
 have xd:∀{s3 s4 s5 s6:DV.Slot} {p:List D},dE JT (.sl (.var 0) (.oS (.bin .add (.var 2) (.c (.int 1)))) .oN) (F p (.v (.int (sp:Nat))) s3 s4 s5 s6)=.ok (.v (.t (P.drop (sp+1))),F p (.v (.int (sp:Nat))) s3 s4 s5 s6):=λ{s3 s4 s5 s6 p}=>x_sl (zA rfl) (o_S (zq (zA rfl) x_c (jU sp 1))) o_N s2
 refine ye (E1:=F p3 (.v (.int (sp:Nat))) (.v (.int (a:Nat))) (.v (.int (b:Nat))) (.v od) (.v (.l [.t (P.take sp++[od]++P.drop (sp+1)),.t (P.take sp++P.drop (sp+1)),.t (P++[od]),.l P]))) ?_ rfl;refine zI (E1:=F p1 (.v (.int (sp:Nat))) .e .e .e .e) (zw (jM (F:=zZ) rfl rfl (jr (zB (zA rfl) zG) ln) e1 rfl) rfl) ?_;refine zI (E1:=F p1 (.v (.int (sp:Nat))) (.v (.int (a:Nat))) (.v (.int (b:Nat))) .e .e) (G9 (yh (zA rfl) (zA rfl) at1) rfl) ?_;refine zI (E1:=F p1 (.v (.int (sp:Nat))) (.v (.int (a:Nat))) (.v (.int (b:Nat))) (.own odds) .e) (zw (Je (zB (yG (zB (zq (zA rfl) (zA rfl) (jU a b)) (zB (zA rfl) zG)) rfl zP) (zB (yG (zB (zq x_c (zA rfl) m1) (zB (zq x_c (zA rfl) m2') zG)) rfl zP) (zB (zA rfl) (zB x_c (zB x_c (zB (yG (zB (zA rfl) zG) rfl wA) (zB (Je (zB (zA rfl) (zB (zA rfl) zG)) rfl zP) (zB (yG (zB x_c (zB x_c zG)) rfl zP) zG)))))))) rfl cap8) rfl) ?_;refine zI (E1:=F p2 (.v (.int (sp:Nat))) (.v (.int (a:Nat))) (.v (.int (b:Nat))) (.v od) .e) (zw (yh (jX rfl rfl) (jM (F:=zZ) rfl rfl x_c e2 rfl) o1) rfl) ?_;refine zI (E1:=F p2 (.v (.int (sp:Nat))) (.v (.int (a:Nat))) (.v (.int (b:Nat))) (.v od) (.own [.t (P.take sp++[od]++P.drop (sp+1)),.t (P.take sp++P.drop (sp+1)),.t (P++[od]),.l P])) (zw (Je (zB (zq (zq xs (yG (zB (zA rfl) zG) rfl wA) t2) xd t3) (zB (zq xs xd t4) (zB (zq (zA rfl) (yG (zB (zA rfl) zG) rfl wA) t5) (zB (jr (zB (zA rfl) zG) rfl) zG)))) rfl cap4) rfl) ?_;exact zU (yH (yh (zq (jX rfl rfl) (Je (zB (x_stp (zA rfl) rfl) (zB x_c (zB x_c (zB x_dic (zB (yG (zB (zA rfl) zG) rfl wA) (zB (yG zG rfl zDU) zG)))))) rfl cap6) t6) (jM (F:=zZ) rfl rfl x_c e3 rfl) t1))
end
def eq_strs(t u:Str):eqG (.str t) (.str u)=some (.v (.bl (decide (t=u)))):=by
 by_cases c:t=u
 ·subst c;rw[eq_str,decide_eq_true rfl]
 ·rw[decide_eq_false c];simp[eqG,eqF,c]
def ne_bl(b:Bool):neG (.bl b) (.bl b)=some (.v (.bl false)):=by cases b<;>rfl
section
variable{die:List Nat}{s k o l:Nat}
abbrev frL(v:D)(c:Int)(p:List D)(die:List Nat)(s k o l:Nat)(s5 s6:DV.Slot):zV:=[.v v,.v (.int c),.own p,.v (yk die s k o l),.v (.t (pap die s k o l)),s5,s6]
def bents(h:Mt die s k o l)(v:D)(c:Int)(p:List D)(hp:Pen p)(s5 s6:DV.Slot):∃rs p',dE JU (.comp 1 ["_law_turn"] ["_law_due","_law_pen"] [4,2] (.iR1 (.cons (.c (.int 5)) .nil)) (.n 0) .tTr (.call 3 (.ev (.var 1) (.lend 2 .nil)))) (frL v c p die s k o l s5 s6)=.ok (.own rs,frL v c p' die s k o l s5 s6)/\Pen p'/\rs.length=5/\∀d∈rs,Th d:=by
 have hi:dI JU (.iR1 (.cons (.c (.int 5)) .nil)) (frL v c p die s k o l s5 s6)=.ok (N (List.range 5),frL v c p die s k o l s5 s6):=WA (n:=5) (by omega) x_c;obtain⟨res,E',e1,e2,e3,x,p',hE,_,hp'⟩:=JJ (tg:=gN 0) (tt:=Zx) (el:=dE JU (.call 3 (.ev (.var 1) (.lend 2 .nil)))) (λk' E acc=>acc.length=k'/\(∀d∈acc,Th d)/\∃x p,E=[x,.v (.t (pap die s k o l)),.par p]/\zz x=true/\Pen p) (N (List.range 5)) 0 [.e,.v (.t (pap die s k o l)),.par p] [] ⟨rfl,(λd h=>by cases h),.e,p,rfl,rfl,hp⟩ (by rw[Zz,length_range];simp[cap]) (λi d q E acc ⟨ha,hq,x,p,hE,hx,hp⟩ _=>by
  obtain⟨th,p',e,hp',er⟩:=e_bent h p hp;subst hE;refine⟨_,_,.v th,[.v d,.v (.t (pap die s k o l)),.par p'],yB rfl hx rfl,rfl,zFn (F:=wj) rfl (zA rfl) rfl e rfl,by simp[ha],λy hy=>?_,.v d,p',rfl,rfl,hp'⟩;rcases mem_append.mp hy with hy|hy
  ·exact hq y hy
  ·rw[mem_singleton]at hy;subst hy;exact er)
 subst hE;rw[Zz,length_range]at e2;refine⟨res,p',?_,hp',by rw[e2],e3⟩;simp only[zGN,YU,Wf,vw,zC9,zDA,Wg,zGP,zFG,rE_sl,Y7,rE_is,zDB,jm,zGQ];refine Y6 ?_;have e1':j0 (gN 0) Zx (wT (fiF JU 3) (dG JU (.ev (.var 1) (.lend 2 .nil)))) (N (List.range 5)) (replicate 1 .e++[.v (.t (pap die s k o l)),.par p]) []=.ok (res,[x,.v (.t (pap die s k o l)),.par p']):=e1;have hc:wV (frL v c p die s k o l s5 s6) [4,2]=.ok [.tmp (.t (pap die s k o l)),.ln 2]:=rfl;have hl:zM [.tmp (.t (pap die s k o l)),.ln 2] (frL v c p die s k o l s5 s6)=.ok ([.v (.t (pap die s k o l)),.par p],[.v v,.v (.int c),.e,.v (yk die s k o l),.v (.t (pap die s k o l)),s5,s6]):=rfl;have hb:zJ [.tmp (.t (pap die s k o l)),.ln 2] ((zg (replicate 1 .e++[.v (.t (pap die s k o l)),.par p]) [x,.v (.t (pap die s k o l)),.par p']).drop 1) (frL v c p die s k o l s5 s6) [.v v,.v (.int c),.e,.v (yk die s k o l),.v (.t (pap die s k o l)),s5,s6]=.ok (frL v c p' die s k o l s5 s6):=rfl;simp only[J4,hi,hc,hl,Tg.m,zDC,zDD,zBc,vx,e1',hb]
def look_ok(h:Mt die s k o l)(v:D)(c:Int)(p:List D)(ht:Th th)(s6:DV.Slot)(h6:zz s6=true):∃t6,dB JU Q3 (frL v c p die s k o l (.v th) s6)=.ok (.nx,frL v c p die s k o l (.v th) t6)/\zz t6=true:=by
 obtain⟨b,e,hb⟩:=e_paper h ht.t ht.l;obtain⟨y,e1,hy⟩:=pap_Cy h;obtain⟨t,u,r1,r2,hr⟩:=repr_eq ht.c (zD2 h).c e1 hy;have eb:decide (t=u)=b:=by
  cases b with
  |true=>exact decide_eq_true (hr.mpr (hb.mp rfl))|false=>exact decide_eq_false λz=>absurd (hb.mpr (hr.mp z)) (by decide)
 have q:=eq_strs t u;rw[eb]at q;exact⟨.v (.bl b),zI (zw (za (F:=yA) rfl (zA rfl) (zA rfl) e) (yB rfl h6 rfl)) (zU (jT (zDS (jo (t_E (zBp (zA rfl) rfl rfl)) rfl) (t_E (yD (zA rfl) (yD (jr (zB (zA rfl) zG) r1) (jr (zB (zA rfl) zG) r2) q) (ne_bl b)))) jg)),rfl⟩
inductive InC(v:D):zV->Prop
 |mk (s1 s2 s3 s4 s5 s6:DV.Slot) (h1:zz s1=true) (h2:zz s2=true) (h3:zz s3=true) (h4:zz s4=true) (h5:zz s5=true) (h6:zz s6=true):InC v [.v v,s1,s2,s3,s4,s5,s6]
inductive InT(v:D)(c:Int)(p:List D)(die:List Nat)(s k o l:Nat):zV->Prop
 |mk (s5 s6:DV.Slot) (h5:zz s5=true) (h6:zz s6=true):InT v c p die s k o l (frL v c p die s k o l s5 s6)
def nn_c(ha:a<2^200)(hb:b<2^200):Cq 3 (nn a b):=by
 rw[zBg];exact(W6 (lt_of_le_of_lt (zFW _ _) ha) (lt_of_le_of_lt (zFX _ _) hb)).2.up.up
def cell_ok(v:D)(c:Int)(t2 t3 t4 t5 t6:DV.Slot)(h2:zz t2=true)(h3:zz t3=true)(h4:zz t4=true)(h5:zz t5=true)(h6:zz t6=true):∃E2,dB JU Q4 [.v v,.v (.int c),t2,t3,t4,t5,t6]=.ok (.nx,E2)/\InC v E2:=by
 obtain⟨p,e1,hpn⟩:=GB c;obtain⟨die,s,k,o,l,p1,e2,hp1,h⟩:=zBe p hpn;have hN:=N101 h;have e3:=zBK (g:=1) (q:=0) h (by omega) (by omega);rw[fnd_pap h]at e3;have e4:=zBK (g:=0) (q:=1) h (by omega) (by omega);obtain⟨x1,_,_,r1⟩:=Wz (zD2 h).c;have hY:Yn die s k o l<2^200:=lt_trans (lt_of_le_of_lt (le_add_left _ _) hN) (by decide +kernel);have hN2:Nn die s k o l<2^200:=lt_trans hN (by decide +kernel);obtain⟨x2,_,_,r2⟩:=Wz (nn_c hY hN2);have hM:Pn die.sum (wN die s) k 0*Pn die.sum (wN die o) l 0<2^200:=lt_trans (mB (P60 h h.hs (by have:=h.hk;omega) (zero_le _)) (P60 h h.ho (by have:=h.hl;omega) (zero_le _))) (by decide +kernel);obtain⟨x3,_,_,r3⟩:=Wz (nn_c hM hN2);have at0:ixD (.t (pap die s k o l)) (.int 0)=some (.v (nn (Yn die s k o l) (Nn die s k o l))):=ix_at (k:=0) rfl;have at1:ixD (.t (fnd die s k o l 0 1)) (.int 0)=some (.v (MT die s k o l)):=ix_at (k:=0) (zFk h);obtain⟨rs,p2,e5,hp2,hl,hrs⟩:=bents h v c p1 hp1 t5 t6;have a1:=wn [.t (pap die s k o l)] rs (by simp;omega);have all:∀d∈[.t (pap die s k o l)]++rs,Th d:=λd hd=>by
  rcases mem_append.mp hd with hd|hd
  ·rw[mem_singleton]at hd;subst hd;exact zD2 h
  ·exact hrs d hd
 obtain⟨E',f,s5,s6,g5,g6⟩:=jF (tg:=gN 5) (body:=dB JU Q3) (λ_ E=>InT v c p2 die s k o l E) ([.t (pap die s k o l)]++rs) 0 (frL v c p2 die s k o l t5 t6) ⟨t5,t6,h5,h6⟩ (λi d q E ⟨s5,s6,h5,h6⟩=>by
  obtain⟨t6,f1,f2⟩:=look_ok h v c p2 (all d (mem_of_getElem? q)) s6 h6;exact⟨_,_,yB rfl h5 rfl,f1,⟨_,t6,rfl,f2⟩⟩)
 refine⟨frL v c p2 die s k o l s5 s6,?_,⟨_,_,_,_,s5,s6,rfl,rfl,rfl,rfl,g5,g6⟩⟩;refine zI (E1:=[.v v,.v (.int c),.own p,t3,t4,t5,t6]) (zw (ze (F:=yy) rfl (zA rfl) e1) (yB rfl h2 rfl)) ?_;refine zI (E1:=[.v v,.v (.int c),.own p1,.v (yk die s k o l),t4,t5,t6]) (zw (zFV (F:=yz) rfl rfl e2 rfl) (yB rfl h3 rfl)) ?_;refine zI (E1:=frL v c p1 die s k o l t5 t6) (zw (yi (F:=y9) rfl (zA rfl) (Je (zB x_c (zB x_c zG)) rfl zP) x_c e3) (yB rfl h4 rfl)) ?_;refine zI (jT (zDS (t_E (yD (jr (zB (ze (F:=yg) rfl (zA rfl) (Ys h)) zG) r1) (jr (zB (zA rfl) zG) r1) (ne_str _))) (t_E (yD (jr (zB (ze (F:=yV) rfl (zA rfl) (wt h)) zG) r2) (jr (zB (yh (zA rfl) x_c at0) zG) r2) (ne_str _)))) jg) ?_;refine zI (jT (t_E (yD (jr (zB (ze (F:=yx) rfl (zA rfl) (Yt h)) zG) r3) (jr (zB (yh (yi (F:=y9) rfl (zA rfl) (Je (zB x_c (zB x_c zG)) rfl zP) x_c e4) x_c at1) zG) r3) (ne_str _))) jg) ?_;exact zU (Ju (tg:=.n 5) (zq (Je (zB (zA rfl) zG) rfl wA) e5 a1) rfl f)
end
def mt1:Mt [1,1] 0 1 1 1:=⟨⟨.inl rfl,λx hx=>by
 simp only[mem_cons,not_mem_nil,or_false,or_self]at hx;omega⟩,by decide,by decide,by decide,by decide,by decide⟩
def math50(ns:List Int)(hns:ns.length<=63):∃outs,m_law [.v (.l (ns.map D.int))]=.ok (.v (.bl true),outs):=by
 obtain⟨c,e2⟩:=vV ns;have hcut:Qc (ns.map D.int) (some 1) (some 3)=((ns.drop (HT.sIx ns.length 0 (some 1))).take (HT.sIx ns.length ns.length (some 3)-HT.sIx ns.length 0 (some 1))).map D.int:=by
  unfold Qc;simp[List.map_drop,List.map_take]
 generalize hk:(ns.drop (HT.sIx ns.length 0 (some 1))).take (HT.sIx ns.length ns.length (some 3)-HT.sIx ns.length 0 (some 1))=k at hcut;have hkl:k.length<=63:=by rw[<- hk];simp;omega
 have c1:slD (.l (ns.map D.int)) (some 1) (some 3)=some (.own (k.map D.int)):=by simp only[slD,hcut]
 have c2:=wn [.int c] (k.map D.int) (by simp;omega);generalize hv:D.l (ns.map D.int)=v at e2 c1;obtain⟨E',f1,u1,u2,u3,u4,u5,u6,_⟩:=jF (tg:=gN 1) (body:=dB JU Q4) (λ_ E=>InC v E) ([.int c]++k.map D.int) 0 [.v v,.e,.e,.e,.e,.e,.e] ⟨_,_,_,_,_,_,rfl,rfl,rfl,rfl,rfl,rfl⟩
  (λi d q E ⟨s1,s2,s3,s4,s5,s6,h1,h2,h3,h4,h5,h6⟩=>by
   obtain⟨x,rfl⟩:∃x:Int,d=.int x:=by
    have:=mem_of_getElem? q;rcases mem_append.mp this with m|m
    ·exact⟨c,mem_singleton.mp m⟩
    ·obtain⟨x,_,rfl⟩:=mem_map.mp m;exact⟨x,rfl⟩
   obtain⟨E2,f1,f2⟩:=cell_ok v x s2 s3 s4 s5 s6 h2 h3 h4 h5 h6;exact⟨_,E2,yB rfl h1 rfl,f1,f2⟩)
 have m1:=wt mt1;have m2':=Yt mt1;have n1:nn (Yn [1,1] 0 1 1 1) (Nn [1,1] 0 1 1 1)=.t [.int 1,.int 2]:=by rw[show Yn [1,1] 0 1 1 1=2 by decide +kernel,show Nn [1,1] 0 1 1 1=4 by decide +kernel,zBg,show tp 2 4=1 by decide +kernel,show bt 2 4=2 by decide +kernel];rfl
 have n2:MT [1,1] 0 1 1 1=.t [.int 1,.int 1]:=by
  show nn (Pn [1,1].sum (wN [1,1] 0) 1 0*Pn [1,1].sum (wN [1,1] 1) 1 0) (Nn [1,1] 0 1 1 1)=_
  rw[show Pn [1,1].sum (wN [1,1] 0) 1 0*Pn [1,1].sum (wN [1,1] 1) 1 0=4 by decide +kernel,show Nn [1,1] 0 1 1 1=4 by decide +kernel];exact one_nn (by decide)
 rw[n1]at m1;rw[n2]at m2';have cap5:∀{a b c d e:D},[a,b,c,d,e].length<=cap:=λ{a b c d e}=>by simp[cap]
 refine⟨_,ye (r:=.v (.bl true)) (E1:=[.v v,u1,u2,u3,u4,u5,u6]) ?_ rfl⟩;refine zI (Ju (zq (Je (zB (za (F:=yj) rfl (zA rfl) x_c e2) zG) rfl wA) (x_sl (zA rfl) (o_S x_c) (o_S x_c) c1) c2) rfl f1) (zU (yH ?_));exact zA3 (yD (ze (F:=yV) rfl (yG (zB (yG (zB x_c (zB x_c zG)) rfl zP) (zB x_c (zB x_c (zB x_c (zB x_c zG))))) rfl cap5) m1) (yG (zB x_c (zB x_c zG)) rfl zP) (zGe _ rfl)) (yD (ze (F:=yx) rfl (yG (zB (yG (zB x_c (zB x_c zG)) rfl zP) (zB x_c (zB x_c (zB x_c (zB x_c zG))))) rfl cap5) m2') (yG (zB x_c (zB x_c zG)) rfl zP) (zGe _ rfl))
end My
namespace My
open PySem L2 DV
def txt_lk{K:qH}{h:Heap}{mg:Str->Option Value}(X:K.In h)(G:h.Ns mainGlobals mg)(e:WH K=wants):Txt K mg :=
 have e1:=congrArg (λx:lkT=>x.1) e;have e2:=congrArg (λx:lkT=>x.2.1) e;have e3:=congrArg (λx:lkT=>x.2.2.1) e
 {n_abs:=J6 X G (ix 0 e3),n_all:=J6 X G (ix 1 e3),n_bool:=J6 X G (ix 2 e3),n_dict:=J6 X G (ix 3 e3),n_enumerate:=J6 X G (ix 4 e3),n_int:=J6 X G (ix 5 e3),n_isinstance:=J6 X G (ix 6 e3),n_len:=J6 X G (ix 7 e3),n_list:=J6 X G (ix 8 e3),n_max:=J6 X G (ix 9 e3),n_range:=J6 X G (ix 10 e3),n_repr:=J6 X G (ix 11 e3),n_sum:=J6 X G (ix 12 e3),n_tuple:=J6 X G (ix 13 e3),n_zip:=J6 X G (ix 14 e3),c_ALL:=tt_at X G (ix 15 e3),c_NOTHING:=tt_at X G (ix 16 e3),c_NO_STAND:=tn_at X G (ix 17 e3),c_LEAST_SIGNS:=zBd X G (ix 0 e2),c_LEAST_WEIGHT:=zBd X G (ix 1 e2),c_MOST_AWAITED:=zBd X G (ix 2 e2),c_MOST_MATCHED:=zBd X G (ix 3 e2),c_MOST_SIGNS:=zBd X G (ix 4 e2),c_MOST_WEIGHT:=zBd X G (ix 5 e2),f_is_whole:=yK X G (ix 0 e1),f_is_whole_within:=yK X G (ix 1 e1),f_greatest_divisor:=yK X G (ix 2 e1),f_share_good:=yK X G (ix 3 e1),f_share_of:=yK X G (ix 4 e1),f_share_plus:=yK X G (ix 5 e1),f_share_less:=yK X G (ix 6 e1),f_share_times:=yK X G (ix 7 e1),f_share_by:=yK X G (ix 8 e1),f_share_power:=yK X G (ix 9 e1),f_share_sum:=yK X G (ix 10 e1),f_die_good:=yK X G (ix 11 e1),f_need_die:=yK X G (ix 12 e1),f_need_number:=yK X G (ix 13 e1),f_need_sign:=yK X G (ix 14 e1),f_need_awaited:=yK X G (ix 15 e1),f_waits_list:=yK X G (ix 16 e1),f_mean_first:=yK X G (ix 17 e1),f_match_good:=yK X G (ix 18 e1),f_need_match:=yK X G (ix 19 e1),f_stands_list:=yK X G (ix 20 e1),f_stand_behind:=yK X G (ix 21 e1),f_share_paper:=yK X G (ix 22 e1),f_first_share:=yK X G (ix 23 e1),f_paper_good:=yK X G (ix 24 e1),f_mean_throws:=yK X G (ix 25 e1),f__law_cell_at:=yK X G (ix 26 e1),f__law_next:=yK X G (ix 27 e1),f__law_pen_of:=yK X G (ix 28 e1),f__law_draw:=yK X G (ix 29 e1),f__law_share:=yK X G (ix 30 e1),f__law_add:=yK X G (ix 31 e1),f__law_times:=yK X G (ix 32 e1),f__law_die_by:=yK X G (ix 33 e1),f__law_match_by:=yK X G (ix 34 e1),f__law_stands:=yK X G (ix 35 e1),f__law_behind:=yK X G (ix 36 e1),f__law_values:=yK X G (ix 37 e1),f__law_bent:=yK X G (ix 38 e1),f_law:=yK X G (ix 39 e1),cl:=cl_at X G (congrArg (λx:lkT=>x.2.2.2) e)}
end My
end
open PySem PySem.W PyProof.Rows
set_option maxRecDepth 100000 in
set_option maxHeartbeats 0 in
theorem PySem.Challenge.cw_throwruns_k50_shares_of_who_first_holds : PySem.Challenge.rw_throwruns_k50_shares_of_who_first.Holds := by
 w_on;refine holds_law My.hz λsaid=>?_
 refine holds_open (q:=My.qP) (loose:=My.ls) (Xt:=λs=>xlAt My.qP [] s&&recOk (RowW.records (OpenLaw.row PySem.Challenge.rw_throwruns_k50_shares_of_who_first).toRowW) s) (XP:=XL My.qP []) (Yf:=λs=>My.WH (DV.J8 s.heap My.as)) (Ya:=λ_=>My.wants) (YP:=(DV.zAx My.as My.lkT My.WH My.wants).says) (N:=4440) My.hl (DV.zAx My.as My.lkT My.WH My.wants).of (DV.zAx My.as My.lkT My.WH My.wants).keeps (λs e=>xl_of s (Bool.and_eq_true_iff.mp e).1) XL.keeps (by rfl) (by rfl) (by rfl) (λs e=>recFacts_of (Bool.and_eq_true_iff.mp e).2) ?h4 ?h5 ?h6 ⟨rfl,rfl,rfl,rfl,rfl,by decide +kernel⟩ ?hw ?hc
 case h4=>rfl
 case h5=>first|assumption|decide +kernel
 case h6=>decide +kernel
 case hw=>w_witness2
 case hc=>exact DV.walkE (l:=PySem.Challenge.rw_throwruns_k50_shares_of_who_first) (x:="_law_script") My.math50 rfl rfl λw K mg fa h KX e G hmg=>My.law_fd hmg (My.txt_lk KX G e)
