import PyProof.Rows.All
import KE.KFromBytes
import KE.KSortTup
import KE.KIsAll
import PyProof.InstStoreFacts
import PyProof.InstSpecial
import PyProof.FString
import OpenK.KCls
import PyProof.TupleKey
import PyProof.Rows.TupTab
import PyProof.FactsAll.NoneType
import PyProof.DictRoadsH
import PyProof.Rows.TupDisplay
import KE.KDictList
import PyProof.AttrMiss
import KE.KDictOf
import KE.KIntText
import PyProof.NeData
import KE.KRevIter
import PySem.Challenge.RW_throwruns_k65_whole_free_rows
set_option Elab.async false
set_option linter.all false
set_option genSizeOf false
set_option genSizeOfSpec false
set_option genInjectivity false
set_option maxRecDepth 100000
set_option maxHeartbeats 0
def DV.nf{P:Prop}(h:false=true):P:=absurd h Bool.false_ne_true
open List (mem_filter mem_range filterMap_cons mem_cons_self mem_cons_of_mem mem_cons mem_append mem_append_left getElem?_set_self getElem?_set_ne mem_filterMap mem_append_right append_nil nodup_cons of_mem_zip replicate length length_take getElem?_append_right getElem?_append_left getElem?_map mem_of_getElem? length_append length_map length_replicate size_toArray length_drop all_cons any_cons replicate_succ flatten_cons foldl append_assoc map_nil map_cons find?_cons map_append nodup_append mem_singleton mem_map map_map map_congr_left sublist_cons_self eraseIdx_sublist nil_append perm_append_comm sublist_append_right cons_append length_cons drop_eq_getElem_cons drop_length perm_middle zip_cons_cons zip_append lookup_cons forIn_cons forIn_nil all_eq_true drop_left' mem_nil_iff getElem?_eq_getElem sum_append zipWith isEmpty_iff filter_cons filter_eq_self sum_cons foldr_cons range' range'_succ range_eq_range' flatMap_cons length_eq_zero_iff filter_map length_range range_succ)
open Nat (lt_of_lt_of_le lt_irrefl ne_of_lt le_trans ne_of_gt le_refl zero_le mul_comm lt_trans lt_succ_self lt_succ_of_lt not_lt le_succ add_sub_cancel_left zero_add gcd_comm gcd_rec pow_succ lt_of_le_of_lt mul_assoc pow_pos)
open PySem.W (clsIn typeIn findIn specialIn takesIn nsIn codeIn keepIn fnOf excIn methodObj hideAll hideAll_get of_hideAll cellsFrom_some kitOne kia_one mg_of)
open PySem.Heap (lt_size get?_push_of_some get?_push_size get?_update_self get?_update_other size_push)
noncomputable section
def qA:=@PySem.Heap.get?_push_of_some
def qB:=@PySem.wpAny_bind
def qC:=@PySem.wpAny_pure
def qD:=@List.mem_cons_of_mem
def qE:=@List.mem_cons_self
def qF:=@Bool.false_ne_true
def qG:=@List.getElem?_eq_some_iff
def qJ:=@Option.some.inj
def qK:=@List.mem_append_right
abbrev qH:=PySem.W.Frag
namespace L2
open PySem
def YJ(s:Stmt):Arguments:=match s with
 | .FunctionDef _ a _ _ _ _ _ _ _ _=>a|_=>{posonlyargs:=[],args:=[],vararg:=none,kwonlyargs:=[],kw_defaults:=[],kwarg:=none,defaults:=[]}
def ja(s:Stmt):List Stmt:=match s with
 | .FunctionDef _ _ b _ _ _ _ _ _ _=>b|_=>[]
def zt(s:Stmt):Scope:=match s with
 | .FunctionDef _ _ _ _ _ _ sc _ _ _=>sc|_=>{kind:=.function,names:=[],isGenerator:=false,isCoroutine:=false}
end L2
namespace DV
open PySem L2
abbrev VB:List Value:=[.type "ValueError",.type "Exception",.type "BaseException",.type "object"]
def xIn(K:qH)(c:Str)(C T:Addr):Bool:=(match clsIn K C with|some cd=>cd.name==c&&cd.mro==[.ref C,.ref T,.type "ValueError",.type "Exception",.type "BaseException",.type "object"]|none=>false)
 && typeIn K (.ref C)==some (.type "type")&&findIn K (.ref C) "__getattribute__" == some (some (.builtin "BaseException.__getattribute__"))&&findIn K (.ref C) "__getattr__" == some none
 && findIn K (.ref C) "__class__" == some (some (.builtin "object.__class__"))&&specialIn K (.builtin "object.__class__") "__get__" == some (some (.builtin "getset_descriptor.__get__"))&&takesIn K (.builtin "object.__class__")==some true&&!(C==T)
def tIn(K:qH)(T:Addr):Bool:=(match clsIn K T with|some cd=>cd.mro==(.ref T::VB)|none=>false)&&typeIn K (.ref T)==some (.type "type")
def isFr:Obj->Bool
 |⟨_,_,.freed,_⟩=>true|_=>false
def QM:List Obj->Nat->List Addr->qH
 | [],_,_=>[]|_::_,_,[]=>[]
 |o::os,i,a::as=>match Nat.beq i a with
  |true=>(match isFr o with
   |true=>QM os (i+1) as|false=>(i,o)::QM os (i+1) as)
  |false=>QM os (i+1) (a::as)
def Yb(h:Heap)(as:List Addr):qH:=QM h.objs.toList 0 as
def FvT:Type:=Bool×Str×Str×Arguments×FuncBody×Scope×Addr×List (Str×Addr)×Value×Addr
def fvOf(b:Bool)(fd:FuncData):FvT:=(b,fd.name,fd.qualname,fd.params,fd.body,fd.scope,fd.globals,fd.closure,fd.defaults,fd.builtins)
def zd(K:qH)(n:Str):Option FvT:=match nsIn K mainGlobals n with
 |some (some (.ref a))=>(match K.lookup a with
  |some ⟨_,_,.func fd,_⟩=>some (fvOf (codeIn K fd.code n&&keepIn K (.ref a)) fd)|_=>none)
 |_=>none
def ze(n:Str)(st:Stmt):Option FvT:=some (fvOf true (fnOf n n (YJ st) (ja st) (zt st) .none .none .none .none none .none .none))
def JD(K:qH)(n:Str):Option Int:=match nsIn K mainGlobals n with
 |some (some (.int i _))=>some i|_=>none
def jh(K:qH)(n:Str):Bool:=match nsIn K mainGlobals n with
 |some none=>true|_=>false
def J0(K:qH)(n:Str):Option Addr:=match nsIn K mainGlobals n with
 |some (some (.ref a))=>some a|_=>none
def zC4(K:qH):Bool:=match K.lookup sysModules with
 |some o=>(match o.data with | .dict _ _=>true|_=>false)
 |none=>false
def zGn(K:qH)(cl rs:List Str):Bool :=
 (cl.isEmpty||(match J0 K "ThrowError" with
  |some T=>tIn K T&&cl.all λc=>(match J0 K c with|some C=>xIn K c C T|none=>false)
  |none=>false)) &&
 (rs.all λc=>(match J0 K c with|some C=>excIn K C VB "ValueError.__new__" |none=>false))&&zC4 K
end DV
namespace My
open PySem L2 DV
def top(i:Nat):Stmt:=PySem.Challenge.pw_throwruns_k65_whole_free_rows.main.body.getD i (.Pass ⟨0,0,0,0⟩)
abbrev uS:Stmt:=top 8
abbrev wR:Stmt:=top 9
abbrev wC:Stmt:=top 10
abbrev Yc:Stmt:=top 11
abbrev uT:Stmt:=top 12
abbrev uU:Stmt:=top 19
abbrev Wk:Stmt:=top 20
abbrev uV:Stmt:=top 21
abbrev Yd:Stmt:=top 22
abbrev uW:Stmt:=top 23
abbrev uX:Stmt:=top 24
abbrev Ye:Stmt:=top 25
abbrev Zg:Stmt:=top 26
abbrev Wl:Stmt:=top 27
abbrev wS:Stmt:=top 28
abbrev QN:Stmt:=top 29
abbrev Yg:Stmt:=top 30
abbrev wD:Stmt:=top 33
abbrev wE:Stmt:=top 36
abbrev J1:Stmt:=top 37
abbrev QO:Stmt:=top 38
abbrev Wm:Stmt:=top 39
abbrev uY:Stmt:=top 40
abbrev Wn:Stmt:=top 41
abbrev Wo:Stmt:=top 42
abbrev Zh:Stmt:=top 43
abbrev Zi:Stmt:=top 44
abbrev Zj:Stmt:=top 45
abbrev J2:Stmt:=top 47
abbrev uZ:Stmt:=top 48
abbrev Zk:Stmt:=top 53
abbrev Zl:Stmt:=top 54
abbrev JN:Stmt:=top 55
abbrev J3:Stmt:=top 56
abbrev J4:Stmt:=top 57
abbrev Zm:Stmt:=top 58
abbrev Zn:Stmt:=top 59
abbrev Yh:Stmt:=top 60
abbrev Zo:Stmt:=top 61
abbrev Yi:Stmt:=top 62
abbrev ua:Stmt:=top 64
abbrev zBa:Stmt:=top 63
abbrev Yj:Stmt:=top 65
abbrev Wp:Stmt:=top 66
abbrev Wq:Stmt:=top 67
abbrev zBb:Stmt:=top 68
abbrev zGo:Stmt:=top 69
abbrev J5:Stmt:=top 71
abbrev Wr:Stmt:=top 72
abbrev Yk:Stmt:=top 73
abbrev Ws:Stmt:=top 74
abbrev JE:Stmt:=top 75
abbrev s_law:Stmt:=top 76
def cl_:List Str:=[]
def rs_:List Str:=[]
def lkT:Type:=List (Option FvT)×List (Option Int)×List Bool×Bool
def Wu(K:qH):lkT:=([zd K "is_whole",zd K "is_whole_within",zd K "greatest_divisor",zd K "whole_power",zd K "share_of",zd K "die_good",zd K "sign_good",zd K "row_good",zd K "row_good_of",zd K "need_die",zd K "need_row",zd K "need_number",zd K "need_signs",zd K "need_sign",zd K "greatest_length",zd K "runs_of",zd K "longest_any",zd K "weigh_alike_upto",zd K "need_free_length",zd K "need_ordered",zd K "ways_on",zd K "free_many",zd K "free_nth",zd K "free_rank",zd K "free_next",zd K "need_begun",zd K "free_begun",zd K "next_signs",zd K "share_in_all",zd K "any_upto",zd K "all_within",zd K "steps_good",zd K "rising_stands",zd K "machine_good",zd K "need_machine",zd K "signs_read",zd K "need_alike",zd K "weigh_taken",zd K "taken_many",zd K "run_machine",zd K "contrary",zd K "no_run",zd K "pair_behind",zd K "met_pairs",zd K "good_many",zd K "joined",zd K "both",zd K "_law_cell_at",zd K "_law_next",zd K "_law_pen_of",zd K "_law_draw",zd K "_law_row_right",zd K "law"],[JD K "LEAST_SIGNS",JD K "LEAST_WEIGHT",JD K "MOST_COUNTED",JD K "MOST_FREE",JD K "MOST_SIGNS",JD K "MOST_STANDS",JD K "MOST_TAKEN",JD K "MOST_THROWS",JD K "MOST_WATCHED",JD K "MOST_WEIGHT"],[jh K "abs",jh K "all",jh K "bool",jh K "enumerate",jh K "int",jh K "isinstance",jh K "len",jh K "list",jh K "max",jh K "range",jh K "reversed",jh K "sum",jh K "tuple",jh K "zip"],zGn K cl_ rs_)
def wants:lkT:=([ze "is_whole" uS,ze "is_whole_within" wR,ze "greatest_divisor" wC,ze "whole_power" Yc,ze "share_of" uT,ze "die_good" uU,ze "sign_good" Wk,ze "row_good" uV,ze "row_good_of" Yd,ze "need_die" uW,ze "need_row" uX,ze "need_number" Ye,ze "need_signs" Zg,ze "need_sign" Wl,ze "greatest_length" wS,ze "runs_of" QN,ze "longest_any" Yg,ze "weigh_alike_upto" wD,ze "need_free_length" wE,ze "need_ordered" J1,ze "ways_on" QO,ze "free_many" Wm,ze "free_nth" uY,ze "free_rank" Wn,ze "free_next" Wo,ze "need_begun" Zh,ze "free_begun" Zi,ze "next_signs" Zj,ze "share_in_all" J2,ze "any_upto" uZ,ze "all_within" Zk,ze "steps_good" Zl,ze "rising_stands" JN,ze "machine_good" J3,ze "need_machine" J4,ze "signs_read" Zm,ze "need_alike" Zn,ze "weigh_taken" Yh,ze "taken_many" Zo,ze "run_machine" Yi,ze "contrary" ua,ze "no_run" zBa,ze "pair_behind" Yj,ze "met_pairs" Wp,ze "good_many" Wq,ze "joined" zBb,ze "both" zGo,ze "_law_cell_at" J5,ze "_law_next" Wr,ze "_law_pen_of" Yk,ze "_law_draw" Ws,ze "_law_row_right" JE,ze "law" s_law],[some 2,some 1,some 40,some 20,some 3,some 12,some 40,some 20,some 11,some 9],[true,true,true,true,true,true,true,true,true,true,true,true,true,true],true)
def q0:Program:=PySem.Challenge.pw_throwruns_k65_whole_free_rows
def isLaw:Stmt->Bool
 | .FunctionDef f ..=>f == "law"|_=>false
def q:Program:={q0 with main:={q0.main with body:=q0.main.body.filter isLaw}}
def nameOf:Stmt->List Str
 | .FunctionDef f ..=>[f]| .ClassDef f ..=>[f]| .Assign [.Name x _] _ _=>[x]|_=>[]
def ls:List Str:=(q0.main.body.flatMap nameOf).filter (· != "law")
def as:List Addr:=[1,2,3,15,22,23,24,25,28,35,36,37,40,47,48,49,52,59,60,61,64,71,72,73,76,83,85,86,88,89,90,91,92,95,97,98,100,101,102,104,105,107,108,109,111,112,114,115,116,118,119,121,122,123,125,126,128,129,130,133,134,135,137,138,140,141,142,145,146,147,150,151,152,154,155,157,158,159,161,162,164,165,166,168,169,171,172,173,175,176,178,179,180,182,183,185,186,187,190,191,192,194,195,197,198,199,201,202,204,205,206,209,210,211,213,214,216,217,218,220,221,223,224,225,227,228,230,231,232,234,235,237,238,239,241,242,244,245,246,249,250,251,253,254,256,257,258,260,261,263,264,265,267,268,270,271,272,275,276,277,279,280,282,283,284,286,287,289,290,291,294,295,296,299,300,301,304,305,306,308,309,311,312,313,315,316,318,319,320,322,323,325,326,327,329,330,332,333,334,337,338,339,341,342,344,345,346,349,350,351,353,354,356,357,358,361,362,363,365,366,368,369,370,372,373,375,376,377,380,381,382,385,386,387,389,390,392,393,394,396,397,399,400,401,403,404,406,407,408,410,411,413,414,415,417,418,420,421,422,425,426,427,429,430,432,433]
end My
section
open PySem PySem.W PyProof.Rows
theorem My.hz:OpenLaw.wellSaid PySem.Challenge.rw_throwruns_k65_whole_free_rows=true:=by decide +kernel
theorem My.h2{α β γ:Type}{o:Option α}{f:α->β}{g:α->γ}{b:β}{c:γ}(h1:o.map f=some b)(h2:o.map g=some c):o.map (λs=>(f s,g s))=some (b,c):=by
 cases o with
 |none=>cases h1|some s=>cases h1;cases h2;rfl
theorem My.hu:∀(w:World) (os:OsState),(topFrom treeTable (OpenLaw.row PySem.Challenge.rw_throwruns_k65_whole_free_rows).toRowW.prog w 6150 ⟨boot_heap w.params,#[],boot_drawn,boot_toks,os⟩).map (λs=>openSeen My.q My.ls (importedModules (OpenLaw.row PySem.Challenge.rw_throwruns_k65_whole_free_rows).toRowW.prog.main.body) (λs=>xlAt My.q [] s&&recOk (RowW.records (OpenLaw.row PySem.Challenge.rw_throwruns_k65_whole_free_rows).toRowW) s) true s)=some (openGood My.q My.ls):=by
 intro w os
 kernel_rfl
theorem My.h4{α γ:Type}{o:Option α}{g:α->List γ}{w:List γ}(n:Nat)(ha:o.map (λs=>(g s).take n)=some (w.take n))(hb:o.map (λs=>(g s).drop n)=some (w.drop n)):o.map g=some w:=by
 cases o with
 |none=>cases ha|some s=>exact congrArg some ((List.take_append_drop n (g s)).symm.trans ((congr (congrArg HAppend.hAppend (qJ ha)) (qJ hb)).trans (List.take_append_drop n w)))
theorem My.h5{α γ δ:Type}{o:Option α}{g:α->γ×δ}{w:γ×δ}(ha:o.map (λs=>(g s).1)=some w.1)(hc:o.map (λs=>(g s).2)=some w.2):o.map g=some w:=by
 cases o with
 |none=>cases ha|some s=>exact congrArg some (Prod.ext (qJ ha) (qJ hc))
theorem My.hv0:∀(w:World) (os:OsState),(topFrom treeTable (OpenLaw.row PySem.Challenge.rw_throwruns_k65_whole_free_rows).toRowW.prog w 6150 ⟨boot_heap w.params,#[],boot_drawn,boot_toks,os⟩).map (λs=>((My.Wu (DV.Yb s.heap My.as)).1.take 20))=some (My.wants.1.take 20):=by
 intro w os
 kernel_rfl
theorem My.hv1:∀(w:World) (os:OsState),(topFrom treeTable (OpenLaw.row PySem.Challenge.rw_throwruns_k65_whole_free_rows).toRowW.prog w 6150 ⟨boot_heap w.params,#[],boot_drawn,boot_toks,os⟩).map (λs=>((My.Wu (DV.Yb s.heap My.as)).1.drop 20))=some (My.wants.1.drop 20):=by
 intro w os
 kernel_rfl
theorem My.hvc:∀(w:World) (os:OsState),(topFrom treeTable (OpenLaw.row PySem.Challenge.rw_throwruns_k65_whole_free_rows).toRowW.prog w 6150 ⟨boot_heap w.params,#[],boot_drawn,boot_toks,os⟩).map (λs=>(My.Wu (DV.Yb s.heap My.as)).2)=some My.wants.2:=by
 intro w os
 kernel_rfl
theorem My.hv(w:World)(os:OsState):(topFrom treeTable (OpenLaw.row PySem.Challenge.rw_throwruns_k65_whole_free_rows).toRowW.prog w 6150 ⟨boot_heap w.params,#[],boot_drawn,boot_toks,os⟩).map (λs=>My.Wu (DV.Yb s.heap My.as))=some My.wants:=My.h5 (My.h4 20 (My.hv0 w os) (My.hv1 w os)) (My.hvc w os)
theorem My.ht:∀(w:World) (os:OsState),(topFrom treeTable (OpenLaw.row PySem.Challenge.rw_throwruns_k65_whole_free_rows).toRowW.prog w 6150 ⟨boot_heap w.params,#[],boot_drawn,boot_toks,os⟩).map (λs=>(openSeen My.q My.ls (importedModules (OpenLaw.row PySem.Challenge.rw_throwruns_k65_whole_free_rows).toRowW.prog.main.body) (λs=>xlAt My.q [] s&&recOk (RowW.records (OpenLaw.row PySem.Challenge.rw_throwruns_k65_whole_free_rows).toRowW) s) true s,My.Wu (DV.Yb s.heap My.as)))=some (openGood My.q My.ls,My.wants):=λw os=>My.h2 (My.hu w os) (My.hv w os)
theorem My.ho:opening (OpenLaw.row PySem.Challenge.rw_throwruns_k65_whole_free_rows).toRowW.prog=plainProg (OpenLaw.row PySem.Challenge.rw_throwruns_k65_whole_free_rows).toRowW.prog.main.scope.names:=by kernel_rfl
theorem My.hf:∀s,fenceModules? (OpenLaw.row PySem.Challenge.rw_throwruns_k65_whole_free_rows).toRowW.prog s=some s:=by
 intro s
 kernel_rfl
theorem My.hl:LeftO (OpenLaw.row PySem.Challenge.rw_throwruns_k65_whole_free_rows).toRowW.prog My.q My.ls (λs=>xlAt My.q [] s&&recOk (RowW.records (OpenLaw.row PySem.Challenge.rw_throwruns_k65_whole_free_rows).toRowW) s) (λs=>My.Wu (DV.Yb s.heap My.as)) (λ_=>My.wants) 6150:=by
 intro w;obtain⟨s,hs,hv⟩:=Option.map_eq_some_iff.mp (boot_open My.ho (N:=6150) rfl My.hf w);unfold openEnds;rw[hs];obtain⟨h,g,d,t,os⟩:=s;have h1:h=boot_heap w.params:=congrArg Prod.fst hv;have h2:g=#[]:=congrArg (λx=>x.2.1) hv;have h3:d=boot_drawn:=congrArg (λx=>x.2.2.1) hv;have h4:t=boot_toks:=congrArg (λx=>x.2.2.2) hv;subst h1;subst h2;subst h3;subst h4;exact My.ht w os
end
namespace L2
open PySem PySem.Spec PyProof.Rows
abbrev Key:=Sum Int Str
def keyIs:Key->Value->Bool
 | .inl k,v=>Value.isInt k v| .inr x,v=>Value.isStrOf x v
def keyH(w:World):Key->Int
 | .inl k=>hashInt k| .inr x=>hashStr w x
def yP:∀{k:Key} {v:Value},keyIs k v=true->(∃i t,k=Sum.inl i/\v=Value.int i t)\/(∃x t,k=Sum.inr x/\v=Value.str x t)
 | .inl i,v,h=>by
  obtain⟨t,e⟩:=Value.isInt_shape (k:=i) (v:=v) h;exact .inl ⟨i,t,rfl,e⟩
 | .inr x,v,h=>by
  obtain⟨t,e⟩:=Value.isStrOf_shape (x:=x) (v:=v) h;exact .inr ⟨x,t,rfl,e⟩
def key_ll(a b:Int):decide ((Sum.inl a:Key)=Sum.inl b)=(a==b):=by
 by_cases e:a=b
 ·subst e;simp
 ·have h:¬(Sum.inl a:Key)=Sum.inl b:=λq=>e (Sum.inl.inj q)
  rw[decide_eq_false h];exact(beq_eq_false_iff_ne.mpr e).symm
def key_rr(a b:Str):decide ((Sum.inr a:Key)=Sum.inr b)=decide (a=b):=by
 by_cases e:a=b
 ·subst e;simp
 ·have h:¬(Sum.inr a:Key)=Sum.inr b:=λq=>e (Sum.inr.inj q)
  rw[decide_eq_false h,decide_eq_false e]
def key_lr(a:Int)(b:Str):decide ((Sum.inl a:Key)=Sum.inr b)=false:=decide_eq_false (λq=>nomatch q)
def key_rl(a:Str)(b:Int):decide ((Sum.inr a:Key)=Sum.inl b)=false:=decide_eq_false (λq=>nomatch q)
def zAe(prog:Program)(w:World):PySem.KeyKind prog w Key where
 is:=keyIs
 hash:=keyH w
 inj:=λv a b ha hb=>by
  rcases yP ha with⟨i,t,rfl,rfl⟩|⟨x,t,rfl,rfl⟩
  ·rcases yP hb with⟨j,u,rfl,e⟩|⟨y,u,rfl,e⟩
   ·injection e with e1 _;rw[e1]
   ·exact nomatch e
  ·rcases yP hb with⟨j,u,rfl,e⟩|⟨y,u,rfl,e⟩
   ·exact nomatch e
   ·injection e with e1 _;rw[e1]
 byValue:=λk v h=>by
  rcases yP h with⟨i,t,rfl,rfl⟩|⟨x,t,rfl,rfl⟩<;>rfl
 pyHash:=λhv h=>by
  rcases yP hv with⟨i,t,rfl,rfl⟩|⟨x,t,rfl,rfl⟩
  ·exact wpAny_pyHash_int h
  ·exact wpAny_pyHash_str h
 eqBool:=λhu hv h=>by
  rcases yP hu with⟨i,t,rfl,rfl⟩|⟨x,t,rfl,rfl⟩
  ·rcases yP hv with⟨j,u,rfl,rfl⟩|⟨y,u,rfl,rfl⟩
   ·rw[key_ll]at h;exact wpAny_eqBool_int h
   ·rw[key_lr]at h;exact SeqAt.EqAt.int_str i t y u _ _ _ _ h
  ·rcases yP hv with⟨j,u,rfl,rfl⟩|⟨y,u,rfl,rfl⟩
   ·rw[key_rl]at h;exact SeqAt.EqAt.str_int x t j u _ _ _ _ h
   ·rw[key_rr]at h;exact wpAny_eqBool_str h
 «strs»:=λk x t v h=>by
  rcases yP h with⟨i,u,rfl,e⟩|⟨y,u,rfl,e⟩
  ·exact nomatch e
  ·injection e with e1 _
   subst e1;cases v<;>rfl
set_option genInjectivity true in
inductive V where
 |non|bl (b:Bool)|int (i:Int)|str (x:Str)|byt (b:Array UInt8)|flt (b:UInt64)|ref (a:Addr)|ty (n:String)
 deriving DecidableEq
def ym:V->Value->Prop
 | .non,u=>u=Value.none| .bl b,u=>u=Value.bool b| .int i,u=>∃t,u=Value.int i t| .str x,u=>∃t,u=Value.str x t| .byt b,u=>∃t,u=Value.bytes b t| .flt b,u=>∃t,u=Value.float b t| .ref a,u=>u=Value.ref a| .ty n,u=>u=Value.type n
abbrev yj:List V->List Value->Prop:=Paired ym
theorem yj.length{xs:List V}{us:List Value}(r:yj xs us):xs.length=us.length:=Paired.length r
theorem yj.get:∀{xs:List V} {us:List Value} {i:Nat} {x:V},yj xs us->xs[i]?=some x->∃u,us[i]?=some u/\ym x u
 |_,_,_,_,.nil,e=>by simp at e|_,_,0,_,.cons r _,e=>by simp at e;subst e;exact⟨_,rfl,r⟩
 |_,_,i+1,x,.cons _ t,e=>by
  obtain⟨u,h1,h2⟩:=yj.get (i:=i) (x:=x) t (by simpa using e);exact⟨u,by simpa using h1,h2⟩
theorem yj.set{x:V}{u:Value}(r:ym x u):∀{xs:List V} {us:List Value} (i:Nat),yj xs us->yj (xs.set i x) (us.set i u)
 |_,_,_,.nil=>.nil|_,_,0,.cons _ t=>.cons r t|_,_,i+1,.cons q t=>.cons q (yj.set r i t)
theorem yj.append:∀{xs ys:List V} {us ws:List Value},yj xs us->yj ys ws->yj (xs++ys) (us++ws)
 |_,_,_,_,.nil,s=>s|_,_,_,_,.cons r t,s=>.cons r (yj.append t s)
theorem yj.take:∀{xs:List V} {us:List Value} (n:Nat),yj xs us->yj (xs.take n) (us.take n)
 |_,_,0,_=>.nil|_,_,_+1,.nil=>.nil|_,_,n+1,.cons r t=>.cons r (yj.take n t)
theorem yj.drop:∀{xs:List V} {us:List Value} (n:Nat),yj xs us->yj (xs.drop n) (us.drop n)
 |_,_,0,r=>r|_,_,_+1,.nil=>.nil|_,_,n+1,.cons _ t=>yj.drop n t
def RelO:Option V->Option Value->Prop
 |some v,some u=>ym v u|none,none=>True|_,_=>False
def KV{κ:Type}:List (κ×V)->List (κ×Value)->Prop:=Paired λ(p:κ×V) (q:κ×Value)=>p.1=q.1/\ym p.2 q.2
def kV:Key->V
 | .inl i=>.int i| .inr x=>.str x
inductive HO where
 /-- a list -/
 |l (xs:List V)
 /-- a tuple (never changes) -/
 |t (xs:List V)
 /-- a dict whose keys are ints and texts; one whose keys are tuples of ints and texts (the empty one is both) -/
 |dK (kvs:List (Key×V))|dT (kvs:List (List Key×V))
 /-- a set of ints: its members,its size -/
 |set (S:Int->Bool) (n:Nat)
 /-- an instance of the class at C,its dict at dx,its attributes -/
 |ins (C dx:Addr) (fs:List (Str×V))
 /-- the dict of the instance at x -/
 |own (x:Addr)
 /-- the dict of an exception -/
 |xd (fs:List (Str×V))
 /-- a bound method,f of x -/
 |met (f x:Addr)
 /-- a range object lo,lo+1,.. below hi -/
 |rng (lo hi:Int)
 /-- a thing that is known to the object (the script; a dict while a loop walks it): read,never written while it is so -/
 |frz (o:Obj) (u:HO)
 /-- a code object's table -/
 |tbl (ps:Array Value)
 /-- any other thing,by what is true of its one object (a def of one's own: SetO a S n:=HO.ext fun h=>..) -/
 |ext (φ:Heap->Prop)
 |dN (φ:Heap->Prop)
abbrev Hp:=Addr->Option HO
def upd(H:Hp)(a:Addr)(o:HO):Hp:=λb=>if b=a then some o else H b
def jR{H:Hp}{a:Addr}{o:HO}:upd H a o a=some o:=by unfold upd;rw[if_pos rfl]
def zk{H:Hp}{a b:Addr}{o:HO}(h:b≠a):upd H a o b=H b:=by unfold upd;rw[if_neg h]
def wT{H:Hp}{a b:Addr}{o:HO}(h:H a=some o)(h':H b=none):a≠b:=by
 intro e;subst e;rw[h]at h';cases h'
section
variable(P:Program)(w:World)
def jy(H:Hp)(h:Heap)(a:Addr):HO->Prop
 | .l xs=>xs.length<=sizeLine/\∃(its:List Value) (n:Nat),yj xs its/\h.get? a=some {cls:=.type "list",data:=.seq its.toArray n}| .t xs=>xs.length<=sizeLine/\∃its:List Value,yj xs its/\IsTup h a its.toArray| .dK kvs=>kvs.length<=sizeLine/\(a==sysModules)=false/\∃vs,KV kvs vs/\h.DictOf (zAe P w) a vs
 | .dT kvs=>kvs.length<=sizeLine/\(a==sysModules)=false/\∃xs:List (List Key×Addr×Value),
   Paired (λ(p:List Key×V) (q:List Key×Addr×Value)=>p.1=q.1/\H q.2.1=some (.t (p.1.map kV))/\ym p.2 q.2.2) kvs xs /\
   ∃o es ep,h.get? a=some o/\o.ExactDict/\o.data=.dict es ep/\es.toList=xs.map (entryOfKey (tupleKind (zAe P w)))/\(xs.map (·.1)).Nodup
 | .set S n=>h.SetOf (intKind P w) a S n
 | .ins C dx fs=>H dx=some (.own a)/\fs.length<=1000/\dx≠a/\h.get? a=some (PySem.W.instObj C dx) /\
   ∃mA,h.Ns1 dx mA/\(∀f,RelO (fs.lookup f) (mA f))/\PySem.Within mA (fs.map (·.1))
 | .own _=>∃o,h.get? a=some o| .xd fs=>∃mA,h.Ns1 a mA/\∀f,RelO (fs.lookup f) (mA f)| .rng lo hi=>∃t u v,h.get? a=some {cls:=.type "range",data:=.fields #[.int lo t,.int hi u,.int 1 v]}| .frz o u=>h.get? a=some o/\jy H h a u| .tbl ps=>h.get? a=some {cls:=.none,data:=.fields ps}| .met f x=>h.get? a=some (methodObj (.ref f) (.ref x))| .ext φ=>φ h/\(∃o,h.get? a=some o)/\∀h1 h2:Heap,φ h1->(∀o,h1.get? a=some o->h2.get? a=some o)->φ h2| .dN φ=>φ h/\(∃o,h.get? a=some o)/\∀h1 h2:Heap,φ h1->(∀o,h1.get? a=some o->h2.get? a=some o)->φ h2
def HOk(H:Hp)(h:Heap):Prop:=∀a o,H a=some o->jy P w H h a o
end
section
variable{P:Program}{w:World}{H H':Hp}{h h':Heap}{a:Addr}{o:HO}
theorem jy.lt(x:jy P w H h a o):a<h.objs.size:=by
 cases o with
 |l xs=>obtain⟨_,_,_,_,e⟩:=x;exact lt_size e|t xs=>obtain⟨_,_,_,p⟩:=x;exact p.lt|dK kvs=>obtain⟨_,_,_,_,o,_,_,e,_⟩:=x;exact lt_size e|dT kvs=>obtain⟨_,_,_,_,o,_,_,e,_⟩:=x;exact lt_size e|set S n=>obtain⟨o,_,_,_,e,_⟩:=x;exact lt_size e|ins C dx fs=>obtain⟨_,_,_,e,_⟩:=x;exact lt_size e|own y=>obtain⟨_,e⟩:=x;exact lt_size e|xd fs=>obtain⟨_,⟨_,_,_,e,_⟩,_⟩:=x;exact lt_size e|rng lo hi=>obtain⟨_,_,_,e⟩:=x;exact lt_size e|frz ob u=>obtain⟨e,_⟩:=x;exact lt_size e|tbl ps=>exact lt_size (show h.get? a=some _ from x)|met f y=>exact lt_size (show h.get? a=some _ from x)|ext φ=>obtain⟨_,⟨_,e⟩,_⟩:=x;exact lt_size e|dN φ=>obtain⟨_,⟨_,e⟩,_⟩:=x;exact lt_size e
theorem Paired.mapP{α β:Type}{F G:α->β->Prop}:∀{l₁:List α} {l₂:List β},Paired F l₁ l₂->(∀a b,F a b->G a b)->Paired G l₁ l₂
 |_,_,.nil,_=>.nil|_,_,.cons r t,f=>.cons (f _ _ r) (Paired.mapP t f)
def jy.stay(x:jy P w H h a o)(k:∀b u,(b=a\/H b=some (.own a))->h.get? b=some u->h'.get? b=some u)
  (ho:∀b,H b=some (.own a)->H' b=some (.own a)) (ht:∀b xs,H b=some (.t xs)->H' b=some (.t xs)):jy P w H' h' a o:=by
 induction o with
 |l xs=>obtain⟨z,its,n,r,e⟩:=x;exact⟨z,its,n,r,k _ _ (.inl rfl) e⟩|t xs=>obtain⟨z,its,r,ob,e,c⟩:=x;exact⟨z,its,r,ob,k _ _ (.inl rfl) e,c⟩|dK kvs=>obtain⟨z,y,vs,r,ob,es,ep,e,c⟩:=x;exact⟨z,y,vs,r,ob,es,ep,k _ _ (.inl rfl) e,c⟩
 |dT kvs =>
  obtain⟨z,y,xs,r,ob,es,ep,e,c⟩:=x;exact⟨z,y,xs,Paired.mapP r λp q z=>⟨z.1,ht _ _ z.2.1,z.2.2⟩,ob,es,ep,k _ _ (.inl rfl) e,c⟩
 |set S n=>obtain⟨ob,es,ep,t,e,c⟩:=x;exact⟨ob,es,ep,t,k _ _ (.inl rfl) e,c⟩
 |ins C dx fs =>
  obtain⟨d,z,ne,e,mA,⟨od,es,ep,e2,c⟩,r⟩:=x;exact⟨ho _ d,z,ne,k _ _ (.inl rfl) e,mA,⟨od,es,ep,k _ _ (.inr d) e2,c⟩,r⟩
 |own y=>obtain⟨ob,e⟩:=x;exact⟨ob,k _ _ (.inl rfl) e⟩|xd fs=>obtain⟨mA,⟨od,es,ep,e,c⟩,r⟩:=x;exact⟨mA,⟨od,es,ep,k _ _ (.inl rfl) e,c⟩,r⟩|rng lo hi=>obtain⟨t,u,v,e⟩:=x;exact⟨t,u,v,k _ _ (.inl rfl) e⟩|frz ob u ih=>obtain⟨e,q⟩:=x;exact⟨k _ _ (.inl rfl) e,ih q⟩
 |tbl ps =>
  have e:h.get? a=some {cls:=.none,data:=.fields ps}:=x;show h'.get? a=some {cls:=.none,data:=.fields ps};exact k a _ (.inl rfl) e
 |met f y =>
  have e:h.get? a=some (methodObj (.ref f) (.ref y)):=x;show h'.get? a=some (methodObj (.ref f) (.ref y));exact k a _ (.inl rfl) e
 |ext φ=>obtain⟨p,⟨o,e⟩,st⟩:=x;exact⟨st _ _ p λo q=>k _ _ (.inl rfl) q,⟨o,k _ _ (.inl rfl) e⟩,st⟩|dN φ=>obtain⟨p,⟨o,e⟩,st⟩:=x;exact⟨st _ _ p λo q=>k _ _ (.inl rfl) q,⟨o,k _ _ (.inl rfl) e⟩,st⟩
theorem HOk.lt(x:HOk P w H h)(e:H a=some o):a<h.objs.size:=(x a o e).lt
def HOk.fresh(x:HOk P w H h)(e:h.objs.size<=a):H a=none:=by
 cases q:H a with
 |none=>rfl|some u=>exact absurd (lt_of_lt_of_le (x.lt q) e) (lt_irrefl _)
def HOk.kept(x:HOk P w H h)(k:∀b u,h.get? b=some u->h'.get? b=some u):HOk P w H h':=λa o e =>
 (x a o e).stay (λb u _ q=>k b u q) (λ_ q=>q) λ_ _ q=>q
def HOk.laid(x:HOk P w H h)(k:∀b u,h.get? b=some u->h'.get? b=some u)(hp:h.objs.size<=a)(new:jy P w (upd H a o) h' a o):HOk P w (upd H a o) h':=λb u e=>by
 have hn:=x.fresh hp;by_cases hb:b=a
 ·subst hb;rw[jR]at e;cases e;exact new
 ·rw[zk hb]at e
  exact(x b u e).stay (λc v _ q=>k c v q) (λc q=>by rw[zk (wT q hn)];exact q) λc xs q=>by rw[zk (wT q hn)];exact q
end
def Rd(H:Hp)(a:Addr)(u:HO):Prop:=H a=some u\/∃o,H a=some (.frz o u)
def Rd.ok{P:Program}{w:World}{H:Hp}{h:Heap}{a:Addr}{u:HO}(r:Rd H a u)(x:HOk P w H h):jy P w H h a u:=by
 rcases r with r|⟨o,r⟩
 ·exact x a u r
 ·obtain⟨_,q⟩:=x a _ r
  exact q
def Mut:Option HO->Prop
 |some (.l _)=>True|some (.dK _)=>True|some (.dT _)=>True|some (.set _ _)=>True|some (.ins _ _ _)=>True|some (.ext _)=>True|some (.dN _)=>True|_=>False
section
variable{P:Program}{w:World}{H:Hp}{h h':Heap}{x e:Addr}{o':HO}
def HOk.write(ok:HOk P w H h)(mu:Mut (H x))(he:e=x\/H e=some (.own x))(k:∀b u,b≠e->h.get? b=some u->h'.get? b=some u)(heo:∃u,h'.get? e=some u)
  (new:jy P w (upd H x o') h' x o'):HOk P w (upd H x o') h':=λb u q=>by
 have nown:∀c y,H c=some (.own y)->c≠x:=λc y r z=>by subst z;rw[r]at mu;exact mu
 have ntup:∀c xs,H c=some (.t xs)->c≠x:=λc xs r z=>by subst z;rw[r]at mu;exact mu
 by_cases hb:b=x
 ·subst hb;rw[jR]at q;cases q;exact new
 ·rw[zk hb]at q
  by_cases hbe:b=e
  ·have q':H b=some (.own x):=by
    rcases he with z|z
    ·exact absurd (hbe.trans z) hb
    ·rw[hbe];exact z
   rw[q]at q';cases q';obtain⟨v,hv⟩:=heo;exact⟨v,by rw[hbe];exact hv⟩
  ·refine(ok b u q).stay (λc v hc r=>k c v ?_ r) (λc r=>by rw[zk (nown c b r)];exact r) λc xs r=>by rw[zk (ntup c xs r)];exact r
   rcases hc with rfl|hc
   ·exact hbe
   ·rintro rfl
    rcases he with z|z
    ·exact nown c b hc z
    ·rw[hc]at z;cases z;exact hb rfl
end
structure Un(fs ex:List Addr)(H H':Hp)(h h':Heap):Prop where
 keep:∀b o,h.get? b=some o->H b=none->b∉fs->b∉ex->h'.get? b=some o
 slot:∀b o,h.get? b=some o->H b=none->b∈fs->b∉ex->∃sl,h'.get? b=some {o with slots:=sl}
 free:∀b o,h.get? b=some o->H b=none->b∉ex->H' b=none
 there:∀b o,h.get? b=some o->b∉ex->∃o',h'.get? b=some o'
 tups:∀b xs,H b=some (.t xs)->H' b=some (.t xs)
 frzs:∀b o u,H b=some (.frz o u)->H' b=some (.frz o u)
 tbls:∀b ps,H b=some (.tbl ps)->∃more,H' b=some (.tbl (ps++more))
section
variable{fs fs' ex ex':List Addr}{H H1 H2:Hp}{h h1 h2 h':Heap}{a x e:Addr}{o:HO}
def Un.any(u:Un fs ex H H1 h h1){b:Addr}{ob:Obj}(q:h.get? b=some ob)(n:H b=none)(hx:b∉ex):∃sl,h1.get? b=some {ob with slots:=sl}:=by
 by_cases hb:b∈fs
 ·exact u.slot b ob q n hb hx
 ·exact⟨ob.slots,u.keep b ob q n hb hx⟩
def Un.kept(k:∀b u,h.get? b=some u->h'.get? b=some u):Un fs ex H H h h' :=
 ⟨λb ob q _ _ _=>k b ob q,λb ob q _ _ _=>⟨ob.slots,k b ob q⟩,λ_ _ _ n _=>n,λb ob q _=>⟨ob,k b ob q⟩,λ_ _ q=>q,λ_ _ _ q=>q,λ_ ps q=>⟨#[],by rw[q];simp⟩⟩
def Un.refl:Un fs ex H H h h:=Un.kept λ_ _ q=>q
def Un.laid(k:∀b u,h.get? b=some u->h'.get? b=some u)(hp:h.objs.size<=a)(hn:H a=none):Un fs ex H (upd H a o) h h' where
 keep:=λb u q _ _ _=>k b u q
 slot:=λb u q _ _ _=>⟨u.slots,k b u q⟩
 free:=λb u q n _=>by rw[zk (ne_of_lt (lt_of_lt_of_le (lt_size q) hp))];exact n
 there:=λb u q _=>⟨u,k b u q⟩
 tups:=λb xs q=>by rw[zk (wT q hn)];exact q
 frzs:=λb u xs q=>by rw[zk (wT q hn)];exact q
 tbls:=λb ps q=>⟨#[],by rw[zk (wT q hn),q];simp⟩
def Un.write(mu:Mut (H x))(he:e=x\/H e=some (.own x))(k:∀b u,b≠e->h.get? b=some u->h'.get? b=some u)(heo:∃u,h'.get? e=some u):Un fs ex H (upd H x o) h h':=by
 have hx:∀b,H b=none->b≠x:=λb n z=>by subst z;rw[n]at mu;exact mu
 have hb:∀b,H b=none->b≠e:=λb n z=>by
  subst z;rcases he with r|r
  ·exact hx b n r
  ·rw[n]at r;cases r
 have hm:∀b u,H b=some u->¬Mut (some u)->b≠x:=λb u q nm z=>by subst z;rw[q]at mu;exact nm mu
 refine⟨λb u q n _ _=>k b u (hb b n) q,λb u q n _ _=>⟨u.slots,k b u (hb b n) q⟩,λb u q n _=>by rw[zk (hx b n)];exact n,λb u q _=>?_,
  λb xs q=>by rw[zk (hm b _ q λz=>z)];exact q,λb u xs q=>by rw[zk (hm b _ q λz=>z)];exact q,λb ps q=>⟨#[],by rw[zk (hm b _ q λz=>z),q];simp⟩⟩
 by_cases hbe:b=e
 ·subst hbe;exact heo
 ·exact⟨u,k b u hbe q⟩
end
def trk(h:Heap)(H:Hp):List Addr:=(List.range h.objs.size).filter λa=>(H a).isSome
def zFC(h:Heap)(H:Hp):Heap:=hideAll h (trk h H)
def zC5(h:Heap)(H:Hp):(zFC h H).objs.size=h.objs.size:=PySem.W.hideAll_size _ _
def zFD{h:Heap}{H:Hp}{b:Addr}{o:Obj}(e:h.get? b=some o)(n:H b=none):(zFC h H).get? b=some o :=
 hideAll_get _ e λhm=>by
  have q:(H b).isSome=true:=(mem_filter.mp hm).2;rw[n]at q;simp at q
def of_hidT{h:Heap}{H:Hp}{b:Addr}{o:Obj}(e:(zFC h H).get? b=some o):h.get? b=some o/\H b=none:=by
 have e':h.get? b=some o:=of_hideAll (trk h H) e;refine⟨e',?_⟩;cases q:H b with
 |none=>rfl
 |some x =>
  have hm:b∈trk h H:=mem_filter.mpr ⟨mem_range.mpr (lt_size e'),by simp[q]⟩;have z:(zFC h H).get? b=none:=PySem.W.hideAll_none (trk h H) hm;rw[z]at e;cases e
def allNews(g h:Heap)(L:Addr):List (Addr×Obj):=(List.range h.objs.size).filterMap λa=>if a=L\/(g.get? a).isSome=true then none else(h.get? a).map λo=>(a,o)
def Zq(g h:Heap)(L d:Addr):List (Addr×Obj):=(allNews g h L).filter λp=>decide (p.1≠d)
structure Mod(K:qH)(mg:Str->Option Value)(base:Heap):Prop where
 kin:K.In base
 glob:base.Ns mainGlobals mg
 blt:∃mb,base.Ns builtinsNs mb/\∀x:Str,x≠"__name__"->mb x=bootBuiltins x
 nolimit:base.NoLimit
structure Cx where
 prog:Program
 w:World
 K:qH
 mg:Str->Option Value
 base:Heap
 A:Around
 N:List Str
 s₀:Shared
 H₀:Hp
 env:Env
 outer:List Env
 stack:List Env
 ex:List Addr
 fn:Str->Bool
 calm:Bool
 pn:List (Addr×Obj)
 xe:Value->Shared->Prop
def frs(l:List Env):List Addr:=l.filterMap (·.frame)
abbrev Cx.fs(X:Cx):List Addr:=frs X.outer
def Vis(sc:Scope)(x:Str):Prop:=sc.names.lookup x=some .local\/sc.names.lookup x=some .cell\/sc.names.lookup x=some .free
def Loc(sc:Scope)(x:Str):Prop:=sc.names.lookup x=some .local\/sc.names.lookup x=some .cell
def Look(env:Env)(h:Heap)(m:Str->Option Value)(x:Str)(u:Value):Prop :=
 (env.kindOf x=some .local/\m x=some u)\/((env.kindOf x=some .cell\/env.kindOf x=some .free)/\∃c,env.cells.lookup x=some c/\h.IsCell c (some u))
structure Cx.Ok(X:Cx):Prop where
 mod:Mod X.K X.mg X.base
 kind:X.env.scope.kind=.function
 glob:X.env.globals=mainGlobals
 blt:X.env.builtins=builtinsNs
 above:X.s₀.heap.objs.size<=X.env.locals
 inj:∀x y c,X.env.cells.lookup x=some c->X.env.cells.lookup y=some c->x=y
 has:∀x,(X.env.kindOf x=some .cell\/X.env.kindOf x=some .free)->∃c,X.env.cells.lookup x=some c
 cab:∀x c,X.fn x=true->X.env.cells.lookup x=some c->X.s₀.heap.objs.size<=c
 hd:X.calm=true->X.A.handled=none
 frames:X.A.frames=some X.stack
 stk:X.stack=X.outer\/(X.stack=X.env::X.outer/\X.env.frame=some X.env.locals)
 exf:∀b∈X.ex,b≠X.env.locals/\∀x c,X.env.cells.lookup x=some c->c≠b
 bs:∀b o,X.base.get? b=some o->X.s₀.heap.get? b=some o/\X.H₀ b=none
 bsz:X.base.objs.size<=X.s₀.heap.objs.size
 noex:∀b o,X.base.get? b=some o->b∉X.ex
 exfs:∀b∈X.ex,b∉X.fs
 funs:X.s₀.heap.FunFrames X.base X.outer
 frf:∀b∈X.fs,X.H₀ b=none
structure Inv(X:Cx)(pins:List (Addr×Obj))(O:List (Option V))(H:Hp)(s:Shared):Prop where
 ok:X.Ok
 os:s.os=X.s₀.os
 bare:AllBare s.gens
 base:Un X.fs X.ex X.H₀ H X.s₀.heap s.heap
 loc:∃m,s.heap.Ns X.env.locals m/\∀(i:Nat) (x:Str) (v:V),X.N[i]?=some x->O[i]?=some (some v)->Vis X.env.scope x->∃u,ym v u/\Look X.env s.heap m x u
 cell:∀x c,X.env.cells.lookup x=some c->∃v,s.heap.IsCell c v
 free:H X.env.locals=none
 freeC:∀x c,X.env.cells.lookup x=some c->H c=none
 pin:∀p∈X.pn++pins,s.heap.get? p.1=some p.2/\H p.1=none/\p.1≠X.env.locals/\p.1∉X.fs/\∀v,p.2.data≠.cell v
 hok:HOk X.prog X.w H s.heap
 len:O.length=X.N.length
section
variable{X:Cx}{pins:List (Addr×Obj)}{O:List (Option V)}{H H':Hp}{s:Shared}{h':Heap}
def Cx.Ok.nofr(ok:X.Ok){b:Addr}{o:Obj}(e:X.base.get? b=some o):b∉X.fs:=λhb=>by
 have:=(ok.funs.mem hb).1;rw[e]at this;cases this
theorem Inv.bs(I:Inv X pins O H s):∀b o,X.base.get? b=some o->s.heap.get? b=some o/\H b=none:=λb o e =>
 ⟨I.base.keep b o (I.ok.bs b o e).1 (I.ok.bs b o e).2 (I.ok.nofr e) (I.ok.noex b o e),I.base.free b o (I.ok.bs b o e).1 (I.ok.bs b o e).2 (I.ok.noex b o e)⟩
def Inv.bk(I:Inv X pins O H s):∀b o,X.base.get? b=some o->s.heap.get? b=some o:=λb o e=>(I.bs b o e).1
theorem Inv.mod(I:Inv X pins O H s):Mod X.K X.mg X.base:=I.ok.mod
def Inv.kIn(I:Inv X pins O H s):X.K.In s.heap:=I.ok.mod.kin.keeps I.bk
theorem Inv.lt(I:Inv X pins O H s):X.env.locals<s.heap.objs.size:=let ⟨_,hn,_⟩:=I.loc;hn.lt
def Inv.sz(I:Inv X pins O H s):X.s₀.heap.objs.size<=s.heap.objs.size:=le_trans I.ok.above (Nat.le_of_lt I.lt)
def Inv.nofs(I:Inv X pins O H s){a:Addr}(h:s.heap.objs.size<=a):a∉X.fs:=λhb=>by
 obtain⟨_,o,ho,_⟩:=I.ok.funs.mem hb;exact absurd (lt_of_lt_of_le (lt_size ho) (le_trans I.sz h)) (lt_irrefl _)
def Inv.cne(I:Inv X pins O H s):∀x c,X.env.cells.lookup x=some c->c≠X.env.locals:=λx c e z=>by
 obtain⟨v,o,ho,hd⟩:=I.cell x c e;obtain⟨m,⟨o',es,ep,ho',hd',_⟩,_⟩:=I.loc;rw[z,ho']at ho;cases ho;rw[hd']at hd;cases hd
theorem Inv.funs(I:Inv X pins O H s):s.heap.FunFrames X.base X.outer:=by
 have all:∀(l:List Env),(∀b∈frs l,b∈X.fs)->X.s₀.heap.FunFrames X.base l->s.heap.FunFrames X.base l:=by
  intro l
  induction l with
  |nil=>intro _ _;trivial
  |cons env r ih =>
   intro hs hl;obtain⟨hk,⟨L,o,hf,hn,ho,hd⟩,hr⟩:=hl;have hL:L∈X.fs:=hs L (by unfold frs;rw[filterMap_cons,hf];exact qE);obtain⟨sl,e⟩:=I.base.slot L o ho (I.ok.frf L hL) hL λz=>I.ok.exfs L z hL
   exact⟨hk,⟨L,_,hf,hn,e,hd⟩,ih (λb hb=>hs b (by unfold frs;rw[filterMap_cons,hf];exact qD _ hb)) hr⟩
 exact all X.outer (λ_ hb=>hb) I.ok.funs
theorem Inv.stack(I:Inv X pins O H s):s.heap.FunFrames X.base X.stack:=by
 rcases I.ok.stk with e|⟨e,hf⟩
 ·rw[e];exact I.funs
 ·rw[e]
  obtain⟨m,hn,_⟩:=I.loc;refine .cons (by rw[I.ok.kind];decide) hf hn ?_ I.funs;exact Heap.get?_none_of_le (le_trans I.ok.bsz I.ok.above)
def Inv.stkSub(I:Inv X pins O H s):∀b∈frs X.stack,b∈X.env.locals::X.fs:=λb hb=>by
 rcases I.ok.stk with e|⟨e,hf⟩
 ·rw[e]at hb;exact qD _ hb
 ·rw[e]at hb
  unfold frs at hb;rw[filterMap_cons,hf]at hb;exact hb
def Inv.stkFree(I:Inv X pins O H s):∀b∈frs X.stack,H b=none:=λb hb=>by
 rcases mem_cons.mp (I.stkSub b hb)with e|hb
 ·rw[e];exact I.free
 ·obtain⟨_,o,ho,_⟩:=I.ok.funs.mem hb
  exact I.base.free b o ho (I.ok.frf b hb) λz=>I.ok.exfs b z hb
def Inv.step{g':Array GenState}{t':Nat}{d':Drawn}{ch:List Addr}(I:Inv X pins O H s)
  (hch:∀b∈ch,(b∈X.ex\/X.s₀.heap.objs.size<=b)/\b≠X.env.locals/\(∀x c,X.env.cells.lookup x=some c->c≠b)/\∀p∈X.pn++pins,p.1≠b)
  (keep:∀b o,b≠X.env.locals->b∉X.fs->b∉ch->s.heap.get? b=some o->H b=none->h'.get? b=some o)
  (slot:∀b o,b≠X.env.locals->b∈X.fs->b∉ch->s.heap.get? b=some o->H b=none->∃sl,h'.get? b=some {o with slots:=sl}) (free:∀b o,b∉ch->s.heap.get? b=some o->H b=none->H' b=none)
  (there:∀b o,b∉ch->s.heap.get? b=some o->∃o',h'.get? b=some o')
  (tups:∀b xs,H b=some (.t xs)->H' b=some (.t xs)) (frzs:∀b o u,H b=some (.frz o u)->H' b=some (.frz o u)) (tbls:∀b ps,H b=some (.tbl ps)->∃more,H' b=some (.tbl (ps++more)))
  (ns:∀m,s.heap.Ns X.env.locals m->h'.Ns X.env.locals m) (hok:HOk X.prog X.w H' h') (hg:AllBare g') :
  Inv X pins O H' {s with heap:=h',gens:=g',drawn:=d',toks:=t'}:=by
 have neL:∀b o,X.s₀.heap.get? b=some o->b≠X.env.locals:=λb o e=>ne_of_lt (lt_of_lt_of_le (lt_size e) I.ok.above)
 have neC:∀b o,X.s₀.heap.get? b=some o->b∉X.ex->b∉ch:=λb o e hx hb=>by
  rcases(hch b hb).1 with z|z
  ·exact hx z
  ·exact absurd (lt_of_lt_of_le (lt_size e) z) (lt_irrefl _)
 have cellK:∀x c,X.env.cells.lookup x=some c->∀v,s.heap.IsCell c v->h'.IsCell c v:=λx c e v ⟨o,ho,hd⟩=>by
  have nch:c∉ch:=λz=>(hch c z).2.2.1 x c e rfl
  by_cases hc:c∈X.fs
  ·obtain⟨sl,q⟩:=slot c o (I.cne x c e) hc nch ho (I.freeC x c e)
   exact⟨_,q,hd⟩
  ·exact⟨o,keep c o (I.cne x c e) hc nch ho (I.freeC x c e),hd⟩
 refine⟨I.ok,I.os,hg,⟨λb o e n hb hx=>?_,λb o e n hb hx=>?_,λb o e n hx=>?_,λb o e hx=>?_,λb xs e=>tups b xs (I.base.tups b xs e),λb o xs e=>frzs b o xs (I.base.frzs b o xs e),λb ps e=>?_⟩,?_,λx c e=>?_,?_,λx c e=>?_,λp hp=>?_,hok,I.len⟩
 ·exact keep b o (neL b o e) hb (neC b o e hx) (I.base.keep b o e n hb hx) (I.base.free b o e n hx)
 ·obtain⟨sl,e1⟩:=I.base.slot b o e n hb hx
  obtain⟨sl',e2⟩:=slot b _ (neL b o e) hb (neC b o e hx) e1 (I.base.free b o e n hx);exact⟨sl',e2⟩
 ·obtain⟨o',e1⟩:=I.base.there b o e hx
  exact free b o' (neC b o e hx) e1 (I.base.free b o e n hx)
 ·obtain⟨o',e1⟩:=I.base.there b o e hx
  exact there b o' (neC b o e hx) e1
 ·obtain⟨m1,e1⟩:=I.base.tbls b ps e
  obtain⟨m2,e2⟩:=tbls b _ e1;exact⟨m1++m2,by rw[e2,Array.append_assoc]⟩
 ·obtain⟨m,hn,hl⟩:=I.loc
  refine⟨m,ns m hn,λi x v e1 e2 e3=>?_⟩;obtain⟨u,r,l⟩:=hl i x v e1 e2 e3;refine⟨u,r,?_⟩;rcases l with l|⟨k,c,e,z⟩
  ·exact .inl l
  ·exact .inr ⟨k,c,e,cellK x c e _ z⟩
 ·obtain⟨v,z⟩:=I.cell x c e
  exact⟨v,cellK x c e v z⟩
 ·obtain⟨m,⟨o,_,_,ho,_⟩,_⟩:=I.loc
  exact free _ o (λz=>(hch _ z).2.1 rfl) ho I.free
 ·obtain⟨v,o,ho,hd⟩:=I.cell x c e
  exact free c o (λz=>(hch c z).2.2.1 x c e rfl) ho (I.freeC x c e)
 ·obtain⟨e,n,ne,nf,d⟩:=I.pin p hp
  have nch:p.1∉ch:=λz=>(hch p.1 z).2.2.2 p hp rfl
  exact⟨keep p.1 p.2 ne nf nch e n,free p.1 p.2 nch e n,ne,nf,d⟩
def Inv.un{t':Nat}(I:Inv X pins O H s)(u:Un X.fs [] H H' s.heap h')(hok:HOk X.prog X.w H' h'):Inv X pins O H' {s with heap:=h',toks:=t'}:=by
 obtain⟨m,⟨o,es,ep,ho,r⟩,_⟩:=id I.loc;obtain⟨sl,hL⟩:=u.any ho I.free (by simp);exact I.step (g':=s.gens) (d':=s.drawn) (ch:=[]) (λ_ z=>nomatch z) (λb o _ hb _ e n=>u.keep b o e n hb (by simp)) (λb o _ hb _ e n=>u.slot b o e n hb (by simp)) (λb o _ e n=>u.free b o e n (by simp)) (λb o _ e=>u.there b o e (by simp)) u.tups u.frzs u.tbls (λm' hm=>by
  obtain⟨o',es',ep',ho',r'⟩:=hm;rw[ho]at ho';cases ho';exact⟨_,es',ep',hL,r'⟩) hok I.bare
def Inv.call{g':Array GenState}{t':Nat}{d':Drawn}{ch:List Addr}(I:Inv X pins O H s)(u:Un (frs X.stack) ch H H' s.heap h')(hok:HOk X.prog X.w H' h')(hg:AllBare g')
  (hch:∀b∈ch,(b∈X.ex\/X.s₀.heap.objs.size<=b)/\b≠X.env.locals/\(∀x c,X.env.cells.lookup x=some c->c≠b)/\∀p∈X.pn++pins,p.1≠b) :
  Inv X pins O H' {s with heap:=h',gens:=g',drawn:=d',toks:=t'}:=by
 obtain⟨m,⟨o,es,ep,ho,r⟩,_⟩:=id I.loc;obtain⟨sl,hL⟩:=u.any ho I.free λz=>(hch _ z).2.1 rfl
 exact I.step (ch:=ch) hch (λb o hL hb hc e n=>u.keep b o e n (λz=>(mem_cons.mp (I.stkSub b z)).elim hL hb) hc) (λb o _ _ hc e n=>u.any e n hc) (λb o hc e n=>u.free b o e n hc) (λb o hc e=>u.there b o e hc) u.tups u.frzs u.tbls (λm' hm=>by
  obtain⟨o',es',ep',ho',r'⟩:=hm;rw[ho]at ho';cases ho';exact⟨_,es',ep',hL,r'⟩) hok hg
def Inv.turned{t':Nat}{it:Addr}(I:Inv X pins O H s)(k:∀b o,b≠it->s.heap.get? b=some o->h'.get? b=some o)(hn:H it=none)(hL:it≠X.env.locals)
  (h1:it∈X.ex\/X.s₀.heap.objs.size<=it) (h2:∀x c,X.env.cells.lookup x=some c->c≠it) (h3:∀p∈X.pn++pins,p.1≠it):Inv X pins O H {s with heap:=h',toks:=t'}:=by
 have nit:∀b u,H b=some u->b≠it:=λb u e z=>by rw[z,hn]at e;cases e
 refine I.step (g':=s.gens) (d':=s.drawn) (ch:=[it]) (λb hb=>?_) (λb o _ _ hc e _=>k b o (λz=>hc (by simp[z])) e) (λb o _ _ hc e _=>⟨o.slots,k b o (λz=>hc (by simp[z])) e⟩) (λ_ _ _ _ n=>n)
  (λb o hc e=>⟨o,k b o (λz=>hc (by simp[z])) e⟩) (λ_ _ e=>e) (λ_ _ _ e=>e) (λb ps e=>⟨#[],by rw[e];simp⟩) (λm hm=>?_) (λb u e=>?_) I.bare
 ·have e:b=it:=by simpa using hb
  subst e;exact⟨h1,hL,h2,h3⟩
 ·obtain⟨o,es,ep,ho,r⟩:=hm
  exact⟨o,es,ep,k _ o (Ne.symm hL) ho,r⟩
 ·refine(I.hok b u e).stay (λc v hc q=>k c v ?_ q) (λ_ q=>q) λ_ _ q=>q
  rcases hc with z|z
  ·rw[z];exact nit b u e
  ·exact nit c _ z
def Inv.tok(I:Inv X pins O H s)(t:Nat):Inv X pins O H {s with toks:=t}:=I.un (h':=s.heap) (t':=t) Un.refl I.hok
theorem Inv.kept{t':Nat}(I:Inv X pins O H s)(k:∀b u,s.heap.get? b=some u->h'.get? b=some u):Inv X pins O H {s with heap:=h',toks:=t'}:=I.un (Un.kept k) (I.hok.kept k)
theorem Inv.laid{a:Addr}{o:HO}{t':Nat}(I:Inv X pins O H s)(k:∀b u,s.heap.get? b=some u->h'.get? b=some u)(hp:s.heap.objs.size<=a)(new:jy X.prog X.w (upd H a o) h' a o) :
  Inv X pins O (upd H a o) {s with heap:=h',toks:=t'}:=I.un (Un.laid k hp (I.hok.fresh hp)) (I.hok.laid k hp new)
theorem Inv.write{x e:Addr}{o:HO}{t':Nat}(I:Inv X pins O H s)(mu:Mut (H x))(he:e=x\/H e=some (.own x))(k:∀b u,b≠e->s.heap.get? b=some u->h'.get? b=some u)(heo:∃u,h'.get? e=some u)
  (new:jy X.prog X.w (upd H x o) h' x o):Inv X pins O (upd H x o) {s with heap:=h',toks:=t'}:=I.un (Un.write mu he k heo) (I.hok.write mu he k heo new)
def Inv.pins_of{pins':List (Addr×Obj)}(I:Inv X pins O H s)(h:∀p∈pins',s.heap.get? p.1=some p.2/\H p.1=none/\p.1≠X.env.locals/\p.1∉X.fs/\∀v,p.2.data≠.cell v):Inv X pins' O H s :=
 ⟨I.ok,I.os,I.bare,I.base,I.loc,I.cell,I.free,I.freeC,λp hp=>(mem_append.mp hp).elim (λz=>I.pin p (mem_append_left _ z)) (h p),I.hok,I.len⟩
def zBc{N:List Str}(hN:N.Nodup){i j:Nat}{x:Str}(a:N[i]?=some x)(b:N[j]?=some x):i=j:=by
 obtain⟨h1,e1⟩:=qG.mp a;obtain⟨h2,e2⟩:=qG.mp b;exact(List.getElem_inj hN).mp (e1.trans e2.symm)
def Yl{M:Model}{A:Around}{E:Value->Shared->Prop}{i:Nat}{x:Str}{v:V}{u:Value}{Q:Unit->Shared->Prop}(I:Inv X pins O H s)(hN:X.N.Nodup)(hi:X.N[i]?=some x)(hx:Loc X.env.scope x)(r:ym v u)
  (h:∀s',Inv X pins (O.set i (some v)) H s'->(∃a,Heap.SameBut a s.heap s'.heap/\(a=X.env.locals\/X.env.cells.lookup x=some a))->Q () s') (hf:X.fn x=true\/X.env.scope.names.lookup x=some .local:=by first|exact .inl rfl|exact .inr rfl|assumption):wpAny M A (storeName X.env x u) Q E s:=by
 obtain⟨m,hn,hl⟩:=id I.loc;have hcls:(X.env.scope.kind==.class||(X.env.scope.kind==.module&&X.env.locals != X.env.globals))=false:=by rw[I.ok.kind];rfl
 have hiO:i<O.length:=by rw[I.len];exact(qG.mp hi).1
 have cne:=I.cne;have tracked:∀{a:Addr} {h':Heap},(∃o,s.heap.get? a=some o/\H a=none)->Heap.SameBut a s.heap h'->HOk X.prog X.w H h':=λ{a h'} ha hs b ob e=>by
  obtain⟨_,_,hfree⟩:=ha;refine(I.hok b ob e).stay (λc w' hc q=>(hs.2 c ?_).trans q) (λ_ q=>q) λ_ _ q=>q
  rintro rfl
  rcases hc with rfl|hc
  ·rw[hfree]at e;cases e
  ·rw[hfree]at hc;cases hc
 rcases hx with hk|hk
 ·refine wpAny_storeName_local hk hn (λh' hn' hs=>?_) hcls
  obtain⟨oL,_,_,hoL,_⟩:=id hn;refine h _ ⟨I.ok,I.os,I.bare,⟨λb o e n hb hx=>?_,λb o e n hb hx=>?_,I.base.free,λb o e hx=>?_,I.base.tups,I.base.frzs,I.base.tbls⟩,⟨_,hn',λj y v' e1 e2 e3=>?_⟩,λy c e=>?_,I.free,I.freeC,λp hp=>?_,tracked ⟨oL,hoL,I.free⟩ hs,by simpa using I.len⟩ ⟨_,hs,.inl rfl⟩
  ·exact(hs.2 b (ne_of_lt (lt_of_lt_of_le (lt_size e) I.ok.above))).trans (I.base.keep b o e n hb hx)
  ·obtain⟨sl,e1⟩:=I.base.slot b o e n hb hx
   exact⟨sl,(hs.2 b (ne_of_lt (lt_of_lt_of_le (lt_size e) I.ok.above))).trans e1⟩
  ·obtain⟨o',e1⟩:=I.base.there b o e hx
   exact⟨o',(hs.2 b (ne_of_lt (lt_of_lt_of_le (lt_size e) I.ok.above))).trans e1⟩
  ·by_cases hj:j=i
   ·subst hj
    rw[hi]at e1;cases e1;rw[getElem?_set_self hiO]at e2;cases e2;exact⟨u,r,.inl ⟨hk,by simp⟩⟩
   ·rw[getElem?_set_ne (Ne.symm hj)]at e2
    obtain⟨u',r',q⟩:=hl j y v' e1 e2 e3;refine⟨u',r',?_⟩;rcases q with⟨k,e⟩|⟨k,c,e,z⟩
    ·refine .inl ⟨k,?_⟩
     have:y≠x:=λe=>hj (zBc hN e1 (e▸hi))
     simp[this,e]
    ·exact .inr ⟨k,c,e,z.sameBut hs (cne y c e)⟩
  ·obtain⟨w',z⟩:=I.cell y c e
   exact⟨w',z.sameBut hs (cne y c e)⟩
  ·obtain⟨e,n,ne,nf,d⟩:=I.pin p hp
   exact⟨(hs.2 p.1 ne).trans e,n,ne,nf,d⟩
 ·have hfn:X.fn x=true:=by
   rcases hf with z|z
   ·exact z
   ·rw[z]at hk;cases hk
  obtain⟨c,hc⟩:=I.ok.has x (.inl hk);obtain⟨w',z⟩:=I.cell x c hc;refine wpAny_storeName_cell I.ok.kind hk hc z (λh' hc' hs=>?_);obtain⟨oc,hoc,hocd⟩:=id z;refine h {s with heap:=h'} ⟨I.ok,I.os,I.bare,⟨λb o e n hb hx=>?_,λb o e n hb hx=>?_,I.base.free,λb o e hx=>?_,I.base.tups,I.base.frzs,I.base.tbls⟩,⟨m,hn.sameBut hs (Ne.symm (cne x c hc)),λj y v' e1 e2 e3=>?_⟩,λy c' e=>?_,I.free,I.freeC,λp hp=>?_,tracked ⟨oc,hoc,I.freeC x c hc⟩ hs,by simpa using I.len⟩ ⟨c,hs,.inr hc⟩
  ·exact(hs.2 b (ne_of_lt (lt_of_lt_of_le (lt_size e) (I.ok.cab x c hfn hc)))).trans (I.base.keep b o e n hb hx)
  ·obtain⟨sl,e1⟩:=I.base.slot b o e n hb hx
   exact⟨sl,(hs.2 b (ne_of_lt (lt_of_lt_of_le (lt_size e) (I.ok.cab x c hfn hc)))).trans e1⟩
  ·obtain⟨o',e1⟩:=I.base.there b o e hx
   exact⟨o',(hs.2 b (ne_of_lt (lt_of_lt_of_le (lt_size e) (I.ok.cab x c hfn hc)))).trans e1⟩
  ·by_cases hj:j=i
   ·subst hj
    rw[hi]at e1;cases e1;rw[getElem?_set_self hiO]at e2;cases e2;exact⟨u,r,.inr ⟨.inl hk,c,hc,hc'⟩⟩
   ·rw[getElem?_set_ne (Ne.symm hj)]at e2
    obtain⟨u',r',q⟩:=hl j y v' e1 e2 e3;refine⟨u',r',?_⟩;rcases q with q|⟨k,c',e,z'⟩
    ·exact .inl q
    ·refine .inr ⟨k,c',e,z'.sameBut hs ?_⟩
     rintro rfl
     exact hj (zBc hN e1 (I.ok.inj _ _ _ e hc▸hi))
  ·by_cases hcc:c'=c
   ·subst hcc;exact⟨_,hc'⟩
   ·obtain⟨w2,z2⟩:=I.cell y c' e
    exact⟨w2,z2.sameBut hs hcc⟩
  ·obtain⟨e,n,ne,nf,d⟩:=I.pin p hp
   refine⟨(hs.2 p.1 ?_).trans e,n,ne,nf,d⟩;intro q;rw[q,hoc]at e;have q':oc=p.2:=qJ e;exact d w' (by rw[<- q'];exact hocd)
def Ym{M:Model}{A:Around}{E:Value->Shared->Prop}{i:Nat}{x:Str}{v:V}{u:Value}{Q:Unit->Shared->Prop}(I:Inv X pins O H s)(hN:X.N.Nodup)(hi:X.N[i]?=some x)(hx:Loc X.env.scope x)(r:ym v u)
  (h:∀s',Inv X pins (O.set i (some v)) H s'->Q () s') (hf:X.fn x=true\/X.env.scope.names.lookup x=some .local:=by first|exact .inl rfl|exact .inr rfl|assumption):wpAny M A (storeName X.env x u) Q E s :=
 Yl I hN hi hx r (λs' I' _=>h s' I') hf
def Inv.call'{s':Shared}{ch:List Addr}(I:Inv X pins O H s)(ho:s'.os=s.os)(u:Un (frs X.stack) ch H H' s.heap s'.heap)(hok:HOk X.prog X.w H' s'.heap)(hg:AllBare s'.gens)
  (hch:∀b∈ch,(b∈X.ex\/X.s₀.heap.objs.size<=b)/\b≠X.env.locals/\(∀x c,X.env.cells.lookup x=some c->c≠b)/\∀p∈X.pn++pins,p.1≠b):Inv X pins O H' s':=by
 obtain⟨h',g',d',t',o'⟩:=s';have e:o'=s.os:=ho;subst e;exact I.call (g':=g') (t':=t') (d':=d') u hok hg hch
end
abbrev XK:=Value->Option Addr->Hp->Prop
abbrev St:=List (Option V)
abbrev VK:=V->Hp->Prop
abbrev TE:=St->Hp->VK->Prop
abbrev TT:=St->Hp->(Bool->Hp->Prop)->Prop
abbrev TA:=St->Hp->(List V->Hp->Prop)->Prop
structure Ends where
 nx:St->Hp->Prop
 rt:VK
 bk:St->Hp->Prop:=λ_ _=>False
 ct:St->Hp->Prop:=λ_ _=>False
abbrev TS:=Ends->St->Hp->Prop
def EP(X:Cx)(pins:List (Addr×Obj))(O:St)(Q:VK)(u:Value)(s':Shared):Prop:=∃v H',Inv X pins O H' s'/\ym v u/\Q v H'
def TP(X:Cx)(pins:List (Addr×Obj))(O:St)(Q:Bool->Hp->Prop)(b:Bool)(s':Shared):Prop:=∃H',Inv X pins O H' s'/\Q b H'
def AP(X:Cx)(pins:List (Addr×Obj))(O:St)(Q:List V->Hp->Prop)(us:List Value)(s':Shared):Prop:=∃vs H',Inv X pins O H' s'/\yj vs us/\Q vs H'
def SP(X:Cx)(pins:List (Addr×Obj))(D:Ends)(f:Flow)(s':Shared):Prop :=
 match f with
 | .next=>∃O' H',Inv X pins O' H' s'/\D.nx O' H'| .brk=>∃O' H',Inv X pins O' H' s'/\D.bk O' H'| .cont=>∃O' H',Inv X pins O' H' s'/\D.ct O' H'| .ret u=>∃v O' H',Inv X pins O' H' s'/\ym v u/\D.rt v H'
def PE(X:Cx)(e:Expr)(t:TE):Prop :=
 ∀(pins:List (Addr×Obj)) (s:Shared) (O:St) (H:Hp) (Q:VK),Inv X pins O H s->t O H Q->wpAny (model X.prog X.w) X.A (eval e X.env) (EP X pins O Q) X.xe s
def PT(X:Cx)(e:Expr)(t:TT):Prop :=
 ∀(pins:List (Addr×Obj)) (s:Shared) (O:St) (H:Hp) (Q:Bool->Hp->Prop),Inv X pins O H s->t O H Q->wpAny (model X.prog X.w) X.A (isTrue e X.env (eval e X.env)) (TP X pins O Q) X.xe s
def PW(X:Cx)(e:Expr)(t:TT):Prop :=
 ∀(whole:Sem Value) (pins:List (Addr×Obj)) (s:Shared) (O:St) (H:Hp) (Q:Bool->Hp->Prop),Inv X pins O H s->t O H Q->wpAny (model X.prog X.w) X.A (isTrue e X.env whole) (TP X pins O Q) X.xe s
def PW.pt{X:Cx}{e:Expr}{t:TT}(h:PW X e t):PT X e t:=h _
def PA(X:Cx)(es:List Expr)(t:TA):Prop :=
 ∀(pos:Pos) (pins:List (Addr×Obj)) (s:Shared) (O:St) (H:Hp) (Q:List V->Hp->Prop),Inv X pins O H s->t O H Q->wpAny (model X.prog X.w) X.A (spliced (backTo pos (starEach es X.env))) (AP X pins O Q) X.xe s
def PS(X:Cx)(st:Stmt)(t:TS):Prop :=
 ∀(pins:List (Addr×Obj)) (s:Shared) (O:St) (H:Hp) (D:Ends),Inv X pins O H s->t D O H->wpAny (model X.prog X.w) X.A (exec st X.env) (SP X pins D) X.xe s
def PSs(X:Cx)(st:List Stmt)(t:TS):Prop :=
 ∀(pins:List (Addr×Obj)) (s:Shared) (O:St) (H:Hp) (D:Ends),Inv X pins O H s->t D O H->wpAny (model X.prog X.w) X.A (execs st X.env) (SP X pins D) X.xe s
def thn{α:Type}{t:Sem α}{Q Q':α->Shared->Prop}{M:Model}{A:Around}{E:Value->Shared->Prop}{s:Shared}(h:wpAny M A t Q E s)(hQ:∀a s,Q a s->Q' a s):wpAny M A t Q' E s:=wpAny_mono h hQ λ_ _ x=>x
section
variable{X:Cx}
def bin{a b:Expr}{ta tb:TE}(ha:PE X a ta)(hb:PE X b tb){pins:List (Addr×Obj)}{s:Shared}{O:St}{H:Hp}{R:V->V->Hp->Prop}(I:Inv X pins O H s)(h:ta O H λx H1=>tb O H1 λy H2=>R x y H2)
  {α:Type} {Q:α->Shared->Prop} {f:Value->Value->Sem α}
  (hf:∀v u s2 x y H2,Inv X pins O H2 s2->ym x v->ym y u->R x y H2->wpAny (model X.prog X.w) X.A (f v u) Q X.xe s2) :
  wpAny (model X.prog X.w) X.A (eval a X.env) (λv s₁=>wpAny (model X.prog X.w) X.A (eval b X.env) (λu s₂=>wpAny (model X.prog X.w) X.A (f v u) Q X.xe s₂) X.xe s₁) X.xe s:=by
 refine thn (ha pins s O H _ I h) λv s1 ⟨x,H1,I1,r1,q1⟩=>?_
 refine thn (hb pins s1 O H1 _ I1 q1) λu s2 ⟨y,H2,I2,r2,q2⟩=>?_
 exact hf v u s2 x y H2 I2 r1 r2 q2
def Wv(i:Nat):TE:=λO H Q=>∃v,O[i]?=some (some v)/\Q v H
def tC(v:V):TE:=λ_ H Q=>Q v H
def pe_var{i:Nat}{x:Str}{pos:Pos}(hN:X.N[i]?=some x)(hv:Vis X.env.scope x)(hd:(x==("__debug__":Str))=false:=by decide)(hcd:(x==("__classdict__":Str))=false:=by decide):PE X (.Name x pos) (Wv i):=by
 intro pins s O H Q I h;obtain⟨v,e,h⟩:=h;obtain⟨m,hn,hl⟩:=I.loc;obtain⟨u,r,l⟩:=hl i x v hN e hv;have fin:EP X pins O Q u s:=⟨v,H,I,r,h⟩;rcases l with⟨hk,hm⟩|⟨hk,c,hc,hcell⟩
 ·exact wpAny_Name (wpAny_loadName_local I.ok.kind hk hn hm fin) hd
 ·rcases hk with hk|hk
  ·exact wpAny_Name (wpAny_loadName_cell I.ok.kind hk hc hcell fin) hd
  ·exact wpAny_Name (wpAny_loadName_free I.ok.kind hk hc hcell fin hcd) hd
def pe_int{i j pos}:PE X (.Constant (.int i) j pos) (tC (.int i)):=λ_ _ _ H _ I h=>wpAny_Constant_int ⟨.int i,H,I.tok _,⟨_,rfl⟩,h⟩
def pe_bl{b j pos}:PE X (.Constant (.bool b) j pos) (tC (.bl b)):=λ_ _ _ H _ I h=>Constant_bool ⟨.bl b,H,I,rfl,h⟩
def pe_non{j pos}:PE X (.Constant .none j pos) (tC .non):=λ_ _ _ H _ I h=>Constant_none ⟨.non,H,I,rfl,h⟩
def pe_str{x j pos}:PE X (.Constant (.str x) j pos) (tC (.str x)):=λ_ _ _ H _ I h=>Calls.Constant_str ⟨.str x,H,I.tok _,⟨_,rfl⟩,h⟩
def Gl(X:Cx)(x:Str):Prop:=X.env.kindOf x=some .globalImplicit
def zC6{E:Value->Shared->Prop}{pins:List (Addr×Obj)}{s:Shared}{O:St}{H:Hp}{x:Str}{u:Value}{pos:Pos}{Q:Value->Shared->Prop}(I:Inv X pins O H s)(hg:Gl X x)(hm:X.mg x=some u)(h:Q u s)
  (hd:(x==("__debug__":Str))=false:=by decide):wpAny (model X.prog X.w) X.A (eval (.Name x pos) X.env) Q E s :=
 Calls.Name_function_global I.ok.kind hg (Calls.loadGlobal_global (by rw[I.ok.glob];exact I.mod.glob.keeps I.bk) hm h) hd
def J6{E:Value->Shared->Prop}{pins:List (Addr×Obj)}{s:Shared}{O:St}{H:Hp}{x:Str}{u:Value}{pos:Pos}{Q:Value->Shared->Prop}(I:Inv X pins O H s)(hg:Gl X x)(hm:X.mg x=none)(hv:bootBuiltins x=some u)(h:Q u s)
  (hn:x≠"__name__":=by decide) (hd:(x==("__debug__":Str))=false:=by decide):wpAny (model X.prog X.w) X.A (eval (.Name x pos) X.env) Q E s:=by
 obtain⟨mb,h1,h2⟩:=I.mod.blt;exact Calls.Name_function_global I.ok.kind hg (Calls.loadGlobal_builtin (by rw[I.ok.glob];exact I.mod.glob.keeps I.bk) hm (by rw[I.ok.blt];exact h1.keeps I.bk) ((h2 x hn).trans hv) h) hd
def pe_glob{x:Str}{v:V}{u:Value}{pos:Pos}(hg:Gl X x)(hm:X.mg x=some u)(r:ym v u)(hd:(x==("__debug__":Str))=false:=by decide):PE X (.Name x pos) (tC v) :=
 λ_ _ _ H _ I h=>zC6 I hg hm ⟨v,H,I,r,h⟩ hd
def pe_bltn{x:Str}{v:V}{u:Value}{pos:Pos}(hg:Gl X x)(hm:X.mg x=none)(hv:bootBuiltins x=some u)(r:ym v u)(hn:x≠"__name__":=by decide)(hd:(x==("__debug__":Str))=false:=by decide):PE X (.Name x pos) (tC v) :=
 λ_ _ _ H _ I h=>J6 I hg hm hv ⟨v,H,I,r,h⟩ hn hd
variable{a b:Expr}{ta tb:TE}{pos:Pos}
def tB(t:TE):TT:=λO H Q=>t O H λx H1=>∃c,x=.bl c/\Q c H1
def pt_val{e:Expr}{t:TE}(h:PE X e t)(he:∀whole,isTrue e X.env whole=(do let v <- whole;standAt e.pos;holding [v] (truthy v)):=by intro _;rfl):PT X e (tB t):=by
 intro pins s O H Q I hw;refine isTrue_plain (thn (h pins s O H _ I hw) λv s1 ⟨x,H1,I1,r1,q1⟩=>?_) (he _);obtain⟨d,rfl,q⟩:=q1;cases r1;exact wpAny_truthy_bool ⟨H1,I1,q⟩
variable{tA tB':TT}{Zq:List Expr}
def tAnd(t u:TT):TT:=λO H Q=>t O H λc H1=>if c=true then u O H1 Q else Q false H1
def tOr(t u:TT):TT:=λO H Q=>t O H λc H1=>if c=true then Q true H1 else u O H1 Q
def tNot(t:TT):TT:=λO H Q=>t O H λc H1=>Q (!c) H1
def pw_and1(ha:PT X a tA):PW X (.BoolOp .And [a] pos) tA:=by
 intro wh pins s O H Q I h;refine isTrue_and (thn (ha pins s O H Q I h) λc s1 e=>?_);cases c with
 |true=>exact isTrue_and_nil e|false=>exact e
def pw_or1(ha:PT X a tA):PW X (.BoolOp .Or [a] pos) tA:=by
 intro wh pins s O H Q I h;refine isTrue_or (thn (ha pins s O H Q I h) λc s1 e=>?_);cases c with
 |false=>exact isTrue_or_nil e|true=>exact e
def pw_and(ha:PT X a tA)(hb:PW X (.BoolOp .And (b::Zq) pos) tB'):PW X (.BoolOp .And (a::b::Zq) pos) (tAnd tA tB'):=by
 intro wh pins s O H Q I h;refine isTrue_and (thn (ha pins s O H _ I h) λc s1 ⟨H1,I1,q1⟩=>?_);cases c with
 |true=>exact hb wh pins s1 O H1 Q I1 q1|false=>exact⟨H1,I1,q1⟩
def pw_or(ha:PT X a tA)(hb:PW X (.BoolOp .Or (b::Zq) pos) tB'):PW X (.BoolOp .Or (a::b::Zq) pos) (tOr tA tB'):=by
 intro wh pins s O H Q I h;refine isTrue_or (thn (ha pins s O H _ I h) λc s1 ⟨H1,I1,q1⟩=>?_);cases c with
 |true=>exact⟨H1,I1,q1⟩|false=>exact hb wh pins s1 O H1 Q I1 q1
def pt_not(ha:PT X a tA):PT X (.UnaryOp .Not a pos) (tNot tA):=by
 intro pins s O H Q I h;exact isTrue_not (ha pins s O H (λc H1=>Q (!c) H1) I h)
def tAndV(ta tb:TE):TE:=λO H Q=>ta O H λx H1=>∃c,x=.bl c/\if c=true then tb O H1 Q else Q (.bl false) H1
def tNotV(ta:TE):TE:=λO H Q=>ta O H λx H1=>∃c,x=.bl c/\Q (.bl (!c)) H1
def pe_one{op}{t:TE}(h:PE X a t):PE X (.BoolOp op [a] pos) t:=λpins s O H Q I hw=>BoolOp_one (h pins s O H Q I hw)
def pe_and(ha:PE X a ta)(hb:PE X (.BoolOp .And (b::Zq) pos) tb):PE X (.BoolOp .And (a::b::Zq) pos) (tAndV ta tb):=by
 intro pins s O H Q I h;refine BoolOp_and (thn (ha pins s O H _ I h) λv s1 ⟨x,H1,I1,r1,q1⟩=>?_);obtain⟨c,rfl,q1⟩:=q1;cases r1;refine wpAny_truthy_bool ?_;cases c with
 |true=>exact hb pins s1 O H1 Q I1 q1|false=>exact⟨.bl false,H1,I1,rfl,q1⟩
def pe_not(ha:PE X a ta):PE X (.UnaryOp .Not a pos) (tNotV ta):=by
 intro pins s O H Q I h;refine UnaryOp_ (thn (ha pins s O H _ I h) λv s1 ⟨x,H1,I1,r1,q1⟩=>?_);obtain⟨c,rfl,q1⟩:=q1;cases r1;exact not_of (wpAny_truthy_bool ⟨.bl (!c),H1,I1,rfl,q1⟩)
def tIf(t:TT)(ta tb:TE):TE:=λO H Q=>t O H λc H1=>if c=true then ta O H1 Q else tb O H1 Q
def zFE{c:Expr}(hc:PT X c tA)(ha:PE X a ta)(hb:PE X b tb):PE X (.IfExp c a b pos) (tIf tA ta tb):=by
 intro pins s O H Q I h;refine wpAny_IfExp (thn (hc pins s O H _ I h) λd s1 ⟨H1,I1,q1⟩=>?_);cases d with
 |true=>exact ha pins s1 O H1 Q I1 q1|false=>exact hb pins s1 O H1 Q I1 q1
end
def SqL(K:qH)(H:Hp)(a:Addr)(xs:List V):Prop :=
 Rd H a (.l xs) \/
  ∃(o:Obj) (its:Array Value) (n:Nat),K.lookup a=some o/\o.cls=.type "list"/\o.dict=none/\o.data=.seq its n/\its.size<=sizeLine/\yj xs its.toList
def SqT(K:qH)(H:Hp)(a:Addr)(xs:List V):Prop :=
 Rd H a (.t xs) \/
  ∃(o:Obj) (its:Array Value) (n:Nat),K.lookup a=some o/\o.cls=.type "tuple"/\o.data=.seq its n/\its.size<=sizeLine/\yj xs its.toList
def absV:Value->Option V
 | .none=>some .non| .bool b=>some (.bl b)| .int i _=>some (.int i)| .str x _=>some (.str x)| .bytes b _=>some (.byt b)| .float b _=>some (.flt b)| .ref a=>some (.ref a)| .type n=>some (.ty n)|_=>none
def ym.abs{x:V}{u:Value}(r:ym x u):absV u=some x:=by
 cases x with
 |non=>cases r;rfl|bl _=>cases r;rfl|int _=>obtain⟨t,rfl⟩:=r;rfl|str _=>obtain⟨t,rfl⟩:=r;rfl|byt _=>obtain⟨t,rfl⟩:=r;rfl|flt _=>obtain⟨t,rfl⟩:=r;rfl|ref _=>cases r;rfl|ty _=>cases r;rfl
theorem ym.inj{x y:V}{u:Value}(r:ym x u)(q:ym y u):x=y:=qJ (r.abs.symm.trans q.abs)
theorem yj.inj:∀{xs ys:List V} {us:List Value},yj xs us->yj ys us->xs=ys
 |_,_,_,.nil,.nil=>rfl|_,_,_,.cons r t,.cons r' t'=>by rw[r.inj r',yj.inj t t']
section
variable{X:Cx}{pins:List (Addr×Obj)}{O:St}{H:Hp}{s:Shared}{a:Addr}{xs ys:List V}
def SqL.of{K:qH}(h:H a=some (.l xs)):SqL K H a xs:=.inl (.inl h)
def SqT.of{K:qH}(h:H a=some (.t xs)):SqT K H a xs:=.inl (.inl h)
def Inv.list(I:Inv X pins O H s)(h:SqL X.K H a xs):∃its:List Value,yj xs its/\PlainL s.heap a its.toArray/\xs.length<=sizeLine:=by
 rcases h with h|⟨o,its,n,hk,hc,hd,hs,hz,r⟩
 ·obtain⟨z,its,n,r,e⟩:=h.ok I.hok
  exact⟨its,r,⟨_,n,e,rfl,rfl,rfl⟩,z⟩
 ·refine⟨its.toList,r,⟨o,n,I.kIn a o hk,hc,hd,by simpa using hs⟩,?_⟩
  have e:=r.length;simp only[Array.length_toList]at e;omega
def Inv.tuple(I:Inv X pins O H s)(h:SqT X.K H a xs):∃its:List Value,yj xs its/\IsTup s.heap a its.toArray/\xs.length<=sizeLine:=by
 rcases h with h|⟨o,its,n,hk,hc,hs,hz,r⟩
 ·obtain⟨z,its,r,p⟩:=h.ok I.hok
  exact⟨its,r,p,z⟩
 ·refine⟨its.toList,r,⟨o,I.kIn a o hk,hc,n,by simpa using hs⟩,?_⟩
  have e:=r.length;simp only[Array.length_toList]at e;omega
def Inv.list_inj(I:Inv X pins O H s)(h:SqL X.K H a xs)(h':SqL X.K H a ys):xs=ys:=by
 obtain⟨its,r,⟨o,n,e,_,_,d⟩,_⟩:=I.list h;obtain⟨its',r',⟨o',n',e',_,_,d'⟩,_⟩:=I.list h';rw[e]at e';cases e';rw[d]at d';injection d' with d1 _
 have:its=its':=by simpa using congrArg Array.toList d1
 subst this;exact r.inj r'
def Inv.tuple_inj(I:Inv X pins O H s)(h:SqT X.K H a xs)(h':SqT X.K H a ys):xs=ys:=by
 obtain⟨its,r,⟨o,e,_,n,d⟩,_⟩:=I.tuple h;obtain⟨its',r',⟨o',e',_,n',d'⟩,_⟩:=I.tuple h';rw[e]at e';cases e';rw[d]at d';injection d' with d1 _
 have:its=its':=by simpa using congrArg Array.toList d1
 subst this;exact r.inj r'
end
abbrev Cx.wish(X:Cx)(E:Value->Shared->Prop):Cx:={X with xe:=E}
abbrev Cx.nox(X:Cx):Cx:=X.wish λ_ _=>False
theorem Cx.Ok.wish{X:Cx}(ok:X.Ok)(E:Value->Shared->Prop):(X.wish E).Ok :=
 ⟨ok.mod,ok.kind,ok.glob,ok.blt,ok.above,ok.inj,ok.has,ok.cab,ok.hd,ok.frames,ok.stk,ok.exf,ok.bs,ok.bsz,ok.noex,ok.exfs,ok.funs,ok.frf⟩
def Cx.Ok.unwish{X:Cx}{E:Value->Shared->Prop}(ok:(X.wish E).Ok):X.Ok :=
 ⟨ok.mod,ok.kind,ok.glob,ok.blt,ok.above,ok.inj,ok.has,ok.cab,ok.hd,ok.frames,ok.stk,ok.exf,ok.bs,ok.bsz,ok.noex,ok.exfs,ok.funs,ok.frf⟩
section
variable{X:Cx}{pins:List (Addr×Obj)}{O:St}{H:Hp}{s:Shared}{E:Value->Shared->Prop}
theorem Inv.wish(I:Inv X pins O H s)(E:Value->Shared->Prop):Inv (X.wish E) pins O H s:=⟨I.ok.wish E,I.os,I.bare,I.base,I.loc,I.cell,I.free,I.freeC,I.pin,I.hok,I.len⟩
theorem Inv.unwish(I:Inv (X.wish E) pins O H s):Inv X pins O H s:=⟨I.ok.unwish,I.os,I.bare,I.base,I.loc,I.cell,I.free,I.freeC,I.pin,I.hok,I.len⟩
theorem SP.unwish{D:Ends}{f:Flow}{s':Shared}(h:SP (X.wish E) pins D f s'):SP X pins D f s':=by
 cases f with
 |next=>obtain⟨O',H',I,q⟩:=h;exact⟨O',H',I.unwish,q⟩|brk=>obtain⟨O',H',I,q⟩:=h;exact⟨O',H',I.unwish,q⟩|cont=>obtain⟨O',H',I,q⟩:=h;exact⟨O',H',I.unwish,q⟩|ret u=>obtain⟨v,O',H',I,r,q⟩:=h;exact⟨v,O',H',I.unwish,r,q⟩
theorem PE.nox{e:Expr}{t:TE}(h:PE X.nox e t):PE X e t:=λpins s O H Q I hw =>
 wpAny_mono (h pins s O H Q (I.wish _) hw) (λ_ _ ⟨v,H',I',r,q⟩=>⟨v,H',I'.unwish,r,q⟩) λ_ _ z=>False.elim z
end
section
variable{X:Cx}{st:Stmt}{Zq:List Stmt}{t u:TS}{e:Expr}{te:TE}{pos:Pos}
def tNext:TS:=λD O H=>D.nx O H
def tSeq(t u:TS):TS:=λD O H=>t {D with nx:=u D} O H
def pss_nil:PSs X [] tNext:=λ_ _ O H _ I h=>wpAny_execs_nil ⟨O,H,I,h⟩
def zFF(h1:PS X st t)(h2:PSs X Zq u):PSs X (st::Zq) (tSeq t u):=by
 intro pins s O H D I h;refine wpAny_execs_cons (thn (h1 pins s O H {D with nx:=u D} I h) λf s1 q=>?_)
 cases f with
 |next =>
  obtain⟨O',H',I',q⟩:=q;exact h2 pins s1 O' H' D I' q
 |ret v=>exact q|brk=>exact q|cont=>exact q
def pss_one(h1:PS X st t):PSs X [st] t:=by
 intro pins s O H D I h;refine wpAny_execs_cons (thn (h1 pins s O H D I h) λf s1 q=>?_);cases f with
 |next=>exact wpAny_execs_nil q|ret v=>exact q|brk=>exact q|cont=>exact q
def Inv.quiet{pins:List (Addr×Obj)}{O:St}{H:Hp}{s:Shared}(I:Inv X pins O H s):interactive X.env=false:=by simp[interactive,I.ok.kind]
def tDrop(te:TE):TS:=λD O H=>te O H λ_ H1=>D.nx O H1
def zC7(he:PE X e te)(hs:swapsWith e none pos.line X.env=pure false:=by rfl):PS X (.Expr e pos) (tDrop te):=by
 intro pins s O H D I h;exact wpAny_Expr_any (thn (he pins s O H _ I h) λv s1 ⟨x,H1,I1,r1,q1⟩=>⟨O,H1,I1,q1⟩) I.quiet hs
def tRet(te:TE):TS:=λD O H=>te O H D.rt
def ps_ret(he:PE X e te):PS X (.Return (some e) pos) (tRet te):=by
 intro pins s O H D I h;exact wpAny_Return_some (thn (he pins s O H _ I h) λv s1 ⟨x,H1,I1,r1,q1⟩=>⟨x,O,H1,I1,r1,q1⟩)
def tIfS(c:TT)(t u:TS):TS:=λD O H=>c O H λb H1=>if b=true then t D O H1 else u D O H1
def ps_if{c:Expr}{a b:List Stmt}{tc:TT}(hc:PT X c tc)(ha:PSs X a t)(hb:PSs X b u):PS X (.If c a b pos) (tIfS tc t u):=by
 intro pins s O H D I h;refine wpAny_If (thn (hc pins s O H _ I h) λd s1 ⟨H1,I1,q1⟩=>?_);cases d with
 |true=>exact ha pins s1 O H1 D I1 q1|false=>exact hb pins s1 O H1 D I1 q1
def tNever:TS:=λ_ _ _=>False
def zFG:PS X st tNever:=λ_ _ _ _ _ _ h=>h.elim
end
abbrev TG:=V->St->Hp->(St->Hp->Prop)->Prop
abbrev TGs:=List V->St->Hp->(St->Hp->Prop)->Prop
def PG(X:Cx)(target:Expr)(t:TG):Prop :=
 ∀(pins:List (Addr×Obj)) (s:Shared) (O:St) (H:Hp) (v:V) (u:Value) (Q:St->Hp->Prop),Inv X pins O H s->ym v u->t v O H Q ->
  wpAny (model X.prog X.w) X.A (assign target X.env u) (λ_ s'=>∃O' H',Inv X pins O' H' s'/\Q O' H') X.xe s
def PGs(X:Cx)(ts:List Expr)(t:TGs):Prop :=
 ∀(pins:List (Addr×Obj)) (s:Shared) (O:St) (H:Hp) (vs:List V) (us:List Value) (Q:St->Hp->Prop),Inv X pins O H s->yj vs us->t vs O H Q ->
  wpAny (model X.prog X.w) X.A (assignInOrder ((assignEach ts X.env).map (·.2)) us) (λ_ s'=>∃O' H',Inv X pins O' H' s'/\Q O' H') X.xe s
abbrev TSet:=V->V->V->Hp->(Hp->Prop)->Prop
def PSet(X:Cx)(t:TSet):Prop :=
 ∀(pins:List (Addr×Obj)) (s:Shared) (O:St) (H:Hp) (o i v:V) (ov iv u:Value) (Q:Hp->Prop),Inv X pins O H s->ym o ov->ym i iv->ym v u->t o i v H Q ->
  wpAny (model X.prog X.w) X.A (setItem ov iv u) (λ_ s'=>∃H',Inv X pins O H' s'/\Q H') X.xe s
abbrev TIp:=V->V->Hp->VK->Prop
def PIp(X:Cx)(op:Operator)(t:TIp):Prop :=
 ∀(pins:List (Addr×Obj)) (s:Shared) (O:St) (H:Hp) (x y:V) (v u:Value) (Q:VK),Inv X pins O H s->ym x v->ym y u->t x y H Q ->
  wpAny (model X.prog X.w) X.A (inplaceOp op v u) (EP X pins O Q) X.xe s
section
variable{X:Cx}{pos:Pos}
def GR(i:Nat):TG:=λv O H Q=>Q (O.set i (some v)) H
def zC8{i:Nat}{x:Str}(hN:X.N.Nodup)(hi:X.N[i]?=some x)(hx:Loc X.env.scope x)(hf:X.fn x=true\/X.env.scope.names.lookup x=some .local:=by first|exact .inl rfl|exact .inr rfl|assumption):PG X (.Name x pos) (GR i):=by
 intro pins s O H v u Q I r h;exact wpAny_assign_Name (Ym I hN hi hx r (λs' I'=>⟨_,H,I',h⟩) hf)
def gNil:TGs:=λvs O H Q=>vs=[]/\Q O H
def gCons(t:TG)(u:TGs):TGs:=λvs O H Q=>∃v r,vs=v::r/\t v O H λO' H'=>u r O' H' Q
def pgs_nil:PGs X [] gNil:=by
 intro pins s O H vs us Q I r h;obtain⟨e,h⟩:=h;subst e;cases r;exact assignInOrder_nil ⟨O,H,I,h⟩
def zFH{e:Expr}{es:List Expr}{t:TG}{u:TGs}(h1:PG X e t)(h2:PGs X es u)
  (hs:(assignEach (e::es) X.env).map (·.2)=assign e X.env::(assignEach es X.env).map (·.2):=by rfl):PGs X (e::es) (gCons t u):=by
 intro pins s O H vs us Q I r h;obtain⟨v,vr,e1,h⟩:=h;subst e1;cases r with
 |cons r rr =>
  rw[hs];refine assignInOrder_cons (thn (h1 pins s O H _ _ _ I r h) λ_ s1 ⟨O1,H1,I1,q1⟩=>?_);exact h2 pins s1 O1 H1 _ _ Q I1 rr q1
def gTup(K:qH)(n:Nat)(t:TGs):TG:=λv O H Q=>∃a xs,v=.ref a/\SqT K H a xs/\xs.length=n/\t xs O H Q
def zGp{es:List Expr}{k:Nat}{t:TGs}{n:Nat}(hc:X.calm=true)(h:PGs X es t)
  (hn:(assignEach es X.env).length=n:=by rfl) (hst:(assignEach es X.env).findIdx? (·.1)=none:=by rfl):PG X (.Tuple es k pos) (gTup X.K n t):=by
 intro pins s O H v u Q I r hw;obtain⟨a,xs,e1,hq,hl,hw⟩:=hw;subst e1;cases r;obtain⟨its,rv,ht,hz⟩:=I.tuple hq;refine assign_Tuple_tuple (I.ok.hd hc) ht (by simp[hn,<- hl,rv.length]) hst λh' hx=>?_
 have I1:Inv X pins O H {s with heap:=h'}:=I.kept (t':=s.toks) λb o e=>hx b o (ne_of_lt (lt_size e)) e
 exact h pins _ O H xs _ Q I1 (by simpa using rv) hw
def gSub(to ti:TE)(t:TSet):TG:=λv O H Q=>to O H λo H1=>ti O H1 λi H2=>t o i v H2 λH3=>Q O H3
def zGq{o i:Expr}{to ti:TE}{t:TSet}(ho:PE X o to)(hi:PE X i ti)(hs:PSet X t)
  (ha:∀v,assign (.Subscript o i pos) X.env v=(do
   let ov <- holding [v] (eval o X.env)
   let iv <- holding [v,ov] (eval i X.env)
   standAt pos
   holding [v,ov,iv] (setItem ov iv v)
   release [v,ov,iv] []):=by intro _;rfl):PG X (.Subscript o i pos) (gSub to ti t):=by
 intro pins s O H v u Q I r h;rw[ha];refine qB (wpAny_holding (thn (ho pins s O H _ I h) λov s1 ⟨x,H1,I1,r1,q1⟩=>?_));refine qB (wpAny_holding (thn (hi pins s1 O H1 _ I1 q1) λiv s2 ⟨y,H2,I2,r2,q2⟩=>?_));refine qB (wpAny_standAt (qB (wpAny_holding (thn (hs pins s2 O H2 x y v ov iv u _ I2 r1 r2 r q2) λ_ s3 ⟨H3,I3,q3⟩=>?_))));exact wpAny_release ⟨O,H3,I3,q3⟩
def zFI(te:TE)(g:TG):TS:=λD O H=>te O H λx H1=>g x O H1 D.nx
def zC9{tg e:Expr}{te:TE}{g:TG}(he:PE X e te)(hg:PG X tg g)(hs:swapsWithSole [tg] e pos.line X.env=pure false:=by rfl)(hw:swappedStores [tg] e X.env=pure none:=by rfl)
  (h1:(assignEach [tg] X.env).map (·.2)=[assign tg X.env]:=by rfl):PS X (.Assign [tg] e pos) (zFI te g):=by
 intro pins s O H D I h;refine wpAny_Assign_stores (thn (he pins s O H _ I h) λv s1 ⟨x,H1,I1,r1,q1⟩=>?_) hs hw;rw[h1];exact thn (hg pins s1 O H1 x v _ I1 r1 q1) λ_ s2 q=>q
def ps_set{i:Nat}{x:Str}{e:Expr}{te:TE}{pos':Pos}(hN:X.N.Nodup)(hi:X.N[i]?=some x)(hx:Loc X.env.scope x)(he:PE X e te)(hs:swapsWith e (some (.Name x pos')) pos.line X.env=pure false:=by rfl)(hf:X.fn x=true\/X.env.scope.names.lookup x=some .local:=by first|exact .inl rfl|exact .inr rfl|assumption) :
  PS X (.Assign [.Name x pos'] e pos) (zFI te (GR i)):=by
 intro pins s O H D I h;refine wpAny_Assign_Name (thn (he pins s O H _ I h) λv s1 ⟨y,H1,I1,r1,q1⟩=>?_) hs;exact Ym I1 hN hi hx r1 (λs2 I2=>⟨_,H1,I2,q1⟩) hf
def tPar(i j:Nat)(ta:TA):TS:=λD O H=>ta O H λvs H1=>∃v w,vs=[v,w]/\D.nx ((O.set i (some v)).set j (some w)) H1
def ps_par{i j:Nat}{x y:Str}{a b:Expr}{ta:TA}{px py pt:Pos}{kt k2 pt2}(hc:X.calm=true)(hN:X.N.Nodup)(hi:X.N[i]?=some x)(hj:X.N[j]?=some y)(hij:i≠j)
  (hx:X.env.scope.names.lookup x=some .local) (hy:X.env.scope.names.lookup y=some .local) (ha:PA X [a,b] ta)
  (hw:swappedStores [.Tuple [.Name x px,.Name y py] kt pt] (.Tuple [a,b] k2 pt2) X.env=pure (some [x,y]))
  (hs:swapsWithSole [.Tuple [.Name x px,.Name y py] kt pt] (.Tuple [a,b] k2 pt2) pos.line X.env=pure false:=by rfl) :
  PS X (.Assign [.Tuple [.Name x px,.Name y py] kt pt] (.Tuple [a,b] k2 pt2) pos) (tPar i j ta):=by
 intro pins s O H D I h;rw[exec_Assign_arm];refine qB (wpAny_standAt ?_);rw[hs];refine qB (qC ?_);rw[if_neg (by decide)];refine qB (Tuple_ (thn (ha _ pins s O H _ I h) λus s1 ⟨vs,H1,I1,r1,q1⟩=>?_));obtain⟨v,w,e1,q1⟩:=q1;subst e1;obtain⟨u1,u2,rfl,rv,rw'⟩:∃u1 u2,us=[u1,u2]/\ym v u1/\ym w u2:=by
  cases r1 with
  |cons p q =>
   cases q with
   |cons p' q' =>
    cases q';exact⟨_,_,rfl,p,p'⟩
 refine wpAny_newObj_type ?_ (by show 2<=sizeLine;decide);have I2:Inv X pins O H1 {s1 with heap:=s1.heap.push {cls:=.type "tuple",data:=.seq [u1,u2].toArray}}:=I1.kept (t':=s1.toks) λb o e=>qA _ e
 rw[hw];refine qB (qC ?_);show wpAny (model X.prog X.w) X.A (do rule "assign.swapped-stores";let items <- unpackItems (.ref s1.heap.objs.size) 2 none;assignInOrder [λv=>bindName X.env y v,λv=>bindName X.env x v] items.reverse;pure Flow.next) _ _ _;refine qB (wpAny_rule (qB (unpackItems_tuple (items:=#[u1,u2]) (I.ok.hd hc) (IsTup.new s1.heap _) λh' hx'=>?_)));have I3:=I2.kept (h':=h') (t':=s1.toks) λb o e=>hx' b o (ne_of_lt (lt_size e)) e
 show wpAny _ _ (assignInOrder [λv=>bindName X.env y v,λv=>bindName X.env x v] [u2,u1] >>= λ_=>pure Flow.next) _ _ _
 refine qB (assignInOrder_cons (wpAny_bindName (Ym I3 hN hj (.inl hy) rw' (λs2 I4=>?_) (.inr hy))));refine assignInOrder_cons (wpAny_bindName (Ym I4 hN hi (.inl hx) rv (λs3 I5=>assignInOrder_nil (qC ?_)) (.inr hx)));rw[List.set_comm _ _ (Ne.symm hij)]at I5;exact⟨_,H1,I5,q1⟩
def tAug(i:Nat)(te:TE)(ti:TIp):TS:=λD O H=>∃x,O[i]?=some (some x)/\te O H λy H1=>ti x y H1 λz H2=>D.nx (O.set i (some z)) H2
def zDA{i:Nat}{x:Str}{e:Expr}{te:TE}{op:Operator}{ti:TIp}{pos':Pos}(hN:X.N.Nodup)(hi:X.N[i]?=some x)(hx:Loc X.env.scope x)(he:PE X e te)(ho:PIp X op ti)(hf:X.fn x=true\/X.env.scope.names.lookup x=some .local:=by first|exact .inl rfl|exact .inr rfl|assumption) :
  PS X (.AugAssign (.Name x pos') op e pos) (tAug i te ti):=by
 intro pins s O H D I h;obtain⟨v,e1,h⟩:=h;obtain⟨m,hn,hl⟩:=I.loc;have vis:Vis X.env.scope x:=by rcases hx with k|k;exact .inl k;exact .inr (.inl k)
 obtain⟨u,r,l⟩:=hl i x v hi e1 vis;refine wpAny_AugAssign_Name ?_;have go:wpAny (model X.prog X.w) X.A (eval e X.env) (λw s₂=>wpAny (model X.prog X.w) X.A (inplaceOp op u w) (λr s₃=>wpAny (model X.prog X.w) X.A (storeName X.env x r) (λ_=>SP X pins D .next) X.xe s₃) X.xe s₂) X.xe s:=by
  refine thn (he pins s O H _ I h) λw s1 ⟨y,H1,I1,r1,q1⟩=>?_
  refine thn (ho pins s1 O H1 v y u w _ I1 r r1 q1) λz s2 ⟨zv,H2,I2,r2,q2⟩=>?_
  exact Ym I2 hN hi hx r2 (λs3 I3=>⟨_,H2,I3,q2⟩) hf
 rcases l with⟨hk,hm⟩|⟨hk,c,hc,hcell⟩
 ·exact wpAny_loadName_local I.ok.kind hk hn hm go
 ·rcases hk with hk|hk
  ·exact wpAny_loadName_cell I.ok.kind hk hc hcell go
  ·rcases hx with k|k
   ·have:X.env.scope.names.lookup x=some .free:=hk
    rw[k]at this;cases this
   ·have:X.env.scope.names.lookup x=some .free:=hk
    rw[k]at this;cases this
def tAugS(to ti te:TE)(tget:V->V->Hp->VK->Prop)(tip:TIp)(tset:TSet):TS:=λD O H=>to O H λo H1=>ti O H1 λi H2=>tget o i H2 λx H3=>te O H3 λy H4=>tip x y H4 λz H5=>tset o i z H5 λH6=>D.nx O H6
def PGet(X:Cx)(t:V->V->Hp->VK->Prop):Prop :=
 ∀(pins:List (Addr×Obj)) (s:Shared) (O:St) (H:Hp) (o i:V) (ov iv:Value) (Q:VK),Inv X pins O H s->ym o ov->ym i iv->t o i H Q ->
  wpAny (model X.prog X.w) X.A (getItem ov iv) (EP X pins O Q) X.xe s
def ps_augS{o i e:Expr}{to ti te:TE}{tget:V->V->Hp->VK->Prop}{tip:TIp}{tset:TSet}{op:Operator}{tpos:Pos}(ho:PE X o to)(hi:PE X i ti)(hg:PGet X tget)(he:PE X e te)(hp:PIp X op tip)(hs:PSet X tset)
  (ha:∀ov iv new,augStore i ov iv new=(do holding [new,ov,iv] (setItem ov iv new);release [new,ov,iv] [];pure .next):=by intros;rfl):PS X (.AugAssign (.Subscript o i tpos) op e pos) (tAugS to ti te tget tip tset):=by
 intro pins s O H D I h;refine wpAny_AugAssign_SubscriptAny (thn (ho pins s O H _ I h) λov s1 ⟨x1,H1,I1,r1,q1⟩=>?_) ha;refine thn (hi pins s1 O H1 _ I1 q1) λiv s2 ⟨x2,H2,I2,r2,q2⟩=>?_
 refine thn (hg pins s2 O H2 x1 x2 ov iv _ I2 r1 r2 q2) λold s3 ⟨x3,H3,I3,r3,q3⟩=>?_
 refine thn (he pins s3 O H3 _ I3 q3) λv s4 ⟨x4,H4,I4,r4,q4⟩=>?_
 refine thn (hp pins s4 O H4 x3 x4 old v _ I4 r3 r4 q4) λnew s5 ⟨x5,H5,I5,r5,q5⟩=>?_
 exact thn (hs pins s5 O H5 x1 x2 x5 ov iv new _ I5 r1 r2 r5 q5) λ_ s6 ⟨H6,I6,q6⟩=>⟨O,H6,I6,q6⟩
def ipI(f:Int->Int->Int):TIp:=λx y H Q=>∃i j,x=.int i/\y=.int j/\Q (.int (f i j)) H
def zGr:PIp X .Add (ipI λi j=>i+j):=by
 intro pins s O H x y v u Q I r1 r2 h;obtain⟨i,j,e1,e2,q⟩:=h;subst e1;subst e2;obtain⟨t,rfl⟩:=r1;obtain⟨t',rfl⟩:=r2;exact iadd_int ⟨.int _,H,I.tok _,⟨_,rfl⟩,q⟩
def ip_sub:PIp X .Sub (ipI λi j=>i-j):=by
 intro pins s O H x y v u Q I r1 r2 h;obtain⟨i,j,e1,e2,q⟩:=h;subst e1;subst e2;obtain⟨t,rfl⟩:=r1;obtain⟨t',rfl⟩:=r2;exact isub_int ⟨.int _,H,I.tok _,⟨_,rfl⟩,q⟩
end
section
variable{X:Cx}{pos:Pos}
def zGs(c:TT)(tb:TS):TS:=λD O H=>∃W:Nat->St->Hp->Prop,(∃m,W m O H)/\∀m O H,W m O H ->
 c O H λb H1=>if b=true then ∃N:St->Hp->Prop,(∀O' H',N O' H'->∃m',m'<m/\W m' O' H')/\tb {D with nx:=N,ct:=N,bk:=D.nx} O H1 else D.nx O H1
def zFJ{c:Expr}{body:List Stmt}{tc:TT}{tb:TS}(hp:PassesOwn (model X.prog X.w) X.A X.env X.xe)(hc:PT X c tc)(hb:PSs X body tb):PS X (.While c body [] pos) (zGs tc tb):=by
 intro pins s O H D I h;obtain⟨W,⟨m0,w0⟩,turn⟩:=h;refine wpAny_While (codeAny_whileLoop (λn s'=>∃O' H',Inv X pins O' H' s'/\W n O' H') ?_ m0 ⟨O,H,I,w0⟩)
 rintro n s1 ⟨O1,H1,I1,w1⟩
 refine wpAny_passesOwn hp (thn (hc pins s1 O1 H1 _ I1 (turn n O1 H1 w1)) λb s2 ⟨H2,I2,q2⟩=>?_);cases b with
 |true =>
  obtain⟨N,hN,q2⟩:=q2;rw[if_pos rfl];refine wpAny_passesOwn hp (thn (hb pins s2 O1 H2 _ I2 q2) λf s3 q3=>?_);cases f with
  |next =>
   obtain⟨O3,H3,I3,n3⟩:=q3;obtain⟨m',hm,w3⟩:=hN O3 H3 n3;exact⟨m',hm,O3,H3,I3,w3⟩
  |cont =>
   obtain⟨O3,H3,I3,n3⟩:=q3;obtain⟨m',hm,w3⟩:=hN O3 H3 n3;exact⟨m',hm,O3,H3,I3,w3⟩
  |brk=>exact q3|ret v=>exact q3
 |false =>
  rw[if_neg qF];exact wpAny_execs_nil ⟨O1,H2,I2,q2⟩
end
structure It where
 go:Nat->Hp->Prop
 yld:Nat->Hp->V->Hp->Prop
 stop:Nat->Hp->Prop
def QK(X:Cx)(pins:List (Addr×Obj))(H:Hp)(b:Addr):Prop :=
 H b=none/\b≠X.env.locals/\b∉X.fs/\(b∈X.ex\/X.s₀.heap.objs.size<=b)/\(∀x c,X.env.cells.lookup x=some c->c≠b)/\∀p∈X.pn++pins,p.1≠b
def Inv.fpOk{X:Cx}{pins:List (Addr×Obj)}{O:St}{H H':Hp}{s:Shared}{b:Addr}(I:Inv X pins O H s)(hb:s.heap.objs.size<=b)(hn:H' b=none):QK X pins H' b:=by
 refine⟨hn,ne_of_gt (lt_of_lt_of_le I.lt hb),I.nofs hb,.inr (le_trans I.sz hb),λx c e z=>?_,λp hp z=>?_⟩
 ·obtain⟨v,q⟩:=I.cell x c e
  exact absurd (lt_of_lt_of_le q.lt (by rw[z];exact hb)) (lt_irrefl _)
 ·exact absurd (lt_of_lt_of_le (lt_size (I.pin p hp).1) (by rw[z];exact hb)) (lt_irrefl _)
structure Turn(P:Program)(w:World)(K:qH)(tg:Expr)(J:It)(fp:List Addr)(it:Addr)(tn:Nat->Heap->Prop):Prop where
 mem:it∈fp
 obj:∀i h,tn i h->∀b∈fp,∃o,h.get? b=some o/\∀v,o.data≠.cell v
 keep:∀i h h',tn i h->(∀b∈fp,∀o,h.get? b=some o->h'.get? b=some o)->tn i h'
 item:∀(X:Cx),X.prog=P->X.w=w->X.K=K->X.calm=true->∀(i:Nat) (pins:List (Addr×Obj)) (s:Shared) (O:St) (H:Hp) (E:Value->Shared->Prop),Inv X pins O H s->(∀b∈fp,QK X pins H b)->tn i s.heap->J.go i H ->
  wpAny (model P w) X.A (pyNext (.ref it)) (λr s1=>∃u,r=some u /\
   wpAny (model P w) X.A (letOwnedTupleGo tg (.ref it) u) (λ_ s2=>∃x H',Inv X pins O H' s2/\ym x u/\J.yld i H x H'/\tn (i+1) s2.heap/\∀b∈fp,H' b=none) E s1) E s
 done:∀(X:Cx),X.prog=P->X.w=w->X.K=K->X.calm=true->∀(i:Nat) (pins:List (Addr×Obj)) (s:Shared) (O:St) (H:Hp) (E:Value->Shared->Prop),Inv X pins O H s->(∀b∈fp,QK X pins H b)->tn i s.heap->J.stop i H ->
  wpAny (model P w) X.A (pyNext (.ref it)) (λr s1=>r=none/\Inv X pins O H s1) E s
 self:∀(A:Around) (i:Nat) (s:Shared) (Q:Value->Shared->Prop) (E:Value->Shared->Prop),tn i s.heap->Q (.ref it) s->wpAny (model P w) A (pyIter (.ref it)) Q E s
abbrev TI:=St->Hp->(It->Hp->Prop)->Prop
def PIE(X:Cx)(pins:List (Addr×Obj))(O:St)(tg:Expr)(R:It->Hp->Prop)(itv:Value)(s2:Shared):Prop :=
 ∃(it:Addr) (fp:List Addr) (tn:Nat->Heap->Prop) (J:It) (H':Hp),itv=.ref it/\Inv X pins O H' s2/\Turn X.prog X.w X.K tg J fp it tn/\tn 0 s2.heap/\(∀b∈fp,QK X pins H' b)/\R J H'
def PI(X:Cx)(tg iter:Expr)(wi:TI):Prop :=
 ∀(pins:List (Addr×Obj)) (s:Shared) (O:St) (H:Hp) (R:It->Hp->Prop),Inv X pins O H s->wi O H R ->
  wpAny (model X.prog X.w) X.A (eval iter X.env) (λv s1=>wpAny (model X.prog X.w) X.A (pyIter v) (PIE X pins O tg R) X.xe s1) X.xe s
def JO{M:Model}{A:Around}{E:Value->Shared->Prop}{s:Shared}{tg:Expr}{it:Addr}{u:Value}{o:Obj}{n:String}{vs:Array Value}{Q:Unit->Shared->Prop}(ho:s.heap.get? it=some o)(hc:o.cls=.type n)(hd:o.data=.fields vs)
  (hn:["enumerate","zip","dict_itemiterator","dict_reverseitemiterator","odict_iterator","itertools.zip_longest","itertools.pairwise"].contains n=false) (hQ:Q () s):wpAny M A (letOwnedTupleGo tg (.ref it) u) Q E s:=by
 unfold letOwnedTupleGo
 cases tg<;>first
  |exact qC hQ
  | (cases u<;>first
    |exact qC hQ
    | (refine qB (wpAny_load ho ?_)
       rw[hc,hd];show wpAny M A (if(["enumerate","zip","dict_itemiterator","dict_reverseitemiterator","odict_iterator","itertools.zip_longest","itertools.pairwise"].contains n&&vs[0]?==some (rawInt _))=true then _ else _) Q E s;rw[if_neg (by intro h;rw[hn,Bool.false_and]at h;cases h)];exact qC hQ))
def Itl(K:qH)(a:Addr):It :=
 ⟨λi H=>∃xs x,SqL K H a xs/\xs[i]?=some x,λi H x H'=>H'=H/\∀xs,SqL K H a xs->xs[i]?=some x,λi H=>∃xs,SqL K H a xs/\xs.length<=i⟩
def Itt(K:qH)(a:Addr):It :=
 ⟨λi H=>∃xs x,SqT K H a xs/\xs[i]?=some x,λi H x H'=>H'=H/\∀xs,SqT K H a xs->xs[i]?=some x,λi H=>∃xs,SqT K H a xs/\xs.length<=i⟩
def Itr(lo:Int)(n:Nat):It:=⟨λi _=>i<n,λi H x H'=>H'=H/\x=.int (lo+i),λi _=>n<=i⟩
def zDB{P:Program}{w:World}{K:qH}{tg:Expr}(a it:Addr):Turn P w K tg (Itl K a) [it] it (λi h=>h.IsListIter it a i) where
 mem:=by simp
 obj:=λi h st b hb=>by
  have e:b=it:=by simpa using hb
  subst e;obtain⟨o,e,c,d⟩:=st;exact⟨o,e,λv z=>by rw[d]at z;cases z⟩
 keep:=λi h h' st k=>st.at λo e=>k it (by simp) o e
 item:=by
  intro X hP hw hK hc i pins s O H E I hf st hg;subst hP hw hK;obtain⟨xs,x,hq,hx⟩:=hg;obtain⟨its,rv,p,hz⟩:=I.list hq;obtain⟨u,hu,ru⟩:=rv.get hx;obtain⟨f0,f1,f2,f3,f4,f5⟩:=hf it (by simp);refine wpAny_pyNext_list_item st p.isList (x:=u) (by simpa using hu) λh' st' sb=>?_
  have I1:Inv X pins O H {s with heap:=h'}:=I.turned (t':=s.toks) (λb o hb e=>(sb.2 b hb).trans e) f0 f1 f3 f4 f5
  obtain⟨o,e,c,d⟩:=id st';exact⟨u,rfl,JO (s:={s with heap:=h'}) e c d (by decide) ⟨x,H,I1,ru,⟨rfl,λys hy=>by rw[I.list_inj hy hq];exact hx⟩,st',λb hb=>(hf b hb).1⟩⟩
 done:=by
  intro X hP hw hK hc i pins s O H E I hf st hg;subst hP hw hK;obtain⟨xs,hq,hx⟩:=hg;obtain⟨its,rv,p,hz⟩:=I.list hq;obtain⟨f0,f1,f2,f3,f4,f5⟩:=hf it (by simp);have hl:=rv.length;exact wpAny_pyNext_list_end (I.ok.hd hc) st p.isList (by simp;omega) λh' eb=>⟨rfl,I.turned (t':=s.toks) (λb o hb e=>eb b o hb e) f0 f1 f3 f4 f5⟩
 self:=λ_ _ _ _ _ st h=>wpAny_pyIter_listiter st h
def zCa{P:Program}{w:World}{K:qH}{tg:Expr}(a it:Addr):Turn P w K tg (Itt K a) [it] it (λi h=>h.IsTupleIter it a i) where
 mem:=by simp
 obj:=λi h st b hb=>by
  have e:b=it:=by simpa using hb
  subst e;obtain⟨o,e,c,d⟩:=st;exact⟨o,e,λv z=>by rw[d]at z;cases z⟩
 keep:=λi h h' st k=>st.at λo e=>k it (by simp) o e
 item:=by
  intro X hP hw hK hc i pins s O H E I hf st hg;subst hP hw hK;obtain⟨xs,x,hq,hx⟩:=hg;obtain⟨its,rv,p,hz⟩:=I.tuple hq;obtain⟨u,hu,ru⟩:=rv.get hx;obtain⟨f0,f1,f2,f3,f4,f5⟩:=hf it (by simp);refine wpAny_pyNext_tuple_item st (show s.heap.IsTuple a its.toArray from p) (x:=u) (by simpa using hu) λh' st' sb=>?_
  have I1:Inv X pins O H {s with heap:=h'}:=I.turned (t':=s.toks) (λb o hb e=>(sb.2 b hb).trans e) f0 f1 f3 f4 f5
  obtain⟨o,e,c,d⟩:=id st';exact⟨u,rfl,JO (s:={s with heap:=h'}) e c d (by decide) ⟨x,H,I1,ru,⟨rfl,λys hy=>by rw[I.tuple_inj hy hq];exact hx⟩,st',λb hb=>(hf b hb).1⟩⟩
 done:=by
  intro X hP hw hK hc i pins s O H E I hf st hg;subst hP hw hK;obtain⟨xs,hq,hx⟩:=hg;obtain⟨its,rv,p,hz⟩:=I.tuple hq;obtain⟨f0,f1,f2,f3,f4,f5⟩:=hf it (by simp);have hl:=rv.length;exact wpAny_pyNext_tuple_end (I.ok.hd hc) st (show s.heap.IsTuple a its.toArray from p) (by simp;omega) λh' eb=>⟨rfl,I.turned (t':=s.toks) (λb o hb e=>eb b o hb e) f0 f1 f3 f4 f5⟩
 self:=λ_ _ _ _ _ st h=>wpAny_pyIter_tupleiter st h
def zCb{P:Program}{w:World}{K:qH}{tg:Expr}(it:Addr)(lo:Int)(n:Nat):Turn P w K tg (Itr lo n) [it] it (λi h=>IsRangeIter h it (lo+(i:Nat)*1) ((n:Int)-(i:Nat)) 1) where
 mem:=by simp
 obj:=λi h st b hb=>by
  have e:b=it:=by simpa using hb
  subst e;exact⟨_,st,λv z=>by
   have z':Data.fields _=Data.cell v:=z;cases z'⟩
 keep:=λi h h' st k=>k it (by simp) _ st
 item:=by
  intro X hP hw hK hc i pins s O H E I hf st hg;subst hP hw hK;obtain⟨f0,f1,f2,f3,f4,f5⟩:=hf it (by simp);have W:=Walks.range (prog:=X.prog) (w:=X.w) (I.ok.hd hc) it lo 1 n;refine W.item i s _ _ hg st λv h' tk hv st' kk=>?_
  obtain⟨t,rfl⟩:=hv;have I1:Inv X pins O H {s with heap:=h',toks:=tk}:=I.turned (λb o hb e=>kk b o (by simpa using hb) e) f0 f1 f3 f4 f5
  refine⟨_,rfl,JO (s:={s with heap:=h',toks:=tk}) (n:="range_iterator") st' rfl rfl (by decide) ⟨.int (lo+i),H,I1,⟨t,?_⟩,⟨rfl,rfl⟩,st',λb hb=>(hf b hb).1⟩⟩
  rw[Int.mul_one]
 done:=by
  intro X hP hw hK hc i pins s O H E I hf st hg;subst hP hw hK;obtain⟨f0,f1,f2,f3,f4,f5⟩:=hf it (by simp);exact wpAny_pyNext_range_end (I.ok.hd hc) st (by have:n<=i:=hg;omega) λh' eb=>⟨rfl,I.turned (t':=s.toks) (λb o hb e=>eb b o hb e) f0 f1 f3 f4 f5⟩
 self:=λ_ _ _ _ _ st h=>wpAny_pyIter_rangeiter st h
section
variable{X:Cx}{tg:Expr}
def iList(K:qH)(tl:TE):TI:=λO H R=>tl O H λx H1=>∃a,x=.ref a/\(∃xs,SqL K H1 a xs)/\R (Itl K a) H1
def iTup(K:qH)(tl:TE):TI:=λO H R=>tl O H λx H1=>∃a,x=.ref a/\(∃xs,SqT K H1 a xs)/\R (Itt K a) H1
def zDC{l:Expr}{tl:TE}(hl:PE X l tl):PI X tg l (iList X.K tl):=by
 intro pins s O H R I h;refine thn (hl pins s O H _ I h) λv s1 ⟨x,H1,I1,r1,q1⟩=>?_
 obtain⟨a,e,⟨xs,hq⟩,q⟩:=q1;subst e;cases r1;obtain⟨its,rv,p,hz⟩:=I1.list hq;refine wpAny_pyIter_list p.isList ?_;refine⟨s1.heap.objs.size,[s1.heap.objs.size],_,_,H1,rfl,I1.kept (t':=s1.toks) λb o e=>qA _ e,zDB a _,⟨_,get?_push_size _ rfl,rfl,rfl⟩,λb hb=>?_,q⟩;have e:b=s1.heap.objs.size:=by simpa using hb
 subst e;exact I1.fpOk (le_refl _) (I1.hok.fresh (le_refl _))
def pi_tup{l:Expr}{tl:TE}(hl:PE X l tl):PI X tg l (iTup X.K tl):=by
 intro pins s O H R I h;refine thn (hl pins s O H _ I h) λv s1 ⟨x,H1,I1,r1,q1⟩=>?_
 obtain⟨a,e,⟨xs,hq⟩,q⟩:=q1;subst e;cases r1;obtain⟨its,rv,p,hz⟩:=I1.tuple hq;refine wpAny_pyIter_tuple (show s1.heap.IsTuple a its.toArray from p) ?_;refine⟨s1.heap.objs.size,[s1.heap.objs.size],_,_,H1,rfl,I1.kept (t':=s1.toks) λb o e=>qA _ e,zCa a _,⟨_,get?_push_size _ rfl,rfl,rfl⟩,λb hb=>?_,q⟩;have e:b=s1.heap.objs.size:=by simpa using hb
 subst e;exact I1.fpOk (le_refl _) (I1.hok.fresh (le_refl _))
def zBd{pins:List (Addr×Obj)}{O:St}{H:Hp}{s:Shared}{R:It->Hp->Prop}{E:Value->Shared->Prop}{lo hi:Int}{t u v:Tok}{tk:Nat}(I:Inv X pins O H s)(h1:-(2^62)<=lo)(h2:lo<2^62)(h3:-(2^62)<=hi)(h4:hi<2^62)
  (q:R (Itr lo (hi-lo).toNat) H):wpAny (model X.prog X.w) X.A (pyIter (.ref s.heap.objs.size)) (PIE X pins O tg R) E {s with heap:=s.heap.push {cls:=.type "range",data:=.fields #[.int lo t,.int hi u,.int 1 v]},toks:=tk}:=by
 refine wpAny_pyIter_range (IsRange.new ..) (small_one h1 h2 h3 h4) ?_;have I1:Inv X pins O H {s with heap:=s.heap.push {cls:=.type "range",data:=.fields #[.int lo t,.int hi u,.int 1 v]},toks:=tk}:=I.kept λb o e=>qA _ e
 refine⟨(s.heap.push {cls:=.type "range",data:=.fields #[.int lo t,.int hi u,.int 1 v]}).objs.size,[(s.heap.push {cls:=.type "range",data:=.fields #[.int lo t,.int hi u,.int 1 v]}).objs.size],_,_,H,rfl,
  I1.kept (t':=tk) λb o e=>qA _ e,zCb _ lo (hi-lo).toNat,?_,λb hb=>?_,q⟩
 ·have e1:lo+((0:Nat):Int)*1=lo:=by simp
  have e2:(((hi-lo).toNat:Nat):Int)-((0:Nat):Int)=Builtin.Range.rangeSize lo hi 1:=by rw[rangeSize_one];split<;>omega
  show IsRangeIter _ _ (lo+((0:Nat):Int)*1) ((((hi-lo).toNat:Nat):Int)-((0:Nat):Int)) 1
  rw[e1,e2];exact get?_push_size _ rfl
 ·have e:b=(s.heap.push {cls:=.type "range",data:=.fields #[.int lo t,.int hi u,.int 1 v]}).objs.size:=by simpa using hb
  subst e;exact I1.fpOk (le_refl _) (I1.hok.fresh (le_refl _))
def iRng1(ta:TA):TI:=λO H R=>ta O H λvs H1=>∃j:Int,vs=[.int j]/\-(2^62)<=j/\j<2^62/\R (Itr 0 j.toNat) H1
def iRng2(ta:TA):TI:=λO H R=>ta O H λvs H1=>∃i j:Int,vs=[.int i,.int j]/\(-(2^62)<=i/\i<2^62/\-(2^62)<=j/\j<2^62)/\R (Itr i (j-i).toNat) H1
def QP{a:Expr}{ta:TA}{p pos:Pos}(hg:Gl X "range")(hm:X.mg "range"=none)(ha:PA X [a] ta)(hs:starEach [a] X.env=[(false,eval a X.env)]:=by rfl):PI X tg (.Call (.Name "range" p) [a] [] pos) (iRng1 ta):=by
 intro pins s O H R I h;refine Call_ (J6 I hg hm boot_range (PyProof.Rows.callWith_type1 (thn (ha pos pins s O H _ I h) λus s1 ⟨vs,H1,I1,r1,q1⟩=>?_) hs rfl));obtain⟨j,e,q1,q2,q⟩:=q1;subst e;cases r1 with
 |cons r rr =>
  cases rr;obtain⟨t,rfl⟩:=r;exact call_range_1 (zBd I1 (by omega) (by omega) q1 q2 (by simpa using q))
def zDD{a b:Expr}{ta:TA}{p pos:Pos}(hg:Gl X "range")(hm:X.mg "range"=none)(ha:PA X [a,b] ta)(hs:starEach [a,b] X.env=[(false,eval a X.env),(false,eval b X.env)]:=by rfl)(hs2:starEach [b] X.env=[(false,eval b X.env)]:=by rfl) :
  PI X tg (.Call (.Name "range" p) [a,b] [] pos) (iRng2 ta):=by
 intro pins s O H R I h;refine Call_ (J6 I hg hm boot_range (PyProof.Rows.callWith_type1 (thn (ha pos pins s O H _ I h) λus s1 ⟨vs,H1,I1,r1,q1⟩=>?_) (by rw[hs,hs2]) (by rw[hs2];rfl)));obtain⟨i,j,e,⟨q1,q2,q3,q4⟩,q⟩:=q1;subst e;cases r1 with
 |cons r rr =>
  cases rr with
  |cons r' rr =>
   cases rr;obtain⟨t,rfl⟩:=r;obtain⟨t',rfl⟩:=r';exact call_range_2 (zBd I1 q1 q2 q3 q4 q)
def tFor(wi:TI)(g:TG)(tb:TS):TS:=λD O H=>wi O H λJ H1=>∃W:Nat->Nat->St->Hp->Prop,(∃m,W 0 m O H1)/\∀i m O H,W i m O H ->
 (J.stop i H/\D.nx O H)\/(J.go i H/\∃N:St->Hp->Prop,(∀O' H',N O' H'->∃m',m'<m/\W (i+1) m' O' H')/\∀x H',J.yld i H x H'->g x O H' λO2 H2=>tb {D with nx:=N,ct:=N,bk:=D.nx} O2 H2)
def Zr(fp:List Addr)(h:Heap):List (Addr×Obj):=fp.filterMap λb=>(h.get? b).map λo=>(b,o)
def yV{fp:List Addr}{h:Heap}{b:Addr}{o:Obj}(hb:b∈fp)(e:h.get? b=some o):(b,o)∈Zr fp h:=mem_filterMap.mpr ⟨b,hb,by rw[e];rfl⟩
def zDE{fp:List Addr}{h:Heap}{p:Addr×Obj}(hp:p∈Zr fp h):p.1∈fp/\h.get? p.1=some p.2:=by
 obtain⟨b,hb,e⟩:=mem_filterMap.mp hp;cases q:h.get? b with
 |none=>rw[q]at e;cases e
 |some o =>
  rw[q]at e;have e':(b,o)=p:=qJ e;subst e';exact⟨hb,q⟩
def Inv.pinned{pins:List (Addr×Obj)}{O:St}{H:Hp}{s:Shared}{fp:List Addr}(I:Inv X pins O H s)(hf:∀b∈fp,QK X pins H b)(ho:∀b∈fp,∃o,s.heap.get? b=some o/\∀v,o.data≠.cell v):Inv X (pins++Zr fp s.heap) O H s :=
 I.pins_of λp hp=>(mem_append.mp hp).elim (λz=>I.pin p (qK _ z)) λz=>by
  obtain⟨hb,e⟩:=zDE z;obtain⟨f0,f1,f2,_⟩:=hf p.1 hb;obtain⟨o,e',d⟩:=ho p.1 hb;rw[e]at e';cases e';exact⟨e,f0,f1,f2,d⟩
def Inv.unpinned{pins pl:List (Addr×Obj)}{O:St}{H:Hp}{s:Shared}(I:Inv X (pins++pl) O H s):Inv X pins O H s:=I.pins_of λp hp=>I.pin p (qK _ (mem_append_left _ hp))
def zBe{iter:Expr}{body:List Stmt}{wi:TI}{g:TG}{tb:TS}{pos:Pos}(hp:PassesOwn (model X.prog X.w) X.A X.env X.xe)(hc:X.calm=true)(hi:PI X tg iter wi)(hg:PG X tg g)(hb:PSs X body tb)
  (hs:∀x,foldedSetIterable iter X.env x=pure x:=by intro _;rfl):PS X (.For tg iter body [] pos) (tFor wi g tb):=by
 intro pins s O H D I h;refine wpAny_For (thn (hi pins s O H _ I h) λv s1 h1=>thn h1 λitv s2 h2=>?_) hs;obtain⟨it,fp,tn,J,H2,e,I2,T,st2,f2,W,⟨m0,w0⟩,turn⟩:=h2;subst e
 -- what stays true of the iterator's objects through the loop
 have stat:∀{H':Hp},(∀b∈fp,H' b=none)->∀b∈fp,QK X pins H' b:=λhn b hb=>⟨hn b hb,(f2 b hb).2⟩
 refine codeAny_forLoop_any (λn s'=>∃i O' H',Inv X pins O' H' s'/\tn i s'.heap/\(∀b∈fp,H' b=none)/\W i n O' H') ?_ m0 ⟨0,O,H2,I2,st2,λb hb=>(f2 b hb).1,w0⟩
 rintro n s3 ⟨i,O3,H3,I3,st3,fr3,w3⟩
 rcases turn i n O3 H3 w3 with⟨stop,qn⟩|⟨go,N,hN,step⟩
 ·refine wpAny_passesOwn hp (thn (T.done X rfl rfl rfl hc i pins s3 O3 H3 X.xe I3 (stat fr3) st3 stop) λr s4 ⟨hr,I4⟩=>?_)
  subst hr;exact wpAny_execs_nil ⟨O3,H3,I4,qn⟩
 ·refine wpAny_passesOwn hp (thn (T.item X rfl rfl rfl hc i pins s3 O3 H3 X.xe I3 (stat fr3) st3 go) λr s4 ⟨u,hr,h4⟩=>?_)
  subst hr;refine wpAny_passesOwn hp (thn h4 λ_ s5 ⟨x,H5,I5,r5,y5,st5,fr5⟩=>?_);have I5':=I5.pinned (stat fr5) (T.obj _ _ st5);refine wpAny_passesOwn hp (thn (hg _ s5 O3 H5 x u _ I5' r5 (step x H5 y5)) λ_ s6 ⟨O6,H6,I6,q6⟩=>?_);refine wpAny_passesOwn hp (thn (hb _ s6 O6 H6 _ I6 q6) λf s7 q7=>?_);have again:∀{O7:St} {H7:Hp},Inv X (pins++Zr fp s5.heap) O7 H7 s7->N O7 H7->∃m,m<n/\∃i O' H',Inv X pins O' H' s7/\tn i s7.heap/\(∀b∈fp,H' b=none)/\W i m O' H':=λ{O7 H7} I7 n7=>by
   obtain⟨m',hm,w7⟩:=hN O7 H7 n7;refine⟨m',hm,i+1,O7,H7,I7.unpinned,T.keep _ _ _ st5 λb hb o e=>(I7.pin (b,o) (qK _ (qK _ (yV hb e)))).1,λb hb=>?_,w7⟩;obtain⟨o,e,d⟩:=T.obj _ _ st5 b hb;exact(I7.pin (b,o) (qK _ (qK _ (yV hb e)))).2.1
  cases f with
  |next=>obtain⟨O7,H7,I7,n7⟩:=q7;exact again I7 n7|cont=>obtain⟨O7,H7,I7,n7⟩:=q7;exact again I7 n7|brk=>obtain⟨O7,H7,I7,q7⟩:=q7;exact⟨O7,H7,I7.unpinned,q7⟩|ret v=>obtain⟨x7,O7,H7,I7,r7,q7⟩:=q7;exact⟨x7,O7,H7,I7.unpinned,r7,q7⟩
end
def zFK{K:qH}{a:Addr}{xs:List V}{g:TG}{tb:TS}{D:Ends}{O:St}{H:Hp}(Pv:Nat->St->Hp->Prop)(h0:Pv 0 O H)(hl:∀i O H,i<=xs.length->Pv i O H->SqL K H a xs)
  (hs:∀i x O H,xs[i]?=some x->Pv i O H->g x O H λO2 H2=>tb {D with nx:=Pv (i+1),ct:=Pv (i+1),bk:=D.nx} O2 H2) (hd:∀O H,Pv xs.length O H->D.nx O H) :
  ∃W:Nat->Nat->St->Hp->Prop,(∃m,W 0 m O H)/\∀i m O H,W i m O H ->
   ((Itl K a).stop i H/\D.nx O H)\/((Itl K a).go i H/\∃N:St->Hp->Prop,(∀O' H',N O' H'->∃m',m'<m/\W (i+1) m' O' H')/\∀x H',(Itl K a).yld i H x H'->g x O H' λO2 H2=>tb {D with nx:=N,ct:=N,bk:=D.nx} O2 H2):=by
 refine⟨λi m O H=>m=xs.length-i/\i<=xs.length/\Pv i O H,⟨xs.length,by simp,zero_le _,h0⟩,?_⟩
 rintro i m O H ⟨rfl,hi,p⟩
 have q:=hl i O H hi p;by_cases hlt:i<xs.length
 ·refine .inr ⟨⟨xs,xs[i],q,by simp[hlt]⟩,Pv (i+1),λO' H' p'=>⟨xs.length-(i+1),by omega,rfl,hlt,p'⟩,λx H' y=>?_⟩
  obtain⟨e,y⟩:=y;subst e;exact hs i x O _ (y xs q) p
 ·have e:i=xs.length:=by omega
  subst e;exact .inl ⟨⟨xs,q,le_refl _⟩,hd O H p⟩
def zDF{lo:Int}{n:Nat}{g:TG}{tb:TS}{D:Ends}{O:St}{H:Hp}(Pv:Nat->St->Hp->Prop)(h0:Pv 0 O H)
  (hs:∀i O H,i<n->Pv i O H->g (.int (lo+i)) O H λO2 H2=>tb {D with nx:=Pv (i+1),ct:=Pv (i+1),bk:=D.nx} O2 H2) (hd:∀O H,Pv n O H->D.nx O H) :
  ∃W:Nat->Nat->St->Hp->Prop,(∃m,W 0 m O H)/\∀i m O H,W i m O H ->
   ((Itr lo n).stop i H/\D.nx O H)\/((Itr lo n).go i H/\∃N:St->Hp->Prop,(∀O' H',N O' H'->∃m',m'<m/\W (i+1) m' O' H')/\∀x H',(Itr lo n).yld i H x H'->g x O H' λO2 H2=>tb {D with nx:=N,ct:=N,bk:=D.nx} O2 H2):=by
 refine⟨λi m O H=>m=n-i/\i<=n/\Pv i O H,⟨n,by simp,zero_le _,h0⟩,?_⟩
 rintro i m O H ⟨rfl,hi,p⟩
 by_cases hlt:i<n
 ·refine .inr ⟨hlt,Pv (i+1),λO' H' p'=>⟨n-(i+1),by omega,rfl,hlt,p'⟩,λx H' y=>?_⟩
  obtain⟨e,y⟩:=y;subst e y;exact hs i O _ hlt p
 ·have e:i=n:=by omega
  subst e;exact .inl ⟨le_refl _,hd O H p⟩
abbrev R2:=V->V->Hp->VK->Prop
def OpR(X:Cx)(f:Value->Value->Sem Value)(r:R2):Prop :=
 ∀(pins:List (Addr×Obj)) (s:Shared) (O:St) (H:Hp) (x y:V) (v u:Value) (Q:VK),Inv X pins O H s->ym x v->ym y u->r x y H Q ->
  wpAny (model X.prog X.w) X.A (f v u) (EP X pins O Q) X.xe s
def UnR(X:Cx)(f:Value->Sem Value)(r:V->Hp->VK->Prop):Prop :=
 ∀(pins:List (Addr×Obj)) (s:Shared) (O:St) (H:Hp) (x:V) (v:Value) (Q:VK),Inv X pins O H s->ym x v->r x H Q ->
  wpAny (model X.prog X.w) X.A (f v) (EP X pins O Q) X.xe s
def JP(X:Cx)(f:Value)(r:List V->Hp->VK->Prop):Prop :=
 ∀(pins:List (Addr×Obj)) (s:Shared) (O:St) (H:Hp) (xs:List V) (us:List Value) (Q:VK),Inv X pins O H s->yj xs us->r xs H Q ->
  wpAny (model X.prog X.w) X.A (call f us) (EP X pins O Q) X.xe s
def tOp(r:R2)(ta tb:TE):TE:=λO H Q=>ta O H λx H1=>tb O H1 λy H2=>r x y H2 Q
def tUn(r:V->Hp->VK->Prop)(ta:TE):TE:=λO H Q=>ta O H λx H1=>r x H1 Q
def rI(C:Int->Int->Prop)(g:Int->Int->V):R2:=λx y H Q=>∃i j,x=.int i/\y=.int j/\C i j/\Q (g i j) H
def rI0(g:Int->Int->V):R2:=λx y H Q=>∃i j,x=.int i/\y=.int j/\Q (g i j) H
def rU(g:Int->V):V->Hp->VK->Prop:=λx H Q=>∃i,x=.int i/\Q (g i) H
section
variable{X:Cx}{a b c:Expr}{ta tb tc:TE}{pos:Pos}
def binT(ha:PE X a ta)(hb:PE X b tb){pins:List (Addr×Obj)}{s:Shared}{O:St}{H:Hp}{R:V->V->Hp->Prop}(I:Inv X pins O H s)
  (h:ta O H λx H1=>tb O H1 λy H2=>R x y H2) {Q:Value->Shared->Prop} {f:Value->Value->Sem Value}
  (hf:∀v u s2 x y H2,Inv X pins O H2 s2->ym x v->ym y u->R x y H2->wpAny (model X.prog X.w) X.A (f v u) Q X.xe s2) :
  wpAny (model X.prog X.w) X.A (eval a X.env) (λv s₁=>wpAny (model X.prog X.w) X.A (eval b X.env) (λu s₂=>wpAny (model X.prog X.w) X.A (f v u) Q X.xe s₂) X.xe s₁) X.xe s:=by
 refine thn (ha pins s O H _ I h) λv s1 ⟨x,H1,I1,r1,q1⟩=>?_
 refine thn (hb pins s1 O H1 _ I1 q1) λu s2 ⟨y,H2,I2,r2,q2⟩=>?_
 exact hf v u s2 x y H2 I2 r1 r2 q2
def pe_op{op:Operator}{r:R2}(ho:OpR X (binaryOp op) r)(ha:PE X a ta)(hb:PE X b tb):PE X (.BinOp a op b pos) (tOp r ta tb):=by
 intro pins s O H Q I h;exact wpAny_BinOp (binT ha hb I h λv u s2 x y H2 I2 rx ry q=>ho pins s2 O H2 x y v u Q I2 rx ry q)
def pe_un{op:UnaryOp}{r:V->Hp->VK->Prop}(ho:UnR X (unaryOp op) r)(ha:PE X a ta):PE X (.UnaryOp op a pos) (tUn r ta):=by
 intro pins s O H Q I h;exact UnaryOp_ (thn (ha pins s O H _ I h) λv s1 ⟨x,H1,I1,r1,q1⟩=>ho pins s1 O H1 x v Q I1 r1 q1)
def opI{f:Value->Value->Sem Value}{C:Int->Int->Prop}{g:Int->Int->Int}
  (rule:∀(i j:Int) (t u:Tok) (s:Shared) (Q:Value->Shared->Prop) (E:Value->Shared->Prop),C i j->Q (.int (g i j) s.toks) {s with toks:=s.toks+1}->wpAny (model X.prog X.w) X.A (f (.int i t) (.int j u)) Q E s) :
  OpR X f (rI C λi j=>.int (g i j)):=by
 intro pins s O H x y v u Q I rx ry h;obtain⟨i,j,rfl,rfl,hc,q⟩:=h;obtain⟨t,rfl⟩:=rx;obtain⟨t',rfl⟩:=ry;exact rule i j t t' s _ _ hc ⟨.int (g i j),H,I.tok _,⟨_,rfl⟩,q⟩
def opI0{f:Value->Value->Sem Value}{g:Int->Int->Int}
  (rule:∀(i j:Int) (t u:Tok) (s:Shared) (Q:Value->Shared->Prop) (E:Value->Shared->Prop),Q (.int (g i j) s.toks) {s with toks:=s.toks+1}->wpAny (model X.prog X.w) X.A (f (.int i t) (.int j u)) Q E s) :
  OpR X f (rI0 λi j=>.int (g i j)):=by
 intro pins s O H x y v u Q I rx ry h;obtain⟨i,j,rfl,rfl,q⟩:=h;obtain⟨t,rfl⟩:=rx;obtain⟨t',rfl⟩:=ry;exact rule i j t t' s _ _ ⟨.int (g i j),H,I.tok _,⟨_,rfl⟩,q⟩
def opB0{f:Value->Value->Sem Value}{g:Int->Int->Bool}
  (rule:∀(i j:Int) (t u:Tok) (s:Shared) (Q:Value->Shared->Prop) (E:Value->Shared->Prop),Q (.bool (g i j)) s->wpAny (model X.prog X.w) X.A (f (.int i t) (.int j u)) Q E s) :
  OpR X f (rI0 λi j=>.bl (g i j)):=by
 intro pins s O H x y v u Q I rx ry h;obtain⟨i,j,rfl,rfl,q⟩:=h;obtain⟨t,rfl⟩:=rx;obtain⟨t',rfl⟩:=ry;exact rule i j t t' s _ _ ⟨.bl (g i j),H,I,rfl,q⟩
def CPow(i j:Int):Prop:=0<=j/\j<=1000000/\i.natAbs<2^64
def CMul(i j:Int):Prop:=(-(2^64)<i/\i<2^64)\/(-(2^64)<j/\j<2^64)
def CMul.ok{i j:Int}(h:CMul i j):IntMulOk i j:=by
 rcases h with⟨h1,h2⟩|⟨h1,h2⟩
 ·exact .of_left (intBits_le_64 h1 h2)
 ·exact .of_right (intBits_le_64 h1 h2)
def op_add:OpR X (binaryOp .Add) (rI0 λi j=>.int (i+j)):=opI0 λ_ _ _ _ _ _ _ q=>add_int q
def op_sub:OpR X (binaryOp .Sub) (rI0 λi j=>.int (i-j)):=opI0 λ_ _ _ _ _ _ _ q=>sub_int q
def op_mod:OpR X (binaryOp .Mod) (rI (λ_ j=>0<j) λi j=>.int (i%j)):=opI λi j _ _ _ _ _ hc q=>by
 have h1:(0:Int)<j:=hc;exact mod_int' (by omega) (by rw[Int.fmod_eq_emod_of_nonneg i (by omega)];exact q)
def op_pow:OpR X (binaryOp .Pow) (rI CPow λi j=>.int (i^j.toNat)):=opI λ_ _ _ _ _ _ _ hc q=>pow_int_small hc.1 hc.2.1 hc.2.2 q
def unI{f:Value->Sem Value}{g:Int->Int}
  (rule:∀(i:Int) (t:Tok) (s:Shared) (Q:Value->Shared->Prop) (E:Value->Shared->Prop),Q (.int (g i) s.toks) {s with toks:=s.toks+1}->wpAny (model X.prog X.w) X.A (f (.int i t)) Q E s) :
  UnR X f (rU λi=>.int (g i)):=by
 intro pins s O H x v Q I rx h;obtain⟨i,rfl,q⟩:=h;obtain⟨t,rfl⟩:=rx;exact rule i t s _ _ ⟨.int (g i),H,I.tok _,⟨_,rfl⟩,q⟩
def un_neg:UnR X (unaryOp .USub) (rU λi=>.int (-i)):=unI λ_ _ _ _ _ q=>neg_int q
end
def scal:V->V->Bool
 | .non,.non=>true | .non,.int _=>true | .int _,.non=>true | .non,.bl _=>true | .bl _,.non=>true | .non,.str _=>true | .str _,.non=>true
 | .int _,.int _=>true | .bl _,.bl _=>true | .str _,.str _=>true | .byt _,.byt _=>true
 | .int _,.str _=>true | .str _,.int _=>true | .bl _,.str _=>true | .str _,.bl _=>true
 |_,_=>false
def rEq:R2:=λx y H Q=>scal x y=true/\Q (.bl (decide (x=y))) H
def rNe:R2:=λx y H Q=>scal x y=true/\Q (.bl (!decide (x=y))) H
def zDG{i j:Int}:decide (V.int i=V.int j)=(i==j):=by
 rw[Bool.eq_iff_iff];simp
def zGt{i j:Bool}:decide (V.bl i=V.bl j)=(i==j):=by
 rw[Bool.eq_iff_iff];simp
def zDH{i j:Str}:decide (V.str i=V.str j)=(i==j):=by
 rw[Bool.eq_iff_iff];simp
def zDI{i j:Array UInt8}:decide (V.byt i=V.byt j)=(i.toList==j.toList):=by
 rw[Bool.eq_iff_iff];cases i;cases j;simp
section
variable{X:Cx}{a b c:Expr}{ta tb tc:TE}{pos:Pos}
def yG{pins:List (Addr×Obj)}{O:St}{H:Hp}{s:Shared}{Q:VK}{k k':Bool}(I:Inv X pins O H s)(q:Q (.bl k) H)(e:k=k'):EP X pins O Q (.bool k') s:=by
 subst e;exact⟨.bl k,H,I,rfl,q⟩
def op_eq:OpR X (compareOp .Eq) rEq:=by
 intro pins s O H x y v u Q I rx ry h;obtain⟨hs,q⟩:=h;cases x with
 |non =>
  cases rx;cases y with
  |non=>cases ry;exact PySem.EqNone.eq_none_none (yG I q (by simp))|bl j=>cases ry;exact PySem.EqNone.eq_none_bool (yG I q (by simp))|int j=>obtain⟨t',rfl⟩:=ry;exact PySem.EqNone.eq_none_int (yG I q (by simp))|str j=>obtain⟨t',rfl⟩:=ry;exact PySem.EqNone.eq_none_str (yG I q (by simp))|_=>exact absurd (show false=true from hs) qF
 |bl i =>
  cases rx;cases y with
  |non=>cases ry;exact PySem.EqNone.eq_bool_none (yG I q (by simp))|bl j=>cases ry;exact eq_bool (yG I q zGt)|str j=>obtain⟨t',rfl⟩:=ry;exact PySem.EqMixed.eq_bool_str (yG I q (by simp))|_=>exact absurd (show false=true from hs) qF
 |int i =>
  obtain⟨t,rfl⟩:=rx;cases y with
  |non=>cases ry;exact PySem.EqNone.eq_int_none (yG I q (by simp))|int j=>obtain⟨t',rfl⟩:=ry;exact eq_int (yG I q zDG)|str j=>obtain⟨t',rfl⟩:=ry;exact PySem.EqMixed.eq_int_str (yG I q (by simp))|_=>exact absurd (show false=true from hs) qF
 |str i =>
  obtain⟨t,rfl⟩:=rx;cases y with
  |non=>cases ry;exact PySem.EqNone.eq_str_none (yG I q (by simp))|bl j=>cases ry;exact PySem.EqMixed.eq_str_bool (yG I q (by simp))|int j=>obtain⟨t',rfl⟩:=ry;exact PySem.EqMixed.eq_str_int (yG I q (by simp))|str j=>obtain⟨t',rfl⟩:=ry;exact eq_str (yG I q zDH)|_=>exact absurd (show false=true from hs) qF
 |byt i =>
  obtain⟨t,rfl⟩:=rx;cases y with
  |byt j=>obtain⟨t',rfl⟩:=ry;exact PySem.W.eq_bytes (yG I q zDI)|_=>exact absurd (show false=true from hs) qF
 |_=>cases y<;>exact absurd (show false=true from hs) qF
def op_ne:OpR X (compareOp .NotEq) rNe:=by
 intro pins s O H x y v u Q I rx ry h;obtain⟨hs,q⟩:=h;cases x with
 |non =>
  cases rx;cases y with
  |non=>cases ry;exact PySem.EqNone.ne_none_none (yG I q (by simp))|bl j=>cases ry;exact PySem.EqNone.ne_none_bool (yG I q (by simp))|int j=>obtain⟨t',rfl⟩:=ry;exact PySem.EqNone.ne_none_int (yG I q (by simp))|str j=>obtain⟨t',rfl⟩:=ry;exact PySem.EqNone.ne_none_str (yG I q (by simp))|_=>exact absurd (show false=true from hs) qF
 |bl i =>
  cases rx;cases y with
  |non=>cases ry;exact PySem.EqNone.ne_bool_none (yG I q (by simp))|bl j=>cases ry;exact ne_bool (yG I q (congrArg not zGt))|str j=>obtain⟨t',rfl⟩:=ry;exact PySem.EqMixed.ne_bool_str (yG I q (by simp))|_=>exact absurd (show false=true from hs) qF
 |int i =>
  obtain⟨t,rfl⟩:=rx;cases y with
  |non=>cases ry;exact PySem.EqNone.ne_int_none (yG I q (by simp))|int j=>obtain⟨t',rfl⟩:=ry;exact ne_int (yG I q (congrArg not zDG))|str j=>obtain⟨t',rfl⟩:=ry;exact PySem.EqMixed.ne_int_str (yG I q (by simp))|_=>exact absurd (show false=true from hs) qF
 |str i =>
  obtain⟨t,rfl⟩:=rx;cases y with
  |non=>cases ry;exact PySem.EqNone.ne_str_none (yG I q (by simp))|bl j=>cases ry;exact PySem.EqMixed.ne_str_bool (yG I q (by simp))|int j=>obtain⟨t',rfl⟩:=ry;exact PySem.EqMixed.ne_str_int (yG I q (by simp))|str j=>obtain⟨t',rfl⟩:=ry;exact ne_str (yG I q (congrArg not zDH))|_=>exact absurd (show false=true from hs) qF
 |byt i =>
  obtain⟨t,rfl⟩:=rx;cases y with
  |byt j=>obtain⟨t',rfl⟩:=ry;exact PySem.W.ne_bytes (yG I q (congrArg not zDI))|_=>exact absurd (show false=true from hs) qF
 |_=>cases y<;>exact absurd (show false=true from hs) qF
def op_lt:OpR X (compareOp .Lt) (rI0 λi j=>.bl (decide (i<j))):=opB0 λ_ _ _ _ _ _ _ q=>lt_int q
def op_le:OpR X (compareOp .LtE) (rI0 λi j=>.bl (decide (i<=j))):=opB0 λ_ _ _ _ _ _ _ q=>le_int q
def op_gt:OpR X (compareOp .Gt) (rI0 λi j=>.bl (decide (j<i))):=opB0 λ_ _ _ _ _ _ _ q=>gt_int q
def op_ge:OpR X (compareOp .GtE) (rI0 λi j=>.bl (decide (j<=i))):=opB0 λ_ _ _ _ _ _ _ q=>ge_int q
def OpR.or{f:Value->Value->Sem Value}{r r':R2}(h:OpR X f r)(h':OpR X f r'):OpR X f (λx y H Q=>r x y H Q\/r' x y H Q):=by
 intro pins s O H x y v u Q I rx ry q;rcases q with q|q
 ·exact h pins s O H x y v u Q I rx ry q
 ·exact h' pins s O H x y v u Q I rx ry q
def zDJ{op:CmpOp}{r:R2}(ho:OpR X (compareOp op) r)(ha:PE X a ta)(hb:PE X b tb)(hm:behindInMarks op b=false):PE X (.Compare a [op] [b] pos) (tOp r ta tb):=by
 intro pins s O H Q I h;exact wpAny_Compare1 (binT ha hb I h λv u s2 x y H2 I2 rx ry q=>ho pins s2 O H2 x y v u Q I2 rx ry q) hm
def tTest(t:TE):TT:=λO H Q=>t O H λx H'=>∃k,x=.bl k/\Q k H'
def zDK{op:CmpOp}{r:R2}(ho:OpR X (compareOp op) r)(ha:PE X a ta)(hb:PE X b tb)(hm:behindInMarks op b=false):PT X (.Compare a [op] [b] pos) (tTest (tOp r ta tb)):=by
 intro pins s O H Q I h;refine wpAny_isTrue_Compare1 (thn (ha pins s O H _ I h) λv s1 ⟨x,H1,I1,r1,q1⟩=>thn (hb pins s1 O H1 _ I1 q1) λu s2 ⟨y,H2,I2,r2,q2⟩ =>
  thn (ho pins s2 O H2 x y v u _ I2 r1 r2 q2) λc s3 ⟨z,H3,I3,r3,k,e,q3⟩=>?_) hm
 subst e;cases r3;exact wpAny_truthy_bool ⟨H3,I3,q3⟩
def zDL(r r':R2)(ta tb tc:TE):TE:=λO H Q=>ta O H λx H1=>tb O H1 λy H2=>r x y H2 λz H3=>∃k,z=.bl k /\
 (if k=true then tc O H3 λw' H4=>r' y w' H4 Q else Q (.bl false) H3)
def zFL{op op':CmpOp}{r r':R2}(ho:OpR X (compareOp op) r)(ho':OpR X (compareOp op') r')(ha:PE X a ta)(hb:PE X b tb)(hc:PE X c tc)
  (hm:lastMarks [op,op'] [b,c]=false:=by with_unfolding_all rfl):PE X (.Compare a [op,op'] [b,c] pos) (zDL r r' ta tb tc):=by
 intro pins s O H Q I h;refine Compare_chain (thn (ha pins s O H _ I h) λv s1 ⟨x,H1,I1,r1,q1⟩=>chain_link (thn (hb pins s1 O H1 _ I1 q1) λu s2 ⟨y,H2,I2,r2,q2⟩ =>
  thn (ho pins s2 O H2 x y v u _ I2 r1 r2 q2) λd s3 ⟨z,H3,I3,r3,k,e,q3⟩=>?_)) hm
 subst e;cases r3;refine wpAny_truthy_bool ?_;cases k with
 |false=>exact ite_ff ⟨.bl false,H3,I3,rfl,q3⟩|true=>exact ite_tt (chain_last (thn (hc pins s3 O H3 _ I3 q3) λw' s4 ⟨z',H4,I4,r4,q4⟩=>ho' pins s4 O H4 y z' u w' Q I4 r2 r4 q4))
def zFM{op op':CmpOp}{r r':R2}(ho:OpR X (compareOp op) r)(ho':OpR X (compareOp op') r')(ha:PE X a ta)(hb:PE X b tb)(hc:PE X c tc)
  (hm:lastMarks [op,op'] [b,c]=false:=by with_unfolding_all rfl):PT X (.Compare a [op,op'] [b,c] pos) (tTest (zDL r r' ta tb tc)):=by
 intro pins s O H Q I h;refine isTrue_chain (thn (ha pins s O H _ I h) λv s1 ⟨x,H1,I1,r1,q1⟩=>test_link (thn (hb pins s1 O H1 _ I1 q1) λu s2 ⟨y,H2,I2,r2,q2⟩ =>
  thn (ho pins s2 O H2 x y v u _ I2 r1 r2 q2) λd s3 ⟨z,H3,I3,r3,k,e,q3⟩=>?_)) hm
 subst e;cases r3;refine wpAny_truthy_bool ?_;cases k with
 |false =>
  obtain⟨k',e',q'⟩:=q3;cases e';exact ite_ff ⟨H3,I3,q'⟩
 |true =>
  refine ite_tt (test_last (thn (hc pins s3 O H3 _ I3 q3) λw' s4 ⟨z',H4,I4,r4,q4⟩=>thn (ho' pins s4 O H4 y z' u w' _ I4 r2 r4 q4) λd' s5 ⟨z2,H5,I5,r5,k2,e2,q5⟩=>?_));subst e2;cases r5;exact wpAny_truthy_bool ⟨H5,I5,q5⟩
def QR:(sizeLine:Nat)<2^63:=by rw[sizeLine_eq];decide
def v9{x:V}{us:List Value}(r:yj [x] us):∃u,us=[u]/\ym x u:=by
 cases r with
 |cons r1 r2=>cases r2;exact⟨_,rfl,r1⟩
def vals2{x y:V}{us:List Value}(r:yj [x,y] us):∃u w',us=[u,w']/\ym x u/\ym y w':=by
 cases r with
 |cons r1 r2 =>
  cases r2 with
  |cons r3 r4=>cases r4;exact⟨_,_,rfl,r1,r3⟩
def zFN:JP X (.builtin "abs") (λxs H Q=>∃i,xs=[.int i]/\Q (.int (if i<0 then -i else i)) H):=by
 intro pins s O H xs us Q I r h;obtain⟨i,rfl,q⟩:=h;obtain⟨u,rfl,t,rfl⟩:=v9 r;exact call_abs_int λu tk=>⟨.int (if i<0 then -i else i),H,I.tok _,⟨_,rfl⟩,q⟩
def zDM(hc:X.calm=true):JP X (.builtin "max") (λxs H Q=>∃i j,xs=[.int i,.int j]/\Q (.int (if j > i then j else i)) H):=by
 intro pins s O H xs us Q I r h;obtain⟨i,j,rfl,q⟩:=h;obtain⟨u,w',rfl,⟨t,rfl⟩,⟨t',rfl⟩⟩:=vals2 r;refine max_two_ints (I.ok.hd hc) λh' tk k=>⟨_,H,I.kept k,?_,q⟩
 by_cases hj:j > i
 ·rw[if_pos hj,if_pos hj];exact⟨_,rfl⟩
 ·rw[if_neg hj,if_neg hj];exact⟨_,rfl⟩
def zDN:JP X (.type "int") (λxs H Q=>(∃i,xs=[.int i]/\Q (.int i) H)\/∃k,xs=[.bl k]/\Q (.int (if k then 1 else 0)) H):=by
 intro pins s O H xs us Q I r h;rcases h with⟨i,rfl,q⟩|⟨k,rfl,q⟩
 ·obtain⟨u,rfl,t,rfl⟩:=v9 r
  exact call_int_int ⟨.int i,H,I,⟨_,rfl⟩,q⟩
 ·obtain⟨u,rfl,r1⟩:=v9 r
  cases r1;exact call_int_bool ⟨.int (if k then 1 else 0),H,I.tok _,⟨_,rfl⟩,q⟩
end
structure Room(k:Nat)(A:Around):Prop where
 hd:A.handled=none
 gd:A.guards=some []
 dp:A.depth+3*k+5<recursionLimit
 un:A.units+16*k+200<cLine
def Room.mono{j k:Nat}{A:Around}(r:Room k A)(h:j<=k):Room j A:=⟨r.hd,r.gd,by have:=r.dp;omega,by have:=r.un;omega⟩
def tNil:TA:=λ_ H Q=>Q [] H
def zDO(ta:TE)(tr:TA):TA:=λO H Q=>ta O H λx H1=>tr O H1 λxs H2=>Q (x::xs) H2
section
variable{X:Cx}{e:Expr}{es:List Expr}{te:TE}{t:TA}{pos:Pos}
def ub:PA X [] tNil:=λ_ _ _ _ H Q I h=>Calls.spliced_nil ⟨[],H,I,.nil,h⟩
def JQ(ha:PE X e te)(hr:PA X es t)(hs:starEach (e::es) X.env=(false,eval e X.env)::starEach es X.env:=by rfl):PA X (e::es) (zDO te t):=by
 intro pos pins s O H Q I h;rw[hs];show wpAny _ _ (spliced ((false,eval e X.env)::backTo pos (starEach es X.env))) _ _ s;refine Calls.spliced_cons (thn (ha pins s O H _ I h) λu s1 ⟨x,H1,I1,r1,q1⟩=>?_);exact thn (hr pos pins s1 O H1 _ I1 q1) λus s2 ⟨xs,H2,I2,r2,q2⟩=>⟨x::xs,H2,I2,.cons r1 r2,q2⟩
def tTup(t:TA):TE:=λO H Q=>t O H λxs H1=>xs.length<=sizeLine/\∀p,H1 p=none->Q (.ref p) (upd H1 p (.t xs))
def tLst(t:TA):TE:=λO H Q=>t O H λxs H1=>xs.length<=sizeLine/\∀p,H1 p=none->Q (.ref p) (upd H1 p (.l xs))
def pe_tup{x1}(h:PA X es t):PE X (.Tuple es x1 pos) (tTup t):=by
 intro pins s O H Q I hq;refine wpAny_Tuple_spliced (thn (h pos pins s O H _ I hq) λus s1 ⟨xs,H1,I1,r,z,q⟩=>⟨by rw[<- r.length];exact z,?_⟩);have hf:H1 s1.heap.objs.size=none:=I1.hok.fresh (le_refl _);refine⟨.ref s1.heap.objs.size,upd H1 s1.heap.objs.size (.t xs),I1.laid (t':=s1.toks) (λb u e=>qA _ e) (le_refl _) ?_,rfl,q _ hf⟩;exact⟨z,us,r,⟨_,get?_push_size _ rfl,rfl,_,rfl⟩⟩
def pe_lst(h:PA X es t):PE X (.List es pos) (tLst t):=by
 intro pins s O H Q I hq;refine wpAny_List_spliced (thn (h pos pins s O H _ I hq) λus s1 ⟨xs,H1,I1,r,z,q⟩=>⟨by rw[<- r.length];exact z,?_⟩);have hf:H1 s1.heap.objs.size=none:=I1.hok.fresh (le_refl _);refine⟨.ref s1.heap.objs.size,upd H1 s1.heap.objs.size (.l xs),I1.laid (t':=s1.toks) (λb u e=>qA _ e) (le_refl _) ?_,rfl,q _ hf⟩;exact⟨z,us,0,r,get?_push_size _ rfl⟩
end
abbrev Sp:=List V->Hp->VK->XK->Prop
abbrev CXT:=List Env->Hp->Shared->XK->Value->Shared->Prop
structure Env0(P:Program)(w:World)(K:qH)(mg:Str->Option Value)(base:Heap)(A:Around)(outer:List Env)(s:Shared)(H:Hp):Prop where
 frames:A.frames=some outer
 mod:Mod K mg base
 bs:∀b o,base.get? b=some o->s.heap.get? b=some o/\H b=none
 bsz:base.objs.size<=s.heap.objs.size
 funs:s.heap.FunFrames base outer
 frf:∀b∈frs outer,H b=none
 hok:HOk P w H s.heap
 bare:AllBare s.gens
def CE(outer:List Env)(P:Program)(w:World)(H:Hp)(s:Shared)(Q:VK)(u:Value)(s':Shared):Prop :=
 ∃v H',s'.os=s.os/\AllBare s'.gens/\Un (frs outer) [] H H' s.heap s'.heap/\HOk P w H' s'.heap/\ym v u/\Q v H'
def CR(CX:CXT)(outer:List Env)(P:Program)(w:World)(H:Hp)(s:Shared)(Q:VK)(E:XK)(r:Result)(s':Shared):Prop :=
 match r with
 | .ok (.ret u)=>CE outer P w H s Q u s'| .ok _=>False| .error e=>CX outer H s E e s'
structure FnOk(P:Program)(w:World)(K:qH)(mg:Str->Option Value)(base:Heap)(CX:CXT)(k:Nat)(f:Addr)(fd:FuncData)(ps:List Str)(sp:Sp):Prop where
 len:∀vs H Q E,sp vs H Q E->vs.length=ps.length
 run:∀(A:Around) (outer:List Env) (s:Shared) (H:Hp) (args:Args) (us:List Value) (vs:List V) (Q:VK) (E:XK),Room k A->Env0 P w K mg base A outer s H->BindsTo s fd args (ps.zip us)->yj vs us->sp vs H Q E ->
  codeAny (model P w) A (.call (.ref f) args) (CR CX outer P w H s Q E) s
theorem FnOk.mono{P:Program}{w:World}{K:qH}{mg:Str->Option Value}{base:Heap}{CX:CXT}{j k:Nat}{f:Addr}{fd:FuncData}{ps:List Str}{sp:Sp}(F:FnOk P w K mg base CX j f fd ps sp)(h:j<=k) :
  FnOk P w K mg base CX k f fd ps sp:=⟨F.len,λA outer s H args us vs Q E hr=>F.run A outer s H args us vs Q E (hr.mono h)⟩
def FnOk.imp{P:Program}{w:World}{K:qH}{mg:Str->Option Value}{base:Heap}{CX:CXT}{k:Nat}{f:Addr}{fd:FuncData}{ps:List Str}{sp sp':Sp}(F:FnOk P w K mg base CX k f fd ps sp)
  (h:∀vs H Q E,sp' vs H Q E->sp vs H Q E):FnOk P w K mg base CX k f fd ps sp' :=
 ⟨λvs H Q E q=>F.len vs H Q E (h _ _ _ _ q),λA outer s H args us vs Q E hr he hb hv hs=>F.run A outer s H args us vs Q E hr he hb hv (h _ _ _ _ hs)⟩
section
variable{X:Cx}{pins:List (Addr×Obj)}{O:St}{H:Hp}{s s':Shared}
def Inv.env0(I:Inv X pins O H s):Env0 X.prog X.w X.K X.mg X.base X.A X.stack s H :=
 ⟨I.ok.frames,I.ok.mod,I.bs,le_trans I.ok.bsz I.sz,I.stack,I.stkFree,I.hok,I.bare⟩
def Inv.after{Q:VK}{u:Value}(I:Inv X pins O H s)(h:CE X.stack X.prog X.w H s Q u s'):EP X pins O Q u s':=by
 obtain⟨v,H',os,bare,un,hok,r,q⟩:=h;obtain⟨hh,g,d,t,os'⟩:=s';obtain rfl:os'=s.os:=os;exact⟨v,H',I.call (h':=hh) (g':=g) (d':=d) (t':=t) (ch:=[]) un hok bare (λb z=>absurd z (by simp)),r,q⟩
end
def WP(K:qH)(fd:FuncData)(ps:List Str)(ds:List Value):Prop :=
 ∀(s:Shared) (us:List Value),K.In s.heap->(us++ds).length=ps.length->BindsTo s fd ⟨us,[]⟩ (ps.zip (us++ds))
def WP.all{K:qH}{fd:FuncData}{ps:List Str}(h:∀us:List Value,us.length=ps.length->bindArgs fd ⟨us,[]⟩=pure (ps.zip us)):WP K fd ps []:=λs us _ hl=>by
 rw[append_nil]at hl ⊢;exact .of_eq (h us hl)
structure FnScope(N P:List Str)(sc:Scope):Prop where
 kind:sc.kind=.function
 co:sc.isCoroutine=false
 gen:sc.isGenerator=false
 nd:N.Nodup
 pre:N.take P.length=P
 par:∀x∈P,sc.names.lookup x=some .local\/sc.names.lookup x=some .cell
 nofree:∀y∈sc.names,y.2≠.free
theorem QS{kindOf:Str->Option NameKind}{x:Str}:∀{binds:List (Str×Value)} {m:Str->Option Value},(∀v,(x,v)∉binds)->bindL kindOf binds m x=m x
 | [],_,_=>rfl
 | (n,v)::r,m,h=>by
  unfold bindL;rw[QS λw hw=>h w (qD _ hw)];split
  ·have:x≠n:=by rintro rfl;exact h v qE
   simp[this]
  ·rfl
theorem QT{kindOf:Str->Option NameKind}{x:Str}:∀{binds:List (Str×Value)} {m:Str->Option Value},(∀v,(x,v)∉binds)->bindC kindOf binds m x=m x
 | [],_,_=>rfl
 | (n,v)::r,m,h=>by
  unfold bindC;rw[QT λw hw=>h w (qD _ hw)];split
  ·rfl
  ·have:x≠n:=by rintro rfl;exact h v qE
   simp[this]
theorem QU{kindOf:Str->Option NameKind}{x:Str}{v:Value}:∀{P:List Str} {vs:List Value} {i:Nat} {m:Str->Option Value},P.Nodup->P[i]?=some x->vs[i]?=some v->kindOf x=some .local ->
  bindL kindOf (P.zip vs) m x=some v
 | [],_,_,_,_,h,_,_=>by simp at h|_::_,[],_,_,_,_,h,_=>by simp at h
 |p::P,w::vs,0,m,nd,h1,h2,hk=>by
  simp at h1 h2;subst h1;subst h2
  show bindL kindOf ((p,w)::P.zip vs) m p=_
  unfold bindL;rw[QS λv hv=>(nodup_cons.mp nd).1 (of_mem_zip hv).1,if_pos hk];simp
 |p::P,w::vs,i+1,m,nd,h1,h2,hk=>by
  show bindL kindOf ((p,w)::P.zip vs) m x=_
  unfold bindL;exact QU (i:=i) (nodup_cons.mp nd).2 (by simpa using h1) (by simpa using h2) hk
theorem QV{kindOf:Str->Option NameKind}{x:Str}{v:Value}:∀{P:List Str} {vs:List Value} {i:Nat} {m:Str->Option Value},P.Nodup->P[i]?=some x->vs[i]?=some v->kindOf x≠some .local ->
  bindC kindOf (P.zip vs) m x=some v
 | [],_,_,_,_,h,_,_=>by simp at h|_::_,[],_,_,_,_,h,_=>by simp at h
 |p::P,w::vs,0,m,nd,h1,h2,hk=>by
  simp at h1 h2;subst h1;subst h2
  show bindC kindOf ((p,w)::P.zip vs) m p=_
  unfold bindC;rw[QT λv hv=>(nodup_cons.mp nd).1 (of_mem_zip hv).1,if_neg hk];simp
 |p::P,w::vs,i+1,m,nd,h1,h2,hk=>by
  show bindC kindOf ((p,w)::P.zip vs) m x=_
  unfold bindC;exact QV (i:=i) (nodup_cons.mp nd).2 (by simpa using h1) (by simpa using h2) hk
def wb(N:List Str)(vs:List V):St:=vs.map some++replicate (N.length-vs.length) none
def cxOf(CX:CXT)(P:Program)(w:World)(K:qH)(mg:Str->Option Value)(base:Heap)(N:List Str)(qual:Str)(scope:Scope)(f:Addr)(cd:Value)(A:Around)(outer:List Env)(s:Shared)(H:Hp)(E:XK):Cx where
 prog:=P
 w:=w
 K:=K
 mg:=mg
 base:=base
 A:=A.deeper (envOfC qual scope s.heap.objs.size f cd)
 N:=N
 s₀:=s
 H₀:=H
 env:=envOfC qual scope s.heap.objs.size f cd
 outer:=outer
 stack:=envOfC qual scope s.heap.objs.size f cd::outer
 ex:=[]
 calm:=true
 fn:=λ_=>true
 pn:=[]
 xe:=λe s'=>wpAny (model P w) (A.deeper (envOfC qual scope s.heap.objs.size f cd)) (leaving (envOfC qual scope s.heap.objs.size f cd) e) (λ_ s''=>CX outer H s E e s'') (λe' s''=>CX outer H s E e' s'') s'
def zBf{sc:Scope}{n:Nat}{x:Str}(h:sc.names.lookup x=some .cell):∃c,(cellsFrom n sc.names []).lookup x=some c:=by
 have q:=cellsFrom_some sc.names n [] (.inl h);exact Option.isSome_iff_exists.mp q
def zDP{CX:CXT}{P:Program}{w:World}{K:qH}{mg:Str->Option Value}{base:Heap}{N ps:List Str}{qual:Str}{scope:Scope}{f:Addr}{cd:Value}{A:Around}{outer:List Env}{s s1:Shared}{H:Hp}{E:XK}{us:List Value}{vs:List V}
  (S:FnScope N ps scope) (hd:A.handled=none) (e0:Env0 P w K mg base A outer s H) (hl:vs.length=ps.length) (r:yj vs us)
  (x:InCallC s s.heap.objs.size (bindL (envOfC qual scope s.heap.objs.size f cd).kindOf (ps.zip us) λ_=>none) (cellsFrom (s.heap.objs.size+1) scope.names []) (bindC (envOfC qual scope s.heap.objs.size f cd).kindOf (ps.zip us) λ_=>none) s1) :
  Inv (cxOf CX P w K mg base N qual scope f cd A outer s H E) [] (wb N vs) H s1:=by
 have hpl:ps.length<=N.length:=by have:=congrArg length S.pre;rw[length_take]at this;omega
 obtain⟨h1,tk,rfl,hk⟩:=x.done;have noA:∀b:Addr,b∉(cxOf CX P w K mg base N qual scope f cd A outer s H E).ex:=λb z=>absurd (show b∈([]:List Addr)from z) (by simp)
 refine⟨⟨e0.mod,S.kind,rfl,rfl,le_refl _,λy z c h1 h2=>?_,λy hy=>?_,λy c _ h=>?_,λ_=>hd,Around.frames_deeper e0.frames,.inr ⟨rfl,rfl⟩,λb z=>absurd z (noA b),e0.bs,e0.bsz,λb _ _=>noA b,λb z=>absurd z (noA b),e0.funs,e0.frf⟩,
  rfl,e0.bare,Un.kept hk,⟨_,x.toInCall.ns,λi y v h1 h2 h3=>?_⟩,λy c h=>⟨_,x.cell y c h⟩,e0.hok.fresh (le_refl _),λy c h=>?_,λp hp=>absurd (show p∈([]:List (Addr×Obj))from hp) (by simp),e0.hok.kept hk,?_⟩
 ·exact name_of_addr x.apart (PySem.mem_of_lookup h1) (PySem.mem_of_lookup h2)
 ·have hy:scope.names.lookup y=some .cell\/scope.names.lookup y=some .free:=hy
  rcases hy with hy|hy
  ·exact zBf hy
  ·exact absurd rfl (S.nofree _ (PySem.mem_of_lookup hy))
 ·exact Nat.le_of_lt (x.above y c (PySem.mem_of_lookup h))
 ·have hi:i<vs.length:=by
   unfold wb at h2;by_cases hi:i<vs.length
   ·exact hi
   ·rw[getElem?_append_right (by simpa using hi)]at h2
    rw[List.getElem?_replicate]at h2;split at h2<;>cases h2
  have ha:vs[i]?=some v:=by
   unfold wb at h2;rw[getElem?_append_left (by simpa using hi),getElem?_map]at h2;cases e:vs[i]? with
   |none=>rw[e]at h2;cases h2|some a=>rw[e]at h2;cases h2;rfl
  obtain⟨u,hu,rv⟩:=r.get ha;have hp:ps[i]?=some y:=by
   rw[<- S.pre,List.getElem?_take_of_lt (by omega)];exact h1
  have ndP:ps.Nodup:=by rw[<- S.pre];exact S.nd.sublist (List.take_sublist _ _)
  refine⟨u,rv,?_⟩;rcases S.par y (mem_of_getElem? hp)with k|k
  ·exact .inl ⟨k,QU ndP hp hu k⟩
  ·obtain⟨c,e⟩:=zBf (n:=s.heap.objs.size+1) k
   refine .inr ⟨.inl k,c,e,?_⟩;have q:=x.cell y c e;rw[QV ndP hp hu (by show scope.names.lookup y≠_;rw[k];decide)]at q;exact q
 ·exact e0.hok.fresh (Nat.le_of_lt (x.above y c (PySem.mem_of_lookup h)))
 ·unfold wb
  show _=N.length
  rw[length_append,length_map,length_replicate];omega
section
variable{X:Cx}{x:Str}{p pos:Pos}{e:Expr}{es:List Expr}{t:TA}{id T:String}{r:List V->Hp->VK->Prop}
def tCB(r:List V->Hp->VK->Prop)(t:TA):TE:=λO H Q=>t O H λvs H1=>r vs H1 Q
def GS(hc:JP X (.builtin id) r)(hg:Gl X x)(hm:X.mg x=none)(hv:bootBuiltins x=some (.builtin id))(ha:PA X (e::es) t)(hn:x≠"__name__":=by decide)(hdb:(x==("__debug__":Str))=false:=by decide)
  (he:starEach (e::es) X.env=(false,eval e X.env)::starEach es X.env:=by rfl) (hpl:(backTo pos (starEach es X.env)).any (·.1)=false:=by rfl):PE X (.Call (.Name x p) (e::es) [] pos) (tCB r t):=by
 intro pins s O H Q I h;refine wpAny_Call_Name_kw (J6 I hg hm hv ?_ hn hdb);exact PyProof.Rows.callWith_builtin1 (thn (ha pos pins s O H _ I h) λus s1 ⟨vs,H1,I1,r1,q1⟩=>hc pins s1 O H1 vs us Q I1 r1 q1) he hpl
def zDQ(hc:JP X (.type T) r)(hg:Gl X x)(hm:X.mg x=none)(hv:bootBuiltins x=some (.type T))(ha:PA X (e::es) t)(hn:x≠"__name__":=by decide)(hdb:(x==("__debug__":Str))=false:=by decide)
  (he:starEach (e::es) X.env=(false,eval e X.env)::starEach es X.env:=by rfl) (hpl:(backTo pos (starEach es X.env)).any (·.1)=false:=by rfl):PE X (.Call (.Name x p) (e::es) [] pos) (tCB r t):=by
 intro pins s O H Q I h;refine wpAny_Call_Name_kw (J6 I hg hm hv ?_ hn hdb);exact PyProof.Rows.callWith_type1 (thn (ha pos pins s O H _ I h) λus s1 ⟨vs,H1,I1,r1,q1⟩=>hc pins s1 O H1 vs us Q I1 r1 q1) he hpl
end
end L2
namespace HT
open PySem PyProof.Rows
section
variable{prog:Program}{w:World}{A:Around}{E:Value->Shared->Prop}{s:Shared}
def cat_tup{t b:Addr}{vs ws:List Value}{Q:Value->Shared->Prop}(ht:IsTup s.heap t vs.toArray)(hb:IsTup s.heap b ws.toArray)(hv:vs≠[])
  (h1:ws=[]->Q (.ref t) s) (h2:ws≠[]->Q (.ref s.heap.objs.size) {s with heap:=s.heap.push {cls:=.type "tuple",data:=.seq (vs++ws).toArray}})
  (hsz:vs.length+ws.length<=sizeLine):wpAny (model prog w) A (binaryOp .Add (.ref t) (.ref b)) Q E s:=by
 obtain⟨⟨cls,dd,data,sl⟩,ho,hc,n,hd⟩:=id ht;obtain⟨⟨cls2,dd2,data2,sl2⟩,ho2,hc2,n2,hd2⟩:=id hb;simp only at hc hd hc2 hd2;subst hc hd hc2 hd2;have e:vs.toArray++ws.toArray=(vs++ws).toArray:=by simp
 by_cases hw:ws=[]
 ·exact concat_meets ⟨_,ho,rfl⟩ ⟨_,ho2,rfl⟩ noFill_tuple_add seq_tuple_add PySem.F.slot_tuple_add PySem.F.entry_tuple_add (PySem.F.args_tuple_add_2 _ _)
   (tuple_addW1 t b vs.toArray ws.toArray n n2 dd dd2 sl sl2 (by simpa using hv) (by simp[hw])) ⟨ho,ho2,h1 hw⟩
 ·refine concat_meets ⟨_,ho,rfl⟩ ⟨_,ho2,rfl⟩ noFill_tuple_add seq_tuple_add PySem.F.slot_tuple_add PySem.F.entry_tuple_add (PySem.F.args_tuple_add_2 _ _)
   (tuple_addW2 t b vs.toArray ws.toArray n n2 dd dd2 sl sl2 (by simpa using hv) (by simpa using hw) (by rw[size_toArray,size_toArray];exact hsz)) ⟨ho,ho2,?_⟩
  rw[e];exact h2 hw
def sIx(n d:Nat):Option Int->Nat
 |none=>d|some v=>if v<0 then(v+(n:Int)).toNat else min v.toNat n
def sIx_nat(n d k:Nat):sIx n d (some (k:Int))=min k n:=by
 show(if(k:Int)<0 then((k:Int)+(n:Int)).toNat else min (k:Int).toNat n)=min k n
 rw[if_neg (by omega),Int.toNat_natCast]
def sIx_le(n d:Nat)(hd:d<=n)(o:Option Int):sIx n d o<=n:=by
 cases o with
 |none=>exact hd
 |some v =>
  show(if v<0 then(v+(n:Int)).toNat else min v.toNat n)<=n
  by_cases hv:v<0
  ·rw[if_pos hv];omega
  ·rw[if_neg hv];exact Nat.min_le_right _ _
def zDR(v:Int)(n d:Nat):(if v<0 then max (v+(n:Int)) 0 else min v (n:Int))=((sIx n d (some v):Nat):Int):=by
 show(if v<0 then max (v+(n:Int)) 0 else min v (n:Int))=(((if v<0 then(v+(n:Int)).toNat else min v.toNat n):Nat):Int)
 by_cases hv:v<0
 ·simp only[if_pos hv];omega
 ·simp only[if_neg hv];omega
def zCc(lo hi:Option Int)(n:Nat):Builtin.Slice.sliceAdjust lo hi 1 (n:Int)=(((sIx n 0 lo:Nat):Int),((sIx n n hi:Nat):Int)):=by
 have h1:¬((1:Int)<0):=by omega
 unfold Builtin.Slice.sliceAdjust;simp only[h1,if_false];refine Prod.ext ?_ ?_
 ·cases lo with
  |none=>rfl|some v=>exact zDR v n 0
 ·cases hi with
  |none=>rfl|some v=>exact zDR v n n
def zCd(i j:Nat):Builtin.Slice.slicePlaces (i:Int) (j:Int) 1=j-i:=by
 unfold Builtin.Slice.slicePlaces;have h1:(1:Int) > 0:=by omega
 simp only[h1,if_true,Int.ediv_one];split<;>omega
def uc{v:Value}{o:Option Int}{Q:Option Int->Shared->Prop}(p:IsPart v o)(h:Q o s):wpAny (model prog w) A (Builtin.Slice.slicePartIndex v) Q E s:=by
 cases p with
 |none=>exact slicePart_none h|int i t=>exact slicePart_int h
def sliceApplied_gen{sl:Addr}{vl vu:Value}{lo hi:Option Int}{n:Nat}{Q:Int×Int×Nat->Shared->Prop}(hs:s.heap.IsSliceOf sl vl vu .none)(pl:IsPart vl lo)(pu:IsPart vu hi)
  (h:Q (((sIx n 0 lo:Nat):Int),1,sIx n n hi-sIx n 0 lo) s):wpAny (model prog w) A (Builtin.Slice.sliceApplied (.ref sl) (pure (n:Int))) Q E s:=by
 obtain⟨os,hos,hcs,hds⟩:=id hs;unfold Builtin.Slice.sliceApplied Builtin.Slice.sliceFields;refine qB (qB (wpAny_field hos hds (x:=vl) rfl (qB (wpAny_field hos hds (x:=vu) rfl (qB (wpAny_field hos hds (x:=.none) rfl (qC ?_)))))));refine qB (slicePart_none ?_);show wpAny _ _ (if((1:Int)==0)=true then _ else _) _ _ s;rw[if_neg (by decide)];refine qB (uc pl (qB (uc pu (qB (qC ?_)))));show wpAny _ _ (match Builtin.Slice.sliceAdjust lo hi 1 (n:Int)with|(lo,hi)=>pure (lo,(1:Int),Builtin.Slice.slicePlaces lo hi 1)) _ _ s
 rw[zCc lo hi n];show wpAny _ _ (pure (((sIx n 0 lo:Nat):Int),(1:Int),Builtin.Slice.slicePlaces ((sIx n 0 lo:Nat):Int) ((sIx n n hi:Nat):Int) 1)) _ _ s;rw[zCd];exact qC h
def zFO(xs:Array Value)(i k:Nat):((List.range k).filterMap λ(m:Nat)=>xs[((i:Int)+(m:Int)*1).toNat]?).toArray=((xs.toList.drop i).take k).toArray:=by
 have e:(λ(m:Nat)=>xs[((i:Int)+(m:Int)*1).toNat]?)=λm=>xs[i+m]?:=by
  funext m
  have:((i:Int)+(m:Int)*1).toNat=i+m:=by omega
  rw[this]
 rw[e];have:=pick_run xs i k;rw[List.filterMap_map]at this;have e2:((λx=>xs[x]?) ∘ λx=>i+x)=λm=>xs[i+m]?:=rfl
 rw[e2]at this;rw[this]
def getItem_tuple_cut{t sl:Addr}{items:Array Value}{vl vu:Value}{lo hi:Option Int}{Q:Value->Shared->Prop}(ht:IsTup s.heap t items)(hs:s.heap.IsSliceOf sl vl vu .none)(pl:IsPart vl lo)(pu:IsPart vu hi)
  (hw:¬(sIx items.size 0 lo=0/\sIx items.size items.size hi=items.size))
  (h:Q (.ref s.heap.objs.size) {s with heap:=s.heap.push {cls:=.type "tuple",data:=.seq ((items.toList.drop (sIx items.size 0 lo)).take (sIx items.size items.size hi-sIx items.size 0 lo)).toArray}})
  (hsz:items.size<=sizeLine):wpAny (model prog w) A (getItem (.ref t) (.ref sl)) Q E s:=by
 have htake:sizeOk (.seq ((items.toList.drop (sIx items.size 0 lo)).take (sIx items.size items.size hi-sIx items.size 0 lo)).toArray):=by
  show((items.toList.drop (sIx items.size 0 lo)).take (sIx items.size items.size hi-sIx items.size 0 lo)).toArray.size<=sizeLine
  rw[size_toArray,length_take,length_drop,Array.length_toList];omega
 have hj:sIx items.size items.size hi<=items.size:=sIx_le _ _ (le_refl _) hi;obtain⟨os,hos,hcs,hds⟩:=id hs;have hTs:s.TypeIs (.ref sl) "slice":=⟨os,hos,hcs⟩;unfold getItem
 try with_reducible refine wpAny_holding ?_
 first|refine qB (qC ?_)|skip
 refine qB (wpAny_sequenceKey ht.typeIs (by decide) ?_);refine qB (wpAny_callSpecial?_slot (name:=Str.ofString "__getitem__") ht.typeIs PyProof.Rows.slot_tuple_getitem
  (wpAny_call_entry PyProof.Rows.slot_tuple_getitem ht.typeIs entry_tuple_getitem ?_ (args_tuple_getitem _ _)))
 show wpAny _ _ (Builtin.Tuple.tupleItemsOf (.ref t) >>= _) _ _ s
 refine qB (tupleItemsOf_ ht ?_);refine qB (wpAny_typeOf hTs ?_);rw[if_pos (by decide)];refine qB (sliceApplied_gen hs pl pu ?_);have hno:¬((((sIx items.size 0 lo:Nat):Int)==0&&(1:Int)==1&&(sIx items.size items.size hi-sIx items.size 0 lo)==items.size)=true):=by
  intro q;rw[Bool.and_eq_true,Bool.and_eq_true]at q;have q1:((sIx items.size 0 lo:Nat):Int)=0:=eq_of_beq q.1.1;have q2:sIx items.size items.size hi-sIx items.size 0 lo=items.size:=eq_of_beq q.2;exact hw ⟨by omega,by omega⟩
 show wpAny _ _ (if(((sIx items.size 0 lo:Nat):Int)==0&&(1:Int)==1&&(sIx items.size items.size hi-sIx items.size 0 lo)==items.size)=true then _ else _) _ _ s
 rw[if_neg hno,zFO]
 first
  |exact qB (m:=Builtin.Tuple.tupleExact _) (wpAny_newObj_type (qC ⟨_,rfl,qC h⟩) htake)
  |exact qB (m:=Builtin.Tuple.tupleExact _) (wpAny_newObj_type (qB (qC (qC ⟨_,rfl,qC h⟩))) htake)
  |exact qB (qB (m:=Builtin.Tuple.tupleExact _) (wpAny_newObj_type (qC (qC ⟨_,rfl,qC h⟩)) htake))
  |exact qB (qB (m:=Builtin.Tuple.tupleExact _) (wpAny_newObj_type (qC ⟨_,rfl,qC h⟩) htake))
end
end HT
namespace L2
open PySem PySem.Spec PyProof.Rows
abbrev TO:=St->Hp->(Option Int->Hp->Prop)->Prop
def PO(X:Cx)(e:Option Expr)(t:TO):Prop :=
 ∀(pins:List (Addr×Obj)) (s:Shared) (O:St) (H:Hp) (Q:Option Int->Hp->Prop),Inv X pins O H s->t O H Q ->
  wpAny (model X.prog X.w) X.A (evalPart e X.env) (λu s'=>∃o H',Inv X pins O H' s'/\IsPart u o/\Q o H') X.xe s
def tNoPart:TO:=λ_ H Q=>Q none H
def tPart(t:TE):TO:=λO H Q=>t O H λx H1=>∃i,x=.int i/\Q (some i) H1
section
variable{X:Cx}{e:Expr}{te:TE}{lo hi:Option Expr}{tl th:TO}{pos p2:Pos}
def po_none:PO X none tNoPart:=by
 intro pins s O H Q I h;rw[evalPart_none];exact qC ⟨none,H,I,.none,h⟩
def po_some(h:PE X e te):PO X (some e) (tPart te):=by
 intro pins s O H Q I hw;rw[evalPart_some];refine thn (h pins s O H _ I hw) λu s1 ⟨x,H1,I1,r1,q1⟩=>?_
 obtain⟨i,rfl,q⟩:=q1;obtain⟨t,rfl⟩:=r1;exact⟨some i,H1,I1,.int i t,q⟩
def SlR(X:Cx)(r:V->Option Int->Option Int->Hp->VK->Prop):Prop :=
 ∀(pins:List (Addr×Obj)) (s:Shared) (O:St) (H:Hp) (x:V) (v vl vu:Value) (lo hi:Option Int) (sl:Addr) (Q:VK),Inv X pins O H s->ym x v->s.heap.IsSliceOf sl vl vu .none->IsPart vl lo->IsPart vu hi->r x lo hi H Q ->
  ∃T id,typeLookup (.type T) "__getitem__"=pure (some (.builtin id))/\s.TypeIs v T/\wpAny (model X.prog X.w) X.A (getItem v (.ref sl)) (EP X pins O Q) X.xe s
def SlR.or{r r':V->Option Int->Option Int->Hp->VK->Prop}(h:SlR X r)(h':SlR X r'):SlR X (λx lo hi H Q=>r x lo hi H Q\/r' x lo hi H Q):=by
 intro pins s O H x v vl vu lo hi sl Q I rx hs pl pu q;rcases q with q|q
 ·exact h pins s O H x v vl vu lo hi sl Q I rx hs pl pu q
 ·exact h' pins s O H x v vl vu lo hi sl Q I rx hs pl pu q
def tSl(r:V->Option Int->Option Int->Hp->VK->Prop)(te:TE)(tl th:TO):TE:=λO H Q=>te O H λx H1=>tl O H1 λl H2=>th O H2 λu H3=>r x l u H3 Q
def zFP{r:V->Option Int->Option Int->Hp->VK->Prop}(hr:SlR X r)(he:PE X e te)(hl:PO X lo tl)(hu:PO X hi th):PE X (.Subscript e (.Slice lo hi none p2) pos) (tSl r te tl th):=by
 intro pins s O H Q I h;refine Subscript_ (thn (he pins s O H _ I h) λv s1 ⟨x,H1,I1,r1,q1⟩=>?_);refine wpAny_Slice (thn (hl pins s1 O H1 _ I1 q1) λvl s2 ⟨l,H2,I2,pl,q2⟩=>thn (hu pins s2 O H2 _ I2 q2) λvu s3 ⟨u,H3,I3,pu,q3⟩=>?_);rw[evalPart_none];refine qC ?_;have I4:Inv X pins O H3 {s3 with heap:=s3.heap.push {cls:=.type "slice",data:=.fields #[vl,vu,.none]}}:=I3.kept (t':=s3.toks) λb ob q=>qA _ q
 obtain⟨T,id,hT,ht,hg⟩:=hr pins {s3 with heap:=s3.heap.push {cls:=.type "slice",data:=.fields #[vl,vu,.none]}} O H3 x v vl vu l u s3.heap.objs.size Q I4 r1 (Heap.IsSliceOf.new ..) pl pu q3
 show wpAny (model X.prog X.w) X.A (subscriptTail e (.Slice lo hi none p2) v (.ref s3.heap.objs.size)) (EP X pins O Q) X.xe {s3 with heap:=s3.heap.push {cls:=.type "slice",data:=.fields #[vl,vu,.none]}}
 exact tail_any (ops:=[.ref s3.heap.objs.size,v]) ht hT hg (by with_unfolding_all rfl)
def zFQ(xs:List V)(lo hi:Option Int):List V:=(xs.drop (HT.sIx xs.length 0 lo)).take (HT.sIx xs.length xs.length hi-HT.sIx xs.length 0 lo)
def Ww(xs:List V)(lo hi:Option Int):(zFQ xs lo hi).length<=xs.length:=by
 unfold zFQ;rw[length_take,length_drop];omega
def rSlT(K:qH):V->Option Int->Option Int->Hp->VK->Prop:=λx lo hi H Q=>∃a xs,x=.ref a/\SqT K H a xs /\
 ¬(HT.sIx xs.length 0 lo=0/\HT.sIx xs.length xs.length hi=xs.length)/\∀p,H p=none->Q (.ref p) (upd H p (.t (zFQ xs lo hi)))
def sl_tup:SlR X (rSlT X.K):=by
 intro pins s O H x v vl vu lo hi sl Q I rx hs pl pu h;obtain⟨a,xs,rfl,hx,hw,q⟩:=h;cases rx;obtain⟨its,r,ht,hz⟩:=I.tuple hx;have hlen:its.toArray.size=xs.length:=by rw[size_toArray];exact r.length.symm
 refine⟨"tuple",_,PyProof.Rows.slot_tuple_getitem.lookup,ht.typeIs,?_⟩;refine HT.getItem_tuple_cut ht hs pl pu (by rw[hlen];exact hw) ?_ (by rw[hlen];exact hz);rw[hlen];refine⟨.ref s.heap.objs.size,_,I.laid (t':=s.toks) (o:=.t (zFQ xs lo hi)) (λb ob q=>qA _ q) (le_refl _) ?_,rfl,q _ (I.hok.fresh (le_refl _))⟩;exact⟨le_trans (Ww xs lo hi) hz,_,(r.drop (HT.sIx xs.length 0 lo)).take (HT.sIx xs.length xs.length hi-HT.sIx xs.length 0 lo),IsTup.new _ _⟩
def rCatT(K:qH):R2:=λx y H Q=>∃a b xs ys,x=.ref a/\y=.ref b/\SqT K H a xs/\SqT K H b ys/\xs≠[]/\xs.length+ys.length<=sizeLine /\
 (ys=[]->Q (.ref a) H)/\(ys≠[]->∀p,H p=none->Q (.ref p) (upd H p (.t (xs++ys))))
def yj.nil_iff{xs:List V}{us:List Value}(r:yj xs us):us=[]↔xs=[]:=by
 cases r with
 |nil=>simp|cons _ _=>simp
def op_catT:OpR X (binaryOp .Add) (rCatT X.K):=by
 intro pins s O H x y v u Q I rx ry h;obtain⟨a,b,xs,ys,rfl,rfl,ha,hb,hx,hz,q1,q2⟩:=h;cases rx;cases ry;obtain⟨its,r1,p1,_⟩:=I.tuple ha;obtain⟨its2,r2,p2,_⟩:=I.tuple hb;refine HT.cat_tup p1 p2 (λz=>hx (r1.nil_iff.mp z)) (λz=>⟨.ref a,H,I,rfl,q1 (r2.nil_iff.mp z)⟩) (λz=>?_) (by rw[<- r1.length,<- r2.length];exact hz);refine⟨.ref s.heap.objs.size,_,I.laid (t':=s.toks) (o:=.t (xs++ys)) (λb ob q=>qA _ q) (le_refl _) ?_,rfl,q2 (λw=>z (r2.nil_iff.mpr w)) _ (I.hok.fresh (le_refl _))⟩;exact⟨by rw[length_append];exact hz,_,r1.append r2,IsTup.new _ _⟩
end
def ixN(n:Nat)(i:Int):Option Nat:=if 0<=i then(if i<n then some i.toNat else none)else if -(n:Int)<=i then some (i+n).toNat else none
def atI{α:Type}(xs:List α)(i:Int):Option α:=(ixN xs.length i).bind λj=>xs[j]?
def zDS{n:Nat}{i:Int}{j:Nat}(h:ixN n i=some j):seqIndex? i n=some j/\j<n/\-(n:Int)<=i/\i<n:=by
 unfold ixN at h;by_cases h0:0<=i
 ·rw[if_pos h0]at h
  by_cases h1:i<n
  ·rw[if_pos h1]at h
   have e:i.toNat=j:=qJ h;exact⟨by rw[seqIndex_of h0 h1,e],by omega,by omega,h1⟩
  ·rw[if_neg h1]at h;cases h
 ·rw[if_neg h0]at h
  by_cases h1:-(n:Int)<=i
  ·rw[if_pos h1]at h
   have e:(i+n).toNat=j:=qJ h;exact⟨by rw[seqIndex_neg (by omega) h1,e],by omega,h1,by omega⟩
  ·rw[if_neg h1]at h;cases h
def zDT{α:Type}{xs:List α}{i:Int}{v:α}(h:atI xs i=some v):∃j,seqIndex? i xs.length=some j/\xs[j]?=some v/\j<xs.length/\-(xs.length:Int)<=i/\i<xs.length:=by
 unfold atI at h;cases e:ixN xs.length i with
 |none=>rw[e]at h;cases h
 |some j =>
  rw[e]at h;obtain⟨h1,h2,h3,h4⟩:=zDS e;exact⟨j,h1,h,h2,h3,h4⟩
def ZL(b:Expr):Prop:=∀o i,subscripted b false o i=operate [o,i] (getItem o i)
def IxR(X:Cx)(r:R2):Prop :=
 ∀(value slice:Expr) (pins:List (Addr×Obj)) (s:Shared) (O:St) (H:Hp) (x y:V) (v u:Value) (Q:VK),Inv X pins O H s->ym x v->ym y u->r x y H Q ->
  subscripted slice false v u=operate [v,u] (getItem v u)->wpAny (model X.prog X.w) X.A (subscriptTail value slice v u) (EP X pins O Q) X.xe s
def MtR(X:Cx)(id:String)(r:V->List V->Hp->VK->Prop):Prop :=
 ∀(pins:List (Addr×Obj)) (s:Shared) (O:St) (H:Hp) (x:V) (xs:List V) (v:Value) (us:List Value) (Q:VK),Inv X pins O H s->ym x v->yj xs us->r x xs H Q ->
  wpAny (model X.prog X.w) X.A (call (.builtin id) (v::us)) (EP X pins O Q) X.xe s
section
variable{X:Cx}{a b:Expr}{ta tb:TE}{pos:Pos}
def IxR.or{r r':R2}(h:IxR X r)(h':IxR X r'):IxR X (λx y H Q=>r x y H Q\/r' x y H Q):=by
 intro value slice pins s O H x y v u Q I rx ry q hs;rcases q with q|q
 ·exact h value slice pins s O H x y v u Q I rx ry q hs
 ·exact h' value slice pins s O H x y v u Q I rx ry q hs
def pe_ix{r:R2}(hr:IxR X r)(ha:PE X a ta)(hb:PE X b tb)(hs:ZL b):PE X (.Subscript a b pos) (tOp r ta tb):=by
 intro pins s O H Q I h;exact Subscript_ (binT ha hb I h λv u s2 x y H2 I2 rx ry q=>hr a b pins s2 O H2 x y v u Q I2 rx ry q (hs _ _))
def rIxL(K:qH):R2:=λx y H Q=>∃p xs i v,x=.ref p/\y=.int i/\SqL K H p xs/\atI xs i=some v/\Q v H
def rIxT(K:qH):R2:=λx y H Q=>∃p xs i v,x=.ref p/\y=.int i/\SqT K H p xs/\atI xs i=some v/\Q v H
def zDU:IxR X (rIxL X.K):=by
 intro value slice pins s O H x y v u Q I rx ry h hs;obtain⟨p,xs,i,z,rfl,rfl,hq,he,q⟩:=h;cases rx;obtain⟨t,rfl⟩:=ry;obtain⟨its,r,pl,hz⟩:=I.list hq;obtain⟨j,h1,h2,h3,h4,h5⟩:=zDT he;obtain⟨w,ew,rw'⟩:=r.get h2;have hl:=r.length;have hn:=QR;have fin:EP X pins O Q w s:=⟨z,H,I,rw',q⟩;by_cases h0:0<=i
 ·have hj:i.toNat=j:=by
   rw[seqIndex_of h0 h5]at h1;exact qJ h1
  exact item_listR pl.isList h0 (by omega) (by rw[hj];simpa using ew) fin hs
 ·have hj:(i+(its.toArray.size:Int)).toNat=j:=by
   rw[seqIndex_neg (by omega) h4]at h1;rw[size_toArray,<- hl];exact qJ h1
  exact subscriptTail_builtinR (x:=w) pl.isList.typeIs slot_list_getitem.lookup
   (wpAny_getItem_list_neg (Q:=λr s'=>r=w/\EP X pins O Q r s') pl.isList (by omega) (by rw[size_toArray]<;>omega) (by omega) (by rw[hj];simpa using ew) ⟨rfl,fin⟩) hs
def zGu:IxR X (rIxT X.K):=by
 intro value slice pins s O H x y v u Q I rx ry h hs;obtain⟨p,xs,i,z,rfl,rfl,hq,he,q⟩:=h;cases rx;obtain⟨t,rfl⟩:=ry;obtain⟨its,r,pl,hz⟩:=I.tuple hq;obtain⟨j,h1,h2,h3,h4,h5⟩:=zDT he;obtain⟨w,ew,rw'⟩:=r.get h2;have hl:=r.length;have hn:=QR;have fin:EP X pins O Q w s:=⟨z,H,I,rw',q⟩;exact subscriptTail_builtinR (x:=w) pl.typeIs slot_tuple_getitem.lookup
  (getItem_tuple (j:=j) (Q:=λr s'=>r=w/\EP X pins O Q r s') pl (by omega) (by omega) (by rw[size_toArray,<- hl];exact h1) (by simpa using ew) ⟨rfl,fin⟩) hs
def zCe(its:List Value)(n j:Nat)(u:Value):Obj.mapSeq (·.setIfInBounds j u) {cls:=.type "list",data:=.seq its.toArray n}={cls:=.type "list",data:=.seq (its.set j u).toArray n}:=by
 simp[Obj.mapSeq]
theorem Inv.lst{pins:List (Addr×Obj)}{O:St}{H:Hp}{s:Shared}{p:Addr}{xs:List V}(I:Inv X pins O H s)(h:H p=some (.l xs)) :
  ∃(its:List Value) (n:Nat),yj xs its/\s.heap.get? p=some {cls:=.type "list",data:=.seq its.toArray n}/\xs.length<=sizeLine:=by
 obtain⟨z,its,n,r,e⟩:=I.hok p _ h;exact⟨its,n,r,e,z⟩
def Inv.lstUpd{pins:List (Addr×Obj)}{O:St}{H:Hp}{s:Shared}{p:Addr}{xs ys:List V}{its its':List Value}{n n':Nat}{f:Obj->Obj}(I:Inv X pins O H s)(h:H p=some (.l xs))
  (ho:s.heap.get? p=some {cls:=.type "list",data:=.seq its.toArray n}) (hf:f {cls:=.type "list",data:=.seq its.toArray n}={cls:=.type "list",data:=.seq its'.toArray n'}) (r:yj ys its') (hz:ys.length<=sizeLine) (t:Nat) :
  Inv X pins O (upd H p (.l ys)) {s with heap:=s.heap.update p f,toks:=t}:=by
 have e:(s.heap.update p f).get? p=some {cls:=.type "list",data:=.seq its'.toArray n'}:=by
  rw[get?_update_self f ho (by rw[hf]<;>rfl),hf]
 refine I.write (x:=p) (e:=p) (by rw[h];trivial) (.inl rfl) (λb u hb q=>(get?_update_other _ _ (Ne.symm hb)).trans q) ⟨_,e⟩ ?_;exact⟨hz,its',n',r,e⟩
def rSetL:V->V->V->Hp->(Hp->Prop)->Prop:=λo i v H Q=>∃p xs k j,o=.ref p/\i=.int k/\H p=some (.l xs)/\ixN xs.length k=some j/\Q (upd H p (.l (xs.set j v)))
def zBg:PSet X rSetL:=by
 intro pins s O H o i v ov iv u Q I ro ri rv h;obtain⟨p,xs,k,j,rfl,rfl,hp,hj,q⟩:=h;cases ro;obtain⟨t,rfl⟩:=ri;obtain⟨its,n,r,ho,hz⟩:=I.lst hp;obtain⟨h1,h2,h3,h4⟩:=zDS hj;have hl:=r.length;have hn:=QR;have I':Inv X pins O (upd H p (.l (xs.set j v))) {s with heap:=s.heap.update p (Obj.mapSeq (·.setIfInBounds j u))} :=
  I.lstUpd hp ho (zCe its n j u) (r.set rv j) (by rw[List.length_set];exact hz) s.toks
 by_cases h0:0<=k
 ·have hk:k.toNat=j:=by
   rw[seqIndex_of h0 h4]at h1;exact qJ h1
  exact PySem.W.ki_setAt ho h0 (by omega) (by rw[size_toArray,<- hl];exact h4) (by rw[hk];exact⟨_,I',q⟩)
 ·have hk:(k+(its.toArray.size:Int)).toNat=j:=by
   rw[seqIndex_neg (by omega) h3]at h1;rw[size_toArray,<- hl];exact qJ h1
  exact PySem.W.ki_setBack ho (by omega) (by rw[size_toArray,<- hl];exact h3) (by omega) (by rw[hk];exact⟨_,I',q⟩)
def QW(lo hi:Option Int)(n:Nat):(sliceBounds lo hi none n).1=((HT.sIx n 0 lo:Nat):Int)/\(sliceBounds lo hi none n).2.1=((HT.sIx n n hi:Nat):Int)/\(sliceBounds lo hi none n).2.2=1:=by
 refine⟨?_,?_,rfl⟩
 ·cases lo with
  |none=>simp[sliceBounds,HT.sIx]
  |some i =>
   simp only[sliceBounds,HT.sIx,Option.getD_none,show(1:Int) > 0 by decide,if_true];by_cases h:i<0
   ·simp only[h,if_true]<;>omega
   ·simp only[h,if_false]<;>omega
 ·cases hi with
  |none=>simp[sliceBounds,HT.sIx]
  |some i =>
   simp only[sliceBounds,HT.sIx,Option.getD_none,show(1:Int) > 0 by decide,if_true];by_cases h:i<0
   ·simp only[h,if_true]<;>omega
   ·simp only[h,if_false]<;>omega
def GT(its:List Value)(lo hi:Option Int):slicePick its.toArray lo hi none=((its.drop (HT.sIx its.length 0 lo)).take (HT.sIx its.length its.length hi-HT.sIx its.length 0 lo)).toArray:=by
 obtain⟨h1,h2,h3⟩:=QW lo hi its.toArray.size;unfold slicePick;rw[h1,h2,h3];simp only[sliceRange_one,pick_run,size_toArray]<;>rfl
def rSlL(K:qH):V->Option Int->Option Int->Hp->VK->Prop:=λx lo hi H Q=>∃a xs,x=.ref a/\SqL K H a xs/\∀p,H p=none->Q (.ref p) (upd H p (.l (zFQ xs lo hi)))
def sl_list:SlR X (rSlL X.K):=by
 intro pins s O H x v vl vu lo hi sl Q I rx hs pl pu h;obtain⟨a,xs,rfl,hx,q⟩:=h;cases rx;obtain⟨its,r,ht,hz⟩:=I.list hx;have hlen:=r.length;refine⟨"list",_,slot_list_getitem.lookup,ht.isList.typeIs,?_⟩;refine wpAny_getItem_list_slice ht.isList hs pl pu .none (by simp) ?_ (by rw[size_toArray]<;>omega);rw[GT,<- hlen];refine⟨.ref s.heap.objs.size,_,I.laid (t':=s.toks) (o:=.l (zFQ xs lo hi)) (λb ob q=>qA _ q) (le_refl _) ?_,rfl,q _ (I.hok.fresh (le_refl _))⟩;exact⟨le_trans (Ww xs lo hi) hz,_,0,(r.drop (HT.sIx xs.length 0 lo)).take (HT.sIx xs.length xs.length hi-HT.sIx xs.length 0 lo),get?_push_size _ rfl⟩
def uA:V->Bool
 | .non=>true| .bl _=>true| .int _=>true| .str _=>true|_=>false
def eqV:V->V->Bool
 | .non,.non=>true| .bl a,.bl b=>a==b| .bl a,.int b=>(if a then 1 else 0)==b| .int a,.bl b=>a==(if b then 1 else 0)| .int a,.int b=>a==b| .str a,.str b=>a==b|_,_=>false
def zBh{A:Around}{s:Shared}{y x:V}{u v:Value}(ry:ym y u)(rx:ym x v)(fy:uA y=true)(fx:uA x=true):SeqAt.EqAt A s u v (eqV y x):=by
 cases y with
 |non =>
  cases ry;cases x with
  |non=>cases rx;exact SeqAt.EqAt.same _|bl b=>cases rx;exact SeqAt.EqAt.none_bool b|int b=>obtain⟨t,rfl⟩:=rx;exact SeqAt.EqAt.none_int b t|str b=>obtain⟨t,rfl⟩:=rx;exact SeqAt.EqAt.none_str b t|_=>exact absurd (show false=true from fx) qF
 |bl a =>
  cases ry;cases x with
  |non=>cases rx;exact SeqAt.EqAt.bool_none a|bl b=>cases rx;exact SeqAt.EqAt.bool_bool a b|int b=>obtain⟨t,rfl⟩:=rx;exact SeqAt.EqAt.bool_int a b t|str b=>obtain⟨t,rfl⟩:=rx;exact SeqAt.EqAt.bool_str a b t|_=>exact absurd (show false=true from fx) qF
 |int a =>
  obtain⟨t',rfl⟩:=ry;cases x with
  |non=>cases rx;exact SeqAt.EqAt.int_none a t'|bl b=>cases rx;exact SeqAt.EqAt.int_bool a t' b|int b=>obtain⟨t,rfl⟩:=rx;exact SeqAt.EqAt.int_int a t' b t|str b=>obtain⟨t,rfl⟩:=rx;exact SeqAt.EqAt.int_str a t' b t|_=>exact absurd (show false=true from fx) qF
 |str a =>
  obtain⟨t',rfl⟩:=ry;cases x with
  |non=>cases rx;exact SeqAt.EqAt.str_none a t'|bl b=>cases rx;exact SeqAt.EqAt.str_bool a t' b|int b=>obtain⟨t,rfl⟩:=rx;exact SeqAt.EqAt.str_int a t' b t|str b=>obtain⟨t,rfl⟩:=rx;exact SeqAt.EqAt.str_str a t' b t|_=>exact absurd (show false=true from fx) qF
 |_=>exact absurd (show false=true from fy) qF
def eqU(x:V)(u:Value):Bool:=match u with
 | .none=>eqV .non x| .bool b=>eqV (.bl b) x| .int i _=>eqV (.int i) x| .str z _=>eqV (.str z) x|_=>false
def zGv{x y:V}{u:Value}(r:ym y u)(f:uA y=true):eqU x u=eqV y x:=by
 cases y with
 |non=>cases r;rfl|bl b=>cases r;rfl|int i=>obtain⟨t,rfl⟩:=r;rfl|str z=>obtain⟨t,rfl⟩:=r;rfl|_=>exact absurd (show false=true from f) qF
theorem Wx{x:V}:∀{xs:List V} {us:List Value},yj xs us->xs.all uA=true->us.any (eqU x)=xs.any λy=>eqV y x
 |_,_,.nil,_=>rfl
 |y::xs,u::us,.cons r t,f=>by
  rw[all_cons,Bool.and_eq_true]at f;rw[any_cons,any_cons,zGv r f.1,Wx t f.2]
theorem Yn{A:Around}{s:Shared}{x:V}{v:Value}(rx:ym x v)(fx:uA x=true):∀{xs:List V} {us:List Value},yj xs us->xs.all uA=true->∀u∈us,SeqAt.EqAt A s u v (eqU x u)
 |_,_,.nil,_=>λu hu=>by cases hu
 |y::xs,u::us,.cons r t,f=>λu' hu=>by
  rw[all_cons,Bool.and_eq_true]at f;rcases mem_cons.mp hu with rfl|hu
  ·rw[zGv r f.1];exact zBh r rx f.1 fx
  ·exact Yn rx fx t f.2 u' hu
def inV(x:V)(xs:List V):Bool:=xs.any λy=>eqV y x
def rIn(K:qH)(neg:Bool):R2:=λx y H Q=>∃p xs,y=.ref p/\(SqL K H p xs\/SqT K H p xs)/\uA x=true/\xs.all uA=true/\Q (.bl (if neg then !inV x xs else inV x xs)) H
def QX:OpR X (compareOp .In) (rIn X.K false):=by
 intro pins s O H x y v u Q I rx ry h;obtain⟨p,xs,rfl,hq,fx,fs,q⟩:=h;cases ry;rcases hq with hq|hq
 ·obtain⟨its,r,pl,hz⟩:=I.list hq
  refine SeqAt.in_listAt (eqU x) pl.isList (λw hw=>Yn rx fx r fs w (by simpa using hw)) ⟨.bl _,H,I,rfl,?_⟩;rw[show its.toArray.any (eqU x)=its.any (eqU x)by simp,Wx r fs];exact q
 ·obtain⟨its,r,pl,hz⟩:=I.tuple hq
  refine SeqAt.in_tupleAt (eqU x) pl (λw hw=>Yn rx fx r fs w (by simpa using hw)) ⟨.bl _,H,I,rfl,?_⟩;rw[show its.toArray.any (eqU x)=its.any (eqU x)by simp,Wx r fs];exact q
def Zs:OpR X (compareOp .NotIn) (rIn X.K true):=by
 intro pins s O H x y v u Q I rx ry h;obtain⟨p,xs,rfl,hq,fx,fs,q⟩:=h;cases ry;rcases hq with hq|hq
 ·obtain⟨its,r,pl,hz⟩:=I.list hq
  refine SeqAt.notIn_listAt (eqU x) pl.isList (λw hw=>Yn rx fx r fs w (by simpa using hw)) ⟨.bl _,H,I,rfl,?_⟩;rw[show its.toArray.any (eqU x)=its.any (eqU x)by simp,Wx r fs];exact q
 ·obtain⟨its,r,pl,hz⟩:=I.tuple hq
  refine SeqAt.notIn_tupleAt (eqU x) pl (λw hw=>Yn rx fx r fs w (by simpa using hw)) ⟨.bl _,H,I,rfl,?_⟩;rw[show its.toArray.any (eqU x)=its.any (eqU x)by simp,Wx r fs];exact q
def Zt:JP X (.builtin "len") (λxs H Q=>∃p ys,xs=[.ref p]/\(SqL X.K H p ys\/SqT X.K H p ys)/\Q (.int ys.length) H):=by
 intro pins s O H xs us Q I r h;obtain⟨p,ys,rfl,hq,q⟩:=h;obtain⟨u,rfl,rx⟩:=v9 r;cases rx;have hn:=QR;rcases hq with hq|hq
 ·obtain⟨its,r',pl,hz⟩:=I.list hq
  have hlen:=r'.length;exact Calls.call_len_list pl.isList (by simp only[size_toArray]<;>omega) ⟨.int ys.length,H,I.tok _,⟨s.toks+1,by rw[size_toArray,hlen]⟩,q⟩
 ·obtain⟨its,r',pl,hz⟩:=I.tuple hq
  have hlen:=r'.length;exact len_tuple pl (by simp only[size_toArray]<;>omega) ⟨.int ys.length,H,I.tok _,⟨s.toks+1,by rw[size_toArray,hlen]⟩,q⟩
def GU:JP X (.type "tuple") (λxs H Q=>∃p ys,xs=[.ref p]/\((SqL X.K H p ys/\∀l,H l=none->Q (.ref l) (upd H l (.t ys)))\/(SqT X.K H p ys/\Q (.ref p) H))):=by
 intro pins s O H xs us Q I r h;obtain⟨p,ys,rfl,h⟩:=h;obtain⟨u,rfl,rx⟩:=v9 r;cases rx;rcases h with⟨hq,q⟩|⟨hq,q⟩
 ·obtain⟨its,r',pl,hz⟩:=I.list hq
  have hlen:=r'.length;refine call_tuple_list pl.isList (λh' kp=>?_) (by simp only[size_toArray]<;>omega);have I1:Inv X pins O H {s with heap:=h'}:=I.kept (t':=s.toks) kp
  have I2:Inv X pins O (upd H h'.objs.size (.t ys)) {s with heap:=h'.push {cls:=.type "tuple",data:=.seq its.toArray}} :=
   I1.laid (t':=s.toks) (λb o e=>qA _ e) (le_refl _) (show jy X.prog X.w _ _ _ (.t ys)from⟨hz,its,r',IsTup.new _ _⟩)
  exact⟨.ref h'.objs.size,_,I2,rfl,q _ (I1.hok.fresh (le_refl _))⟩
 ·obtain⟨its,r',pl,hz⟩:=I.tuple hq
  exact call_tuple_same pl ⟨.ref p,H,I,rfl,q⟩
def tyV(K:qH)(T:String)(x:V)(H:Hp):Prop:=match x with
 | .str _=>T="str"| .int _=>T="int"
 | .ref p=>(T="list"/\∃xs,SqL K H p xs)\/(T="tuple"/\∃o,K.lookup p=some o/\o.cls=.type "tuple"/\o.dict=none) \/
   (T="dict"/\((∃kvs,H p=some (.dK kvs))\/∃kvs,H p=some (.dT kvs)))\/(T="set"/\∃S n,H p=some (.set S n))
 |_=>False
def tyV_is{pins:List (Addr×Obj)}{O:St}{H:Hp}{s:Shared}{T:String}{x:V}{v:Value}(I:Inv X pins O H s)(r:ym x v)(ty:tyV X.K T x H) :
  s.TypeIs v T/\∀a,v=.ref a->∃ob,s.heap.get? a=some ob/\ob.dict=none:=by
 cases x with
 |str z =>
  obtain⟨t,rfl⟩:=r;cases (show T="str" from ty);exact⟨typeIs_str s z t,λ_ e=>nomatch e⟩
 |int i =>
  obtain⟨t,rfl⟩:=r;cases (show T="int" from ty);exact⟨typeIs_int s i t,λ_ e=>nomatch e⟩
 |ref p =>
  cases r;rcases ty with⟨rfl,xs,hq⟩|⟨rfl,o,hk,hc,hd⟩|⟨rfl,hk⟩|⟨rfl,S,n,hk⟩
  ·obtain⟨its,_,pl,_⟩:=I.list hq
   refine⟨pl.isList.typeIs,λa e=>?_⟩;cases e;obtain⟨o,n,e,c,hd,_⟩:=pl;exact⟨o,e,hd⟩
  ·refine⟨⟨o,I.kIn p o hk,hc⟩,λa e=>?_⟩
   cases e;exact⟨o,I.kIn _ o hk,hd⟩
  ·have z:∃o,s.heap.get? p=some o/\o.ExactDict:=by
    rcases hk with⟨kvs,hk⟩|⟨kvs,hk⟩
    ·obtain⟨_,_,_,_,o,_,_,e,ex,_⟩:=I.hok p _ hk
     exact⟨o,e,ex⟩
    ·obtain⟨_,_,_,_,o,_,_,e,ex,_⟩:=I.hok p _ hk
     exact⟨o,e,ex⟩
   obtain⟨o,e,ex⟩:=z;refine⟨⟨o,e,ex.1⟩,λa e2=>?_⟩;cases e2;exact⟨o,e,ex.2.1⟩
  ·obtain⟨o,_,_,_,e,ex,_⟩:=I.hok p _ hk
   refine⟨⟨o,e,ex.1⟩,λa e2=>?_⟩;cases e2;exact⟨o,e,ex.2.1⟩
 |_=>exact False.elim ty
def tBM(K:qH)(T:String)(r:V->List V->Hp->VK->Prop)(to:TE)(t:TA):TE:=λO H Q=>to O H λx H1=>tyV K T x H1/\t O H1 λxs H2=>r x xs H2 Q
variable{o e:Expr}{es:List Expr}{to:TE}{t:TA}{name:Str}{apos cpos:Pos}{T id:String}{r:V->List V->Hp->VK->Prop}
def pe_bm(pa:PlainAttrs T)(slot:Slot T name id)(hty:typeOf (.builtin id)=pure (.type "method_descriptor"))(hm:MtR X id r)(ho:PE X o to)(ha:PA X (e::es) t)
  (hbase:attributeBase o name X.env (eval o X.env)=eval o X.env:=by rfl)
  (hfew:((backTo cpos (starEach (e::es) X.env)).all (λx=>!x.1)&&(backToKw cpos (keywordEach [] X.env)).all (λx=>x.1.isSome)
   && decide ((e::es).length+([]:List Keyword).length+(if([]:List Keyword).isEmpty then 0 else 1)<30))=true:=by rfl)
  (hline:(apos.endLine==cpos.line)=true:=by rfl) (hs:starEach (e::es) X.env=(false,eval e X.env)::starEach es X.env:=by rfl) (hplain:(backTo cpos (starEach es X.env)).any (·.1)=false:=by rfl) :
  PE X (.Call (.Attribute o name apos) (e::es) [] cpos) (tBM X.K T r to t):=by
 intro pins s O H Q I h;refine wpAny_Call_method_late hbase hfew hline rfl (thn (ho pins s O H _ I h) λv s1 ⟨x,H1,I1,r1,ty,q1⟩=>?_);obtain⟨h1,h2⟩:=tyV_is I1 r1 ty;refine⟨T,id,pa,slot,hty,h1,h2,?_⟩;have hA:=ha cpos pins s1 O H1 _ I1 q1;rw[hs]at hA ⊢;refine Calls.callWith_builtin (by show(false||(backTo cpos (starEach es X.env)).any (·.1))=false;rw[hplain]<;>rfl) (Calls.evalArgs_plain ?_);exact thn hA λus s2 ⟨vs,H2,I2,r2,q2⟩=>hm pins s2 O H2 x vs v us Q I2 r1 r2 q2
end
def MtM(X:Cx)(id:String)(r:V->List V->Hp->VK->Prop):Prop :=
 ∀(pins:List (Addr×Obj)) (s:Shared) (O:St) (H:Hp) (x:V) (xs:List V) (v:Value) (us:List Value) (Q:VK),Inv X pins O H s->ym x v->yj xs us->r x xs H Q ->
  wpAny (model X.prog X.w) X.A (call (.builtin id) (v::us)) (EP X pins O Q) X.xe s
def yj.one:∀{x:V} {us:List Value},yj [x] us->∃u,us=[u]/\ym x u
 |_,_,.cons r .nil=>⟨_,rfl,r⟩
theorem yj.rep{xs:List V}{us:List Value}(h:yj xs us):∀k:Nat,yj (replicate k xs).flatten (replicate k us).flatten
 |0=>.nil
 |k+1=>by
  rw[replicate_succ,replicate_succ,flatten_cons,flatten_cons];exact yj.append h (yj.rep h k)
theorem Wy(its:List Value):∀(k:Nat) (acc:List Value),
  foldl (λx1 x2=>x1++x2) acc.toArray (replicate k its.toArray)=(acc++(replicate k its).flatten).toArray
 |0,acc=>by simp
 |k+1,acc=>by
  have e:acc.toArray++its.toArray=(acc++its).toArray:=by simp
  have e2:(acc++its)++(replicate k its).flatten=acc++(replicate (k+1) its).flatten:=by
   rw[replicate_succ,flatten_cons,append_assoc]
  rw[<- e2,<- Wy its k (acc++its),<- e,replicate_succ,List.foldl_cons]
section
variable{X:Cx}{pins:List (Addr×Obj)}{O:St}{H:Hp}{s:Shared}{l b:Addr}{xs ys zs:List V}
def Inv.lset{its its':List Value}{n:Nat}{f:Array Value->Array Value}{t':Nat}(I:Inv X pins O H s)(hH:H l=some (.l xs))
  (e:s.heap.get? l=some {cls:=.type "list",data:=.seq its.toArray n}) (hf:f its.toArray=its'.toArray) (hv:yj ys its') (hz:ys.length<=sizeLine) :
  Inv X pins O (upd H l (.l ys)) {s with heap:=s.heap.update l (Obj.mapSeq f),toks:=t'}:=by
 have q:=PySem.IsL.update e f;rw[hf]at q;refine I.write (x:=l) (e:=l) (by rw[hH];exact trivial) (.inl rfl) (λb' u hb hu=>(get?_update_other s.heap (Obj.mapSeq f) (Ne.symm hb)).trans hu) ⟨_,q⟩ ?_;exact⟨hz,its',_,hv,q⟩
def Inv.lnew{its:List Value}{t':Nat}(I:Inv X pins O H s)(hv:yj ys its)(hz:ys.length<=sizeLine) :
  Inv X pins O (upd H s.heap.objs.size (.l ys)) {s with heap:=s.heap.push {cls:=.type "list",data:=.seq its.toArray},toks:=t'} :=
 I.laid (λ_ _ q=>qA _ q) (le_refl _) ⟨hz,its,0,hv,get?_push_size _ rfl⟩
theorem Inv.fresh(I:Inv X pins O H s):H s.heap.objs.size=none:=I.hok.fresh (le_refl _)
def Inv.lstM(I:Inv X pins O H s)(hH:H l=some (.l xs)):xs.length<=sizeLine/\∃(its:List Value) (n:Nat),yj xs its/\xs.length=its.length/\s.heap.get? l=some {cls:=.type "list",data:=.seq its.toArray n}:=by
 obtain⟨z,its,n,r,e⟩:=I.hok l _ hH;exact⟨z,its,n,r,r.length,e⟩
def zFR{n:Nat}(h:n<=sizeLine):Builtin.List.listTooLong n=false:=by
 unfold Builtin.List.listTooLong;exact decide_eq_false (by omega)
end
section
variable{X:Cx}
def zDV:V->List V->Hp->VK->Prop:=λx vs H Q=>∃l xs y,x=.ref l/\vs=[y]/\H l=some (.l xs)/\xs.length<sizeLine/\Q .non (upd H l (.l (xs++[y])))
def Wz:MtM X "list.append" zDV:=by
 intro pins s O H x vs v us Q I rx rv h;obtain⟨l,xs,y,rfl,rfl,hH,hz,q⟩:=h;cases rx;obtain⟨u,rfl,ru⟩:=rv.one;obtain⟨z,its,n,r,hl,e⟩:=I.lstM hH;refine call_meets F.slot_list_append ⟨_,e,rfl⟩ F.entry_list_append (F.args_list_append_2 _ _) (PySem.list_append l its.toArray n u (by rw[size_toArray];omega)) ⟨e,?_⟩;refine⟨.non,_,I.lset (its':=its++[u]) hH e (by simp) (r.append (.cons ru .nil)) ?_,rfl,q⟩;rw[length_append,List.length_singleton];omega
def zAf{α:Type}(xs:List α)(k:Nat):(replicate k xs).flatten.length=k*xs.length:=by
 induction k with
 |zero=>simp|succ k ih=>rw[replicate_succ,flatten_cons,length_append,ih,Nat.succ_mul,Nat.add_comm]
end
end L2
namespace Att
open PySem PySem.W PySem.Calls PyProof.Rows
def W0{P:Params}{h:Heap}:∀(ns:List Int) (vs:List Value),WellAll P h vs (ns.map WData.int)->IntsAre vs ns:=by
 intro ns
 induction ns with
 |nil =>
  intro vs w;rw[map_nil]at w;cases w;exact .nil
 |cons n ns ih =>
  intro vs w;rw[map_cons]at w;cases w with
  |cons a b =>
   cases a;exact .cons _ _ (ih _ b)
def zDW{l:OpenLaw}{n:Nat}(hn:l.most=some n){P:Params}{h:Heap}{args:List WData}{vals:List Value}
  (hpre:l.row.toRowW.claim.pre args=true) (hwl:WellAll P h vals args) :
  ∃a vs ns,vals=[Value.ref a]/\args=[WData.list (ns.map WData.int)]/\h.get? a=some {cls:=.type "list",data:=.seq vs.toArray}/\IntsAre vs ns/\ns.length<=n:=by
 have hsh:WShape.hasAll [] args [.list .int]=true:=(pre_splitW hpre).1;have hc:l.pre.holds [] {args:=args}=true:=(pre_splitW hpre).2;obtain⟨d,r,rfl,h1,h2⟩:=hasAllW_cons hsh;obtain rfl:=hasAllW_nil h2;obtain⟨xs,rfl,h3⟩:=hasW_list h1;obtain⟨ns,rfl⟩:=items_int h3;have hlen:ns.length<=n:=by
  unfold OpenLaw.pre at hc;have h4:(WTm.not (.lt (.lit (.int (n:Int))) (.len (.arg 0)))).holds [] {args:=[.list (ns.map .int)]}=true:=by
   have h4:=(holds_andW hc).1;rw[hn]at h4;exact h4
  have h5:=condW_of h4 (w_not (w_lt w_lit (w_len_list (w_arg rfl))));rw[length_map]at h5;refine Nat.le_of_not_lt λq=>?_
  have q':(n:Int)<((ns.length:Nat):Int):=by omega
  first
   | (rw[decide_eq_true q']at h5;exact absurd h5 (by decide))
   | (simp at h5;omega)
 cases hwl with
 |cons w1 w2 =>
  cases w2;cases w1 with
  |list ho hall=>exact⟨_,_,ns,rfl,rfl,ho,W0 ns _ hall,hlen⟩
def zDX(l:OpenLaw)(args:List WData):l.row.toRowW.claim.post args (.bool true) args=true :=
 postW_of (r:=l.row.toRowW) (X:=(true==true))
  (show WShape.has [] (.bool true) .bool=true by first|rfl|decide|simp[WShape.has,WShape.arms,WShape.armsAll])
  (show(WTm.eq .res (.lit (.bool true))).value [] {args:=args,res:=some (.bool true),after:=args}=some (.bool (true==true))from w_eq_bool (w_res rfl) w_lit) rfl
def attach_call{l:OpenLaw}{n:Nat}{q:Program}{loose:List Str}{XP:(Str->Option Value)->Heap->Prop}{YP:World->Heap->Prop}{d:DefRec}
  (hn:l.most=some n) (hdf:d.params.defaults=[])
  (call:∀(w:World) (s₀ s₁:Shared) (mg mb:Str->Option Value) (fa:Addr) (o:Obj) (pm cd doc:Value) (a:Addr) (vs:List Value) (ns:List Int),
   Ground q loose [] XP w s₀ mg mb s₁.heap->YP w s₁.heap ->
   s₁.heap.get? fa=some o->o.data=.func (docDef d.name d.params d.body d.scope pm cd doc)->s₁.heap.CodeRec cd d.name->mg d.name=some (.ref fa) ->
   s₁.heap.get? a=some {cls:=.type "list",data:=.seq vs.toArray}->IntsAre vs ns->ns.length<=n->s₁.gens=#[] ->
   codeAny (model l.prog w) callerA (.call (.ref fa) ⟨[.ref a],[]⟩) (λr s'=>r=.ok (.ret (.bool true))/\OldK s₁.heap s'.heap/\s'.os=s₁.os/\AllBare s'.gens) s₁) :
  WalkO q loose XP YP l.row.toRowW d [] (λf vs=>PySem.call f vs):=by
 intro w s₀ s₁ mg mb G Y fa o pm cd doc dV kV ho hd hcd hD hmg hg args vals as hpre hlay hrd hwl hlo;obtain rfl:dV=.none:=Dflts.none hD hdf;obtain rfl:kV=.none:=Dflts.noKw hD;obtain⟨a,vs,ns,rfl,rfl,hobj,hints,hlen⟩:=zDW hn hpre hwl;refine enter_call (codeAny_mono (call w s₀ s₁ mg mb fa o pm cd doc a vs ns G Y ho (fd_plain hd) hcd hmg hobj hints hlen hg) λr s' hq=>?_);obtain⟨rfl,h2,h3,h4⟩:=hq;exact⟨.inl ⟨.bool true,.bool true,[],rfl,λ_=>rfl,.bool true,zDX l _,λ_=>⟨List.Pairwise.nil,λ_ hm=>(nomatch hm)⟩⟩,h2,h3,h4⟩
end Att
namespace L2
open PySem PySem.Spec PyProof.Rows
theorem QY:∀{vs:List Value} {ns:List Int},IntsAre vs ns->yj (ns.map V.int) vs
 |_,_,.nil=>.nil|_,_,.cons n t h=>.cons ⟨t,rfl⟩ (QY h)
def Only(H:Hp):Prop:=∀b,H b=none\/∃o xs,H b=some (.frz o (.l xs))
def zFS{P:Program}{w:World}{K:qH}{mg mb:Str->Option Value}{CX:CXT}{k:Nat}{fa a:Addr}{fd:FuncData}{x:Str}{sp:Sp}{s₁:Shared}{vs:List Value}{ns:List Int}
  (KX:K.In s₁.heap) (hns:s₁.heap.Ns mainGlobals mg) (hb:s₁.heap.Ns builtinsNs mb) (hbb:∀x:Str,x≠"__name__"->mb x=bootBuiltins x) (hlim:s₁.heap.NoLimit) (hg:s₁.gens=#[])
  (ha:s₁.heap.get? a=some {cls:=.type "list",data:=.seq vs.toArray}) (hi:IntsAre vs ns) (hl:ns.length<=sizeLine) (hr:Room k callerA)
  (F:∀base:Heap,K.In base->base.Ns mainGlobals mg->FnOk P w K mg base CX k fa fd [x] sp) (hbind:∀(s:Shared) (u:Value),BindsTo s fd ⟨[u],[]⟩ [(x,u)])
  (hsp:∀H:Hp,Only H->SqL K H a (ns.map V.int)->sp [.ref a] H (λv _=>v=.bl true) λ_ _ _=>False)
  (hCX:∀H e s',CX [] H s₁ (λ_ _ _=>False) e s'->False) :
  codeAny (model P w) callerA (.call (.ref fa) ⟨[.ref a],[]⟩) (λr s'=>r=.ok (.ret (.bool true))/\OldK s₁.heap s'.heap/\s'.os=s₁.os/\AllBare s'.gens) s₁:=by
 have rv:=QY hi;have lenV:=hi.length
 -- from an abstract heap in which nothing but the script may be tracked
 have core:∀H:Hp,Only H->SqL K H a (ns.map V.int)->HOk P w H s₁.heap->(∀b,H b≠none->b=a)->(H a≠none->K.lookup a=none) ->
   codeAny (model P w) callerA (.call (.ref fa) ⟨[.ref a],[]⟩) (λr s'=>r=.ok (.ret (.bool true))/\OldK s₁.heap s'.heap/\s'.os=s₁.os/\AllBare s'.gens) s₁:=by
  intro H hO hS hok hA hK;have base_of:∀{b:Addr} {o:Obj},s₁.heap.get? b=some o->H b=none->(zFC s₁.heap H).get? b=some o:=λe n=>zFD e n
  have noA:∀{b:Addr} {o:Obj} {es:Array DictEntry} {ep:Nat},s₁.heap.get? b=some o->o.data=.dict es ep->H b=none:=λ{b o es ep} e d=>by
   cases q:H b with
   |none=>rfl
   |some u =>
    have e':b=a:=hA b (by rw[q];simp);subst e';rw[ha]at e;cases e;have d':Data.seq vs.toArray _=Data.dict es ep:=d;cases d'
  have nsK:∀{b:Addr} {m:Str->Option Value},s₁.heap.Ns b m->(zFC s₁.heap H).Ns b m:=λ{b m} ⟨o,es,ep,e,d,r⟩=>⟨o,es,ep,base_of e (noA e d),d,r⟩
  have hKb:K.In (zFC s₁.heap H):=λb o e=>base_of (KX b o e) (by
   cases q:H b with
   |none=>rfl
   |some u =>
    have e':b=a:=hA b (by rw[q];simp);subst e';rw[hK (by rw[q];simp)]at e;cases e)
  have hM:Mod K mg (zFC s₁.heap H):=⟨hKb,nsK hns,⟨mb,nsK hb,hbb⟩,let ⟨mc,h1,h2⟩:=hlim;⟨mc,nsK h1,h2⟩⟩;have e0:Env0 P w K mg (zFC s₁.heap H) callerA [] s₁ H:=⟨rfl,hM,λb o e=>of_hidT e,Nat.le_of_eq (zC5 _ _),trivial,λb hb=>absurd (show b∈([]:List Addr)from hb) (by simp),hok,.of_eq hg⟩;refine codeAny_mono ((F _ hKb (nsK hns)).run callerA [] s₁ H ⟨[.ref a],[]⟩ [.ref a] [.ref a] _ _ hr e0 (hbind s₁ (.ref a)) (.cons rfl .nil) (hsp H hO hS)) λr s' h=>?_
  cases r with
  |error e=>exact(hCX H e s' h).elim
  |ok fl =>
   cases fl with
   |next=>exact False.elim h|brk=>exact False.elim h|cont=>exact False.elim h
   |ret u =>
    obtain⟨v,H',os,bare,un,hok',r',q⟩:=h;have q':v=.bl true:=q;subst q';obtain rfl:u=Value.bool true:=r';refine⟨rfl,OldK.of_keep λb o e=>?_,os,bare⟩;cases q:H b with
    |none=>exact un.keep b o e q (by intro z;exact absurd (show b∈([]:List Addr)from z) (by simp)) (by simp)
    |some u =>
     rcases hO b with z|⟨ob,xs,z⟩
     ·rw[q]at z;cases z
     ·have z2:=un.frzs b ob _ z
      obtain⟨e1,_⟩:=hok b _ z;obtain⟨e2,_⟩:=hok' b _ z2;rw[e]at e1;cases e1;exact e2
 cases hk:K.lookup a with
 |some o =>
  -- the script is one of the module's own objects
  have e:=KX a o hk;rw[ha]at e;cases e;refine core (λ_=>none) (λ_=>.inl rfl) (.inr ⟨_,vs.toArray,_,hk,rfl,rfl,rfl,by rw[size_toArray,lenV];exact hl,by simpa using rv⟩) (λb u z=>by have z':(none:Option HO)=some u:=z;cases z') (λb z=>absurd rfl z) λz=>absurd rfl z
 |none =>
  refine core (λb=>if b=a then some (.frz {cls:=.type "list",data:=.seq vs.toArray} (.l (ns.map V.int)))else none) (λb=>?_) (.inl (.inr ⟨{cls:=.type "list",data:=.seq vs.toArray},if_pos rfl⟩)) (λb u z=>?_) (λb z=>?_) λ_=>hk
  ·by_cases hb:b=a
   ·exact .inr ⟨_,_,if_pos hb⟩
   ·exact .inl (if_neg hb)
  ·by_cases hb:b=a
   ·have z':=(if_pos hb).symm.trans z
    cases z';subst hb;exact⟨ha,by rw[length_map];exact hl,vs,_,rv,ha⟩
   ·have z':=(if_neg hb).symm.trans z
    cases z'
  ·by_cases hb:b=a
   ·exact hb
   ·exact absurd (if_neg hb) z
abbrev E0:XK:=λ_ _ _=>False
structure Fun(K:qH)(x qual:Str)(st:Stmt)(f:Addr)(fd:FuncData):Prop where
 ex:∃(oc:Value) (od:Option Addr) (kV doc pm:Value) (an:Option Addr) (cdv ct:Value) (osl:Array (Option Value)),
  fd=fnOf x qual (YJ st) (ja st) (zt st) .none kV doc pm an cdv ct/\K.lookup f=some ⟨oc,od,.func fd,osl⟩/\codeIn K cdv qual=true
 kp:keepIn K (.ref f)=true
section
variable{P:Program}{w:World}{K:qH}{mg:Str->Option Value}{base:Heap}
def Fun.binds{x qual:Str}{st:Stmt}{f:Addr}{fd:FuncData}{ps:List Str}(F:Fun K x qual st f fd)
  (h:∀(kV doc pm:Value) (an:Option Addr) (cdv ct:Value) (us:List Value),us.length=ps.length->bindArgs (fnOf x qual (YJ st) (ja st) (zt st) .none kV doc pm an cdv ct) ⟨us,[]⟩=pure (ps.zip us)):WP K fd ps []:=by
 obtain⟨oc,od,kV,doc,pm,an,cdv,ct,osl,rfl,lk,hcd⟩:=F.ex;exact .all (h kV doc pm an cdv ct)
def zGw{x qual:Str}{st:Stmt}{f:Addr}{oc:Value}{od an:Option Addr}{osl:Array (Option Value)}{kV doc pm cdv ct:Value}(l:K.lookup f=some ⟨oc,od,.func (fnOf x qual (YJ st) (ja st) (zt st) .none kV doc pm an cdv ct),osl⟩)
  (c:codeIn K cdv qual=true) (k:keepIn K (.ref f)=true):Fun K x qual st f (fnOf x qual (YJ st) (ja st) (zt st) .none kV doc pm an cdv ct):=⟨⟨oc,od,kV,doc,pm,an,cdv,ct,osl,rfl,l,c⟩,k⟩
end
def zE7{A B:Prop}(h:B):if false=true then A else B:=by
 rw[if_neg qF];exact h
def zE8{A B:Prop}(h:A):if true=true then A else B:=by
 rw[if_pos rfl];exact h
def ZK(H H':Hp):Prop:=∀b o,H b=some o->H' b=some o
def ZK.refl(H:Hp):ZK H H:=λ_ _ h=>h
def ZK.trans{H H1 H2:Hp}(a:ZK H H1)(b:ZK H1 H2):ZK H H2:=λc o h=>b c o (a c o h)
def ZK.seq{K:qH}{H H':Hp}{a:Addr}{xs:List V}(e:ZK H H')(h:SqL K H a xs):SqL K H' a xs:=by
 rcases h with(h|⟨o,h⟩)|h
 ·exact .inl (.inl (e _ _ h))
 ·exact .inl (.inr ⟨o,e _ _ h⟩)
 ·exact .inr h
end L2
namespace DV
open PySem L2
abbrev KN:=Option Int
def oV:KN->V
 |none=>.non|some i=>.int i
def knIs:KN->Value->Bool
 |none,.none=>true|some i,v=>Value.isInt i v|_,_=>false
def jk(h:knIs k v=true):(k=none/\v=.none)\/∃i t,k=some i/\v=.int i t:=by
 cases k with
 |none=>cases v<;>first|exact .inl ⟨rfl,rfl⟩|(cases h)
 |some i=>obtain⟨t,e⟩:=Value.isInt_shape (k:=i) (v:=v) h;exact .inr ⟨i,t,rfl,e⟩
def kn_of(r:ym (oV k) u):knIs k u=true:=by
 cases k with
 |none=>cases r;rfl|some i=>obtain⟨t,rfl⟩:=r;simp[knIs,Value.isInt]
def hN:KN->Int
 |none=>0xFCA86420|some i=>hashInt i
section
variable{prog:Program}{w:World}{A:Around}{E:Value->Shared->Prop}{s:Shared}
def ZM{Q:Int->Shared->Prop}(h:Q 0xFCA86420 {s with toks:=s.toks+1}):wpAny (model prog w) A (pyHash .none) Q E s:=by
 have hT:s.TypeIs .none "NoneType":=rfl;unfold pyHash
 first|unfold pyHashByItsType|skip
 have hv:[Value.none].any Value.onHeap=false:=rfl;refine qB ?_;rw[cRoomFor,if_neg (by rw[hv];exact qF)];refine qC ?_;refine qB (wpAny_specialOf hT F.slot_NoneType_hash.lookup ?_);show wpAny _ _ (if(some (Value.builtin "NoneType.__hash__")==some Value.none)=true then _ else _) Q E s;rw[if_neg (by rw[beq_builtin_none];exact qF)];refine qB (wpAny_specialOf hT F.slot_NoneType_hash.lookup ?_);show wpAny _ _ (callSpecialIfBoundUnlessNone? .none "__hash__" _ >>= _) Q E s;refine qB (wpAny_callSpecialIfBoundUnlessNone?_slot hT F.slot_NoneType_hash
  (wpAny_call_entry F.slot_NoneType_hash hT F.entry_NoneType_hash
   (show wpAny _ _ (do ret (<- mkInt 0xFCA86420)) _ _ s from wpAny_ret_mkInt ?_) (F.args_NoneType_hash_1 _)))
 exact qC h
end
def zCf(prog:Program)(w:World):KeyKind prog w KN where
 is:=knIs
 hash:=hN
 inj:=λv a b ha hb=>by
  rcases jk ha with⟨rfl,rfl⟩|⟨i,t,rfl,rfl⟩
  ·rcases jk hb with⟨rfl,e⟩|⟨j,u,rfl,e⟩
   ·rfl
   ·cases e
  ·rcases jk hb with⟨rfl,e⟩|⟨j,u,rfl,e⟩
   ·cases e
   ·injection e with e1 _;rw[e1]
 byValue:=λk v h=>by
  rcases jk h with⟨rfl,rfl⟩|⟨i,t,rfl,rfl⟩<;>rfl
 pyHash:=λhv h=>by
  rcases jk hv with⟨rfl,rfl⟩|⟨i,t,rfl,rfl⟩
  ·exact ZM h
  ·exact wpAny_pyHash_int h
 eqBool:=λ{A E s a b u v Q} hu hv h=>by
  have e:(if eqV (oV a) (oV b)=true then True else True):=by split<;>trivial
  rcases jk hu with⟨rfl,rfl⟩|⟨i,t,rfl,rfl⟩
  ·rcases jk hv with⟨rfl,rfl⟩|⟨j,u,rfl,rfl⟩
   ·exact zBh (y:=.non) (x:=.non) rfl rfl rfl rfl _ _ _ _ h
   ·exact zBh (y:=.non) (x:=.int j) rfl ⟨u,rfl⟩ rfl rfl _ _ _ _ h
  ·rcases jk hv with⟨rfl,rfl⟩|⟨j,u,rfl,rfl⟩
   ·exact zBh (y:=.int i) (x:=.non) ⟨t,rfl⟩ rfl rfl rfl _ _ _ _ h
   ·refine wpAny_eqBool_int ?_
    have:(i==j)=decide (some i=some j):=by
     by_cases q:i=j
     ·subst q;simp
     ·simp[q]
    rw[this];exact h
 «strs»:=λk x t v h=>by
  rcases jk h with⟨_,e⟩|⟨_,_,_,e⟩<;>cases e
def hT(ks:List KN):Int:=reduceHash (Builtin.Tuple.tupleHashOf (ks.map hN))
abbrev DE:=List KN×Addr×V
abbrev DX:=List KN×Addr×Value
def entN(x:DX):DictEntry:=⟨hT x.1,.ref x.2.1,x.2.2⟩
abbrev wU:List DE->List DX->Prop:=Paired λe x=>x.1=e.1/\x.2.1=e.2.1/\ym e.2.2 x.2.2
def zGx(a:Addr)(es:List DE)(h:Heap):Prop:=(a==sysModules)=false/\es.length<=sizeLine/\(es.map (·.1)).Nodup/\∃(o:Obj) (esA:Array DictEntry) (ep:Nat) (xs:List DX),h.get? a=some o/\o.ExactDict/\o.data=.dict esA ep/\wU es xs/\esA.toList=xs.map entN
def Zu(a:Addr)(es:List DE):HO:=.dN (zGx a es)
def OwnK(o:HO):Prop:=(∃xs,o=.l xs)\/∃φ,o=.dN φ
def zDY(x:zGx a es h1)(k:∀o,h1.get? a=some o->h2.get? a=some o):zGx a es h2:=by
 obtain⟨x1,x2,x3,o,esA,ep,xs,e,r⟩:=x;exact⟨x1,x2,x3,o,esA,ep,xs,k o e,r⟩
def zBi(x:zGx a es h):jy P w H h a (Zu a es):=by
 obtain⟨_,_,_,o,_,_,_,e,_⟩:=id x;exact⟨x,⟨o,e⟩,λh1 h2 y k=>zDY y k⟩
section
variable{P:Program}{w:World}{h:Heap}{a:Addr}{es:List DE}{xs:List DX}
theorem wU.keys:∀{es:List DE} {xs:List DX},wU es xs->xs.map (·.1)=es.map (·.1)
 |_,_,.nil=>rfl|_,_,.cons r t=>by simp only[map_cons];rw[r.1,wU.keys t]
theorem wU.mem:∀{es:List DE} {xs:List DX} {x:DX},wU es xs->x∈xs->∃e∈es,x.1=e.1/\x.2.1=e.2.1/\ym e.2.2 x.2.2
 |_,_,_,.nil,h=>by cases h
 |_,_,_,.cons r t,h=>by
  rcases mem_cons.mp h with rfl|h
  ·exact⟨_,qE,r⟩
  ·obtain⟨e,he,q⟩:=wU.mem t h
   exact⟨e,qD _ he,q⟩
def atE(es:List DE)(k:List KN):Option V:=(es.find? λe=>decide (e.1=k)).map (·.2.2)
theorem wU.at:∀{es:List DE} {xs:List DX} {k:List KN} {v:V},wU es xs->atE es k=some v->∃p,atKey xs k=some p/\ym v p.2
 |_,_,_,_,.nil,h=>by cases h
 |e::es,x::xs,k,v,.cons r t,h=>by
  unfold atE atKey at *;rw[find?_cons]at h ⊢;by_cases q:e.1=k
  ·rw[decide_eq_true q]at h
   rw[decide_eq_true (r.1.trans q)];simp only[Option.map_some,Option.some.injEq]at h;subst h;exact⟨x.2,rfl,r.2.2⟩
  ·rw[decide_eq_false q]at h
   rw[decide_eq_false (λz=>q (r.1.symm.trans z))];exact wU.at t h
theorem wU.none:∀{es:List DE} {xs:List DX} {k:List KN},wU es xs->atE es k=none->atKey xs k=none
 |_,_,_,.nil,_=>rfl
 |e::es,x::xs,k,.cons r t,h=>by
  unfold atE atKey at *;rw[find?_cons]at h ⊢;by_cases q:e.1=k
  ·rw[decide_eq_true q]at h;cases h
  ·rw[decide_eq_false q]at h
   rw[decide_eq_false (λz=>q (r.1.symm.trans z))];exact wU.none t h
def zAg(es:List DE)(k:List KN)(ka:Addr)(v:V):List DE:=if(atE es k).isSome then es.map (λe=>if e.1=k then(e.1,e.2.1,v)else e)else es++[(k,ka,v)]
theorem wU.mapP:∀{es:List DE} {xs:List DX} {k:List KN} {v:V} {u:Value},wU es xs->ym v u->wU (es.map λe=>if e.1=k then(e.1,e.2.1,v)else e) (xs.map (putAt k u))
 |_,_,_,_,_,.nil,_=>.nil
 |e::es,x::xs,k,v,u,.cons r t,rv=>by
  simp only[map_cons];refine .cons ?_ (wU.mapP t rv);unfold putAt;by_cases q:e.1=k
  ·rw[if_pos q,if_pos (r.1.trans q)];exact⟨r.1,r.2.1,rv⟩
  ·rw[if_neg q,if_neg (λz=>q (r.1.symm.trans z))];exact r
theorem wU.app:∀{es fs:List DE} {xs ys:List DX},wU es xs->wU fs ys->wU (es++fs) (xs++ys)
 |_,_,_,_,.nil,g=>g|_,_,_,_,.cons r t,g=>.cons r (wU.app t g)
def wU.put(h:wU es xs)(rv:ym v u):wU (zAg es k ka v) (storedH xs k ka u):=by
 unfold zAg storedH;cases q:atE es k with
 |none=>rw[wU.none h q];exact h.app (.cons ⟨rfl,rfl,rv⟩ .nil)
 |some y =>
  obtain⟨p,e,_⟩:=wU.at h q;rw[e];exact h.mapP rv
def W1(hn:(es.map (·.1)).Nodup):((zAg es k ka v).map (·.1)).Nodup/\(zAg es k ka v).length<=es.length+1:=by
 unfold zAg;cases q:atE es k with
 |none =>
  simp only[Option.isSome_none,Bool.false_eq_true,if_false];refine⟨?_,by simp⟩;rw[map_append];refine nodup_append.mpr ⟨hn,by simp,λa ha b hb=>?_⟩;simp only[map_cons,map_nil,mem_singleton]at hb;subst hb;intro z;subst z;obtain⟨e,he,rfl⟩:=mem_map.mp ha;unfold atE at q;simp only[Option.map_eq_none_iff,List.find?_eq_none]at q;exact q e he (decide_eq_true rfl)
 |some y =>
  simp only[Option.isSome_some,if_true];refine⟨?_,by simp⟩;have:(es.map λe=>if e.1=k then(e.1,e.2.1,v)else e).map (·.1)=es.map (·.1):=by
   rw[map_map];refine map_congr_left λe _=>?_
   simp only[Function.comp];split<;>rfl
  rw[this];exact hn
end
section
variable{X:Cx}{pins:List (Addr×Obj)}{O:L2.St}{H:Hp}{s:Shared}{a:Addr}{es:List DE}
def ud(I:Inv X pins O H s)(h:SqT X.K H ka (ks.map oV)):IsTupleKey (zCf X.prog X.w) s.heap ks ka:=by
 obtain⟨its,r,p,_⟩:=I.tuple h;obtain⟨o,ho,hc,n,hd⟩:=p;refine⟨o,its.toArray,n,ho,hc,hd,?_⟩;have gen:∀{ks:List KN} {us:List Value},yj (ks.map oV) us->ItemsAre (zCf X.prog X.w) ks us:=λ{ks}=>by
  induction ks with
  |nil=>intro us h;cases h;exact .nil
  |cons k ks ih=>intro us h;cases h with|cons r t=>exact .cons (kn_of r) (ih t)
 exact gen r
def QZ(I:Inv X pins O H s)(e:H a=some (Zu a es))(hk:∀x∈es,SqT X.K H x.2.1 (x.1.map oV)):∃xs:List DX,wU es xs/\s.heap.DictOfH (tupleKind (zCf X.prog X.w)) a xs/\(a==sysModules)=false/\es.length<=sizeLine/\(es.map (·.1)).Nodup:=by
 obtain⟨⟨x1,x2,x3,o,esA,ep,xs,h1,h2,h3,h4,h5⟩,_⟩:=(show jy X.prog X.w H s.heap a (Zu a es)from I.hok a _ e);refine⟨xs,h4,⟨o,esA,ep,h1,h2,h3,h5,λx hx=>?_,by rw[wU.keys h4];exact x3⟩,x1,x2,x3⟩;obtain⟨y,hy,q1,q2,_⟩:=wU.mem h4 hx;rw[q1,q2];exact ud I (hk y hy)
end
def wc(h h':Heap):Prop:=∀b o,h.get? b=some o->∃o',h'.get? b=some o'/\o'.dict=o.dict
def wc.refl(h:Heap):wc h h:=λ_ o e=>⟨o,e,rfl⟩
theorem wc.trans(a:wc h1 h2)(b:wc h2 h3):wc h1 h3:=λc o e=>by
 obtain⟨o1,e1,d1⟩:=a c o e;obtain⟨o2,e2,d2⟩:=b c o1 e1;exact⟨o2,e2,d2.trans d1⟩
def wc.of_keeps(k:∀b o,h.get? b=some o->h'.get? b=some o):wc h h':=λb o e=>⟨o,k b o e,rfl⟩
def wc.upd{f:Obj->Obj}(hf:∀o,(f o).dict=o.dict/\(o.isFreed=false->(f o).isFreed=false)):wc h (h.update a f):=λb o e=>by
 by_cases hb:a=b
 ·subst hb
  exact⟨f o,get?_update_self _ e ((hf o).2 (Heap.get?_some_iff.mp e).2),(hf o).1⟩
 ·exact⟨o,(get?_update_other _ _ hb).trans e,rfl⟩
def jl{α:Type}:Sem α->Prop
 | .pure _=>True| .raise _=>True| .unsupported _=>True| .finish _=>True| .rule _ k=>jl (k ())| .at _ k=>jl (k ())| .load _ _ k=>∀o,jl (k o)| .update _ _ f k=>(∀o,(f o).dict=o.dict/\(o.isFreed=false->(f o).isFreed=false))/\jl (k ())| .alloc _ k=>∀a,jl (k a)| .stack k=>∀l,jl (k l)|_=>False
theorem jl.bind{α β:Type}{f:α->Sem β}(hf:∀a,jl (f a)){t:Sem α}(ht:jl t):jl (t >>= f):=by
 show jl (t.bind f)
 induction t with
 |pure a=>exact hf a|raise _=>trivial|unsupported _=>trivial|finish _=>trivial|rule _ k ih=>exact ih () ht| «at» _ k ih=>exact ih () ht|load _ _ k ih=>exact λo=>ih o (ht o)|update _ _ _ k ih=>exact⟨ht.1,ih () ht.2⟩|alloc _ k ih=>exact λa=>ih a (ht a)|stack k ih=>exact λl=>ih l (ht l)|_=>exact False.elim ht
def tame_wp{α:Type}(M:Model)(Γ:Ctx)(h0:Heap)(Q:α->Pos->Shared->Prop)(E:Value->Pos->Shared->Prop)(t:Sem α):∀(p:Pos) (s:Shared),jl t->wc h0 s.heap->Sem.wp M Γ t Q E p s ->
  Sem.wp M Γ t (λa p' s'=>Q a p' s'/\wc h0 s'.heap) (λe p' s'=>E e p' s'/\wc h0 s'.heap) p s:=by
 induction t with
 |pure a=>intro p s _ k h;rw[Sem.wp]at h ⊢;exact⟨h,k⟩|raise a=>intro p s _ k h;rw[Sem.wp]at h ⊢;exact⟨h,k⟩|unsupported _=>intro p s _ k h;rw[Sem.wp]at h;exact h.elim|finish _=>intro p s _ k h;rw[Sem.wp]at h;exact h.elim|rule _ f ih=>intro p s t k h;rw[Sem.wp]at h ⊢;exact ih () p s t k h| «at» _ f ih=>intro p s t k h;rw[Sem.wp]at h ⊢;exact ih () _ s t k h
 |load a _ f ih =>
  intro p s t k h;rw[Sem.wp]at h ⊢;obtain⟨o,e,h⟩:=h;exact⟨o,e,ih o p s (t o) k h⟩
 |update a _ g f ih =>
  intro p s t k h;rw[Sem.wp]at h ⊢;exact⟨h.1,ih () p _ t.2 (k.trans (wc.upd t.1)) h.2⟩
 |alloc o f ih =>
  intro p s t k h;rw[Sem.wp]at h ⊢;exact ih _ p _ (t _) (k.trans (wc.of_keeps λb o e=>qA _ e)) h
 |stack f ih=>intro p s t k h;rw[Sem.wp]at h ⊢;exact ih _ p s (t _) k h|_=>intro p s t;exact False.elim t
def ue{α:Type}{t:Sem α}{Q:α->Shared->Prop}{E:Value->Shared->Prop}(ht:jl t)(h:wpAny M A t Q E s) :
  wpAny M A t (λa s'=>Q a s'/\wc s.heap s'.heap) (λe s'=>E e s'/\wc s.heap s'.heap) s:=λΓ p hΓ =>
 tame_wp M Γ s.heap _ _ t p s ht (wc.refl _) (h Γ p hΓ)
def jm{α:Type}{c:Prop}[Decidable c]{a b:Sem α}(ha:jl a)(hb:jl b):jl (if c then a else b):=by split<;>assumption
def mapF_ok(f:Array Value->Array Value)(o:Obj):(Obj.mapFields f o).dict=o.dict/\(o.isFreed=false->(Obj.mapFields f o).isFreed=false):=by
 obtain⟨c,d,dt,sl⟩:=o;cases dt<;>exact⟨rfl,λh=>h⟩
def W2(a:Addr):jl (load a):=λ_=>trivial
def zBj{f:Obj->Obj}(h:∀o,(f o).dict=o.dict/\(o.isFreed=false->(f o).isFreed=false)):jl (update a f):=⟨h,trivial⟩
def Jn(v:Value)(i:Nat):jl (field v i):=by
 unfold field fieldsOf;refine jl.bind (λa=>?_) ?_
 ·cases a[i]?<;>trivial
 ·cases v<;>first|trivial|skip
  refine jl.bind (λo=>?_) (W2 _);cases o.data<;>trivial
def we(v:Value)(i:Nat)(x:Value):jl (setField v i x):=by
 unfold setField updateField;cases v with
 |ref a =>
  refine jl.bind (λo=>?_) (W2 _);cases o.data<;>first|trivial|skip;exact jm (zBj (mapF_ok _)) trivial
 |_=>trivial
def ZN:jl stack:=λ_=>trivial
def uB(v:Value)(f:Option Addr):jl (setFlight v f):=by
 unfold setFlight;refine jl.bind (λtb=>jm (we _ _ _) ?_) (Jn v 1);exact trivial
theorem uf:∀l:List Env,jl (readyFrames l)
 | []=>trivial
 |env::outer=>by
  unfold readyFrames;cases env.frame with
  |none=>trivial
  |some f =>
   refine jl.bind (λo=>jm ?_ ?_) (W2 f)
   ·exact trivial
   refine jl.bind (λim=>?_) ?_
   ·refine jl.bind (λbk=>?_) ?_
    ·refine jl.bind (λ_=>uf outer) (zBj λo=>⟨rfl,?_⟩)
     obtain⟨c,d,dt,sl⟩:=o;cases dt<;>exact λh=>h
    ·cases outer with
     |nil =>
      refine jm ?_ (jl.bind (λb=>?_) (jl.bind (λ_=>?_) ZN))
      all_goals exact trivial
     |cons c r=>exact trivial
   ·unfold behindIsImport
    refine jm ?_ (jm ?_ (jl.bind (λ_=>?_) (Jn _ _)))
    all_goals exact trivial
def zDZ(v:Value)(env:Env):jl (noteFrame v env):=by
 unfold noteFrame;cases env.frame with
 |none=>trivial
 |some f =>
  have hN:∀head:Value,jl (do setField v 1 (<- EntryCells.newEntry head (<- frameOf env) .none (rawInt f) .none (<- entryPlaceOf f (head != .none)))):=λhead=>by
   refine jl.bind (λfr=>?_) ?_
   ·refine jl.bind (λpl=>?_) ?_
    ·refine jl.bind (λx=>we _ _ _) ?_
     unfold EntryCells.newEntry newFields newObj;refine jm ?_ ?_
     ·exact trivial
     ·exact λa=>trivial
    ·unfold entryPlaceOf
     refine jl.bind (λacts=>?_) ZN;split<;>exact trivial
   ·unfold frameOf frameObject
    refine jl.bind (λe=>?_) (jl.bind (λ_=>?_) ZN)
    ·refine jl.bind (λo=>?_) ?_
     ·cases o<;>exact trivial
     ·split
      ·exact trivial
      ·refine jl.bind (λ_=>?_) (uf _)
       exact trivial
    ·exact trivial
  refine jl.bind (λhead=>jm ?_ (hN head)) (Jn v 1);refine jl.bind (λx=>jm ?_ ?_) (Jn _ _)
  ·exact trivial
  ·exact jl.bind (λ_=>hN head) (we _ _ _)
def Zv(env:Env)(v:Value):jl (leaving env v):=jl.bind (λ_=>uB v none) (zDZ v env)
end DV
namespace DV
open PySem L2 PyProof.Rows
def ExO(C a:Addr):HO:=.ext λh=>∃o,h.get? a=some o/\o.cls=.ref C
def ExA(C d a:Addr):HO:=.ext λh=>∃o,h.get? a=some o/\o.cls=.ref C/\o.dict=some d/\∃vs,o.data=.fields vs
def XD(d:Addr)(fs:List (Str×V)):HO:=.ext λh=>∃mA,h.Ns1 d mA/\∀f,RelO (fs.lookup f) (mA f)
def zAh(a:Addr)(od:Option Addr)(h:Heap):Prop:=∀d,od=some d->∃o,h.get? a=some o/\o.dict=some d
def zAh.on(l:zAh a od h)(k:wc h h'):zAh a od h':=λd e=>by
 obtain⟨o,e1,d1⟩:=l d e;obtain⟨o',e2,d2⟩:=k a o e1;exact⟨o',e2,d2.trans d1⟩
structure MadeD(h h':Heap)(a:Addr)(C:Value)(od:Option Addr):Prop where
 keeps:∀b o,h.get? b=some o->h'.get? b=some o
 new:h.get? a=none
 there:∃oe vs t,h'.get? a=some oe/\oe.cls=C/\(∀d,od=some d->oe.dict=some d)/\oe.data=.fields vs/\vs[1]?=some .none/\vs[0]?=some (.ref t)
def MadeD.link(x:MadeD h h' a C od):zAh a od h':=λd e=>by
 obtain⟨oe,_,_,h1,_,h2,_⟩:=x.there;exact⟨oe,h1,h2 d e⟩
def zFT(x:jy P w H h a o):∃u,h.get? a=some u:=by
 cases o with
 |l xs=>obtain⟨_,_,_,_,e⟩:=x;exact⟨_,e⟩|t xs=>obtain⟨_,_,_,o,e,_⟩:=x;exact⟨_,e⟩|dK kvs=>obtain⟨_,_,_,_,o,_,_,e,_⟩:=x;exact⟨_,e⟩|dT kvs=>obtain⟨_,_,_,_,o,_,_,e,_⟩:=x;exact⟨_,e⟩|set S n=>obtain⟨o,_,_,_,e,_⟩:=x;exact⟨_,e⟩|ins C dx fs=>obtain⟨_,_,_,e,_⟩:=x;exact⟨_,e⟩|own y=>exact x|xd fs=>obtain⟨_,⟨_,_,_,e,_⟩,_⟩:=x;exact⟨_,e⟩|rng lo hi=>obtain⟨_,_,_,e⟩:=x;exact⟨_,e⟩|frz ob u=>obtain⟨e,_⟩:=x;exact⟨_,e⟩|tbl ps=>exact⟨_,(show h.get? a=some _ from x)⟩|met f y=>exact⟨_,(show h.get? a=some _ from x)⟩|ext φ=>obtain⟨_,e,_⟩:=x;exact e|dN φ=>obtain⟨_,e,_⟩:=x;exact e
def zGy(B:Heap)(H:Hp)(g:Heap)(fs:List Addr)(h:Heap):Prop:=∀b o,h.get? b=some o->((∃o',g.get? b=some o')\/H b≠none)->b∉fs->B.get? b=some o
def Flies(l:List Env)(H:Hp)(g:Heap)(a C:Addr)(h:Heap):Prop:=∃B t,Heap.FlyingW B l a (.ref C) (.ref t) h/\zGy B H g (frs l) h
def CXx(P:Program)(w:World):CXT:=λouter H s E e s'=>∃a C od H',e=.ref a/\s'.os=s.os/\AllBare s'.gens/\Un (frs outer) [] H H' s.heap s'.heap/\HOk P w H' s'.heap/\H' a=none/\Flies outer H' s.heap a C s'.heap/\zAh a od s'.heap/\E (.ref C) od H'
section
variable{P:Program}{w:World}{fs:List Addr}{H H':Hp}{g h h' B:Heap}{L:Addr}
def un_on(u:Un fs [] H H' g h)(ok:HOk P w H' h)(kb:zGy B H' g (L::fs) h)(st:B.StaysIn h')(hL:g.get? L=none)(hf:∀b∈fs,∀o,h.get? b=some o->∃sl,h'.get? b=some {o with slots:=sl}):Un fs [] H H' g h' where
 keep:=λb o e n hb hx=>st b o (kb b o (u.keep b o e n hb hx) (.inl ⟨o,e⟩) λz=>by
  rcases mem_cons.mp z with rfl|z
  ·rw[hL]at e;cases e
  ·exact hb z)
 slot:=λb o e n hb hx=>by
  obtain⟨sl,q⟩:=u.slot b o e n hb hx;obtain⟨sl',q'⟩:=hf b hb _ q;exact⟨sl',q'⟩
 free:=u.free
 there:=λb o e hx=>by
  obtain⟨o',q⟩:=u.there b o e hx;by_cases hb:b∈fs
  ·obtain⟨sl,q'⟩:=hf b hb _ q;exact⟨_,q'⟩
  ·exact⟨o',st b o' (kb b o' q (.inl ⟨o,e⟩) λz=>by
    rcases mem_cons.mp z with rfl|z
    ·rw[hL]at e;cases e
    ·exact hb z)⟩
 tups:=u.tups
 frzs:=u.frzs
 tbls:=u.tbls
def zGz(ok:HOk P w H' h)(kb:zGy B H' g (L::fs) h)(st:B.StaysIn h')(hn:∀b∈L::fs,H' b=none):HOk P w H' h':=λa o e=>by
 refine(ok a o e).stay (λb u hb q=>?_) (λ_ q=>q) λ_ _ q=>q
 have ht:H' b≠none:=by
  rcases hb with rfl|hb
  ·rw[e];exact λz=>by cases z
  ·rw[hb];exact λz=>by cases z
 exact st b u (kb b u q (.inr ht) λz=>ht (hn b z))
def zDa(u:Un fs [] H H' g h)(ok:HOk P w H' h)(kb:zGy B H' g (L::fs) h)(st:B.StaysIn h')(hL:g.get? L=none)(hn:∀b∈L::fs,H' b=none):zGy B H' g fs h':=λb o e hb nf=>by
 have nL:b∉L::fs:=λz=>by
  rcases mem_cons.mp z with rfl|z
  ·rcases hb with⟨o',q⟩|q
   ·rw[hL]at q;cases q
   ·exact q (hn _ (qE))
  ·exact nf z
 have:∃o1,h.get? b=some o1:=by
  rcases hb with⟨o',q⟩|q
  ·exact u.there b o' q (by simp)
  ·obtain⟨x,hx⟩:=Option.ne_none_iff_exists'.mp q
   exact zFT (ok b x hx)
 obtain⟨o1,q1⟩:=this;have q2:=kb b o1 q1 hb nL;have q3:=st b o1 q2;rw[e]at q3;cases q3;exact q2
end
section
variable{P:Program}{w:World}{K:qH}{mg:Str->Option Value}{base:Heap}{N:List Str}{qual:Str}{scope:Scope}{f:Addr}{cd:Value}{A:Around}{outer:List Env}{s:Shared}{H:Hp}{E:XK}
abbrev cxC(c:Bool)(P:Program)(w:World)(K:qH)(mg:Str->Option Value)(base:Heap)(N:List Str)(qual:Str)(scope:Scope)(f:Addr)(cd:Value)(A:Around)(outer:List Env)(s:Shared)(H:Hp)(E:XK):Cx :=
 {cxOf (CXx P w) P w K mg base N qual scope f cd A outer s H E with calm:=c}
variable{c:Bool}
abbrev cxX(P:Program)(w:World)(K:qH)(mg:Str->Option Value)(base:Heap)(N:List Str)(qual:Str)(scope:Scope)(f:Addr)(cd:Value)(A:Around)(outer:List Env)(s:Shared)(H:Hp)(E:XK):Cx :=
 cxOf (CXx P w) P w K mg base N qual scope f cd A outer s H E
variable{pins:List (Addr×Obj)}{O:L2.St}{H':Hp}{s' s1:Shared}{a C:Addr}
def zAi:frs (envOfC qual scope s.heap.objs.size f cd::outer)=s.heap.objs.size::frs outer:=rfl
def zCg(I:Inv (cxC c P w K mg base N qual scope f cd A outer s H E) pins O H' s')(u:Un (frs outer) [] H H' s.heap s'.heap)(hn:H' a=none)
  (hf:∃B t,Heap.FlyingW B (cxC c P w K mg base N qual scope f cd A outer s H E).stack a (.ref C) (.ref t) s'.heap/\zGy B H' s.heap (frs (cxC c P w K mg base N qual scope f cd A outer s H E).stack) s'.heap) (dl:zAh a od s'.heap) (hE:E (.ref C) od H') :
  (cxC c P w K mg base N qual scope f cd A outer s H E).xe (.ref a) s':=by
 obtain⟨B,t,fl,kb⟩:=hf;have hL:s.heap.get? s.heap.objs.size=none:=Heap.get?_none_of_le (le_refl _);have hN:∀b∈s.heap.objs.size::frs outer,H' b=none:=λb hb=>I.stkFree b (by show b∈frs (envOfC qual scope s.heap.objs.size f cd::outer);rw[zAi];exact hb)
 have kb':zGy B H' s.heap (s.heap.objs.size::frs outer) s'.heap:=kb;refine wpAny_mono (ue (Zv _ _) (wpAny_leaves_onW (base:=B) (E:=λ_ _=>False) (Q:=λ_ z=>∃h',z={s' with heap:=h'}/\Heap.FlyingW B outer a (.ref C) (.ref t) h'/\s'.heap.UpToSlots h') I.ok.frames rfl fl λh' fl' sl=>⟨h',rfl,fl',sl⟩)) (λ_ z ⟨⟨h',ez,fl',sl⟩,kd⟩=>?_) λ_ _ z=>z.1.elim
 subst ez;have st:B.StaysIn h':=fl'.1;have hfs:∀b∈frs outer,∀o,s'.heap.get? b=some o->∃sl,h'.get? b=some {o with slots:=sl}:=λb hb o e=>by
  obtain⟨_,o',q,nd⟩:=I.funs.mem hb;rw[e]at q;cases q;exact sl b o e nd
 exact⟨a,C,od,H',rfl,I.os,I.bare,un_on u I.hok kb' st hL hfs,zGz I.hok kb' st hN,hn,⟨B,t,fl',zDa u I.hok kb' st hL hN⟩,dl.on kd,hE⟩
def zAj(I:Inv (cxC c P w K mg base N qual scope f cd A outer s H E) pins O H' s1)(hx:MadeD s1.heap s'.heap a (.ref C) od)(hs:s'={s1 with heap:=s'.heap})(hn:H' a=none)(hE:E (.ref C) od H') :
  (cxC c P w K mg base N qual scope f cd A outer s H E).xe (.ref a) s':=by
 have u:Un (frs outer) [] H H' s.heap s1.heap:=I.base;have hL:s.heap.get? s.heap.objs.size=none:=Heap.get?_none_of_le (le_refl _);have hN:∀b∈s.heap.objs.size::frs outer,H' b=none:=λb hb=>I.stkFree b (by show b∈frs (envOfC qual scope s.heap.objs.size f cd::outer);rw[zAi];exact hb)
 have kb:zGy (hideAll s1.heap (s.heap.objs.size::frs outer)) H' s.heap (s.heap.objs.size::frs outer) s1.heap:=λb o e _ nf=>hideAll_get _ e nf
 have hin:∀env∈(envOfC qual scope s.heap.objs.size f cd::outer),∀b,env.frame=some b->b∈s.heap.objs.size::frs outer:=λenv he b hb=>by
  rw[<- zAi (qual:=qual) (scope:=scope) (f:=f) (cd:=cd)];exact mem_filterMap.mpr ⟨env,he,hb⟩
 have hstk:s1.heap.FunFrames base (envOfC qual scope s.heap.objs.size f cd::outer):=I.stack;obtain⟨oe,vs,t,e1,e2,e3,e4,e5,e6⟩:=hx.there;have fresh:(hideAll s1.heap (s.heap.objs.size::frs outer)).get? a=none:=by
  cases q:(hideAll s1.heap (s.heap.objs.size::frs outer)).get? a with
  |none=>rfl|some o'=>have:=of_hideAll _ q;rw[hx.new]at this;cases this
 have hfun:s'.heap.FunFrames (hideAll s1.heap (s.heap.objs.size::frs outer)) (envOfC qual scope s.heap.objs.size f cd::outer):=(PySem.W.funFrames_hide hstk hin).of_keeps λb o hb _=>⟨o,hx.keeps b o hb,rfl⟩
 refine wpAny_mono (ue (Zv _ _) (wpAny_leaving_firstW (base:=hideAll s1.heap (s.heap.objs.size::frs outer)) (a0:=.ref t) (E:=λ_ _=>False) (Q:=λ_ z=>∃h',z={s' with heap:=h'}/\Heap.LeftW (hideAll s1.heap (s.heap.objs.size::frs outer)) (envOfC qual scope s.heap.objs.size f cd::outer) a oe.cls (.ref t) s'.heap h') I.ok.frames hfun rfl e1 (λb o q=>hx.keeps b o (of_hideAll _ q)) fresh e4 e5 e6 λh' hL=>⟨h',rfl,hL⟩)) (λ_ z ⟨⟨h',ez,k1,⟨_,_,k2⟩,k3,x4⟩,kd⟩=>?_) λ_ _ z=>z.1.elim
 subst ez;rw[e2]at k3;have x1:Heap.FlyingW (hideAll s1.heap (s.heap.objs.size::frs outer)) outer a (.ref C) (.ref t) h':=⟨k1,fresh,k2,k3⟩;have st:=x1.1;have hfs:∀b∈frs outer,∀o,s1.heap.get? b=some o->∃sl,h'.get? b=some {o with slots:=sl}:=λb hb o e=>by
  obtain⟨_,o',q,nd⟩:=I.funs.mem hb;rw[e]at q;cases q;exact x4 b o (hx.keeps b o e) nd
 have os:s'.os=s1.os:=by rw[hs]
 have ge:s'.gens=s1.gens:=by rw[hs]
 refine⟨a,C,od,H',rfl,os.trans I.os,?_,un_on u I.hok kb st hL hfs,zGz I.hok kb st hN,hn,⟨_,t,x1,zDa u I.hok kb st hL hN⟩,hx.link.on kd,hE⟩;show AllBare s'.gens;rw[ge];exact I.bare
end
structure RoomN(k:Nat)(A:Around):Prop where
 gd:A.guards=some []
 dp:A.depth+3*k+5<recursionLimit
 un:A.units+16*k+200<cLine
def RoomN.mono(r:RoomN k A)(h:j<=k):RoomN j A:=⟨r.gd,by have:=r.dp;omega,by have:=r.un;omega⟩
theorem RoomN.deeper(r:RoomN (k+1) A)(env:Env):RoomN k (A.deeper env) :=
 ⟨r.gd,by have:=r.dp;show A.depth+1+3*k+5<_;omega,by have:=r.un;show A.units+3+16*k+200<_;omega⟩
theorem RoomN.depth(r:RoomN k A):A.depth<recursionLimit:=by have:=r.dp;omega
def zFU(r:Room k A):RoomN k A:=⟨r.gd,r.dp,r.un⟩
section
variable{X:Cx}{pins:List (Addr×Obj)}{O:L2.St}{H:Hp}{s:Shared}
def ug(I:Inv X pins O H s)(A':Around)(c:Bool)(E:Value->Shared->Prop)(hd:c=true->A'.handled=none)(fr:A'.frames=some X.stack):Inv {X with A:=A',calm:=c,xe:=E} pins O H s :=
 ⟨⟨I.ok.mod,I.ok.kind,I.ok.glob,I.ok.blt,I.ok.above,I.ok.inj,I.ok.has,I.ok.cab,hd,fr,I.ok.stk,I.ok.exf,I.ok.bs,I.ok.bsz,I.ok.noex,I.ok.exfs,I.ok.funs,I.ok.frf⟩,I.os,I.bare,I.base,I.loc,I.cell,I.free,I.freeC,I.pin,I.hok,I.len⟩
end
abbrev cxN(c:Bool)(P:Program)(w:World)(K:qH)(mg:Str->Option Value)(base:Heap)(N:List Str)(qual:Str)(scope:Scope)(f:Addr)(cd:Value)(A:Around)(outer:List Env)(s:Shared)(H:Hp)(E:XK):Cx :=
 cxC c P w K mg base N qual scope f cd A outer s H E
structure FnOkN(c:Bool)(P:Program)(w:World)(K:qH)(mg:Str->Option Value)(base:Heap)(k:Nat)(f:Addr)(fd:FuncData)(ps:List Str)(sp:Sp):Prop where
 len:∀vs H Q E,sp vs H Q E->vs.length=ps.length
 run:∀(A:Around) (outer:List Env) (s:Shared) (H:Hp) (args:Args) (us:List Value) (vs:List V) (Q:VK) (E:XK),(c=true->A.handled=none)->RoomN k A->Env0 P w K mg base A outer s H->BindsTo s fd args (ps.zip us)->yj vs us->sp vs H Q E ->
  codeAny (model P w) A (.call (.ref f) args) (CR (CXx P w) outer P w H s Q E) s
section
variable{c:Bool}{P:Program}{w:World}{K:qH}{mg:Str->Option Value}{base:Heap}
def FnOkN.fn(F:FnOkN c P w K mg base k f fd ps sp):FnOk P w K mg base (CXx P w) k f fd ps sp :=
 ⟨F.len,λA outer s H args us vs Q E hr=>F.run A outer s H args us vs Q E (λ_=>hr.hd) (zFU hr)⟩
def fn_ofN{k:Nat}{f:Addr}{name qual:Str}{params:Arguments}{body:List Stmt}{scope:Scope}{dV kV doc pm cdv ct oc:Value}{an od:Option Addr}
  {osl:Array (Option Value)} {N ps:List Str} {sp:Sp} (lk:K.lookup f=some ⟨oc,od,.func (fnOf name qual params body scope dV kV doc pm an cdv ct),osl⟩) (hcd:codeIn K cdv qual=true) (S:FnScope N ps scope)
  (len:∀vs H Q E,sp vs H Q E->vs.length=ps.length)
  (hbody:∀(A:Around) (outer:List Env) (s:Shared) (H:Hp) (vs:List V) (Q:VK) (E:XK),(c=true->A.handled=none)->RoomN k (A.deeper (envOfC qual scope s.heap.objs.size f cdv))->sp vs H Q E ->
   ∃t,PSs (cxN c P w K mg base N qual scope f cdv A outer s H E) body t/\t {nx:=λ_ H'=>Q .non H',rt:=Q} (wb N vs) H) :
  FnOkN c P w K mg base (k+1) f (fnOf name qual params body scope dV kV doc pm an cdv ct) ps sp:=by
 refine⟨len,λA outer s H args us vs Q E hd hr e0 hb r hsp=>?_⟩;have hl:=len _ _ _ _ hsp;have KX:K.In s.heap:=e0.mod.kin.keeps λb o e=>(e0.bs b o e).1
 have lim:s.heap.NoLimit:=e0.mod.nolimit.keeps λb o e=>(e0.bs b o e).1
 have hkind:∀y∈ps.zip us,scope.names.lookup y.1=some .local\/(scope.names.lookup y.1=some .cell/\((cellsFrom (s.heap.objs.size+1) scope.names []).lookup y.1).isSome=true):=λ⟨n,v⟩ hy=>by
  rcases S.par n (of_mem_zip hy).1 with q|q
  ·exact .inl q
  ·exact .inr ⟨q,cellsFrom_some _ _ _ (.inl q)⟩
 refine codeAny_call_function hr.depth (KX _ _ lk) rfl S.co S.gen rfl (PySem.W.codeRec_of KX hcd) (hb _ _ _ _ ?_);refine wpAny_newFunctionEnv_cells S.kind hkind λenv he s1 x=>?_
 subst he;refine⟨lim.keeps x.toInCall.keep,codeAny_func ?_⟩;obtain⟨t,ht,hq⟩:=hbody A outer s H vs Q E hd (hr.deeper _) hsp;have e1:Env0 P w K mg base {A with handled:=none} outer s H:=⟨e0.frames,e0.mod,e0.bs,e0.bsz,e0.funs,e0.frf,e0.hok,e0.bare⟩
 have I0:Inv (cxOf (CXx P w) P w K mg base N qual scope f cdv {A with handled:=none} outer s H E) [] (wb N vs) H s1:=zDP S rfl e1 hl r x
 have I:Inv (cxN c P w K mg base N qual scope f cdv A outer s H E) [] (wb N vs) H s1:=ug I0 (A.deeper (envOfC qual scope s.heap.objs.size f cdv)) c _ hd (Around.frames_deeper e0.frames);refine wpAny_mono (ht [] s1 (wb N vs) H _ I hq) (λfl s' hs=>?_) λe s' hs=>hs
 have fin:∀{O':L2.St} {H':Hp} {v:V} {u:Value},Inv (cxN c P w K mg base N qual scope f cdv A outer s H E) [] O' H' s'->ym v u->Q v H'->CE outer P w H s Q u s' :=
  λ{O' H' v u} J rv q=>⟨v,H',J.os,J.bare,J.base,J.hok,rv,q⟩
 cases fl with
 |ret u =>
  obtain⟨v,O',H',J,rv,q⟩:=hs;exact fin J rv q
 |next =>
  obtain⟨O',H',J,q⟩:=hs;exact fin (v:=V.non) (u:=Value.none) J rfl q
 |brk =>
  obtain⟨_,_,_,q⟩:=hs;exact False.elim q
 |cont =>
  obtain⟨_,_,_,q⟩:=hs;exact False.elim q
end
structure Exn where
 cls:Str
 made:Bool
 vs:List Int
 deriving Inhabited
def zDb(c:Str):List Str:=if c == "TooGreat" then ["many","most"]else if c == "NoText" then ["row"]else []
def fsV(c:Str)(vs:List Int):List (Str×V):=(zDb c).zip (vs.map V.int)
def Fs(od:Option Addr)(H:Hp)(c:Str)(vs:List Int):Prop:=vs=[]\/∃d,od=some d/\H d=some (XD d (fsV c vs))
def RelX(X:Cx)(pins:List (Addr×Obj))(O:L2.St)(x:Exn)(H:Hp)(e:Value)(s:Shared):Prop:=∃a C od,e=.ref a/\X.mg x.cls=some (.ref C)/\H a=none/\Fs od H x.cls x.vs /\
 ((x.made=true/\∃s1,Inv X pins O H s1/\s={s1 with heap:=s.heap}/\MadeD s1.heap s.heap a (.ref C) od) \/
  (x.made=false/\∃sc Hc,Inv X pins O Hc sc/\Un (frs X.stack) [] Hc H sc.heap s.heap/\Flies X.stack H sc.heap a C s.heap/\zAh a od s.heap))
def XE(X:Cx)(O:L2.St)(H:Hp)(x:Exn):Prop:=∀(pins:List (Addr×Obj)) (s:Shared) (e:Value),Inv X pins O H s->RelX X pins O x H e s->X.xe e s
def EX(X:Cx)(O:L2.St):XK:=λc od H'=>∃x C,c=.ref C/\X.mg x.cls=some (.ref C)/\x.made=false/\Fs od H' x.cls x.vs/\XE X O H' x
section
variable{X:Cx}{pins:List (Addr×Obj)}{O:L2.St}{H:Hp}{s s':Shared}{e:Value}
def pass_x(I:Inv X pins O H s)(h:CXx X.prog X.w X.stack H s (EX X O) e s'):X.xe e s':=by
 obtain⟨a,C,od,H',rfl,os,bare,un,hok,hn,fl,dl,x,C',ec,hm,hmd,hf,k⟩:=h;cases ec;have I':Inv X pins O H' s':=I.call' (ch:=[]) os un hok bare (λb z=>absurd z (by simp));exact k pins s' _ I' ⟨a,C,od,rfl,hm,hn,hf,.inr ⟨hmd,s,H,I,un,fl,dl⟩⟩
def run_fnN(F:FnOkN c X.prog X.w X.K X.mg X.base k f fd ps sp)(hd:c=true->X.A.handled=none)(hr:RoomN k X.A)(hb:WP X.K fd ps [])
  (I:Inv X pins O H s) (r:yj vs us) (h:sp vs H Q (EX X O)):wpAny (model X.prog X.w) X.A (call (.ref f) us) (EP X pins O Q) X.xe s:=by
 have hl:us.length=ps.length:=by rw[<- r.length];exact F.len _ _ _ _ h
 have hbd:=hb s us I.kIn (by rw[append_nil];exact hl);rw[append_nil]at hbd;refine wpAny_call (codeAny_mono (F.run X.A X.stack s H ⟨us,[]⟩ us vs Q (EX X O) hd hr I.env0 hbd r h) λr s' hq=>?_);cases r with
 |error e=>exact pass_x I hq
 |ok fl =>
  cases fl with
  |ret u=>exact I.after hq|next=>exact False.elim hq|brk=>exact False.elim hq|cont=>exact False.elim hq
end
section
variable{X:Cx}{c:Bool}{k:Nat}{f:Addr}{fd:FuncData}{ps:List Str}{sp:Sp}{x:Str}{p pos:Pos}{e:Expr}{es:List Expr}{t:TA}
def zFV(F:FnOkN c X.prog X.w X.K X.mg X.base k f fd ps sp)(hdl:c=true->X.A.handled=none)(hr:RoomN k X.A)(hg:Gl X x)(hm:X.mg x=some (.ref f))(hk:keepIn X.K (.ref f)=true)(hb:WP X.K fd ps [])
  (ha:PA X (e::es) t) (hdb:(x==("__debug__":Str))=false:=by decide) (he:starEach (e::es) X.env=(false,eval e X.env)::starEach es X.env:=by rfl) (hpl:(backTo pos (starEach es X.env)).any (·.1)=false:=by rfl) :
  PE X (.Call (.Name x p) (e::es) [] pos) (λO H Q=>t O H λvs H1=>sp vs H1 Q (EX X O)):=by
 intro pins s O H Q I h;refine wpAny_Call_Name_kw (zC6 I hg hm ?_ hdb);refine PySem.W.callWith_K (h₀:=X.base) I.ok.mod.kin hk (thn (ha pos pins s O H _ I h) λus s1 ⟨vs,H1,I1,r,q⟩=>⟨I1.kIn,?_⟩) he hpl;exact run_fnN F hdl hr hb I1 r q
end
def zFW{c:Bool}{P:Program}{w:World}{K:qH}{mg:Str->Option Value}{base:Heap}{N:List Str}{qual:Str}{scope:Scope}{f:Addr}{cd:Value}{A:Around}{outer:List Env}{s:Shared}{H H':Hp}{E:XK}{O:L2.St}{x:Exn}
  (hE:∀C od,mg x.cls=some (.ref C)->Fs od H' x.cls x.vs->E (.ref C) od H'):XE (cxN c P w K mg base N qual scope f cd A outer s H E) O H' x:=by
 intro pins s' e I ⟨a,C,od,he,hm,hn,hf,h⟩;subst he;have sw:∀{H1:Hp} {s1:Shared},Inv (cxN c P w K mg base N qual scope f cd A outer s H E) pins O H1 s1->Inv (cxX P w K mg base N qual scope f cd {A with handled:=none} outer s H E) pins O H1 s1:=λJ=>ug J _ true _ (λ_=>rfl) J.ok.frames
 rcases h with⟨_,s1,I1,hs,hx⟩|⟨_,sc,Hc,Ic,un,fl,dl⟩
 ·exact zAj I1 hx hs hn (hE C od hm hf)
 ·obtain⟨B,t,f1,f2⟩:=fl
  refine zCg I I.base hn ⟨B,t,f1,λb o q z nf=>f2 b o q ?_ nf⟩ dl (hE C od hm hf);rcases z with⟨o',z⟩|z
  ·exact .inl (Ic.base.there b o' z (by show b∉([]:List Addr);simp))
  ·exact .inr z
end DV
namespace DV
open PySem L2 PyProof.Rows PySem.Spec
open PySem.W (Frag Looks)
structure XCls(K:Frag)(c:Str)(C T:Addr):Prop where
 cd:∃cd,clsIn K C=some cd/\cd.name=c/\cd.mro=[.ref C,.ref T,.type "ValueError",.type "Exception",.type "BaseException",.type "object"]
 ty:typeIn K (.ref C)=some (.type "type")
 ga:findIn K (.ref C) "__getattribute__"=some (some (.builtin "BaseException.__getattribute__"))
 gn:findIn K (.ref C) "__getattr__"=some none
 gc:findIn K (.ref C) "__class__"=some (some (.builtin "object.__class__"))
 sp:specialIn K (.builtin "object.__class__") "__get__"=some (some (.builtin "getset_descriptor.__get__"))
 tk:takesIn K (.builtin "object.__class__")=some true
structure TCls(K:Frag)(T:Addr):Prop where
 cd:∃cd,clsIn K T=some cd/\cd.mro=.ref T::VB
 ty:typeIn K (.ref T)=some (.type "type")
end DV
namespace DV
open PySem L2 PyProof.Rows PySem.Spec
open PySem.W (Looks)
structure XSet(K:qH)(C T:Addr):Prop where
 cd:∃cd,clsIn K C=some cd/\cd.mro=.ref C::.ref T::VB/\cd.hasDict=true
 sa:findIn K (.ref C) "__setattr__"=some (some (.builtin "object.__setattr__"))
end DV
namespace DV
open PySem L2
set_option genInjectivity true in
inductive D where
 |non
 |bl (b:Bool)
 |int (i:Int)
 |str (x:Str)
 |t (ds:List D)
 |l (ds:List D)
 |fn (x:Str)
 |dic
 |exn (c:Str) (vs:List Int)
 |dct (ks:List (List KN)) (vs:List D)
 deriving Inhabited
def oD:KN->D
 |none=>.non|some i=>.int i
def kD(ks:List KN):D:=.t (ks.map oD)
mutual
def Rep(K:qH)(mg:Str->Option Value)(H:Hp):D->V->Prop
 | .non,v=>v=.non| .bl b,v=>v=.bl b| .int i,v=>v=.int i| .str x,v=>v=.str x| .t ds,v=>∃a xs,v=.ref a/\SqT K H a xs/\Reps K mg H ds xs| .l ds,v=>∃a xs,v=.ref a/\SqL K H a xs/\Reps K mg H ds xs| .fn x,v=>∃f,v=.ref f/\mg x=some (.ref f)| .dic,v=>∃a,v=.ref a/\H a=some (.dK [])| .exn c vs,v=>∃a C,v=.ref a/\mg c=some (.ref C)/\((vs=[]/\H a=some (ExO C a))\/∃d,H a=some (ExA C d a)/\H d=some (XD d (fsV c vs)))| .dct ks vs,v=>∃a es,v=.ref a/\H a=some (Zu a es)/\ks=es.map (·.1)/\(∀e∈es,SqT K H e.2.1 (e.1.map oV))/\Reps K mg H vs (es.map (·.2.2))
def Reps(K:qH)(mg:Str->Option Value)(H:Hp):List D->List V->Prop
 | [],vs=>vs=[]|d::ds,vs=>∃v r,vs=v::r/\Rep K mg H d v/\Reps K mg H ds r
end
section
variable{K:qH}{mg:Str->Option Value}{H H':Hp}
def zO(e:ZK H H')(h:SqT K H a xs):SqT K H' a xs:=by
 rcases h with(h|⟨o,h⟩)|h
 ·exact .inl (.inl (e _ _ h))
 ·exact .inl (.inr ⟨o,e _ _ h⟩)
 ·exact .inr h
mutual
theorem Rep.mono(e:ZK H H'):∀{d:D} {v:V},Rep K mg H d v->Rep K mg H' d v
 | .non,_,h=>by simpa only[Rep]using h| .bl _,_,h=>by simpa only[Rep]using h| .int _,_,h=>by simpa only[Rep]using h| .str _,_,h=>by simpa only[Rep]using h
 | .t ds,_,h=>by
  simp only[Rep]at h ⊢;obtain⟨a,xs,h1,h2,h3⟩:=h;exact⟨a,xs,h1,zO e h2,Reps.mono e h3⟩
 | .l ds,_,h=>by
  simp only[Rep]at h ⊢;obtain⟨a,xs,h1,h2,h3⟩:=h;exact⟨a,xs,h1,e.seq h2,Reps.mono e h3⟩
 | .fn _,_,h=>by simpa only[Rep]using h
 | .dic,_,h=>by
  simp only[Rep]at h ⊢;obtain⟨a,h1,h2⟩:=h;exact⟨a,h1,e _ _ h2⟩
 | .exn _ _,_,h=>by
  simp only[Rep]at h ⊢;obtain⟨a,C,h1,h2,h3⟩:=h;refine⟨a,C,h1,h2,?_⟩;rcases h3 with⟨hv,h3⟩|⟨d,h3,h4⟩
  ·exact .inl ⟨hv,e _ _ h3⟩
  ·exact .inr ⟨d,e _ _ h3,e _ _ h4⟩
 | .dct ks vs,_,h=>by
  simp only[Rep]at h ⊢;obtain⟨a,es,h1,h2,h3,h4,h5⟩:=h;exact⟨a,es,h1,e _ _ h2,h3,λx hx=>zO e (h4 x hx),Reps.mono e h5⟩
theorem Reps.mono(e:ZK H H'):∀{ds:List D} {vs:List V},Reps K mg H ds vs->Reps K mg H' ds vs
 | [],_,h=>by simpa only[Reps]using h
 |d::ds,_,h=>by
  simp only[Reps]at h ⊢;obtain⟨v,r,h1,h2,h3⟩:=h;exact⟨v,r,h1,Rep.mono e h2,Reps.mono e h3⟩
end
theorem Reps.length:∀{ds:List D} {vs:List V},Reps K mg H ds vs->vs.length=ds.length
 | [],_,h=>by simp only[Reps]at h;subst h;rfl
 |d::ds,_,h=>by
  simp only[Reps]at h;obtain⟨v,r,rfl,h2,h3⟩:=h;simp[Reps.length h3]
def Reps.nil:Reps K mg H [] []:=by simp only[Reps]
def Reps.cons(h:Rep K mg H d v)(t:Reps K mg H ds vs):Reps K mg H (d::ds) (v::vs):=by
 simp only[Reps];exact⟨v,vs,rfl,h,t⟩
theorem Reps.get:∀{ds:List D} {vs:List V} {i:Nat} {v:V},Reps K mg H ds vs->vs[i]?=some v->∃d,ds[i]?=some d/\Rep K mg H d v
 | [],_,_,_,h,e=>by simp only[Reps]at h;subst h;simp at e
 |d::ds,_,i,v,h,e=>by
  simp only[Reps]at h;obtain⟨v',r,rfl,h2,h3⟩:=h;cases i with
  |zero=>simp at e;subst e;exact⟨d,rfl,h2⟩|succ i=>simp at e;obtain⟨d',q1,q2⟩:=Reps.get h3 e;exact⟨d',by simpa using q1,q2⟩
theorem Reps.get':∀{ds:List D} {vs:List V} {i:Nat} {d:D},Reps K mg H ds vs->ds[i]?=some d->∃v,vs[i]?=some v/\Rep K mg H d v
 | [],_,_,_,h,e=>by simp at e
 |d::ds,_,i,d',h,e=>by
  simp only[Reps]at h;obtain⟨v',r,rfl,h2,h3⟩:=h;cases i with
  |zero=>simp at e;subst e;exact⟨v',rfl,h2⟩|succ i=>simp at e;obtain⟨v,q1,q2⟩:=Reps.get' h3 e;exact⟨v,by simpa using q1,q2⟩
theorem Reps.append:∀{ds es:List D} {vs ws:List V},Reps K mg H ds vs->Reps K mg H es ws->Reps K mg H (ds++es) (vs++ws)
 | [],_,_,_,h,g=>by simp only[Reps]at h;subst h;exact g
 |d::ds,_,_,_,h,g=>by
  simp only[Reps]at h;obtain⟨v',r,rfl,h2,h3⟩:=h;exact Reps.cons h2 (Reps.append h3 g)
theorem Reps.set:∀{ds:List D} {vs:List V} (i:Nat) {d:D} {v:V},Reps K mg H ds vs->Rep K mg H d v->Reps K mg H (ds.set i d) (vs.set i v)
 | [],_,_,_,_,h,g=>by simp only[Reps]at h;subst h;exact Reps.nil
 |d::ds,_,i,_,_,h,g=>by
  simp only[Reps]at h;obtain⟨v',r,rfl,h2,h3⟩:=h;cases i with
  |zero=>exact Reps.cons g h3|succ i=>exact Reps.cons h2 (Reps.set i h3 g)
theorem Reps.take:∀{ds:List D} {vs:List V} (n:Nat),Reps K mg H ds vs->Reps K mg H (ds.take n) (vs.take n)
 | [],_,_,h=>by simp only[Reps]at h;subst h;simp[Reps.nil]
 |d::ds,_,n,h=>by
  simp only[Reps]at h;obtain⟨v',r,rfl,h2,h3⟩:=h;cases n with
  |zero=>exact Reps.nil|succ n=>exact Reps.cons h2 (Reps.take n h3)
theorem Reps.drop:∀{ds:List D} {vs:List V} (n:Nat),Reps K mg H ds vs->Reps K mg H (ds.drop n) (vs.drop n)
 | [],_,_,h=>by simp only[Reps]at h;subst h;simp[Reps.nil]
 |d::ds,_,n,h=>by
  simp only[Reps]at h;obtain⟨v',r,rfl,h2,h3⟩:=h;cases n with
  |zero=>exact Reps.cons h2 h3|succ n=>exact Reps.drop n h3
theorem Reps.flatten(h:Reps K mg H ds vs):∀n:Nat,Reps K mg H (replicate n ds).flatten (replicate n vs).flatten
 |0=>Reps.nil|n+1=>by simp only[replicate_succ,flatten_cons];exact h.append (Reps.flatten h n)
end
open Classical in
def Hm(M:Addr->Prop)(H:Hp):Hp:=λb=>if M b then none else H b
section
variable{M M':Addr->Prop}{H H':Hp}{b:Addr}{o:HO}
def z9:Hm M H b=some o↔¬M b/\H b=some o:=by
 unfold Hm;by_cases h:M b
 ·simp[h]
 ·simp[h]
def zF:ZK (Hm M H) H:=λb o h=>(z9.mp h).2
def jF(h:∀b,M' b->M b):ZK (Hm M H) (Hm M' H):=λb o e=>z9.mpr ⟨λx=>(z9.mp e).1 (h b x),(z9.mp e).2⟩
end
inductive Slot where
 |e
 |v (d:D)
 |own (ds:List D)
 |par (ds:List D)
 |dct (ks:List (List KN)) (vs:List D)
 deriving Inhabited
abbrev zS:=List Slot
set_option genInjectivity true in
inductive R where
 |v (d:D)
 |own (ds:List D)
 |dct (ks:List (List KN)) (vs:List D)
 deriving Inhabited
def R.slot:R->Slot
 | .v d=>.v d| .own ds=>.own ds| .dct ks vs=>.dct ks vs
def R.d:R->D
 | .v d=>d| .own ds=>.l ds| .dct ks vs=>.dct ks vs
inductive Ct where
 |l (ds:List D)
 |d (ks:List (List KN)) (vs:List D)
def Slot.ct?:Slot->Option Ct
 | .own ds=>some (.l ds)| .par ds=>some (.l ds)| .dct ks vs=>some (.d ks vs)|_=>none
def CRep(K:qH)(mg:Str->Option Value)(H:Hp)(a:Addr):Ct->HO->Prop
 | .l ds,o=>∃xs,o=.l xs/\Reps K mg H ds xs| .d ks vs,o=>∃es,o=Zu a es/\ks=es.map (·.1)/\(∀e∈es,SqT K H e.2.1 (e.1.map oV))/\Reps K mg H vs (es.map (·.2.2))
theorem CRep.mono{mg:Str->Option Value}(e:ZK H H'):∀{c:Ct},CRep K mg H a c o->CRep K mg H' a c o
 | .l ds,⟨xs,h1,h2⟩=>⟨xs,h1,h2.mono e⟩| .d ks vs,⟨es,h1,h2,h3,h4⟩=>⟨es,h1,h2,λx hx=>zO e (h3 x hx),h4.mono e⟩
def Slot.list?:Slot->Option (List D)
 | .own ds=>some ds| .par ds=>some ds|_=>none
abbrev Fz:=List (Option V×Slot)
def GV:Option V×Slot->Option Addr
 | (some (.ref a),.own _)=>some a| (some (.ref a),.par _)=>some a| (some (.ref a),.dct _ _)=>some a|_=>none
def yF(Z:Fz):List Addr:=Z.filterMap GV
def Mo(M:Addr->Prop)(Z:Fz):Addr->Prop:=λb=>M b\/b∈yF Z
def zR(Z T:Fz):yF (Z++T)=yF Z++yF T:=List.filterMap_append
def za(o:Option V)(d:D)(Z:Fz):yF ((o,.v d)::Z)=yF Z:=by
 unfold yF;rw[List.filterMap_cons_none];cases o with
 |none=>rfl
 |some v=>cases v<;>rfl
def Yo(a:Addr)(ds:List D)(Z:Fz):yF ((some (.ref a),.own ds)::Z)=a::yF Z:=rfl
def Yp(a:Addr)(ks:List (List KN))(vs:List D)(Z:Fz):yF ((some (.ref a),.dct ks vs)::Z)=a::yF Z:=rfl
def yA(o:Option V)(Z:Fz):yF ((o,.e)::Z)=yF Z:=by
 unfold yF;rw[List.filterMap_cons_none];cases o with
 |none=>rfl
 |some v=>cases v<;>rfl
def y1(M:Addr->Prop)(T Z:Fz):Mo M (T++Z)=Mo (Mo M T) Z:=by
 funext b
 apply propext;simp only[Mo,zR,mem_append];constructor
 ·rintro (h|h|h)
  ·exact .inl (.inl h)
  ·exact .inl (.inr h)
  ·exact .inr h
 ·rintro ((h|h)|h)
  ·exact .inl h
  ·exact .inr (.inl h)
  ·exact .inr (.inr h)
def GW{M:Addr->Prop}(p:T.Perm Z):Mo M T=Mo M Z:=by
 funext b
 apply propext;simp only[Mo,yF];rw[(p.filterMap GV).mem_iff]
def wV(M:Addr->Prop)(o:Option V)(d:D)(Z:Fz):Mo M ((o,.v d)::Z)=Mo M Z:=by unfold Mo;rw[za]
def Qa(M:Addr->Prop)(o:Option V)(Z:Fz):Mo M ((o,.e)::Z)=Mo M Z:=by unfold Mo;rw[yA]
structure FR(K:qH)(mg:Str->Option Value)(M:Addr->Prop)(H:Hp)(Z:Fz):Prop where
 val:∀o d,(o,Slot.v d)∈Z->∃v,o=some v/\Rep K mg (Hm (Mo M Z) H) d v
 own:∀o s c,(o,s)∈Z->s.ct?=some c->∃a ho,o=some (.ref a)/\H a=some ho/\¬M a/\CRep K mg (Hm (Mo M Z) H) a c ho
 nd:(yF Z).Nodup
 mal:∀b,M b->∃o,H b=some o/\OwnK o
structure Step(M:Addr->Prop)(H:Hp)(Z:Fz)(H':Hp)(Z':Fz):Prop where
 same:ZK (Hm (Mo M Z) H) (Hm (Mo M Z') H')
 keep:∀b o,M b->H b=some o->H' b=some o
section
variable{K:qH}{mg:Str->Option Value}{M:Addr->Prop}{H H' H1 H2:Hp}{Z Z' T Z1 Z2:Fz}
theorem Step.refl:Step M H Z H Z:=⟨ZK.refl _,λ_ _ _ h=>h⟩
theorem Step.trans(a:Step M H Z H1 Z1)(b:Step M H1 Z1 H2 Z2):Step M H Z H2 Z2 :=
 ⟨a.same.trans b.same,λx o m h=>b.keep x o m (a.keep x o m h)⟩
def J7(h:∀b,b∈yF Z->b∈yF Z'):∀b,Mo M Z b->Mo M Z' b:=λb q=>q.elim .inl λq=>.inr (h b q)
def Step.weak(a:Step M H Z H' Z')(h:∀b,b∈yF T->b∈yF Z'):Step M H Z H' T :=
 ⟨a.same.trans (jF (J7 h)),a.keep⟩
def Step.left(a:Step M H Z H' Z')(h:∀b,b∈yF Z->b∈yF T):Step M H T H' Z' :=
 ⟨(jF (J7 h)).trans a.same,a.keep⟩
def zC(h:T.Sublist Z):∀b,b∈yF T->b∈yF Z:=λb q=>(h.filterMap GV).subset q
def zD(h:T.Perm Z):∀b,b∈yF T->b∈yF Z:=λb q=>(h.filterMap GV).subset q
def FR.perm(h:FR K mg M H Z)(p:Z.Perm T):FR K mg M H T where
 val:=λo d q=>by rw[<- GW p];exact h.val o d (p.mem_iff.mpr q)
 own:=λo s ds q e=>by rw[<- GW p];exact h.own o s ds (p.mem_iff.mpr q) e
 nd:=(p.filterMap GV).nodup_iff.mp h.nd
 mal:=h.mal
def FR.sub(h:FR K mg M H Z)(p:T.Sublist Z):FR K mg M H T where
 val:=λo d q=>by
  obtain⟨v,e,r⟩:=h.val o d (p.subset q);exact⟨v,e,r.mono (jF (J7 (zC p)))⟩
 own:=λo s ds q e=>by
  obtain⟨a,xs,e1,e2,e3,r⟩:=h.own o s ds (p.subset q) e;exact⟨a,xs,e1,e2,e3,r.mono (jF (J7 (zC p)))⟩
 nd:=h.nd.sublist (p.filterMap GV)
 mal:=h.mal
def FR.tail(h:FR K mg M H (x::Z)):FR K mg M H Z:=h.sub (sublist_cons_self _ _)
def zDc{s:Slot}{ds:List D}(e:s.list?=some ds):s.ct?=some (.l ds):=by
 cases s<;>first|(cases e;rfl)|(cases e)
def FR.ownL(h:FR K mg M H Z)(o:Option V)(s:Slot)(ds:List D)(m:(o,s)∈Z)(e:s.list?=some ds):∃a xs,o=some (.ref a)/\H a=some (.l xs)/\¬M a/\Reps K mg (Hm (Mo M Z) H) ds xs:=by
 obtain⟨a,ho,e1,e2,e3,xs,rfl,r⟩:=h.own o s _ m (zDc e);exact⟨a,xs,e1,e2,e3,r⟩
def jG(h:(o,s)∈Z)(e:s.ct?=some c)(ho:o=some (.ref a)):a∈yF Z:=by
 subst ho;refine mem_filterMap.mpr ⟨_,h,?_⟩;cases s<;>simp[Slot.ct?]at e<;>rfl
def zAk{o:Option V}{s:Slot}{ds:List D}{a:Addr}(h:(o,s)∈Z)(e:s.list?=some ds)(ho:o=some (.ref a)):a∈yF Z:=jG h (zDc e) ho
def zAl(h:a∈yF Z):∃s c,(some (V.ref a),s)∈Z/\Slot.ct? s=some c:=by
 obtain⟨⟨o,s⟩,h1,h2⟩:=mem_filterMap.mp h;unfold GV at h2;split at h2
 ·rename_i e;cases e;cases h2;exact⟨_,_,h1,rfl⟩
 ·rename_i e;cases e;cases h2;exact⟨_,_,h1,rfl⟩
 ·rename_i e;cases e;cases h2;exact⟨_,_,h1,rfl⟩
 ·cases h2
def CRep.own{mg:Str->Option Value}:∀{c:Ct},CRep K mg H a c o->OwnK o
 | .l _,⟨xs,h,_⟩=>.inl ⟨xs,h⟩| .d _ _,⟨es,h,_⟩=>.inr ⟨_,h⟩
def FR.ownAt(h:FR K mg M H Z)(e:a∈yF Z):∃o,H a=some o/\¬M a/\OwnK o:=by
 obtain⟨s,c,h1,h2⟩:=zAl e;obtain⟨a',o,e1,e2,e3,r⟩:=h.own _ s c h1 h2;cases e1;exact⟨o,e2,e3,r.own⟩
def FR.moAl(h:FR K mg M H Z)(b:Addr)(e:Mo M Z b):∃o,H b=some o/\OwnK o:=by
 rcases e with e|e
 ·exact h.mal b e
 ·obtain⟨xs,q,_,z⟩:=h.ownAt e
  exact⟨_,q,z⟩
def FR.inner(h:FR K mg M H (T++Z)):FR K mg (Mo M T) H Z where
 val:=λo d q=>by rw[<- y1];exact h.val o d (qK _ q)
 own:=λo s ds q e=>by
  obtain⟨a,xs,e1,e2,e3,r⟩:=h.own o s ds (qK _ q) e;refine⟨a,xs,e1,e2,λm=>?_,by rw[<- y1];exact r⟩;rcases m with m|m
  ·exact e3 m
  ·have nd:=h.nd
   rw[zR]at nd;exact(nodup_append.mp nd).2.2 a m a (jG q e e1) rfl
 nd:=by
  have nd:=h.nd;rw[zR]at nd;exact(nodup_append.mp nd).2.1
 mal:=λb q=>by
  rcases q with q|q
  ·exact h.mal b q
  ·obtain⟨xs,q,_,z⟩:=h.ownAt (a:=b) (by rw[zR];exact mem_append_left _ q)
   exact⟨_,q,z⟩
def FR.outer(h:FR K mg M H (T++Z))(g:FR K mg (Mo M T) H' Z')(st:Step (Mo M T) H Z H' Z'):FR K mg M H' (T++Z') where
 val:=λo d q=>by
  rw[y1];rcases mem_append.mp q with q|q
  ·obtain⟨v,e,r⟩:=h.val o d (mem_append_left _ q)
   rw[y1]at r;exact⟨v,e,r.mono st.same⟩
  ·exact g.val o d q
 own:=λo s ds q e=>by
  rw[y1];rcases mem_append.mp q with q|q
  ·obtain⟨a,xs,e1,e2,e3,r⟩:=h.own o s ds (mem_append_left _ q) e
   rw[y1]at r;exact⟨a,xs,e1,st.keep a _ (.inr (jG q e e1)) e2,e3,r.mono st.same⟩
  ·obtain⟨a,xs,e1,e2,e3,r⟩:=g.own o s ds q e
   exact⟨a,xs,e1,e2,λm=>e3 (.inl m),r⟩
 nd:=by
  rw[zR];have nd:=h.nd;rw[zR]at nd;refine nodup_append.mpr ⟨(nodup_append.mp nd).1,g.nd,λa ha b hb e=>?_⟩;subst e;obtain⟨xs,_,q,_⟩:=g.ownAt hb;exact q (.inr ha)
 mal:=λb q=>g.mal b (.inl q)
def Step.outer(st:Step (Mo M T) H Z H' Z'):Step M H (T++Z) H' (T++Z') :=
 ⟨by rw[y1,y1];exact st.same,λb o m h=>st.keep b o (.inl m) h⟩
def yQ(hp:H p=none):ZK H (upd H p o):=λb u e=>by
 rw[zk (λq=>by subst q;rw[hp]at e;cases e)];exact e
def FR.grow(h:FR K mg M H Z)(hp:H p=none):FR K mg M (upd H p o) Z where
 val:=λo' d q=>by
  obtain⟨v,e,r⟩:=h.val o' d q;exact⟨v,e,r.mono λb u x=>z9.mpr ⟨(z9.mp x).1,yQ hp b u (z9.mp x).2⟩⟩
 own:=λo' s ds q e=>by
  obtain⟨a,xs,e1,e2,e3,r⟩:=h.own o' s ds q e;exact⟨a,xs,e1,yQ hp _ _ e2,e3,r.mono λb u x=>z9.mpr ⟨(z9.mp x).1,yQ hp b u (z9.mp x).2⟩⟩
 nd:=h.nd
 mal:=λb q=>by obtain⟨u,e,z⟩:=h.mal b q;exact⟨u,yQ hp _ _ e,z⟩
def Step.grow(hp:H p=none):Step M H Z (upd H p o) Z :=
 ⟨λb u x=>z9.mpr ⟨(z9.mp x).1,yQ hp b u (z9.mp x).2⟩,λb u _ e=>yQ hp b u e⟩
def FR.add(h:FR K mg M H Z)(r:Rep K mg (Hm (Mo M Z) H) d v):FR K mg M H ((some v,.v d)::Z) where
 val:=λo d' q=>by
  rw[wV];rcases mem_cons.mp q with q|q
  ·cases q;exact⟨v,rfl,r⟩
  ·exact h.val o d' q
 own:=λo s ds q e=>by
  rw[wV];rcases mem_cons.mp q with q|q
  ·cases q;cases e
  ·exact h.own o s ds q e
 nd:=by rw[za];exact h.nd
 mal:=h.mal
def Step.add(st:Step M H Z H' Z'):Step M H Z H' ((v,.v d)::Z'):=by
 refine⟨?_,st.keep⟩;rw[wV];exact st.same
def Yq(h:FR K mg M H Z)(hp:H p=none):¬Mo M Z p:=λq=>by
 obtain⟨o,e,_⟩:=h.moAl p q;rw[hp]at e;cases e
def wf(h:FR K mg M H Z)(hp:H p=none):ZK (Hm (Mo M Z) H) (Hm (Mo M ((some (.ref p),.own ds)::Z)) (upd H p (.l xs))):=λb u x=>by
 obtain⟨h1,h2⟩:=z9.mp x;refine z9.mpr ⟨λq=>?_,yQ hp _ _ h2⟩;rcases q with q|q
 ·exact h1 (.inl q)
 ·rw[Yo]at q
  rcases mem_cons.mp q with q|q
  ·subst q;rw[hp]at h2;cases h2
  ·exact h1 (.inr q)
def FR.newOwn(h:FR K mg M H Z)(hp:H p=none)(r:Reps K mg (Hm (Mo M Z) H) ds xs):FR K mg M (upd H p (.l xs)) ((some (.ref p),.own ds)::Z) where
 val:=λo d q=>by
  rcases mem_cons.mp q with q|q
  ·cases q
  ·obtain⟨v,e,r⟩:=h.val o d q
   exact⟨v,e,r.mono (wf h hp)⟩
 own:=λo s ds' q e=>by
  rcases mem_cons.mp q with q|q
  ·cases q;cases e
   exact⟨p,_,rfl,jR,λm=>Yq h hp (.inl m),xs,rfl,r.mono (wf h hp)⟩
  ·obtain⟨a,ys,e1,e2,e3,r⟩:=h.own o s ds' q e
   exact⟨a,ys,e1,yQ hp _ _ e2,e3,r.mono (wf h hp)⟩
 nd:=by
  rw[Yo];exact nodup_cons.mpr ⟨λq=>Yq h hp (.inr q),h.nd⟩
 mal:=λb q=>by obtain⟨u,e,z⟩:=h.mal b q;exact⟨u,yQ hp _ _ e,z⟩
def Step.newOwn(h:FR K mg M H Z)(hp:H p=none):Step M H Z (upd H p (.l xs)) ((some (.ref p),.own ds)::Z) :=
 ⟨wf h hp,λb u _ e=>yQ hp b u e⟩
def jz(h:FR K mg M H Z)(hp:H p=none):ZK (Hm (Mo M Z) H) (Hm (Mo M ((some (.ref p),.dct ks vs)::Z)) (upd H p o)):=λb u x=>by
 obtain⟨h1,h2⟩:=z9.mp x;refine z9.mpr ⟨λq=>?_,yQ hp _ _ h2⟩;rcases q with q|q
 ·exact h1 (.inl q)
 ·rw[Yp]at q
  rcases mem_cons.mp q with q|q
  ·subst q;rw[hp]at h2;cases h2
  ·exact h1 (.inr q)
def FR.newDct(h:FR K mg M H Z)(hp:H p=none)(hk:∀e∈es,SqT K (Hm (Mo M Z) H) e.2.1 (e.1.map oV))(r:Reps K mg (Hm (Mo M Z) H) vs (es.map (·.2.2))):FR K mg M (upd H p (Zu p es)) ((some (.ref p),.dct (es.map (·.1)) vs)::Z) where
 val:=λo d q=>by
  rcases mem_cons.mp q with q|q
  ·cases q
  ·obtain⟨v,e,r⟩:=h.val o d q
   exact⟨v,e,r.mono (jz h hp)⟩
 own:=λo s c q e=>by
  rcases mem_cons.mp q with q|q
  ·cases q;cases e
   exact⟨p,_,rfl,jR,λm=>Yq h hp (.inl m),es,rfl,rfl,λx hx=>zO (jz h hp) (hk x hx),r.mono (jz h hp)⟩
  ·obtain⟨a,ys,e1,e2,e3,r⟩:=h.own o s c q e
   exact⟨a,ys,e1,yQ hp _ _ e2,e3,r.mono (jz h hp)⟩
 nd:=by
  rw[Yp];exact nodup_cons.mpr ⟨λq=>Yq h hp (.inr q),h.nd⟩
 mal:=λb q=>by obtain⟨u,e,z⟩:=h.mal b q;exact⟨u,yQ hp _ _ e,z⟩
def Step.newDct(h:FR K mg M H Z)(hp:H p=none):Step M H Z (upd H p o) ((some (.ref p),.dct ks vs)::Z) :=
 ⟨jz h hp,λb u _ e=>yQ hp b u e⟩
def FR.newTup(h:FR K mg M H Z)(hp:H p=none)(r:Reps K mg (Hm (Mo M Z) H) ds xs):FR K mg M (upd H p (.t xs)) ((some (.ref p),.v (.t ds))::Z):=by
 refine(h.grow hp).add ?_;simp only[Rep];refine⟨p,xs,rfl,SqT.of (z9.mpr ⟨Yq h hp,jR⟩),r.mono λb u x=>z9.mpr ⟨(z9.mp x).1,yQ hp b u (z9.mp x).2⟩⟩
def Step.newVal(hp:H p=none):Step M H Z (upd H p o) ((v,.v d)::Z):=(Step.grow hp).add
def FR.frz{o:Option V}{r:R}(h:FR K mg M H ((o,r.slot)::Z)):FR K mg M H ((o,.v r.d)::Z):=by
 cases r with
 |v d=>exact h
 |own ds =>
  obtain⟨a,xs,e1,e2,e3,rr⟩:=h.ownL o (.own ds) ds qE rfl;subst e1;have hn:¬Mo M Z a:=λq=>by
   rcases q with q|q
   ·exact e3 q
   ·exact(nodup_cons.mp h.nd).1 q
  refine h.tail.add ?_;simp only[R.d,Rep];exact⟨a,xs,rfl,SqL.of (z9.mpr ⟨hn,e2⟩),rr.mono (jF (J7 (zC (sublist_cons_self _ _))))⟩
 |dct ks vs =>
  obtain⟨a,ho,e1,e2,e3,es,rfl,r1,r2,r3⟩:=h.own o (.dct ks vs) (.d ks vs) qE rfl;subst e1;have hn:¬Mo M Z a:=λq=>by
   rcases q with q|q
   ·exact e3 q
   ·exact(nodup_cons.mp h.nd).1 q
  refine h.tail.add ?_;have sm:=jF (H:=H) (J7 (M:=M) (zC (sublist_cons_self ((some (V.ref a),Slot.dct ks vs)) Z)));simp only[R.d,Rep];exact⟨a,es,rfl,z9.mpr ⟨hn,e2⟩,r1,λx hx=>zO sm (r2 x hx),r3.mono sm⟩
def Step.frz{o:Option V}{r:R}(h:Step M H Z H' ((o,r.slot)::Z')):Step M H Z H' ((o,.v r.d)::Z'):=by
 cases r with
 |v d=>exact h
 |own ds =>
  refine h.weak λb q=>?_
  rw[za]at q;exact(zC (sublist_cons_self _ _)) b q
 |dct ks vs =>
  refine h.weak λb q=>?_
  rw[za]at q;exact(zC (sublist_cons_self _ _)) b q
theorem GX:∀(O:St) (E:zS) (i:Nat) (o:Option V) (s:Slot),(O.set i o).zip (E.set i s)=(O.zip E).set i (o,s)
 | [],_,_,_,_=>by simp|_::_,[],_,_,_=>by simp|x::O,y::E,0,o,s=>by simp|x::O,y::E,i+1,o,s=>by simp[GX O E i o s]
theorem zU{α:Type}(x:α):∀(l:List α) (i:Nat),i<l.length->(l.set i x).Perm (x::l.eraseIdx i)
 | [],_,h=>by simp at h|y::l,0,_=>List.Perm.refl _
 |y::l,i+1,h=>by
  have ih:=zU x l i (by simpa using h);simp only[List.set_cons_succ,List.eraseIdx_cons_succ];exact(ih.cons y).trans (List.Perm.swap x y _)
def FR.put(h:FR K mg M H (((o:Option V),s)::Z))(hi:i<Z.length):FR K mg M H (Z.set i (o,s)) :=
 (h.sub ((eraseIdx_sublist Z i).cons_cons (o,s))).perm (zU _ _ _ hi).symm
def Step.put(h:Step M H Z H' ((o,s)::Z'))(hi:i<Z'.length):Step M H Z H' (Z'.set i (o,s)):=by
 refine h.weak λb q=>?_
 exact zC ((eraseIdx_sublist Z' i).cons_cons (o,s)) b (zD (zU _ _ _ hi) b q)
end
inductive Out(α:Type) where
 |z
 |ok (a:α)
 |exc (x:Exn) (E:zS)
 deriving Inhabited
abbrev ME:=zS->Out (R×zS)
abbrev MA:=zS->Out (List R×zS)
abbrev MT:=zS->Out (Bool×zS)
def PKp(O:St)(E:zS)(O':St)(E':zS):Prop:=∀(i:Nat) ds,E[i]?=some (.par ds)->(∃ds',E'[i]?=some (.par ds'))/\O'[i]?=O[i]?
def PKp.refl{O:St}{E:zS}:PKp O E O E:=λi ds h=>⟨⟨ds,h⟩,rfl⟩
theorem PKp.trans{O O1 O2:St}{E E1 E2:zS}(a:PKp O E O1 E1)(b:PKp O1 E1 O2 E2):PKp O E O2 E2:=λi ds h=>by
 obtain⟨⟨ds1,h1⟩,e1⟩:=a i ds h;obtain⟨h2,e2⟩:=b i ds1 h1;exact⟨h2,e2.trans e1⟩
structure Got(K:qH)(mg:Str->Option Value)(M:Addr->Prop)(O:St)(E:zS)(H:Hp)(T0:Fz)(O':St)(E':zS)(H':Hp)(T:Fz):Prop where
 len:E'.length=O'.length
 fr:FR K mg M H' (T++(T0++O'.zip E'))
 st:Step M H (T0++O.zip E) H' (T++(T0++O'.zip E'))
 pk:PKp O E O' E'
def zDd(vs:List V)(rs:List R):Fz:=(vs.zip rs).map λp=>(some p.1,p.2.slot)
def KM(X:Cx)(M:Addr->Prop)(O:St)(E:zS)(H:Hp)(T0:Fz)(Q:VK):Out (R×zS)->Prop
 | .z=>False| .ok (r,E')=>∀v H',Got X.K X.mg M O E H T0 O E' H' [(some v,r.slot)]->Q v H'| .exc x E'=>∀H',Got X.K X.mg M O E H T0 O E' H' []->XE X O H' x
def KT(X:Cx)(M:Addr->Prop)(O:St)(E:zS)(H:Hp)(T0:Fz)(Q:Bool->Hp->Prop):Out (Bool×zS)->Prop
 | .z=>False| .ok (b,E')=>∀H',Got X.K X.mg M O E H T0 O E' H' []->Q b H'| .exc x E'=>∀H',Got X.K X.mg M O E H T0 O E' H' []->XE X O H' x
def KA(X:Cx)(M:Addr->Prop)(O:St)(E:zS)(H:Hp)(T0:Fz)(Q:List V->Hp->Prop):Out (List R×zS)->Prop
 | .z=>False| .ok (rs,E')=>∀vs H',vs.length=rs.length->Got X.K X.mg M O E H T0 O E' H' (zDd vs rs)->Q vs H'| .exc x E'=>∀H',Got X.K X.mg M O E H T0 O E' H' []->XE X O H' x
def tM(X:Cx)(m:ME):TE:=λO H Q=>∃M E,E.length=O.length/\FR X.K X.mg M H (O.zip E)/\KM X M O E H [] Q (m E)
def tMT(X:Cx)(m:MT):TT:=λO H Q=>∃M E,E.length=O.length/\FR X.K X.mg M H (O.zip E)/\KT X M O E H [] Q (m E)
def tMA(X:Cx)(m:MA):TA:=λO H Q=>∃M E,E.length=O.length/\FR X.K X.mg M H (O.zip E)/\KA X M O E H [] Q (m E)
abbrev EOk(X:Cx)(e:Expr)(m:ME):Prop:=PE X e (tM X m)
abbrev TOk(X:Cx)(e:Expr)(m:MT):Prop:=PT X e (tMT X m)
abbrev AOk(X:Cx)(es:List Expr)(m:MA):Prop:=PA X es (tMA X m)
def zZ{X:Cx}{e:Expr}{t t':TE}(h:PE X e t)(i:∀O H Q,t' O H Q->t O H Q):PE X e t':=λpins s O H Q I q=>h pins s O H Q I (i O H Q q)
def Qb{X:Cx}{e:Expr}{t t':TT}(h:PT X e t)(i:∀O H Q,t' O H Q->t O H Q):PT X e t':=λpins s O H Q I q=>h pins s O H Q I (i O H Q q)
def zG0{X:Cx}{e:Expr}{t t':TT}(h:PW X e t)(i:∀O H Q,t' O H Q->t O H Q):PW X e t':=λwh pins s O H Q I q=>h wh pins s O H Q I (i O H Q q)
def Qc{X:Cx}{e:List Expr}{t t':TA}(h:PA X e t)(i:∀O H Q,t' O H Q->t O H Q):PA X e t':=λp pins s O H Q I q=>h p pins s O H Q I (i O H Q q)
def yg{X:Cx}{e:Stmt}{t t':TS}(h:PS X e t)(i:∀D O H,t' D O H->t D O H):PS X e t':=λpins s O H D I q=>h pins s O H D I (i D O H q)
def zDe{X:Cx}{e:List Stmt}{t t':TS}(h:PSs X e t)(i:∀D O H,t' D O H->t D O H):PSs X e t':=λpins s O H D I q=>h pins s O H D I (i D O H q)
section
variable{X:Cx}{K:qH}{mg:Str->Option Value}{M:Addr->Prop}{O O' O1 O2:St}{E E' E1 E2:zS}{H H' H1 H2:Hp}{T0 T T1 T2:Fz}{Q:VK}
def swapP{α:Type}(A B C:List α):(A++(B++([]++C))).Perm (B++(A++C)):=by
 rw[nil_append,<- append_assoc,<- append_assoc];exact(perm_append_comm).append_right _
def wg{α:Type}{l:List α}{i:Nat}{x:α}(h:l[i]?=some x):l.set i x=l:=by
 obtain⟨hi,rfl⟩:=qG.mp h;exact List.set_getElem_self hi
theorem Got.outer(h:FR K mg M H (T0++O.zip E))(g:Got K mg (Mo M T0) O E H [] O' E' H' T):Got K mg M O E H T0 O' E' H' T where
 len:=g.len
 fr:=by
  have q:=FR.outer h g.fr g.st;exact q.perm (swapP _ _ _)
 st:=by
  have q:=Step.outer g.st;refine q.weak λb hb=>?_
  exact zD (swapP _ _ _).symm b hb
 pk:=g.pk
theorem Got.trans(a:Got K mg M O E H T0 O1 E1 H1 T1)(b:Got K mg M O1 E1 H1 (T1++T0) O2 E2 H2 T2):Got K mg M O E H T0 O2 E2 H2 (T2++T1) where
 len:=b.len
 fr:=by
  have q:=b.fr;rw[append_assoc]at q;rw[append_assoc];exact q
 st:=by
  have q:=b.st;rw[append_assoc,append_assoc]at q;rw[append_assoc];exact a.st.trans q
 pk:=a.pk.trans b.pk
def Got.dropAll(a:Got K mg M O E H T0 O1 E1 H1 T1):Got K mg M O E H T0 O1 E1 H1 [] where
 len:=a.len
 fr:=a.fr.sub (sublist_append_right _ _)
 st:=a.st.weak (zC (sublist_append_right _ _))
 pk:=a.pk
def Got.trans'(a:Got K mg M O E H [] O1 E1 H1 T1)(b:Got K mg M O1 E1 H1 T1 O2 E2 H2 T2):Got K mg M O E H [] O2 E2 H2 (T2++T1):=a.trans (by rw[append_nil];exact b)
theorem Got.refl(hl:E.length=O.length)(h:FR K mg M H (T0++O.zip E)):Got K mg M O E H T0 O E H []:=⟨hl,h,Step.refl,PKp.refl⟩
def Got.more(a:Got K mg M O E H [] O1 E1 H1 T1)(f:FR K mg M H2 (T++O1.zip E1))(s:Step M H1 (O1.zip E1) H2 (T++O1.zip E1)):Got K mg M O E H [] O1 E1 H2 T where
 len:=a.len
 fr:=f
 st:=(a.st.weak (zC (sublist_append_right _ _))).trans s
 pk:=a.pk
def Got.frame(a:Got K mg M O E H [] O1 E1 H1 T1):FR K mg M H1 (O1.zip E1):=a.fr.sub (sublist_append_right _ _)
def uh(v:V)(r:R)(vs:List V)(rs:List R):zDd (v::vs) (r::rs)=(some v,r.slot)::zDd vs rs:=rfl
theorem zDf:∀{vs:List V} {rs:List R} {Z:Fz},vs.length=rs.length->FR K mg M H (zDd vs rs++Z)->Reps K mg (Hm (Mo M Z) H) (rs.map R.d) vs
 | [],[],Z,_,h=>Reps.nil
 |v::vs,r::rs,Z,hl,h=>by
  rw[uh,cons_append]at h;refine Reps.cons ?_ (zDf (by simpa using hl) h.tail);obtain⟨v',e,q⟩:=h.frz.val (some v) r.d qE;cases e;refine q.mono (jF (J7 λb hb=>?_));rw[za,zR];exact qK _ hb
def Got.reps{vs:List V}{rs:List R}(hl:vs.length=rs.length)(a:Got K mg M O E H [] O1 E1 H1 (zDd vs rs)):Reps K mg (Hm (Mo M (O1.zip E1)) H1) (rs.map R.d) vs:=zDf hl a.fr
def Got.rep{v:V}{r:R}(a:Got K mg M O E H [] O1 E1 H1 [(some v,r.slot)]):Rep K mg (Hm (Mo M (O1.zip E1)) H1) r.d v:=by
 have q:=Got.reps (vs:=[v]) (rs:=[r]) rfl a;simp only[List.map,Reps]at q;obtain⟨v',r',e,h,_⟩:=q;cases e;exact h
def zu{m:ME}(hl:E.length=O.length)(h:FR X.K X.mg M H (T0++O.zip E))
  (k:KM X M O E H T0 Q (m E)):tM X m O H Q:=by
 refine⟨Mo M T0,E,hl,h.inner,?_⟩;cases e:m E with
 |z=>rw[e]at k;exact k|ok a=>rw[e]at k;exact λv H' g=>k v H' (g.outer h)|exc x E'=>rw[e]at k;exact λH' g=>k H' (g.outer h)
def JR{m:MT}{Q:Bool->Hp->Prop}(hl:E.length=O.length)(h:FR X.K X.mg M H (T0++O.zip E))
  (k:KT X M O E H T0 Q (m E)):tMT X m O H Q:=by
 refine⟨Mo M T0,E,hl,h.inner,?_⟩;cases e:m E with
 |z=>rw[e]at k;exact k|ok a=>rw[e]at k;exact λH' g=>k H' (g.outer h)|exc x E'=>rw[e]at k;exact λH' g=>k H' (g.outer h)
def wj{m:MA}{Q:List V->Hp->Prop}(hl:E.length=O.length)(h:FR X.K X.mg M H (T0++O.zip E))
  (k:KA X M O E H T0 Q (m E)):tMA X m O H Q:=by
 refine⟨Mo M T0,E,hl,h.inner,?_⟩;cases e:m E with
 |z=>rw[e]at k;exact k|ok a=>rw[e]at k;exact λvs H' hv g=>k vs H' hv (g.outer h)|exc x E'=>rw[e]at k;exact λH' g=>k H' (g.outer h)
def eC(d:D):ME:=λE=>.ok (.v d,E)
def flat:D->Bool
 | .non | .bl _ | .int _ | .str _=>true
 |_=>false
def flV:D->V
 | .bl b=>.bl b| .int i=>.int i| .str x=>.str x|_=>.non
def zBk{d:D}(h:flat d=true):Rep K mg H d (flV d):=by
 cases d<;>simp[flat]at h<;>simp[Rep,flV]
theorem Got.flat(a:Got K mg M O E H [] O1 E1 H1 T1){d:D}(h:flat d=true):Got K mg M O E H [] O1 E1 H1 [(some (flV d),.v d)] :=
 a.more (a.frame.add (zBk h)) Step.refl.add
def ok_c{e:Expr}{d:D}(h:PE X e (tC (flV d)))(hf:flat d=true:=by rfl):EOk X e (eC d):=zZ h λO H Q ⟨M,E,hl,f,k⟩ =>
 k (flV d) H ((Got.refl (T0:=[]) hl f).flat hf)
def ok_int{i j pos}:EOk X (.Constant (.int i) j pos) (eC (.int i)):=ok_c pe_int
def ok_bl{b j pos}:EOk X (.Constant (.bool b) j pos) (eC (.bl b)):=ok_c pe_bl
def ok_non{j pos}:EOk X (.Constant .none j pos) (eC .non):=ok_c pe_non
def ok_str{x j pos}:EOk X (.Constant (.str x) j pos) (eC (.str x)):=ok_c pe_str
def ui(i:Nat):ME:=λE=>match E[i]? with
 |some (.v d)=>.ok (.v d,E)|some (.own ds)=>.ok (.v (.l ds),E.set i (.v (.l ds)))|some (.dct ks vs)=>.ok (.v (.dct ks vs),E.set i (.v (.dct ks vs)))|_=>.z
def wk{i:Nat}{s:Slot}(hl:E.length=O.length)(h:E[i]?=some s):∃o,O[i]?=some o/\(O.zip E)[i]?=some (o,s):=by
 have hi:i<E.length:=(qG.mp h).1;have:i<O.length:=hl▸hi;refine⟨O[i],by simp[this],?_⟩;rw[List.getElem?_zip_eq_some];exact⟨by simp[this],h⟩
def jH{i:Nat}{s:Slot}(hl:E.length=O.length)(h:E[i]?=some s):∃o,O[i]?=some o/\(o,s)∈O.zip E:=by
 obtain⟨o,h1,h2⟩:=wk hl h;exact⟨o,h1,mem_of_getElem? h2⟩
def zc{i:Nat}{o:Option V}(s:Slot)(h:O[i]?=some o):O.zip (E.set i s)=(O.zip E).set i (o,s):=by
 rw[<- GX];congr 1;have hi:i<O.length:=(qG.mp h).1;apply List.ext_getElem?;intro j;by_cases e:i=j
 ·subst e;rw[getElem?_set_self hi,h]
 ·rw[getElem?_set_ne e]
def Qd{i:Nat}{s:Slot}{ds0:List D}(h:E[i]?=some s)(hs:∀ds,s≠.par ds)(o:Slot):PKp O E O (E.set i o):=λj ds e=>by
 have ne:i≠j:=λq=>by subst q;rw[h]at e;exact hs ds (qJ e)
 exact⟨⟨ds,by rw[getElem?_set_ne ne];exact e⟩,rfl⟩
def ok_var(i:Nat){x:Str}{pos:Pos}(h:PE X (.Name x pos) (Wv i)):EOk X (.Name x pos) (ui i):=zZ h λO H Q ⟨M,E,hl,f,k⟩=>by
 unfold ui at k;cases e:E[i]? with
 |none=>rw[e]at k;exact k.elim
 |some sl =>
 rw[e]at k;cases sl with
 |e=>exact k.elim|par ds=>exact k.elim
 |v d =>
  obtain⟨o,h1,h2⟩:=jH hl e;obtain⟨v,rfl,r⟩:=f.val o d h2;exact⟨v,h1,k v H ⟨hl,f.add r,Step.refl.add,PKp.refl⟩⟩
 |own ds =>
  obtain⟨o,h1,h2⟩:=wk hl e;obtain⟨a,xs,rfl,q1,q2,q3⟩:=f.ownL o (.own ds) ds (mem_of_getElem? h2) rfl;refine⟨.ref a,h1,k _ H ?_⟩;have hlt:i<(O.zip E).length:=(qG.mp h2).1;have p:(O.zip E).Perm ((some (.ref a),R.slot (.own ds))::(O.zip E).eraseIdx i):=by
   have:=zU (some (V.ref a),Slot.own ds) (O.zip E) i hlt;rw[wg h2]at this;exact this
  have f1:=(f.perm p).frz;have f2:FR X.K X.mg M H ((O.zip E).set i (some (.ref a),.v (.l ds))):=f1.perm (zU _ _ _ hlt).symm;rw[<- zc (.v (.l ds)) h1]at f2;have r:=f1.val _ _ qE;obtain⟨v,ev,rr⟩:=r;cases ev;have em:Mo M ((some (V.ref a),Slot.v (R.own ds).d)::(O.zip E).eraseIdx i)=Mo M (O.zip (E.set i (.v (.l ds)))):=by
   rw[zc (.v (.l ds)) h1];exact(GW (zU _ _ _ hlt)).symm
  rw[em]at rr;refine⟨by simp[hl],f2.add rr,?_,?_⟩
  ·refine Step.add ?_
   refine Step.weak Step.refl λb hb=>?_
   refine zD p.symm b ?_;rw[nil_append,zc (.v (.l ds)) h1]at hb;have hb':=zD (zU _ _ _ hlt) b hb;rw[za]at hb';exact zC (sublist_cons_self _ _) b hb'
  ·exact Qd (ds0:=[]) e (λds' q=>by cases q) _
 |dct ks vs =>
  obtain⟨o,h1,h2⟩:=wk hl e;obtain⟨a,ho,rfl,q1,q2,q3⟩:=f.own o (.dct ks vs) (.d ks vs) (mem_of_getElem? h2) rfl;refine⟨.ref a,h1,k _ H ?_⟩;have hlt:i<(O.zip E).length:=(qG.mp h2).1;have p:(O.zip E).Perm ((some (.ref a),R.slot (.dct ks vs))::(O.zip E).eraseIdx i):=by
   have:=zU (some (V.ref a),Slot.dct ks vs) (O.zip E) i hlt;rw[wg h2]at this;exact this
  have f1:=(f.perm p).frz;have f2:FR X.K X.mg M H ((O.zip E).set i (some (.ref a),.v (.dct ks vs))):=f1.perm (zU _ _ _ hlt).symm;rw[<- zc (.v (.dct ks vs)) h1]at f2;have r:=f1.val _ _ qE;obtain⟨v,ev,rr⟩:=r;cases ev;have em:Mo M ((some (V.ref a),Slot.v (R.dct ks vs).d)::(O.zip E).eraseIdx i)=Mo M (O.zip (E.set i (.v (.dct ks vs)))):=by
   rw[zc (.v (.dct ks vs)) h1];exact(GW (zU _ _ _ hlt)).symm
  rw[em]at rr;refine⟨by simp[hl],f2.add rr,?_,?_⟩
  ·refine Step.add ?_
   refine Step.weak Step.refl λb hb=>?_
   refine zD p.symm b ?_;rw[nil_append,zc (.v (.dct ks vs)) h1]at hb;have hb':=zD (zU _ _ _ hlt) b hb;rw[za]at hb';exact zC (sublist_cons_self _ _) b hb'
  ·exact Qd (ds0:=[]) e (λds' q=>by cases q) _
end
def zV:Expr->Bool
 | .Starred _ _=>true|_=>false
def j0:List Expr->Bool
 | []=>true|e::es=>!zV e&&j0 es
def zm{e:Expr}{es:List Expr}{env:Env}(h:zV e=false):starEach (e::es) env=(false,eval e env)::starEach es env:=by
 cases e<;>first|rfl|(cases h)
def star2{a b:Expr}{env:Env}(ha:zV a=false)(hb:zV b=false):starEach [a,b] env=[(false,eval a env),(false,eval b env)]:=by
 rw[zm ha,zm hb];rfl
def zAm{a:Expr}{env:Env}(ha:zV a=false):starEach [a] env=[(false,eval a env)]:=by
 rw[zm ha];rfl
def y2:Expr->Bool
 | .Set _ _ _=>false|_=>true
def yM{e:Expr}{env:Env}(h:y2 e=true):∀x,foldedSetIterable e env x=pure x:=by
 intro x;cases e<;>first|rfl|(cases h)
def ZO:Expr->Bool
 | .ListComp _ _ _ _=>false| .SetComp _ _ _ _=>false| .DictComp _ _ _ _ _=>false|_=>true
def GY{e:Expr}{t:Option Expr}{l:Nat}{env:Env}(h:ZO e=true):swapsWith e t l env=pure false:=by
 cases e<;>first|rfl|(cases h)
def zG1:Expr->Bool
 | .UnaryOp .Not _ _=>false| .BoolOp _ _ _=>false| .IfExp _ _ _ _=>false| .Compare _ _ _ _=>false|_=>true
def test_of{e:Expr}{env:Env}(h:zG1 e=true):∀whole,isTrue e env whole=(do let v <- whole;standAt e.pos;holding [v] (truthy v)):=by
 intro x;cases e<;>first|rfl|(cases h)|skip;rename_i op _ _;cases op<;>first|rfl|(cases h)
def uC:Expr->Bool
 | .Slice _ _ _ _=>false|_=>true
theorem Qe{env:Env}:∀{es:List Expr},j0 es=true->(starEach es env).any (·.1)=false
 | [],_=>rfl
 |e::es,h=>by
  simp only[j0,Bool.and_eq_true,Bool.not_eq_true']at h;rw[zm h.1];simp[Qe h.2]
def zFX(pos:Pos)(l:List (Bool×Sem Value)):(backTo pos l).any (·.1)=l.any (·.1):=by
 unfold backTo;rw[List.any_map];rfl
def JS{env:Env}{es:List Expr}{pos:Pos}(h:j0 es=true):(backTo pos (starEach es env)).any (·.1)=false:=by
 rw[zFX,Qe h]
end DV
namespace L2
open PySem PySem.Spec PyProof.Rows
section
variable{X:Cx}
def zG2(K:qH):R2:=λx y H Q=>∃a b xs ys,x=.ref a/\y=.ref b/\SqT K H a xs/\SqT K H b ys/\xs.length+ys.length<=sizeLine /\
 (xs=[]->Q (.ref b) H)/\(xs≠[]->ys=[]->Q (.ref a) H)/\(xs≠[]->ys≠[]->∀p,H p=none->Q (.ref p) (upd H p (.t (xs++ys))))
def zFY:OpR X (binaryOp .Add) (zG2 X.K):=by
 intro pins s O H x y v u Q I rx ry h;obtain⟨a,b,xs,ys,rfl,rfl,ha,hb,hz,q0,q1,q2⟩:=h;cases rx;cases ry;obtain⟨its,r1,p1,_⟩:=I.tuple ha;obtain⟨its2,r2,p2,_⟩:=I.tuple hb;by_cases hx:xs=[]
 ·have hi:its=[]:=r1.nil_iff.mpr hx
  obtain⟨⟨cls,dd,data,sl⟩,ho,hc,n,hd⟩:=id p1;obtain⟨⟨cls2,dd2,data2,sl2⟩,ho2,hc2,n2,hd2⟩:=id p2;simp only at hc hd hc2 hd2;subst hc hd hc2 hd2;exact concat_meets ⟨_,ho,rfl⟩ ⟨_,ho2,rfl⟩ noFill_tuple_add seq_tuple_add PySem.F.slot_tuple_add PySem.F.entry_tuple_add (PySem.F.args_tuple_add_2 _ _)
   (tuple_addW0 a b its.toArray its2.toArray n n2 dd dd2 sl sl2 (by simp[hi])) ⟨ho,ho2,⟨.ref b,H,I,rfl,q0 hx⟩⟩
 ·exact op_catT pins s O H (.ref a) (.ref b) (.ref a) (.ref b) Q I rfl rfl ⟨a,b,xs,ys,rfl,rfl,ha,hb,hx,hz,q1 hx,q2 hx⟩
def rCatL(K:qH):R2:=λx y H Q=>∃l b xs zs,x=.ref l/\y=.ref b/\SqL K H l xs/\SqL K H b zs/\xs.length+zs.length<=sizeLine/\∀p,H p=none->Q (.ref p) (upd H p (.l (xs++zs)))
def op_catL:OpR X (binaryOp .Add) (rCatL X.K):=by
 intro pins s O H x y v u Q I rx ry h;obtain⟨l,b,xs,zs,rfl,rfl,hH,hB,hz,q⟩:=h;cases rx;cases ry;obtain⟨its,r,pl,_⟩:=I.list hH;obtain⟨its2,r2,pl2,_⟩:=I.list hB;have hl:=r.length;have hl2:=r2.length;obtain⟨⟨cls,dd,data,sl⟩,n,ho,hc,hdd,hd⟩:=pl;obtain⟨⟨cls2,dd2,data2,sl2⟩,n2,ho2,hc2,hdd2,hd2⟩:=pl2;simp only at hc hd hc2 hd2;subst hc hd hc2 hd2;refine concat_meets ⟨_,ho,rfl⟩ ⟨_,ho2,rfl⟩ noFill_list_add seq_list_add PySem.F.slot_list_add PySem.F.entry_list_add (PySem.F.args_list_add_2 _ _) (list_addW l b its.toArray its2.toArray n n2 dd dd2 sl sl2 (by rw[size_toArray,size_toArray];omega)) ⟨ho,ho2,?_⟩;have ea:its.toArray++its2.toArray=(its++its2).toArray:=by simp
 rw[ea];exact⟨.ref _,_,I.lnew (t':=s.toks) (r.append r2) (by rw[length_append];omega),rfl,q _ I.fresh⟩
def YK{prog:Program}{w:World}{A:Around}{E:Value->Shared->Prop}{s:Shared}{t sl:Addr}{items:Array Value}{vl vu:Value}{lo hi:Option Int}{Q:Value->Shared->Prop}(ht:IsTup s.heap t items)(hs:s.heap.IsSliceOf sl vl vu .none)(pl:IsPart vl lo)(pu:IsPart vu hi)
  (h1:HT.sIx items.size 0 lo=0) (h2:HT.sIx items.size items.size hi=items.size)
  (h:Q (.ref t) s):wpAny (model prog w) A (getItem (.ref t) (.ref sl)) Q E s:=by
 obtain⟨os,hos,hcs,hds⟩:=id hs;have hTs:s.TypeIs (.ref sl) "slice":=⟨os,hos,hcs⟩;unfold getItem
 try with_reducible refine wpAny_holding ?_
 first|refine qB (qC ?_)|skip
 refine qB (wpAny_sequenceKey ht.typeIs (by decide) ?_);refine qB (wpAny_callSpecial?_slot (name:=Str.ofString "__getitem__") ht.typeIs PyProof.Rows.slot_tuple_getitem
  (wpAny_call_entry PyProof.Rows.slot_tuple_getitem ht.typeIs entry_tuple_getitem ?_ (args_tuple_getitem _ _)))
 show wpAny _ _ (Builtin.Tuple.tupleItemsOf (.ref t) >>= _) _ _ s
 refine qB (tupleItemsOf_ ht ?_);refine qB (wpAny_typeOf hTs ?_);rw[if_pos (by decide)];refine qB (HT.sliceApplied_gen hs pl pu ?_);have hyes:(((HT.sIx items.size 0 lo:Nat):Int)==0&&(1:Int)==1&&(HT.sIx items.size items.size hi-HT.sIx items.size 0 lo)==items.size)=true:=by
  rw[h1,h2];simp
 show wpAny _ _ (if(((HT.sIx items.size 0 lo:Nat):Int)==0&&(1:Int)==1&&(HT.sIx items.size items.size hi-HT.sIx items.size 0 lo)==items.size)=true then _ else _) _ _ s
 rw[if_pos hyes];unfold Builtin.Tuple.tupleIsExact;refine qB (qB (wpAny_typeOf ht.typeIs (qC ?_)));rw[if_pos (by decide)];exact qB (wpAny_rule (qC ⟨_,rfl,qC h⟩))
def rSlTT(K:qH):V->Option Int->Option Int->Hp->VK->Prop:=λx lo hi H Q=>∃a xs,x=.ref a/\SqT K H a xs /\
 ((HT.sIx xs.length 0 lo=0/\HT.sIx xs.length xs.length hi=xs.length)->Q (.ref a) H) /\
 (¬(HT.sIx xs.length 0 lo=0/\HT.sIx xs.length xs.length hi=xs.length)->∀p,H p=none->Q (.ref p) (upd H p (.t (zFQ xs lo hi))))
def sl_tupT:SlR X (rSlTT X.K):=by
 intro pins s O H x v vl vu lo hi sl Q I rx hs pl pu h;obtain⟨a,xs,rfl,hx,q1,q2⟩:=h;by_cases hw:HT.sIx xs.length 0 lo=0/\HT.sIx xs.length xs.length hi=xs.length
 ·cases rx
  obtain⟨its,r,ht,hz⟩:=I.tuple hx;have hlen:its.toArray.size=xs.length:=by rw[size_toArray];exact r.length.symm
  refine⟨"tuple",_,PyProof.Rows.slot_tuple_getitem.lookup,ht.typeIs,?_⟩;exact YK ht hs pl pu (by rw[hlen];exact hw.1) (by rw[hlen];exact hw.2) ⟨.ref a,H,I,rfl,q1 hw⟩
 ·exact sl_tup pins s O H (.ref a) v vl vu lo hi sl Q I rx hs pl pu ⟨a,xs,rfl,hx,hw,q2 hw⟩
theorem Qf:∀bs:List Bool,(List.range bs.length).all (λi=>bs.getD i false)=bs.all id
 | []=>rfl
 |b::bs=>by
  rw[length_cons,List.range_succ_eq_map,all_cons,all_cons,List.all_map,<- Qf bs];rfl
def zFZ(hc:X.calm=true):JP X (.builtin "all") (λxs H Q=>∃(p:Addr) (bs:List Bool),xs=[.ref p]/\SqL X.K H p (bs.map V.bl)/\Q (.bl (bs.all id)) H):=by
 intro pins s O H xs us Q I r h;obtain⟨p,bs,rfl,hq,q⟩:=h;obtain⟨u,rfl,rx⟩:=v9 r;cases rx;obtain⟨its,rv,pl,hz⟩:=I.list hq;have hlen:=rv.length;refine call_all_walk (wpAny_pyIter_list pl.isList ?_);have hp:p<s.heap.objs.size:=by obtain⟨o,n,e,_⟩:=pl;exact lt_size e
 have hk:∀b o,s.heap.get? b=some o->(s.heap.push {cls:=.type "list_iterator",data:=.fields #[.ref p,.int 0 0]}).get? b=some o:=λb o e=>qA _ e
 have htr:∀(i:Nat) (v:Value),its.toArray[i]?=some v->v=Value.bool (bs.getD i false):=λi v hv=>by
  have hv':its[i]?=some v:=by simpa using hv
  have hi:i<its.length:=(qG.mp hv').1;have hx:i<(bs.map V.bl).length:=by rw[hlen];exact hi
  obtain⟨u',e1,e2⟩:=rv.get (i:=i) (x:=(bs.map V.bl)[i]) (by simp[hx]);rw[hv']at e1;cases e1;rw[length_map]at hx;rw[List.getElem_map]at e2;have:v=.bool (bs[i]):=e2;rw[this];simp[hx]
 refine⟨s.heap.objs.size,[s.heap.objs.size,p],[s.heap.objs.size],its.toArray.size,_,_,λi=>bs.getD i false,rfl,
  Walks.list (by show X.A.handled=none;exact I.ok.hd hc) _ p (ne_of_lt hp) its.toArray,⟨⟨_,get?_push_size _ rfl,rfl,rfl⟩,?_⟩,?_,?_⟩
 ·obtain⟨o,e,c⟩:=pl.isList
  exact⟨o,hk _ _ e,c⟩
 ·intro i v s' Q' E' hv hQ
  rw[htr i v hv];exact wpAny_truthy_bool hQ
 ·intro h' tk kp
  have e:(List.range its.toArray.size).all (λi=>bs.getD i false)=bs.all id:=by
   rw[size_toArray,<- hlen,length_map,Qf]
  rw[e];exact⟨.bl (bs.all id),H,I.kept (t':=tk) λb o eb=>kp b o (λm=>by
   have:b=s.heap.objs.size:=by simpa using m
   subst this;exact absurd (lt_size eb) (lt_irrefl _)) (hk b o eb),rfl,q⟩
def WQ:fillsNumberSlot (.type "tuple") "mul"=pure false :=
 PySem.fillsNumberSlot_seq (id:="tuple.__mul__") (r:=some (.builtin "tuple.__rmul__")) F.slot_tuple_mul.lookup (by decide +kernel) F.slot_tuple_rmul.lookup (by decide +kernel)
def Qg:seqRepeat? (.type "tuple")=pure (some (.builtin "tuple.__mul__")):=by
 unfold seqRepeat?;rw[PySem.seqSlot_of (T:="tuple") (name:="__mul__") (id:="tuple.__mul__") F.slot_tuple_mul.lookup (by decide +kernel),PySem.seqSlot_of (T:="tuple") (name:="__rmul__") (id:="tuple.__rmul__") F.slot_tuple_rmul.lookup (by decide +kernel)];rfl
def uD(a:Int)(t:Tok)(l:Addr)(items:Array Value)(n:Nat)(dd:Option Addr)(sl:Array (Option Value)) :
  Meets (Builtin.«int.__rmul__» ⟨[.int a t,.ref l],[]⟩) (λ_ R s=>s.heap.get? l=some {cls:=.type "tuple",dict:=dd,data:=.seq items n,slots:=sl}/\R (.ok (.ret Value.notImplemented)) s) :=
 .of_wp λprog w A R s h=>by obtain⟨hp,g,d,tk,os⟩:=s;obtain⟨hl,h⟩:=h;wp_walk;exact⟨_,rfl,h⟩
def uE{E:Value->Shared->Prop}{Q:Value->Shared->Prop}(hl:IsTup s.heap l items)(h1:-(2^63)<=k)(h2:k<2^63)
  (hz:(items.size:Int)*k<=sizeLine) (q0:items.isEmpty=true\/k=1->Q (.ref l) s)
  (q1:k<=0->Q (.ref s.heap.objs.size) {s with heap:=s.heap.push {cls:=.type "tuple",data:=.seq #[]}})
  (q2:Q (.ref s.heap.objs.size) {s with heap:=s.heap.push {cls:=.type "tuple",data:=.seq ((replicate k.toNat items).foldl (·++·) #[])}})
  (hfit:sizeOk (.seq ((replicate k.toNat items).foldl (·++·) #[]))) :
  wpAny (model prog w) A (call (.builtin "tuple.__mul__") [.ref l,.int k t]) Q E s:=by
 refine wpAny_call_entry F.slot_tuple_mul hl.typeIs F.entry_tuple_mul ?_ (F.args_tuple_mul_2 _ _);show wpAny _ _ (asIndex (.int k t) >>= _) _ _ s;refine qB (wpAny_of_eq (a:=k) rfl ?_);dsimp only;rw[if_neg (by simp only[Bool.or_eq_true,decide_eq_true_eq];omega)];refine qB (tupleItemsOf_ hl ?_);by_cases e1:(items.isEmpty||k==1)=true
 ·rw[if_pos e1]
  unfold Builtin.Tuple.tupleIsExact;refine qB (qB (wpAny_typeOf hl.typeIs (qC ?_)));rw[if_pos (by decide)];refine qB (wpAny_rule (qC ⟨_,rfl,q0 ?_⟩));rw[Bool.or_eq_true,beq_iff_eq]at e1;exact e1
 ·rw[if_neg e1]
  by_cases e2:(decide (k<=0)||items.isEmpty)=true
  ·rw[if_pos e2]
   have hk:k<=0:=by
    simp only[Bool.or_eq_true,decide_eq_true_eq,beq_iff_eq,not_or]at e1 e2;rcases e2 with e2|e2
    ·exact e2
    ·exact absurd e2 e1.1
   exact qB (m:=Builtin.Tuple.tupleExact _) (wpAny_newObj_type (qC ⟨_,rfl,q1 hk⟩) (by show(#[]:Array Value).size<=sizeLine;simp))
  ·rw[if_neg e2]
   have hs:sizeLine=16777216:=sizeLine_eq;rw[if_neg (by rw[hs]at hz;omega),if_neg (by unfold Builtin.Tuple.tupleTooMany;simp only[decide_eq_true_eq];omega)];exact qB (m:=Builtin.Tuple.tupleExact _) (wpAny_newObj_type (qC ⟨_,rfl,q2⟩) hfit)
def rRepT(K:qH):R2:=λx y H Q=>∃l k xs,x=.ref l/\y=.int k/\SqT K H l xs/\-(2^63)<=k/\k<2^63/\xs.length*k.toNat<=sizeLine /\
 (xs=[]\/k=1->Q (.ref l) H)/\(∀p,H p=none->Q (.ref p) (upd H p (.t (replicate k.toNat xs).flatten)))
def op_repT:OpR X (binaryOp .Mult) (rRepT X.K):=by
 intro pins s O H x y v u Q I rx ry h;obtain⟨l,k,xs,rfl,rfl,hH,h1,h2,hz,q0,q⟩:=h;cases rx;obtain⟨t,rfl⟩:=ry;obtain⟨its,r,pt,_⟩:=I.tuple hH;have hl:=r.length;obtain⟨⟨cls,dd,data,sl⟩,ho,hc,n,hd⟩:=id pt;simp only at hc hd;subst hc hd;have hnew:foldl (λx1 x2=>x1++x2) #[] (replicate k.toNat its.toArray)=(replicate k.toNat its).flatten.toArray:=by
  have:=Wy its k.toNat [];rw[nil_append]at this;exact this
 have hlen:(replicate k.toNat its).flatten.length<=sizeLine:=by rw[zAf,mul_comm,<- hl];exact hz
 have hzz:((its.toArray.size:Nat):Int)*k<=(sizeLine:Nat):=by
  rw[size_toArray,<- hl];by_cases hk:0<=k
  ·obtain⟨m,rfl⟩:=Int.eq_ofNat_of_zero_le hk
   have:xs.length*m<=sizeLine:=by simpa using hz
   exact_mod_cast this
  ·have:(xs.length:Int)*k<=0:=Int.mul_nonpos_of_nonneg_of_nonpos (Int.natCast_nonneg _) (by omega)
   omega
 refine wpAny_binaryOp_repeat_ref (T:="tuple") (U:="int") (by decide) ⟨_,ho,rfl⟩ (λs'=>typeIs_int s' k t) WQ F.fills_int_mul F.slot_int_rmul Qg F.slot_int_index.lookup
  (call_meets F.slot_int_rmul (typeIs_int s k t) F.entry_int_rmul (F.args_int_rmul_2 _ _) (uD k t l its.toArray n dd sl) ⟨ho,rfl,⟨_,ho,rfl⟩,?_⟩)
 refine uE pt h1 h2 hzz (λe=>⟨.ref l,H,I,rfl,q0 ?_⟩) (λe=>?_) ?_ ?_
 ·rcases e with e|e
  ·left
   have:its=[]:=by simpa using e
   exact r.nil_iff.mp this
  ·right;exact e
 ·have ek:k.toNat=0:=by omega
  have q':=q s.heap.objs.size I.fresh;rw[ek]at q';exact⟨.ref s.heap.objs.size,_,I.laid (t':=s.toks) (o:=.t []) (λb ob q=>qA _ q) (le_refl _) ⟨zero_le _,[],.nil,IsTup.new _ _⟩,rfl,q'⟩
 ·rw[hnew]
  exact⟨.ref s.heap.objs.size,_,I.laid (t':=s.toks) (o:=.t (replicate k.toNat xs).flatten) (λb ob q=>qA _ q) (le_refl _) ⟨by rw[zAf,mul_comm];exact hz,_,r.rep k.toNat,IsTup.new _ _⟩,rfl,q _ I.fresh⟩
 ·rw[hnew]
  show(replicate k.toNat its).flatten.toArray.size<=sizeLine
  rw[size_toArray];exact hlen
end
end L2
namespace DV
open PySem L2
def cap:Nat:=1000000
def Yr(h:n<=cap):n<=sizeLine:=le_trans h (by rw[sizeLine_eq];decide)
abbrev Kt(K:qH)(mg:Str->Option Value)(M:Addr->Prop)(H:Hp)(Z:Fz)(res:R)(Q:VK):Prop :=
 ∀v H',FR K mg M H' ((some v,res.slot)::Z)->Step M H Z H' ((some v,res.slot)::Z)->Q v H'
def ROk(K:qH)(mg:Str->Option Value)(rel:R2)(f:D->D->Option R):Prop :=
 ∀(M:Addr->Prop) (H:Hp) (Z:Fz) (x y:V) (d1 d2:D) (res:R) (Q:VK),FR K mg M H Z->Rep K mg (Hm (Mo M Z) H) d1 x->Rep K mg (Hm (Mo M Z) H) d2 y->f d1 d2=some res->Kt K mg M H Z res Q->rel x y H Q
def COk(K:qH)(mg:Str->Option Value)(rel:List V->Hp->VK->Prop)(f:List D->Option R):Prop :=
 ∀(M:Addr->Prop) (H:Hp) (Z:Fz) (xs:List V) (ds:List D) (res:R) (Q:VK),FR K mg M H Z->Reps K mg (Hm (Mo M Z) H) ds xs->f ds=some res->Kt K mg M H Z res Q->rel xs H Q
section
variable{X:Cx}{K:qH}{mg:Str->Option Value}{M:Addr->Prop}{H H':Hp}{Z:Fz}{Q:VK}{O:St}
theorem Kt.flat(k:Kt K mg M H Z (.v d) Q)(f:FR K mg M H Z)(h:flat d=true):Q (flV d) H:=k _ _ (f.add (zBk h)) Step.refl.add
def Kt.rep(k:Kt K mg M H Z (.v d) Q)(f:FR K mg M H Z)(h:Rep K mg (Hm (Mo M Z) H) d v):Q v H:=k _ _ (f.add h) Step.refl.add
theorem Kt.tup{ds:List D}{xs:List V}{p:Addr}(k:Kt K mg M H Z (.v (.t ds)) Q)(f:FR K mg M H Z)(hp:H p=none)(h:Reps K mg (Hm (Mo M Z) H) ds xs):Q (.ref p) (upd H p (.t xs)):=k _ _ (f.newTup hp h) (Step.newVal hp)
theorem Kt.own(k:Kt K mg M H Z (.own ds) Q)(f:FR K mg M H Z)(hp:H p=none)(h:Reps K mg (Hm (Mo M Z) H) ds xs):Q (.ref p) (upd H p (.l xs)):=k _ _ (f.newOwn hp h) (Step.newOwn f hp)
def JT(f:D->D->Option R)(a b:ME):ME:=λE=>match a E with
 | .z=>.z| .exc x E1=>.exc x E1
 | .ok (r1,E1)=>match b E1 with
  | .z=>.z| .exc x E2=>.exc x E2
  | .ok (r2,E2)=>match f r1.d r2.d with
   |some r=>.ok (r,E2)|none=>.z
def W3{f:D->D->Option R}(hr:ROk X.K X.mg rel f)(h:tM X (JT f a b) O H Q):tOp rel (tM X a) (tM X b) O H Q:=by
 obtain⟨M,E,hl,fr,k⟩:=h;unfold JT at k;refine zu (T0:=[]) hl fr ?_;cases ea:a E with
 |z=>rw[ea]at k;exact k|exc x E1=>rw[ea]at k;exact λH' g=>k H' g
 |ok p =>
  obtain⟨r1,E1⟩:=p;rw[ea]at k;intro x H1 g1;refine zu (T0:=[(some x,r1.slot)]) g1.len g1.fr ?_;dsimp only at k;cases eb:b E1 with
  |z=>rw[eb]at k;exact k|exc x E2=>rw[eb]at k;exact λH' g=>k H' (g1.trans' g).dropAll
  |ok p =>
   obtain⟨r2,E2⟩:=p;rw[eb]at k;intro y H2 g2;have g:=g1.trans' g2;have rp:=Got.reps (vs:=[y,x]) (rs:=[r2,r1]) rfl g;simp only[List.map,Reps]at rp;obtain⟨y',_,e1,ry,x',_,e2,rx,_⟩:=rp;cases e1;cases e2;dsimp only at k;cases ef:f r1.d r2.d with
   |none=>rw[ef]at k;exact k.elim
   |some r =>
    rw[ef]at k;exact hr M H2 _ x y r1.d r2.d r Q g.frame rx ry ef λv H' f' s'=>k v H' (g.more (T:=[(some v,r.slot)]) f' s')
def zCh{f:D->D->Option R}(ho:OpR X (binaryOp op) rel)(hr:ROk X.K X.mg rel f)(ha:EOk X a ma)(hb:EOk X b mb):EOk X (.BinOp a op b pos) (JT f ma mb) :=
 zZ (pe_op ho ha hb) λO H Q h=>W3 hr h
def Zw{f:D->D->Option R}(ho:OpR X (compareOp op) rel)(hr:ROk X.K X.mg rel f)(hm:behindInMarks op b=false)(ha:EOk X a ma)(hb:EOk X b mb):EOk X (.Compare a [op] [b] pos) (JT f ma mb) :=
 zZ (zDJ ho ha hb hm) λO H Q h=>W3 hr h
def ok_ix{f:D->D->Option R}(ho:IxR X rel)(hr:ROk X.K X.mg rel f)(hs:ZL b)(ha:EOk X a ma)(hb:EOk X b mb):EOk X (.Subscript a b pos) (JT f ma mb) :=
 zZ (pe_ix ho ha hb hs) λO H Q h=>W3 hr h
def tT(m:ME):MT:=λE=>match m E with
 | .z=>.z| .exc x E1=>.exc x E1| .ok (.v (.bl b),E1)=>.ok (b,E1)|_=>.z
def zBl{Q:Bool->Hp->Prop}(h:tMT X (tT m) O H Q):tM X m O H λx H'=>∃k,x=.bl k/\Q k H':=by
 obtain⟨M,E,hl,fr,k⟩:=h;refine⟨M,E,hl,fr,?_⟩;unfold tT at k;cases e:m E with
 |z=>rw[e]at k;exact k|exc x E1=>rw[e]at k;exact k
 |ok p =>
  obtain⟨r,E1⟩:=p;rw[e]at k;cases r with
  |own ds=>exact k.elim|dct _ _=>exact k.elim
  |v d =>
   cases d with
   |bl b =>
    intro v H' g;have rp:=g.rep;simp only[R.d,Rep]at rp;exact⟨b,rp,k H' g.dropAll⟩
   |_=>exact k.elim
def ok_test(h:EOk X e m)(he:∀whole,isTrue e X.env whole=(do let v <- whole;standAt e.pos;holding [v] (truthy v)):=by intro _;rfl):TOk X e (tT m) :=
 Qb (pt_val h he) λO H Q q=>zBl q
def JU{f:D->D->Option R}(ho:OpR X (compareOp op) rel)(hr:ROk X.K X.mg rel f)(hm:behindInMarks op b=false)(ha:EOk X a ma)(hb:EOk X b mb):TOk X (.Compare a [op] [b] pos) (tT (JT f ma mb)) :=
 Qb (zDK ho ha hb hm) λO H Q h=>W3 hr (zBl h)
def wm(a b:MT):MT:=λE=>match a E with
 | .ok (true,E1)=>b E1|o=>o
def GZ(a b:MT):MT:=λE=>match a E with
 | .ok (false,E1)=>b E1|o=>o
def JI(a:MT):MT:=λE=>match a E with
 | .z=>.z| .exc x E1=>.exc x E1| .ok (b,E1)=>.ok (!b,E1)
def and_run{Q:Bool->Hp->Prop}(h:tMT X (wm a b) O H Q):tAnd (tMT X a) (tMT X b) O H Q:=by
 obtain⟨M,E,hl,fr,k⟩:=h;unfold wm at k;refine JR (T0:=[]) hl fr ?_;cases ea:a E with
 |z=>rw[ea]at k;exact k|exc x E1=>rw[ea]at k;exact k
 |ok p =>
  obtain⟨c,E1⟩:=p;rw[ea]at k;intro H1 g1;cases c with
  |false=>exact zE7 (k H1 g1)
  |true =>
   refine zE8 ?_;refine JR (T0:=[]) g1.len g1.fr ?_;dsimp only at k;cases eb:b E1 with
   |z=>rw[eb]at k;exact k|exc x E2=>rw[eb]at k;exact λH' g=>k H' (g1.trans' g)|ok p=>rw[eb]at k;exact λH' g=>k H' (g1.trans' g)
def or_run{Q:Bool->Hp->Prop}(h:tMT X (GZ a b) O H Q):tOr (tMT X a) (tMT X b) O H Q:=by
 obtain⟨M,E,hl,fr,k⟩:=h;unfold GZ at k;refine JR (T0:=[]) hl fr ?_;cases ea:a E with
 |z=>rw[ea]at k;exact k|exc x E1=>rw[ea]at k;exact k
 |ok p =>
  obtain⟨c,E1⟩:=p;rw[ea]at k;intro H1 g1;cases c with
  |true=>exact zE8 (k H1 g1)
  |false =>
   refine zE7 ?_;refine JR (T0:=[]) g1.len g1.fr ?_;dsimp only at k;cases eb:b E1 with
   |z=>rw[eb]at k;exact k|exc x E2=>rw[eb]at k;exact λH' g=>k H' (g1.trans' g)|ok p=>rw[eb]at k;exact λH' g=>k H' (g1.trans' g)
def not_run{Q:Bool->Hp->Prop}(h:tMT X (JI a) O H Q):tNot (tMT X a) O H Q:=by
 obtain⟨M,E,hl,fr,k⟩:=h;unfold JI at k;refine JR (T0:=[]) hl fr ?_;cases ea:a E with
 |z=>rw[ea]at k;exact k|exc x E1=>rw[ea]at k;exact k|ok p=>rw[ea]at k;exact k
abbrev WOk(X:Cx)(e:Expr)(m:MT):Prop:=PW X e (tMT X m)
def wk_and1(h:TOk X a m):WOk X (.BoolOp .And [a] pos) m:=pw_and1 h
def wk_or1(h:TOk X a m):WOk X (.BoolOp .Or [a] pos) m:=pw_or1 h
def zG3{a b:Expr}{Zq:List Expr}{ma mb:MT}{pos:Pos}(ha:TOk X a ma)(hb:WOk X (.BoolOp .And (b::Zq) pos) mb):WOk X (.BoolOp .And (a::b::Zq) pos) (wm ma mb):=zG0 (pw_and ha hb) λO H Q=>and_run
def wk_or{a b:Expr}{Zq:List Expr}{ma mb:MT}{pos:Pos}(ha:TOk X a ma)(hb:WOk X (.BoolOp .Or (b::Zq) pos) mb):WOk X (.BoolOp .Or (a::b::Zq) pos) (GZ ma mb):=zG0 (pw_or ha hb) λO H Q=>or_run
def tk_w(h:WOk X e m):TOk X e m:=h.pt
def tk_not(h:TOk X a m):TOk X (.UnaryOp .Not a pos) (JI m):=Qb (pt_not h) λO H Q=>not_run
def zAW(a:ME):ME:=λE=>match a E with
 | .ok (.v (.bl b),E1)=>.ok (.v (.bl (!b)),E1)| .exc x E1=>.exc x E1|_=>.z
def Ga(a b:ME):ME:=λE=>match a E with
 | .ok (.v (.bl true),E1)=>b E1| .ok (.v (.bl false),E1)=>.ok (.v (.bl false),E1)| .exc x E1=>.exc x E1|_=>.z
def eOr(a b:ME):ME:=λE=>match a E with
 | .ok (.v (.bl false),E1)=>b E1| .ok (.v (.bl true),E1)=>.ok (.v (.bl true),E1)| .exc x E1=>.exc x E1|_=>.z
def zFa(h:tM X (zAW a) O H Q):tNotV (tM X a) O H Q:=by
 obtain⟨M,E,hl,fr,k⟩:=h;unfold zAW at k;refine zu (T0:=[]) hl fr ?_;cases ea:a E with
 |z=>rw[ea]at k;exact k|exc x E1=>rw[ea]at k;exact k
 |ok p =>
  obtain⟨r,E1⟩:=p;rw[ea]at k;cases r with
  |own ds=>exact k.elim|dct _ _=>exact k.elim
  |v d =>
   cases d with
   |bl b =>
    intro v H' g;have rp:=g.rep;simp only[R.d,Rep]at rp;exact⟨b,rp,k _ H' (g.flat (d:=.bl (!b)) rfl)⟩
   |_=>exact k.elim
def zFb(h:tM X (Ga a b) O H Q):tAndV (tM X a) (tM X b) O H Q:=by
 obtain⟨M,E,hl,fr,k⟩:=h;unfold Ga at k;refine zu (T0:=[]) hl fr ?_;cases ea:a E with
 |z=>rw[ea]at k;exact k|exc x E1=>rw[ea]at k;exact k
 |ok p =>
  obtain⟨r,E1⟩:=p;rw[ea]at k;cases r with
  |own ds=>exact k.elim|dct _ _=>exact k.elim
  |v d =>
   cases d with
   |bl c =>
    intro v H' g;have rp:=g.rep;simp only[R.d,Rep]at rp;refine⟨c,rp,?_⟩;cases c with
    |false=>exact zE7 (k _ H' (g.flat (d:=.bl false) rfl))
    |true =>
     refine zE8 (zu (T0:=[]) g.len g.frame ?_);dsimp only at k;cases eb:b E1 with
     |z=>rw[eb]at k;exact k|exc x E2=>rw[eb]at k;exact λH'' g'=>k H'' (g.dropAll.trans' g')|ok p=>rw[eb]at k;exact λv'' H'' g'=>k v'' H'' (g.dropAll.trans' g')
   |_=>exact k.elim
def ok_not(h:EOk X a m):EOk X (.UnaryOp .Not a pos) (zAW m):=zZ (pe_not h) λO H Q=>zFa
def zG4{a b:Expr}{Zq:List Expr}{ma mb:ME}{pos:Pos}(ha:EOk X a ma)(hb:EOk X (.BoolOp .And (b::Zq) pos) mb):EOk X (.BoolOp .And (a::b::Zq) pos) (Ga ma mb):=zZ (pe_and ha hb) λO H Q=>zFb
def ok_one(h:EOk X a m):EOk X (.BoolOp op [a] pos) m:=pe_one h
def eIf(c:MT)(a b:ME):ME:=λE=>match c E with
 | .ok (true,E1)=>a E1| .ok (false,E1)=>b E1| .exc x E1=>.exc x E1| .z=>.z
def if_run(h:tM X (eIf c a b) O H Q):tIf (tMT X c) (tM X a) (tM X b) O H Q:=by
 obtain⟨M,E,hl,fr,k⟩:=h;unfold eIf at k;refine JR (T0:=[]) hl fr ?_;cases ea:c E with
 |z=>rw[ea]at k;exact k|exc x E1=>rw[ea]at k;exact k
 |ok p =>
  obtain⟨t,E1⟩:=p;rw[ea]at k;intro H1 g1;cases t with
  |true =>
   refine zE8 (zu (T0:=[]) g1.len g1.fr ?_);dsimp only at k;cases eb:a E1 with
   |z=>rw[eb]at k;exact k|exc x E2=>rw[eb]at k;exact λH' g=>k H' (g1.trans' g)|ok p=>rw[eb]at k;exact λv H' g=>k v H' (g1.trans' g)
  |false =>
   refine zE7 (zu (T0:=[]) g1.len g1.fr ?_);dsimp only at k;cases eb:b E1 with
   |z=>rw[eb]at k;exact k|exc x E2=>rw[eb]at k;exact λH' g=>k H' (g1.trans' g)|ok p=>rw[eb]at k;exact λv H' g=>k v H' (g1.trans' g)
def ok_if(hc:TOk X c mc)(ha:EOk X a ma)(hb:EOk X b mb):EOk X (.IfExp c a b pos) (eIf mc ma mb):=zZ (zFE hc ha hb) λO H Q=>if_run
def zAX:MA:=λE=>.ok ([],E)
def JJ(a:ME)(m:MA):MA:=λE=>match a E with
 | .z=>.z| .exc x E1=>.exc x E1
 | .ok (r,E1)=>match m E1 with
  | .z=>.z| .exc x E2=>.exc x E2| .ok (rs,E2)=>.ok (r::rs,E2)
def ak_nil:AOk X [] zAX:=Qc ub λO H Q ⟨M,E,hl,fr,k⟩=>k [] H rfl (Got.refl (T0:=[]) hl fr)
theorem Got.perm{mg:Str->Option Value}{M:Addr->Prop}(a:Got K mg M O E H T0 O1 E1 H1 T)(p:T.Perm T'):Got K mg M O E H T0 O1 E1 H1 T' where
 len:=a.len
 fr:=a.fr.perm (p.append_right _)
 st:=a.st.weak (zD (p.append_right _).symm)
 pk:=a.pk
def zFc{Q:List V->Hp->Prop}(h:tMA X (JJ a m) O H Q):zDO (tM X a) (tMA X m) O H Q:=by
 obtain⟨M,E,hl,fr,k⟩:=h;unfold JJ at k;refine zu (T0:=[]) hl fr ?_;cases ea:a E with
 |z=>rw[ea]at k;exact k|exc x E1=>rw[ea]at k;exact k
 |ok p =>
  obtain⟨r1,E1⟩:=p;rw[ea]at k;intro x H1 g1;refine wj (T0:=[(some x,r1.slot)]) g1.len g1.fr ?_;dsimp only at k;cases eb:m E1 with
  |z=>rw[eb]at k;exact k|exc x E2=>rw[eb]at k;exact λH' g=>k H' (g1.trans' g).dropAll
  |ok p =>
   obtain⟨rs,E2⟩:=p;rw[eb]at k;intro vs H2 hv g2;refine k (x::vs) H2 (by simp[hv]) ?_;rw[uh];exact(g1.trans' g2).perm (perm_append_comm)
def ak_cons(ha:EOk X e a)(hm:AOk X es m)(hs:zV e=false:=by rfl):AOk X (e::es) (JJ a m):=Qc (JQ ha hm (zm hs)) λO H Q=>zFc
def eCB(f:List D->Option R)(m:MA):ME:=λE=>match m E with
 | .z=>.z| .exc x E1=>.exc x E1
 | .ok (rs,E1)=>match f (rs.map R.d)with
  |some r=>.ok (r,E1)|none=>.z
def zBm{rel:List V->Hp->VK->Prop}{f:List D->Option R}(hr:COk X.K X.mg rel f)(h:tM X (eCB f m) O H Q):tCB rel (tMA X m) O H Q:=by
 obtain⟨M,E,hl,fr,k⟩:=h;unfold eCB at k;refine wj (T0:=[]) hl fr ?_;cases ea:m E with
 |z=>rw[ea]at k;exact k|exc x E1=>rw[ea]at k;exact k
 |ok p =>
  obtain⟨rs,E1⟩:=p;rw[ea]at k;intro vs H1 hv g;have rp:=Got.reps hv g;dsimp only at k;cases ef:f (rs.map R.d)with
  |none=>rw[ef]at k;exact k.elim
  |some r =>
   rw[ef]at k;exact hr M H1 _ vs _ r Q g.frame rp ef λv H' f' s'=>k v H' (g.more (T:=[(some v,r.slot)]) f' s')
def zAY(m:MA):ME:=eCB (λds=>if ds.length<=cap then some (.v (.t ds))else none) m
def zAZ(m:MA):ME:=eCB (λds=>if ds.length<=cap then some (.own ds)else none) m
def ok_tup(h:AOk X es m):EOk X (.Tuple es x1 pos) (zAY m) :=
 zZ (pe_tup h) λO H Q q=>zBm (rel:=λxs H1 Q=>xs.length<=sizeLine/\∀p,H1 p=none->Q (.ref p) (upd H1 p (.t xs))) (λM H Z xs ds res Q f r e k=>by
  split at e
  ·rename_i hc
   cases e;exact⟨by rw[r.length];exact Yr hc,λp hp=>k.tup f hp r⟩
  ·cases e) q
def ok_lst(h:AOk X es m):EOk X (.List es pos) (zAZ m) :=
 zZ (pe_lst h) λO H Q q=>zBm (rel:=λxs H1 Q=>xs.length<=sizeLine/\∀p,H1 p=none->Q (.ref p) (upd H1 p (.l xs))) (λM H Z xs ds res Q f r e k=>by
  split at e
  ·rename_i hc
   cases e;exact⟨by rw[r.length];exact Yr hc,λp hp=>k.own f hp r⟩
  ·cases e) q
def Ys{f:List D->Option R}{m:MA}{rel:List V->Hp->VK->Prop}{id:String}{x:Str}{p pos:Pos}{e:Expr}{es:List Expr}(hc:JP X (.builtin id) rel)(hr:COk X.K X.mg rel f)(hg:Gl X x)(hm:X.mg x=none)(hv:bootBuiltins x=some (.builtin id))(ha:AOk X (e::es) m)(hn:x≠"__name__":=by decide)(hdb:(x==("__debug__":Str))=false:=by decide)
  (he:zV e=false:=by rfl) (hpl:j0 es=true:=by rfl):EOk X (.Call (.Name x p) (e::es) [] pos) (eCB f m) :=
 zZ (GS hc hg hm hv ha hn hdb (zm he) (JS hpl)) λO H Q q=>zBm hr q
def W4{f:List D->Option R}{rel:List V->Hp->VK->Prop}(hc:JP X (.type T) rel)(hr:COk X.K X.mg rel f)(hg:Gl X x)(hm:X.mg x=none)(hv:bootBuiltins x=some (.type T))(ha:AOk X (e::es) m)(hn:x≠"__name__":=by decide)(hdb:(x==("__debug__":Str))=false:=by decide)
  (he:zV e=false:=by rfl) (hpl:j0 es=true:=by rfl):EOk X (.Call (.Name x p) (e::es) [] pos) (eCB f m) :=
 zZ (zDQ hc hg hm hv ha hn hdb (zm he) (JS hpl)) λO H Q q=>zBm hr q
end
section
variable{X:Cx}{K:qH}{mg:Str->Option Value}
def zM(h:Rep K mg H (.int i) v):v=.int i:=by simpa only[Rep]using h
def Zx(h:Rep K mg H (.bl i) v):v=.bl i:=by simpa only[Rep]using h
def ZP(h:Rep K mg H (.str i) v):v=.str i:=by simpa only[Rep]using h
def zAn(h:Rep K mg H .non v):v=.non:=by simpa only[Rep]using h
def yp(h:Rep K mg H (.t ds) v):∃a xs,v=.ref a/\SqT K H a xs/\Reps K mg H ds xs:=by simpa only[Rep]using h
def yX(h:Rep K mg H (.l ds) v):∃a xs,v=.ref a/\SqL K H a xs/\Reps K mg H ds xs:=by simpa only[Rep]using h
def zAo(hf:flat d=true)(h:Rep K mg H d v):v=flV d:=by
 cases d<;>simp[flat]at hf<;>simpa only[Rep,flV]using h
def zAa:D->D->Option R
 | .int i,.int j=>some (.v (.int (i+j)))| .t a,.t b=>if a.length+b.length<=cap then some (.v (.t (a++b)))else none| .l a,.l b=>if a.length+b.length<=cap then some (.own (a++b))else none|_,_=>none
def rAddD(K:qH):R2:=λx y H Q=>rI0 (λi j=>.int (i+j)) x y H Q\/(zG2 K x y H Q\/rCatL K x y H Q)
def op_addD:OpR X (binaryOp .Add) (rAddD X.K):=op_add.or (zFY.or op_catL)
def ro_add:ROk K mg (rAddD K) zAa:=by
 intro M H Z x y d1 d2 res Q f r1 r2 e k;cases d1 with
 |int i =>
  cases d2 with
  |int j =>
   cases e;exact .inl ⟨i,j,zM r1,zM r2,k.flat f rfl⟩
  |_=>cases e
 |t a =>
  cases d2 with
  |t b =>
   simp only[zAa]at e;split at e
   ·rename_i hc
    cases e;obtain⟨p,xs,rfl,h1,h2⟩:=yp r1;obtain⟨q,ys,rfl,h3,h4⟩:=yp r2;have l1:=h2.length;have l2:=h4.length;refine .inr (.inl ⟨p,q,xs,ys,rfl,rfl,zO zF h1,zO zF h3,by rw[l1,l2];exact Yr hc,λe=>?_,λ_ e=>?_,λ_ _ p' hp=>k.tup f hp (h2.append h4)⟩)
    ·subst e
     have:a=[]:=by simpa using l1.symm
     subst this;exact k.rep f (by simpa using r2)
    ·subst e
     have:b=[]:=by simpa using l2.symm
     subst this;exact k.rep f (by simpa using r1)
   ·cases e
  |_=>cases e
 |l a =>
  cases d2 with
  |l b =>
   simp only[zAa]at e;split at e
   ·rename_i hc
    cases e;obtain⟨p,xs,rfl,h1,h2⟩:=yX r1;obtain⟨q,ys,rfl,h3,h4⟩:=yX r2;have l1:=h2.length;have l2:=h4.length;exact .inr (.inr ⟨p,q,xs,ys,rfl,rfl,zF.seq h1,zF.seq h3,by rw[l1,l2];exact Yr hc,λp' hp=>k.own f hp (h2.append h4)⟩)
   ·cases e
  |_=>cases e
 |_=>cases e
def zDg(C:Int->Int->Bool)(g:Int->Int->D):D->D->Option R
 | .int i,.int j=>if C i j=true then some (.v (g i j))else none|_,_=>none
def zDh{C:Int->Int->Bool}{P:Int->Int->Prop}{g:Int->Int->D}{gv:Int->Int->V}(hC:∀i j,C i j=true->P i j)(hg:∀i j,flat (g i j)=true/\flV (g i j)=gv i j):ROk K mg (rI P gv) (zDg C g):=by
 intro M H Z x y d1 d2 res Q f r1 r2 e k;cases d1 with
 |int i =>
  cases d2 with
  |int j =>
   simp only[zDg]at e;split at e
   ·rename_i hc
    cases e;refine⟨i,j,zM r1,zM r2,hC i j hc,?_⟩;have:=k.flat f (hg i j).1;rw[(hg i j).2]at this;exact this
   ·cases e
  |_=>cases e
 |_=>cases e
def zCy(g:Int->Int->D):D->D->Option R
 | .int i,.int j=>some (.v (g i j))|_,_=>none
def W5{g:Int->Int->D}{gv:Int->Int->V}(hg:∀i j,flat (g i j)=true/\flV (g i j)=gv i j):ROk K mg (rI0 gv) (zCy g):=by
 intro M H Z x y d1 d2 res Q f r1 r2 e k;cases d1 with
 |int i =>
  cases d2 with
  |int j =>
   cases e;refine⟨i,j,zM r1,zM r2,?_⟩;have:=k.flat f (hg i j).1;rw[(hg i j).2]at this;exact this
  |_=>cases e
 |_=>cases e
abbrev WR:=zCy λi j=>.int (i-j)
def ro_sub:ROk K mg (rI0 λi j=>.int (i-j)) WR:=W5 λ_ _=>⟨rfl,rfl⟩
def Big:Nat:=2^4000
def zDi(h:n<Big):n.log2<4000:=by
 by_cases h0:n=0
 ·subst h0;decide +kernel
 ·exact(Nat.log2_lt h0).mpr h
def zBn(h:i.natAbs<Big):Builtin.Int.intBits i<=4000:=by
 unfold Builtin.Int.intBits;split
 ·exact zero_le _
 ·exact zDi h
def zDj(h1:i.natAbs<Big)(h2:j.natAbs<Big):IntMulOk i j:=by
 have b1:=zBn h1;have b2:=zBn h2;unfold IntMulOk;have:Builtin.Int.intTooBig (((Builtin.Int.intBits i:Nat):Int)+(Builtin.Int.intBits j:Nat))=false:=by
  unfold Builtin.Int.intTooBig bitsLine;simp only[decide_eq_false_iff_not];have:(2^27:Nat)=134217728:=by decide
  omega
 rw[this,Bool.and_false];decide
def CDivB(i j:Int):Prop:=0<j/\(j<1073741824\/j.natAbs<Big)
def zFd:OpR X (binaryOp .FloorDiv) (rI CDivB λi j=>.int (i/j)):=opI λi j _ _ _ _ _ hc q=>by
 have h1:(0:Int)<j:=hc.1;refine PyProof.Rows.floordiv_int (by omega) (by rw[Int.fdiv_eq_ediv_of_nonneg i (by omega)];exact q) (.inl ?_);rcases hc.2 with h|h
 ·exact PyProof.noPylong_small (by omega)
 ·exact PyProof.noPylong_of_log2 (lt_of_lt_of_le (zDi h) (by decide))
def CMulB(i j:Int):Prop:=CMul i j\/(i.natAbs<Big/\j.natAbs<Big)
def op_mulB:OpR X (binaryOp .Mult) (rI CMulB λi j=>.int (i*j)):=opI λ_ _ _ _ _ _ _ hc q=>PyProof.Rows.mul_int q (by
 rcases hc with h|h
 ·exact h.ok
 ·exact zDj h.1 h.2)
abbrev zCi:=zDg (λ_ j=>decide (0<j/\(j<1073741824\/j.natAbs<Big))) λi j=>.int (i/j)
def ro_fdiv:ROk K mg (rI CDivB λi j=>.int (i/j)) zCi:=zDh (λi j h=>(of_decide_eq_true h:0<j/\(j<1073741824\/j.natAbs<Big))) λ_ _=>⟨rfl,rfl⟩
abbrev zG5:=zDg (λ_ j=>decide (0<j)) λi j=>.int (i%j)
def ro_mod:ROk K mg (rI (λ_ j=>0<j) λi j=>.int (i%j)) zG5:=zDh (λi j h=>of_decide_eq_true h) λ_ _=>⟨rfl,rfl⟩
abbrev powD:=zDg (λi j=>decide (0<=j/\j<=1000000/\i.natAbs<2^64)) λi j=>.int (i^j.toNat)
def ro_pow:ROk K mg (rI CPow λi j=>.int (i^j.toNat)) powD:=zDh (λi j h=>(of_decide_eq_true h:0<=j/\j<=1000000/\i.natAbs<2^64)) λ_ _=>⟨rfl,rfl⟩
def Zy:D->D->Option R
 | .int i,.int j=>if((-(2^64)<i/\i<2^64)\/(-(2^64)<j/\j<2^64))\/(i.natAbs<Big/\j.natAbs<Big)then some (.v (.int (i*j)))else none| .t a,.int k=>if -(2^63)<=k/\k<2^63/\a.length*k.toNat<=cap then some (.v (.t (replicate k.toNat a).flatten))else none|_,_=>none
def rMulD(K:qH):R2:=λx y H Q=>rI CMulB (λi j=>.int (i*j)) x y H Q\/rRepT K x y H Q
def op_mulD:OpR X (binaryOp .Mult) (rMulD X.K):=op_mulB.or op_repT
def ro_mul:ROk K mg (rMulD K) Zy:=by
 intro M H Z x y d1 d2 res Q f r1 r2 e k;cases d1 with
 |int i =>
  cases d2 with
  |int j =>
   simp only[Zy]at e;split at e
   ·rename_i hc
    cases e;exact .inl ⟨i,j,zM r1,zM r2,hc,k.flat f rfl⟩
   ·cases e
  |_=>cases e
 |t a =>
  cases d2 with
  |int n =>
   simp only[Zy]at e;split at e
   ·rename_i hc
    cases e;obtain⟨p,xs,rfl,h1,h2⟩:=yp r1;have l1:=h2.length;refine .inr ⟨p,n,xs,rfl,zM r2,zO zF h1,hc.1,hc.2.1,by rw[l1];exact Yr hc.2.2,λe=>?_,λp' hp=>k.tup f hp (h2.flatten _)⟩;refine k.rep f ?_;rcases e with e|e
    ·subst e
     have:a=[]:=by simpa using l1.symm
     subst this;simpa using r1
    ·subst e
     simpa using r1
   ·cases e
  |_=>cases e
 |_=>cases e
abbrev ltD:=zCy λi j=>.bl (decide (i<j))
def ro_lt:ROk K mg (rI0 λi j=>.bl (decide (i<j))) ltD:=W5 λ_ _=>⟨rfl,rfl⟩
abbrev leD:=zCy λi j=>.bl (decide (i<=j))
def ro_le:ROk K mg (rI0 λi j=>.bl (decide (i<=j))) leD:=W5 λ_ _=>⟨rfl,rfl⟩
abbrev gtD:=zCy λi j=>.bl (decide (j<i))
def ro_gt:ROk K mg (rI0 λi j=>.bl (decide (j<i))) gtD:=W5 λ_ _=>⟨rfl,rfl⟩
abbrev geD:=zCy λi j=>.bl (decide (j<=i))
def ro_ge:ROk K mg (rI0 λi j=>.bl (decide (j<=i))) geD:=W5 λ_ _=>⟨rfl,rfl⟩
def eqF:D->D->Option R
 | .int i,.int j=>some (.v (.bl (decide (i=j))))| .bl i,.bl j=>some (.v (.bl (decide (i=j))))| .str i,.str j=>some (.v (.bl (decide (i=j))))|_,_=>none
def neF:D->D->Option R
 | .int i,.int j=>some (.v (.bl (!decide (i=j))))| .bl i,.bl j=>some (.v (.bl (!decide (i=j))))| .str i,.str j=>some (.v (.bl (!decide (i=j))))|_,_=>none
def vint:decide (V.int i=V.int j)=decide (i=j):=by simp
def vbl:decide (V.bl i=V.bl j)=decide (i=j):=by simp
def vstr:decide (V.str i=V.str j)=decide (i=j):=by simp
def ro_eq:ROk K mg rEq eqF:=by
 intro M H Z x y d1 d2 res Q f r1 r2 e k;cases d1<;>cases d2<;>cases e
 ·rw[Zx r1,Zx r2];refine⟨rfl,?_⟩;rw[vbl];exact k.flat f rfl
 ·rw[zM r1,zM r2];refine⟨rfl,?_⟩;rw[vint];exact k.flat f rfl
 ·rw[ZP r1,ZP r2];refine⟨rfl,?_⟩;rw[vstr];exact k.flat f rfl
def ro_ne:ROk K mg rNe neF:=by
 intro M H Z x y d1 d2 res Q f r1 r2 e k;cases d1<;>cases d2<;>cases e
 ·rw[Zx r1,Zx r2];refine⟨rfl,?_⟩;rw[vbl];exact k.flat f rfl
 ·rw[zM r1,zM r2];refine⟨rfl,?_⟩;rw[vint];exact k.flat f rfl
 ·rw[ZP r1,ZP r2];refine⟨rfl,?_⟩;rw[vstr];exact k.flat f rfl
def inF(neg:Bool)(d:D):D->Option R
 | .t ds=>if flat d=true/\ds.all flat=true then some (.v (.bl (if neg then !inV (flV d) (ds.map flV)else inV (flV d) (ds.map flV))))else none| .l ds=>if flat d=true/\ds.all flat=true then some (.v (.bl (if neg then !inV (flV d) (ds.map flV)else inV (flV d) (ds.map flV))))else none|_=>none
theorem W6:∀{ds:List D} {xs:List V},ds.all flat=true->Reps K mg H ds xs->xs=ds.map flV
 | [],_,_,h=>by simp only[Reps]at h;subst h;rfl
 |d::ds,_,hf,h=>by
  simp only[Reps]at h;obtain⟨v,r,rfl,h1,h2⟩:=h;simp only[all_cons,Bool.and_eq_true]at hf;rw[zAo hf.1 h1,W6 hf.2 h2];rfl
def W7(h:flat d=true):uA (flV d)=true:=by cases d<;>simp[flat]at h<;>rfl
theorem W8:∀{ds:List D},ds.all flat=true->(ds.map flV).all uA=true
 | [],_=>rfl
 |d::ds,h=>by
  simp only[all_cons,Bool.and_eq_true]at h;simp only[map_cons,all_cons,Bool.and_eq_true];exact⟨W7 h.1,W8 h.2⟩
def zFe:ROk K mg (rIn K neg) (inF neg):=by
 intro M H Z x y d1 d2 res Q f r1 r2 e k;cases d2 with
 |t ds =>
  simp only[inF]at e;split at e
  ·rename_i hc
   cases e;obtain⟨p,xs,rfl,h1,h2⟩:=yp r2;rw[zAo hc.1 r1];have:=W6 hc.2 h2;subst this;exact⟨p,_,rfl,.inr (zO zF h1),W7 hc.1,W8 hc.2,k.flat f rfl⟩
  ·cases e
 |l ds =>
  simp only[inF]at e;split at e
  ·rename_i hc
   cases e;obtain⟨p,xs,rfl,h1,h2⟩:=yX r2;rw[zAo hc.1 r1];have:=W6 hc.2 h2;subst this;exact⟨p,_,rfl,.inl (zF.seq h1),W7 hc.1,W8 hc.2,k.flat f rfl⟩
  ·cases e
 |_=>cases e
def ixD:D->D->Option R
 | .t ds,.int i=>(atI ds i).map .v| .l ds,.int i=>(atI ds i).map .v|_,_=>none
def WZ(h:Reps K mg H ds xs)(e:atI ds i=some d):∃v,atI xs i=some v/\Rep K mg H d v:=by
 unfold atI at e ⊢;have hl:=h.length;rw[hl];cases hj:ixN ds.length i with
 |none=>rw[hj]at e;cases e
 |some j =>
  rw[hj]at e;exact h.get' e
def ro_ix:ROk K mg (λx y H Q=>rIxL K x y H Q\/rIxT K x y H Q) ixD:=by
 intro M H Z x y d1 d2 res Q f r1 r2 e k;cases d1 with
 |t ds =>
  cases d2 with
  |int i =>
   simp only[ixD]at e;cases ea:atI ds i with
   |none=>rw[ea]at e;cases e
   |some d =>
    rw[ea]at e;cases e;obtain⟨p,xs,rfl,h1,h2⟩:=yp r1;obtain⟨v,e1,e2⟩:=WZ h2 ea;exact .inr ⟨p,xs,i,v,rfl,zM r2,zO zF h1,e1,k.rep f e2⟩
  |_=>cases e
 |l ds =>
  cases d2 with
  |int i =>
   simp only[ixD]at e;cases ea:atI ds i with
   |none=>rw[ea]at e;cases e
   |some d =>
    rw[ea]at e;cases e;obtain⟨p,xs,rfl,h1,h2⟩:=yX r1;obtain⟨v,e1,e2⟩:=WZ h2 ea;exact .inl ⟨p,xs,i,v,rfl,zM r2,zF.seq h1,e1,k.rep f e2⟩
  |_=>cases e
 |_=>cases e
def ix_both:IxR X (λx y H Q=>rIxL X.K x y H Q\/rIxT X.K x y H Q):=zDU.or zGu
def zFf:List D->Option R
 | [.t ds]=>some (.v (.int ds.length))| [.l ds]=>some (.v (.int ds.length))|_=>none
def YL(h:Reps K mg H [d] xs):∃v,xs=[v]/\Rep K mg H d v:=by
 simp only[Reps]at h;obtain⟨v,r,rfl,h1,rfl⟩:=h;exact⟨v,rfl,h1⟩
def reps2(h:Reps K mg H [d,e] xs):∃v w,xs=[v,w]/\Rep K mg H d v/\Rep K mg H e w:=by
 simp only[Reps]at h;obtain⟨v,r,rfl,h1,w,r',rfl,h2,rfl⟩:=h;exact⟨v,w,rfl,h1,h2⟩
def co_len:COk K mg (λxs H Q=>∃p ys,xs=[.ref p]/\(SqL K H p ys\/SqT K H p ys)/\Q (.int ys.length) H) zFf:=by
 intro M H Z xs ds res Q f r e k
 match ds,e with
 | [.t ds],e =>
  cases e;obtain⟨v,rfl,h⟩:=YL r;obtain⟨p,ys,rfl,h1,h2⟩:=yp h;refine⟨p,ys,rfl,.inr (zO zF h1),?_⟩;rw[h2.length];exact k.flat f rfl
 | [.l ds],e =>
  cases e;obtain⟨v,rfl,h⟩:=YL r;obtain⟨p,ys,rfl,h1,h2⟩:=yX h;refine⟨p,ys,rfl,.inl (zF.seq h1),?_⟩;rw[h2.length];exact k.flat f rfl
def zAb:List D->Option R
 | [.int i,.int j]=>some (.v (.int (if j > i then j else i)))|_=>none
def co_max:COk K mg (λxs H Q=>∃i j,xs=[.int i,.int j]/\Q (.int (if j > i then j else i)) H) zAb:=by
 intro M H Z xs ds res Q f r e k
 match ds,e with
 | [.int i,.int j],e =>
  cases e;obtain⟨v,w,rfl,h1,h2⟩:=reps2 r;exact⟨i,j,by rw[zM h1,zM h2],k.flat f rfl⟩
def intF:List D->Option R
 | [.int i]=>some (.v (.int i))| [.bl b]=>some (.v (.int (if b then 1 else 0)))|_=>none
def co_int:COk K mg (λxs H Q=>(∃i,xs=[.int i]/\Q (.int i) H)\/∃k,xs=[.bl k]/\Q (.int (if k then 1 else 0)) H) intF:=by
 intro M H Z xs ds res Q f r e k
 match ds,e with
 | [.int i],e =>
  cases e;obtain⟨v,rfl,h1⟩:=YL r;exact .inl ⟨i,by rw[zM h1],k.flat f rfl⟩
 | [.bl b],e =>
  cases e;obtain⟨v,rfl,h1⟩:=YL r;exact .inr ⟨b,by rw[Zx h1],k.flat f rfl⟩
def zG6:List D->Option R
 | [.l ds]=>some (.v (.t ds))| [.t ds]=>some (.v (.t ds))|_=>none
def zFg:COk K mg (λxs H Q=>∃p ys,xs=[.ref p]/\((SqL K H p ys/\∀l,H l=none->Q (.ref l) (upd H l (.t ys)))\/(SqT K H p ys/\Q (.ref p) H))) zG6:=by
 intro M H Z xs ds res Q f r e k
 match ds,e with
 | [.l ds],e =>
  cases e;obtain⟨v,rfl,h⟩:=YL r;obtain⟨p,ys,rfl,h1,h2⟩:=yX h;exact⟨p,ys,rfl,.inl ⟨zF.seq h1,λl hl=>k.tup f hl h2⟩⟩
 | [.t ds],e =>
  cases e;obtain⟨v,rfl,h⟩:=YL r;have h':=h;obtain⟨p,ys,rfl,h1,h2⟩:=yp h;exact⟨p,ys,rfl,.inr ⟨zO zF h1,k.rep f h'⟩⟩
def wM:List D->Option (List Bool)
 | []=>some []| .bl b::ds=>(wM ds).map (b::·)|_=>none
theorem uj:∀{ds:List D} {xs:List V} {bs:List Bool},wM ds=some bs->Reps K mg H ds xs->xs=bs.map V.bl
 | [],_,_,e,h=>by cases e;simp only[Reps]at h;subst h;rfl
 |d::ds,_,bs,e,h=>by
  simp only[Reps]at h;obtain⟨v,r,rfl,h1,h2⟩:=h;cases d with
  |bl b =>
   simp only[wM]at e;cases eb:wM ds with
   |none=>rw[eb]at e;cases e
   |some cs =>
    rw[eb]at e;cases e;rw[Zx h1,uj eb h2];rfl
  |_=>cases e
def allD:List D->Option R
 | [.l ds]=>(wM ds).map λbs=>.v (.bl (bs.all id))|_=>none
def co_all:COk K mg (λxs H Q=>∃(p:Addr) (bs:List Bool),xs=[.ref p]/\SqL K H p (bs.map V.bl)/\Q (.bl (bs.all id)) H) allD:=by
 intro M H Z xs ds res Q f r e k
 match ds,e with
 | [.l ds],e =>
  simp only[allD]at e;cases eb:wM ds with
  |none=>rw[eb]at e;cases e
  |some bs =>
   rw[eb]at e;cases e;obtain⟨v,rfl,h⟩:=YL r;obtain⟨p,ys,rfl,h1,h2⟩:=yX h;have:=uj eb h2;subst this;exact⟨p,bs,rfl,zF.seq h1,k.flat f rfl⟩
end
abbrev MO:=zS->Out (Option Int×zS)
def tMO(X:Cx)(m:MO):TO:=λO H Q=>∃M E,E.length=O.length/\FR X.K X.mg M H (O.zip E)/\match m E with
 | .z=>False| .ok (b,E')=>∀H',Got X.K X.mg M O E H [] O E' H' []->Q b H'| .exc x E'=>∀H',Got X.K X.mg M O E H [] O E' H' []->XE X O H' x
section
variable{X:Cx}{K:qH}{mg:Str->Option Value}{O:St}{M:Addr->Prop}{E:zS}{H:Hp}{T0:Fz}
def zDk{Q:Option Int->Hp->Prop}(hl:E.length=O.length)(h:FR X.K X.mg M H (T0++O.zip E))
  (k:match m E with | .z=>False | .ok (b,E')=>∀H',Got X.K X.mg M O E H T0 O E' H' []->Q b H' | .exc x E'=>∀H',Got X.K X.mg M O E H T0 O E' H' []->XE X O H' x):tMO X m O H Q:=by
 refine⟨Mo M T0,E,hl,h.inner,?_⟩;cases e:m E with
 |z=>rw[e]at k;exact k|ok a=>rw[e]at k;exact λH' g=>k H' (g.outer h)|exc x E'=>rw[e]at k;exact λH' g=>k H' (g.outer h)
abbrev OOk(X:Cx)(e:Option Expr)(m:MO):Prop:=PO X e (tMO X m)
def zG7(h:PO X e t)(i:∀O H Q,t' O H Q->t O H Q):PO X e t':=λpins s O H Q I q=>h pins s O H Q I (i O H Q q)
def zFh:MO:=λE=>.ok (none,E)
def zDl(m:ME):MO:=λE=>match m E with
 | .ok (.v (.int i),E1)=>.ok (some i,E1)| .exc x E1=>.exc x E1|_=>.z
def oo_none:OOk X none zFh:=zG7 po_none λO H Q ⟨M,E,hl,fr,k⟩=>k H (Got.refl (T0:=[]) hl fr)
def oo_some(h:EOk X e m):OOk X (some e) (zDl m):=zG7 (po_some h) λO H Q ⟨M,E,hl,fr,k⟩=>by
 unfold zDl at k;refine zu (T0:=[]) hl fr ?_;cases ea:m E with
 |z=>rw[ea]at k;exact k|exc x E1=>rw[ea]at k;exact k
 |ok p =>
  obtain⟨r,E1⟩:=p;rw[ea]at k;cases r with
  |own ds=>exact k.elim|dct _ _=>exact k.elim
  |v d =>
   cases d with
   |int i =>
    intro v H' g;exact⟨i,zM g.rep,k H' g.dropAll⟩
   |_=>exact k.elim
def eSl(f:D->Option Int->Option Int->Option R)(a:ME)(lo hi:MO):ME:=λE=>match a E with
 | .z=>.z| .exc x E1=>.exc x E1
 | .ok (r,E1)=>match lo E1 with
  | .z=>.z| .exc x E2=>.exc x E2
  | .ok (l,E2)=>match hi E2 with
   | .z=>.z| .exc x E3=>.exc x E3
   | .ok (u,E3)=>match f r.d l u with
    |some r=>.ok (r,E3)|none=>.z
def zBo(ds:List D)(lo hi:Option Int):List D:=(ds.drop (HT.sIx ds.length 0 lo)).take (HT.sIx ds.length ds.length hi-HT.sIx ds.length 0 lo)
def slD:D->Option Int->Option Int->Option R
 | .t ds,lo,hi=>some (.v (.t (zBo ds lo hi)))| .l ds,lo,hi=>some (.own (zBo ds lo hi))|_,_,_=>none
def zBp(h:Reps K mg H ds xs)(lo hi:Option Int):Reps K mg H (zBo ds lo hi) (zFQ xs lo hi):=by
 unfold zBo zFQ;rw[h.length];exact(h.drop _).take _
def sl_run(h:tM X (eSl slD a lo hi) O H Q):tSl (λx l u H Q=>rSlTT X.K x l u H Q\/rSlL X.K x l u H Q) (tM X a) (tMO X lo) (tMO X hi) O H Q:=by
 obtain⟨M,E,hl,fr,k⟩:=h;unfold eSl at k;refine zu (T0:=[]) hl fr ?_;cases ea:a E with
 |z=>rw[ea]at k;exact k|exc x E1=>rw[ea]at k;exact λH' g=>k H' g
 |ok p =>
  obtain⟨r1,E1⟩:=p;rw[ea]at k;intro x H1 g1;refine zDk (T0:=[(some x,r1.slot)]) g1.len g1.fr ?_;dsimp only at k;cases eb:lo E1 with
  |z=>rw[eb]at k;exact k|exc x E2=>rw[eb]at k;exact λH' g=>k H' (g1.trans' g).dropAll
  |ok p =>
   obtain⟨l,E2⟩:=p;rw[eb]at k;intro H2 g2;have g12:=g1.trans' g2;refine zDk (T0:=[(some x,r1.slot)]) g12.len g12.fr ?_;dsimp only at k;cases ec:hi E2 with
   |z=>rw[ec]at k;exact k|exc x E3=>rw[ec]at k;exact λH' g=>k H' (g12.trans' g).dropAll
   |ok p =>
    obtain⟨u,E3⟩:=p;rw[ec]at k;intro H3 g3;have g:=g12.trans' g3;have rx:=g.rep;dsimp only at k;have f:=g.frame;cases ed:r1.d with
    |t ds =>
     rw[ed]at k rx;have k':Kt X.K X.mg M H3 (O.zip E3) (.v (.t (zBo ds l u))) Q:=λv H' f' s'=>k v H' (g.more (T:=[(some v,_)]) f' s')
     obtain⟨p,xs,rfl,h1,h2⟩:=yp rx;refine .inl ⟨p,xs,rfl,zO zF h1,λhw=>k'.rep f ?_,λ_ p' hp=>k'.tup f hp (zBp h2 l u)⟩;have:zBo ds l u=ds:=by
      have hl:=h2.length;rw[hl]at hw;unfold zBo;rw[hw.1,hw.2];simp
     rw[this];exact rx
    |l ds =>
     rw[ed]at k rx;have k':Kt X.K X.mg M H3 (O.zip E3) (.own (zBo ds l u)) Q:=λv H' f' s'=>k v H' (g.more (T:=[(some v,_)]) f' s')
     obtain⟨p,xs,rfl,h1,h2⟩:=yX rx;exact .inr ⟨p,xs,rfl,zF.seq h1,λp' hp=>k'.own f hp (zBp h2 l u)⟩
    |_=>rw[ed]at k;exact k.elim
def ok_sl(ha:EOk X a ma)(hl:OOk X lo ml)(hh:OOk X hi mh):EOk X (.Subscript a (.Slice lo hi none p2) pos) (eSl slD ma ml mh) :=
 zZ (zFP (sl_tupT.or sl_list) ha hl hh) λO H Q=>sl_run
def tyD:D->Option String
 | .non=>some "NoneType"| .bl _=>some "bool"| .int _=>some "int"| .str _=>some "str"| .t _=>some "tuple"| .l _=>some "list"| .dic=>some "dict"| .fn _=>none| .exn _ _=>none| .dct _ _=>none
def zAp(t T:String):Bool:=t==T||(t == "bool"&&T == "int")
def zFi(hk:∀t∈["NoneType","bool","int","str","tuple","list","dict"],kitOne X.K (.type t) (.type T)=some (zAp t T)) :
  JP X (.builtin "isinstance") (λxs H Q=>∃x d t,xs=[x,.ty T]/\Rep X.K X.mg H d x/\tyD d=some t/\Q (.bl (zAp t T)) H):=by
 intro pins s O H xs us Q I r h;obtain⟨x,d,t,rfl,rd,et,q⟩:=h;obtain⟨u,w',rfl,rx,ry⟩:=vals2 r;cases (show w'=Value.type T from ry);have fin:∀tk,EP X pins O Q (.bool (zAp t T)) {s with toks:=tk}:=λtk=>⟨.bl _,H,I.tok tk,rfl,q⟩
 cases d with
 |non=>cases et;rw[zAn rd]at rx;cases (show u=Value.none from rx);exact kia_one PySem.W.kitx_none I.kIn True.intro (hk _ (by simp)) (λz=>nomatch z) fin|bl b=>cases et;rw[Zx rd]at rx;cases (show u=Value.bool b from rx);exact kia_one PySem.W.kitx_bool I.kIn True.intro (hk _ (by simp)) (λz=>nomatch z) fin|int i=>cases et;rw[zM rd]at rx;obtain⟨t,q⟩:=(show ∃t,u=Value.int i t from rx);cases q;exact kia_one PySem.W.kitx_int I.kIn True.intro (hk _ (by simp)) (λz=>nomatch z) fin|str y=>cases et;rw[ZP rd]at rx;obtain⟨t,q⟩:=(show ∃t,u=Value.str y t from rx);cases q;exact kia_one PySem.W.kitx_str I.kIn True.intro (hk _ (by simp)) (λz=>nomatch z) fin
 |t ds =>
  cases et;obtain⟨a,xs,rfl,h1,_⟩:=yp rd;cases (show u=Value.ref a from rx);obtain⟨its,_,p,_⟩:=I.tuple h1;obtain⟨o,e1,e2,_⟩:=p;exact kia_one PySem.W.kitx_tuple I.kIn ⟨o,e1,e2⟩ (hk _ (by simp)) (λz=>nomatch z) fin
 |l ds =>
  cases et;obtain⟨a,xs,rfl,h1,_⟩:=yX rd;cases (show u=Value.ref a from rx);obtain⟨its,_,p,_⟩:=I.list h1;obtain⟨o,n,e1,e2,_⟩:=p;exact kia_one PySem.W.kitx_list I.kIn ⟨o,e1,e2⟩ (hk _ (by simp)) (λz=>nomatch z) fin
 |dic =>
  cases et;simp only[Rep]at rd;obtain⟨a,rfl,e⟩:=rd;cases (show u=Value.ref a from rx);obtain⟨_,_,vs,_,p⟩:=(show jy X.prog X.w H s.heap a (.dK [])from I.hok a _ e);obtain⟨o,es,ep,h1,h2,_⟩:=p;exact kia_one PySem.W.kitx_dict I.kIn ⟨o,h1,h2.1⟩ (hk _ (by simp)) (λz=>nomatch z) fin
 |fn x=>cases et|exn x y=>cases et|dct _ _=>cases et
def eIs(T:String)(m:ME):ME:=λE=>match m E with
 | .z=>.z| .exc x E1=>.exc x E1
 | .ok (r,E1)=>match tyD r.d with
  |some t=>.ok (.v (.bl (zAp t T)),E1)|none=>.z
def ok_is(hk:∀t∈["NoneType","bool","int","str","tuple","list","dict"],kitOne X.K (.type t) (.type T)=some (zAp t T))(hg:Gl X "isinstance")(hm:X.mg "isinstance"=none)
  (hgT:Gl X x) (hmT:X.mg x=none) (hvT:bootBuiltins x=some (.type T)) (ha:EOk X a m) (hv:bootBuiltins "isinstance"=some (.builtin "isinstance")) (hn:x≠"__name__":=by decide) (hd:(x==("__debug__":Str))=false:=by decide)
  (he:zV a=false:=by rfl) :
  EOk X (.Call (.Name "isinstance" p) [a,.Name x p1] [] pos) (eIs T m):=by
 refine zZ (GS (zFi hk) hg hm hv (JQ ha (JQ (pe_bltn (v:=.ty T) hgT hmT hvT rfl hn hd) ub (zm rfl)) (zm he)) (by decide) (by decide) (zm he) (JS rfl)) λO H Q ⟨M,E,hl,fr,k⟩=>?_
 unfold eIs at k;refine zu (T0:=[]) hl fr ?_;cases ea:m E with
 |z=>rw[ea]at k;exact k|exc x E1=>rw[ea]at k;exact k
 |ok pr =>
  obtain⟨r,E1⟩:=pr;rw[ea]at k;intro v H' g;dsimp only at k;cases et:tyD r.d with
  |none=>rw[et]at k;exact k.elim
  |some t =>
   rw[et]at k;exact⟨v,r.d,t,rfl,g.rep.mono zF,et,k _ H' (g.flat (d:=.bl (zAp t T)) rfl)⟩
inductive Fl where
 |nx
 |ret (r:R)
 |bk
 |ct
 deriving Inhabited
abbrev MS:=zS->Out (Fl×zS)
def KS(X:Cx)(M:Addr->Prop)(O:St)(E:zS)(H:Hp)(T0:Fz)(D:Ends):Out (Fl×zS)->Prop
 | .z=>False| .ok (.nx,E')=>∀O' H',Got X.K X.mg M O E H T0 O' E' H' []->D.nx O' H'| .ok (.bk,E')=>∀O' H',Got X.K X.mg M O E H T0 O' E' H' []->D.bk O' H'| .ok (.ct,E')=>∀O' H',Got X.K X.mg M O E H T0 O' E' H' []->D.ct O' H'| .ok (.ret r,E')=>∀v O' H',Got X.K X.mg M O E H T0 O' E' H' [(some v,r.slot)]->D.rt v H'| .exc x E'=>∀O' H',Got X.K X.mg M O E H T0 O' E' H' []->XE X O' H' x
def tS(X:Cx)(m:MS):TS:=λD O H=>∃M E,E.length=O.length/\FR X.K X.mg M H (O.zip E)/\KS X M O E H [] D (m E)
abbrev SOk(X:Cx)(st:Stmt)(m:MS):Prop:=PS X st (tS X m)
abbrev zAc(X:Cx)(st:List Stmt)(m:MS):Prop:=PSs X st (tS X m)
def uk{m:MS}{D:Ends}(hl:E.length=O.length)(h:FR X.K X.mg M H (T0++O.zip E))
  (k:KS X M O E H T0 D (m E)):tS X m D O H:=by
 refine⟨Mo M T0,E,hl,h.inner,?_⟩;cases e:m E with
 |z=>rw[e]at k;exact k
 |ok a =>
  obtain⟨fl,E'⟩:=a;rw[e]at k;cases fl with
  |nx=>exact λO' H' g=>k O' H' (g.outer h)|bk=>exact λO' H' g=>k O' H' (g.outer h)|ct=>exact λO' H' g=>k O' H' (g.outer h)|ret r=>exact λv O' H' g=>k v O' H' (g.outer h)
 |exc x E'=>rw[e]at k;exact λO' H' g=>k O' H' (g.outer h)
def zAd:MS:=λE=>.ok (.nx,E)
def ul(a b:MS):MS:=λE=>match a E with
 | .ok (.nx,E1)=>b E1|o=>o
def sk_nil:zAc X [] zAd:=zDe pss_nil λD O H ⟨M,E,hl,fr,k⟩=>k O H (Got.refl (T0:=[]) hl fr)
def sk_one(h:SOk X st m):zAc X [st] m:=pss_one h
def seq_run{a b:MS}{D:Ends}(h:tS X (ul a b) D O H):tSeq (tS X a) (tS X b) D O H:=by
 obtain⟨M,E,hl,fr,k⟩:=h;unfold ul at k;refine uk (T0:=[]) hl fr ?_;cases ea:a E with
 |z=>rw[ea]at k;exact k|exc x E1=>rw[ea]at k;exact k
 |ok p =>
  obtain⟨fl,E1⟩:=p;rw[ea]at k;cases fl with
  |bk=>exact k|ct=>exact k|ret r=>exact k
  |nx =>
   intro O1 H1 g1;refine uk (T0:=[]) g1.len g1.fr ?_;dsimp only at k;cases eb:b E1 with
   |z=>rw[eb]at k;exact k|exc x E2=>rw[eb]at k;exact λO' H' g=>k O' H' (g1.trans' g)
   |ok p =>
    obtain⟨fl2,E2⟩:=p;rw[eb]at k;cases fl2 with
    |nx=>exact λO' H' g=>k O' H' (g1.trans' g)|bk=>exact λO' H' g=>k O' H' (g1.trans' g)|ct=>exact λO' H' g=>k O' H' (g1.trans' g)|ret r=>exact λv O' H' g=>k v O' H' (g1.trans' g)
def sk_cons{st:Stmt}{Zq:List Stmt}{a b:MS}(h1:SOk X st a)(h2:zAc X Zq b):zAc X (st::Zq) (ul a b):=zDe (zFF h1 h2) λD O H=>seq_run
def sIf(c:MT)(a b:MS):MS:=λE=>match c E with
 | .ok (true,E1)=>a E1| .ok (false,E1)=>b E1| .exc x E1=>.exc x E1| .z=>.z
def tS_go{m:MS}{D:Ends}{O1:St}{E1:zS}{H1:Hp}(g1:Got X.K X.mg M O E H [] O1 E1 H1 [])
  (k:match m E1 with
   | .z=>False| .ok (.nx,E')=>∀O' H',Got X.K X.mg M O E H [] O' E' H' []->D.nx O' H'| .ok (.bk,E')=>∀O' H',Got X.K X.mg M O E H [] O' E' H' []->D.bk O' H'| .ok (.ct,E')=>∀O' H',Got X.K X.mg M O E H [] O' E' H' []->D.ct O' H'| .ok (.ret r,E')=>∀v O' H',Got X.K X.mg M O E H [] O' E' H' [(some v,r.slot)]->D.rt v H'
   | .exc x E'=>∀O' H',Got X.K X.mg M O E H [] O' E' H' []->XE X O' H' x):tS X m D O1 H1:=by
 refine uk (T0:=[]) g1.len g1.fr ?_;cases eb:m E1 with
 |z=>rw[eb]at k;exact k|exc x E2=>rw[eb]at k;exact λO' H' g=>k O' H' (g1.trans' g)
 |ok p =>
  obtain⟨fl2,E2⟩:=p;rw[eb]at k;cases fl2 with
  |nx=>exact λO' H' g=>k O' H' (g1.trans' g)|bk=>exact λO' H' g=>k O' H' (g1.trans' g)|ct=>exact λO' H' g=>k O' H' (g1.trans' g)|ret r=>exact λv O' H' g=>k v O' H' (g1.trans' g)
def sif_run{c:MT}{a b:MS}{D:Ends}(h:tS X (sIf c a b) D O H):tIfS (tMT X c) (tS X a) (tS X b) D O H:=by
 obtain⟨M,E,hl,fr,k⟩:=h;unfold sIf at k;refine JR (T0:=[]) hl fr ?_;cases ea:c E with
 |z=>rw[ea]at k;exact k|exc x E1=>rw[ea]at k;exact λH' g=>k O H' g
 |ok p =>
  obtain⟨t,E1⟩:=p;rw[ea]at k;intro H1 g1;cases t with
  |true=>exact zE8 (tS_go g1 k)|false=>exact zE7 (tS_go g1 k)
def sk_if(hc:TOk X c mc)(ha:zAc X a ma)(hb:zAc X b mb):SOk X (.If c a b pos) (sIf mc ma mb):=yg (ps_if hc ha hb) λD O H=>sif_run
def Yt(i:Nat)(r:R)(E:zS):Out zS:=match E[i]? with
 |none=>.z|some (.par _)=>.z|some _=>.ok (E.set i r.slot)
def sSet(i:Nat)(m:ME):MS:=λE=>match m E with
 | .z=>.z| .exc x E1=>.exc x E1
 | .ok (r,E1)=>match Yt i r E1 with
  | .ok E2=>.ok (.nx,E2)|_=>.z
def Gb(g:Got K mg M O E H T0 O1 E1 H1 [(some v,r.slot)])(e:Yt i r E1=.ok E2):Got K mg M O E H T0 (O1.set i (some v)) E2 H1 []:=by
 unfold Yt at e;cases e1:E1[i]? with
 |none=>rw[e1]at e;cases e
 |some sl =>
  rw[e1]at e;have hne:∀ds,sl≠.par ds:=λds q=>by subst q;cases e
  have e2:E2=E1.set i r.slot:=by
   cases sl with
   |par ds=>exact absurd rfl (hne ds)|_=>cases e;rfl
  subst e2;have hi:i<E1.length:=(qG.mp e1).1;have hl:=g.len;have hz:i<(O1.zip E1).length:=by rw[List.length_zip];omega
  have hT:T0++((O1.set i (some v)).zip (E1.set i r.slot))=(T0++O1.zip E1).set (T0.length+i) (some v,r.slot):=by
   rw[GX,List.set_append_right _ _ (by omega)];congr 2;omega
  have hz2:T0.length+i<(T0++O1.zip E1).length:=by rw[length_append];omega
  refine⟨by simp[hl],?_,?_,?_⟩
  ·show FR K mg M H1 (T0++((O1.set i (some v)).zip (E1.set i r.slot)))
   rw[hT];exact FR.put g.fr hz2
  ·show Step M H _ H1 (T0++((O1.set i (some v)).zip (E1.set i r.slot)))
   rw[hT];exact Step.put g.st hz2
  ·refine g.pk.trans λj ds q=>?_
   have ne:i≠j:=λz=>by subst z;rw[e1]at q;exact hne ds (qJ q)
   exact⟨⟨ds,by rw[getElem?_set_ne ne];exact q⟩,by rw[getElem?_set_ne ne]⟩
def Gc{i:Nat}{m:ME}{D:Ends}(h:tS X (sSet i m) D O H):zFI (tM X m) (GR i) D O H:=by
 obtain⟨M,E,hl,fr,k⟩:=h;unfold sSet at k;refine zu (T0:=[]) hl fr ?_;cases ea:m E with
 |z=>rw[ea]at k;exact k|exc x E1=>rw[ea]at k;exact λH' g=>k O H' g
 |ok p =>
  obtain⟨r,E1⟩:=p;rw[ea]at k;intro v H' g;dsimp only at k;cases ep:Yt i r E1 with
  |z=>rw[ep]at k;exact k.elim|exc _ _=>rw[ep]at k;exact k.elim
  |ok E2 =>
   rw[ep]at k;exact k _ H' (Gb g ep)
def zDm(hN:X.N.Nodup)(hi:X.N[i]?=some x)(hx:Loc X.env.scope x)(he:EOk X e m)(hs:swapsWith e (some (.Name x pos')) pos.line X.env=pure false:=by rfl)
  (hf:X.fn x=true\/X.env.scope.names.lookup x=some .local:=by first|exact .inl rfl|exact .inr rfl|assumption):SOk X (.Assign [.Name x pos'] e pos) (sSet i m) :=
 yg (ps_set hN hi hx he hs hf) λD O H=>Gc
def sRet(m:ME):MS:=λE=>match m E with
 | .z=>.z| .exc x E1=>.exc x E1| .ok (r,E1)=>.ok (.ret r,E1)
def ret_run{m:ME}{D:Ends}(h:tS X (sRet m) D O H):tRet (tM X m) D O H:=by
 obtain⟨M,E,hl,fr,k⟩:=h;unfold sRet at k;refine zu (T0:=[]) hl fr ?_;cases ea:m E with
 |z=>rw[ea]at k;exact k|exc x E1=>rw[ea]at k;exact λH' g=>k O H' g|ok p=>rw[ea]at k;exact λv H' g=>k v O H' g
def sk_ret(he:EOk X e m):SOk X (.Return (some e) pos) (sRet m):=yg (ps_ret he) λD O H=>ret_run
def zDn(i:Nat):ME:=λE=>match E[i]? with
 |some (.own ds)=>.ok (.own ds,E.set i .e)|some (.dct ks vs)=>.ok (.dct ks vs,E.set i .e)|some (.v d)=>.ok (.v d,E)|_=>.z
def ok_move(i:Nat)(h:PE X (.Name x pos) (Wv i)):EOk X (.Name x pos) (zDn i):=zZ h λO H Q ⟨M,E,hl,f,k⟩=>by
 unfold zDn at k;cases e:E[i]? with
 |none=>rw[e]at k;exact k.elim
 |some sl =>
 rw[e]at k;cases sl with
 |e=>exact k.elim|par ds=>exact k.elim
 |v d =>
  obtain⟨o,h1,h2⟩:=jH hl e;obtain⟨v,rfl,r⟩:=f.val o d h2;exact⟨v,h1,k v H ⟨hl,f.add r,Step.refl.add,PKp.refl⟩⟩
 |own ds =>
  obtain⟨o,h1,h2⟩:=wk hl e;obtain⟨a,xs,rfl,q1,q2,q3⟩:=f.ownL o (.own ds) ds (mem_of_getElem? h2) rfl;refine⟨.ref a,h1,k _ H ?_⟩;have hlt:i<(O.zip E).length:=(qG.mp h2).1;have p:(O.zip E).Perm ((some (.ref a),R.slot (.own ds))::(O.zip E).eraseIdx i):=by
   have:=zU (some (V.ref a),Slot.own ds) (O.zip E) i hlt;rw[wg h2]at this;exact this
  have ez:O.zip (E.set i .e)=(O.zip E).set i (some (.ref a),.e):=zc .e h1;have p2:((some (V.ref a),R.slot (.own ds))::O.zip (E.set i .e)).Perm ((some (V.ref a),Slot.e)::((some (V.ref a),R.slot (.own ds))::(O.zip E).eraseIdx i)):=by
   rw[ez];exact((zU _ _ _ hlt).cons _).trans (List.Perm.swap _ _ _)
  have f1:=f.perm p;have f2:FR X.K X.mg M H ((some (V.ref a),Slot.e)::((some (V.ref a),R.slot (.own ds))::(O.zip E).eraseIdx i)):={
   val:=λo d q=>by
    rw[Qa];rcases mem_cons.mp q with q|q
    ·cases q
    ·exact f1.val o d q
   own:=λo s ds' q e'=>by
    rw[Qa];rcases mem_cons.mp q with q|q
    ·cases q;cases e'
    ·exact f1.own o s ds' q e'
   nd:=by rw[yA];exact f1.nd
   mal:=f1.mal}
  refine⟨by simp[hl],f2.perm p2.symm,?_,Qd (ds0:=[]) e (λds' q=>by cases q) _⟩;refine Step.weak Step.refl λb hb=>?_
  have hb':=zD p2 b hb;rw[yA]at hb';exact zD p.symm b hb'
 |dct ks vs =>
  obtain⟨o,h1,h2⟩:=wk hl e;obtain⟨a,ho,rfl,q1,q2,q3⟩:=f.own o (.dct ks vs) (.d ks vs) (mem_of_getElem? h2) rfl;refine⟨.ref a,h1,k _ H ?_⟩;have hlt:i<(O.zip E).length:=(qG.mp h2).1;have p:(O.zip E).Perm ((some (.ref a),R.slot (.dct ks vs))::(O.zip E).eraseIdx i):=by
   have:=zU (some (V.ref a),Slot.dct ks vs) (O.zip E) i hlt;rw[wg h2]at this;exact this
  have ez:O.zip (E.set i .e)=(O.zip E).set i (some (.ref a),.e):=zc .e h1;have p2:((some (V.ref a),R.slot (.dct ks vs))::O.zip (E.set i .e)).Perm ((some (V.ref a),Slot.e)::((some (V.ref a),R.slot (.dct ks vs))::(O.zip E).eraseIdx i)):=by
   rw[ez];exact((zU _ _ _ hlt).cons _).trans (List.Perm.swap _ _ _)
  have f1:=f.perm p;have f2:FR X.K X.mg M H ((some (V.ref a),Slot.e)::((some (V.ref a),R.slot (.dct ks vs))::(O.zip E).eraseIdx i)):={
   val:=λo d q=>by
    rw[Qa];rcases mem_cons.mp q with q|q
    ·cases q
    ·exact f1.val o d q
   own:=λo s ds' q e'=>by
    rw[Qa];rcases mem_cons.mp q with q|q
    ·cases q;cases e'
    ·exact f1.own o s ds' q e'
   nd:=by rw[yA];exact f1.nd
   mal:=f1.mal}
  refine⟨by simp[hl],f2.perm p2.symm,?_,Qd (ds0:=[]) e (λds' q=>by cases q) _⟩;refine Step.weak Step.refl λb hb=>?_
  have hb':=zD p2 b hb;rw[yA]at hb';exact zD p.symm b hb'
def sDrop(m:ME):MS:=λE=>match m E with
 | .z=>.z| .exc x E1=>.exc x E1| .ok (_,E1)=>.ok (.nx,E1)
def zFj{m:ME}{D:Ends}(h:tS X (sDrop m) D O H):tDrop (tM X m) D O H:=by
 obtain⟨M,E,hl,fr,k⟩:=h;unfold sDrop at k;refine zu (T0:=[]) hl fr ?_;cases ea:m E with
 |z=>rw[ea]at k;exact k|exc x E1=>rw[ea]at k;exact λH' g=>k O H' g|ok p=>rw[ea]at k;exact λv H' g=>k O H' g.dropAll
def sk_drop(he:EOk X e m)(hs:swapsWith e none pos.line X.env=pure false:=by rfl):SOk X (.Expr e pos) (sDrop m):=yg (zC7 he hs) λD O H=>zFj
end
theorem y3{α β:Type}{f:α->Option β}{x y:α}(h:f y=f x):∀{l:List α} {i:Nat},l[i]?=some x->(l.set i y).filterMap f=l.filterMap f
 | [],_,e=>by simp at e
 |a::l,0,e=>by
  simp at e;subst e
  simp only[List.set_cons_zero,filterMap_cons,h]
 |a::l,i+1,e=>by
  simp at e
  simp only[List.set_cons_succ,filterMap_cons,y3 h e]
section
variable{X:Cx}{K:qH}{mg:Str->Option Value}{O:St}{M:Addr->Prop}{E:zS}{H:Hp}{T0 Z:Fz}
def Slot.put:Slot->List D->Slot
 | .own _,es=>.own es| .par _,es=>.par es|s,_=>s
def Gd(hs:s.list?=some ds):GV (some (.ref p),s.put es)=GV (some (.ref p),s)/\(s.put es).list?=some es:=by
 cases s<;>simp[Slot.list?]at hs<;>exact⟨rfl,rfl⟩
def FR.mut(h:FR K mg M H Z)(hi:Z[i]?=some (some (.ref p),s))(hs:s.list?=some ds)(r:Reps K mg (Hm (Mo M Z) H) es ys) :
  FR K mg M (upd H p (.l ys)) (Z.set i (some (.ref p),s.put es))/\Step M H Z (upd H p (.l ys)) (Z.set i (some (.ref p),s.put es)):=by
 have eo:yF (Z.set i (some (.ref p),s.put es))=yF Z:=y3 (Gd hs).1 hi;have em:Mo M (Z.set i (some (.ref p),s.put es))=Mo M Z:=by unfold Mo;rw[eo]
 have hp:p∈yF Z:=zAk (mem_of_getElem? hi) hs rfl;obtain⟨xs0,hH,hM,_⟩:=h.ownAt hp;have ehm:Hm (Mo M Z) (upd H p (.l ys))=Hm (Mo M Z) H:=by
  funext b
  unfold Hm;by_cases hb:Mo M Z b
  ·simp[hb]
  ·have:b≠p:=λe=>hb (by subst e;exact .inr hp)
   simp[hb,zk this]
 have mem:∀{q:Option V×Slot},q∈Z.set i (some (.ref p),s.put es)->q=(some (.ref p),s.put es)\/q∈Z:=λ{q} hq=>(List.mem_or_eq_of_mem_set hq).symm
 have hlt:i<Z.length:=(qG.mp hi).1;have nd2:(yF (Z.eraseIdx i)).Nodup/\p∉yF (Z.eraseIdx i):=by
  have pz:Z.Perm ((some (.ref p),s)::Z.eraseIdx i):=by
   have:=zU (some (V.ref p),s) Z i hlt;rw[wg hi]at this;exact this
  have nd:=(pz.filterMap GV).nodup_iff.mp h.nd;have e:List.filterMap GV ((some (V.ref p),s)::Z.eraseIdx i)=p::yF (Z.eraseIdx i):=by
   cases s<;>simp[Slot.list?]at hs<;>rfl
  rw[e]at nd;exact⟨(nodup_cons.mp nd).2,(nodup_cons.mp nd).1⟩
 have pz2:(Z.set i (some (.ref p),s.put es)).Perm ((some (.ref p),s.put es)::Z.eraseIdx i):=zU _ _ _ hlt;refine⟨⟨λo d q=>?_,λo s' ds' q e=>?_,by rw[eo];exact h.nd,λb q=>?_⟩,⟨by rw[em,ehm];exact ZK.refl _,λb o m e=>?_⟩⟩
 ·rw[em,ehm]
  rcases mem q with q|q
  ·exfalso
   cases s<;>simp[Slot.list?]at hs<;>cases q
  ·exact h.val o d q
 ·rw[em,ehm]
  rcases mem_cons.mp (pz2.mem_iff.mp q)with q'|q'
  ·cases q'
   rw[zDc (Gd (p:=p) hs).2]at e;cases e;exact⟨p,_,rfl,jR,hM,ys,rfl,r⟩
  ·have q'':(o,s')∈Z:=(eraseIdx_sublist Z i).subset q'
   obtain⟨a,xs,e1,e2,e3,rr⟩:=h.own o s' ds' q'' e;have ne:a≠p:=λz=>by
    subst z;exact nd2.2 (jG q' e e1)
   exact⟨a,xs,e1,by rw[zk ne];exact e2,e3,rr⟩
 ·obtain⟨o,e,ko⟩:=h.mal b q
  by_cases z:b=p
  ·subst z;exact⟨_,jR,.inl ⟨_,rfl⟩⟩
  ·exact⟨o,by rw[zk z];exact e,ko⟩
 ·have ne:b≠p:=λz=>hM (by subst z;exact m)
  rw[zk ne];exact e
theorem Got.mut(g:Got K mg M O E H [] O1 E1 H1 T)(hi:E1[i]?=some s)(hs:s.list?=some ds)(r:Reps K mg (Hm (Mo M (O1.zip E1)) H1) es ys) :
  ∃p,O1[i]?=some (some (.ref p))/\Got K mg M O E H [] O1 (E1.set i (s.put es)) (upd H1 p (.l ys)) []:=by
 obtain⟨o,h1,h2⟩:=wk g.len hi;obtain⟨p,xs,rfl,_⟩:=g.frame.ownL o s ds (mem_of_getElem? h2) hs;refine⟨p,h1,?_⟩;obtain⟨f,st⟩:=FR.mut g.frame h2 hs r;have e:=zc (E:=E1) (s.put es) h1;rw[<- e]at f st;refine⟨by simp[g.len],f,(g.st.weak (zC (sublist_append_right _ _))).trans st,g.pk.trans λj ds' q=>?_⟩;by_cases ej:i=j
 ·subst ej
  rw[hi]at q;cases q;have hlt:i<E1.length:=(qG.mp hi).1;exact⟨⟨es,by rw[getElem?_set_self hlt];rfl⟩,rfl⟩
 ·exact⟨⟨ds',by rw[getElem?_set_ne ej];exact q⟩,rfl⟩
def um{i:Nat}{s:Slot}(hl:E.length=O.length)(f:FR K mg M H (O.zip E))(h:E[i]?=some s)(hs:s≠.e):∃v,O[i]?=some (some v):=by
 obtain⟨o,h1,h2⟩:=jH hl h;cases s with
 |e=>exact absurd rfl hs|v d=>obtain⟨v,rfl,_⟩:=f.val o d h2;exact⟨v,h1⟩|own ds=>obtain⟨a,_,rfl,_⟩:=f.own o _ _ h2 rfl;exact⟨_,h1⟩|par ds=>obtain⟨a,_,rfl,_⟩:=f.own o _ _ h2 rfl;exact⟨_,h1⟩|dct ks vs=>obtain⟨a,_,rfl,_⟩:=f.own o _ _ h2 rfl;exact⟨_,h1⟩
def JK:Option Slot->Bool
 |none=>true|some .e=>true|_=>false
def ZQ(h:JK o=false):∃s,o=some s/\s≠.e:=by
 cases o with
 |none=>cases h
 |some s=>cases s<;>simp[JK]at h<;>exact⟨_,rfl,by intro q;cases q⟩
def ixS:Slot->Int->Option D
 | .own ds,i=>atI ds i| .par ds,i=>atI ds i| .v (.l ds),i=>atI ds i|_,_=>none
def eIxO(i:Nat)(m:ME):ME:=λE=>if JK E[i]?=true then .z else match m E with
 | .z=>.z| .exc x E1=>.exc x E1
 | .ok (.v (.int k),E1)=>match E1[i]? with
  |some s=>match ixS s k with
   |some d=>.ok (.v d,E1)|none=>.z
  |none=>.z
 |_=>.z
def ixO_run{i:Nat}{m:ME}{Q:VK}(h:tM X (eIxO i m) O H Q):tOp (rIxL X.K) (Wv i) (tM X m) O H Q:=by
 obtain⟨M,E,hl,fr,k⟩:=h;unfold eIxO at k;cases em:JK E[i]? with
 |true=>rw[em]at k;exact k.elim
 |false =>
  rw[em]at k;obtain⟨s,hs1,hs2⟩:=ZQ em;obtain⟨v,hv⟩:=um hl fr hs1 hs2;refine⟨v,hv,?_⟩;refine zu (T0:=[]) hl fr ?_;simp only[Bool.false_eq_true,if_false]at k;cases ea:m E with
  |z=>rw[ea]at k;exact k|exc x E1=>rw[ea]at k;exact k
  |ok p =>
   obtain⟨r,E1⟩:=p;rw[ea]at k;cases r with
   |own ds=>exact k.elim|dct _ _=>exact k.elim
   |v d =>
    cases d with
    |int n =>
     intro y H' g;dsimp only at k;cases e1:E1[i]? with
     |none=>rw[e1]at k;exact k.elim
     |some s1 =>
      rw[e1]at k;dsimp only at k;cases e2:ixS s1 n with
      |none=>rw[e2]at k;exact k.elim
      |some d =>
       rw[e2]at k;have f:=g.frame;have fin:∀{w:V},Rep X.K X.mg (Hm (Mo M (O.zip E1)) H') d w->Q w H':=λ{w} rw'=>k w H' (g.more (T:=[(some w,.v d)]) (f.add rw') Step.refl.add)
       obtain⟨o,h1,h2⟩:=jH g.len e1;have ho:o=some v:=by rw[hv]at h1;exact(qJ h1).symm
       subst ho;have key:∀{ds:List D},s1.list?=some ds->atI ds n=some d->rIxL X.K v y H' Q:=λ{ds} hl1 ha=>by
        obtain⟨a,xs,ev,q1,_,q3⟩:=f.ownL _ s1 ds h2 hl1;cases ev;obtain⟨w,a1,a2⟩:=WZ q3 ha;exact⟨a,xs,n,w,rfl,zM g.rep,SqL.of q1,a1,fin a2⟩
       cases s1 with
       |e=>cases e2|own ds=>exact key rfl e2|par ds=>exact key rfl e2|dct _ _=>cases e2
       |v dd =>
        cases dd with
        |l ds =>
         obtain⟨v',ev,rr⟩:=f.val _ _ h2;cases ev;obtain⟨a,xs,rfl,q1,q2⟩:=yX rr;obtain⟨w,a1,a2⟩:=WZ q2 e2;exact⟨a,xs,n,w,rfl,zM g.rep,zF.seq q1,a1,fin a2⟩
        |_=>cases e2
    |_=>exact k.elim
def ok_ixO(i:Nat)(hv:PE X (.Name x p) (Wv i))(hb:EOk X b m)(hs:ZL b):EOk X (.Subscript (.Name x p) b pos) (eIxO i m) :=
 zZ (pe_ix zDU hv hb hs) λO H Q=>ixO_run
def zFk(i:Nat):ME:=λE=>match E[i]? with
 |some (.own ds)=>.ok (.v (.int ds.length),E)|some (.par ds)=>.ok (.v (.int ds.length),E)|some (.v (.l ds))=>.ok (.v (.int ds.length),E)|_=>.z
def zFl(h:tM X (zFk i) O H Q):tCB (λxs H Q=>∃p ys,xs=[.ref p]/\(SqL X.K H p ys\/SqT X.K H p ys)/\Q (.int ys.length) H) (zDO (Wv i) tNil) O H Q:=by
 obtain⟨M,E,hl,f,k⟩:=h;unfold zFk at k;cases e1:E[i]? with
 |none=>rw[e1]at k;exact k.elim
 |some s =>
  rw[e1]at k;obtain⟨o,h1,h2⟩:=jH hl e1;have key:∀{ds:List D},s.list?=some ds->(∀(v:V) (H':Hp),Got X.K X.mg M O E H [] O E H' [(some v,.v (.int ds.length))]->Q v H')->tCB (λxs H Q=>∃p ys,xs=[.ref p]/\(SqL X.K H p ys\/SqT X.K H p ys)/\Q (.int ys.length) H) (zDO (Wv i) tNil) O H Q:=λ{ds} hl1 kk=>by
   obtain⟨a,xs,ev,q1,_,q3⟩:=f.ownL _ s ds h2 hl1;subst ev;refine⟨.ref a,h1,a,xs,rfl,.inl (SqL.of q1),?_⟩;rw[q3.length];exact kk _ H ((Got.refl (T0:=[]) hl f).flat (d:=.int ds.length) rfl)
  cases s with
  |e=>exact k.elim|own ds=>exact key rfl k|par ds=>exact key rfl k|dct _ _=>exact k.elim
  |v d =>
   cases d with
   |l ds =>
    obtain⟨v',ev,rr⟩:=f.val _ _ h2;subst ev;obtain⟨a,xs,rfl,q1,q2⟩:=yX rr;refine⟨.ref a,h1,a,xs,rfl,.inl (zF.seq q1),?_⟩;rw[q2.length];exact k _ H ((Got.refl (T0:=[]) hl f).flat (d:=.int ds.length) rfl)
   |_=>exact k.elim
def ok_lenO(i:Nat)(hv:PE X (.Name x p1) (Wv i))(hg:Gl X "len")(hm:X.mg "len"=none) :
  EOk X (.Call (.Name "len" p) [.Name x p1] [] pos) (zFk i) :=
 zZ (GS Zt hg hm PySem.boot_len (JQ hv ub (zm rfl)) (by decide) (by decide) (zm rfl) (JS rfl)) λO H Q=>zFl
def Zz(i:Nat)(mi mv:ME):MS:=λE=>if JK E[i]?=true then .z else match mv E with
 | .z=>.z| .exc x E1=>.exc x E1
 | .ok (r,E1)=>match mi E1 with
  | .z=>.z| .exc x E2=>.exc x E2
  | .ok (.v (.int k),E2)=>match E2[i]? with
   |none=>.z
   |some s=>match s.list? with
    |none=>.z
    |some ds=>match ixN ds.length k with
     |none=>.z|some j=>.ok (.nx,E2.set i (s.put (ds.set j r.d)))
  |_=>.z
def zDo{i:Nat}{mi mv:ME}{D:Ends}(h:tS X (Zz i mi mv) D O H):zFI (tM X mv) (gSub (Wv i) (tM X mi) rSetL) D O H:=by
 obtain⟨M,E,hl,fr,k⟩:=h;unfold Zz at k;cases em:JK E[i]? with
 |true=>rw[em]at k;exact k.elim
 |false =>
  rw[em]at k;obtain⟨s,hs1,hs2⟩:=ZQ em;obtain⟨v,hv⟩:=um hl fr hs1 hs2;refine zu (T0:=[]) hl fr ?_;simp only[Bool.false_eq_true,if_false]at k;cases ea:mv E with
  |z=>rw[ea]at k;exact k|exc x E1=>rw[ea]at k;exact λH' g=>k O H' g
  |ok p =>
   obtain⟨r,E1⟩:=p;rw[ea]at k;intro y H1 g1;refine⟨v,hv,?_⟩;refine zu (T0:=[(some y,r.slot)]) g1.len g1.fr ?_;dsimp only at k;cases eb:mi E1 with
   |z=>rw[eb]at k;exact k|exc x E2=>rw[eb]at k;exact λH' g=>k O H' (g1.trans' g).dropAll
   |ok p =>
    obtain⟨r2,E2⟩:=p;rw[eb]at k;cases r2 with
    |own ds=>exact k.elim|dct _ _=>exact k.elim
    |v d =>
     cases d with
     |int n =>
      intro z H2 g2;have g:=g1.trans' g2;dsimp only at k;cases e1:E2[i]? with
      |none=>rw[e1]at k;exact k.elim
      |some s1 =>
       rw[e1]at k;dsimp only at k;cases e2:s1.list? with
       |none=>rw[e2]at k;exact k.elim
       |some ds =>
        rw[e2]at k;dsimp only at k;cases e3:ixN ds.length n with
        |none=>rw[e3]at k;exact k.elim
        |some j =>
         rw[e3]at k;have rp:=Got.reps (vs:=[z,y]) (rs:=[.v (.int n),r]) rfl g;simp only[List.map,Reps]at rp;obtain⟨z',_,q1,rz,y',_,q2,ry,_⟩:=rp;cases q1;cases q2;obtain⟨o,h1,h2⟩:=jH g.len e1;obtain⟨a,xs,ev,w1,_,w3⟩:=g.frame.ownL _ s1 ds h2 e2;subst ev;have ev:v=.ref a:=by rw[hv]at h1;exact qJ (qJ h1)
         subst ev;obtain⟨p,hp,g'⟩:=g.mut e1 e2 (w3.set j ry);have ep:p=a:=by rw[h1]at hp;cases hp;rfl
         subst ep;exact⟨p,xs,n,j,rfl,zM rz,w1,by rw[w3.length];exact e3,k O _ g'⟩
     |_=>exact k.elim
def zFm(i:Nat)(hv:PE X (.Name x p) (Wv i))(hb:EOk X b mi)(he:EOk X e mv)
  (ha:∀v,assign (.Subscript (.Name x p) b p1) X.env v=(do
   let ov <- holding [v] (eval (.Name x p) X.env)
   let iv <- holding [v,ov] (eval b X.env)
   standAt p1
   holding [v,ov,iv] (setItem ov iv v)
   release [v,ov,iv] []):=by intro _;rfl) (hs:swapsWithSole [.Subscript (.Name x p) b p1] e pos.line X.env=pure false:=by rfl):SOk X (.Assign [.Subscript (.Name x p) b p1] e pos) (Zz i mi mv) :=
 yg (zC9 he (zGq hv hb zBg ha) hs) λD O H=>zDo
def sApp(i:Nat)(m:ME):MS:=λE=>match E[i]? with
 |none=>.z
 |some s0=>match s0.list? with
  |none=>.z
  |some _=>match m E with
   | .z=>.z| .exc x E1=>.exc x E1
   | .ok (r,E1)=>match E1[i]? with
    |none=>.z
    |some s=>match s.list? with
     |none=>.z|some ds=>if ds.length<cap then .ok (.nx,E1.set i (s.put (ds++[r.d])))else .z
def app_run{i:Nat}{m:ME}{D:Ends}(h:tS X (sApp i m) D O H):tDrop (tBM X.K "list" zDV (Wv i) (zDO (tM X m) tNil)) D O H:=by
 obtain⟨M,E,hl,fr,k⟩:=h;unfold sApp at k;cases e0:E[i]? with
 |none=>rw[e0]at k;exact k.elim
 |some s0 =>
  rw[e0]at k;dsimp only at k;cases e00:s0.list? with
  |none=>rw[e00]at k;exact k.elim
  |some ds0 =>
   rw[e00]at k;obtain⟨o,h1,h2⟩:=jH hl e0;obtain⟨a,xs,ev,w1,_,w3⟩:=fr.ownL _ s0 ds0 h2 e00;subst ev;refine⟨.ref a,h1,.inl ⟨rfl,xs,SqL.of w1⟩,?_⟩;refine zu (T0:=[]) hl fr ?_;dsimp only at k;cases ea:m E with
   |z=>rw[ea]at k;exact k|exc x E1=>rw[ea]at k;exact λH' g=>k O H' g
   |ok p =>
    obtain⟨r,E1⟩:=p;rw[ea]at k;intro y H1 g;dsimp only at k;cases e1:E1[i]? with
    |none=>rw[e1]at k;exact k.elim
    |some s =>
     rw[e1]at k;dsimp only at k;cases e2:s.list? with
     |none=>rw[e2]at k;exact k.elim
     |some ds =>
      rw[e2]at k;dsimp only at k;by_cases hc:ds.length<cap
      ·rw[if_pos hc]at k
       obtain⟨o,h1',h2'⟩:=jH g.len e1;obtain⟨a',ys,ev,q1,_,q3⟩:=g.frame.ownL _ s ds h2' e2;subst ev;have ea':a'=a:=by rw[h1]at h1';cases h1';rfl
       subst ea';obtain⟨p,hp,g'⟩:=g.mut e1 e2 (q3.append (Reps.cons g.rep Reps.nil));have ep:p=a':=by rw[h1]at hp;cases hp;rfl
       subst ep;exact⟨p,ys,y,rfl,rfl,q1,by rw[q3.length];exact lt_of_lt_of_le hc (Yr (le_refl _)),k O _ g'⟩
      ·rw[if_neg hc]at k;exact k.elim
def sk_app(i:Nat)(hv:PE X (.Name x p) (Wv i))(he:EOk X e m)
  (hbase:attributeBase (.Name x p) "append" X.env (eval (.Name x p) X.env)=eval (.Name x p) X.env:=by rfl)
  (hfew:((backTo cpos (starEach (e::[]) X.env)).all (λx=>!x.1)&&(backToKw cpos (keywordEach [] X.env)).all (λx=>x.1.isSome)
   && decide ((e::([]:List Expr)).length+([]:List Keyword).length+(if([]:List Keyword).isEmpty then 0 else 1)<30))=true:=by rfl)
  (hline:(apos.endLine==cpos.line)=true:=by rfl) (hs:starEach (e::[]) X.env=(false,eval e X.env)::starEach [] X.env:=by rfl) (hplain:(backTo cpos (starEach [] X.env)).any (·.1)=false:=by rfl)
  (hsw:swapsWith (.Call (.Attribute (.Name x p) "append" apos) [e] [] cpos) none pos.line X.env=pure false:=by rfl):SOk X (.Expr (.Call (.Attribute (.Name x p) "append" apos) [e] [] cpos) pos) (sApp i m) :=
 yg (zC7 (pe_bm PySem.F.plainAttrs_list PySem.F.slot_list_append PySem.F.type_list_append Wz hv (JQ he ub hs) hbase hfew hline hs hplain) hsw) λD O H=>app_run
end
section
variable{X:Cx}{K:qH}{mg:Str->Option Value}{O:St}{M:Addr->Prop}{E:zS}{H:Hp}{T0 Z:Fz}
abbrev MG:=D->zS->Out zS
def GOk(X:Cx)(g:TG)(tg:MG):Prop:=∀(M:Addr->Prop) (O:St) (E:zS) (H:Hp) (T0:Fz) (x:V) (d:D) (E':zS) (Q:St->Hp->Prop),E.length=O.length->FR X.K X.mg M H ((some x,.v d)::(T0++O.zip E))->tg d E=.ok E' ->
 (∀O',Got X.K X.mg M O E H T0 O' E' H []->Q O' H)->g x O H Q
def gN(i:Nat):MG:=λd E=>Yt i (.v d) E
def go_name(i:Nat):GOk X (GR i) (gN i):=λM O E H T0 x d E' Q hl f e k =>
 k _ (Gb (O1:=O) (E1:=E) (H1:=H) (r:=.v d) (v:=x) ⟨hl,f,Step.refl.add,PKp.refl⟩ e)
def gNs:List Nat->List D->zS->Out zS
 | [],[],E=>.ok E
 |i::is,d::ds,E=>match Yt i (.v d) E with
  | .ok E1=>gNs is ds E1|_=>.z
 |_,_,_=>.z
def gT(is:List Nat):MG:=λd E=>match d with
 | .t ds=>gNs is ds E|_=>.z
def YM:List Nat->TGs
 | []=>gNil|i::is=>gCons (GR i) (YM is)
theorem W9:∀(is:List Nat) (ds:List D) (xs:List V) {M:Addr->Prop} {O0 O:St} {E0 E E':zS} {H:Hp} {T0:Fz} {a:Addr} {ts:List D} {Q:St->Hp->Prop},
  Got X.K X.mg M O0 E0 H T0 O E H []->Reps X.K X.mg (Hm (Mo M (T0++O.zip E)) H) ds xs->gNs is ds E=.ok E'->(∀O',Got X.K X.mg M O0 E0 H T0 O' E' H []->Q O' H)->YM is xs O H Q
 | [],[],xs,M,O0,O,E0,E,E',H,T0,a,ts,Q,g,r,e,k=>by
  cases e;simp only[Reps]at r;exact⟨r,k O g⟩
 | [],d::ds,xs,M,O0,O,E0,E,E',H,T0,a,ts,Q,g,r,e,k=>by cases e|i::is,[],xs,M,O0,O,E0,E,E',H,T0,a,ts,Q,g,r,e,k=>by cases e
 |i::is,d::ds,xs,M,O0,O,E0,E,E',H,T0,a,ts,Q,g,r,e,k=>by
  simp only[Reps]at r;obtain⟨x,Zq,rfl,rx,rr⟩:=r;simp only[gNs]at e;cases e1:Yt i (.v d) E with
  |z=>rw[e1]at e;cases e|exc _ _=>rw[e1]at e;cases e
  |ok E1 =>
   rw[e1]at e;refine⟨x,Zq,rfl,?_⟩;have g1:Got X.K X.mg M O0 E0 H T0 O E H [(some x,R.slot (.v d))]:=⟨g.len,g.fr.add rx,g.st.add,g.pk⟩;have g2:=Gb g1 e1;refine W9 is ds Zq (a:=a) (ts:=ts) g2 (rr.mono ?_) e k;refine jF (J7 λb hb=>?_);have st:=g2.fr
   -- the stored slot is a value: it yF nothing
   unfold Yt at e1;cases e2:E[i]? with
   |none=>rw[e2]at e1;cases e1
   |some sl =>
    rw[e2]at e1;have e3:E1=E.set i (.v d):=by cases sl<;>cases e1<;>rfl
    subst e3;have hi:i<E.length:=(qG.mp e2).1;have hz:i<(O.zip E).length:=by rw[List.length_zip];have:=g.len;omega
    rw[GX]at hb;rw[zR]at hb ⊢;rcases mem_append.mp hb with hb|hb
    ·exact mem_append_left _ hb
    ·refine qK _ ?_
     have:=zD (zU _ _ _ hz) b hb;rw[za]at this;exact zC (eraseIdx_sublist _ _) b this
def zG8(is:List Nat)(hn:is.length=n):GOk X (gTup X.K n (YM is)) (gT is):=λM O E H T0 x d E' Q hl f e k=>by
 cases d with
 |t ds =>
  obtain⟨v,ev,r⟩:=f.val _ _ qE;cases ev;obtain⟨a,xs,rfl,h1,h2⟩:=yp r;rw[wV]at h2;have hlen:ds.length=is.length:=by
   have:∀(is:List Nat) (ds:List D) (E E':zS),gNs is ds E=.ok E'->ds.length=is.length:=by
    intro is
    induction is with
    |nil=>intro ds E E' h;cases ds with|nil=>rfl|cons d ds=>cases h
    |cons i is ih =>
     intro ds E E' h;cases ds with
     |nil=>cases h
     |cons d ds =>
      simp only[gNs]at h;cases e1:Yt i (.v d) E with
      |ok E1=>rw[e1]at h;simp[ih ds E1 E' h]|z=>rw[e1]at h;cases h|exc _ _=>rw[e1]at h;cases h
   exact this is ds E E' e
  refine⟨a,xs,rfl,zO zF h1,by rw[h2.length,hlen,hn],?_⟩;exact W9 is ds xs (a:=a) (ts:=[]) (Got.refl hl f.tail) h2 e k
 |_=>cases e
def vA(tg:MG)(body:MS):List D->zS->Out (Fl×zS)
 | [],E=>.ok (.nx,E)
 |d::ds,E=>match tg d E with
  | .ok E1=>match body E1 with
   | .ok (.nx,E2)=>vA tg body ds E2| .ok (.ct,E2)=>vA tg body ds E2| .ok (.bk,E2)=>.ok (.nx,E2)| .ok (.ret r,E2)=>.ok (.ret r,E2)| .exc x E2=>.exc x E2| .z=>.z
  |_=>.z
def Fin(X:Cx)(M:Addr->Prop)(O:St)(E:zS)(H:Hp)(D:Ends)(o:Out (Fl×zS)):Prop:=match o with
 | .z=>False| .ok (.nx,E')=>∀O' H',Got X.K X.mg M O E H [] O' E' H' []->D.nx O' H'| .ok (.bk,E')=>∀O' H',Got X.K X.mg M O E H [] O' E' H' []->D.bk O' H'| .ok (.ct,E')=>∀O' H',Got X.K X.mg M O E H [] O' E' H' []->D.ct O' H'| .ok (.ret r,E')=>∀v O' H',Got X.K X.mg M O E H [] O' E' H' [(some v,r.slot)]->D.rt v H'| .exc x E'=>∀O' H',Got X.K X.mg M O E H [] O' E' H' []->XE X O' H' x
def Got.dropT{mg:Str->Option Value}{M:Addr->Prop}(a:Got K mg M O E H [] O1 E1 H1 (T++T')):Got K mg M O E H [] O1 E1 H1 T where
 len:=a.len
 fr:=a.fr.sub (by rw[append_assoc];exact(sublist_append_right _ _).append_left _)
 st:=a.st.weak (zC (by rw[append_assoc];exact(sublist_append_right _ _).append_left _))
 pk:=a.pk
def Ge{tg:MG}{body:MS}{g:TG}{D:Ends}{d:DV.D}{ds:List DV.D}{O1:St}{E1:zS}{H1:Hp}{T:Fz}{x:V}{P:St->Hp->Prop}(hg:GOk X g tg)
  (g1:Got X.K X.mg M O E H [] O1 E1 H1 T) (rx:Rep X.K X.mg (Hm (Mo M (T++O1.zip E1)) H1) d x) (fin:Fin X M O E H D (vA tg body (d::ds) E1))
  (next:∀O2 E2 H2,Got X.K X.mg M O E H [] O2 E2 H2 T->Step M H1 (T++O1.zip E1) H2 (T++O2.zip E2)->Fin X M O E H D (vA tg body ds E2)->P O2 H2) :
  g x O1 H1 λO2 H2=>tS X body {D with nx:=P,ct:=P,bk:=D.nx} O2 H2:=by
 simp only[vA]at fin;cases e1:tg d E1 with
 |z=>rw[e1]at fin;exact fin.elim|exc _ _=>rw[e1]at fin;exact fin.elim
 |ok E2 =>
  rw[e1]at fin;dsimp only at fin;refine hg M O1 E1 H1 T x d E2 _ g1.len (g1.fr.add rx) e1 λO2 g2=>?_
  have g12:=g1.trans' g2;refine uk (T0:=T) g2.len g2.fr ?_;cases e2:body E2 with
  |z=>rw[e2]at fin;exact fin|exc y E3=>rw[e2]at fin;exact λO' H' g'=>fin O' H' (g12.trans' g').dropAll
  |ok p =>
   obtain⟨fl,E3⟩:=p;rw[e2]at fin;cases fl with
   |nx=>exact λO' H' g'=>next O' E3 H' (g12.trans' g') (g2.st.trans g'.st) fin|ct=>exact λO' H' g'=>next O' E3 H' (g12.trans' g') (g2.st.trans g'.st) fin|bk=>exact λO' H' g'=>fin O' H' (g12.trans' g').dropAll|ret r=>exact λv O' H' g'=>fin v O' H' (g12.trans' g').dropT
def sForL(m:ME)(tg:MG)(body:MS):MS:=λE=>match m E with
 | .z=>.z| .exc x E1=>.exc x E1
 | .ok (r,E1)=>match r.d with
  | .l ds=>vA tg body ds E1|_=>.z
def zBq{m:MS}{D:Ends}(h:tS X m D O H):∃M E,E.length=O.length/\FR X.K X.mg M H (O.zip E)/\Fin X M O E H D (m E):=h
def zFn{m:ME}{tg:MG}{g:TG}{body:MS}{D:Ends}(hg:GOk X g tg)(h:tS X (sForL m tg body) D O H):tFor (iList X.K (tM X m)) g (tS X body) D O H:=by
 obtain⟨M,E,hl,fr,k⟩:=zBq h;unfold sForL at k;refine zu (T0:=[]) hl fr ?_;cases ea:m E with
 |z=>rw[ea]at k;exact k|exc x E1=>rw[ea]at k;exact λH' g=>k O H' g
 |ok p =>
  obtain⟨r,E1⟩:=p;rw[ea]at k;intro v H1 g0;have g1:Got X.K X.mg M O E H [] O E1 H1 [(some v,.v r.d)]:=⟨g0.len,g0.fr.frz,g0.st.frz,g0.pk⟩;dsimp only at k;cases ed:r.d with
  |l ds =>
   rw[ed]at k g1;have rl:=g0.rep;rw[ed]at rl;obtain⟨a,xs,rfl,q1,q2⟩:=yX rl;refine⟨a,rfl,⟨xs,zF.seq q1⟩,?_⟩;have em:∀(O':St) (E':zS),Mo M ([(some (V.ref a),Slot.v (.l ds))]++O'.zip E')=Mo M (O'.zip E'):=λO' E'=>wV _ _ _ _
   refine zFK (K:=X.K) (a:=a) (xs:=xs) (λi O1 H2=>∃E2,Got X.K X.mg M O E H [] O1 E2 H2 [(some (.ref a),.v (.l ds))]/\SqL X.K (Hm (Mo M (O1.zip E2)) H2) a xs/\Reps X.K X.mg (Hm (Mo M (O1.zip E2)) H2) ds xs/\Fin X M O E H D (vA tg body (ds.drop i) E2))
    ⟨E1,g1,q1,q2,k⟩ (λi O' H' _ ⟨E2,_,q,_⟩=>zF.seq q) ?_ ?_
   ·rintro i x O1 H2 hx ⟨E2,g2,s2,r2,fin⟩
    obtain⟨d,hd,rx⟩:=r2.get hx;have ed:ds.drop i=d::ds.drop (i+1):=by
     obtain⟨hi,rfl⟩:=qG.mp hd;exact drop_eq_getElem_cons hi
    rw[ed]at fin;refine Ge hg g2 (by rw[em];exact rx) fin λO3 E3 H3 g3 st fin3=>?_
    have sm:=st.same;rw[em,em]at sm;exact⟨E3,g3,sm.seq s2,r2.mono sm,fin3⟩
   ·rintro O1 H2 ⟨E2,g2,s2,r2,fin⟩
    rw[r2.length,drop_length]at fin;exact fin O1 H2 g2.dropAll
  |_=>rw[ed]at k;exact k.elim
def zH(lo:Int):Nat->List D
 |0=>[]|n+1=>.int lo::zH (lo+1) n
theorem yZ(lo:Int):∀n,(zH lo n).length=n
 |0=>rfl|n+1=>by simp[zH,yZ (lo+1) n]
theorem wn:∀(n i:Nat) (lo:Int),i<n->(zH lo n).drop i=.int (lo+i)::(zH lo n).drop (i+1)
 |0,_,_,h=>by omega|n+1,0,lo,_=>by simp[zH]
 |n+1,i+1,lo,h=>by
  have:=wn n i (lo+1) (by omega);simp only[zH,List.drop_succ_cons];rw[this];congr 2;omega
def sForR1(m:MA)(tg:MG)(body:MS):MS:=λE=>match m E with
 | .z=>.z| .exc x E1=>.exc x E1
 | .ok ([r],E1)=>match r.d with
  | .int j=>if -(2^62)<=j/\j<2^62 then vA tg body (zH 0 j.toNat) E1 else .z|_=>.z
 |_=>.z
def sForR2(m:MA)(tg:MG)(body:MS):MS:=λE=>match m E with
 | .z=>.z| .exc x E1=>.exc x E1
 | .ok ([r,r'],E1)=>match r.d,r'.d with
  | .int i,.int j=>if -(2^62)<=i/\i<2^62/\-(2^62)<=j/\j<2^62 then vA tg body (zH i (j-i).toNat) E1 else .z|_,_=>.z
 |_=>.z
def vB{tg:MG}{g:TG}{body:MS}{D:Ends}(hg:GOk X g tg){lo:Int}{n:Nat}{E1:zS}{H1:Hp}(g1:Got X.K X.mg M O E H [] O E1 H1 [])(fin:Fin X M O E H D (vA tg body (zH lo n) E1)) :
  ∃W:Nat->Nat->St->Hp->Prop,(∃m,W 0 m O H1)/\∀i m O H,W i m O H ->
   ((Itr lo n).stop i H/\D.nx O H)\/((Itr lo n).go i H/\∃N:St->Hp->Prop,(∀O' H',N O' H'->∃m',m'<m/\W (i+1) m' O' H')/\∀x H',(Itr lo n).yld i H x H'->g x O H' λO2 H2=>tS X body {D with nx:=N,ct:=N,bk:=D.nx} O2 H2):=by
 refine zDF (λi O1 H2=>∃E2,Got X.K X.mg M O E H [] O1 E2 H2 []/\Fin X M O E H D (vA tg body ((zH lo n).drop i) E2)) ⟨E1,g1,fin⟩ ?_ ?_
 ·rintro i O1 H2 hi ⟨E2,g2,fin⟩
  rw[wn n i lo hi]at fin;exact Ge hg g2 (by simp only[Rep]) fin λO3 E3 H3 g3 st fin3=>⟨E3,g3,fin3⟩
 ·rintro O1 H2 ⟨E2,g2,fin⟩
  rw[List.drop_of_length_le (by rw[yZ];exact le_refl _)]at fin;exact fin O1 H2 g2
def zDp{m:MA}{tg:MG}{g:TG}{body:MS}{D:Ends}(hg:GOk X g tg)(h:tS X (sForR1 m tg body) D O H):tFor (iRng1 (tMA X m)) g (tS X body) D O H:=by
 obtain⟨M,E,hl,fr,k⟩:=zBq h;unfold sForR1 at k;refine wj (T0:=[]) hl fr ?_;cases ea:m E with
 |z=>rw[ea]at k;exact k|exc x E1=>rw[ea]at k;exact λH' g=>k O H' g
 |ok p =>
  obtain⟨rs,E1⟩:=p;rw[ea]at k
  match rs,k with
  | [r],k =>
   intro vs H1 hv g1;have rp:=Got.reps hv g1;dsimp only at k;cases ed:r.d with
   |int j =>
    rw[ed]at k;simp only[List.map,ed]at rp;obtain⟨v,rfl,h1⟩:=YL rp;dsimp only at k;by_cases hc:-(2^62)<=j/\j<2^62
    ·rw[if_pos hc]at k
     exact⟨j,by rw[zM h1],hc.1,hc.2,vB hg g1.dropAll k⟩
    ·rw[if_neg hc]at k;exact k.elim
   |_=>rw[ed]at k;exact k.elim
  | [],k=>exact k.elim|_::_::_,k=>exact k.elim
def zDq{m:MA}{tg:MG}{g:TG}{body:MS}{D:Ends}(hg:GOk X g tg)(h:tS X (sForR2 m tg body) D O H):tFor (iRng2 (tMA X m)) g (tS X body) D O H:=by
 obtain⟨M,E,hl,fr,k⟩:=zBq h;unfold sForR2 at k;refine wj (T0:=[]) hl fr ?_;cases ea:m E with
 |z=>rw[ea]at k;exact k|exc x E1=>rw[ea]at k;exact λH' g=>k O H' g
 |ok p =>
  obtain⟨rs,E1⟩:=p;rw[ea]at k
  match rs,k with
  | [r,r'],k =>
   intro vs H1 hv g1;have rp:=Got.reps hv g1;dsimp only at k;cases ed:r.d with
   |int i =>
    cases ed':r'.d with
    |int j =>
     rw[ed,ed']at k;simp only[List.map,ed,ed']at rp;obtain⟨v,w,rfl,h1,h2⟩:=reps2 rp;dsimp only at k;by_cases hc:-(2^62)<=i/\i<2^62/\-(2^62)<=j/\j<2^62
     ·rw[if_pos hc]at k
      exact⟨i,j,by rw[zM h1,zM h2],hc,vB hg g1.dropAll k⟩
     ·rw[if_neg hc]at k;exact k.elim
    |_=>rw[ed,ed']at k;exact k.elim
   |_=>rw[ed]at k;exact k.elim
  | [],k=>exact k.elim| [_],k=>exact k.elim|_::_::_::_,k=>exact k.elim
def sk_forL(hp:PassesOwn (model X.prog X.w) X.A X.env X.xe)(hc:X.calm=true)(hi:EOk X iter m)(hg:PG X tgt g)(ho:GOk X g tg)(hb:zAc X body mb)
  (hs:∀x,foldedSetIterable iter X.env x=pure x:=by intro _;rfl):SOk X (.For tgt iter body [] pos) (sForL m tg mb):=yg (zBe hp hc (zDC hi) hg hb hs) λD O H=>zFn ho
def zFo(hp:PassesOwn (model X.prog X.w) X.A X.env X.xe)(hc:X.calm=true)(hgl:Gl X "range")(hm:X.mg "range"=none)(ha:AOk X [a] m)(hg:PG X tgt g)(ho:GOk X g tg)(hb:zAc X body mb)
  (hst:zV a=false:=by rfl) (hs:∀x,foldedSetIterable (.Call (.Name "range" p) [a] [] cpos) X.env x=pure x:=by intro _;rfl):SOk X (.For tgt (.Call (.Name "range" p) [a] [] cpos) body [] pos) (sForR1 m tg mb) :=
 yg (zBe hp hc (QP hgl hm ha (zAm hst)) hg hb hs) λD O H=>zDp ho
def zFp(hp:PassesOwn (model X.prog X.w) X.A X.env X.xe)(hc:X.calm=true)(hgl:Gl X "range")(hm:X.mg "range"=none)(ha:AOk X [a,b] m)(hg:PG X tgt g)(ho:GOk X g tg)(hb:zAc X body mb)
  (hst:zV a=false:=by rfl) (hst2:zV b=false:=by rfl) (hs:∀x,foldedSetIterable (.Call (.Name "range" p) [a,b] [] cpos) X.env x=pure x:=by intro _;rfl):SOk X (.For tgt (.Call (.Name "range" p) [a,b] [] cpos) body [] pos) (sForR2 m tg mb) :=
 yg (zBe hp hc (zDD hgl hm ha (star2 hst hst2) (zAm hst2)) hg hb hs) λD O H=>zDq ho
end
section
variable{X:Cx}{K:qH}{mg:Str->Option Value}{O:St}{M:Addr->Prop}{E:zS}{H H':Hp}{T0 Z T:Fz}
def zFq(h:s.list?=some ds)(h':s'.list?=some ds):GV (o,s')=GV (o,s):=by
 cases s<;>simp[Slot.list?]at h<;>cases s'<;>simp[Slot.list?]at h'<;>(cases o with|none=>rfl|some v=>cases v<;>rfl)
def Wa(h:s.list?=some ds)(h':s'.list?=some ds):yF ((o,s')::Z)=yF ((o,s)::Z):=by
 unfold yF;rw[filterMap_cons,filterMap_cons,zFq h h']
def FR.lab(f:FR K mg M H ((o,s)::Z))(h:s.list?=some ds)(h':s'.list?=some ds):FR K mg M H ((o,s')::Z):=by
 have em:Mo M ((o,s')::Z)=Mo M ((o,s)::Z):=by unfold Mo;rw[Wa h h']
 refine⟨λo' d q=>?_,λo' t es q e=>?_,by rw[Wa h h'];exact f.nd,f.mal⟩
 ·rw[em]
  rcases mem_cons.mp q with q|q
  ·cases q;cases h'
  ·exact f.val o' d (qD _ q)
 ·rw[em]
  rcases mem_cons.mp q with q|q
  ·cases q
   rw[zDc h']at e;cases e;exact f.own o s _ qE (zDc h)
  ·exact f.own o' t es (qD _ q) e
def Qh(hi:Z[i]?=some (o,s2)):((o,s1)::(T++Z)).Perm ((o,s2)::(T++Z.set i (o,s1))):=by
 have hlt:i<Z.length:=(qG.mp hi).1;have p1:Z.Perm ((o,s2)::Z.eraseIdx i):=by
  have:=zU (o,s2) Z i hlt;rw[wg hi]at this;exact this
 have p2:(Z.set i (o,s1)).Perm ((o,s1)::Z.eraseIdx i):=zU _ _ _ hlt;refine((p1.append_left T).cons _).trans ?_;refine List.Perm.trans ?_ ((p2.append_left T).cons _).symm;have a:(T++(o,s2)::Z.eraseIdx i).Perm ((o,s2)::(T++Z.eraseIdx i)):=perm_middle;have b:(T++(o,s1)::Z.eraseIdx i).Perm ((o,s1)::(T++Z.eraseIdx i)):=perm_middle;exact((a.cons _).trans (List.Perm.swap _ _ _)).trans (b.cons _).symm
inductive AR where
 |tmp (d:D)
 |ln (i:Nat)
 deriving Inhabited
def AR.slot:AR->Slot
 | .tmp d=>.v d| .ln _=>.e
def yE(vs:List V)(as:List AR):Fz:=(vs.map some).zip (as.map AR.slot)
def AV(O:St):List AR->List V->Prop
 | [],vs=>vs=[]| .tmp _::as,vs=>∃v r,vs=v::r/\AV O as r| .ln i::as,vs=>∃v r,vs=v::r/\O[i]?=some (some v)/\AV O as r
theorem AV.length:∀{as:List AR} {vs:List V},AV O as vs->vs.length=as.length
 | [],_,h=>by simp only[AV]at h;subst h;rfl| .tmp _::as,_,h=>by simp only[AV]at h;obtain⟨v,r,rfl,h⟩:=h;simp[AV.length h]| .ln i::as,_,h=>by simp only[AV]at h;obtain⟨v,r,rfl,_,h⟩:=h;simp[AV.length h]
def zL:List AR->zS->Out (List Slot×zS)
 | [],E=>.ok ([],E)
 | .tmp d::as,E=>match zL as E with
  | .ok (ss,E')=>.ok (.v d::ss,E')|_=>.z
 | .ln i::as,E=>match E[i]? with
  |none=>.z
  |some s=>match s.list? with
   |none=>.z
   |some ds=>match zL as (E.set i .e)with
    | .ok (ss,E')=>.ok (.par ds::ss,E')|_=>.z
def zJ:List AR->List Slot->zS->zS->Out zS
 | [],[],_,E=>.ok E| .tmp _::as,_::ss,E0,E=>zJ as ss E0 E
 | .ln i::as,s'::ss,E0,E=>match E0[i]? with
  |none=>.z
  |some s=>match s.list?,s'.list?,E[i]? with
   |some _,some ds,some .e=>zJ as ss E0 (E.set i (s.put ds))|_,_,_=>.z
 |_,_,_,_=>.z
theorem YN:∀(as:List AR) {vs:List V} {E E':zS} {ss:List Slot} {T:Fz},E.length=O.length->AV O as vs->zL as E=.ok (ss,E')->FR K mg M H (T++(yE vs as++O.zip E)) ->
  FR K mg M H (T++((vs.map some).zip ss++O.zip E'))/\(∀b,b∈yF (T++(yE vs as++O.zip E))↔b∈yF (T++((vs.map some).zip ss++O.zip E')))/\ss.length=as.length/\E'.length=O.length
 | [],vs,E,E',ss,T,hl,av,e,f=>by
  cases e;simp only[AV]at av;subst av;exact⟨f,λb=>Iff.rfl,rfl,hl⟩
 | .tmp d::as,vs,E,E',ss,T,hl,av,e,f=>by
  simp only[AV]at av;obtain⟨v,r,rfl,av⟩:=av;simp only[zL]at e;cases e1:zL as E with
  |z=>rw[e1]at e;cases e|exc _ _=>rw[e1]at e;cases e
  |ok p =>
   obtain⟨ss1,E1⟩:=p;rw[e1]at e;cases e;have f1:FR K mg M H ((T++[(some v,.v d)])++(yE r as++O.zip E)):=by
    rw[append_assoc];exact f
   obtain⟨g1,g2,g3,g4⟩:=YN as hl av e1 f1;refine⟨by rw[append_assoc]at g1;exact g1,λb=>?_,by simp[g3],g4⟩;have:=g2 b;rw[append_assoc,append_assoc]at this;exact this
 | .ln i::as,vs,E,E',ss,T,hl,av,e,f=>by
  simp only[AV]at av;obtain⟨v,r,rfl,hv,av⟩:=av;simp only[zL]at e;cases e0:E[i]? with
  |none=>rw[e0]at e;cases e
  |some s =>
   rw[e0]at e;dsimp only at e;cases e2:s.list? with
   |none=>rw[e2]at e;cases e
   |some ds =>
    rw[e2]at e;dsimp only at e;cases e1:zL as (E.set i .e)with
    |z=>rw[e1]at e;cases e|exc _ _=>rw[e1]at e;cases e
    |ok p =>
     obtain⟨ss1,E1⟩:=p;rw[e1]at e;cases e;obtain⟨o,h1,h2⟩:=wk hl e0;have ho:o=some v:=by rw[hv]at h1;exact(qJ h1).symm
     subst ho;have ez:O.zip (E.set i .e)=(O.zip E).set i (some v,.e):=zc .e hv;have pA:(T++(((some v,Slot.e)::yE r as)++O.zip E)).Perm ((some v,s)::(T++(yE r as++O.zip (E.set i .e)))):=by
      rw[ez];have a:(T++(((some v,Slot.e)::yE r as)++O.zip E)).Perm ((some v,Slot.e)::((T++yE r as)++O.zip E)):=by
       rw[append_assoc];exact perm_middle
      refine a.trans ((Qh h2).trans ?_);rw[append_assoc]
     have f1:=(f.perm pA).lab e2 (s':=.par ds) rfl;have f2:FR K mg M H ((((some v,Slot.par ds))::T)++(yE r as++O.zip (E.set i .e))):=f1;obtain⟨g1,g2,g3,g4⟩:=YN as (by simp[hl]) av e1 f2;have pB:(((some v,Slot.par ds)::T)++((r.map some).zip ss1++O.zip E')).Perm (T++(((some v,Slot.par ds)::(r.map some).zip ss1)++O.zip E')):=perm_middle.symm;refine⟨g1.perm pB,λb=>?_,by simp[g3],g4⟩;have x1:b∈yF (T++(((some v,Slot.e)::yE r as)++O.zip E))↔b∈yF ((some v,s)::(T++(yE r as++O.zip (E.set i .e)))):=(pA.filterMap GV).mem_iff;have x2:yF ((some v,Slot.par ds)::(T++(yE r as++O.zip (E.set i .e))))=yF ((some v,s)::(T++(yE r as++O.zip (E.set i .e)))):=Wa e2 rfl;have x3:=g2 b;have x4:b∈yF (((some v,Slot.par ds)::T)++((r.map some).zip ss1++O.zip E'))↔b∈yF (T++(((some v,Slot.par ds)::(r.map some).zip ss1)++O.zip E')):=(pB.filterMap GV).mem_iff;refine x1.trans ?_;rw[<- x2];exact x3.trans x4
theorem Gf:∀(as:List AR) {vs:List V} {E0 E E':zS} {ss:List Slot} {T:Fz},E.length=O.length->AV O as vs->zJ as ss E0 E=.ok E'->FR K mg M H (T++((vs.map some).zip ss++O.zip E)) ->
  FR K mg M H (T++O.zip E')/\(∀b,b∈yF (T++O.zip E')->b∈yF (T++((vs.map some).zip ss++O.zip E)))/\E'.length=O.length
 | [],vs,E0,E,E',ss,T,hl,av,e,f=>by
  cases ss with
  |cons _ _=>cases e
  |nil =>
   cases e;simp only[AV]at av;subst av;exact⟨f,λb q=>q,hl⟩
 | .tmp d::as,vs,E0,E,E',ss,T,hl,av,e,f=>by
  simp only[AV]at av;obtain⟨v,r,rfl,av⟩:=av;cases ss with
  |nil=>cases e
  |cons s ss =>
   simp only[zJ]at e;have sub:(T++((r.map some).zip ss++O.zip E)).Sublist (T++(((some v,s)::(r.map some).zip ss)++O.zip E)):=(sublist_cons_self _ _).append_left _;obtain⟨g1,g2,g3⟩:=Gf as hl av e (f.sub sub);exact⟨g1,λb q=>zC sub b (g2 b q),g3⟩
 | .ln i::as,vs,E0,E,E',ss,T,hl,av,e,f=>by
  simp only[AV]at av;obtain⟨v,r,rfl,hv,av⟩:=av;cases ss with
  |nil=>cases e
  |cons s' ss =>
   simp only[zJ]at e;cases e0:E0[i]? with
   |none=>rw[e0]at e;cases e
   |some s =>
    rw[e0]at e;dsimp only at e;cases e1:s.list? with
    |none=>rw[e1]at e;cases e
    |some ds0 =>
     cases e2:s'.list? with
     |none=>rw[e1,e2]at e;cases e
     |some ds =>
      cases e3:E[i]? with
      |none=>rw[e1,e2,e3]at e;cases e
      |some se =>
       rw[e1,e2,e3]at e;cases se with
       |e =>
        dsimp only at e;obtain⟨o,h1,h2⟩:=wk hl e3;have ho:o=some v:=by rw[hv]at h1;exact(qJ h1).symm
        subst ho;have ez:O.zip (E.set i (s.put ds))=(O.zip E).set i (some v,s.put ds):=zc _ hv;have hp:(s.put ds).list?=some ds:=(Gd (p:=0) e1).2;have pA:(T++(((some v,s')::(r.map some).zip ss)++O.zip E)).Perm ((some v,s')::((T++(r.map some).zip ss)++O.zip E)):=by
         rw[append_assoc];exact perm_middle
        have f1:=(f.perm pA).lab e2 hp;have pB:((some v,s.put ds)::((T++(r.map some).zip ss)++O.zip E)).Perm ((some v,Slot.e)::((T++(r.map some).zip ss)++O.zip (E.set i (s.put ds)))):=by
         rw[ez];exact Qh h2
        have f2:=(f1.perm pB).tail;rw[append_assoc]at f2;obtain⟨g1,g2,g3⟩:=Gf as (by simp[hl]) av e f2;refine⟨g1,λb q=>?_,g3⟩;have q1:=g2 b q;rw[<- append_assoc]at q1;have q2:b∈yF ((some v,Slot.e)::((T++(r.map some).zip ss)++O.zip (E.set i (s.put ds)))):=zC (sublist_cons_self _ _) b q1;have q3:=zD pB.symm b q2;rw[Wa e2 hp]at q3;exact zD pA.symm b q3
       |_=>cases e
def zAq:List AR->List Nat
 | []=>[]| .tmp _::as=>zAq as| .ln i::as=>i::zAq as
theorem Gg:∀(as:List AR) {E E':zS} {ss:List Slot},zL as E=.ok (ss,E')->∀(k:Nat),k∉zAq as->E'[k]?=E[k]?
 | [],E,E',ss,e,k,h=>by cases e;rfl
 | .tmp d::as,E,E',ss,e,k,h=>by
  simp only[zL]at e;cases e1:zL as E with
  |z=>rw[e1]at e;cases e|exc _ _=>rw[e1]at e;cases e
  |ok p =>
   obtain⟨ss1,E1⟩:=p;rw[e1]at e;cases e;exact Gg as e1 k h
 | .ln i::as,E,E',ss,e,k,h=>by
  simp only[zL]at e;cases e0:E[i]? with
  |none=>rw[e0]at e;cases e
  |some s =>
   rw[e0]at e;dsimp only at e;cases e2:s.list? with
   |none=>rw[e2]at e;cases e
   |some ds =>
    rw[e2]at e;dsimp only at e;cases e1:zL as (E.set i .e)with
    |z=>rw[e1]at e;cases e|exc _ _=>rw[e1]at e;cases e
    |ok p =>
     obtain⟨ss1,E1⟩:=p;rw[e1]at e;cases e;simp only[zAq,mem_cons,not_or]at h;rw[Gg as e1 k h.2,getElem?_set_ne (λq=>h.1 q.symm)]
theorem Wb:∀(as:List AR) {E0 E E':zS} {ss:List Slot},zJ as ss E0 E=.ok E'->∀(k:Nat),E'[k]?=E[k]?\/∃(s:Slot) (ds:List D),E0[k]?=some s/\E'[k]?=some (s.put ds)
 | [],E0,E,E',ss,e,k=>by
  cases ss with
  |cons _ _=>cases e|nil=>cases e;exact .inl rfl
 | .tmp d::as,E0,E,E',ss,e,k=>by
  cases ss with
  |nil=>cases e|cons s ss=>exact Wb as e k
 | .ln i::as,E0,E,E',ss,e,k=>by
  cases ss with
  |nil=>cases e
  |cons s' ss =>
   simp only[zJ]at e;cases e0:E0[i]? with
   |none=>rw[e0]at e;cases e
   |some s =>
    rw[e0]at e;dsimp only at e;cases e1:s.list? with
    |none=>rw[e1]at e;cases e
    |some ds0 =>
     cases e2:s'.list? with
     |none=>rw[e1,e2]at e;cases e
     |some ds =>
      cases e3:E[i]? with
      |none=>rw[e1,e2,e3]at e;cases e
      |some se =>
       rw[e1,e2,e3]at e;cases se with
       |e =>
        dsimp only at e;rcases Wb as e k with q|q
        ·by_cases ek:i=k
         ·subst ek
          have hlt:i<E.length:=(qG.mp e3).1;rw[getElem?_set_self hlt]at q;exact .inr ⟨s,ds,e0,q⟩
         ·rw[getElem?_set_ne ek]at q
          exact .inl q
        ·exact .inr q
       |_=>cases e
theorem vC:∀(as:List AR) {E0 E E':zS} {ss:List Slot},zJ as ss E0 E=.ok E'->∀(k:Nat),k∈zAq as->∃(s:Slot) (ds:List D),E0[k]?=some s/\E'[k]?=some (s.put ds)
 | [],E0,E,E',ss,e,k,h=>by cases h
 | .tmp d::as,E0,E,E',ss,e,k,h=>by
  cases ss with
  |nil=>cases e|cons s ss=>exact vC as e k h
 | .ln i::as,E0,E,E',ss,e,k,h=>by
  cases ss with
  |nil=>cases e
  |cons s' ss =>
   simp only[zJ]at e;cases e0:E0[i]? with
   |none=>rw[e0]at e;cases e
   |some s =>
    rw[e0]at e;dsimp only at e;cases e1:s.list? with
    |none=>rw[e1]at e;cases e
    |some ds0 =>
     cases e2:s'.list? with
     |none=>rw[e1,e2]at e;cases e
     |some ds =>
      cases e3:E[i]? with
      |none=>rw[e1,e2,e3]at e;cases e
      |some se =>
       rw[e1,e2,e3]at e;cases se with
       |e =>
        dsimp only at e;by_cases ek:i=k
        ·subst ek
         rcases Wb as e i with q|q
         ·have hlt:i<E.length:=(qG.mp e3).1
          rw[getElem?_set_self hlt]at q;exact⟨s,ds,e0,q⟩
         ·exact q
        ·simp only[zAq,mem_cons]at h
         rcases h with h|h
         ·exact absurd h.symm ek
         ·exact vC as e k h
       |_=>cases e
def zDr{as:List AR}(h1:zL as E1=.ok (ss,E2))(h2:zJ as outs E1 E2=.ok E3):PKp O E1 O E3:=λk ds e=>by
 refine⟨?_,rfl⟩;by_cases hk:k∈zAq as
 ·obtain⟨s,es,q1,q2⟩:=vC as h2 k hk
  rw[e]at q1;cases q1;exact⟨es,q2⟩
 ·rcases Wb as h2 k with q|⟨s,es,q1,q2⟩
  ·rw[q,Gg as h1 k hk];exact⟨ds,e⟩
  ·rw[e]at q1;cases q1
   exact⟨es,q2⟩
abbrev MF:=List Slot->Out (R×List Slot)
def spM(K:qH)(mg:Str->Option Value)(n:Nat)(F:MF):Sp:=λvs H Q XQ=>vs.length=n/\∃(M:Addr->Prop) (ss:List Slot),ss.length=vs.length/\FR K mg M H ((vs.map some).zip ss)/\match F ss with
 | .z=>False| .ok (r,outs)=>∀v H',outs.length=vs.length->FR K mg M H' ((some v,r.slot)::(vs.map some).zip outs)->Step M H ((vs.map some).zip ss) H' ((some v,r.slot)::(vs.map some).zip outs)->Q v H'| .exc x _=>∀C od H',mg x.cls=some (.ref C)->Fs od H' x.cls x.vs->FR K mg M H' []->Step M H ((vs.map some).zip ss) H' []->XQ (.ref C) od H'
inductive Arg where
 |ev (m:ME)
 |lend (i:Nat)
def zw:List Arg->zS->Out (List AR×zS)
 | [],E=>.ok ([],E)
 | .ev m::as,E=>match m E with
  | .z=>.z| .exc x E1=>.exc x E1
  | .ok (r,E1)=>match zw as E1 with
   | .ok (ars,E2)=>.ok (.tmp r.d::ars,E2)| .exc x E2=>.exc x E2| .z=>.z
 | .lend i::as,E=>if JK E[i]?=true then .z else match zw as E with
  | .ok (ars,E2)=>.ok (.ln i::ars,E2)| .exc x E2=>.exc x E2| .z=>.z
def tArgs(X:Cx)(as:List Arg):TA:=λO H Q=>∃M E,E.length=O.length/\FR X.K X.mg M H (O.zip E)/\match zw as E with
 | .z=>False| .ok (ars,E')=>∀vs H',AV O ars vs->Got X.K X.mg M O E H [] O E' H' (yE vs ars)->Q vs H'| .exc x E'=>∀H',Got X.K X.mg M O E H [] O E' H' []->XE X O H' x
abbrev zE9(X:Cx)(es:List Expr)(as:List Arg):Prop:=PA X es (tArgs X as)
def vD{as:List Arg}{Q:List V->Hp->Prop}(hl:E.length=O.length)(h:FR X.K X.mg M H (T0++O.zip E))
  (k:match zw as E with | .z=>False | .ok (ars,E')=>∀vs H',AV O ars vs->Got X.K X.mg M O E H T0 O E' H' (yE vs ars)->Q vs H' | .exc x E'=>∀H',Got X.K X.mg M O E H T0 O E' H' []->XE X O H' x):tArgs X as O H Q:=by
 refine⟨Mo M T0,E,hl,h.inner,?_⟩;cases e:zw as E with
 |z=>rw[e]at k;exact k|ok a=>rw[e]at k;exact λvs H' av g=>k vs H' av (g.outer h)|exc x E'=>rw[e]at k;exact λH' g=>k H' (g.outer h)
def ga_nil:zE9 X [] []:=Qc ub λO H Q ⟨M,E,hl,fr,k⟩=>k [] H (by simp only[AV]) (Got.refl (T0:=[]) hl fr)
def ga_ev{as:List Arg}(he:EOk X e m)(hr:zE9 X es as)(hs:zV e=false:=by rfl):zE9 X (e::es) (.ev m::as):=Qc (JQ he hr (zm hs)) λO H Q ⟨M,E,hl,fr,k⟩=>by
 simp only[zw]at k;refine zu (T0:=[]) hl fr ?_;cases ea:m E with
 |z=>rw[ea]at k;exact k|exc x E1=>rw[ea]at k;exact k
 |ok p =>
  obtain⟨r1,E1⟩:=p;rw[ea]at k;intro x H1 g0;have g1:Got X.K X.mg M O E H [] O E1 H1 [(some x,.v r1.d)]:=⟨g0.len,g0.fr.frz,g0.st.frz,g0.pk⟩;refine vD (T0:=[(some x,.v r1.d)]) g1.len g1.fr ?_;dsimp only at k;cases eb:zw as E1 with
  |z=>rw[eb]at k;exact k|exc x E2=>rw[eb]at k;exact λH' g=>k H' (g1.trans' g).dropAll
  |ok p =>
   obtain⟨ars,E2⟩:=p;rw[eb]at k;intro vs H2 av g2;refine k (x::vs) H2 (by simp only[AV];exact⟨x,vs,rfl,av⟩) ?_;exact(g1.trans' g2).perm (perm_append_comm)
def ga_lend{as:List Arg}(hv:PE X (.Name x p) (Wv i))(hr:zE9 X es as)  : zE9 X (.Name x p::es) (.lend i::as):=Qc (JQ hv hr (zm rfl)) λO H Q ⟨M,E,hl,fr,k⟩=>by
 simp only[zw]at k;cases em:JK E[i]? with
 |true=>rw[em]at k;exact k.elim
 |false =>
  rw[em]at k;simp only[Bool.false_eq_true,if_false]at k;obtain⟨s,hs1,hs2⟩:=ZQ em;obtain⟨v,hv⟩:=um hl fr hs1 hs2;refine⟨v,hv,?_⟩;refine vD (T0:=[]) hl fr ?_;cases eb:zw as E with
  |z=>rw[eb]at k;exact k|exc x E2=>rw[eb]at k;exact k
  |ok p =>
   obtain⟨ars,E2⟩:=p;rw[eb]at k;intro vs H2 av g2;refine k (v::vs) H2 (by simp only[AV];exact⟨v,vs,rfl,hv,av⟩) ?_;have em2:Mo M ((some v,Slot.e)::(yE vs ars++([]++O.zip E2)))=Mo M (yE vs ars++([]++O.zip E2)):=Qa _ _ _;refine⟨g2.len,⟨λo d q=>?_,λo t ds q e=>?_,?_,g2.fr.mal⟩,⟨?_,g2.st.keep⟩,g2.pk⟩
   ·show ∃v',_/\Rep X.K X.mg (Hm (Mo M ((some v,Slot.e)::(yE vs ars++([]++O.zip E2)))) H2) d v'
    rw[em2];rcases mem_cons.mp q with q|q
    ·cases q
    ·exact g2.fr.val o d q
   ·show ∃a ho,_/\_/\_/\CRep X.K X.mg (Hm (Mo M ((some v,Slot.e)::(yE vs ars++([]++O.zip E2)))) H2) a ds ho
    rw[em2];rcases mem_cons.mp q with q|q
    ·cases q;cases e
    ·exact g2.fr.own o t ds q e
   ·show(yF ((some v,Slot.e)::(yE vs ars++([]++O.zip E2)))).Nodup
    rw[yA];exact g2.fr.nd
   ·show ZK _ (Hm (Mo M ((some v,Slot.e)::(yE vs ars++([]++O.zip E2)))) H2)
    rw[em2];exact g2.st.same
def Qi:List AR->Bool
 | []=>true| .tmp _::as=>Qi as| .ln _::_=>false
theorem uo:∀{as:List AR} {E E':zS} {ss:List Slot},Qi as=true->zL as E=.ok (ss,E')->E'=E
 | [],E,E',ss,_,e=>by cases e;rfl
 | .tmp d::as,E,E',ss,h,e=>by
  simp only[zL]at e;cases q:zL as E with
  |z=>rw[q]at e;cases e|exc _ _=>rw[q]at e;cases e|ok p=>obtain⟨s1,E1⟩:=p;rw[q]at e;cases e;exact uo (as:=as) h q
 | .ln i::as,E,E',ss,h,e=>by cases h
def jn(F:MF)(as:List Arg):ME:=λE=>match zw as E with
 | .z=>.z| .exc x E1=>.exc x E1
 | .ok (ars,E1)=>match zL ars E1 with
  | .ok (ss,E2)=>match F ss with
   | .ok (r,outs)=>match zJ ars outs E1 E2 with
    | .ok E3=>.ok (r,E3)|_=>.z
   | .exc x _=>if Qi ars=true then .exc ⟨x.cls,false,x.vs⟩ E1 else .z| .z=>.z
  |_=>.z
def zFr(hn:ars.length=n)(e1:zL ars E1=.ok (ss,E2))(e2:F ss=.ok (r,outs))(e3:zJ ars outs E1 E2=.ok E3)
  (av:AV O ars vs) (g:Got K mg M O E H [] O E1 H1 (yE vs ars)) (k:∀v H',Got K mg M O E H [] O E3 H' [(some v,r.slot)]->Q v H'):spM K mg n F vs H1 Q XQ:=by
 obtain⟨f1,o1,l1,l2⟩:=YN (T:=[]) ars g.len av e1 g.fr;have f1':FR K mg M H1 (O.zip E2++(vs.map some).zip ss):=FR.perm (T:=O.zip E2++(vs.map some).zip ss) (Z:=(vs.map some).zip ss++O.zip E2) f1 perm_append_comm;have hlen:=av.length;refine⟨hlen.trans hn,Mo M (O.zip E2),ss,l1.trans hlen.symm,f1'.inner,?_⟩;rw[e2];intro v H' ol f2 s2;have f3:=FR.outer f1' f2 s2;have s3:=Step.outer s2;have p:(O.zip E2++((some v,r.slot)::(vs.map some).zip outs)).Perm ([(some v,r.slot)]++((vs.map some).zip outs++O.zip E2)):=by
  refine perm_append_comm.trans ?_;exact List.Perm.refl _
 obtain⟨f4,o4,l4⟩:=Gf ars l2 av e3 (f3.perm p);refine k v H' ⟨l4,f4,?_,g.pk.trans (zDr e1 e3)⟩;have st1:Step M H (O.zip E) H1 (O.zip E2++(vs.map some).zip ss):=g.st.weak λb hb=>(o1 b).mpr (zD (T:=O.zip E2++(vs.map some).zip ss) (Z:=(vs.map some).zip ss++O.zip E2) perm_append_comm b hb)
 have st2:=st1.trans s3;exact st2.weak λb hb=>zD p.symm b (o4 b hb)
def zFs(hn:ars.length=n)(hl:Qi ars=true)(e1:zL ars E1=.ok (ss,E2))(e2:F ss=.exc x outs)
  (av:AV O ars vs) (g:Got K mg M O E H [] O E1 H1 (yE vs ars)) (k:∀C od H',mg x.cls=some (.ref C)->Fs od H' x.cls x.vs->Got K mg M O E H [] O E1 H' []->XQ (.ref C) od H'):spM K mg n F vs H1 Q XQ:=by
 obtain⟨f1,o1,l1,l2⟩:=YN (T:=[]) ars g.len av e1 g.fr;have f1':FR K mg M H1 (O.zip E2++(vs.map some).zip ss):=FR.perm (T:=O.zip E2++(vs.map some).zip ss) (Z:=(vs.map some).zip ss++O.zip E2) f1 perm_append_comm;have hlen:=av.length;refine⟨hlen.trans hn,Mo M (O.zip E2),ss,l1.trans hlen.symm,f1'.inner,?_⟩;rw[e2];intro C od H' hm hf f2 s2;have f3:=FR.outer f1' f2 s2;have s3:=Step.outer s2;rw[append_nil]at f3 s3;have st1:Step M H (O.zip E) H1 (O.zip E2++(vs.map some).zip ss):=g.st.weak λb hb=>(o1 b).mpr (zD (T:=O.zip E2++(vs.map some).zip ss) (Z:=(vs.map some).zip ss++O.zip E2) perm_append_comm b hb)
 obtain rfl:=uo hl e1;exact k C od H' hm hf ⟨g.len,f3,st1.trans s3,g.pk⟩
theorem jo:∀(as:List Arg) {E E':zS} {ars:List AR},zw as E=.ok (ars,E')->ars.length=as.length
 | [],E,E',ars,e=>by cases e;rfl
 | .ev m::as,E,E',ars,e=>by
  simp only[zw]at e;cases ea:m E with
  |z=>rw[ea]at e;cases e|exc _ _=>rw[ea]at e;cases e
  |ok p =>
   obtain⟨r,E1⟩:=p;rw[ea]at e;dsimp only at e;cases eb:zw as E1 with
   |z=>rw[eb]at e;cases e|exc _ _=>rw[eb]at e;cases e|ok p=>obtain⟨a,b⟩:=p;rw[eb]at e;cases e;simp[jo as eb]
 | .lend i::as,E,E',ars,e=>by
  simp only[zw]at e;split at e
  ·cases e
  ·cases eb:zw as E with
   |z=>rw[eb]at e;cases e|exc _ _=>rw[eb]at e;cases e|ok p=>obtain⟨a,b⟩:=p;rw[eb]at e;cases e;simp[jo as eb]
def zFt{as:List Arg}(hn:as.length=n)(h:tM X (jn F as) O H Q):tArgs X as O H λvs H1=>spM X.K X.mg n F vs H1 Q (EX X O):=by
 obtain⟨M,E,hl,fr,k⟩:=h;unfold jn at k;refine vD (T0:=[]) hl fr ?_;cases ea:zw as E with
 |z=>rw[ea]at k;exact k|exc x E1=>rw[ea]at k;exact k
 |ok p =>
  obtain⟨ars,E1⟩:=p;rw[ea]at k;intro vs H1 av g;dsimp only at k;cases e1:zL ars E1 with
  |z=>rw[e1]at k;exact k.elim|exc _ _=>rw[e1]at k;exact k.elim
  |ok p =>
   obtain⟨ss,E2⟩:=p;rw[e1]at k;dsimp only at k;cases e2:F ss with
   |z=>rw[e2]at k;exact k.elim
   |exc x o =>
    rw[e2]at k;dsimp only at k;cases hl:Qi ars with
    |false=>rw[hl]at k;exact k.elim
    |true =>
     rw[hl]at k;exact zFs ((jo as ea).trans hn) hl e1 e2 av g λC od H' hm hf g'=>⟨⟨x.cls,false,x.vs⟩,C,rfl,hm,rfl,hf,k H' g'⟩
   |ok p =>
    obtain⟨r,outs⟩:=p;rw[e2]at k;dsimp only at k;cases e3:zJ ars outs E1 E2 with
    |z=>rw[e3]at k;exact k.elim|exc _ _=>rw[e3]at k;exact k.elim
    |ok E3 =>
     rw[e3]at k;exact zFr ((jo as ea).trans hn) e1 e2 e3 av g k
inductive Mask:Fz->Fz->Prop
 |nil (Z:Fz):Mask Z []
 |keep {z:Option V×Slot} {Z W:Fz}:Mask Z W->Mask (z::Z) (z::W)
 |skip {z:Option V×Slot} {Z W:Fz}:Mask Z W->Mask (z::Z) W
 |extra {o:Option V} {Z W:Fz}:Mask Z W->Mask Z ((o,.e)::W)
def Mask.emq(h:Mask Z W):Mask (z::Z) ((o,.e)::W):=.skip (.extra h)
theorem Mask.sub:∀{Z W:Fz},Mask Z W->(yF W).Sublist (yF Z)
 |_,_,.nil Z=>by simp[yF]
 |_,_,.keep (z:=z) (Z:=Z) (W:=W) h=>by
  have e:∀W:Fz,yF (z::W)=yF [z]++yF W:=λW=>zR [z] W
  rw[e Z,e W];exact h.sub.append_left _
 |_,_,.skip (z:=z) (Z:=Z) (W:=W) h=>by
  have e:∀W:Fz,yF (z::W)=yF [z]++yF W:=λW=>zR [z] W
  rw[e Z];exact h.sub.trans (sublist_append_right _ _)
 |_,_,.extra (Z:=Z) (W:=W) h=>by
  rw[yA];exact h.sub
theorem Mask.mem:∀{Z W:Fz},Mask Z W->∀o s,s≠Slot.e->(o,s)∈W->(o,s)∈Z
 |_,_,.nil Z,o,s,hs,h=>by cases h
 |_,_,.keep h,o,s,hs,q=>by
  rcases mem_cons.mp q with q|q
  ·subst q;exact qE
  ·exact qD _ (h.mem o s hs q)
 |_,_,.skip h,o,s,hs,q=>qD _ (h.mem o s hs q)
 |_,_,.extra h,o,s,hs,q=>by
  rcases mem_cons.mp q with q|q
  ·cases q;exact absurd rfl hs
  ·exact h.mem o s hs q
def FR.mask(f:FR K mg M H Z)(h:Mask Z W):FR K mg M H W where
 val:=λo d q=>by
  obtain⟨v,e,r⟩:=f.val o d (h.mem o _ (by intro z;cases z) q);exact⟨v,e,r.mono (jF (J7 λb hb=>h.sub.subset hb))⟩
 own:=λo s ds q e=>by
  obtain⟨a,xs,e1,e2,e3,r⟩:=f.own o s ds (h.mem o s (by intro z;subst z;cases e) q) e;exact⟨a,xs,e1,e2,e3,r.mono (jF (J7 λb hb=>h.sub.subset hb))⟩
 nd:=f.nd.sublist h.sub
 mal:=f.mal
def zb:List Slot->zS->List Slot
 | [],_=>[]| .par _::ss,s::E=>s::zb ss E|_::ss,_::E=>.e::zb ss E|_::ss,[]=>.e::zb ss []
def fnM(N:Nat)(body:MS):MF:=λss=>match body (ss++replicate (N-ss.length) .e)with
 | .ok (.ret r,E')=>.ok (r,zb ss E')| .ok (.nx,E')=>.ok (.v .non,zb ss E')| .exc x E'=>.exc x (zb ss E')|_=>.z
theorem zX:∀(ss:List Slot) (E:zS),(zb ss E).length=ss.length
 | [],_=>rfl| .par _::ss,s::E=>by simp[zb,zX ss E]| .e::ss,s::E=>by simp[zb,zX ss E]| .v _::ss,s::E=>by simp[zb,zX ss E]| .own _::ss,s::E=>by simp[zb,zX ss E]| .dct _ _::ss,s::E=>by simp[zb,zX ss E]| .par _::ss,[]=>by simp[zb,zX ss []]| .e::ss,[]=>by simp[zb,zX ss []]| .v _::ss,[]=>by simp[zb,zX ss []]| .own _::ss,[]=>by simp[zb,zX ss []]| .dct _ _::ss,[]=>by simp[zb,zX ss []]
theorem Jo:∀(ss:List Slot) (vs:List (Option V)) (O:St) (E:zS),E.length=O.length->vs.length=ss.length->(∀(i:Nat) ds,ss[i]?=some (.par ds)->O[i]?=vs[i]?)->Mask (O.zip E) (vs.zip (zb ss E))
 | [],vs,O,E,_,_,_=>by
  simp only[zb,List.zip_nil_right];exact .nil _
 |s::ss,[],O,E,_,h,_=>by simp at h|s::ss,v::vs,[],y::E,h,_,_=>by simp at h|s::ss,v::vs,x::O,[],h,_,_=>by simp at h
 |s::ss,v::vs,[],[],h1,h2,h4=>by
  have ih:=Jo ss vs [] [] rfl (by simpa using h2) λi ds e=>by
   have:=h4 (i+1) ds (by simpa using e);simpa using this
  cases s<;>exact .extra ih
 |s::ss,v::vs,x::O,y::E,h1,h2,h4=>by
  have ih:=Jo ss vs O E (by simpa using h1) (by simpa using h2) λi ds e=>by
   have:=h4 (i+1) ds (by simpa using e);simpa using this
  cases s with
  |par ds =>
   have e:=h4 0 ds rfl;simp at e;subst e;simp only[zb,zip_cons_cons];exact .keep ih
  |e=>simp only[zb,zip_cons_cons];exact .emq ih|v d=>simp only[zb,zip_cons_cons];exact .emq ih|own ds=>simp only[zb,zip_cons_cons];exact .emq ih|dct ks vs=>simp only[zb,zip_cons_cons];exact .emq ih
theorem vE:∀n:Nat,(replicate n (none:Option V)).zip (replicate n Slot.e)=replicate n (none,Slot.e)
 |0=>rfl|n+1=>by simp[replicate_succ,vE n]
def Gh(n:Nat):yF (replicate n ((none:Option V),Slot.e))=[]:=by
 induction n with
 |zero=>rfl|succ n ih=>rw[replicate_succ,yA,ih]
def FR.emps(f:FR K mg M H Z)(n:Nat):FR K mg M H (Z++replicate n (none,.e)):=by
 have eo:yF (Z++replicate n (none,Slot.e))=yF Z:=by rw[zR,Gh,append_nil]
 have em:Mo M (Z++replicate n (none,Slot.e))=Mo M Z:=by unfold Mo;rw[eo]
 refine⟨λo d q=>?_,λo s ds q e=>?_,by rw[eo];exact f.nd,f.mal⟩
 ·rw[em]
  rcases mem_append.mp q with q|q
  ·exact f.val o d q
  ·have:=List.eq_of_mem_replicate q;cases this
 ·rw[em]
  rcases mem_append.mp q with q|q
  ·exact f.own o s ds q e
  ·have:=List.eq_of_mem_replicate q;cases this;cases e
def body_ok(hx:∀x O' H',(∀C od,X.mg x.cls=some (.ref C)->Fs od H' x.cls x.vs->XQ (.ref C) od H')->XE X O' H' x)(h:spM X.K X.mg n (fnM N.length body) vs H Q XQ):tS X body {nx:=λ_ H'=>Q .non H',rt:=Q} (L2.wb N vs) H:=by
 obtain⟨hv,M,ss,hl,f,k⟩:=h;have e0:(L2.wb N vs).zip (ss++replicate (N.length-ss.length) Slot.e)=(vs.map some).zip ss++replicate (N.length-ss.length) (none,.e):=by
  unfold L2.wb;rw[zip_append (by simp[hl]),hl,vE]
 have hE:(ss++replicate (N.length-ss.length) Slot.e).length=(L2.wb N vs).length:=by
  unfold L2.wb;simp[hl]
 have f0:FR X.K X.mg M H ((L2.wb N vs).zip (ss++replicate (N.length-ss.length) Slot.e)):=by rw[e0];exact f.emps _
 have eo:∀b,b∈yF ((L2.wb N vs).zip (ss++replicate (N.length-ss.length) Slot.e))->b∈yF ((vs.map some).zip ss):=λb hb=>by
  rw[e0,zR,Gh,append_nil]at hb;exact hb
 refine⟨M,ss++replicate (N.length-ss.length) Slot.e,hE,f0,?_⟩;unfold fnM at k;have fin:∀{O':St} {E':zS} {H':Hp} {v:V} {r:R},Got X.K X.mg M (L2.wb N vs) (ss++replicate (N.length-ss.length) Slot.e) H [] O' E' H' [(some v,r.slot)] ->
   (∀v H',(zb ss E').length=vs.length->FR X.K X.mg M H' ((some v,r.slot)::(vs.map some).zip (zb ss E'))->Step M H ((vs.map some).zip ss) H' ((some v,r.slot)::(vs.map some).zip (zb ss E'))->Q v H')->Q v H':=λ{O' E' H' v r} g kk=>by
  have mk:Mask (O'.zip E') ((vs.map some).zip (zb ss E')):=Jo ss _ O' E' g.len (by simp[hl]) λi ds e=>by
   have hi:i<ss.length:=(qG.mp e).1;have e1:(ss++replicate (N.length-ss.length) Slot.e)[i]?=some (.par ds):=by rw[getElem?_append_left hi];exact e
   have:=(g.pk i ds e1).2;rw[this];unfold L2.wb;rw[getElem?_append_left (by simp;omega)]
  refine kk v H' (by rw[zX,hl]) (g.fr.mask (.keep mk)) ?_;exact(g.st.weak λb hb=>(Mask.keep mk).sub.subset hb).left eo
 cases eb:body (ss++replicate (N.length-ss.length) Slot.e)with
 |z=>rw[eb]at k;exact k
 |exc x E' =>
  rw[eb]at k;intro O' H' g;refine hx x O' H' λC od hm hf=>k C od H' hm hf (g.fr.sub (List.nil_sublist _)) ?_
  exact(g.st.weak λb hb=>by cases hb).left eo
 |ok p =>
  obtain⟨fl,E'⟩:=p;rw[eb]at k;cases fl with
  |bk=>exact k.elim|ct=>exact k.elim|ret r=>exact λv O' H' g=>fin g k|nx=>exact λO' H' g=>fin (r:=.v .non) (g.flat (d:=.non) rfl) k
end
section
variable{P:Program}{w:World}{K:qH}{mg:Str->Option Value}{base:Heap}
def fn_ok(F:Fun K x qual st f fd)(S:FnScope N ps (zt st))
  (hb:∀(cdv:Value) (A:Around) (outer:List Env) (s:Shared) (H:Hp) (E:XK),(c=true->A.handled=none)->RoomN k (A.deeper (PyProof.Rows.envOfC qual (zt st) s.heap.objs.size f cdv)) ->
   zAc (cxN c P w K mg base N qual (zt st) f cdv A outer s H E) (ja st) body):FnOkN c P w K mg base (k+1) f fd ps (spM K mg ps.length (fnM N.length body)):=by
 obtain⟨oc,od,kV,doc,pm,an,cdv,ct,osl,rfl,lk,hcd⟩:=F.ex;exact fn_ofN lk hcd S (λvs H Q E h=>h.1) λA outer s H vs Q E hd hr h=>⟨_,hb cdv A outer s H E hd hr,body_ok (X:=cxN c P w K mg base N qual (zt st) f cdv A outer s H E) (λx O' H' hE=>zFW hE) h⟩
end
section
variable{X:Cx}{k:Nat}{f:Addr}{fd:FuncData}{ps:List Str}{F:MF}{x:Str}{p pos:Pos}{e:Expr}{es:List Expr}{as:List Arg}
def ok_call(G:FnOkN c X.prog X.w X.K X.mg X.base k f fd ps (spM X.K X.mg ps.length F))(hd:c=true->X.A.handled=none)(hr:RoomN k X.A)(hg:Gl X x)(hm:X.mg x=some (.ref f))(hk:keepIn X.K (.ref f)=true)(hb:WP X.K fd ps [])(ha:zE9 X (e::es) as)(hn:as.length=ps.length:=by rfl)
  (hdb:(x==("__debug__":Str))=false:=by decide) (he:zV e=false:=by rfl) (hpl:j0 es=true:=by rfl):EOk X (.Call (.Name x p) (e::es) [] pos) (jn F as) :=
 zZ (zFV G hd hr hg hm hk hb ha hdb (zm he) (JS hpl)) λO H Q=>zFt hn
end
end DV
namespace L2
open PySem PySem.Spec PyProof.Rows
def Inv.big(I:Inv X pins O H s):sysModules<s.heap.objs.size:=by
 have h:mainGlobals<s.heap.objs.size:=(I.mod.glob.keeps I.bk).lt;exact lt_trans (by decide) h
def cxB(X:Cx)(N:List Str)(scope:Scope)(cl:List (Str×Addr))(C:Addr)(ex:List Addr)(s:Shared)(H:Hp):Cx :=
 {X with N:=N,s₀:=s,H₀:=H,env:=compEnvC scope cl C X.env,outer:=X.stack,ex:=ex,fn:=λy=>scope.names.lookup y==some NameKind.cell,pn:=[]}
def YO{R:Result->Shared->Prop}(I:Nat->Shared->Prop)
  (turn:∀n s,I n s->wpAny (model prog w) A (pyNext it) (λr s₁=>match r with
   |none=>R (.ok .next) s₁
   |some v=>wpAny (model prog w) A (letOwnedTupleGo target it v) (λ_ s₁=>wpAny (model prog w) A (assign target env v) (λ_ s₂ =>
     wpAny (model prog w) A (forIn ifs true λc r=>if r=true then do let ok <- isTrue c env (eval c env);pure (ForInStep.yield ok)else pure (ForInStep.yield r)) (λok s₃ =>
      if ok=true then wpAny (model prog w) A (eval elt env) (λx s₄ =>
       wpAny (model prog w) A (call (.builtin "list.append") [acc,x]) (λ_ s₅=>∃m,m<n/\I m s₅) (notedBy (model prog w) A env λe s'=>R (.error e) s') s₄) (notedBy (model prog w) A env λe s'=>R (.error e) s') s₃
      else ∃m,m<n/\I m s₃) (notedBy (model prog w) A env λe s'=>R (.error e) s') s₂) (notedBy (model prog w) A env λe s'=>R (.error e) s') s₁) (notedBy (model prog w) A env λe s'=>R (.error e) s') s₁) (notedBy (model prog w) A env λe s'=>R (.error e) s') s)
  (n:Nat) (h:I n s) :
  codeAny (model prog w) A (.compLoop (.ListComp elt [⟨target,iter,ifs,0⟩] scope pos) 0 it acc env) R s:=by
 refine codeAny_loop rfl I (λn s hI=>?_) n h;show wpAny _ A ((compTurn (.ListComp elt [⟨target,iter,ifs,0⟩] scope pos) 0 it acc env).onRaise (λx=>do noteFrame x env;theTreesLotGoes x)) _ _ s;refine wpAny_noted ?_;rw[compTurn_list];refine qB (wpAny_standAt (qB (wpAny_mono (turn n s hI) (λr s₁ h₁=>?_) λ_ _ h'=>h')));cases r with
 |none=>exact qC h₁
 |some v =>
  refine qB (wpAny_mono h₁ (λ_ s₁' h₁'=>?_) λ_ _ h'=>h');refine qB (wpAny_mono h₁' (λ_ s₂ h₂=>qB (wpAny_mono h₂ (λok s₃ h₃=>?_) λ_ _ h'=>h')) λ_ _ h'=>h');cases ok with
  |false=>exact qC ⟨rfl,h₃⟩
  |true =>
   exact qB (qB (wpAny_mono h₃ (λx s₄ h₄=>qB (wpAny_mono h₄ (λ_ s₅ h₅=>qC (qC ⟨rfl,h₅⟩)) λ_ _ h'=>h')) λ_ _ h'=>h'))
def zAr(X:Cx)(ifs:List Expr)(t:TT):Prop:=∀(pins:List (Addr×Obj)) (s:Shared) (O:St) (H:Hp) (Q:Bool->Hp->Prop),Inv X pins O H s->t O H Q ->
 wpAny (model X.prog X.w) X.A (forIn ifs true λc r=>if r=true then do let ok <- isTrue c X.env (eval c X.env);pure (ForInStep.yield ok)else pure (ForInStep.yield r)) (TP X pins O Q) X.xe s
def pif_nil:zAr X [] (λO H Q=>Q true H):=λpins s O H Q I h=>wpAny_tests_nil ⟨H,I,h⟩
def pif_one(h:PT X c t):zAr X [c] t:=λpins s O H Q I q=>wpAny_tests_one (h pins s O H Q I q)
def zK(nl:Nat)(caps:List Nat)(O:St):St:=replicate nl none++caps.map λj=>(O[j]?).getD none
def zFu(nl:Nat)(caps:List Nat)(wi:TI)(g:TG)(tt:TT)(te:TE):TE:=λO H Q=>wi O H λJ H1=>∀D,H1 D=none->∃W:Nat->Nat->St->Hp->Prop,(∃m,W 0 m (zK nl caps O) (upd H1 D (.l [])))/\∀i m O' H',W i m O' H' ->
 (J.stop i H'/\Q (.ref D) H')\/(J.go i H'/\∃Nx:St->Hp->Prop,(∀O'' H'',Nx O'' H''->∃m',m'<m/\W (i+1) m' O'' H'')/\∀x H'',J.yld i H' x H''->g x O' H'' λO2 H2 =>
  tt O2 H2 λb H3=>if b=true then te O2 H3 λy H4=>∃ys,H4 D=some (.l ys)/\ys.length<sizeLine/\Nx O2 (upd H4 D (.l (ys++[y])))else Nx O2 H3)
theorem jS{env:Env}:∀{names:List (Str×NameKind)} {x:Str} {k:NameKind},(names.map λ(n,k)=>if(k==NameKind.free&&env.scope.kind==.function&&env.kindOf n==some .cell)then(n,NameKind.cell)else(n,k)).lookup x=some k ->
  ∃k0,names.lookup x=some k0/\(k=k0\/(k0=.free/\k=.cell))
 | [],_,_,h=>by simp at h
 | (n,k1)::r,x,k,h=>by
  have ih:=@jS env r x k;rw[map_cons]at h;by_cases hc:(k1==NameKind.free&&env.scope.kind==.function&&env.kindOf n==some .cell)=true
  ·simp only[hc,if_true]at h
   cases hx:x==n with
   |true =>
    simp only[lookup_cons,hx]at h ⊢;cases h;refine⟨k1,rfl,.inr ⟨?_,rfl⟩⟩;simp only[Bool.and_eq_true,beq_iff_eq]at hc;exact hc.1.1
   |false=>simp only[lookup_cons,hx]at h ⊢;exact ih h
  ·have hc':(k1==NameKind.free&&env.scope.kind==.function&&env.kindOf n==some .cell)=false:=by simpa using hc
   simp only[hc',Bool.false_eq_true,if_false]at h;cases hx:x==n with
   |true=>simp only[lookup_cons,hx]at h ⊢;cases h;exact⟨k1,rfl,.inl rfl⟩|false=>simp only[lookup_cons,hx]at h ⊢;exact ih h
theorem wF{env:Env}:∀{names:List (Str×NameKind)} {x:Str},names.lookup x=some .free->env.scope.kind=.function->env.kindOf x=some .cell ->
  (names.map λ(n,k)=>if(k==NameKind.free&&env.scope.kind==.function&&env.kindOf n==some .cell)then(n,NameKind.cell)else(n,k)).lookup x=some .cell
 | [],_,h,_,_=>by simp at h
 | (n,k1)::r,x,h,hk,hc=>by
  have ih:=@wF env r x;rw[map_cons];cases hx:x==n with
  |true =>
   have:x=n:=by simpa using hx
   subst this;simp only[lookup_cons,hx]at h;cases h;have:(NameKind.free==NameKind.free&&env.scope.kind==.function&&env.kindOf x==some .cell)=true:=by simp[hk,hc]
   simp only[this,if_true,lookup_cons,hx]
  |false =>
   simp only[lookup_cons,hx]at h;by_cases hcc:(k1==NameKind.free&&env.scope.kind==.function&&env.kindOf n==some .cell)=true
   ·simp only[hcc,if_true,lookup_cons,hx];exact ih h hk hc
   ·have hcc':(k1==NameKind.free&&env.scope.kind==.function&&env.kindOf n==some .cell)=false:=by simpa using hcc
    simp only[hcc',Bool.false_eq_true,if_false,lookup_cons,hx];exact ih h hk hc
def uq(env:Env):List (Str×NameKind)->List (Str×Addr)->List (Str×Addr)
 | [],cs=>cs| (n,k)::r,cs=>if k==.free then uq env r ((n,(env.cells.lookup n).getD 0)::cs)else uq env r cs
theorem wW:∀(names:List (Str×NameKind)) (cs:List (Str×Addr)),(∀y∈names,y.2=.free->∃c,env.cells.lookup y.1=some c) ->
  (forIn names cs (λx r=>if(x.snd==NameKind.free)=true then do
    let c <- cellOf env x.fst
    pure (ForInStep.yield ((x.fst,c)::r))
   else pure (ForInStep.yield r)):Sem (List (Str×Addr)))=pure (uq env names cs)
 | [],cs,_=>by rfl
 | (n,k)::r,cs,h=>by
  rw[forIn_cons];dsimp only;by_cases hk:(k==NameKind.free)=true
  ·obtain⟨c,hc⟩:=h (n,k) qE (by simpa using hk)
   have ec:cellOf env n=pure c:=by unfold cellOf;rw[hc]
   rw[if_pos hk,ec];show(forIn r ((n,c)::cs) _:Sem (List (Str×Addr)))=_;rw[wW r _ λy hy=>h y (qD _ hy)]
   conv=>rhs;unfold uq
   rw[if_pos hk,hc];rfl
  ·rw[if_neg hk]
   show(forIn r cs _:Sem (List (Str×Addr)))=_
   rw[wW r _ λy hy=>h y (qD _ hy)]
   conv=>rhs;unfold uq
   rw[if_neg hk]
theorem ya:∀(names:List (Str×NameKind)) (cs:List (Str×Addr)) (x:Str),(∀y∈names,y.2=.free->∃c,env.cells.lookup y.1=some c)->(∀c,cs.lookup x=some c->env.cells.lookup x=some c) ->
  (∀c,(uq env names cs).lookup x=some c->env.cells.lookup x=some c)/\(((∃c,cs.lookup x=some c)\/∃y∈names,y.1=x/\y.2=.free)->∃c,(uq env names cs).lookup x=some c)
 | [],cs,x,_,hcs=>⟨hcs,λh=>h.elim id λ⟨y,hy,_⟩=>by cases hy⟩
 | (n,k)::r,cs,x,h,hcs=>by
  unfold uq;by_cases hk:(k==NameKind.free)=true
  ·rw[if_pos hk]
   obtain⟨c,hc⟩:=h (n,k) qE (by simpa using hk);have ih:=ya r ((n,(env.cells.lookup n).getD 0)::cs) x (λy hy=>h y (qD _ hy)) (λc' e=>by
    rw[lookup_cons]at e;cases hx:x==n with
    |true =>
     have:x=n:=by simpa using hx
     subst this;rw[hx]at e;simp only[hc,Option.getD_some]at e;rw[hc];exact e
    |false=>rw[hx]at e;exact hcs c' e)
   refine⟨ih.1,λq=>ih.2 ?_⟩;rcases q with⟨c',q⟩|⟨y,hy,q1,q2⟩
   ·left
    rw[lookup_cons];cases hx:x==n with
    |true=>exact⟨_,rfl⟩|false=>exact⟨c',q⟩
   ·rcases mem_cons.mp hy with hy|hy
    ·subst hy
     left
     have q1:n=x:=q1;subst q1;exact⟨(env.cells.lookup n).getD 0,by rw[lookup_cons,beq_self_eq_true]⟩
    ·right;exact⟨y,hy,q1,q2⟩
  ·rw[if_neg hk]
   have ih:=ya r cs x (λy hy=>h y (qD _ hy)) hcs;refine⟨ih.1,λq=>ih.2 ?_⟩;rcases q with q|⟨y,hy,q1,q2⟩
   ·exact .inl q
   ·rcases mem_cons.mp hy with hy|hy
    ·subst hy
     exact absurd (by simpa using q2) hk
    ·exact .inr ⟨y,hy,q1,q2⟩
theorem JV:∀(names:List (Str×NameKind)) (h:Heap) (acc:List (Str×Addr)) (x:Str) (c:Addr),(cellsFrom h.objs.size names acc).lookup x=some c ->
  acc.lookup x=some c\/((x,NameKind.cell)∈names/\h.objs.size<=c/\(pushCells h names).IsCell c none)
 | [],h,acc,x,c,e=>.inl e
 | (n,k)::r,h,acc,x,c,e=>by
  unfold cellsFrom at e;unfold pushCells;split at e
  ·rename_i hk
   rw[if_pos hk];have sz:(h.push {cls:=.type "cell",data:=.cell none}).objs.size=h.objs.size+1:=size_push ..;rw[<- sz]at e;rcases JV r (h.push {cls:=.type "cell",data:=.cell none}) _ x c e with q|⟨q1,q2,q3⟩
   ·rw[lookup_cons]at q
    cases hx:x==n with
    |true =>
     rw[hx]at q;cases q;have hx':x=n:=by simpa using hx
     have hk':k=.cell:=by simpa using hk
     subst hx';subst hk';exact .inr ⟨qE,le_refl _,⟨_,pushCells_keeps _ _ _ _ (get?_push_size _ rfl),rfl⟩⟩
    |false=>rw[hx]at q;exact .inl q
   ·exact .inr ⟨qD _ q1,by rw[sz]at q2;omega,q3⟩
  ·rename_i hk
   rw[if_neg hk];rcases JV r h acc x c e with q|⟨q1,q2,q3⟩
   ·exact .inl q
   ·exact .inr ⟨qD _ q1,q2,q3⟩
theorem ZR:∀(names:List (Str×NameKind)) (n:Nat) (acc:List (Str×Addr)) (x:Str),(x,NameKind.cell)∉names->(cellsFrom n names acc).lookup x=acc.lookup x
 | [],n,acc,x,_=>rfl
 | (y,k)::r,n,acc,x,h=>by
  simp only[mem_cons,not_or]at h;unfold cellsFrom;split
  ·rename_i hk
   rw[ZR r _ _ x h.2,lookup_cons];cases hx:x==y with
   |true =>
    have hx':x=y:=by simpa using hx
    have hk':k=.cell:=by simpa using hk
    subst hx';subst hk';exact absurd rfl h.1
   |false=>rfl
  ·exact ZR r _ _ x h.2
theorem Qj:∀(names:List (Str×NameKind)) (n:Nat) (acc:List (Str×Addr)) (x:Str) (c:Addr),(x,NameKind.cell)∈names->(cellsFrom n names acc).lookup x=some c->n<=c
 | [],_,_,_,_,h,_=>by cases h
 | (y,k)::r,n,acc,x,c,h,e=>by
  unfold cellsFrom at e;by_cases hr:(x,NameKind.cell)∈r
  ·split at e
   ·exact Nat.le_of_succ_le (Qj r _ _ x c hr e)
   ·exact Qj r _ _ x c hr e
  ·rcases mem_cons.mp h with q|q
   ·cases q
    rw[if_pos (by rfl),ZR r _ _ _ hr,lookup_cons,beq_self_eq_true]at e;cases e;exact le_refl _
   ·exact absurd q hr
theorem Ql:∀(names:List (Str×NameKind)) (n:Nat) (acc:List (Str×Addr)),(∀x y c,acc.lookup x=some c->acc.lookup y=some c->x=y)->(∀x c,acc.lookup x=some c->c<n) ->
  ∀x y c,(cellsFrom n names acc).lookup x=some c->(cellsFrom n names acc).lookup y=some c->x=y
 | [],n,acc,hi,_,x,y,c,e1,e2=>hi x y c e1 e2
 | (z,k)::r,n,acc,hi,hb,x,y,c,e1,e2=>by
  unfold cellsFrom at e1 e2;split at e1
  ·refine Ql r (n+1) ((z,n)::acc) (λx y c e1 e2=>?_) (λx c e=>?_) x y c e1 (by rename_i hk;rwa [if_pos hk]at e2)
   ·rw[lookup_cons]at e1 e2
    cases hx:x==z with
    |true =>
     rw[hx]at e1;cases e1;have hx':x=z:=by simpa using hx
     cases hy:y==z with
     |true =>
      have hy':y=z:=by simpa using hy
      rw[hx',hy']
     |false=>rw[hy]at e2;exact absurd (hb y _ e2) (lt_irrefl _)
    |false =>
     rw[hx]at e1;cases hy:y==z with
     |true=>rw[hy]at e2;cases e2;exact absurd (hb x _ e1) (lt_irrefl _)|false=>rw[hy]at e2;exact hi x y c e1 e2
   ·rw[lookup_cons]at e
    cases hx:x==z with
    |true=>rw[hx]at e;cases e;exact lt_succ_self _|false=>rw[hx]at e;exact lt_succ_of_lt (hb x c e)
  ·exact Ql r n acc hi hb x y c e1 (by rename_i hk;rwa [if_neg hk]at e2)
def jb{E:Value->Shared->Prop}{Q:Env->Shared->Prop}
  (hQ:Q (newEnv scope s.heap.objs.size globals (cellsFrom (s.heap.objs.size+1) scope.names cl) qual none .none (some env) builtinsNs) {s with heap:=pushCells (s.heap.push {cls:=.type "dict",data:=.dict #[]}) scope.names}) :
  wpAny M A (newFunctionEnv scope globals cl [] qual none .none (some env)) Q E s:=by
 simp only[newFunctionEnv,Option.isSome_some,if_true];refine qB (wpAny_alloc ?_);refine qB (wpAny_layCells _ (λname kind cells=>by cases hkc:kind==NameKind.cell<;>simp[hkc]) _ _ _ _ ?_);rw[show({s with heap:=s.heap.push {cls:=.type "dict",data:=.dict #[]}}:Shared).heap.objs.size=s.heap.objs.size+1 from size_push ..]
 rw[forIn_nil];exact qB (qC (qC hQ))
section
variable{X:Cx}{elt target iter:Expr}{ifs:List Expr}{scope:Scope}{pos:Pos}{nl:Nat}{caps:List Nat}{N':List Str}
def Qm{use:Option (Value->Sem Unit)}{QQ:Value->Shared->Prop}(hx:∀e s,¬X.xe e s)(hc:X.calm=true)(hkind:scope.kind=.function)(hnames:∀y∈scope.names,y.2=.local->scope.names.lookup y.1=some .local)(hcell:∀y∈scope.names,y.2=.cell->scope.names.lookup y.1=some .cell)
  (hfree:(scope.names.all λy=>y.2 != .free||X.env.kindOf y.1==some .cell)=true)
  (hlen:N'.length=nl+caps.length) (hcap:∀(i j:Nat),caps[i]?=some j->∃x,N'[nl+i]?=some x/\X.N[j]?=some x/\scope.names.lookup x=some .free)
  (hi:PI X target iter wi) (hg:∀cl C ex s H,PG (cxB X N' scope cl C ex s H) target g) (ht:∀cl C ex s H,zAr (cxB X N' scope cl C ex s H) ifs tt) (he:∀cl C ex s H,PE (cxB X N' scope cl C ex s H) elt te)
  (hs:∀x,foldedSetIterable iter X.env x=pure x) (I:Inv X pins O H s) (h:zFu nl caps wi g tt te O H Q)
  (hfin:∀(D C:Addr) (H5:Hp) (s6:Shared) (m6:Str->Option Value),Inv X pins O H5 s6->QK X pins H5 C->s6.heap.Ns C m6->Q (.ref D) H5->compPost (model X.prog X.w) X.A X.xe use QQ (.ref D) C (.ok .next) s6) :
  wpAny (model X.prog X.w) X.A (comprehension (.ListComp elt [⟨target,iter,ifs,0⟩] scope pos) scope X.env p0 (newList []) false (eval iter X.env) use) QQ X.xe s:=by
 have hfr:∀y∈scope.names,y.2=.free->X.env.kindOf y.1=some .cell:=λy hy e=>by
  have:=all_eq_true.mp hfree y hy;rw[e]at this;simpa using this
 have hcl:∀y∈scope.names,y.2=.free->∃c,X.env.cells.lookup y.1=some c:=λy hy e=>I.ok.has y.1 (.inl (hfr y hy e))
 have hclos:closureFor scope X.env=pure (uq X.env scope.names []):=by
  simp only[closureFor];rw[wW scope.names [] hcl];rfl
 have cl1:∀x c,(uq X.env scope.names []).lookup x=some c->X.env.cells.lookup x=some c:=λx c e=>(ya scope.names [] x hcl (λ_ z=>by cases z)).1 c e
 have cl2:∀x,(∃y∈scope.names,y.1=x/\y.2=.free)->∃c,(uq X.env scope.names []).lookup x=some c:=λx q=>(ya scope.names [] x hcl (λ_ z=>by cases z)).2 (.inr q)
 generalize uq X.env scope.names []=cl at hclos cl1 cl2;refine wpAny_comprehension_free (use:=use) rfl hs hclos hkind hnames (thn (hi pins s O H _ I h) λxv s1 h1=>thn h1 λitv s2 h2=>?_);obtain⟨it,fp,tn,J,H2,e,I2,T,st2,f2,turn⟩:=h2;subst e;refine wpAny_newObj_type (jb ?_) (by show(#[]:Array Value).size<=sizeLine;simp);dsimp only;generalize hH3:s2.heap.push {cls:=.type "list",dict:=none,data:=.seq ([]:List Value).toArray}=h3;have hC:h3.objs.size=s2.heap.objs.size+1:=by rw[<- hH3,size_push]
 have hD:H2 s2.heap.objs.size=none:=I2.hok.fresh (le_refl _);obtain⟨W,⟨m0,w0⟩,step⟩:=turn s2.heap.objs.size hD
 -- the state at the block's entry
 have I3:Inv X pins O (upd H2 s2.heap.objs.size (.l [])) {s2 with heap:=h3}:=by
  rw[<- hH3];exact I2.laid (t':=s2.toks) (λb o q=>qA _ q) (le_refl _) ⟨zero_le _,[],0,.nil,get?_push_size _ rfl⟩
 have hcfr:∀x,scope.names.lookup x=some .free->(x,NameKind.cell)∉scope.names:=λx e z=>by
  have:=hcell _ z rfl;rw[e]at this;cases this
 have szp:(h3.push {cls:=.type "dict",data:=.dict #[]}).objs.size=h3.objs.size+1:=size_push ..;have cw:∀x c,(cellsFrom (h3.objs.size+1) scope.names cl).lookup x=some c->cl.lookup x=some c\/((x,NameKind.cell)∈scope.names/\h3.objs.size+1<=c/\(pushCells (h3.push {cls:=.type "dict",data:=.dict #[]}) scope.names).IsCell c none):=λx c e=>by
  rw[<- szp]at e ⊢;exact JV _ _ _ x c e
 have cfr:∀x,scope.names.lookup x=some .free->(cellsFrom (h3.objs.size+1) scope.names cl).lookup x=cl.lookup x:=λx e=>ZR _ _ _ x (hcfr x e)
 have chas:∀x,scope.names.lookup x=some .cell->∃c,(cellsFrom (h3.objs.size+1) scope.names cl).lookup x=some c:=λx e=>by
  have:=cellsFrom_some scope.names (h3.objs.size+1) cl (x:=x) (.inl e);exact Option.isSome_iff_exists.mp this
 have clt:∀x c,cl.lookup x=some c->c<h3.objs.size:=λx c e=>by
  obtain⟨v,q⟩:=I3.cell x c (cl1 x c e);exact q.lt
 have cinj:=Ql scope.names (h3.objs.size+1) cl (λx y c e1 e2=>I.ok.inj x y c (cl1 x c e1) (cl1 y c e2)) λx c e=>lt_succ_of_lt (clt x c e)
 have hns₁:(pushCells (h3.push {cls:=.type "dict",data:=.dict #[]}) scope.names).Ns h3.objs.size λ_=>none:=(Heap.Ns.new h3 (.type "dict")).keeps (pushCells_keeps _ _)
 have old:∀b o,h3.get? b=some o->(pushCells (h3.push {cls:=.type "dict",data:=.dict #[]}) scope.names).get? b=some o:=λb o e=>pushCells_keeps _ _ b o (qA _ e)
 generalize hh1:pushCells (h3.push {cls:=.type "dict",data:=.dict #[]}) scope.names=h₁ at hns₁ old cw ⊢;generalize hcs:cellsFrom (h3.objs.size+1) scope.names cl=cs at cw cfr chas cinj ⊢;have fpD:∀b∈fp,b≠s2.heap.objs.size:=λb hb z=>by
  obtain⟨o,e,_⟩:=T.obj 0 s2.heap st2 b hb;subst z;exact absurd (lt_size e) (lt_irrefl _)
 have fp3:∀b∈fp,upd H2 s2.heap.objs.size (.l []) b=none:=λb hb=>by rw[zk (fpD b hb)];exact(f2 b hb).1
 have fpC:∀b∈fp,b≠h3.objs.size:=λb hb z=>by
  obtain⟨o,e,_⟩:=T.obj 0 s2.heap st2 b hb;have q:b<s2.heap.objs.size:=lt_size e;rw[z,hC]at q;exact absurd q (not_lt.mpr (le_succ _))
 have hCn:upd H2 s2.heap.objs.size (.l []) h3.objs.size=none:=I3.hok.fresh (le_refl _);have fpok:∀b∈fp,(b∈X.ex\/X.s₀.heap.objs.size<=b)/\b≠X.env.locals/\(∀x c,X.env.cells.lookup x=some c->c≠b)/\∀p∈X.pn++pins,p.1≠b:=λb hb=>by
  obtain⟨_,q2,_,q4,q5,q6⟩:=f2 b hb;exact⟨q4,q2,q5,q6⟩
 have fpH:∀b∈fp,b<h3.objs.size:=λb hb=>by
  obtain⟨o,e,_⟩:=T.obj 0 s2.heap st2 b hb;have q:b<s2.heap.objs.size:=lt_size e;rw[hC];exact lt_succ_of_lt q
 have fpcs:∀b∈fp,∀x c,cs.lookup x=some c->c≠b:=λb hb x c e=>by
  rcases cw x c e with q|⟨_,q,_⟩
  ·exact(fpok b hb).2.2.1 x c (cl1 x c q)
  ·intro z;subst z
   exact absurd (lt_of_lt_of_le (fpH _ hb) (Nat.le_of_succ_le q)) (lt_irrefl _)
 let Y:Cx:=cxB X N' scope cs h3.objs.size fp {s2 with heap:=h3} (upd H2 s2.heap.objs.size (.l []))
 have kindY:∀x k,Y.env.kindOf x=some k->∃k0,scope.names.lookup x=some k0/\(k=k0\/(k0=.free/\k=.cell)):=λx k e=>jS e
 have okY:Y.Ok:={
  mod:=I.ok.mod
  kind:=hkind
  glob:=I.ok.glob
  blt:=I.ok.blt
  above:=le_refl _
  inj:=cinj
  has:=λx q=>by
   have:scope.names.lookup x=some .cell\/scope.names.lookup x=some .free:=by
    rcases q with q|q
    ·obtain⟨k0,e,z⟩:=kindY x _ q
     rcases z with z|z
     ·subst z;exact .inl e
     ·rw[z.1]at e;exact .inr e
    ·obtain⟨k0,e,z⟩:=kindY x _ q
     rcases z with z|z
     ·subst z;exact .inr e
     ·rw[z.1]at e;exact .inr e
   rcases this with q|q
   ·exact chas x q
   ·obtain⟨c,e⟩:=cl2 x ⟨(x,.free),PySem.mem_of_lookup q,rfl,rfl⟩
    exact⟨c,by show cs.lookup x=_;rw[cfr x q];exact e⟩
  cab:=λx c z e=>by
   have z:scope.names.lookup x=some .cell:=by
    have z:(scope.names.lookup x==some NameKind.cell)=true:=z;simpa using z
   have e:cs.lookup x=some c:=e;rw[<- hcs]at e;exact le_trans (le_succ _) (Qj _ _ _ x c (PySem.mem_of_lookup z) e)
  hd:=I.ok.hd
  frames:=I.ok.frames
  stk:=.inl rfl
  exf:=λb hb=>⟨fpC b hb,fpcs b hb⟩
  bs:=λb o e=>I3.bs b o e
  bsz:=le_trans I.ok.bsz I3.sz
  noex:=λb o e hb=>by
   obtain⟨q,_⟩:=fpok b hb;rcases q with q|q
   ·exact I.ok.noex b o e q
   ·exact absurd (lt_of_lt_of_le (lt_size e) I.ok.bsz) (not_lt.mpr q)
  exfs:=λb hb z=>by
   have:=I2.stkSub b z;rcases mem_cons.mp this with q|q
   ·exact(fpok b hb).2.1 q
   ·exact(f2 b hb).2.2.1 q
  funs:=I3.stack
  frf:=I3.stkFree}
 have keep1:∀b o,h3.get? b=some o->h₁.get? b=some o:=old;have lenY:(zK nl caps O).length=N'.length:=by unfold zK;simp[hlen]
 have IY:Inv Y [] (zK nl caps O) (upd H2 s2.heap.objs.size (.l [])) {s2 with heap:=h₁}:={
  ok:=okY
  os:=rfl
  bare:=I3.bare
  base:=Un.kept keep1
  loc:=by
   refine⟨_,hns₁,λi x v e1 e2 e3=>?_⟩;have e1:N'[i]?=some x:=e1;have hi:nl<=i:=by
    by_cases z:nl<=i
    ·exact z
    ·unfold zK at e2
     rw[getElem?_append_left (by simp;omega),List.getElem?_replicate]at e2;split at e2<;>cases e2
   unfold zK at e2;rw[getElem?_append_right (by simpa using hi),length_replicate,getElem?_map]at e2;cases ej:caps[i-nl]? with
   |none=>rw[ej]at e2;cases e2
   |some j =>
    rw[ej]at e2;simp only[Option.map_some,Option.some.injEq]at e2;obtain⟨x',c1,c2,c3⟩:=hcap (i-nl) j ej;have ex:x'=x:=by
     rw[show nl+(i-nl)=i by omega,e1]at c1;exact(qJ c1).symm
    subst ex;have e4:O[j]?=some (some v):=by
     cases z:O[j]? with
     |none=>rw[z]at e2;cases e2|some o=>rw[z]at e2;simp at e2;rw[e2]
    have kx:X.env.kindOf x'=some .cell:=hfr (x',.free) (PySem.mem_of_lookup c3) rfl;obtain⟨mm,_,lk⟩:=I3.loc;obtain⟨u,ru,lu⟩:=lk j x' v c2 e4 (.inr (.inl kx));refine⟨u,ru,?_⟩;rcases lu with⟨z,_⟩|⟨_,c,d1,d2⟩
    ·rw[kx]at z;cases z
    ·obtain⟨c',d3⟩:=cl2 x' ⟨(x',.free),PySem.mem_of_lookup c3,rfl,rfl⟩
     have:c'=c:=by have:=cl1 x' c' d3;rw[d1]at this;exact(qJ this).symm
     subst this;exact .inr ⟨.inl (wF c3 I.ok.kind kx),c',by show cs.lookup _=_;rw[cfr x' c3];exact d3,d2.keeps old⟩
  cell:=λx c e=>by
   rcases cw x c e with e|⟨_,_,q⟩
   ·obtain⟨v,q⟩:=I3.cell x c (cl1 x c e)
    exact⟨v,q.keeps old⟩
   ·exact⟨_,q⟩
  free:=hCn
  freeC:=λx c e=>by
   rcases cw x c e with e|⟨_,q,_⟩
   ·exact I3.freeC x c (cl1 x c e)
   ·exact I3.hok.fresh (le_trans (le_succ _) q)
  pin:=λp hp=>absurd (show p∈([]:List (Addr×Obj))from hp) (by simp)
  hok:=I3.hok.kept old
  len:=lenY}
 have st1:tn 0 h₁:=T.keep 0 s2.heap h₁ st2 λb hb o e=>old b o (by rw[<- hH3];exact qA _ e)
 have fpY:∀{H':Hp},(∀b∈fp,H' b=none)->∀b∈fp,QK Y [] H' b:=λhn b hb =>
  ⟨hn b hb,fpC b hb,okY.exfs b hb,.inl hb,fpcs b hb,λp hp=>absurd (show p∈([]:List (Addr×Obj))from hp) (by simp)⟩
 have hA:Y.A=X.A:=rfl;have noE:∀{E':Value->Shared->Prop} {e:Value} {s:Shared},X.xe e s->E' e s:=λq=>absurd q (hx _ _)
 have fin:∀s₄:Shared,s₄={s2 with heap:=h₁} ->
   codeAny (model X.prog X.w) X.A (.compLoop (.ListComp elt [⟨target,iter,ifs,0⟩] scope pos) 0 (.ref it) (.ref s2.heap.objs.size) Y.env)
    (compPost (model X.prog X.w) X.A X.xe use QQ (.ref s2.heap.objs.size) h3.objs.size) s₄:=by
  rintro s₄ rfl
  refine YO (λn s'=>∃i O' H',Inv Y [] O' H' s'/\tn i s'.heap/\(∀b∈fp,H' b=none)/\W i n O' H') ?_ m0 ⟨0,zK nl caps O,_,IY,st1,fp3,w0⟩
  rintro n s5 ⟨i,O5,H5,I5,st5,fr5,w5⟩
  rcases step i n O5 H5 w5 with⟨stop,q⟩|⟨go,Nx,hN,turn⟩
  ·refine wpAny_mono (T.done Y rfl rfl rfl hc i [] s5 O5 H5 (λ_ _=>False) I5 (fpY fr5) st5 stop) (λr s6 ⟨hr,I6⟩=>?_) (λ_ _ z=>z.elim)
   subst hr;obtain⟨m6,n6,_⟩:=I6.loc;have u:Un (frs X.stack) fp (upd H2 s2.heap.objs.size (.l [])) H5 h3 s6.heap:=I6.base;have I7:Inv X pins O H5 s6:=I3.call' (s':=s6) (ch:=fp) I6.os u I6.hok I6.bare fpok;exact hfin _ _ H5 s6 m6 I7 (I3.fpOk (le_refl _) I6.free) n6 q
  ·refine wpAny_mono (T.item Y rfl rfl rfl hc i [] s5 O5 H5 (λ_ _=>False) I5 (fpY fr5) st5 go) (λr s6 ⟨u,hr,h6⟩=>?_) (λ_ _ z=>z.elim)
   subst hr;refine wpAny_mono h6 (λ_ s7 ⟨x,H7,I7,r7,y7,st7,fr7⟩=>?_) (λ_ _ z=>z.elim);have I7':=I7.pinned (fpY fr7) (T.obj _ _ st7);refine wpAny_mono (hg _ _ _ _ _ _ s7 O5 H7 x u _ I7' r7 (turn x H7 y7)) (λ_ s8 ⟨O8,H8,I8,q8⟩=>?_) (λ_ _ z=>noE z);refine wpAny_mono (ht _ _ _ _ _ _ s8 O8 H8 _ I8 q8) (λb s9 ⟨H9,I9,q9⟩=>?_) (λ_ _ z=>noE z);have again:∀{O7:St} {H':Hp} {s':Shared},Inv Y ([]++Zr fp s7.heap) O7 H' s'->Nx O7 H'->∃m,m<n/\∃i O' H',Inv Y [] O' H' s'/\tn i s'.heap/\(∀b∈fp,H' b=none)/\W i m O' H':=λ{O7 H' s'} I' n7=>by
    obtain⟨m',hm,w7⟩:=hN O7 H' n7;refine⟨m',hm,i+1,O7,H',I'.unpinned,T.keep _ _ _ st7 λb hb o e=>(I'.pin (b,o) (qK _ (qK _ (yV hb e)))).1,λb hb=>?_,w7⟩;obtain⟨o,e,d⟩:=T.obj _ _ st7 b hb;exact(I'.pin (b,o) (qK _ (qK _ (yV hb e)))).2.1
   cases b with
   |false =>
    rw[if_neg qF]at q9 ⊢;exact again I9 q9
   |true =>
    rw[if_pos rfl]at q9 ⊢;refine wpAny_mono (he _ _ _ _ _ _ s9 O8 H9 _ I9 q9) (λy s10 ⟨vy,H10,I10,r10,ys,hy,hz,n10⟩=>?_) (λ_ _ z=>noE z);have ap:=Wz (X:=Y) _ s10 O8 H10 (.ref s2.heap.objs.size) [vy] (.ref s2.heap.objs.size) [y] (λv H'=>Nx O8 H') I10 rfl (.cons r10 .nil) ⟨_,ys,vy,rfl,rfl,hy,hz,n10⟩;refine wpAny_mono ap (λ_ s11 ⟨v11,H11,I11,_,n11⟩=>?_) (λ_ _ z=>noE z);exact again I11 n11
 exact codeAny_compStart_list (fin _ rfl) (T.self X.A 0 _ _ _ st1 (fin _ rfl))
def pe_comp(hx:∀e s,¬X.xe e s)(hc:X.calm=true)(hkind:scope.kind=.function)(hnames:∀y∈scope.names,y.2=.local->scope.names.lookup y.1=some .local)(hcell:∀y∈scope.names,y.2=.cell->scope.names.lookup y.1=some .cell)
  (hfree:(scope.names.all λy=>y.2 != .free||X.env.kindOf y.1==some .cell)=true)
  (hlen:N'.length=nl+caps.length) (hcap:∀(i j:Nat),caps[i]?=some j->∃x,N'[nl+i]?=some x/\X.N[j]?=some x/\scope.names.lookup x=some .free)
  (hi:PI X target iter wi) (hg:∀cl C ex s H,PG (cxB X N' scope cl C ex s H) target g) (ht:∀cl C ex s H,zAr (cxB X N' scope cl C ex s H) ifs tt) (he:∀cl C ex s H,PE (cxB X N' scope cl C ex s H) elt te)
  (hs:∀x,foldedSetIterable iter X.env x=pure x:=by intro _;rfl):PE X (.ListComp elt [⟨target,iter,ifs,0⟩] scope pos) (zFu nl caps wi g tt te):=by
 intro pins s O H Q I h;rw[eval_ListComp];refine Qm (use:=none) hx hc hkind hnames hcell hfree hlen hcap hi hg ht he hs I h λD C H5 s6 m6 I7 f n6 q=>?_
 refine⟨m6,n6,λh' hs'=>?_⟩;obtain⟨f1,f2,f3,f4,f5,f6⟩:=f;exact⟨.ref D,H5,I7.turned (it:=C) (t':=s6.toks) (λb o hb e=>hs'.extBut b o hb e) f1 (λz=>f2 z) f4 f5 f6,rfl,q⟩
def ps_setC(hN:X.N.Nodup)(hi':X.N[i]?=some y)(hy:Loc X.env.scope y)(hf:X.fn y=true\/X.env.scope.names.lookup y=some .local)(hx:∀e s,¬X.xe e s)(hc:X.calm=true)(hkind:scope.kind=.function)(hnames:∀y∈scope.names,y.2=.local->scope.names.lookup y.1=some .local)(hcell:∀y∈scope.names,y.2=.cell->scope.names.lookup y.1=some .cell)
  (hfree:(scope.names.all λy=>y.2 != .free||X.env.kindOf y.1==some .cell)=true)
  (hlen:N'.length=nl+caps.length) (hcap:∀(i j:Nat),caps[i]?=some j->∃x,N'[nl+i]?=some x/\X.N[j]?=some x/\scope.names.lookup x=some .free)
  (hi:PI X target iter wi) (hg:∀cl C ex s H,PG (cxB X N' scope cl C ex s H) target g) (ht:∀cl C ex s H,zAr (cxB X N' scope cl C ex s H) ifs tt) (he:∀cl C ex s H,PE (cxB X N' scope cl C ex s H) elt te)
  (hs:∀x,foldedSetIterable iter X.env x=pure x) (hsw:swapsWith (.ListComp elt [⟨target,iter,ifs,0⟩] scope pos) (some (.Name y py)) spos.line X.env=pure true) :
  PS X (.Assign [.Name y py] (.ListComp elt [⟨target,iter,ifs,0⟩] scope pos) spos) (zFI (zFu nl caps wi g tt te) (GR i)):=by
 intro pins s O H D I h;rw[exec_Assign_Name_used _ _ _ _ hsw];refine qB (wpAny_standAt (qB ?_));show wpAny _ X.A (do let _ <- comprehension (.ListComp elt [⟨target,iter,ifs,0⟩] scope pos) scope X.env _ (newList []) false (eval iter X.env) (some (assign (.Name y py) X.env))) _ _ s;refine qB (wpAny_mono (Qm (use:=some (assign (.Name y py) X.env)) (QQ:=λ_ s'=>SP X pins D .next s') hx hc hkind hnames hcell hfree hlen hcap hi hg ht he hs I h λDa C H5 s6 m6 I7 f n6 q=>?_) (λ_ s' hq=>qC (qC hq)) λ_ _ e=>e);obtain⟨f1,f2,f3,f4,f5,f6⟩:=f;show wpAny _ X.A (assign (.Name y py) X.env (.ref Da)) _ _ s6;refine wpAny_assign_Name (Yl I7 hN hi' hy (v:=.ref Da) rfl (λs7 I8 ⟨a,sb,ha⟩=>?_) hf);have hne:C≠a:=by
  rcases ha with ha|ha
  ·rw[ha];exact f2
  ·exact λz=>f5 y a ha z.symm
 refine⟨m6,n6.sameBut sb hne,λh' hs'=>?_⟩;exact⟨_,H5,I8.turned (it:=C) (t':=s7.toks) (λb o hb e=>hs'.extBut b o hb e) f1 (λz=>f2 z) f4 f5 f6,q⟩
end
end L2
namespace DV
open PySem L2
section
variable{X:Cx}{K:qH}{mg:Str->Option Value}{O:St}{M:Addr->Prop}{E:zS}{H:Hp}{T0 Z T:Fz}
structure ItOk(K:qH)(mg:Str->Option Value)(J:It)(ds:List D)(Iv:Hp->Prop):Prop where
 mono:∀H H',ZK H H'->Iv H->Iv H'
 go:∀i Hh H,ZK Hh H->Iv Hh->i<ds.length->J.go i H
 yld:∀i Hh H x H',ZK Hh H->Iv Hh->i<ds.length->J.yld i H x H'->∃d,ds[i]?=some d/\((H'=H/\Rep K mg Hh d x)\/∃q xs es,H q=none/\H'=upd H q (.t xs)/\x=.ref q/\d=.t es/\Reps K mg Hh es xs)
 stop:∀i Hh H,ZK Hh H->Iv Hh->ds.length<=i->J.stop i H
abbrev MI:=zS->Out (List D×zS)
def tMI(X:Cx)(m:MI):TI:=λO H R=>∃M E,E.length=O.length/\FR X.K X.mg M H (O.zip E)/\match m E with
 | .z=>False| .ok (ds,E')=>∀J Iv H',ItOk X.K X.mg J ds Iv->Iv (Hm (Mo M (O.zip E')) H')->Got X.K X.mg M O E H [] O E' H' []->R J H'| .exc x E'=>∀H',Got X.K X.mg M O E H [] O E' H' []->XE X O H' x
abbrev IOk(X:Cx)(tg e:Expr)(m:MI):Prop:=PI X tg e (tMI X m)
def Z0(h:PI X tg e t)(i:∀O H R,t' O H R->t O H R):PI X tg e t':=λpins s O H R I q=>h pins s O H R I (i O H R q)
def iL(m:ME):MI:=λE=>match m E with
 | .z=>.z| .exc x E1=>.exc x E1
 | .ok (r,E1)=>match r.d with
  | .l ds=>.ok (ds,E1)|_=>.z
def iT(m:ME):MI:=λE=>match m E with
 | .z=>.z| .exc x E1=>.exc x E1
 | .ok (r,E1)=>match r.d with
  | .t ds=>.ok (ds,E1)|_=>.z
def it_list:ItOk K mg (Itl K a) ds (λH=>SqL K H a xs/\Reps K mg H ds xs) where
 mono:=λH H' s h=>⟨s.seq h.1,h.2.mono s⟩
 go:=λi Hh H s h hi=>⟨xs,xs[i]'(by rw[h.2.length];exact hi),s.seq h.1,by simp⟩
 yld:=λi Hh H x H' s h hi y=>by
  obtain⟨e,y⟩:=y;obtain⟨d,h1,h2⟩:=h.2.get (y xs (s.seq h.1));exact⟨d,h1,.inl ⟨e,h2⟩⟩
 stop:=λi Hh H s h hi=>⟨xs,s.seq h.1,by rw[h.2.length];exact hi⟩
def it_tup:ItOk K mg (Itt K a) ds (λH=>SqT K H a xs/\Reps K mg H ds xs) where
 mono:=λH H' s h=>⟨zO s h.1,h.2.mono s⟩
 go:=λi Hh H s h hi=>⟨xs,xs[i]'(by rw[h.2.length];exact hi),zO s h.1,by simp⟩
 yld:=λi Hh H x H' s h hi y=>by
  obtain⟨e,y⟩:=y;obtain⟨d,h1,h2⟩:=h.2.get (y xs (zO s h.1));exact⟨d,h1,.inl ⟨e,h2⟩⟩
 stop:=λi Hh H s h hi=>⟨xs,zO s h.1,by rw[h.2.length];exact hi⟩
def Qn:∀(n i:Nat) (lo:Int),i<n->(zH lo n)[i]?=some (.int (lo+i)):=λn i lo h=>by
 have:=wn n i lo h;have e:((zH lo n).drop i)[0]?=some (.int (lo+i)):=by rw[this];rfl
 rw[List.getElem?_drop]at e;simpa using e
def it_rng:ItOk K mg (Itr lo n) (zH lo n) (λ_=>True) where
 mono:=λ_ _ _ h=>h
 go:=λi Hh H s h hi=>by rw[yZ]at hi;exact hi
 yld:=λi Hh H x H' s h hi y=>by
  obtain⟨e,y⟩:=y;rw[yZ]at hi;exact⟨_,Qn n i lo hi,.inl ⟨e,by rw[y];simp only[Rep]⟩⟩
 stop:=λi Hh H s h hi=>by rw[yZ]at hi;exact hi
def zAs(h:EOk X e m):IOk X tg e (iL m):=Z0 (zDC h) λO H R ⟨M,E,hl,fr,k⟩=>by
 unfold iL at k;refine zu (T0:=[]) hl fr ?_;cases ea:m E with
 |z=>rw[ea]at k;exact k|exc x E1=>rw[ea]at k;exact k
 |ok p =>
  obtain⟨r,E1⟩:=p;rw[ea]at k;intro v H1 g;dsimp only at k;cases ed:r.d with
  |l ds =>
   rw[ed]at k;have rl:=g.rep;rw[ed]at rl;obtain⟨a,xs,rfl,q1,q2⟩:=yX rl;exact⟨a,rfl,⟨xs,zF.seq q1⟩,k _ _ H1 it_list ⟨q1,q2⟩ g.dropAll⟩
  |_=>rw[ed]at k;exact k.elim
def zG9(h:EOk X e m):IOk X tg e (iT m):=Z0 (pi_tup h) λO H R ⟨M,E,hl,fr,k⟩=>by
 unfold iT at k;refine zu (T0:=[]) hl fr ?_;cases ea:m E with
 |z=>rw[ea]at k;exact k|exc x E1=>rw[ea]at k;exact k
 |ok p =>
  obtain⟨r,E1⟩:=p;rw[ea]at k;intro v H1 g;dsimp only at k;cases ed:r.d with
  |t ds =>
   rw[ed]at k;have rl:=g.rep;rw[ed]at rl;obtain⟨a,xs,rfl,q1,q2⟩:=yp rl;exact⟨a,rfl,⟨xs,zO zF q1⟩,k _ _ H1 it_tup ⟨q1,q2⟩ g.dropAll⟩
  |_=>rw[ed]at k;exact k.elim
def iR1(m:MA):MI:=λE=>match m E with
 | .z=>.z| .exc x E1=>.exc x E1
 | .ok ([r],E1)=>match r.d with
  | .int j=>if -(2^62)<=j/\j<2^62 then .ok (zH 0 j.toNat,E1)else .z|_=>.z
 |_=>.z
def io_r1(hgl:Gl X "range")(hm:X.mg "range"=none)(ha:AOk X [a] m)(hst:zV a=false:=by rfl):IOk X tg (.Call (.Name "range" p) [a] [] cpos) (iR1 m):=Z0 (QP hgl hm ha (zAm hst)) λO H R ⟨M,E,hl,fr,k⟩=>by
 unfold iR1 at k;refine wj (T0:=[]) hl fr ?_;cases ea:m E with
 |z=>rw[ea]at k;exact k|exc x E1=>rw[ea]at k;exact k
 |ok p =>
  obtain⟨rs,E1⟩:=p;rw[ea]at k
  match rs,k with
  | [r],k =>
   intro vs H1 hv g1;have rp:=Got.reps hv g1;dsimp only at k;cases ed:r.d with
   |int j =>
    rw[ed]at k;simp only[List.map,ed]at rp;obtain⟨v,rfl,h1⟩:=YL rp;dsimp only at k;by_cases hc:-(2^62)<=j/\j<2^62
    ·rw[if_pos hc]at k
     exact⟨j,by rw[zM h1],hc.1,hc.2,k _ _ H1 it_rng trivial g1.dropAll⟩
    ·rw[if_neg hc]at k;exact k.elim
   |_=>rw[ed]at k;exact k.elim
  | [],k=>exact k.elim|_::_::_,k=>exact k.elim
def WS(tg:MG)(tt:MT)(el:ME):List D->zS->List D->Out (List D×zS)
 | [],E,acc=>.ok (acc,E)
 |d::ds,E,acc=>match tg d E with
  | .ok E1=>match tt E1 with
   | .ok (true,E2)=>match el E2 with
    | .ok (r,E3)=>if acc.length<cap then WS tg tt el ds E3 (acc++[r.d])else .z|_=>.z
   | .ok (false,E2)=>WS tg tt el ds E2 acc|_=>.z
  |_=>.z
def JL(E:zS):List Nat->Out (List AR)
 | []=>.ok []
 |j::js=>match E[j]? with
  |some (.v d)=>match JL E js with
   | .ok as=>.ok (.tmp d::as)|_=>.z
  |some s=>match s.list? with
   |some _=>match JL E js with
    | .ok as=>.ok (.ln j::as)|_=>.z
   |none=>.z
  |none=>.z
def uF(nl:Nat)(caps:List Nat)(mi:MI)(tg:MG)(tt:MT)(el:ME):ME:=λE=>match mi E with
 | .z=>.z| .exc x E1=>.exc x E1
 | .ok (ds,E1)=>match JL E1 caps with
  | .ok ars=>match zL ars E1 with
   | .ok (ss,E2)=>match WS tg tt el ds (replicate nl .e++ss) []with
    | .ok (res,Eb)=>match zJ ars ((zb (replicate nl .e++ss) Eb).drop nl) E1 E2 with
     | .ok E3=>.ok (.own res,E3)|_=>.z
    |_=>.z
   |_=>.z
  |_=>.z
def jp:MT:=λE=>.ok (true,E)
abbrev zFv(X:Cx)(ifs:List Expr)(m:MT):Prop:=zAr X ifs (tMT X m)
def jq(h:zAr X ifs t)(i:∀O H Q,t' O H Q->t O H Q):zAr X ifs t':=λpins s O H Q I q=>h pins s O H Q I (i O H Q q)
def vF:zFv X [] jp:=jq pif_nil λO H Q ⟨M,E,hl,fr,k⟩=>k H (Got.refl (T0:=[]) hl fr)
def Gi(h:TOk X c m):zFv X [c] m:=pif_one h
theorem Qo:∀(js:List Nat) {as:List AR} {T:Fz},E.length=O.length->JL E js=.ok as->FR K mg M H (T++O.zip E) ->
  ∃vs,AV O as vs/\vs.map some=js.map (λj=>(O[j]?).getD none)/\FR K mg M H (T++(yE vs as++O.zip E))/\∀b,b∈yF (T++(yE vs as++O.zip E))->b∈yF (T++O.zip E)
 | [],as,T,hl,e,f=>by
  cases e;exact⟨[],by simp only[AV],rfl,f,λb q=>q⟩
 |j::js,as,T,hl,e,f=>by
  simp only[JL]at e;cases ej:E[j]? with
  |none=>rw[ej]at e;cases e
  |some s =>
   rw[ej]at e;obtain⟨o,h1,h2⟩:=jH hl ej;have lnk:∀{ds:List D},s.list?=some ds->(match JL E js with | .ok as=>Out.ok (AR.ln j::as)|_=>.z)=.ok as->∃vs,AV O as vs/\vs.map some=(j::js).map (λj=>(O[j]?).getD none)/\FR K mg M H (T++(yE vs as++O.zip E))/\∀b,b∈yF (T++(yE vs as++O.zip E))->b∈yF (T++O.zip E):=λ{ds} hs e=>by
    cases ec:JL E js with
    |z=>rw[ec]at e;cases e|exc _ _=>rw[ec]at e;cases e
    |ok as1 =>
     rw[ec]at e;cases e;obtain⟨a,xs,ev,_⟩:=f.ownL o s ds (qK _ h2) hs;subst ev;obtain⟨vs,q1,q2,q3,q4⟩:=Qo js hl ec f;have p:(T++(((some (V.ref a),Slot.e)::yE vs as1)++O.zip E)).Perm ((some (V.ref a),Slot.e)::(T++(yE vs as1++O.zip E))):=perm_middle;have fe:FR K mg M H ((some (V.ref a),Slot.e)::(T++(yE vs as1++O.zip E))):=q3.mask (.extra (by
      have:∀W:Fz,Mask W W:=by
       intro W
       induction W with
       |nil=>exact .nil _|cons x W ih=>exact .keep ih
      exact this _))
     refine⟨.ref a::vs,by simp only[AV];exact⟨_,vs,rfl,h1,q1⟩,by simp[h1,q2],fe.perm p.symm,λb hb=>?_⟩;have:=zD p b hb;rw[yA]at this;exact q4 b this
   cases s with
   |e=>cases e|own ds=>exact lnk rfl e|par ds=>exact lnk rfl e|dct _ _=>cases e
   |v d =>
    dsimp only at e;cases ec:JL E js with
    |z=>rw[ec]at e;cases e|exc _ _=>rw[ec]at e;cases e
    |ok as1 =>
     rw[ec]at e;cases e;obtain⟨v,ev,r⟩:=f.val o d (qK _ h2);subst ev;obtain⟨vs,q1,q2,q3,q4⟩:=Qo js hl ec f;obtain⟨v',ev',r'⟩:=q3.val (some v) d (qK _ (qK _ h2));cases ev';have p:(T++(((some v,Slot.v d)::yE vs as1)++O.zip E)).Perm ((some v,Slot.v d)::(T++(yE vs as1++O.zip E))):=perm_middle;refine⟨v::vs,by simp only[AV];exact⟨v,vs,rfl,q1⟩,by simp[h1,q2],(q3.add r').perm p.symm,λb hb=>?_⟩;have:=zD p b hb;rw[za]at this;exact q4 b this
def vG(n:Nat)(Z:Fz):yF (replicate n ((none:Option V),Slot.e)++Z)=yF Z:=by rw[zR,Gh,nil_append]
def FR.emps0(f:FR K mg M H Z)(n:Nat):FR K mg M H (replicate n (none,.e)++Z):=(f.emps n).perm perm_append_comm
end
def tN(K:qH)(mg:Str->Option Value)(m:ME):TE:=λO H Q=>∃M E,E.length=O.length/\FR K mg M H (O.zip E)/\match m E with
 | .ok (r,E')=>∀v H',Got K mg M O E H [] O E' H' [(some v,r.slot)]->Q v H'|_=>False
def tNT(K:qH)(mg:Str->Option Value)(m:MT):TT:=λO H Q=>∃M E,E.length=O.length/\FR K mg M H (O.zip E)/\match m E with
 | .ok (b,E')=>∀H',Got K mg M O E H [] O E' H' []->Q b H'|_=>False
section
variable{X:Cx}{K:qH}{mg:Str->Option Value}{O:St}{M:Addr->Prop}{E:zS}{H:Hp}{T0 Z T:Fz}
def zFA(h:tN X.K X.mg m O H Q):tM X m O H Q:=by
 obtain⟨M,E,hl,fr,k⟩:=h;refine⟨M,E,hl,fr,?_⟩;cases e:m E with
 |z=>rw[e]at k;exact k|exc x E1=>rw[e]at k;exact k.elim|ok p=>rw[e]at k;exact k
def Qp{Q:Bool->Hp->Prop}(h:tNT X.K X.mg m O H Q):tMT X m O H Q:=by
 obtain⟨M,E,hl,fr,k⟩:=h;refine⟨M,E,hl,fr,?_⟩;cases e:m E with
 |z=>rw[e]at k;exact k|exc x E1=>rw[e]at k;exact k.elim|ok p=>rw[e]at k;exact k
def zBr(hl:E.length=O.length)(h:FR K mg M H (T0++O.zip E))(e:m E=.ok (r,E'))(k:∀v H',Got K mg M O E H T0 O E' H' [(some v,r.slot)]->Q v H'):tN K mg m O H Q:=by
 refine⟨Mo M T0,E,hl,h.inner,?_⟩;rw[e];exact λv H' g=>k v H' (g.outer h)
def zAt{Q:Bool->Hp->Prop}(hl:E.length=O.length)(h:FR K mg M H (T0++O.zip E))(e:m E=.ok (b,E'))(k:∀H',Got K mg M O E H T0 O E' H' []->Q b H'):tNT K mg m O H Q:=by
 refine⟨Mo M T0,E,hl,h.inner,?_⟩;rw[e];exact λH' g=>k H' (g.outer h)
def vH{ars:List AR}{E1 E2 E3:zS}{ss outs:List Slot}{r:R}{vs:List V}{v:V}{H1 H':Hp}(e1:zL ars E1=.ok (ss,E2))(e3:zJ ars outs E1 E2=.ok E3)
  (av:AV O ars vs) (f1':FR K mg M H1 (O.zip E2++(vs.map some).zip ss)) (st1:Step M H (O.zip E) H1 (O.zip E2++(vs.map some).zip ss)) (l2:E2.length=O.length) (pk:PKp O E O E1)
  (f2:FR K mg (Mo M (O.zip E2)) H' ((some v,r.slot)::(vs.map some).zip outs)) (s2:Step (Mo M (O.zip E2)) H1 ((vs.map some).zip ss) H' ((some v,r.slot)::(vs.map some).zip outs)):Got K mg M O E H [] O E3 H' [(some v,r.slot)]:=by
 have f3:=FR.outer f1' f2 s2;have s3:=Step.outer s2;have p:(O.zip E2++((some v,r.slot)::(vs.map some).zip outs)).Perm ([(some v,r.slot)]++((vs.map some).zip outs++O.zip E2)):=by
  refine perm_append_comm.trans ?_;exact List.Perm.refl _
 obtain⟨f4,o4,l4⟩:=Gf ars l2 av e3 (f3.perm p);refine⟨l4,f4,?_,pk.trans (zDr e1 e3)⟩;have st2:=st1.trans s3;exact st2.weak λb hb=>zD p.symm b (o4 b hb)
theorem wX:∀(n:Nat) {Z W:Fz},Mask Z W->Mask Z (W.drop n)
 |0,_,_,h=>h|n+1,_,_,.nil Z=>by simp only[List.drop_nil];exact .nil _|n+1,_,_,.keep h=>.skip (wX n h)|n+1,_,_,.skip h=>.skip (wX (n+1) h)|n+1,_,_,.extra h=>wX n h
theorem Yu{α β:Type}:∀(n:Nat) (l:List α) (m:List β),(l.zip m).drop n=(l.drop n).zip (m.drop n)
 |0,_,_=>rfl|n+1,[],_=>by simp|n+1,_::_,[]=>by simp|n+1,_::l,_::m=>by simp[Yu n l m]
def yld_got{J:It}{ds:List D}{Iv:Hp->Prop}{O0 O':St}{E0 E':zS}{H1 H' H'':Hp}{Da:Addr}{acc:List D}{i:Nat}{x:V}(it:ItOk K mg J ds Iv)(hlt:i<ds.length)(gb:Got K mg M O0 E0 H1 [] O' E' H' [(some (.ref Da),.own acc)])(ivb:Iv (Hm (Mo M ((some (.ref Da),Slot.own acc)::O'.zip E')) H'))(y:J.yld i H' x H'') :
  ∃d,ds[i]?=some d/\Got K mg M O0 E0 H1 [] O' E' H'' [(some (.ref Da),.own acc)]/\Iv (Hm (Mo M ((some (.ref Da),Slot.own acc)::O'.zip E')) H'')/\Rep K mg (Hm (Mo M ((some (.ref Da),Slot.own acc)::O'.zip E')) H'') d x:=by
 obtain⟨d,hd,h⟩:=it.yld i _ _ x _ zF ivb hlt y;rcases h with⟨rfl,rx⟩|⟨q,xs,es,hq,rfl,rfl,rfl,rs⟩
 ·exact⟨d,hd,gb,ivb,rx⟩
 ·have f:FR K mg M H' ((some (.ref Da),Slot.own acc)::O'.zip E'):=gb.fr
  have f1:=f.newTup hq rs;have s1:Step M H' ((some (.ref Da),Slot.own acc)::O'.zip E') (upd H' q (.t xs)) ((some (.ref q),.v (.t es))::((some (.ref Da),Slot.own acc)::O'.zip E')):=Step.newVal hq;obtain⟨v,ev,rv⟩:=f1.val _ _ qE;cases ev;have sm:=s1.same;rw[wV]at rv sm;have s2:Step M H' ((some (.ref Da),Slot.own acc)::O'.zip E') (upd H' q (.t xs)) ((some (.ref Da),Slot.own acc)::O'.zip E'):=⟨sm,s1.keep⟩;exact⟨_,hd,⟨gb.len,f1.tail,gb.st.trans s2,gb.pk⟩,it.mono _ _ sm ivb,rv⟩
def zBs{nl:Nat}{caps:List Nat}{mi:MI}{tg:MG}{tt:MT}{el:ME}{g:TG}{Q:VK}(ho:GOk X g tg)(h:tM X (uF nl caps mi tg tt el) O H Q):zFu nl caps (tMI X mi) g (tNT X.K X.mg tt) (tN X.K X.mg el) O H Q:=by
 obtain⟨M,E,hl,fr,k⟩:=h;unfold uF at k;refine⟨M,E,hl,fr,?_⟩;cases ei:mi E with
 |z=>rw[ei]at k;exact k|exc x E1=>rw[ei]at k;exact k
 |ok p =>
  obtain⟨ds,E1⟩:=p;rw[ei]at k;intro J Iv H1 it iv g1 D hD;dsimp only at k;cases ec:JL E1 caps with
  |z=>rw[ec]at k;exact k.elim|exc _ _=>rw[ec]at k;exact k.elim
  |ok ars =>
   rw[ec]at k;dsimp only at k;cases el1:zL ars E1 with
   |z=>rw[el1]at k;exact k.elim|exc _ _=>rw[el1]at k;exact k.elim
   |ok p =>
    obtain⟨ss,E2⟩:=p;rw[el1]at k;dsimp only at k;cases em:WS tg tt el ds (replicate nl .e++ss) []with
    |z=>rw[em]at k;exact k.elim|exc _ _=>rw[em]at k;exact k.elim
    |ok p =>
     obtain⟨res,Eb⟩:=p;rw[em]at k;dsimp only at k;cases eb:zJ ars ((zb (replicate nl .e++ss) Eb).drop nl) E1 E2 with
     |z=>rw[eb]at k;exact k.elim|exc _ _=>rw[eb]at k;exact k.elim
     |ok E3 =>
      rw[eb]at k;obtain⟨vs,av,evs,f1,o1⟩:=Qo (T:=[]) caps g1.len ec g1.fr;obtain⟨f2,o2,l2,l3⟩:=YN (T:=[]) ars g1.len av el1 f1;have hv:=av.length;have f2':FR X.K X.mg M H1 (O.zip E2++(vs.map some).zip ss):=FR.perm (T:=O.zip E2++(vs.map some).zip ss) (Z:=(vs.map some).zip ss++O.zip E2) f2 perm_append_comm;have osub:∀b,b∈yF (O.zip E2++(vs.map some).zip ss)->b∈yF (O.zip E1):=λb hb =>
       o1 b ((o2 b).mpr (zD (T:=O.zip E2++(vs.map some).zip ss) (Z:=(vs.map some).zip ss++O.zip E2) perm_append_comm b hb))
      have st1:Step M H (O.zip E) H1 (O.zip E2++(vs.map some).zip ss):=g1.st.weak osub;have eO:zK nl caps O=replicate nl none++vs.map some:=by unfold L2.zK;rw[evs]
      rw[eO];have ez:(replicate nl (none:Option V)++vs.map some).zip (replicate nl Slot.e++ss)=replicate nl (none,.e)++(vs.map some).zip ss:=by
       rw[zip_append (by simp),vE]
      have f4:FR X.K X.mg (Mo M (O.zip E2)) H1 ((replicate nl (none:Option V)++vs.map some).zip (replicate nl Slot.e++ss)):=by
       rw[ez];exact(FR.inner f2').emps0 nl
      have oo:yF ((replicate nl (none:Option V)++vs.map some).zip (replicate nl Slot.e++ss))=yF ((vs.map some).zip ss):=by rw[ez,vG]
      generalize hO0:replicate nl (none:Option V)++vs.map some=O0 at f4 oo ⊢;generalize hE0:replicate nl Slot.e++ss=E0 at f4 oo em eb ⊢;have hl0:E0.length=O0.length:=by rw[<- hO0,<- hE0];simp[l2,hv]
      have f5:=f4.newOwn (ds:=[]) (xs:=[]) hD Reps.nil;have s5:=Step.newOwn (ds:=[]) (xs:=[]) f4 hD;have iv5:Iv (Hm (Mo (Mo M (O.zip E2)) ((some (.ref D),Slot.own [])::O0.zip E0)) (upd H1 D (.l []))):=by
       refine it.mono _ _ s5.same (it.mono _ _ (jF λb hb=>?_) iv);rcases hb with hb|hb
       ·rcases hb with hb|hb
        ·exact .inl hb
        ·exact .inr (osub b (by rw[zR];exact mem_append_left _ hb))
       ·rw[oo]at hb
        exact .inr (osub b (by rw[zR];exact qK _ hb))
      refine⟨λi m O' H'=>m=ds.length-i/\i<=ds.length/\∃E' acc,Got X.K X.mg (Mo M (O.zip E2)) O0 E0 H1 [] O' E' H' [(some (.ref D),.own acc)]/\Iv (Hm (Mo (Mo M (O.zip E2)) ((some (.ref D),Slot.own acc)::O'.zip E')) H')/\WS tg tt el (ds.drop i) E' acc=.ok (res,Eb),
       ⟨ds.length,by simp,zero_le _,E0,[],⟨hl0,f5,s5,PKp.refl⟩,iv5,em⟩,?_⟩
      rintro i m O' H' ⟨rfl,hi,E',acc,gb,ivb,cm⟩
      by_cases hlt:i<ds.length
      ·refine .inr ⟨it.go i _ H' zF ivb hlt,λO'' H''=>(i+1<=ds.length/\∃E' acc,Got X.K X.mg (Mo M (O.zip E2)) O0 E0 H1 [] O'' E' H'' [(some (.ref D),.own acc)]/\Iv (Hm (Mo (Mo M (O.zip E2)) ((some (.ref D),Slot.own acc)::O''.zip E')) H'')/\WS tg tt el (ds.drop (i+1)) E' acc=.ok (res,Eb)),
        λO'' H'' q=>⟨ds.length-(i+1),by omega,rfl,q⟩,λx H'' y=>?_⟩
       obtain⟨d,hd,gb,ivb,rx⟩:=yld_got it hlt gb ivb y;have ed:ds.drop i=d::ds.drop (i+1):=by
        obtain⟨hi',rfl⟩:=qG.mp hd;exact drop_eq_getElem_cons hi'
       rw[ed]at cm;simp only[WS]at cm;cases e1:tg d E' with
       |z=>rw[e1]at cm;cases cm|exc _ _=>rw[e1]at cm;cases cm
       |ok Ea =>
        rw[e1]at cm;dsimp only at cm;refine ho _ O' E' _ [(some (.ref D),.own acc)] x d Ea _ gb.len (gb.fr.add rx) e1 λO2 ga=>?_
        have g2:=gb.trans' ga;cases e2:tt Ea with
        |z=>rw[e2]at cm;cases cm|exc _ _=>rw[e2]at cm;cases cm
        |ok p =>
         obtain⟨b,Eb2⟩:=p;rw[e2]at cm;refine zAt ga.len ga.fr e2 λH3 gt=>?_
         have g3:=g2.trans' gt;have iv3:=it.mono _ _ (ga.st.same.trans gt.st.same) ivb;cases b with
         |false =>
          refine zE7 ⟨hlt,Eb2,acc,g3,iv3,cm⟩
         |true =>
          refine zE8 ?_;dsimp only at cm;cases e3:el Eb2 with
          |z=>rw[e3]at cm;cases cm|exc _ _=>rw[e3]at cm;cases cm
          |ok p =>
           obtain⟨r,Ec⟩:=p;rw[e3]at cm;dsimp only at cm;by_cases hcap:acc.length<cap
           ·rw[if_pos hcap]at cm
            refine zBr g3.len g3.fr e3 λyv H4 ge=>?_
            have g4:=g3.trans' ge;have fz:FR X.K X.mg (Mo M (O.zip E2)) H4 ((some yv,.v r.d)::((some (.ref D),Slot.own acc)::O2.zip Ec)):=g4.fr.frz;obtain⟨yv',ey,ry⟩:=fz.val _ _ qE;cases ey;rw[wV]at ry;have fo:=fz.tail;obtain⟨a,ys,ea,ha,_,rys⟩:=fo.ownL _ _ acc qE rfl;cases ea;refine⟨ys,ha,by rw[rys.length];exact lt_of_lt_of_le hcap (Yr (le_refl _)),hlt,Ec,acc++[r.d],?_⟩;obtain⟨fm,sm⟩:=FR.mut (i:=0) (s:=.own acc) fo rfl rfl (rys.append (Reps.cons ry Reps.nil));have fm':FR X.K X.mg (Mo M (O.zip E2)) (upd H4 D (.l (ys++[yv]))) ((some (.ref D),Slot.own (acc++[r.d]))::O2.zip Ec):=fm;have sm':Step (Mo M (O.zip E2)) H4 ((some (.ref D),Slot.own acc)::O2.zip Ec) (upd H4 D (.l (ys++[yv]))) ((some (.ref D),Slot.own (acc++[r.d]))::O2.zip Ec):=sm;have sz:Step (Mo M (O.zip E2)) H3 ((some (.ref D),Slot.own acc)::O2.zip Eb2) H4 ((some (.ref D),Slot.own acc)::O2.zip Ec):=ge.st.weak (zC (sublist_cons_self _ _));have sz0:Step (Mo M (O.zip E2)) H1 (O0.zip E0) H4 ((some (.ref D),Slot.own acc)::O2.zip Ec):=g4.st.weak (zC (sublist_cons_self _ _));exact⟨⟨g4.len,fm',sz0.trans sm',g4.pk⟩,it.mono _ _ (sz.same.trans sm'.same) iv3,cm⟩
           ·rw[if_neg hcap]at cm;cases cm
      ·have ei2:i=ds.length:=by omega
       subst ei2;rw[drop_length]at cm;simp only[WS]at cm;cases cm;refine .inl ⟨it.stop _ _ H' zF ivb (le_refl _),k _ H' ?_⟩;have mk0:Mask (O'.zip Eb) (O0.zip (zb E0 Eb)):=Jo E0 O0 O' Eb gb.len (hl0.symm) λj ds' e=>(gb.pk j ds' e).2
       have mk:Mask (O'.zip Eb) ((vs.map some).zip ((zb E0 Eb).drop nl)):=by
        have:=wX nl mk0;have e:(O0.zip (zb E0 Eb)).drop nl=(vs.map some).zip ((zb E0 Eb).drop nl):=by
         rw[Yu,<- hO0];congr 1;rw[drop_left' (by simp)]
        rw[e]at this;exact this
       refine vH (r:=.own res) el1 eb av f2' st1 l3 g1.pk (gb.fr.mask (.keep mk)) ?_;refine(gb.st.weak λb hb=>(Mask.keep mk).sub.subset hb).left λb hb=>?_
       show b∈yF _
       rw[nil_append,oo]at hb;exact hb
end
section
variable{X:Cx}{elt target iter:Expr}{ifs:List Expr}{scope:Scope}{pos:Pos}
def ok_comp(nl:Nat)(caps:List Nat)(N':List Str)(hx:∀e s,¬X.xe e s)(hc:X.calm=true)(hkind:scope.kind=.function)(hnames:∀y∈scope.names,y.2=.local->scope.names.lookup y.1=some .local)(hcell:∀y∈scope.names,y.2=.cell->scope.names.lookup y.1=some .cell)
  (hfree:(scope.names.all λy=>y.2 != .free||X.env.kindOf y.1==some .cell)=true)
  (hlen:N'.length=nl+caps.length) (hcap:∀(i j:Nat),caps[i]?=some j->∃x,N'[nl+i]?=some x/\X.N[j]?=some x/\scope.names.lookup x=some .free)
  (hi:IOk X target iter mi) (hg:∀cl C ex s H,PG (cxB X N' scope cl C ex s H) target g) (ho:GOk X g tg) (ht:∀cl C ex s H,zFv (cxB X N' scope cl C ex s H) ifs tt) (he:∀cl C ex s H,EOk (cxB X N' scope cl C ex s H) elt el)
  (hs:∀x,foldedSetIterable iter X.env x=pure x:=by intro _;rfl):EOk X (.ListComp elt [⟨target,iter,ifs,0⟩] scope pos) (uF nl caps mi tg tt el) :=
 zZ (pe_comp (te:=tN X.K X.mg el) (tt:=tNT X.K X.mg tt) hx hc hkind hnames hcell hfree hlen hcap hi hg (λcl C ex s H=>jq (ht cl C ex s H) λO H Q q=>Qp (X:=cxB X N' scope cl C ex s _) q) (λcl C ex s H=>zZ (he cl C ex s H) λO H Q q=>zFA (X:=cxB X N' scope cl C ex s _) q) hs) λO H Q=>zBs ho
def sk_comp(nl:Nat)(caps:List Nat)(N':List Str)(hN:X.N.Nodup)(hi':X.N[i]?=some y)(hy:Loc X.env.scope y)(hf:X.fn y=true\/X.env.scope.names.lookup y=some .local)(hx:∀e s,¬X.xe e s)(hc:X.calm=true)(hkind:scope.kind=.function)(hnames:∀y∈scope.names,y.2=.local->scope.names.lookup y.1=some .local)(hcell:∀y∈scope.names,y.2=.cell->scope.names.lookup y.1=some .cell)
  (hfree:(scope.names.all λy=>y.2 != .free||X.env.kindOf y.1==some .cell)=true)
  (hlen:N'.length=nl+caps.length) (hcap:∀(i j:Nat),caps[i]?=some j->∃x,N'[nl+i]?=some x/\X.N[j]?=some x/\scope.names.lookup x=some .free)
  (hi:IOk X target iter mi) (hg:∀cl C ex s H,PG (cxB X N' scope cl C ex s H) target g) (ho:GOk X g tg) (ht:∀cl C ex s H,zFv (cxB X N' scope cl C ex s H) ifs tt) (he:∀cl C ex s H,EOk (cxB X N' scope cl C ex s H) elt el)
  (hs:∀x,foldedSetIterable iter X.env x=pure x) (hsw:swapsWith (.ListComp elt [⟨target,iter,ifs,0⟩] scope pos) (some (.Name y py)) spos.line X.env=pure true) :
  SOk X (.Assign [.Name y py] (.ListComp elt [⟨target,iter,ifs,0⟩] scope pos) spos) (sSet i (uF nl caps mi tg tt el)) :=
 yg (ps_setC (te:=tN X.K X.mg el) (tt:=tNT X.K X.mg tt) hN hi' hy hf hx hc hkind hnames hcell hfree hlen hcap hi hg (λcl C ex s H=>jq (ht cl C ex s H) λO H Q q=>Qp (X:=cxB X N' scope cl C ex s _) q) (λcl C ex s H=>zZ (he cl C ex s H) λO H Q q=>zFA (X:=cxB X N' scope cl C ex s _) q) hs hsw) λD O H h=>zBs ho (Gc h)
end
def mem7{P:String->Prop}(h1:P "NoneType")(h2:P "bool")(h3:P "int")(h4:P "str")(h5:P "tuple")(h6:P "list")(h7:P "dict"):∀t∈["NoneType","bool","int","str","tuple","list","dict"],P t:=by
 intro t ht;simp only[mem_cons,mem_nil_iff,or_false]at ht;rcases ht with rfl|rfl|rfl|rfl|rfl|rfl|rfl<;>assumption
abbrev Kit(K:qH)(T:String):Prop:=∀t∈["NoneType","bool","int","str","tuple","list","dict"],kitOne K (.type t) (.type T)=some (zAp t T)
def kit_int(K:qH):Kit K "int":=mem7 rfl rfl rfl rfl rfl rfl rfl
def zFw(K:qH):Kit K "bool":=mem7 rfl rfl rfl rfl rfl rfl rfl
def zDs(K:qH):Kit K "tuple":=mem7 rfl rfl rfl rfl rfl rfl rfl
def zFx(K:qH):Kit K "list":=mem7 rfl rfl rfl rfl rfl rfl rfl
def kit_str(K:qH):Kit K "str":=mem7 rfl rfl rfl rfl rfl rfl rfl
def zFy(K:qH):Kit K "dict":=mem7 rfl rfl rfl rfl rfl rfl rfl
def Gj:bootBuiltins "isinstance"=some (.builtin "isinstance"):=by decide +kernel
def bt_len:bootBuiltins "len"=some (.builtin "len"):=by decide +kernel
def zHA:bootBuiltins "max"=some (.builtin "max"):=by decide +kernel
def bt_all:bootBuiltins "all"=some (.builtin "all"):=by decide +kernel
def zHB:bootBuiltins "int"=some (.type "int"):=by decide +kernel
def bt_bool:bootBuiltins "bool"=some (.type "bool"):=by decide +kernel
def zBt:bootBuiltins "tuple"=some (.type "tuple"):=by decide +kernel
def zDt:bootBuiltins "list"=some (.type "list"):=by decide +kernel
def bt_str:bootBuiltins "str"=some (.type "str"):=by decide +kernel
def bt_dict:bootBuiltins "dict"=some (.type "dict"):=by decide +kernel
section
variable{X:Cx}{K:qH}{mg:Str->Option Value}{O:St}{H:Hp}
def eNeg(a:ME):ME:=λE=>match a E with
 | .ok (.v (.int i),E1)=>.ok (.v (.int (-i)),E1)| .exc x E1=>.exc x E1|_=>.z
def ok_neg(h:EOk X a m):EOk X (.UnaryOp .USub a pos) (eNeg m):=zZ (pe_un un_neg h) λO H Q ⟨M,E,hl,fr,k⟩=>by
 unfold eNeg at k;refine zu (T0:=[]) hl fr ?_;cases ea:m E with
 |z=>rw[ea]at k;exact k|exc x E1=>rw[ea]at k;exact k
 |ok p =>
  obtain⟨r,E1⟩:=p;rw[ea]at k;cases r with
  |own ds=>exact k.elim|dct _ _=>exact k.elim
  |v d =>
   cases d with
   |int i =>
    intro v H' g;exact⟨i,zM g.rep,k _ H' (g.flat (d:=.int (-i)) rfl)⟩
   |_=>exact k.elim
def yy(p p':Int->Int->Bool)(a b c:ME):ME:=λE=>match a E with
 | .z=>.z| .exc x E1=>.exc x E1
 | .ok (.v (.int i),E1)=>match b E1 with
  | .z=>.z| .exc x E2=>.exc x E2
  | .ok (.v (.int j),E2)=>if p i j=true then match c E2 with
    | .z=>.z| .exc x E3=>.exc x E3| .ok (.v (.int k),E3)=>.ok (.v (.bl (p' j k)),E3)|_=>.z
   else .ok (.v (.bl false),E2)
  |_=>.z
 |_=>.z
def Qq{p p':Int->Int->Bool}(h:tM X (yy p p' a b c) O H Q):zDL (rI0 λi j=>.bl (p i j)) (rI0 λi j=>.bl (p' i j)) (tM X a) (tM X b) (tM X c) O H Q:=by
 obtain⟨M,E,hl,fr,k⟩:=h;unfold yy at k;refine zu (T0:=[]) hl fr ?_;cases ea:a E with
 |z=>rw[ea]at k;exact k|exc x E1=>rw[ea]at k;exact k
 |ok q =>
  obtain⟨r,E1⟩:=q;rw[ea]at k;cases r with
  |own ds=>exact k.elim|dct _ _=>exact k.elim
  |v d =>
   cases d with
   |int i =>
    intro x H1 g1;have g1':=g1.dropAll;refine zu (T0:=[]) g1'.len g1'.fr ?_;dsimp only at k;cases eb:b E1 with
    |z=>rw[eb]at k;exact k|exc x E2=>rw[eb]at k;exact λH' g=>k H' (g1'.trans' g)
    |ok q =>
     obtain⟨r2,E2⟩:=q;rw[eb]at k;cases r2 with
     |own ds=>exact k.elim|dct _ _=>exact k.elim
     |v d2 =>
      cases d2 with
      |int j =>
       intro y H2 g2;have g12:=(g1'.trans' g2).dropAll;refine⟨i,j,zM g1.rep,zM g2.rep,p i j,rfl,?_⟩;dsimp only at k;cases ep:p i j with
       |false =>
        rw[ep]at k;exact zE7 (k _ H2 (g12.flat (d:=.bl false) rfl))
       |true =>
        rw[ep]at k;simp only[if_true]at k;refine zE8 (zu (T0:=[]) g12.len g12.fr ?_);cases ec:c E2 with
        |z=>rw[ec]at k;exact k|exc x E3=>rw[ec]at k;exact λH' g=>k H' (g12.trans' g)
        |ok q =>
         obtain⟨r3,E3⟩:=q;rw[ec]at k;cases r3 with
         |own ds=>exact k.elim|dct _ _=>exact k.elim
         |v d3 =>
          cases d3 with
          |int n =>
           intro w H3 g3;exact⟨j,n,zM g2.rep,zM g3.rep,k _ H3 ((g12.trans' g3).flat (d:=.bl (p' j n)) rfl)⟩
          |_=>exact k.elim
      |_=>exact k.elim
   |_=>exact k.elim
def zFz{p p':Int->Int->Bool}(ho:OpR X (compareOp op) (rI0 λi j=>.bl (p i j)))(ho':OpR X (compareOp op') (rI0 λi j=>.bl (p' i j)))(ha:EOk X a ma)(hb:EOk X b mb)(hc:EOk X c mc)
  (hm:lastMarks [op,op'] [b,c]=false:=by with_unfolding_all rfl):EOk X (.Compare a [op,op'] [b,c] pos) (yy p p' ma mb mc):=zZ (zFL ho ho' ha hb hc hm) λO H Q=>Qq
def zDu{p p':Int->Int->Bool}(ho:OpR X (compareOp op) (rI0 λi j=>.bl (p i j)))(ho':OpR X (compareOp op') (rI0 λi j=>.bl (p' i j)))(ha:EOk X a ma)(hb:EOk X b mb)(hc:EOk X c mc)
  (hm:lastMarks [op,op'] [b,c]=false:=by with_unfolding_all rfl):TOk X (.Compare a [op,op'] [b,c] pos) (tT (yy p p' ma mb mc)):=Qb (zFM ho ho' ha hb hc hm) λO H Q q=>Qq (zBl q)
abbrev ltB:Int->Int->Bool:=λi j=>decide (i<j)
abbrev leB:Int->Int->Bool:=λi j=>decide (i<=j)
abbrev gtB:Int->Int->Bool:=λi j=>decide (j<i)
abbrev geB:Int->Int->Bool:=λi j=>decide (j<=i)
def Gm(X:Cx)(scope:Scope):List Nat->List Str->Prop
 | [],[]=>True|j::js,x::xs=>X.N[j]?=some x/\scope.names.lookup x=some .free/\Gm X scope js xs|_,_=>False
theorem vI{scope:Scope}{loc:List Str}:∀{caps:List Nat} {capn:List Str},Gm X scope caps capn->capn.length=caps.length/\∀(i j:Nat),caps[i]?=some j->∃x,capn[i]?=some x/\X.N[j]?=some x/\scope.names.lookup x=some .free
 | [],[],h=>⟨rfl,λi j e=>by simp at e⟩| [],_::_,h=>h.elim|_::_,[],h=>h.elim
 |j::js,x::xs,h=>by
  obtain⟨h1,h2,h3⟩:=h;obtain⟨i1,i2⟩:=vI (loc:=loc) h3;refine⟨by simp[i1],λi k e=>?_⟩;cases i with
  |zero=>simp at e;subst e;exact⟨x,rfl,h1,h2⟩|succ i=>simp at e;obtain⟨y,q⟩:=i2 i k e;exact⟨y,by simpa using q⟩
def ok_lc{elt target iter:Expr}{ifs:List Expr}{scope:Scope}{pos:Pos}{mi:MI}{tg:MG}{tt:MT}{el:ME}{g:TG}{nl:Nat}{caps:List Nat}(loc capn:List Str)(hnl:loc.length=nl)(hx:∀e s,¬X.xe e s)(hc:X.calm=true)(hkind:scope.kind=.function)(hnames:∀y∈scope.names,y.2=.local->scope.names.lookup y.1=some .local)(hcell:∀y∈scope.names,y.2=.cell->scope.names.lookup y.1=some .cell)
  (hfree:(scope.names.all λy=>y.2 != .free||X.env.kindOf y.1==some .cell)=true) (hcap:Gm X scope caps capn)
  (hi:IOk X target iter mi) (hg:∀cl C ex s H,PG (cxB X (loc++capn) scope cl C ex s H) target g) (ho:GOk X g tg) (ht:∀cl C ex s H,zFv (cxB X (loc++capn) scope cl C ex s H) ifs tt) (he:∀cl C ex s H,EOk (cxB X (loc++capn) scope cl C ex s H) elt el)
  (hs:∀x,foldedSetIterable iter X.env x=pure x:=by intro _;rfl):EOk X (.ListComp elt [⟨target,iter,ifs,0⟩] scope pos) (uF nl caps mi tg tt el):=by
 obtain⟨c1,c2⟩:=vI (loc:=loc) hcap;refine ok_comp nl caps (loc++capn) hx hc hkind hnames hcell hfree (by simp[hnl,c1]) (λi j e=>?_) hi hg ho ht he hs;obtain⟨x,q1,q2,q3⟩:=c2 i j e;refine⟨x,?_,q2,q3⟩;rw[getElem?_append_right (by omega),hnl,add_sub_cancel_left];exact q1
def sk_lc{elt target iter:Expr}{ifs:List Expr}{scope:Scope}{pos:Pos}{mi:MI}{tg:MG}{tt:MT}{el:ME}{g:TG}{nl:Nat}{caps:List Nat}{i:Nat}{y:Str}{py spos:Pos}(loc capn:List Str)(hN:X.N.Nodup)(hi':X.N[i]?=some y)(hy:Loc X.env.scope y)(hf:X.fn y=true\/X.env.scope.names.lookup y=some .local)(hnl:loc.length=nl)(hx:∀e s,¬X.xe e s)(hc:X.calm=true)(hkind:scope.kind=.function)(hnames:∀y∈scope.names,y.2=.local->scope.names.lookup y.1=some .local)(hcell:∀y∈scope.names,y.2=.cell->scope.names.lookup y.1=some .cell)
  (hfree:(scope.names.all λy=>y.2 != .free||X.env.kindOf y.1==some .cell)=true) (hcap:Gm X scope caps capn)
  (hi:IOk X target iter mi) (hg:∀cl C ex s H,PG (cxB X (loc++capn) scope cl C ex s H) target g) (ho:GOk X g tg) (ht:∀cl C ex s H,zFv (cxB X (loc++capn) scope cl C ex s H) ifs tt) (he:∀cl C ex s H,EOk (cxB X (loc++capn) scope cl C ex s H) elt el)
  (hs:∀x,foldedSetIterable iter X.env x=pure x) (hsw:swapsWith (.ListComp elt [⟨target,iter,ifs,0⟩] scope pos) (some (.Name y py)) spos.line X.env=pure true) :
  SOk X (.Assign [.Name y py] (.ListComp elt [⟨target,iter,ifs,0⟩] scope pos) spos) (sSet i (uF nl caps mi tg tt el)):=by
 obtain⟨c1,c2⟩:=vI (loc:=loc) hcap;refine sk_comp nl caps (loc++capn) hN hi' hy hf hx hc hkind hnames hcell hfree (by simp[hnl,c1]) (λi j e=>?_) hi hg ho ht he hs hsw;obtain⟨x,q1,q2,q3⟩:=c2 i j e;refine⟨x,?_,q2,q3⟩;rw[getElem?_append_right (by omega),hnl,add_sub_cancel_left];exact q1
end
section
variable(P:Program)(w:World)(K:qH)(mg:Str->Option Value)(base:Heap)
def jE(x:Str)(st:Stmt)(ps:List Str):Prop:=∃(a:Addr) (fd:FuncData),mg x=some (.ref a)/\Fun K x x st a fd/\WP K fd ps []
def FOk(c:Bool)(x:Str)(k:Nat)(ps:List Str)(F:MF):Prop:=∃(a:Addr) (fd:FuncData),mg x=some (.ref a)/\keepIn K (.ref a)=true/\WP K fd ps []/\FnOkN c P w K mg base k a fd ps (spM K mg ps.length F)
end
mutual
def deq:D->D->Bool
 | .t a,d=>match d with
  | .t b=>deqs a b|_=>false
 | .l a,d=>match d with
  | .l b=>deqs a b|_=>false
 |a,d=>match d with
  | .t _=>false| .l _=>false|b=>eqV (flV a) (flV b)
def deqs:List D->List D->Bool
 | [],[]=>true|a::as,b::bs=>deq a b&&deqs as bs| [],_::_=>false|_::_,[]=>false
end
def eqb:Nat->D->Bool
 |_,.non=>true|_,.bl _=>true|_,.int _=>true|_,.str x=>PyData.canLay0 (.str x)|n+1,.t ds=>ds.all (eqb n)|n+1,.l ds=>ds.all (eqb n)|_,_=>false
section
variable{X:Cx}{K:qH}{mg:Str->Option Value}
def rEqD(K:qH)(mg:Str->Option Value)(neg:Bool):R2:=λx y H Q=>∃d e,eqb 20 d=true/\eqb 20 e=true/\Rep K mg H d x/\Rep K mg H e y/\Q (.bl (if neg then !deq d e else deq d e)) H
def eqDD(neg:Bool)(d e:D):Option R:=if eqb 20 d=true/\eqb 20 e=true then some (.v (.bl (if neg then !deq d e else deq d e)))else none
def zHC:ROk K mg (rEqD K mg neg) (eqDD neg):=by
 intro M H Z x y d1 d2 res Q f r1 r2 e k;unfold eqDD at e;split at e
 ·rename_i hc
  cases e;exact⟨d1,d2,hc.1,hc.2,r1.mono zF,r2.mono zF,k.flat f rfl⟩
 ·cases e
end
end DV
namespace L2
open PySem PySem.Spec PyProof.Rows
section
variable{X:Cx}
def Wc{ns:List Int}{its:List Value}(rv:yj (ns.map V.int) its)(i:Nat)(v:Value)(hv:its.toArray[i]?=some v):∃t,v=.int (ns.getD i 0) t:=by
 have hv':its[i]?=some v:=by simpa using hv
 have hi:i<its.length:=(qG.mp hv').1;have hl:=rv.length;have hx:i<(ns.map V.int).length:=by rw[hl];exact hi
 obtain⟨u',e1,e2⟩:=rv.get (i:=i) (x:=(ns.map V.int)[i]) (by simp[hx]);rw[hv']at e1;cases e1;rw[length_map]at hx;rw[List.getElem_map]at e2;obtain⟨t,e⟩:=(show ∃t,v=.int (ns[i]) t from e2);exact⟨t,by rw[e];simp[hx]⟩
def zAu(ns:List Int):Int:=ns.getD (argBest (λi j=>decide (ns.getD i 0 > ns.getD j 0)) (ns.length-1)) 0
theorem vJ(ns:List Int):∀k,k<=ns.length->preSum (λi=>ns.getD i 0) k=(ns.take k).sum
 |0,_=>by simp[preSum]
 |k+1,h=>by
  have hk:k<ns.length:=by omega
  rw[preSum,vJ ns k (by omega),List.take_add_one,getElem?_eq_getElem hk,sum_append];simp[hk]
def zDv(hc:X.calm=true):JP X (.builtin "sum") (λxs H Q=>∃(p:Addr) (ns:List Int),xs=[.ref p]/\SqL X.K H p (ns.map V.int)/\Q (.int ns.sum) H):=by
 intro pins s O H xs us Q I r h;obtain⟨p,ns,rfl,hq,q⟩:=h;obtain⟨u,rfl,rx⟩:=v9 r;cases rx;obtain⟨its,rv,pl,hz⟩:=I.list hq;have hlen:its.length=ns.length:=by rw[<- rv.length,length_map]
 have hp:p<s.heap.objs.size:=by obtain⟨o,n,e,_⟩:=pl;exact lt_size e
 have hk:∀b o,s.heap.get? b=some o->(s.heap.push {cls:=.type "list_iterator",data:=.fields #[.ref p,.int 0 0]}).get? b=some o:=λb o e=>qA _ e
 refine call_sum_walkAnyS (wpAny_pyIter_list pl.isList ?_);refine⟨s.heap.objs.size,[s.heap.objs.size,p],[s.heap.objs.size],_,its.toArray.size,_,_,λi=>ns.getD i 0,rfl,
  (Walks.list (by show X.A.handled=none;exact I.ok.hd hc) _ p (ne_of_lt hp) its.toArray).toS,⟨⟨_,get?_push_size _ rfl,rfl,rfl⟩,?_⟩,?_,Wc rv,?_⟩
 ·obtain⟨o,e,c⟩:=pl.isList
  exact⟨o,hk _ _ e,c⟩
 ·intro b hb
  rw[size_push];rcases mem_cons.mp hb with rfl|hb
  ·exact lt_succ_self _
  ·have:b=p:=by simpa using hb
   subst this;exact lt_succ_of_lt hp
 ·intro s' t' mv
  rw[size_toArray,hlen,vJ ns _ (le_refl _),List.take_length];obtain⟨h',g',d',tk,o'⟩:=s';have e1:g'=s.gens:=mv.gens;have e2:d'=s.drawn:=mv.drawn;have e3:o'=s.os:=mv.os;subst e1 e2 e3;exact⟨.int ns.sum,H,I.kept (t':=tk) λb o eb=>mv.heap b o (λm=>by
   have:b=s.heap.objs.size:=by simpa using m
   subst this;exact absurd (lt_size eb) (lt_irrefl _)) (hk b o eb),⟨_,rfl⟩,q⟩
def zDw(hc:X.calm=true):JP X (.builtin "sum") (λxs H Q=>∃(p:Addr) (ns:List Int),xs=[.ref p]/\SqT X.K H p (ns.map V.int)/\Q (.int ns.sum) H):=by
 intro pins s O H xs us Q I r h;obtain⟨p,ns,rfl,hq,q⟩:=h;obtain⟨u,rfl,rx⟩:=v9 r;cases rx;obtain⟨its,rv,pl,hz⟩:=I.tuple hq;have hlen:its.length=ns.length:=by rw[<- rv.length,length_map]
 have hp:p<s.heap.objs.size:=by obtain⟨o,e,_⟩:=pl;exact lt_size e
 have hk:∀b o,s.heap.get? b=some o->(s.heap.push {cls:=.type "tuple_iterator",data:=.fields #[.ref p,.int 0 0]}).get? b=some o:=λb o e=>qA _ e
 refine call_sum_walkAnyS (wpAny_pyIter_tuple (show s.heap.IsTuple p its.toArray from pl) ?_);refine⟨s.heap.objs.size,[s.heap.objs.size,p],[s.heap.objs.size],_,its.toArray.size,_,_,λi=>ns.getD i 0,rfl,
  (Walks.tuple (by show X.A.handled=none;exact I.ok.hd hc) _ p (ne_of_lt hp) its.toArray).toS,⟨⟨_,get?_push_size _ rfl,rfl,rfl⟩,?_⟩,?_,Wc rv,?_⟩
 ·obtain⟨o,e,c⟩:=pl
  exact⟨o,hk _ _ e,c⟩
 ·intro b hb
  rw[size_push];rcases mem_cons.mp hb with rfl|hb
  ·exact lt_succ_self _
  ·have:b=p:=by simpa using hb
   subst this;exact lt_succ_of_lt hp
 ·intro s' t' mv
  rw[size_toArray,hlen,vJ ns _ (le_refl _),List.take_length];obtain⟨h',g',d',tk,o'⟩:=s';have e1:g'=s.gens:=mv.gens;have e2:d'=s.drawn:=mv.drawn;have e3:o'=s.os:=mv.os;subst e1 e2 e3;exact⟨.int ns.sum,H,I.kept (t':=tk) λb o eb=>mv.heap b o (λm=>by
   have:b=s.heap.objs.size:=by simpa using m
   subst this;exact absurd (lt_size eb) (lt_irrefl _)) (hk b o eb),⟨_,rfl⟩,q⟩
def zCj(a:Int)(t:Tok)(l:Addr)(its:Array Value)(n:Nat)(dd:Option Addr)(sl:Array (Option Value)) :
  Meets (Builtin.«int.__rmul__» ⟨[.int a t,.ref l],[]⟩) (λ_ R s=>s.heap.get? l=some {cls:=.type "list",dict:=dd,data:=.seq its n,slots:=sl}/\R (.ok (.ret Value.notImplemented)) s) :=
 .of_wp λprog w A R s h=>by
  obtain⟨hp,g,d,tk,os⟩:=s;obtain⟨hl,h⟩:=h
  wp_walk
  exact⟨_,rfl,h⟩
def zDx(l:Addr)(its:Array Value)(n:Nat)(dd:Option Addr)(sl:Array (Option Value))(k:Int)(u:Tok)(h0:¬(!Builtin.List.listFitsIndex k)=true)(h1:¬its.size*k.toNat > (2^63-1)/8)(h2:¬Builtin.List.listTooLong (its.size*k.toNat)=true) :
  Meets (Builtin.«list.__mul__» ⟨[.ref l,.int k u],[]⟩) (λ_ R s=>s.heap.get? l=some {cls:=.type "list",dict:=dd,data:=.seq its n,slots:=sl} /\
   R (.ok (.ret (Value.ref s.heap.objs.size))) {s with heap:=s.heap.push {cls:=Value.type "list",data:=Data.seq (foldl (λa b=>a++b) #[] (replicate (if its.isEmpty=true then 0 else k.toNat) its))},toks:=s.toks}) :=
 .of_wp λprog w A R s h=>by
  obtain⟨hp,g,d,tk,os⟩:=s;obtain⟨hl,h⟩:=h;have fits:=AutoListH.joined_fits h2
  wp_walk
  refine wpAny_ite_false (decide_eq_false (not_lt.mpr fits)) ?_
  wp_walk
  exact⟨_,rfl,h⟩
def rRepL(K:qH):R2:=λx y H Q=>∃l k xs,x=.ref l/\y=.int k/\SqL K H l xs/\-(2^63)<=k/\k<2^63/\xs.length*k.toNat<=sizeLine /\
 ∀p,H p=none->Q (.ref p) (upd H p (.l (replicate k.toNat xs).flatten))
def op_repL:OpR X (binaryOp .Mult) (rRepL X.K):=by
 intro pins s O H x y v u Q I rx ry h;obtain⟨l,k,xs,rfl,rfl,hH,h1,h2,hz,q⟩:=h;cases rx;obtain⟨t,rfl⟩:=ry;obtain⟨its,r,pl,_⟩:=I.list hH;have hl:=r.length;obtain⟨⟨cls,dd,data,sl⟩,n,ho,hc,hdd,hd⟩:=pl;simp only at hc hd;subst hc hd;have hlen:its.toArray.size*k.toNat<=sizeLine:=by rw[size_toArray,<- hl];exact hz
 have c1:¬its.toArray.size*k.toNat > (2^63-1)/8:=by
  have:(sizeLine:Nat)<=(2^63-1)/8:=by decide
  omega
 have c2:¬(!Builtin.List.listFitsIndex k)=true:=by rw[fitsIndex_both h1 h2];exact qF
 have c3:¬Builtin.List.listTooLong (its.toArray.size*k.toNat)=true:=by rw[zFR hlen];exact qF
 have hnew:foldl (λa b=>a++b) #[] (replicate (if its.toArray.isEmpty=true then 0 else k.toNat) its.toArray)=(replicate k.toNat its).flatten.toArray:=by
  have f0:∀m:Nat,foldl (λa b=>a++b) #[] (replicate m its.toArray)=(replicate m its).flatten.toArray:=λm=>by
   have:=Wy its m [];rw[nil_append]at this;exact this
  rw[f0];cases its with
  |nil=>simp|cons a r'=>rw[if_neg (by simp)]
 refine wpAny_binaryOp_repeat_ref (T:="list") (U:="int") (by decide) ⟨_,ho,rfl⟩ (λs'=>typeIs_int s' k t) noFill_list_mul F.fills_int_mul F.slot_int_rmul repeat_list F.slot_int_index.lookup
  (call_meets F.slot_int_rmul (typeIs_int s k t) F.entry_int_rmul (F.args_int_rmul_2 _ _) (zCj k t l its.toArray n dd sl) ⟨ho,rfl,⟨_,ho,rfl⟩,?_⟩)
 refine call_meets F.slot_list_mul ⟨_,ho,rfl⟩ F.entry_list_mul (F.args_list_mul_2 _ _) (zDx l its.toArray n dd sl k t c2 c1 c3) ⟨ho,?_⟩;rw[hnew];exact⟨.ref _,_,I.lnew (t':=s.toks) (r.rep k.toNat) (by rw[zAf,mul_comm];exact hz),rfl,q _ I.fresh⟩
end
end L2
namespace DV
open PySem PySem.W PyProof.Rows
variable{κ:Nat->Int}
def ev(κ:Nat->Int){α:Type}:KasT α->α
 | .ret a=>a| .ask i j k=>ev κ (k (decide (κ i<κ j)))
def getD_q(p:Array Nat)(t:Nat):p.getD t 0=(p[t]?).getD 0:=by simp
end DV
namespace L2
open PySem PySem.Spec PyProof.Rows PySem.W
end L2
namespace DV
open PySem L2 PyProof.Rows PySem.W
end DV
namespace L2
open PySem PySem.Spec PyProof.Rows
section
variable{prog:Program}{w:World}{A:Around}{R:Result->Shared->Prop}{I:Addr}{fp wr:List Addr}{n:Nat}{P:Nat->Value->Prop}{St:Nat->Heap->Prop}
def Yv:(toString "max"++toString ".loop":String)="max.loop":=by decide
theorem vK(W:Walks prog w A.in1 I fp wr n P St){bt:Nat->Nat->Bool}(hcmp:CmpOf prog w A.in1 .Gt P bt)(S:Addr)(hSf:S∉fp)(kw:List (Str×Value)) :
  ∀(m j:Nat) (s:Shared) (best:Value) (c:Nat),n=j+1+m->St (j+1) s.heap->P (argBest bt j) best->s.heap.get? S=some {cls:=.type "list",dict:=none,data:=.seq #[best,best] c,slots:=#[]} ->
  (∀v h' tk,P (argBest bt (n-1)) v->(∀b o,b∉wr->b≠S->s.heap.get? b=some o->h'.get? b=some o)->R (.ok (.ret v)) {s with heap:=h',toks:=tk}) ->
  codeAny (model prog w) A (.builtin "max.loop" ⟨[.ref I,.none,.ref S],kw⟩) R s
 |0,j,s,best,c,hn,hst,hP,hS,hR=>by
  have hSw:S∉wr:=λz=>hSf (W.sub _ z)
  refine codeAny_builtin F.entry_max_loop ?_;rw[Around.under_plainId F.plain_max_loop _];show wpAny _ A.in1 (seqItems? (.ref S) >>= _) _ _ s;refine qB (wpAny_seqItems hS rfl ?_);show wpAny _ A.in1 (tryCatch (pyNext (.ref I)) _ >>= _) _ _ s;have en:j+1=n:=by omega
  refine qB (wpAny_tryCatch (W.done s _ _ (en▸hst) λh' tk kp=>?_));have hS':=kp S _ hSw hS;show wpAny _ A.in1 (updateSeq S (λ_=>#[]) >>= _) _ _ _;refine qB (wpAny_updateSeq hS' rfl (qB (wpAny_letGo (qC (hR best _ tk ?_ ?_)))))
  ·rw[<- en];exact hP
  ·exact λb o hb hbS e=>(get?_update_other _ _ (Ne.symm hbS)).trans (kp b o hb e)
 |m+1,j,s,best,c,hn,hst,hP,hS,hR=>by
  have hSw:S∉wr:=λz=>hSf (W.sub _ z)
  have hlt:j+1<n:=by omega
  refine codeAny_builtin F.entry_max_loop ?_;rw[Around.under_plainId F.plain_max_loop _];show wpAny _ A.in1 (seqItems? (.ref S) >>= _) _ _ s;refine qB (wpAny_seqItems hS rfl ?_);show wpAny _ A.in1 (tryCatch (pyNext (.ref I)) _ >>= _) _ _ s;refine qB (wpAny_tryCatch (W.item (j+1) s _ _ hlt hst λv h' tk hv hst' kp=>?_));have hS':=kp S _ hSw hS;show wpAny _ A.in1 (tryCatch (holding [v,v] (richCompare .Gt v best >>= _)) _ >>= _) _ _ _;refine qB (wpAny_tryCatch (wpAny_holding (qB (hcmp (j+1) (argBest bt j) v best _ _ _ hv hP ?_))));refine qB (wpAny_holding (wpAny_truthy_bool (qB (wpAny_letGo (qC ?_)))));cases hb:bt (j+1) (argBest bt j)with
  |true =>
   simp only[if_true];refine qB (wpAny_updateSeq hS' rfl (qB (wpAny_letGo ?_)));rw[Yv];refine qC ⟨plainId_quiet F.plain_max_loop _,vK W hcmp S hSf kw m (j+1) _ v _ (by omega) (W.frame _ _ _ hst' λb hbf o e=>?_) (by simp only[argBest,hb,if_true];exact hv) (get?_update_self _ hS' rfl) λv' h'' tk'' hP' kp''=>?_⟩
   ·exact(get?_update_other _ _ (λz:S=b=>hSf (by rw[z];exact hbf))).trans e
   ·exact hR v' h'' tk'' hP' λb o hbw hbS e=>kp'' b o hbw hbS ((get?_update_other _ _ (Ne.symm hbS)).trans (kp b o hbw e))
  |false =>
   simp only[Bool.false_eq_true,if_false];refine qB (wpAny_letGo ?_);rw[Yv];refine qC ⟨plainId_quiet F.plain_max_loop _,vK W hcmp S hSf kw m (j+1) _ best c (by omega) hst' (by simp only[argBest,hb,Bool.false_eq_true,if_false];exact hP) hS' λv' h'' tk'' hP' kp''=>?_⟩;exact hR v' h'' tk'' hP' λb o hbw hbS e=>kp'' b o hbw hbS (kp b o hbw e)
def zCk(W:Walks prog w A.in1 I fp wr n P St){bt:Nat->Nat->Bool}(hcmp:CmpOf prog w A.in1 .Gt P bt)(S:Addr)(hSf:S∉fp)(d:Value)(hst:St 0 s.heap)
  (hS:s.heap.get? S=some {cls:=.type "list",dict:=none,data:=.seq #[] c,slots:=#[]})
  (hR:∀v h' tk,(n=0/\v=d)\/(0<n/\P (argBest bt (n-1)) v)->(∀b o,b∉wr->b≠S->s.heap.get? b=some o->h'.get? b=some o)->R (.ok (.ret v)) {s with heap:=h',toks:=tk}) :
  codeAny (model prog w) A (.builtin "max.loop" ⟨[.ref I,.none,.ref S],[(Str.ofString "default",d)]⟩) R s:=by
 have hSw:S∉wr:=λz=>hSf (W.sub _ z)
 refine codeAny_builtin F.entry_max_loop ?_;rw[Around.under_plainId F.plain_max_loop _];show wpAny _ A.in1 (seqItems? (.ref S) >>= _) _ _ s;refine qB (wpAny_seqItems hS rfl ?_);show wpAny _ A.in1 (tryCatch (pyNext (.ref I)) _ >>= _) _ _ s;by_cases hn:n=0
 ·refine qB (wpAny_tryCatch (W.done s _ _ (hn▸hst) λh' tk kp=>?_))
  show wpAny _ A.in1 (rule _ >>= λ_=>ret d) _ _ _
  refine qB (wpAny_rule (qC (hR d h' tk (.inl ⟨hn,rfl⟩) λb o hb _ e=>kp b o hb e)))
 ·have h0:0<n:=Nat.pos_of_ne_zero hn
  refine qB (wpAny_tryCatch (W.item 0 s _ _ h0 hst λv h' tk hv hst' kp=>?_));have hS':=kp S _ hSw hS;show wpAny _ A.in1 (updateSeq S (λ_=>#[v,v]) >>= _) _ _ _;refine qB (wpAny_updateSeq hS' rfl ?_);rw[Yv];refine qC ⟨plainId_quiet F.plain_max_loop _,vK W hcmp S hSf _ (n-1) 0 _ v _ (by omega) (W.frame _ _ _ hst' λb hbf o e=>?_) hv (get?_update_self _ hS' rfl) λv' h'' tk'' hP' kp''=>?_⟩
  ·exact(get?_update_other _ _ (λz:S=b=>hSf (by rw[z];exact hbf))).trans e
  ·exact hR v' h'' tk'' (.inr ⟨h0,hP'⟩) λb o hbw hbS e=>kp'' b o hbw hbS ((get?_update_other _ _ (Ne.symm hbS)).trans (kp b o hbw e))
end
def zDy(a v:Value):argsOk "max" ⟨[a],[(Str.ofString "default",v)]⟩:=by unfold argsOk;kernel_rfl
def vL(ns:List Int)(k:Int):Int:=if ns.length=0 then k else zAu ns
section
variable{prog:Program}{w:World}{A:Around}{E:Value->Shared->Prop}{s:Shared}
def Qs{id:String}{b:Builtin}{args:List Value}{kw:List (Str×Value)}{Q:Value->Shared->Prop}(hk:builtinKind id=none)(hp:plainId id=true)(hb:entryFor table id=some b)(ha:argsOk id ⟨args,kw⟩)
  (hc:wpAny (model prog w) A.in1 (b ⟨args,kw⟩) (λfin s'=>match fin with
   | .done f=>(match(Except.ok f:Result)with | .ok (.ret v)=>Q v s' | .ok _=>False | .error e=>E e s')
   | .again c'=>c'.quiet=true/\codeAny (model prog w) A c' (λr s'=>match r with | .ok (.ret v)=>Q v s' | .ok _=>False | .error e=>E e s') s') E s) :
  wpAny (model prog w) A (call (.builtin id) args kw) Q E s:=by
 refine wpAny_call (codeAny_call_builtin hp hb ?_);simp only[checkBuiltinCall,hk];cases sg:Manifest.signature? id with
 |none=>exact qC hc
 |some g =>
  have chk:Bind.checkArgs id g ⟨args,kw⟩=pure ():=by simpa only[argsOk,sg]using ha
  simp only[chk];exact qC hc
end
section
variable{X:Cx}{e d:Expr}{te td:TE}{p pos kp:Pos}
def zDz(hc:X.calm=true)(I:Inv X pins O H s)(hq:SqL X.K H l (ns.map V.int))(q:Q (.int (vL ns k)) H) :
  wpAny (model X.prog X.w) X.A (call (.builtin "max") [.ref l] [(Str.ofString "default",.int k t)]) (EP X pins O Q) X.xe s:=by
 obtain⟨its,rv,pl,hz⟩:=I.list hq;have hlen:its.length=ns.length:=by rw[<- rv.length,length_map]
 have hp:l<s.heap.objs.size:=by obtain⟨o,n,e,_⟩:=pl;exact lt_size e
 have hk:∀b o,s.heap.get? b=some o->(s.heap.push {cls:=.type "list_iterator",data:=.fields #[.ref l,.int 0 0]}).get? b=some o:=λb o e=>qA _ e
 refine Qs F.kind_max F.plain_max F.entry_max (zDy _ _) ?_;show wpAny _ X.A.in1 (Builtin.Builtins.bindParams "max" ["key","default"] 0 ⟨[],[(Str.ofString "default",.int k t)]⟩ >>= _) _ _ s;refine qB (wpAny_of_eq (show Builtin.Builtins.bindParams "max" ["key","default"] 0 ⟨[],[(Str.ofString "default",.int k t)]⟩=pure [none,some (.int k t)]from rfl) ?_);refine qB (qC (qB (wpAny_pyIter_list pl.isList (qB (wpAny_newObj_type ?_)))));rw[Yv];have hI:s.heap.objs.size<(s.heap.push {cls:=.type "list_iterator",data:=.fields #[.ref l,.int 0 0]}).objs.size:=by rw[size_push];exact lt_succ_self _
 refine qC ⟨plainId_quiet F.plain_max_loop _,zCk (fp:=[s.heap.objs.size,l]) (wr:=[s.heap.objs.size])
  (Walks.list (by show X.A.handled=none;exact I.ok.hd hc) _ l (ne_of_lt hp) its.toArray) (CmpOf.ints_gt (λi=>ns.getD i 0) (Wc rv)) _ ?_ (.int k t) ⟨⟨_,qA _ (get?_push_size _ rfl),rfl,rfl⟩,?_⟩ (get?_push_size _ rfl) ?_⟩
 ·intro hm
  rcases mem_cons.mp hm with e|e
  ·rw[e]at hI;exact absurd hI (lt_irrefl _)
  ·have e':=mem_singleton.mp e
   rw[e']at hI;exact absurd (lt_trans hp hI) (lt_irrefl _)
 ·obtain⟨o,e,c⟩:=pl.isList
  exact⟨o,qA _ (hk _ _ e),c⟩
 ·intro v h' tk hv kp
  have keep:∀b o,s.heap.get? b=some o->h'.get? b=some o:=λb o eb=>kp b o (λm=>by
   have:b=s.heap.objs.size:=by simpa using m
   subst this;exact absurd (lt_size eb) (lt_irrefl _)) (λz=>by
   have:=lt_size eb;rw[z]at this;exact absurd (lt_trans this hI) (lt_irrefl _)) (qA _ (hk b o eb))
  rcases hv with⟨h0,rfl⟩|⟨h0,hP⟩
  ·have e0:ns.length=0:=by rw[<- hlen];simpa using h0
   have em:vL ns k=k:=by unfold vL;rw[if_pos e0]
   rw[em]at q;exact⟨.int k,H,I.kept (t':=tk) keep,⟨_,rfl⟩,q⟩
  ·obtain⟨t',e⟩:=Wc rv _ v hP
   subst e;have e0:¬ns.length=0:=by rw[<- hlen];simp at h0;omega
   have em:vL ns k=zAu ns:=by unfold vL;rw[if_neg e0]
   rw[em]at q;rw[size_toArray,hlen];exact⟨.int (zAu ns),H,I.kept (t':=tk) keep,⟨_,rfl⟩,q⟩
def pe_maxd(hc:X.calm=true)(hg:Gl X "max")(hm:X.mg "max"=none)(hv:bootBuiltins "max"=some (.builtin "max"))(he:PE X e te)(hd:PE X d td)(hst:starEach [e] X.env=[(false,eval e X.env)]) :
  PE X (.Call (.Name "max" p) [e] [⟨some (Str.ofString "default"),d,kp⟩] pos) (λO H Q=>te O H λx H1=>td O H1 λz H2=>∃l ns k,x=.ref l/\z=.int k/\SqL X.K H2 l (ns.map V.int)/\Q (.int (vL ns k)) H2):=by
 intro pins s O H Q I h;refine wpAny_Call_Name_kw (J6 I hg hm hv ?_ (by decide) (by decide));refine callWith_kw ?_ (by rw[hst];rfl) (by rw[hst];rfl);refine thn ((JQ he ub hst) pos pins s O H (λvs H1=>match vs with
  | [x]=>td O H1 λz H2=>∃l ns k,x=.ref l/\z=.int k/\SqL X.K H2 l (ns.map V.int)/\Q (.int (vL ns k)) H2|_=>False) I h) λus s1 ⟨vs,H1,I1,r1,q1⟩=>?_
 match vs,q1 with
 | [x],q1 =>
  obtain⟨u,rfl,rx⟩:=v9 r1;refine kws_cons (thn (hd pins s1 O H1 _ I1 q1) λw s2 ⟨z,H2,I2,rz,l,ns,k,e1,e2,hq,q⟩=>kws_nil ?_);subst e1 e2;cases rx;obtain⟨t,rfl⟩:=rz;exact zDz hc I2 hq q
end
end L2
namespace DV
open PySem L2
section
variable{X:Cx}{K:qH}{mg:Str->Option Value}
def call_or{r r':List V->Hp->VK->Prop}(h:JP X f r)(h':JP X f r'):JP X f (λxs H Q=>r xs H Q\/r' xs H Q):=by
 intro pins s O H xs us Q I rv q;rcases q with q|q
 ·exact h pins s O H xs us Q I rv q
 ·exact h' pins s O H xs us Q I rv q
def eqG(d e:D):Option R:=match eqF d e with
 |some r=>some r|none=>eqDD false d e
def neG(d e:D):Option R:=match neF d e with
 |some r=>some r|none=>eqDD true d e
def zHD:ROk K mg (λx y H Q=>rEq x y H Q\/rEqD K mg false x y H Q) eqG:=by
 intro M H Z x y d1 d2 res Q f r1 r2 e k;unfold eqG at e;cases h:eqF d1 d2 with
 |some r=>rw[h]at e;cases e;exact .inl (ro_eq M H Z x y d1 d2 res Q f r1 r2 h k)|none=>rw[h]at e;exact .inr (zHC M H Z x y d1 d2 res Q f r1 r2 e k)
def zHE:ROk K mg (λx y H Q=>rNe x y H Q\/rEqD K mg true x y H Q) neG:=by
 intro M H Z x y d1 d2 res Q f r1 r2 e k;unfold neG at e;cases h:neF d1 d2 with
 |some r=>rw[h]at e;cases e;exact .inl (ro_ne M H Z x y d1 d2 res Q f r1 r2 h k)|none=>rw[h]at e;exact .inr (zHC M H Z x y d1 d2 res Q f r1 r2 e k)
def WT(d e:D):Option R:=match Zy d e with
 |some r=>some r
 |none=>match d,e with
  | .l a,.int k=>if -(2^63)<=k/\k<2^63/\a.length*k.toNat<=cap then some (.own (replicate k.toNat a).flatten)else none|_,_=>none
def ro_mulG:ROk K mg (λx y H Q=>rMulD K x y H Q\/rRepL K x y H Q) WT:=by
 intro M H Z x y d1 d2 res Q f r1 r2 e k;unfold WT at e;cases h:Zy d1 d2 with
 |some r=>rw[h]at e;cases e;exact .inl (ro_mul M H Z x y d1 d2 res Q f r1 r2 h k)
 |none =>
  rw[h]at e;cases d1 with
  |l a =>
   cases d2 with
   |int n =>
    dsimp only at e;split at e
    ·rename_i hc
     cases e;obtain⟨p,xs,rfl,h1,h2⟩:=yX r1;rw[zM r2];exact .inr ⟨p,n,xs,rfl,rfl,zF.seq h1,hc.1,hc.2.1,by rw[h2.length];exact Yr hc.2.2,λq hq=>k.own f hq (h2.flatten _)⟩
    ·cases e
   |_=>cases e
  |_=>cases e
def YQ:List D->Option (List Int)
 | []=>some []| .int i::ds=>(YQ ds).map (i::·)|_::_=>none
theorem Jp:∀{ds:List D} {xs:List V} {ns:List Int},YQ ds=some ns->Reps K mg H ds xs->xs=ns.map V.int
 | [],_,_,e,h=>by cases e;simp only[Reps]at h;subst h;rfl
 |d::ds,_,ns,e,h=>by
  simp only[Reps]at h;obtain⟨v,r,rfl,h1,h2⟩:=h;cases d with
  |int i =>
   simp only[YQ]at e;cases eb:YQ ds with
   |none=>rw[eb]at e;cases e
   |some cs =>
    rw[eb]at e;cases e;rw[zM h1,Jp eb h2];rfl
  |_=>cases e
def zCz:List D->Option R
 | [.int i,.int j]=>zAb [.int i,.int j]
 | [.l ds]=>match YQ ds with
  |some ns=>if 0<ns.length then some (.v (.int (zAu ns)))else none|none=>none
 |_=>none
def zF0:List D->Option R
 | [.l ds]=>(YQ ds).map λns=>.v (.int ns.sum)| [.t ds]=>(YQ ds).map λns=>.v (.int ns.sum)|_=>none
def co_sumG:COk K mg (λxs H Q=>(∃(p:Addr) (ns:List Int),xs=[.ref p]/\SqL K H p (ns.map V.int)/\Q (.int ns.sum) H)\/∃(p:Addr) (ns:List Int),xs=[.ref p]/\SqT K H p (ns.map V.int)/\Q (.int ns.sum) H) zF0:=by
 intro M H Z xs ds res Q f r e k
 match ds,e with
 | [.l ds],e =>
  simp only[zF0]at e;cases hi:YQ ds with
  |none=>rw[hi]at e;cases e
  |some ns =>
   rw[hi]at e;cases e;obtain⟨v,rfl,h⟩:=YL r;obtain⟨p,ys,rfl,h1,h2⟩:=yX h;rw[Jp hi h2]at h1;exact .inl ⟨p,ns,rfl,zF.seq h1,k.flat f rfl⟩
 | [.t ds],e =>
  simp only[zF0]at e;cases hi:YQ ds with
  |none=>rw[hi]at e;cases e
  |some ns =>
   rw[hi]at e;cases e;obtain⟨v,rfl,h⟩:=YL r;obtain⟨p,ys,rfl,h1,h2⟩:=yp h;rw[Jp hi h2]at h1;exact .inr ⟨p,ns,rfl,zO zF h1,k.flat f rfl⟩
def absG:List D->Option R
 | [.int i]=>some (.v (.int (if i<0 then -i else i)))|_=>none
def co_absG:COk K mg (λxs H Q=>∃i,xs=[.int i]/\Q (.int (if i<0 then -i else i)) H) absG:=by
 intro M H Z xs ds res Q f r e k
 match ds,e with
 | [.int i],e =>
  cases e;obtain⟨v,rfl,h⟩:=YL r;exact⟨i,by rw[zM h],k.flat f rfl⟩
end
section
variable{X:Cx}{O:St}{H:Hp}
def zCl:D->D->Option R
 | .l ds,.int k=>(YQ ds).map λns=>.v (.int (vL ns k))|_,_=>none
def ro_maxd{mg:Str->Option Value}:ROk K mg (λx z H Q=>∃l ns k,x=.ref l/\z=.int k/\SqL K H l (ns.map V.int)/\Q (.int (vL ns k)) H) zCl:=by
 intro M H Z x y d1 d2 res Q f r1 r2 e k;cases d1 with
 |l ds =>
  cases d2 with
  |int n =>
   simp only[zCl]at e;cases hi:YQ ds with
   |none=>rw[hi]at e;cases e
   |some ns =>
    rw[hi]at e;cases e;obtain⟨p,ys,rfl,h1,h2⟩:=yX r1;rw[Jp hi h2]at h1;exact⟨p,ns,n,rfl,zM r2,zF.seq h1,k.flat f rfl⟩
  |_=>cases e
 |_=>cases e
def ok_maxd(hc:X.calm=true)(hg:Gl X "max")(hm:X.mg "max"=none)(he:EOk X e m)(hd:EOk X d md)(hs:zV e=false):EOk X (.Call (.Name "max" p) [e] [⟨some (Str.ofString "default"),d,kp⟩] pos) (JT zCl m md) :=
 zZ (pe_maxd hc hg hm zHA he hd (zAm hs)) λO H Q q=>W3 ro_maxd q
def sTup(is:List Nat)(m:ME):MS:=λE=>match m E with
 | .z=>.z| .exc x E1=>.exc x E1
 | .ok (r,E1)=>match gT is r.d E1 with
  | .ok E2=>.ok (.nx,E2)|_=>.z
def zF1{is:List Nat}{m:ME}{D:Ends}(h:tS X (sTup is m) D O H):zFI (tM X m) (gTup X.K is.length (YM is)) D O H:=by
 obtain⟨M,E,hl,fr,k⟩:=h;unfold sTup at k;refine zu (T0:=[]) hl fr ?_;cases ea:m E with
 |z=>rw[ea]at k;exact k|exc x E1=>rw[ea]at k;exact λH' g=>k O H' g
 |ok p =>
  obtain⟨r,E1⟩:=p;rw[ea]at k;intro v H1 g;dsimp only at k;cases eg:gT is r.d E1 with
  |z=>rw[eg]at k;exact k.elim|exc _ _=>rw[eg]at k;exact k.elim
  |ok E2 =>
   rw[eg]at k;have g0:=g.dropAll;exact zG8 (X:=X) is rfl M O E1 H1 [] v r.d E2 _ g0.len (FR.add g0.frame g.rep) eg λO' g'=>k O' H1 (g0.trans' g')
def sk_tup(hg:PG X (.Tuple es k p) (gTup X.K is.length (YM is)))(he:EOk X e m)(hs:swapsWithSole [.Tuple es k p] e pos.line X.env=pure false)(hw:swappedStores [.Tuple es k p] e X.env=pure none):SOk X (.Assign [.Tuple es k p] e pos) (sTup is m) :=
 yg (zC9 he hg hs hw) λD O H=>zF1
def sPar(i j:Nat)(m:MA):MS:=λE=>match m E with
 | .z=>.z| .exc x E1=>.exc x E1
 | .ok ([r1,r2],E1)=>match gNs [i,j] [r1.d,r2.d] E1 with
  | .ok E2=>.ok (.nx,E2)|_=>.z
 |_=>.z
def zF2{i j:Nat}{m:MA}{D:Ends}(h:tS X (sPar i j m) D O H):tPar i j (tMA X m) D O H:=by
 obtain⟨M,E,hl,fr,k⟩:=h;unfold sPar at k;refine wj (T0:=[]) hl fr ?_;cases ea:m E with
 |z=>rw[ea]at k;exact k|exc x E1=>rw[ea]at k;exact λH' g=>k O H' g
 |ok p =>
  obtain⟨rs,E1⟩:=p;rw[ea]at k
  match rs,k with
  | [r1,r2],k =>
   intro vs H1 hv g;dsimp only at k;cases eg:gNs [i,j] [r1.d,r2.d] E1 with
   |z=>rw[eg]at k;exact k.elim|exc _ _=>rw[eg]at k;exact k.elim
   |ok E2 =>
    rw[eg]at k
    match vs,hv with
    | [v,w],_ =>
     have rp:=Got.reps rfl g;have g0:=g.dropAll;have q:=W9 (X:=X) [i,j] [r1.d,r2.d] [v,w] (a:=0) (ts:=[]) (Q:=D.nx) (Got.refl (T0:=[]) g0.len g0.fr) rp eg λO' g'=>k O' H1 (g0.trans' g')
     obtain⟨v1,rr,e1,v2,rr2,e2,e3,q⟩:=q;cases e1;cases e2;exact⟨v,w,rfl,q⟩
  | [],k=>exact k.elim| [_],k=>exact k.elim|_::_::_::_,k=>exact k.elim
def sk_any:SOk X st (λ_=>.z):=yg zFG λD O H ⟨M,E,hl,fr,k⟩=>k
end
end DV
namespace DV
open PySem L2 PyProof.Rows
def xinIn(K:qH)(C f:Addr):Bool:=match K.lookup C with
 |some ⟨.type "type",_,.cls cd,sl⟩=>(match cd.mro,sl.toList with
  | .ref C'::bm,[_,_,_,_,some (.builtin n),_]=>(C'==C&&n == "ValueError.__new__")&&(!cd.hasDel&&PySem.W.tailIn K VB bm)&&(PySem.W.nsOkIn K cd.ns&&nsIn K cd.ns "__init__" == some (some (.ref f)))|_,_=>false)
 |_=>false
def XO(C a:Addr)(od:Option Addr):HO:=.ext λh=>∃o t,h.get? a=some o/\o.cls=.ref C/\o.dict=od/\o.data=.fields #[.ref t,.none,.none,.none,.bool false,.none]
def spI(c:Str)(C:Addr):Sp:=λvs H Q _=>∃(a:Addr) (ns:List Int),vs=.ref a::ns.map V.int/\ns.length=(zDb c).length/\(∀n∈ns,n.natAbs.log2<1920)/\H a=some (XO C a none)/\∀d,H d=none->Q .non (upd (upd H d (XD d (fsV c ns))) a (XO C a (some d)))
def RIok(P:Program)(w:World)(K:qH)(mg:Str->Option Value)(base:Heap)(c:Str):Prop:=∃C f fd,mg c=some (.ref C)/\keepIn K (.ref C)=true/\xinIn K C f=true/\typeIn K (.ref f)=some (.type "function") /\
 WP K fd ("self"::zDb c) []/\FnOkN true P w K mg base 2 f fd ("self"::zDb c) (spI c C)
end DV
namespace DV
open PySem L2 PyProof.Rows
open PySem.W (Looks)
def ris_nil{R:Str->Prop}:∀c∈([]:List Str),R c:=λ_ h=>by cases h
def RAok(K:qH)(mg:Str->Option Value)(c:Str):Prop:=∃C T,mg c=some (.ref C)/\mg "ThrowError"=some (.ref T)/\XSet K C T/\∀n∈zDb c,findIn K (.ref C) n=some none
end DV
namespace DV
open PySem L2
section
variable{X:Cx}{O:L2.St}{H:Hp}{K:qH}{mg:Str->Option Value}{M:Addr->Prop}{E E1:zS}{T0:Fz}
def whN(c:MT)(b:MS):Nat->MS
 |0=>λ_=>.z
 |n+1=>λE=>match c E with
  | .z=>.z| .exc x E1=>.exc x E1| .ok (false,E1)=>.ok (.nx,E1)
  | .ok (true,E1)=>match b E1 with
   | .ok (.nx,E2)=>whN c b n E2| .ok (.ct,E2)=>whN c b n E2| .ok (.bk,E2)=>.ok (.nx,E2)|o=>o
def whN_run{c:MT}{b:MS}{D:Ends}{n:Nat}(h:tS X (whN c b n) D O H):zGs (tMT X c) (tS X b) D O H:=by
 refine⟨λm O H=>tS X (whN c b m) D O H,⟨n,h⟩,λm O H h=>?_⟩;cases m with
 |zero=>obtain⟨M,E,hl,fr,k⟩:=h;exact k.elim
 |succ m =>
  obtain⟨M,E,hl,fr,k⟩:=h;unfold whN at k;refine JR (T0:=[]) hl fr ?_;cases ec:c E with
  |z=>rw[ec]at k;exact k|exc x E1=>rw[ec]at k;exact λH' g=>k O H' g
  |ok p =>
   obtain⟨t,E1⟩:=p;rw[ec]at k;intro H1 g1;cases t with
   |false=>exact zE7 (k O H1 g1)
   |true =>
    refine zE8 ⟨λO' H'=>tS X (whN c b m) D O' H',λO' H' q=>⟨m,lt_succ_self m,q⟩,?_⟩;refine uk (T0:=[]) g1.len g1.fr ?_;dsimp only at k;cases eb:b E1 with
    |z=>rw[eb]at k;exact k|exc x E2=>rw[eb]at k;exact λO' H' g=>k O' H' (g1.trans' g)
    |ok p =>
     obtain⟨fl,E2⟩:=p;rw[eb]at k;cases fl with
     |ret r=>exact λv O' H' g=>k v O' H' (g1.trans' g)|bk=>exact λO' H' g=>k O' H' (g1.trans' g)|nx=>exact λO' H' g=>go g1 g k|ct=>exact λO' H' g=>go g1 g k
where
 go {c:MT} {b:MS} {D:Ends} {n:Nat} {M:Addr->Prop} {O O1 O':L2.St} {E E1 E2:zS} {H H1 H':Hp} (g1:Got X.K X.mg M O E H [] O1 E1 H1 []) (g:Got X.K X.mg M O1 E1 H1 [] O' E2 H' [])
  (k:match whN c b n E2 with
   | .z=>False| .ok (.nx,E')=>∀O' H',Got X.K X.mg M O E H [] O' E' H' []->D.nx O' H'| .ok (.bk,E')=>∀O' H',Got X.K X.mg M O E H [] O' E' H' []->D.bk O' H'| .ok (.ct,E')=>∀O' H',Got X.K X.mg M O E H [] O' E' H' []->D.ct O' H'| .ok (.ret r,E')=>∀v O' H',Got X.K X.mg M O E H [] O' E' H' [(some v,r.slot)]->D.rt v H'
   | .exc x E'=>∀O' H',Got X.K X.mg M O E H [] O' E' H' []->XE X O' H' x):tS X (whN c b n) D O' H':=by
  have gg:=g1.trans' g;refine uk (T0:=[]) gg.len gg.fr ?_;cases e:whN c b n E2 with
  |z=>rw[e]at k;exact k|exc x E3=>rw[e]at k;exact λO3 H3 g3=>k O3 H3 (gg.trans' g3)
  |ok p =>
   obtain⟨fl,E3⟩:=p;rw[e]at k;cases fl with
   |nx=>exact λO3 H3 g3=>k O3 H3 (gg.trans' g3)|bk=>exact λO3 H3 g3=>k O3 H3 (gg.trans' g3)|ct=>exact λO3 H3 g3=>k O3 H3 (gg.trans' g3)|ret r=>exact λv O3 H3 g3=>k v O3 H3 (gg.trans' g3)
def sWhile(c:MT)(b:MS):MS:=whN c b 1000000
def zF3(hp:PassesOwn (model X.prog X.w) X.A X.env X.xe)(hc:TOk X c mc)(hb:zAc X body mb):SOk X (.While c body [] pos) (sWhile mc mb) :=
 yg (zFJ hp hc hb) λD O H h=>whN_run h
def sAug(i:Nat)(f:Int->Int->Option Int)(m:ME):MS:=λE=>match E[i]? with
 |some (.v (.int a))=>(match m E with
  | .z=>.z| .exc x E1=>.exc x E1
  | .ok (r,E1)=>match r.d with
   | .int b=>(match E1[i]?,f a b with
    |some (.v (.int a')),some z=>if a'=a then .ok (.nx,E1.set i (.v (.int z)))else .z|_,_=>.z)
   |_=>.z)
 |_=>.z
def zAv{i:Nat}{f:Int->Int->Option Int}{ti:TIp}{m:ME}{D:Ends}(hi:∀a b z H Q,f a b=some z->Q (.int z) H->ti (.int a) (.int b) H Q)(h:tS X (sAug i f m) D O H):tAug i (tM X m) ti D O H:=by
 obtain⟨M,E,hl,fr,k⟩:=h;unfold sAug at k;cases e0:E[i]? with
 |none=>rw[e0]at k;exact k.elim
 |some s0 =>
  rw[e0]at k;cases s0 with
  |v d =>
   cases d with
   |int a =>
    dsimp only at k;obtain⟨o,h1,h2⟩:=jH hl e0;obtain⟨v,rfl,rv⟩:=fr.val o (.int a) h2;have ev:=zM rv;subst ev;refine⟨.int a,h1,?_⟩;refine zu (T0:=[]) hl fr ?_;cases em:m E with
    |z=>rw[em]at k;exact k|exc x E1=>rw[em]at k;exact λH' g=>k O H' g
    |ok p =>
     obtain⟨r,E1⟩:=p;rw[em]at k;intro y H1 g;dsimp only at k;cases ed:r.d with
     |int b =>
      rw[ed]at k;dsimp only at k;have ry:=g.rep;rw[ed]at ry;have ey:=zM ry;subst ey;cases e1:E1[i]? with
      |none=>rw[e1]at k;exact k.elim
      |some s1 =>
       cases ef:f a b with
       |none=>rw[e1,ef]at k;cases s1<;>first|exact k.elim|(rename_i d;cases d<;>exact k.elim)
       |some z =>
        rw[e1,ef]at k;cases s1 with
        |v d1 =>
         cases d1 with
         |int a' =>
          dsimp only at k;by_cases ha:a'=a
          ·rw[if_pos ha]at k
           refine hi a b z _ _ ef (k _ H1 ?_);have gz:=g.dropAll.flat (d:=.int z) rfl;exact Gb (r:=.v (.int z)) gz (by simp only[Yt,e1];rfl)
          ·rw[if_neg ha]at k;exact k.elim
         |_=>exact k.elim
        |_=>exact k.elim
     |_=>rw[ed]at k;exact k.elim
   |_=>exact k.elim
  |_=>exact k.elim
def ip_mulB:PIp X .Mult (λx y H Q=>∃i j,x=.int i/\y=.int j/\CMulB i j/\Q (.int (i*j)) H):=by
 intro pins s O H x y v u Q I r1 r2 h;obtain⟨i,j,e1,e2,hc,q⟩:=h;subst e1;subst e2;obtain⟨t,rfl⟩:=r1;obtain⟨t',rfl⟩:=r2;refine PyProof.Rows.imul_int ⟨.int _,H,I.tok _,⟨_,rfl⟩,q⟩ ?_;rcases hc with h|h
 ·exact h.ok
 ·exact zDj h.1 h.2
def Qt:Int->Int->Option Int:=λa b=>if((-(2^64)<a/\a<2^64)\/(-(2^64)<b/\b<2^64))\/(a.natAbs<Big/\b.natAbs<Big)then some (a*b)else none
def zD0{i:Nat}{x:Str}{e:Expr}{m:ME}{pos pos':Pos}(hN:X.N.Nodup)(hi:X.N[i]?=some x)(hx:Loc X.env.scope x)(hf:X.fn x=true\/X.env.scope.names.lookup x=some .local)(he:EOk X e m):SOk X (.AugAssign (.Name x pos') .Add e pos) (sAug i (λa b=>some (a+b)) m) :=
 yg (zDA hN hi hx he zGr hf) λD O H h=>zAv (λa b z H Q ez q=>by cases ez;exact⟨a,b,rfl,rfl,q⟩) h
def zD1{i:Nat}{x:Str}{e:Expr}{m:ME}{pos pos':Pos}(hN:X.N.Nodup)(hi:X.N[i]?=some x)(hx:Loc X.env.scope x)(hf:X.fn x=true\/X.env.scope.names.lookup x=some .local)(he:EOk X e m):SOk X (.AugAssign (.Name x pos') .Sub e pos) (sAug i (λa b=>some (a-b)) m) :=
 yg (zDA hN hi hx he ip_sub hf) λD O H h=>zAv (λa b z H Q ez q=>by cases ez;exact⟨a,b,rfl,rfl,q⟩) h
def zD2{i:Nat}{x:Str}{e:Expr}{m:ME}{pos pos':Pos}(hN:X.N.Nodup)(hi:X.N[i]?=some x)(hx:Loc X.env.scope x)(hf:X.fn x=true\/X.env.scope.names.lookup x=some .local)(he:EOk X e m):SOk X (.AugAssign (.Name x pos') .Mult e pos) (sAug i Qt m) :=
 yg (zDA hN hi hx he ip_mulB hf) λD O H h=>zAv (λa b z H Q ez q=>by
  unfold Qt at ez;split at ez
  ·rename_i hc
   cases ez;exact⟨a,b,rfl,rfl,hc,q⟩
  ·cases ez) h
end
mutual
def pyD:D->Option PyData
 | .non=>some .none| .bl b=>some (.bool b)| .int i=>some (.int i)| .str x=>some (.str x)| .t ds=>(pyDs ds).map .tuple| .l ds=>(pyDs ds).map .list| .dic=>some (.dict [])|_=>none
def pyDs:List D->Option (List PyData)
 | []=>some []
 |d::ds=>match pyD d,pyDs ds with
  |some x,some xs=>some (x::xs)|_,_=>none
end
section
variable{X:Cx}{O:L2.St}{pins:List (Addr×Obj)}{H:Hp}{s:Shared}
def zHF(K:qH):Prop:=∃o es n,K.lookup sysModules=some o/\o.data=.dict es n
def sm_ne(I:Inv X pins O H s)(S:zHF X.K)(e1:s.heap.get? a=some o)(e2:o.data=.seq vs n):sysModules≠a:=by
 obtain⟨p,es,m,q1,q2⟩:=S;intro e;have:=I.kIn _ _ q1;rw[e,e1]at this;cases this;rw[q2]at e2;cases e2
mutual
theorem Yw(I:Inv X pins O H s)(S:zHF X.K):∀{d:D} {v:V} {u:Value} {x:PyData},Rep X.K X.mg H d v->ym v u->pyD d=some x->∃as,Reads s.heap u x as/\sysModules∉as
 | .non,v,u,x=>λr rv e=>by cases e;rw[zAn r]at rv;cases (show u=Value.none from rv);exact⟨_,.none,by simp⟩| .bl b,v,u,x=>λr rv e=>by cases e;rw[Zx r]at rv;cases (show u=Value.bool b from rv);exact⟨_,.bool b,by simp⟩| .int i,v,u,x=>λr rv e=>by cases e;rw[zM r]at rv;obtain⟨t,q⟩:=(show ∃t,u=Value.int i t from rv);subst q;exact⟨_,.int i t,by simp⟩| .str y,v,u,x=>λr rv e=>by cases e;rw[ZP r]at rv;obtain⟨t,q⟩:=(show ∃t,u=Value.str y t from rv);subst q;exact⟨_,.str y t,by simp⟩
 | .t ds,v,u,x=>λr rv e=>by
  obtain⟨a,xs,rfl,h1,h2⟩:=yp r;cases (show u=Value.ref a from rv);obtain⟨its,r1,p,_⟩:=I.tuple h1;obtain⟨o,e1,e2,n,e3⟩:=p;simp only[pyD]at e;cases eq:pyDs ds with
  |none=>rw[eq]at e;cases e
  |some ys =>
   rw[eq]at e;cases e;obtain⟨as,q,z⟩:=readss_of I S h2 r1 eq;exact⟨_,.tuple e1 e2 e3 (by simpa using q),z⟩
 | .l ds,v,u,x=>λr rv e=>by
  obtain⟨a,xs,rfl,h1,h2⟩:=yX r;cases (show u=Value.ref a from rv);obtain⟨its,r1,p,_⟩:=I.list h1;obtain⟨o,n,e1,e2,_,e3⟩:=p;simp only[pyD]at e;cases eq:pyDs ds with
  |none=>rw[eq]at e;cases e
  |some ys =>
   rw[eq]at e;cases e;obtain⟨as,q,z⟩:=readss_of I S h2 r1 eq;exact⟨_,.list e1 e2 e3 (by simpa using q),λhm=>(mem_cons.mp hm).elim (sm_ne I S e1 e3) z⟩
 | .fn y,v,u,x=>λr rv e=>by cases e
 | .dic,v,u,x=>λr rv e=>by
  cases e;simp only[Rep]at r;obtain⟨a,rfl,h1⟩:=r;cases (show u=Value.ref a from rv);obtain⟨_,hS,vs,kv,o,es,ep,g1,g2,g3,_,g5,_⟩:(([]:List (Key×V)).length<=sizeLine)/\(a==sysModules)=false/\∃vs,KV [] vs/\s.heap.DictOf (zAe X.prog X.w) a vs:=I.hok a _ h1;cases kv;have e0:es.toList=[]:=by cases h:es.toList with|nil=>rfl|cons y ys=>rw[h]at g5;cases g5
  refine⟨_,.dict g1 g2.1 g3 (kvs:=[]) (by rw[e0];exact .nil) (by rw[e0];exact .nil),λhm=>?_⟩;rcases mem_cons.mp hm with hm|hm
  ·exact beq_eq_false_iff_ne.mp hS hm.symm
  ·cases hm
 | .exn _ _,_,_,_=>λ_ _ e=>by cases e| .dct _ _,_,_,_=>λ_ _ e=>by cases e
theorem readss_of(I:Inv X pins O H s)(S:zHF X.K):∀{ds:List D} {vs:List V} {us:List Value} {xs:List PyData},Reps X.K X.mg H ds vs->yj vs us->pyDs ds=some xs->∃as,ReadsAll s.heap us xs as/\sysModules∉as
 | [],vs,us,xs=>λr rv e=>by
  cases e;simp only[Reps]at r;subst r;cases rv;exact⟨_,.nil,by simp⟩
 |d::ds,vs,us,xs=>λr rv e=>by
  simp only[Reps]at r;obtain⟨v,vs',rfl,r1,r2⟩:=r;cases rv with
  |cons p q =>
   simp only[pyDs]at e;cases e1:pyD d with
   |none=>rw[e1]at e;cases e
   |some x =>
    cases e2:pyDs ds with
    |none=>rw[e1,e2]at e;cases e
    |some ys =>
     rw[e1,e2]at e;cases e;obtain⟨as,a1,z1⟩:=Yw I S r1 p e1;obtain⟨bs,a2,z2⟩:=readss_of I S r2 q e2;exact⟨_,.cons a1 a2,λhm=>(mem_append.mp hm).elim z1 z2⟩
end
end
end DV
namespace L2
open PySem PySem.Spec PyProof.Rows
section
variable{X:Cx}{pins:List (Addr×Obj)}{O:List (Option V)}{H:Hp}{s:Shared}{h':Heap}
def Inv.turnLay{t':Nat}{fp:List Addr}{q:Addr}{xs:List V}(I:Inv X pins O H s)(hf:∀b∈fp,QK X pins H b)(k:∀b o,b∉fp->s.heap.get? b=some o->h'.get? b=some o)(hq:s.heap.objs.size<=q)(new:jy X.prog X.w (upd H q (.t xs)) h' q (.t xs)):Inv X pins O (upd H q (.t xs)) {s with heap:=h',toks:=t'}:=by
 have hn:H q=none:=I.hok.fresh hq;have nq:∀b u,H b=some u->b≠q:=λb u e z=>by rw[z,hn]at e;cases e
 have nf:∀b u,H b=some u->b∉fp:=λb u e z=>by rw[(hf b z).1]at e;cases e
 refine I.step (g':=s.gens) (d':=s.drawn) (ch:=fp) (λb hb=>?_) (λb o _ _ hc e _=>k b o hc e) (λb o _ _ hc e _=>⟨o.slots,k b o hc e⟩) (λb o _ e n=>?_) (λb o hc e=>⟨o,k b o hc e⟩)
  (λb ys e=>?_) (λb o u e=>?_) (λb ps e=>⟨#[],?_⟩) (λm hm=>?_) (λb u e=>?_) I.bare
 ·obtain⟨_,f1,_,f3,f4,f5⟩:=hf b hb
  exact⟨f3,f1,f4,f5⟩
 ·have:b≠q:=λz=>by subst z;exact absurd (lt_of_lt_of_le (lt_size e) hq) (lt_irrefl _)
  rw[zk this];exact n
 ·rw[zk (nq b _ e)];exact e
 ·rw[zk (nq b _ e)];exact e
 ·rw[zk (nq b _ e),e];simp
 ·obtain⟨o,es,ep,ho,r⟩:=hm
  exact⟨o,es,ep,k _ o (λz=>(hf _ z).2.1 rfl) ho,r⟩
 ·by_cases hb:b=q
  ·subst hb;rw[jR]at e;cases e;exact new
  ·rw[zk hb]at e
   refine(I.hok b u e).stay (λc v hc q'=>k c v ?_ q') (λc q'=>?_) λc ys q'=>?_
   ·rcases hc with z|z
    ·rw[z];exact nf b u e
    ·exact nf c _ z
   ·rw[zk (nq c _ q')];exact q'
   ·rw[zk (nq c _ q')];exact q'
def Inv.turnL{t':Nat}{fp:List Addr}(I:Inv X pins O H s)(hf:∀b∈fp,QK X pins H b)(k:∀b o,b∉fp->s.heap.get? b=some o->h'.get? b=some o):Inv X pins O H {s with heap:=h',toks:=t'}:=by
 have nf:∀b u,H b=some u->b∉fp:=λb u e z=>by rw[(hf b z).1]at e;cases e
 refine I.step (g':=s.gens) (d':=s.drawn) (ch:=fp) (λb hb=>?_) (λb o _ _ hc e _=>k b o hc e) (λb o _ _ hc e _=>⟨o.slots,k b o hc e⟩) (λ_ _ _ _ n=>n) (λb o hc e=>⟨o,k b o hc e⟩)
  (λ_ _ e=>e) (λ_ _ _ e=>e) (λb ps e=>⟨#[],by rw[e];simp⟩) (λm hm=>?_) (λb u e=>?_) I.bare
 ·obtain⟨_,f1,_,f3,f4,f5⟩:=hf b hb
  exact⟨f3,f1,f4,f5⟩
 ·obtain⟨o,es,ep,ho,r⟩:=hm
  exact⟨o,es,ep,k _ o (λz=>(hf _ z).2.1 rfl) ho,r⟩
 ·refine(I.hok b u e).stay (λc v hc q'=>k c v ?_ q') (λ_ q=>q) λ_ _ q=>q
  rcases hc with z|z
  ·rw[z];exact nf b u e
  ·exact nf c _ z
end
end L2
namespace DV
open PySem
abbrev IsZ(h:Heap)(z TI TO:Addr)(f0:Value)(b:Bool):Prop:=h.get? z=some {cls:=.type "zip",dict:=none,data:=.fields #[f0,.bool b,.bool false,.ref TI,.ref TO],slots:=#[]}
def Wt(f0:Value):Prop:=f0=.none\/∃a:Nat,f0=rawInt a
section
variable{prog:Program}{w:World}{A:Around}{E:Value->Shared->Prop}{s:Shared}
def st_iter{α:Type}{Q:α->Shared->Prop}(hh:A.handled=none)(hE:∀h' e,(∀b o,s.heap.get? b=some o->h'.get? b=some o)->(∃o,h'.get? e=some o/\o.cls=.type "StopIteration")->E (.ref e) {s with heap:=h'}):wpAny (model prog w) A.in1 (Builtin.SmallTypes.stopIteration:Sem α) Q E s:=by
 unfold Builtin.SmallTypes.stopIteration;refine qB ?_;unfold newExc newTuple;refine qB (wpAny_newObj_type ?_ (by size_fits));refine qB (m:=firstArgMember _ _) (wpAny_of_eq (a:=Value.none) rfl ?_);refine wpAny_newObj_type ?_ (by size_fits);unfold raiseNew;have hh':A.in1.handled=none:=hh;refine qB (wpAny_handled ?_);rw[hh'];refine qB (qC (wpAny_throw ?_));exact hE _ _ (λb o eb=>qA _ (qA _ eb)) ⟨_,get?_push_size _ rfl,rfl⟩
def sp_tup{Q:Option Value->Shared->Prop}(hh:A.handled=none)(hit:s.heap.IsTupleIter it t i)(ht:s.heap.IsTuple t items)
  (h1:∀x,items[i]?=some x->∀h',h'.IsTupleIter it t (i+1)->Heap.SameBut it s.heap h'->Q (some x) {s with heap:=h'})
  (h2:items[i]?=none->∀h' e,Heap.ExtBut it s.heap h'->(∃o,h'.get? e=some o/\o.cls=.type "StopIteration")->E (.ref e) {s with heap:=h'}) :
  wpAny (model prog w) A (callSpecial? (.ref it) (Str.ofString "__next__")) Q E s:=by
 have⟨o,ho,hc,hd⟩:=id hit;obtain⟨u,hu,_,n,du⟩:=ht;refine wpAny_callSpecial?_slot hit.typeIs F.slot_tuple_iterator_next (wpAny_call_entry F.slot_tuple_iterator_next hit.typeIs F.entry_tuple_iterator_next ?_ (F.args_tuple_iterator_next_1 _));refine qB (m:=field (.ref it) 0) (wpAny_field ho hd (x:=.ref t) rfl ?_);have nn:¬(Value.ref t==Value.none)=true:=qF;simp only[nn,Bool.false_eq_true,if_false];refine qB (m:=field (.ref it) 1) (wpAny_field ho hd (x:=.int i 0) rfl ?_);refine qB (m:=seqItems? (.ref t)) (wpAny_seqItems hu du ?_);cases hx:items[i]? with
 |some x =>
  simp only[Int.toNat_natCast,hx];refine qB (wpAny_setField ho hd (by simp) (qC ⟨x,rfl,h1 x hx _ ?_ (Heap.SameBut.update ..)⟩));exact⟨_,get?_update_self _ ho (Obj.isFreed_of_fields (Obj.data_mapFields hd _)),(Obj.cls_mapFields ..).trans hc,by rw[Obj.data_mapFields hd];simp[rawInt]⟩
 |none =>
  simp only[Int.toNat_natCast,hx];refine qB (wpAny_rule (qB (wpAny_setField ho hd (by simp) ?_)));refine st_iter hh λh' e k q=>h2 hx h' e (λb o nb eb=>k b o ?_) q
  exact(Heap.SameBut.update ..).extBut b o nb eb
structure Src(prog:Program)(w:World)(A:Around)(it l:Addr)(items:Array Value)(st:Nat->Heap->Prop):Prop where
 keep:∀{i:Nat} {h h':Heap},st i h->(∀b,b=it\/b=l->∀o,h.get? b=some o->h'.get? b=some o)->st i h'
 lt:∀{i:Nat} {h:Heap},st i h->it<h.objs.size
 next:∀{i:Nat} {s:Shared} {Q:Value->Shared->Prop} {E:Value->Shared->Prop},st i s.heap->(∀x,items[i]?=some x->∀h',st (i+1) h'->Heap.SameBut it s.heap h'->Q x {s with heap:=h'}) ->
  (items[i]?=none->∀h' e,Heap.ExtBut it s.heap h'->(∃o,h'.get? e=some o/\o.cls=.type "StopIteration")->E (.ref e) {s with heap:=h'})->wpAny (model prog w) A (Builtin.SmallTypes.nextOf (.ref it)) Q E s
def src_tup(hh:A.handled=none)(ne:t≠it)(items:Array Value):Src prog w A it t items (λi h=>h.IsTupleIter it t i/\h.IsTuple t items) where
 keep:=λst k=>⟨st.1.at λo e=>k it (.inl rfl) o e,st.2.at λo e=>k t (.inr rfl) o e⟩
 lt:=λst=>by obtain⟨⟨o,e,_⟩,_⟩:=st;exact lt_size e
 next:=λ{i s Q E} st h1 h2=>by
  unfold Builtin.SmallTypes.nextOf;exact qB (sp_tup hh st.1 st.2 (λx hx h' a b=>qC (h1 x hx h' ⟨a,st.2.extBut b.extBut ne⟩ b)) h2)
def zF4(hh:A.handled=none)(ne:t≠it)(items:Array Value):Src prog w A it t items (λi h=>h.IsListIter it t i/\h.IsList t items) where
 keep:=λst k=>⟨st.1.at λo e=>k it (.inl rfl) o e,st.2.at λo e=>k t (.inr rfl) o e⟩
 lt:=λst=>by obtain⟨⟨o,e,_⟩,_⟩:=st;exact lt_size e
 next:=λ{i s Q E} st h1 h2=>by
  cases hx:items[i]? with
  |some x=>exact wpAny_nextOf_list_item st.1 st.2 hx λh' a b=>h1 x hx h' ⟨a,st.2.extBut b.extBut ne⟩ b|none=>exact wpAny_nextOf_list_end hh st.1 st.2 hx (h2 hx)
def zF5{Q:Bool->Shared->Prop}(hz:IsZ s.heap z TI TO f0 b)(hf:Wt f0)(ht:Q true s)(hn:∀h' b',IsZ h' z TI TO f0 b'->(∀c o,c≠z->s.heap.get? c=some o->h'.get? c=some o)->h'.objs.size=s.heap.objs.size->Q false {s with heap:=h'}) :
  wpAny (model prog w) A (Builtin.SmallTypes.ownedTupleIsFree (.ref z)) Q E s:=by
 unfold Builtin.SmallTypes.ownedTupleIsFree;rcases hf with rfl|⟨a,rfl⟩
 ·exact qB (wpAny_field hz rfl (x:=.none) rfl (qC ht))
 ·refine qB (wpAny_field hz rfl (x:=rawInt a) rfl ?_)
  show wpAny _ _ (loadIfAlive ((a:Int).toNat) >>= _) _ _ _
  refine qB ?_;have al:∀(Q':Option Obj->Shared->Prop),Q' (s.heap.get? (a:Int).toNat) s->wpAny (model prog w) A (loadIfAlive (a:Int).toNat) Q' E s:=λQ' h=>λ_ _ _=>h
  refine al _ ?_;cases s.heap.get? (a:Int).toNat with
  |none=>exact qC ht
  |some o =>
   refine qB (wpAny_field hz rfl (x:=.bool b) rfl ?_);cases b with
   |true=>exact qC (hn s.heap true hz (λ_ _ _ e=>e) rfl)|false=>exact qB (wpAny_setField_rec hz (by simp) λh' z' b'=>qC (hn h' true z' (λc o c1 e=>b'.extBut _ _ c1 e) b'.1))
def zq_next{st1 st2:Nat->Heap->Prop}{Q:Value->Shared->Prop}(S1:Src prog w A i1 l1 xs st1)(S2:Src prog w A i2 l2 ys st2)(D:ZipApart z TI TO i1 i2 l1 l2)
  (hz:IsZ s.heap z TI TO f0 bb) (hf:Wt f0) (hTI:IsPair s.heap TI (.ref i1) (.ref i2)) (hTO:IsPair s.heap TO a b) (h1:st1 k s.heap) (h2:st2 k s.heap)
  (hQ:∀x y,xs[k]?=some x->ys[k]?=some y->∀h' f1 b1,Wt f1->IsZ h' z TI TO f1 b1->(∃u v,IsPair h' TO u v)->st1 (k+1) h'->st2 (k+1) h'->IsPair h' s.heap.objs.size x y ->
   (∀c o,c≠z->c≠TO->c≠i1->c≠i2->s.heap.get? c=some o->h'.get? c=some o)->Q (.ref s.heap.objs.size) {s with heap:=h'})
  (hE:xs[k]?=none\/ys[k]?=none->∀h' e,(∀c o,c≠z->c≠TO->c≠i1->c≠i2->s.heap.get? c=some o->h'.get? c=some o)->(∃o,h'.get? e=some o/\o.cls=.type "StopIteration")->E (.ref e) {s with heap:=h'}) :
  wpAny (model prog w) A (Builtin.«zip.__next__» ⟨[.ref z],[]⟩) (λfin s'=>∃v,fin=.done (.ret v)/\Q v s') E s:=by
 refine qB (m:=field (.ref z) 2) (wpAny_field hz rfl (x:=.bool false) rfl ?_);refine qB (m:=field (.ref z) 3) (wpAny_field hz rfl (x:=.ref TI) rfl ?_);refine qB (wpAny_seqItems hTI rfl ?_);refine qB (m:=Builtin.SmallTypes.ownedTupleIsFree (.ref z)) (zF5 hz hf ?_ λg1 b1 z1 k1 e1=>?_)
 ·simp only[if_true]
  refine qB (wpAny_rule (qB (wpAny_field hz rfl (x:=.ref TO) rfl (qB (wpAny_setField_rec hz (by simp) λg1 z1 b1=>?_)))));have z1:IsZ g1 z TI TO .ellipsis bb:=z1;refine qB ?_;simp only[List.zipIdx_cons,List.zipIdx_nil,forIn_cons,forIn_nil];have s1:st1 k g1:=S1.keep h1 λc hc o e=>b1.extBut c o (by rcases hc with rfl|rfl;exact D.i1z;exact D.l1z) e
  refine qB (qB (wpAny_onRaise (qB (m:=Builtin.SmallTypes.nextOf (.ref i1)) (S1.next s1 (λx hx g2 s2 b2=>qC ?_) λhx g2 e b2 he=>?_))))
  ·have t2:IsPair g2 TO a b:=b2.extBut _ _ D.TOi1 (b1.extBut _ _ D.TOz hTO)
   refine qB (wpAny_seqItems t2 rfl (qB (wpAny_updateSeq_pair t2 λg3 t3 b3=>qB (wpAny_letGo (qC ?_)))));have t3:IsPair g3 TO x b:=t3;have k3:∀c o,c≠z->c≠TO->c≠i1->s.heap.get? c=some o->g3.get? c=some o:=λc o c1 c2 c3 e=>b3.extBut _ _ c2 (b2.extBut _ _ c3 (b1.extBut _ _ c1 e))
   have s3:st1 (k+1) g3:=S1.keep s2 λc hc o e=>b3.extBut c o (by rcases hc with rfl|rfl;exact D.TOi1.symm;exact D.l1TO) e
   have r3:st2 k g3:=S2.keep h2 λc hc o e=>k3 c o (by rcases hc with rfl|rfl;exact D.i2z;exact D.l2z) (by rcases hc with rfl|rfl;exact D.TOi2.symm;exact D.l2TO) (by rcases hc with rfl|rfl;exact D.i12.symm;exact D.l2i1) e
   have z3:IsZ g3 z TI TO .ellipsis bb:=b3.extBut _ _ D.TOz.symm (b2.extBut _ _ D.i1z.symm z1);refine qB (qB (wpAny_onRaise (qB (m:=Builtin.SmallTypes.nextOf (.ref i2)) (S2.next r3 (λy hy g4 r4 b4=>qC ?_) λhy g4 e b4 he=>?_))))
   ·have t4:IsPair g4 TO x b:=b4.extBut _ _ D.TOi2 t3
    refine qB (wpAny_seqItems t4 rfl (qB (wpAny_updateSeq_pair t4 λg5 t5 b5=>qB (wpAny_letGo (qC (qC ?_))))));have t5:IsPair g5 TO x y:=t5;have k5:∀c o,c≠z->c≠TO->c≠i1->c≠i2->s.heap.get? c=some o->g5.get? c=some o:=λc o c1 c2 c3 c4 e=>b5.extBut _ _ c2 (b4.extBut _ _ c4 (k3 c o c1 c2 c3 e))
    have s5:st1 (k+1) g5:=S1.keep s3 λc hc o e=>b5.extBut c o (by rcases hc with rfl|rfl;exact D.TOi1.symm;exact D.l1TO) (b4.extBut c o (by rcases hc with rfl|rfl;exact D.i12;exact D.l1i2) e)
    have r5:st2 (k+1) g5:=S2.keep r4 λc hc o e=>b5.extBut c o (by rcases hc with rfl|rfl;exact D.TOi2.symm;exact D.l2TO) e
    have z5:IsZ g5 z TI TO .ellipsis bb:=b5.extBut _ _ D.TOz.symm (b4.extBut _ _ D.i2z.symm z3);have sz:g5.objs.size=s.heap.objs.size:=by rw[b5.1,b4.1,b3.1,b2.1,b1.1]
    refine qB (wpAny_seqItems t5 rfl (qB (wpAny_newTuple ?_)));refine qB (m:=Builtin.SmallTypes.ownedTupleHandOut (.ref z) (.ref g5.objs.size)) ?_;unfold Builtin.SmallTypes.ownedTupleHandOut;have z6:IsZ (g5.push {cls:=.type "tuple",data:=.seq #[x,y]}) z TI TO .ellipsis bb:=qA _ z5;refine qB (wpAny_setField_rec z6 (by simp) λg7 z7 b7=>?_);have z7:IsZ g7 z TI TO (rawInt g5.objs.size) bb:=z7;refine wpAny_setField_rec z7 (by simp) λg8 z8 b8=>?_
    have z8:IsZ g8 z TI TO (rawInt g5.objs.size) false:=z8;have up:∀c o,c≠z->g5.get? c=some o->g8.get? c=some o:=λc o c1 e=>b8.extBut _ _ c1 (b7.extBut _ _ c1 (qA _ e))
    have zl:z<g5.objs.size:=lt_size z5;have p8:IsPair g8 g5.objs.size x y:=b8.extBut _ _ (ne_of_gt zl) (b7.extBut _ _ (ne_of_gt zl) (get?_push_size _ rfl));rw[sz]at p8;refine qC ⟨_,rfl,?_⟩;show Q (.ref g5.objs.size) _;have fin:=hQ x y hx hy g8 _ _ (.inr ⟨_,rfl⟩) z8 ⟨_,_,up _ _ D.TOz t5⟩ (S1.keep s5 λc hc o e=>up c o (by rcases hc with rfl|rfl;exact D.i1z;exact D.l1z) e) (S2.keep r5 λc hc o e=>up c o (by rcases hc with rfl|rfl;exact D.i2z;exact D.l2z) e) p8 λc o c1 c2 c3 c4 e=>up c o c1 (k5 c o c1 c2 c3 c4 e)
    rw[sz];exact fin
   ·have z4:IsZ g4 z TI TO .ellipsis bb:=b4 _ _ D.i2z.symm z3
    obtain⟨oe,ho,hc⟩:=he;have ez:e≠z:=λq=>by subst q;rw[z4]at ho;cases ho;simp at hc
    exact wpAny_setField_rec z4 (by simp) λg5 _ b5=>hE (.inr hy) g5 e (λc o c1 c2 c3 c4 x=>b5.extBut _ _ c1 (b4 _ _ c4 (k3 c o c1 c2 c3 x))) ⟨oe,b5.extBut _ _ ez ho,hc⟩
  ·have z2:IsZ g2 z TI TO .ellipsis bb:=b2 _ _ D.i1z.symm z1
   obtain⟨oe,ho,hc⟩:=he;have ez:e≠z:=λq=>by subst q;rw[z2]at ho;cases ho;simp at hc
   exact wpAny_setField_rec z2 (by simp) λg3 _ b3=>hE (.inl hx) g3 e (λc o c1 c2 c3 c4 x=>b3.extBut _ _ c1 (b2 _ _ c3 (b1.extBut _ _ c1 x))) ⟨oe,b3.extBut _ _ ez ho,hc⟩
 ·simp only[Bool.false_eq_true,if_false]
  refine qB ?_;rw[<- Array.forIn_toList];simp only[forIn_cons,forIn_nil];have s1:st1 k g1:=S1.keep h1 λc hc o e=>k1 c o (by rcases hc with rfl|rfl;exact D.i1z;exact D.l1z) e
  refine qB (qB (wpAny_holding (qB (m:=Builtin.SmallTypes.nextOf (.ref i1)) (S1.next s1 (λx hx g2 s2 b2=>qC ?_) λhx g2 e b2 he=>?_))))
  ·refine qC ?_
   dsimp only;have k2:∀c o,c≠z->c≠i1->s.heap.get? c=some o->g2.get? c=some o:=λc o c1 c3 e=>b2.extBut _ _ c3 (k1 _ _ c1 e)
   have r2:st2 k g2:=S2.keep h2 λc hc o e=>k2 c o (by rcases hc with rfl|rfl;exact D.i2z;exact D.l2z) (by rcases hc with rfl|rfl;exact D.i12.symm;exact D.l2i1) e
   refine qB (qB (wpAny_holding (qB (m:=Builtin.SmallTypes.nextOf (.ref i2)) (S2.next r2 (λy hy g3 r3 b3=>qC ?_) λhy g3 e b3 he=>?_))))
   ·refine qC ?_
    dsimp only;refine qC ?_;dsimp only;refine qB (wpAny_newTuple (hsz:=by simp[sizeLine_eq]) (qC ⟨_,rfl,?_⟩));have sz:g3.objs.size=s.heap.objs.size:=by rw[b3.1,b2.1,e1]
    have k3:∀c o,c≠z->c≠i1->c≠i2->s.heap.get? c=some o->g3.get? c=some o:=λc o c1 c3 c4 e=>b3.extBut _ _ c4 (k2 c o c1 c3 e)
    have s3:st1 (k+1) g3:=S1.keep s2 λc hc o e=>b3.extBut c o (by rcases hc with rfl|rfl;exact D.i12;exact D.l1i2) e
    have z3:IsZ g3 z TI TO f0 b1:=b3.extBut _ _ D.i2z.symm (b2.extBut _ _ D.i1z.symm z1);have fin:=hQ x y hx hy (g3.push {cls:=.type "tuple",data:=.seq #[x,y]}) _ _ hf (qA _ z3) ⟨_,_,qA _ (k3 _ _ D.TOz D.TOi1 D.TOi2 hTO)⟩ (S1.keep s3 λc hc o e=>qA _ e) (S2.keep r3 λc hc o e=>qA _ e) (sz▸get?_push_size _ rfl) λc o c1 c2 c3 c4 e=>qA _ (k3 c o c1 c3 c4 e)
    show Q (.ref g3.objs.size) _
    rw[sz];exact fin
   ·exact hE (.inr hy) g3 e (λc o c1 c2 c3 c4 x=>b3 _ _ c4 (k2 c o c1 c3 x)) he
  ·exact hE (.inl hx) g2 e (λc o c1 c2 c3 c4 x=>b2 _ _ c3 (k1 _ _ c1 x)) he
def Qu{st1 st2:Nat->Heap->Prop}{Q:Option Value->Shared->Prop}(S1:Src prog w A.in1 i1 l1 xs st1)(S2:Src prog w A.in1 i2 l2 ys st2)(D:ZipApart z TI TO i1 i2 l1 l2)
  (hz:IsZ s.heap z TI TO f0 bb) (hf:Wt f0) (hTI:IsPair s.heap TI (.ref i1) (.ref i2)) (hTO:IsPair s.heap TO a b) (h1:st1 k s.heap) (h2:st2 k s.heap)
  (hQ:∀x y,xs[k]?=some x->ys[k]?=some y->∀h' f1 b1,Wt f1->IsZ h' z TI TO f1 b1->(∃u v,IsPair h' TO u v)->st1 (k+1) h'->st2 (k+1) h'->IsPair h' s.heap.objs.size x y ->
   (∀c o,c≠z->c≠TO->c≠i1->c≠i2->s.heap.get? c=some o->h'.get? c=some o)->Q (some (.ref s.heap.objs.size)) {s with heap:=h'})
  (hE:xs[k]?=none\/ys[k]?=none->∀h',(∀c o,c≠z->c≠TO->c≠i1->c≠i2->s.heap.get? c=some o->h'.get? c=some o)->Q none {s with heap:=h'}):wpAny (model prog w) A (pyNext (.ref z)) Q E s:=by
 have hT:s.TypeIs (.ref z) "zip":=⟨_,hz,rfl⟩;unfold pyNext;refine qB (wpAny_attempt (wpAny_callSpecial?_slot hT F.slot_zip_next (wpAny_call_entry F.slot_zip_next hT F.entry_zip_next (zq_next S1 S2 D hz hf hTI hTO h1 h2 (λx y hx hy h' f1 b1 a0 a1 a2 a3 a4 a5 a6=>?_) λhend h' e hk he=>?_) (F.args_zip_next_1 _))))
 ·exact qC (hQ x y hx hy h' f1 b1 a0 a1 a2 a3 a4 a5 a6)
 ·obtain⟨o,ho,hc⟩:=he
  exact qB (wpAny_isInstance (T:="StopIteration") (b:=true) ⟨o,ho,hc⟩ isSubtype_stop (qC (hE hend h' hk)))
def it_zipN{Q:Value->Shared->Prop}(hz:IsZ s.heap z TI TO f0 b)(h:Q (.ref z) s):wpAny (model prog w) A (pyIter (.ref z)) Q E s:=by
 have hT:s.TypeIs (.ref z) "zip":=⟨_,hz,rfl⟩;refine wpAny_pyIter_slot hT F.slot_zip_iter (wpAny_call_entry F.slot_zip_iter hT F.entry_zip_iter ?_ (F.args_zip_iter_1 _));show wpAny _ _ (ret (.ref z)) _ _ s;exact qC ⟨_,rfl,"zip",_,hT,F.slot_zip_next.lookup,h⟩
def TgZ(tg:Expr):Prop:=(∃el x p,tg=.Tuple el x p)\/∃y p,tg=.Name y p
def lo_zip{Q:Unit->Shared->Prop}(ht:TgZ tg)(hf:Wt f0)(hz:IsZ s.heap z TI TO f0 b)(hQ:∀h' f1,Wt f1->IsZ h' z TI TO f1 b->(∀c o,c≠z->s.heap.get? c=some o->h'.get? c=some o)->Q () {s with heap:=h'}):wpAny (model prog w) A (letOwnedTupleGo tg (.ref z) (.ref T)) Q E s:=by
 rcases ht with⟨el,x,p,rfl⟩|⟨y,p,rfl⟩
 ·unfold letOwnedTupleGo
  refine qB (wpAny_load hz ?_);show wpAny _ _ (if(["enumerate","zip","dict_itemiterator","dict_reverseitemiterator","odict_iterator","itertools.zip_longest","itertools.pairwise"].contains "zip"&&(#[f0,.bool b,.bool false,.ref TI,.ref TO]:Array Value)[0]?==some (rawInt T))=true then _ else _) Q E s;refine wpAny_ite_split (λ_=>qB (wpAny_rule ?_)) (λ_=>qC (hQ s.heap f0 hf hz λ_ _ _ e=>e));show wpAny _ _ (setField (.ref z) 0 .none) Q E s;exact wpAny_setField_rec hz (by simp) λh' hz' hs'=>hQ h' .none (.inl rfl) hz' λc o c1 e=>hs'.extBut _ _ c1 e
 ·exact qC (hQ s.heap f0 hf hz λ_ _ _ e=>e)
end
abbrev itO(c:String)(l:Addr):Obj:={cls:=.type c,data:=.fields #[.ref l,.int 0 0]}
abbrev zpA(h:Heap)(c1 c2:String)(l1 l2:Addr):Heap:=(h.push (itO c1 l1)).push (itO c2 l2)
abbrev zpB(h:Heap)(c1 c2:String)(l1 l2:Addr):Heap:=(zpA h c1 c2 l1 l2).push {cls:=.type "tuple",data:=.seq #[.ref h.objs.size,.ref (h.push (itO c1 l1)).objs.size]}
abbrev zpC(h:Heap)(c1 c2:String)(l1 l2:Addr):Heap:=(zpB h c1 c2 l1 l2).push {cls:=.type "tuple",data:=.seq #[.none,.none]}
abbrev zpD(h:Heap)(c1 c2:String)(l1 l2:Addr):Heap:=(zpC h c1 c2 l1 l2).push {cls:=.type "zip",data:=.fields #[.none,.bool false,.bool false,.ref (zpA h c1 c2 l1 l2).objs.size,.ref (zpB h c1 c2 l1 l2).objs.size]}
def zF6(l1 l2:Addr)(xs ys:Array Value):Meets (Builtin.«zip.__new__» ⟨[.type "zip",.ref l1,.ref l2],[]⟩) (λ_ R s=>s.heap.IsTuple l1 xs/\s.heap.IsTuple l2 ys/\R (.ok (.ret (.ref (zpC s.heap "tuple_iterator" "tuple_iterator" l1 l2).objs.size))) {s with heap:=zpD s.heap "tuple_iterator" "tuple_iterator" l1 l2}) :=
 .of_wp λprog w A R s h=>by
  obtain⟨hp,g,d,tk,os⟩:=s;obtain⟨h1,h2,h⟩:=h;have hs:=sub_zip;have a1:Heap.IsTuple (Shared.heap ⟨hp,g,d,tk,os⟩) l1 xs:=h1;have a2:Heap.IsTuple (Shared.heap ⟨hp.push (itO "tuple_iterator" l1),g,d,tk,os⟩) l2 ys:=h2.at λo e=>qA _ e
  wp_walk using wpAny_pyIter_tuple a1,wpAny_pyIter_tuple a2
  exact⟨_,rfl,h⟩
def zF7(l1 l2:Addr)(xs ys:Array Value):Meets (Builtin.«zip.__new__» ⟨[.type "zip",.ref l1,.ref l2],[]⟩) (λ_ R s=>s.heap.IsTuple l1 xs/\s.heap.IsList l2 ys/\R (.ok (.ret (.ref (zpC s.heap "tuple_iterator" "list_iterator" l1 l2).objs.size))) {s with heap:=zpD s.heap "tuple_iterator" "list_iterator" l1 l2}) :=
 .of_wp λprog w A R s h=>by
  obtain⟨hp,g,d,tk,os⟩:=s;obtain⟨h1,h2,h⟩:=h;have hs:=sub_zip;have a1:Heap.IsTuple (Shared.heap ⟨hp,g,d,tk,os⟩) l1 xs:=h1;have a2:Heap.IsList (Shared.heap ⟨hp.push (itO "tuple_iterator" l1),g,d,tk,os⟩) l2 ys:=h2.at λo e=>qA _ e
  wp_walk using wpAny_pyIter_tuple a1,wpAny_pyIter_list a2
  exact⟨_,rfl,h⟩
def zF8(l1 l2:Addr)(xs ys:Array Value):Meets (Builtin.«zip.__new__» ⟨[.type "zip",.ref l1,.ref l2],[]⟩) (λ_ R s=>s.heap.IsList l1 xs/\s.heap.IsTuple l2 ys/\R (.ok (.ret (.ref (zpC s.heap "list_iterator" "tuple_iterator" l1 l2).objs.size))) {s with heap:=zpD s.heap "list_iterator" "tuple_iterator" l1 l2}) :=
 .of_wp λprog w A R s h=>by
  obtain⟨hp,g,d,tk,os⟩:=s;obtain⟨h1,h2,h⟩:=h;have hs:=sub_zip;have a1:Heap.IsList (Shared.heap ⟨hp,g,d,tk,os⟩) l1 xs:=h1;have a2:Heap.IsTuple (Shared.heap ⟨hp.push (itO "list_iterator" l1),g,d,tk,os⟩) l2 ys:=h2.at λo e=>qA _ e
  wp_walk using wpAny_pyIter_list a1,wpAny_pyIter_tuple a2
  exact⟨_,rfl,h⟩
def zF9(l1 l2:Addr)(xs ys:Array Value):Meets (Builtin.«zip.__new__» ⟨[.type "zip",.ref l1,.ref l2],[]⟩) (λ_ R s=>s.heap.IsList l1 xs/\s.heap.IsList l2 ys/\R (.ok (.ret (.ref (zpC s.heap "list_iterator" "list_iterator" l1 l2).objs.size))) {s with heap:=zpD s.heap "list_iterator" "list_iterator" l1 l2}):=meets_zip_new l1 l2 xs ys
structure Zp(h h':Heap)(c1 c2:String)(l1 l2:Addr):Prop where
 z:IsZip h' (h.objs.size+4) (h.objs.size+2) (h.objs.size+3) .none
 a:IsPair h' (h.objs.size+2) (.ref h.objs.size) (.ref (h.objs.size+1))
 b:IsPair h' (h.objs.size+3) .none .none
 i1:h'.get? h.objs.size=some (itO c1 l1)
 i2:h'.get? (h.objs.size+1)=some (itO c2 l2)
 kp:∀c o,h.get? c=some o->h'.get? c=some o
def zp_of(h:Heap)(c1 c2:String)(l1 l2:Addr):Zp h (zpD h c1 c2 l1 l2) c1 c2 l1 l2/\(zpC h c1 c2 l1 l2).objs.size=h.objs.size+4:=by
 have n1:(h.push (itO c1 l1)).objs.size=h.objs.size+1:=size_push ..;have n2:(zpA h c1 c2 l1 l2).objs.size=h.objs.size+2:=by rw[size_push,n1]
 have n3:(zpB h c1 c2 l1 l2).objs.size=h.objs.size+3:=by rw[size_push,n2]
 have n4:(zpC h c1 c2 l1 l2).objs.size=h.objs.size+4:=by rw[size_push,n3]
 have u:=λ(h:Heap) (o:Obj) {b:Addr} {q:Obj} (e:h.get? b=some q)=>qA (h:=h) o e
 have g5:(zpD h c1 c2 l1 l2).get? (zpC h c1 c2 l1 l2).objs.size=some _:=get?_push_size _ rfl;have g4:(zpD h c1 c2 l1 l2).get? (zpB h c1 c2 l1 l2).objs.size=some _:=qA _ (get?_push_size _ rfl);have g3:(zpD h c1 c2 l1 l2).get? (zpA h c1 c2 l1 l2).objs.size=some _:=qA _ (qA _ (get?_push_size _ rfl));have g2:(zpD h c1 c2 l1 l2).get? (h.push (itO c1 l1)).objs.size=some (itO c2 l2):=qA _ (qA _ (qA _ (get?_push_size _ rfl)));have g1:(zpD h c1 c2 l1 l2).get? h.objs.size=some (itO c1 l1):=qA _ (qA _ (qA _ (qA _ (get?_push_size _ rfl))));rw[n2,n3,n4]at g5;rw[n1,n2]at g3;rw[n3]at g4;rw[n1]at g2;exact⟨⟨g5,g3,g4,g1,g2,λc o e=>qA _ (qA _ (qA _ (qA _ (qA _ e))))⟩,n4⟩
section
variable{prog:Program}{w:World}{A:Around}{E:Value->Shared->Prop}{s:Shared}
def SqO(h:Heap)(t:Bool)(l:Addr)(xs:Array Value):Prop:=if t then h.IsTuple l xs else h.IsList l xs
def itC(t:Bool):String:=if t then "tuple_iterator" else "list_iterator"
def zp_call{Q:Value->Shared->Prop}(h1:SqO s.heap t1 l1 xs)(h2:SqO s.heap t2 l2 ys)(h:∀h',Zp s.heap h' (itC t1) (itC t2) l1 l2->Q (.ref (s.heap.objs.size+4)) {s with heap:=h'}):wpAny (model prog w) A (call (.type "zip") [.ref l1,.ref l2]) Q E s:=by
 obtain⟨z,n⟩:=zp_of s.heap (itC t1) (itC t2) l1 l2;have hz:=h _ z;have fin:∀{P:Heap->Prop},P s.heap->Meets (Builtin.«zip.__new__» ⟨[.type "zip",.ref l1,.ref l2],[]⟩) (λ_ R s=>P s.heap/\R (.ok (.ret (.ref (zpC s.heap (itC t1) (itC t2) l1 l2).objs.size))) {s with heap:=zpD s.heap (itC t1) (itC t2) l1 l2})->wpAny (model prog w) A (call (.type "zip") [.ref l1,.ref l2]) Q E s:=λ{P} hP m=>by
  refine callType_new F.called_zip (by decide) (F.typeCall_zip_2 _ _) (F.newCall_zip_2 _ _) (λobj=>F.args_object_init_3 obj _ _) F.entry_zip_new m ⟨hP,?_⟩;show _/\_;rw[n];exact⟨⟨_,z.z,rfl⟩,hz⟩
 cases t1<;>cases t2
 ·exact fin (P:=λh=>h.IsList l1 xs/\h.IsList l2 ys) ⟨h1,h2⟩ (Meets.of_imp (zF9 l1 l2 xs ys) λA R s q=>⟨q.1.1,q.1.2,q.2⟩)
 ·exact fin (P:=λh=>h.IsList l1 xs/\h.IsTuple l2 ys) ⟨h1,h2⟩ (Meets.of_imp (zF8 l1 l2 xs ys) λA R s q=>⟨q.1.1,q.1.2,q.2⟩)
 ·exact fin (P:=λh=>h.IsTuple l1 xs/\h.IsList l2 ys) ⟨h1,h2⟩ (Meets.of_imp (zF7 l1 l2 xs ys) λA R s q=>⟨q.1.1,q.1.2,q.2⟩)
 ·exact fin (P:=λh=>h.IsTuple l1 xs/\h.IsTuple l2 ys) ⟨h1,h2⟩ (Meets.of_imp (zF6 l1 l2 xs ys) λA R s q=>⟨q.1.1,q.1.2,q.2⟩)
end
end DV
namespace DV
open PySem L2 PySem.Spec PyProof.Rows
def SqH(K:qH)(H:Hp)(t:Bool)(a:Addr)(xs:List V):Prop:=if t then SqT K H a xs else SqL K H a xs
section
variable{X:Cx}{pins:List (Addr×Obj)}{O:L2.St}{H:Hp}{s:Shared}{a b:Addr}{xs ys:List V}
def wo(I:Inv X pins O H s)(h:SqH X.K H t a xs):∃its:List Value,yj xs its/\SqO s.heap t a its.toArray:=by
 cases t with
 |true =>
  obtain⟨its,r,p,_⟩:=I.tuple h;exact⟨its,r,p⟩
 |false =>
  obtain⟨its,r,p,_⟩:=I.list h;exact⟨its,r,p.isList⟩
def zAw(I:Inv X pins O H s)(h:SqH X.K H t a xs)(h':SqH X.K H t a ys):xs=ys:=by
 cases t with
 |true=>exact I.tuple_inj h h'|false=>exact I.list_inj h h'
def ur(I:Inv X pins O H s)(h:SqH X.K H t a xs)(f:QK X pins H b):a≠b:=by
 intro z;subst z;have key:∀o,X.K.lookup a=some o->False:=λo hk=>by
  have hb:=I.ok.mod.kin a o hk;have e:=I.ok.bs a o hb;rcases f.2.2.2.1 with q|q
  ·exact I.ok.noex a o hb q
  ·exact absurd (lt_of_lt_of_le (lt_size e.1) q) (lt_irrefl _)
 have key2:∀u,Rd H a u->False:=λu r=>by
  rcases r with r|⟨o,r⟩<;>rw[f.1]at r<;>cases r
 cases t with
 |true =>
  rcases h with h|⟨o,its,n,hk,_⟩
  ·exact key2 _ h
  ·exact key o hk
 |false =>
  rcases h with h|⟨o,its,n,hk,_⟩
  ·exact key2 _ h
  ·exact key o hk
end
def Itz(K:qH)(t1 t2:Bool)(a b:Addr):It :=
 ⟨λi H=>∃xs ys,SqH K H t1 a xs/\SqH K H t2 b ys/\i<xs.length/\i<ys.length,
  λi H x H'=>∃q u v,(∀xs,SqH K H t1 a xs->xs[i]?=some u)/\(∀ys,SqH K H t2 b ys->ys[i]?=some v)/\H q=none/\H'=upd H q (.t [u,v])/\x=.ref q,
  λi H=>∃xs ys,SqH K H t1 a xs/\SqH K H t2 b ys/\(xs.length<=i\/ys.length<=i)⟩
def ItA(t:Bool)(h:Heap)(it l:Addr)(i:Nat):Prop:=if t then h.IsTupleIter it l i else h.IsListIter it l i
def ut(x:ItA t h it l i)(k:∀o,h.get? it=some o->h'.get? it=some o):ItA t h' it l i:=by
 cases t with
 |true=>exact Heap.IsTupleIter.at x k|false=>exact Heap.IsListIter.at x k
def ZS(x:ItA t h it l i):∃o,h.get? it=some o/\∀v,o.data≠.cell v:=by
 cases t with
 |true=>obtain⟨o,e,c,d⟩:=x;exact⟨o,e,λv z=>by rw[d]at z;cases z⟩|false=>obtain⟨o,e,c,d⟩:=x;exact⟨o,e,λv z=>by rw[d]at z;cases z⟩
def srcA(hh:A.handled=none)(t:Bool)(ne:l≠it)(items:Array Value):Src prog w A it l items (λi h=>ItA t h it l i/\SqO h t l items):=by
 cases t with
 |true=>exact src_tup hh ne items|false=>exact zF4 hh ne items
structure Five(z TI TO i1 i2:Addr):Prop where
 a1:TI≠z
 a2:TO≠z
 a3:i1≠z
 a4:i2≠z
 a5:TI≠TO
 a6:TI≠i1
 a7:TI≠i2
 a8:TO≠i1
 a9:TO≠i2
 a10:i1≠i2
def ZSn(z TI TO i1 i2:Addr)(t1 t2:Bool)(a b:Addr)(i:Nat)(h:Heap):Prop:=(∃f0 b,Wt f0/\IsZ h z TI TO f0 b)/\IsPair h TI (.ref i1) (.ref i2)/\(∃u v,IsPair h TO u v)/\ItA t1 h i1 a i/\ItA t2 h i2 b i
def zGA{P:Program}{w:World}{K:qH}{tg:Expr}{z TI TO i1 i2:Addr}(ht:TgZ tg)(F:Five z TI TO i1 i2)(t1 t2:Bool)(a b:Addr):Turn P w K tg (Itz K t1 t2 a b) [z,TI,TO,i1,i2] z (ZSn z TI TO i1 i2 t1 t2 a b) where
 mem:=by simp
 obj:=λi h st c hc=>by
  obtain⟨⟨f0,bb,hf0,hz⟩,hI,⟨u,v,hO⟩,h1,h2⟩:=st;simp only[mem_cons,mem_nil_iff,or_false]at hc;rcases hc with rfl|rfl|rfl|rfl|rfl
  ·exact⟨_,hz,λv z=>by cases z⟩
  ·exact⟨_,hI,λv z=>by cases z⟩
  ·exact⟨_,hO,λv z=>by cases z⟩
  ·exact ZS h1
  ·exact ZS h2
 keep:=λi h h' st k=>by
  obtain⟨⟨f0,bb,hf0,hz⟩,hI,⟨u,v,hO⟩,h1,h2⟩:=st;exact⟨⟨f0,bb,hf0,k z (by simp) _ hz⟩,k TI (by simp) _ hI,⟨u,v,k TO (by simp) _ hO⟩,ut h1 λo e=>k i1 (by simp) o e,ut h2 λo e=>k i2 (by simp) o e⟩
 item:=by
  intro X hP hw hK hc i pins s O H E I hf st hg;subst hP hw hK;obtain⟨⟨f0,bb,hf0,hz⟩,hI,⟨u0,v0,hO⟩,h1,h2⟩:=st;obtain⟨xs,ys,q1,q2,l1,l2⟩:=hg;obtain⟨us,r1,p1⟩:=wo I q1;obtain⟨vs,r2,p2⟩:=wo I q2;have na:∀c∈[z,TI,TO,i1,i2],a≠c:=λc hc=>ur I q1 (hf c hc)
  have nb:∀c∈[z,TI,TO,i1,i2],b≠c:=λc hc=>ur I q2 (hf c hc)
  have D:ZipApart z TI TO i1 i2 a b:=⟨F.a1,F.a2,F.a3,F.a4,F.a5,F.a6,F.a7,F.a8,F.a9,F.a10,na z (by simp),na TO (by simp),na i1 (by simp),na i2 (by simp),nb z (by simp),nb TO (by simp),nb i1 (by simp),nb i2 (by simp)⟩;have hh:X.A.in1.handled=none:=I.ok.hd hc;obtain⟨u,eu⟩:∃u,xs[i]?=some u:=⟨_,getElem?_eq_getElem l1⟩;obtain⟨v,ev⟩:∃v,ys[i]?=some v:=⟨_,getElem?_eq_getElem l2⟩;obtain⟨u',eu',ru⟩:=r1.get eu;obtain⟨v',ev',rv⟩:=r2.get ev;refine Qu (srcA hh t1 (na i1 (by simp)) us.toArray) (srcA hh t2 (nb i2 (by simp)) vs.toArray) D hz hf0 hI hO ⟨h1,p1⟩ ⟨h2,p2⟩ (λx y hx hy h' f1 b1 w1 z1 o1 s1 s2 pq kk=>?_) (λhe=>?_)
  ·have ex:x=u':=by simp[eu']at hx;exact hx.symm
   have ey:y=v':=by simp[ev']at hy;exact hy.symm
   subst ex ey;refine⟨_,rfl,lo_zip (s:={s with heap:=h'}) ht w1 z1 λh2 f2 w2 z2 b2=>?_⟩
   have lt:∀{c o},s.heap.get? c=some o->s.heap.objs.size≠c:=λe=>ne_of_gt (lt_size e)
   have pq2:IsPair h2 s.heap.objs.size x y:=b2 _ _ (lt hz) pq;have k2:∀c o,c∉[z,TI,TO,i1,i2]->s.heap.get? c=some o->h2.get? c=some o:=λc o hc e=>b2 _ _ (λq=>hc (by simp[q])) (kk c o (λq=>hc (by simp[q])) (λq=>hc (by simp[q])) (λq=>hc (by simp[q])) (λq=>hc (by simp[q])) e)
   obtain⟨ou,ov,o1⟩:=o1;have new:jy X.prog X.w (upd H s.heap.objs.size (.t [u,v])) h2 s.heap.objs.size (.t [u,v]):=⟨by simp[sizeLine_eq],[x,y],.cons ru (.cons rv .nil),⟨_,pq2,rfl,_,rfl⟩⟩;have I2:=I.turnLay (t':=s.toks) hf k2 (le_refl _) new;have fresh:H s.heap.objs.size=none:=I.hok.fresh (le_refl _);refine⟨.ref s.heap.objs.size,_,I2,rfl,⟨_,u,v,λzs hz=>by rw[zAw I hz q1];exact eu,λzs hz=>by rw[zAw I hz q2];exact ev,fresh,rfl,rfl⟩,⟨⟨f2,b1,w2,z2⟩,b2 _ _ F.a1 (kk TI _ F.a1 F.a5 F.a6 F.a7 hI),⟨_,_,b2 _ _ F.a2 o1⟩,ut s1.1 λo e=>b2 _ _ F.a3 e,ut s2.1 λo e=>b2 _ _ F.a4 e⟩,λc hc=>?_⟩;have:c≠s.heap.objs.size:=λq=>by
    obtain⟨o,e⟩:∃o,s.heap.get? c=some o:=by
     simp only[mem_cons,mem_nil_iff,or_false]at hc;rcases hc with rfl|rfl|rfl|rfl|rfl
     ·exact⟨_,hz⟩
     ·exact⟨_,hI⟩
     ·exact⟨_,hO⟩
     ·obtain⟨o,e,_⟩:=ZS h1;exact⟨o,e⟩
     ·obtain⟨o,e,_⟩:=ZS h2;exact⟨o,e⟩
    exact lt e q.symm
   rw[zk this];exact(hf c hc).1
  ·exfalso
   rcases he with he|he
   ·simp[eu']at he
   ·simp[ev']at he
 done:=by
  intro X hP hw hK hc i pins s O H E I hf st hg;subst hP hw hK;obtain⟨⟨f0,bb,hf0,hz⟩,hI,⟨u0,v0,hO⟩,h1,h2⟩:=st;obtain⟨xs,ys,q1,q2,l12⟩:=hg;obtain⟨us,r1,p1⟩:=wo I q1;obtain⟨vs,r2,p2⟩:=wo I q2;have na:∀c∈[z,TI,TO,i1,i2],a≠c:=λc hc=>ur I q1 (hf c hc)
  have nb:∀c∈[z,TI,TO,i1,i2],b≠c:=λc hc=>ur I q2 (hf c hc)
  have D:ZipApart z TI TO i1 i2 a b:=⟨F.a1,F.a2,F.a3,F.a4,F.a5,F.a6,F.a7,F.a8,F.a9,F.a10,na z (by simp),na TO (by simp),na i1 (by simp),na i2 (by simp),nb z (by simp),nb TO (by simp),nb i1 (by simp),nb i2 (by simp)⟩;have hh:X.A.in1.handled=none:=I.ok.hd hc;have e1:=r1.length;have e2:=r2.length;refine Qu (srcA hh t1 (na i1 (by simp)) us.toArray) (srcA hh t2 (nb i2 (by simp)) vs.toArray) D hz hf0 hI hO ⟨h1,p1⟩ ⟨h2,p2⟩ (λx y hx hy=>?_) (λhe h' kk=>⟨rfl,?_⟩)
  ·exfalso
   simp at hx hy
   have a1:=(qG.mp hx).1;have a2:=(qG.mp hy).1;omega
  ·exact I.turnL (t':=s.toks) hf λc o hc e=>kk c o (λq=>hc (by simp[q])) (λq=>hc (by simp[q])) (λq=>hc (by simp[q])) (λq=>hc (by simp[q])) e
 self:=λ_ _ _ _ _ st h=>by
  obtain⟨⟨f0,bb,hf0,hz⟩,_⟩:=st;exact it_zipN hz h
section
variable{X:Cx}{K:qH}{mg:Str->Option Value}{O:L2.St}{H:Hp}
def iZip(K:qH)(t1 t2:Bool)(ta:TA):TI:=λO H R=>ta O H λvs H1=>∃a b xs ys,vs=[.ref a,.ref b]/\SqH K H1 t1 a xs/\SqH K H1 t2 b ys/\R (Itz K t1 t2 a b) H1
def bt_zip:bootBuiltins "zip"=some (.type "zip"):=by decide +kernel
def zD3(e:h.get? it=some (itO (itC t) l)):ItA t h it l 0:=by
 cases t with
 |true=>exact⟨_,e,rfl,rfl⟩|false=>exact⟨_,e,rfl,rfl⟩
def five(n:Addr):Five (n+4) (n+2) (n+3) n (n+1) :=
 have e:∀i j:Nat,i≠j->n+i≠n+j:=λi j h q=>h (Nat.add_left_cancel q)
 ⟨e 2 4 (by decide),e 3 4 (by decide),e 0 4 (by decide),e 1 4 (by decide),e 2 3 (by decide),e 2 0 (by decide),e 2 1 (by decide),e 3 0 (by decide),e 3 1 (by decide),e 0 1 (by decide)⟩
def pi_zip(ht:TgZ tg)(hg:Gl X "zip")(hm:X.mg "zip"=none)(ha:PA X [e,f] ta)(hs:starEach [e,f] X.env=[(false,eval e X.env),(false,eval f X.env)]:=by rfl)(hs2:starEach [f] X.env=[(false,eval f X.env)]:=by rfl) :
  PI X tg (.Call (.Name "zip" p) [e,f] [] pos) (iZip X.K t1 t2 ta):=by
 intro pins s O H R I h;refine Call_ (J6 I hg hm bt_zip (PyProof.Rows.callWith_type1 (thn (ha pos pins s O H _ I h) λus s1 ⟨vs,H1,I1,r1,q1⟩=>?_) (by rw[hs,hs2]) (by rw[hs2];rfl)));obtain⟨a,b,xs,ys,ev,qa,qb,q⟩:=q1;subst ev;cases r1 with
 |cons r rr =>
  cases rr with
  |cons r' rr =>
   cases rr;cases r;cases r';obtain⟨u1,v1,p1⟩:=wo I1 qa;obtain⟨u2,v2,p2⟩:=wo I1 qb;refine zp_call p1 p2 λh' z=>?_
   refine wpAny_pyIter_zip (s:={s1 with heap:=h'}) z.z ?_
   have n:∀j,s1.heap.objs.size<=s1.heap.objs.size+j:=λj=>Nat.le_add_right _ _
   have fr:∀c,s1.heap.objs.size<=c->QK X pins H1 c:=λc hc=>I1.fpOk hc (I1.hok.fresh hc)
   refine⟨_,[s1.heap.objs.size+4,s1.heap.objs.size+2,s1.heap.objs.size+3,s1.heap.objs.size,s1.heap.objs.size+1],_,_,H1,rfl,I1.kept (t':=s1.toks) z.kp,zGA ht (five _) t1 t2 a b,⟨⟨.none,false,.inl rfl,z.z⟩,z.a,⟨_,_,z.b⟩,zD3 z.i1,zD3 z.i2⟩,λc hc=>?_,q⟩;simp only[mem_cons,mem_nil_iff,or_false]at hc;rcases hc with rfl|rfl|rfl|rfl|rfl
   ·exact fr _ (n 4)
   ·exact fr _ (n 2)
   ·exact fr _ (n 3)
   ·exact fr _ (n 0)
   ·exact fr _ (n 1)
def uG(d e:D):D:=.t [d,e]
def yR(e:ZK H H')(h:SqH K H t a xs):SqH K H' t a xs:=by
 cases t with
 |true=>exact zO e h|false=>exact e.seq h
def it_zip:ItOk K mg (Itz K t1 t2 a b) (zipWith uG ds es) (λH=>SqH K H t1 a xs/\Reps K mg H ds xs/\SqH K H t2 b ys/\Reps K mg H es ys) where
 mono:=λH H' s h=>⟨yR s h.1,h.2.1.mono s,yR s h.2.2.1,h.2.2.2.mono s⟩
 go:=λi Hh H s h hi=>by
  rw[List.length_zipWith]at hi;exact⟨xs,ys,yR s h.1,yR s h.2.2.1,by rw[h.2.1.length];omega,by rw[h.2.2.2.length];omega⟩
 yld:=λi Hh H x H' s h hi y=>by
  obtain⟨q,u,v,h1,h2,hq,rfl,rfl⟩:=y;have e1:=h1 xs (yR s h.1);have e2:=h2 ys (yR s h.2.2.1);obtain⟨d,g1,r1⟩:=h.2.1.get e1;obtain⟨e,g2,r2⟩:=h.2.2.2.get e2;refine⟨uG d e,by rw[List.getElem?_zipWith,g1,g2],.inr ⟨q,[u,v],[d,e],hq,rfl,rfl,rfl,Reps.cons r1 (Reps.cons r2 Reps.nil)⟩⟩
 stop:=λi Hh H s h hi=>by
  rw[List.length_zipWith]at hi;refine⟨xs,ys,yR s h.1,yR s h.2.2.1,?_⟩;rw[h.2.1.length,h.2.2.2.length];omega
end
end DV
namespace DV
open PySem L2
section
variable{X:Cx}
def zC0:Bool->D->Option (List D)
 |true,.t ds=>some ds|false,.l ds=>some ds|_,_=>none
def iZ(t1 t2:Bool)(m:MA):MI:=λE=>match m E with
 | .z=>.z| .exc x E1=>.exc x E1
 | .ok ([r,r'],E1)=>match zC0 t1 r.d,zC0 t2 r'.d with
  |some ds,some es=>.ok (zipWith uG ds es,E1)|_,_=>.z
 |_=>.z
def zAx{mg:Str->Option Value}(e:zC0 t d=some ds)(r:Rep K mg H d v):∃a xs,v=.ref a/\SqH K H t a xs/\Reps K mg H ds xs:=by
 cases t with
 |true =>
  cases d with
  |t es=>cases e;exact yp r|_=>cases e
 |false =>
  cases d with
  |l es=>cases e;exact yX r|_=>cases e
def zBu(ht:TgZ tg)(hgl:Gl X "zip")(hm:X.mg "zip"=none)(ha:AOk X [a,b] m)(hst:zV a=false:=by rfl)(hst2:zV b=false:=by rfl) :
  IOk X tg (.Call (.Name "zip" p) [a,b] [] cpos) (iZ t1 t2 m):=Z0 (pi_zip ht hgl hm ha (star2 hst hst2) (zAm hst2)) λO H R ⟨M,E,hl,fr,k⟩=>by
 unfold iZ at k;refine wj (T0:=[]) hl fr ?_;cases ea:m E with
 |z=>rw[ea]at k;exact k|exc x E1=>rw[ea]at k;exact k
 |ok p =>
  obtain⟨rs,E1⟩:=p;rw[ea]at k
  match rs,k with
  | [r,r'],k =>
   intro vs H1 hv g1;have rp:=Got.reps hv g1;dsimp only at k;cases ed:zC0 t1 r.d with
   |none=>rw[ed]at k;exact k.elim
   |some ds =>
    cases ed':zC0 t2 r'.d with
    |none=>rw[ed,ed']at k;exact k.elim
    |some es =>
     rw[ed,ed']at k;simp only[List.map]at rp;obtain⟨v,w,rfl,h1,h2⟩:=reps2 rp;obtain⟨c,xs,rfl,c1,c2⟩:=zAx ed h1;obtain⟨d,ys,rfl,d1,d2⟩:=zAx ed' h2;exact⟨c,d,xs,ys,rfl,yR zF c1,yR zF d1,k _ _ H1 it_zip ⟨c1,c2,d1,d2⟩ g1.dropAll⟩
  | [],k=>exact k.elim| [_],k=>exact k.elim|_::_::_::_,k=>exact k.elim
end
section
variable{X:Cx}{K:qH}{mg:Str->Option Value}{O:L2.St}{M:Addr->Prop}{E:zS}{H:Hp}
def zGB{J:It}{ds:List D}{Iv:Hp->Prop}{O0 O':L2.St}{E0 E':zS}{H1 H' H'':Hp}{i:Nat}{x:V}(it:ItOk K mg J ds Iv)(hlt:i<ds.length)(gb:Got K mg M O0 E0 H1 [] O' E' H' [])(ivb:Iv (Hm (Mo M (O'.zip E')) H'))(y:J.yld i H' x H'') :
  ∃d,ds[i]?=some d/\Got K mg M O0 E0 H1 [] O' E' H'' []/\Iv (Hm (Mo M (O'.zip E')) H'')/\Rep K mg (Hm (Mo M (O'.zip E')) H'') d x:=by
 obtain⟨d,hd,h⟩:=it.yld i _ _ x _ zF ivb hlt y;rcases h with⟨rfl,rx⟩|⟨q,xs,es,hq,rfl,rfl,rfl,rs⟩
 ·exact⟨d,hd,gb,ivb,rx⟩
 ·have f:FR K mg M H' (O'.zip E'):=gb.fr
  have f1:=f.newTup hq rs;have s1:Step M H' (O'.zip E') (upd H' q (.t xs)) ((some (.ref q),.v (.t es))::O'.zip E'):=Step.newVal hq;obtain⟨v,ev,rv⟩:=f1.val _ _ qE;cases ev;have sm:=s1.same;rw[wV]at rv sm;have s2:Step M H' (O'.zip E') (upd H' q (.t xs)) (O'.zip E'):=⟨sm,s1.keep⟩;exact⟨_,hd,⟨gb.len,f1.tail,gb.st.trans s2,gb.pk⟩,it.mono _ _ sm ivb,rv⟩
def sForI(mi:MI)(tg:MG)(body:MS):MS:=λE=>match mi E with
 | .z=>.z| .exc x E1=>.exc x E1| .ok (ds,E1)=>vA tg body ds E1
def zGC{mi:MI}{tg:MG}{g:TG}{body:MS}{D:Ends}(hg:GOk X g tg)(h:tS X (sForI mi tg body) D O H):tFor (tMI X mi) g (tS X body) D O H:=by
 obtain⟨M,E,hl,fr,k⟩:=zBq h;unfold sForI at k;refine⟨M,E,hl,fr,?_⟩;cases ei:mi E with
 |z=>rw[ei]at k;exact k|exc x E1=>rw[ei]at k;exact λH' g=>k O H' g
 |ok p =>
  obtain⟨ds,E1⟩:=p;rw[ei]at k;intro J Iv H1 it iv g1;refine⟨λi m O1 H2=>m=ds.length-i/\i<=ds.length/\∃E2,Got X.K X.mg M O E H [] O1 E2 H2 []/\Iv (Hm (Mo M (O1.zip E2)) H2)/\Fin X M O E H D (vA tg body (ds.drop i) E2),⟨ds.length,by simp,zero_le _,E1,g1,iv,k⟩,?_⟩
  rintro i m O1 H2 ⟨rfl,hi,E2,g2,iv2,fin⟩
  by_cases hlt:i<ds.length
  ·refine .inr ⟨it.go i _ H2 zF iv2 hlt,λO3 H3=>i+1<=ds.length/\∃E3,Got X.K X.mg M O E H [] O3 E3 H3 []/\Iv (Hm (Mo M (O3.zip E3)) H3)/\Fin X M O E H D (vA tg body (ds.drop (i+1)) E3),λO3 H3 q=>⟨ds.length-(i+1),by omega,rfl,q⟩,λx H3 y=>?_⟩
   obtain⟨d,hd,g3,iv3,rx⟩:=zGB it hlt g2 iv2 y;have ed:ds.drop i=d::ds.drop (i+1):=by
    obtain⟨hi',rfl⟩:=qG.mp hd;exact drop_eq_getElem_cons hi'
   rw[ed]at fin;exact Ge hg g3 rx fin λO4 E4 H4 g4 st fin4=>⟨hlt,E4,g4,it.mono _ _ st.same iv3,fin4⟩
  ·have e:i=ds.length:=by omega
   subst e;rw[drop_length]at fin;exact .inl ⟨it.stop _ _ H2 zF iv2 (le_refl _),fin O1 H2 g2⟩
def sk_forI(hp:PassesOwn (model X.prog X.w) X.A X.env X.xe)(hc:X.calm=true)(hi:IOk X tgt iter mi)(hg:PG X tgt g)(ho:GOk X g tg)(hb:zAc X body mb)
  (hs:∀x,foldedSetIterable iter X.env x=pure x:=by intro _;rfl):SOk X (.For tgt iter body [] pos) (sForI mi tg mb):=yg (zBe hp hc hi hg hb hs) λD O H=>zGC ho
end
end DV
namespace DV
open PySem L2 PySem.Spec PyProof.Rows
section
variable{prog:Program}{w:World}{A:Around}{E:Value->Shared->Prop}{s:Shared}
def en_next{e it l:Addr}{k:Nat}{items:Array Value}{st:Nat->Heap->Prop}{old:Value}{Q:Value->Shared->Prop}(S:Src prog w A it l items st)(ne:e≠it)(nl:l≠e)(he:IsEnum s.heap e it k old)(h1:st k s.heap)
  (hQ:∀x,items[k]?=some x->∀h',IsEnumOut h' e it ((k:Int)+1) x s.heap.objs.size->st (k+1) h'->IsPair h' s.heap.objs.size (.int k s.toks) x->(∀b o,b≠e->b≠it->s.heap.get? b=some o->h'.get? b=some o)->Q (.ref s.heap.objs.size) {s with heap:=h',toks:=s.toks+1})
  (hE:items[k]?=none->∀h' x,Heap.ExtBut it s.heap h'->(∃o,h'.get? x=some o/\o.cls=.type "StopIteration")->E (.ref x) {s with heap:=h'}) :
  wpAny (model prog w) A (Builtin.«enumerate.__next__» ⟨[.ref e],[]⟩) (λfin s'=>∃v,fin=.done (.ret v)/\Q v s') E s:=by
 obtain⟨hp,g,d,tk,os⟩:=s;refine qB (m:=field (.ref e) 2) (wpAny_field he rfl (x:=.ref it) rfl (qB (S.next h1 (λx hx g1 s1 b1=>?_) hE)));have b1:Heap.SameBut it hp g1:=b1;have e1:IsEnum g1 e it k old:=(b1.2 e ne).trans he;refine qB (m:=field (.ref e) 3) (wpAny_field e1 rfl (x:=rawInt k) rfl ?_);refine qB (m:=field (.ref e) 4) (wpAny_field e1 rfl (x:=.none) rfl ?_);refine qB (m:=mkInt k) (wpAny_mkInt ?_);refine qB (m:=setField (.ref e) 3 (rawInt ((k:Int)+1))) (wpAny_setField_rec e1 (by simp) λg2 e2 b2=>?_);have b2:Heap.SameBut e g1 g2:=b2;have e2:IsEnum g2 e it ((k:Int)+1) old:=e2;refine qB (m:=setField (.ref e) 4 .none) (wpAny_setField_rec e2 (by simp) λg3 e3 b3=>?_);have b3:Heap.SameBut e g2 g3:=b3;have e3:IsEnum g3 e it ((k:Int)+1) old:=e3;refine qB (m:=newTuple [.int k tk,x]) (wpAny_newTuple ?_);have sz:g3.objs.size=hp.objs.size:=by rw[b3.1,b2.1,b1.1]
 have el:e<hp.objs.size:=lt_size he;have e4:IsEnum (g3.push {cls:=.type "tuple",data:=.seq #[.int k tk,x]}) e it ((k:Int)+1) old:=qA _ e3;have p4:IsPair (g3.push {cls:=.type "tuple",data:=.seq #[.int k tk,x]}) hp.objs.size (.int k tk) x:=by rw[<- sz];exact get?_push_size _ rfl
 have k4:∀b o,b≠e->g1.get? b=some o->(g3.push {cls:=.type "tuple",data:=.seq #[.int k tk,x]}).get? b=some o:=λb o nb q=>qA _ (b3.extBut b o nb (b2.extBut b o nb q))
 generalize g3.push {cls:=.type "tuple",data:=.seq #[.int k tk,x]}=g4 at e4 p4 k4;refine qB (m:=Builtin.SmallTypes.ownedTupleIsFree (.ref e)) ?_;rw[sz];unfold Builtin.SmallTypes.ownedTupleIsFree;refine qB (wpAny_field e4 rfl (x:=.none) rfl (qC ?_));simp only[if_true];refine qB (wpAny_rule (qB (wpAny_field e4 rfl (x:=old) rfl (qB (wpAny_setField_rec e4 (by simp) λg5 e5 b5=>?_)))));have b5:Heap.SameBut e g4 g5:=b5;have e5:IsEnum g5 e it ((k:Int)+1) x:=e5;refine qB (m:=Builtin.SmallTypes.ownedTupleHandOut (.ref e) (.ref hp.objs.size)) ?_;unfold Builtin.SmallTypes.ownedTupleHandOut;refine qB (wpAny_setField_rec e5 (by simp) λg6 e6 b6=>?_);have b6:Heap.SameBut e g5 g6:=b6;have e6:IsEnumOut g6 e it ((k:Int)+1) x hp.objs.size:=e6;refine wpAny_setField_rec e6 (by simp) λg7 e7 b7=>?_
 have b7:Heap.SameBut e g6 g7:=b7;have e7:IsEnumOut g7 e it ((k:Int)+1) x hp.objs.size:=e7;have up:∀b o,b≠e->g4.get? b=some o->g7.get? b=some o:=λb o nb q=>b7.extBut b o nb (b6.extBut b o nb (b5.extBut b o nb q))
 refine qB (wpAny_letGo (qC ⟨_,rfl,hQ x hx g7 e7 (S.keep s1 λb hb o q=>?_) (up _ _ (ne_of_gt el) p4) λb o nb ni q=>up b o nb (k4 b o nb (b1.extBut b o ni q))⟩));have nb:b≠e:=by rcases hb with rfl|rfl;exact ne.symm;exact nl
 exact up b o nb (k4 b o nb q)
def Qv{e it l:Addr}{k:Nat}{items:Array Value}{st:Nat->Heap->Prop}{old:Value}{Q:Option Value->Shared->Prop}(S:Src prog w A.in1 it l items st)(ne:e≠it)(nl:l≠e)(he:IsEnum s.heap e it k old)(h1:st k s.heap)
  (hQ:∀x,items[k]?=some x->∀h',IsEnumOut h' e it ((k:Int)+1) x s.heap.objs.size->st (k+1) h'->IsPair h' s.heap.objs.size (.int k s.toks) x->(∀b o,b≠e->b≠it->s.heap.get? b=some o->h'.get? b=some o)->Q (some (.ref s.heap.objs.size)) {s with heap:=h',toks:=s.toks+1})
  (hE:items[k]?=none->∀h',(∀b o,b≠it->s.heap.get? b=some o->h'.get? b=some o)->Q none {s with heap:=h'}):wpAny (model prog w) A (pyNext (.ref e)) Q E s:=by
 have hT:s.TypeIs (.ref e) "enumerate":=⟨_,he,rfl⟩;unfold pyNext;refine qB (wpAny_attempt (wpAny_callSpecial?_slot hT F.slot_enumerate_next (wpAny_call_entry F.slot_enumerate_next hT F.entry_enumerate_next (en_next S ne nl he h1 (λx hx h' a1 a2 a3 a4=>?_) λhx h' y hk q=>?_) (F.args_enumerate_next_1 _))))
 ·exact qC (hQ x hx h' a1 a2 a3 a4)
 ·obtain⟨o,ho,hc⟩:=q
  exact qB (wpAny_isInstance (T:="StopIteration") (b:=true) ⟨o,ho,hc⟩ isSubtype_stop (qC (hE hx h' λb o nb e=>hk b o nb e)))
end
def Ite(K:qH)(t:Bool)(a:Addr):It :=
 ⟨λi H=>∃xs,SqH K H t a xs/\i<xs.length,
  λi H x H'=>∃q u,(∀xs,SqH K H t a xs->xs[i]?=some u)/\H q=none/\H'=upd H q (.t [.int i,u])/\x=.ref q,
  λi H=>∃xs,SqH K H t a xs/\xs.length<=i⟩
def ESt(e it:Addr)(t:Bool)(a:Addr)(i:Nat)(h:Heap):Prop:=(∃old,IsEnum h e it i old)/\ItA t h it a i
def zD4{P:Program}{w:World}{K:qH}{elts:List Expr}{x1}{pos:Pos}{e it:Addr}(ne:e≠it)(t:Bool)(a:Addr):Turn P w K (.Tuple elts x1 pos) (Ite K t a) [e,it] e (ESt e it t a) where
 mem:=by simp
 obj:=λi h st c hc=>by
  obtain⟨⟨old,he⟩,h1⟩:=st;simp only[mem_cons,mem_nil_iff,or_false]at hc;rcases hc with rfl|rfl
  ·exact⟨_,he,λv z=>by cases z⟩
  ·exact ZS h1
 keep:=λi h h' st k=>by
  obtain⟨⟨old,he⟩,h1⟩:=st;exact⟨⟨old,k e (by simp) _ he⟩,ut h1 λo q=>k it (by simp) o q⟩
 item:=by
  intro X hP hw hK hc i pins s O H E I hf st hg;subst hP hw hK;obtain⟨⟨old,he⟩,h1⟩:=st;obtain⟨xs,q1,l1⟩:=hg;obtain⟨us,r1,p1⟩:=wo I q1;have na:∀c∈[e,it],a≠c:=λc hc=>ur I q1 (hf c hc)
  have hh:X.A.in1.handled=none:=I.ok.hd hc;obtain⟨u,eu⟩:∃u,xs[i]?=some u:=⟨_,getElem?_eq_getElem l1⟩;obtain⟨u',eu',ru⟩:=r1.get eu;refine Qv (srcA hh t (na it (by simp)) us.toArray) ne (na e (by simp)) he ⟨h1,p1⟩ (λx hx h' o1 s1 pq kk=>?_) (λhx=>?_)
  ·have ex:x=u':=by simp[eu']at hx;exact hx.symm
   subst ex;refine⟨_,rfl,wpAny_letOwnedTupleGo_enum o1 λh2 z2 b2=>?_⟩;have lt:∀{c o},s.heap.get? c=some o->s.heap.objs.size≠c:=λq=>ne_of_gt (lt_size q)
   have pq2:IsPair h2 s.heap.objs.size (.int i s.toks) x:=b2.extBut _ _ (lt he) pq;have k2:∀c o,c∉[e,it]->s.heap.get? c=some o->h2.get? c=some o:=λc o hc q=>b2.extBut _ _ (λz=>hc (by simp[z])) (kk c o (λz=>hc (by simp[z])) (λz=>hc (by simp[z])) q)
   have new:jy X.prog X.w (upd H s.heap.objs.size (.t [.int i,u])) h2 s.heap.objs.size (.t [.int i,u]):=⟨by simp[sizeLine_eq],[.int i s.toks,x],.cons ⟨_,rfl⟩ (.cons ru .nil),⟨_,pq2,rfl,_,rfl⟩⟩;have I2:=I.turnLay (t':=s.toks+1) hf k2 (le_refl _) new;have fresh:H s.heap.objs.size=none:=I.hok.fresh (le_refl _);refine⟨.ref s.heap.objs.size,_,I2,rfl,⟨_,u,λzs hz=>by rw[zAw I hz q1];exact eu,fresh,rfl,rfl⟩,⟨⟨_,by have:=z2;simpa using this⟩,ut s1.1 λo q=>b2.extBut _ _ ne.symm q⟩,λc hc=>?_⟩;have:c≠s.heap.objs.size:=λq=>by
    obtain⟨o,e⟩:∃o,s.heap.get? c=some o:=by
     simp only[mem_cons,mem_nil_iff,or_false]at hc;rcases hc with rfl|rfl
     ·exact⟨_,he⟩
     ·obtain⟨o,e,_⟩:=ZS h1;exact⟨o,e⟩
    exact lt e q.symm
   rw[zk this];exact(hf c hc).1
  ·exfalso
   simp[eu']at hx
 done:=by
  intro X hP hw hK hc i pins s O H E I hf st hg;subst hP hw hK;obtain⟨⟨old,he⟩,h1⟩:=st;obtain⟨xs,q1,l1⟩:=hg;obtain⟨us,r1,p1⟩:=wo I q1;have na:∀c∈[e,it],a≠c:=λc hc=>ur I q1 (hf c hc)
  have hh:X.A.in1.handled=none:=I.ok.hd hc;have e1:=r1.length;refine Qv (srcA hh t (na it (by simp)) us.toArray) ne (na e (by simp)) he ⟨h1,p1⟩ (λx hx=>?_) (λhx h' kk=>⟨rfl,?_⟩)
  ·exfalso
   simp at hx
   have a1:=(qG.mp hx).1;omega
  ·exact I.turnL (t':=s.toks) hf λc o hc q=>kk c o (λz=>hc (by simp[z])) q
 self:=λ_ _ _ _ _ st h=>by
  obtain⟨⟨old,he⟩,_⟩:=st;exact wpAny_pyIter_enum he h
end DV
namespace DV
open PySem L2 PySem.Spec PyProof.Rows
open AutoSeq1 (wpAny_loadPart')
abbrev enH(h:Heap)(c:String)(l:Addr):Heap:=(h.push (itO c l)).push {cls:=.type "enumerate",data:=.fields #[.none,.bool false,.ref h.objs.size,rawInt 0,.none,.none]}
def en_newT(l:Addr)(items:Array Value)(n:Nat)(dd:Option Addr)(sl:Array (Option Value)) :
  Meets (Builtin.«enumerate.__new__» ⟨[.type "enumerate",.ref l],[]⟩) (λ_ R s=>s.heap.get? l=some {cls:=.type "tuple",dict:=dd,data:=.seq items n,slots:=sl}/\R (.ok (.ret (.ref (s.heap.push (itO "tuple_iterator" l)).objs.size))) {s with heap:=enH s.heap "tuple_iterator" l}) :=
 .of_wp λprog w A R s h=>by
  obtain⟨hp,g,d,tk,os⟩:=s;obtain⟨hl,h⟩:=h;have hs:=sub_enumerate;have a1:Heap.IsTuple (Shared.heap ⟨hp,g,d,tk,os⟩) l items:=⟨_,hl,rfl,n,rfl⟩
  wp_walk using wpAny_loadPart' hl
  refine wpAny_stack_any λst=>qC ?_
  split
  ·rename_i c _ _ _ _ _
   cases (c==Value.type "enumerate")<;>(wp_walk using wpAny_loadPart' hl,wpAny_pyIter_tuple a1;exact⟨_,rfl,h⟩)
  ·wp_walk using wpAny_loadPart' hl,wpAny_pyIter_tuple a1;exact⟨_,rfl,h⟩
section
variable{prog:Program}{w:World}{A:Around}{E:Value->Shared->Prop}{s:Shared}
structure En(h h':Heap)(c:String)(l:Addr):Prop where
 e:IsEnum h' (h.objs.size+1) h.objs.size 0 .none
 i:h'.get? h.objs.size=some (itO c l)
 kp:∀b o,h.get? b=some o->h'.get? b=some o
def en_call{Q:Value->Shared->Prop}(h1:SqO s.heap t l xs)(h:∀h',(IsEnum h' (s.heap.objs.size+1) s.heap.objs.size 0 .none)->ItA t h' s.heap.objs.size l 0->(∀b o,s.heap.get? b=some o->h'.get? b=some o)->Q (.ref (s.heap.objs.size+1)) {s with heap:=h'}):wpAny (model prog w) A (call (.type "enumerate") [.ref l]) Q E s:=by
 cases t with
 |false =>
  exact call_enumerate_list h1 λh' a b c k=>h h' a b k
 |true =>
  obtain⟨⟨cl,dd,da,sl⟩,e,c,n,d⟩:=(h1:s.heap.IsTuple l xs);simp only at c d;subst c d;refine callType_new F.called_enumerate (by decide) (F.typeCall_enumerate_1 _) (F.newCall_enumerate_1 _) (λobj=>F.args_object_init_2 obj _) F.entry_enumerate_new (en_newT l xs n dd sl) ⟨e,?_⟩;have hz:(s.heap.push (itO "tuple_iterator" l)).objs.size=s.heap.objs.size+1:=size_push ..;have g1:(enH s.heap "tuple_iterator" l).get? (s.heap.push (itO "tuple_iterator" l)).objs.size=some _:=get?_push_size _ rfl;rw[hz]at g1;show _/\_;rw[hz];exact⟨⟨_,g1,rfl⟩,h _ g1 ⟨_,qA _ (get?_push_size _ rfl),rfl,rfl⟩ λb o x=>qA _ (qA _ x)⟩
end
section
variable{X:Cx}{K:qH}{mg:Str->Option Value}{O:L2.St}{H:Hp}
def iEnum(K:qH)(t:Bool)(ta:TA):TI:=λO H R=>ta O H λvs H1=>∃a xs,vs=[.ref a]/\SqH K H1 t a xs/\R (Ite K t a) H1
def bt_enum:bootBuiltins "enumerate"=some (.type "enumerate"):=by decide +kernel
def pi_enum{x1}(hg:Gl X "enumerate")(hm:X.mg "enumerate"=none)(ha:PA X [e] ta)(hs:starEach [e] X.env=[(false,eval e X.env)]:=by rfl) :
  PI X (.Tuple elts x1 tp) (.Call (.Name "enumerate" p) [e] [] pos) (iEnum X.K t ta):=by
 intro pins s O H R I h;refine Call_ (J6 I hg hm bt_enum (PyProof.Rows.callWith_type1 (thn (ha pos pins s O H _ I h) λus s1 ⟨vs,H1,I1,r1,q1⟩=>?_) hs rfl));obtain⟨a,xs,ev,qa,q⟩:=q1;subst ev;cases r1 with
 |cons r rr =>
  cases rr;cases r;obtain⟨u1,v1,p1⟩:=wo I1 qa;refine en_call p1 λh' z0 z1 kp=>?_
  refine wpAny_pyIter_enum (s:={s1 with heap:=h'}) z0 ?_
  have fr:∀c,s1.heap.objs.size<=c->QK X pins H1 c:=λc hc=>I1.fpOk hc (I1.hok.fresh hc)
  have nn:s1.heap.objs.size+1≠s1.heap.objs.size:=λz=>by have:=Nat.succ_ne_self s1.heap.objs.size;exact this z
  refine⟨_,[s1.heap.objs.size+1,s1.heap.objs.size],_,_,H1,rfl,I1.kept (t':=s1.toks) kp,zD4 nn t a,⟨⟨_,z0⟩,z1⟩,λc hc=>?_,q⟩;simp only[mem_cons,mem_nil_iff,or_false]at hc;rcases hc with rfl|rfl
  ·exact fr _ (le_succ _)
  ·exact fr _ (le_refl _)
def zC1:Nat->List D->List D
 |_,[]=>[]|n,d::ds=>.t [.int (n:Int),d]::zC1 (n+1) ds
theorem Gn:∀(ds:List D) (n:Nat),(zC1 n ds).length=ds.length
 | [],_=>rfl|d::ds,n=>by simp[zC1,Gn ds]
theorem zBv:∀(ds:List D) (n i:Nat) (d:D),ds[i]?=some d->(zC1 n ds)[i]?=some (.t [.int ((n+i:Nat):Int),d])
 | [],_,_,_,h=>by simp at h|e::ds,n,0,d,h=>by simp at h;subst h;simp[zC1]
 |e::ds,n,i+1,d,h=>by
  simp only[List.getElem?_cons_succ]at h;have:=zBv ds (n+1) i d h;simp only[zC1,List.getElem?_cons_succ];rw[this,show n+1+i=n+(i+1)by omega]
def it_enum:ItOk K mg (Ite K t a) (zC1 0 ds) (λH=>SqH K H t a xs/\Reps K mg H ds xs) where
 mono:=λH H' s h=>⟨yR s h.1,h.2.mono s⟩
 go:=λi Hh H s h hi=>by
  rw[Gn]at hi;exact⟨xs,yR s h.1,by rw[h.2.length];omega⟩
 yld:=λi Hh H x H' s h hi y=>by
  obtain⟨q,u,h1,hq,rfl,rfl⟩:=y;have e1:=h1 xs (yR s h.1);obtain⟨d,g1,r1⟩:=h.2.get e1;refine⟨_,zBv ds 0 i d g1,.inr ⟨q,[.int (i:Int),u],[.int ((0+i:Nat):Int),d],hq,rfl,rfl,rfl,Reps.cons (by rw[zero_add];simp only[Rep]) (Reps.cons r1 Reps.nil)⟩⟩
 stop:=λi Hh H s h hi=>by
  rw[Gn]at hi;exact⟨xs,yR s h.1,by rw[h.2.length];omega⟩
def iE(t:Bool)(m:MA):MI:=λE=>match m E with
 | .z=>.z| .exc x E1=>.exc x E1
 | .ok ([r],E1)=>match zC0 t r.d with
  |some ds=>.ok (zC1 0 ds,E1)|none=>.z
 |_=>.z
def io_enum{x1}(hgl:Gl X "enumerate")(hm:X.mg "enumerate"=none)(ha:AOk X [a] m)(hst:zV a=false:=by rfl) :
  IOk X (.Tuple elts x1 tp) (.Call (.Name "enumerate" p) [a] [] cpos) (iE t m):=Z0 (pi_enum hgl hm ha (zAm hst)) λO H R ⟨M,E,hl,fr,k⟩=>by
 unfold iE at k;refine wj (T0:=[]) hl fr ?_;cases ea:m E with
 |z=>rw[ea]at k;exact k|exc x E1=>rw[ea]at k;exact k
 |ok p =>
  obtain⟨rs,E1⟩:=p;rw[ea]at k
  match rs,k with
  | [r],k =>
   intro vs H1 hv g1;have rp:=Got.reps hv g1;dsimp only at k;cases ed:zC0 t r.d with
   |none=>rw[ed]at k;exact k.elim
   |some ds =>
    rw[ed]at k;simp only[List.map]at rp;obtain⟨v,rfl,h1⟩:=YL rp;obtain⟨c,xs,rfl,c1,c2⟩:=zAx ed h1;exact⟨c,xs,rfl,yR zF c1,k _ _ H1 it_enum ⟨c1,c2⟩ g1.dropAll⟩
  | [],k=>exact k.elim|_::_::_,k=>exact k.elim
end
end DV
namespace PySem
open Sem (wp)
open AutoSeq1 (wpAny_loadPart')
end PySem
namespace L2
open PySem PySem.Spec PyProof.Rows
end L2
namespace DV
open PySem L2
section
variable{X:Cx}{K:qH}{mg:Str->Option Value}{P P':Addr->Prop}{H:Hp}{a:Addr}{xs:List V}
def eFrz(m:ME):ME:=λE=>match m E with
 | .ok (r,E1)=>.ok (.v r.d,E1)| .exc x E1=>.exc x E1| .z=>.z
def ok_frz(h:EOk X e m):EOk X e (eFrz m):=zZ h λO H Q ⟨M,E,hl,f,k⟩=>by
 refine⟨M,E,hl,f,?_⟩;unfold eFrz at k;cases em:m E with
 |z=>rw[em]at k;exact k.elim|exc x E1=>rw[em]at k;exact k
 |ok p =>
  obtain⟨r,E1⟩:=p;rw[em]at k;intro v H' g;exact k v H' ⟨g.len,FR.frz g.fr,Step.frz g.st,g.pk⟩
def zD5(mi:MI)(tg:MG)(body:MS):MS:=λE=>match mi E with
 | .exc x E1=>.exc x E1
 |_=>(match sForI mi tg body E with
  | .exc _ _=>.z|o=>o)
def ps_forX(hi:PI X tg iter wi)(hs:∀x,foldedSetIterable iter X.env x=pure x):PS X (.For tg iter body [] pos) (λD O H=>wi O H λ_ _=>False):=by
 intro pins s O H D I h;refine wpAny_For (thn (hi pins s O H _ I h) λv s1 h1=>thn h1 λitv s2 h2=>?_) hs;obtain⟨it,fp,tn,J,H2,e,I2,T,st2,f2,f⟩:=h2;exact f.elim
end
end DV
namespace DV
open PySem L2 PyProof.Rows PySem.Calls
end DV
namespace DV
open PySem L2
section
variable{X:Cx}{O:L2.St}{pins:List (Addr×Obj)}{H:Hp}{s:Shared}
def zGD:PGet X (λx y H Q=>∃(p:Addr) (xs:List V) (i:Nat) (v:V),x=.ref p/\y=.int (i:Nat)/\SqL X.K H p xs/\xs[i]?=some v/\Q v H):=by
 intro pins s O H x y v u Q I rx ry h;obtain⟨p,xs,i,z,rfl,rfl,hq,he,q⟩:=h;cases rx;obtain⟨t,rfl⟩:=ry;obtain⟨its,r,pl,hz⟩:=I.list hq;obtain⟨w,ew,rw'⟩:=r.get he;have hi:i<xs.length:=(qG.mp he).1;have hn:=QR;exact wpAny_getItem_list (x:=w) pl.isList (by omega) (by omega) (by simpa using ew) ⟨z,H,I,rw',q⟩
def sAugIx(i:Nat)(mi mv:ME):MS:=λE=>if JK E[i]?=true then .z else match mi E with
 | .ok (.v (.int k),E1)=>(match E1[i]? with
  |some s1=>(match s1.list? with
   |some ds1=>if k<0 then .z else(match ds1[k.toNat]? with
    |some (.int a)=>(match mv E1 with
     | .ok (.v (.int b),E2)=>(match E2[i]? with
      |some s2=>(match s2.list? with
       |some ds2=>(match ixN ds2.length k with
        |some j=>.ok (.nx,E2.set i (s2.put (ds2.set j (.int (a+b)))))|none=>.z)
       |none=>.z)
      |none=>.z)
     |_=>.z)
    |_=>.z)
   |none=>.z)
  |none=>.z)
 |_=>.z
def zD6{i:Nat}{mi mv:ME}{D:Ends}(h:tS X (sAugIx i mi mv) D O H):tAugS (Wv i) (tM X mi) (tM X mv) (λx y H Q=>∃(p:Addr) (xs:List V) (i:Nat) (v:V),x=.ref p/\y=.int (i:Nat)/\SqL X.K H p xs/\xs[i]?=some v/\Q v H) (ipI λi j=>i+j) rSetL D O H:=by
 obtain⟨M,E,hl,fr,k⟩:=h;unfold sAugIx at k;cases em:JK E[i]? with
 |true=>rw[em]at k;exact k.elim
 |false =>
  rw[em]at k;obtain⟨s,hs1,hs2⟩:=ZQ em;obtain⟨v,hv⟩:=um hl fr hs1 hs2;refine⟨v,hv,?_⟩;refine zu (T0:=[]) hl fr ?_;simp only[Bool.false_eq_true,if_false]at k;cases ea:mi E with
  |z=>rw[ea]at k;exact k.elim|exc x E1=>rw[ea]at k;exact k.elim
  |ok p =>
   obtain⟨r1,E1⟩:=p;rw[ea]at k;cases r1 with
   |own ds=>exact k.elim|dct _ _=>exact k.elim
   |v d =>
    cases d with
    |int n =>
     intro y H1 g1;dsimp only at k;have ey:=zM g1.rep;subst ey;cases e1:E1[i]? with
     |none=>rw[e1]at k;exact k.elim
     |some s1 =>
      rw[e1]at k;dsimp only at k;cases e2:s1.list? with
      |none=>rw[e2]at k;exact k.elim
      |some ds1 =>
       rw[e2]at k;dsimp only at k;by_cases hn:n<0
       ·rw[if_pos hn]at k;exact k.elim
       ·rw[if_neg hn]at k
        obtain⟨m,rfl⟩:=Int.eq_ofNat_of_zero_le (Int.not_lt.mp hn);rw[Int.toNat_natCast]at k;cases e3:ds1[m]? with
        |none=>rw[e3]at k;exact k.elim
        |some d1 =>
         rw[e3]at k;cases d1 with
         |int a =>
          dsimp only at k;obtain⟨o,h1,h2⟩:=jH g1.len e1;obtain⟨ad,xs,ev,w1,_,w3⟩:=g1.frame.ownL _ s1 ds1 h2 e2;subst ev;have ev:v=.ref ad:=by rw[hv]at h1;exact qJ (qJ h1)
          subst ev;obtain⟨u,eu,ru⟩:=w3.get' e3;have eui:=zM ru;subst eui;refine⟨ad,xs,m,.int a,rfl,rfl,SqL.of w1,eu,?_⟩;refine zu (T0:=[(some (.int (m:Nat)),(R.v (.int (m:Nat))).slot)]) g1.len g1.fr ?_;cases eb:mv E1 with
          |z=>rw[eb]at k;exact k.elim|exc x E2=>rw[eb]at k;exact k.elim
          |ok p =>
           obtain⟨r2,E2⟩:=p;rw[eb]at k;cases r2 with
           |own ds=>exact k.elim|dct _ _=>exact k.elim
           |v d =>
            cases d with
            |int b =>
             intro z H2 g2;have g:=g1.trans' g2;dsimp only at k;cases e4:E2[i]? with
             |none=>rw[e4]at k;exact k.elim
             |some s2 =>
              rw[e4]at k;dsimp only at k;cases e5:s2.list? with
              |none=>rw[e5]at k;exact k.elim
              |some ds2 =>
               rw[e5]at k;dsimp only at k;cases e6:ixN ds2.length (m:Int)with
               |none=>rw[e6]at k;exact k.elim
               |some j =>
                rw[e6]at k;have rp:=Got.reps (vs:=[z,.int (m:Nat)]) (rs:=[.v (.int b),.v (.int (m:Nat))]) rfl g;simp only[List.map,Reps]at rp;obtain⟨z',_,q1,rz,_,_,q2,_,_⟩:=rp;cases q1;have ez:=zM rz;obtain⟨o',h1',h2'⟩:=jH g.len e4;obtain⟨a',xs',ev',w1',_,w3'⟩:=g.frame.ownL _ s2 ds2 h2' e5;subst ev';have ev':V.ref ad=.ref a':=by rw[hv]at h1';exact qJ (qJ h1')
                cases ev';obtain⟨p,hp,g'⟩:=g.mut e4 e5 (w3'.set j (d:=.int (a+b)) (v:=.int (a+b)) (by simp only[Rep]));have ep:p=ad:=by rw[h1']at hp;cases hp;rfl
                subst ep;exact⟨a,b,rfl,ez,p,xs',(m:Int),j,rfl,rfl,w1',by rw[w3'.length];exact e6,k O _ g'⟩
            |_=>exact k.elim
         |_=>exact k.elim
    |_=>exact k.elim
def zGE(i:Nat)(hv:PE X (.Name x p) (Wv i))(hb:EOk X b mi)(he:EOk X e mv)(ha:∀ov iv new,augStore b ov iv new=(do holding [new,ov,iv] (setItem ov iv new);release [new,ov,iv] [];pure .next)) :
  SOk X (.AugAssign (.Subscript (.Name x p) b p1) .Add e pos) (sAugIx i mi mv) :=
 yg (ps_augS hv hb zGD he zGr zBg ha) λD O H=>zD6
end
section
variable{X:Cx}
def iA(m:ME):MI:=λE=>match m E with
 | .z=>.z| .exc x E1=>.exc x E1
 | .ok (r,E1)=>match r.d with
  | .l ds=>.ok (ds,E1)| .t ds=>.ok (ds,E1)|_=>.z
def io_any(h:EOk X e m):IOk X tg e (iA m):=λpins s O H R I ⟨M,E,hl,fr,k⟩=>by
 unfold iA at k;cases ea:m E with
 |z=>rw[ea]at k;exact k.elim|exc x E1=>exact zAs h pins s O H R I ⟨M,E,hl,fr,by unfold iL;rw[ea]at k ⊢;exact k⟩
 |ok p =>
  obtain⟨r,E1⟩:=p;rw[ea]at k;dsimp only at k;cases ed:r.d with
  |l ds=>exact zAs h pins s O H R I ⟨M,E,hl,fr,by unfold iL;rw[ea];dsimp only;rw[ed]at k ⊢;exact k⟩|t ds=>exact zG9 h pins s O H R I ⟨M,E,hl,fr,by unfold iT;rw[ea];dsimp only;rw[ed]at k ⊢;exact k⟩|_=>rw[ed]at k;exact k.elim
end
end DV
namespace DV
open PySem PyProof.Rows
end DV
namespace DV
open PySem L2
section
variable{prog:Program}{w:World}{A:Around}{R:Result->Shared->Prop}{s:Shared}{elt t0 i0 t1 i1:Expr}{f0 f1:List Expr}{scope:Scope}{pos:Pos}{it acc:Value}{env:Env}
def start1(h0:codeAny (model prog w) A (.compLoop (.ListComp elt [⟨t0,i0,f0,0⟩,⟨t1,i1,f1,0⟩] scope pos) 1 it acc env) R s)
  (h:wpAny (model prog w) A (pyIter it) (λit' s'=>codeAny (model prog w) A (.compLoop (.ListComp elt [⟨t0,i0,f0,0⟩,⟨t1,i1,f1,0⟩] scope pos) 1 it' acc env) R s') (notedBy (model prog w) A env λx s'=>R (.error x) s') s) :
  codeAny (model prog w) A (.compStart (.ListComp elt [⟨t0,i0,f0,0⟩,⟨t1,i1,f1,0⟩] scope pos) 1 it acc env) R s:=by
 refine codeAny_of_tree (wpAny_notedAt ?_);refine qB (wpAny_askSetting (wpAny_ite ?_));split
 ·exact qB (qC (qC ⟨rfl,h0⟩))
 ·exact qB (wpAny_rule (qB (wpAny_standAt (qB (wpAny_mono h (λit' s' h'=>qC ⟨rfl,h'⟩) λx x_1 x_2=>x_2)))))
def turn2_0:compTurn (.ListComp elt [⟨t0,i0,f0,0⟩,⟨t1,i1,f1,0⟩] scope pos) 0 it acc env=(do
  standAt i0.pos
  let r <- pyNext it
  match r with
  |none=>pure (.done .next)
  |some v=>do
   letOwnedTupleGo t0 it v
   assign t0 env v
   let ok <- forIn f0 true λc r=>if r=true then do let ok <- isTrue c env (eval c env);pure (ForInStep.yield ok)else pure (ForInStep.yield r)
   if ok=true then do
    let x <- eval i1 env
    standAt i1.pos
    let x <- foldedSetIterable i1 env x
    let j <- holding [x] (pyIter x)
    let _ <- runOwn (.compStart (.ListComp elt [⟨t0,i0,f0,0⟩,⟨t1,i1,f1,0⟩] scope pos) 1 j acc env) env
    again (.compLoop (.ListComp elt [⟨t0,i0,f0,0⟩,⟨t1,i1,f1,0⟩] scope pos) 0 it acc env)
   else again (.compLoop (.ListComp elt [⟨t0,i0,f0,0⟩,⟨t1,i1,f1,0⟩] scope pos) 0 it acc env)):=rfl
def turn2_1:compTurn (.ListComp elt [⟨t0,i0,f0,0⟩,⟨t1,i1,f1,0⟩] scope pos) 1 it acc env=(do
  standAt i1.pos
  let r <- pyNext it
  match r with
  |none=>pure (.done .next)
  |some v=>do
   letOwnedTupleGo t1 it v
   assign t1 env v
   let ok <- forIn f1 true λc r=>if r=true then do let ok <- isTrue c env (eval c env);pure (ForInStep.yield ok)else pure (ForInStep.yield r)
   if ok=true then do
    (do let x <- eval elt env;let _ <- call (.builtin "list.append") [acc,x];pure ())
    again (.compLoop (.ListComp elt [⟨t0,i0,f0,0⟩,⟨t1,i1,f1,0⟩] scope pos) 1 it acc env)
   else again (.compLoop (.ListComp elt [⟨t0,i0,f0,0⟩,⟨t1,i1,f1,0⟩] scope pos) 1 it acc env)):=rfl
def loopG{gens:List Comprehension}{d:Nat}{p:Pos}{t:Expr}{fs:List Expr}{act:Sem PySem.Fin->Sem PySem.Fin}
  (hT:compTurn (.ListComp elt gens scope pos) d it acc env=(do
   standAt p
   let r <- pyNext it
   match r with
   |none=>pure (.done .next)
   |some v=>do
    letOwnedTupleGo t it v
    assign t env v
    let ok <- forIn fs true λc r=>if r=true then do let ok <- isTrue c env (eval c env);pure (ForInStep.yield ok)else pure (ForInStep.yield r)
    if ok=true then act (again (.compLoop (.ListComp elt gens scope pos) d it acc env))else again (.compLoop (.ListComp elt gens scope pos) d it acc env)))
  (I:Nat->Shared->Prop)
  (turn:∀n s,I n s->wpAny (model prog w) A (pyNext it) (λr s₁=>match r with
   |none=>R (.ok .next) s₁
   |some v=>wpAny (model prog w) A (letOwnedTupleGo t it v) (λ_ s₁=>wpAny (model prog w) A (assign t env v) (λ_ s₂ =>
     wpAny (model prog w) A (forIn fs true λc r=>if r=true then do let ok <- isTrue c env (eval c env);pure (ForInStep.yield ok)else pure (ForInStep.yield r)) (λok s₃ =>
      if ok=true then ∀(k:Sem PySem.Fin) (Q:PySem.Fin->Shared->Prop),(∀s',(∃m,m<n/\I m s')->wpAny (model prog w) A k Q (notedBy (model prog w) A env λe s'=>R (.error e) s') s')->wpAny (model prog w) A (act k) Q (notedBy (model prog w) A env λe s'=>R (.error e) s') s₃
      else ∃m,m<n/\I m s₃) (notedBy (model prog w) A env λe s'=>R (.error e) s') s₂) (notedBy (model prog w) A env λe s'=>R (.error e) s') s₁) (notedBy (model prog w) A env λe s'=>R (.error e) s') s₁) (notedBy (model prog w) A env λe s'=>R (.error e) s') s)
  (n:Nat) (h:I n s):codeAny (model prog w) A (.compLoop (.ListComp elt gens scope pos) d it acc env) R s:=by
 refine codeAny_loop rfl I (λn s hI=>?_) n h;show wpAny _ A ((compTurn (.ListComp elt gens scope pos) d it acc env).onRaise (λx=>do noteFrame x env;theTreesLotGoes x)) _ _ s;refine wpAny_noted ?_;rw[hT];refine qB (wpAny_standAt (qB (wpAny_mono (turn n s hI) (λr s₁ h₁=>?_) λ_ _ h'=>h')));cases r with
 |none=>exact qC h₁
 |some v =>
  refine qB (wpAny_mono h₁ (λ_ s₁' h₁'=>?_) λ_ _ h'=>h');refine qB (wpAny_mono h₁' (λ_ s₂ h₂=>qB (wpAny_mono h₂ (λok s₃ h₃=>?_) λ_ _ h'=>h')) λ_ _ h'=>h');cases ok with
  |false=>exact qC ⟨rfl,h₃⟩|true=>exact h₃ _ _ λs' q=>qC ⟨rfl,q⟩
end
abbrev TA:=Addr->St->Hp->(St->Hp->Prop)->Prop
def PA(Y:Cx)(act:Value->Env->Sem PySem.Fin->Sem PySem.Fin)(ta:TA):Prop:=∀(D:Addr) (pins:List (Addr×Obj)) (s:Shared) (O:St) (H:Hp) (Nx:St->Hp->Prop) (k:Sem PySem.Fin) (Q:PySem.Fin->Shared->Prop) (E:Value->Shared->Prop),Inv Y pins O H s->ta D O H Nx ->
 (∀O' H' s',Inv Y pins O' H' s'->Nx O' H'->wpAny (model Y.prog Y.w) Y.A k Q E s')->wpAny (model Y.prog Y.w) Y.A (act (.ref D) Y.env k) Q E s
def act1(elt:Expr):Value->Env->Sem PySem.Fin->Sem PySem.Fin:=λacc env k=>do
 (do let x <- eval elt env;let _ <- call (.builtin "list.append") [acc,x];pure ())
 k
def act2(elt t0 i0:Expr)(f0:List Expr)(t1 i1:Expr)(f1:List Expr)(scope:Scope)(pos:Pos):Value->Env->Sem PySem.Fin->Sem PySem.Fin:=λacc env k=>do
 let x <- eval i1 env
 standAt i1.pos
 let x <- foldedSetIterable i1 env x
 let j <- holding [x] (pyIter x)
 let _ <- runOwn (.compStart (.ListComp elt [⟨t0,i0,f0,0⟩,⟨t1,i1,f1,0⟩] scope pos) 1 j acc env) env
 k
def ta1(te:TE):TA:=λD O H Nx=>te O H λy H4=>∃ys,H4 D=some (.l ys)/\ys.length<sizeLine/\Nx O (upd H4 D (.l (ys++[y])))
def taL(wi:TI)(g:TG)(tt:TT)(ta:TA):TA:=λD O H Nx=>wi O H λJ H1=>∃W:Nat->Nat->St->Hp->Prop,(∃m,W 0 m O H1)/\∀i m O' H',W i m O' H' ->
 (J.stop i H'/\Nx O' H')\/(J.go i H'/\∃N2:St->Hp->Prop,(∀O'' H'',N2 O'' H''->∃m',m'<m/\W (i+1) m' O'' H'')/\∀x H'',J.yld i H' x H''->g x O' H'' λO2 H2 =>
  tt O2 H2 λb H3=>if b=true then ta D O2 H3 N2 else N2 O2 H3)
def zBw(nl:Nat)(caps:List Nat)(wi:TI)(g:TG)(tt:TT)(ta:TA):TE:=λO H Q=>wi O H λJ H1=>∀D,H1 D=none->∃W:Nat->Nat->St->Hp->Prop,(∃m,W 0 m (L2.zK nl caps O) (upd H1 D (.l [])))/\∀i m O' H',W i m O' H' ->
 (J.stop i H'/\Q (.ref D) H')\/(J.go i H'/\∃Nx:St->Hp->Prop,(∀O'' H'',Nx O'' H''->∃m',m'<m/\W (i+1) m' O'' H'')/\∀x H'',J.yld i H' x H''->g x O' H'' λO2 H2 =>
  tt O2 H2 λb H3=>if b=true then ta D O2 H3 Nx else Nx O2 H3)
def zHG(hx:∀e s,¬Y.xe e s)(he:PE Y elt te):PA Y (act1 elt) (ta1 te):=λD pins s O H Nx k Q E I h hk=>by
 unfold act1;refine qB (qB (wpAny_mono (he pins s O H _ I h) (λy s10 h10=>?_) λ_ _ z=>absurd z (hx _ _)));obtain⟨vy,H10,I10,r10,ys,hy,hz,n10⟩:=h10;have ap:=Wz (X:=Y) _ s10 O H10 (.ref D) [vy] (.ref D) [y] (λv H'=>Nx O H') I10 rfl (.cons r10 .nil) ⟨_,ys,vy,rfl,rfl,hy,hz,n10⟩;refine qB (wpAny_mono ap (λ_ s11 h11=>?_) λ_ _ z=>absurd z (hx _ _));obtain⟨v11,H11,I11,_,n11⟩:=h11;exact qC (hk O H11 s11 I11 n11)
def zD7{Y:Cx}{elt t0 i0 t1 i1:Expr}{f0 f1:List Expr}{scope:Scope}{pos:Pos}{wi:TI}{g:TG}{tt:TT}{ta:TA}(hx:∀e s,¬Y.xe e s)(hc:Y.calm=true)(hi:PI Y t1 i1 wi)(hg:PG Y t1 g)(ht:zAr Y f1 tt)(he:PA Y (act1 elt) ta)
  (hs:∀x,foldedSetIterable i1 Y.env x=pure x):PA Y (act2 elt t0 i0 f0 t1 i1 f1 scope pos) (taL wi g tt ta):=λD pins s O H Nx k Q E I h hk=>by
 unfold act2;refine qB (wpAny_mono (hi pins s O H _ I h) (λxv s1 h1=>qB (wpAny_standAt ?_)) λ_ _ z=>absurd z (hx _ _));rw[hs];refine qB (qC (qB (wpAny_holding (wpAny_mono h1 (λitv s2 h2=>qB ?_) λ_ _ z=>absurd z (hx _ _)))));obtain⟨it,fp,tn,J,H2,e,I2,T,st2,f2,W,⟨m0,w0⟩,step⟩:=h2;subst e;have fpY:∀{H':Hp},(∀b∈fp,H' b=none)->∀b∈fp,QK Y pins H' b:=λhn b hb=>⟨hn b hb,(f2 b hb).2⟩
 have fin:∀R:Result->Shared->Prop,(∀O' H' s',Inv Y pins O' H' s'->Nx O' H'->R (.ok .next) s')->codeAny (model Y.prog Y.w) Y.A (.compLoop (.ListComp elt [⟨t0,i0,f0,0⟩,⟨t1,i1,f1,0⟩] scope pos) 1 (.ref it) (.ref D) Y.env) R s2:=by
  intro R hR;refine loopG (act:=act1 elt (.ref D) Y.env) turn2_1 (λn s'=>∃i O' H',Inv Y pins O' H' s'/\tn i s'.heap/\(∀b∈fp,H' b=none)/\W i n O' H') ?_ m0 ⟨0,O,H2,I2,st2,λb hb=>(f2 b hb).1,w0⟩
  rintro n s5 ⟨i,O5,H5,I5,st5,fr5,w5⟩
  rcases step i n O5 H5 w5 with⟨stop,q⟩|⟨go,N2,hN,turn⟩
  ·refine wpAny_mono (T.done Y rfl rfl rfl hc i pins s5 O5 H5 (λ_ _=>False) I5 (fpY fr5) st5 stop) (λr s6 h6=>?_) (λ_ _ z=>z.elim)
   obtain⟨hr,I6⟩:=h6;subst hr;exact hR O5 H5 s6 I6 q
  ·refine wpAny_mono (T.item Y rfl rfl rfl hc i pins s5 O5 H5 (λ_ _=>False) I5 (fpY fr5) st5 go) (λr s6 h6=>?_) (λ_ _ z=>z.elim)
   obtain⟨u,hr,h6⟩:=h6;subst hr;refine wpAny_mono h6 (λ_ s7 h7=>?_) (λ_ _ z=>z.elim);obtain⟨x,H7,I7,r7,y7,st7,fr7⟩:=h7;have I7':=I7.pinned (fpY fr7) (T.obj _ _ st7);refine wpAny_mono (hg _ s7 O5 H7 x u _ I7' r7 (turn x H7 y7)) (λ_ s8 h8=>?_) (λ_ _ z=>absurd z (hx _ _));obtain⟨O8,H8,I8,q8⟩:=h8;refine wpAny_mono (ht _ s8 O8 H8 _ I8 q8) (λb s9 h9=>?_) (λ_ _ z=>absurd z (hx _ _));obtain⟨H9,I9,q9⟩:=h9;have again:∀{O7:St} {H':Hp} {s':Shared},Inv Y (pins++Zr fp s7.heap) O7 H' s'->N2 O7 H'->∃m,m<n/\∃i O' H',Inv Y pins O' H' s'/\tn i s'.heap/\(∀b∈fp,H' b=none)/\W i m O' H':=λ{O7 H' s'} I' n7=>by
    obtain⟨m',hm,w7⟩:=hN O7 H' n7;refine⟨m',hm,i+1,O7,H',I'.unpinned,T.keep _ _ _ st7 λb hb o e=>(I'.pin (b,o) (qK _ (qK _ (yV hb e)))).1,λb hb=>?_,w7⟩;obtain⟨o,e,d⟩:=T.obj _ _ st7 b hb;exact(I'.pin (b,o) (qK _ (qK _ (yV hb e)))).2.1
   cases b with
   |false =>
    rw[if_neg qF]at q9 ⊢;exact again I9 q9
   |true =>
    rw[if_pos rfl]at q9 ⊢;exact λk Qk hk=>he D _ s9 O8 H9 N2 k Qk _ I9 q9 λO' H' s' I' n'=>hk s' (again I' n')
 have go:∀R:Result->Shared->Prop,(∀O' H' s',Inv Y pins O' H' s'->Nx O' H'->R (.ok .next) s')->codeAny (model Y.prog Y.w) Y.A (.compStart (.ListComp elt [⟨t0,i0,f0,0⟩,⟨t1,i1,f1,0⟩] scope pos) 1 (.ref it) (.ref D) Y.env) R s2:=λR hR=>start1 (fin R hR) (T.self Y.A 0 _ _ _ st2 (fin R hR))
 exact wpAny_runOwn (go _ λO' H' s' I' n'=>hk O' H' s' I' n')
section
variable{X:Cx}{elt target iter:Expr}{ifs:List Expr}{scope:Scope}{pos:Pos}{nl:Nat}{caps:List Nat}{N':List Str}
def uu{wi:TI}{g:TG}{tt:TT}{ta:TA}{t1 i1:Expr}{f1:List Expr}{use:Option (Value->Sem Unit)}{QQ:Value->Shared->Prop}{pins:List (Addr×Obj)}{s:Shared}{O:St}{H:Hp}{Q:VK}{p0:Pos}(hx:∀e s,¬X.xe e s)(hc:X.calm=true)(hkind:scope.kind=.function)(hnames:∀y∈scope.names,y.2=.local->scope.names.lookup y.1=some .local)(hcell:∀y∈scope.names,y.2=.cell->scope.names.lookup y.1=some .cell)
  (hfree:(scope.names.all λy=>y.2 != .free||X.env.kindOf y.1==some .cell)=true)
  (hlen:N'.length=nl+caps.length) (hcap:∀(i j:Nat),caps[i]?=some j->∃x,N'[nl+i]?=some x/\X.N[j]?=some x/\scope.names.lookup x=some .free)
  (hi:PI X target iter wi) (hg:∀cl C ex s H,PG (cxB X N' scope cl C ex s H) target g) (ht:∀cl C ex s H,zAr (cxB X N' scope cl C ex s H) ifs tt) (he:∀cl C ex s H,PA (cxB X N' scope cl C ex s H) (act2 elt target iter ifs t1 i1 f1 scope pos) ta)
  (hs:∀x,foldedSetIterable iter X.env x=pure x) (I:Inv X pins O H s) (h:zBw nl caps wi g tt ta O H Q)
  (hfin:∀(D C:Addr) (H5:Hp) (s6:Shared) (m6:Str->Option Value),Inv X pins O H5 s6->QK X pins H5 C->s6.heap.Ns C m6->Q (.ref D) H5->compPost (model X.prog X.w) X.A X.xe use QQ (.ref D) C (.ok .next) s6) :
  wpAny (model X.prog X.w) X.A (comprehension (.ListComp elt [⟨target,iter,ifs,0⟩,⟨t1,i1,f1,0⟩] scope pos) scope X.env p0 (newList []) false (eval iter X.env) use) QQ X.xe s:=by
 have hfr:∀y∈scope.names,y.2=.free->X.env.kindOf y.1=some .cell:=λy hy e=>by
  have:=all_eq_true.mp hfree y hy;rw[e]at this;simpa using this
 have hcl:∀y∈scope.names,y.2=.free->∃c,X.env.cells.lookup y.1=some c:=λy hy e=>I.ok.has y.1 (.inl (hfr y hy e))
 have hclos:closureFor scope X.env=pure (uq X.env scope.names []):=by
  simp only[closureFor];rw[wW scope.names [] hcl];rfl
 have cl1:∀x c,(uq X.env scope.names []).lookup x=some c->X.env.cells.lookup x=some c:=λx c e=>(ya scope.names [] x hcl (λ_ z=>by cases z)).1 c e
 have cl2:∀x,(∃y∈scope.names,y.1=x/\y.2=.free)->∃c,(uq X.env scope.names []).lookup x=some c:=λx q=>(ya scope.names [] x hcl (λ_ z=>by cases z)).2 (.inr q)
 generalize uq X.env scope.names []=cl at hclos cl1 cl2;refine wpAny_comprehension_free (use:=use) rfl hs hclos hkind hnames (thn (hi pins s O H _ I h) λxv s1 h1=>thn h1 λitv s2 h2=>?_);obtain⟨it,fp,tn,J,H2,e,I2,T,st2,f2,turn⟩:=h2;subst e;refine wpAny_newObj_type (jb ?_) (by show(#[]:Array Value).size<=sizeLine;simp);dsimp only;generalize hH3:s2.heap.push {cls:=.type "list",dict:=none,data:=.seq ([]:List Value).toArray}=h3;have hC:h3.objs.size=s2.heap.objs.size+1:=by rw[<- hH3,size_push]
 have hD:H2 s2.heap.objs.size=none:=I2.hok.fresh (le_refl _);obtain⟨W,⟨m0,w0⟩,step⟩:=turn s2.heap.objs.size hD
 -- the state at the block's entry
 have I3:Inv X pins O (upd H2 s2.heap.objs.size (.l [])) {s2 with heap:=h3}:=by
  rw[<- hH3];exact I2.laid (t':=s2.toks) (λb o q=>qA _ q) (le_refl _) ⟨zero_le _,[],0,.nil,get?_push_size _ rfl⟩
 have hcfr:∀x,scope.names.lookup x=some .free->(x,NameKind.cell)∉scope.names:=λx e z=>by
  have:=hcell _ z rfl;rw[e]at this;cases this
 have szp:(h3.push {cls:=.type "dict",data:=.dict #[]}).objs.size=h3.objs.size+1:=size_push ..;have cw:∀x c,(cellsFrom (h3.objs.size+1) scope.names cl).lookup x=some c->cl.lookup x=some c\/((x,NameKind.cell)∈scope.names/\h3.objs.size+1<=c/\(pushCells (h3.push {cls:=.type "dict",data:=.dict #[]}) scope.names).IsCell c none):=λx c e=>by
  rw[<- szp]at e ⊢;exact JV _ _ _ x c e
 have cfr:∀x,scope.names.lookup x=some .free->(cellsFrom (h3.objs.size+1) scope.names cl).lookup x=cl.lookup x:=λx e=>ZR _ _ _ x (hcfr x e)
 have chas:∀x,scope.names.lookup x=some .cell->∃c,(cellsFrom (h3.objs.size+1) scope.names cl).lookup x=some c:=λx e=>by
  have:=cellsFrom_some scope.names (h3.objs.size+1) cl (x:=x) (.inl e);exact Option.isSome_iff_exists.mp this
 have clt:∀x c,cl.lookup x=some c->c<h3.objs.size:=λx c e=>by
  obtain⟨v,q⟩:=I3.cell x c (cl1 x c e);exact q.lt
 have cinj:=Ql scope.names (h3.objs.size+1) cl (λx y c e1 e2=>I.ok.inj x y c (cl1 x c e1) (cl1 y c e2)) λx c e=>lt_succ_of_lt (clt x c e)
 have hns₁:(pushCells (h3.push {cls:=.type "dict",data:=.dict #[]}) scope.names).Ns h3.objs.size λ_=>none:=(Heap.Ns.new h3 (.type "dict")).keeps (pushCells_keeps _ _)
 have old:∀b o,h3.get? b=some o->(pushCells (h3.push {cls:=.type "dict",data:=.dict #[]}) scope.names).get? b=some o:=λb o e=>pushCells_keeps _ _ b o (qA _ e)
 generalize hh1:pushCells (h3.push {cls:=.type "dict",data:=.dict #[]}) scope.names=h₁ at hns₁ old cw ⊢;generalize hcs:cellsFrom (h3.objs.size+1) scope.names cl=cs at cw cfr chas cinj ⊢;have fpD:∀b∈fp,b≠s2.heap.objs.size:=λb hb z=>by
  obtain⟨o,e,_⟩:=T.obj 0 s2.heap st2 b hb;subst z;exact absurd (lt_size e) (lt_irrefl _)
 have fp3:∀b∈fp,upd H2 s2.heap.objs.size (.l []) b=none:=λb hb=>by rw[zk (fpD b hb)];exact(f2 b hb).1
 have fpC:∀b∈fp,b≠h3.objs.size:=λb hb z=>by
  obtain⟨o,e,_⟩:=T.obj 0 s2.heap st2 b hb;have q:b<s2.heap.objs.size:=lt_size e;rw[z,hC]at q;exact absurd q (not_lt.mpr (le_succ _))
 have hCn:upd H2 s2.heap.objs.size (.l []) h3.objs.size=none:=I3.hok.fresh (le_refl _);have fpok:∀b∈fp,(b∈X.ex\/X.s₀.heap.objs.size<=b)/\b≠X.env.locals/\(∀x c,X.env.cells.lookup x=some c->c≠b)/\∀p∈X.pn++pins,p.1≠b:=λb hb=>by
  obtain⟨_,q2,_,q4,q5,q6⟩:=f2 b hb;exact⟨q4,q2,q5,q6⟩
 have fpH:∀b∈fp,b<h3.objs.size:=λb hb=>by
  obtain⟨o,e,_⟩:=T.obj 0 s2.heap st2 b hb;have q:b<s2.heap.objs.size:=lt_size e;rw[hC];exact lt_succ_of_lt q
 have fpcs:∀b∈fp,∀x c,cs.lookup x=some c->c≠b:=λb hb x c e=>by
  rcases cw x c e with q|⟨_,q,_⟩
  ·exact(fpok b hb).2.2.1 x c (cl1 x c q)
  ·intro z;subst z
   exact absurd (lt_of_lt_of_le (fpH _ hb) (Nat.le_of_succ_le q)) (lt_irrefl _)
 let Y:Cx:=cxB X N' scope cs h3.objs.size fp {s2 with heap:=h3} (upd H2 s2.heap.objs.size (.l []))
 have kindY:∀x k,Y.env.kindOf x=some k->∃k0,scope.names.lookup x=some k0/\(k=k0\/(k0=.free/\k=.cell)):=λx k e=>jS e
 have okY:Y.Ok:={
  mod:=I.ok.mod
  kind:=hkind
  glob:=I.ok.glob
  blt:=I.ok.blt
  above:=le_refl _
  inj:=cinj
  has:=λx q=>by
   have:scope.names.lookup x=some .cell\/scope.names.lookup x=some .free:=by
    rcases q with q|q
    ·obtain⟨k0,e,z⟩:=kindY x _ q
     rcases z with z|z
     ·subst z;exact .inl e
     ·rw[z.1]at e;exact .inr e
    ·obtain⟨k0,e,z⟩:=kindY x _ q
     rcases z with z|z
     ·subst z;exact .inr e
     ·rw[z.1]at e;exact .inr e
   rcases this with q|q
   ·exact chas x q
   ·obtain⟨c,e⟩:=cl2 x ⟨(x,.free),PySem.mem_of_lookup q,rfl,rfl⟩
    exact⟨c,by show cs.lookup x=_;rw[cfr x q];exact e⟩
  cab:=λx c z e=>by
   have z:scope.names.lookup x=some .cell:=by
    have z:(scope.names.lookup x==some NameKind.cell)=true:=z;simpa using z
   have e:cs.lookup x=some c:=e;rw[<- hcs]at e;exact le_trans (le_succ _) (Qj _ _ _ x c (PySem.mem_of_lookup z) e)
  hd:=I.ok.hd
  frames:=I.ok.frames
  stk:=.inl rfl
  exf:=λb hb=>⟨fpC b hb,fpcs b hb⟩
  bs:=λb o e=>I3.bs b o e
  bsz:=le_trans I.ok.bsz I3.sz
  noex:=λb o e hb=>by
   obtain⟨q,_⟩:=fpok b hb;rcases q with q|q
   ·exact I.ok.noex b o e q
   ·exact absurd (lt_of_lt_of_le (lt_size e) I.ok.bsz) (not_lt.mpr q)
  exfs:=λb hb z=>by
   have:=I2.stkSub b z;rcases mem_cons.mp this with q|q
   ·exact(fpok b hb).2.1 q
   ·exact(f2 b hb).2.2.1 q
  funs:=I3.stack
  frf:=I3.stkFree}
 have keep1:∀b o,h3.get? b=some o->h₁.get? b=some o:=old;have lenY:(L2.zK nl caps O).length=N'.length:=by unfold L2.zK;simp[hlen]
 have IY:Inv Y [] (L2.zK nl caps O) (upd H2 s2.heap.objs.size (.l [])) {s2 with heap:=h₁}:={
  ok:=okY
  os:=rfl
  bare:=I3.bare
  base:=Un.kept keep1
  loc:=by
   refine⟨_,hns₁,λi x v e1 e2 e3=>?_⟩;have e1:N'[i]?=some x:=e1;have hi:nl<=i:=by
    by_cases z:nl<=i
    ·exact z
    ·unfold L2.zK at e2
     rw[getElem?_append_left (by simp;omega),List.getElem?_replicate]at e2;split at e2<;>cases e2
   unfold L2.zK at e2;rw[getElem?_append_right (by simpa using hi),length_replicate,getElem?_map]at e2;cases ej:caps[i-nl]? with
   |none=>rw[ej]at e2;cases e2
   |some j =>
    rw[ej]at e2;simp only[Option.map_some,Option.some.injEq]at e2;obtain⟨x',c1,c2,c3⟩:=hcap (i-nl) j ej;have ex:x'=x:=by
     rw[show nl+(i-nl)=i by omega,e1]at c1;exact(qJ c1).symm
    subst ex;have e4:O[j]?=some (some v):=by
     cases z:O[j]? with
     |none=>rw[z]at e2;cases e2|some o=>rw[z]at e2;simp at e2;rw[e2]
    have kx:X.env.kindOf x'=some .cell:=hfr (x',.free) (PySem.mem_of_lookup c3) rfl;obtain⟨mm,_,lk⟩:=I3.loc;obtain⟨u,ru,lu⟩:=lk j x' v c2 e4 (.inr (.inl kx));refine⟨u,ru,?_⟩;rcases lu with⟨z,_⟩|⟨_,c,d1,d2⟩
    ·rw[kx]at z;cases z
    ·obtain⟨c',d3⟩:=cl2 x' ⟨(x',.free),PySem.mem_of_lookup c3,rfl,rfl⟩
     have:c'=c:=by have:=cl1 x' c' d3;rw[d1]at this;exact(qJ this).symm
     subst this;exact .inr ⟨.inl (wF c3 I.ok.kind kx),c',by show cs.lookup _=_;rw[cfr x' c3];exact d3,d2.keeps old⟩
  cell:=λx c e=>by
   rcases cw x c e with e|⟨_,_,q⟩
   ·obtain⟨v,q⟩:=I3.cell x c (cl1 x c e)
    exact⟨v,q.keeps old⟩
   ·exact⟨_,q⟩
  free:=hCn
  freeC:=λx c e=>by
   rcases cw x c e with e|⟨_,q,_⟩
   ·exact I3.freeC x c (cl1 x c e)
   ·exact I3.hok.fresh (le_trans (le_succ _) q)
  pin:=λp hp=>absurd (show p∈([]:List (Addr×Obj))from hp) (by simp)
  hok:=I3.hok.kept old
  len:=lenY}
 have st1:tn 0 h₁:=T.keep 0 s2.heap h₁ st2 λb hb o e=>old b o (by rw[<- hH3];exact qA _ e)
 have fpY:∀{H':Hp},(∀b∈fp,H' b=none)->∀b∈fp,QK Y [] H' b:=λhn b hb =>
  ⟨hn b hb,fpC b hb,okY.exfs b hb,.inl hb,fpcs b hb,λp hp=>absurd (show p∈([]:List (Addr×Obj))from hp) (by simp)⟩
 have hA:Y.A=X.A:=rfl;have noE:∀{E':Value->Shared->Prop} {e:Value} {s:Shared},X.xe e s->E' e s:=λq=>absurd q (hx _ _)
 have fin:∀s₄:Shared,s₄={s2 with heap:=h₁} ->
   codeAny (model X.prog X.w) X.A (.compLoop (.ListComp elt [⟨target,iter,ifs,0⟩,⟨t1,i1,f1,0⟩] scope pos) 0 (.ref it) (.ref s2.heap.objs.size) Y.env)
    (compPost (model X.prog X.w) X.A X.xe use QQ (.ref s2.heap.objs.size) h3.objs.size) s₄:=by
  rintro s₄ rfl
  refine loopG (act:=act2 elt target iter ifs t1 i1 f1 scope pos (.ref s2.heap.objs.size) Y.env) turn2_0 (λn s'=>∃i O' H',Inv Y [] O' H' s'/\tn i s'.heap/\(∀b∈fp,H' b=none)/\W i n O' H') ?_ m0 ⟨0,L2.zK nl caps O,_,IY,st1,fp3,w0⟩
  rintro n s5 ⟨i,O5,H5,I5,st5,fr5,w5⟩
  rcases step i n O5 H5 w5 with⟨stop,q⟩|⟨go,Nx,hN,turn⟩
  ·refine wpAny_mono (T.done Y rfl rfl rfl hc i [] s5 O5 H5 (λ_ _=>False) I5 (fpY fr5) st5 stop) (λr s6 ⟨hr,I6⟩=>?_) (λ_ _ z=>z.elim)
   subst hr;obtain⟨m6,n6,_⟩:=I6.loc;have u:Un (frs X.stack) fp (upd H2 s2.heap.objs.size (.l [])) H5 h3 s6.heap:=I6.base;have I7:Inv X pins O H5 s6:=I3.call' (s':=s6) (ch:=fp) I6.os u I6.hok I6.bare fpok;exact hfin _ _ H5 s6 m6 I7 (I3.fpOk (le_refl _) I6.free) n6 q
  ·refine wpAny_mono (T.item Y rfl rfl rfl hc i [] s5 O5 H5 (λ_ _=>False) I5 (fpY fr5) st5 go) (λr s6 ⟨u,hr,h6⟩=>?_) (λ_ _ z=>z.elim)
   subst hr;refine wpAny_mono h6 (λ_ s7 ⟨x,H7,I7,r7,y7,st7,fr7⟩=>?_) (λ_ _ z=>z.elim);have I7':=I7.pinned (fpY fr7) (T.obj _ _ st7);refine wpAny_mono (hg _ _ _ _ _ _ s7 O5 H7 x u _ I7' r7 (turn x H7 y7)) (λ_ s8 ⟨O8,H8,I8,q8⟩=>?_) (λ_ _ z=>noE z);refine wpAny_mono (ht _ _ _ _ _ _ s8 O8 H8 _ I8 q8) (λb s9 ⟨H9,I9,q9⟩=>?_) (λ_ _ z=>noE z);have again:∀{O7:St} {H':Hp} {s':Shared},Inv Y ([]++Zr fp s7.heap) O7 H' s'->Nx O7 H'->∃m,m<n/\∃i O' H',Inv Y [] O' H' s'/\tn i s'.heap/\(∀b∈fp,H' b=none)/\W i m O' H':=λ{O7 H' s'} I' n7=>by
    obtain⟨m',hm,w7⟩:=hN O7 H' n7;refine⟨m',hm,i+1,O7,H',I'.unpinned,T.keep _ _ _ st7 λb hb o e=>(I'.pin (b,o) (qK _ (qK _ (yV hb e)))).1,λb hb=>?_,w7⟩;obtain⟨o,e,d⟩:=T.obj _ _ st7 b hb;exact(I'.pin (b,o) (qK _ (qK _ (yV hb e)))).2.1
   cases b with
   |false =>
    rw[if_neg qF]at q9 ⊢;exact again I9 q9
   |true =>
    rw[if_pos rfl]at q9 ⊢;exact λk Qk hk=>he _ _ _ _ _ _ _ s9 O8 H9 Nx k Qk _ I9 q9 λO' H' s' I' n'=>hk s' (again I' n')
 exact codeAny_compStart_list (fin _ rfl) (T.self X.A 0 _ _ _ st1 (fin _ rfl))
def zGF(hx:∀e s,¬X.xe e s)(hc:X.calm=true)(hkind:scope.kind=.function)(hnames:∀y∈scope.names,y.2=.local->scope.names.lookup y.1=some .local)(hcell:∀y∈scope.names,y.2=.cell->scope.names.lookup y.1=some .cell)
  (hfree:(scope.names.all λy=>y.2 != .free||X.env.kindOf y.1==some .cell)=true)
  (hlen:N'.length=nl+caps.length) (hcap:∀(i j:Nat),caps[i]?=some j->∃x,N'[nl+i]?=some x/\X.N[j]?=some x/\scope.names.lookup x=some .free)
  (hi:PI X target iter wi) (hg:∀cl C ex s H,PG (cxB X N' scope cl C ex s H) target g) (ht:∀cl C ex s H,zAr (cxB X N' scope cl C ex s H) ifs tt) (he:∀cl C ex s H,PA (cxB X N' scope cl C ex s H) (act2 elt target iter ifs t1 i1 f1 scope pos) ta)
  (hs:∀x,foldedSetIterable iter X.env x=pure x:=by intro _;rfl):PE X (.ListComp elt [⟨target,iter,ifs,0⟩,⟨t1,i1,f1,0⟩] scope pos) (zBw nl caps wi g tt ta):=by
 intro pins s O H Q I h;rw[eval_ListComp];refine uu (use:=none) hx hc hkind hnames hcell hfree hlen hcap hi hg ht he hs I h λD C H5 s6 m6 I7 f n6 q=>?_
 refine⟨m6,n6,λh' hs'=>?_⟩;obtain⟨f1,f2,f3,f4,f5,f6⟩:=f;exact⟨.ref D,H5,I7.turned (it:=C) (t':=s6.toks) (λb o hb e=>hs'.extBut b o hb e) f1 (λz=>f2 z) f4 f5 f6,rfl,q⟩
def zGG(hN:X.N.Nodup)(hi':X.N[i]?=some y)(hy:Loc X.env.scope y)(hf:X.fn y=true\/X.env.scope.names.lookup y=some .local)(hx:∀e s,¬X.xe e s)(hc:X.calm=true)(hkind:scope.kind=.function)(hnames:∀y∈scope.names,y.2=.local->scope.names.lookup y.1=some .local)(hcell:∀y∈scope.names,y.2=.cell->scope.names.lookup y.1=some .cell)
  (hfree:(scope.names.all λy=>y.2 != .free||X.env.kindOf y.1==some .cell)=true)
  (hlen:N'.length=nl+caps.length) (hcap:∀(i j:Nat),caps[i]?=some j->∃x,N'[nl+i]?=some x/\X.N[j]?=some x/\scope.names.lookup x=some .free)
  (hi:PI X target iter wi) (hg:∀cl C ex s H,PG (cxB X N' scope cl C ex s H) target g) (ht:∀cl C ex s H,zAr (cxB X N' scope cl C ex s H) ifs tt) (he:∀cl C ex s H,PA (cxB X N' scope cl C ex s H) (act2 elt target iter ifs t1 i1 f1 scope pos) ta)
  (hs:∀x,foldedSetIterable iter X.env x=pure x) (hsw:swapsWith (.ListComp elt [⟨target,iter,ifs,0⟩,⟨t1,i1,f1,0⟩] scope pos) (some (.Name y py)) spos.line X.env=pure true) :
  PS X (.Assign [.Name y py] (.ListComp elt [⟨target,iter,ifs,0⟩,⟨t1,i1,f1,0⟩] scope pos) spos) (zFI (zBw nl caps wi g tt ta) (GR i)):=by
 intro pins s O H D I h;rw[exec_Assign_Name_used _ _ _ _ hsw];refine qB (wpAny_standAt (qB ?_));show wpAny _ X.A (do let _ <- comprehension (.ListComp elt [⟨target,iter,ifs,0⟩,⟨t1,i1,f1,0⟩] scope pos) scope X.env _ (newList []) false (eval iter X.env) (some (assign (.Name y py) X.env))) _ _ s;refine qB (wpAny_mono (uu (use:=some (assign (.Name y py) X.env)) (QQ:=λ_ s'=>SP X pins D .next s') hx hc hkind hnames hcell hfree hlen hcap hi hg ht he hs I h λDa C H5 s6 m6 I7 f n6 q=>?_) (λ_ s' hq=>qC (qC hq)) λ_ _ e=>e);obtain⟨f1,f2,f3,f4,f5,f6⟩:=f;show wpAny _ X.A (assign (.Name y py) X.env (.ref Da)) _ _ s6;refine wpAny_assign_Name (Yl I7 hN hi' hy (v:=.ref Da) rfl (λs7 I8 ⟨a,sb,ha⟩=>?_) hf);have hne:C≠a:=by
  rcases ha with ha|ha
  ·rw[ha];exact f2
  ·exact λz=>f5 y a ha z.symm
 refine⟨m6,n6.sameBut sb hne,λh' hs'=>?_⟩;exact⟨_,H5,I8.turned (it:=C) (t':=s7.toks) (λb o hb e=>hs'.extBut b o hb e) f1 (λz=>f2 z) f4 f5 f6,q⟩
end
section
variable{X:Cx}{K:qH}{mg:Str->Option Value}{O:St}{M:Addr->Prop}{E:zS}{H:Hp}{T0 Z T:Fz}
structure GA(K:qH)(mg:Str->Option Value)(M:Addr->Prop)(D:Addr)(O:St)(E:zS)(H:Hp)(acc:List DV.D)(O':St)(E':zS)(H':Hp)(acc':List DV.D):Prop where
 len:E'.length=O'.length
 fr:FR K mg M H' ((some (.ref D),.own acc')::O'.zip E')
 st:Step M H ((some (.ref D),.own acc)::O.zip E) H' ((some (.ref D),.own acc')::O'.zip E')
 pk:PKp O E O' E'
def GA.of{D:Addr}{acc:List DV.D}{O':St}{E':zS}{H':Hp}(g:Got K mg M O E H [(some (.ref D),.own acc)] O' E' H' []):GA K mg M D O E H acc O' E' H' acc:=⟨g.len,g.fr,g.st,g.pk⟩
theorem GA.trans{D:Addr}{acc acc1 acc2:List DV.D}{O1 O2:St}{E1 E2:zS}{H1 H2:Hp}(a:GA K mg M D O E H acc O1 E1 H1 acc1)(b:GA K mg M D O1 E1 H1 acc1 O2 E2 H2 acc2):GA K mg M D O E H acc O2 E2 H2 acc2:=⟨b.len,b.fr,a.st.trans b.st,a.pk.trans b.pk⟩
abbrev MC:=zS->List D->Out (List D×zS)
def zD8(K:qH)(mg:Str->Option Value)(ma:MC)(ta:TA):Prop:=∀(M:Addr->Prop) (D:Addr) (O:St) (E:zS) (H:Hp) (acc acc':List DV.D) (E':zS) (Nx:St->Hp->Prop),E.length=O.length->FR K mg M H ((some (.ref D),.own acc)::O.zip E)->ma E acc=.ok (acc',E')->(∀O' H',GA K mg M D O E H acc O' E' H' acc'->Nx O' H')->ta D O H Nx
def wY(tg:MG)(tt:MT)(ma:MC):List D->zS->List D->Out (List D×zS)
 | [],E,acc=>.ok (acc,E)
 |d::ds,E,acc=>match tg d E with
  | .ok E1=>match tt E1 with
   | .ok (true,E2)=>match ma E2 acc with
    | .ok (acc',E3)=>wY tg tt ma ds E3 acc'|_=>.z
   | .ok (false,E2)=>wY tg tt ma ds E2 acc|_=>.z
  |_=>.z
def ma1(el:ME):MC:=λE acc=>match el E with
 | .ok (r,E3)=>if acc.length<cap then .ok (acc++[r.d],E3)else .z|_=>.z
def maL(mi:MI)(tg:MG)(tt:MT)(ma:MC):MC:=λE acc=>match mi E with
 | .ok (ds,E1)=>wY tg tt ma ds E1 acc|_=>.z
def vM(nl:Nat)(caps:List Nat)(mi:MI)(tg:MG)(tt:MT)(ma:MC):ME:=λE=>match mi E with
 | .z=>.z| .exc x E1=>.exc x E1
 | .ok (ds,E1)=>match JL E1 caps with
  | .ok ars=>match zL ars E1 with
   | .ok (ss,E2)=>match wY tg tt ma ds (replicate nl .e++ss) []with
    | .ok (res,Eb)=>match zJ ars ((zb (replicate nl .e++ss) Eb).drop nl) E1 E2 with
     | .ok E3=>.ok (.own res,E3)|_=>.z
    |_=>.z
   |_=>.z
  |_=>.z
def tNI(K:qH)(mg:Str->Option Value)(m:MI):TI:=λO H R=>∃M E,E.length=O.length/\FR K mg M H (O.zip E)/\match m E with
 | .ok (ds,E')=>∀J Iv H',ItOk K mg J ds Iv->Iv (Hm (Mo M (O.zip E')) H')->Got K mg M O E H [] O E' H' []->R J H'|_=>False
def tNI_M{R:It->Hp->Prop}(h:tNI X.K X.mg m O H R):tMI X m O H R:=by
 obtain⟨M,E,hl,fr,k⟩:=h;refine⟨M,E,hl,fr,?_⟩;cases e:m E with
 |z=>rw[e]at k;exact k|exc x E1=>rw[e]at k;exact k.elim|ok p=>rw[e]at k;exact k
def yld_ga{J:It}{ds:List D}{Iv:Hp->Prop}{O0 O':St}{E0 E':zS}{H1 H' H'':Hp}{Da:Addr}{acc0 acc:List D}{i:Nat}{x:V}(it:ItOk K mg J ds Iv)(hlt:i<ds.length)(gb:GA K mg M Da O0 E0 H1 acc0 O' E' H' acc)(ivb:Iv (Hm (Mo M ((some (.ref Da),Slot.own acc)::O'.zip E')) H'))(y:J.yld i H' x H'') :
  ∃d,ds[i]?=some d/\GA K mg M Da O0 E0 H1 acc0 O' E' H'' acc/\Iv (Hm (Mo M ((some (.ref Da),Slot.own acc)::O'.zip E')) H'')/\Rep K mg (Hm (Mo M ((some (.ref Da),Slot.own acc)::O'.zip E')) H'') d x:=by
 obtain⟨d,hd,h⟩:=it.yld i _ _ x _ zF ivb hlt y;rcases h with⟨rfl,rx⟩|⟨q,xs,es,hq,rfl,rfl,rfl,rs⟩
 ·exact⟨d,hd,gb,ivb,rx⟩
 ·have f1:=gb.fr.newTup hq rs
  have s1:Step M H' ((some (.ref Da),Slot.own acc)::O'.zip E') (upd H' q (.t xs)) ((some (.ref q),.v (.t es))::((some (.ref Da),Slot.own acc)::O'.zip E')):=Step.newVal hq;obtain⟨v,ev,rv⟩:=f1.val _ _ qE;cases ev;have sm:=s1.same;rw[wV]at rv sm;exact⟨_,hd,⟨gb.len,f1.tail,gb.st.trans ⟨sm,s1.keep⟩,gb.pk⟩,it.mono _ _ sm ivb,rv⟩
def zD9:zD8 K mg (ma1 el) (ta1 (tN K mg el)):=λM D O E H acc acc' E' Nx hl fr em hN=>by
 unfold ma1 at em;cases e3:el E with
 |z=>rw[e3]at em;cases em|exc _ _=>rw[e3]at em;cases em
 |ok p =>
  obtain⟨r,Ec⟩:=p;rw[e3]at em;dsimp only at em;by_cases hcap:acc.length<cap
  ·rw[if_pos hcap]at em
   cases em;refine zBr (T0:=[(some (.ref D),.own acc)]) hl fr e3 λyv H4 ge=>?_
   have fz:FR K mg M H4 ((some yv,.v r.d)::((some (.ref D),Slot.own acc)::O.zip E')):=FR.frz (r:=r) ge.fr;obtain⟨yv',ey,ry⟩:=fz.val _ _ qE;cases ey;rw[wV]at ry;have fo:=fz.tail;obtain⟨a,ys,ea,ha,_,rys⟩:=fo.ownL _ _ acc qE rfl;cases ea;refine⟨ys,ha,by rw[rys.length];exact lt_of_lt_of_le hcap (Yr (le_refl _)),hN O _ ?_⟩;obtain⟨fm,sm⟩:=FR.mut (i:=0) (s:=.own acc) fo rfl rfl (rys.append (Reps.cons ry Reps.nil));have sz:Step M H ((some (.ref D),Slot.own acc)::O.zip E) H4 ((some (.ref D),Slot.own acc)::O.zip E'):=ge.st.weak (zC (sublist_cons_self _ _));exact⟨ge.len,fm,sz.trans sm,ge.pk⟩
  ·rw[if_neg hcap]at em;cases em
def zHH(ho:GOk X g tg)(ha:zD8 X.K X.mg ma ta){Iv:Hp->Prop}(it:ItOk X.K X.mg J ds Iv){Nx:St->Hp->Prop}(hl:E.length=O.length)(fr:FR X.K X.mg M H ((some (.ref Da),.own acc)::O.zip E))(iv:Iv (Hm (Mo M ((some (.ref Da),Slot.own acc)::O.zip E)) H))(em:wY tg tt ma ds E acc=.ok (accF,EF))
  (hN:∀O' H',GA X.K X.mg M Da O E H acc O' EF H' accF->Nx O' H'):∃W:Nat->Nat->St->Hp->Prop,(∃m,W 0 m O H)/\∀i m O' H',W i m O' H' ->
   (J.stop i H'/\Nx O' H')\/(J.go i H'/\∃N2:St->Hp->Prop,(∀O'' H'',N2 O'' H''->∃m',m'<m/\W (i+1) m' O'' H'')/\∀x H'',J.yld i H' x H''->g x O' H'' λO2 H2 =>
    tNT X.K X.mg tt O2 H2 λb H3=>if b=true then ta Da O2 H3 N2 else N2 O2 H3):=by
 refine⟨λi m O' H'=>m=ds.length-i/\i<=ds.length/\∃E' acc',GA X.K X.mg M Da O E H acc O' E' H' acc'/\Iv (Hm (Mo M ((some (.ref Da),Slot.own acc')::O'.zip E')) H')/\wY tg tt ma (ds.drop i) E' acc'=.ok (accF,EF),
  ⟨ds.length,by simp,zero_le _,E,acc,⟨hl,fr,Step.refl,PKp.refl⟩,iv,em⟩,?_⟩
 rintro i m O' H' ⟨rfl,hi,E',acc',gb,ivb,cm⟩
 by_cases hlt:i<ds.length
 ·refine .inr ⟨it.go i _ H' zF ivb hlt,λO'' H''=>(i+1<=ds.length/\∃E' acc',GA X.K X.mg M Da O E H acc O'' E' H'' acc'/\Iv (Hm (Mo M ((some (.ref Da),Slot.own acc')::O''.zip E')) H'')/\wY tg tt ma (ds.drop (i+1)) E' acc'=.ok (accF,EF)),
   λO'' H'' q=>⟨ds.length-(i+1),by omega,rfl,q⟩,λx H'' y=>?_⟩
  obtain⟨d,hd,gb,ivb,rx⟩:=yld_ga it hlt gb ivb y;have ed:ds.drop i=d::ds.drop (i+1):=by
   obtain⟨hi',rfl⟩:=qG.mp hd;exact drop_eq_getElem_cons hi'
  rw[ed]at cm;simp only[wY]at cm;cases e1:tg d E' with
  |z=>rw[e1]at cm;cases cm|exc _ _=>rw[e1]at cm;cases cm
  |ok Ea =>
   rw[e1]at cm;dsimp only at cm;refine ho _ O' E' _ [(some (.ref Da),.own acc')] x d Ea _ gb.len (gb.fr.add rx) e1 λO2 ga=>?_
   have g2:=gb.trans (GA.of ga);cases e2:tt Ea with
   |z=>rw[e2]at cm;cases cm|exc _ _=>rw[e2]at cm;cases cm
   |ok p =>
    obtain⟨b,Eb2⟩:=p;rw[e2]at cm;refine zAt ga.len ga.fr e2 λH3 gt=>?_
    have gt':GA X.K X.mg M Da O2 Ea H'' acc' O2 Eb2 H3 acc':=⟨gt.len,gt.fr,gt.st,gt.pk⟩;have g3:=g2.trans gt';have iv3:=it.mono _ _ (ga.st.same.trans gt.st.same) ivb;cases b with
    |false=>exact zE7 ⟨hlt,Eb2,acc',g3,iv3,cm⟩
    |true =>
     refine zE8 ?_;dsimp only at cm;cases e3:ma Eb2 acc' with
     |z=>rw[e3]at cm;cases cm|exc _ _=>rw[e3]at cm;cases cm
     |ok p =>
      obtain⟨acc2,Ec⟩:=p;rw[e3]at cm;exact ha M Da O2 Eb2 H3 acc' acc2 Ec _ g3.len g3.fr e3 λO4 H4 g4=>⟨hlt,Ec,acc2,g3.trans g4,it.mono _ _ g4.st.same iv3,cm⟩
 ·have ei2:i=ds.length:=by omega
  subst ei2;rw[drop_length]at cm;simp only[wY]at cm;cases cm;exact .inl ⟨it.stop _ _ H' zF ivb (le_refl _),hN O' H' gb⟩
def zBx(ho:GOk X g tg)(ha:zD8 X.K X.mg ma ta):zD8 X.K X.mg (maL mi tg tt ma) (taL (tNI X.K X.mg mi) g (tNT X.K X.mg tt) ta):=λM D O E H acc accF EF Nx hl fr em hN=>by
 unfold maL at em;cases ei:mi E with
 |z=>rw[ei]at em;cases em|exc _ _=>rw[ei]at em;cases em
 |ok p =>
  obtain⟨ds,E1⟩:=p;rw[ei]at em;refine⟨Mo M [(some (.ref D),.own acc)],E,hl,FR.inner (T:=[(some (.ref D),.own acc)]) fr,?_⟩;rw[ei];intro J Iv H1 it iv g1;have g2:Got X.K X.mg M O E H [(some (.ref D),.own acc)] O E1 H1 []:=g1.outer (T0:=[(some (.ref D),.own acc)]) fr;rw[<- y1]at iv;exact zHH ho ha it g2.len g2.fr iv em λO' H' ga=>hN O' H' ((GA.of g2).trans ga)
def Qw(ho:GOk X g tg)(ha:zD8 X.K X.mg ma ta)(h:tM X (vM nl caps mi tg tt ma) O H Q):zBw nl caps (tMI X mi) g (tNT X.K X.mg tt) ta O H Q:=by
 obtain⟨M,E,hl,fr,k⟩:=h;unfold vM at k;refine⟨M,E,hl,fr,?_⟩;cases ei:mi E with
 |z=>rw[ei]at k;exact k|exc x E1=>rw[ei]at k;exact k
 |ok p =>
  obtain⟨ds,E1⟩:=p;rw[ei]at k;intro J Iv H1 it iv g1 D hD;dsimp only at k;cases ec:JL E1 caps with
  |z=>rw[ec]at k;exact k.elim|exc _ _=>rw[ec]at k;exact k.elim
  |ok ars =>
   rw[ec]at k;dsimp only at k;cases el1:zL ars E1 with
   |z=>rw[el1]at k;exact k.elim|exc _ _=>rw[el1]at k;exact k.elim
   |ok p =>
    obtain⟨ss,E2⟩:=p;rw[el1]at k;dsimp only at k;cases em:wY tg tt ma ds (replicate nl .e++ss) []with
    |z=>rw[em]at k;exact k.elim|exc _ _=>rw[em]at k;exact k.elim
    |ok p =>
     obtain⟨res,Eb⟩:=p;rw[em]at k;dsimp only at k;cases eb:zJ ars ((zb (replicate nl .e++ss) Eb).drop nl) E1 E2 with
     |z=>rw[eb]at k;exact k.elim|exc _ _=>rw[eb]at k;exact k.elim
     |ok E3 =>
      rw[eb]at k;obtain⟨vs,av,evs,f1,o1⟩:=Qo (T:=[]) caps g1.len ec g1.fr;obtain⟨f2,o2,l2,l3⟩:=YN (T:=[]) ars g1.len av el1 f1;have hv:=av.length;have f2':FR X.K X.mg M H1 (O.zip E2++(vs.map some).zip ss):=FR.perm (T:=O.zip E2++(vs.map some).zip ss) (Z:=(vs.map some).zip ss++O.zip E2) f2 perm_append_comm;have osub:∀b,b∈yF (O.zip E2++(vs.map some).zip ss)->b∈yF (O.zip E1):=λb hb =>
       o1 b ((o2 b).mpr (zD (T:=O.zip E2++(vs.map some).zip ss) (Z:=(vs.map some).zip ss++O.zip E2) perm_append_comm b hb))
      have st1:Step M H (O.zip E) H1 (O.zip E2++(vs.map some).zip ss):=g1.st.weak osub;have eO:zK nl caps O=replicate nl none++vs.map some:=by unfold L2.zK;rw[evs]
      rw[eO];have ez:(replicate nl (none:Option V)++vs.map some).zip (replicate nl Slot.e++ss)=replicate nl (none,.e)++(vs.map some).zip ss:=by
       rw[zip_append (by simp),vE]
      have f4:FR X.K X.mg (Mo M (O.zip E2)) H1 ((replicate nl (none:Option V)++vs.map some).zip (replicate nl Slot.e++ss)):=by
       rw[ez];exact(FR.inner f2').emps0 nl
      have oo:yF ((replicate nl (none:Option V)++vs.map some).zip (replicate nl Slot.e++ss))=yF ((vs.map some).zip ss):=by rw[ez,vG]
      generalize hO0:replicate nl (none:Option V)++vs.map some=O0 at f4 oo ⊢;generalize hE0:replicate nl Slot.e++ss=E0 at f4 oo em eb ⊢;have hl0:E0.length=O0.length:=by rw[<- hO0,<- hE0];simp[l2,hv]
      have f5:=f4.newOwn (ds:=[]) (xs:=[]) hD Reps.nil;have s5:=Step.newOwn (ds:=[]) (xs:=[]) f4 hD;have iv5:Iv (Hm (Mo (Mo M (O.zip E2)) ((some (.ref D),Slot.own [])::O0.zip E0)) (upd H1 D (.l []))):=by
       refine it.mono _ _ s5.same (it.mono _ _ (jF λb hb=>?_) iv);rcases hb with hb|hb
       ·rcases hb with hb|hb
        ·exact .inl hb
        ·exact .inr (osub b (by rw[zR];exact mem_append_left _ hb))
       ·rw[oo]at hb
        exact .inr (osub b (by rw[zR];exact qK _ hb))
      refine zHH ho ha it hl0 f5 iv5 em λO' H' ga=>k _ H' ?_
      have gb:Got X.K X.mg (Mo M (O.zip E2)) O0 E0 H1 [] O' Eb H' [(some (.ref D),.own res)]:=⟨ga.len,ga.fr,s5.trans ga.st,ga.pk⟩;have mk0:Mask (O'.zip Eb) (O0.zip (zb E0 Eb)):=Jo E0 O0 O' Eb gb.len (hl0.symm) λj ds' e=>(gb.pk j ds' e).2
      have mk:Mask (O'.zip Eb) ((vs.map some).zip ((zb E0 Eb).drop nl)):=by
       have:=wX nl mk0;have e:(O0.zip (zb E0 Eb)).drop nl=(vs.map some).zip ((zb E0 Eb).drop nl):=by
        rw[Yu,<- hO0];congr 1;rw[drop_left' (by simp)]
       rw[e]at this;exact this
      refine vH (r:=.own res) el1 eb av f2' st1 l3 g1.pk (gb.fr.mask (.keep mk)) ?_;refine(gb.st.weak λb hb=>(Mask.keep mk).sub.subset hb).left λb hb=>?_
      show b∈yF _
      rw[nil_append,oo]at hb;exact hb
end
section
variable{X:Cx}{elt target iter t1 i1:Expr}{scope:Scope}{pos:Pos}{mi mi1:MI}{tg tg1:MG}{el:ME}{g g1:TG}{nl:Nat}{caps:List Nat}
def ok_lc2(loc capn:List Str)(hnl:loc.length=nl)(hx:∀e s,¬X.xe e s)(hc:X.calm=true)(hkind:scope.kind=.function)(hnames:∀y∈scope.names,y.2=.local->scope.names.lookup y.1=some .local)(hcell:∀y∈scope.names,y.2=.cell->scope.names.lookup y.1=some .cell)
  (hfree:(scope.names.all λy=>y.2 != .free||X.env.kindOf y.1==some .cell)=true) (hcap:Gm X scope caps capn)
  (hi:IOk X target iter mi) (hg:∀cl C ex s H,PG (cxB X (loc++capn) scope cl C ex s H) target g) (ho:GOk X g tg) (hi1:∀cl C ex s H,IOk (cxB X (loc++capn) scope cl C ex s H) t1 i1 mi1) (hg1:∀cl C ex s H,PG (cxB X (loc++capn) scope cl C ex s H) t1 g1) (ho1:GOk X g1 tg1) (he:∀cl C ex s H,EOk (cxB X (loc++capn) scope cl C ex s H) elt el)
  (hs:∀x,foldedSetIterable iter X.env x=pure x) (hs1:∀cl C ex s H x,foldedSetIterable i1 (cxB X (loc++capn) scope cl C ex s H).env x=pure x) :
  EOk X (.ListComp elt [⟨target,iter,[],0⟩,⟨t1,i1,[],0⟩] scope pos) (vM nl caps mi tg jp (maL mi1 tg1 jp (ma1 el))):=by
 obtain⟨c1,c2⟩:=vI (loc:=loc) hcap;refine zZ (zGF (N':=loc++capn) (tt:=tNT X.K X.mg jp) (ta:=taL (tNI X.K X.mg mi1) g1 (tNT X.K X.mg jp) (ta1 (tN X.K X.mg el))) hx hc hkind hnames hcell hfree (by simp[hnl,c1]) (λi j e=>by
  obtain⟨x,q1,q2,q3⟩:=c2 i j e;refine⟨x,?_,q2,q3⟩;rw[getElem?_append_right (by omega),hnl,add_sub_cancel_left];exact q1) hi hg (λcl C ex s H=>jq vF λO H Q q=>Qp (X:=cxB X (loc++capn) scope cl C ex s _) q)
  (λcl C ex s H=>zD7 (Y:=cxB X (loc++capn) scope cl C ex s H) (ta:=ta1 (tN X.K X.mg el)) hx hc (Z0 (hi1 cl C ex s H) λO H R q=>tNI_M (X:=cxB X (loc++capn) scope cl C ex s _) q) (hg1 cl C ex s H) (jq vF λO H Q q=>Qp (X:=cxB X (loc++capn) scope cl C ex s _) q) (zHG hx (zZ (he cl C ex s H) λO H Q q=>zFA (X:=cxB X (loc++capn) scope cl C ex s _) q)) (hs1 cl C ex s H)) hs) λO H Q=>Qw ho (zBx ho1 zD9)
def sk_lc2(loc capn:List Str)(hN:X.N.Nodup)(hi':X.N[i]?=some y)(hy:Loc X.env.scope y)(hf:X.fn y=true\/X.env.scope.names.lookup y=some .local)(hnl:loc.length=nl)(hx:∀e s,¬X.xe e s)(hc:X.calm=true)(hkind:scope.kind=.function)(hnames:∀y∈scope.names,y.2=.local->scope.names.lookup y.1=some .local)(hcell:∀y∈scope.names,y.2=.cell->scope.names.lookup y.1=some .cell)
  (hfree:(scope.names.all λy=>y.2 != .free||X.env.kindOf y.1==some .cell)=true) (hcap:Gm X scope caps capn)
  (hi:IOk X target iter mi) (hg:∀cl C ex s H,PG (cxB X (loc++capn) scope cl C ex s H) target g) (ho:GOk X g tg) (hi1:∀cl C ex s H,IOk (cxB X (loc++capn) scope cl C ex s H) t1 i1 mi1) (hg1:∀cl C ex s H,PG (cxB X (loc++capn) scope cl C ex s H) t1 g1) (ho1:GOk X g1 tg1) (he:∀cl C ex s H,EOk (cxB X (loc++capn) scope cl C ex s H) elt el)
  (hs:∀x,foldedSetIterable iter X.env x=pure x) (hs1:∀cl C ex s H x,foldedSetIterable i1 (cxB X (loc++capn) scope cl C ex s H).env x=pure x)
  (hsw:swapsWith (.ListComp elt [⟨target,iter,[],0⟩,⟨t1,i1,[],0⟩] scope pos) (some (.Name y py)) spos.line X.env=pure true) :
  SOk X (.Assign [.Name y py] (.ListComp elt [⟨target,iter,[],0⟩,⟨t1,i1,[],0⟩] scope pos) spos) (sSet i (vM nl caps mi tg jp (maL mi1 tg1 jp (ma1 el)))):=by
 obtain⟨c1,c2⟩:=vI (loc:=loc) hcap;refine yg (zGG (N':=loc++capn) (tt:=tNT X.K X.mg jp) (ta:=taL (tNI X.K X.mg mi1) g1 (tNT X.K X.mg jp) (ta1 (tN X.K X.mg el))) hN hi' hy hf hx hc hkind hnames hcell hfree (by simp[hnl,c1]) (λi j e=>by
  obtain⟨x,q1,q2,q3⟩:=c2 i j e;refine⟨x,?_,q2,q3⟩;rw[getElem?_append_right (by omega),hnl,add_sub_cancel_left];exact q1) hi hg (λcl C ex s H=>jq vF λO H Q q=>Qp (X:=cxB X (loc++capn) scope cl C ex s _) q)
  (λcl C ex s H=>zD7 (Y:=cxB X (loc++capn) scope cl C ex s H) (ta:=ta1 (tN X.K X.mg el)) hx hc (Z0 (hi1 cl C ex s H) λO H R q=>tNI_M (X:=cxB X (loc++capn) scope cl C ex s _) q) (hg1 cl C ex s H) (jq vF λO H Q q=>Qp (X:=cxB X (loc++capn) scope cl C ex s _) q) (zHG hx (zZ (he cl C ex s H) λO H Q q=>zFA (X:=cxB X (loc++capn) scope cl C ex s _) q)) (hs1 cl C ex s H)) hs hsw) λD O H h=>Qw ho (zBx ho1 zD9) (Gc h)
end
section
variable{prog:Program}{w:World}{A:Around}{E:Value->Shared->Prop}{s:Shared}
def vN:isSubtype (.type "range_iterator") (.type "reversed")=pure false:=by rw[isSubtype_type];kernel_rfl
def zCm(n:Int):Obj:={cls:=.type "range_iterator",data:=.fields #[rawInt (0+(Builtin.Range.rangeSize 0 n 1-1)*1),rawInt (Builtin.Range.rangeSize 0 n 1),rawInt (-1)]}
def zGH(h1:-(2^62)<=n)(h2:n<2^62):(Builtin.Range.rangeFitsLong 0&&Builtin.Range.rangeFitsLong n&&Builtin.Range.rangeFitsLong 1&&Builtin.Range.rangeFitsLong (-1)&&Builtin.Range.rangeFitsLong (0-1)&&Builtin.Range.rangeFitsLong (Builtin.Range.rangeSize 0 n 1))=true:=by
 have e:Builtin.Range.rangeSize 0 n 1=if 0<n then n else 0:=by rw[rangeSize_one];simp
 rw[e];simp only[Builtin.Range.rangeFitsLong];split<;>simp<;>omega
def uH{Q:Value->Shared->Prop}(hr:IsRange s.heap r 0 n 1 t u v)(h1:-(2^62)<=n)(h2:n<2^62)
  (h:Q (.ref s.heap.objs.size) {s with heap:=s.heap.push (zCm n)}):wpAny (model prog w) A (call (.builtin "range.__reversed__") [.ref r]) Q E s:=by
 refine wpAny_call_entry F.slot_range_reversed ⟨_,hr,rfl⟩ F.entry_range_reversed ?_ (F.args_range_reversed_1 _);unfold Builtin.«range.__reversed__»;refine qB (wpAny_of_eq (a:=Value.ref r) rfl ?_);have hf:∀(A:Around) (E':Value->Shared->Prop),wpAny (model prog w) A (Builtin.Range.rangeFields (.ref r)) (λx s'=>x=(0,n,1)/\s'=s) E' s:=by
  intro A E';unfold Builtin.Range.rangeFields
  repeat (any_goals (first|assumption|wp_step))
  exact⟨rfl,rfl⟩
 refine qB (wpAny_mono (hf _ _) (λx s' hx=>?_) λ_ _ z=>z);obtain⟨rfl,rfl⟩:=hx;dsimp only;rw[zGH h1 h2];simp only[Bool.not_true,Bool.false_eq_true,if_false,if_true]
 repeat (any_goals (first|assumption|wp_step))
 exact⟨_,rfl,h⟩
def Qx{Q₁:Value->Shared->Prop}(hr:IsRange s.heap r 0 n 1 t u v)(h1:-(2^62)<=n)(h2:n<2^62)
  (h:Q₁ (.ref s.heap.objs.size) {s with heap:=s.heap.push (zCm n)}) :
  codeAny (model prog w) A (.call (.builtin "reversed.__new__") ⟨[.type "reversed",.ref r],[]⟩) (PySem.wants Q₁ E) s:=by
 refine codeAny_of_tree ?_;show wpAny _ A.in1 (do checkBuiltinCall "reversed.__new__" ⟨[.type "reversed",.ref r],[]⟩;again (.builtin "reversed.__new__" ⟨[.type "reversed",.ref r],[]⟩)) _ _ s;refine qB (wpAny_of_eq (F.newCall_reversed_1 _) (qC ⟨plainId_quiet F.plain_reversed_new _,codeAny_builtin F.entry_reversed_new ?_⟩));rw[Around.under_plainId F.plain_reversed_new _];unfold Builtin.«reversed.__new__»;refine qB (wpAny_of_eq (newClass_reversed _) ?_)
 try dsimp only
 refine qB (wpAny_of_eq (a:=()) (by first|rfl|kernel_rfl) ?_);refine qB (wpAny_of_eq (a:=()) (by first|rfl|kernel_rfl) ?_)
 try dsimp only
 refine qB (wpAny_specialOf ⟨_,hr,rfl⟩ F.slot_range_reversed.lookup ?_)
 try dsimp only
 refine qB (wpAny_of_eq (F.slot_range_reversed.bind _) ?_)
 try dsimp only
 rw[if_neg (show ¬((Value.builtin "range.__reversed__" == Value.none)=true)from qF)];refine qB (wpAny_rule ?_);refine qB (m:=runValue (.call (.builtin "range.__reversed__") ⟨[.ref r],[]⟩)) (show wpAny _ _ (call (.builtin "range.__reversed__") [.ref r]) _ _ _ from uH hr h1 h2 ?_)
 first
 |exact qC h
 |exact qB (qC (qC h))
def ZT{Q:Value->Shared->Prop}(hr:IsRange s.heap r 0 n 1 t u v)(h1:-(2^62)<=n)(h2:n<2^62)
  (h:Q (.ref s.heap.objs.size) {s with heap:=s.heap.push (zCm n)}):wpAny (model prog w) A (call (.type "reversed") [.ref r]) Q E s:=by
 refine callType_other (U:="range_iterator") (Q₁:=λobj s₁=>obj=.ref s.heap.objs.size/\s₁={s with heap:=s.heap.push (zCm n)}) (by decide +kernel) F.create_reversed ⟨_,_,F.mro_reversed⟩ F.made_reversed vN (F.typeCall_reversed_1 _) (Qx hr h1 h2 ⟨rfl,rfl⟩) ?_
 rintro obj s₁ ⟨rfl,rfl⟩
 exact⟨⟨_,get?_push_size _ rfl,rfl⟩,h⟩
end
def Itv(n:Nat):It:=⟨λi _=>i<n,λi H x H'=>H'=H/\x=.int ((n:Int)-1-i),λi _=>n<=i⟩
def zGI(it:Addr)(n:Nat):Turn P w K tg (Itv n) [it] it (λi h=>IsRangeIter h it ((n:Int)-1+(i:Nat)*(-1)) ((n:Int)-(i:Nat)) (-1)) where
 mem:=by simp
 obj:=λi h st b hb=>by
  have e:b=it:=by simpa using hb
  subst e;exact⟨_,st,λv z=>by
   have z':Data.fields _=Data.cell v:=z;cases z'⟩
 keep:=λi h h' st k=>k it (by simp) _ st
 item:=by
  intro X hP hw hK hc i pins s O H E I hf st hg;subst hP hw hK;obtain⟨f0,f1,f2,f3,f4,f5⟩:=hf it (by simp);have W:=Walks.range (prog:=X.prog) (w:=X.w) (I.ok.hd hc) it ((n:Int)-1) (-1) n;refine W.item i s _ _ hg st λv h' tk hv st' kk=>?_
  obtain⟨t,rfl⟩:=hv;have I1:Inv X pins O H {s with heap:=h',toks:=tk}:=I.turned (λb o hb e=>kk b o (by simpa using hb) e) f0 f1 f3 f4 f5
  refine⟨_,rfl,JO (s:={s with heap:=h',toks:=tk}) (n:="range_iterator") st' rfl rfl (by decide) ⟨.int ((n:Int)-1-i),H,I1,⟨t,?_⟩,⟨rfl,rfl⟩,st',λb hb=>(hf b hb).1⟩⟩
  rw[show(n:Int)-1+(i:Int)*(-1)=(n:Int)-1-i by omega]
 done:=by
  intro X hP hw hK hc i pins s O H E I hf st hg;subst hP hw hK;obtain⟨f0,f1,f2,f3,f4,f5⟩:=hf it (by simp);exact wpAny_pyNext_range_end (I.ok.hd hc) st (by have:n<=i:=hg;omega) λh' eb=>⟨rfl,I.turned (t':=s.toks) (λb o hb e=>eb b o hb e) f0 f1 f3 f4 f5⟩
 self:=λ_ _ _ _ _ st h=>wpAny_pyIter_rangeiter st h
def iRev(ta:L2.TA):TI:=λO H R=>ta O H λvs H1=>∃j:Int,vs=[.int j]/\-(2^62)<=j/\j<2^62/\R (Itv j.toNat) H1
def pi_rev(hg:Gl X "reversed")(hm:X.mg "reversed"=none)(hg2:Gl X "range")(hm2:X.mg "range"=none)(ha:L2.PA X [a] ta)(hs:starEach [a] X.env=[(false,eval a X.env)]) :
  PI X tg (.Call (.Name "reversed" p) [.Call (.Name "range" p2) [a] [] pos2] [] pos) (iRev ta):=by
 intro pins s O H R I h;refine PyProof.Rows.Call_ (J6 I hg hm PyProof.Rows.boot_reversed (PyProof.Rows.callWith_type1 ?_ rfl rfl));show wpAny _ _ (spliced ((false,eval (.Call (.Name "range" p2) [a] [] pos2) X.env)::backTo pos (starEach [] X.env))) _ _ s;refine Calls.spliced_cons (PyProof.Rows.Call_ (J6 I hg2 hm2 PyProof.Rows.boot_range (PyProof.Rows.callWith_type1 (thn (ha pos2 pins s O H _ I h) λus s1 h1=>?_) hs rfl)));obtain⟨vs,H1,I1,r1,j,e,q1,q2,q⟩:=h1;subst e;cases r1 with
 |cons r rr =>
  cases rr;obtain⟨t,rfl⟩:=r;refine call_range_1 ?_;refine Calls.spliced_nil ?_;refine ZT (IsRange.new ..) q1 q2 ?_;have rs:Builtin.Range.rangeSize 0 j 1=((j.toNat:Nat):Int):=by rw[rangeSize_one];split<;>omega
  have hst:IsRangeIter ((s1.heap.push {cls:=.type "range",data:=.fields #[.int 0 s1.toks,.int j t,.int 1 (s1.toks+1)]}).push (zCm j)) (s1.heap.push {cls:=.type "range",data:=.fields #[.int 0 s1.toks,.int j t,.int 1 (s1.toks+1)]}).objs.size (((j.toNat:Nat):Int)-1+((0:Nat):Int)*(-1)) (((j.toNat:Nat):Int)-((0:Nat):Int)) (-1):=by
   rw[show((j.toNat:Nat):Int)-1+((0:Nat):Int)*(-1)=0+(Builtin.Range.rangeSize 0 j 1-1)*1 by rw[rs];omega,show((j.toNat:Nat):Int)-((0:Nat):Int)=Builtin.Range.rangeSize 0 j 1 by rw[rs];omega];exact get?_push_size _ rfl
  have I2:Inv X pins O H1 {s1 with heap:=(s1.heap.push {cls:=.type "range",data:=.fields #[.int 0 s1.toks,.int j t,.int 1 (s1.toks+1)]}).push (zCm j),toks:=s1.toks+1+1}:=I1.kept λb o e=>qA _ (qA _ e)
  refine wpAny_pyIter_rangeiter hst ⟨_,[_],_,_,H1,rfl,I2,zGI _ j.toNat,hst,λb hb=>?_,q⟩;have e:b=(s1.heap.push {cls:=.type "range",data:=.fields #[.int 0 s1.toks,.int j t,.int 1 (s1.toks+1)]}).objs.size:=by simpa using hb
  subst e;have I3:Inv X pins O H1 {s1 with heap:=s1.heap.push {cls:=.type "range",data:=.fields #[.int 0 s1.toks,.int j t,.int 1 (s1.toks+1)]},toks:=s1.toks+1+1}:=I1.kept λb o e=>qA _ e
  exact I3.fpOk (le_refl _) (I3.hok.fresh (le_refl _))
section
variable{X:Cx}{K:qH}{mg:Str->Option Value}
def yn(n:Nat):List D:=(List.range n).map λi=>.int ((n:Int)-1-(i:Nat))
def it_rev:ItOk K mg (Itv n) (yn n) (λ_=>True) where
 mono:=λ_ _ _ _=>trivial
 go:=λi _ _ _ _ h=>show i<n by simpa[yn]using h
 yld:=λi Hh H x H' _ _ h y=>by
  obtain⟨rfl,rfl⟩:=y;have h:i<n:=by simpa[yn]using h
  refine⟨.int ((n:Int)-1-(i:Nat)),by simp[yn,h],.inl ⟨rfl,?_⟩⟩;simp only[Rep]
 stop:=λi _ _ _ _ h=>show n<=i by simpa[yn]using h
def iRv(m:MA):MI:=λE=>match m E with
 | .z=>.z| .exc x E1=>.exc x E1
 | .ok ([r],E1)=>match r.d with
  | .int j=>if -(2^62)<=j/\j<2^62 then .ok (yn j.toNat,E1)else .z|_=>.z
 |_=>.z
def io_rv(hgl:Gl X "reversed")(hm:X.mg "reversed"=none)(hgl2:Gl X "range")(hm2:X.mg "range"=none)(ha:AOk X [a] m)(hst:zV a=false):IOk X tg (.Call (.Name "reversed" p) [.Call (.Name "range" p2) [a] [] pos2] [] cpos) (iRv m):=Z0 (pi_rev hgl hm hgl2 hm2 ha (zAm hst)) λO H R h=>by
 obtain⟨M,E,hl,fr,k⟩:=h;unfold iRv at k;refine wj (T0:=[]) hl fr ?_;cases ea:m E with
 |z=>rw[ea]at k;exact k|exc x E1=>rw[ea]at k;exact k
 |ok p =>
  obtain⟨rs,E1⟩:=p;rw[ea]at k
  match rs,k with
  | [r],k =>
   intro vs H1 hv g1;have rp:=Got.reps hv g1;dsimp only at k;cases ed:r.d with
   |int j =>
    rw[ed]at k;simp only[List.map,ed]at rp;obtain⟨v,rfl,h1⟩:=YL rp;dsimp only at k;by_cases hc:-(2^62)<=j/\j<2^62
    ·rw[if_pos hc]at k
     exact⟨j,by rw[zM h1],hc.1,hc.2,k _ _ H1 it_rev trivial g1.dropAll⟩
    ·rw[if_neg hc]at k;exact k.elim
   |_=>rw[ed]at k;exact k.elim
  | [],k=>exact k.elim|_::_::_,k=>exact k.elim
end
section
variable{X:Cx}
def iZA(t2:Bool)(m:MA):MI:=λE=>match m E with
 | .z=>.z| .exc x E1=>.exc x E1
 | .ok ([r,_],_)=>match r.d with
  | .l _=>iZ false t2 m E| .t _=>iZ true t2 m E|_=>.z
 |_=>.z
def io_zipA{x1}(hgl:Gl X "zip")(hm:X.mg "zip"=none)(ha:AOk X [a,b] m)(hst:zV a=false:=by rfl)(hst2:zV b=false:=by rfl) :
  IOk X (.Tuple elts x1 tp) (.Call (.Name "zip" p) [a,b] [] cpos) (iZA t2 m):=λpins s O H R I ⟨M,E,hl,fr,k⟩=>by
 unfold iZA at k;cases ea:m E with
 |z=>rw[ea]at k;exact k.elim|exc x E1=>exact zBu (t1:=true) (t2:=t2) (.inl ⟨_,_,_,rfl⟩) hgl hm ha hst hst2 pins s O H R I ⟨M,E,hl,fr,by unfold iZ;rw[ea]at k ⊢;exact k⟩
 |ok q =>
  obtain⟨rs,E1⟩:=q;rw[ea]at k
  match rs,ea,k with
  | [r,r'],ea,k =>
   dsimp only at k;cases ed:r.d with
   |l ds=>rw[ed]at k;exact zBu (t1:=false) (t2:=t2) (.inl ⟨_,_,_,rfl⟩) hgl hm ha hst hst2 pins s O H R I ⟨M,E,hl,fr,k⟩|t ds=>rw[ed]at k;exact zBu (t1:=true) (t2:=t2) (.inl ⟨_,_,_,rfl⟩) hgl hm ha hst hst2 pins s O H R I ⟨M,E,hl,fr,k⟩|_=>rw[ed]at k;exact k.elim
  | [],ea,k=>exact k.elim| [_],ea,k=>exact k.elim|_::_::_::_,ea,k=>exact k.elim
end
end DV
namespace DV
open PySem PyProof.Rows
end DV
namespace DV
open PySem L2
def zEA(K:qH)(H:Hp)(a:Addr)(es:List DE):Prop:=H a=some (Zu a es)/\∀e∈es,SqT K H e.2.1 (e.1.map oV)
section
variable{X:Cx}{pins:List (Addr×Obj)}{O:L2.St}{H:Hp}{s:Shared}{a:Addr}{es:List DE}
def rDIx(K:qH):R2:=λx y H Q=>∃a es kb ks v,x=.ref a/\zEA K H a es/\y=.ref kb/\SqT K H kb (ks.map oV)/\atE es ks=some v/\Q v H
def zHI(hu:X.A.units+1<cLine):IxR X (rDIx X.K):=by
 intro value slice pins s O H x y v u Q I rx ry h hs;obtain⟨a,es,kb,ks,w,rfl,⟨e,hk⟩,rfl,hb,hat,q⟩:=h;cases rx;cases ry;obtain⟨xs,r,hm,hd,_⟩:=QZ I e hk;obtain⟨p,hp,rw'⟩:=wU.at r hat
 exact PyProof.Rows.tail_any hm.typeIs slot_dict_getitem.lookup (wpAny_getItem_heap (tupleKind_room_in1 hu) (ud I hb) hm hp ⟨w,H,I.tok _,rw',q⟩) hs
def rDIn(K:qH)(neg:Bool):R2:=λx y H Q=>∃a es kb ks,y=.ref a/\zEA K H a es/\x=.ref kb/\SqT K H kb (ks.map oV)/\Q (.bl (if neg then !(atE es ks).isSome else(atE es ks).isSome)) H
def at_some(r:wU es xs)(ks:List KN):(atKey xs ks).isSome=(atE es ks).isSome:=by
 cases h:atE es ks with
 |none=>rw[wU.none r h];rfl|some v=>obtain⟨p,e,_⟩:=wU.at r h;rw[e];rfl
def zEB(hu:X.A.units+1<cLine):OpR X (compareOp .NotIn) (rDIn X.K true):=by
 intro pins s O H x y v u Q I rx ry h;obtain⟨a,es,kb,ks,rfl,⟨e,hk⟩,rfl,hb,q⟩:=h;cases rx;cases ry;obtain⟨xs,r,hm,hd,_⟩:=QZ I e hk;refine PyProof.Rows.wpAny_notIn_heap (tupleKind_room_in1 hu) (ud I hb) hd hm ⟨.bl _,H,I.tok _,rfl,?_⟩;rw[at_some r];exact q
def zAy(hm:h.DictOfH (tupleKind (zCf X.prog X.w)) a xs)(hd:(a==sysModules)=false)(hl:es.length<=sizeLine)(r:wU es xs):zGx a es h:=by
 obtain⟨o,esA,ep,h1,h2,h3,h4,_,h5⟩:=hm;exact⟨hd,hl,by rw[<- wU.keys r];exact h5,o,esA,ep,xs,h1,h2,h3,r,h4⟩
def rSetD(K:qH):V->V->V->Hp->(Hp->Prop)->Prop:=λo i v H Q=>∃a es kb ks,o=.ref a/\zEA K H a es/\i=.ref kb/\SqT K H kb (ks.map oV)/\es.length<1000000/\Q (upd H a (Zu a (zAg es ks kb v)))
def set_dic(hu:X.A.units+1<cLine):PSet X (rSetD X.K):=by
 intro pins s O H o i v ov iv u Q I ro ri rv h;obtain⟨a,es,kb,ks,rfl,⟨e,hk⟩,rfl,hb,hl,q⟩:=h;cases ro;cases ri;obtain⟨xs,r,hm,hd,hz,hn⟩:=QZ I e hk;have hsl:(1000000:Nat)<=sizeLine:=by decide +kernel
 have hlen:xs.length=es.length:=by have:=congrArg length (wU.keys r);simpa using this
 refine wpAny_setItem_heap (tupleKind_room_in1 hu) (ud I hb) hm (λh' hm' sb=>?_) (by omega);have dp:zGx a (zAg es ks kb v) h':=zAy hm' hd (by have:=(W1 (k:=ks) (ka:=kb) (v:=v) hn).2;omega) (r.put rv);obtain⟨_,_,_,o',_,_,_,e',_⟩:=id dp;refine⟨_,I.write (x:=a) (e:=a) (by rw[e];trivial) (.inl rfl) (λb w hb' q'=>(sb.2 b hb').trans q') ⟨o',e'⟩ (zBi dp),q⟩
end
def Qy:List D->Option (List KN)
 | []=>some []| .int i::ds=>(Qy ds).map (some i::·)| .non::ds=>(Qy ds).map (none::·)|_::_=>none
def zEC:D->Option (List KN)
 | .t ds=>Qy ds|_=>none
def Qz:List (List KN)->List D->List KN->Option D
 |k::ks,v::vs,q=>if k=q then some v else Qz ks vs q|_,_,_=>none
def setV:List (List KN)->List D->List KN->D->List D
 |k::ks,v::vs,q,d=>(if k=q then d else v)::setV ks vs q d|_,vs,_,_=>vs
def zHJ(ks:List (List KN))(vs:List D)(q:List KN)(d:D):List (List KN)×List D:=match Qz ks vs q with
 |some _=>(ks,setV ks vs q d)|none=>(ks++[q],vs++[d])
section
variable{K:qH}{mg:Str->Option Value}{X:Cx}{O:L2.St}{H:Hp}{M:Addr->Prop}
theorem zAz:∀{ds:List D} {ks:List KN} {xs:List V},Qy ds=some ks->Reps K mg H ds xs->xs=ks.map oV
 | [],_,_,e,r=>by cases e;simp only[Reps]at r;subst r;rfl
 |d::ds,ks,xs,e,r=>by
  simp only[Reps]at r;obtain⟨v,t,rfl,r1,r2⟩:=r;cases d with
  |int i =>
   simp only[Qy]at e;cases h:Qy ds with
   |none=>rw[h]at e;cases e|some q=>rw[h]at e;cases e;rw[zM r1,zAz h r2];rfl
  |non =>
   simp only[Qy]at e;cases h:Qy ds with
   |none=>rw[h]at e;cases e|some q=>rw[h]at e;cases e;rw[zAn r1,zAz h r2];rfl
  |_=>cases e
def vO(e:zEC d=some ks)(r:Rep K mg H d v):∃kb,v=.ref kb/\SqT K H kb (ks.map oV):=by
 cases d with
 |t ds =>
  obtain⟨a,xs,rfl,h1,h2⟩:=yp r;rw[zAz e h2]at h1;exact⟨a,rfl,h1⟩
 |_=>cases e
theorem Yx:∀{es:List DE} {vs:List D} {q:List KN} {d:D},Reps K mg H vs (es.map (·.2.2))->Qz (es.map (·.1)) vs q=some d->∃v,atE es q=some v/\Rep K mg H d v
 | [],_,_,_,_,e=>by simp[Qz]at e
 |x::es,vs,q,d,r,e=>by
  cases vs with
  |nil=>simp[Qz]at e
  |cons y vs =>
   simp only[map_cons,Reps]at r;obtain⟨v,t,h0,r1,r2⟩:=r;cases h0;simp only[map_cons,Qz]at e;unfold atE;rw[find?_cons];by_cases h:x.1=q
   ·rw[if_pos h]at e;cases e
    rw[decide_eq_true h];exact⟨_,rfl,r1⟩
   ·rw[if_neg h]at e
    rw[decide_eq_false h];exact Yx r2 e
theorem Q0:∀{es:List DE} {vs:List D} {q:List KN},Reps K mg H vs (es.map (·.2.2))->Qz (es.map (·.1)) vs q=none->atE es q=none
 | [],_,_,_,_=>rfl
 |x::es,vs,q,r,e=>by
  cases vs with
  |nil=>simp only[map_cons,Reps]at r;cases r
  |cons y vs =>
   simp only[map_cons,Reps]at r;obtain⟨v,t,h0,r1,r2⟩:=r;cases h0;simp only[map_cons,Qz]at e;unfold atE;rw[find?_cons];by_cases h:x.1=q
   ·rw[if_pos h]at e;cases e
   ·rw[if_neg h]at e
    rw[decide_eq_false h];exact Q0 r2 e
def vP(r:Reps K mg H vs (es.map (·.2.2))):(atE es q).isSome=(Qz (es.map (·.1)) vs q).isSome:=by
 cases h:Qz (es.map (·.1)) vs q with
 |none=>rw[Q0 r h];rfl|some d=>obtain⟨v,e,_⟩:=Yx r h;rw[e];rfl
theorem zBy:∀{es:List DE} {vs:List D} {q:List KN} {d:D} {v:V},Reps K mg H vs (es.map (·.2.2))->Rep K mg H d v->Reps K mg H (setV (es.map (·.1)) vs q d) ((es.map λe=>if e.1=q then(e.1,e.2.1,v)else e).map (·.2.2))
 | [],vs,_,_,_,r,_=>by
  cases vs with
  |nil=>exact r|cons _ _=>simp only[map_nil,Reps]at r;obtain⟨_,_,z,_⟩:=r;cases z
 |x::es,vs,q,d,v,r,rd=>by
  cases vs with
  |nil=>simp only[map_cons,Reps]at r;cases r
  |cons y vs =>
   simp only[map_cons,Reps]at r;obtain⟨w,t,h0,r1,r2⟩:=r;cases h0;simp only[map_cons,setV];refine Reps.cons ?_ (zBy r2 rd);by_cases h:x.1=q
   ·rw[if_pos h,if_pos h];exact rd
   ·rw[if_neg h,if_neg h];exact r1
def zED(r:Reps K mg H vs (es.map (·.2.2)))(rd:Rep K mg H d v) :
  (zAg es q kb v).map (·.1)=(zHJ (es.map (·.1)) vs q d).1/\Reps K mg H (zHJ (es.map (·.1)) vs q d).2 ((zAg es q kb v).map (·.2.2)):=by
 unfold zAg zHJ;rw[vP r];cases h:Qz (es.map (·.1)) vs q with
 |none =>
  simp only[Option.isSome_none,Bool.false_eq_true,if_false,map_append,map_cons,map_nil];exact⟨trivial,r.append (Reps.cons rd Reps.nil)⟩
 |some y =>
  simp only[Option.isSome_some,if_true];refine⟨?_,zBy r rd⟩;rw[map_map];refine map_congr_left λe _=>?_
  simp only[Function.comp];split<;>rfl
def zBz(h:∀e∈es,SqT K H e.2.1 (e.1.map oV))(hb:SqT K H kb (q.map oV)):∀e∈zAg es q kb v,SqT K H e.2.1 (e.1.map oV):=λe he=>by
 unfold zAg at he;split at he
 ·obtain⟨x,hx,rfl⟩:=mem_map.mp he
  have:=h x hx;split
  ·exact this
  ·exact this
 ·rcases mem_append.mp he with he|he
  ·exact h e he
  ·rw[mem_singleton.mp he];exact hb
def dgD:D->D->Option R
 | .dct ks vs,k=>(zEC k).bind λq=>(Qz ks vs q).map .v|_,_=>none
def ro_dg:ROk K mg (rDIx K) dgD:=by
 intro M H Z x y d1 d2 res Q f r1 r2 e k;cases d1 with
 |dct ks vs =>
  simp only[Rep]at r1;obtain⟨a,es,rfl,h1,rfl,h3,h4⟩:=r1;simp only[dgD]at e;cases eq:zEC d2 with
  |none=>rw[eq]at e;cases e
  |some q =>
   rw[eq]at e;simp only[Option.bind_some]at e;cases eg:Qz (es.map (·.1)) vs q with
   |none=>rw[eg]at e;cases e
   |some d =>
    rw[eg]at e;cases e;obtain⟨kb,rfl,hb⟩:=vO eq r2;obtain⟨v,hv,rv⟩:=Yx h4 eg;exact⟨a,es,kb,q,v,rfl,⟨zF _ _ h1,λx hx=>zO zF (h3 x hx)⟩,rfl,zO zF hb,hv,k.rep f rv⟩
 |_=>cases e
def ctD:Slot->Option (List (List KN)×List D)
 | .dct ks vs=>some (ks,vs)| .v (.dct ks vs)=>some (ks,vs)|_=>none
def zEE{E:zS}{i:Nat}{s:Slot}{ks:List (List KN)}{vs:List D}(hl:E.length=O.length)(f:FR K mg M H (O.zip E))(h:E[i]?=some s)(hs:ctD s=some (ks,vs)):∃a es,O[i]?=some (some (.ref a))/\H a=some (Zu a es)/\ks=es.map (·.1)/\(∀e∈es,SqT K (Hm (Mo M (O.zip E)) H) e.2.1 (e.1.map oV))/\Reps K mg (Hm (Mo M (O.zip E)) H) vs (es.map (·.2.2)):=by
 obtain⟨o,h1,h2⟩:=jH hl h;cases s with
 |dct ks' vs' =>
  cases hs;obtain⟨a,ho,rfl,e2,_,es,rfl,r1,r2,r3⟩:=f.own o _ _ h2 rfl;exact⟨a,es,h1,e2,r1,r2,r3⟩
 |v d =>
  cases d with
  |dct ks' vs' =>
   cases hs;obtain⟨v,rfl,r⟩:=f.val o _ h2;simp only[Rep]at r;obtain⟨a,es,rfl,e2,r1,r2,r3⟩:=r;exact⟨a,es,h1,zF _ _ e2,r1,r2,r3⟩
  |_=>cases hs
 |_=>cases hs
def eDgO(i:Nat)(m:ME):ME:=λE=>if JK E[i]?=true then .z else match m E with
 | .z=>.z| .exc x E1=>.exc x E1
 | .ok (r,E1)=>match E1[i]? with
  |some s=>match ctD s with
   |some (ks,vs)=>match zEC r.d with
    |some q=>match Qz ks vs q with
     |some d=>.ok (.v d,E1)|none=>.z
    |none=>.z
   |none=>.z
  |none=>.z
def dgO_run{i:Nat}{m:ME}{Q:VK}(h:tM X (eDgO i m) O H Q):tOp (rDIx X.K) (Wv i) (tM X m) O H Q:=by
 obtain⟨M,E,hl,fr,k⟩:=h;unfold eDgO at k;cases em:JK E[i]? with
 |true=>rw[em]at k;exact k.elim
 |false =>
  rw[em]at k;simp only[Bool.false_eq_true,if_false]at k;obtain⟨s,hs1,hs2⟩:=ZQ em;obtain⟨v,hv⟩:=um hl fr hs1 hs2;refine⟨v,hv,?_⟩;refine zu (T0:=[]) hl fr ?_;cases ea:m E with
  |z=>rw[ea]at k;exact k|exc x E1=>rw[ea]at k;exact k
  |ok p =>
   obtain⟨r,E1⟩:=p;rw[ea]at k;intro y H1 g;dsimp only at k;cases e1:E1[i]? with
   |none=>rw[e1]at k;exact k.elim
   |some s1 =>
    rw[e1]at k;dsimp only at k;cases e2:ctD s1 with
    |none=>rw[e2]at k;exact k.elim
    |some pr =>
     obtain⟨ks,vs⟩:=pr;rw[e2]at k;dsimp only at k;cases e3:zEC r.d with
     |none=>rw[e3]at k;exact k.elim
     |some q =>
      rw[e3]at k;dsimp only at k;cases e4:Qz ks vs q with
      |none=>rw[e4]at k;exact k.elim
      |some d =>
       rw[e4]at k;obtain⟨a,es,h1,h2,rfl,h4,h5⟩:=zEE g.len g.frame e1 e2;have ev:v=.ref a:=by rw[hv]at h1;exact qJ (qJ h1)
       subst ev;obtain⟨kb,rfl,hb⟩:=vO e3 g.rep;obtain⟨w,hw,rw'⟩:=Yx h5 e4;exact⟨a,es,kb,q,w,rfl,⟨h2,λx hx=>zO zF (h4 x hx)⟩,rfl,zO zF hb,hw,k w H1 (g.more (T:=[(some w,.v d)]) (g.frame.add rw') Step.refl.add)⟩
def eInO(neg:Bool)(i:Nat)(m:ME):ME:=λE=>match m E with
 | .z=>.z| .exc x E1=>.exc x E1
 | .ok (r,E1)=>match E1[i]? with
  |some s=>match ctD s with
   |some (ks,vs)=>match zEC r.d with
    |some q=>.ok (.v (.bl (if neg then !(Qz ks vs q).isSome else(Qz ks vs q).isSome)),E1)|none=>.z
   |none=>.z
  |none=>.z
def zEF{neg:Bool}{i:Nat}{m:ME}{Q:VK}(h:tM X (eInO neg i m) O H Q):tOp (rDIn X.K neg) (tM X m) (Wv i) O H Q:=by
 obtain⟨M,E,hl,fr,k⟩:=h;unfold eInO at k;refine zu (T0:=[]) hl fr ?_;cases ea:m E with
 |z=>rw[ea]at k;exact k|exc x E1=>rw[ea]at k;exact k
 |ok p =>
  obtain⟨r,E1⟩:=p;rw[ea]at k;intro y H1 g;dsimp only at k;cases e1:E1[i]? with
  |none=>rw[e1]at k;exact k.elim
  |some s1 =>
   rw[e1]at k;dsimp only at k;cases e2:ctD s1 with
   |none=>rw[e2]at k;exact k.elim
   |some pr =>
    obtain⟨ks,vs⟩:=pr;rw[e2]at k;dsimp only at k;cases e3:zEC r.d with
    |none=>rw[e3]at k;exact k.elim
    |some q =>
     rw[e3]at k;obtain⟨a,es,h1,h2,rfl,h4,h5⟩:=zEE g.len g.frame e1 e2;obtain⟨kb,rfl,hb⟩:=vO e3 g.rep;refine⟨.ref a,h1,a,es,kb,q,rfl,⟨h2,λx hx=>zO zF (h4 x hx)⟩,rfl,zO zF hb,?_⟩;rw[vP h5];refine k (.bl _) H1 ?_;exact g.flat (d:=.bl _) rfl
def ok_dgO(i:Nat)(hu:X.A.units+1<cLine)(hv:PE X (.Name x p) (Wv i))(hs:ZL b)(hb:EOk X b m):EOk X (.Subscript (.Name x p) b pos) (eDgO i m) :=
 zZ (pe_ix (zHI hu) hv hb hs) λO H Q h=>dgO_run h
def ok_dg(hu:X.A.units+1<cLine)(hs:ZL b)(ha:EOk X a ma)(hb:EOk X b mb):EOk X (.Subscript a b pos) (JT dgD ma mb):=ok_ix (zHI hu) ro_dg hs ha hb
def ok_ninO(i:Nat)(hu:X.A.units+1<cLine)(hv:PE X (.Name x p) (Wv i))(ha:EOk X a m):EOk X (.Compare a [.NotIn] [.Name x p] pos) (eInO true i m) :=
 zZ (zDJ (zEB hu) ha hv rfl) λO H Q h=>zEF h
def zGJ(i:Nat)(hu:X.A.units+1<cLine)(hv:PE X (.Name x p) (Wv i))(ha:EOk X a m):TOk X (.Compare a [.NotIn] [.Name x p] pos) (tT (eInO true i m)) :=
 Qb (zDK (zEB hu) ha hv rfl) λO H Q h=>zEF (zBl h)
def FR.mutD(h:FR K mg M H Z)(hi:Z[i]?=some (some (.ref p),.dct ks vs))(hk:∀e∈es,SqT K (Hm (Mo M Z) H) e.2.1 (e.1.map oV))(r:Reps K mg (Hm (Mo M Z) H) vs' (es.map (·.2.2))) :
  FR K mg M (upd H p (Zu p es)) (Z.set i (some (.ref p),.dct (es.map (·.1)) vs'))/\Step M H Z (upd H p (Zu p es)) (Z.set i (some (.ref p),.dct (es.map (·.1)) vs')):=by
 have eo:yF (Z.set i (some (.ref p),.dct (es.map (·.1)) vs'))=yF Z:=y3 (show GV (some (.ref p),Slot.dct (es.map (·.1)) vs')=GV (some (.ref p),Slot.dct ks vs)from rfl) hi;have em:Mo M (Z.set i (some (.ref p),.dct (es.map (·.1)) vs'))=Mo M Z:=by unfold Mo;rw[eo]
 have hp:p∈yF Z:=jG (c:=.d ks vs) (mem_of_getElem? hi) rfl rfl;obtain⟨o0,hH,hM,_⟩:=h.ownAt hp;have ehm:Hm (Mo M Z) (upd H p (Zu p es))=Hm (Mo M Z) H:=by
  funext b
  unfold Hm;by_cases hb:Mo M Z b
  ·simp[hb]
  ·have:b≠p:=λe=>hb (by subst e;exact .inr hp)
   simp[hb,zk this]
 have hlt:i<Z.length:=(qG.mp hi).1;have nd2:p∉yF (Z.eraseIdx i):=by
  have pz:Z.Perm ((some (.ref p),.dct ks vs)::Z.eraseIdx i):=by
   have:=zU (some (V.ref p),Slot.dct ks vs) Z i hlt;rw[wg hi]at this;exact this
  have nd:=(pz.filterMap GV).nodup_iff.mp h.nd;have e:List.filterMap GV ((some (V.ref p),Slot.dct ks vs)::Z.eraseIdx i)=p::yF (Z.eraseIdx i):=rfl;rw[e]at nd;exact(nodup_cons.mp nd).1
 have pz2:(Z.set i (some (.ref p),.dct (es.map (·.1)) vs')).Perm ((some (.ref p),.dct (es.map (·.1)) vs')::Z.eraseIdx i):=zU _ _ _ hlt;refine⟨⟨λo d q=>?_,λo s' c q e=>?_,by rw[eo];exact h.nd,λb q=>?_⟩,⟨by rw[em,ehm];exact ZK.refl _,λb o m e=>?_⟩⟩
 ·rw[em,ehm]
  rcases(List.mem_or_eq_of_mem_set q).symm with q|q
  ·cases q
  ·exact h.val o d q
 ·rw[em,ehm]
  rcases mem_cons.mp (pz2.mem_iff.mp q)with q'|q'
  ·cases q';cases e
   exact⟨p,_,rfl,jR,hM,es,rfl,rfl,hk,r⟩
  ·have q'':(o,s')∈Z:=(eraseIdx_sublist Z i).subset q'
   obtain⟨a,ho,e1,e2,e3,rr⟩:=h.own o s' c q'' e;have ne:a≠p:=λz=>by subst z;exact nd2 (jG q' e e1)
   exact⟨a,ho,e1,by rw[zk ne];exact e2,e3,rr⟩
 ·obtain⟨o,e,ko⟩:=h.mal b q
  by_cases z:b=p
  ·subst z;exact⟨_,jR,.inr ⟨_,rfl⟩⟩
  ·exact⟨o,by rw[zk z];exact e,ko⟩
 ·have ne:b≠p:=λz=>hM (by subst z;exact m)
  rw[zk ne];exact e
def sDput(i:Nat)(mk mv:ME):MS:=λE=>if JK E[i]?=true then .z else match mv E with
 | .z=>.z| .exc x E1=>.exc x E1
 | .ok (r,E1)=>match mk E1 with
  | .z=>.z| .exc x E2=>.exc x E2
  | .ok (r2,E2)=>match E2[i]? with
   |some (.dct ks vs)=>match zEC r2.d with
    |some q=>if ks.length<1000000 then .ok (.nx,E2.set i (.dct (zHJ ks vs q r.d).1 (zHJ ks vs q r.d).2))else .z|none=>.z
   |_=>.z
def zGK{i:Nat}{mk mv:ME}{D:Ends}(h:tS X (sDput i mk mv) D O H):zFI (tM X mv) (gSub (Wv i) (tM X mk) (rSetD X.K)) D O H:=by
 obtain⟨M,E,hl,fr,k⟩:=h;unfold sDput at k;cases em:JK E[i]? with
 |true=>rw[em]at k;exact k.elim
 |false =>
  rw[em]at k;obtain⟨s,hs1,hs2⟩:=ZQ em;obtain⟨v,hv⟩:=um hl fr hs1 hs2;refine zu (T0:=[]) hl fr ?_;simp only[Bool.false_eq_true,if_false]at k;cases ea:mv E with
  |z=>rw[ea]at k;exact k|exc x E1=>rw[ea]at k;exact λH' g=>k O H' g
  |ok p =>
   obtain⟨r,E1⟩:=p;rw[ea]at k;intro y H1 g1;refine⟨v,hv,?_⟩;refine zu (T0:=[(some y,r.slot)]) g1.len g1.fr ?_;dsimp only at k;cases eb:mk E1 with
   |z=>rw[eb]at k;exact k|exc x E2=>rw[eb]at k;exact λH' g=>k O H' (g1.trans' g).dropAll
   |ok p =>
    obtain⟨r2,E2⟩:=p;rw[eb]at k;intro z H2 g2;have g:=g1.trans' g2;dsimp only at k;cases e1:E2[i]? with
    |none=>rw[e1]at k;exact k.elim
    |some s1 =>
     rw[e1]at k;cases s1 with
     |dct ks vs =>
      dsimp only at k;cases e3:zEC r2.d with
      |none=>rw[e3]at k;exact k.elim
      |some q =>
       rw[e3]at k;dsimp only at k;by_cases hc:ks.length<1000000
       ·rw[if_pos hc]at k
        have rp:=Got.reps (vs:=[z,y]) (rs:=[r2,r]) rfl g;simp only[List.map,Reps]at rp;obtain⟨z',_,q1,rz,y',_,q2,ry,_⟩:=rp;cases q1;cases q2;obtain⟨a,es,h1,h2,rfl,h4,h5⟩:=zEE g.len g.frame e1 rfl;have ev:v=.ref a:=by rw[hv]at h1;exact qJ (qJ h1)
        subst ev;obtain⟨kb,rfl,hb⟩:=vO e3 rz;obtain⟨o,h1',h2'⟩:=wk g.len e1;have eo:o=some (.ref a):=by rw[h1]at h1';exact(qJ h1').symm
        subst eo;obtain⟨pk1,pk2⟩:=zED (q:=q) (kb:=kb) h5 ry;obtain⟨f,st⟩:=FR.mutD g.frame h2' (zBz h4 hb) pk2;rw[pk1]at f st;have e:=zc (E:=E2) (.dct (zHJ (es.map (·.1)) vs q r.d).1 (zHJ (es.map (·.1)) vs q r.d).2) h1;rw[<- e]at f st;refine⟨a,es,kb,q,rfl,⟨h2,λx hx=>zO zF (h4 x hx)⟩,rfl,zO zF hb,by simpa using hc,k O _ ?_⟩;exact⟨by simp[g.len],f,(g.st.weak (zC (sublist_append_right _ _))).trans st,g.pk.trans (Qd (ds0:=[]) e1 (λds' q=>by cases q) _)⟩
       ·rw[if_neg hc]at k;exact k.elim
     |_=>exact k.elim
def sk_dput(i:Nat)(hu:X.A.units+1<cLine)(hv:PE X (.Name x p) (Wv i))(hb:EOk X b mk)(he:EOk X e mv)
  (ha:∀v,assign (.Subscript (.Name x p) b p1) X.env v=(do
   let ov <- holding [v] (eval (.Name x p) X.env)
   let iv <- holding [v,ov] (eval b X.env)
   standAt p1
   holding [v,ov,iv] (setItem ov iv v)
   release [v,ov,iv] []):=by intro _;rfl) (hs:swapsWithSole [.Subscript (.Name x p) b p1] e pos.line X.env=pure false:=by rfl):SOk X (.Assign [.Subscript (.Name x p) b p1] e pos) (sDput i mk mv) :=
 yg (zC9 he (zGq hv hb (set_dic hu) ha) hs) λD O H=>zGK
end
def zEG(h:Heap)(hb:sysModules<h.objs.size):jy P w H (h.push {cls:=.type "dict",dict:=none,data:=.dict #[]}) h.objs.size (Zu h.objs.size []) :=
 zBi ⟨beq_eq_false_iff_ne.mpr (Ne.symm (ne_of_lt hb)),zero_le _,List.nodup_nil,_,#[],0,[],get?_push_size _ rfl,⟨rfl,rfl,rfl⟩,rfl,.nil,rfl⟩
def zCn(k v gens scope pos):eval (.DictComp k v gens scope pos) env=comprehension (.DictComp k v gens scope pos) scope env (firstIterPos gens pos) newDict (firstAsync gens) (firstIter gens env):=rfl
def actD(ke ve:Expr):Value->Env->Sem PySem.Fin->Sem PySem.Fin:=λacc env k=>do
 (do
  let kv <- eval ke env
  let vv <- holding [kv] (eval ve env)
  match acc with
  | .ref d=>do
   standAt {ke.pos with endLine:=ve.pos.endLine,endCol:=ve.pos.endCol}
   holding [kv,vv] (dictSet d kv vv)
  |_=>unsupported "internal:dictcomp")
 k
section
variable{prog:Program}{w:World}{A:Around}{R:Result->Shared->Prop}{s:Shared}{ke ve t0 i0 t1 i1:Expr}{f0 f1:List Expr}{scope:Scope}{pos:Pos}{it acc:Value}{env:Env}
def zCo(h0:codeAny (model prog w) A (.compLoop (.DictComp ke ve [⟨target,iter,ifs,0⟩] scope pos) 0 it acc env) R s)
  (h:wpAny (model prog w) A (pyIter it) (λit' s'=>codeAny (model prog w) A (.compLoop (.DictComp ke ve [⟨target,iter,ifs,0⟩] scope pos) 0 it' acc env) R s') (notedBy (model prog w) A env λx s'=>R (.error x) s') s) :
  codeAny (model prog w) A (.compStart (.DictComp ke ve [⟨target,iter,ifs,0⟩] scope pos) 0 it acc env) R s:=by
 refine codeAny_of_tree (wpAny_notedAt ?_);refine qB (wpAny_askSetting (wpAny_ite ?_));split
 ·exact qB (qC (qC ⟨rfl,h0⟩))
 ·exact qB (wpAny_rule (qB (wpAny_standAt (qB (wpAny_mono h (λit' s' h'=>qC ⟨rfl,h'⟩) λx x_1 x_2=>x_2)))))
def turnD:compTurn (.DictComp ke ve [⟨t0,i0,f0,0⟩] scope pos) 0 it acc env=(do
  standAt i0.pos
  let r <- pyNext it
  match r with
  |none=>pure (.done .next)
  |some v=>do
   letOwnedTupleGo t0 it v
   assign t0 env v
   let ok <- forIn f0 true λc r=>if r=true then do let ok <- isTrue c env (eval c env);pure (ForInStep.yield ok)else pure (ForInStep.yield r)
   if ok=true then actD ke ve acc env (again (.compLoop (.DictComp ke ve [⟨t0,i0,f0,0⟩] scope pos) 0 it acc env))else again (.compLoop (.DictComp ke ve [⟨t0,i0,f0,0⟩] scope pos) 0 it acc env)):=rfl
def loopD{gens:List Comprehension}{d:Nat}{p:Pos}{t:Expr}{fs:List Expr}{act:Sem PySem.Fin->Sem PySem.Fin}
  (hT:compTurn (.DictComp ke ve gens scope pos) d it acc env=(do
   standAt p
   let r <- pyNext it
   match r with
   |none=>pure (.done .next)
   |some v=>do
    letOwnedTupleGo t it v
    assign t env v
    let ok <- forIn fs true λc r=>if r=true then do let ok <- isTrue c env (eval c env);pure (ForInStep.yield ok)else pure (ForInStep.yield r)
    if ok=true then act (again (.compLoop (.DictComp ke ve gens scope pos) d it acc env))else again (.compLoop (.DictComp ke ve gens scope pos) d it acc env)))
  (I:Nat->Shared->Prop)
  (turn:∀n s,I n s->wpAny (model prog w) A (pyNext it) (λr s₁=>match r with
   |none=>R (.ok .next) s₁
   |some v=>wpAny (model prog w) A (letOwnedTupleGo t it v) (λ_ s₁=>wpAny (model prog w) A (assign t env v) (λ_ s₂ =>
     wpAny (model prog w) A (forIn fs true λc r=>if r=true then do let ok <- isTrue c env (eval c env);pure (ForInStep.yield ok)else pure (ForInStep.yield r)) (λok s₃ =>
      if ok=true then ∀(k:Sem PySem.Fin) (Q:PySem.Fin->Shared->Prop),(∀s',(∃m,m<n/\I m s')->wpAny (model prog w) A k Q (notedBy (model prog w) A env λe s'=>R (.error e) s') s')->wpAny (model prog w) A (act k) Q (notedBy (model prog w) A env λe s'=>R (.error e) s') s₃
      else ∃m,m<n/\I m s₃) (notedBy (model prog w) A env λe s'=>R (.error e) s') s₂) (notedBy (model prog w) A env λe s'=>R (.error e) s') s₁) (notedBy (model prog w) A env λe s'=>R (.error e) s') s₁) (notedBy (model prog w) A env λe s'=>R (.error e) s') s)
  (n:Nat) (h:I n s):codeAny (model prog w) A (.compLoop (.DictComp ke ve gens scope pos) d it acc env) R s:=by
 refine codeAny_loop rfl I (λn s hI=>?_) n h;show wpAny _ A ((compTurn (.DictComp ke ve gens scope pos) d it acc env).onRaise (λx=>do noteFrame x env;theTreesLotGoes x)) _ _ s;refine wpAny_noted ?_;rw[hT];refine qB (wpAny_standAt (qB (wpAny_mono (turn n s hI) (λr s₁ h₁=>?_) λ_ _ h'=>h')));cases r with
 |none=>exact qC h₁
 |some v =>
  refine qB (wpAny_mono h₁ (λ_ s₁' h₁'=>?_) λ_ _ h'=>h');refine qB (wpAny_mono h₁' (λ_ s₂ h₂=>qB (wpAny_mono h₂ (λok s₃ h₃=>?_) λ_ _ h'=>h')) λ_ _ h'=>h');cases ok with
  |false=>exact qC ⟨rfl,h₃⟩|true=>exact h₃ _ _ λs' q=>qC ⟨rfl,q⟩
end
def taD(K:qH)(tk tv:TE):TA:=λD O H Nx=>tk O H λy H1=>tv O H1 λz H2=>∃es kb ks,y=.ref kb/\zEA K H2 D es/\SqT K H2 kb (ks.map oV)/\es.length<1000000/\Nx O (upd H2 D (Zu D (zAg es ks kb z)))
def zB0(nl:Nat)(caps:List Nat)(wi:TI)(g:TG)(tt:TT)(ta:TA):TE:=λO H Q=>wi O H λJ H1=>∀D,H1 D=none->∃W:Nat->Nat->St->Hp->Prop,(∃m,W 0 m (L2.zK nl caps O) (upd H1 D (Zu D [])))/\∀i m O' H',W i m O' H' ->
 (J.stop i H'/\Q (.ref D) H')\/(J.go i H'/\∃Nx:St->Hp->Prop,(∀O'' H'',Nx O'' H''->∃m',m'<m/\W (i+1) m' O'' H'')/\∀x H'',J.yld i H' x H''->g x O' H'' λO2 H2 =>
  tt O2 H2 λb H3=>if b=true then ta D O2 H3 Nx else Nx O2 H3)
def zHK(hu:Y.A.units<cLine)(hx:∀e s,¬Y.xe e s)(hk:PE Y ke tk)(hv:PE Y ve tv):PA Y (actD ke ve) (taD Y.K tk tv):=λD pins s O H Nx k Q E I h hn=>by
 unfold actD;refine qB (qB (wpAny_mono (hk pins s O H _ I h) (λkv s1 h1=>?_) λ_ _ z=>absurd z (hx _ _)));obtain⟨y,H1,I1,r1,q1⟩:=h1;refine qB (wpAny_holding (wpAny_mono (hv pins s1 O H1 _ I1 q1) (λvv s2 h2=>?_) λ_ _ z=>absurd z (hx _ _)));obtain⟨z,H2,I2,r2,es,kb,ks,rfl,⟨e,hkk⟩,hb,hl,n2⟩:=h2;cases r1;dsimp only;refine qB (wpAny_standAt (wpAny_holding ?_));obtain⟨xs,r,hm,hd,hz,hnd⟩:=QZ I2 e hkk;have hsl:(1000000:Nat)<=sizeLine:=by decide +kernel
 have hlen:xs.length=es.length:=by have:=congrArg length (wU.keys r);simpa using this
 refine wpAny_dictSet_heap (knd:=tupleKind (zCf Y.prog Y.w)) hu (ud I2 hb) hm (λh' hm' sb=>?_) (by omega);have dp:zGx D (zAg es ks kb z) h':=zAy (X:=Y) hm' hd (by have:=(W1 (k:=ks) (ka:=kb) (v:=z) hnd).2;omega) (r.put r2);obtain⟨_,_,_,o',_,_,_,e',_⟩:=id dp;exact hn O _ _ (I2.write (x:=D) (e:=D) (by rw[e];trivial) (.inl rfl) (λb w hb' q'=>(sb.2 b hb').trans q') ⟨o',e'⟩ (zBi dp)) n2
section
variable{X:Cx}{ke ve target iter:Expr}{ifs:List Expr}{scope:Scope}{pos:Pos}{nl:Nat}{caps:List Nat}{N':List Str}
def uv{wi:TI}{g:TG}{tt:TT}{ta:TA}{use:Option (Value->Sem Unit)}{QQ:Value->Shared->Prop}{pins:List (Addr×Obj)}{s:Shared}{O:St}{H:Hp}{Q:VK}{p0:Pos}(hx:∀e s,¬X.xe e s)(hc:X.calm=true)(hkind:scope.kind=.function)(hnames:∀y∈scope.names,y.2=.local->scope.names.lookup y.1=some .local)(hcell:∀y∈scope.names,y.2=.cell->scope.names.lookup y.1=some .cell)
  (hfree:(scope.names.all λy=>y.2 != .free||X.env.kindOf y.1==some .cell)=true)
  (hlen:N'.length=nl+caps.length) (hcap:∀(i j:Nat),caps[i]?=some j->∃x,N'[nl+i]?=some x/\X.N[j]?=some x/\scope.names.lookup x=some .free)
  (hi:PI X target iter wi) (hg:∀cl C ex s H,PG (cxB X N' scope cl C ex s H) target g) (ht:∀cl C ex s H,zAr (cxB X N' scope cl C ex s H) ifs tt) (he:∀cl C ex s H,PA (cxB X N' scope cl C ex s H) (actD ke ve) ta)
  (hs:∀x,foldedSetIterable iter X.env x=pure x) (I:Inv X pins O H s) (h:zB0 nl caps wi g tt ta O H Q)
  (hfin:∀(D C:Addr) (H5:Hp) (s6:Shared) (m6:Str->Option Value),Inv X pins O H5 s6->QK X pins H5 C->s6.heap.Ns C m6->Q (.ref D) H5->compPost (model X.prog X.w) X.A X.xe use QQ (.ref D) C (.ok .next) s6) :
  wpAny (model X.prog X.w) X.A (comprehension (.DictComp ke ve [⟨target,iter,ifs,0⟩] scope pos) scope X.env p0 newDict false (eval iter X.env) use) QQ X.xe s:=by
 have hfr:∀y∈scope.names,y.2=.free->X.env.kindOf y.1=some .cell:=λy hy e=>by
  have:=all_eq_true.mp hfree y hy;rw[e]at this;simpa using this
 have hcl:∀y∈scope.names,y.2=.free->∃c,X.env.cells.lookup y.1=some c:=λy hy e=>I.ok.has y.1 (.inl (hfr y hy e))
 have hclos:closureFor scope X.env=pure (uq X.env scope.names []):=by
  simp only[closureFor];rw[wW scope.names [] hcl];rfl
 have cl1:∀x c,(uq X.env scope.names []).lookup x=some c->X.env.cells.lookup x=some c:=λx c e=>(ya scope.names [] x hcl (λ_ z=>by cases z)).1 c e
 have cl2:∀x,(∃y∈scope.names,y.1=x/\y.2=.free)->∃c,(uq X.env scope.names []).lookup x=some c:=λx q=>(ya scope.names [] x hcl (λ_ z=>by cases z)).2 (.inr q)
 generalize uq X.env scope.names []=cl at hclos cl1 cl2;refine wpAny_comprehension_free (use:=use) rfl hs hclos hkind hnames (thn (hi pins s O H _ I h) λxv s1 h1=>thn h1 λitv s2 h2=>?_);obtain⟨it,fp,tn,J,H2,e,I2,T,st2,f2,turn⟩:=h2;subst e;refine wpAny_newObj_type (jb ?_) (by first|trivial|decide|simp[sizeOk]);dsimp only;generalize hH3:s2.heap.push {cls:=.type "dict",dict:=none,data:=.dict #[]}=h3;have hC:h3.objs.size=s2.heap.objs.size+1:=by rw[<- hH3,size_push]
 have hD:H2 s2.heap.objs.size=none:=I2.hok.fresh (le_refl _);obtain⟨W,⟨m0,w0⟩,step⟩:=turn s2.heap.objs.size hD
 -- the state at the block's entry
 have I3:Inv X pins O (upd H2 s2.heap.objs.size (Zu s2.heap.objs.size [])) {s2 with heap:=h3}:=by
  rw[<- hH3];exact I2.laid (t':=s2.toks) (λb o q=>qA _ q) (le_refl _) (zEG s2.heap (Inv.big I2))
 have hcfr:∀x,scope.names.lookup x=some .free->(x,NameKind.cell)∉scope.names:=λx e z=>by
  have:=hcell _ z rfl;rw[e]at this;cases this
 have szp:(h3.push {cls:=.type "dict",data:=.dict #[]}).objs.size=h3.objs.size+1:=size_push ..;have cw:∀x c,(cellsFrom (h3.objs.size+1) scope.names cl).lookup x=some c->cl.lookup x=some c\/((x,NameKind.cell)∈scope.names/\h3.objs.size+1<=c/\(pushCells (h3.push {cls:=.type "dict",data:=.dict #[]}) scope.names).IsCell c none):=λx c e=>by
  rw[<- szp]at e ⊢;exact JV _ _ _ x c e
 have cfr:∀x,scope.names.lookup x=some .free->(cellsFrom (h3.objs.size+1) scope.names cl).lookup x=cl.lookup x:=λx e=>ZR _ _ _ x (hcfr x e)
 have chas:∀x,scope.names.lookup x=some .cell->∃c,(cellsFrom (h3.objs.size+1) scope.names cl).lookup x=some c:=λx e=>by
  have:=cellsFrom_some scope.names (h3.objs.size+1) cl (x:=x) (.inl e);exact Option.isSome_iff_exists.mp this
 have clt:∀x c,cl.lookup x=some c->c<h3.objs.size:=λx c e=>by
  obtain⟨v,q⟩:=I3.cell x c (cl1 x c e);exact q.lt
 have cinj:=Ql scope.names (h3.objs.size+1) cl (λx y c e1 e2=>I.ok.inj x y c (cl1 x c e1) (cl1 y c e2)) λx c e=>lt_succ_of_lt (clt x c e)
 have hns₁:(pushCells (h3.push {cls:=.type "dict",data:=.dict #[]}) scope.names).Ns h3.objs.size λ_=>none:=(Heap.Ns.new h3 (.type "dict")).keeps (pushCells_keeps _ _)
 have old:∀b o,h3.get? b=some o->(pushCells (h3.push {cls:=.type "dict",data:=.dict #[]}) scope.names).get? b=some o:=λb o e=>pushCells_keeps _ _ b o (qA _ e)
 generalize hh1:pushCells (h3.push {cls:=.type "dict",data:=.dict #[]}) scope.names=h₁ at hns₁ old cw ⊢;generalize hcs:cellsFrom (h3.objs.size+1) scope.names cl=cs at cw cfr chas cinj ⊢;have fpD:∀b∈fp,b≠s2.heap.objs.size:=λb hb z=>by
  obtain⟨o,e,_⟩:=T.obj 0 s2.heap st2 b hb;subst z;exact absurd (lt_size e) (lt_irrefl _)
 have fp3:∀b∈fp,upd H2 s2.heap.objs.size (Zu s2.heap.objs.size []) b=none:=λb hb=>by rw[zk (fpD b hb)];exact(f2 b hb).1
 have fpC:∀b∈fp,b≠h3.objs.size:=λb hb z=>by
  obtain⟨o,e,_⟩:=T.obj 0 s2.heap st2 b hb;have q:b<s2.heap.objs.size:=lt_size e;rw[z,hC]at q;exact absurd q (not_lt.mpr (le_succ _))
 have hCn:upd H2 s2.heap.objs.size (Zu s2.heap.objs.size []) h3.objs.size=none:=I3.hok.fresh (le_refl _);have fpok:∀b∈fp,(b∈X.ex\/X.s₀.heap.objs.size<=b)/\b≠X.env.locals/\(∀x c,X.env.cells.lookup x=some c->c≠b)/\∀p∈X.pn++pins,p.1≠b:=λb hb=>by
  obtain⟨_,q2,_,q4,q5,q6⟩:=f2 b hb;exact⟨q4,q2,q5,q6⟩
 have fpH:∀b∈fp,b<h3.objs.size:=λb hb=>by
  obtain⟨o,e,_⟩:=T.obj 0 s2.heap st2 b hb;have q:b<s2.heap.objs.size:=lt_size e;rw[hC];exact lt_succ_of_lt q
 have fpcs:∀b∈fp,∀x c,cs.lookup x=some c->c≠b:=λb hb x c e=>by
  rcases cw x c e with q|⟨_,q,_⟩
  ·exact(fpok b hb).2.2.1 x c (cl1 x c q)
  ·intro z;subst z
   exact absurd (lt_of_lt_of_le (fpH _ hb) (Nat.le_of_succ_le q)) (lt_irrefl _)
 let Y:Cx:=cxB X N' scope cs h3.objs.size fp {s2 with heap:=h3} (upd H2 s2.heap.objs.size (Zu s2.heap.objs.size []))
 have kindY:∀x k,Y.env.kindOf x=some k->∃k0,scope.names.lookup x=some k0/\(k=k0\/(k0=.free/\k=.cell)):=λx k e=>jS e
 have okY:Y.Ok:={
  mod:=I.ok.mod
  kind:=hkind
  glob:=I.ok.glob
  blt:=I.ok.blt
  above:=le_refl _
  inj:=cinj
  has:=λx q=>by
   have:scope.names.lookup x=some .cell\/scope.names.lookup x=some .free:=by
    rcases q with q|q
    ·obtain⟨k0,e,z⟩:=kindY x _ q
     rcases z with z|z
     ·subst z;exact .inl e
     ·rw[z.1]at e;exact .inr e
    ·obtain⟨k0,e,z⟩:=kindY x _ q
     rcases z with z|z
     ·subst z;exact .inr e
     ·rw[z.1]at e;exact .inr e
   rcases this with q|q
   ·exact chas x q
   ·obtain⟨c,e⟩:=cl2 x ⟨(x,.free),PySem.mem_of_lookup q,rfl,rfl⟩
    exact⟨c,by show cs.lookup x=_;rw[cfr x q];exact e⟩
  cab:=λx c z e=>by
   have z:scope.names.lookup x=some .cell:=by
    have z:(scope.names.lookup x==some NameKind.cell)=true:=z;simpa using z
   have e:cs.lookup x=some c:=e;rw[<- hcs]at e;exact le_trans (le_succ _) (Qj _ _ _ x c (PySem.mem_of_lookup z) e)
  hd:=I.ok.hd
  frames:=I.ok.frames
  stk:=.inl rfl
  exf:=λb hb=>⟨fpC b hb,fpcs b hb⟩
  bs:=λb o e=>I3.bs b o e
  bsz:=le_trans I.ok.bsz I3.sz
  noex:=λb o e hb=>by
   obtain⟨q,_⟩:=fpok b hb;rcases q with q|q
   ·exact I.ok.noex b o e q
   ·exact absurd (lt_of_lt_of_le (lt_size e) I.ok.bsz) (not_lt.mpr q)
  exfs:=λb hb z=>by
   have:=I2.stkSub b z;rcases mem_cons.mp this with q|q
   ·exact(fpok b hb).2.1 q
   ·exact(f2 b hb).2.2.1 q
  funs:=I3.stack
  frf:=I3.stkFree}
 have keep1:∀b o,h3.get? b=some o->h₁.get? b=some o:=old;have lenY:(L2.zK nl caps O).length=N'.length:=by unfold L2.zK;simp[hlen]
 have IY:Inv Y [] (L2.zK nl caps O) (upd H2 s2.heap.objs.size (Zu s2.heap.objs.size [])) {s2 with heap:=h₁}:={
  ok:=okY
  os:=rfl
  bare:=I3.bare
  base:=Un.kept keep1
  loc:=by
   refine⟨_,hns₁,λi x v e1 e2 e3=>?_⟩;have e1:N'[i]?=some x:=e1;have hi:nl<=i:=by
    by_cases z:nl<=i
    ·exact z
    ·unfold L2.zK at e2
     rw[getElem?_append_left (by simp;omega),List.getElem?_replicate]at e2;split at e2<;>cases e2
   unfold L2.zK at e2;rw[getElem?_append_right (by simpa using hi),length_replicate,getElem?_map]at e2;cases ej:caps[i-nl]? with
   |none=>rw[ej]at e2;cases e2
   |some j =>
    rw[ej]at e2;simp only[Option.map_some,Option.some.injEq]at e2;obtain⟨x',c1,c2,c3⟩:=hcap (i-nl) j ej;have ex:x'=x:=by
     rw[show nl+(i-nl)=i by omega,e1]at c1;exact(qJ c1).symm
    subst ex;have e4:O[j]?=some (some v):=by
     cases z:O[j]? with
     |none=>rw[z]at e2;cases e2|some o=>rw[z]at e2;simp at e2;rw[e2]
    have kx:X.env.kindOf x'=some .cell:=hfr (x',.free) (PySem.mem_of_lookup c3) rfl;obtain⟨mm,_,lk⟩:=I3.loc;obtain⟨u,ru,lu⟩:=lk j x' v c2 e4 (.inr (.inl kx));refine⟨u,ru,?_⟩;rcases lu with⟨z,_⟩|⟨_,c,d1,d2⟩
    ·rw[kx]at z;cases z
    ·obtain⟨c',d3⟩:=cl2 x' ⟨(x',.free),PySem.mem_of_lookup c3,rfl,rfl⟩
     have:c'=c:=by have:=cl1 x' c' d3;rw[d1]at this;exact(qJ this).symm
     subst this;exact .inr ⟨.inl (wF c3 I.ok.kind kx),c',by show cs.lookup _=_;rw[cfr x' c3];exact d3,d2.keeps old⟩
  cell:=λx c e=>by
   rcases cw x c e with e|⟨_,_,q⟩
   ·obtain⟨v,q⟩:=I3.cell x c (cl1 x c e)
    exact⟨v,q.keeps old⟩
   ·exact⟨_,q⟩
  free:=hCn
  freeC:=λx c e=>by
   rcases cw x c e with e|⟨_,q,_⟩
   ·exact I3.freeC x c (cl1 x c e)
   ·exact I3.hok.fresh (le_trans (le_succ _) q)
  pin:=λp hp=>absurd (show p∈([]:List (Addr×Obj))from hp) (by simp)
  hok:=I3.hok.kept old
  len:=lenY}
 have st1:tn 0 h₁:=T.keep 0 s2.heap h₁ st2 λb hb o e=>old b o (by rw[<- hH3];exact qA _ e)
 have fpY:∀{H':Hp},(∀b∈fp,H' b=none)->∀b∈fp,QK Y [] H' b:=λhn b hb =>
  ⟨hn b hb,fpC b hb,okY.exfs b hb,.inl hb,fpcs b hb,λp hp=>absurd (show p∈([]:List (Addr×Obj))from hp) (by simp)⟩
 have hA:Y.A=X.A:=rfl;have noE:∀{E':Value->Shared->Prop} {e:Value} {s:Shared},X.xe e s->E' e s:=λq=>absurd q (hx _ _)
 have fin:∀s₄:Shared,s₄={s2 with heap:=h₁} ->
   codeAny (model X.prog X.w) X.A (.compLoop (.DictComp ke ve [⟨target,iter,ifs,0⟩] scope pos) 0 (.ref it) (.ref s2.heap.objs.size) Y.env)
    (compPost (model X.prog X.w) X.A X.xe use QQ (.ref s2.heap.objs.size) h3.objs.size) s₄:=by
  rintro s₄ rfl
  refine loopD (act:=actD ke ve (.ref s2.heap.objs.size) Y.env) turnD (λn s'=>∃i O' H',Inv Y [] O' H' s'/\tn i s'.heap/\(∀b∈fp,H' b=none)/\W i n O' H') ?_ m0 ⟨0,L2.zK nl caps O,_,IY,st1,fp3,w0⟩
  rintro n s5 ⟨i,O5,H5,I5,st5,fr5,w5⟩
  rcases step i n O5 H5 w5 with⟨stop,q⟩|⟨go,Nx,hN,turn⟩
  ·refine wpAny_mono (T.done Y rfl rfl rfl hc i [] s5 O5 H5 (λ_ _=>False) I5 (fpY fr5) st5 stop) (λr s6 ⟨hr,I6⟩=>?_) (λ_ _ z=>z.elim)
   subst hr;obtain⟨m6,n6,_⟩:=I6.loc;have u:Un (frs X.stack) fp (upd H2 s2.heap.objs.size (Zu s2.heap.objs.size [])) H5 h3 s6.heap:=I6.base;have I7:Inv X pins O H5 s6:=I3.call' (s':=s6) (ch:=fp) I6.os u I6.hok I6.bare fpok;exact hfin _ _ H5 s6 m6 I7 (I3.fpOk (le_refl _) I6.free) n6 q
  ·refine wpAny_mono (T.item Y rfl rfl rfl hc i [] s5 O5 H5 (λ_ _=>False) I5 (fpY fr5) st5 go) (λr s6 ⟨u,hr,h6⟩=>?_) (λ_ _ z=>z.elim)
   subst hr;refine wpAny_mono h6 (λ_ s7 ⟨x,H7,I7,r7,y7,st7,fr7⟩=>?_) (λ_ _ z=>z.elim);have I7':=I7.pinned (fpY fr7) (T.obj _ _ st7);refine wpAny_mono (hg _ _ _ _ _ _ s7 O5 H7 x u _ I7' r7 (turn x H7 y7)) (λ_ s8 ⟨O8,H8,I8,q8⟩=>?_) (λ_ _ z=>noE z);refine wpAny_mono (ht _ _ _ _ _ _ s8 O8 H8 _ I8 q8) (λb s9 ⟨H9,I9,q9⟩=>?_) (λ_ _ z=>noE z);have again:∀{O7:St} {H':Hp} {s':Shared},Inv Y ([]++Zr fp s7.heap) O7 H' s'->Nx O7 H'->∃m,m<n/\∃i O' H',Inv Y [] O' H' s'/\tn i s'.heap/\(∀b∈fp,H' b=none)/\W i m O' H':=λ{O7 H' s'} I' n7=>by
    obtain⟨m',hm,w7⟩:=hN O7 H' n7;refine⟨m',hm,i+1,O7,H',I'.unpinned,T.keep _ _ _ st7 λb hb o e=>(I'.pin (b,o) (qK _ (qK _ (yV hb e)))).1,λb hb=>?_,w7⟩;obtain⟨o,e,d⟩:=T.obj _ _ st7 b hb;exact(I'.pin (b,o) (qK _ (qK _ (yV hb e)))).2.1
   cases b with
   |false =>
    rw[if_neg qF]at q9 ⊢;exact again I9 q9
   |true =>
    rw[if_pos rfl]at q9 ⊢;exact λk Qk hk=>he _ _ _ _ _ _ _ s9 O8 H9 Nx k Qk _ I9 q9 λO' H' s' I' n'=>hk s' (again I' n')
 exact zCo (fin _ rfl) (T.self X.A 0 _ _ _ st1 (fin _ rfl))
def zGL(hx:∀e s,¬X.xe e s)(hc:X.calm=true)(hkind:scope.kind=.function)(hnames:∀y∈scope.names,y.2=.local->scope.names.lookup y.1=some .local)(hcell:∀y∈scope.names,y.2=.cell->scope.names.lookup y.1=some .cell)
  (hfree:(scope.names.all λy=>y.2 != .free||X.env.kindOf y.1==some .cell)=true)
  (hlen:N'.length=nl+caps.length) (hcap:∀(i j:Nat),caps[i]?=some j->∃x,N'[nl+i]?=some x/\X.N[j]?=some x/\scope.names.lookup x=some .free)
  (hi:PI X target iter wi) (hg:∀cl C ex s H,PG (cxB X N' scope cl C ex s H) target g) (ht:∀cl C ex s H,zAr (cxB X N' scope cl C ex s H) ifs tt) (he:∀cl C ex s H,PA (cxB X N' scope cl C ex s H) (actD ke ve) ta)
  (hs:∀x,foldedSetIterable iter X.env x=pure x:=by intro _;rfl):PE X (.DictComp ke ve [⟨target,iter,ifs,0⟩] scope pos) (zB0 nl caps wi g tt ta):=by
 intro pins s O H Q I h;rw[zCn];refine uv (use:=none) hx hc hkind hnames hcell hfree hlen hcap hi hg ht he hs I h λD C H5 s6 m6 I7 f n6 q=>?_
 refine⟨m6,n6,λh' hs'=>?_⟩;obtain⟨f1,f2,f3,f4,f5,f6⟩:=f;exact⟨.ref D,H5,I7.turned (it:=C) (t':=s6.toks) (λb o hb e=>hs'.extBut b o hb e) f1 (λz=>f2 z) f4 f5 f6,rfl,q⟩
def zGM(hN:X.N.Nodup)(hi':X.N[i]?=some y)(hy:Loc X.env.scope y)(hf:X.fn y=true\/X.env.scope.names.lookup y=some .local)(hx:∀e s,¬X.xe e s)(hc:X.calm=true)(hkind:scope.kind=.function)(hnames:∀y∈scope.names,y.2=.local->scope.names.lookup y.1=some .local)(hcell:∀y∈scope.names,y.2=.cell->scope.names.lookup y.1=some .cell)
  (hfree:(scope.names.all λy=>y.2 != .free||X.env.kindOf y.1==some .cell)=true)
  (hlen:N'.length=nl+caps.length) (hcap:∀(i j:Nat),caps[i]?=some j->∃x,N'[nl+i]?=some x/\X.N[j]?=some x/\scope.names.lookup x=some .free)
  (hi:PI X target iter wi) (hg:∀cl C ex s H,PG (cxB X N' scope cl C ex s H) target g) (ht:∀cl C ex s H,zAr (cxB X N' scope cl C ex s H) ifs tt) (he:∀cl C ex s H,PA (cxB X N' scope cl C ex s H) (actD ke ve) ta)
  (hs:∀x,foldedSetIterable iter X.env x=pure x) (hsw:swapsWith (.DictComp ke ve [⟨target,iter,ifs,0⟩] scope pos) (some (.Name y py)) spos.line X.env=pure true) :
  PS X (.Assign [.Name y py] (.DictComp ke ve [⟨target,iter,ifs,0⟩] scope pos) spos) (zFI (zB0 nl caps wi g tt ta) (GR i)):=by
 intro pins s O H D I h;rw[exec_Assign_Name_used _ _ _ _ hsw];refine qB (wpAny_standAt (qB ?_));show wpAny _ X.A (do let _ <- comprehension (.DictComp ke ve [⟨target,iter,ifs,0⟩] scope pos) scope X.env _ newDict false (eval iter X.env) (some (assign (.Name y py) X.env))) _ _ s;refine qB (wpAny_mono (uv (use:=some (assign (.Name y py) X.env)) (QQ:=λ_ s'=>SP X pins D .next s') hx hc hkind hnames hcell hfree hlen hcap hi hg ht he hs I h λDa C H5 s6 m6 I7 f n6 q=>?_) (λ_ s' hq=>qC (qC hq)) λ_ _ e=>e);obtain⟨f1,f2,f3,f4,f5,f6⟩:=f;show wpAny _ X.A (assign (.Name y py) X.env (.ref Da)) _ _ s6;refine wpAny_assign_Name (Yl I7 hN hi' hy (v:=.ref Da) rfl (λs7 I8 ⟨a,sb,ha⟩=>?_) hf);have hne:C≠a:=by
  rcases ha with ha|ha
  ·rw[ha];exact f2
  ·exact λz=>f5 y a ha z.symm
 refine⟨m6,n6.sameBut sb hne,λh' hs'=>?_⟩;exact⟨_,H5,I8.turned (it:=C) (t':=s7.toks) (λb o hb e=>hs'.extBut b o hb e) f1 (λz=>f2 z) f4 f5 f6,q⟩
end
abbrev Acc:=List (List KN)×List D
section
variable{X:Cx}{K:qH}{mg:Str->Option Value}{O:St}{M:Addr->Prop}{E:zS}{H:Hp}{T0 Z T:Fz}
structure GD(K:qH)(mg:Str->Option Value)(M:Addr->Prop)(D:Addr)(O:St)(E:zS)(H:Hp)(acc:Acc)(O':St)(E':zS)(H':Hp)(acc':Acc):Prop where
 len:E'.length=O'.length
 fr:FR K mg M H' ((some (.ref D),.dct acc'.1 acc'.2)::O'.zip E')
 st:Step M H ((some (.ref D),.dct acc.1 acc.2)::O.zip E) H' ((some (.ref D),.dct acc'.1 acc'.2)::O'.zip E')
 pk:PKp O E O' E'
def GD.of{D:Addr}{acc:Acc}{O':St}{E':zS}{H':Hp}(g:Got K mg M O E H [(some (.ref D),.dct acc.1 acc.2)] O' E' H' []):GD K mg M D O E H acc O' E' H' acc:=⟨g.len,g.fr,g.st,g.pk⟩
theorem GD.trans{D:Addr}{acc acc1 acc2:Acc}{O1 O2:St}{E1 E2:zS}{H1 H2:Hp}(a:GD K mg M D O E H acc O1 E1 H1 acc1)(b:GD K mg M D O1 E1 H1 acc1 O2 E2 H2 acc2):GD K mg M D O E H acc O2 E2 H2 acc2:=⟨b.len,b.fr,a.st.trans b.st,a.pk.trans b.pk⟩
abbrev MCD:=zS->Acc->Out (Acc×zS)
def zEH(K:qH)(mg:Str->Option Value)(ma:MCD)(ta:TA):Prop:=∀(M:Addr->Prop) (D:Addr) (O:St) (E:zS) (H:Hp) (acc acc':Acc) (E':zS) (Nx:St->Hp->Prop),E.length=O.length->FR K mg M H ((some (.ref D),.dct acc.1 acc.2)::O.zip E)->ma E acc=.ok (acc',E')->(∀O' H',GD K mg M D O E H acc O' E' H' acc'->Nx O' H')->ta D O H Nx
def maD(mk mv:ME):MCD:=λE acc=>match mk E with
 | .ok (r1,E1)=>match mv E1 with
  | .ok (r2,E2)=>match zEC r1.d with
   |some q=>if acc.1.length<1000000 then .ok (zHJ acc.1 acc.2 q r2.d,E2)else .z|none=>.z
  |_=>.z
 |_=>.z
def zA0:zEH K mg (maD mk mv) (taD K (tN K mg mk) (tN K mg mv)):=λM D O E H acc acc' E' Nx hl fr em hN=>by
 unfold maD at em;cases e1:mk E with
 |z=>rw[e1]at em;cases em|exc _ _=>rw[e1]at em;cases em
 |ok p =>
  obtain⟨r1,Ea⟩:=p;rw[e1]at em;dsimp only at em;cases e2:mv Ea with
  |z=>rw[e2]at em;cases em|exc _ _=>rw[e2]at em;cases em
  |ok p =>
   obtain⟨r2,Eb⟩:=p;rw[e2]at em;dsimp only at em;cases e3:zEC r1.d with
   |none=>rw[e3]at em;cases em
   |some q =>
    rw[e3]at em;dsimp only at em;by_cases hc:acc.1.length<1000000
    ·rw[if_pos hc]at em
     cases em;refine zBr (T0:=[(some (.ref D),.dct acc.1 acc.2)]) hl fr e1 λy H1 g1=>?_
     refine zBr (T0:=[(some y,r1.slot)]++[(some (.ref D),.dct acc.1 acc.2)]) g1.len g1.fr e2 λz H2 g2=>?_
     have g:=g1.trans g2
     -- the key and the value are given up
     have fa:FR K mg M H2 ((some z,r2.slot)::(some y,r1.slot)::((some (.ref D),Slot.dct acc.1 acc.2)::O.zip E')):=g.fr;have fb:=fa.frz;have fc:FR K mg M H2 ((some y,r1.slot)::(some z,.v r2.d)::((some (.ref D),Slot.dct acc.1 acc.2)::O.zip E')):=fb.perm (List.Perm.swap _ _ _);have fd:=fc.frz;obtain⟨y',ey,ry⟩:=fd.val _ _ qE;cases ey;obtain⟨z',ez,rz⟩:=fd.val _ _ (qD _ qE);cases ez;rw[wV,wV]at ry rz;have fo:=fd.tail.tail;obtain⟨a,ho,ea,ha,_,es,rfl,k1,k2,k3⟩:=fo.own _ _ _ qE rfl;cases ea;obtain⟨kb,rfl,hb⟩:=vO e3 ry;rw[k1]at hc;obtain⟨pk1,pk2⟩:=zED (q:=q) (kb:=kb) k3 rz;obtain⟨fm,sm⟩:=FR.mutD (i:=0) fo rfl (zBz k2 hb) pk2;rw[pk1,<- k1]at fm sm;refine⟨es,kb,q,rfl,⟨ha,λx hx=>zO zF (k2 x hx)⟩,zO zF hb,by simpa using hc,hN O _ ?_⟩;have sz:Step M H ((some (.ref D),Slot.dct acc.1 acc.2)::O.zip E) H2 ((some (.ref D),Slot.dct acc.1 acc.2)::O.zip E'):=g.st.weak (zC (.cons _ (.cons _ (List.Sublist.refl _))));exact⟨g.len,fm,sz.trans sm,g.pk⟩
    ·rw[if_neg hc]at em;cases em
def Go(tg:MG)(tt:MT)(ma:MCD):List D->zS->Acc->Out (Acc×zS)
 | [],E,acc=>.ok (acc,E)
 |d::ds,E,acc=>match tg d E with
  | .ok E1=>match tt E1 with
   | .ok (true,E2)=>match ma E2 acc with
    | .ok (acc',E3)=>Go tg tt ma ds E3 acc'|_=>.z
   | .ok (false,E2)=>Go tg tt ma ds E2 acc|_=>.z
  |_=>.z
def Q1(nl:Nat)(caps:List Nat)(mi:MI)(tg:MG)(tt:MT)(ma:MCD):ME:=λE=>match mi E with
 | .z=>.z| .exc x E1=>.exc x E1
 | .ok (ds,E1)=>match JL E1 caps with
  | .ok ars=>match zL ars E1 with
   | .ok (ss,E2)=>match Go tg tt ma ds (replicate nl .e++ss) ([],[])with
    | .ok (res,Eb)=>match zJ ars ((zb (replicate nl .e++ss) Eb).drop nl) E1 E2 with
     | .ok E3=>.ok (.dct res.1 res.2,E3)|_=>.z
    |_=>.z
   |_=>.z
  |_=>.z
def yld_gd{J:It}{ds:List D}{Iv:Hp->Prop}{O0 O':St}{E0 E':zS}{H1 H' H'':Hp}{Da:Addr}{acc0 acc:Acc}{i:Nat}{x:V}(it:ItOk K mg J ds Iv)(hlt:i<ds.length)(gb:GD K mg M Da O0 E0 H1 acc0 O' E' H' acc)(ivb:Iv (Hm (Mo M ((some (.ref Da),Slot.dct acc.1 acc.2)::O'.zip E')) H'))(y:J.yld i H' x H'') :
  ∃d,ds[i]?=some d/\GD K mg M Da O0 E0 H1 acc0 O' E' H'' acc/\Iv (Hm (Mo M ((some (.ref Da),Slot.dct acc.1 acc.2)::O'.zip E')) H'')/\Rep K mg (Hm (Mo M ((some (.ref Da),Slot.dct acc.1 acc.2)::O'.zip E')) H'') d x:=by
 obtain⟨d,hd,h⟩:=it.yld i _ _ x _ zF ivb hlt y;rcases h with⟨rfl,rx⟩|⟨q,xs,es,hq,rfl,rfl,rfl,rs⟩
 ·exact⟨d,hd,gb,ivb,rx⟩
 ·have f1:=gb.fr.newTup hq rs
  have s1:Step M H' ((some (.ref Da),Slot.dct acc.1 acc.2)::O'.zip E') (upd H' q (.t xs)) ((some (.ref q),.v (.t es))::((some (.ref Da),Slot.dct acc.1 acc.2)::O'.zip E')):=Step.newVal hq;obtain⟨v,ev,rv⟩:=f1.val _ _ qE;cases ev;have sm:=s1.same;rw[wV]at rv sm;exact⟨_,hd,⟨gb.len,f1.tail,gb.st.trans ⟨sm,s1.keep⟩,gb.pk⟩,it.mono _ _ sm ivb,rv⟩
def turnsD(ho:GOk X g tg)(ha:zEH X.K X.mg ma ta){Iv:Hp->Prop}(it:ItOk X.K X.mg J ds Iv){Nx:St->Hp->Prop}(hl:E.length=O.length)(fr:FR X.K X.mg M H ((some (.ref Da),.dct acc.1 acc.2)::O.zip E))(iv:Iv (Hm (Mo M ((some (.ref Da),Slot.dct acc.1 acc.2)::O.zip E)) H))(em:Go tg tt ma ds E acc=.ok (accF,EF))
  (hN:∀O' H',GD X.K X.mg M Da O E H acc O' EF H' accF->Nx O' H'):∃W:Nat->Nat->St->Hp->Prop,(∃m,W 0 m O H)/\∀i m O' H',W i m O' H' ->
   (J.stop i H'/\Nx O' H')\/(J.go i H'/\∃N2:St->Hp->Prop,(∀O'' H'',N2 O'' H''->∃m',m'<m/\W (i+1) m' O'' H'')/\∀x H'',J.yld i H' x H''->g x O' H'' λO2 H2 =>
    tNT X.K X.mg tt O2 H2 λb H3=>if b=true then ta Da O2 H3 N2 else N2 O2 H3):=by
 refine⟨λi m O' H'=>m=ds.length-i/\i<=ds.length/\∃E' acc',GD X.K X.mg M Da O E H acc O' E' H' acc'/\Iv (Hm (Mo M ((some (.ref Da),Slot.dct acc'.1 acc'.2)::O'.zip E')) H')/\Go tg tt ma (ds.drop i) E' acc'=.ok (accF,EF),
  ⟨ds.length,by simp,zero_le _,E,acc,⟨hl,fr,Step.refl,PKp.refl⟩,iv,em⟩,?_⟩
 rintro i m O' H' ⟨rfl,hi,E',acc',gb,ivb,cm⟩
 by_cases hlt:i<ds.length
 ·refine .inr ⟨it.go i _ H' zF ivb hlt,λO'' H''=>(i+1<=ds.length/\∃E' acc',GD X.K X.mg M Da O E H acc O'' E' H'' acc'/\Iv (Hm (Mo M ((some (.ref Da),Slot.dct acc'.1 acc'.2)::O''.zip E')) H'')/\Go tg tt ma (ds.drop (i+1)) E' acc'=.ok (accF,EF)),
   λO'' H'' q=>⟨ds.length-(i+1),by omega,rfl,q⟩,λx H'' y=>?_⟩
  obtain⟨d,hd,gb,ivb,rx⟩:=yld_gd it hlt gb ivb y;have ed:ds.drop i=d::ds.drop (i+1):=by
   obtain⟨hi',rfl⟩:=qG.mp hd;exact drop_eq_getElem_cons hi'
  rw[ed]at cm;simp only[Go]at cm;cases e1:tg d E' with
  |z=>rw[e1]at cm;cases cm|exc _ _=>rw[e1]at cm;cases cm
  |ok Ea =>
   rw[e1]at cm;dsimp only at cm;refine ho _ O' E' _ [(some (.ref Da),.dct acc'.1 acc'.2)] x d Ea _ gb.len (gb.fr.add rx) e1 λO2 ga=>?_
   have g2:=gb.trans (GD.of ga);cases e2:tt Ea with
   |z=>rw[e2]at cm;cases cm|exc _ _=>rw[e2]at cm;cases cm
   |ok p =>
    obtain⟨b,Eb2⟩:=p;rw[e2]at cm;refine zAt ga.len ga.fr e2 λH3 gt=>?_
    have gt':GD X.K X.mg M Da O2 Ea H'' acc' O2 Eb2 H3 acc':=⟨gt.len,gt.fr,gt.st,gt.pk⟩;have g3:=g2.trans gt';have iv3:=it.mono _ _ (ga.st.same.trans gt.st.same) ivb;cases b with
    |false=>exact zE7 ⟨hlt,Eb2,acc',g3,iv3,cm⟩
    |true =>
     refine zE8 ?_;dsimp only at cm;cases e3:ma Eb2 acc' with
     |z=>rw[e3]at cm;cases cm|exc _ _=>rw[e3]at cm;cases cm
     |ok p =>
      obtain⟨acc2,Ec⟩:=p;rw[e3]at cm;exact ha M Da O2 Eb2 H3 acc' acc2 Ec _ g3.len g3.fr e3 λO4 H4 g4=>⟨hlt,Ec,acc2,g3.trans g4,it.mono _ _ g4.st.same iv3,cm⟩
 ·have ei2:i=ds.length:=by omega
  subst ei2;rw[drop_length]at cm;simp only[Go]at cm;cases cm;exact .inl ⟨it.stop _ _ H' zF ivb (le_refl _),hN O' H' gb⟩
def Q2(ho:GOk X g tg)(ha:zEH X.K X.mg ma ta)(h:tM X (Q1 nl caps mi tg tt ma) O H Q):zB0 nl caps (tMI X mi) g (tNT X.K X.mg tt) ta O H Q:=by
 obtain⟨M,E,hl,fr,k⟩:=h;unfold Q1 at k;refine⟨M,E,hl,fr,?_⟩;cases ei:mi E with
 |z=>rw[ei]at k;exact k|exc x E1=>rw[ei]at k;exact k
 |ok p =>
  obtain⟨ds,E1⟩:=p;rw[ei]at k;intro J Iv H1 it iv g1 D hD;dsimp only at k;cases ec:JL E1 caps with
  |z=>rw[ec]at k;exact k.elim|exc _ _=>rw[ec]at k;exact k.elim
  |ok ars =>
   rw[ec]at k;dsimp only at k;cases el1:zL ars E1 with
   |z=>rw[el1]at k;exact k.elim|exc _ _=>rw[el1]at k;exact k.elim
   |ok p =>
    obtain⟨ss,E2⟩:=p;rw[el1]at k;dsimp only at k;cases em:Go tg tt ma ds (replicate nl .e++ss) ([],[])with
    |z=>rw[em]at k;exact k.elim|exc _ _=>rw[em]at k;exact k.elim
    |ok p =>
     obtain⟨res,Eb⟩:=p;rw[em]at k;dsimp only at k;cases eb:zJ ars ((zb (replicate nl .e++ss) Eb).drop nl) E1 E2 with
     |z=>rw[eb]at k;exact k.elim|exc _ _=>rw[eb]at k;exact k.elim
     |ok E3 =>
      rw[eb]at k;obtain⟨vs,av,evs,f1,o1⟩:=Qo (T:=[]) caps g1.len ec g1.fr;obtain⟨f2,o2,l2,l3⟩:=YN (T:=[]) ars g1.len av el1 f1;have hv:=av.length;have f2':FR X.K X.mg M H1 (O.zip E2++(vs.map some).zip ss):=FR.perm (T:=O.zip E2++(vs.map some).zip ss) (Z:=(vs.map some).zip ss++O.zip E2) f2 perm_append_comm;have osub:∀b,b∈yF (O.zip E2++(vs.map some).zip ss)->b∈yF (O.zip E1):=λb hb =>
       o1 b ((o2 b).mpr (zD (T:=O.zip E2++(vs.map some).zip ss) (Z:=(vs.map some).zip ss++O.zip E2) perm_append_comm b hb))
      have st1:Step M H (O.zip E) H1 (O.zip E2++(vs.map some).zip ss):=g1.st.weak osub;have eO:zK nl caps O=replicate nl none++vs.map some:=by unfold L2.zK;rw[evs]
      rw[eO];have ez:(replicate nl (none:Option V)++vs.map some).zip (replicate nl Slot.e++ss)=replicate nl (none,.e)++(vs.map some).zip ss:=by
       rw[zip_append (by simp),vE]
      have f4:FR X.K X.mg (Mo M (O.zip E2)) H1 ((replicate nl (none:Option V)++vs.map some).zip (replicate nl Slot.e++ss)):=by
       rw[ez];exact(FR.inner f2').emps0 nl
      have oo:yF ((replicate nl (none:Option V)++vs.map some).zip (replicate nl Slot.e++ss))=yF ((vs.map some).zip ss):=by rw[ez,vG]
      generalize hO0:replicate nl (none:Option V)++vs.map some=O0 at f4 oo ⊢;generalize hE0:replicate nl Slot.e++ss=E0 at f4 oo em eb ⊢;have hl0:E0.length=O0.length:=by rw[<- hO0,<- hE0];simp[l2,hv]
      have f5:=f4.newDct (es:=[]) (vs:=[]) hD (λe he=>by cases he) Reps.nil;have s5:=Step.newDct (ks:=[]) (vs:=[]) (o:=Zu D []) f4 hD;have iv5:Iv (Hm (Mo (Mo M (O.zip E2)) ((some (.ref D),Slot.dct [] [])::O0.zip E0)) (upd H1 D (Zu D []))):=by
       refine it.mono _ _ s5.same (it.mono _ _ (jF λb hb=>?_) iv);rcases hb with hb|hb
       ·rcases hb with hb|hb
        ·exact .inl hb
        ·exact .inr (osub b (by rw[zR];exact mem_append_left _ hb))
       ·rw[oo]at hb
        exact .inr (osub b (by rw[zR];exact qK _ hb))
      refine turnsD ho ha it hl0 f5 iv5 em λO' H' ga=>k _ H' ?_
      have gb:Got X.K X.mg (Mo M (O.zip E2)) O0 E0 H1 [] O' Eb H' [(some (.ref D),.dct res.1 res.2)]:=⟨ga.len,ga.fr,s5.trans ga.st,ga.pk⟩;have mk0:Mask (O'.zip Eb) (O0.zip (zb E0 Eb)):=Jo E0 O0 O' Eb gb.len (hl0.symm) λj ds' e=>(gb.pk j ds' e).2
      have mk:Mask (O'.zip Eb) ((vs.map some).zip ((zb E0 Eb).drop nl)):=by
       have:=wX nl mk0;have e:(O0.zip (zb E0 Eb)).drop nl=(vs.map some).zip ((zb E0 Eb).drop nl):=by
        rw[Yu,<- hO0];congr 1;rw[drop_left' (by simp)]
       rw[e]at this;exact this
      refine vH (r:=.dct res.1 res.2) el1 eb av f2' st1 l3 g1.pk (gb.fr.mask (.keep mk)) ?_;refine(gb.st.weak λb hb=>(Mask.keep mk).sub.subset hb).left λb hb=>?_
      show b∈yF _
      rw[nil_append,oo]at hb;exact hb
end
section
variable{X:Cx}{ke ve target iter:Expr}{ifs:List Expr}{scope:Scope}{pos:Pos}{mi:MI}{tg:MG}{tt:MT}{mk mv:ME}{g:TG}{nl:Nat}{caps:List Nat}
def ok_dc(loc capn:List Str)(hu:X.A.units<cLine)(hnl:loc.length=nl)(hx:∀e s,¬X.xe e s)(hc:X.calm=true)(hkind:scope.kind=.function)(hnames:∀y∈scope.names,y.2=.local->scope.names.lookup y.1=some .local)(hcell:∀y∈scope.names,y.2=.cell->scope.names.lookup y.1=some .cell)
  (hfree:(scope.names.all λy=>y.2 != .free||X.env.kindOf y.1==some .cell)=true) (hcap:Gm X scope caps capn)
  (hi:IOk X target iter mi) (hg:∀cl C ex s H,PG (cxB X (loc++capn) scope cl C ex s H) target g) (ho:GOk X g tg) (ht:∀cl C ex s H,zFv (cxB X (loc++capn) scope cl C ex s H) ifs tt)
  (hk:∀cl C ex s H,EOk (cxB X (loc++capn) scope cl C ex s H) ke mk) (hv:∀cl C ex s H,EOk (cxB X (loc++capn) scope cl C ex s H) ve mv)
  (hs:∀x,foldedSetIterable iter X.env x=pure x) :
  EOk X (.DictComp ke ve [⟨target,iter,ifs,0⟩] scope pos) (Q1 nl caps mi tg tt (maD mk mv)):=by
 obtain⟨c1,c2⟩:=vI (loc:=loc) hcap;refine zZ (zGL (N':=loc++capn) (tt:=tNT X.K X.mg tt) (ta:=taD X.K (tN X.K X.mg mk) (tN X.K X.mg mv)) hx hc hkind hnames hcell hfree (by simp[hnl,c1]) (λi j e=>by
  obtain⟨x,q1,q2,q3⟩:=c2 i j e;refine⟨x,?_,q2,q3⟩;rw[getElem?_append_right (by omega),hnl,add_sub_cancel_left];exact q1) hi hg (λcl C ex s H=>jq (ht cl C ex s H) λO H Q q=>Qp (X:=cxB X (loc++capn) scope cl C ex s _) q)
  (λcl C ex s H=>zHK (Y:=cxB X (loc++capn) scope cl C ex s H) hu hx (zZ (hk cl C ex s H) λO H Q q=>zFA (X:=cxB X (loc++capn) scope cl C ex s _) q) (zZ (hv cl C ex s H) λO H Q q=>zFA (X:=cxB X (loc++capn) scope cl C ex s _) q)) hs) λO H Q=>Q2 ho zA0
def sk_dc(loc capn:List Str)(hu:X.A.units<cLine)(hN:X.N.Nodup)(hi':X.N[i]?=some y)(hy:Loc X.env.scope y)(hf:X.fn y=true\/X.env.scope.names.lookup y=some .local)(hnl:loc.length=nl)(hx:∀e s,¬X.xe e s)(hc:X.calm=true)(hkind:scope.kind=.function)(hnames:∀y∈scope.names,y.2=.local->scope.names.lookup y.1=some .local)(hcell:∀y∈scope.names,y.2=.cell->scope.names.lookup y.1=some .cell)
  (hfree:(scope.names.all λy=>y.2 != .free||X.env.kindOf y.1==some .cell)=true) (hcap:Gm X scope caps capn)
  (hi:IOk X target iter mi) (hg:∀cl C ex s H,PG (cxB X (loc++capn) scope cl C ex s H) target g) (ho:GOk X g tg) (ht:∀cl C ex s H,zFv (cxB X (loc++capn) scope cl C ex s H) ifs tt)
  (hk:∀cl C ex s H,EOk (cxB X (loc++capn) scope cl C ex s H) ke mk) (hv:∀cl C ex s H,EOk (cxB X (loc++capn) scope cl C ex s H) ve mv)
  (hs:∀x,foldedSetIterable iter X.env x=pure x)
  (hsw:swapsWith (.DictComp ke ve [⟨target,iter,ifs,0⟩] scope pos) (some (.Name y py)) spos.line X.env=pure true) :
  SOk X (.Assign [.Name y py] (.DictComp ke ve [⟨target,iter,ifs,0⟩] scope pos) spos) (sSet i (Q1 nl caps mi tg tt (maD mk mv))):=by
 obtain⟨c1,c2⟩:=vI (loc:=loc) hcap;refine yg (zGM (N':=loc++capn) (tt:=tNT X.K X.mg tt) (ta:=taD X.K (tN X.K X.mg mk) (tN X.K X.mg mv)) hN hi' hy hf hx hc hkind hnames hcell hfree (by simp[hnl,c1]) (λi j e=>by
  obtain⟨x,q1,q2,q3⟩:=c2 i j e;refine⟨x,?_,q2,q3⟩;rw[getElem?_append_right (by omega),hnl,add_sub_cancel_left];exact q1) hi hg (λcl C ex s H=>jq (ht cl C ex s H) λO H Q q=>Qp (X:=cxB X (loc++capn) scope cl C ex s _) q)
  (λcl C ex s H=>zHK (Y:=cxB X (loc++capn) scope cl C ex s H) hu hx (zZ (hk cl C ex s H) λO H Q q=>zFA (X:=cxB X (loc++capn) scope cl C ex s _) q) (zZ (hv cl C ex s H) λO H Q q=>zFA (X:=cxB X (loc++capn) scope cl C ex s _) q)) hs hsw) λD O H h=>Q2 ho zA0 (Gc h)
end
def tDisp1(K:qH)(tk tv:TE):TE:=λO H Q=>∀D,H D=none->taD K tk tv D O (upd H D (Zu D [])) λO' H'=>O'=O->Q (.ref D) H'
def zGN(hu:X.A.units<cLine)(hk:PE X ke tk)(hv:PE X ve tv):PE X (.Dict [some ke] [ve] pos) (tDisp1 X.K tk tv):=λpins s O H Q I h=>by
 have hn:=I.hok.fresh (le_refl s.heap.objs.size);have I1:=I.laid (h':=s.heap.push {cls:=.type "dict",dict:=none,data:=.dict #[]}) (t':=s.toks) (λ_ _ q=>qA _ q) (le_refl _) (zEG s.heap (Inv.big I));refine wpAny_Dict_any rfl rfl (by simp) (by simp) (pairTrees_cons_walk (thn (hk pins _ O _ _ I1 (h _ hn)) λkv s1 h1=>?_));obtain⟨y,H1,I1',r1,q1⟩:=h1;refine thn (hv pins s1 O H1 _ I1' q1) λvv s2 h2=>pairTrees_nil_walk ?_
 obtain⟨z,H2,I2,r2,es,kb,ks,rfl,⟨e,hkk⟩,hb,hl,n2⟩:=h2;cases r1;unfold storeAll;rw[forIn_cons];refine qB (qB ?_);obtain⟨xs,r,hm,hd,hz,hnd⟩:=QZ I2 e hkk;have hsl:(1000000:Nat)<=sizeLine:=by decide +kernel
 have hlen:xs.length=es.length:=by have:=congrArg length (wU.keys r);simpa using this
 refine wpAny_dictSet_heap (knd:=tupleKind (zCf X.prog X.w)) hu (ud I2 hb) hm (λh' hm' sb=>?_) (by omega);have dp:zGx s.heap.objs.size (zAg es ks kb z) h':=zAy (X:=X) hm' hd (by have:=(W1 (k:=ks) (ka:=kb) (v:=z) hnd).2;omega) (r.put r2);obtain⟨_,_,_,o',_,_,_,e',_⟩:=id dp;refine qC ?_;dsimp only;rw[forIn_nil];exact qC ⟨.ref _,_,I2.write (x:=s.heap.objs.size) (e:=s.heap.objs.size) (by rw[e];trivial) (.inl rfl) (λb w hb' q'=>(sb.2 b hb').trans q') ⟨o',e'⟩ (zBi dp),rfl,n2 rfl⟩
def eDisp(mk mv:ME):ME:=λE=>match maD mk mv E ([],[])with
 | .ok (acc,E')=>.ok (.dct acc.1 acc.2,E')|_=>.z
section
variable{X:Cx}{ke ve:Expr}{pos:Pos}{mk mv:ME}
def ok_disp(hu:X.A.units<cLine)(hk:EOk X ke mk)(hv:EOk X ve mv):EOk X (.Dict [some ke] [ve] pos) (eDisp mk mv) :=
 zZ (zGN hu (zZ hk λO H Q q=>zFA q) (zZ hv λO H Q q=>zFA q)) λO H Q ⟨M,E,hl,fr,k⟩=>by
  unfold eDisp at k;intro D hD;cases em:maD mk mv E ([],[])with
  |z=>rw[em]at k;exact k.elim|exc _ _=>rw[em]at k;exact k.elim
  |ok p =>
   obtain⟨acc,E'⟩:=p;rw[em]at k;have f5:=fr.newDct (es:=[]) (vs:=[]) hD (λe he=>by cases he) Reps.nil;have s5:=Step.newDct (ks:=[]) (vs:=[]) (o:=Zu D []) fr hD;refine zA0 M D O E _ ([],[]) acc E' _ hl f5 em λO' H' ga es=>?_
   subst es;exact k _ H' ⟨ga.len,ga.fr,s5.trans ga.st,ga.pk⟩
end
end DV
namespace DV
open PySem PySem.W L2
def EA(h:Heap)(d:Addr)(es:Array DictEntry)(ep:Nat):Prop:=∃o,h.get? d=some o/\o.ExactDict/\o.data=.dict es ep
section
variable{prog:Program}{w:World}{A:Around}{E:Value->Shared->Prop}{s:Shared}{d it:Addr}{es:Array DictEntry}{ep i:Nat}
def EA.ty(m:EA s.heap d es ep):s.TypeIs (.ref d) "dict":=let ⟨o,h,c,_⟩:=m;⟨o,h,c.1⟩
def EA.lt(m:EA h d es ep):d<h.objs.size:=let ⟨_,h,_⟩:=m;lt_size h
def EA.kp(m:EA h d es ep)(k:∀o,h.get? d=some o->h'.get? d=some o):EA h' d es ep:=let ⟨o,h,r⟩:=m;⟨o,k o h,r⟩
def it_dct{Q:Value->Shared->Prop}(hd:(d==sysModules)=false)(m:EA s.heap d es ep)(hQ:Q (.ref s.heap.objs.size) {s with heap:=s.heap.push {cls:=.type "dict_keyiterator",data:=.fields #[.ref d,.int 0 0,.int es.size 0,.int ep 0]}}):wpAny (model prog w) A (pyIter (.ref d)) Q E s:=by
 obtain⟨o,ho,hc,hdat⟩:=id m;refine wpAny_pyIter_slot m.ty PySem.F.slot_dict_iter (wpAny_call_entry PySem.F.slot_dict_iter m.ty PySem.F.entry_dict_iter ?_ (PySem.F.args_dict_iter_1 _));unfold Builtin.«dict.__iter__» Builtin.Dict.dictSlotNone Builtin.Dict.showsAll;refine qB (qB (wpAny_notOrdered_dict m.ty (qC ?_)));refine qB (qC ?_);rw[if_neg (by rw[hd];exact qF)];refine qB (qC (qB (wpAny_dictEntries ho hdat (qB (wpAny_dictEpoch ho hdat ?_)))));exact qB (wpAny_newObj_type (qC ⟨_,rfl,"dict_keyiterator",_,⟨_,get?_push_size _ rfl,rfl⟩,PySem.F.slot_dict_keyiterator_next.lookup,by simpa[rawInt]using hQ⟩))
def zHL{Q:Option Value->Shared->Prop}(hh:A.handled=none)(hit:s.heap.IsKeyIter it d i es.size ep)(m:EA s.heap d es ep)
  (h1:∀e h',es[i]?=some e->h'.IsKeyIter it d (i+1) es.size ep->Heap.SameBut it s.heap h'->Q (some e.key) {s with heap:=h'})
  (h0:∀h',es[i]?=none->Heap.ExtBut it s.heap h'->Q none {s with heap:=h'}):wpAny (model prog w) A (pyNext (.ref it)) Q E s:=by
 obtain⟨o,ho,hc,hd⟩:=id hit;obtain⟨od,hod,_,hdd⟩:=id m;refine qB (wpAny_attempt (wpAny_callSpecial?_slot (name:=Str.ofString "__next__") hit.typeIs PySem.F.slot_dict_keyiterator_next (wpAny_call_entry PySem.F.slot_dict_keyiterator_next hit.typeIs PySem.F.entry_dict_keyiterator_next (qB (qC (qB (qB (qB (wpAny_typeNameOfWhole_keyiter hit.typeIs (qC (qB (wpAny_fieldsOf ho hd ?_)))))))))  (PySem.F.args_dict_keyiterator_next_1 _))));simp only[show Builtin.Dict_items.ownsTuple "dict_keyiterator"=false by decide,Bool.false_eq_true,if_false];show wpAny _ _ (if(Value.ref d==Value.none)=true then _ else _) _ _ s;rw[if_neg (show ¬((Value.ref d==Value.none)=true)from qF)];refine qB (qC (qB (wpAny_dictEntries hod hdd ?_)));rw[if_neg (by simp)];refine qB (qC (qB (wpAny_dictEpoch hod hdd ?_)));rw[if_neg (by simp)];refine qC ?_;simp only[show ¬((i:Int)<0)from by omega,if_false,Int.toNat_natCast];cases he:es[i]? with
 |some e =>
  refine qB (qB (wpAny_typeNameOfWhole_keyiter hit.typeIs (qC (qB (wpAny_isOneOf_keyiter hit.typeIs ?_)))));show wpAny _ _ (setField (.ref it) 1 (rawInt ((i:Int)+1)) >>= _) _ _ s;refine qB (wpAny_setField ho hd (by simp) ?_);have hit':(s.heap.update it (Obj.mapFields (·.setIfInBounds 1 (rawInt ((i:Int)+1))))).IsKeyIter it d (i+1) es.size ep :=
   ⟨_,get?_update_self _ ho (Obj.isFreed_of_fields (Obj.data_mapFields hd _)),(Obj.cls_mapFields ..).trans hc,by rw[Obj.data_mapFields hd];simp[rawInt]⟩
  refine qB (wpAny_holding (qB (wpAny_isOneOf_keyiter (s:={s with heap:=_}) hit'.typeIs ?_)))
  show wpAny _ _ (pure e.key) _ _ _
  exact qC (qC ⟨_,rfl,qC (h1 e _ he hit' (Heap.SameBut.update ..))⟩)
 |none =>
  refine qB (qB (wpAny_typeNameOfWhole_keyiter hit.typeIs (qC ?_)));show wpAny _ _ (setField (.ref it) 0 .none >>= _) _ _ s;refine qB (wpAny_setField ho hd (by simp) ?_);show wpAny _ _ (newExc (.type "StopIteration") [] >>= _) _ _ _;simp only[newExc,newTuple];refine qB (qB (wpAny_newObj_type (qB (m:=firstArgMember _ _) (wpAny_of_eq (a:=Value.none) (by first|rfl|(simp only[firstArgMember];rfl)) (wpAny_newObj_type ?_ (by size_fits)))) (by size_fits)));simp only[raiseNew];refine qB (wpAny_handled ?_);rw[show A.in1.handled=none from hh];refine qB (qC (wpAny_throw ?_));refine qB (wpAny_isInstance (T:="StopIteration") (b:=true) ⟨_,get?_push_size _ rfl,rfl⟩ isSubtype_stop ?_);exact qC (h0 _ he (((Heap.SameBut.update ..).extBut.push _).push _))
def zEI(hh:A.handled=none)(I:Addr)(hne:d≠I):Walks prog w A I [I,d] [I] es.size (λi v=>∃e,es[i]?=some e/\v=e.key) (λi h=>h.IsKeyIter I d i es.size ep/\EA h d es ep) where
 sub:=λb hb=>by simp at hb;simp[hb]
 frame:=λ_ _ _ st hk=>⟨st.1.at λo e=>hk I (by simp) o e,st.2.kp λo e=>hk d (by simp) o e⟩
 item:=λi s Q E hi st hQ=>zHL hh st.1 st.2 (λe h' he hit' hs'=>hQ e.key h' s.toks ⟨e,he,rfl⟩ ⟨hit',st.2.kp λo q=>hs'.extBut d o hne q⟩ λb o hb q=>hs'.extBut b o (λh=>hb (by simp[h])) q) λh' he _=>by
  rw[Array.getElem?_eq_getElem hi]at he;cases he
 done:=λs Q E st hQ=>zHL hh st.1 st.2 (λe h' he _ _=>by rw[Array.getElem?_eq_none (le_refl _)]at he;cases he) λh' _ he'=>hQ h' s.toks λb o hb e=>he' b o (λh=>hb (by simp[h])) e
 self:=λ_ _ _ _ st hQ=>wpAny_pyIter_keyiter st.1 hQ
def src_dct(lo:(d==sysModules)=false):KdlSrc prog w "dict" d d es.size (λi v=>∃e,es[i]?=some e/\v=e.key) (λh=>EA h d es ep) where
 type:=λ_ m=>m.ty
 there:=λ_ m=>⟨m.lt,m.lt⟩
 keep:=λ_ _ m hk=>m.kp λo e=>hk d (.inl rfl) o e
 notList:=by decide
 notTuple:=by decide
 hint:=λ_ _ _ _ m hq=>kdl_hint_dict m.ty hq
 iter:=λ_ _ hh m=>⟨_,_,(λ_ _ hq=>it_dct lo m hq),zEI hh _ (ne_of_lt m.lt),⟨⟨_,get?_push_size _ rfl,rfl,rfl⟩,m.kp λo e=>qA _ e⟩⟩
end
section
variable{X:Cx}{K:qH}{mg:Str->Option Value}
def rDLs(K:qH):List V->Hp->VK->Prop:=λxs H Q=>∃a es,xs=[.ref a]/\zEA K H a es/\∀l,H l=none->Q (.ref l) (upd H l (.l (es.map λe=>.ref e.2.1)))
theorem Q3:∀{es:List DE} {xs:List DX} {us:List Value},wU es xs->us.length=xs.length->(∀(j:Nat) v,us[j]?=some v->∃x,xs[j]?=some x/\v=(.ref x.2.1:Value))->yj (es.map λe=>.ref e.2.1) us
 |_,_,us,.nil,hl,h=>by
  cases us with
  |nil=>exact .nil|cons _ _=>cases hl
 |_,_,us,.cons (b:=x) r t,hl,h=>by
  cases us with
  |nil=>cases hl
  |cons v us =>
   obtain⟨x',e1,e2⟩:=h 0 v rfl;cases qJ e1;subst e2;refine .cons (by show Value.ref _=_;rw[r.2.1]) (Q3 t (by simpa using hl) λj v hv=>?_);obtain⟨y,q1,q2⟩:=h (j+1) v (by simpa using hv);exact⟨y,by simpa using q1,q2⟩
def zCp(hcm:X.calm=true):JP X (.type "list") (rDLs X.K):=by
 intro pins s O H xs us Q I r h;obtain⟨a,es,rfl,⟨e,hk⟩,q⟩:=h;obtain⟨u,rfl,hu⟩:=v9 r;cases hu;obtain⟨⟨x1,x2,x3,o,esA,ep,xs,h1,h2,h3,h4,h5⟩,_⟩:=(show jy X.prog X.w H s.heap a (Zu a es)from I.hok a _ e);have hl:es.length=xs.length:=by have:=congrArg length (wU.keys h4);simpa using this.symm
 have hz:esA.size=xs.length:=by rw[<- Array.length_toList,h5,length_map]
 refine kdl_call (src_dct x1) (I.ok.hd hcm) ⟨o,h1,h2,h3⟩ (by rw[hz,<- hl];exact x2) λh' tk acc c kp e' hacc=>?_
 have hv:yj (es.map λe=>V.ref e.2.1) acc.toList:=Q3 h4 (by rw[Array.length_toList,hacc.1,hz]) λj v hv=>by
  obtain⟨en,q1,rfl⟩:=hacc.2 j v (by simpa using hv);rw[<- Array.getElem?_toList,h5,getElem?_map]at q1;cases hx:xs[j]? with
  |none=>rw[hx]at q1;cases q1|some x=>rw[hx]at q1;cases q1;exact⟨x,rfl,rfl⟩
 refine⟨.ref s.heap.objs.size,_,I.laid (t':=tk) kp (le_refl _) (show jy X.prog X.w _ h' _ (.l (es.map λe=>V.ref e.2.1))from⟨by simpa using x2,acc.toList,c,hv,by simpa using e'⟩),rfl,q _ (I.hok.fresh (le_refl _))⟩
def listK:List D->Option R
 | [.dct ks _]=>some (.own (ks.map kD))|_=>none
theorem zA1:∀ks:List KN,Reps K mg H (ks.map oD) (ks.map oV)
 | []=>Reps.nil|none::ks=>Reps.cons (by simp only[oD,oV,Rep]) (zA1 ks)|some _::ks=>Reps.cons (by simp only[oD,oV,Rep]) (zA1 ks)
def rep_kD(h:SqT K H a (ks.map oV)):Rep K mg H (kD ks) (.ref a):=by
 simp only[kD,Rep];exact⟨a,_,rfl,h,zA1 ks⟩
theorem Q4:∀{es:List DE},(∀e∈es,SqT K H e.2.1 (e.1.map oV))->Reps K mg H ((es.map (·.1)).map kD) (es.map λe=>.ref e.2.1)
 | [],_=>Reps.nil|e::es,h=>Reps.cons (rep_kD (h e qE)) (Q4 λx hx=>h x (qD _ hx))
def zGO:COk K mg (rDLs K) listK:=by
 intro M H Z xs ds res Q f r e k
 match ds,e with
 | [.dct ks vs],e =>
  cases e;obtain⟨v,rfl,h⟩:=YL r;obtain⟨a,es,rfl,h1,rfl,h2,h3⟩:=h;exact⟨a,es,rfl,⟨zF _ _ h1,λx hx=>zO zF (h2 x hx)⟩,λl hl=>k.own f hl (Q4 h2)⟩
end
end DV
namespace DV
open PySem L2
theorem zA2(ih:∀d,eqb n d=true->∃x,pyD d=some x/\x.canLay0=true/\x.depth<=n+1):∀ds:List D,ds.all (eqb n)=true->∃xs,pyDs ds=some xs/\PyData.canLayAll0 xs=true/\PyData.depthAll xs<=n+1
 | [],_=>⟨[],rfl,rfl,by simp[PyData.depthAll]⟩
 |d::ds,h=>by
  rw[all_cons,Bool.and_eq_true]at h;obtain⟨x,e1,c1,p1⟩:=ih d h.1;obtain⟨xs,e2,c2,p2⟩:=zA2 ih ds h.2;refine⟨x::xs,by simp only[pyDs,e1,e2],?_,by simp only[PyData.depthAll];omega⟩;simp only[PyData.canLayAll0,c1,c2];rfl
def zB1:∀(n:Nat) (d:D),eqb n d=true->∃x,pyD d=some x/\x.canLay0=true/\x.depth<=n+1:=by
 intro n
 induction n with
 |zero =>
  intro d h;cases d with
  |non=>exact⟨_,rfl,rfl,by simp[PyData.depth]⟩|bl b=>exact⟨_,rfl,rfl,by simp[PyData.depth]⟩|int i=>exact⟨_,rfl,rfl,by simp[PyData.depth]⟩|str i=>exact⟨_,rfl,h,by simp[PyData.depth]⟩|_=>cases h
 |succ n ih =>
  intro d h;cases d with
  |non=>exact⟨_,rfl,rfl,by simp[PyData.depth]⟩|bl b=>exact⟨_,rfl,rfl,by simp[PyData.depth]⟩|int i=>exact⟨_,rfl,rfl,by simp[PyData.depth]⟩|str i=>exact⟨_,rfl,h,by simp[PyData.depth]⟩
  |t ds =>
   obtain⟨xs,e,c,p⟩:=zA2 ih ds h;exact⟨.tuple xs,by simp only[pyD,e];rfl,by simp only[PyData.canLay0];exact c,by simp only[PyData.depth];omega⟩
  |l ds =>
   obtain⟨xs,e,c,p⟩:=zA2 ih ds h;exact⟨.list xs,by simp only[pyD,e];rfl,by simp only[PyData.canLay0];exact c,by simp only[PyData.depth];omega⟩
  |_=>cases h
def vQ(h:pyDs (d::ds)=some xs):∃y ys,xs=y::ys/\pyD d=some y/\pyDs ds=some ys:=by
 simp only[pyDs]at h;cases h1:pyD d with
 |none=>rw[h1]at h;cases h
 |some y =>
  cases h2:pyDs ds with
  |none=>rw[h1,h2]at h;cases h|some ys=>rw[h1,h2]at h;cases h;exact⟨y,ys,rfl,rfl,rfl⟩
def zB2(h:pyDs (d::ds)=some xs):∃y ys,xs=y::ys:=by
 obtain⟨y,ys,e,_⟩:=vQ h;exact⟨y,ys,e⟩
mutual
theorem zA3:∀{d e:D} {x y:PyData},pyD d=some x->pyD e=some y->x.canLay0=true->y.canLay0=true->PyData.eqv x y=deq d e
 | .t ds,e,x,y,h1,h2,c1,c2=>by
  simp only[pyD,Option.map_eq_some_iff]at h1;obtain⟨xs,h1,rfl⟩:=h1;cases e with
  |t es =>
   simp only[pyD,Option.map_eq_some_iff]at h2;obtain⟨ys,h2,rfl⟩:=h2;simp only[PyData.eqv,deq];exact eqvs_deq h1 h2 (by simpa[PyData.canLay0]using c1) (by simpa[PyData.canLay0]using c2)
  |l es=>simp only[pyD,Option.map_eq_some_iff]at h2;obtain⟨ys,_,rfl⟩:=h2;rfl|non=>cases h2;rfl|bl _=>cases h2;rfl|int _=>cases h2;rfl|str _=>cases h2;rfl|dic=>cases h2;cases c2|_=>cases h2
 | .l ds,e,x,y,h1,h2,c1,c2=>by
  simp only[pyD,Option.map_eq_some_iff]at h1;obtain⟨xs,h1,rfl⟩:=h1;cases e with
  |l es =>
   simp only[pyD,Option.map_eq_some_iff]at h2;obtain⟨ys,h2,rfl⟩:=h2;simp only[PyData.eqv,deq];exact eqvs_deq h1 h2 (by simpa[PyData.canLay0]using c1) (by simpa[PyData.canLay0]using c2)
  |t es=>simp only[pyD,Option.map_eq_some_iff]at h2;obtain⟨ys,_,rfl⟩:=h2;rfl|non=>cases h2;rfl|bl _=>cases h2;rfl|int _=>cases h2;rfl|str _=>cases h2;rfl|dic=>cases h2;cases c2|_=>cases h2
 | .non,e,x,y,h1,h2,c1,c2=>by
  cases h1;cases e with
  |t es=>simp only[pyD,Option.map_eq_some_iff]at h2;obtain⟨ys,_,rfl⟩:=h2;rfl|l es=>simp only[pyD,Option.map_eq_some_iff]at h2;obtain⟨ys,_,rfl⟩:=h2;rfl|dic=>cases h2;cases c2
  |_=>first|(cases h2;rfl)|(cases h2)
 | .bl _,e,x,y,h1,h2,c1,c2=>by
  cases h1;cases e with
  |t es=>simp only[pyD,Option.map_eq_some_iff]at h2;obtain⟨ys,_,rfl⟩:=h2;rfl|l es=>simp only[pyD,Option.map_eq_some_iff]at h2;obtain⟨ys,_,rfl⟩:=h2;rfl|dic=>cases h2;cases c2
  |_=>first|(cases h2;rfl)|(cases h2)
 | .int _,e,x,y,h1,h2,c1,c2=>by
  cases h1;cases e with
  |t es=>simp only[pyD,Option.map_eq_some_iff]at h2;obtain⟨ys,_,rfl⟩:=h2;rfl|l es=>simp only[pyD,Option.map_eq_some_iff]at h2;obtain⟨ys,_,rfl⟩:=h2;rfl|dic=>cases h2;cases c2
  |_=>first|(cases h2;rfl)|(cases h2)
 | .str _,e,x,y,h1,h2,c1,c2=>by
  cases h1;cases e with
  |t es=>simp only[pyD,Option.map_eq_some_iff]at h2;obtain⟨ys,_,rfl⟩:=h2;rfl|l es=>simp only[pyD,Option.map_eq_some_iff]at h2;obtain⟨ys,_,rfl⟩:=h2;rfl|dic=>cases h2;cases c2
  |_=>first|(cases h2;rfl)|(cases h2)
 | .dic,_,_,_,h1,_,c1,_=>by cases h1;cases c1| .fn _,_,_,_,h1,_,_,_=>by cases h1| .exn _ _,_,_,_,h1,_,_,_=>by cases h1| .dct _ _,_,_,_,h1,_,_,_=>by cases h1
theorem eqvs_deq:∀{ds es:List D} {xs ys:List PyData},pyDs ds=some xs->pyDs es=some ys->PyData.canLayAll0 xs=true->PyData.canLayAll0 ys=true->PyData.eqvAll xs ys=deqs ds es
 | [],[],xs,ys,h1,h2,_,_=>by cases h1;cases h2;rfl
 | [],e::es,xs,ys,h1,h2,_,_=>by
  cases h1;obtain⟨y,ys,rfl⟩:=zB2 h2;rfl
 |d::ds,[],xs,ys,h1,h2,_,_=>by
  cases h2;obtain⟨y,ys,rfl⟩:=zB2 h1;rfl
 |d::ds,e::es,xs,ys,h1,h2,c1,c2=>by
  obtain⟨x,xs,rfl,p1,p2⟩:=vQ h1;obtain⟨y,ys,rfl,q1,q2⟩:=vQ h2;simp only[PyData.canLayAll0,Bool.and_eq_true]at c1 c2;simp only[PyData.eqvAll,deqs];rw[zA3 p1 q1 c1.1 c2.1,eqvs_deq p2 q2 c1.2 c2.2]
end
section
variable{X:Cx}
def zHM(S:zHF X.K)(hu:X.A.units+21<cLine):OpR X (compareOp .Eq) (rEqD X.K X.mg false):=by
 intro pins s O H x y v u Q I rx ry h;obtain⟨d,e,h1,h2,r1,r2,q⟩:=h;obtain⟨a,p1,c1,l1⟩:=zB1 20 d h1;obtain⟨b,p2,c2,l2⟩:=zB1 20 e h2;obtain⟨_,ra,_⟩:=Yw I S r1 rx p1;obtain⟨_,rb,_⟩:=Yw I S r2 ry p2;have k:=SeqAt.rcAt_reads (A:=X.A) ra rb c1 c2 (by omega);rw[zA3 p1 p2 c1 c2]at k;exact k X.prog X.w _ _ ⟨.bl (deq d e),H,I,rfl,q⟩
def zHN(S:zHF X.K)(hu:X.A.units+21<cLine):OpR X (compareOp .NotEq) (rEqD X.K X.mg true):=by
 intro pins s O H x y v u Q I rx ry h;obtain⟨d,e,h1,h2,r1,r2,q⟩:=h;obtain⟨a,p1,c1,l1⟩:=zB1 20 d h1;obtain⟨b,p2,c2,l2⟩:=zB1 20 e h2;obtain⟨_,ra,_⟩:=Yw I S r1 rx p1;obtain⟨_,rb,_⟩:=Yw I S r2 ry p2;have k:=SeqAt.rcNeAt_reads (A:=X.A) ra rb c1 c2 (by omega);rw[zA3 p1 p2 c1 c2]at k;exact k X.prog X.w _ _ ⟨.bl (!deq d e),H,I,rfl,q⟩
end
inductive Op2 where
 |add|sub|mul|fdiv|mod|pow
def Op2.op:Op2->Operator
 | .add=>.Add | .sub=>.Sub | .mul=>.Mult | .fdiv=>.FloorDiv | .mod=>.Mod | .pow=>.Pow
def Op2.f:Op2->D->D->Option R
 | .add=>zAa | .sub=>WR | .mul=>WT | .fdiv=>zCi | .mod=>zG5 | .pow=>powD
inductive Cp where
 |lt|le|gt|ge|eq|ne|inn|nin
def Cp.op:Cp->CmpOp
 | .lt=>.Lt | .le=>.LtE | .gt=>.Gt | .ge=>.GtE | .eq=>.Eq | .ne=>.NotEq | .inn=>.In | .nin=>.NotIn
def Cp.f:Cp->D->D->Option R
 | .lt=>ltD | .le=>leD | .gt=>gtD | .ge=>geD | .eq=>eqG | .ne=>neG | .inn=>inF false | .nin=>inF true
def Cp.isI:Cp->Bool
 | .lt | .le | .gt | .ge=>true
 |_=>false
def Cp.b:Cp->Int->Int->Bool
 | .lt=>ltB | .le=>leB | .gt=>gtB|_=>geB
inductive Bi where
 |len|max|all|int|tuple|sum|abs|lisK
def Bi.nm:Bi->Str
 | .len=>"len" | .max=>"max" | .all=>"all" | .int=>"int" | .tuple=>"tuple" | .sum=>"sum" | .abs=>"abs" | .lisK=>"list"
def Bi.f:Bi->List D->Option R
 | .len=>zFf | .max=>zAb | .all=>allD | .int=>intF | .tuple=>zG6 | .sum=>zF0 | .abs=>absG | .lisK=>DV.listK
inductive Ty where
 |int|bool|tuple|list|str|dict
def Ty.s:Ty->String
 | .int=>"int" | .bool=>"bool" | .tuple=>"tuple" | .list=>"list" | .str=>"str" | .dict=>"dict"
def Ty.nm:Ty->Str
 | .int=>"int" | .bool=>"bool" | .tuple=>"tuple" | .list=>"list" | .str=>"str" | .dict=>"dict"
inductive Tg where
 |n (i:Nat)
 |t (is:List Nat)
def Tg.m:Tg->MG
 | .n i=>gN i| .t is=>gT is
mutual
inductive Ex where
 |c (d:D)|gl (d:D)|var (i:Nat)|mov (i:Nat)
 |bin (o:Op2) (a b:Ex)|cmp (o:Cp) (a b:Ex)|chain (o o':Cp) (a b c:Ex)
 |neg (a:Ex)|not (a:Ex)|and (a b:Ex)
 |ifx (t:Tx) (a b:Ex)|t (as:Ax)|l (as:Ax)
 |ix (a b:Ex)|ixO (i:Nat) (b:Ex)|lenO (i:Nat)|sl (a:Ex) (l h:Ox)
 |comp (nl:Nat) (loc capn:List Str) (caps:List Nat) (it:Ix) (tg:Tg) (tt:Tx) (el:Ex)
 |comp2 (nl:Nat) (loc capn:List Str) (caps:List Nat) (it:Ix) (tg:Tg) (jt:Ix) (tg2:Tg) (el:Ex)
 |is (T:Ty) (a:Ex)|cB (b:Bi) (as:Ax)|call (k:Nat) (as:Gx)
 |maxd (a d:Ex)
 |frz (a:Ex)
 |dgO (i:Nat) (b:Ex)|dg (a b:Ex)|ninO (i:Nat) (a:Ex)|disp (a b:Ex)
 |dcomp (nl:Nat) (loc capn:List Str) (caps:List Nat) (it:Ix) (tg:Tg) (tt:Tx) (ka va:Ex)
inductive Tx where
 |tAnd (a b:Tx)|tOr (a b:Tx)|tNot (a:Tx)|tE (a:Ex)|tTr
inductive Ax where
 |nil|cons (a:Ex) (as:Ax)
inductive Gx where
 |nil|ev (a:Ex) (as:Gx)|lend (i:Nat) (as:Gx)
inductive Ox where
 |oN|oS (a:Ex)
inductive Ix where
 |iL (a:Ex)|iT (a:Ex)|iA (a:Ex)|iR1 (as:Ax)|iRv (as:Ax)|iZ (t1 t2:Bool) (as:Ax)|iZA (t2:Bool) (as:Ax)|iE (t1:Bool) (as:Ax)
end
mutual
inductive Sx where
 |sIf (t:Tx) (a b:Bx)|sSet (i:Nat) (a:Ex)|sRet (a:Ex)|sDrop (a:Ex)|sIx (i:Nat) (b a:Ex)|sAugIx (i:Nat) (b a:Ex)|sApp (i:Nat) (a:Ex)
 |sForL (a:Ex) (tg:Tg) (b:Bx)|sForR1 (as:Ax) (tg:Tg) (b:Bx)|sForR2 (as:Ax) (tg:Tg) (b:Bx)|sForI (it:Ix) (tg:Tg) (b:Bx)
 |sDput (i:Nat) (b a:Ex)
 |sAny|sTup (is:List Nat) (a:Ex)|sPar (i j:Nat) (as:Ax)
 |sWhile (t:Tx) (b:Bx)|sAug (i:Nat) (o:Op2) (a:Ex)
inductive Bx where
 |bNil|bOne (s:Sx)|bSeq (s:Sx) (b:Bx)
end
structure FI where
 x:Str
 n:Nat
 lv:Nat
 wild:Bool
 F:MF
def fiF(fs:List FI)(k:Nat):MF:=match fs[k]? with
 |some i=>i.F|none=>λ_=>.z
def fiX(fs:List FI)(k:Nat):Str:=match fs[k]? with
 |some i=>i.x|none=>""
def Op2.aug:Op2->Int->Int->Option Int
 | .add=>λa b=>some (a+b)| .sub=>λa b=>some (a-b)| .mul=>Qt|_=>λ_ _=>none
def Op2.isAug:Op2->Bool
 | .add | .sub | .mul=>true
 |_=>false
def vR(m:ME):ME:=λE=>match m E with
 | .exc _ _=>.z|o=>o
def ZU(m:MS):MS:=λE=>match m E with
 | .exc _ _=>.z|o=>o
def zEJ{m:ME}{E:zS}{p:R×zS}(h:m E=.ok p):vR m E=.ok p:=by simp only[vR,h]
def vS{m:MS}{E:zS}{p:Fl×zS}(h:m E=.ok p):ZU m E=.ok p:=by simp only[ZU,h]
def no_E{X:Cx}{e:Expr}{m:ME}(h:EOk X.nox e m):EOk X e (vR m):=zZ h.nox λO H Q ⟨M,E,hl,fr,k⟩=>by
 unfold vR at k;refine⟨M,E,hl,fr,?_⟩;cases e:m E with
 |z=>rw[e]at k;exact k|exc x E1=>rw[e]at k;exact k.elim|ok p=>rw[e]at k;exact k
def zHO{X:Cx}{st:Stmt}{m:MS}(h:SOk X.nox st m):SOk X st (ZU m):=λpins s O H D I ⟨M,E,hl,fr,k⟩=>by
 refine wpAny_mono (h pins s O H D (I.wish _) ⟨M,E,hl,fr,?_⟩) (λ_ _ q=>q.unwish) λ_ _ z=>False.elim z
 unfold ZU at k;cases e:m E with
 |z=>rw[e]at k;exact k|exc x E1=>rw[e]at k;exact k.elim
 |ok p =>
  rw[e]at k;obtain⟨fl,E1⟩:=p;cases fl<;>exact k
def sk_forN{X:Cx}{st:Stmt}{mi:MI}{tg:MG}{body:MS}(h1:PS X st (λD O H=>tMI X mi O H λ_ _=>False))(h2:SOk X st (ZU (sForI mi tg body))):SOk X st (zD5 mi tg body):=λpins s O H D I ⟨M,E,hl,fr,k⟩=>by
 unfold zD5 at k;cases e:mi E with
 |exc x E1=>rw[e]at k;exact h1 pins s O H D I ⟨M,E,hl,fr,by rw[e];exact λH' g=>k O H' g⟩|z=>rw[e]at k;exact h2 pins s O H D I ⟨M,E,hl,fr,k⟩|ok p=>rw[e]at k;exact h2 pins s O H D I ⟨M,E,hl,fr,k⟩
def zEK{i:Nat}{m:ME}:ZU (sSet i m)=sSet i (vR m):=by
 funext E
 simp only[ZU,sSet,vR];cases m E with
 |z=>rfl|exc x E1=>rfl
 |ok p =>
  obtain⟨r,E1⟩:=p;dsimp only;cases Yt i r E1<;>rfl
mutual
def dE(fs:List FI):Ex->ME
 | .c d=>eC d| .gl d=>eC d| .var i=>ui i| .mov i=>zDn i| .bin o a b=>JT o.f (dE fs a) (dE fs b)| .cmp o a b=>JT o.f (dE fs a) (dE fs b)| .chain o o' a b c=>yy o.b o'.b (dE fs a) (dE fs b) (dE fs c)| .neg a=>eNeg (dE fs a)| .not a=>zAW (dE fs a)| .and a b=>Ga (dE fs a) (dE fs b)| .ifx t a b=>eIf (dT fs t) (dE fs a) (dE fs b)| .t as=>zAY (dA fs as)| .l as=>zAZ (dA fs as)| .ix a b=>JT ixD (dE fs a) (dE fs b)| .ixO i b=>eIxO i (dE fs b)| .lenO i=>zFk i| .sl a l h=>eSl slD (dE fs a) (dO fs l) (dO fs h)| .comp nl _ _ caps it tg tt el=>vR (uF nl caps (dI fs it) tg.m (dT fs tt) (dE fs el))| .comp2 nl _ _ caps it tg jt tg2 el=>vR (vM nl caps (dI fs it) tg.m jp (maL (dI fs jt) tg2.m jp (ma1 (dE fs el))))| .is T a=>eIs T.s (dE fs a)| .cB b as=>eCB b.f (dA fs as)| .call k as=>jn (fiF fs k) (dG fs as)| .maxd a d=>JT zCl (dE fs a) (dE fs d)| .frz a=>eFrz (dE fs a)| .dgO i b=>eDgO i (dE fs b)| .dg a b=>JT dgD (dE fs a) (dE fs b)| .ninO i a=>eInO true i (dE fs a)| .disp a b=>eDisp (dE fs a) (dE fs b)| .dcomp nl _ _ caps it tg tt ka va=>vR (Q1 nl caps (dI fs it) tg.m (dT fs tt) (maD (dE fs ka) (dE fs va)))
def dT(fs:List FI):Tx->MT
 | .tAnd a b=>wm (dT fs a) (dT fs b)| .tOr a b=>GZ (dT fs a) (dT fs b)| .tNot a=>JI (dT fs a)| .tE a=>tT (dE fs a)| .tTr=>jp
def dA(fs:List FI):Ax->MA
 | .nil=>zAX| .cons a as=>JJ (dE fs a) (dA fs as)
def dG(fs:List FI):Gx->List Arg
 | .ev a as=>.ev (dE fs a)::dG fs as| .lend i as=>.lend i::dG fs as| .nil=>[]
def dO(fs:List FI):Ox->MO
 | .oN=>zFh| .oS a=>zDl (dE fs a)
def dI(fs:List FI):Ix->MI
 | .iL a=>iL (dE fs a)| .iT a=>iT (dE fs a)| .iA a=>iA (dE fs a)| .iR1 as=>iR1 (dA fs as)| .iRv as=>DV.iRv (dA fs as)| .iZ t1 t2 as=>iZ t1 t2 (dA fs as)| .iZA t2 as=>iZA t2 (dA fs as)| .iE t1 as=>iE t1 (dA fs as)
end
mutual
def dS(fs:List FI):Sx->MS
 | .sIf t a b=>sIf (dT fs t) (dB fs a) (dB fs b)| .sSet i a=>sSet i (dE fs a)| .sRet a=>sRet (dE fs a)| .sDrop a=>sDrop (dE fs a)| .sIx i b a=>Zz i (dE fs b) (dE fs a)| .sDput i b a=>DV.sDput i (dE fs b) (dE fs a)| .sAugIx i b a=>DV.sAugIx i (dE fs b) (dE fs a)| .sApp i a=>sApp i (dE fs a)| .sTup is a=>sTup is (dE fs a)| .sPar i j as=>sPar i j (dA fs as)| .sForL a tg b=>ZU (sForL (dE fs a) tg.m (dB fs b))| .sForI it tg b=>zD5 (dI fs it) tg.m (dB fs b)| .sForR1 a tg b=>ZU (sForR1 (dA fs a) tg.m (dB fs b))| .sForR2 a tg b=>ZU (sForR2 (dA fs a) tg.m (dB fs b))| .sAny=>λ_=>.z| .sWhile t b=>ZU (DV.sWhile (dT fs t) (dB fs b))| .sAug i o a=>DV.sAug i o.aug (dE fs a)
def dB(fs:List FI):Bx->MS
 | .bNil=>zAd| .bOne s=>dS fs s| .bSeq s b=>ul (dS fs s) (dB fs b)
end
def zEL{fs d}:dE fs (.c d)=eC d:=rfl
def rE_gl{fs d}:dE fs (.gl d)=eC d:=rfl
def wG{fs i}:dE fs (.var i)=ui i:=rfl
def zB3{fs i}:dE fs (.mov i)=zDn i:=rfl
def Yy{fs o a b}:dE fs (.bin o a b)=JT o.f (dE fs a) (dE fs b):=rfl
def Yz{fs o a b}:dE fs (.cmp o a b)=JT o.f (dE fs a) (dE fs b):=rfl
def Wd{fs o o' a b c}:dE fs (.chain o o' a b c)=yy o.b o'.b (dE fs a) (dE fs b) (dE fs c):=rfl
def rE_neg{fs a}:dE fs (.neg a)=eNeg (dE fs a):=rfl
def zB4{fs a b}:dE fs (.and a b)=Ga (dE fs a) (dE fs b):=rfl
def Q5{fs as}:dE fs (.t as)=zAY (dA fs as):=rfl
def Y0{fs as}:dE fs (.l as)=zAZ (dA fs as):=rfl
def zCq{fs a b}:dE fs (.ix a b)=JT ixD (dE fs a) (dE fs b):=rfl
def zHP{fs i b}:dE fs (.ixO i b)=eIxO i (dE fs b):=rfl
def rE_sl{fs a l h}:dE fs (.sl a l h)=eSl slD (dE fs a) (dO fs l) (dO fs h):=rfl
def zEM{fs nl u1 u2 caps it tg tt el}:dE fs (.comp nl u1 u2 caps it tg tt el)=vR (uF nl caps (dI fs it) tg.m (dT fs tt) (dE fs el)):=rfl
def zGP{fs nl u1 u2 caps it tg jt tg2 el}:dE fs (.comp2 nl u1 u2 caps it tg jt tg2 el)=vR (vM nl caps (dI fs it) tg.m jp (maL (dI fs jt) tg2.m jp (ma1 (dE fs el)))):=rfl
def zA4{fs b as}:dE fs (.cB b as)=eCB b.f (dA fs as):=rfl
def y4{fs k as}:dE fs (.call k as)=jn (fiF fs k) (dG fs as):=rfl
def rE_maxd{fs a d}:dE fs (.maxd a d)=JT zCl (dE fs a) (dE fs d):=rfl
def zEN{fs a b}:dT fs (.tAnd a b)=wm (dT fs a) (dT fs b):=rfl
def uw{fs a b}:dT fs (.tOr a b)=GZ (dT fs a) (dT fs b):=rfl
def rT_tNot{fs a}:dT fs (.tNot a)=JI (dT fs a):=rfl
def Gp{fs a}:dT fs (.tE a)=tT (dE fs a):=rfl
def zEO{fs}:dT fs (.tTr)=jp:=rfl
def JW{fs}:dA fs (.nil)=zAX:=rfl
def YR{fs a as}:dA fs (.cons a as)=JJ (dE fs a) (dA fs as):=rfl
def Y1{fs a as}:dG fs (.ev a as)=.ev (dE fs a)::dG fs as:=rfl
def rG_lend{fs i as}:dG fs (.lend i as)=.lend i::dG fs as:=rfl
def ji{fs}:dG fs (.nil)=[]:=rfl
def rO_oN{fs}:dO fs (.oN)=zFh:=rfl
def rO_oS{fs a}:dO fs (.oS a)=zDl (dE fs a):=rfl
def rI_iL{fs a}:dI fs (.iL a)=iL (dE fs a):=rfl
def rI_iT{fs a}:dI fs (.iT a)=iT (dE fs a):=rfl
def rI_iA{fs a}:dI fs (.iA a)=iA (dE fs a):=rfl
def rI_iR1{fs as}:dI fs (.iR1 as)=iR1 (dA fs as):=rfl
def rI_iRv{fs as}:dI fs (.iRv as)=DV.iRv (dA fs as):=rfl
def zHQ{fs t2 as}:dI fs (.iZA t2 as)=iZA t2 (dA fs as):=rfl
def rI_iE{fs t1 as}:dI fs (.iE t1 as)=iE t1 (dA fs as):=rfl
def Y2{fs t a b}:dS fs (.sIf t a b)=sIf (dT fs t) (dB fs a) (dB fs b):=rfl
def wq{fs i a}:dS fs (.sSet i a)=sSet i (dE fs a):=rfl
def jI{fs a}:dS fs (.sRet a)=sRet (dE fs a):=rfl
def Y3{fs a}:dS fs (.sDrop a)=sDrop (dE fs a):=rfl
def zEP{fs i b a}:dS fs (.sIx i b a)=Zz i (dE fs b) (dE fs a):=rfl
def vT{fs i a}:dS fs (.sApp i a)=sApp i (dE fs a):=rfl
def rS_sTup{fs is a}:dS fs (.sTup is a)=sTup is (dE fs a):=rfl
def rS_sPar{fs i j as}:dS fs (.sPar i j as)=sPar i j (dA fs as):=rfl
def zGQ{fs a tg b}:dS fs (.sForL a tg b)=ZU (sForL (dE fs a) tg.m (dB fs b)):=rfl
def zGR{fs it tg b}:dS fs (.sForI it tg b)=zD5 (dI fs it) tg.m (dB fs b):=rfl
def zEQ{fs a tg b}:dS fs (.sForR1 a tg b)=ZU (sForR1 (dA fs a) tg.m (dB fs b)):=rfl
def JX{fs a tg b}:dS fs (.sForR2 a tg b)=ZU (sForR2 (dA fs a) tg.m (dB fs b)):=rfl
def Q6{fs t b}:dS fs (.sWhile t b)=ZU (DV.sWhile (dT fs t) (dB fs b)):=rfl
def rS_sAug{fs i o a}:dS fs (.sAug i o a)=DV.sAug i o.aug (dE fs a):=rfl
def JY{fs}:dB fs (.bNil)=zAd:=rfl
def y6{fs s}:dB fs (.bOne s)=dS fs s:=rfl
def jc{fs s b}:dB fs (.bSeq s b)=ul (dS fs s) (dB fs b):=rfl
structure Sg where
 N:List Str
 sc:Scope
 top:Bool
 cs:List (Str×D)
 fs:List FI
 bs:List Str
 lv:Nat
 calm:Bool
 cl:List Str
 rs:List Str
 oc:List Str
 ri:List Str
def kIs(sg:Sg)(x:Str)(k:NameKind):Bool:=sg.sc.names.lookup x==some k
def vis(sg:Sg)(i:Nat)(x:Str):Bool:=sg.N[i]?==some x&&(kIs sg x .local||(kIs sg x .cell||kIs sg x .free))&&(!(x==("__debug__":Str))&&!(x==("__classdict__":Str)))
def glb(sg:Sg)(x:Str):Bool:=kIs sg x .globalImplicit&&!(x==("__debug__":Str))
def locd(sg:Sg)(i:Nat)(x:Str):Bool:=sg.N[i]?==some x&&(kIs sg x .local||(kIs sg x .cell&&(sg.top||sg.oc.contains x)))
def cIs:D->Const->Bool
 | .non,.none=>true| .bl b,.bool c=>b==c| .int i,.int j=>i==j| .str x,.str y=>x==y|_,_=>false
def feq:D->D->Bool
 | .non,.non=>true| .bl b,.bl c=>b==c| .int i,.int j=>i==j| .str x,.str y=>x==y|_,_=>false
def geq:D->D->Bool
 | .t [.int a,.int b],.t [.int c,.int d]=>a==c&&b==d| .t [.non,.int b],.t [.non,.int d]=>b==d|d,e=>feq d e
def gIs(sg:Sg)(x:Str)(d:D):Bool:=match sg.cs.lookup x with
 |some d'=>geq d d'|none=>false
def fIs(sg:Sg)(k:Nat)(x:Str):Bool:=match sg.fs[k]? with
 |some i=>i.x==x|none=>false
def fArg(sg:Sg)(n:Nat)(k:Nat):Bool:=match sg.fs[k]? with
 |some i=>i.n==n&&decide (i.lv<=sg.lv)&&(sg.calm||i.wild)
 |none=>false
def bIn(sg:Sg)(x:Str):Bool:=sg.bs.contains x
def gLen:Gx->Nat
 | .ev _ as=>gLen as+1| .lend _ as=>gLen as+1| .nil=>0
def QL:Tg->Sg->Expr->Bool
 | .n i,sg,e=>match e with
  | .Name x _=>locd sg i x|_=>false
 | .t is,sg,e=>match e with
  | .Tuple es _ _=>all2 sg is es|_=>false
where all2 (sg:Sg):List Nat->List Expr->Bool
 | [],[]=>true
 |i::is,e::es=>(match e with | .Name x _=>locd sg i x|_=>false)&&all2 sg is es
 |_,_=>false
def relab(scope:Scope)(sc:Scope):Scope:={scope with names:=scope.names.map λ(n,k)=>if(k==NameKind.free&&sc.kind==.function&&sc.names.lookup n==some .cell)then(n,NameKind.cell)else(n,k)}
def capB(sg:Sg)(scope:Scope):List Nat->List Str->Bool
 | [],[]=>true|j::js,x::xs=>sg.N[j]?==some x&&scope.names.lookup x==some .free&&capB sg scope js xs|_,_=>false
def jd(sg:Sg)(N:List Str)(scope:Scope):Sg:={sg with N:=N,sc:=relab scope sg.sc,top:=false,oc:=(scope.names.filter λy=>y.2==.cell).map Prod.fst}
def WU(sg:Sg)(nl:Nat)(loc capn:List Str)(caps:List Nat)(scope:Scope):Bool :=
 loc.length==nl&&scope.kind==.function&&decide (loc++capn).Nodup&&scope.names.all (λy=>y.2 != .local||scope.names.lookup y.1==some .local)&&scope.names.all (λy=>y.2 != .cell||scope.names.lookup y.1==some .cell)
  && scope.names.all (λy=>y.2 != .free||sg.sc.names.lookup y.1==some .cell)&&capB sg scope caps capn
def swOk(sg:Sg)(es:List Expr)(v:Expr):Bool:=match v with
 | .Tuple vs _ _=>es.any (λe=>match e with | .Name x _=>!(kIs sg x .local)|_=>true)||vs.all (foldedForSure 8)
 |_=>true
def swB(sg:Sg)(x:Str)(px:Pos)(scope:Scope)(vp:Pos):Bool:=kIs sg x .local&&px.line==vp.line&&!(scope.names.any λy=>y.1==x&&(y.2==.local||y.2==.cell))
def isCo:Ex->Bool
 | .comp _ _ _ _ _ _ _ _=>true| .comp2 _ _ _ _ _ _ _ _ _=>true|_=>false
def isDc:Ex->Bool
 | .dcomp _ _ _ _ _ _ _ _ _=>true|_=>false
def setOk(sg:Sg)(x:Str)(px:Pos)(a:Ex)(v:Expr):Bool:=match v with
 | .ListComp _ _ scope vp=>sg.sc.kind==.function&&(!swB sg x px scope vp||isCo a)
 | .DictComp _ _ _ scope vp=>sg.sc.kind==.function&&(!swB sg x px scope vp||isDc a)
 |v=>ZO v
def zGS(sg:Sg)(i j:Nat)(x y:Str)(px py:Pos)(a b:Expr):Bool :=
 sg.sc.kind==.function&&sg.N[i]?==some x&&sg.N[j]?==some y&&i != j&&kIs sg x .local&&kIs sg y .local&&py.line==px.line&&!(x==y)&&!zV a&&!zV b&&!([a,b].all (foldedForSure 8))&&!([a,b].all (constantsAlone 8))
def isTr:Tx->Bool
 | .tTr=>true|_=>false
def zC2:Ix->Expr->Bool
 | .iZ _ _ _,e=>match e with
  | .Tuple _ _ _=>true|_=>false
 | .iZA _ _,e=>match e with
  | .Tuple _ _ _=>true|_=>false
 | .iE _ _,e=>match e with
  | .Tuple _ _ _=>true|_=>false
 |_,_=>true
structure SgOk(X:Cx)(sg:Sg):Prop where
 N:X.N=sg.N
 sc:X.env.scope=sg.sc
 fn:sg.top=true->∀x,X.fn x=true
 oc:∀x∈sg.oc,X.env.scope.names.lookup x=some .cell->X.fn x=true
 calm:sg.calm=true->X.calm=true
 hd:sg.calm=true->X.A.handled=none
 stk:sg.top=true->X.stack=X.env::X.outer/\X.env.frame=some X.env.locals
 nd:X.N.Nodup
 cs:∀x d,sg.cs.lookup x=some d->∃u v,X.mg x=some u/\ym v u/\∀H,Rep X.K X.mg H d v
 fs:∀i∈sg.fs,∃f fd ps,X.mg i.x=some (.ref f)/\keepIn X.K (.ref f)=true/\WP X.K fd ps []/\ps.length=i.n/\FnOkN (!i.wild) X.prog X.w X.K X.mg X.base i.lv f fd ps (spM X.K X.mg i.n i.F)
 bs:∀x∈sg.bs,X.mg x=none
 room:RoomN sg.lv X.A
 cl:sg.cl≠[]->∃T,X.mg "ThrowError"=some (.ref T)/\TCls X.K T/\∀c∈sg.cl,∃C,X.mg c=some (.ref C)/\XCls X.K c C T/\C≠T
 rs:∀c∈sg.rs,∃C,X.mg c=some (.ref C)/\excIn X.K C VB "ValueError.__new__"=true
 sm:zHF X.K
 ri:∀c∈sg.ri,RIok X.prog X.w X.K X.mg X.base c/\RAok X.K X.mg c
section
variable{X:Cx}{sg:Sg}
def JF(G:SgOk X sg){x:Str}{k:NameKind}(h:kIs sg x k=true):X.env.scope.names.lookup x=some k:=by
 rw[G.sc];simpa[kIs]using h
def jj(G:SgOk X sg){x:Str}(h:glb sg x=true):Gl X x/\(x==("__debug__":Str))=false:=by
 simp only[glb,Bool.and_eq_true,Bool.not_eq_true']at h;exact⟨JF G h.1,h.2⟩
def JG(G:SgOk X sg){x:Str}{i:Nat}{pos:Pos}(h:vis sg i x=true):PE X (.Name x pos) (Wv i):=by
 simp only[vis,Bool.and_eq_true,Bool.or_eq_true,Bool.not_eq_true']at h;refine pe_var (by rw[G.N];simpa using h.1.1) ?_ h.2.1 h.2.2;rcases h.1.2 with q|q|q
 ·exact .inl (JF G q)
 ·exact .inr (.inl (JF G q))
 ·exact .inr (.inr (JF G q))
def Gq(G:SgOk X sg){x:Str}{i:Nat}(h:locd sg i x=true):X.N[i]?=some x/\Loc X.env.scope x/\(X.fn x=true\/X.env.scope.names.lookup x=some .local):=by
 simp only[locd,Bool.and_eq_true,Bool.or_eq_true]at h;refine⟨by rw[G.N];simpa using h.1,?_⟩;rcases h.2 with q|q
 ·exact⟨.inl (JF G q),.inr (JF G q)⟩
 ·refine⟨.inr (JF G q.1),.inl ?_⟩
  rcases q.2 with q2|q2
  ·exact G.fn q2 x
  ·exact G.oc x (by simpa using q2) (JF G q.1)
def wZ(G:SgOk X sg){x:Str}(h:bIn sg x=true):X.mg x=none:=G.bs x (by simpa[bIn]using h)
def feq_of{d d':D}(h:feq d d'=true):d=d':=by
 cases d<;>cases d'<;>simp[feq]at h<;>first|rfl|(subst h;rfl)
def geq_of{d d':D}(h:geq d d'=true):d=d':=by
 unfold geq at h;split at h
 ·obtain⟨h1,h2⟩:=Bool.and_eq_true_iff.mp h
  have:=beq_iff_eq.mp h1;have:=beq_iff_eq.mp h2
  subst_vars;rfl
 ·have:=beq_iff_eq.mp h
  subst_vars;rfl
 ·exact feq_of h
def ok_glR{x:Str}{d:D}{u:Value}{v:V}{pos:Pos}(hg:Gl X x)(hm:X.mg x=some u)(r:ym v u)(hr:∀H,Rep X.K X.mg H d v)(hd:(x==("__debug__":Str))=false):EOk X (.Name x pos) (eC d) :=
 zZ (pe_glob hg hm r hd) λO H Q ⟨M,E,hl,fr,k⟩=>k _ H ((Got.refl (T0:=[]) hl fr).more (T:=[(some v,.v d)]) (FR.add fr (hr _)) Step.refl.add)
def fIs_of{k:Nat}{x:Str}(h:fIs sg k x=true):∃i,sg.fs[k]?=some i/\i.x=x:=by
 unfold fIs at h;split at h
 ·rename_i i e;exact⟨i,e,by simpa using h⟩
 ·cases h
def fArg_of{k n:Nat}(h:fArg sg n k=true):∃i,sg.fs[k]?=some i/\i.n=n/\i.lv<=sg.lv/\(sg.calm||i.wild)=true:=by
 unfold fArg at h;split at h
 ·rename_i i e
  simp only[Bool.and_eq_true,decide_eq_true_eq,beq_iff_eq]at h;exact⟨i,e,h.1.1,h.1.2,by simpa using h.2⟩
 ·cases h
def hd_of(G:SgOk X sg){b:Bool}(h:(sg.calm||b)=true):(!b)=true->X.A.handled=none:=λhb=>G.hd (by
 cases b with
 |true=>cases hb|false=>simpa using h)
def fiF_of{fs:List FI}{k:Nat}{i:FI}(h:fs[k]?=some i):fiF fs k=i.F/\fiX fs k=i.x:=by
 unfold fiF fiX;rw[h];exact⟨rfl,rfl⟩
def Jq{b:Expr}(h:uC b=true):ZL b:=by
 intro o i;cases b<;>first|rfl|(cases h)
def Z3(es:List Expr)(is:List Nat)(G:SgOk X sg)(h:QL.all2 sg is es=true):PGs X es (YM is)/\(assignEach es X.env).length=is.length/\(assignEach es X.env).findIdx? (·.1)=none:=by
 induction es generalizing is with
 |nil =>
  cases is with
  |nil=>exact⟨pgs_nil,rfl,rfl⟩|cons i is=>cases h
 |cons e es ih =>
  cases is with
  |nil=>cases h
  |cons i is =>
   simp only[QL.all2,Bool.and_eq_true]at h;obtain⟨h1,h2⟩:=h;cases e with
   |Name x pos =>
    obtain⟨q1,q2,q3⟩:=Gq G h1;obtain⟨i1,i2,i3⟩:=ih is h2;refine⟨zFH (zC8 G.nd q1 q2 q3) i1 rfl,?_,?_⟩
    ·show(assignEach es X.env).length+1=_
     rw[i2];rfl
    ·show List.findIdx? _ ((false,_)::assignEach es X.env)=none
     simp only[List.findIdx?_cons,i3];rfl
   |_=>cases h1
def gOf(K:qH):Tg->TG
 | .n i=>GR i| .t is=>gTup K is.length (YM is)
def JO(tg:Tg):GOk X (gOf X.K tg) tg.m:=by
 cases tg with
 |n i=>exact go_name i|t is=>exact zG8 is rfl
def WV{tg:Tg}{t:Expr}(hcm:sg.calm=true)(G:SgOk X sg)(h:QL tg sg t=true):PG X t (gOf X.K tg):=by
 cases tg with
 |n i =>
  simp only[QL]at h;cases t with
  |Name x pos =>
   obtain⟨q1,q2,q3⟩:=Gq G h;exact zC8 G.nd q1 q2 q3
  |_=>cases h
 |t is =>
  simp only[QL]at h;cases t with
  |Tuple es k pos =>
   obtain⟨q1,q2,q3⟩:=Z3 es is G h;exact zGp (G.calm hcm) q1 q2 q3
  |_=>cases h
def Jr(G:SgOk X sg){N:List Str}{scope:Scope}(hn:N.Nodup)(hcell:∀y∈scope.names,y.2=.cell->scope.names.lookup y.1=some .cell){cl C ex s H}:SgOk (cxB X N scope cl C ex s H) (jd sg N scope) where
 N:=rfl
 sc:=by
  show relabel scope X.env=relab scope sg.sc
  rw[<- G.sc];rfl
 fn:=λh=>by cases h
 oc:=λx h _=>by
  obtain⟨y,hy,rfl⟩:=mem_map.mp (show x∈(scope.names.filter λy=>y.2==.cell).map Prod.fst from h);obtain⟨q1,q2⟩:=mem_filter.mp hy;show(scope.names.lookup y.1==some NameKind.cell)=true;rw[hcell y q1 (by simpa using q2)];rfl
 calm:=G.calm
 hd:=G.hd
 stk:=λh=>by cases h
 nd:=hn
 cs:=G.cs
 fs:=G.fs
 bs:=G.bs
 room:=G.room
 cl:=G.cl
 rs:=G.rs
 sm:=G.sm
 ri:=G.ri
def zj(G:SgOk X sg):SgOk X.nox sg:=⟨G.N,G.sc,G.fn,G.oc,G.calm,G.hd,G.stk,G.nd,G.cs,G.fs,G.bs,G.room,G.cl,G.rs,G.sm,G.ri⟩
end
section
open Bool
def kit_of(K:qH)(T:Ty):Kit K T.s:=by
 cases T
 ·exact kit_int K
 ·exact zFw K
 ·exact zDs K
 ·exact zFx K
 ·exact kit_str K
 ·exact zFy K
def bt_of(T:Ty):bootBuiltins T.nm=some (.type T.s):=by
 cases T
 ·exact zHB
 ·exact bt_bool
 ·exact zBt
 ·exact zDt
 ·exact bt_str
 ·exact bt_dict
def nm_of(T:Ty):T.nm≠"__name__":=by cases T<;>decide +kernel
def bin_of{X:Cx}{o:Op2}{a b:Expr}{ma mb:ME}{pos:Pos}(ha:EOk X a ma)(hb:EOk X b mb):EOk X (.BinOp a o.op b pos) (JT o.f ma mb):=by
 cases o
 ·exact zCh op_addD ro_add ha hb
 ·exact zCh op_sub ro_sub ha hb
 ·exact zCh (op_mulD.or op_repL) ro_mulG ha hb
 ·exact zCh zFd ro_fdiv ha hb
 ·exact zCh op_mod ro_mod ha hb
 ·exact zCh op_pow ro_pow ha hb
def zB5{X:Cx}{sg:Sg}(G:SgOk X sg):X.A.units+21<cLine:=by have:=G.room.un;omega
def Z4{X:Cx}{sg:Sg}(G:SgOk X sg):X.A.units+20<cLine:=by have:=G.room.un;omega
def bt_sum:bootBuiltins "sum"=some (.builtin "sum"):=by decide +kernel
def bt_abs:bootBuiltins "abs"=some (.builtin "abs"):=by decide +kernel
def yH{op:CmpOp}{b:Expr}(h:y2 b=true):behindInMarks op b=false:=by
 cases b<;>first|rfl|(cases h)
def cmp_of{X:Cx}{sg:Sg}(G:SgOk X sg){o:Cp}{a b:Expr}{ma mb:ME}{pos:Pos}(hn:y2 b=true)(ha:EOk X a ma)(hb:EOk X b mb):EOk X (.Compare a [o.op] [b] pos) (JT o.f ma mb):=by
 cases o
 ·exact Zw op_lt ro_lt (yH hn) ha hb
 ·exact Zw op_le ro_le (yH hn) ha hb
 ·exact Zw op_gt ro_gt (yH hn) ha hb
 ·exact Zw op_ge ro_ge (yH hn) ha hb
 ·exact Zw (op_eq.or (zHM G.sm (zB5 G))) zHD (yH hn) ha hb
 ·exact Zw (op_ne.or (zHN G.sm (zB5 G))) zHE (yH hn) ha hb
 ·exact Zw QX (zFe (neg:=false)) (yH hn) ha hb
 ·exact Zw Zs (zFe (neg:=true)) (yH hn) ha hb
def cmpT_of{X:Cx}{sg:Sg}(G:SgOk X sg){o:Cp}{a b:Expr}{ma mb:ME}{pos:Pos}(hn:y2 b=true)(ha:EOk X a ma)(hb:EOk X b mb):TOk X (.Compare a [o.op] [b] pos) (tT (JT o.f ma mb)):=by
 cases o
 ·exact JU op_lt ro_lt (yH hn) ha hb
 ·exact JU op_le ro_le (yH hn) ha hb
 ·exact JU op_gt ro_gt (yH hn) ha hb
 ·exact JU op_ge ro_ge (yH hn) ha hb
 ·exact JU (op_eq.or (zHM G.sm (zB5 G))) zHD (yH hn) ha hb
 ·exact JU (op_ne.or (zHN G.sm (zB5 G))) zHE (yH hn) ha hb
 ·exact JU QX (zFe (neg:=false)) (yH hn) ha hb
 ·exact JU Zs (zFe (neg:=true)) (yH hn) ha hb
def zER{o o':CmpOp}{b c:Expr}(h:y2 c=true):lastMarks [o,o'] [b,c]=false:=yH h
def zB6{X:Cx}{o:Cp}(h:o.isI=true):OpR X (compareOp o.op) (rI0 λi j=>.bl (o.b i j)):=by
 cases o<;>first|exact op_lt|exact op_le|exact op_gt|exact op_ge|(cases h)
def bi_of{X:Cx}{sg:Sg}(hcm:sg.calm=true)(G:SgOk X sg)(b:Bi){x:Expr}{es:List Expr}{m:MA}{p pos:Pos}(hg:Gl X b.nm)(hm:X.mg b.nm=none)(hs:j0 (x::es)=true)(ha:AOk X (x::es) m):EOk X (.Call (.Name b.nm p) (x::es) [] pos) (eCB b.f m):=by
 have h1:zV x=false:=by simp only[j0,Bool.and_eq_true,Bool.not_eq_true']at hs;exact hs.1
 have h2:j0 es=true:=by simp only[j0,Bool.and_eq_true,Bool.not_eq_true']at hs;exact hs.2
 cases b with
 |len=>exact Ys Zt co_len hg hm bt_len ha (by decide +kernel) (by decide +kernel) h1 h2|max=>exact Ys (zDM (G.calm hcm)) co_max hg hm zHA ha (by decide +kernel) (by decide +kernel) h1 h2|all=>exact Ys (zFZ (G.calm hcm)) co_all hg hm bt_all ha (by decide +kernel) (by decide +kernel) h1 h2|int=>exact W4 zDN co_int hg hm zHB ha (by decide +kernel) (by decide +kernel) h1 h2|tuple=>exact W4 GU zFg hg hm zBt ha (by decide +kernel) (by decide +kernel) h1 h2|sum=>exact Ys (call_or (zDv (G.calm hcm)) (zDw (G.calm hcm))) co_sumG hg hm bt_sum ha (by decide +kernel) (by decide +kernel) h1 h2|abs=>exact Ys zFN co_absG hg hm bt_abs ha (by decide +kernel) (by decide +kernel) h1 h2|lisK=>exact W4 (zCp (G.calm hcm)) zGO hg hm zDt ha (by decide +kernel) (by decide +kernel) h1 h2
theorem zES(fs:List FI):∀as:Gx,(dG fs as).length=gLen as
 | .nil=>rfl| .ev a as=>congrArg (·+1) (zES fs as)| .lend i as=>congrArg (·+1) (zES fs as)
def call_ok{X:Cx}{sg:Sg}(G:SgOk X sg){k:Nat}{as:Gx}{f:Str}{x:Expr}{es:List Expr}{p pos:Pos}(h1:glb sg f=true)(h2:fIs sg k f=true)(h3:fArg sg (gLen as) k=true)(h4:j0 (x::es)=true)(ha:zE9 X (x::es) (dG sg.fs as)):EOk X (.Call (.Name f p) (x::es) [] pos) (jn (fiF sg.fs k) (dG sg.fs as)):=by
 obtain⟨g1,g2⟩:=jj G h1;obtain⟨i,e1,e2⟩:=fIs_of h2;obtain⟨i',e1',e3,e4,e5⟩:=fArg_of h3;rw[e1]at e1';cases e1';obtain⟨a,fd,ps,m1,m2,m3,m4,m5⟩:=G.fs i (mem_of_getElem? e1);rw[(fiF_of e1).1];subst e2;simp only[j0,Bool.and_eq_true,Bool.not_eq_true']at h4;rw[<- m4]at m5;exact ok_call m5 (hd_of G e5) (G.room.mono e4) g1 m1 m2 m3 ha (by rw[zES,m4,e3]) g2 h4.1 h4.2
theorem vU{X:Cx}{sg:Sg}(G:SgOk X sg){scope:Scope}:∀{caps:List Nat} {capn:List Str},capB sg scope caps capn=true->Gm X scope caps capn
 | [],[],_=>trivial| [],_::_,h=>by cases h|_::_,[],h=>by cases h
 |j::js,x::xs,h=>by
  simp only[capB,Bool.and_eq_true]at h;exact⟨by rw[G.N];simpa using h.1.1,by simpa using h.1.2,vU G h.2⟩
end
section
def aug_of{b:Expr}(h:uC b=true):∀ov iv new,augStore b ov iv new=(do holding [new,ov,iv] (setItem ov iv new);release [new,ov,iv] [];pure .next):=by
 cases b<;>first|(intros;rfl)|(cases h)
def zHR{x:Str}{p p1:Pos}{b:Expr}{env:Env}(h:uC b=true):∀v,assign (.Subscript (.Name x p) b p1) env v=(do
   let ov <- holding [v] (eval (.Name x p) env)
   let iv <- holding [v,ov] (eval b env)
   standAt p1
   holding [v,ov,iv] (setItem ov iv v)
   release [v,ov,iv] []):=by
 intro v;cases b<;>first|rfl|(cases h)
def zA5{t e:Expr}{l:Nat}{env:Env}(h:ZO e=true):swapsWithSole [t] e l env=pure false:=by
 show swapsWith e (some t) l env=pure false
 exact GY h
def zGT{a b e:Expr}{p:Pos}{l:Nat}{env:Env}:swapsWithSole [.Subscript a b p] e l env=pure false:=by cases e<;>rfl
def zA6{X:Cx}{sg:Sg}(G:SgOk X sg)(h:(sg.sc.kind==ScopeKind.function)=true):X.env.blockKind=.function:=by
 have:X.env.scope.kind=.function:=by rw[G.sc];exact beq_iff_eq.mp h
 unfold Env.blockKind;rw[this];rfl
def zET{X:Cx}{sg:Sg}(G:SgOk X sg)(hk:(sg.sc.kind==ScopeKind.function)=true){ke ve:Expr}{gs:List Comprehension}{scope:Scope}{vp px:Pos}{x:Str}{l:Nat}:swapsWith (.DictComp ke ve gs scope vp) (some (.Name x px)) l X.env=pure (swB sg x px scope vp):=by
 show(pure (X.env.blockKind==.function&&X.env.kindOf x==some .local&&px.line==vp.line&&!(scope.names.any λ(n,k)=>n==x&&(k==.local||k==.cell))):Sem Bool)=_
 rw[zA6 G hk];unfold swB kIs Env.kindOf;rw[G.sc];simp
def zHS{X:Cx}{sg:Sg}(G:SgOk X sg)(hk:(sg.sc.kind==ScopeKind.function)=true){el:Expr}{gs:List Comprehension}{scope:Scope}{vp px:Pos}{x:Str}{l:Nat}:swapsWith (.ListComp el gs scope vp) (some (.Name x px)) l X.env=pure (swB sg x px scope vp):=by
 show(pure (X.env.blockKind==.function&&X.env.kindOf x==some .local&&px.line==vp.line&&!(scope.names.any λ(n,k)=>n==x&&(k==.local||k==.cell))):Sem Bool)=_
 rw[zA6 G hk];unfold swB kIs Env.kindOf;rw[G.sc];simp
theorem zHT{α β:Type}(f:α->Option β):∀l:List α,(l.filterMap f).length<=l.length
 | []=>le_refl _
 |a::l=>by
  have:=zHT f l;rw[filterMap_cons];split
  ·simp only[length_cons];omega
  ·simp only[length_cons];omega
theorem fm_lt{α β:Type}(f:α->Option β):∀l:List α,(∃a∈l,f a=none)->(l.filterMap f).length<l.length
 | [],h=>by obtain⟨a,h,_⟩:=h;cases h
 |b::l,h=>by
  obtain⟨a,hm,hf⟩:=h;rw[filterMap_cons];rcases mem_cons.mp hm with rfl|hm
  ·rw[hf]
   have:=zHT f l;simp only[length_cons];omega
  ·have:=fm_lt f l ⟨a,hm,hf⟩
   split
   ·simp only[length_cons];omega
   ·simp only[length_cons];omega
def sw_ok{X:Cx}{sg:Sg}(G:SgOk X sg){es:List Expr}{k:Nat}{p:Pos}{v:Expr}(h:swOk sg es v=true):swappedStores [.Tuple es k p] v X.env=pure none:=by
 cases v with
 |Tuple vs k2 p2 =>
  unfold swappedStores;dsimp only;split
  ·rfl
  split
  ·rfl
  split
  ·rfl
  rename_i hn;split
  ·rfl
  rename_i hf
  exfalso
  rcases Bool.or_eq_true _ _ |>.mp h with h|h
  ·obtain⟨e,he,hk⟩:=List.any_eq_true.mp h
   refine hn (Bool.or_eq_true _ _ |>.mpr (.inl ?_));refine bne_iff_ne.mpr (ne_of_lt (fm_lt _ es ⟨e,he,?_⟩));cases e with
   |Name x q =>
    have:X.env.kindOf x≠some .local:=λz=>by
     have z':sg.sc.names.lookup x=some .local:=by rw[<- G.sc];exact z
     simp[kIs,z']at hk
    have e1:(X.env.kindOf x==some NameKind.local)=false:=by simpa using this
    simp[e1]
   |_=>rfl
  ·exact hf h
 |_=>rfl
def sw_par0{env:Env}{x y:Str}{px py p p2:Pos}{a b:Expr}{kt k2:Nat}(hk:env.blockKind=.function)(hx:env.kindOf x=some .local)(hy:env.kindOf y=some .local)(hl:py.line=px.line)(hxy:(x==y)=false)(ha:zV a=false)(hb:zV b=false)(hf:[a,b].all (foldedForSure 8)=false)(hc:[a,b].all (constantsAlone 8)=false) :
  swappedStores [.Tuple [.Name x px,.Name y py] kt p] (.Tuple [a,b] k2 p2) env=pure (some [x,y]):=by
 have sa:∀e:Expr,(match e with | .Starred _ _=>true|_=>false)=zV e:=λe=>by cases e<;>rfl
 have e1:([Expr.Name x px,Expr.Name y py].filterMap fun
  | .Name id pos=>if env.kindOf id==some .local&&pos.line==px.line then some id else none|_=>none)=[x,y]:=by simp[hx,hy,hl]
 have e2:[x,y].eraseDups.length=2:=by
  have:y≠x:=λz=>by subst z;simp at hxy
  have h2:(y==x)=false:=by simpa using this
  simp[List.eraseDups,List.eraseDupsBy,List.eraseDupsBy.loop,h2]
 have e3:([a,b].any fun | .Starred ..=>true|_=>false)=false:=by
  simp only[any_cons,List.any_nil,Bool.or_false];rw[sa,sa,ha,hb];rfl
 show(if !(2==2||2==3)||2 != 2||env.blockKind != .function then pure none else if([a,b].any fun | .Starred ..=>true|_=>false)then pure none else
  (let names:=([Expr.Name x px,Expr.Name y py].filterMap fun
  | .Name id pos=>if env.kindOf id==some .local&&pos.line==px.line then some id else none|_=>none)
  if names.length != 2||names.eraseDups.length != names.length then pure none else if [a,b].all (foldedForSure 8)then pure none else if [a,b].all (constantsAlone 8)then(do unsupported "assign.tuple-of-constant-expressions:order-of-the-stores";pure (some names))else pure (some names)):Sem (Option (List Str)))=_
 rw[hk,e3,e1,hf,hc];simp[e2]
def sw_par{X:Cx}{sg:Sg}(G:SgOk X sg){i j:Nat}{x y:Str}{px py p p2:Pos}{a b:Expr}{kt k2:Nat}(h:zGS sg i j x y px py a b=true):swappedStores [.Tuple [.Name x px,.Name y py] kt p] (.Tuple [a,b] k2 p2) X.env=pure (some [x,y]):=by
 unfold zGS at h;simp only[Bool.and_eq_true,Bool.not_eq_true',beq_iff_eq,bne_iff_ne]at h;obtain⟨⟨⟨⟨⟨⟨⟨⟨⟨⟨⟨kk,_⟩,_⟩,_⟩,l1⟩,l2⟩,ln⟩,xy⟩,sa⟩,sb⟩,f1⟩,f2⟩:=h;exact sw_par0 (zA6 G (by rw[kk];rfl)) (JF G l1) (JF G l2) ln xy sa sb f1 f2
def zHU{X:Cx}{op:BoolOp}{vs:List Expr}{p:Pos}{m:MT}(h:TOk X (.BoolOp op vs p) m):WOk X (.BoolOp op vs p) m:=λwh=>h
def few_of{e:Expr}{env:Env}{cpos:Pos}(h:zV e=false):((backTo cpos (starEach (e::[]) env)).all (λx=>!x.1)&&(backToKw cpos (keywordEach [] env)).all (λx=>x.1.isSome)
   && decide ((e::([]:List Expr)).length+([]:List Keyword).length+(if([]:List Keyword).isEmpty then 0 else 1)<30))=true:=by
 rw[zm h];rfl
def zE{a b:Bool}(h:(a&&b)=true):a=true/\b=true:=by simpa using h
def nst{a:Bool}(h:(!a)=true):a=false:=by simpa using h
def zB7{X:Cx}{fs:List FI}{tt:Tx}(h:isTr tt=true):zFv X [] (dT fs tt):=by
 cases tt<;>first|(cases h;done)|exact vF
structure Ck(P:Prop) where
 yes:Bool
 why:yes=true->P
instance {P:Prop}:Inhabited (Ck P):=⟨⟨false,λh=>nomatch h⟩⟩
@[elab_as_elim] def qAnd{M:BoolOp->Type}[∀e,Inhabited (M e)](e:BoolOp)(f:M .And):M e:=match e with
 | .And=>f|_=>default
@[elab_as_elim] def qAssign{M:Stmt->Type}[∀e,Inhabited (M e)](e:Stmt)(f:∀a b c,M (.Assign a b c)):M e:=match e with
 | .Assign a b c=>f a b c|_=>default
@[elab_as_elim] def qAttribute{M:Expr->Type}[∀e,Inhabited (M e)](e:Expr)(f:∀a b c,M (.Attribute a b c)):M e:=match e with
 | .Attribute a b c=>f a b c|_=>default
@[elab_as_elim] def qAugAssign{M:Stmt->Type}[∀e,Inhabited (M e)](e:Stmt)(f:∀a b c d,M (.AugAssign a b c d)):M e:=match e with
 | .AugAssign a b c d=>f a b c d|_=>default
@[elab_as_elim] def qBinOp{M:Expr->Type}[∀e,Inhabited (M e)](e:Expr)(f:∀a b c d,M (.BinOp a b c d)):M e:=match e with
 | .BinOp a b c d=>f a b c d|_=>default
@[elab_as_elim] def qBoolOp{M:Expr->Type}[∀e,Inhabited (M e)](e:Expr)(f:∀a b c,M (.BoolOp a b c)):M e:=match e with
 | .BoolOp a b c=>f a b c|_=>default
@[elab_as_elim] def qCall{M:Expr->Type}[∀e,Inhabited (M e)](e:Expr)(f:∀a b c d,M (.Call a b c d)):M e:=match e with
 | .Call a b c d=>f a b c d|_=>default
@[elab_as_elim] def qCompare{M:Expr->Type}[∀e,Inhabited (M e)](e:Expr)(f:∀a b c d,M (.Compare a b c d)):M e:=match e with
 | .Compare a b c d=>f a b c d|_=>default
@[elab_as_elim] def qConstant{M:Expr->Type}[∀e,Inhabited (M e)](e:Expr)(f:∀a b c,M (.Constant a b c)):M e:=match e with
 | .Constant a b c=>f a b c|_=>default
@[elab_as_elim] def qDict{M:Expr->Type}[∀e,Inhabited (M e)](e:Expr)(f:∀a b c,M (.Dict a b c)):M e:=match e with
 | .Dict a b c=>f a b c|_=>default
@[elab_as_elim] def qDictComp{M:Expr->Type}[∀e,Inhabited (M e)](e:Expr)(f:∀a b c d e,M (.DictComp a b c d e)):M e:=match e with
 | .DictComp a b c d e=>f a b c d e|_=>default
@[elab_as_elim] def qExpr{M:Stmt->Type}[∀e,Inhabited (M e)](e:Stmt)(f:∀a b,M (.Expr a b)):M e:=match e with
 | .Expr a b=>f a b|_=>default
@[elab_as_elim] def qFor{M:Stmt->Type}[∀e,Inhabited (M e)](e:Stmt)(f:∀a b c d e,M (.For a b c d e)):M e:=match e with
 | .For a b c d e=>f a b c d e|_=>default
@[elab_as_elim] def qIf{M:Stmt->Type}[∀e,Inhabited (M e)](e:Stmt)(f:∀a b c d,M (.If a b c d)):M e:=match e with
 | .If a b c d=>f a b c d|_=>default
@[elab_as_elim] def qIfExp{M:Expr->Type}[∀e,Inhabited (M e)](e:Expr)(f:∀a b c d,M (.IfExp a b c d)):M e:=match e with
 | .IfExp a b c d=>f a b c d|_=>default
@[elab_as_elim] def qList{M:Expr->Type}[∀e,Inhabited (M e)](e:Expr)(f:∀a b,M (.List a b)):M e:=match e with
 | .List a b=>f a b|_=>default
@[elab_as_elim] def qListComp{M:Expr->Type}[∀e,Inhabited (M e)](e:Expr)(f:∀a b c d,M (.ListComp a b c d)):M e:=match e with
 | .ListComp a b c d=>f a b c d|_=>default
@[elab_as_elim] def qName{M:Expr->Type}[∀e,Inhabited (M e)](e:Expr)(f:∀a b,M (.Name a b)):M e:=match e with
 | .Name a b=>f a b|_=>default
@[elab_as_elim] def qNot{M:UnaryOp->Type}[∀e,Inhabited (M e)](e:UnaryOp)(f:M .Not):M e:=match e with
 | .Not=>f|_=>default
@[elab_as_elim] def qOr{M:BoolOp->Type}[∀e,Inhabited (M e)](e:BoolOp)(f:M .Or):M e:=match e with
 | .Or=>f|_=>default
@[elab_as_elim] def qReturn{M:Stmt->Type}[∀e,Inhabited (M e)](e:Stmt)(f:∀a b,M (.Return a b)):M e:=match e with
 | .Return a b=>f a b|_=>default
@[elab_as_elim] def qSlice{M:Expr->Type}[∀e,Inhabited (M e)](e:Expr)(f:∀a b c d,M (.Slice a b c d)):M e:=match e with
 | .Slice a b c d=>f a b c d|_=>default
@[elab_as_elim] def qSubscript{M:Expr->Type}[∀e,Inhabited (M e)](e:Expr)(f:∀a b c,M (.Subscript a b c)):M e:=match e with
 | .Subscript a b c=>f a b c|_=>default
@[elab_as_elim] def qTuple{M:Expr->Type}[∀e,Inhabited (M e)](e:Expr)(f:∀a b c,M (.Tuple a b c)):M e:=match e with
 | .Tuple a b c=>f a b c|_=>default
@[elab_as_elim] def qUSub{M:UnaryOp->Type}[∀e,Inhabited (M e)](e:UnaryOp)(f:M .USub):M e:=match e with
 | .USub=>f|_=>default
@[elab_as_elim] def qUnaryOp{M:Expr->Type}[∀e,Inhabited (M e)](e:Expr)(f:∀a b c,M (.UnaryOp a b c)):M e:=match e with
 | .UnaryOp a b c=>f a b c|_=>default
@[elab_as_elim] def qWhile{M:Stmt->Type}[∀e,Inhabited (M e)](e:Stmt)(f:∀a b c d,M (.While a b c d)):M e:=match e with
 | .While a b c d=>f a b c d|_=>default
@[elab_as_elim] def qCons{α:Type}{M:List α->Type}[∀e,Inhabited (M e)](e:List α)(f:∀a b,M (a::b)):M e:=match e with
 |a::b=>f a b| []=>default
@[elab_as_elim] def qNil{α:Type}{M:List α->Type}[∀e,Inhabited (M e)](e:List α)(f:M []):M e:=match e with
 | []=>f|_::_=>default
@[elab_as_elim] def qSome{α:Type}{M:Option α->Type}[∀e,Inhabited (M e)](e:Option α)(f:∀a,M (some a)):M e:=match e with
 |some a=>f a|none=>default
@[elab_as_elim] def qNone{α:Type}{M:Option α->Type}[∀e,Inhabited (M e)](e:Option α)(f:M none):M e:=match e with
 |none=>f|some _=>default
@[elab_as_elim] def qCm{M:Comprehension->Type}[∀e,Inhabited (M e)](e:Comprehension)(f:∀a b c,M ⟨a,b,c,0⟩):M e:=match e with
 |⟨a,b,c,0⟩=>f a b c|_=>default
@[elab_as_elim] def qKw{M:Keyword->Type}[∀e,Inhabited (M e)]:(e:Keyword)->(f:∀a b c,M ⟨a,b,c⟩)->M e
 |⟨a,b,c⟩,f=>f a b c
def gkE{t:Ex}{sg:Sg}{e:Expr}{X:Cx}{c:Ck (∀X,SgOk X sg->EOk X e (dE sg.fs t))}(h:c.yes=true)(G:SgOk X sg):EOk X e (dE sg.fs t):=c.why h X G
def gkT{t:Tx}{sg:Sg}{e:Expr}{X:Cx}{c:Ck (∀X,SgOk X sg->TOk X e (dT sg.fs t))}(h:c.yes=true)(G:SgOk X sg):TOk X e (dT sg.fs t):=c.why h X G
def gkA{t:Ax}{sg:Sg}{e:List Expr}{X:Cx}{c:Ck (∀X,SgOk X sg->AOk X e (dA sg.fs t))}(h:c.yes=true)(G:SgOk X sg):AOk X e (dA sg.fs t):=c.why h X G
def gkG{t:Gx}{sg:Sg}{e:List Expr}{X:Cx}{c:Ck (∀X,SgOk X sg->zE9 X e (dG sg.fs t))}(h:c.yes=true)(G:SgOk X sg):zE9 X e (dG sg.fs t):=c.why h X G
def gkO{t:Ox}{sg:Sg}{e:Option Expr}{X:Cx}{c:Ck (∀X,SgOk X sg->OOk X e (dO sg.fs t))}(h:c.yes=true)(G:SgOk X sg):OOk X e (dO sg.fs t):=c.why h X G
def gkI{t:Ix}{sg:Sg}{e tg:Expr}{X:Cx}{c:Ck (∀X tg,SgOk X sg->zC2 t tg=true->IOk X tg e (dI sg.fs t))}(h:c.yes=true)(G:SgOk X sg)(z:zC2 t tg=true):IOk X tg e (dI sg.fs t):=c.why h X tg G z
def gkS{t:Sx}{sg:Sg}{e:Stmt}{X:Cx}{c:Ck (∀X,SgOk X sg->SOk X e (dS sg.fs t))}(h:c.yes=true)(G:SgOk X sg):SOk X e (dS sg.fs t):=c.why h X G
def gkB{t:Bx}{sg:Sg}{e:List Stmt}{X:Cx}{c:Ck (∀X,SgOk X sg->zAc X e (dB sg.fs t))}(h:c.yes=true)(G:SgOk X sg):zAc X e (dB sg.fs t):=c.why h X G
mutual
noncomputable def cE:(t:Ex)->(sg:Sg)->(e:Expr)->Ck (∀X,SgOk X sg->EOk X e (dE sg.fs t))
 | .c d,sg,e=>qConstant e λk _ _=>⟨cIs d k,λh X G=>by
   unfold cIs at h;split at h
   ·exact ok_non
   ·have:=(beq_iff_eq.mp h);subst this;exact ok_bl
   ·have:=(beq_iff_eq.mp h);subst this;exact ok_int
   ·have:=(beq_iff_eq.mp h);subst this;exact ok_str
   ·cases h⟩
 | .gl d,sg,e=>qName e λx _=>⟨glb sg x&&gIs sg x d,λh X G=>by
   obtain⟨h1,h2⟩:=zE h;obtain⟨g1,g2⟩:=jj G h1;unfold gIs at h2;split at h2
   ·rename_i d' e
    have:=geq_of h2;subst this;obtain⟨u,v,q1,q2,q3⟩:=G.cs x d e;exact ok_glR g1 q1 q2 q3 g2
   ·cases h2⟩
 | .var i,sg,e=>qName e λx _=>⟨vis sg i x,λh X G=>by
   exact ok_var i (JG G h)⟩
 | .mov i,sg,e=>qName e λx _=>⟨vis sg i x,λh X G=>by
   exact ok_move i (JG G h)⟩
 | .bin o a b,sg,e=>qBinOp e λx op y _=>⟨op==o.op&&((cE a sg x).yes&&(cE b sg y).yes),λh X G=>by
   obtain⟨h1,h2⟩:=zE h;obtain⟨h2,h3⟩:=zE h2;have:=beq_iff_eq.mp h1;subst this;exact bin_of (gkE h2 G) (gkE h3 G)⟩
 | .cmp o a b,sg,e=>qCompare e λx w1 w2 _=>qCons w1 λop w4=>qNil w4 <| qCons w2 λy w3=>qNil w3 <| ⟨op==o.op&&y2 y&&((cE a sg x).yes&&(cE b sg y).yes),λh X G=>by
   obtain⟨h1,h2⟩:=zE h;obtain⟨h1,h0⟩:=zE h1;obtain⟨h2,h3⟩:=zE h2;have:=beq_iff_eq.mp h1;subst this;exact cmp_of G h0 (gkE h2 G) (gkE h3 G)⟩
 | .chain o o' a b c,sg,e=>qCompare e λx w1 w2 _=>qCons w1 λop w5=>qCons w5 λop' w6=>qNil w6 <| qCons w2 λy w3=>qCons w3 λz w4=>qNil w4 <| ⟨op==o.op&&op'==o'.op&&o.isI&&o'.isI&&y2 z&&((cE a sg x).yes&&((cE b sg y).yes&&(cE c sg z).yes)),λh X G=>by
   obtain⟨h1,h2⟩:=zE h;obtain⟨h1,k5⟩:=zE h1;obtain⟨h1,k4⟩:=zE h1;obtain⟨h1,k3⟩:=zE h1;obtain⟨k1,k2⟩:=zE h1;obtain⟨h2,h3⟩:=zE h2;obtain⟨h3,h4⟩:=zE h3;have:=beq_iff_eq.mp k1;subst this;have:=beq_iff_eq.mp k2;subst this;exact zFz (zB6 k3) (zB6 k4) (gkE h2 G) (gkE h3 G) (gkE h4 G) (zER k5)⟩
 | .neg a,sg,e=>qUnaryOp e λw1 x _=>qUSub w1 <| ⟨(cE a sg x).yes,λh X G=>by
   exact ok_neg (gkE h G)⟩
 | .not a,sg,e=>qUnaryOp e λw1 x _=>qNot w1 <| ⟨(cE a sg x).yes,λh X G=>by
   exact ok_not (gkE h G)⟩
 | .and a b,sg,e=>qBoolOp e λw1 w2 p=>qAnd w1 <| qCons w2 λx w3=>qCons w3 λy r=>⟨(cE a sg x).yes&&(match r with | []=>(cE b sg y).yes|z::r'=>(cE b sg (.BoolOp .And (y::z::r') p)).yes),λh X G=>by
   obtain⟨h1,h2⟩:=zE h;cases r with
   |nil=>exact zG4 (gkE h1 G) (ok_one (gkE h2 G))|cons z r'=>exact zG4 (gkE h1 G) (gkE h2 G)⟩
 | .ifx t a b,sg,e=>qIfExp e λc x y _=>⟨(cT t sg c).yes&&((cE a sg x).yes&&(cE b sg y).yes),λh X G=>by
   obtain⟨h1,h2⟩:=zE h;obtain⟨h2,h3⟩:=zE h2;exact ok_if (gkT h1 G) (gkE h2 G) (gkE h3 G)⟩
 | .t as,sg,e=>qTuple e λes _ _=>⟨(cA as sg es).yes,λh X G=>by
   exact ok_tup (gkA h G)⟩
 | .l as,sg,e=>qList e λes _=>⟨(cA as sg es).yes,λh X G=>by
   exact ok_lst (gkA h G)⟩
 | .ix a b,sg,e=>qSubscript e λx y _=>⟨uC y&&((cE a sg x).yes&&(cE b sg y).yes),λh X G=>by
   obtain⟨h1,h2⟩:=zE h;obtain⟨h2,h3⟩:=zE h2;exact ok_ix ix_both ro_ix (Jq h1) (gkE h2 G) (gkE h3 G)⟩
 | .ixO i b,sg,e=>qSubscript e λw1 y _=>qName w1 λx _=>⟨vis sg i x&&uC y&&(cE b sg y).yes,λh X G=>by
   obtain⟨h1,h2⟩:=zE h;obtain⟨h1,h3⟩:=zE h1;exact ok_ixO i (JG G h1) (gkE h2 G) (Jq h3)⟩
 | .lenO i,sg,e=>qCall e λw1 w2 w3 _=>qName w1 λf _=>qCons w2 λw4 w5=>qName w4 λx _=>qNil w5 <| qNil w3 <| ⟨f == "len"&&glb sg "len"&&bIn sg "len"&&vis sg i x,λh X G=>by
   obtain⟨h1,h2⟩:=zE h;obtain⟨h1,h3⟩:=zE h1;obtain⟨h1,h4⟩:=zE h1;have:=beq_iff_eq.mp h1;subst this;exact ok_lenO i (JG G h2) (jj G h4).1 (wZ G h3)⟩
 | .sl a l hh,sg,e=>qSubscript e λx w1 _=>qSlice w1 λlo hi w2 _=>qNone w2 <| ⟨(cE a sg x).yes&&((cO l sg lo).yes&&(cO hh sg hi).yes),λh X G=>by
   obtain⟨h1,h2⟩:=zE h;obtain⟨h2,h3⟩:=zE h2;exact ok_sl (gkE h1 G) (gkO h2 G) (gkO h3 G)⟩
 | .comp nl loc capn caps it tg tt el,sg,e=>qListComp e λelt w1 scope _=>qCons w1 λw2 w3=>qCm w2 λtarget iter ifs=>qNil w3 <| ⟨sg.calm&&(WU sg nl loc capn caps scope&&y2 iter&&((zC2 it target&&(cI it sg iter).yes)&&(QL tg (jd sg (loc++capn) scope) target&&((match ifs with | []=>isTr tt|c::cs=>cs.isEmpty&&(cT tt (jd sg (loc++capn) scope) c).yes)&&(cE el (jd sg (loc++capn) scope) elt).yes)))),λh X G=>by
   obtain⟨hcm,h⟩:=zE h;obtain⟨h1,h2⟩:=zE h;obtain⟨h1,k9⟩:=zE h1;unfold WU at h1;obtain⟨h1,k7⟩:=zE h1;obtain⟨h1,k6⟩:=zE h1;obtain⟨h1,k5⟩:=zE h1;obtain⟨h1,k4⟩:=zE h1;obtain⟨h1,k3⟩:=zE h1;obtain⟨k1,k2⟩:=zE h1;obtain⟨q1,q2⟩:=zE h2;obtain⟨q0,q1⟩:=zE q1;obtain⟨q2,q3⟩:=zE q2;obtain⟨q3,q4⟩:=zE q3;have nd:(loc++capn).Nodup:=of_decide_eq_true k3;have kc:∀y∈scope.names,y.2=.cell->scope.names.lookup y.1=some .cell:=λy hy hc=>by
    have:=all_eq_true.mp k5 y hy;rw[hc]at this;simpa using this
   have I:∀cl C ex s H,SgOk (cxB X.nox (loc++capn) scope cl C ex s H) (jd sg (loc++capn) scope):=λ_ _ _ _ _=>Jr (zj G) nd kc
   refine no_E (ok_lc (X:=X.nox) loc capn (beq_iff_eq.mp k1) (λe s z=>z) (G.calm hcm) (beq_iff_eq.mp k2) (λy hy hl=>?_) (λy hy hc=>?_) (by rw[show X.env.kindOf=λn=>X.env.scope.names.lookup n from rfl,G.sc];exact k6) (vU (zj G) k7) (gkI q1 (zj G) q0) (g:=gOf X.K tg) (λcl C ex s H=>WV (sg:=jd sg (loc++capn) scope) hcm (I cl C ex s H) q2) (JO tg) (λcl C ex s H=>?_) (λcl C ex s H=>gkE (sg:=jd sg (loc++capn) scope) q4 (I cl C ex s H)) (yM k9))
   ·have:=all_eq_true.mp k4 y hy
    rw[hl]at this;simpa using this
   ·exact kc y hy hc
   ·cases ifs with
    |nil=>exact zB7 q3
    |cons c cs =>
     obtain⟨q3,q5⟩:=zE q3;have:=isEmpty_iff.mp q3;subst this;exact Gi (gkT (sg:=jd sg (loc++capn) scope) q5 (I cl C ex s H))⟩
 | .dcomp nl loc capn caps it tg tt ka va,sg,e=>qDictComp e λke ve w1 scope _=>qCons w1 λw2 w3=>qCm w2 λtarget iter ifs=>qNil w3 <| ⟨sg.calm&&(WU sg nl loc capn caps scope&&y2 iter&&((zC2 it target&&(cI it sg iter).yes)&&(QL tg (jd sg (loc++capn) scope) target&&((match ifs with | []=>isTr tt|c::cs=>cs.isEmpty&&(cT tt (jd sg (loc++capn) scope) c).yes)&&((cE ka (jd sg (loc++capn) scope) ke).yes&&(cE va (jd sg (loc++capn) scope) ve).yes))))),λh X G=>by
   obtain⟨hcm,h⟩:=zE h;obtain⟨h1,h2⟩:=zE h;obtain⟨h1,k9⟩:=zE h1;unfold WU at h1;obtain⟨h1,k7⟩:=zE h1;obtain⟨h1,k6⟩:=zE h1;obtain⟨h1,k5⟩:=zE h1;obtain⟨h1,k4⟩:=zE h1;obtain⟨h1,k3⟩:=zE h1;obtain⟨k1,k2⟩:=zE h1;obtain⟨q1,q2⟩:=zE h2;obtain⟨q0,q1⟩:=zE q1;obtain⟨q2,q3⟩:=zE q2;obtain⟨q3,q4⟩:=zE q3;obtain⟨q4,q6⟩:=zE q4;have nd:(loc++capn).Nodup:=of_decide_eq_true k3;have kc:∀y∈scope.names,y.2=.cell->scope.names.lookup y.1=some .cell:=λy hy hc=>by
    have:=all_eq_true.mp k5 y hy;rw[hc]at this;simpa using this
   have I:∀cl C ex s H,SgOk (cxB X.nox (loc++capn) scope cl C ex s H) (jd sg (loc++capn) scope):=λ_ _ _ _ _=>Jr (zj G) nd kc
   refine no_E (ok_dc (X:=X.nox) loc capn (by have:=Z4 G;show X.A.units<_;omega) (beq_iff_eq.mp k1) (λe s z=>z) (G.calm hcm) (beq_iff_eq.mp k2) (λy hy hl=>?_) (λy hy hc=>?_) (by rw[show X.env.kindOf=λn=>X.env.scope.names.lookup n from rfl,G.sc];exact k6) (vU (zj G) k7) (gkI q1 (zj G) q0) (g:=gOf X.K tg) (λcl C ex s H=>WV (sg:=jd sg (loc++capn) scope) hcm (I cl C ex s H) q2) (JO tg) (λcl C ex s H=>?_) (λcl C ex s H=>gkE (sg:=jd sg (loc++capn) scope) q4 (I cl C ex s H)) (λcl C ex s H=>gkE (sg:=jd sg (loc++capn) scope) q6 (I cl C ex s H)) (yM k9))
   ·have:=all_eq_true.mp k4 y hy
    rw[hl]at this;simpa using this
   ·exact kc y hy hc
   ·cases ifs with
    |nil=>exact zB7 q3
    |cons c cs =>
     obtain⟨q3,q5⟩:=zE q3;have:=isEmpty_iff.mp q3;subst this;exact Gi (gkT (sg:=jd sg (loc++capn) scope) q5 (I cl C ex s H))⟩
 | .dgO i b,sg,e=>qSubscript e λw1 y _=>qName w1 λx _=>⟨vis sg i x&&uC y&&(cE b sg y).yes,λh X G=>by
   obtain⟨h1,h2⟩:=zE h;obtain⟨h1,h3⟩:=zE h1;exact ok_dgO i (by have:=Z4 G;omega) (JG G h1) (Jq h3) (gkE h2 G)⟩
 | .dg a b,sg,e=>qSubscript e λx y _=>⟨uC y&&((cE a sg x).yes&&(cE b sg y).yes),λh X G=>by
   obtain⟨h1,h2⟩:=zE h;obtain⟨h2,h3⟩:=zE h2;exact ok_dg (by have:=Z4 G;omega) (Jq h1) (gkE h2 G) (gkE h3 G)⟩
 | .ninO i a,sg,e=>qCompare e λx w1 w2 _=>qCons w1 λop w5=>qNil w5 <| qCons w2 λw3 w4=>qName w3 λy _=>qNil w4 <| ⟨op==.NotIn&&vis sg i y&&(cE a sg x).yes,λh X G=>by
   obtain⟨h,k2⟩:=zE h;obtain⟨k0,k1⟩:=zE h;have:=beq_iff_eq.mp k0;subst this;exact ok_ninO i (by have:=Z4 G;omega) (JG G k1) (gkE k2 G)⟩
 | .disp a b,sg,e=>qDict e λw1 w2 _=>qCons w1 λw4 w5=>qSome w4 λx=>qNil w5 <| qCons w2 λy w3=>qNil w3 <| ⟨(cE a sg x).yes&&(cE b sg y).yes,λh X G=>by
   obtain⟨h1,h2⟩:=zE h;exact ok_disp (by have:=Z4 G;omega) (gkE h1 G) (gkE h2 G)⟩
 | .comp2 nl loc capn caps it tg jt tg2 el,sg,e=>qListComp e λelt w1 scope _=>qCons w1 λw2 w3=>qCm w2 λtarget iter w7=>qNil w7 <| qCons w3 λw4 w5=>qCm w4 λtarget2 iter2 w6=>qNil w6 <| qNil w5 <| ⟨sg.calm&&(WU sg nl loc capn caps scope&&y2 iter&&((zC2 it target&&(cI it sg iter).yes)&&(QL tg (jd sg (loc++capn) scope) target&&(y2 iter2&&((zC2 jt target2&&(cI jt (jd sg (loc++capn) scope) iter2).yes)&&(QL tg2 (jd sg (loc++capn) scope) target2&&(cE el (jd sg (loc++capn) scope) elt).yes)))))),λh X G=>by
   obtain⟨hcm,h⟩:=zE h;obtain⟨h1,h2⟩:=zE h;obtain⟨h1,k9⟩:=zE h1;unfold WU at h1;obtain⟨h1,k7⟩:=zE h1;obtain⟨h1,k6⟩:=zE h1;obtain⟨h1,k5⟩:=zE h1;obtain⟨h1,k4⟩:=zE h1;obtain⟨h1,k3⟩:=zE h1;obtain⟨k1,k2⟩:=zE h1;obtain⟨q1,q2⟩:=zE h2;obtain⟨q0,q1⟩:=zE q1;obtain⟨q2,q3⟩:=zE q2;obtain⟨q3,q4⟩:=zE q3;obtain⟨q4,q5⟩:=zE q4;obtain⟨q40,q4⟩:=zE q4;obtain⟨q5,q6⟩:=zE q5;have nd:(loc++capn).Nodup:=of_decide_eq_true k3;have kc:∀y∈scope.names,y.2=.cell->scope.names.lookup y.1=some .cell:=λy hy hc=>by
    have:=all_eq_true.mp k5 y hy;rw[hc]at this;simpa using this
   have I:∀cl C ex s H,SgOk (cxB X.nox (loc++capn) scope cl C ex s H) (jd sg (loc++capn) scope):=λ_ _ _ _ _=>Jr (zj G) nd kc
   have kl:∀y∈scope.names,y.2=.local->scope.names.lookup y.1=some .local:=λy hy hl=>by
    have:=all_eq_true.mp k4 y hy;rw[hl]at this;simpa using this
   exact no_E (ok_lc2 (X:=X.nox) loc capn (beq_iff_eq.mp k1) (λe s z=>z) (G.calm hcm) (beq_iff_eq.mp k2) kl kc (by rw[show X.env.kindOf=λn=>X.env.scope.names.lookup n from rfl,G.sc];exact k6) (vU (zj G) k7) (gkI q1 (zj G) q0) (g:=gOf X.K tg) (λcl C ex s H=>WV (sg:=jd sg (loc++capn) scope) hcm (I cl C ex s H) q2) (JO tg) (λcl C ex s H=>gkI (sg:=jd sg (loc++capn) scope) q4 (I cl C ex s H) q40) (g1:=gOf X.K tg2) (λcl C ex s H=>WV (sg:=jd sg (loc++capn) scope) hcm (I cl C ex s H) q5) (JO tg2) (λcl C ex s H=>gkE (sg:=jd sg (loc++capn) scope) q6 (I cl C ex s H)) (yM k9) (λcl C ex s H=>yM q3))⟩
 | .is T a,sg,e=>qCall e λw1 w2 w3 _=>qName w1 λf _=>qCons w2 λx w4=>qCons w4 λw5 w6=>qName w5 λy _=>qNil w6 <| qNil w3 <| ⟨f == "isinstance"&&y==T.nm&&glb sg "isinstance"&&bIn sg "isinstance"&&glb sg T.nm&&bIn sg T.nm&&!zV x&&(cE a sg x).yes,λh X G=>by
   obtain⟨h1,h2⟩:=zE h;obtain⟨h1,k7⟩:=zE h1;obtain⟨h1,k6⟩:=zE h1;obtain⟨h1,k5⟩:=zE h1;obtain⟨h1,k4⟩:=zE h1;obtain⟨h1,k3⟩:=zE h1;obtain⟨k1,k2⟩:=zE h1;have:=beq_iff_eq.mp k1;subst this;have:=beq_iff_eq.mp k2;subst this;exact ok_is (kit_of _ T) (jj G k3).1 (wZ G k4) (jj G k5).1 (wZ G k6) (bt_of T) (gkE h2 G) Gj (nm_of T) (jj G k5).2 (nst k7)⟩
 | .cB b as,sg,e=>qCall e λw1 w2 w3 _=>qName w1 λf _=>qCons w2 λx es=>qNil w3 <| ⟨sg.calm&&(f==b.nm&&glb sg b.nm&&bIn sg b.nm&&j0 (x::es)&&(cA as sg (x::es)).yes),λh X G=>by
   obtain⟨hcm,h⟩:=zE h;obtain⟨h1,h2⟩:=zE h;obtain⟨h1,k4⟩:=zE h1;obtain⟨h1,k3⟩:=zE h1;obtain⟨k1,k2⟩:=zE h1;have:=beq_iff_eq.mp k1;subst this;exact bi_of hcm G b (jj G k2).1 (wZ G k3) k4 (gkA h2 G)⟩
 | .call k as,sg,e=>qCall e λw1 w2 w3 _=>qName w1 λf _=>qCons w2 λx es=>qNil w3 <| ⟨glb sg f&&fIs sg k f&&fArg sg (gLen as) k&&j0 (x::es)&&(cG as sg (x::es)).yes,λh X G=>by
   obtain⟨h1,h2⟩:=zE h;obtain⟨h1,k4⟩:=zE h1;obtain⟨h1,k3⟩:=zE h1;obtain⟨k1,k2⟩:=zE h1;exact call_ok G k1 k2 k3 k4 (gkG h2 G)⟩
 | .maxd a d,sg,e=>qCall e λw1 w2 w3 _=>qName w1 λf _=>qCons w2 λx w7=>qNil w7 <| qCons w3 λw4 w5=>qKw w4 λw6 y _=>qSome w6 λnm=>qNil w5 <| ⟨sg.calm&&(f == "max"&&nm==Str.ofString "default"&&glb sg "max"&&bIn sg "max"&&!zV x&&((cE a sg x).yes&&(cE d sg y).yes)),λh X G=>by
   obtain⟨hcm,h⟩:=zE h;obtain⟨h1,h2⟩:=zE h;obtain⟨h2,h3⟩:=zE h2;obtain⟨h1,k5⟩:=zE h1;obtain⟨h1,k4⟩:=zE h1;obtain⟨h1,k3⟩:=zE h1;obtain⟨k1,k2⟩:=zE h1;have:=beq_iff_eq.mp k1;subst this;have:=beq_iff_eq.mp k2;subst this;exact ok_maxd (G.calm hcm) (jj G k3).1 (wZ G k4) (gkE h2 G) (gkE h3 G) (nst k5)⟩
 | .frz a,sg,e=>⟨(cE a sg e).yes,λh X G=>ok_frz (gkE h G)⟩
noncomputable def cT:(t:Tx)->(sg:Sg)->(e:Expr)->Ck (∀X,SgOk X sg->TOk X e (dT sg.fs t))
 | .tAnd a b,sg,e=>qBoolOp e λw1 w2 p=>qAnd w1 <| qCons w2 λx w3=>qCons w3 λy r=>⟨(cT a sg x).yes&&(match r with | []=>(cT b sg y).yes|z::r'=>(cT b sg (.BoolOp .And (y::z::r') p)).yes),λh X G=>by
   obtain⟨h1,h2⟩:=zE h;cases r with
   |nil=>exact tk_w (zG3 (gkT h1 G) (wk_and1 (gkT h2 G)))|cons z r'=>exact tk_w (zG3 (gkT h1 G) (zHU (gkT h2 G)))⟩
 | .tOr a b,sg,e=>qBoolOp e λw1 w2 p=>qOr w1 <| qCons w2 λx w3=>qCons w3 λy r=>⟨(cT a sg x).yes&&(match r with | []=>(cT b sg y).yes|z::r'=>(cT b sg (.BoolOp .Or (y::z::r') p)).yes),λh X G=>by
   obtain⟨h1,h2⟩:=zE h;cases r with
   |nil=>exact tk_w (wk_or (gkT h1 G) (wk_or1 (gkT h2 G)))|cons z r'=>exact tk_w (wk_or (gkT h1 G) (zHU (gkT h2 G)))⟩
 | .tNot a,sg,e=>qUnaryOp e λw1 x _=>qNot w1 <| ⟨(cT a sg x).yes,λh X G=>by
   exact tk_not (gkT h G)⟩
 | .tE (.cmp o a b),sg,e=>qCompare e λx w1 w2 _=>qCons w1 λop w4=>qNil w4 <| qCons w2 λy w3=>qNil w3 <| ⟨op==o.op&&y2 y&&((cE a sg x).yes&&(cE b sg y).yes),λh X G=>by
   obtain⟨h1,k1⟩:=zE h;obtain⟨h1,h0⟩:=zE h1;obtain⟨k2,k3⟩:=zE k1;have:=beq_iff_eq.mp h1;subst this;exact cmpT_of G h0 (gkE k2 G) (gkE k3 G)⟩
 | .tE (.chain o o' a b c),sg,e=>qCompare e λx w1 w2 _=>qCons w1 λop w5=>qCons w5 λop' w6=>qNil w6 <| qCons w2 λy w3=>qCons w3 λz w4=>qNil w4 <| ⟨op==o.op&&op'==o'.op&&o.isI&&o'.isI&&y2 z&&((cE a sg x).yes&&((cE b sg y).yes&&(cE c sg z).yes)),λh X G=>by
   obtain⟨h1,j2⟩:=zE h;obtain⟨h1,k5⟩:=zE h1;obtain⟨h1,k4⟩:=zE h1;obtain⟨h1,k3⟩:=zE h1;obtain⟨k1,k2⟩:=zE h1;obtain⟨j2,j3⟩:=zE j2;obtain⟨j3,j4⟩:=zE j3;have:=beq_iff_eq.mp k1;subst this;have:=beq_iff_eq.mp k2;subst this;exact zDu (zB6 k3) (zB6 k4) (gkE j2 G) (gkE j3 G) (gkE j4 G) (zER k5)⟩
 | .tE (.ninO i a),sg,e=>qCompare e λx w1 w2 _=>qCons w1 λop w5=>qNil w5 <| qCons w2 λw3 w4=>qName w3 λy _=>qNil w4 <| ⟨op==.NotIn&&vis sg i y&&(cE a sg x).yes,λh X G=>by
   obtain⟨h,k2⟩:=zE h;obtain⟨k0,k1⟩:=zE h;have:=beq_iff_eq.mp k0;subst this;exact zGJ i (by have:=Z4 G;omega) (JG G k1) (gkE k2 G)⟩
 | .tE a,sg,e=>⟨zG1 e&&(cE a sg e).yes,λh X G=>by
  obtain⟨h1,h2⟩:=zE h;exact ok_test (gkE h2 G) (test_of h1)⟩
 | .tTr,sg,e=>⟨false,λh X G=>absurd h qF⟩
noncomputable def cA:(t:Ax)->(sg:Sg)->(e:List Expr)->Ck (∀X,SgOk X sg->AOk X e (dA sg.fs t))
 | .nil,sg,e=>⟨e.isEmpty,λh X G=>by
  have:=isEmpty_iff.mp h;subst this;exact ak_nil⟩
 | .cons a as,sg,e=>qCons e λx r=>⟨!zV x&&((cE a sg x).yes&&(cA as sg r).yes),λh X G=>by
   obtain⟨h1,h2⟩:=zE h;obtain⟨h2,h3⟩:=zE h2;exact ak_cons (gkE h2 G) (gkA h3 G) (nst h1)⟩
noncomputable def cG:(t:Gx)->(sg:Sg)->(e:List Expr)->Ck (∀X,SgOk X sg->zE9 X e (dG sg.fs t))
 | .nil,sg,e=>⟨e.isEmpty,λh X G=>by
  have:=isEmpty_iff.mp h;subst this;exact ga_nil⟩
 | .ev a as,sg,e=>qCons e λx r=>⟨!zV x&&((cE a sg x).yes&&(cG as sg r).yes),λh X G=>by
   obtain⟨h1,h2⟩:=zE h;obtain⟨h2,h3⟩:=zE h2;exact ga_ev (gkE h2 G) (gkG h3 G) (nst h1)⟩
 | .lend i as,sg,e=>qCons e λw1 r=>qName w1 λx _=>⟨vis sg i x&&(cG as sg r).yes,λh X G=>by
   obtain⟨h1,h2⟩:=zE h;exact ga_lend (JG G h1) (gkG h2 G)⟩
noncomputable def cO:(t:Ox)->(sg:Sg)->(e:Option Expr)->Ck (∀X,SgOk X sg->OOk X e (dO sg.fs t))
 | .oN,sg,e=>⟨e.isNone,λh X G=>by
  cases e with
  |none=>exact oo_none|some e=>cases h⟩
 | .oS a,sg,e=>qSome e λe=>⟨(cE a sg e).yes,λh X G=>by
   exact oo_some (gkE h G)⟩
noncomputable def cI:(t:Ix)->(sg:Sg)->(e:Expr)->Ck (∀X tg,SgOk X sg->zC2 t tg=true->IOk X tg e (dI sg.fs t))
 | .iL a,sg,e=>⟨(cE a sg e).yes,λh X tg G hz=>by
  exact zAs (gkE h G)⟩
 | .iT a,sg,e=>⟨(cE a sg e).yes,λh X tg G hz=>by
  exact zG9 (gkE h G)⟩
 | .iA a,sg,e=>⟨(cE a sg e).yes,λh X tg G hz=>by
  exact io_any (gkE h G)⟩
 | .iRv as,sg,e=>qCall e λw1 w2 w3 _=>qName w1 λf _=>qCons w2 λw4 w5=>qCall w4 λw6 w7 w8 _=>qName w6 λf2 _=>qCons w7 λx w9=>qNil w9 <| qNil w8 <| qNil w5 <| qNil w3 <| ⟨f == "reversed"&&glb sg "reversed"&&bIn sg "reversed"&&(f2 == "range"&&glb sg "range"&&bIn sg "range"&&!zV x&&(cA as sg [x]).yes),λh X tg G hz=>by
   obtain⟨h0,h⟩:=zE h;obtain⟨h0,j3⟩:=zE h0;obtain⟨j1,j2⟩:=zE h0;obtain⟨h1,h2⟩:=zE h;obtain⟨h1,k4⟩:=zE h1;obtain⟨h1,k3⟩:=zE h1;obtain⟨k1,k2⟩:=zE h1;have:=beq_iff_eq.mp j1;subst this;have:=beq_iff_eq.mp k1;subst this;exact io_rv (jj G j2).1 (wZ G j3) (jj G k2).1 (wZ G k3) (gkA h2 G) (nst k4)⟩
 | .iR1 as,sg,e=>qCall e λw1 w2 w3 _=>qName w1 λf _=>qCons w2 λx w4=>qNil w4 <| qNil w3 <| ⟨f == "range"&&glb sg "range"&&bIn sg "range"&&!zV x&&(cA as sg [x]).yes,λh X tg G hz=>by
   obtain⟨h1,h2⟩:=zE h;obtain⟨h1,k4⟩:=zE h1;obtain⟨h1,k3⟩:=zE h1;obtain⟨k1,k2⟩:=zE h1;have:=beq_iff_eq.mp k1;subst this;exact io_r1 (jj G k2).1 (wZ G k3) (gkA h2 G) (nst k4)⟩
 | .iE t1 as,sg,e=>qCall e λw1 w2 w3 _=>qName w1 λf _=>qCons w2 λx w4=>qNil w4 <| qNil w3 <| ⟨f == "enumerate"&&glb sg "enumerate"&&bIn sg "enumerate"&&!zV x&&(cA as sg [x]).yes,λh X tg G hz=>by
   obtain⟨h1,h2⟩:=zE h;obtain⟨h1,k4⟩:=zE h1;obtain⟨h1,k3⟩:=zE h1;obtain⟨k1,k2⟩:=zE h1;have:=beq_iff_eq.mp k1;subst this;cases tg with
   |Tuple tE tX tP=>exact io_enum (jj G k2).1 (wZ G k3) (gkA h2 G) (nst k4)|_=>exact absurd hz qF⟩
 | .iZ t1 t2 as,sg,e=>qCall e λw1 w2 w3 _=>qName w1 λf _=>qCons w2 λx w4=>qCons w4 λy w5=>qNil w5 <| qNil w3 <| ⟨f == "zip"&&glb sg "zip"&&bIn sg "zip"&&!zV x&&!zV y&&(cA as sg [x,y]).yes,λh X tg G hz=>by
   obtain⟨h1,h2⟩:=zE h;obtain⟨h1,k5⟩:=zE h1;obtain⟨h1,k4⟩:=zE h1;obtain⟨h1,k3⟩:=zE h1;obtain⟨k1,k2⟩:=zE h1;have:=beq_iff_eq.mp k1;subst this;cases tg with
   |Tuple tE tX tP=>exact zBu (.inl ⟨_,_,_,rfl⟩) (jj G k2).1 (wZ G k3) (gkA h2 G) (nst k4) (nst k5)|_=>exact absurd hz qF⟩
 | .iZA t2 as,sg,e=>qCall e λw1 w2 w3 _=>qName w1 λf _=>qCons w2 λx w4=>qCons w4 λy w5=>qNil w5 <| qNil w3 <| ⟨f == "zip"&&glb sg "zip"&&bIn sg "zip"&&!zV x&&!zV y&&(cA as sg [x,y]).yes,λh X tg G hz=>by
   obtain⟨h1,h2⟩:=zE h;obtain⟨h1,k5⟩:=zE h1;obtain⟨h1,k4⟩:=zE h1;obtain⟨h1,k3⟩:=zE h1;obtain⟨k1,k2⟩:=zE h1;have:=beq_iff_eq.mp k1;subst this;cases tg with
   |Tuple tE tX tP=>exact io_zipA (jj G k2).1 (wZ G k3) (gkA h2 G) (nst k4) (nst k5)|_=>exact absurd hz qF⟩
end
def SwOk(X:Cx)(e:Expr)(m:ME):Prop:=∀i x px spos,X.N[i]?=some x->Loc X.env.scope x->(X.fn x=true\/X.env.scope.names.lookup x=some .local)->swapsWith e (some (.Name x px)) spos.line X.env=pure true->SOk X (.Assign [.Name x px] e spos) (sSet i m)
def cW:(t:Ex)->(sg:Sg)->(e:Expr)->Ck (∀X,SgOk X sg->SwOk X e (dE sg.fs t))
 | .comp2 nl loc capn caps it tg jt tg2 el,sg,e=>qListComp e λelt w1 scope _=>qCons w1 λw2 w3=>qCm w2 λtarget iter w7=>qNil w7 <| qCons w3 λw4 w5=>qCm w4 λtarget2 iter2 w6=>qNil w6 <| qNil w5 <| ⟨sg.calm&&(WU sg nl loc capn caps scope&&y2 iter&&((zC2 it target&&(cI it sg iter).yes)&&(QL tg (jd sg (loc++capn) scope) target&&(y2 iter2&&((zC2 jt target2&&(cI jt (jd sg (loc++capn) scope) iter2).yes)&&(QL tg2 (jd sg (loc++capn) scope) target2&&(cE el (jd sg (loc++capn) scope) elt).yes)))))),λh X G i x px spos hi hx hf hsw=>by
   obtain⟨hcm,h⟩:=zE h;obtain⟨h1,h2⟩:=zE h;obtain⟨h1,k9⟩:=zE h1;unfold WU at h1;obtain⟨h1,k7⟩:=zE h1;obtain⟨h1,k6⟩:=zE h1;obtain⟨h1,k5⟩:=zE h1;obtain⟨h1,k4⟩:=zE h1;obtain⟨h1,k3⟩:=zE h1;obtain⟨k1,k2⟩:=zE h1;obtain⟨q1,q2⟩:=zE h2;obtain⟨q0,q1⟩:=zE q1;obtain⟨q2,q3⟩:=zE q2;obtain⟨q3,q4⟩:=zE q3;obtain⟨q4,q5⟩:=zE q4;obtain⟨q40,q4⟩:=zE q4;obtain⟨q5,q6⟩:=zE q5;have nd:(loc++capn).Nodup:=of_decide_eq_true k3;have kc:∀y∈scope.names,y.2=.cell->scope.names.lookup y.1=some .cell:=λy hy hc=>by
    have:=all_eq_true.mp k5 y hy;rw[hc]at this;simpa using this
   have I:∀cl C ex s H,SgOk (cxB X.nox (loc++capn) scope cl C ex s H) (jd sg (loc++capn) scope):=λ_ _ _ _ _=>Jr (zj G) nd kc
   have kl:∀y∈scope.names,y.2=.local->scope.names.lookup y.1=some .local:=λy hy hl=>by
    have:=all_eq_true.mp k4 y hy;rw[hl]at this;simpa using this
   exact zEK▸zHO (sk_lc2 (X:=X.nox) loc capn G.nd hi hx hf (beq_iff_eq.mp k1) (λe s z=>z) (G.calm hcm) (beq_iff_eq.mp k2) kl kc (by rw[show X.env.kindOf=λn=>X.env.scope.names.lookup n from rfl,G.sc];exact k6) (vU (zj G) k7) (gkI q1 (zj G) q0) (g:=gOf X.K tg) (λcl C ex s H=>WV (sg:=jd sg (loc++capn) scope) hcm (I cl C ex s H) q2) (JO tg) (λcl C ex s H=>gkI (sg:=jd sg (loc++capn) scope) q4 (I cl C ex s H) q40) (g1:=gOf X.K tg2) (λcl C ex s H=>WV (sg:=jd sg (loc++capn) scope) hcm (I cl C ex s H) q5) (JO tg2) (λcl C ex s H=>gkE (sg:=jd sg (loc++capn) scope) q6 (I cl C ex s H)) (yM k9) (λcl C ex s H=>yM q3) hsw)⟩
 | .comp nl loc capn caps it tg tt el,sg,e=>qListComp e λelt w1 scope _=>qCons w1 λw2 w3=>qCm w2 λtarget iter ifs=>qNil w3 <| ⟨sg.calm&&(WU sg nl loc capn caps scope&&y2 iter&&((zC2 it target&&(cI it sg iter).yes)&&(QL tg (jd sg (loc++capn) scope) target&&((match ifs with | []=>isTr tt|c::cs=>cs.isEmpty&&(cT tt (jd sg (loc++capn) scope) c).yes)&&(cE el (jd sg (loc++capn) scope) elt).yes)))),λh X G i x px spos hi hx hf hsw=>by
   obtain⟨hcm,h⟩:=zE h;obtain⟨h1,h2⟩:=zE h;obtain⟨h1,k9⟩:=zE h1;unfold WU at h1;obtain⟨h1,k7⟩:=zE h1;obtain⟨h1,k6⟩:=zE h1;obtain⟨h1,k5⟩:=zE h1;obtain⟨h1,k4⟩:=zE h1;obtain⟨h1,k3⟩:=zE h1;obtain⟨k1,k2⟩:=zE h1;obtain⟨q1,q2⟩:=zE h2;obtain⟨q0,q1⟩:=zE q1;obtain⟨q2,q3⟩:=zE q2;obtain⟨q3,q4⟩:=zE q3;have nd:(loc++capn).Nodup:=of_decide_eq_true k3;have kc:∀y∈scope.names,y.2=.cell->scope.names.lookup y.1=some .cell:=λy hy hc=>by
    have:=all_eq_true.mp k5 y hy;rw[hc]at this;simpa using this
   have I:∀cl C ex s H,SgOk (cxB X.nox (loc++capn) scope cl C ex s H) (jd sg (loc++capn) scope):=λ_ _ _ _ _=>Jr (zj G) nd kc
   refine zEK▸zHO (sk_lc (X:=X.nox) loc capn G.nd hi hx hf (beq_iff_eq.mp k1) (λe s z=>z) (G.calm hcm) (beq_iff_eq.mp k2) (λy hy hl=>?_) (λy hy hc=>?_) (by rw[show X.env.kindOf=λn=>X.env.scope.names.lookup n from rfl,G.sc];exact k6) (vU (zj G) k7) (gkI q1 (zj G) q0) (g:=gOf X.K tg) (λcl C ex s H=>WV (sg:=jd sg (loc++capn) scope) hcm (I cl C ex s H) q2) (JO tg) (λcl C ex s H=>?_) (λcl C ex s H=>gkE (sg:=jd sg (loc++capn) scope) q4 (I cl C ex s H)) (yM k9) hsw)
   ·have:=all_eq_true.mp k4 y hy
    rw[hl]at this;simpa using this
   ·exact kc y hy hc
   ·cases ifs with
    |nil=>exact zB7 q3
    |cons c cs =>
     obtain⟨q3,q5⟩:=zE q3;have:=isEmpty_iff.mp q3;subst this;exact Gi (gkT (sg:=jd sg (loc++capn) scope) q5 (I cl C ex s H))⟩
 | .dcomp nl loc capn caps it tg tt ka va,sg,e=>qDictComp e λke ve w1 scope _=>qCons w1 λw2 w3=>qCm w2 λtarget iter ifs=>qNil w3 <| ⟨sg.calm&&(WU sg nl loc capn caps scope&&y2 iter&&((zC2 it target&&(cI it sg iter).yes)&&(QL tg (jd sg (loc++capn) scope) target&&((match ifs with | []=>isTr tt|c::cs=>cs.isEmpty&&(cT tt (jd sg (loc++capn) scope) c).yes)&&((cE ka (jd sg (loc++capn) scope) ke).yes&&(cE va (jd sg (loc++capn) scope) ve).yes))))),λh X G i x px spos hi hx hf hsw=>by
   obtain⟨hcm,h⟩:=zE h;obtain⟨h1,h2⟩:=zE h;obtain⟨h1,k9⟩:=zE h1;unfold WU at h1;obtain⟨h1,k7⟩:=zE h1;obtain⟨h1,k6⟩:=zE h1;obtain⟨h1,k5⟩:=zE h1;obtain⟨h1,k4⟩:=zE h1;obtain⟨h1,k3⟩:=zE h1;obtain⟨k1,k2⟩:=zE h1;obtain⟨q1,q2⟩:=zE h2;obtain⟨q0,q1⟩:=zE q1;obtain⟨q2,q3⟩:=zE q2;obtain⟨q3,q4⟩:=zE q3;obtain⟨q4,q6⟩:=zE q4;have nd:(loc++capn).Nodup:=of_decide_eq_true k3;have kc:∀y∈scope.names,y.2=.cell->scope.names.lookup y.1=some .cell:=λy hy hc=>by
    have:=all_eq_true.mp k5 y hy;rw[hc]at this;simpa using this
   have I:∀cl C ex s H,SgOk (cxB X.nox (loc++capn) scope cl C ex s H) (jd sg (loc++capn) scope):=λ_ _ _ _ _=>Jr (zj G) nd kc
   refine zEK▸zHO (sk_dc (X:=X.nox) loc capn (by have:=Z4 G;show X.A.units<_;omega) G.nd hi hx hf (beq_iff_eq.mp k1) (λe s z=>z) (G.calm hcm) (beq_iff_eq.mp k2) (λy hy hl=>?_) (λy hy hc=>?_) (by rw[show X.env.kindOf=λn=>X.env.scope.names.lookup n from rfl,G.sc];exact k6) (vU (zj G) k7) (gkI q1 (zj G) q0) (g:=gOf X.K tg) (λcl C ex s H=>WV (sg:=jd sg (loc++capn) scope) hcm (I cl C ex s H) q2) (JO tg) (λcl C ex s H=>?_) (λcl C ex s H=>gkE (sg:=jd sg (loc++capn) scope) q4 (I cl C ex s H)) (λcl C ex s H=>gkE (sg:=jd sg (loc++capn) scope) q6 (I cl C ex s H)) (yM k9) hsw)
   ·have:=all_eq_true.mp k4 y hy
    rw[hl]at this;simpa using this
   ·exact kc y hy hc
   ·cases ifs with
    |nil=>exact zB7 q3
    |cons c cs =>
     obtain⟨q3,q5⟩:=zE q3;have:=isEmpty_iff.mp q3;subst this;exact Gi (gkT (sg:=jd sg (loc++capn) scope) q5 (I cl C ex s H))⟩
 |_,_,_=>default
mutual
noncomputable def cS:(t:Sx)->(sg:Sg)->(e:Stmt)->Ck (∀X,SgOk X sg->SOk X e (dS sg.fs t))
 | .sIf t a b,sg,e=>qIf e λc x y _=>⟨(cT t sg c).yes&&((cB a sg x).yes&&(cB b sg y).yes),λh X G=>by
   obtain⟨h1,h2⟩:=zE h;obtain⟨h2,h3⟩:=zE h2;exact sk_if (gkT h1 G) (gkB h2 G) (gkB h3 G)⟩
 | .sSet i a,sg,e=>qAssign e λw1 v p=>qCons w1 λw2 w3=>qNil w3 <| qName w2 λx px=>⟨locd sg i x&&setOk sg x px a v&&((cE a sg v).yes&&(!(isCo a||isDc a)||(cW a sg v).yes)),λh X G=>by
   obtain⟨h1,h2⟩:=zE h;obtain⟨h2,hw⟩:=zE h2;obtain⟨h1,h3⟩:=zE h1;obtain⟨q1,q2,q3⟩:=Gq G h1;unfold setOk at h3;split at h3
   ·obtain⟨k1,k2⟩:=zE h3
    rename_i el gs scope vp _;cases hb:swB sg _ _ scope vp with
    |false=>exact zDm G.nd q1 q2 (gkE h2 G) (by rw[zHS G k1,hb]) q3
    |true =>
     rw[hb]at k2;have k3:isCo a=true:=by simpa using k2
     rw[k3]at hw;exact(cW a sg _).why (by simpa using hw) X G _ _ _ _ q1 q2 q3 (by rw[zHS G k1,hb])
   ·obtain⟨k1,k2⟩:=zE h3
    rename_i ke ve gs scope vp _;cases hb:swB sg _ _ scope vp with
    |false=>exact zDm G.nd q1 q2 (gkE h2 G) (by rw[zET G k1,hb]) q3
    |true =>
     rw[hb]at k2;have k3:isDc a=true:=by simpa using k2
     rw[k3]at hw;exact(cW a sg _).why (by simpa using hw) X G _ _ _ _ q1 q2 q3 (by rw[zET G k1,hb])
   ·exact zDm G.nd q1 q2 (gkE h2 G) (GY h3) q3⟩
 | .sAny,sg,e=>⟨true,λh X G=>by
  exact sk_any⟩
 | .sTup is a,sg,e=>qAssign e λw1 v _=>qCons w1 λw2 w3=>qTuple w2 λes k p=>qNil w3 <| ⟨sg.calm&&(QL.all2 sg is es&&ZO v&&swOk sg es v&&(cE a sg v).yes),λh X G=>by
   obtain⟨hcm,h⟩:=zE h;obtain⟨h1,h2⟩:=zE h;obtain⟨h1,k3⟩:=zE h1;obtain⟨k1,k2⟩:=zE h1;obtain⟨q1,q2,q3⟩:=Z3 _ is G k1;exact sk_tup (zGp (G.calm hcm) q1 q2 q3) (gkE h2 G) (zA5 k2) (sw_ok G k3)⟩
 | .sPar i j as,sg,e=>qAssign e λw1 w2 _=>qCons w1 λw6 w7=>qTuple w6 λw8 _ _=>qCons w8 λw9 w10=>qName w9 λx px=>qCons w10 λw11 w12=>qName w11 λy py=>qNil w12 <| qNil w7 <| qTuple w2 λw3 _ _=>qCons w3 λa w4=>qCons w4 λb w5=>qNil w5 <| ⟨sg.calm&&(zGS sg i j x y px py a b&&(cA as sg [a,b]).yes),λh X G=>by
   obtain⟨hcm,h⟩:=zE h;obtain⟨h1,h2⟩:=zE h;have h1':=h1;unfold zGS at h1;simp only[Bool.and_eq_true,Bool.not_eq_true',beq_iff_eq,bne_iff_ne]at h1;obtain⟨⟨⟨⟨⟨⟨⟨⟨⟨⟨⟨_,n1⟩,n2⟩,n3⟩,l1⟩,l2⟩,_⟩,_⟩,_⟩,_⟩,_⟩,_⟩:=h1;exact yg (ps_par (G.calm hcm) G.nd (by rw[G.N];exact n1) (by rw[G.N];exact n2) n3 (JF G l1) (JF G l2) (gkA h2 G) (sw_par G h1') (zA5 rfl)) λD O H=>zF2⟩
 | .sRet a,sg,e=>qReturn e λw1 _=>qSome w1 λv=>⟨(cE a sg v).yes,λh X G=>by
   exact sk_ret (gkE h G)⟩
 | .sDrop a,sg,e=>qExpr e λv _=>⟨ZO v&&(cE a sg v).yes,λh X G=>by
   obtain⟨h1,h2⟩:=zE h;exact sk_drop (gkE h2 G) (GY h1)⟩
 | .sIx i b a,sg,e=>qAssign e λw1 v _=>qCons w1 λw2 w3=>qSubscript w2 λw4 y _=>qName w4 λx _=>qNil w3 <| ⟨vis sg i x&&uC y&&((cE b sg y).yes&&(cE a sg v).yes),λh X G=>by
   obtain⟨h1,h2⟩:=zE h;obtain⟨h1,h4⟩:=zE h1;obtain⟨h2,h3⟩:=zE h2;exact zFm i (JG G h1) (gkE h2 G) (gkE h3 G) (zHR h4) zGT⟩
 | .sDput i b a,sg,e=>qAssign e λw1 v _=>qCons w1 λw2 w3=>qSubscript w2 λw4 y _=>qName w4 λx _=>qNil w3 <| ⟨vis sg i x&&uC y&&ZO v&&((cE b sg y).yes&&(cE a sg v).yes),λh X G=>by
   obtain⟨h1,h2⟩:=zE h;obtain⟨h1,h0⟩:=zE h1;obtain⟨h1,h4⟩:=zE h1;obtain⟨h2,h3⟩:=zE h2;exact sk_dput i (by have:=Z4 G;omega) (JG G h1) (gkE h2 G) (gkE h3 G) (zHR h4) (zA5 h0)⟩
 | .sAugIx i b a,sg,e=>qAugAssign e λw1 op v _=>qSubscript w1 λw2 y _=>qName w2 λx _=>⟨vis sg i x&&op==.Add&&uC y&&((cE b sg y).yes&&(cE a sg v).yes),λh X G=>by
   obtain⟨h1,h2⟩:=zE h;obtain⟨h6,h4⟩:=zE h1;obtain⟨h7,h5⟩:=zE h6;obtain⟨h8,h3⟩:=zE h2;rw[eq_of_beq h5];exact zGE i (JG G h7) (gkE h8 G) (gkE h3 G) (aug_of h4)⟩
 | .sApp i a,sg,e=>qExpr e λw1 _=>qCall w1 λw2 w3 w4 cp=>qAttribute w2 λw6 m ap=>qName w6 λx _=>qCons w3 λv w5=>qNil w5 <| qNil w4 <| ⟨m == "append"&&ap.endLine==cp.line&&vis sg i x&&!zV v&&(cE a sg v).yes,λh X G=>by
   obtain⟨h1,h2⟩:=zE h;obtain⟨h1,k4⟩:=zE h1;obtain⟨h1,k3⟩:=zE h1;obtain⟨k1,k2⟩:=zE h1;have:=beq_iff_eq.mp k1;subst this;exact sk_app i (JG G k3) (gkE h2 G) rfl (few_of (nst k4)) k2 (zm (nst k4)) rfl rfl⟩
 | .sForL a tg b,sg,e=>qFor e λt it body w1 _=>qNil w1 <| ⟨sg.calm&&(y2 it&&QL tg sg t&&((cE a sg it).yes&&(cB b sg body).yes)),λh X G=>by
   obtain⟨hcm,h⟩:=zE h;obtain⟨h1,h2⟩:=zE h;obtain⟨h1,h0⟩:=zE h1;obtain⟨h2,h3⟩:=zE h2;exact zHO (sk_forL (X:=X.nox) PassesOwn.never (G.calm hcm) (gkE h2 (zj G)) (WV hcm (zj G) h0) (JO tg) (gkB h3 (zj G)) (yM h1))⟩
 | .sForI ix tg b,sg,e=>qFor e λt it body w1 _=>qNil w1 <| ⟨sg.calm&&(y2 it&&QL tg sg t&&((zC2 ix t&&(cI ix sg it).yes)&&(cB b sg body).yes)),λh X G=>by
   obtain⟨hcm,h⟩:=zE h;obtain⟨h1,h2⟩:=zE h;obtain⟨h1,h0⟩:=zE h1;obtain⟨h2,h3⟩:=zE h2;obtain⟨h4,h2⟩:=zE h2;exact sk_forN (ps_forX (gkI h2 G h4) (yM h1)) (zHO (sk_forI (X:=X.nox) PassesOwn.never (G.calm hcm) (gkI h2 (zj G) h4) (WV hcm (zj G) h0) (JO tg) (gkB h3 (zj G)) (yM h1)))⟩
 | .sForR1 as tg b,sg,e=>qFor e λt w1 body w2 _=>qCall w1 λw3 w4 w5 _=>qName w3 λf _=>qCons w4 λx w6=>qNil w6 <| qNil w5 <| qNil w2 <| ⟨sg.calm&&(f == "range"&&glb sg "range"&&bIn sg "range"&&!zV x&&QL tg sg t&&((cA as sg [x]).yes&&(cB b sg body).yes)),λh X G=>by
   obtain⟨hcm,h⟩:=zE h;obtain⟨h1,h2⟩:=zE h;obtain⟨h1,k5⟩:=zE h1;obtain⟨h1,k4⟩:=zE h1;obtain⟨h1,k3⟩:=zE h1;obtain⟨k1,k2⟩:=zE h1;obtain⟨h2,h3⟩:=zE h2;have:=beq_iff_eq.mp k1;subst this;exact zHO (zFo (X:=X.nox) PassesOwn.never (G.calm hcm) (jj (zj G) k2).1 (wZ (zj G) k3) (gkA h2 (zj G)) (WV hcm (zj G) k5) (JO tg) (gkB h3 (zj G)) (nst k4) (yM rfl))⟩
 | .sForR2 as tg b,sg,e=>qFor e λt w1 body w2 _=>qCall w1 λw3 w4 w5 _=>qName w3 λf _=>qCons w4 λx w6=>qCons w6 λy w7=>qNil w7 <| qNil w5 <| qNil w2 <| ⟨sg.calm&&(f == "range"&&glb sg "range"&&bIn sg "range"&&!zV x&&!zV y&&QL tg sg t&&((cA as sg [x,y]).yes&&(cB b sg body).yes)),λh X G=>by
   obtain⟨hcm,h⟩:=zE h;obtain⟨h1,h2⟩:=zE h;obtain⟨h1,k6⟩:=zE h1;obtain⟨h1,k5⟩:=zE h1;obtain⟨h1,k4⟩:=zE h1;obtain⟨h1,k3⟩:=zE h1;obtain⟨k1,k2⟩:=zE h1;obtain⟨h2,h3⟩:=zE h2;have:=beq_iff_eq.mp k1;subst this;exact zHO (zFp (X:=X.nox) PassesOwn.never (G.calm hcm) (jj (zj G) k2).1 (wZ (zj G) k3) (gkA h2 (zj G)) (WV hcm (zj G) k6) (JO tg) (gkB h3 (zj G)) (nst k4) (nst k5) (yM rfl))⟩
 | .sWhile t b,sg,e=>qWhile e λc body w1 _=>qNil w1 <| ⟨(cT t sg c).yes&&(cB b sg body).yes,λh X G=>by
   obtain⟨h1,h2⟩:=zE h;exact zHO (zF3 (X:=X.nox) PassesOwn.never (gkT h1 (zj G)) (gkB h2 (zj G)))⟩
 | .sAug i o a,sg,e=>qAugAssign e λw1 op v _=>qName w1 λx _=>⟨locd sg i x&&op==o.op&&o.isAug&&(cE a sg v).yes,λh X G=>by
   obtain⟨h,h2⟩:=zE h;obtain⟨h,k2⟩:=zE h;obtain⟨h1,k1⟩:=zE h;obtain⟨q1,q2,q3⟩:=Gq G h1;have:=beq_iff_eq.mp k1;subst this;cases o with
   |add=>exact zD0 G.nd q1 q2 q3 (gkE h2 G)|sub=>exact zD1 G.nd q1 q2 q3 (gkE h2 G)|mul=>exact zD2 G.nd q1 q2 q3 (gkE h2 G)|_=>cases k2⟩
noncomputable def cB:(t:Bx)->(sg:Sg)->(e:List Stmt)->Ck (∀X,SgOk X sg->zAc X e (dB sg.fs t))
 | .bNil,sg,e=>⟨e.isEmpty,λh X G=>by
  have:=isEmpty_iff.mp h;subst this;exact sk_nil⟩
 | .bOne a,sg,e=>qCons e λs w1=>qNil w1 <| ⟨(cS a sg s).yes,λh X G=>by
   exact sk_one (gkS h G)⟩
 | .bSeq a b,sg,e=>qCons e λs r=>⟨(cS a sg s).yes&&(cB b sg r).yes,λh X G=>by
   obtain⟨h1,h2⟩:=zE h;exact sk_cons (gkS h1 G) (gkB h2 G)⟩
end
def sB(t:Bx){X:Cx}{sg:Sg}{e:List Stmt}(G:SgOk X sg)(h:(cB t sg e).yes=true):zAc X e (dB sg.fs t):=gkB h G
abbrev chkB(t:Bx)(sg:Sg)(e:List Stmt):Bool:=(cB t sg e).yes
end
def ClOk(K:qH)(mg:Str->Option Value)(cl rs:List Str):Prop :=
 (cl≠[]->∃T,mg "ThrowError"=some (.ref T)/\TCls K T/\∀c∈cl,∃C,mg c=some (.ref C)/\XCls K c C T/\C≠T)/\(∀c∈rs,∃C,mg c=some (.ref C)/\excIn K C VB "ValueError.__new__"=true)/\zHF K
abbrev zEU(P:Program)(w:World)(K:qH)(mg:Str->Option Value)(base:Heap)(ri:List Str):Prop:=∀c∈ri,RIok P w K mg base c/\RAok K mg c
def def_ok{P:Program}{w:World}{K:qH}{mg:Str->Option Value}{base:Heap}{x:Str}{st:Stmt}{ps N:List Str}{n lv:Nat}{cs:List (Str×D)}{fs:List FI}{bs:List Str}{c:Bool}{cl rs:List Str}(t:Bx)(T:jE K mg x st ps)(S:FnScope N ps (zt st))(hn:N.length=n)
  (hcs:∀x d,cs.lookup x=some d->∃u v,mg x=some u/\ym v u/\∀H,Rep K mg H d v)
  (hfs:∀i∈fs,∃f fd ps,mg i.x=some (.ref f)/\keepIn K (.ref f)=true/\WP K fd ps []/\ps.length=i.n/\FnOkN (!i.wild) P w K mg base i.lv f fd ps (spM K mg i.n i.F))
  (hbs:∀x∈bs,mg x=none) (hcl:ClOk K mg cl rs) {ri:List Str} (hri:zEU P w K mg base ri) (h:(cB t ⟨N,zt st,true,cs,fs,bs,lv,c,cl,rs,[],ri⟩ (ja st)).yes=true):FOk P w K mg base c x (lv+1) ps (fnM n (dB fs t)):=by
 obtain⟨a,fd,hm,F,bnd⟩:=T;subst hn;refine⟨a,fd,hm,F.kp,bnd,fn_ok F S λcdv A outer s H E hd hr=>?_⟩;exact gkB h ⟨rfl,rfl,λ_ _=>rfl,(λx h=>by cases h),id,hd,λ_=>⟨rfl,rfl⟩,S.nd,hcs,hfs,hbs,hr,hcl.1,hcl.2.1,hcl.2.2,hri⟩
def zGU(K:qH)(mg:Str->Option Value)(cs:List (Str×D)):Prop:=∀x d,cs.lookup x=some d->∃u v,mg x=some u/\ym v u/\∀H,Rep K mg H d v
def BsOk(mg:Str->Option Value)(bs:List Str):Prop:=∀x∈bs,mg x=none
def FsOk(P:Program)(w:World)(K:qH)(mg:Str->Option Value)(base:Heap)(fs:List FI):Prop :=
 ∀i∈fs,∃f fd ps,mg i.x=some (.ref f)/\keepIn K (.ref f)=true/\WP K fd ps []/\ps.length=i.n/\FnOkN (!i.wild) P w K mg base i.lv f fd ps (spM K mg i.n i.F)
section
variable{P:Program}{w:World}{K:qH}{mg:Str->Option Value}{base:Heap}
def cs_nil:zGU K mg []:=λx d h=>by cases h
def cs_put(h:∃u v,mg x=some u/\ym v u/\∀H,Rep K mg H d v)(t:zGU K mg cs):zGU K mg ((x,d)::cs):=λy d' e=>by
 rw[lookup_cons]at e;cases hy:y==x with
 |true =>
  rw[hy]at e;cases e;have:y=x:=by simpa using hy
  subst this;exact h
 |false=>rw[hy]at e;exact t y d' e
def wN(h:∃t,mg x=some (.int i t))(t:zGU K mg cs):zGU K mg ((x,.int i)::cs):=by
 obtain⟨k,h⟩:=h;exact cs_put ⟨_,.int i,h,⟨_,rfl⟩,λH=>by simp only[Rep]⟩ t
def bs_nil:BsOk mg []:=λx h=>by cases h
def y8(h:mg x=none)(t:BsOk mg bs):BsOk mg (x::bs):=λy e=>by
 rcases mem_cons.mp e with e|e
 ·subst e;exact h
 ·exact t y e
def zQ:FsOk P w K mg base []:=λx h=>by cases h
def zB(h:FOk P w K mg base (!wl) x lv ps F)(hl:ps.length=n)(t:FsOk P w K mg base fs):FsOk P w K mg base (⟨x,n,lv,wl,F⟩::fs):=λi e=>by
 rcases mem_cons.mp e with e|e
 ·subst e
  subst hl;obtain⟨a,fd,h1,h2,h3,h4⟩:=h;exact⟨a,fd,ps,h1,h2,h3,rfl,h4⟩
 ·exact t i e
def def_at(t:Bx)(F:Fun K x x st a fd)(S:FnScope N ps (zt st))(hn:N.length=n)
  (hcs:zGU K mg cs) (hfs:FsOk P w K mg base fs) (hbs:BsOk mg bs) (hcl:ClOk K mg cl rs) (hri:zEU P w K mg base ri) (h:chkB t ⟨N,zt st,true,cs,fs,bs,lv,true,cl,rs,[],ri⟩ (ja st)=true):FnOk P w K mg base (CXx P w) (lv+1) a fd ps (spM K mg ps.length (fnM n (dB fs t))):=by
 subst hn;refine(fn_ok (c:=true) F S λcdv A outer s H E hd hr=>?_).fn;exact sB (sg:=⟨N,zt st,true,cs,fs,bs,lv,true,cl,rs,[],ri⟩) t ⟨rfl,rfl,λ_ _=>rfl,(λx h=>by cases h),id,hd,λ_=>⟨rfl,rfl⟩,S.nd,hcs,hfs,hbs,hr,hcl.1,hcl.2.1,hcl.2.2,hri⟩ h
def scP(N P:List Str)(sc:Scope):Prop:=sc.kind=.function/\sc.isCoroutine=false/\sc.isGenerator=false/\N.Nodup/\N.take P.length=P/\(∀x∈P,sc.names.lookup x=some .local\/sc.names.lookup x=some .cell)/\∀y∈sc.names,y.2≠.free
instance scD (N P:List Str) (sc:Scope):Decidable (scP N P sc):=by unfold scP;infer_instance
def sc_of{N P:List Str}{sc:Scope}(h:scP N P sc):FnScope N P sc:=⟨h.1,h.2.1,h.2.2.1,h.2.2.2.1,h.2.2.2.2.1,h.2.2.2.2.2.1,h.2.2.2.2.2.2⟩
def zG(t:Bx)(N:List Str)(T:jE K mg x st ps)
  (hcs:zGU K mg cs) (hfs:FsOk P w K mg base fs) (hbs:BsOk mg bs) (hcl:ClOk K mg cl rs) (hri:zEU P w K mg base ri) (h:(decide (scP N ps (zt st))&&chkB t ⟨N,zt st,true,cs,fs,bs,lv,c,cl,rs,[],ri⟩ (ja st))=true):FOk P w K mg base c x (lv+1) ps (fnM N.length (dB fs t)) :=
 def_ok t T (sc_of (of_decide_eq_true (Bool.and_eq_true_iff.mp h).1)) rfl hcs hfs hbs hcl hri (Bool.and_eq_true_iff.mp h).2
def def_atB(t:Bx)(N:List Str)(F:Fun K x x st a fd)
  (hcs:zGU K mg cs) (hfs:FsOk P w K mg base fs) (hbs:BsOk mg bs) (hcl:ClOk K mg cl rs) (hri:zEU P w K mg base ri) (h:(decide (scP N ps (zt st))&&chkB t ⟨N,zt st,true,cs,fs,bs,lv,true,cl,rs,[],ri⟩ (ja st))=true):FnOk P w K mg base (CXx P w) (lv+1) a fd ps (spM K mg ps.length (fnM N.length (dB fs t))) :=
 def_at t F (sc_of (of_decide_eq_true (Bool.and_eq_true_iff.mp h).1)) rfl hcs hfs hbs hcl hri (Bool.and_eq_true_iff.mp h).2
def zEV(h:xIn K c C T=true):XCls K c C T/\C≠T:=by
 unfold xIn at h;simp only[Bool.and_eq_true,beq_iff_eq,Bool.not_eq_true']at h;obtain⟨⟨⟨⟨⟨⟨⟨h1,h2⟩,h3⟩,h4⟩,h5⟩,h6⟩,h7⟩,h8⟩:=h;refine⟨⟨?_,h2,h3,h4,h5,h6,h7⟩,by simpa using h8⟩;cases e:clsIn K C with
 |none=>rw[e]at h1;cases h1
 |some cd =>
  rw[e]at h1;simp only[Bool.and_eq_true,beq_iff_eq]at h1;exact⟨cd,rfl,h1.1,h1.2⟩
def tcls_of(h:tIn K T=true):TCls K T:=by
 unfold tIn at h;simp only[Bool.and_eq_true,beq_iff_eq]at h;obtain⟨h1,h2⟩:=h;refine⟨?_,h2⟩;cases e:clsIn K T with
 |none=>rw[e]at h1;cases h1|some cd=>rw[e]at h1;exact⟨cd,rfl,by simpa using h1⟩
def spLaw(K:qH):Sp:=λvs H Q _=>∃(a:Addr) (ns:List Int),vs=[.ref a]/\SqL K H a (ns.map V.int)/\ns.length<=63/\∀H',Q (.bl true) H'
theorem Q7:∀ns:List Int,Reps K mg H (ns.map D.int) (ns.map V.int)
 | []=>Reps.nil|n::ns=>Reps.cons (by simp only[Rep]) (Q7 ns)
def law_imp(hm:∀ns:List Int,ns.length<=63->∃outs,F [.v (.l (ns.map D.int))]=.ok (.v (.bl true),outs))(vs:List V)(H:Hp)(Q:VK)(E:XK)(h:spLaw K vs H Q E):spM K mg 1 F vs H Q E:=by
 obtain⟨a,ns,rfl,hS,hl,k⟩:=h;obtain⟨outs,hF⟩:=hm ns hl;have em:∀b,¬Mo (λ_=>False) [(some (V.ref a),Slot.v (.l (ns.map D.int)))] b:=by
  intro b q;rcases q with q|q
  ·exact q
  ·rw[za]at q;cases q
 have sm:ZK H (Hm (Mo (λ_=>False) [(some (V.ref a),Slot.v (.l (ns.map D.int)))]) H):=λb o q=>z9.mpr ⟨em b,q⟩
 refine⟨rfl,λ_=>False,[.v (.l (ns.map D.int))],rfl,⟨?_,?_,?_,?_⟩,?_⟩
 ·intro o d q
  have q':=mem_singleton.mp q
  cases q';refine⟨_,rfl,?_⟩;simp only[Rep];exact⟨a,_,rfl,sm.seq hS,Q7 ns⟩
 ·intro o s ds q e
  have q':=mem_singleton.mp q
  cases q';cases e
 ·show(yF [(some (V.ref a),Slot.v (.l (ns.map D.int)))]).Nodup
  rw[za];exact List.nodup_nil
 ·intro b q;cases q
 ·rw[hF]
  intro v H' _ fr _;obtain⟨v',e,r⟩:=fr.val (some v) (.bl true) qE;cases e;simp only[Rep]at r;subst r;exact k H'
end
def jJ:zb [] E=[]:=rfl
def je:zb (.par ds::ss) (s::E)=s::zb ss E:=rfl
def jK:zb (.v d::ss) (s::E)=.e::zb ss E:=rfl
def jf:zb (.own d::ss) (s::E)=.e::zb ss E:=rfl
def jg:zb (.e::ss) (s::E)=.e::zb ss E:=rfl
theorem jT(I:Nat->zS->Prop):∀(ds:List D) (k:Nat) (E:zS),I k E ->
  (∀i d,ds[i]?=some d->∀E,I (k+i) E->∃E1 E2,tg d E=.ok E1/\body E1=.ok (.nx,E2)/\I (k+i+1) E2) ->
  ∃E',vA tg body ds E=.ok (.nx,E')/\I (k+ds.length) E'
 | [],k,E,h,step=>⟨E,rfl,h⟩
 |d::ds,k,E,h,step=>by
  obtain⟨E1,E2,h1,h2,h4⟩:=step 0 d rfl E h;obtain⟨E',q1,q2⟩:=jT I ds (k+1) E2 h4 λi d' e E h=>by
   have:=step (i+1) d' (by simpa using e) E (by rw[show k+(i+1)=k+1+i by omega];exact h);rw[show k+(i+1)=k+1+i by omega]at this;exact this
  refine⟨E',?_,?_⟩
  ·simp only[vA,h1,h2]
   exact q1
  ·rw[length_cons,show k+(ds.length+1)=k+1+ds.length by omega];exact q2
theorem wt:∀(n:Nat) (lo:Int) (i:Nat) (d:D),(zH lo n)[i]?=some d->i<n/\d=.int (lo+i)
 |0,_,_,_,h=>by simp[zH]at h
 |n+1,lo,0,d,h=>by
  simp[zH]at h;exact⟨by omega,by rw[<- h];simp⟩
 |n+1,lo,i+1,d,h=>by
  simp only[zH,List.getElem?_cons_succ]at h;obtain⟨h1,h2⟩:=wt n (lo+1) i d h;refine⟨by omega,?_⟩;rw[h2];congr 1
  push_cast
  omega
theorem wu:∀(n:Nat) (lo:Int),(zH lo n).length=n
 |0,_=>rfl|n+1,lo=>by simp[zH,wu n]
def JZ:Slot->Bool
 | .par _=>false|_=>true
theorem Gr:∀(vs:List D) (E:zS),zL (vs.map AR.tmp) E=.ok (vs.map Slot.v,E)
 | [],_=>rfl|d::vs,E=>by simp only[map_cons,zL,Gr vs E]
theorem Gs:∀(vs:List D) (outs:List Slot) (E0 E:zS),outs.length=vs.length->zJ (vs.map AR.tmp) outs E0 E=.ok E
 | [],[],_,_,_=>rfl| [],_::_,_,_,h=>by cases h|_::_,[],_,_,h=>by cases h|d::vs,s::outs,E0,E,h=>by simp only[map_cons,zJ];exact Gs vs outs E0 E (by simpa using h)
theorem Q8{vs:List D}{tg:MG}{tt:MT}{el:ME}{nl:Nat}(pat:D->List DV.Slot)(f:D->Bool)(g:D->D):∀(ds:List D),
  (∀d∈ds,∀S:List DV.Slot,S.length=nl->(∀s∈S,JZ s=true)->tg d (S++vs.map Slot.v)=.ok (pat d++vs.map Slot.v)) ->
  (∀d∈ds,(pat d).length=nl/\∀s∈pat d,JZ s=true) ->
  (∀d∈ds,tt (pat d++vs.map Slot.v)=.ok (f d,pat d++vs.map Slot.v)) ->
  (∀d∈ds,f d=true->∃r,el (pat d++vs.map Slot.v)=.ok (r,pat d++vs.map Slot.v)/\r.d=g d) ->
  ∀(S:List DV.Slot) (acc:List D),S.length=nl->(∀s∈S,JZ s=true)->acc.length+ds.length<=cap->∃S',S'.length=nl/\WS tg tt el ds (S++vs.map Slot.v) acc=.ok (acc++(ds.filter f).map g,S'++vs.map Slot.v)
 | [],_,_,_,_,S,acc,hS,_,_=>⟨S,hS,by simp[WS]⟩
 |d::ds,h1,h2,h3,h4,S,acc,hS,hn,hc=>by
  have m:=qE (a:=d) (l:=ds);have r1:=h1 d m S hS hn;have r3:=h3 d m;have r2:=h2 d m;simp only[length_cons]at hc;have go:=Q8 pat f g ds (λz hz=>h1 z (qD _ hz)) (λz hz=>h2 z (qD _ hz)) (λz hz=>h3 z (qD _ hz)) (λz hz=>h4 z (qD _ hz)) (pat d);cases hf:f d with
  |false =>
   rw[hf]at r3;obtain⟨S',l',e'⟩:=go acc r2.1 r2.2 (by omega);refine⟨S',l',?_⟩;simp only[WS,r1,r3,e',filter_cons,hf];simp
  |true =>
   rw[hf]at r3;obtain⟨r,r4,r5⟩:=h4 d m hf;obtain⟨S',l',e'⟩:=go (acc++[r.d]) r2.1 r2.2 (by simp;omega);refine⟨S',l',?_⟩;simp only[WS,r1,r3,r4];rw[if_pos (by omega),e',r5];simp[filter_cons,hf]
def zB8{vs:List D}{tg:MG}{tt:MT}{el:ME}{nl:Nat}{caps:List Nat}(pat:D->List DV.Slot)(f:D->Bool)(g:D->D)(ds:List D)
  (h1:∀d∈ds,∀S:List DV.Slot,S.length=nl->(∀s∈S,JZ s=true)->tg d (S++vs.map Slot.v)=.ok (pat d++vs.map Slot.v))
  (h2:∀d∈ds,(pat d).length=nl/\∀s∈pat d,JZ s=true)
  (h3:∀d∈ds,tt (pat d++vs.map Slot.v)=.ok (f d,pat d++vs.map Slot.v))
  (h4:∀d∈ds,f d=true->∃r,el (pat d++vs.map Slot.v)=.ok (r,pat d++vs.map Slot.v)/\r.d=g d) (hc:ds.length<=cap)
  {mi:MI} {E E1:zS} (hi:mi E=.ok (ds,E1)) (hcap:JL E1 caps=.ok (vs.map AR.tmp)):uF nl caps mi tg tt el E=.ok (.own ((ds.filter f).map g),E1):=by
 obtain⟨S',l',e'⟩:=Q8 (vs:=vs) (tg:=tg) (tt:=tt) (el:=el) (nl:=nl) pat f g ds h1 h2 h3 h4 (replicate nl .e) [] (by simp) (λs hs=>by rw[(List.mem_replicate.mp hs).2];rfl) (by simpa using hc);simp only[uF,hi,hcap,Gr,e'];rw[Gs vs _ _ _ (by rw[length_drop,zX];simp)];simp
def gT_ok3{a b c:D}{S:List DV.Slot}{R:List DV.Slot}(hS:S.length=3)(hn:∀s∈S,JZ s=true):gT [0,1,2] (.t [a,b,c]) (S++R)=.ok ([.v a,.v b,.v c]++R):=by
 match S,hS,hn with
 | [x,y,z],_,hn =>
  have hx:=hn x (by simp);have hy:=hn y (by simp);have hz:=hn z (by simp);cases x<;>first|(cases hx;done)|(cases y<;>first|(cases hy;done)|(cases z<;>first|(cases hz;done)|rfl))
def zHV{a b:D}{S:List DV.Slot}{R:List DV.Slot}(hS:S.length=2)(hn:∀s∈S,JZ s=true):gT [0,1] (.t [a,b]) (S++R)=.ok ([.v a,.v b]++R):=by
 match S,hS,hn with
 | [x,y],_,hn =>
  have hx:=hn x (by simp);have hy:=hn y (by simp);cases x<;>first|(cases hx;done)|(cases y<;>first|(cases hy;done)|rfl)
def zEW{a:D}{S:List DV.Slot}{R:List DV.Slot}(hS:S.length=1)(hn:∀s∈S,JZ s=true):gN 0 a (S++R)=.ok ([.v a]++R):=by
 match S,hS,hn with
 | [x],_,hn =>
  have hx:=hn x (by simp);cases x<;>first|(cases hx;done)|rfl
theorem zB9:∀(l:List Obj) (i:Nat) (as:List Addr) (a:Addr) (o:Obj),(QM l i as).lookup a=some o->∃j,a=i+j/\l[j]?=some o/\isFr o=false
 | [],_,_,a,o,e=>by cases e|_::_,_,[],a,o,e=>by cases e
 |x::os,i,b::as,a,o,e=>by
  have up:∀{as:List Addr},(QM os (i+1) as).lookup a=some o->∃j,a=i+j/\(x::os)[j]?=some o/\isFr o=false:=λe=>by
   obtain⟨j,h1,h2,h3⟩:=zB9 os (i+1) _ a o e;exact⟨j+1,h1.trans ((Nat.add_assoc i 1 j).trans (congrArg (i+·) (Nat.add_comm 1 j))),by simpa using h2,h3⟩
  unfold QM at e;cases hb:Nat.beq i b with
  |false=>rw[hb]at e;exact up e
  |true =>
   rw[hb]at e;cases hf:isFr x with
   |true=>rw[hf]at e;exact up e
   |false =>
    rw[hf]at e;replace e:(match a==i with|true=>some x|false=>List.lookup a (QM os (i+1) as))=some o:=e
    cases ha:a==i with
    |true =>
     rw[ha]at e;cases e;exact⟨0,beq_iff_eq.mp ha,rfl,hf⟩
    |false=>rw[ha]at e;exact up e
def zEX(as:List Addr):(Yb h as).In h:=λa o e=>by
 obtain⟨j,h1,h2,h3⟩:=zB9 _ _ _ _ _ e;rw[zero_add]at h1;subst h1;have h4:h.objs[a]?=some o:=by rw[<- Array.getElem?_toList];exact h2
 unfold Heap.get?;rw[h4];obtain⟨c,d,dt,sl⟩:=o;cases dt<;>first|rfl|(cases h3)
def zCA(as:List Addr)(α:Type)(L:qH->α)(v:α):PySem.W.Hook :=
 ⟨α,λs=>L (Yb s.heap as),λ_=>v,λ_ h=>∃K:qH,K.In h/\L K=v,λ_ s e=>⟨_,zEX as,e⟩,λ_ _ _ ⟨K,x,e⟩ k=>⟨K,x.keeps k,e⟩⟩
def zGV(e:zd K n=ze n st):∃(f:Addr) (oc:Value) (od:Option Addr) (kV dc pm:Value) (an:Option Addr) (cd ct:Value) (sl:Array (Option Value)),
  nsIn K mainGlobals n=some (some (.ref f))/\K.lookup f=some ⟨oc,od,.func (fnOf n n (YJ st) (ja st) (zt st) .none kV dc pm an cd ct),sl⟩/\codeIn K cd n=true/\keepIn K (.ref f)=true:=by
 unfold zd at e;split at e
 ·rename_i a ha
  split at e
  ·rename_i oc od fd sl hl
   have e:=qJ e;unfold fvOf at e;injection e with e1 e
   injection e with e2 e
   injection e with e3 e
   injection e with e4 e
   injection e with e5 e
   injection e with e6 e
   injection e with e7 e
   injection e with e8 e
   injection e with e9 e10
   obtain⟨k,p⟩:=zE e1;cases fd;simp only at e2 e3 e4 e5 e6 e7 e8 e9 e10;subst e2 e3 e4 e5 e6 e7 e8 e9 e10;exact⟨_,_,_,_,_,_,_,_,_,_,ha,hl,k,p⟩
  ·cases e
 ·cases e
def nth{α:Type}:List α->Nat->Option α
 | [],_=>none|a::_,0=>some a|_::l,n+1=>nth l n
def ix{α:Type}{l l':List α}(n:Nat)(h:l=l'):nth l n=nth l' n:=congrArg (λl=>nth l n) h
section
variable{K:qH}{h:Heap}{mg:Str->Option Value}
def ar0{P:List Value->Prop}(h:P []):∀us:List Value,us.length=0->P us
 | [],_=>h
def arS{P:List Value->Prop}(h:∀a us,us.length=n->P (a::us)):∀us:List Value,us.length=n+1->P us:=by intro us e;cases us with|nil=>cases e|cons a t=>exact h a t (Nat.succ.inj e)
def ar1{P:List Value->Prop}(h:∀a:Value,P [a]):∀us:List Value,us.length=1->P us:=arS λa=>ar0 (P:=λus=>P (a::us)) (h a)
def ar2{P:List Value->Prop}(h:∀a b:Value,P [a,b]):∀us:List Value,us.length=2->P us:=arS λa=>ar1 (P:=λus=>P (a::us)) (h a)
def ar3{P:List Value->Prop}(h:∀a b c:Value,P [a,b,c]):∀us:List Value,us.length=3->P us:=arS λa=>ar2 (P:=λus=>P (a::us)) (h a)
def ar4{P:List Value->Prop}(h:∀a b c d:Value,P [a,b,c,d]):∀us:List Value,us.length=4->P us
 | [a,b,c,d],_=>h a b c d
def ar5{P:List Value->Prop}(h:∀a b c d e:Value,P [a,b,c,d,e]):∀us:List Value,us.length=5->P us
 | [a,b,c,d,e],_=>h a b c d e
def zn(X:K.In h)(G:h.Ns mainGlobals mg)(e:some (zd K n)=some (ze n st))
  (b:∀(kV doc pm:Value) (an:Option Addr) (cdv ct:Value) (us:List Value),us.length=ps.length->bindArgs (fnOf n n (YJ st) (ja st) (zt st) .none kV doc pm an cdv ct) ⟨us,[]⟩=pure (ps.zip us):=by intro _ _ _ _ _ _;first|exact ar1 (λ_=>rfl)|exact ar2 (λ_ _=>rfl)|exact ar3 (λ_ _ _=>rfl)|exact ar4 (λ_ _ _ _=>rfl)|exact ar5 (λ_ _ _ _ _=>rfl)|exact ar0 rfl):jE K mg n st ps:=by
 obtain⟨f,oc,od,kV,dc,pm,an,cd,ct,sl,a,l,k,p⟩:=zGV (qJ e);exact⟨_,_,mg_of X G a,zGw (st:=st) l k p,(zGw (st:=st) l k p).binds b⟩
def uI(X:K.In h)(G:h.Ns mainGlobals mg)(e:some (JD K n)=some (some i)):∃t,mg n=some (.int i t):=by
 have e:=qJ e;unfold JD at e;split at e
 ·rename_i j t hj
  cases e;exact⟨_,mg_of X G hj⟩
 ·cases e
def Y4(X:K.In h)(G:h.Ns mainGlobals mg)(e:some (jh K n)=some true):mg n=none:=by
 have e:=qJ e;unfold jh at e;split at e
 ·rename_i hj
  exact PySem.W.mg_none_of X G hj
 ·cases e
def zA7(X:K.In h)(G:h.Ns mainGlobals mg)(e:J0 K n=some a):mg n=some (.ref a):=by
 unfold J0 at e;split at e
 ·rename_i b hb
  cases e;exact mg_of X G hb
 ·cases e
def sm_at(e:zC4 K=true):zHF K:=by
 unfold zC4 at e;cases h:K.lookup sysModules with
 |none=>rw[h]at e;cases e
 |some o =>
  rw[h]at e;dsimp only at e;cases hd:o.data with
  |dict es n=>exact⟨o,es,n,h,hd⟩|_=>rw[hd]at e;cases e
def cl_at(X:K.In h)(G:h.Ns mainGlobals mg)(e:zGn K cl rs=true):ClOk K mg cl rs:=by
 obtain⟨e,e3⟩:=zE e;obtain⟨e1,e2⟩:=zE e;refine⟨λhc=>?_,λc hc=>?_,sm_at e3⟩
 ·cases cl with
  |nil=>exact absurd rfl hc
  |cons c0 cs =>
   replace e1:(match J0 K "ThrowError" with
    |some T=>tIn K T&&(c0::cs).all λc=>(match J0 K c with|some C=>xIn K c C T|none=>false)
    |none=>false)=true:=e1
   cases hT:J0 K "ThrowError" with
   |none=>rw[hT]at e1;cases e1
   |some T =>
    rw[hT]at e1;obtain⟨t1,t2⟩:=zE e1;refine⟨T,zA7 X G hT,tcls_of t1,λc hc=>?_⟩;have q:=all_eq_true.mp t2 c hc;cases hC:J0 K c with
    |none=>rw[hC]at q;cases q
    |some C =>
     rw[hC]at q;exact⟨C,zA7 X G hC,(zEV q).1,(zEV q).2⟩
 ·have q:=all_eq_true.mp e2 c hc
  cases hC:J0 K c with
  |none=>rw[hC]at q;cases q
  |some C =>
   rw[hC]at q;exact⟨C,zA7 X G hC,q⟩
end
def walkE{l:PySem.W.OpenLaw}{q:Program}{loose:List Str}{XP:(Str->Option Value)->Heap->Prop}{d:DefRec}{as:List Addr}{α:Type}{L:qH->α}{v:α}{x:Str}{F:MF}(hm:∀ns:List Int,ns.length<=63->∃outs,F [.v (.l (ns.map D.int))]=.ok (.v (.bl true),outs))
  (hn:l.most=some 63) (hdf:d.params.defaults=[])
  (Gk:∀(w:World) (K:qH) (mg:Str->Option Value) (fa:Addr) (h:Heap),K.In h->L K=v->h.Ns mainGlobals mg->mg d.name=some (.ref fa) ->
   ∃fd:FuncData,(∀(s:Shared) (u:Value),BindsTo s fd ⟨[u],[]⟩ [(x,u)])/\∀base:Heap,FnOk l.prog w K mg base (CXx l.prog w) 40 fa fd [x] (spM K mg 1 F)) :
  PySem.W.WalkO q loose XP (zCA as α L v).says l.row.toRowW d [] (λf vs=>PySem.call f vs):=by
 refine Att.attach_call hn hdf λw s₀ s₁ mg mb fa o pm cd doc a vs ns G Y ho hd hcd hmg hobj hints hlen hg=>?_
 obtain⟨K,KX,e⟩:=Y;obtain⟨fd,hb,hF⟩:=Gk w K mg fa _ KX e G.T.g hmg;exact zFS (sp:=spLaw K) (k:=40) KX G.T.g G.T.b G.T.builtins G.T.nolimit hg hobj hints (le_trans hlen (by decide)) ⟨rfl,rfl,by decide,by decide⟩ (λbase _ _=>(hF base).imp (law_imp hm)) hb (λH hO hS=>⟨a,ns,rfl,hS,hlen,λ_=>rfl⟩) λH e s' ⟨_,_,_,_,_,_,_,_,_,_,_,_,z⟩=>z
end DV
namespace My
open PySem L2 DV
def cs_:List (Str×D):=[("LEAST_SIGNS",.int 2),("LEAST_WEIGHT",.int 1),("MOST_COUNTED",.int 40),("MOST_FREE",.int 20),("MOST_SIGNS",.int 3),("MOST_STANDS",.int 12),("MOST_TAKEN",.int 40),("MOST_THROWS",.int 20),("MOST_WATCHED",.int 11),("MOST_WEIGHT",.int 9)]
def bs_:List Str:=["abs","all","bool","enumerate","int","isinstance","len","list","max","range","reversed","sum","tuple","zip"]
def ri_:List Str:=[]
def ux:Bx :=
  (.bOne (.sRet (.and (.is .int (.var 0)) (.not (.is .bool (.var 0))))))
def zA8:List FI:=[]
def ZV:MF:=fnM 1 (dB zA8 ux)
def ye:Bx :=
  (.bOne (.sRet (.and (.call 0 (.ev (.var 0) .nil)) (.chain .le .le (.var 1) (.var 0) (.var 2)))))
def y9:List FI:=[⟨"is_whole",1,1,false,ZV⟩]
def zY:MF:=fnM 3 (dB y9 ye)
abbrev Jz:Bx :=
  (.bOne (.sPar 0 1 (.cons (.var 1) (.cons (.bin .mod (.var 0) (.var 1)) .nil))))
def wH:Bx :=
  (.bSeq (.sPar 0 1 (.cons (.cB .abs (.cons (.var 0) .nil)) (.cons (.cB .abs (.cons (.var 1) .nil)) .nil)))
  (.bSeq (.sWhile (.tE (.cmp .ne (.var 1) (.c (.int 0))))
  Jz)
  (.bOne (.sRet (.var 0)))))
def yq:List FI:=[]
def jA:MF:=fnM 2 (dB yq wH)
abbrev vV:Bx :=
  (.bOne (.sAug 2 .mul (.var 0)))
def Y5:Bx :=
  (.bSeq (.sSet 2 (.c (.int 1)))
  (.bSeq (.sForR1 (.cons (.var 1) .nil) (.n 3)
  vV)
  (.bOne (.sRet (.var 2)))))
def J8:List FI:=[]
def jr:MF:=fnM 4 (dB J8 Y5)
def uy:Bx :=
  (.bSeq (.sIf (.tE (.cmp .eq (.var 1) (.c (.int 0)))) (.bOne .sAny) .bNil)
  (.bSeq (.sSet 2 (.call 0 (.ev (.var 0) (.ev (.var 1) .nil))))
  (.bSeq (.sIf (.tE (.cmp .lt (.var 1) (.c (.int 0)))) (.bOne (.sSet 2 (.neg (.var 2)))) .bNil)
  (.bOne (.sRet (.t (.cons (.bin .fdiv (.var 0) (.var 2)) (.cons (.bin .fdiv (.var 1) (.var 2)) .nil))))))))
def zA9:List FI:=[⟨"greatest_divisor",2,1,false,jA⟩]
def Js:MF:=fnM 3 (dB zA9 uy)
def uz:Bx :=
  (.bSeq (.sIf (.tOr (.tNot (.tE (.is .tuple (.var 0)))) (.tNot (.tE (.chain .le .le (.gl (.int 2)) (.cB .len (.cons (.var 0) .nil)) (.gl (.int 3)))))) (.bOne (.sRet (.c (.bl false)))) .bNil)
  (.bOne (.sRet (.cB .all (.cons (.comp 1 ["weight"] [] [] (.iT (.var 0)) (.n 0) .tTr (.call 0 (.ev (.var 0) (.ev (.gl (.int 1)) (.ev (.gl (.int 9)) .nil))))) .nil)))))
def YS:List FI:=[⟨"is_whole_within",3,2,false,zY⟩]
def ZW:MF:=fnM 1 (dB YS uz)
def vX:Bx :=
  (.bOne (.sRet (.call 0 (.ev (.var 0) (.ev (.c (.int 0)) (.ev (.bin .sub (.gl (.int 3)) (.c (.int 1))) .nil))))))
def Q9:List FI:=[⟨"is_whole_within",3,2,false,zY⟩]
def YT:MF:=fnM 1 (dB Q9 vX)
def GB:Bx :=
  (.bSeq (.sIf (.tOr (.tNot (.tE (.is .tuple (.var 0)))) (.tE (.cmp .gt (.cB .len (.cons (.var 0) .nil)) (.gl (.int 20))))) (.bOne (.sRet (.c (.bl false)))) .bNil)
  (.bOne (.sRet (.cB .all (.cons (.comp 1 ["sign"] [] [] (.iT (.var 0)) (.n 0) .tTr (.call 0 (.ev (.var 0) .nil))) .nil)))))
def j5:List FI:=[⟨"sign_good",1,3,false,YT⟩]
def jL:MF:=fnM 1 (dB j5 GB)
def Y6:Bx :=
  (.bOne (.sRet (.and (.call 0 (.ev (.var 0) .nil)) (.cB .all (.cons (.comp 1 ["sign"] ["signs"] [1] (.iT (.var 0)) (.n 0) .tTr (.cmp .lt (.var 0) (.var 1))) .nil)))))
def J9:List FI:=[⟨"row_good",1,4,false,jL⟩]
def yf:MF:=fnM 2 (dB J9 Y6)
def GC:Bx :=
  (.bOne (.sIf (.tNot (.tE (.call 0 (.ev (.var 0) .nil)))) (.bOne .sAny) .bNil))
def zBA:List FI:=[⟨"die_good",1,3,false,ZW⟩]
def Jt:MF:=fnM 1 (dB zBA GC)
def GE:Bx :=
  (.bOne (.sIf (.tNot (.tE (.call 0 (.ev (.var 0) .nil)))) (.bOne .sAny) .bNil))
def zBB:List FI:=[⟨"row_good",1,4,false,jL⟩]
def ZX:MF:=fnM 1 (dB zBB GE)
def Y7:Bx :=
  (.bOne (.sIf (.tNot (.tE (.call 0 (.ev (.var 0) (.ev (.var 1) (.ev (.var 2) .nil)))))) (.bOne .sAny) .bNil))
def uJ:List FI:=[⟨"is_whole_within",3,2,false,zY⟩]
def zN:MF:=fnM 3 (dB uJ Y7)
def Z5:Bx :=
  (.bOne (.sDrop (.call 0 (.ev (.var 0) (.ev (.gl (.int 2)) (.ev (.gl (.int 3)) .nil))))))
def Gu:List FI:=[⟨"need_number",3,3,false,zN⟩]
def yb:MF:=fnM 1 (dB Gu Z5)
def vY:Bx :=
  (.bOne (.sDrop (.call 0 (.ev (.var 0) (.ev (.c (.int 0)) (.ev (.bin .sub (.var 1) (.c (.int 1))) .nil))))))
def zAA:List FI:=[⟨"need_number",3,3,false,zN⟩]
def vZ:MF:=fnM 2 (dB zAA vY)
def jM:Bx :=
  (.bOne (.sRet (.maxd (.comp 3 ["sign","begin","length"] [] [] (.iL (.var 0)) (.t [0,1,2]) .tTr (.var 2)) (.c (.int 0)))))
def wI:List FI:=[]
def yN:MF:=fnM 1 (dB wI jM)
abbrev zBC:Bx :=
  (.bOne (.sIf (.tOr (.tE (.cmp .eq (.var 3) (.cB .len (.cons (.var 0) .nil)))) (.tE (.cmp .ne (.ix (.var 0) (.var 3)) (.ix (.var 0) (.var 2))))) (.bSeq (.sApp 1 (.t (.cons (.ix (.var 0) (.var 2)) (.cons (.var 2) (.cons (.bin .sub (.var 3) (.var 2)) .nil)))))
  (.bOne (.sSet 2 (.var 3)))) .bNil))
def zAB:Bx :=
  (.bSeq (.sDrop (.call 0 (.ev (.var 0) .nil)))
  (.bSeq (.sSet 1 (.l .nil))
  (.bSeq (.sSet 2 (.c (.int 0)))
  (.bSeq (.sForR2 (.cons (.c (.int 1)) (.cons (.bin .add (.cB .len (.cons (.var 0) .nil)) (.c (.int 1))) .nil)) (.n 3)
  zBC)
  (.bOne (.sRet (.mov 1)))))))
def zf:List FI:=[⟨"need_row",1,5,false,ZX⟩]
def jX:MF:=fnM 4 (dB zf zAB)
def Y8:Bx :=
  (.bOne (.sRet (.call 0 (.ev (.call 1 (.ev (.var 0) .nil)) .nil))))
def uK:List FI:=[⟨"greatest_length",1,1,false,yN⟩,⟨"runs_of",1,6,false,jX⟩]
def yI:MF:=fnM 1 (dB uK Y8)
abbrev yh:Bx :=
  (.bSeq (.sSet 5 (.cB .sum (.cons (.comp 1 ["of_sign"] [] [] (.iL (.var 3)) (.n 0) .tTr (.cB .sum (.cons (.var 0) .nil))) .nil)))
  (.bOne (.sSet 3 (.comp 2 ["weight","of_sign"] ["whole"] [5] (.iZA false (.cons (.var 0) (.cons (.var 3) .nil))) (.t [0,1]) .tTr (.bin .add (.l (.cons (.bin .mul (.var 0) (.bin .sub (.var 2) (.cB .sum (.cons (.var 1) .nil)))) .nil)) (.comp 1 ["end"] ["weight"] [0] (.iL (.sl (.var 1) .oN (.oS (.neg (.c (.int 1)))))) (.n 0) .tTr (.bin .mul (.var 1) (.var 0))))))))
def wJ:Bx :=
  (.bSeq (.sIf (.tE (.cmp .eq (.var 1) (.c (.int 0)))) (.bOne (.sRet (.c (.int 1)))) .bNil)
  (.bSeq (.sIf (.tE (.cmp .eq (.var 2) (.c (.int 0)))) (.bOne (.sRet (.c (.int 0)))) .bNil)
  (.bSeq (.sSet 3 (.comp 1 ["weight"] ["k"] [2] (.iA (.var 0)) (.n 0) .tTr (.bin .add (.l (.cons (.var 0) .nil)) (.bin .mul (.l (.cons (.c (.int 0)) .nil)) (.bin .sub (.var 1) (.c (.int 1)))))))
  (.bSeq (.sForR1 (.cons (.bin .sub (.var 1) (.c (.int 1))) .nil) (.n 4)
  yh)
  (.bOne (.sRet (.cB .sum (.cons (.comp 1 ["of_sign"] [] [] (.iL (.var 3)) (.n 0) .tTr (.cB .sum (.cons (.var 0) .nil))) .nil))))))))
def zg:List FI:=[]
def zx:MF:=fnM 6 (dB zg wJ)
def wK:Bx :=
  (.bOne (.sDrop (.call 0 (.ev (.var 0) (.ev (.c (.int 1)) (.ev (.gl (.int 20)) .nil))))))
def YU:List FI:=[⟨"need_number",3,3,false,zN⟩]
def zy:MF:=fnM 1 (dB YU wK)
def YA:Bx :=
  (.bSeq (.sDrop (.call 2 (.ev (.var 0) .nil)))
  (.bSeq (.sDrop (.call 1 (.ev (.var 1) (.ev (.c (.int 0)) (.ev (.gl (.int 20)) .nil)))))
  (.bOne (.sDrop (.call 0 (.ev (.var 2) .nil))))))
def vb:List FI:=[⟨"need_free_length",1,4,false,zy⟩,⟨"need_number",3,3,false,zN⟩,⟨"need_signs",1,4,false,yb⟩]
def yW:MF:=fnM 3 (dB vb YA)
abbrev YV:Bx :=
  (.bOne (.sSet 4 (.bin .add (.l (.cons (.bin .mul (.bin .sub (.var 0) (.c (.int 1))) (.cB .sum (.cons (.var 4) .nil))) .nil)) (.sl (.var 4) .oN (.oS (.neg (.c (.int 1))))))))
def zAC:Bx :=
  (.bSeq (.sIf (.tE (.cmp .ge (.call 2 (.ev (.var 2) .nil)) (.var 1))) (.bOne (.sRet (.c (.int 0)))) .bNil)
  (.bSeq (.sIf (.tE (.cmp .eq (.var 2) (.t .nil))) (.bOne (.sRet (.call 1 (.ev (.bin .mul (.l (.cons (.c (.int 1)) .nil)) (.var 0)) (.ev (.var 3) (.ev (.bin .sub (.var 1) (.c (.int 1))) .nil)))))) .bNil)
  (.bSeq (.sSet 4 (.bin .mul (.l (.cons (.c (.int 0)) .nil)) (.bin .sub (.var 1) (.c (.int 1)))))
  (.bSeq (.sIx 4 (.bin .sub (.ix (.ix (.call 0 (.ev (.var 2) .nil)) (.neg (.c (.int 1)))) (.c (.int 2))) (.c (.int 1))) (.c (.int 1)))
  (.bSeq (.sForR1 (.cons (.var 3) .nil) (.n 5)
  YV)
  (.bOne (.sRet (.cB .sum (.cons (.var 4) .nil)))))))))
def Ju:List FI:=[⟨"runs_of",1,6,false,jX⟩,⟨"weigh_alike_upto",3,1,false,zx⟩,⟨"longest_any",1,7,false,yI⟩]
def yO:MF:=fnM 6 (dB Ju zAC)
def vc:Bx :=
  (.bSeq (.sDrop (.call 1 (.ev (.var 0) (.ev (.var 1) (.ev (.var 2) .nil)))))
  (.bOne (.sRet (.call 0 (.ev (.var 0) (.ev (.var 2) (.ev (.t .nil) (.ev (.var 1) .nil))))))))
def zAD:List FI:=[⟨"ways_on",4,8,false,yO⟩,⟨"need_ordered",3,5,false,yW⟩]
def yS:MF:=fnM 3 (dB zAD vc)
abbrev Ja:Bx :=
  (.bSeq (.sAug 5 .sub (.var 8))
  (.bSeq (.sAug 7 .add (.c (.int 1)))
  (.bOne (.sSet 8 (.call 0 (.ev (.var 0) (.ev (.var 2) (.ev (.bin .add (.var 4) (.t (.cons (.var 7) .nil))) (.ev (.var 6) .nil)))))))))
abbrev Z6:Bx :=
  (.bSeq (.sSet 7 (.c (.int 0)))
  (.bSeq (.sSet 8 (.call 0 (.ev (.var 0) (.ev (.var 2) (.ev (.bin .add (.var 4) (.t (.cons (.var 7) .nil))) (.ev (.var 6) .nil))))))
  (.bSeq (.sWhile (.tE (.cmp .ge (.var 5) (.var 8)))
  Ja)
  (.bOne (.sSet 4 (.bin .add (.var 4) (.t (.cons (.var 7) .nil))))))))
def GF:Bx :=
  (.bSeq (.sDrop (.call 1 (.ev (.var 3) (.ev (.c (.int 0)) (.ev (.bin .sub (.call 2 (.ev (.var 0) (.ev (.var 1) (.ev (.var 2) .nil)))) (.c (.int 1))) .nil)))))
  (.bSeq (.sSet 4 (.t .nil))
  (.bSeq (.sSet 5 (.var 3))
  (.bSeq (.sForI (.iRv (.cons (.var 1) .nil)) (.n 6)
  Z6)
  (.bOne (.sRet (.var 4)))))))
def jN:List FI:=[⟨"ways_on",4,8,false,yO⟩,⟨"need_number",3,3,false,zN⟩,⟨"free_many",3,9,false,yS⟩]
def jO:MF:=fnM 9 (dB jN GF)
def vd:Bx :=
  (.bSeq (.sDrop (.call 4 (.ev (.var 0) .nil)))
  (.bSeq (.sDrop (.call 3 (.ev (.var 1) .nil)))
  (.bSeq (.sIf (.tOr (.tNot (.tE (.call 2 (.ev (.var 2) (.ev (.var 0) .nil))))) (.tE (.cmp .ge (.call 1 (.ev (.var 2) .nil)) (.var 1)))) (.bOne .sAny) .bNil)
  (.bOne (.sRet (.cB .sum (.cons (.comp2 3 ["at","sign","smaller"] ["m","k","row"] [0,1,2] (.iE true (.cons (.var 2) .nil)) (.t [0,1]) (.iR1 (.cons (.var 1) .nil)) (.n 2) (.call 0 (.ev (.var 3) (.ev (.var 4) (.ev (.bin .add (.sl (.var 5) .oN (.oS (.var 0))) (.t (.cons (.var 2) .nil))) (.ev (.bin .sub (.bin .sub (.cB .len (.cons (.var 5) .nil)) (.var 0)) (.c (.int 1))) .nil)))))) .nil)))))))
def yc:List FI:=[⟨"ways_on",4,8,false,yO⟩,⟨"longest_any",1,7,false,yI⟩,⟨"row_good_of",2,5,false,yf⟩,⟨"need_free_length",1,4,false,zy⟩,⟨"need_signs",1,4,false,yb⟩]
def yr:MF:=fnM 3 (dB yc vd)
def vf:Bx :=
  (.bSeq (.sSet 3 (.bin .add (.call 2 (.ev (.var 0) (.ev (.var 1) (.ev (.var 2) .nil)))) (.c (.int 1))))
  (.bSeq (.sIf (.tE (.cmp .eq (.var 3) (.call 1 (.ev (.var 0) (.ev (.cB .len (.cons (.var 2) .nil)) (.ev (.var 1) .nil)))))) (.bOne (.sRet (.c .non))) .bNil)
  (.bOne (.sRet (.call 0 (.ev (.var 0) (.ev (.cB .len (.cons (.var 2) .nil)) (.ev (.var 1) (.ev (.var 3) .nil)))))))))
def zAE:List FI:=[⟨"free_nth",4,10,false,jO⟩,⟨"free_many",3,9,false,yS⟩,⟨"free_rank",3,9,false,yr⟩]
def wv:MF:=fnM 4 (dB zAE vf)
def Z7:Bx :=
  (.bSeq (.sDrop (.call 1 (.ev (.var 0) (.ev (.var 1) (.ev (.var 2) .nil)))))
  (.bOne (.sIf (.tOr (.tNot (.tE (.call 0 (.ev (.var 3) (.ev (.var 0) .nil))))) (.tE (.cmp .gt (.cB .len (.cons (.var 3) .nil)) (.var 1)))) (.bOne .sAny) .bNil)))
def Gv:List FI:=[⟨"row_good_of",2,5,false,yf⟩,⟨"need_ordered",3,5,false,yW⟩]
def yz:MF:=fnM 4 (dB Gv Z7)
def Z8:Bx :=
  (.bSeq (.sDrop (.call 1 (.ev (.var 0) (.ev (.var 1) (.ev (.var 2) (.ev (.var 3) .nil))))))
  (.bOne (.sRet (.call 0 (.ev (.var 0) (.ev (.var 2) (.ev (.var 3) (.ev (.bin .sub (.var 1) (.cB .len (.cons (.var 3) .nil))) .nil))))))))
def Gw:List FI:=[⟨"ways_on",4,8,false,yO⟩,⟨"need_begun",4,6,false,yz⟩]
def yJ:MF:=fnM 4 (dB Gw Z8)
def Z9:Bx :=
  (.bSeq (.sDrop (.call 1 (.ev (.var 0) (.ev (.var 1) (.ev (.var 2) (.ev (.var 3) .nil))))))
  (.bSeq (.sSet 4 (.bin .sub (.bin .sub (.var 1) (.cB .len (.cons (.var 3) .nil))) (.c (.int 1))))
  (.bSeq (.sIf (.tE (.cmp .lt (.var 4) (.c (.int 0)))) (.bOne (.sRet (.l .nil))) .bNil)
  (.bOne (.sRet (.comp 1 ["sign"] ["m","k","row","left"] [0,2,3,4] (.iR1 (.cons (.var 0) .nil)) (.n 0) (.tE (.cmp .gt (.call 0 (.ev (.var 1) (.ev (.var 2) (.ev (.bin .add (.var 3) (.t (.cons (.var 0) .nil))) (.ev (.var 4) .nil))))) (.c (.int 0)))) (.var 0)))))))
def jB:List FI:=[⟨"ways_on",4,8,false,yO⟩,⟨"need_begun",4,6,false,yz⟩]
def wL:MF:=fnM 5 (dB jB Z9)
def YB:Bx :=
  (.bOne (.sRet (.call 0 (.ev (.var 2) (.ev (.call 1 (.ev (.cB .sum (.cons (.var 0) .nil)) (.ev (.var 1) .nil))) .nil)))))
def vg:List FI:=[⟨"share_of",2,2,false,Js⟩,⟨"whole_power",2,1,false,jr⟩]
def jU:MF:=fnM 3 (dB vg YB)
def GG:Bx :=
  (.bSeq (.sDrop (.call 3 (.ev (.var 0) .nil)))
  (.bSeq (.sDrop (.call 2 (.ev (.var 1) (.ev (.c (.int 0)) (.ev (.gl (.int 40)) .nil)))))
  (.bSeq (.sDrop (.call 2 (.ev (.var 2) (.ev (.c (.int 0)) (.ev (.gl (.int 40)) .nil)))))
  (.bOne (.sRet (.call 0 (.ev (.var 0) (.ev (.var 1) (.ev (.call 1 (.ev (.var 0) (.ev (.var 1) (.ev (.var 2) .nil)))) .nil)))))))))
def zBD:List FI:=[⟨"share_in_all",3,3,false,jU⟩,⟨"weigh_alike_upto",3,1,false,zx⟩,⟨"need_number",3,3,false,zN⟩,⟨"need_die",1,4,false,Jt⟩]
def Jv:MF:=fnM 3 (dB zBD GG)
def WA:Bx :=
  (.bOne (.sRet (.and (.is .tuple (.var 0)) (.cB .all (.cons (.comp 1 ["number"] ["high"] [1] (.iT (.var 0)) (.n 0) .tTr (.call 0 (.ev (.var 0) (.ev (.c (.int 0)) (.ev (.var 1) .nil))))) .nil)))))
def Gy:List FI:=[⟨"is_whole_within",3,2,false,zY⟩]
def Jb:MF:=fnM 2 (dB Gy WA)
def WB:Bx :=
  (.bSeq (.sIf (.tOr (.tNot (.tE (.is .tuple (.var 0)))) (.tNot (.tE (.chain .le .le (.c (.int 1)) (.cB .len (.cons (.var 0) .nil)) (.gl (.int 12)))))) (.bOne (.sRet (.c (.bl false)))) .bNil)
  (.bSeq (.sIf (.tNot (.tE (.cB .all (.cons (.comp 1 ["row"] ["thing"] [0] (.iT (.var 0)) (.n 0) .tTr (.call 0 (.ev (.var 0) (.ev (.bin .sub (.cB .len (.cons (.var 1) .nil)) (.c (.int 1))) .nil)))) .nil)))) (.bOne (.sRet (.c (.bl false)))) .bNil)
  (.bSeq (.sSet 1 (.cB .len (.cons (.ix (.var 0) (.c (.int 0))) .nil)))
  (.bOne (.sRet (.and (.chain .le .le (.gl (.int 2)) (.var 1) (.gl (.int 3))) (.cB .all (.cons (.comp 1 ["row"] ["signs"] [1] (.iT (.var 0)) (.n 0) .tTr (.cmp .eq (.cB .len (.cons (.var 0) .nil)) (.var 1))) .nil))))))))
def Gz:List FI:=[⟨"all_within",2,3,false,Jb⟩]
def WC:MF:=fnM 2 (dB Gz WB)
def Jc:Bx :=
  (.bSeq (.sIf (.tNot (.tE (.call 0 (.ev (.var 0) (.ev (.bin .sub (.var 1) (.c (.int 1))) .nil))))) (.bOne (.sRet (.c (.bl false)))) .bNil)
  (.bOne (.sRet (.cB .all (.cons (.comp 2 ["one","behind"] [] [] (.iZ true true (.cons (.var 0) (.cons (.sl (.var 0) (.oS (.c (.int 1))) .oN) .nil))) (.t [0,1]) .tTr (.cmp .lt (.var 0) (.var 1))) .nil)))))
def WW:List FI:=[⟨"all_within",2,3,false,Jb⟩]
def Jd:MF:=fnM 2 (dB WW Jc)
def YC:Bx :=
  (.bSeq (.sIf (.tOr (.tNot (.tE (.is .tuple (.var 0)))) (.tE (.cmp .ne (.cB .len (.cons (.var 0) .nil)) (.c (.int 2))))) (.bOne (.sRet (.c (.bl false)))) .bNil)
  (.bSeq (.sTup [1,2] (.var 0))
  (.bOne (.sRet (.and (.call 1 (.ev (.var 1) .nil)) (.call 0 (.ev (.var 2) (.ev (.cB .len (.cons (.var 1) .nil)) .nil))))))))
def vh:List FI:=[⟨"rising_stands",2,4,false,Jd⟩,⟨"steps_good",1,4,false,WC⟩]
def YD:MF:=fnM 3 (dB vh YC)
def YE:Bx :=
  (.bOne (.sIf (.tNot (.tE (.call 0 (.ev (.var 0) .nil)))) (.bOne .sAny) .bNil))
def vi:List FI:=[⟨"machine_good",1,5,false,YD⟩]
def yC:MF:=fnM 1 (dB vi YE)
def WD:Bx :=
  (.bOne (.sRet (.cB .len (.cons (.ix (.ix (.var 0) (.c (.int 0))) (.c (.int 0))) .nil))))
def G1:List FI:=[]
def yK:MF:=fnM 1 (dB G1 WD)
def WE:Bx :=
  (.bSeq (.sDrop (.call 1 (.ev (.var 0) .nil)))
  (.bSeq (.sDrop (.call 1 (.ev (.var 1) .nil)))
  (.bOne (.sIf (.tE (.cmp .ne (.call 0 (.ev (.var 0) .nil)) (.call 0 (.ev (.var 1) .nil)))) (.bOne .sAny) .bNil))))
def G2:List FI:=[⟨"signs_read",1,1,false,yK⟩,⟨"need_machine",1,6,false,yC⟩]
def WF:MF:=fnM 2 (dB G2 WE)
abbrev vj:Bx :=
  (.bOne (.sAugIx 7 (.var 11) (.bin .mul (.var 10) (.var 9))))
abbrev vk:Bx :=
  (.bOne (.sForI (.iZ false true (.cons (.var 1) (.cons (.var 8) .nil))) (.t [10,11])
  vj))
abbrev yd:Bx :=
  (.bSeq (.sSet 7 (.bin .mul (.l (.cons (.c (.int 0)) .nil)) (.cB .len (.cons (.var 3) .nil))))
  (.bSeq (.sForI (.iZ true false (.cons (.var 3) (.cons (.var 5) .nil))) (.t [8,9])
  vk)
  (.bOne (.sSet 5 (.frz (.var 7))))))
def Y9:Bx :=
  (.bSeq (.sTup [3,4] (.var 0))
  (.bSeq (.sSet 5 (.frz (.bin .add (.l (.cons (.c (.int 1)) .nil)) (.bin .mul (.l (.cons (.c (.int 0)) .nil)) (.bin .sub (.cB .len (.cons (.var 3) .nil)) (.c (.int 1)))))))
  (.bSeq (.sForR1 (.cons (.var 2) .nil) (.n 6)
  yd)
  (.bOne (.sRet (.cB .sum (.cons (.comp 1 ["stand"] ["ends"] [5] (.iT (.var 4)) (.n 0) .tTr (.ix (.var 1) (.var 0))) .nil)))))))
def zP:List FI:=[]
def ju:MF:=fnM 12 (dB zP Y9)
def WG:Bx :=
  (.bSeq (.sDrop (.call 3 (.ev (.var 0) .nil)))
  (.bSeq (.sDrop (.call 2 (.ev (.var 1) (.ev (.c (.int 0)) (.ev (.gl (.int 40)) .nil)))))
  (.bOne (.sRet (.call 0 (.ev (.var 0) (.ev (.bin .mul (.l (.cons (.c (.int 1)) .nil)) (.call 1 (.ev (.var 0) .nil))) (.ev (.var 1) .nil))))))))
def G3:List FI:=[⟨"weigh_taken",3,1,false,ju⟩,⟨"signs_read",1,1,false,yK⟩,⟨"need_number",3,3,false,zN⟩,⟨"need_machine",1,6,false,yC⟩]
def jY:MF:=fnM 2 (dB G3 WG)
def ZA:Bx :=
  (.bSeq (.sDrop (.call 2 (.ev (.var 0) .nil)))
  (.bSeq (.sDrop (.call 1 (.ev (.var 1) (.ev (.var 0) .nil))))
  (.bSeq (.sDrop (.call 0 (.ev (.var 2) (.ev (.c (.int 1)) (.ev (.gl (.int 11)) .nil)))))
  (.bSeq (.sSet 3 (.comp 1 ["stand"] ["m","sign"] [0,1] (.iR1 (.cons (.var 2) .nil)) (.n 0) .tTr (.cB .tuple (.cons (.comp 1 ["thrown"] ["sign","stand"] [2,0] (.iR1 (.cons (.var 1) .nil)) (.n 0) .tTr (.ifx (.tE (.cmp .eq (.var 0) (.var 1))) (.bin .add (.var 2) (.c (.int 1))) (.c (.int 0)))) .nil))))
  (.bOne (.sRet (.t (.cons (.cB .tuple (.cons (.bin .add (.var 3) (.l (.cons (.bin .mul (.t (.cons (.var 2) .nil)) (.var 0)) .nil))) .nil)) (.cons (.t (.cons (.var 2) .nil)) .nil)))))))))
def uL:List FI:=[⟨"need_number",3,3,false,zN⟩,⟨"need_sign",2,4,false,vZ⟩,⟨"need_signs",1,4,false,yb⟩]
def ZB:MF:=fnM 4 (dB uL ZA)
def GH:Bx :=
  (.bSeq (.sDrop (.call 0 (.ev (.var 0) .nil)))
  (.bSeq (.sTup [1,2] (.var 0))
  (.bOne (.sRet (.t (.cons (.var 1) (.cons (.cB .tuple (.cons (.comp 1 ["stand"] ["good"] [2] (.iR1 (.cons (.cB .len (.cons (.var 1) .nil)) .nil)) (.n 0) (.tE (.cmp .nin (.var 0) (.var 1))) (.var 0)) .nil)) .nil)))))))
def zBE:List FI:=[⟨"need_machine",1,6,false,yC⟩]
def GI:MF:=fnM 3 (dB zBE GH)
def zCB:Bx :=
  (.bOne (.sRet (.call 0 (.ev (.call 1 (.ev (.var 0) (.ev (.var 1) (.ev (.var 2) .nil)))) .nil))))
def zEY:List FI:=[⟨"contrary",1,7,false,GI⟩,⟨"run_machine",3,5,false,ZB⟩]
def jV:MF:=fnM 3 (dB zEY zCB)
def ZC:Bx :=
  (.bOne (.sRet (.t (.cons (.ix (.ix (.ix (.var 0) (.c (.int 0))) (.ix (.var 2) (.c (.int 0)))) (.var 3)) (.cons (.ix (.ix (.ix (.var 1) (.c (.int 0))) (.ix (.var 2) (.c (.int 1)))) (.var 3)) .nil)))))
def uM:List FI:=[]
def ww:MF:=fnM 4 (dB uM ZC)
abbrev G4:Bx :=
  (.bSeq (.sSet 7 (.call 0 (.ev (.var 0) (.ev (.var 1) (.ev (.var 5) (.ev (.var 6) .nil))))))
  (.bOne (.sIf (.tE (.ninO 2 (.var 7))) (.bSeq (.sDput 2 (.var 7) (.bin .add (.dgO 2 (.var 5)) (.t (.cons (.var 6) .nil))))
  (.bOne (.sApp 3 (.var 7)))) .bNil)))
abbrev G5:Bx :=
  (.bSeq (.sSet 5 (.ixO 3 (.var 4)))
  (.bSeq (.sForR1 (.cons (.call 1 (.ev (.var 0) .nil)) .nil) (.n 6)
  G4)
  (.bOne (.sAug 4 .add (.c (.int 1))))))
def vm:Bx :=
  (.bSeq (.sSet 2 (.disp (.t (.cons (.c (.int 0)) (.cons (.c (.int 0)) .nil))) (.t .nil)))
  (.bSeq (.sSet 3 (.l (.cons (.t (.cons (.c (.int 0)) (.cons (.c (.int 0)) .nil))) .nil)))
  (.bSeq (.sSet 4 (.c (.int 0)))
  (.bSeq (.sWhile (.tE (.cmp .lt (.var 4) (.lenO 3)))
  G5)
  (.bOne (.sRet (.mov 2)))))))
def zAF:List FI:=[⟨"pair_behind",4,1,false,ww⟩,⟨"signs_read",1,1,false,yK⟩]
def vn:MF:=fnM 8 (dB zAF vm)
def vo:Bx :=
  (.bOne (.sRet (.cB .len (.cons (.comp 2 ["machine","stand"] [] [] (.iZ true true (.cons (.t (.cons (.var 0) (.cons (.var 1) .nil))) (.cons (.var 2) .nil))) (.t [0,1]) (.tE (.cmp .inn (.var 1) (.ix (.var 0) (.c (.int 1))))) (.var 1)) .nil))))
def zAG:List FI:=[]
def vq:MF:=fnM 3 (dB zAG vo)
def zCC:Bx :=
  (.bSeq (.sDrop (.call 4 (.ev (.var 0) (.ev (.var 1) .nil))))
  (.bSeq (.sSet 3 (.cB .lisK (.cons (.call 3 (.ev (.var 0) (.ev (.var 1) .nil))) .nil)))
  (.bSeq (.sIf (.tE (.cmp .gt (.cB .len (.cons (.var 3) .nil)) (.gl (.int 12)))) (.bOne .sAny) .bNil)
  (.bSeq (.sSet 4 (.frz (.dcomp 2 ["number","pair"] [] [] (.iE false (.cons (.var 3) .nil)) (.t [0,1]) .tTr (.var 1) (.var 0))))
  (.bSeq (.sSet 5 (.comp 1 ["pair"] ["one","numbers","other"] [0,4,1] (.iL (.var 3)) (.n 0) .tTr (.cB .tuple (.cons (.comp 1 ["sign"] ["numbers","one","other","pair"] [2,1,3,0] (.iR1 (.cons (.call 1 (.ev (.var 1) .nil)) .nil)) (.n 0) .tTr (.dg (.var 1) (.call 2 (.ev (.var 2) (.ev (.var 3) (.ev (.var 4) (.ev (.var 0) .nil))))))) .nil))))
  (.bSeq (.sSet 6 (.comp 1 ["pair"] ["numbers","one","other","wanted"] [4,0,1,2] (.iL (.var 3)) (.n 0) (.tE (.cmp .ge (.call 0 (.ev (.var 2) (.ev (.var 3) (.ev (.var 0) .nil)))) (.var 4))) (.dg (.var 1) (.var 0))))
  (.bOne (.sRet (.t (.cons (.cB .tuple (.cons (.var 5) .nil)) (.cons (.cB .tuple (.cons (.var 6) .nil)) .nil)))))))))))
def zEZ:List FI:=[⟨"good_many",3,1,false,vq⟩,⟨"signs_read",1,1,false,yK⟩,⟨"pair_behind",4,1,false,ww⟩,⟨"met_pairs",2,2,false,vn⟩,⟨"need_alike",2,7,false,WF⟩]
def zCD:MF:=fnM 7 (dB zEZ zCC)
def zHW:Bx :=
  (.bOne (.sRet (.call 0 (.ev (.var 0) (.ev (.var 1) (.ev (.c (.int 2)) .nil))))))
def fs_both:List FI:=[⟨"joined",3,8,false,zCD⟩]
def GJ:MF:=fnM 2 (dB fs_both zHW)
def wO:Bx :=
  (.bSeq (.sIf (.tE (.cmp .lt (.var 1) (.cB .len (.cons (.var 0) .nil)))) (.bOne (.sRet (.ix (.var 0) (.var 1)))) .bNil)
  (.bOne (.sRet (.c (.int 0)))))
def Je:List FI:=[]
def yk:MF:=fnM 2 (dB Je wO)
def YW:Bx :=
  (.bSeq (.sSet 0 (.bin .mod (.bin .add (.var 0) (.c (.int 7919))) (.c (.int 2147483647))))
  (.bOne (.sRet (.bin .mod (.bin .add (.bin .add (.bin .mul (.var 0) (.var 0)) (.bin .mul (.c (.int 48271)) (.var 0))) (.c (.int 12345))) (.c (.int 2147483629))))))
def WH:List FI:=[]
def wx:MF:=fnM 1 (dB WH YW)
def wz:Bx :=
  (.bSeq (.sSet 1 (.cB .max (.cons (.var 0) (.cons (.bin .sub (.c (.int 0)) (.var 0)) .nil))))
  (.bOne (.sRet (.l (.cons (.var 1) (.cons (.cB .int (.cons (.cmp .ge (.var 1) (.bin .pow (.c (.int 10)) (.c (.int 18)))) .nil)) (.cons (.bin .mod (.var 1) (.c (.int 1000003))) .nil)))))))
def YF:List FI:=[]
def jC:MF:=fnM 2 (dB YF wz)
def JA:Bx :=
  (.bSeq (.sIf (.tE (.cmp .eq (.ixO 0 (.c (.int 1))) (.c (.int 1)))) (.bSeq (.sSet 2 (.bin .mod (.ixO 0 (.c (.int 0))) (.var 1)))
  (.bSeq (.sIx 0 (.c (.int 0)) (.bin .fdiv (.ixO 0 (.c (.int 0))) (.var 1)))
  (.bOne (.sRet (.var 2))))) .bNil)
  (.bSeq (.sIx 0 (.c (.int 2)) (.call 0 (.ev (.bin .add (.call 0 (.ev (.ixO 0 (.c (.int 2))) .nil)) (.c (.int 7))) .nil)))
  (.bOne (.sRet (.bin .mod (.bin .fdiv (.ixO 0 (.c (.int 2))) (.c (.int 64))) (.var 1))))))
def Jf:List FI:=[⟨"_law_next",1,1,false,wx⟩]
def yL:MF:=fnM 3 (dB Jf JA)
abbrev jD:Bx :=
  (.bSeq (.sSet 8 (.comp 1 ["_law_sign"] ["_law_m","_law_n","_law_k","_law_row","_law_at"] [0,1,2,5,7] (.iR1 (.cons (.var 0) .nil)) (.n 0) .tTr (.call 0 (.ev (.var 1) (.ev (.var 2) (.ev (.var 3) (.ev (.bin .add (.sl (.var 4) .oN (.oS (.var 5))) (.t (.cons (.var 0) .nil))) .nil)))))))
  (.bSeq (.sIf (.tE (.cmp .ne (.cB .sum (.cons (.var 8) .nil)) (.call 0 (.ev (.var 0) (.ev (.var 1) (.ev (.var 2) (.ev (.sl (.var 5) .oN (.oS (.var 7))) .nil))))))) (.bOne (.sRet (.c (.bl false)))) .bNil)
  (.bOne (.sIf (.tE (.cmp .ne (.call 1 (.ev (.var 0) (.ev (.var 1) (.ev (.var 2) (.ev (.sl (.var 5) .oN (.oS (.var 7))) .nil))))) (.comp 1 ["_law_sign"] ["_law_counts"] [8] (.iR1 (.cons (.var 0) .nil)) (.n 0) (.tE (.cmp .gt (.ix (.var 1) (.var 0)) (.c (.int 0)))) (.var 0)))) (.bOne (.sRet (.c (.bl false)))) .bNil))))
def JH:Bx :=
  (.bSeq (.sSet 5 (.call 4 (.ev (.var 0) (.ev (.var 1) (.ev (.var 2) (.ev (.var 3) .nil))))))
  (.bSeq (.sIf (.tOr (.tNot (.tE (.call 6 (.ev (.var 5) .nil)))) (.tOr (.tE (.cmp .ge (.call 5 (.ev (.var 5) .nil)) (.var 2))) (.tE (.cmp .ne (.call 2 (.ev (.var 0) (.ev (.var 2) (.ev (.var 5) .nil)))) (.var 3))))) (.bOne (.sRet (.c (.bl false)))) .bNil)
  (.bSeq (.sIf (.tAnd (.tE (.cmp .gt (.var 3) (.c (.int 0)))) (.tE (.cmp .ne (.call 3 (.ev (.var 0) (.ev (.var 2) (.ev (.call 4 (.ev (.var 0) (.ev (.var 1) (.ev (.var 2) (.ev (.bin .sub (.var 3) (.c (.int 1))) .nil))))) .nil)))) (.var 5)))) (.bOne (.sRet (.c (.bl false)))) .bNil)
  (.bSeq (.sSet 6 (.cB .tuple (.cons (.comp 1 ["_law_sign"] ["_law_m"] [0] (.iT (.var 5)) (.n 0) .tTr (.bin .sub (.bin .sub (.var 1) (.c (.int 1))) (.var 0))) .nil)))
  (.bSeq (.sIf (.tE (.cmp .ne (.call 2 (.ev (.var 0) (.ev (.var 2) (.ev (.var 6) .nil)))) (.bin .sub (.bin .sub (.var 4) (.c (.int 1))) (.var 3)))) (.bOne (.sRet (.c (.bl false)))) .bNil)
  (.bSeq (.sForR1 (.cons (.var 1) .nil) (.n 7)
  jD)
  (.bOne (.sRet (.cmp .eq (.call 0 (.ev (.var 0) (.ev (.var 1) (.ev (.var 2) (.ev (.var 5) .nil))))) (.c (.int 1)))))))))))
def zh:List FI:=[⟨"free_begun",4,9,false,yJ⟩,⟨"next_signs",4,9,false,wL⟩,⟨"free_rank",3,9,false,yr⟩,⟨"free_next",3,11,false,wv⟩,⟨"free_nth",4,10,false,jO⟩,⟨"longest_any",1,7,false,yI⟩,⟨"row_good",1,4,false,jL⟩]
def yo:MF:=fnM 9 (dB zh JH)
abbrev zBF:Bx :=
  (.bSeq (.sSet 8 (.bin .mul (.var 8) (.var 3)))
  (.bOne (.sIf (.tE (.cmp .gt (.var 9) (.c (.int 0)))) (.bOne (.sSet 7 (.bin .mul (.var 7) (.bin .sub (.var 3) (.c (.int 1)))))) .bNil)))
abbrev zBG:Bx :=
  (.bSeq (.sSet 2 (.call 8 (.ev (.var 1) .nil)))
  (.bSeq (.sSet 3 (.bin .add (.c (.int 2)) (.call 6 (.lend 2 (.ev (.c (.int 2)) .nil)))))
  (.bSeq (.sPar 4 5 (.cons (.call 6 (.lend 2 (.ev (.c (.int 21)) .nil))) (.cons (.bin .add (.c (.int 2)) (.call 6 (.lend 2 (.ev (.c (.int 8)) .nil)))) .nil)))
  (.bSeq (.sSet 6 (.call 4 (.ev (.var 3) (.ev (.var 4) (.ev (.var 5) .nil)))))
  (.bSeq (.sIf (.tOr (.tE (.cmp .ne (.var 6) (.call 7 (.ev (.var 3) (.ev (.var 4) (.ev (.var 5) (.ev (.t .nil) .nil))))))) (.tNot (.tE (.call 5 (.ev (.var 3) (.ev (.var 4) (.ev (.var 5) (.ev (.call 6 (.lend 2 (.ev (.var 6) .nil))) (.ev (.var 6) .nil))))))))) (.bOne (.sRet (.c (.bl false)))) .bNil)
  (.bSeq (.sPar 7 8 (.cons (.var 3) (.cons (.c (.int 1)) .nil)))
  (.bSeq (.sForR1 (.cons (.var 4) .nil) (.n 9)
  zBF)
  (.bSeq (.sIf (.tAnd (.tE (.cmp .gt (.var 4) (.c (.int 0)))) (.tE (.cmp .ne (.call 4 (.ev (.var 3) (.ev (.var 4) (.ev (.c (.int 2)) .nil)))) (.var 7)))) (.bOne (.sRet (.c (.bl false)))) .bNil)
  (.bSeq (.sTup [10,11] (.call 3 (.ev (.bin .mul (.t (.cons (.c (.int 1)) .nil)) (.var 3)) (.ev (.var 4) (.ev (.bin .sub (.var 5) (.c (.int 1))) .nil)))))
  (.bSeq (.sIf (.tE (.cmp .ne (.bin .mul (.var 10) (.var 8)) (.bin .mul (.var 6) (.var 11)))) (.bOne (.sRet (.c (.bl false)))) .bNil)
  (.bOne (.sIf (.tAnd (.tE (.cmp .eq (.var 3) (.c (.int 2)))) (.tAnd (.tE (.cmp .lt (.var 5) (.c (.int 4)))) (.tE (.cmp .ne (.call 0 (.ev (.call 1 (.ev (.call 2 (.ev (.c (.int 2)) (.ev (.c (.int 0)) (.ev (.var 5) .nil)))) (.ev (.call 2 (.ev (.c (.int 2)) (.ev (.c (.int 1)) (.ev (.var 5) .nil)))) .nil))) (.ev (.var 4) .nil))) (.var 6))))) (.bOne (.sRet (.c (.bl false)))) .bNil))))))))))))
def t_law:Bx :=
  (.bSeq (.sForL (.bin .add (.l (.cons (.call 9 (.ev (.var 0) (.ev (.c (.int 0)) .nil))) .nil)) (.sl (.var 0) (.oS (.c (.int 1))) (.oS (.c (.int 4))))) (.n 1)
  zBG)
  (.bOne (.sRet (.c (.bl true)))))
def GK:List FI:=[⟨"taken_many",2,7,false,jY⟩,⟨"both",2,9,false,GJ⟩,⟨"no_run",3,8,false,jV⟩,⟨"any_upto",3,5,false,Jv⟩,⟨"free_many",3,9,false,yS⟩,⟨"_law_row_right",5,12,false,yo⟩,⟨"_law_draw",2,2,false,yL⟩,⟨"free_begun",4,9,false,yJ⟩,⟨"_law_pen_of",1,1,false,jC⟩,⟨"_law_cell_at",2,1,false,yk⟩]
def m_law:MF:=fnM 12 (dB GK t_law)
structure Txt(K:qH)(mg:Str->Option Value):Prop where
 n_abs:mg "abs"=none
 n_all:mg "all"=none
 n_bool:mg "bool"=none
 n_enumerate:mg "enumerate"=none
 n_int:mg "int"=none
 n_isinstance:mg "isinstance"=none
 n_len:mg "len"=none
 n_list:mg "list"=none
 n_max:mg "max"=none
 n_range:mg "range"=none
 n_reversed:mg "reversed"=none
 n_sum:mg "sum"=none
 n_tuple:mg "tuple"=none
 n_zip:mg "zip"=none
 c_LEAST_SIGNS:∃t,mg "LEAST_SIGNS"=some (.int 2 t)
 c_LEAST_WEIGHT:∃t,mg "LEAST_WEIGHT"=some (.int 1 t)
 c_MOST_COUNTED:∃t,mg "MOST_COUNTED"=some (.int 40 t)
 c_MOST_FREE:∃t,mg "MOST_FREE"=some (.int 20 t)
 c_MOST_SIGNS:∃t,mg "MOST_SIGNS"=some (.int 3 t)
 c_MOST_STANDS:∃t,mg "MOST_STANDS"=some (.int 12 t)
 c_MOST_TAKEN:∃t,mg "MOST_TAKEN"=some (.int 40 t)
 c_MOST_THROWS:∃t,mg "MOST_THROWS"=some (.int 20 t)
 c_MOST_WATCHED:∃t,mg "MOST_WATCHED"=some (.int 11 t)
 c_MOST_WEIGHT:∃t,mg "MOST_WEIGHT"=some (.int 9 t)
 f_is_whole:jE K mg "is_whole" uS ["thing"]
 f_is_whole_within:jE K mg "is_whole_within" wR ["thing","low","high"]
 f_greatest_divisor:jE K mg "greatest_divisor" wC ["one","other"]
 f_whole_power:jE K mg "whole_power" Yc ["base","exponent"]
 f_share_of:jE K mg "share_of" uT ["top","bottom"]
 f_die_good:jE K mg "die_good" uU ["thing"]
 f_sign_good:jE K mg "sign_good" Wk ["thing"]
 f_row_good:jE K mg "row_good" uV ["thing"]
 f_row_good_of:jE K mg "row_good_of" Yd ["thing","signs"]
 f_need_die:jE K mg "need_die" uW ["thing"]
 f_need_row:jE K mg "need_row" uX ["thing"]
 f_need_number:jE K mg "need_number" Ye ["thing","low","high"]
 f_need_signs:jE K mg "need_signs" Zg ["thing"]
 f_need_sign:jE K mg "need_sign" Wl ["thing","signs"]
 f_greatest_length:jE K mg "greatest_length" wS ["runs"]
 f_runs_of:jE K mg "runs_of" QN ["row"]
 f_longest_any:jE K mg "longest_any" Yg ["row"]
 f_weigh_alike_upto:jE K mg "weigh_alike_upto" wD ["weights","n","k"]
 f_need_free_length:jE K mg "need_free_length" wE ["k"]
 f_need_ordered:jE K mg "need_ordered" J1 ["m","n","k"]
 f_ways_on:jE K mg "ways_on" QO ["m","k","row","left"]
 f_free_many:jE K mg "free_many" Wm ["m","n","k"]
 f_free_nth:jE K mg "free_nth" uY ["m","n","k","number"]
 f_free_rank:jE K mg "free_rank" Wn ["m","k","row"]
 f_free_next:jE K mg "free_next" Wo ["m","k","row"]
 f_need_begun:jE K mg "need_begun" Zh ["m","n","k","row"]
 f_free_begun:jE K mg "free_begun" Zi ["m","n","k","row"]
 f_next_signs:jE K mg "next_signs" Zj ["m","n","k","row"]
 f_share_in_all:jE K mg "share_in_all" J2 ["die","n","weight"]
 f_any_upto:jE K mg "any_upto" uZ ["die","n","k"]
 f_all_within:jE K mg "all_within" Zk ["thing","high"]
 f_steps_good:jE K mg "steps_good" Zl ["thing"]
 f_rising_stands:jE K mg "rising_stands" JN ["thing","many"]
 f_machine_good:jE K mg "machine_good" J3 ["thing"]
 f_need_machine:jE K mg "need_machine" J4 ["thing"]
 f_signs_read:jE K mg "signs_read" Zm ["machine"]
 f_need_alike:jE K mg "need_alike" Zn ["one","other"]
 f_weigh_taken:jE K mg "weigh_taken" Yh ["machine","weights","n"]
 f_taken_many:jE K mg "taken_many" Zo ["machine","n"]
 f_run_machine:jE K mg "run_machine" Yi ["m","sign","k"]
 f_contrary:jE K mg "contrary" ua ["machine"]
 f_no_run:jE K mg "no_run" zBa ["m","sign","k"]
 f_pair_behind:jE K mg "pair_behind" Yj ["one","other","pair","sign"]
 f_met_pairs:jE K mg "met_pairs" Wp ["one","other"]
 f_good_many:jE K mg "good_many" Wq ["one","other","pair"]
 f_joined:jE K mg "joined" zBb ["one","other","wanted"]
 f_both:jE K mg "both" zGo ["one","other"]
 f__law_cell_at:jE K mg "_law_cell_at" J5 ["_law_script","_law_k"]
 f__law_next:jE K mg "_law_next" Wr ["_law_seed"]
 f__law_pen_of:jE K mg "_law_pen_of" Yk ["_law_cell"]
 f__law_draw:jE K mg "_law_draw" Ws ["_law_pen","_law_many"]
 f__law_row_right:jE K mg "_law_row_right" JE ["_law_m","_law_n","_law_k","_law_number","_law_many"]
 f_law:jE K mg "law" s_law ["_law_script"]
 cl:ClOk K mg cl_ rs_
section
variable{P:Program}{w:World}{K:qH}{mg:Str->Option Value}{base:Heap}
def zo(T:Txt K mg):zGU K mg cs_:=(wN T.c_LEAST_SIGNS (wN T.c_LEAST_WEIGHT (wN T.c_MOST_COUNTED (wN T.c_MOST_FREE (wN T.c_MOST_SIGNS (wN T.c_MOST_STANDS (wN T.c_MOST_TAKEN (wN T.c_MOST_THROWS (wN T.c_MOST_WATCHED (wN T.c_MOST_WEIGHT cs_nil))))))))))
def zp(T:Txt K mg):zEU P w K mg base ri_:=ris_nil
def zq(T:Txt K mg):BsOk mg bs_:=(y8 T.n_abs (y8 T.n_all (y8 T.n_bool (y8 T.n_enumerate (y8 T.n_int (y8 T.n_isinstance (y8 T.n_len (y8 T.n_list (y8 T.n_max (y8 T.n_range (y8 T.n_reversed (y8 T.n_sum (y8 T.n_tuple (y8 T.n_zip bs_nil))))))))))))))
def zBH(T:Txt K mg):FOk P w K mg base true "is_whole" 1 ["thing"] ZV:=zG ux ["thing"] T.f_is_whole (zo T) zQ (zq T) T.cl (zp T) (by decide +kernel)
def yY(T:Txt K mg):FOk P w K mg base true "is_whole_within" 2 ["thing","low","high"] zY:=zG ye ["thing","low","high"] T.f_is_whole_within (zo T) (zB (zBH T) rfl zQ) (zq T) T.cl (zp T) (by decide +kernel)
def YX(T:Txt K mg):FOk P w K mg base true "greatest_divisor" 1 ["one","other"] jA:=zG wH ["one","other"] T.f_greatest_divisor (zo T) zQ (zq T) T.cl (zp T) (by decide +kernel)
def uN(T:Txt K mg):FOk P w K mg base true "whole_power" 1 ["base","exponent"] jr:=zG Y5 ["base","exponent","power","step"] T.f_whole_power (zo T) zQ (zq T) T.cl (zp T) (by decide +kernel)
def zBI(T:Txt K mg):FOk P w K mg base true "share_of" 2 ["top","bottom"] Js:=zG uy ["top","bottom","divisor"] T.f_share_of (zo T) (zB (YX T) rfl zQ) (zq T) T.cl (zp T) (by decide +kernel)
def zBJ(T:Txt K mg):FOk P w K mg base true "die_good" 3 ["thing"] ZW:=zG uz ["thing"] T.f_die_good (zo T) (zB (yY T) rfl zQ) (zq T) T.cl (zp T) (by decide +kernel)
def zAH(T:Txt K mg):FOk P w K mg base true "sign_good" 3 ["thing"] YT:=zG vX ["thing"] T.f_sign_good (zo T) (zB (yY T) rfl zQ) (zq T) T.cl (zp T) (by decide +kernel)
def YY(T:Txt K mg):FOk P w K mg base true "row_good" 4 ["thing"] jL:=zG GB ["thing"] T.f_row_good (zo T) (zB (zAH T) rfl zQ) (zq T) T.cl (zp T) (by decide +kernel)
def YG(T:Txt K mg):FOk P w K mg base true "row_good_of" 5 ["thing","signs"] yf:=zG Y6 ["thing","signs"] T.f_row_good_of (zo T) (zB (YY T) rfl zQ) (zq T) T.cl (zp T) (by decide +kernel)
def zBK(T:Txt K mg):FOk P w K mg base true "need_die" 4 ["thing"] Jt:=zG GC ["thing"] T.f_need_die (zo T) (zB (zBJ T) rfl zQ) (zq T) T.cl (zp T) (by decide +kernel)
def zBL(T:Txt K mg):FOk P w K mg base true "need_row" 5 ["thing"] ZX:=zG GE ["thing"] T.f_need_row (zo T) (zB (YY T) rfl zQ) (zq T) T.cl (zp T) (by decide +kernel)
def yD(T:Txt K mg):FOk P w K mg base true "need_number" 3 ["thing","low","high"] zN:=zG Y7 ["thing","low","high"] T.f_need_number (zo T) (zB (yY T) rfl zQ) (zq T) T.cl (zp T) (by decide +kernel)
def JB(T:Txt K mg):FOk P w K mg base true "need_signs" 4 ["thing"] yb:=zG Z5 ["thing"] T.f_need_signs (zo T) (zB (yD T) rfl zQ) (zq T) T.cl (zp T) (by decide +kernel)
def zAI(T:Txt K mg):FOk P w K mg base true "need_sign" 4 ["thing","signs"] vZ:=zG vY ["thing","signs"] T.f_need_sign (zo T) (zB (yD T) rfl zQ) (zq T) T.cl (zp T) (by decide +kernel)
def ZD(T:Txt K mg):FOk P w K mg base true "greatest_length" 1 ["runs"] yN:=zG jM ["runs"] T.f_greatest_length (zo T) zQ (zq T) T.cl (zp T) (by decide +kernel)
def GL(T:Txt K mg):FOk P w K mg base true "runs_of" 6 ["row"] jX:=zG zAB ["row","runs","begin","end"] T.f_runs_of (zo T) (zB (zBL T) rfl zQ) (zq T) T.cl (zp T) (by decide +kernel)
def wP(T:Txt K mg):FOk P w K mg base true "longest_any" 7 ["row"] yI:=zG Y8 ["row"] T.f_longest_any (zo T) (zB (ZD T) rfl (zB (GL T) rfl zQ)) (zq T) T.cl (zp T) (by decide +kernel)
def j6(T:Txt K mg):FOk P w K mg base true "weigh_alike_upto" 1 ["weights","n","k"] zx:=zG wJ ["weights","n","k","ends","throw","whole"] T.f_weigh_alike_upto (zo T) zQ (zq T) T.cl (zp T) (by decide +kernel)
def j7(T:Txt K mg):FOk P w K mg base true "need_free_length" 4 ["k"] zy:=zG wK ["k"] T.f_need_free_length (zo T) (zB (yD T) rfl zQ) (zq T) T.cl (zp T) (by decide +kernel)
def Jg(T:Txt K mg):FOk P w K mg base true "need_ordered" 5 ["m","n","k"] yW:=zG YA ["m","n","k"] T.f_need_ordered (zo T) (zB (j7 T) rfl (zB (yD T) rfl (zB (JB T) rfl zQ))) (zq T) T.cl (zp T) (by decide +kernel)
def wa(T:Txt K mg):FOk P w K mg base true "ways_on" 8 ["m","k","row","left"] yO:=zG zAC ["m","k","row","left","ends","throw"] T.f_ways_on (zo T) (zB (GL T) rfl (zB (j6 T) rfl (zB (wP T) rfl zQ))) (zq T) T.cl (zp T) (by decide +kernel)
def Jh(T:Txt K mg):FOk P w K mg base true "free_many" 9 ["m","n","k"] yS:=zG vc ["m","n","k"] T.f_free_many (zo T) (zB (wa T) rfl (zB (Jg T) rfl zQ)) (zq T) T.cl (zp T) (by decide +kernel)
def vt(T:Txt K mg):FOk P w K mg base true "free_nth" 10 ["m","n","k","number"] jO:=zG GF ["m","n","k","number","row","ahead","left","sign","ways"] T.f_free_nth (zo T) (zB (wa T) rfl (zB (yD T) rfl (zB (Jh T) rfl zQ))) (zq T) T.cl (zp T) (by decide +kernel)
def WI(T:Txt K mg):FOk P w K mg base true "free_rank" 9 ["m","k","row"] yr:=zG vd ["m","k","row"] T.f_free_rank (zo T) (zB (wa T) rfl (zB (wP T) rfl (zB (YG T) rfl (zB (j7 T) rfl (zB (JB T) rfl zQ))))) (zq T) T.cl (zp T) (by decide +kernel)
def zAJ(T:Txt K mg):FOk P w K mg base true "free_next" 11 ["m","k","row"] wv:=zG vf ["m","k","row","number"] T.f_free_next (zo T) (zB (vt T) rfl (zB (Jh T) rfl (zB (WI T) rfl zQ))) (zq T) T.cl (zp T) (by decide +kernel)
def ZE(T:Txt K mg):FOk P w K mg base true "need_begun" 6 ["m","n","k","row"] yz:=zG Z7 ["m","n","k","row"] T.f_need_begun (zo T) (zB (YG T) rfl (zB (Jg T) rfl zQ)) (zq T) T.cl (zp T) (by decide +kernel)
def ZF(T:Txt K mg):FOk P w K mg base true "free_begun" 9 ["m","n","k","row"] yJ:=zG Z8 ["m","n","k","row"] T.f_free_begun (zo T) (zB (wa T) rfl (zB (ZE T) rfl zQ)) (zq T) T.cl (zp T) (by decide +kernel)
def G6(T:Txt K mg):FOk P w K mg base true "next_signs" 9 ["m","n","k","row"] wL:=zG Z9 ["m","n","k","row","left"] T.f_next_signs (zo T) (zB (wa T) rfl (zB (ZE T) rfl zQ)) (zq T) T.cl (zp T) (by decide +kernel)
def vw(T:Txt K mg):FOk P w K mg base true "share_in_all" 3 ["die","n","weight"] jU:=zG YB ["die","n","weight"] T.f_share_in_all (zo T) (zB (zBI T) rfl (zB (uN T) rfl zQ)) (zq T) T.cl (zp T) (by decide +kernel)
def zBM(T:Txt K mg):FOk P w K mg base true "any_upto" 5 ["die","n","k"] Jv:=zG GG ["die","n","k"] T.f_any_upto (zo T) (zB (vw T) rfl (zB (j6 T) rfl (zB (yD T) rfl (zB (zBK T) rfl zQ)))) (zq T) T.cl (zp T) (by decide +kernel)
def ZG(T:Txt K mg):FOk P w K mg base true "all_within" 3 ["thing","high"] Jb:=zG WA ["thing","high"] T.f_all_within (zo T) (zB (yY T) rfl zQ) (zq T) T.cl (zp T) (by decide +kernel)
def G7(T:Txt K mg):FOk P w K mg base true "steps_good" 4 ["thing"] WC:=zG WB ["thing","signs"] T.f_steps_good (zo T) (zB (ZG T) rfl zQ) (zq T) T.cl (zp T) (by decide +kernel)
def WX(T:Txt K mg):FOk P w K mg base true "rising_stands" 4 ["thing","many"] Jd:=zG Jc ["thing","many"] T.f_rising_stands (zo T) (zB (ZG T) rfl zQ) (zq T) T.cl (zp T) (by decide +kernel)
def vx(T:Txt K mg):FOk P w K mg base true "machine_good" 5 ["thing"] YD:=zG YC ["thing","steps","good"] T.f_machine_good (zo T) (zB (WX T) rfl (zB (G7 T) rfl zQ)) (zq T) T.cl (zp T) (by decide +kernel)
def j8(T:Txt K mg):FOk P w K mg base true "need_machine" 6 ["thing"] yC:=zG YE ["thing"] T.f_need_machine (zo T) (zB (vx T) rfl zQ) (zq T) T.cl (zp T) (by decide +kernel)
def jv(T:Txt K mg):FOk P w K mg base true "signs_read" 1 ["machine"] yK:=zG WD ["machine"] T.f_signs_read (zo T) zQ (zq T) T.cl (zp T) (by decide +kernel)
def G8(T:Txt K mg):FOk P w K mg base true "need_alike" 7 ["one","other"] WF:=zG WE ["one","other"] T.f_need_alike (zo T) (zB (jv T) rfl (zB (j8 T) rfl zQ)) (zq T) T.cl (zp T) (by decide +kernel)
def uO(T:Txt K mg):FOk P w K mg base true "weigh_taken" 1 ["machine","weights","n"] ju:=zG Y9 ["machine","weights","n","steps","good","ends","throw","grown","row","end","weight","stand"] T.f_weigh_taken (zo T) zQ (zq T) T.cl (zp T) (by decide +kernel)
def G9(T:Txt K mg):FOk P w K mg base true "taken_many" 7 ["machine","n"] jY:=zG WG ["machine","n"] T.f_taken_many (zo T) (zB (uO T) rfl (zB (jv T) rfl (zB (yD T) rfl (zB (j8 T) rfl zQ)))) (zq T) T.cl (zp T) (by decide +kernel)
def uP(T:Txt K mg):FOk P w K mg base true "run_machine" 5 ["m","sign","k"] ZB:=zG ZA ["m","sign","k","steps"] T.f_run_machine (zo T) (zB (yD T) rfl (zB (zAI T) rfl (zB (JB T) rfl zQ))) (zq T) T.cl (zp T) (by decide +kernel)
def zBN(T:Txt K mg):FOk P w K mg base true "contrary" 7 ["machine"] GI:=zG GH ["machine","steps","good"] T.f_contrary (zo T) (zB (j8 T) rfl zQ) (zq T) T.cl (zp T) (by decide +kernel)
def zEa(T:Txt K mg):FOk P w K mg base true "no_run" 8 ["m","sign","k"] jV:=zG zCB ["m","sign","k"] T.f_no_run (zo T) (zB (zBN T) rfl (zB (uP T) rfl zQ)) (zq T) T.cl (zp T) (by decide +kernel)
def YH(T:Txt K mg):FOk P w K mg base true "pair_behind" 1 ["one","other","pair","sign"] ww:=zG ZC ["one","other","pair","sign"] T.f_pair_behind (zo T) zQ (zq T) T.cl (zp T) (by decide +kernel)
def zAK(T:Txt K mg):FOk P w K mg base true "met_pairs" 2 ["one","other"] vn:=zG vm ["one","other","rows","pairs","at","pair","sign","behind"] T.f_met_pairs (zo T) (zB (YH T) rfl (zB (jv T) rfl zQ)) (zq T) T.cl (zp T) (by decide +kernel)
def zAL(T:Txt K mg):FOk P w K mg base true "good_many" 1 ["one","other","pair"] vq:=zG vo ["one","other","pair"] T.f_good_many (zo T) zQ (zq T) T.cl (zp T) (by decide +kernel)
def zEb(T:Txt K mg):FOk P w K mg base true "joined" 8 ["one","other","wanted"] zCD:=zG zCC ["one","other","wanted","pairs","numbers","steps","good"] T.f_joined (zo T) (zB (zAL T) rfl (zB (jv T) rfl (zB (YH T) rfl (zB (zAK T) rfl (zB (G8 T) rfl zQ))))) (zq T) T.cl (zp T) (by decide +kernel)
def ok_both(T:Txt K mg):FOk P w K mg base true "both" 9 ["one","other"] GJ:=zG zHW ["one","other"] T.f_both (zo T) (zB (zEb T) rfl zQ) (zq T) T.cl (zp T) (by decide +kernel)
def vz(T:Txt K mg):FOk P w K mg base true "_law_cell_at" 1 ["_law_script","_law_k"] yk:=zG wO ["_law_script","_law_k"] T.f__law_cell_at (zo T) zQ (zq T) T.cl (zp T) (by decide +kernel)
def zAM(T:Txt K mg):FOk P w K mg base true "_law_next" 1 ["_law_seed"] wx:=zG YW ["_law_seed"] T.f__law_next (zo T) zQ (zq T) T.cl (zp T) (by decide +kernel)
def uQ(T:Txt K mg):FOk P w K mg base true "_law_pen_of" 1 ["_law_cell"] jC:=zG wz ["_law_cell","_law_left"] T.f__law_pen_of (zo T) zQ (zq T) T.cl (zp T) (by decide +kernel)
def zAN(T:Txt K mg):FOk P w K mg base true "_law_draw" 2 ["_law_pen","_law_many"] yL:=zG JA ["_law_pen","_law_many","_law_found"] T.f__law_draw (zo T) (zB (zAM T) rfl zQ) (zq T) T.cl (zp T) (by decide +kernel)
def ZY(T:Txt K mg):FOk P w K mg base true "_law_row_right" 12 ["_law_m","_law_n","_law_k","_law_number","_law_many"] yo:=zG JH ["_law_m","_law_n","_law_k","_law_number","_law_many","_law_row","_law_other","_law_at","_law_counts"] T.f__law_row_right (zo T) (zB (ZF T) rfl (zB (G6 T) rfl (zB (WI T) rfl (zB (zAJ T) rfl (zB (vt T) rfl (zB (wP T) rfl (zB (YY T) rfl zQ))))))) (zq T) T.cl (zp T) (by decide +kernel)
end
def law_fd{P:Program}{w:World}{K:qH}{mg:Str->Option Value}{fa:Addr}(hfa:mg "law"=some (.ref fa))(T:Txt K mg):∃fd:FuncData,(∀(s:Shared) (u:Value),BindsTo s fd ⟨[u],[]⟩ [("_law_script",u)])/\∀base:Heap,FnOk P w K mg base (CXx P w) 40 fa fd ["_law_script"] (spM K mg 1 m_law):=by
 obtain⟨a,fd,hm,F,bnd⟩:=T.f_law;have e:=hfa.symm.trans hm;cases e;refine⟨fd,?_,λbase=>(def_atB (P:=P) (w:=w) (base:=base) (fs:=GK) (lv:=12) t_law ["_law_script","_law_cell","_law_pen","_law_m","_law_n","_law_k","_law_many","_law_two","_law_all_of","_law_turn","_law_top","_law_bottom"] F (zo T) (zB (G9 T) rfl (zB (ok_both T) rfl (zB (zEa T) rfl (zB (zBM T) rfl (zB (Jh T) rfl (zB (ZY T) rfl (zB (zAN T) rfl (zB (ZF T) rfl (zB (uQ T) rfl (zB (vz T) rfl zQ)))))))))) (zq T) T.cl (zp T) (by decide +kernel)).mono (by decide)⟩;obtain⟨oc,od,kV,doc,pm,an,cdv,ct,osl,rfl,lk,hcd⟩:=F.ex;exact λs u=>.of_eq rfl
end My
namespace DV
open PySem L2
section
variable{fs:List FI}{E E1 E2 E3:zS}
def x_c:dE fs (.c d) E=.ok (.v d,E):=by simp only[zEL,eC]
def zAO:dE fs (.gl d) E=.ok (.v d,E):=by simp only[rE_gl,eC]
def zA(h:E[i]?=some (.v d)):dE fs (.var i) E=.ok (.v d,E):=by simp only[wG,ui,h]
def zHX(h:E[i]?=some (.own ds))(h':E.set i (.v (.l ds))=E1):dE fs (.var i) E=.ok (.v (.l ds),E1):=by simp only[wG,Y0,ui,h,h']
def zz(h1:dE fs a E=.ok (r1,E1))(h2:dE fs b E1=.ok (r2,E2))(h3:o.f r1.d r2.d=some r):dE fs (.bin o a b) E=.ok (r,E2):=by simp only[Yy,JT,h1,h2,h3]
def yB(h1:dE fs a E=.ok (r1,E1))(h2:dE fs b E1=.ok (r2,E2))(h3:o.f r1.d r2.d=some r):dE fs (.cmp o a b) E=.ok (r,E2):=by simp only[Yz,JT,h1,h2,h3]
def zHY(h1:dE fs a E=.ok (r1,E1))(h2:dE fs b E1=.ok (r2,E2))(h3:ixD r1.d r2.d=some r):dE fs (.ix a b) E=.ok (r,E2):=by simp only[zCq,JT,h1,h2,h3]
def WJ{as:_}(h1:dA fs as E=.ok (rs,E1))(h2:b.f (rs.map R.d)=some r):dE fs (.cB b as) E=.ok (r,E1):=by simp only[zA4,eCB,h1,h2]
def ZH{as:_}(h1:dA fs as E=.ok (rs,E1))(h2:rs.map R.d=ds)(h3:ds.length<=cap):dE fs (.t as) E=.ok (.v (.t ds),E1):=by
 subst h2;simp only[Q5,zAY,eCB,h1];rw[if_pos h3]
def QA{as:_}(h1:dA fs as E=.ok (rs,E1))(h2:rs.map R.d=ds)(h3:ds.length<=cap):dE fs (.l as) E=.ok (.own ds,E1):=by
 subst h2;simp only[Y0,zAZ,eCB,h1];rw[if_pos h3]
def x_sl(h1:dE fs a E=.ok (r,E1))(h2:dO fs l E1=.ok (lo,E2))(h3:dO fs u E2=.ok (hi,E3))(h4:slD r.d lo hi=some r'):dE fs (.sl a l u) E=.ok (r',E3):=by simp only[rE_sl,eSl,h1,h2,h3,h4]
def yT(h0:fiF fs k=F)(h1:dE fs a E=.ok (r,E1))(h2:F [.v r.d]=.ok (r',[o])):dE fs (.call k (.ev a .nil)) E=.ok (r',E1):=by
 subst h0;simp only[y4,Y1,ji,jn,zw,h1,zL,h2,zJ]
def Ji(h0:fiF fs k=F)(h1:dE fs a E=.ok (r,E1))(h1':dE fs b E1=.ok (r2,E2))(h2:F [.v r.d,.v r2.d]=.ok (r',[o,o2])):dE fs (.call k (.ev a (.ev b .nil))) E=.ok (r',E2):=by
 subst h0;simp only[y4,Y1,ji,jn,zw,h1,h1',zL,h2,zJ]
def zEc(h1:dE fs a E=.ok (.v (.int i),E1))(h2:dE fs b E1=.ok (.v (.int j),E2))(h3:o.b i j=true)(h4:dE fs c E2=.ok (.v (.int k),E3))(h5:o'.b j k=v):dE fs (.chain o o' a b c) E=.ok (.v (.bl v),E3):=by
 subst h5;simp only[Wd,yy,h1,h2,h4];rw[if_pos h3]
def zGW(h1:dE fs a E=.ok (.v (.int i),E1))(h2:dE fs b E1=.ok (.v (.int j),E2))(h3:o.b i j=false):dE fs (.chain o o' a b c) E=.ok (.v (.bl false),E2):=by
 simp only[Wd,yy,h1,h2];rw[if_neg (by rw[h3];decide)]
def We(h0:fiF fs k=F)(hE:E[i]?=some (.own p))(h1:dE fs a E=.ok (r,E))(h2:F [.par p,.v r.d]=.ok (r',[.par p',o]))(h3:E.set i (.own p')=E1):dE fs (.call k (.lend i (.ev a .nil))) E=.ok (r',E1):=by
 subst h0 h3;have hi:i<E.length:=(qG.mp hE).1;have hs:(E.set i .e)[i]?=some .e:=by simp[hi]
 simp only[y4,Y1,rG_lend,ji,jn,zw,hE,JK,Bool.false_eq_true,if_false,h1,zL,Slot.list?,h2,zJ,hs,Slot.put,List.set_set]
def zi(h0:fiF fs k=F)(h1:dE fs a E=.ok (r,E1))(h1':dE fs b E1=.ok (r2,E2))(h1'':dE fs c E2=.ok (r3,E3))(h2:F [.v r.d,.v r2.d,.v r3.d]=.ok (r',[o,o2,o3])):dE fs (.call k (.ev a (.ev b (.ev c .nil)))) E=.ok (r',E3):=by
 subst h0;simp only[y4,Y1,ji,jn,zw,h1,h1',h1'',zL,h2,zJ]
def yl(h:body (ss++replicate (n-ss.length) .e)=.ok (.ret r,E1))(ho:zb ss E1=o):fnM n body ss=.ok (r,o):=by
 subst ho;simp only[fnM,h]
def f_nx(h:body (ss++replicate (n-ss.length) .e)=.ok (.nx,E1))(ho:zb ss E1=o):fnM n body ss=.ok (.v .non,o):=by
 subst ho;simp only[fnM,h]
def zW:dA fs .nil E=.ok ([],E):=by simp only[JW,zAX]
def zI{a as:_}(h1:dE fs a E=.ok (r,E1))(h2:dA fs as E1=.ok (rs,E2)):dA fs (.cons a as) E=.ok (r::rs,E2):=by simp only[YR,JJ,h1,h2]
def o_N:dO fs .oN E=.ok (none,E):=by simp only[rO_oN,zFh]
def o_S(h:dE fs a E=.ok (.v (.int i),E1)):dO fs (.oS a) E=.ok (some i,E1):=by simp only[rO_oS,zDl,h]
def t_E(h:dE fs a E=.ok (.v (.bl b),E1)):dT fs (.tE a) E=.ok (b,E1):=by simp only[Gp,tT,h]
def zC3(h1:dT fs a E=.ok (false,E1))(h2:dT fs b E1=.ok (c,E2)):dT fs (.tOr a b) E=.ok (c,E2):=by simp only[uw,GZ,h1,h2]
def t_orT(h1:dT fs a E=.ok (true,E1)):dT fs (.tOr a b) E=.ok (true,E1):=by simp only[uw,GZ,h1]
def WY(h1:dT fs a E=.ok (b,E1))(h2:(!b)=c):dT fs (.tNot a) E=.ok (c,E1):=by subst h2;simp only[rT_tNot,JI,h1]
def jw(h1:dE fs a E=.ok (r,E1))(h2:Yt i r E1=.ok E2):dS fs (.sSet i a) E=.ok (.nx,E2):=by simp only[wq,sSet,h1,h2]
def yt(h1:dT fs t E=.ok (false,E1))(h2:dB fs b E1=o):dS fs (.sIf t a b) E=o:=by subst h2;simp only[Y2,sIf,h1]
def v3(h1:dT fs t E=.ok (true,E1))(h2:dB fs a E1=o):dS fs (.sIf t a b) E=o:=by subst h2;simp only[Y2,sIf,h1]
def yu(h1:dE fs a E=.ok (r,E1)):dS fs (.sRet a) E=.ok (.ret r,E1):=by simp only[jI,sRet,h1]
def jZ(h1:dE fs a E=.ok (r,E1)):dS fs (.sDrop a) E=.ok (.nx,E1):=by simp only[Y3,sDrop,h1]
def s_tup(h1:dE fs a E=.ok (r,E1))(h2:gT is r.d E1=.ok E2):dS fs (.sTup is a) E=.ok (.nx,E2):=by simp only[rS_sTup,sTup,h1,h2]
def zGX{as:_}(h1:dA fs as E=.ok ([r1,r2],E1))(h2:gNs [i,j] [r1.d,r2.d] E1=.ok E2):dS fs (.sPar i j as) E=.ok (.nx,E2):=by simp only[rS_sPar,sPar,h1,h2]
def s_forL(h1:dE fs a E=.ok (r,E1))(h2:r.d=.l ds)(h3:vA tg.m (dB fs b) ds E1=.ok p):dS fs (.sForL a tg b) E=.ok p:=by simp only[zGQ];exact vS (by simp only[sForL,h1,h2,h3])
def ZZ(h1:dA fs a E=.ok ([r],E1))(h2:r.d=.int j)(hj:-1000000<=j/\j<=1000000)(h3:vA tg.m (dB fs b) (zH 0 j.toNat) E1=.ok p):dS fs (.sForR1 a tg b) E=.ok p:=by
 simp only[zEQ];refine vS ?_;simp only[sForR1,h1,h2];rw[if_pos ⟨by omega,by omega⟩,h3]
def s_forR2(h1:dA fs a E=.ok ([r1,r2],E1))(h2:r1.d=.int i)(h2':r2.d=.int j)(hi:-1000000<=i/\i<=1000000)(hj:-1000000<=j/\j<=1000000)(h3:vA tg.m (dB fs b) (zH i (j-i).toNat) E1=.ok p):dS fs (.sForR2 a tg b) E=.ok p:=by
 simp only[JX];refine vS ?_;simp only[sForR2,h1,h2,h2'];rw[if_pos ⟨by omega,by omega,by omega,by omega⟩,h3]
def i_L(h1:dE fs a E=.ok (r,E1))(h2:r.d=.l ds):dI fs (.iL a) E=.ok (ds,E1):=by simp only[rI_iL,iL,h1,h2]
def i_T(h1:dE fs a E=.ok (r,E1))(h2:r.d=.t ds):dI fs (.iT a) E=.ok (ds,E1):=by simp only[rI_iT,iT,h1,h2]
def i_R1(h1:dA fs a E=.ok ([r],E1))(h2:r.d=.int j)(hj:-1000000<=j/\j<=1000000):dI fs (.iR1 a) E=.ok (zH 0 j.toNat,E1):=by
 simp only[rI_iR1,iR1,h1,h2];rw[if_pos ⟨by omega,by omega⟩]
def yw:dB fs .bNil E=.ok (.nx,E):=by simp only[JY,zAd]
def zr(h:dS fs s E=o):dB fs (.bOne s) E=o:=by simp only[y6,h]
def zT(h:dS fs s E=.ok (.nx,E1))(h2:dB fs b E1=o):dB fs (.bSeq s b) E=o:=by simp only[jc,ul,h,h2]
def zAP(h:dS fs s E=.ok (.ret r,E1)):dB fs (.bSeq s b) E=.ok (.ret r,E1):=by simp only[jc,ul,h]
def yx:[d].length<=cap:=by simp only[List.length_singleton,cap];omega
def Za:([]:List D).length<=cap:=by simp only[List.length_nil,cap];omega
def two_cap:[d,e].length<=cap:=by simp only[length_cons,List.length_nil,cap];omega
def zCE{nl:Nat}{xs ys:List Str}{caps:List Nat}{it tt el:_}{tg:Tg}{ds rs:List D}{vs:List D}(pat:D->List DV.Slot)(f:D->Bool)(g:D->D)(hi:dI fs it E=.ok (ds,E1))(hcap:JL E1 caps=.ok (vs.map AR.tmp))
  (h1:∀d∈ds,∀S:List DV.Slot,S.length=nl->(∀s∈S,JZ s=true)->tg.m d (S++vs.map Slot.v)=.ok (pat d++vs.map Slot.v))
  (h2:∀d∈ds,(pat d).length=nl/\∀s∈pat d,JZ s=true)
  (h3:∀d∈ds,dT fs tt (pat d++vs.map Slot.v)=.ok (f d,pat d++vs.map Slot.v))
  (h4:∀d∈ds,f d=true->∃r,dE fs el (pat d++vs.map Slot.v)=.ok (r,pat d++vs.map Slot.v)/\r.d=g d) (hc:ds.length<=cap) (hr:(ds.filter f).map g=rs):dE fs (.comp nl xs ys caps it tg tt el) E=.ok (.own rs,E1):=by
 subst hr;simp only[zEM];exact zEJ <| zB8 pat f g ds h1 h2 h3 h4 hc hi hcap
def Jj{xs ys:List Str}{caps:List Nat}{it el:_}{ds rs:List D}{vs:List D}(g:D->D)(hi:dI fs it E=.ok (ds,E1))(hcap:JL E1 caps=.ok (vs.map AR.tmp))
  (h4:∀d∈ds,∃r,dE fs el (.v d::vs.map Slot.v)=.ok (r,.v d::vs.map Slot.v)/\r.d=g d) (hc:ds.length<=cap) (hr:ds.map g=rs):dE fs (.comp 1 xs ys caps it (.n 0) .tTr el) E=.ok (.own rs,E1):=by
 refine zCE (λd=>[.v d]) (λ_=>true) g hi hcap (λd hd S hS hn=>zEW hS hn) (λd hd=>⟨rfl,λs hs=>?_⟩) (λd hd=>?_) (λd hd _=>h4 d hd) hc ?_
 ·rw[mem_singleton]at hs;subst hs;rfl
 ·simp only[zEO,jp]
 ·rw[filter_eq_self.mpr (λ_ _=>rfl),hr]
end
end DV
namespace SM
open PySem L2 DV
def zCF(w o k:Nat):Nat->List Nat
 |0=>1::replicate k 0|n+1=>(o*(zCF w o k n).sum)::((zCF w o k n).dropLast.map (w*·))
def U(w o k n:Nat):Nat:=(zCF w o k n).sum
def F(w o k m:Nat):Nat->Nat
 |0=>0|r+1=>F w o k m r+w^r*o*U w o k (m-1-r)
theorem zBO(w:Nat):∀l:List Nat,(l.map (w*·)).sum=w*l.sum
 | []=>by simp|a::l=>by simp[zBO w l,Nat.mul_add]
def wB(m:Nat):Nat->List (List Nat)
 |0=>[[]]|n+1=>(wB m n).flatMap λr=>(List.range m).map λx=>r++[x]
def stp(s:Nat)(p:Nat×Nat)(x:Nat):Nat×Nat:=(max p.1 (if x=s then p.2+1 else 0),if x=s then p.2+1 else 0)
def stt(s:Nat)(row:List Nat):Nat×Nat:=row.foldl (stp s) (0,0)
def Die(die:List Nat):Prop:=(die.length=2\/die.length=3)/\∀x∈die,1<=x/\x<=9
def top'(t:Int)(b:Nat):Int:=t/(t.natAbs.gcd b:Nat)
def bot'(t:Int)(b:Nat):Nat:=b/t.natAbs.gcd b
def nrm(t:Int)(b:Nat):D:=.t [.int (top' t b),.int (bot' t b:Nat)]
def top_nat(n b:Nat):top' (n:Int) b=((n/n.gcd b:Nat):Int):=by
 simp[top']
theorem zCG(mk:Nat->Nat->zS)(hc:∀a b,c (mk a b)=.ok (decide (b≠0),mk a b))(hb:∀a b,b≠0->bd (mk a b)=.ok (.nx,mk b (a%b))) :
  ∀(k n a b:Nat),b<2^k->2*k+1<=n->whN c bd n (mk a b)=.ok (.nx,mk (a.gcd b) 0)
 |0,n,a,b,h,hn=>by
  have:b=0:=by omega
  subst this;obtain⟨m,rfl⟩:∃m,n=m+1:=⟨n-1,by omega⟩;simp only[whN,hc,ne_eq,not_true_eq_false,decide_false,Nat.gcd_zero_right]
 |k+1,n,a,b,h,hn=>by
  obtain⟨m,rfl⟩:∃m,n=m+2:=⟨n-2,by omega⟩;by_cases b0:b=0
  ·subst b0
   simp only[whN,hc,ne_eq,not_true_eq_false,decide_false,Nat.gcd_zero_right]
  ·by_cases r0:a%b=0
   ·simp only[whN,hc,hb a b b0,ne_eq,b0,not_false_eq_true,decide_true,r0,not_true_eq_false,decide_false]
    rw[gcd_comm,gcd_rec,r0,Nat.gcd_zero_left]
   ·have lt:a%b<b:=Nat.mod_lt _ (by omega)
    have lt2:b%(a%b)<a%b:=Nat.mod_lt _ (by omega);have half:b%(a%b)<2^k:=by
     have:2*(b%(a%b))<b:=by
      by_cases q:2*(a%b)<=b
      ·omega
      ·have:b%(a%b)=b-a%b:=by
        rw[Nat.mod_eq_sub_mod (by omega),Nat.mod_eq_of_lt (by omega)]
       omega
     rw[pow_succ]at h;omega
    have ih:=zCG mk hc hb k m (a%b) (b%(a%b)) half (by omega);simp only[whN,hc,hb a b b0,hb b (a%b) r0,ne_eq,b0,r0,not_false_eq_true,decide_true];rw[ih];rw[gcd_comm a b,gcd_rec b a,gcd_comm (a%b) b,gcd_comm (a%b),<- gcd_rec,gcd_comm b]
def tot(es:List (List Nat)):Nat:=(es.map List.sum).sum
def al(ws:List Nat)(k:Nat):Nat->List (List Nat)
 |0=>ws.map λw=>w::replicate (k-1) 0|n+1=>zipWith (λw e=>(w*(tot (al ws k n)-e.sum))::e.dropLast.map (w*·)) ws (al ws k n)
def A(ws:List Nat)(n k:Nat):Nat:=if n=0 then 1 else if k=0 then 0 else tot (al ws k (n-1))
theorem zEd(ws:List Nat)(k:Nat):∀n,(al ws k n).length=ws.length
 |0=>by simp[al]|n+1=>by simp[al,zEd ws k n]
theorem GM:∀{l:List Nat} {s x:Nat},l[s]?=some x->x<=l.sum
 |a::l,0,x,h=>by simp at h;subst h;simp
 |a::l,s+1,x,h=>by
  have:=GM (l:=l) (s:=s) (by simpa using h);simp only[sum_cons];omega
 | [],s,x,h=>by simp at h
def cross(t:Int)(b:Nat):top' t b*b=t*(bot' t b:Nat):=by
 unfold top' bot';have h1:((t.natAbs.gcd b:Nat):Int)∣t:=by
  have:=Nat.gcd_dvd_left t.natAbs b;exact Int.ofNat_dvd_left.mpr this
 have h2:t.natAbs.gcd b∣b:=Nat.gcd_dvd_right _ _;obtain⟨x,hx⟩:=h1;obtain⟨y,hy⟩:=h2;generalize hg:t.natAbs.gcd b=g at *;by_cases c:g=0
 ·subst c
  simp at hx hy
  subst hx;subst hy;simp
 ·have e1:t/(g:Int)=x:=by rw[hx];exact Int.mul_ediv_cancel_left _ (by omega)
  have e2:b/g=y:=by rw[hy];exact Nat.mul_div_cancel_left _ (by omega)
  rw[e1,e2,hx,hy,Int.natCast_mul]
  grind
end SM
namespace RM
open PySem L2 DV
abbrev B:=Int×Nat
def y0(a:Int):List B->List B
 | []=>[(a,1)]| (b,n)::r=>if a=b then(b,n+1)::r else(a,1)::(b,n)::r
def rle:List Int->List B
 | []=>[]|a::l=>y0 a (rle l)
def JM:List B->Int->List B
 | [],a=>[(a,1)]| [(b,n)],a=>if b=a then [(b,n+1)]else [(b,n),(a,1)]|x::y::r,a=>x::JM (y::r) a
def zEe(c a:Int):∀q:List B,q≠[]->y0 c (JM q a)=JM (y0 c q) a
 | [],h=>absurd rfl h
 | [(b,n)],_=>by
  by_cases h1:b=a
  ·by_cases h2:c=b
   ·simp[JM,y0,h1,h2]
   ·simp[JM,y0,h1,h2]
    split<;>simp_all [JM]
  ·by_cases h2:c=b
   ·simp[JM,y0,h1,h2]
   ·simp[JM,y0,h1,h2]
 | (b,n)::y::r,_=>by
  by_cases h2:c=b
  ·simp[JM,y0,h2]
  ·simp[JM,y0,h2]
theorem zCH(a:Int):∀l:List Int,rle (l++[a])=JM (rle l) a
 | []=>rfl
 | [c]=>by
  show y0 c [(a,1)]=JM [(c,1)] a
  simp only[y0,JM];by_cases h:c=a
  ·simp[h]
  ·simp[h]
 |c::d::l=>by
  have ih:=zCH a (d::l);show y0 c (rle ((d::l)++[a]))=JM (y0 c (rle (d::l))) a;rw[ih];refine zEe c a _ ?_;show y0 d (rle l)≠[];cases rle l with
  |nil=>simp[y0]
  |cons x r=>obtain⟨b,n⟩:=x;simp only[y0];split<;>simp
def ZI:List B->List Int
 | []=>[]| (a,n)::r=>replicate n a++ZI r
def zAQ(a:Int)(q:List B):ZI (y0 a q)=a::ZI q:=by
 cases q with
 |nil=>rfl
 |cons x r =>
  obtain⟨b,n⟩:=x;simp only[y0];split
  ·rename_i h;subst h;simp[ZI,replicate_succ]
  ·simp[ZI,replicate_succ]
theorem Zb:∀l:List Int,ZI (rle l)=l
 | []=>rfl|a::l=>by show ZI (y0 a (rle l))=_;rw[zAQ,Zb l]
theorem v4(a:Int)(k:Nat):∀p:List Int,(∀z,p.getLast?=some z->z≠a)->rle (p++replicate (k+1) a)=rle p++[(a,k+1)]
 | [],_=>by
  show rle (replicate (k+1) a)=[(a,k+1)]
  induction k with
  |zero=>rfl
  |succ k ih =>
   rw[replicate_succ];show y0 a (rle (replicate (k+1) a))=_;rw[ih];simp[y0]
 | [c],h=>by
  have hc:c≠a:=h c rfl;show y0 c (rle (replicate (k+1) a))=y0 c []++[(a,k+1)];have:=v4 a k [] (λz hz=>by cases hz);simp only[nil_append]at this;rw[this];simp[y0,hc,rle]
 |c::d::p,h=>by
  have ih:=v4 a k (d::p) (λz hz=>h z (by simpa using hz));show y0 c (rle ((d::p)++replicate (k+1) a))=y0 c (rle (d::p))++[(a,k+1)];rw[ih];cases hq:rle (d::p)with
  |nil =>
   have:=Zb (d::p);rw[hq]at this;cases this
  |cons x r =>
   obtain⟨b,n⟩:=x;simp only[cons_append,y0];split<;>rfl
def zGY(m:List B)(z:B)(a:Int):JM (m++[z]) a=if z.1=a then m++[(z.1,z.2+1)]else m++[z,(a,1)]:=by
 induction m with
 |nil =>
  obtain⟨b,n⟩:=z;simp only[nil_append,JM]
 |cons x m ih =>
  cases h:m++[z]with
  |nil=>simp at h
  |cons y r =>
   rw[cons_append,h];simp only[JM];rw[<- h,ih];split<;>simp
def tot(q:List B):Nat:=(q.map (·.2)).sum
theorem GN:∀q:List B,tot q=(ZI q).length
 | []=>rfl
 | (a,n)::r=>by
  have:=GN r;simp only[tot,map_cons,sum_cons,ZI,length_append,length_replicate]at this ⊢;omega
theorem WK(v:Nat->Int):∀k,argBest (λi j=>decide (v i > v j)) k<=k/\∀i,i<=k->v i<=v (argBest (λi j=>decide (v i > v j)) k)
 |0=>⟨le_refl _,λi h=>by have:i=0:=(by omega);subst this;exact Int.le_refl _⟩
 |k+1=>by
  obtain⟨h1,h2⟩:=WK v k;simp only[argBest];by_cases hc:v (k+1) > v (argBest (λi j=>decide (v i > v j)) k)
  ·rw[if_pos (by simpa using hc)]
   refine⟨le_refl _,λi hi=>?_⟩;by_cases e:i=k+1
   ·subst e;exact Int.le_refl _
   ·have:=h2 i (by omega);omega
  ·rw[if_neg (by simpa using hc)]
   refine⟨by omega,λi hi=>?_⟩;by_cases e:i=k+1
   ·subst e;omega
   ·exact h2 i (by omega)
def zCr(h:0<ns.length):zAu ns∈ns/\∀a∈ns,a<=zAu ns:=by
 obtain⟨h1,h2⟩:=WK (λi=>ns.getD i 0) (ns.length-1);unfold zAu;refine⟨?_,λa ha=>?_⟩
 ·generalize argBest (λi j=>decide (ns.getD i 0 > ns.getD j 0)) (ns.length-1)=m at h1
  have hm:m<ns.length:=by omega
  rw[List.getD_eq_getElem?_getD,getElem?_eq_getElem hm];exact List.getElem_mem hm
 ·obtain⟨i,hi,rfl⟩:=List.getElem_of_mem ha
  have:=h2 i (by omega);simp only[List.getD_eq_getElem?_getD,getElem?_eq_getElem hi,Option.getD_some]at this;simpa[List.getD_eq_getElem?_getD]using this
def top(ns:List Nat):Nat:=ns.foldr max 0
def top_le:∀a∈ns,a<=top ns:=by
 induction ns with
 |nil=>intro a h;cases h
 |cons b r ih =>
  intro a h;simp only[top,foldr_cons];rcases mem_cons.mp h with h|h
  ·subst h;exact Nat.le_max_left _ _
  ·exact le_trans (ih a h) (Nat.le_max_right _ _)
def top_mem(h:ns≠[]):top ns∈ns:=by
 induction ns with
 |nil=>exact absurd rfl h
 |cons b r ih =>
  simp only[top,foldr_cons];by_cases e:r=[]
  ·subst e;simp
  ·have:=ih e
   unfold top at this;by_cases hb:b<=List.foldr max 0 r
   ·rw[Nat.max_eq_right hb];exact qD _ this
   ·rw[Nat.max_eq_left (by omega)];exact qE
def zEf(ns:List Nat):vL (ns.map λ(n:Nat)=>(n:Int)) 0=(top ns:Int):=by
 unfold vL;cases ns with
 |nil=>rfl
 |cons b r =>
  rw[if_neg (by simp)];obtain⟨h1,h2⟩:=zCr (ns:=(b::r).map λ(n:Nat)=>(n:Int)) (by simp);obtain⟨m,hm,e⟩:=mem_map.mp h1;have t1:=top_le m hm;have t2:=h2 _ (mem_map.mpr ⟨_,top_mem (ns:=b::r) (by simp),rfl⟩);rw[<- e]at t2 ⊢;have:top (b::r)<=m:=by exact_mod_cast t2
  have:m=top (b::r):=by omega
  rw[this]
def Jw(a b:List Nat):top (a++b)=max (top a) (top b):=by
 induction a with
 |nil=>simp[top]
 |cons x r ih =>
  simp only[cons_append,top,foldr_cons]at ih ⊢;rw[ih];omega
def lens(s:Int)(q:List B):List Nat:=(q.filter λx=>x.1==s).map (·.2)
def best(s:Int)(q:List B):Nat:=top (lens s q)
end RM
namespace DV
open PySem L2
section
variable{fs:List FI}{E E1 E2 E3 E4 E5:zS}
def yi(h0:fiF fs k=F)(h1:dE fs a E=.ok (r,E1))(h1':dE fs b E1=.ok (r2,E2))(h1'':dE fs c E2=.ok (r3,E3))(h4:dE fs d E3=.ok (r4,E4))(h2:F [.v r.d,.v r2.d,.v r3.d,.v r4.d]=.ok (r',[o,o2,o3,o4])):dE fs (.call k (.ev a (.ev b (.ev c (.ev d .nil))))) E=.ok (r',E4):=by
 subst h0;simp only[y4,Y1,ji,jn,zw,h1,h1',h1'',h4,zL,h2,zJ]
def x_neg(h:dE fs a E=.ok (.v (.int i),E1)):dE fs (.neg a) E=.ok (.v (.int (-i)),E1):=by simp only[rE_neg,eNeg,h]
def x_and1(h:dE fs a E=.ok (.v (.bl true),E1))(h1:dE fs b E1=o):dE fs (.and a b) E=o:=by subst h1;simp only[zB4,Ga,h]
def zHZ(h:dE fs a E=.ok (.v (.bl false),E1)):dE fs (.and a b) E=.ok (.v (.bl false),E1):=by simp only[zB4,Ga,h]
def zAR(h1:dT fs a E=.ok (true,E1))(h2:dT fs b E1=o):dT fs (.tAnd a b) E=o:=by subst h2;simp only[zEN,wm,h1]
def zCI(h1:dT fs a E=.ok (false,E1)):dT fs (.tAnd a b) E=.ok (false,E1):=by simp only[zEN,wm,h1]
def s_app(h0:E[i]?=some (.own ds0))(h1:dE fs a E=.ok (r,E1))(h2:E1[i]?=some (.own ds))(hl:ds.length<cap)(h3:E1.set i (.own (ds++[r.d]))=E2):dS fs (.sApp i a) E=.ok (.nx,E2):=by
 subst h3;simp only[vT,sApp,h0,Slot.list?,h1,h2,Slot.put];rw[if_pos hl]
end
def put_ok(r:R)(h:E[i]?=some s)(hs:JZ s=true):Yt i r E=.ok (E.set i r.slot):=by
 simp only[Yt,h];cases s<;>first|rfl|(cases hs)
def j9(h:E[i]?=some s)(hs:JZ s=true)(e:E.set i r.slot=E1):Yt i r E=.ok E1:=by
 rw[put_ok r h hs,e]
def ne_int(x y:Int):neG (.int x) (.int y)=some (.v (.bl (!decide (x=y)))):=by simp[neG,neF]
def eq_int(x y:Int):eqG (.int x) (.int y)=some (.v (.bl (decide (x=y)))):=by simp[eqG,eqF]
def eq_str(t:Str):eqG (.str t) (.str t)=some (.v (.bl true)):=by simp[eqG,eqF]
def ne_str(t:Str):neG (.str t) (.str t)=some (.v (.bl false)):=by simp[neG,neF]
def QB(a b:List D)(h:a.length+b.length<=100000):zAa (.l a) (.l b)=some (.own (a++b)):=by
 simp only[zAa];rw[if_pos (by simp only[cap];omega)]
def add_tup(a b:List D)(h:a.length+b.length<=100000):zAa (.t a) (.t b)=some (.v (.t (a++b))):=by
 simp only[zAa];rw[if_pos (by simp only[cap];omega)]
def zEg(x:D)(k:Nat):(replicate k [x]).flatten=replicate k x:=by
 induction k with
 |zero=>rfl|succ k ih=>rw[replicate_succ,flatten_cons,ih,replicate_succ];rfl
def Wf(d:D)(n:Nat)(h:n<=1000):WT (.l [d]) (.int n)=some (.own (replicate n d)):=by
 simp only[WT,Zy];rw[if_pos ⟨by omega,by omega,by simp only[List.length_singleton,Int.toNat_natCast,cap];omega⟩,Int.toNat_natCast,zEg]
def zGZ(d:D)(n:Nat)(h:n<=1000):Zy (.t [d]) (.int n)=some (.v (.t (replicate n d))):=by
 simp only[Zy];rw[if_pos ⟨by omega,by omega,by simp only[List.length_singleton,Int.toNat_natCast,cap];omega⟩,Int.toNat_natCast,zEg]
def zEh(e:Zy x y=some r):WT x y=some r:=by simp only[WT,e]
def zGa(d:D)(n:Nat)(h:n<=1000):WT (.t [d]) (.int n)=some (.v (.t (replicate n d))):=by
 exact zEh (zGZ d n h)
def at_nat{ds:List D}{k:Nat}{d:D}(h:ds[k]?=some d):atI ds (k:Int)=some d:=by
 obtain⟨hk,e⟩:=qG.mp h;have:(k:Int)<ds.length:=by omega
 simp[atI,ixN,this,h]
def atI_end(ds:List D)(d:D):atI (ds++[d]) (-1)=some d:=by
 have h1:¬(0:Int)<=-1:=by decide
 have h2:-(((ds++[d]).length:Nat):Int)<=-1:=by simp;omega
 have h3:(-1+(((ds++[d]).length:Nat):Int)).toNat=ds.length:=by simp;omega
 unfold atI ixN;rw[if_neg h1,if_pos h2,h3];simp
def zEi(ds:List D)(i:Int):ixD (.t ds) (.int i)=(atI ds i).map .v:=rfl
theorem Jk(f:D->Bool):∀ds:List D,wM (ds.map λd=>D.bl (f d))=some (ds.map f)
 | []=>rfl|d::ds=>by simp only[map_cons,wM,Jk f ds];rfl
theorem all_map(f:D->Bool)(ds:List D):(ds.map f).all id=ds.all f:=by simp[List.all_map]
def zCJ{f:D->Bool}{ds:List D}{b:Bool}(h:ds.all f=b):allD [.l (ds.map λd=>D.bl (f d))]=some (.v (.bl b)):=by
 subst h;simp[allD,Jk,all_map]
def N(l:List Nat):List D:=l.map λn:Nat=>D.int (n:Int)
def wQ(l:List Nat):(N l).length=l.length:=by simp[N]
def QC(h:d∈N l):∃n∈l,d=.int (n:Nat):=by
 obtain⟨n,hn,rfl⟩:=mem_map.mp h;exact⟨n,hn,rfl⟩
def N_get{l:List Nat}{k n:Nat}(h:l[k]?=some n):(N l)[k]?=some (.int (n:Nat)):=by simp[N,h]
def N_app(a b:List Nat):N (a++b)=N a++N b:=by simp[N]
def zHa(n:Nat):zH 0 n=N (List.range n):=by
 have key:∀n k:Nat,zH (k:Int) n=N (range' k n):=by
  intro n
  induction n with
  |zero=>intro k;rfl
  |succ n ih =>
   intro k;have:=ih (k+1);rw[range'_succ];show D.int (k:Int)::zH ((k:Int)+1) n=D.int (k:Int)::N (range' (k+1) n);rw[<- this];simp
 rw[range_eq_range'];exact key n 0
section
variable{fs:List FI}{E E1 E2 E3:zS}
def x_vA(hs:s=.own ds\/s=.v (.l ds))(h:E[i]?=some s)(h':E.set i (.v (.l ds))=E1):dE fs (.var i) E=.ok (.v (.l ds),E1):=by
 rcases hs with rfl|rfl
 ·exact zHX h h'
 ·rw[zA h]
  have:E.set i (.v (.l ds))=E:=by
   obtain⟨hi,e⟩:=qG.mp h;rw[<- e,List.set_getElem_self]
  rw[<- h',this]
def s_forI(h1:dI fs it E=.ok (ds,E1))(h3:vA tg.m (dB fs b) ds E1=.ok p):dS fs (.sForI it tg b) E=.ok p:=by
 simp only[zGR,zD5,h1,sForI,h3]
def i_E{as:_}(h1:dA fs as E=.ok ([r],E1))(h2:zC0 t r.d=some ds):dI fs (.iE t as) E=.ok (zC1 0 ds,E1):=by
 simp only[rI_iE,iE,h1,h2]
end
section
variable{fs:List FI}{E E1 E2 E3 E4 E5 E6:zS}
def x_call5(h0:fiF fs k=F)(h1:dE fs a E=.ok (r,E1))(h1':dE fs b E1=.ok (r2,E2))(h1'':dE fs c E2=.ok (r3,E3))(h4:dE fs d E3=.ok (r4,E4))(h5:dE fs e E4=.ok (r5,E5))(h2:F [.v r.d,.v r2.d,.v r3.d,.v r4.d,.v r5.d]=.ok (r',[o,o2,o3,o4,o5])):dE fs (.call k (.ev a (.ev b (.ev c (.ev d (.ev e .nil)))))) E=.ok (r',E5):=by
 subst h0;simp only[y4,Y1,ji,jn,zw,h1,h1',h1'',h4,h5,zL,h2,zJ]
end
def ne_tups(h1:∀d∈a,eqb 19 d=true)(h2:∀d∈b,eqb 19 d=true):neG (.t a) (.t b)=some (.v (.bl (!deqs a b))):=by
 have e:neF (.t a) (.t b)=none:=rfl;simp only[neG,e,eqDD];rw[if_pos ⟨all_eq_true.mpr h1,all_eq_true.mpr h2⟩];rfl
section
variable{fs:List FI}{E E1:zS}
def i_Rv(h1:dA fs a E=.ok ([r],E1))(h2:r.d=.int j)(hj:-1000000<=j/\j<=1000000):dI fs (.iRv a) E=.ok (yn j.toNat,E1):=by
 simp only[rI_iRv,DV.iRv,h1,h2];rw[if_pos ⟨by omega,by omega⟩]
end
section
variable{fs:List FI}{E E1 E2:zS}
def zBP(h:DV.whN (dT fs t) (dB fs b) 1000000 E=.ok p):dS fs (.sWhile t b) E=.ok p:=by
 simp only[Q6];exact vS (by simp only[DV.sWhile];exact h)
end
end DV
namespace My
open PySem L2 DV SM
def isFn:D->Bool
 | .fn _=>true| .exn _ _=>true| .dct _ _=>true|_=>false
def isW:D->Bool
 | .int _=>true|_=>false
def Wg(lo hi:Int):D->Bool
 | .int i=>decide (lo<=i)&&decide (i<=hi)|_=>false
def okD:D->Prop
 | .t ds=>ds.length<=cap/\∀d∈ds,isFn d=false| .fn _=>False| .exn _ _=>False| .dct _ _=>False|_=>True
def zGb:D->Bool
 | .t ds=>decide (2<=ds.length)&&decide (ds.length<=3)&&ds.all (Wg 1 9)|_=>false
def zCs(d:D)(h:isFn d=false):ZV [.v d]=.ok (.v (.bl (isW d)),[.e]):=by
 cases d<;>first|rfl|(cases h)
def jP(d:D)(lo hi:Int)(h:isFn d=false):zY [.v d,.v (.int lo),.v (.int hi)]=.ok (.v (.bl (Wg lo hi d)),[.e,.e,.e]):=by
 have e:=zCs d h;cases d with
 |int i =>
  simp[zY,ye,y9,fnM,y6,jI,wG,Wd,zB4,y4,Y1,ji,JW,sRet,sIf,ul,zAd,sSet,Yt,R.slot,Ga,eOr,zAW,jn,zw,ui,eC,zL,fiF,fiX,R.d,zJ,yy,Cp.b,Cp.f,Op2.f,Bi.f,Ty.s,jK,jJ,je,jf,jg,GZ,wm,JI,tT,JT,eCB,JJ,zAX,zAY,zAZ,ZU,vR,Tg.m,eqG,eqF,neG,neF,zCz,zAb,WT,Zy,e,isW,Wg];by_cases h1:lo<=i<;>simp[h1,jK,jJ]
 |_=>first|(cases h;done)|simp[zY,ye,y9,fnM,y6,jI,wG,Wd,zB4,y4,Y1,ji,JW,sRet,sIf,ul,zAd,sSet,Yt,R.slot,Ga,eOr,zAW,jn,zw,ui,eC,zL,fiF,fiX,R.d,zJ,yy,Cp.b,Cp.f,Op2.f,Bi.f,Ty.s,jK,jJ,je,jf,jg,GZ,wm,JI,tT,JT,eCB,JJ,zAX,zAY,zAZ,ZU,vR,Tg.m,eqG,eqF,neG,neF,zCz,zAb,WT,Zy,e,isW,Wg]
def nxt(s:Int):Int:=((s+7919)%2147483647*((s+7919)%2147483647)+48271*((s+7919)%2147483647)+12345)%2147483629
def zBQ(s:Int):wx [.v (.int s)]=.ok (.v (.int (nxt s)),[.e]):=by
 have h1:0<=(s+7919)%2147483647:=Int.emod_nonneg _ (by decide);have h2:(s+7919)%2147483647<2147483647:=Int.emod_lt_of_pos _ (by decide);have h3:-18446744073709551616<(s+7919)%2147483647/\(s+7919)%2147483647<18446744073709551616:=by omega
 simp[wx,YW,WH,fnM,y6,jc,wq,jI,zEL,wG,Yy,sRet,sIf,ul,zAd,sSet,Yt,R.slot,Ga,eOr,zAW,jn,zw,ui,eC,zL,fiF,fiX,R.d,zJ,yy,Cp.b,Cp.f,Op2.f,Bi.f,Ty.s,jK,jJ,je,jf,jg,GZ,wm,JI,tT,JT,eCB,JJ,zAX,zAY,zAZ,ZU,vR,Tg.m,eqG,eqF,neG,neF,zCz,zAb,WT,Zy,zAa,Zy,zG5,zDg,nxt,h3]
def Pen(p:List D):Prop:=∃l f s:Int,p=[.int l,.int f,.int s]
def zBR(p:List D)(hp:Pen p)(m:Int)(h0:0<m)(h1:m.natAbs<Big):∃r p',yL [.par p,.v (.int m)]=.ok (.v (.int r),[.par p',.e])/\0<=r/\r<m/\Pen p':=by
 obtain⟨l,f,s,rfl⟩:=hp;by_cases hf:f=1
 ·refine⟨l%m,[.int (l/m),.int f,.int s],?_,Int.emod_nonneg _ (by omega),Int.emod_lt_of_pos _ h0,_,_,_,rfl⟩
  simp[yL,JA,Jf,fnM,JY,y6,jc,Y2,wq,jI,zEP,zEL,wG,Yy,Yz,zHP,y4,Y1,ji,Gp,JW,sRet,sIf,ul,zAd,sSet,Yt,R.slot,Ga,eOr,zAW,jn,zw,ui,eC,zL,fiF,fiX,R.d,zJ,yy,Cp.b,Cp.f,Op2.f,Bi.f,Ty.s,jK,jJ,je,jf,jg,GZ,wm,JI,tT,JT,eCB,JJ,zAX,zAY,zAZ,ZU,vR,Tg.m,eqG,eqF,neG,neF,zCz,zAb,WT,Zy,eIxO,JK,ixS,atI,ixN,eqF,hf,zG5,zCi,zDg,h0,h1,Zz,Slot.list?,Slot.put]
 ·refine⟨nxt (nxt s+7)/64%m,[.int l,.int f,.int (nxt (nxt s+7))],?_,Int.emod_nonneg _ (by omega),Int.emod_lt_of_pos _ h0,_,_,_,rfl⟩
  simp[yL,JA,Jf,fnM,JY,y6,jc,Y2,wq,jI,zEP,zEL,wG,Yy,Yz,zHP,y4,Y1,ji,Gp,JW,sRet,sIf,ul,zAd,sSet,Yt,R.slot,Ga,eOr,zAW,jn,zw,ui,eC,zL,fiF,fiX,R.d,zJ,yy,Cp.b,Cp.f,Op2.f,Bi.f,Ty.s,jK,jJ,je,jf,jg,GZ,wm,JI,tT,JT,eCB,JJ,zAX,zAY,zAZ,ZU,vR,Tg.m,eqG,eqF,neG,neF,zCz,zAb,WT,Zy,eIxO,JK,ixS,atI,ixN,eqF,hf,zG5,zCi,zAa,zDg,h0,h1,Zz,Slot.list?,Slot.put,zBQ]
def QD(c:Int):∃p,jC [.v (.int c)]=.ok (.own p,[.e])/\Pen p:=by
 refine⟨[.int (if 0-c > c then 0-c else c),.int (if decide (10^18<=(if 0-c > c then 0-c else c))=true then 1 else 0),.int ((if 0-c > c then 0-c else c)%1000003)],?_,_,_,_,rfl⟩;simp[jC,wz,YF,fnM,y6,jc,wq,jI,zEL,wG,Yy,Yz,Y0,zA4,ji,JW,YR,sRet,sIf,ul,zAd,sSet,Yt,R.slot,Ga,eOr,zAW,jn,zw,ui,eC,zL,fiF,fiX,R.d,zJ,yy,Cp.b,Cp.f,Op2.f,Bi.f,Ty.s,jK,jJ,je,jf,jg,GZ,wm,JI,tT,JT,eCB,JJ,zAX,zAY,zAZ,ZU,vR,Tg.m,eqG,eqF,neG,neF,zCz,zAb,WT,Zy,zAb,WR,zCy,intF,geD,powD,zG5,zDg,cap]
def uR(ns:List Int):∃c,yk [.v (.l (ns.map .int)),.v (.int 0)]=.ok (.v (.int c),[.e,.e]):=by
 cases ns with
 |nil=>exact⟨0,rfl⟩
 |cons n ns => 
  refine⟨n,?_⟩;have:(0:Int)<ns.length+1:=by omega
  simp[yk,wO,Je,fnM,JY,y6,jc,Y2,jI,zEL,wG,Yz,Y0,zCq,zA4,ji,Gp,JW,YR,sRet,sIf,ul,zAd,sSet,Yt,R.slot,Ga,eOr,zAW,jn,zw,ui,eC,zL,fiF,fiX,R.d,zJ,yy,Cp.b,Cp.f,Op2.f,Bi.f,Ty.s,jK,jJ,je,jf,jg,GZ,wm,JI,tT,JT,eCB,JJ,zAX,zAY,zAZ,ZU,vR,Tg.m,eqG,eqF,neG,neF,zCz,zAb,WT,Zy,zFf,ltD,zCy,ixD,atI,ixN,this]
end My
namespace My
open PySem L2 DV
end My
namespace My
open PySem L2 DV SM
abbrev O1:List DV.Slot:=[.e]
abbrev O2:List DV.Slot:=[.e,.e]
abbrev O3:List DV.Slot:=[.e,.e,.e]
abbrev O4:List DV.Slot:=[.e,.e,.e,.e]
def zBS(a b:Nat):zAa (.int a) (.int b)=some (.v (.int ((a+b:Nat):Int))):=by simp[zAa]
def wA{a b:Nat}(h:b<=a):WR (.int (a:Int)) (.int (b:Int))=some (.v (.int ((a-b:Nat):Int))):=by
 simp only[WR,zCy];rw[Int.ofNat_sub h]
def zEj{a b c:Nat}(h:c+b=a):WR (.int (a:Int)) (.int (b:Int))=some (.v (.int (c:Int))):=by
 subst h;rw[wA (Nat.le_add_left b c),Nat.add_sub_cancel]
def mul_sm0{i j:Int}(h0:0<=i)(h:i<=100000):Zy (.int i) (.int j)=some (.v (.int (i*j))):=by
 simp only[Zy];exact if_pos (.inl (.inl ⟨by omega,by omega⟩))
def v5(a b:Nat)(h:a<=100000):WT (.int a) (.int b)=some (.v (.int ((a*b:Nat):Int))):=by
 have:=zEh (mul_sm0 (i:=(a:Int)) (j:=(b:Int)) (by omega) (by omega));rw[this,Int.natCast_mul]
def lt_nat(a b:Nat):ltD (.int (a:Int)) (.int (b:Int))=some (.v (.bl (decide (a<b)))):=by
 show some (R.v (D.bl (decide ((a:Int)<b))))=_
 congr 3;simp
def zHb(a b:Nat):eqG (.int (a:Int)) (.int (b:Int))=some (.v (.bl (decide (a=b)))):=by
 rw[eq_int];congr 3;simp[Int.natCast_inj]
def zCK(a b:Nat):neG (.int (a:Int)) (.int (b:Int))=some (.v (.bl (!decide (a=b)))):=by
 rw[ne_int];congr 4;simp[Int.natCast_inj]
def zAS(l:List Int):YQ (l.map D.int)=some l:=by
 induction l with
 |nil=>rfl|cons a l ih=>simp only[map_cons,YQ,ih];rfl
def zEk(l:List Nat):YQ (N l)=some (l.map λ(n:Nat)=>(n:Int)):=by
 have:N l=(l.map λ(n:Nat)=>(n:Int)).map D.int:=by simp[N]
 rw[this,zAS]
theorem zCL:∀l:List Nat,(l.map λ(n:Nat)=>(n:Int)).sum=((l.sum:Nat):Int)
 | []=>rfl|a::l=>by simp[zCL l]
def zAT(l:List Nat):zF0 [.l (N l)]=some (.v (.int (l.sum:Nat))):=by
 simp only[zF0,zEk,Option.map_some,zCL]
def zGc(ds:List D)(h:0<ds.length):zBo ds none (some (-1))=ds.dropLast:=by
 unfold zBo;have h1:HT.sIx ds.length 0 none=0:=rfl;have h2:HT.sIx ds.length ds.length (some (-1))=ds.length-1:=by
  simp[HT.sIx];omega
 rw[h1,h2];simp[List.dropLast_eq_take]
def cut_N(e:List Nat)(h:0<e.length):slD (.l (N e)) none (some (-1))=some (.own (N e.dropLast)):=by
 have:=zGc (N e) (by rw[wQ];exact h);simp only[slD,this];simp[N,List.map_dropLast]
def yU(d:D)(lo hi:Int)(h:isFn d=false)(hb:Wg lo hi d=true):zN [.v d,.v (.int lo),.v (.int hi)]=.ok (.v .non,O3):=by
 have e:=jP d lo hi h;rw[hb]at e;exact f_nx (zr (yt (WY (t_E (zi rfl (zA rfl) (zA rfl) (zA rfl) e)) rfl) yw)) rfl
def WL(d:D)(h:isFn d=false)(hb:Wg 2 3 d=true):yb [.v d]=.ok (.v .non,O1) :=
 f_nx (zr (jZ (zi rfl (zA rfl) zAO zAO (yU d 2 3 h hb)))) rfl
def e_times{fs:List FI}{E E1:zS}{x1 x2:List Str}{c0 ci:Nat}{w:Nat}{l:List Nat}{s:DV.Slot}(hw:w<=1000)(hl:0<l.length/\l.length<=1000)(hs:s=.own (N l)\/s=.v (.l (N l)))(h:E[ci]?=some s)(h':E.set ci (.v (.l (N l)))=E1)(h0:E1[c0]?=some (.v (.int (w:Nat)))) :
  dE fs (.comp 1 x1 x2 [c0] (.iL (.sl (.var ci) .oN (.oS (.neg (.c (.int 1)))))) (.n 0) .tTr (.bin .mul (.var 1) (.var 0))) E=.ok (.own (N (l.dropLast.map (w*·))),E1):=by
 refine Jj (vs:=[.int (w:Nat)]) (λd=>match d with | .int e=>.int (w*e)|_=>.non) (i_L (x_sl (x_vA hs h h') o_N (o_S (x_neg x_c)) (cut_N l hl.1)) rfl) (by simp[JL,h0]) (λd hd=>?_) ?_ ?_
 ·obtain⟨x,_,rfl⟩:=QC hd
  exact⟨_,zz (zA rfl) (zA rfl) (v5 w x (by omega)),by simp[R.d]⟩
 ·rw[wQ];simp[cap];omega
 ·simp only[N,map_map]
  refine map_congr_left λx _=>?_
  simp
def LD(es:List (List Nat)):List D:=es.map λe=>.l (N e)
def zHc(es:List (List Nat)):(LD es).length=es.length:=by simp[LD]
def LD_mem{es:List (List Nat)}{d:D}(h:d∈LD es):∃e∈es,d=.l (N e):=by
 obtain⟨e,he,rfl⟩:=mem_map.mp h;exact⟨e,he,rfl⟩
theorem zHd{ws:List Nat}{k:Nat}(hk:1<=k):∀(i:Nat) (e:List Nat),e∈al ws k i->e.length=k
 |0,e,h=>by
  simp only[al,mem_map]at h;obtain⟨w,_,rfl⟩:=h;simp;omega
 |i+1,e,h=>by
  simp only[al]at h;obtain⟨j,hj⟩:=List.getElem?_of_mem h;rw[List.getElem?_zipWith]at hj;cases e1:ws[j]? with
  |none=>rw[e1]at hj;cases (al ws k i)[j]?<;>cases hj
  |some w =>
   cases e2:(al ws k i)[j]? with
   |none=>rw[e1,e2]at hj;cases hj
   |some f =>
    rw[e1,e2]at hj;simp at hj;subst hj;have:=zHd hk i f (mem_of_getElem? e2);simp;omega
def sumL:D->D
 | .l ds=>match zF0 [.l ds]with
  |some (.v d)=>d|_=>.non
 |d=>d
def zEl{fs:List FI}{E E1:zS}{es:List (List Nat)}{s3:DV.Slot}(hs:s3=.own (LD es)\/s3=.v (.l (LD es)))(h3:E[3]?=some s3)(he:E.set 3 (.v (.l (LD es)))=E1)(hl:es.length<=1000) :
  dE fs (.cB .sum (.cons (.comp 1 ["of_sign"] [] [] (.iL (.var 3)) (.n 0) .tTr (.cB .sum (.cons (.var 0) .nil))) .nil)) E=.ok (.v (.int ((tot es:Nat):Int)),E1):=by
 refine WJ (zI (Jj (vs:=[]) (rs:=N (es.map List.sum)) sumL (i_L (x_vA hs h3 he) rfl) rfl (λd hd=>?_) (by rw[zHc];simp[cap];omega) ?_) zW) (zAT (es.map List.sum))
 ·obtain⟨e,_,rfl⟩:=LD_mem hd
  have q:=zAT e;refine⟨_,WJ (zI (zA rfl) zW) q,?_⟩;simp[R.d,sumL,q]
 ·simp only[LD,N,map_map]
  apply map_congr_left;intro e _;have q:=zAT e;simp only[N]at q;simp only[Function.comp,sumL,q]
def pat2:D->List DV.Slot
 | .t [a,b]=>[.v a,.v b]|_=>[.e,.e]
def zCM(l:List D):List Nat:=l.map λd=>match d with | .int i=>i.toNat|_=>0
def zHe(l:List Nat):zCM (N l)=l:=by
 simp only[zCM,N,map_map]
 conv=>rhs;rw[<- List.map_id l]
 apply map_congr_left;intro n _;simp
def zCN(T:Nat):D->D
 | .t [.int w,.l l]=>.l (N ((w.toNat*(T-(zCM l).sum))::(zCM l).dropLast.map (w.toNat*·)))|d=>d
theorem Wh:∀{ws:List Nat} {es:List (List Nat)} {d:D},d∈zipWith uG (N ws) (LD es)->∃w e,w∈ws/\e∈es/\d=.t [.int (w:Nat),.l (N e)]
 | [],es,d,h=>by simp[N]at h|w::ws,[],d,h=>by simp[N,LD]at h
 |w::ws,e::es,d,h=>by
  have q:zipWith uG (N (w::ws)) (LD (e::es))=.t [.int (w:Nat),.l (N e)]::zipWith uG (N ws) (LD es):=rfl;rw[q]at h;rcases mem_cons.mp h with h|h
  ·exact⟨w,e,qE,qE,h⟩
  ·obtain⟨w',e',h1,h2,h3⟩:=Wh h
   exact⟨w',e',qD _ h1,qD _ h2,h3⟩
theorem zEm(T:Nat):∀(ws:List Nat) (es:List (List Nat)),(zipWith uG (N ws) (LD es)).map (zCN T)=LD (zipWith (λw e=>(w*(T-List.sum e))::e.dropLast.map (w*·)) ws es)
 | [],es=>by simp[N,LD]|w::ws,[]=>by simp[N,LD]
 |w::ws,e::es=>by
  have q:zipWith uG (N (w::ws)) (LD (e::es))=.t [.int (w:Nat),.l (N e)]::zipWith uG (N ws) (LD es):=rfl;rw[q,map_cons,zEm T ws es];simp only[zCN,zHe,Int.toNat_natCast,List.zipWith_cons_cons,LD,map_cons]
def i_A{fs:List FI}{E E1:zS}{a:_}{r:R}{ds:List D}(h1:dE fs a E=.ok (r,E1))(h2:r.d=.l ds\/r.d=.t ds):dI fs (.iA a) E=.ok (ds,E1):=by
 rcases h2 with h2|h2<;>simp only[rI_iA,iA,h1,h2]
def i_ZA{fs:List FI}{E E1:zS}{t2:Bool}{as:Ax}{r1 r2:R}{ds es:List D}(h1:dA fs as E=.ok ([r1,r2],E1))(h2:r1.d=.l ds\/r1.d=.t ds)(h3:zC0 t2 r2.d=some es):dI fs (.iZA t2 as) E=.ok (zipWith uG ds es,E1):=by
 rcases h2 with h2|h2
 ·have e:zC0 false (D.l ds)=some ds:=rfl
  simp only[zHQ,iZA,h1,h2,iZ,e,h3]
 ·have e:zC0 true (D.t ds)=some ds:=rfl
  simp only[zHQ,iZA,h1,h2,iZ,e,h3]
def InA(W:D)(ws:List Nat)(n k i:Nat)(E:zS):Prop:=∃s3 s4 s5,E=[.v W,.v (.int n),.v (.int k),s3,s4,s5]/\(s3=.own (LD (al ws k i))\/s3=.v (.l (LD (al ws k i))))/\JZ s4=true/\JZ s5=true
def step_a{ws:List Nat}{W:D}(hW:W=.l (N ws)\/W=.t (N ws))(hw:∀w∈ws,w<=9)(hl:ws.length<=3){n k:Nat}(hk:1<=k/\k<=41)(i:Nat)(E:zS)(hE:InA W ws n k i E):∃E1 E2,gN 4 (.int (i:Int)) E=.ok E1/\dB zg yh E1=.ok (.nx,E2)/\InA W ws n k (i+1) E2:=by
 obtain⟨s3,s4,s5,hE,h3,h4,h5⟩:=hE;have wd:=zHd (ws:=ws) hk.1 i;have ln:=zEd ws k i;have ht:∀f∈al ws k i,f.sum<=tot (al ws k i):=λf hf=>by
  obtain⟨j,hj⟩:=List.getElem?_of_mem hf;exact GM (l:=(al ws k i).map List.sum) (s:=j) (by simp[hj])
 have et:al ws k (i+1)=zipWith (λw e=>(w*(tot (al ws k i)-List.sum e))::e.dropLast.map (w*·)) ws (al ws k i):=rfl;generalize hT:tot (al ws k i)=T at ht et;refine⟨[.v W,.v (.int n),.v (.int k),s3,.v (.int (i:Int)),s5],[.v W,.v (.int n),.v (.int k),.own (LD (al ws k (i+1))),.v (.int (i:Int)),.v (.int (T:Nat))],?_,?_,_,_,_,rfl,.inl rfl,rfl,rfl⟩
 ·subst hE;cases s4<;>first|rfl|(cases h4)
 ·have e1:dE zg (.cB .sum (.cons (.comp 1 ["of_sign"] [] [] (.iL (.var 3)) (.n 0) .tTr (.cB .sum (.cons (.var 0) .nil))) .nil)) [.v W,.v (.int n),.v (.int k),s3,.v (.int (i:Int)),s5]=.ok (.v (.int (T:Nat)),[.v W,.v (.int n),.v (.int k),.v (.l (LD (al ws k i))),.v (.int (i:Int)),s5]):=by
   rw[<- hT];exact zEl h3 rfl rfl (by omega)
  refine zT (jw e1 (j9 rfl h5 rfl)) (zr (jw (zCE (vs:=[.int (T:Nat)]) (rs:=LD (al ws k (i+1))) pat2 (λ_=>true) (zCN T) (i_ZA (zI (zA rfl) (zI (zA rfl) zW)) hW rfl) rfl (λd hd S hS hn=>?_) (λd hd=>?_) (λd hd=>?_) (λd hd _=>?_) ?_ ?_) (j9 rfl rfl rfl)))
  ·obtain⟨w,e,_,_,rfl⟩:=Wh hd
   exact zHV hS hn
  ·obtain⟨w,e,_,_,rfl⟩:=Wh hd
   refine⟨rfl,λs hs=>?_⟩;simp only[pat2,mem_cons,mem_nil_iff,or_false]at hs;rcases hs with rfl|rfl<;>rfl
  ·simp only[Gp,zEO,jp]
  ·obtain⟨w,e,hw',he,rfl⟩:=Wh hd
   have hw9:=hw w hw';have el:=wd e he;have sb:WR (.int (T:Int)) (.int ((e.sum:Nat):Int))=some (.v (.int ((T-e.sum:Nat):Int))):=wA (ht e he);have ml:=v5 w (T-e.sum) (by omega);have ad:=QB [.int ((w*(T-e.sum):Nat):Int)] (N (e.dropLast.map (w*·))) (by simp[wQ];omega);refine⟨_,zz (QA (zI (zz (zA rfl) (zz (zA rfl) (WJ (zI (zA rfl) zW) (zAT e)) sb) ml) zW) rfl yx) (e_times (by omega) (by omega) (.inr rfl) rfl rfl rfl) ad,?_⟩;simp only[R.d,zCN,zHe,Int.toNat_natCast];rfl
  ·simp[wQ,zHc,cap];omega
  ·rw[filter_eq_self.mpr (λ_ _=>rfl),zEm,et]
def ZJ{ws:List Nat}{W:D}(hW:W=.l (N ws)\/W=.t (N ws))(hw:∀w∈ws,w<=9)(hl:ws.length<=3){n k:Nat}(hn:n<=41)(hk:k<=41):zx [.v W,.v (.int n),.v (.int k)]=.ok (.v (.int ((A ws n k:Nat):Int)),O3):=by
 unfold A;by_cases c:n=0
 ·have q:eqG (.int (n:Int)) (.int 0)=some (.v (.bl true)):=by rw[eq_int,decide_eq_true (by omega)]
  rw[if_pos c];exact yl (zAP (v3 (t_E (yB (zA rfl) x_c q)) (zr (yu x_c)))) rfl
 ·have q:eqG (.int (n:Int)) (.int 0)=some (.v (.bl false)):=by rw[eq_int,decide_eq_false (by omega)]
  rw[if_neg c];by_cases d:k=0
  ·have q2:eqG (.int (k:Int)) (.int 0)=some (.v (.bl true)):=by rw[eq_int,decide_eq_true (by omega)]
   rw[if_pos d];exact yl (zT (yt (t_E (yB (zA rfl) x_c q)) yw) (zAP (v3 (t_E (yB (zA rfl) x_c q2)) (zr (yu x_c))))) rfl
  ·have q2:eqG (.int (k:Int)) (.int 0)=some (.v (.bl false)):=by rw[eq_int,decide_eq_false (by omega)]
   rw[if_neg d];have s1:WR (.int (k:Int)) (.int 1)=some (.v (.int ((k-1:Nat):Int))):=wA (b:=1) (by omega);have s2:WR (.int (n:Int)) (.int 1)=some (.v (.int ((n-1:Nat):Int))):=wA (b:=1) (by omega);have ml:=Wf (.int 0) (k-1) (by omega);have e0:dE zg (.comp 1 ["weight"] ["k"] [2] (.iA (.var 0)) (.n 0) .tTr (.bin .add (.l (.cons (.var 0) .nil)) (.bin .mul (.l (.cons (.c (.int 0)) .nil)) (.bin .sub (.var 1) (.c (.int 1)))))) [.v W,.v (.int n),.v (.int k),.e,.e,.e]=.ok (.own (LD (al ws k 0)),[.v W,.v (.int n),.v (.int k),.e,.e,.e]):=by
    refine Jj (vs:=[.int k]) (λd=>.l (d::replicate (k-1) (.int 0))) (i_A (zA rfl) hW) rfl (λd hd=>?_) (by rw[wQ];simp[cap];omega) ?_
    ·have ad:=QB [d] (replicate (k-1) (.int 0)) (by simp;omega)
     exact⟨_,zz (QA (zI (zA rfl) zW) rfl yx) (zz (r1:=.own [.int 0]) (r2:=.v (.int ((k-1:Nat):Int))) (QA (zI x_c zW) rfl yx) (zz (zA rfl) x_c s1) ml) ad,rfl⟩
    ·simp only[N,LD,al,map_map]
     refine map_congr_left λx _=>?_
     simp
   obtain⟨E1,f1,s3,s4,s5,hE,h3,h4,h5⟩:=jT (tg:=gN 4) (body:=dB zg yh) (λi E=>InA W ws n k i E) (DV.zH 0 (n-1)) 0 [.v W,.v (.int n),.v (.int k),.own (LD (al ws k 0)),.e,.e] ⟨_,_,_,rfl,.inl rfl,rfl,rfl⟩ (λi d q E hI=>by
    obtain⟨hi,rfl⟩:=wt _ _ _ _ q;rw[zero_add]at hI ⊢;rw[Int.zero_add];exact step_a hW hw hl ⟨by omega,hk⟩ i E hI)
   rw[wu,zero_add]at h3;subst hE;have fin:dE zg (.cB .sum (.cons (.comp 1 ["of_sign"] [] [] (.iL (.var 3)) (.n 0) .tTr (.cB .sum (.cons (.var 0) .nil))) .nil)) [.v W,.v (.int n),.v (.int k),s3,s4,s5]=.ok (.v (.int ((tot (al ws k (n-1)):Nat):Int)),[.v W,.v (.int n),.v (.int k),.v (.l (LD (al ws k (n-1)))),s4,s5]):=zEl h3 rfl rfl (by rw[zEd];omega);exact yl (zT (yt (t_E (yB (zA rfl) x_c q)) yw) (zT (yt (t_E (yB (zA rfl) x_c q2)) yw) (zT (jw e0 rfl) (zT (ZZ (j:=((n-1:Nat):Int)) (zI (zz (zA rfl) x_c s2) zW) rfl ⟨by omega,by omega⟩ (by rw[Int.toNat_natCast];exact f1)) (zr (yu fin)))))) rfl
end My
namespace SM
theorem zEn(m k:Nat)(hm:1<=m)(hk:1<=k):∀i,al (replicate m 1) k i=replicate m (zCF 1 (m-1) (k-1) i)
 |0=>by
  simp only[al,zCF];rw[List.map_replicate]
 |i+1=>by
  have ih:=zEn m k hm hk i;have ht:tot (al (replicate m 1) k i)=m*(zCF 1 (m-1) (k-1) i).sum:=by
   rw[ih];simp[tot]
  show zipWith (λw e=>(w*(tot (al (replicate m 1) k i)-List.sum e))::e.dropLast.map (w*·)) (replicate m 1) (al (replicate m 1) k i)=_
  rw[ht,ih,List.zipWith_replicate];congr 1
  ·simp
  ·simp only[zCF,Nat.one_mul]
   congr 1
   rw[Nat.sub_mul];simp
def zHf(m n k:Nat)(hm:1<=m):A (replicate m 1) n k=if n=0 then 1 else if k=0 then 0 else m*U 1 (m-1) (k-1) (n-1):=by
 unfold A;by_cases c:n=0
 ·rw[if_pos c,if_pos c]
 ·rw[if_neg c,if_neg c]
  by_cases d:k=0
  ·rw[if_pos d,if_pos d]
  ·rw[if_neg d,if_neg d,zEn m k hm (by omega)]
   simp[tot,U]
end SM
namespace My
open PySem L2 DV SM
structure Ok(m n k:Nat):Prop where
 hm:2<=m/\m<=3
 hn:n<=40
 hk:k<=40
def in_nat{n lo hi:Nat}(h1:lo<=n)(h:n<=hi):Wg (lo:Int) (hi:Int) (.int n)=true:=by
 simp[Wg];omega
abbrev nm:D:=.t [.str "number"]
def zGd(f:Nat->Nat){i j:Nat}(h:j<i):atI (N ((List.range i).map f)) (j:Int)=some (.int ((f j:Nat):Int)):=by
 refine at_nat (N_get ?_);simp[h]
def more(m:Nat)(r:List Nat):List (List Nat):=(List.range m).map λx=>r++[x]
theorem zCO(m:Nat):∀l:List (List Nat),(l.flatMap (more m)).length=l.length*m
 | []=>by simp|a::l=>by rw[flatMap_cons,length_append,zCO m l];simp[more,Nat.add_mul,Nat.add_comm]
theorem zCP(m:Nat):∀n,(wB m n).length=m^n
 |0=>rfl
 |n+1=>by
  show((wB m n).flatMap (more m)).length=_
  rw[zCO,zCP m n,pow_succ]
theorem Jl(m:Nat):∀n (r:List Nat),r∈wB m n->r.length=n
 |0,r,h=>by simp[wB]at h;subst h;rfl
 |n+1,r,h=>by
  obtain⟨a,ha,hr⟩:=List.mem_flatMap.mp h;obtain⟨x,_,rfl⟩:=mem_map.mp hr;have:=Jl m n a ha;simp[this]
theorem zBT(m:Nat):∀n (r:List Nat),r∈wB m n->∀x∈r,x<m
 |0,r,h=>by simp[wB]at h;subst h;simp
 |n+1,r,h=>by
  obtain⟨a,ha,hr⟩:=List.mem_flatMap.mp h;obtain⟨x,hx,rfl⟩:=mem_map.mp hr;have:=zBT m n a ha;intro y hy;rcases mem_append.mp hy with hy|hy
  ·exact this y hy
  ·simp at hy hx;omega
section
variable{fs:List FI}{E E1 E2 E3 E4:zS}
def zBP{t b:_}{p:Fl×zS}(h:DV.whN (dT fs t) (dB fs b) 1000000 E=.ok p):dS fs (.sWhile t b) E=.ok p:=by
 simp only[Q6];exact vS (by simp only[DV.sWhile];exact h)
def s_aug{i:Nat}{o:Op2}{a:_}{x y z:Int}(h:E[i]?=some (.v (.int x)))(h1:dE fs a E=.ok (.v (.int y),E))(hz:o.aug x y=some z)(h2:E.set i (.v (.int z))=E1):dS fs (.sAug i o a) E=.ok (.nx,E1):=by
 subst h2;simp only[rS_sAug,DV.sAug,h,h1,R.d,hz,if_true]
def x_varA{i:Nat}{s:DV.Slot}{ds:List D}(hs:s=.own ds\/s=.v (.l ds))(h:E[i]?=some s)(h':E.set i (.v (.l ds))=E1):dE fs (.var i) E=.ok (.v (.l ds),E1):=by
 rcases hs with rfl|rfl
 ·exact zHX h h'
 ·rw[zA h]
  have:E.set i (.v (.l ds))=E:=by
   obtain⟨hi,e⟩:=qG.mp h;rw[<- e];exact List.set_getElem_self hi
  rw[this]at h';rw[h']
end
def GO{n:Nat}(h:n<2^800):n<Big:=lt_trans h (by decide +kernel)
def mul_big{i j:Int}(h1:i.natAbs<2^800)(h2:j.natAbs<2^800):WT (.int i) (.int j)=some (.v (.int (i*j))):=by
 unfold WT;have:Zy (.int i) (.int j)=some (.v (.int (i*j))):=by
  simp only[Zy];exact if_pos (.inr ⟨GO h1,GO h2⟩)
 rw[this]
def QE(a b:Nat)(h1:a<2^800)(h2:b<2^800):WT (.int a) (.int b)=some (.v (.int ((a*b:Nat):Int))):=by
 rw[mul_big (by simpa using h1) (by simpa using h2)];simp
def zEo(t:Int):absG [.int t]=some (.v (.int (t.natAbs:Nat))):=by
 have:(if t<0 then -t else t)=((t.natAbs:Nat):Int):=by split<;>omega
 simp only[absG,this]
def abs_nat(t:Nat):absG [.int t]=some (.v (.int (t:Nat))):=by
 rw[zEo];simp
def mod_nat(a b:Nat)(h:b≠0):zG5 (.int a) (.int b)=some (.v (.int ((a%b:Nat):Int))):=by
 have:(0:Int)<b:=by omega
 simp only[zG5,zDg];rw[if_pos (decide_eq_true this)];rfl
def zCQ(a:Int)(b:Nat)(h:0<b)(h2:b<2^800):zCi (.int a) (.int b)=some (.v (.int (a/b))):=by
 simp only[zCi,zDg];rw[if_pos (decide_eq_true ⟨by omega,.inr (GO (by simpa using h2))⟩)]
def gcd_lt{t b:Nat}(h0:0<b)(hb:b<2^400):0<t.gcd b/\t.gcd b<2^800:=by
 refine⟨Nat.gcd_pos_of_pos_right _ h0,?_⟩;have:=Nat.le_of_dvd h0 (Nat.gcd_dvd_right t b);exact lt_trans (lt_of_le_of_lt this hb) (by decide +kernel)
def zGe(b g:Nat):((b:Int)/(g:Int))=((b/g:Nat):Int):=by simp
def p27{n:Nat}(h:n<=41):27^n<2^400:=lt_of_le_of_lt (Nat.pow_le_pow_right (by omega) h) (by decide +kernel)
def zBU{n:Nat}(h:n<2^400):n<2^800:=lt_trans h (by decide +kernel)
theorem zEp:∀{l:List Nat} {x:Nat},x∈l->x<=l.sum
 |a::l,x,h=>by
  rw[sum_cons];rcases mem_cons.mp h with rfl|h
  ·omega
  ·have:=zEp h;omega
structure DS(die:List Nat)(s:Nat):Prop where
 ok:Die die
 lt:s<die.length
namespace DS
variable{die:List Nat}{s:Nat}
def get(h:DS die s):die[s]?=some (die.getD s 0):=by
 rw[List.getD_eq_getElem?_getD,getElem?_eq_getElem h.lt];rfl
def le(h:DS die s):die.getD s 0<=die.sum:=zEp (mem_of_getElem? h.get)
end DS
def w_pow{w r:Nat}(h:w<=27)(hr:r<=41):w^r<2^400:=lt_of_le_of_lt (Nat.pow_le_pow_left h r) (p27 hr)
def s27{x:Nat}(h:x<=2000):x<2^400:=lt_of_le_of_lt h (by decide +kernel)
section
variable{die:List Nat}{s:Nat}
abbrev oD(die:List Nat)(s:Nat):Nat:=die.sum-die.getD s 0
def i_E{fs:List FI}{E E1:zS}{t:Bool}{as:_}{r:R}{ds:List D}(h1:dA fs as E=.ok ([r],E1))(h2:zC0 t r.d=some ds):dI fs (.iE t as) E=.ok (zC1 0 ds,E1):=by
 simp only[rI_iE,iE,h1,h2]
end
end My
namespace My
open PySem L2 DV RM
def zCR:D->Bool
 | .t ds=>decide (ds.length<=20)&&ds.all (Wg 0 2)|_=>false
theorem Jk(f:D->Bool):∀ds:List D,wM (ds.map λd=>D.bl (f d))=some (ds.map f)
 | []=>rfl|d::ds=>by simp only[map_cons,wM,Jk f ds];rfl
theorem all_map(f:D->Bool)(ds:List D):(ds.map f).all id=ds.all f:=by simp[List.all_map]
def zBV(d:D)(h:isFn d=false):YT [.v d]=.ok (.v (.bl (Wg 0 2 d)),[.e]) :=
 yl (zr (yu (zi rfl (zA rfl) x_c (zz zAO x_c rfl) (jP d 0 2 h)))) rfl
def zCJ{f:D->Bool}{ds:List D}{b:Bool}(h:ds.all f=b):allD [.l (ds.map λd=>D.bl (f d))]=some (.v (.bl b)):=by
 subst h;simp[allD,Jk,all_map]
def Zc(d:D)(h:okD d):jL [.v d]=.ok (.v (.bl (zCR d)),[.e]):=by
 cases d with
 |t ds =>
  have t1:dT j5 (.tNot (.tE (.is .tuple (.var 0)))) [.v (.t ds)]=.ok (false,[.v (.t ds)]):=WY (t_E (b:=true) rfl) rfl;have l1:dE j5 (.cB .len (.cons (.var 0) .nil)) [.v (.t ds)]=.ok (.v (.int ds.length),[.v (.t ds)]):=WJ (zI (zA rfl) zW) rfl;by_cases ht:ds.length<=20
  ·have t2:dT j5 (.tE (.cmp .gt (.cB .len (.cons (.var 0) .nil)) (.gl (.int 20)))) [.v (.t ds)]=.ok (false,[.v (.t ds)]) :=
    t_E (yB l1 zAO (by simp[Cp.f,gtD,zCy,R.d];omega))
   have e:zCR (.t ds)=ds.all (Wg 0 2):=by simp[zCR];omega
   rw[e];exact yl (zT (yt (zC3 t1 t2) yw) (zr (yu (WJ (zI (Jj (vs:=[]) (λd=>.bl (Wg 0 2 d)) (i_T (zA rfl) rfl) rfl (λd hd=>⟨_,yT rfl (zA rfl) (zBV d (h.2 d hd)),rfl⟩) h.1 rfl) zW) (zCJ rfl))))) rfl
  ·have t2:dT j5 (.tE (.cmp .gt (.cB .len (.cons (.var 0) .nil)) (.gl (.int 20)))) [.v (.t ds)]=.ok (true,[.v (.t ds)]) :=
    t_E (yB l1 zAO (by simp[Cp.f,gtD,zCy,R.d];omega))
   have e:zCR (.t ds)=false:=by simp[zCR];omega
   rw[e];exact yl (zAP (v3 (zC3 t1 t2) (zr (yu x_c)))) rfl
 |fn x=>cases h|exn x y=>cases h|dct x y=>cases h|_=>rfl
def Row(rs:List Int):Prop:=rs.length<=20/\∀r∈rs,0<=r/\r<=2
abbrev YI(rs:List Int):D:=.t (rs.map D.int)
def row_ok{rs:List Int}(h:Row rs):okD (YI rs):=⟨by simp[cap];have:=h.1;omega,λd hd=>by
 obtain⟨r,_,rfl⟩:=mem_map.mp hd;rfl⟩
def row_B{rs:List Int}(h:Row rs):zCR (YI rs)=true:=by
 simp only[zCR,Bool.and_eq_true,decide_eq_true_eq,length_map,all_eq_true];refine⟨h.1,λd hd=>?_⟩;obtain⟨r,hr,rfl⟩:=mem_map.mp hd;have:=h.2 r hr;simp[Wg,this]
def zCt{rs:List Int}(h:Row rs):ZX [.v (YI rs)]=.ok (.v .non,[.e]):=by
 have e:=Zc (YI rs) (row_ok h);rw[row_B h]at e;exact f_nx (zr (yt (WY (t_E (yT rfl (zA rfl) e)) rfl) yw)) rfl
def jQ:Nat->List B->List D
 |_,[]=>[]|b,(s,n)::r=>.t [.int s,.int b,.int n]::jQ (b+n) r
theorem v6:∀(q:List B) (b:Nat) (a:Int) (m:Nat),jQ b (q++[(a,m)])=jQ b q++[.t [.int a,.int (b+tot q:Nat),.int m]]
 | [],b,a,m=>by simp[jQ,tot]
 | (s,n)::q,b,a,m=>by
  simp only[cons_append,jQ,v6 q (b+n) a m];have:b+n+tot q=b+tot ((s,n)::q):=by simp[tot];omega
  rw[this]
theorem WM:∀(q:List B) (b:Nat),(jQ b q).length=q.length
 | [],_=>rfl| (s,n)::q,b=>by simp[jQ,WM q]
def zEq{rs:List Int}{k:Nat}(h:k<rs.length):atI (rs.map D.int) (k:Int)=some (.int rs[k]):=by
 have:(k:Int)<rs.length:=by omega
 simp[atI,ixN,this,h]
def tot_rle(p:List Int):tot (rle p)=p.length:=by rw[GN,Zb]
def zEr(p:List Int):(rle p).length<=p.length:=by
 induction p with
 |nil=>exact le_refl _
 |cons a p ih =>
  show(y0 a (rle p)).length<=_
  cases h:rle p with
  |nil=>simp[y0]
  |cons x r =>
   rw[h]at ih;obtain⟨b,n⟩:=x;simp only[y0];split<;>simp at ih ⊢<;>omega
def Wi:Bx:=(.bOne (.sIf (.tOr (.tE (.cmp .eq (.var 3) (.cB .len (.cons (.var 0) .nil)))) (.tE (.cmp .ne (.ix (.var 0) (.var 3)) (.ix (.var 0) (.var 2))))) (.bSeq (.sApp 1 (.t (.cons (.ix (.var 0) (.var 2)) (.cons (.var 2) (.cons (.bin .sub (.var 3) (.var 2)) .nil)))))
  (.bOne (.sSet 2 (.var 3)))) .bNil))
def RunI(rs:List Int)(k:Nat)(E:zS):Prop:=∃(p:List Int) (s3:DV.Slot),E=[.v (YI rs),.own (jQ 0 (rle p)),.v (.int p.length),s3]/\JZ s3=true/\p.length<=20 /\
 ((k<rs.length/\∃a c,rs.take (k+1)=p++replicate (c+1) a/\∀z,p.getLast?=some z->z≠a)\/(k=rs.length/\p=rs))
def zEs{rs:List Int}(h:Row rs)(k:Nat)(hk:k<rs.length)(E:zS)(hI:RunI rs k E):∃E1 E2,gN 3 (.int (1+(k:Int))) E=.ok E1/\dB zf Wi E1=.ok (.nx,E2)/\RunI rs (k+1) E2:=by
 obtain⟨p,s3,hE,h3,hp,hc⟩:=hI;obtain⟨a,c,ht,hl⟩:∃a c,rs.take (k+1)=p++replicate (c+1) a/\∀z,p.getLast?=some z->z≠a:=by
  rcases hc with⟨_,q⟩|⟨z,_⟩
  ·exact q
  ·omega
 have hlen:p.length+(c+1)=k+1:=by
  have:=congrArg length ht;simp at this;omega
 have hpk:p.length<rs.length:=by omega
 have hra:rs[p.length]=a:=by
  have h1:(rs.take (k+1))[p.length]?=some a:=by
   rw[ht,getElem?_append_right (le_refl _)];simp
  rw[List.getElem?_take_of_lt (by omega),getElem?_eq_getElem hpk]at h1;exact qJ h1
 have eb:=zEq hpk;rw[hra]at eb;have h20:=h.1;have hcap:(jQ 0 (rle p)).length<1000000:=by
  rw[WM];have:=zEr p;omega
 have sub:(1+(k:Int))-(p.length:Int)=((c+1:Nat):Int):=by omega
 have app:jQ 0 (rle p)++[.t [.int a,.int (p.length:Int),.int ((c+1:Nat):Int)]]=jQ 0 (rle (rs.take (k+1))):=by
  rw[ht,v4 a c p hl,v6,tot_rle,zero_add]
 have t1:gN 3 (.int (1+(k:Int))) E=.ok [.v (YI rs),.own (jQ 0 (rle p)),.v (.int p.length),.v (.int (1+(k:Int)))]:=by
  subst hE;cases s3<;>first|rfl|(cases h3)
 have ix:ixD (YI rs) (.int (p.length:Int))=some (.v (.int a)):=by rw[zEi,eb];rfl
 have sb:WR (.int (1+(k:Int))) (.int (p.length:Int))=some (.v (.int ((c+1:Nat):Int))):=by rw[<- sub];rfl
 have len:zFf [YI rs]=some (.v (.int rs.length)):=by simp only[zFf,length_map]
 have app1:dB zf (.bSeq (.sApp 1 (.t (.cons (.ix (.var 0) (.var 2)) (.cons (.var 2) (.cons (.bin .sub (.var 3) (.var 2)) .nil))))) (.bOne (.sSet 2 (.var 3)))) [.v (YI rs),.own (jQ 0 (rle p)),.v (.int p.length),.v (.int (1+(k:Int)))]=.ok (.nx,[.v (YI rs),.own (jQ 0 (rle p)++[.t [.int a,.int (p.length:Int),.int ((c+1:Nat):Int)]]),.v (.int (1+(k:Int))),.v (.int (1+(k:Int)))]) :=
  zT (s_app rfl (ZH (zI (zHY (zA rfl) (zA rfl) ix) (zI (zA rfl) (zI (zz (zA rfl) (zA rfl) sb) zW))) rfl (by simp[cap])) rfl hcap rfl) (zr (jw (zA rfl) rfl))
 by_cases ce:k+1=rs.length
 ·have ce':(1+(k:Int))=(rs.length:Int):=by omega
  refine⟨_,[.v (YI rs),.own (jQ 0 (rle (rs.take (k+1)))),.v (.int ((rs.take (k+1)).length:Nat)),.v (.int (1+(k:Int)))],t1,?_,rs.take (k+1),_,rfl,rfl,by simp;omega,.inr ⟨ce,by rw[ce,List.take_length]⟩⟩;rw[<- app];have e4:((rs.take (k+1)).length:Int)=1+(k:Int):=by simp;omega
  rw[e4];exact zr (v3 (t_orT (t_E (yB (zA rfl) (WJ (zI (zA rfl) zW) len) (by
   show eqG (.int (1+(k:Int))) (.int (rs.length:Int))=_
   rw[eq_int,decide_eq_true ce'])))) app1)
 ·have ce':¬(1+(k:Int))=(rs.length:Int):=by omega
  have hk1:k+1<rs.length:=by omega
  have en:=zEq hk1;have en':atI (rs.map D.int) (1+(k:Int))=some (.int rs[k+1]):=by
   rw[show(1+(k:Int))=((k+1:Nat):Int)by omega];exact en
  have ix2:ixD (YI rs) (.int (1+(k:Int)))=some (.v (.int rs[k+1])):=by rw[zEi,en'];rfl
  have eqF:eqG (.int (1+(k:Int))) (.int (rs.length:Int))=some (.v (.bl false)):=by rw[eq_int,decide_eq_false ce']
  have tk:rs.take (k+1+1)=rs.take (k+1)++[rs[k+1]]:=List.take_succ_eq_append_getElem hk1;by_cases cn:rs[k+1]=a
  ·refine⟨_,[.v (YI rs),.own (jQ 0 (rle p)),.v (.int p.length),.v (.int (1+(k:Int)))],t1,?_,p,_,rfl,rfl,hp,.inl ⟨hk1,a,c+1,?_,hl⟩⟩
   ·exact zr (yt (zC3 (t_E (yB (zA rfl) (WJ (zI (zA rfl) zW) len) eqF)) (t_E (yB (zHY (zA rfl) (zA rfl) ix2) (zHY (zA rfl) (zA rfl) ix) (by
     show neG (.int rs[k+1]) (.int a)=_
     rw[ne_int,decide_eq_true cn];rfl)))) yw)
   ·rw[tk,ht,cn,append_assoc,<- List.replicate_succ']
  ·refine⟨_,[.v (YI rs),.own (jQ 0 (rle (rs.take (k+1)))),.v (.int ((rs.take (k+1)).length:Nat)),.v (.int (1+(k:Int)))],t1,?_,rs.take (k+1),_,rfl,rfl,by simp;omega,.inl ⟨hk1,rs[k+1],0,by rw[tk];rfl,λz hz=>?_⟩⟩
   ·rw[<- app]
    have e4:((rs.take (k+1)).length:Int)=1+(k:Int):=by simp;omega
    rw[e4];exact zr (v3 (zC3 (t_E (yB (zA rfl) (WJ (zI (zA rfl) zW) len) eqF)) (t_E (yB (zHY (zA rfl) (zA rfl) ix2) (zHY (zA rfl) (zA rfl) ix) (by
     show neG (.int rs[k+1]) (.int a)=_
     rw[ne_int,decide_eq_false cn];rfl)))) app1)
   ·rw[ht,List.replicate_succ',<- append_assoc]at hz
    simp at hz
    rw[<- hz];exact λq=>cn q.symm
def zEt{rs:List Int}(h:Row rs):∃s3,JZ s3=true/\DV.vA (gN 3) (dB zf Wi) (DV.zH 1 rs.length) [.v (YI rs),.own [],.v (.int 0),.e]=.ok (.nx,[.v (YI rs),.own (jQ 0 (rle rs)),.v (.int rs.length),s3]):=by
 have h20:=h.1;have wb:RunI rs 0 [.v (YI rs),.own [],.v (.int 0),.e]:=by
  refine⟨[],.e,rfl,rfl,by simp,?_⟩;by_cases hz:0<rs.length
  ·refine .inl ⟨hz,rs[0],0,?_,λz hz=>by cases hz⟩
   rw[List.take_succ_eq_append_getElem hz];simp
  ·exact .inr ⟨by omega,(List.eq_nil_of_length_eq_zero (by omega)).symm⟩
 obtain⟨E',e1,p,s3,hE,h3,_,hc⟩:=jT (tg:=gN 3) (body:=dB zf Wi) (RunI rs) (DV.zH 1 rs.length) 0 _ wb
  (λi d e E hI=>by
   obtain⟨hi,rfl⟩:=wt _ _ _ _ e;rw[zero_add]at hI ⊢;exact zEs h i hi E hI)
 rw[wu,zero_add]at hc;have hp:p=rs:=by
  rcases hc with⟨z,_⟩|⟨_,q⟩
  ·omega
  ·exact q
 subst hp;exact⟨s3,h3,by rw[e1,hE]⟩
def zCS{fs:List FI}{a b:_}{E E1:zS}(h:dS fs a E=.ok (.nx,E1)):dB fs (.bSeq a b) E=dB fs b E1:=by
 simp only[jc,ul,h]
def one_ok{fs:List FI}{a:_}{E:zS}:dB fs (.bOne a) E=dS fs a E:=by simp only[y6]
def fn_ret{n:Nat}{b:MS}{ss:List DV.Slot}{r:R}{E':zS}(h:b (ss++replicate (n-ss.length) .e)=.ok (.ret r,E')):fnM n b ss=.ok (r,zb ss E'):=by
 simp only[fnM,h]
def zEu{rs:List Int}(h:Row rs):jX [.v (YI rs)]=.ok (.own (jQ 0 (rle rs)),[.e]):=by
 have e0:=zCt h;have h20:=h.1;obtain⟨s3,h3,e1⟩:=zEt h;have a1:dS zf (.sDrop (.call 0 (.ev (.var 0) .nil))) [.v (YI rs),.e,.e,.e]=.ok (.nx,[.v (YI rs),.e,.e,.e]):=by
  simp[zf,fnM,JY,y6,jc,Y2,wq,jI,Y3,vT,JX,zEL,wG,zB3,Yy,Yz,Q5,Y0,zCq,zA4,y4,Y1,ji,uw,Gp,JW,YR,sRet,sIf,ul,zAd,sSet,Yt,R.slot,Ga,eOr,zAW,jn,zw,ui,eC,zL,fiF,fiX,R.d,zJ,yy,Cp.b,Cp.f,Op2.f,Bi.f,Ty.s,jK,jJ,je,jf,jg,GZ,wm,JI,tT,JT,eCB,JJ,zAX,zAY,zAZ,ZU,vR,Tg.m,eqG,eqF,neG,neF,zCz,zAb,WT,Zy,sDrop,e0]
 have a2:dS zf (.sSet 1 (.l .nil)) [.v (YI rs),.e,.e,.e]=.ok (.nx,[.v (YI rs),.own [],.e,.e]):=by
  simp[zf,fnM,JY,y6,jc,Y2,wq,jI,Y3,vT,JX,zEL,wG,zB3,Yy,Yz,Q5,Y0,zCq,zA4,y4,Y1,ji,uw,Gp,JW,YR,sRet,sIf,ul,zAd,sSet,Yt,R.slot,Ga,eOr,zAW,jn,zw,ui,eC,zL,fiF,fiX,R.d,zJ,yy,Cp.b,Cp.f,Op2.f,Bi.f,Ty.s,jK,jJ,je,jf,jg,GZ,wm,JI,tT,JT,eCB,JJ,zAX,zAY,zAZ,ZU,vR,Tg.m,eqG,eqF,neG,neF,zCz,zAb,WT,Zy,cap]
 have a3:dS zf (.sSet 2 (.c (.int 0))) [.v (YI rs),.own [],.e,.e]=.ok (.nx,[.v (YI rs),.own [],.v (.int 0),.e]):=by
  simp[zf,fnM,JY,y6,jc,Y2,wq,jI,Y3,vT,JX,zEL,wG,zB3,Yy,Yz,Q5,Y0,zCq,zA4,y4,Y1,ji,uw,Gp,JW,YR,sRet,sIf,ul,zAd,sSet,Yt,R.slot,Ga,eOr,zAW,jn,zw,ui,eC,zL,fiF,fiX,R.d,zJ,yy,Cp.b,Cp.f,Op2.f,Bi.f,Ty.s,jK,jJ,je,jf,jg,GZ,wm,JI,tT,JT,eCB,JJ,zAX,zAY,zAZ,ZU,vR,Tg.m,eqG,eqF,neG,neF,zCz,zAb,WT,Zy]
 have a4:dS zf (.sForR2 (.cons (.c (.int 1)) (.cons (.bin .add (.cB .len (.cons (.var 0) .nil)) (.c (.int 1))) .nil)) (.n 3) Wi) [.v (YI rs),.own [],.v (.int 0),.e]=.ok (.nx,[.v (YI rs),.own (jQ 0 (rle rs)),.v (.int rs.length),s3]):=by
  have e:zAa (.int ((rs.map D.int).length:Nat)) (.int 1)=some (.v (.int ((rs.length:Int)+1))):=by rw[length_map];rfl
  refine s_forR2 (zI x_c (zI (zz (WJ (zI (zA rfl) zW) rfl) x_c e) zW)) rfl rfl (by omega) (by omega) ?_;rw[show((rs.length:Int)+1-1).toNat=rs.length by omega];exact e1
 have a5:dS zf (.sRet (.mov 1)) [.v (YI rs),.own (jQ 0 (rle rs)),.v (.int rs.length),s3]=.ok (.ret (.own (jQ 0 (rle rs))),[.v (YI rs),.e,.v (.int rs.length),s3]):=by
  simp[zf,fnM,JY,y6,jc,Y2,wq,jI,Y3,vT,JX,zEL,wG,zB3,Yy,Yz,Q5,Y0,zCq,zA4,y4,Y1,ji,uw,Gp,JW,YR,sRet,sIf,ul,zAd,sSet,Yt,R.slot,Ga,eOr,zAW,jn,zw,ui,eC,zL,fiF,fiX,R.d,zJ,yy,Cp.b,Cp.f,Op2.f,Bi.f,Ty.s,jK,jJ,je,jf,jg,GZ,wm,JI,tT,JT,eCB,JJ,zAX,zAY,zAZ,ZU,vR,Tg.m,eqG,eqF,neG,neF,zCz,zAb,WT,Zy,zDn]
 unfold jX;refine(fn_ret (r:=.own (jQ 0 (rle rs))) (E':=[.v (YI rs),.e,.v (.int rs.length),s3]) ?_).trans rfl;show dB zf (.bSeq _ (.bSeq _ (.bSeq _ (.bSeq _ (.bOne _))))) [.v (YI rs),.e,.e,.e]=_;exact(zCS a1).trans ((zCS a2).trans ((zCS a3).trans ((zCS a4).trans (one_ok.trans a5))))
abbrev T3:=Int×Nat×Nat
def tD(t:T3):D:=.t [.int t.1,.int t.2.1,.int t.2.2]
def fg(t:T3):B:=(t.1,t.2.2)
def QF:Nat->List B->List T3
 |_,[]=>[]|b,(s,n)::r=>(s,b,n)::QF (b+n) r
theorem zCT:∀(q:List B) (b:Nat),jQ b q=(QF b q).map tD
 | [],_=>rfl| (s,n)::q,b=>by simp only[jQ,QF,map_cons,zCT q];rfl
theorem zCU:∀(q:List B) (b:Nat),(QF b q).map fg=q
 | [],_=>rfl| (s,n)::q,b=>by simp only[QF,map_cons,zCU q];rfl
theorem WN:∀(q:List B) (b:Nat),(QF b q).length=q.length
 | [],_=>rfl| (s,n)::q,b=>by simp[QF,WN q]
def ln3:D->D
 | .t [_,_,c]=>c|_=>.non
def pat3:D->List DV.Slot
 | .t [a,b,c]=>[.v a,.v b,.v c]|_=>[]
def Zd(l:List T3)(hl:l.length<=1000):yN [.v (.l (l.map tD))]=.ok (.v (.int (RM.top (l.map λt=>t.2.2):Nat)),[.e]):=by
 have hc:=zB8 (vs:=[]) (nl:=3) (caps:=[]) (tg:=gT [0,1,2]) (tt:=jp) (el:=ui 2) pat3 (λ_=>true) ln3 (l.map tD)
  (λd hd S hS hn=>by obtain⟨t,_,rfl⟩:=mem_map.mp hd;exact gT_ok3 hS hn)
  (λd hd=>by obtain⟨t,_,rfl⟩:=mem_map.mp hd;exact⟨rfl,λs hs=>by simp[pat3,tD]at hs;rcases hs with rfl|rfl|rfl<;>rfl⟩)
  (λd hd=>rfl)
  (λd hd _=>by obtain⟨t,_,rfl⟩:=mem_map.mp hd;exact⟨.v (.int t.2.2),rfl,rfl⟩)
  (by simp[cap];omega) (mi:=iL (ui 0)) (E:=[.v (.l (l.map tD))]) (E1:=[.v (.l (l.map tD))]) rfl rfl
 have e2:((l.map tD).filter (λ_=>true)).map ln3=(l.map λt=>((t.2.2:Nat):Int)).map D.int:=by
  rw[filter_eq_self.mpr (λ_ _=>rfl),map_map,map_map];rfl
 rw[e2]at hc;have e3:=zEf (l.map λt=>t.2.2);rw[map_map]at e3;have e4:(l.map λt=>((t.2.2:Nat):Int))=l.map ((λ(n:Nat)=>(n:Int)) ∘ λt=>t.2.2):=rfl;rw[e4]at hc;have e5:YQ ((l.map ((λ(n:Nat)=>(n:Int)) ∘ λt=>t.2.2)).map D.int)=some _:=zAS _;generalize hg:(l.map ((λ(n:Nat)=>(n:Int)) ∘ λt=>t.2.2))=g at hc e3 e5;simp[yN,jM,wI,fnM,y6,jI,zEL,wG,Y0,zEM,rE_maxd,zEO,rI_iL,sRet,sIf,ul,zAd,sSet,Yt,R.slot,Ga,eOr,zAW,jn,zw,ui,eC,zL,fiF,fiX,R.d,zJ,yy,Cp.b,Cp.f,Op2.f,Bi.f,Ty.s,jK,jJ,je,jf,jg,GZ,wm,JI,tT,JT,eCB,JJ,zAX,zAY,zAZ,ZU,vR,Tg.m,eqG,eqF,neG,neF,zCz,zAb,WT,Zy,hc,zCl,e5,e3]
def all3(l:List T3):l.map (λt=>t.2.2)=(l.map fg).map (·.2):=by rw[map_map];rfl
def few3(rs:List Int)(h:Row rs):(QF 0 (rle rs)).length<=20:=by
 rw[WN];have:=zEr rs;have:=h.1;omega
def zGu(ds:List D)(i:Int):ixD (.t ds) (.int i)=(atI ds i).map .v:=rfl
end My
namespace My
open PySem L2 DV SM
def sub_m{m:Nat}(hm:2<=m/\m<=3):WR (.int (m:Int)) (.int 1)=some (.v (.int ((m-1:Nat):Int))):=wA (b:=1) (by omega)
def mb(m:Nat):Nat->List Nat
 |0=>[0,m]|i+1=>zipWith (·+·) (mb m i++[0]) (0::(mb m i).map ((m-1)*·))
def can(s k left:Nat)(r:List Nat):Bool:=decide ((stt s r).1=k)||(decide ((stt s r).1<k)&&decide (k<=(stt s r).2+left))
def Lt(m s n k t:Nat):List (List Nat):=(wB m t).filter λr=>decide (t=0)||can s k (n-t) r
def Jx(m t:Nat):wB m (t+1)=(wB m t).flatMap (more m):=by first|rfl|simp[wB,more]
end My
namespace My
open PySem L2 DV SM RM
abbrev In(r:List Nat):List Int:=r.map λn:Nat=>(n:Int)
def QG(c:Nat):RM.top [c]=c:=by simp[RM.top]
def zGf{n i:Nat}{d:D}(h:(yn n)[i]?=some d):i<n/\d=.int ((n-(i+1):Nat):Int):=by
 simp only[yn,getElem?_map,Option.map_eq_some_iff]at h;obtain⟨j,h1,h2⟩:=h;obtain⟨h3,h4⟩:=qG.mp h1;simp at h3 h4;subst h4;refine⟨h3,?_⟩;rw[<- h2];congr 1;omega
end My
namespace My
open PySem L2 DV SM
section
variable{m:Nat}(hm:2<=m/\m<=3)
include hm
end
def QH(a:Nat):neG (.int (a:Int)) (.int (a:Int))=some (.v (.bl false)):=by rw[zCK,decide_eq_true rfl];rfl
def cross{a b u v c:Nat}(hb:0<b)(h:a*v=u*b):a/a.gcd b*v=u*(b/a.gcd b):=by
 have g0:0<a.gcd b:=Nat.gcd_pos_of_pos_right _ hb;have d1:=Nat.div_mul_cancel (Nat.gcd_dvd_left a b);have d2:=Nat.div_mul_cancel (Nat.gcd_dvd_right a b);apply Nat.eq_of_mul_eq_mul_right g0;generalize a/a.gcd b=x at *;generalize b/a.gcd b=y at *
 calc x*v*a.gcd b=(x*a.gcd b)*v:=by rw[mul_assoc,mul_comm v,<- mul_assoc]
  _=u*(y*a.gcd b):=by rw[d1,d2,h]
  _=u*y*a.gcd b:=(mul_assoc _ _ _).symm
def Wj(p:List D)(hp:Pen p)(m:Nat)(h0:0<m)(h1:m<2^100):∃(r:Nat) (p':List D),yL [.par p,.v (.int (m:Nat))]=.ok (.v (.int (r:Nat)),[.par p',.e])/\r<m/\Pen p':=by
 obtain⟨r,p',e,l,u,h⟩:=zBR p hp m (by omega) (by rw[Int.natAbs_natCast];exact GO (lt_trans h1 (by decide +kernel)));obtain⟨r,rfl⟩:=Int.eq_ofNat_of_zero_le l;exact⟨r,p',e,by omega,h⟩
end My
namespace My
open PySem L2 DV SM RM
structure Es where
 b:Nat
 e:Nat
 l:Option Nat
def ste(p:Es)(x:Nat):Es:=let e:=if p.l=some x then p.e+1 else 1;⟨max p.b e,e,some x⟩
def est(r:List Nat):Es:=r.foldl ste ⟨0,0,none⟩
abbrev bst(r:List Nat):Nat:=(est r).b
abbrev en(r:List Nat):Nat:=(est r).e
def Jm(r:List Nat)(x:Nat):est (r++[x])=ste (est r) x:=by simp[est,List.foldl_append]
def zEv(r:List Nat)(x:Nat):(est (r++[x])).l=some x:=by rw[Jm];rfl
theorem JC:∀(n:Nat) (r:List Nat),r.length=n->RM.top ((rle (In r)).map (·.2))=bst r/\((r=[]/\en r=0/\(est r).l=none)\/∃(q:List B) (x:Nat),rle (In r)=q++[((x:Int),en r)]/\(est r).l=some x/\1<=en r)
 |0,r,h=>by
  have:=length_eq_zero_iff.mp h;subst this;exact⟨rfl,.inl ⟨rfl,rfl,rfl⟩⟩
 |n+1,r,h=>by
  obtain⟨r',x,rfl⟩:∃r' x,r=r'++[x]:=by
   have hne:r≠[]:=by intro z;subst z;cases h
   exact⟨r.dropLast,r.getLast hne,(List.dropLast_concat_getLast hne).symm⟩
  have hl:r'.length=n:=by simpa using h
  obtain⟨ih1,ih2⟩:=JC n r' hl;have e0:In (r'++[x])=In r'++[(x:Int)]:=by simp[In]
  have eb:bst (r'++[x])=max (bst r') (en (r'++[x])):=by show(est _).b=max _ (est _).e;rw[Jm];rfl
  have ee:en (r'++[x])=if(est r').l=some x then en r'+1 else 1:=by show(est _).e=_;rw[Jm];rfl
  rw[e0,zCH,eb];rcases ih2 with⟨rfl,z1,z2⟩|⟨q,y,hq,hy,h1⟩
  ·have e1:JM (rle (In [])) (x:Int)=[]++[((x:Int),1)]:=rfl
   have e2:en ([]++[x])=1:=rfl;rw[e1,e2];exact⟨rfl,.inr ⟨[],x,rfl,zEv [] x,le_refl _⟩⟩
  ·rw[hq,zGY]
   rw[hq,map_append,map_cons,map_nil,Jw,QG]at ih1;by_cases hyx:y=x
   ·subst hyx
    rw[if_pos rfl];have e2:en (r'++[y])=en r'+1:=by rw[ee,if_pos hy]
    rw[e2];refine⟨?_,.inr ⟨q,y,rfl,zEv r' y,by omega⟩⟩;rw[map_append,map_cons,map_nil,Jw,QG];simp only at ih1 ⊢;omega
   ·have hne:¬(y:Int)=(x:Int):=by omega
    rw[if_neg hne];have e2:en (r'++[x])=1:=by rw[ee,if_neg (by rw[hy];simp[hyx])]
    rw[e2];refine⟨?_,.inr ⟨q++[((y:Int),en r')],x,by simp,zEv r' x,le_refl _⟩⟩;have:q++[((y:Int),en r'),((x:Int),1)]=(q++[((y:Int),en r')])++[((x:Int),1)]:=by simp
    rw[this,map_append,map_append,map_cons,map_nil,map_cons,map_nil,Jw,Jw,QG,QG];simp only at ih1 ⊢;omega
def zGg:∀r:List Nat,en r<=bst r:=by
 intro r;rcases(List.eq_nil_or_concat r)with rfl|⟨r',x,rfl⟩
 ·exact le_refl _
 ·rw[List.concat_eq_append]
  show(est _).e<=(est _).b
  rw[Jm];exact Nat.le_max_right _ _
def zEw(r:List Nat)(x:Nat):bst (r++[x])=max (bst r) (en (r++[x])):=by show(est _).b=max _ (est _).e;rw[Jm];rfl
def en_app(r:List Nat)(x:Nat):en (r++[x])=if(est r).l=some x then en r+1 else 1:=by show(est _).e=_;rw[Jm];rfl
def fr(k:Nat)(r:List Nat):Bool:=decide (bst r<k)
def cv(m k:Nat)(row:List Nat)(l j:Nat):Nat:=((wB m l).filter λt=>fr k (row++t)&&decide (en (row++t)=j)).length
def vec(m k:Nat)(row:List Nat)(l:Nat):List Nat:=(List.range (k-1)).map λj=>cv m k row l (j+1)
theorem WO(m:Nat)(p:List Nat->Bool):∀L:List (List Nat),((L.flatMap (more m)).filter p).length=(L.map λr=>((List.range m).filter λx=>p (r++[x])).length).sum
 | []=>rfl
 |r::L=>by
  rw[flatMap_cons,List.filter_append,length_append,WO m p L,map_cons,sum_cons];congr 1;simp only[more,filter_map,length_map];rfl
theorem zEx(p:List Nat->Bool)(c:Nat):∀L:List (List Nat),(L.map λr=>if p r=true then c else 0).sum=c*(L.filter p).length
 | []=>by simp
 |r::L=>by
  rw[map_cons,sum_cons,zEx p c L,filter_cons];cases p r<;>simp[Nat.mul_add];omega
theorem zCV{α:Type}(p:α->Bool):∀l:List α,(l.filter p).length+(l.filter λx=>!p x).length=l.length
 | []=>rfl
 |a::l=>by
  have:=zCV p l;rw[filter_cons,filter_cons];cases p a<;>simp<;>omega
def others(m y:Nat)(hy:y<m):((List.range m).filter λx=>decide (y≠x)).length=m-1/\((List.range m).filter λx=>decide (y=x)).length=1:=by
 have a:((List.range m).filter λx=>decide (y=x)).length=1:=by
  have:(List.range m).filter (λx=>decide (y=x))=[y]:=by
   refine List.Perm.eq_of_pairwise (le:=(·<·)) (λa b _ _ h1 h2=>absurd (lt_trans h1 h2) (lt_irrefl _)) (List.pairwise_lt_range.filter _) (List.pairwise_singleton _ _) ?_;rw[List.perm_ext_iff_of_nodup (List.nodup_range.filter _) (by simp)];intro z;simp only[mem_filter,mem_range,decide_eq_true_eq,mem_singleton];constructor
   ·rintro ⟨_,rfl⟩;rfl
   ·rintro rfl;exact⟨hy,rfl⟩
  rw[this];rfl
 refine⟨?_,a⟩;have:=zCV (λx=>decide (y=x)) (List.range m);rw[a,length_range]at this;have e:(List.range m).filter (λx=>!decide (y=x))=(List.range m).filter λx=>decide (y≠x):=by
  congr 1;funext x;simp
 rw[e]at this;omega
def zEy{m k:Nat}(hk:2<=k){row:List Nat}(hrow:∀x∈row,x<m){l:Nat}(hne:row≠[]\/1<=l)(j:Nat):cv m k row (l+1) (j+1)=if j=0 then(m-1)*((wB m l).filter λt=>fr k (row++t)).length else if j+1<k then cv m k row l j else 0:=by
 unfold cv;rw[Jx,WO];have key:∀t∈wB m l,((List.range m).filter λx=>fr k (row++(t++[x]))&&decide (en (row++(t++[x]))=j+1)).length=if j=0 then(if fr k (row++t)=true then m-1 else 0)else if j+1<k then(if(fr k (row++t)&&decide (en (row++t)=j))=true then 1 else 0)else 0:=by
  intro t ht;obtain⟨_,hl⟩:=JC _ (row++t) rfl;have hnn:row++t≠[]:=by
   rcases hne with h|h
   ·intro z;exact h (List.append_eq_nil_iff.mp z).1
   ·intro z
    have:=Jl m l t ht;rw[(List.append_eq_nil_iff.mp z).2]at this;simp at this;omega
  obtain⟨q,y,_,hy,h1⟩:=hl.resolve_left λz=>hnn z.1
  have hym:y<m:=by
   rcases(List.eq_nil_or_concat (row++t))with z|⟨u,z,e⟩
   ·exact absurd z hnn
   ·rw[List.concat_eq_append]at e
    have:=zEv u z;rw[<- e,hy]at this;cases this;have:y∈row++t:=by rw[e];simp
    rcases mem_append.mp this with h|h
    ·exact hrow y h
    ·exact zBT m l t ht y h
  obtain⟨o1,o2⟩:=others m y hym;have ex:∀x,(fr k (row++(t++[x]))&&decide (en (row++(t++[x]))=j+1))=(fr k (row++t)&&(if y=x then decide (en (row++t)=j)&&decide (j+1<k)else decide (j=0))):=by
   intro x;rw[<- append_assoc];have e1:=zEw (row++t) x;have e2:=en_app (row++t) x;rw[hy]at e2;have e3:=zGg (row++t);unfold fr;rw[e1,e2,Bool.eq_iff_iff];by_cases hyx:y=x
   ·subst hyx
    simp only[if_true,Bool.and_eq_true,decide_eq_true_eq];omega
   ·have:¬some y=some x:=by simpa using hyx
    rw[if_neg this,if_neg hyx];simp only[Bool.and_eq_true,decide_eq_true_eq];omega
  have ef:(List.range m).filter (λx=>fr k (row++(t++[x]))&&decide (en (row++(t++[x]))=j+1))=(List.range m).filter λx=>fr k (row++t)&&(if y=x then decide (en (row++t)=j)&&decide (j+1<k)else decide (j=0)):=by
   congr 1;funext x;exact ex x
  rw[ef];cases hf:fr k (row++t)with
  |false=>simp
  |true =>
   simp only[Bool.true_and];by_cases hj:j=0
   ·subst hj
    have hz:decide (en (row++t)=0)=false:=decide_eq_false (by omega);have:(List.range m).filter (λx=>if y=x then decide (en (row++t)=0)&&decide (0+1<k)else decide (0=0))=(List.range m).filter λx=>decide (y≠x):=by
     congr 1;funext x;by_cases h:y=x<;>simp[h,hz]
    rw[this,o1];simp
   ·rw[if_neg hj]
    have:(List.range m).filter (λx=>if y=x then decide (en (row++t)=j)&&decide (j+1<k)else decide (j=0))=(List.range m).filter λx=>(decide (en (row++t)=j)&&decide (j+1<k))&&decide (y=x):=by
     congr 1;funext x;by_cases h:y=x<;>simp[h,hj]
    rw[this];by_cases hjk:j+1<k
    ·rw[if_pos hjk,decide_eq_true hjk]
     by_cases he:en (row++t)=j
     ·simp only[decide_eq_true he,Bool.and_self,Bool.true_and,if_true];exact o2
     ·simp only[decide_eq_false he,Bool.false_and,Bool.and_false,Bool.false_eq_true,if_false];simp
    ·rw[if_neg hjk,decide_eq_false hjk];simp
 rw[map_congr_left key];by_cases hj:j=0
 ·subst hj
  simp only[if_true];exact zEx _ _ _
 ·simp only[if_neg hj]
  by_cases hjk:j+1<k
  ·simp only[if_pos hjk]
   rw[zEx];omega
  ·simp only[if_neg hjk]
   have:∀L:List (List Nat),(L.map λ_=>0).sum=0:=λL=>by induction L<;>simp_all
   exact this _
def wy(m k:Nat)(row:List Nat)(l:Nat):Nat:=((wB m l).filter λt=>fr k (row++t)).length
def zGh(r:List Nat):∀t:List Nat,bst r<=bst (r++t):=by
 intro t
 induction t generalizing r with
 |nil=>simp
 |cons x t ih =>
  have:=ih (r++[x]);rw[append_assoc]at this;have h:=zEw r x;simp only[List.singleton_append]at this;omega
def wy_no{m k:Nat}{row:List Nat}(h:k<=bst row)(l:Nat):wy m k row l=0:=by
 unfold wy;rw[length_eq_zero_iff,List.filter_eq_nil_iff];intro t _;have:=zGh row t;simp only[fr,decide_eq_true_eq];omega
theorem zHg{α:Type}(p:α->Bool)(f:α->Nat)(s:Nat):∀L:List α,(∀x∈L,p x=true->1<=f x/\f x<=s)->((List.range s).map λj=>(L.filter λx=>p x&&decide (f x=j+1)).length).sum=(L.filter p).length
 | [],_=>by
  have:∀n,((List.range n).map λ_=>0).sum=0:=λn=>by induction n<;>simp_all [range_succ]
  simpa using this s
 |a::L,h=>by
  have ih:=zHg p f s L λx hx=>h x (qD _ hx)
  have one:∀s,((List.range s).map λj=>if p a&&decide (f a=j+1)then 1 else 0).sum=if p a=true/\1<=f a/\f a<=s then 1 else 0:=by
   intro s
   induction s with
   |zero=>simp;omega
   |succ s ihs =>
    rw[range_succ,map_append,sum_append,ihs];cases hp:p a
    ·simp
    ·simp only[map_cons,map_nil,sum_cons,List.sum_nil,Bool.true_and,decide_eq_true_eq,true_and]
     by_cases e:f a=s+1
     ·rw[if_neg (by omega),if_pos e,if_pos (by omega)];rfl
     ·rw[if_neg e]
      by_cases e2:1<=f a/\f a<=s
      ·rw[if_pos e2,if_pos (by omega)];rfl
      ·rw[if_neg e2,if_neg (by omega)];rfl
  have add:∀s,((List.range s).map λj=>((a::L).filter λx=>p x&&decide (f x=j+1)).length).sum=((List.range s).map λj=>if p a&&decide (f a=j+1)then 1 else 0).sum+((List.range s).map λj=>(L.filter λx=>p x&&decide (f x=j+1)).length).sum:=by
   intro s
   induction s with
   |zero=>rfl
   |succ s ihs =>
    rw[range_succ,map_append,map_append,map_append,sum_append,sum_append,sum_append,ihs];simp only[map_cons,map_nil,sum_cons,List.sum_nil];rw[filter_cons];cases p a&&decide (f a=s+1)<;>simp<;>omega
  rw[add s,one s,ih,filter_cons];cases hp:p a
  ·simp
  ·have:=h a qE hp
   rw[if_pos ⟨rfl,this⟩];simp;omega
def zBW{m k:Nat}(hk:2<=k){row:List Nat}{l:Nat}(hne:row≠[]\/1<=l):(vec m k row l).sum=wy m k row l:=by
 unfold vec wy cv;refine zHg (λt=>fr k (row++t)) (λt=>en (row++t)) (k-1) (wB m l) λt ht hf=>?_
 have h1:=zGg (row++t);simp only[fr,decide_eq_true_eq]at hf;obtain⟨_,hl⟩:=JC _ (row++t) rfl;have hnn:row++t≠[]:=by
  rcases hne with h|h
  ·intro z;exact h (List.append_eq_nil_iff.mp z).1
  ·intro z
   have:=Jl m l t ht;rw[(List.append_eq_nil_iff.mp z).2]at this;simp at this;omega
 obtain⟨q,y,_,_,h2⟩:=hl.resolve_left λz=>hnn z.1
 exact⟨h2,by omega⟩
def stv(m:Nat)(v:List Nat):List Nat:=((m-1)*v.sum)::v.dropLast
def zCW{m k:Nat}(hk:2<=k){row:List Nat}(hrow:∀x∈row,x<m){l:Nat}(hne:row≠[]\/1<=l):vec m k row (l+1)=stv m (vec m k row l):=by
 obtain⟨s,rfl⟩:∃s,k=s+2:=⟨k-2,by omega⟩;unfold stv;rw[zBW hk hne];unfold vec;rw[show s+2-1=s+1 by omega];have e1:((List.range (s+1)).map λj=>cv m (s+2) row l (j+1)).dropLast=(List.range s).map λj=>cv m (s+2) row l (j+1):=by
  rw[range_succ,map_append];simp
 rw[e1,List.range_succ_eq_map,map_cons,map_map];congr 1
 ·rw[zEy hk hrow hne 0,if_pos rfl];rfl
 ·refine map_congr_left λj hj=>?_
  have hj':j<s:=by simpa using hj
  show cv m (s+2) row (l+1) (j+1+1)=_
  rw[zEy hk hrow hne (j+1),if_neg (by omega),if_pos (by omega)]
def itv(m:Nat)(v:List Nat):Nat->List Nat
 |0=>v|l+1=>stv m (itv m v l)
theorem zHh{m k:Nat}(hk:2<=k){row:List Nat}(hrow:∀x∈row,x<m)(hne:row≠[]):∀l,vec m k row l=itv m (vec m k row 0) l
 |0=>rfl|l+1=>by rw[zCW hk hrow (.inl hne),zHh hk hrow hne l];rfl
def vec0{m k:Nat}{row:List Nat}(hf:fr k row=true)(he:1<=en row):vec m k row 0=(replicate (k-1) 0).set (en row-1) 1:=by
 unfold vec;apply List.ext_getElem
 ·simp
 ·intro i h1 h2
  simp only[length_map,length_range]at h1;rw[List.getElem_map,List.getElem_range,List.getElem_set,List.getElem_replicate];have e:cv m k row 0 (i+1)=if en row=i+1 then 1 else 0:=by
   unfold cv;have:(fr k (row++[])&&decide (en (row++[])=i+1))=decide (en row=i+1):=by rw[append_nil,hf,Bool.true_and]
   show(([[]]:List (List Nat)).filter _).length=_
   rw[filter_cons,this];by_cases h:en row=i+1<;>simp[h]
  rw[e];by_cases h:en row=i+1
  ·rw[if_pos h,if_pos (by omega)]
  ·rw[if_neg h,if_neg (by omega)]
theorem vecE{m k:Nat}(hm:1<=m)(hk:2<=k):∀i,vec m k [] (i+1)=(zCF 1 (m-1) (k-2) i).map (m*·)
 |0=>by
  unfold vec;obtain⟨s,rfl⟩:∃s,k=s+2:=⟨k-2,by omega⟩;have e:∀j,cv m (s+2) [] 1 (j+1)=if j=0 then m else 0:=by
   intro j;unfold cv;have r1:wB m 1=(List.range m).map λx=>[x]:=by simp[wB]
   rw[r1,filter_map,length_map];by_cases hj:j=0
   ·subst hj
    rw[if_pos rfl,filter_eq_self.mpr,length_range];intro x _;show(decide (1<s+2)&&decide (1=0+1))=true;simp
   ·rw[if_neg hj,length_eq_zero_iff,List.filter_eq_nil_iff]
    intro x _;show ¬(decide (1<s+2)&&decide (1=j+1))=true;simp;omega
  have:(List.range (s+2-1)).map (λj=>cv m (s+2) [] 1 (j+1))=(List.range (s+1)).map λj=>if j=0 then m else 0:=map_congr_left λj _=>e j
  rw[this,List.range_succ_eq_map,map_cons,map_map];show m::_=m*1::_;rw[Nat.mul_one];congr 1;simp[Function.comp_def,List.map_const',List.map_replicate]
 |i+1=>by
  rw[zCW hk (λx h=>by cases h) (.inr (by omega)),vecE hm hk i];unfold stv;have e1:zCF 1 (m-1) (k-2) (i+1)=((m-1)*(zCF 1 (m-1) (k-2) i).sum)::((zCF 1 (m-1) (k-2) i).dropLast.map (1*·)):=rfl;rw[e1,zBO,map_cons,map_map];congr 1
  ·rw[Nat.mul_left_comm]
  ·rw[<- List.map_dropLast]
   refine map_congr_left λx _=>?_
   show m*x=m*(1*x)
   rw[Nat.one_mul]
def wy_A{m k:Nat}(hm:1<=m)(hk:1<=k)(l:Nat):wy m k [] l=A (replicate m 1) l (k-1):=by
 rw[zHf m l (k-1) hm];by_cases hl:l=0
 ·subst hl
  rw[if_pos rfl];unfold wy;show(([[]]:List (List Nat)).filter _).length=1;have:fr k ([]++[])=true:=decide_eq_true (by show 0<k;omega);rw[filter_cons,this];rfl
 ·rw[if_neg hl]
  by_cases hk1:k-1=0
  ·rw[if_pos hk1]
   unfold wy;rw[length_eq_zero_iff,List.filter_eq_nil_iff];intro t ht;have hn:=Jl m l t ht;obtain⟨_,hl'⟩:=JC _ t rfl;obtain⟨q,y,_,_,h2⟩:=hl'.resolve_left λz=>by rw[z.1]at hn;simp at hn;omega
   have:=zGg t;simp only[fr,nil_append,decide_eq_true_eq];omega
  ·rw[if_neg hk1,<- zBW (by omega) (.inr (by omega))]
   obtain⟨i,rfl⟩:∃i,l=i+1:=⟨l-1,by omega⟩;rw[vecE hm (by omega) i,zBO,show k-1-1=k-2 by omega];rfl
abbrev tN(l:List Nat):D:=.t (N l)
def rowIn(r:List Nat):YI (In r)=tN r:=by simp[YI,In,N]
def zHi{m:Nat}(hm:m<=3){r:List Nat}(hl:r.length<=20)(hr:∀x∈r,x<m):Row (In r):=⟨by simpa[In]using hl,λx hx=>by
 obtain⟨n,hn,rfl⟩:=mem_map.mp hx;have:=hr n hn;omega⟩
def zHj{m:Nat}(hm:m<=3){r:List Nat}(hl:r.length<=20)(hr:∀x∈r,x<m):jX [.v (tN r)]=.ok (.own (jQ 0 (rle (In r))),[.e]):=by
 have:=zEu (zHi hm hl hr);rw[rowIn]at this;exact this
def v7{m:Nat}(hm:m<=3){r:List Nat}(hl:r.length<=20)(hr:∀x∈r,x<m):yI [.v (tN r)]=.ok (.v (.int ((bst r:Nat):Int)),O1):=by
 have e:=zHj hm hl hr;rw[zCT]at e;have g:=Zd (QF 0 (rle (In r))) (by have:=few3 (In r) (zHi hm hl hr);omega);rw[all3,zCU,(JC _ r rfl).1]at g;exact yl (zr (yu (yT (F:=yN) rfl (yT (F:=jX) rfl (zA rfl) e) g))) rfl
def e_last{m:Nat}(hm:m<=3){r:List Nat}(hne:r≠[]):∃pre x b,jQ 0 (rle (In r))=pre++[.t [x,b,.int ((en r:Nat):Int)]]:=by
 obtain⟨q,x,e,_,_⟩:=(JC _ r rfl).2.resolve_left λz=>hne z.1
 rw[e,v6];exact⟨_,_,_,rfl⟩
def stv_len(m:Nat)(v:List Nat)(h:0<v.length):(stv m v).length=v.length:=by simp[stv];omega
theorem zBX(m:Nat)(v:List Nat)(h:0<v.length):∀l,(itv m v l).length=v.length
 |0=>rfl
 |l+1=>by
  show(stv m (itv m v l)).length=_
  rw[stv_len m _ (by rw[zBX m v h l];exact h),zBX m v h l]
def zCX(a b:Nat):geD (.int (a:Int)) (.int (b:Int))=some (.v (.bl (decide (b<=a)))):=by
 show some (R.v (D.bl (decide ((b:Int)<=(a:Int)))))=_
 congr 3
 exact decide_eq_decide.mpr (by omega)
def N_setAt(l:List Nat)(j x:Nat):(N l).set j (.int (x:Nat))=N (l.set j x):=by simp[N,List.map_set]
def s_setAt{fs:List FI}{E E1 E2:zS}{i:Nat}{b v:_}{k:Nat}{ds:List D}{r:R}(hE:E[i]?=some (.own ds))(h1:dE fs b E1=.ok (.v (.int (k:Nat)),E1))(hk:k<ds.length)(h2:dE fs v E=.ok (r,E1))(hE1:E1[i]?=some (.own ds))(h3:E1.set i (.own (ds.set k r.d))=E2):dS fs (.sIx i b v) E=.ok (.nx,E2):=by
 subst h3;have ix:ixN ds.length (k:Int)=some k:=by
  have:(k:Int)<(ds.length:Nat):=by omega
  unfold ixN;rw[if_pos (by omega)];simp[this]
 simp only[zEP,DV.Zz,hE,JK,Bool.false_eq_true,if_false,h2,h1,hE1,Slot.list?,ix,Slot.put]
def v8(l:List Nat):∀d∈N l,eqb 19 d=true:=λd hd=>by
 obtain⟨n,_,rfl⟩:=QC hd;rfl
def eq_tups{a b:List D}(h1:∀d∈a,eqb 19 d=true)(h2:∀d∈b,eqb 19 d=true):eqG (.t a) (.t b)=some (.v (.bl (deqs a b))):=by
 have e1:eqb 20 (.t a)=true:=all_eq_true.mpr h1;have e2:eqb 20 (.t b)=true:=all_eq_true.mpr h2;simp only[eqG,eqF,eqDD,e1,e2,deq,Bool.and_self,if_true,and_self,Bool.false_eq_true,if_false]
def IWy_ok{m k l:Nat}(hm:2<=m/\m<=3){v:List Nat}(hv:1<=v.length/\v.length<=20)(a1 a2 a3:DV.Slot):∃s4 s5,DV.vA (gN 5) (dB Ju YV) (DV.zH 0 l) [.v (.int (m:Nat)),a1,a2,a3,.own (N v),.e]=.ok (.nx,[.v (.int (m:Nat)),a1,a2,a3,s4,s5])/\(s4=.own (N (itv m v l))\/s4=.v (.l (N (itv m v l)))):=by
 obtain⟨E1,f,s4,s5,rfl,h4,_⟩:=jT (tg:=gN 5) (body:=dB Ju YV) (λi E=>∃s4 s5,E=[.v (.int (m:Nat)),a1,a2,a3,s4,s5]/\(s4=.own (N (itv m v i))\/s4=.v (.l (N (itv m v i))))/\JZ s5=true) (DV.zH 0 l) 0 [.v (.int (m:Nat)),a1,a2,a3,.own (N v),.e] ⟨_,_,rfl,.inl rfl,rfl⟩ (λi d q E ⟨s4,s5,hE,h4,h5⟩=>by
  rw[zero_add]at h4 ⊢;have hl:=zBX m v (by omega) i;have ms:=v5 (m-1) (itv m v i).sum (by omega);have cn:=cut_N (itv m v i) (by omega);have ad:=QB [D.int (((m-1)*(itv m v i).sum:Nat):Int)] (N (itv m v i).dropLast) (by rw[wQ];simp;omega);refine⟨[.v (.int (m:Nat)),a1,a2,a3,s4,.v d],[.v (.int (m:Nat)),a1,a2,a3,.own (N (itv m v (i+1))),.v d],?_,?_,_,_,rfl,.inl rfl,rfl⟩
  ·subst hE;cases s5<;>first|rfl|(cases h5)
  ·exact zr (jw (zz (QA (zI (zz (zz (zA rfl) x_c (sub_m hm)) (WJ (zI (x_vA h4 rfl rfl) zW) (zAT _)) ms) zW) rfl yx) (x_sl (zA rfl) o_N (o_S (x_neg x_c)) cn) ad) rfl))
 rw[wu,zero_add]at h4;exact⟨s4,s5,f,h4⟩
def GP{m k l:Nat}(hm:2<=m/\m<=3)(hk:1<=k/\k<=20)(hl:l<=20){r:List Nat}(hrl:r.length<=20)(hr:∀x∈r,x<m):yO [.v (.int (m:Nat)),.v (.int (k:Nat)),.v (tN r),.v (.int (l:Nat))]=.ok (.v (.int ((wy m k r l:Nat):Int)),O4):=by
 have el:=v7 hm.2 hrl hr;have t1:∀b,decide (k<=bst r)=b->dT Ju (.tE (.cmp .ge (.call 2 (.ev (.var 2) .nil)) (.var 1))) [.v (.int (m:Nat)),.v (.int (k:Nat)),.v (tN r),.v (.int (l:Nat)),.e,.e]=.ok (b,[.v (.int (m:Nat)),.v (.int (k:Nat)),.v (tN r),.v (.int (l:Nat)),.e,.e]):=λb hb=>by
  subst hb;exact t_E (yB (yT (F:=yI) rfl (zA rfl) el) (zA rfl) (zCX _ _))
 by_cases hb:k<=bst r
 ·rw[wy_no hb]
  exact yl (zAP (v3 (t1 true (decide_eq_true hb)) (zr (yu x_c)))) rfl
 ·have t1:=t1 false (decide_eq_false hb)
  have eq:=eq_tups (a:=N r) (b:=[]) (v8 r) (λd h=>by cases h);have sk:WR (.int (k:Int)) (.int 1)=some (.v (.int ((k-1:Nat):Int))):=wA (b:=1) (by omega);cases r with
  |nil =>
   have ea:=ZJ (ws:=replicate m 1) (n:=l) (k:=k-1) (.inl rfl) (λw hw=>by rw[(List.mem_replicate.mp hw).2];omega) (by simp;omega) (by omega) (by omega);rw[<- wy_A (by omega) hk.1 l]at ea;have ml:=Wf (.int 1) m (by omega);rw[show replicate m (D.int 1)=N (replicate m 1)by simp[N]]at ml;exact yl (zT (yt t1 yw) (zAP (v3 (t_E (yB (zA rfl) (ZH zW rfl Za) eq)) (zr (yu (zi (F:=zx) rfl (zz (QA (zI x_c zW) rfl yx) (zA rfl) ml) (zA rfl) (zz (zA rfl) x_c sk) ea)))))) rfl
  |cons x r' =>
   have hne:(x::r')≠[]:=by simp
   obtain⟨q,y,_,_,h1⟩:=(JC _ (x::r') rfl).2.resolve_left λz=>hne z.1
   have hle:=zGg (x::r');obtain⟨pre,a,b,ep⟩:=e_last hm.2 hne;have er:=zHj hm.2 hrl hr;rw[ep]at er;have hf:fr k (x::r')=true:=decide_eq_true (by omega);have v0:=vec0 (m:=m) hf h1;have vs:=zBW (m:=m) (k:=k) (row:=x::r') (l:=l) (by omega) (.inl hne);rw[zHh (by omega) hr hne l,v0]at vs;have ml:=Wf (.int 0) (k-1) (by omega);rw[show replicate (k-1) (D.int 0)=N (replicate (k-1) 0)by simp[N]]at ml;obtain⟨s4,s5,f,h4⟩:=IWy_ok (k:=k) (l:=l) hm (v:=(replicate (k-1) 0).set (en (x::r')-1) 1) (by simp;omega) (.v (.int (k:Nat))) (.v (tN (x::r'))) (.v (.int (l:Nat)));have ix1:ixD (.l (pre++[.t [a,b,.int ((en (x::r'):Nat):Int)]])) (.int (-1))=some (.v (.t [a,b,.int ((en (x::r'):Nat):Int)])):=congrArg (Option.map R.v) (atI_end _ _);have ix2:ixD (.t [a,b,.int ((en (x::r'):Nat):Int)]) (.int 2)=some (.v (.int ((en (x::r'):Nat):Int))):=rfl;have se:WR (.int ((en (x::r'):Nat):Int)) (.int 1)=some (.v (.int ((en (x::r')-1:Nat):Int))):=wA (b:=1) h1;refine yl (E1:=[.v (.int (m:Nat)),.v (.int (k:Nat)),.v (tN (x::r')),.v (.int (l:Nat)),.v (.l (N (itv m ((replicate (k-1) 0).set (en (x::r')-1) 1) l))),s5]) ?_ rfl;refine zT (yt t1 yw) (zT (yt (t_E (yB (zA rfl) (ZH zW rfl Za) eq)) yw) ?_);refine zT (E1:=[.v (.int (m:Nat)),.v (.int (k:Nat)),.v (tN (x::r')),.v (.int (l:Nat)),.own (N (replicate (k-1) 0)),.e]) (jw (zz (QA (zI x_c zW) rfl yx) (zz (zA rfl) x_c sk) ml) rfl) ?_;refine zT (E1:=[.v (.int (m:Nat)),.v (.int (k:Nat)),.v (tN (x::r')),.v (.int (l:Nat)),.own (N ((replicate (k-1) 0).set (en (x::r')-1) 1)),.e]) (s_setAt rfl (zz (zHY (zHY (yT (F:=jX) rfl (zA rfl) er) (x_neg x_c) ix1) x_c ix2) x_c se) (by rw[wQ,length_replicate];omega) x_c rfl ?_) ?_
   ·rw[<- N_setAt];rfl
   refine zT (ZZ (tg:=.n 5) (j:=(l:Int)) (zI (zA rfl) zW) rfl ⟨by omega,by omega⟩ (by rw[Int.toNat_natCast];exact f)) ?_;rw[<- vs];exact zr (yu (WJ (zI (x_vA h4 rfl rfl) zW) (zAT _)))
def ival:D->Int
 | .int i=>i|_=>0
def rgB(m:Nat):D->Bool
 | .t ds=>zCR (.t ds)&&ds.all λd=>decide (ival d<m)|_=>false
def zGi{lo hi:Int}{d:D}(h:Wg lo hi d=true):∃i:Int,d=.int i/\lo<=i/\i<=hi:=by
 cases d with
 |int i=>simp only[Wg,Bool.and_eq_true,decide_eq_true_eq]at h;exact⟨i,rfl,h.1,h.2⟩|_=>cases h
structure Od(m n k:Nat):Prop where
 m:2<=m/\m<=3
 n:n<=20
 k:1<=k/\k<=20
def zBY{n lo hi:Nat}(h1:lo<=n)(h:n<=hi):Wg (lo:Int) (hi:Int) (.int n)=true:=in_nat h1 h
def zEz{k:Nat}(h:1<=k/\k<=20):zy [.v (.int (k:Nat))]=.ok (.v .non,O1) :=
 f_nx (zr (jZ (zi (F:=zN) rfl (zA rfl) x_c zAO (yU _ 1 20 rfl (zBY h.1 h.2))))) rfl
def zAU{m n k:Nat}(h:Od m n k):yW [.v (.int (m:Nat)),.v (.int (n:Nat)),.v (.int (k:Nat))]=.ok (.v .non,O3) :=
 f_nx (zT (jZ (yT (F:=yb) rfl (zA rfl) (WL _ rfl (zBY h.m.1 h.m.2)))) (zT (jZ (zi (F:=zN) rfl (zA rfl) x_c zAO (yU _ 0 20 rfl (zBY (zero_le _) h.n)))) (zr (jZ (yT (F:=zy) rfl (zA rfl) (zEz h.k)))))) rfl
def N_fn{l:List Nat}:∀d∈N l,isFn d=false:=λd hd=>by
 obtain⟨n,_,rfl⟩:=QC hd;rfl
def zGj{l:List Nat}(h:l.length<=1000):okD (tN l):=⟨by rw[wQ];simp only[cap];omega,N_fn⟩
def rg_N{m:Nat}(hm:m<=3){r:List Nat}(hl:r.length<=20)(hr:∀x∈r,x<m):rgB m (tN r)=true:=by
 show((decide ((N r).length<=20)&&(N r).all (Wg 0 2))&&(N r).all λd=>decide (ival d<m))=true
 rw[wQ,decide_eq_true hl];have e1:(N r).all (Wg 0 2)=true:=by
  rw[all_eq_true];intro x hx;obtain⟨n,hn,rfl⟩:=QC hx;have:=hr n hn;simp[Wg];omega
 have e2:(N r).all (λd=>decide (ival d<m))=true:=by
  rw[all_eq_true];intro x hx;obtain⟨n,hn,rfl⟩:=QC hx;have:=hr n hn;simp[ival];omega
 rw[e1,e2];rfl
def YZ(a b:Nat):gtD (.int (a:Int)) (.int (b:Int))=some (.v (.bl (decide (b<a)))):=by
 show some (R.v (D.bl (decide ((b:Int)<(a:Int)))))=_
 congr 3
 exact decide_eq_decide.mpr (by omega)
def e_rgo(d:D)(h:okD d)(m:Nat):yf [.v d,.v (.int (m:Nat))]=.ok (.v (.bl (rgB m d)),O2):=by
 have c1:dE J9 (.call 0 (.ev (.var 0) .nil)) [.v d,.v (.int (m:Nat))]=.ok (.v (.bl (zCR d)),[.v d,.v (.int (m:Nat))]):=yT (F:=jL) rfl (zA rfl) (Zc d h);cases d with
 |t ds =>
  cases hb:zCR (.t ds)with
  |false =>
   rw[hb]at c1;have:rgB m (.t ds)=false:=by show(zCR (.t ds)&&_)=false;rw[hb];rfl
   rw[this];exact yl (zr (yu (zHZ c1))) rfl
  |true =>
   rw[hb]at c1;have:rgB m (.t ds)=ds.all λd=>decide (ival d<m):=by show(zCR (.t ds)&&_)=_;rw[hb];rfl
   rw[this];have hin:∀x∈ds,∃i:Int,x=.int i:=λx hx=>by
    have:ds.all (Wg 0 2)=true:=by
     simp only[zCR,Bool.and_eq_true]at hb;exact hb.2
    obtain⟨i,e,_⟩:=zGi (all_eq_true.mp this x hx);exact⟨i,e⟩
   exact yl (zr (yu (x_and1 c1 (WJ (zI (Jj (vs:=[.int (m:Nat)]) (λd=>.bl (decide (ival d<m))) (i_T (zA rfl) rfl) rfl (λd hd=>by
    obtain⟨i,rfl⟩:=hin d hd;exact⟨_,yB (zA rfl) (zA rfl) (show ltD (.int i) (.int (m:Int))=some (.v (.bl (decide (i<(m:Int)))))from rfl),rfl⟩) h.1 rfl) zW) (zCJ rfl))))) rfl
 |fn x=>cases h|exn x=>cases h|_=>exact yl (zr (yu (zHZ c1))) rfl
def zE0{m n k:Nat}(h:Od m n k){r:List Nat}(hl:r.length<=n)(hr:∀x∈r,x<m):yz [.v (.int (m:Nat)),.v (.int (n:Nat)),.v (.int (k:Nat)),.v (tN r)]=.ok (.v .non,O4):=by
 have hn:=h.n;have e:=e_rgo (tN r) (zGj (by omega)) m;rw[rg_N h.m.2 (by omega) hr]at e;exact f_nx (zT (jZ (zi (F:=yW) rfl (zA rfl) (zA rfl) (zA rfl) (zAU h))) (zr (yt (zC3 (WY (t_E (Ji (F:=yf) rfl (zA rfl) (zA rfl) e)) rfl) (t_E (yB (WJ (zI (zA rfl) zW) rfl) (zA rfl) ((YZ (N r).length n).trans (by rw[wQ,decide_eq_false (by omega)]))))) yw))) rfl
def zCY{m n k:Nat}(h:Od m n k){r:List Nat}(hl:r.length<=n)(hr:∀x∈r,x<m):yJ [.v (.int (m:Nat)),.v (.int (n:Nat)),.v (.int (k:Nat)),.v (tN r)]=.ok (.v (.int ((wy m k r (n-r.length):Nat):Int)),O4):=by
 have hn:=h.n;exact yl (zT (jZ (yi (F:=yz) rfl (zA rfl) (zA rfl) (zA rfl) (zA rfl) (zE0 h hl hr))) (zr (yu (yi (F:=yO) rfl (zA rfl) (zA rfl) (zA rfl) (zz (zA rfl) (WJ (zI (zA rfl) zW) rfl) (show WR (.int (n:Int)) (.int ((N r).length:Nat))=some (.v (.int ((n-r.length:Nat):Int)))by rw[wQ];exact wA hl)) (GP h.m h.k (by omega) (by omega) hr))))) rfl
def sgn(m k:Nat)(r:List Nat)(l:Nat):List Nat:=(List.range m).filter λx=>decide (0<wy m k (r++[x]) l)
def nxl(m n k:Nat)(r:List Nat):List Nat:=if r.length<n then sgn m k r (n-r.length-1)else []
def zFB:D->Nat
 | .int i=>i.toNat|_=>0
theorem zE1(p:Nat->Bool):∀l:List Nat,(N l).filter (λd=>p (zFB d))=N (l.filter p)
 | []=>rfl
 |a::l=>by
  have i:=zE1 p l;show(D.int (a:Int)::N l).filter _=_;rw[filter_cons,filter_cons,i];show(if p ((a:Int).toNat)=true then _ else _)=_;rw[Int.toNat_natCast];cases p a<;>rfl
def GQ(r:List Nat)(x:Nat)(h:r.length<=1000):zAa (tN r) (.t [.int (x:Nat)])=some (.v (tN (r++[x]))):=by
 rw[add_tup (N r) [.int (x:Nat)] (by rw[wQ];simp;omega)];show some (R.v (D.t (N r++N [x])))=_;rw[<- N_app]
def e_next{m n k:Nat}(h:Od m n k){r:List Nat}(hl:r.length<=n)(hr:∀x∈r,x<m):wL [.v (.int (m:Nat)),.v (.int (n:Nat)),.v (.int (k:Nat)),.v (tN r)]=.ok (.own (N (nxl m n k r)),O4):=by
 have hn:=h.n;have hm:=h.m;have s1:WR (.int (n:Int)) (.int ((N r).length:Nat))=some (.v (.int ((n-r.length:Nat):Int))):=by rw[wQ];exact wA hl
 have bg:=jZ (yi (fs:=jB) (E:=[.v (.int (m:Nat)),.v (.int (n:Nat)),.v (.int (k:Nat)),.v (tN r),.e]) (k:=1) (F:=yz) rfl (zA (i:=0) rfl) (zA (i:=1) rfl) (zA (i:=2) rfl) (zA (i:=3) rfl) (zE0 h hl hr));have st:∀z:Int,WR (.int ((n-r.length:Nat):Int)) (.int 1)=some (.v (.int z))->dS jB (.sSet 4 (.bin .sub (.bin .sub (.var 1) (.cB .len (.cons (.var 3) .nil))) (.c (.int 1)))) [.v (.int (m:Nat)),.v (.int (n:Nat)),.v (.int (k:Nat)),.v (tN r),.e]=.ok (.nx,[.v (.int (m:Nat)),.v (.int (n:Nat)),.v (.int (k:Nat)),.v (tN r),.v (.int z)]):=λz hz=>jw (zz (zz (zA rfl) (WJ (zI (zA rfl) zW) rfl) s1) x_c hz) rfl
 by_cases hlt:r.length<n
 ·have hz:WR (.int ((n-r.length:Nat):Int)) (.int 1)=some (.v (.int ((n-r.length-1:Nat):Int))):=wA (b:=1) (by omega)
  have lt:ltD (.int ((n-r.length-1:Nat):Int)) (.int 0)=some (.v (.bl false)):=by
   show some (R.v (D.bl (decide (((n-r.length-1:Nat):Int)<0))))=_
   rw[decide_eq_false (by omega)]
  unfold nxl;rw[if_pos hlt];have hi:dI jB (.iR1 (.cons (.var 0) .nil)) [.v (.int (m:Nat)),.v (.int (n:Nat)),.v (.int (k:Nat)),.v (tN r),.v (.int ((n-r.length-1:Nat):Int))]=.ok (N (List.range m),[.v (.int (m:Nat)),.v (.int (n:Nat)),.v (.int (k:Nat)),.v (tN r),.v (.int ((n-r.length-1:Nat):Int))]):=by
   have:=i_R1 (fs:=jB) (E:=[.v (.int (m:Nat)),.v (.int (n:Nat)),.v (.int (k:Nat)),.v (tN r),.v (.int ((n-r.length-1:Nat):Int))]) (a:=.cons (.var 0) .nil) (j:=(m:Int)) (zI (zA rfl) zW) rfl ⟨by omega,by omega⟩;rw[Int.toNat_natCast,zHa]at this;exact this
  refine yl (zT bg (zT (st _ hz) (zT (yt (t_E (yB (zA rfl) x_c lt)) yw) (zr (yu (zCE (vs:=[.int (m:Nat),.int (k:Nat),tN r,.int ((n-r.length-1:Nat):Int)]) (λd=>[.v d]) (λd=>decide (0<wy m k (r++[zFB d]) (n-r.length-1))) (λd=>d) hi rfl (λd hd S hS hn=>zEW hS hn) (λd hd=>⟨rfl,λs hs=>by rw[mem_singleton]at hs;subst hs;rfl⟩) (λd hd=>?_) (λd hd _=>⟨_,zA rfl,rfl⟩) ?_ ?_)))))) rfl
  ·obtain⟨x,hx,rfl⟩:=QC hd
   have hx':x<m:=by simpa using hx
   have ew:=GP h.m h.k (l:=n-r.length-1) (by omega) (r:=r++[x]) (by simp;omega) (λy hy=>by
    rcases mem_append.mp hy with hy|hy
    ·exact hr y hy
    ·rw[mem_singleton]at hy;omega)
   show dT _ _ _=.ok (decide (0<wy m k (r++[((x:Int)).toNat]) (n-r.length-1)),_)
   rw[Int.toNat_natCast];exact t_E (yB (yi (F:=yO) rfl (zA rfl) (zA rfl) (zz (zA rfl) (ZH (zI (zA rfl) zW) rfl yx) (GQ r x (by omega))) (zA rfl) ew) x_c (YZ _ 0))
  ·rw[wQ,length_range];simp only[cap];omega
  ·rw[zE1 (λx=>decide (0<wy m k (r++[x]) (n-r.length-1)))];simp[sgn]
 ·have hz:WR (.int ((n-r.length:Nat):Int)) (.int 1)=some (.v (.int (-1))):=by
   show some (R.v (D.int (((n-r.length:Nat):Int)-1)))=_
   rw[show((n-r.length:Nat):Int)-1=-1 by omega]
  unfold nxl;rw[if_neg hlt];exact yl (zT bg (zT (st _ hz) (zAP (v3 (t_E (yB (zA rfl) x_c rfl)) (zr (yu (QA zW rfl Za))))))) rfl
theorem zE2:∀(a b:List Nat),deqs (N a) (N b)=decide (a=b)
 | [],[]=>rfl| [],_::_=>rfl|_::_,[]=>rfl
 |x::a,y::b=>by
  have i:=zE2 a b;have e:deq (.int (x:Int)) (.int (y:Int))=decide (x=y):=by
   simp only[deq,flV,eqV];rw[Bool.eq_iff_iff,beq_iff_eq,decide_eq_true_eq];exact⟨λh=>Int.ofNat.inj h,λh=>by rw[h]⟩
  show deqs (D.int (x:Int)::N a) (D.int (y:Int)::N b)=_
  rw[deqs,i,e,Bool.eq_iff_iff];simp only[Bool.and_eq_true,decide_eq_true_eq,List.cons.injEq]
def ne_tN(a b:List Nat):neG (tN a) (tN b)=some (.v (.bl (!decide (a=b)))):=by
 rw[ne_tups (v8 a) (v8 b),zE2]
abbrev Fr(m n k:Nat):List (List Nat):=(wB m n).filter (fr k)
theorem zE3{α β:Type}(f:α->List β)(p:β->Bool):∀L:List α,(L.flatMap f).filter p=L.flatMap λa=>(f a).filter p
 | []=>rfl|a::L=>by rw[flatMap_cons,List.filter_append,zE3 f p L,flatMap_cons]
def wy_lt{m k:Nat}{r:List Nat}(hm:m<=3){l:Nat}(hl:l<=20):wy m k r l<2^100:=by
 unfold wy;refine lt_of_le_of_lt (List.length_filter_le _ _) ?_;rw[zCP];exact lt_of_le_of_lt (le_trans (Nat.pow_le_pow_left hm l) (Nat.pow_le_pow_right (by omega) hl)) (by decide)
def zCZ{m n k:Nat}(h:Od m n k):yS [.v (.int (m:Nat)),.v (.int (n:Nat)),.v (.int (k:Nat))]=.ok (.v (.int ((wy m k [] n:Nat):Int)),O3) :=
 yl (zT (jZ (zi (F:=yW) rfl (zA rfl) (zA rfl) (zA rfl) (zAU h))) (zr (yu (yi (F:=yO) rfl (zA rfl) (zA rfl) (ZH zW rfl Za) (zA rfl) (GP h.m h.k h.n (r:=[]) (by simp) (λx h=>by cases h)))))) rfl
theorem zAV(m:Nat):∀l,wB m (l+1)=(List.range m).flatMap λx=>(wB m l).map (x::·)
 |0=>by
  rw[Jx];show([[]]:List (List Nat)).flatMap (more m)=(List.range m).flatMap λx=>([[]]:List (List Nat)).map (x::·)
  unfold more;simp[List.flatMap_singleton,<- List.map_eq_flatMap]
 |l+1=>by
  have ih:=zAV m l;rw[Jx m (l+1)]
  conv=>lhs;rw[ih]
  rw[List.flatMap_assoc];congr 1;funext x;rw[List.flatMap_map,Jx m l,List.map_flatMap];congr 1;funext t;simp[more]
abbrev Qr(m k:Nat)(r:List Nat)(l:Nat):List (List Nat):=(wB m l).filter λt=>fr k (r++t)
def Tl(m k:Nat)(r:List Nat)(l:Nat):Nat->Nat->List (List Nat)
 |0,_=>[]|j+1,x=>(Qr m k (r++[x]) l).map (x::·)++Tl m k r l j (x+1)
theorem Jy(m k:Nat)(r:List Nat)(l:Nat):∀j x,(range' x j).flatMap (λy=>(Qr m k (r++[y]) l).map (y::·))=Tl m k r l j x
 |0,_=>rfl|j+1,x=>by rw[range'_succ,flatMap_cons,Jy m k r l j (x+1)];rfl
def zBZ(m k:Nat)(r:List Nat)(l:Nat):Qr m k r (l+1)=Tl m k r l m 0:=by
 unfold Qr;rw[zAV,zE3,<- Jy,range_eq_range'];congr 1;funext x;rw[filter_map];congr 2;funext t;simp
abbrev En(m n k:Nat)(num:D)(r:List Nat)(b l x:Nat):zS:=[.v (.int (m:Nat)),.v (.int (n:Nat)),.v (.int (k:Nat)),.v num,.v (tN r),.v (.int (b:Nat)),.v (.int (l:Nat)),.v (.int (x:Nat)),.v (.int ((wy m k (r++[x]) l:Nat):Int))]
def jx{m:Nat}{r:List Nat}(hr:∀x∈r,x<m){x:Nat}(hx:x<m):∀y∈r++[x],y<m:=λy hy=>by
 rcases mem_append.mp hy with hy|hy
 ·exact hr y hy
 ·rw[mem_singleton]at hy;omega
theorem zHk{m n k:Nat}(h:Od m n k){num:D}{r:List Nat}{l:Nat}(hl:l<=20)(hrl:r.length<20)(hr:∀x∈r,x<m):∀(j f x b:Nat) (t:List Nat),j<=f->x+j=m->(Tl m k r l j x)[b]?=some t ->
  ∃b' x' t',DV.whN (dT jN (.tE (.cmp .ge (.var 5) (.var 8)))) (dB jN Ja) f (En m n k num r b l x)=.ok (.nx,En m n k num r b' l x')/\x'<m/\t=x'::t'/\(Qr m k (r++[x']) l)[b']?=some t'
 |0,f,x,b,t,_,_,ht=>by simp[Tl]at ht|j+1,0,x,b,t,hf,_,_=>by omega
 |j+1,f+1,x,b,t,hf,hx,ht=>by
  have hW:(Qr m k (r++[x]) l).length=wy m k (r++[x]) l:=rfl;have g:=zCX b (wy m k (r++[x]) l);have tE:dT jN (.tE (.cmp .ge (.var 5) (.var 8))) (En m n k num r b l x)=.ok (decide (wy m k (r++[x]) l<=b),En m n k num r b l x):=t_E (yB (zA rfl) (zA rfl) g);simp only[Tl]at ht;by_cases hb:wy m k (r++[x]) l<=b
  ·rw[getElem?_append_right (by rw[length_map];omega),length_map,hW]at ht
   have hj:0<j:=by
    rcases Nat.eq_zero_or_pos j with z|z
    ·subst z;simp[Tl]at ht
    ·exact z
   obtain⟨b',x',t',e,h1,h2,h3⟩:=zHk h (num:=num) (n:=n) hl hrl hr j f (x+1) (b-wy m k (r++[x]) l) t (by omega) (by omega) ht;have ew:=GP h.m h.k hl (r:=r++[x+1]) (by simp;omega) (jx hr (show x+1<m by omega));have bd:dB jN Ja (En m n k num r b l x)=.ok (.nx,En m n k num r (b-wy m k (r++[x]) l) l (x+1)):=by
    refine zT (E1:=[.v (.int (m:Nat)),.v (.int (n:Nat)),.v (.int (k:Nat)),.v num,.v (tN r),.v (.int ((b-wy m k (r++[x]) l:Nat):Int)),.v (.int (l:Nat)),.v (.int (x:Nat)),.v (.int ((wy m k (r++[x]) l:Nat):Int))]) (s_aug (z:=((b-wy m k (r++[x]) l:Nat):Int)) rfl (zA rfl) ?_ rfl) ?_
    ·show some ((b:Int)-(wy m k (r++[x]) l:Nat))=_
     congr 1;omega
    refine zT (s_aug (z:=((x+1:Nat):Int)) rfl x_c rfl rfl) ?_;exact zr (jw (yi (F:=yO) rfl (zA rfl) (zA rfl) (zz (zA rfl) (ZH (zI (zA rfl) zW) rfl yx) (GQ r (x+1) (by omega))) (zA rfl) ew) rfl)
   refine⟨b',x',t',?_,h1,h2,h3⟩;rw[decide_eq_true hb]at tE;simp only[DV.whN,tE,bd];exact e
  ·rw[getElem?_append_left (by rw[length_map];omega),getElem?_map,Option.map_eq_some_iff]at ht
   obtain⟨t',h1,h2⟩:=ht;refine⟨b,x,t',?_,by omega,h2.symm,h1⟩;rw[decide_eq_false hb]at tE;simp only[DV.whN,tE]
inductive InN(m n k:Nat)(num:D)(T:List Nat)(i:Nat):zS->Prop
 |mk (r:List Nat) (b:Nat) (t:List Nat) (s6 s7 s8:DV.Slot):r.length=i->(∀x∈r,x<m)->(Qr m k r (n-i))[b]?=some t->r++t=T->JZ s6=true->JZ s7=true->JZ s8=true->InN m n k num T i [.v (.int (m:Nat)),.v (.int (n:Nat)),.v (.int (k:Nat)),.v num,.v (tN r),.v (.int (b:Nat)),s6,s7,s8]
def e_nth{m n k:Nat}(h:Od m n k){a:Nat}{T:List Nat}(ha:(Fr m n k)[a]?=some T):jO [.v (.int (m:Nat)),.v (.int (n:Nat)),.v (.int (k:Nat)),.v (.int (a:Nat))]=.ok (.v (tN T),O4):=by
 have hn:=h.n;have hal:a<wy m k [] n:=by
  have:=(qG.mp ha).1;exact this
 have inr:Wg 0 (((wy m k [] n:Nat):Int)-1) (.int (a:Nat))=true:=by
  simp only[Wg,Bool.and_eq_true,decide_eq_true_eq];omega
 obtain⟨E',f,I⟩:=jT (tg:=gN 6) (body:=dB jN Z6) (λi E=>InN m n k (.int (a:Nat)) T i E) (yn n) 0 [.v (.int (m:Nat)),.v (.int (n:Nat)),.v (.int (k:Nat)),.v (.int (a:Nat)),.v (tN []),.v (.int (a:Nat)),.e,.e,.e] (.mk [] a T .e .e .e rfl (λx h=>by cases h) ha rfl rfl rfl rfl) (λi d q E I=>by
  obtain⟨hi,rfl⟩:=zGf q;rw[zero_add]at I ⊢;obtain⟨r,b,t,s6,s7,s8,h1,h2,h3,h4,h6,h7,h8⟩:=I;have el:n-i=(n-(i+1))+1:=by omega
  rw[el,zBZ]at h3;obtain⟨b',x',t',e,hx,ht,hq⟩:=zHk h (num:=.int (a:Nat)) (n:=n) (r:=r) (l:=n-(i+1)) (by omega) (by omega) h2 m 1000000 0 b t (by have:=h.m;omega) (by omega) h3;have ew:=GP h.m h.k (l:=n-(i+1)) (by omega) (r:=r++[0]) (by simp;omega) (jx h2 (show 0<m by have:=h.m;omega));refine⟨[.v (.int (m:Nat)),.v (.int (n:Nat)),.v (.int (k:Nat)),.v (.int (a:Nat)),.v (tN r),.v (.int (b:Nat)),.v (.int ((n-(i+1):Nat):Int)),s7,s8],_,?_,?_,.mk (r++[x']) b' t' (.v (.int ((n-(i+1):Nat):Int))) (.v (.int (x':Nat))) (.v (.int ((wy m k (r++[x']) (n-(i+1)):Nat):Int))) (by simp[h1]) (jx h2 hx) hq (by rw[append_assoc,<- h4,ht];rfl) rfl rfl rfl⟩
  ·cases s6<;>first|rfl|(cases h6)
  ·refine zT (E1:=[.v (.int (m:Nat)),.v (.int (n:Nat)),.v (.int (k:Nat)),.v (.int (a:Nat)),.v (tN r),.v (.int (b:Nat)),.v (.int ((n-(i+1):Nat):Int)),.v (.int ((0:Nat):Int)),s8]) (jw x_c (j9 rfl h7 rfl)) ?_
   refine zT (E1:=En m n k (.int (a:Nat)) r b (n-(i+1)) 0) (jw (yi (F:=yO) rfl (zA rfl) (zA rfl) (zz (zA rfl) (ZH (zI (zA rfl) zW) rfl yx) (GQ r 0 (by omega))) (zA rfl) ew) (j9 rfl h8 rfl)) ?_;refine zT (zBP e) (zr (jw (zz (zA rfl) (ZH (zI (zA rfl) zW) rfl yx) (GQ r x' (by omega))) rfl)))
 have ld:(yn n).length=n:=by simp[yn]
 rw[ld,zero_add]at I;obtain⟨r,b,t,s6,s7,s8,h1,h2,h3,h4,_,_,_⟩:=I;have et:t=[]:=by
  have:=Jl m _ t (mem_filter.mp (mem_of_getElem? h3)).1;rw[Nat.sub_self]at this;exact length_eq_zero_iff.mp this
 subst et;rw[append_nil]at h4;subst h4;exact yl (zT (jZ (zi (F:=zN) rfl (zA rfl) x_c (zz (zi (F:=yS) rfl (zA rfl) (zA rfl) (zA rfl) (zCZ h)) x_c rfl) (yU _ 0 _ rfl inr))) (zT (jw (ZH zW rfl Za) rfl) (zT (jw (zA rfl) rfl) (zT (s_forI (tg:=.n 6) (i_Rv (j:=(n:Int)) (zI (zA rfl) zW) rfl ⟨by omega,by omega⟩) (by rw[Int.toNat_natCast];exact f)) (zr (yu (zA rfl))))))) rfl
def cut_to(ds:List D)(t:Nat)(h:t<=ds.length):zBo ds none (some (t:Int))=ds.take t:=by
 unfold zBo;have h1:HT.sIx ds.length 0 none=0:=rfl;rw[HT.sIx_nat,h1];simp[Nat.min_eq_left h]
def sl_tN(t:List Nat)(j:Nat)(h:j<=t.length):slD (tN t) none (some (j:Int))=some (.v (tN (t.take j))):=by
 simp only[slD];rw[cut_to _ _ (by rw[wQ];exact h)];simp[N,List.map_take]
def rkl(m k:Nat):List Nat->List Nat->List Nat
 |_,[]=>[]|p,x::t=>(List.range x).map (λy=>wy m k (p++[y]) t.length)++rkl m k (p++[x]) t
def rk(m k:Nat):List Nat->List Nat->Nat
 |_,[]=>0|p,x::t=>((List.range x).map λy=>wy m k (p++[y]) t.length).sum+rk m k (p++[x]) t
theorem zE4(m k:Nat):∀t p,(rkl m k p t).sum=rk m k p t
 | [],_=>rfl|x::t,p=>by simp only[rkl,rk,sum_append,zE4 m k t]
abbrev rkE:Ex:=(.call 0 (.ev (.var 3) (.ev (.var 4) (.ev (.bin .add (.sl (.var 5) .oN (.oS (.var 0))) (.t (.cons (.var 2) .nil))) (.ev (.bin .sub (.bin .sub (.cB .len (.cons (.var 5) .nil)) (.var 0)) (.c (.int 1))) .nil)))))
def rk_el{m n k:Nat}(h:Od m n k){T p t:List Nat}{x:Nat}(e:T=p++x::t)(hT:T.length<=20)(hp:∀y∈p,y<m){y:Nat}(hy:y<m):dE yc rkE [.v (.int (p.length:Nat)),.v (.int (x:Nat)),.v (.int (y:Nat)),.v (.int (m:Nat)),.v (.int (k:Nat)),.v (tN T)]=.ok (.v (.int ((wy m k (p++[y]) t.length:Nat):Int)),[.v (.int (p.length:Nat)),.v (.int (x:Nat)),.v (.int (y:Nat)),.v (.int (m:Nat)),.v (.int (k:Nat)),.v (tN T)]):=by
 have hl:T.length=p.length+(t.length+1):=by simp[e]
 have sl:=sl_tN T p.length (by omega);rw[show T.take p.length=p by rw[e];exact List.take_left]at sl;have ln:zFf [tN T]=some (.v (.int ((p.length+(t.length+1):Nat):Int))):=by simp only[zFf,wQ,hl]
 have s1:WR (.int ((p.length+(t.length+1):Nat):Int)) (.int (p.length:Nat))=some (.v (.int ((t.length+1:Nat):Int))):=zEj (by omega);have s2:WR (.int ((t.length+1:Nat):Int)) (.int 1)=some (.v (.int ((t.length:Nat):Int))):=zEj (b:=1) rfl;exact yi (F:=yO) rfl (zA rfl) (zA rfl) (zz (x_sl (zA rfl) o_N (o_S (zA rfl)) sl) (ZH (zI (zA rfl) zW) rfl yx) (GQ p y (by omega))) (zz (zz (WJ (zI (zA rfl) zW) ln) (zA rfl) s1) x_c s2) (GP h.m h.k (by omega) (by simp;omega) (jx hp hy))
theorem rk_in{fs:List FI}{el:_}{a b:D}{V:List DV.Slot}(g:Nat->Nat):∀(c lo:Nat) (s2:DV.Slot) (acc:List D),JZ s2=true->acc.length+c<=cap->(∀y,lo<=y->y<lo+c->dE fs el (.v a::.v b::.v (.int (y:Nat))::V)=.ok (.v (.int (g y:Nat)),.v a::.v b::.v (.int (y:Nat))::V)) ->
  ∃t2,JZ t2=true/\wY (gN 2) jp (ma1 (dE fs el)) (DV.zH (lo:Nat) c) (.v a::.v b::s2::V) acc=.ok (acc++N ((range' lo c).map g),.v a::.v b::t2::V)
 |0,lo,s2,acc,hs,hc,h=>⟨s2,hs,by simp[DV.zH,wY,N]⟩
 |c+1,lo,s2,acc,hs,hc,h=>by
  have h1:=h lo (by omega) (by omega);have g1:gN 2 (.int (lo:Nat)) (.v a::.v b::s2::V)=.ok (.v a::.v b::.v (.int (lo:Nat))::V):=by cases s2<;>first|rfl|(cases hs)
  obtain⟨t1,ht,f⟩:=rk_in g c (lo+1) (.v (.int (lo:Nat))) (acc++[.int (g lo:Nat)]) rfl (by simp;omega) λy h1 h2=>h y (by omega) (by omega)
  refine⟨t1,ht,?_⟩;have hl:acc.length<cap:=by omega
  have e:((lo:Nat):Int)+1=((lo+1:Nat):Int):=by omega
  simp only[DV.zH,wY,g1,jp,ma1,h1,e];rw[if_pos hl];dsimp only[R.d];rw[f];simp[N,range'_succ]
def zGk{fs:List FI}{E E1 Eb:zS}{nl:Nat}{xs ys:List Str}{caps:List Nat}{it jt el:_}{tg1 tg2:Tg}{ds vs L:List D}(hi:dI fs it E=.ok (ds,E1))(hcap:JL E1 caps=.ok (vs.map AR.tmp))(f:wY tg1.m jp (maL (dI fs jt) tg2.m jp (ma1 (dE fs el))) ds (replicate nl .e++vs.map Slot.v) []=.ok (L,Eb)):dE fs (.comp2 nl xs ys caps it tg1 jt tg2 el) E=.ok (.own L,E1):=by
 simp only[zGP];refine zEJ ?_;simp only[vM,hi,hcap,Gr,f];rw[Gs vs _ _ _ (by rw[length_drop,zX];simp)]
def zCu{tg:MG}{tt:MT}{ma:MC}{d:D}{ds acc acc':List D}{E E1 E3:zS}{res:Out (List D×zS)}(h1:tg d E=.ok E1)(h2:tt E1=.ok (true,E1))(h3:ma E1 acc=.ok (acc',E3))(h4:wY tg tt ma ds E3 acc'=res):wY tg tt ma (d::ds) E acc=res:=by
 simp only[wY,h1,h2,h3,h4]
def maL_ok{mi:MI}{tg:MG}{tt:MT}{ma:MC}{ds acc:List D}{E E1:zS}{res:Out (List D×zS)}(h:mi E=.ok (ds,E1))(h2:wY tg tt ma ds E1 acc=res):maL mi tg tt ma E acc=res:=by
 simp only[maL,h,h2]
def rk_out{m n k:Nat}(h:Od m n k){T:List Nat}(hT:T.length<=20):∀(t p:List Nat) (s0 s1 s2:DV.Slot) (acc:List D),T=p++t->(∀y∈p,y<m)->(∀y∈t,y<m)->JZ s0=true->JZ s1=true->JZ s2=true->acc.length+t.length*m<=cap ->
  ∃t0 t1 t2,wY (gT [0,1]) jp (maL (dI yc (.iR1 (.cons (.var 1) .nil))) (gN 2) jp (ma1 (dE yc rkE))) (zC1 p.length (N t)) (s0::s1::s2::[.v (.int (m:Nat)),.v (.int (k:Nat)),.v (tN T)]) acc=.ok (acc++N (rkl m k p t),[t0,t1,t2,.v (.int (m:Nat)),.v (.int (k:Nat)),.v (tN T)]):=by
 intro t
 induction t with
 |nil=>exact λp s0 s1 s2 acc e hp ht h0 h1 h2 hc=>⟨s0,s1,s2,by simp[N,zC1,wY,rkl]⟩
 |cons x t ih =>
  intro p s0 s1 s2 acc e hp ht h0 h1 h2 hc;have hx:=ht x qE;have hm:=h.m;have g1:gT [0,1] (.t [.int (p.length:Nat),.int (x:Nat)]) ([s0,s1]++(s2::[.v (.int (m:Nat)),.v (.int (k:Nat)),.v (tN T)]))=.ok ([.v (.int (p.length:Nat)),.v (.int (x:Nat))]++(s2::[.v (.int (m:Nat)),.v (.int (k:Nat)),.v (tN T)])):=zHV rfl (λs hs=>by
   rcases mem_cons.mp hs with rfl|hs
   ·exact h0
   ·rcases mem_cons.mp hs with rfl|hs
    ·exact h1
    ·cases hs)
  have hc':acc.length+(t.length*m+m)<=cap:=by rw[length_cons,Nat.succ_mul]at hc;exact hc
  obtain⟨u2,q2,f⟩:=rk_in (fs:=yc) (el:=rkE) (a:=.int (p.length:Nat)) (b:=.int (x:Nat)) (V:=[.v (.int (m:Nat)),.v (.int (k:Nat)),.v (tN T)]) (λy=>wy m k (p++[y]) t.length) x 0 s2 acc h2 (by omega) λy _ hy=>rk_el h e hT hp (by omega)
  obtain⟨t0,t1,t2,f2⟩:=ih (p++[x]) (.v (.int (p.length:Nat))) (.v (.int (x:Nat))) u2 (acc++N ((range' 0 x).map λy=>wy m k (p++[y]) t.length)) (by simp[e]) (jx hp hx) (λy hy=>ht y (qD _ hy)) rfl rfl q2 (by rw[length_append,wQ,length_map,List.length_range'];omega);refine⟨t0,t1,t2,?_⟩;have it:dI yc (.iR1 (.cons (.var 1) .nil)) [.v (.int (p.length:Nat)),.v (.int (x:Nat)),s2,.v (.int (m:Nat)),.v (.int (k:Nat)),.v (tN T)]=.ok (DV.zH 0 x,[.v (.int (p.length:Nat)),.v (.int (x:Nat)),s2,.v (.int (m:Nat)),.v (.int (k:Nat)),.v (tN T)]):=i_R1 (j:=(x:Int)) (zI (zA rfl) zW) rfl ⟨by omega,by omega⟩;rw[append_assoc,show N ((range' 0 x).map λy=>wy m k (p++[y]) t.length)++N (rkl m k (p++[x]) t)=N (rkl m k p (x::t))by simp[rkl,N,range_eq_range'],show(p++[x]).length=p.length+1 by simp]at f2;exact zCu (d:=.t [.int (p.length:Nat),.int (x:Nat)]) g1 rfl (maL_ok it f) f2
def zE5{m n k:Nat}(h:Od m n k){T:List Nat}(hT:T.length<=20)(ht:∀y∈T,y<m)(hf:fr k T=true):yr [.v (.int (m:Nat)),.v (.int (k:Nat)),.v (tN T)]=.ok (.v (.int ((rk m k [] T:Nat):Int)),O3):=by
 have hm:=h.m;obtain⟨t0,t1,t2,f⟩:=rk_out h hT T [] .e .e .e [] rfl (λy h=>by cases h) ht rfl rfl rfl (by simp[cap];have:=Nat.mul_le_mul hT hm.2;omega);have cm:dE yc (.comp2 3 ["at","sign","smaller"] ["m","k","row"] [0,1,2] (.iE true (.cons (.var 2) .nil)) (.t [0,1]) (.iR1 (.cons (.var 1) .nil)) (.n 2) rkE) [.v (.int (m:Nat)),.v (.int (k:Nat)),.v (tN T)]=.ok (.own (N (rkl m k [] T)),[.v (.int (m:Nat)),.v (.int (k:Nat)),.v (tN T)]):=by
  exact zGk (vs:=[.int (m:Nat),.int (k:Nat),tN T]) (i_E (zI (zA rfl) zW) rfl) rfl f
 have er:=e_rgo (tN T) (zGj (by omega)) m;rw[rg_N hm.2 hT ht]at er;have el:=v7 hm.2 hT ht;have gb:geD (.int ((bst T:Nat):Int)) (.int (k:Nat))=some (.v (.bl false)):=by
  rw[zCX,decide_eq_false];simp only[fr,decide_eq_true_eq]at hf;omega
 have sm:=zAT (rkl m k [] T);rw[zE4]at sm;exact yl (zT (jZ (yT (F:=yb) rfl (zA rfl) (WL _ rfl (zBY hm.1 hm.2)))) (zT (jZ (yT (F:=zy) rfl (zA rfl) (zEz h.k))) (zT (yt (zC3 (WY (t_E (Ji (F:=yf) rfl (zA rfl) (zA rfl) er)) rfl) (t_E (yB (yT (F:=yI) rfl (zA rfl) el) (zA rfl) gb))) yw) (zr (yu (WJ (zI cm zW) sm)))))) rfl
def Tl_len(m k:Nat)(r:List Nat)(l:Nat)(j x:Nat):(Tl m k r l j x).length=((range' x j).map λy=>wy m k (r++[y]) l).sum:=by
 rw[<- Jy,List.length_flatMap];congr 1;refine map_congr_left λy _=>?_
 rw[length_map];rfl
def QI(m k:Nat)(r:List Nat)(l:Nat):wy m k r (l+1)=((List.range m).map λy=>wy m k (r++[y]) l).sum:=by
 rw[range_eq_range',<- Tl_len,<- zBZ];rfl
def Ze(m k:Nat)(r:List Nat):wy m k r 0=if fr k r=true then 1 else 0:=by
 show(([[]]:List (List Nat)).filter λt=>fr k (r++t)).length=_
 by_cases h:fr k r=true<;>simp[h]
def Tl_at(m k:Nat)(r:List Nat)(l:Nat)(t:List Nat):∀j x a,(Tl m k r l j x)[a]?=some t->∃y t' b,t=y::t'/\x<=y/\y<x+j/\(Qr m k (r++[y]) l)[b]?=some t'/\a=((range' x (y-x)).map λz=>wy m k (r++[z]) l).sum+b:=by
 intro j
 induction j with
 |zero=>intro x a h;rw[<- Jy]at h;simp at h
 |succ j ih =>
  intro x a h;have e:Tl m k r l (j+1) x=(Qr m k (r++[x]) l).map (x::·)++Tl m k r l j (x+1):=by
   rw[<- Jy,<- Jy,range'_succ,flatMap_cons]
  rw[e]at h;have hl:((Qr m k (r++[x]) l).map (x::·)).length=wy m k (r++[x]) l:=by rw[length_map];rfl
  by_cases c:a<wy m k (r++[x]) l
  ·rw[getElem?_append_left (by omega),getElem?_map,Option.map_eq_some_iff]at h
   obtain⟨t',h1,rfl⟩:=h;exact⟨x,t',a,rfl,le_refl _,by omega,h1,by simp⟩
  ·rw[getElem?_append_right (by omega),hl]at h
   obtain⟨y,t',b,h1,h2,h3,h4,h5⟩:=ih (x+1) _ h;refine⟨y,t',b,h1,by omega,by omega,h4,?_⟩;rw[show y-x=(y-(x+1))+1 by omega,range'_succ,map_cons,sum_cons];omega
def rk_at(m k:Nat):∀(l:Nat) (r t:List Nat) (a:Nat),(Qr m k r l)[a]?=some t->rk m k r t=a:=by
 intro l
 induction l with
 |zero =>
  intro r t a h;have ha:=(qG.mp h).1;have hl:(Qr m k r 0).length=wy m k r 0:=rfl;rw[hl,Ze]at ha;have et:t=[]:=length_eq_zero_iff.mp (Jl m 0 t (mem_filter.mp (mem_of_getElem? h)).1);subst et;show 0=a;split at ha<;>omega
 |succ l ih =>
  intro r t a h;rw[zBZ]at h;obtain⟨y,t',b,rfl,_,h3,h4,h5⟩:=Tl_at m k r l t m 0 a h;have hl:t'.length=l:=Jl m l t' (mem_filter.mp (mem_of_getElem? h4)).1;show((List.range y).map λz=>wy m k (r++[z]) t'.length).sum+rk m k (r++[y]) t'=a;rw[ih _ _ _ h4,hl,range_eq_range',h5,Nat.sub_zero]
abbrev cc(m x:Nat):Nat:=m-1-x
def est_cc{m:Nat}:∀(n:Nat) (r:List Nat),r.length=n->(∀x∈r,x<m)->est (r.map (cc m))=⟨(est r).b,(est r).e,(est r).l.map (cc m)⟩:=by
 intro n
 induction n with
 |zero=>intro r h _;cases length_eq_zero_iff.mp h;rfl
 |succ n ih =>
  intro r h hr;rcases List.eq_nil_or_concat r with rfl|⟨q,x,rfl⟩
  ·simp at h
  ·have hq:q.length=n:=by simp at h;exact h
   have hx:x<m:=hr x (by simp);have i:=ih q hq λy hy=>hr y (by simp[hy])
   rw[List.concat_eq_append,map_append,map_cons,map_nil,Jm,Jm,i];have hc:((est q).l.map (cc m)=some (cc m x))↔(est q).l=some x:=by
    rcases List.eq_nil_or_concat q with rfl|⟨q',y,rfl⟩
    ·simp[est]
    ·have hy:y<m:=hr y (by simp)
     rw[List.concat_eq_append,zEv];simp only[Option.map_some,Option.some.injEq,cc];omega
   unfold ste;simp only[hc];rfl
def fr_cc{m k:Nat}{r:List Nat}(hr:∀x∈r,x<m):fr k (r.map (cc m))=fr k r:=by
 unfold fr bst;rw[est_cc _ r rfl hr]
def sum2(f:Nat->Nat):((List.range 2).map f).sum=f 0+f 1:=by simp[range_succ]
def sum3(f:Nat->Nat):((List.range 3).map f).sum=f 0+f 1+f 2:=by simp[range_succ];omega
def wy_cc{m k:Nat}(hm:2<=m/\m<=3):∀(l:Nat) (r:List Nat),(∀x∈r,x<m)->wy m k (r.map (cc m)) l=wy m k r l:=by
 intro l
 induction l with
 |zero=>intro r hr;rw[Ze,Ze,fr_cc hr]
 |succ l ih =>
  intro r hr;have i:∀y,y<m->wy m k (r.map (cc m)++[cc m y]) l=wy m k (r++[y]) l:=λy hy=>by
   rw[<- ih (r++[y]) (jx hr hy)];simp
  rw[QI,QI];rcases(show m=2\/m=3 by omega)with rfl|rfl
  ·have a:=i 0 (by omega);have b:=i 1 (by omega)
   rw[sum2,sum2];simp only[cc]at a b;simp at a b;omega
  ·have a:=i 0 (by omega);have b:=i 1 (by omega);have c:=i 2 (by omega)
   rw[sum3,sum3];simp only[cc]at a b c;simp at a b c;omega
def rk_cc{m k:Nat}(hm:2<=m/\m<=3):∀(t r:List Nat),(∀x∈r,x<m)->(∀x∈t,x<m)->fr k (r++t)=true->rk m k r t+rk m k (r.map (cc m)) (t.map (cc m))+1=wy m k r t.length:=by
 intro t
 induction t with
 |nil=>intro r hr _ hf;rw[append_nil]at hf;show 0+0+1=wy m k r 0;rw[Ze,if_pos hf]
 |cons x t ih =>
  intro r hr ht hf;have hx:=ht x qE;have e:=ih (r++[x]) (jx hr hx) (λy hy=>ht y (qD _ hy)) (by rw[append_assoc];exact hf);rw[map_append,map_cons,map_nil]at e;have i:∀y,y<m->wy m k (r.map (cc m)++[cc m y]) t.length=wy m k (r++[y]) t.length:=λy hy=>by
   rw[<- wy_cc hm t.length (r++[y]) (jx hr hy)];simp
  rw[map_cons,length_cons,QI];simp only[rk,length_map];rcases(show m=2\/m=3 by omega)with rfl|rfl
  ·have a:=i 0 (by omega);have b:=i 1 (by omega)
   rw[sum2];rcases(show x=0\/x=1 by omega)with rfl|rfl<;>simp only[cc]at a b e ⊢<;>simp[range_succ]at a b e ⊢<;>omega
  ·have a:=i 0 (by omega);have b:=i 1 (by omega);have c:=i 2 (by omega)
   rw[sum3];rcases(show x=0\/x=1\/x=2 by omega)with rfl|rfl|rfl<;>simp only[cc]at a b c e ⊢<;>simp[range_succ]at a b c e ⊢<;>omega
structure Fo(m n k a:Nat)(T:List Nat):Prop where
 at_:(Fr m n k)[a]?=some T
 len:T.length=n
 low:∀x∈T,x<m
 fr:fr k T=true
 rk:rk m k [] T=a
 lt:a<wy m k [] n
def fo_of{m n k a:Nat}(ha:a<wy m k [] n):∃T,Fo m n k a T:=by
 have hl:a<(Fr m n k).length:=ha;have e:(Fr m n k)[a]?=some (Fr m n k)[a]:=getElem?_eq_getElem hl;have hm:=mem_filter.mp (mem_of_getElem? e);exact⟨_,e,Jl m n _ hm.1,zBT m n _ hm.1,hm.2,rk_at m k n [] _ a e,ha⟩
def ln_tN(r:List Nat):zFf [tN r]=some (.v (.int (r.length:Nat))):=by simp only[zFf,wQ]
def e_fnext{m n k a:Nat}(h:Od m n k){T T':List Nat}(hT:Fo m n k a T)(hT':Fo m n k (a+1) T'):wv [.v (.int (m:Nat)),.v (.int (k:Nat)),.v (tN T)]=.ok (.v (tN T'),O3):=by
 have hn:=h.n;have er:=zE5 h (by have:=hT.len;omega) hT.low hT.fr;rw[hT.rk]at er;have ln:=ln_tN T;rw[hT.len]at ln;have eq:eqG (.int ((a+1:Nat):Int)) (.int ((wy m k [] n:Nat):Int))=some (.v (.bl false)):=by
  rw[zHb,decide_eq_false (by have:=hT'.lt;omega)]
 exact yl (zT (jw (zz (zi (F:=yr) rfl (zA rfl) (zA rfl) (zA rfl) er) x_c (zBS a 1)) rfl) (zT (yt (t_E (yB (zA rfl) (zi (F:=yS) rfl (zA rfl) (WJ (zI (zA rfl) zW) ln) (zA rfl) (zCZ h)) eq)) yw) (zr (yu (yi (F:=jO) rfl (zA rfl) (WJ (zI (zA rfl) zW) ln) (zA rfl) (zA rfl) (e_nth h hT'.at_)))))) rfl
def ne_lN(a b:List Nat):neG (.l (N a)) (.l (N b))=some (.v (.bl (!decide (a=b)))):=by
 have e:neF (.l (N a)) (.l (N b))=none:=rfl;have h1:eqb 20 (.l (N a))=true:=by show(N a).all (eqb 19)=true;rw[all_eq_true];exact v8 a
 have h2:eqb 20 (.l (N b))=true:=by show(N b).all (eqb 19)=true;rw[all_eq_true];exact v8 b
 simp only[neG,e,eqDD];rw[if_pos ⟨h1,h2⟩];have d:deq (.l (N a)) (.l (N b))=deqs (N a) (N b):=by simp only[deq]
 rw[d,zE2];rfl
abbrev cnt(m n k:Nat)(p:List Nat):List Nat:=(List.range m).map λy=>wy m k (p++[y]) (n-p.length-1)
def cnt_sum{m n k:Nat}{p:List Nat}(h:p.length<n):(cnt m n k p).sum=wy m k p (n-p.length):=by
 rw[show n-p.length=(n-p.length-1)+1 by omega,QI]
abbrev EnR(m n k a:Nat)(T:List Nat)(s6 s7 s8:DV.Slot):zS:=[.v (.int (m:Nat)),.v (.int (n:Nat)),.v (.int (k:Nat)),.v (.int (a:Nat)),.v (.int ((wy m k [] n:Nat):Int)),.v (tN T),s6,s7,s8]
def i_Rm{fs:List FI}{E:zS}{m:Nat}(hm:m<=3)(h:E[0]?=some (.v (.int (m:Nat)))):dI fs (.iR1 (.cons (.var 0) .nil)) E=.ok (N (List.range m),E):=by
 have:=i_R1 (fs:=fs) (E:=E) (a:=.cons (.var 0) .nil) (j:=(m:Int)) (zI (zA h) zW) rfl ⟨by omega,by omega⟩;rw[Int.toNat_natCast,zHa]at this;exact this
def zGl{m n k a:Nat}(h:Od m n k){T:List Nat}(hT:Fo m n k a T)(s6 s8:DV.Slot)(h8:JZ s8=true){i:Nat}(hi:i<n):∃s',dB zh jD (EnR m n k a T s6 (.v (.int (i:Nat))) s8)=.ok (.nx,EnR m n k a T s6 (.v (.int (i:Nat))) s')/\JZ s'=true:=by
 have hn:=h.n;have hm:=h.m;have hl:=hT.len;have sl:=sl_tN T i (by omega);generalize hp:T.take i=p at sl;have pl:p.length=i:=by rw[<- hp,length_take];omega
 have plow:∀x∈p,x<m:=λx hx=>hT.low x (by rw[<- hp]at hx;exact List.mem_of_mem_take hx)
 have e1:dE zh (.comp 1 ["_law_sign"] ["_law_m","_law_n","_law_k","_law_row","_law_at"] [0,1,2,5,7] (.iR1 (.cons (.var 0) .nil)) (.n 0) .tTr (.call 0 (.ev (.var 1) (.ev (.var 2) (.ev (.var 3) (.ev (.bin .add (.sl (.var 4) .oN (.oS (.var 5))) (.t (.cons (.var 0) .nil))) .nil)))))) (EnR m n k a T s6 (.v (.int (i:Nat))) s8)=.ok (.own (N (cnt m n k p)),EnR m n k a T s6 (.v (.int (i:Nat))) s8):=by
  refine Jj (vs:=[.int (m:Nat),.int (n:Nat),.int (k:Nat),tN T,.int (i:Nat)]) (λd=>.int ((wy m k (p++[zFB d]) (n-p.length-1):Nat):Int)) (i_Rm hm.2 rfl) rfl (λd hd=>?_) (by rw[wQ,length_range];simp only[cap];omega) ?_
  ·obtain⟨x,hx,rfl⟩:=QC hd
   have hx':x<m:=by simpa using hx
   have ef:=zCY h (r:=p++[x]) (by simp;omega) (jx plow hx');rw[length_append,<- Nat.sub_sub]at ef;exact⟨_,yi (F:=yJ) rfl (zA rfl) (zA rfl) (zA rfl) (zz (x_sl (zA rfl) o_N (o_S (zA rfl)) sl) (ZH (zI (zA rfl) zW) rfl yx) (GQ p x (by omega))) ef,by rw[show zFB (.int (x:Nat))=x from Int.toNat_natCast x];rfl⟩
  ·simp only[N,cnt,map_map]
   refine map_congr_left λx _=>?_
   show D.int _=D.int _
   rw[show zFB (.int (x:Nat))=x from Int.toNat_natCast x]
 have ef:=zCY h (r:=p) (by omega) plow;have ne1:neG (.int (((cnt m n k p).sum:Nat):Int)) (.int ((wy m k p (n-p.length):Nat):Int))=some (.v (.bl false)):=by
  rw[cnt_sum (by omega),zCK,decide_eq_true rfl];rfl
 have en:=e_next h (r:=p) (by omega) plow;have e2:dE zh (.comp 1 ["_law_sign"] ["_law_counts"] [8] (.iR1 (.cons (.var 0) .nil)) (.n 0) (.tE (.cmp .gt (.ix (.var 1) (.var 0)) (.c (.int 0)))) (.var 0)) (EnR m n k a T s6 (.v (.int (i:Nat))) (.v (.l (N (cnt m n k p)))))=.ok (.own (N (nxl m n k p)),EnR m n k a T s6 (.v (.int (i:Nat))) (.v (.l (N (cnt m n k p))))):=by
  refine zCE (vs:=[.l (N (cnt m n k p))]) (λd=>[.v d]) (λd=>decide (0<wy m k (p++[zFB d]) (n-p.length-1))) (λd=>d) (i_Rm hm.2 rfl) rfl (λd hd S hS hn=>zEW hS hn) (λd hd=>⟨rfl,λs hs=>by rw[mem_singleton]at hs;subst hs;rfl⟩) (λd hd=>?_) (λd hd _=>⟨_,zA rfl,rfl⟩) ?_ ?_
  ·obtain⟨x,hx,rfl⟩:=QC hd
   have hx':x<m:=by simpa using hx
   have ix:ixD (.l (N (cnt m n k p))) (.int (x:Nat))=some (.v (.int ((wy m k (p++[x]) (n-p.length-1):Nat):Int))):=by
    have:=zGd (λy=>wy m k (p++[y]) (n-p.length-1)) hx';simp only[ixD];rw[this];rfl
   rw[show zFB (.int (x:Nat))=x from Int.toNat_natCast x];exact t_E (yB (zHY (zA rfl) (zA rfl) ix) x_c (YZ _ 0))
  ·rw[wQ,length_range];simp only[cap];omega
  ·rw[zE1 (λx=>decide (0<wy m k (p++[x]) (n-p.length-1)))];simp[nxl,sgn,show p.length<n by omega]
 have ne2:=ne_lN (nxl m n k p) (nxl m n k p);rw[decide_eq_true rfl]at ne2;exact⟨.v (.l (N (cnt m n k p))),zT (E1:=EnR m n k a T s6 (.v (.int (i:Nat))) (.own (N (cnt m n k p)))) (jw e1 (j9 rfl h8 rfl)) (zT (E1:=EnR m n k a T s6 (.v (.int (i:Nat))) (.v (.l (N (cnt m n k p))))) (yt (t_E (yB (WJ (zI (x_varA (.inl rfl) rfl rfl) zW) (zAT _)) (yi (F:=yJ) rfl (zA rfl) (zA rfl) (zA rfl) (x_sl (zA rfl) o_N (o_S (zA rfl)) sl) ef) ne1)) yw) (zr (yt (t_E (yB (yi (F:=wL) rfl (zA rfl) (zA rfl) (zA rfl) (x_sl (zA rfl) o_N (o_S (zA rfl)) sl) en) e2 ne2)) yw))),rfl⟩
def e_right{m n k a:Nat}(h:Od m n k)(ha:a<wy m k [] n):yo [.v (.int (m:Nat)),.v (.int (n:Nat)),.v (.int (k:Nat)),.v (.int (a:Nat)),.v (.int ((wy m k [] n:Nat):Int))]=.ok (.v (.bl true),[.e,.e,.e,.e,.e]):=by
 obtain⟨T,hT⟩:=fo_of ha;have hn:=h.n;have hm:=h.m;have hl:=hT.len;have low:=hT.low;have rg:=Zc (tN T) (zGj (by omega));have rb:zCR (tN T)=true:=by
  have:=rg_N hm.2 (show T.length<=20 by omega) low;simp only[rgB,Bool.and_eq_true]at this;exact this.1
 rw[rb]at rg;have el:=v7 hm.2 (show T.length<=20 by omega) low;have gb:geD (.int ((bst T:Nat):Int)) (.int (k:Nat))=some (.v (.bl false)):=by
  have hf:=hT.fr;rw[zCX,decide_eq_false];simp only[fr,decide_eq_true_eq]at hf;omega
 have er:=zE5 h (show T.length<=20 by omega) low hT.fr;rw[hT.rk]at er;have nea:neG (.int (a:Nat)) (.int (a:Nat))=some (.v (.bl false)):=by rw[zCK,decide_eq_true rfl];rfl
 -- the row ahead
 have t3:dT zh (.tAnd (.tE (.cmp .gt (.var 3) (.c (.int 0)))) (.tE (.cmp .ne (.call 3 (.ev (.var 0) (.ev (.var 2) (.ev (.call 4 (.ev (.var 0) (.ev (.var 1) (.ev (.var 2) (.ev (.bin .sub (.var 3) (.c (.int 1))) .nil))))) .nil)))) (.var 5)))) (EnR m n k a T .e .e .e)=.ok (false,EnR m n k a T .e .e .e):=by
  by_cases c:a=0
  ·refine zCI (t_E (yB (zA rfl) x_c ?_))
   have:=YZ a 0;rw[decide_eq_false (by omega)]at this;exact this
  ·obtain⟨b,rfl⟩:∃b,a=b+1:=⟨a-1,by omega⟩
   obtain⟨S,hS⟩:=fo_of (m:=m) (n:=n) (k:=k) (a:=b) (by omega);have g0:=YZ (b+1) 0;rw[decide_eq_true (by omega)]at g0;have sb:WR (.int ((b+1:Nat):Int)) (.int 1)=some (.v (.int (b:Nat))):=zEj (b:=1) rfl;have net:=ne_tN T T;rw[decide_eq_true rfl]at net;exact zAR (t_E (yB (zA rfl) x_c g0)) (t_E (yB (zi (F:=wv) rfl (zA rfl) (zA rfl) (yi (F:=jO) rfl (zA rfl) (zA rfl) (zA rfl) (zz (zA rfl) x_c sb) (e_nth h hS.at_)) (e_fnext h hS hT)) (zA rfl) net))
 -- signs turned round
 have clow:∀x∈T.map (cc m),x<m:=λx hx=>by
  obtain⟨y,_,rfl⟩:=mem_map.mp hx;simp only[cc];omega
 have e6:dE zh (.cB .tuple (.cons (.comp 1 ["_law_sign"] ["_law_m"] [0] (.iT (.var 5)) (.n 0) .tTr (.bin .sub (.bin .sub (.var 1) (.c (.int 1))) (.var 0))) .nil)) (EnR m n k a T .e .e .e)=.ok (.v (tN (T.map (cc m))),EnR m n k a T .e .e .e):=by
  refine WJ (zI (Jj (vs:=[.int (m:Nat)]) (rs:=N (T.map (cc m))) (λd=>.int ((cc m (zFB d):Nat):Int)) (i_T (zA rfl) rfl) rfl (λd hd=>?_) (by rw[wQ];simp only[cap];omega) ?_) zW) rfl
  ·obtain⟨x,hx,rfl⟩:=QC hd
   have hx':=low x hx;rw[show zFB (.int (x:Nat))=x from Int.toNat_natCast x];exact⟨_,zz (zz (zA rfl) x_c (wA (b:=1) (by omega))) (zA rfl) (wA (by omega)),rfl⟩
  ·simp only[N,map_map]
   refine map_congr_left λx _=>?_
   show D.int _=D.int _
   rw[show zFB (.int (x:Nat))=x from Int.toNat_natCast x]
 have eo:=zE5 h (T:=T.map (cc m)) (by rw[length_map];omega) clow (by rw[fr_cc low];exact hT.fr);have rc:=rk_cc (k:=k) hm T [] (λx h=>by cases h) low hT.fr;rw[hT.rk,hl,map_nil]at rc;have s1:WR (.int ((wy m k [] n:Nat):Int)) (.int 1)=some (.v (.int ((wy m k [] n-1:Nat):Int))):=wA (b:=1) (by omega);have s2:WR (.int ((wy m k [] n-1:Nat):Int)) (.int (a:Nat))=some (.v (.int ((wy m k [] n-1-a:Nat):Int))):=wA (by omega);have ne6:neG (.int ((rk m k [] (T.map (cc m)):Nat):Int)) (.int ((wy m k [] n-1-a:Nat):Int))=some (.v (.bl false)):=by
  rw[zCK,decide_eq_true (by omega)];rfl
 -- all begun ones
 obtain⟨E',f,s7,s8,rfl,q7,q8⟩:=jT (tg:=gN 7) (body:=dB zh jD) (λi E=>∃s7 s8,E=EnR m n k a T (.v (tN (T.map (cc m)))) s7 s8/\JZ s7=true/\JZ s8=true) (DV.zH 0 n) 0 (EnR m n k a T (.v (tN (T.map (cc m)))) .e .e) ⟨_,_,rfl,rfl,rfl⟩ (λi d q E I=>by
  obtain⟨hi,rfl⟩:=wt _ _ _ _ q;obtain⟨s7,s8,rfl,h7,h8⟩:=I;rw[Int.zero_add];obtain⟨s',e,hs⟩:=zGl h hT (.v (tN (T.map (cc m)))) s8 h8 hi;refine⟨_,_,?_,e,_,_,rfl,rfl,hs⟩;cases s7<;>first|rfl|(cases h7))
 have eT:=zCY h (r:=T) (by omega) low;rw[hl,Nat.sub_self,Ze,if_pos hT.fr]at eT;exact yl (zT (E1:=EnR m n k a T .e .e .e) (jw (yi (F:=jO) rfl (zA rfl) (zA rfl) (zA rfl) (zA rfl) (e_nth h hT.at_)) rfl) (zT (E1:=EnR m n k a T .e .e .e) (yt (zC3 (WY (t_E (yT (F:=jL) rfl (zA rfl) rg)) rfl) (zC3 (t_E (yB (yT (F:=yI) rfl (zA rfl) el) (zA rfl) gb)) (t_E (yB (zi (F:=yr) rfl (zA rfl) (zA rfl) (zA rfl) er) (zA rfl) nea)))) yw) (zT (E1:=EnR m n k a T .e .e .e) (yt t3 yw) (zT (E1:=EnR m n k a T (.v (tN (T.map (cc m)))) .e .e) (jw e6 rfl) (zT (E1:=EnR m n k a T (.v (tN (T.map (cc m)))) .e .e) (yt (t_E (yB (zi (F:=yr) rfl (zA rfl) (zA rfl) (zA rfl) eo) (zz (zz (zA rfl) x_c s1) (zA rfl) s2) ne6)) yw) (zT (ZZ (j:=(n:Int)) (zI (zA rfl) zW) rfl ⟨by omega,by omega⟩ (by rw[Int.toNat_natCast];exact f)) (zr (yu (yB (yi (F:=yJ) rfl (zA rfl) (zA rfl) (zA rfl) (zA rfl) eT) x_c rfl))))))))) rfl
def zCv(d:D)(h:okD d):ZW [.v d]=.ok (.v (.bl (zGb d)),[.e]):=by
 cases d with
 |t ds =>
  have t1:dT YS (.tNot (.tE (.is .tuple (.var 0)))) [.v (.t ds)]=.ok (false,[.v (.t ds)]):=WY (t_E (b:=true) rfl) rfl;have l1:dE YS (.cB .len (.cons (.var 0) .nil)) [.v (.t ds)]=.ok (.v (.int ds.length),[.v (.t ds)]):=WJ (zI (zA rfl) zW) rfl;by_cases h2:2<=ds.length
  ·have b1:Cp.le.b 2 (ds.length:Int)=true:=decide_eq_true (by omega)
   by_cases h3:ds.length<=3
   ·have b2:Cp.le.b (ds.length:Int) 3=true:=decide_eq_true (by omega)
    have e:zGb (.t ds)=ds.all (Wg 1 9):=by simp[zGb,h2,h3]
    rw[e];exact yl (zT (yt (zC3 t1 (WY (t_E (zEc zAO l1 b1 zAO b2)) rfl)) yw) (zr (yu (WJ (zI (Jj (vs:=[]) (λd=>.bl (Wg 1 9 d)) (i_T (zA rfl) rfl) rfl (λd hd=>⟨_,zi rfl (zA rfl) zAO zAO (jP d 1 9 (h.2 d hd)),rfl⟩) h.1 rfl) zW) (zCJ rfl))))) rfl
   ·have b2:Cp.le.b (ds.length:Int) 3=false:=decide_eq_false (by omega)
    have e:zGb (.t ds)=false:=by simp[zGb,h3]
    rw[e];exact yl (zAP (v3 (zC3 t1 (WY (t_E (zEc zAO l1 b1 zAO b2)) rfl)) (zr (yu x_c)))) rfl
  ·have b1:Cp.le.b 2 (ds.length:Int)=false:=decide_eq_false (by omega)
   have e:zGb (.t ds)=false:=by simp[zGb,h2]
   rw[e];exact yl (zAP (v3 (zC3 t1 (WY (t_E (zGW zAO l1 b1)) rfl)) (zr (yu x_c)))) rfl
 |fn x=>cases h|exn x y=>cases h|dct x y=>cases h|_=>rfl
def zCw(d:D)(h:okD d)(hb:zGb d=true):Jt [.v d]=.ok (.v .non,[.e]):=by
 have e:=zCv d h;rw[hb]at e;exact f_nx (zr (yt (WY (t_E (yT rfl (zA rfl) e)) rfl) yw)) rfl
def e_gcd(t:Int)(b:Nat)(hb:b<2^800):jA [.v (.int t),.v (.int b)]=.ok (.v (.int (t.natAbs.gcd b:Nat)),[.e,.e]):=by
 have w:=zCG (c:=dT yq (.tE (.cmp .ne (.var 1) (.c (.int 0))))) (bd:=dB yq (.bOne (.sPar 0 1 (.cons (.var 1) (.cons (.bin .mod (.var 0) (.var 1)) .nil))))) (λa b=>[.v (.int (a:Nat)),.v (.int (b:Nat))])
  (λa b=>t_E (yB (zA rfl) x_c (by
   show neG (.int (b:Int)) (.int 0)=_
   rw[ne_int];by_cases z:b=0
   ·subst z;rfl
   ·have:¬(b:Int)=0:=by omega
    simp[z])))
  (λa b h=>zr (zGX (zI (zA rfl) (zI (zz (zA rfl) (zA rfl) (mod_nat a b h)) zW)) rfl)) 800 1000000 t.natAbs b hb (by omega)
 exact yl (zT (zGX (zI (WJ (zI (zA rfl) zW) (zEo t)) (zI (WJ (zI (zA rfl) zW) (abs_nat b)) zW)) rfl) (zT (zBP w) (zr (yu (zA rfl))))) rfl
def zCx(t:Int)(b:Nat)(h0:0<b)(hb:b<2^400):Js [.v (.int t),.v (.int b)]=.ok (.v (nrm t b),[.e,.e]):=by
 obtain⟨g0,g1⟩:=gcd_lt (t:=t.natAbs) h0 hb;have q:eqG (.int (b:Int)) (.int 0)=some (.v (.bl false)):=by
  rw[eq_int,decide_eq_false (by omega)]
 have l:ltD (.int (b:Int)) (.int 0)=some (.v (.bl false)):=by
  simp[ltD,zCy]
 have d1:=zCQ t _ g0 g1;have d2:=zCQ b _ g0 g1;rw[zGe]at d2;exact yl (zT (yt (t_E (yB (zA rfl) x_c q)) yw) (zT (jw (Ji rfl (zA rfl) (zA rfl) (e_gcd t b (zBU hb))) rfl) (zT (yt (t_E (yB (zA rfl) x_c l)) yw) (zr (yu (ZH (zI (zz (zA rfl) (zA rfl) d1) (zI (zz (zA rfl) (zA rfl) d2) zW)) rfl two_cap)))))) rfl
def sum_T(l:List Nat):zF0 [.t (N l)]=some (.v (.int (l.sum:Nat))):=by
 have sc:∀l:List Nat,(l.map λ(n:Nat)=>(n:Int)).sum=((l.sum:Nat):Int):=λl=>by
  induction l with
  |nil=>rfl|cons a l ih=>simp[ih]
 simp only[zF0,zEk,Option.map_some,sc]
def QJ{S n:Nat}(h:S<=27)(hn:n<=41):jr [.v (.int S),.v (.int n)]=.ok (.v (.int (S^n:Nat)),[.e,.e]):=by
 obtain⟨E1,f1,s3,hE,h3⟩:=jT (tg:=gN 3) (body:=dB J8 (.bOne (.sAug 2 .mul (.var 0)))) (λi E=>∃s3,E=[.v (.int S),.v (.int n),.v (.int (S^i:Nat)),s3]/\JZ s3=true) (DV.zH 0 n) 0 [.v (.int S),.v (.int n),.v (.int 1),.e] ⟨.e,by simp,rfl⟩ (λi d q E ⟨s3,hE,h3⟩=>by
  obtain⟨hi,rfl⟩:=wt _ _ _ _ q;rw[zero_add]at hE ⊢;refine⟨[.v (.int S),.v (.int n),.v (.int (S^i:Nat)),.v (.int (0+(i:Int)))],[.v (.int S),.v (.int n),.v (.int (S^(i+1):Nat)),.v (.int (0+(i:Int)))],?_,?_,_,rfl,rfl⟩
  ·subst hE;cases s3<;>first|rfl|(cases h3)
  ·have b1:S^i<2^800:=zBU (lt_of_le_of_lt (Nat.pow_le_pow_left h i) (p27 (by omega)))
   have m:Qt ((S^i:Nat):Int) (S:Int)=some ((S^(i+1):Nat):Int):=by
    unfold Qt;rw[if_pos (.inr ⟨GO (by rw[Int.natAbs_natCast];exact b1),GO (by rw[Int.natAbs_natCast];exact lt_of_le_of_lt h (by decide +kernel))⟩),pow_succ,Int.natCast_mul]
   exact zr (s_aug rfl (zA rfl) m rfl))
 rw[wu,zero_add]at hE;subst hE;have tn:((n:Nat):Int).toNat=n:=by omega
 exact yl (zT (jw x_c rfl) (zT (ZZ (zI (zA rfl) zW) rfl ⟨by omega,by omega⟩ (by rw[tn];exact f1)) (zr (yu (zA rfl))))) rfl
abbrev nn(a b:Nat):D:=nrm ((a:Nat):Int) b
abbrev tp(a b:Nat):Nat:=a/a.gcd b
abbrev bt(a b:Nat):Nat:=b/a.gcd b
def nn_is(a b:Nat):nn a b=.t [.int (tp a b:Nat),.int (bt a b:Nat)]:=by
 show D.t [.int (top' (a:Int) b),.int (bot' (a:Int) b:Nat)]=_
 rw[top_nat];rfl
def tp_le(a b:Nat):tp a b<=a:=Nat.div_le_self _ _
def bt_le(a b:Nat):bt a b<=b:=Nat.div_le_self _ _
def sumO(m:Nat):(replicate m 1).sum=m:=by simp
def e_any{m n k:Nat}(hm:2<=m/\m<=3)(hn:n<=40)(hk:k<=40):Jv [.v (tN (replicate m 1)),.v (.int (n:Nat)),.v (.int (k:Nat))]=.ok (.v (nn (A (replicate m 1) n k) (m^n)),O3):=by
 have ea:=ZJ (ws:=replicate m 1) (W:=tN (replicate m 1)) (n:=n) (k:=k) (.inr rfl) (λw hw=>by rw[(List.mem_replicate.mp hw).2];omega) (by simp;omega) (by omega) (by omega);have ds:okD (tN (replicate m 1))/\zGb (tN (replicate m 1))=true:=by
  refine⟨zGj (by simp;omega),?_⟩;rcases(show m=2\/m=3 by omega)with rfl|rfl<;>rfl
 have st:=sum_T (replicate m 1);rw[sumO]at st;have ei:jU [.v (tN (replicate m 1)),.v (.int (n:Nat)),.v (.int ((A (replicate m 1) n k:Nat):Int))]=.ok (.v (nn (A (replicate m 1) n k) (m^n)),O3) :=
  yl (zr (yu (Ji (F:=Js) rfl (zA rfl) (Ji (F:=jr) rfl (WJ (zI (zA rfl) zW) st) (zA rfl) (QJ (by omega) (by omega))) (zCx _ _ (pow_pos (by omega)) (w_pow (by omega) (by omega)))))) rfl
 exact yl (zT (jZ (yT (F:=Jt) rfl (zA rfl) (zCw _ ds.1 ds.2))) (zT (jZ (zi (F:=zN) rfl (zA rfl) x_c zAO (yU _ 0 40 rfl (zBY (zero_le _) hn)))) (zT (jZ (zi (F:=zN) rfl (zA rfl) x_c zAO (yU _ 0 40 rfl (zBY (zero_le _) hk)))) (zr (yu (zi (F:=jU) rfl (zA rfl) (zA rfl) (zi (F:=zx) rfl (zA rfl) (zA rfl) (zA rfl) ea) ei)))))) rfl
end My
namespace My
open PySem L2 DV SM
abbrev iv(n:Nat):DV.Slot:=.v (.int n)
abbrev mX02:D:=.t [.t [tN [1,0],tN [2,0],tN [2,2]],tN [0,1]]
abbrev mX12:D:=.t [.t [tN [0,1],tN [0,2],tN [2,2]],tN [0,1]]
abbrev mZ2:D:=.t [.t [tN [1,2],tN [3,2],tN [1,4],tN [3,5],tN [6,4],tN [3,7],tN [7,4],tN [7,7]],tN [0,1,2]]
abbrev mX03:D:=.t [.t [tN [1,0],tN [2,0],tN [3,0],tN [3,3]],tN [0,1,2]]
abbrev mX13:D:=.t [.t [tN [0,1],tN [0,2],tN [0,3],tN [3,3]],tN [0,1,2]]
abbrev mZ3:D:=.t [.t [tN [1,2],tN [3,2],tN [1,4],tN [5,2],tN [1,6],tN [5,7],tN [8,6],tN [5,9],tN [10,6],tN [5,11],tN [11,6],tN [11,11]],tN [0,1,2,3,4]]
def mach0:jV [iv 2,iv 0,iv 2]=.ok (.v mX02,O3)/\jV [iv 2,iv 1,iv 2]=.ok (.v mX12,O3)/\GJ [.v mX02,.v mX12]=.ok (.v mZ2,O2):=⟨by kernel_rfl,by kernel_rfl,by kernel_rfl⟩
def mach1:jV [iv 2,iv 0,iv 3]=.ok (.v mX03,O3)/\jV [iv 2,iv 1,iv 3]=.ok (.v mX13,O3)/\GJ [.v mX03,.v mX13]=.ok (.v mZ3,O2):=⟨by kernel_rfl,by kernel_rfl,by kernel_rfl⟩
abbrev g2:List (List Nat):=[[1,2],[3,2],[1,4],[3,5],[6,4],[3,7],[7,4],[7,7]]
abbrev g3:List (List Nat):=[[1,2],[3,2],[1,4],[5,2],[1,6],[5,7],[8,6],[5,9],[10,6],[5,11],[11,6],[11,11]]
def nxV(g:List (List Nat))(e:List Nat):List Nat:=(List.range g.length).map λt=>((g.zip e).map λp=>p.2*(p.1.filter (·=t)).length).sum
def vW(g:List (List Nat)):Nat->List Nat
 |0=>1::replicate (g.length-1) 0|i+1=>nxV g (vW g i)
def jW(g:List (List Nat)):Nat->List DV.Slot
 |0=>[.e,.e,.e,.e,.e,.e]|i+1=>[iv i,.v (.l (N (vW g (i+1)))),.v (tN (g.getLastD [])),iv ((vW g i).getLastD 0),iv 1,iv (g.length-1)]
abbrev mW(g:List (List Nat))(k:Nat):D:=.t [.t (g.map tN),tN (List.range (2*k-1))]
abbrev EW(g:List (List Nat))(k:Nat)(s:DV.Slot)(i:Nat):zS:=[.v (mW g k),.v (.l [.int 1,.int 1]),s,.v (.t (g.map tN)),.v (tN (List.range (2*k-1))),.v (.l (N (vW g i)))]++jW g i
abbrev EW'(g:List (List Nat))(k:Nat)(s:DV.Slot)(i:Nat):zS:=(EW g k s i).set 6 (.v (.int (0+(i:Int))))
def w_at2(s:DV.Slot):((List.range 20).map λ(i:Nat)=>gN 6 (.int (0+(i:Int))) (EW g2 2 s i))=(List.range 20).map λ(i:Nat)=>.ok (EW' g2 2 s i):=by kernel_rfl
def w_st2(s:DV.Slot):((List.range 20).map λ(i:Nat)=>dB zP yd (EW' g2 2 s i))=(List.range 20).map λ(i:Nat)=>.ok (.nx,EW g2 2 s (i+1)):=by kernel_rfl
def w_en2(s:DV.Slot):((List.range 21).map λ(i:Nat)=>dB zP (.bOne (.sRet (.cB .sum (.cons (.comp 1 ["stand"] ["ends"] [5] (.iT (.var 4)) (.n 0) .tTr (.ix (.var 1) (.var 0))) .nil)))) (EW g2 2 s i))=(List.range 21).map λ(i:Nat)=>.ok (.ret (.v (.int (A [1,1] i (2-1):Nat))),EW g2 2 s i):=by kernel_rfl
def w_ne2:yC [.v (mW g2 2)]=.ok (.v .non,O1)/\yK [.v (mW g2 2)]=.ok (.v (.int 2),O1):=⟨by kernel_rfl,by kernel_rfl⟩
def w_be2(s:DV.Slot):dS zP (.sTup [3,4] (.var 0)) [.v (mW g2 2),.v (.l [.int 1,.int 1]),s,.e,.e,.e,.e,.e,.e,.e,.e,.e]=.ok (.nx,(EW g2 2 s 0).set 5 .e)/\dS zP (.sSet 5 (.frz (.bin .add (.l (.cons (.c (.int 1)) .nil)) (.bin .mul (.l (.cons (.c (.int 0)) .nil)) (.bin .sub (.cB .len (.cons (.var 3) .nil)) (.c (.int 1))))))) ((EW g2 2 s 0).set 5 .e)=.ok (.nx,EW g2 2 s 0):=⟨by kernel_rfl,by kernel_rfl⟩
def w_at3(s:DV.Slot):((List.range 20).map λ(i:Nat)=>gN 6 (.int (0+(i:Int))) (EW g3 3 s i))=(List.range 20).map λ(i:Nat)=>.ok (EW' g3 3 s i):=by kernel_rfl
def w_st3(s:DV.Slot):((List.range 20).map λ(i:Nat)=>dB zP yd (EW' g3 3 s i))=(List.range 20).map λ(i:Nat)=>.ok (.nx,EW g3 3 s (i+1)):=by kernel_rfl
def w_en3(s:DV.Slot):((List.range 21).map λ(i:Nat)=>dB zP (.bOne (.sRet (.cB .sum (.cons (.comp 1 ["stand"] ["ends"] [5] (.iT (.var 4)) (.n 0) .tTr (.ix (.var 1) (.var 0))) .nil)))) (EW g3 3 s i))=(List.range 21).map λ(i:Nat)=>.ok (.ret (.v (.int (A [1,1] i (3-1):Nat))),EW g3 3 s i):=by kernel_rfl
def w_ne3:yC [.v (mW g3 3)]=.ok (.v .non,O1)/\yK [.v (mW g3 3)]=.ok (.v (.int 2),O1):=⟨by kernel_rfl,by kernel_rfl⟩
def w_be3(s:DV.Slot):dS zP (.sTup [3,4] (.var 0)) [.v (mW g3 3),.v (.l [.int 1,.int 1]),s,.e,.e,.e,.e,.e,.e,.e,.e,.e]=.ok (.nx,(EW g3 3 s 0).set 5 .e)/\dS zP (.sSet 5 (.frz (.bin .add (.l (.cons (.c (.int 1)) .nil)) (.bin .mul (.l (.cons (.c (.int 0)) .nil)) (.bin .sub (.cB .len (.cons (.var 3) .nil)) (.c (.int 1))))))) ((EW g3 3 s 0).set 5 .e)=.ok (.nx,EW g3 3 s 0):=⟨by kernel_rfl,by kernel_rfl⟩
def zE6{g:List (List Nat)}{k n:Nat}(hn:n<=20)(ne:yC [.v (mW g k)]=.ok (.v .non,O1)/\yK [.v (mW g k)]=.ok (.v (.int 2),O1))
  (be:dS zP (.sTup [3,4] (.var 0)) [.v (mW g k),.v (.l [.int 1,.int 1]),iv n,.e,.e,.e,.e,.e,.e,.e,.e,.e]=.ok (.nx,(EW g k (iv n) 0).set 5 .e)/\dS zP (.sSet 5 (.frz (.bin .add (.l (.cons (.c (.int 1)) .nil)) (.bin .mul (.l (.cons (.c (.int 0)) .nil)) (.bin .sub (.cB .len (.cons (.var 3) .nil)) (.c (.int 1))))))) ((EW g k (iv n) 0).set 5 .e)=.ok (.nx,EW g k (iv n) 0))
  (at_:((List.range 20).map λ(i:Nat)=>gN 6 (.int (0+(i:Int))) (EW g k (iv n) i))=(List.range 20).map λ(i:Nat)=>.ok (EW' g k (iv n) i))
  (st:((List.range 20).map λ(i:Nat)=>dB zP yd (EW' g k (iv n) i))=(List.range 20).map λ(i:Nat)=>.ok (.nx,EW g k (iv n) (i+1)))
  (en:((List.range 21).map λ(i:Nat)=>dB zP (.bOne (.sRet (.cB .sum (.cons (.comp 1 ["stand"] ["ends"] [5] (.iT (.var 4)) (.n 0) .tTr (.ix (.var 1) (.var 0))) .nil)))) (EW g k (iv n) i))=(List.range 21).map λ(i:Nat)=>.ok (.ret (.v (.int (A [1,1] i (k-1):Nat))),EW g k (iv n) i)) :
  jY [.v (mW g k),.v (.int (n:Nat))]=.ok (.v (.int (A [1,1] n (k-1):Nat)),O2):=by
 obtain⟨E1,f1,hE⟩:=jT (tg:=gN 6) (body:=dB zP yd) (λi E=>E=EW g k (iv n) i) (DV.zH 0 n) 0 (EW g k (iv n) 0) rfl (λi d q E hE=>by
  obtain⟨hi,rfl⟩:=wt _ _ _ _ q;rw[zero_add]at hE ⊢;subst hE;have hi':=mem_range.mpr (show i<20 by omega);exact⟨_,_,List.map_inj_left.mp at_ i hi',List.map_inj_left.mp st i hi',rfl⟩)
 rw[wu,zero_add]at hE;subst hE;have e:=List.map_inj_left.mp en n (mem_range.mpr (by omega));have w:ju [.v (mW g k),.v (.l [.int 1,.int 1]),.v (.int (n:Nat))]=.ok (.v (.int (A [1,1] n (k-1):Nat)),O3) :=
  yl (zT be.1 (zT be.2 (zT (ZZ (tg:=.n 6) (j:=(n:Int)) (zI (zA rfl) zW) rfl ⟨by omega,by omega⟩ (by rw[Int.toNat_natCast];exact f1)) e))) rfl
 exact yl (zT (jZ (yT (F:=yC) rfl (zA rfl) ne.1)) (zT (jZ (zi (F:=zN) rfl (zA rfl) x_c zAO (yU _ 0 40 rfl (zBY (zero_le _) (show n<=40 by omega))))) (zr (yu (zi (F:=ju) rfl (zA rfl) (zz (QA (zI x_c zW) rfl yx) (yT (F:=yK) rfl (zA rfl) ne.2) (Wf (.int 1) 2 (by omega))) (zA rfl) w))))) rfl
def e_mach{k n:Nat}(hk:k=2\/k=3)(hn:n<=20):∃X Y Z,jV [.v (.int 2),.v (.int 0),.v (.int (k:Nat))]=.ok (.v X,O3)/\jV [.v (.int 2),.v (.int 1),.v (.int (k:Nat))]=.ok (.v Y,O3)/\GJ [.v X,.v Y]=.ok (.v Z,O2)/\jY [.v Z,.v (.int (n:Nat))]=.ok (.v (.int (wy 2 k [] n:Nat)),O2):=by
 rw[wy_A (by omega) (by omega)];rcases hk with rfl|rfl
 ·exact⟨_,_,_,mach0.1,mach0.2.1,mach0.2.2,zE6 hn w_ne2 (w_be2 _) (w_at2 _) (w_st2 _) (w_en2 _)⟩
 ·exact⟨_,_,_,mach1.1,mach1.2.1,mach1.2.2,zE6 hn w_ne3 (w_be3 _) (w_at3 _) (w_st3 _) (w_en3 _)⟩
theorem U0(w o:Nat):∀n,zCF w o 0 n=[o^n]
 |0=>rfl|n+1=>by simp[zCF,U0 w o n,pow_succ,mul_comm]
def zHl{m n:Nat}(hm:1<=m)(hn:0<n):wy m 2 [] n=m*(m-1)^(n-1):=by
 rw[wy_A hm (by omega),zHf m n (2-1) hm,if_neg (by omega),if_neg (by omega)];show m*(zCF 1 (m-1) 0 (n-1)).sum=_;rw[U0];simp
def wy_pos{m n k:Nat}(hm:2<=m)(hk:2<=k):0<wy m k [] n:=by
 have h2:0<wy m 2 [] n:=by
  by_cases hn:n=0
  ·subst hn;rw[Ze];exact Nat.lt_of_lt_of_eq Nat.one_pos (if_pos rfl).symm
  ·rw[zHl (by omega) (by omega)];exact Nat.mul_pos (by omega) (pow_pos (by omega))
 refine lt_of_lt_of_le h2 ?_;unfold wy;rw[<- List.countP_eq_length_filter,<- List.countP_eq_length_filter];refine List.countP_mono_left λt _ h=>?_
 simp only[fr,decide_eq_true_eq]at h ⊢;omega
def two(m i:Nat):Nat:=if i=0 then m else m*(m-1)^(i-1)
def two_lt{m i:Nat}(hm:2<=m/\m<=3)(hi:i<=20):two m i<2^400:=by
 unfold two;split
 ·exact s27 (by omega)
 ·have h1:(m-1)^(i-1)<=2^20:=le_trans (Nat.pow_le_pow_left (show m-1<=2 by omega) _) (Nat.pow_le_pow_right (by omega) (by omega))
  exact lt_of_le_of_lt (Nat.mul_le_mul hm.2 h1) (by decide +kernel)
def zGm{v pn:DV.Slot}{c:D}{m n k y:Nat}(hm:2<=m/\m<=3)(hn:n<=20)(x9 x10 x11:DV.Slot)(h9:JZ x9=true):∃x,DV.vA (gN 9) (dB GK zBF) (DV.zH 0 n) [v,.v c,pn,.v (.int (m:Nat)),.v (.int (n:Nat)),.v (.int (k:Nat)),.v (.int (y:Nat)),.v (.int (m:Nat)),.v (.int 1),x9,x10,x11]=.ok (.nx,[v,.v c,pn,.v (.int (m:Nat)),.v (.int (n:Nat)),.v (.int (k:Nat)),.v (.int (y:Nat)),.v (.int (two m n:Nat)),.v (.int (m^n:Nat)),x,x10,x11])/\JZ x=true:=by
 obtain⟨E1,f1,x,hE,hx⟩:=jT (tg:=gN 9) (body:=dB GK zBF) (λi E=>∃x,E=[v,.v c,pn,.v (.int (m:Nat)),.v (.int (n:Nat)),.v (.int (k:Nat)),.v (.int (y:Nat)),.v (.int (two m i:Nat)),.v (.int (m^i:Nat)),x,x10,x11]/\JZ x=true) (DV.zH 0 n) 0 [v,.v c,pn,.v (.int (m:Nat)),.v (.int (n:Nat)),.v (.int (k:Nat)),.v (.int (y:Nat)),.v (.int (m:Nat)),.v (.int 1),x9,x10,x11] ⟨x9,rfl,h9⟩ (λi d q E ⟨x,hE,hx⟩=>by
  obtain⟨hi,rfl⟩:=wt _ _ _ _ q;rw[zero_add]at hE ⊢;refine⟨[v,.v c,pn,.v (.int (m:Nat)),.v (.int (n:Nat)),.v (.int (k:Nat)),.v (.int (y:Nat)),.v (.int (two m i:Nat)),.v (.int (m^i:Nat)),.v (.int (i:Nat)),x10,x11],[v,.v c,pn,.v (.int (m:Nat)),.v (.int (n:Nat)),.v (.int (k:Nat)),.v (.int (y:Nat)),.v (.int (two m (i+1):Nat)),.v (.int (m^(i+1):Nat)),.v (.int (i:Nat)),x10,x11],?_,?_,_,rfl,rfl⟩
  ·subst hE;rw[Int.zero_add];exact j9 (r:=.v (.int (i:Nat))) rfl hx rfl
  ·have m1:=QE (m^i) m (zBU (w_pow (by omega) (by omega))) (zBU (s27 (by omega)))
   rw[<- pow_succ]at m1;have sm:WR (.int (m:Nat)) (.int 1)=some (.v (.int ((m-1:Nat):Int))):=sub_m hm;have g0:gtD (.int (i:Nat)) (.int 0)=some (.v (.bl (decide (0<i)))):=YZ i 0;refine zT (E1:=[v,.v c,pn,.v (.int (m:Nat)),.v (.int (n:Nat)),.v (.int (k:Nat)),.v (.int (y:Nat)),.v (.int (two m i:Nat)),.v (.int (m^(i+1):Nat)),.v (.int (i:Nat)),x10,x11]) (jw (zz (zA rfl) (zA rfl) m1) rfl) (zr ?_);by_cases hz:i=0
   ·subst hz
    exact yt (t_E (yB (zA rfl) x_c g0)) (by rw[show two m (0+1)=two m 0 by simp[two]];exact yw)
   ·rw[decide_eq_true (by omega)]at g0
    have m2:=QE (two m i) (m-1) (zBU (two_lt hm (by omega))) (zBU (s27 (by omega)));have e2:two m i*(m-1)=two m (i+1):=by
     unfold two;rw[if_neg hz,if_neg (by omega),show i+1-1=(i-1)+1 by omega,pow_succ,mul_assoc]
    rw[e2]at m2;exact v3 (t_E (yB (zA rfl) x_c g0)) (zr (jw (zz (zA rfl) (zz (zA rfl) x_c sm) m2) rfl)))
 rw[wu,zero_add]at hE;subst hE;exact⟨x,f1,hx⟩
def Zf{i:Nat}{is:List Nat}{d:D}{ds:List D}{E E1 E2:zS}(h:Yt i (.v d) E=.ok E1)(k:gNs is ds E1=.ok E2):gNs (i::is) (d::ds) E=.ok E2:=by
 show(match Yt i (.v d) E with | .ok E1=>gNs is ds E1|_=>.z)=_
 rw[h];exact k
def InL(v:D)(E:zS):Prop:=∃s1 s2 s3 s4 s5 s6 s7 s8 s9 s10 s11,E=[.v v,s1,s2,s3,s4,s5,s6,s7,s8,s9,s10,s11]/\∀x∈[s1,s2,s3,s4,s5,s6,s7,s8,s9,s10,s11],JZ x=true
def cell_ok(v:D)(c:Int)(t2 t3 t4 t5 t6 t7 t8 t9 t10 t11:DV.Slot)(hp:∀x∈[t2,t3,t4,t5,t6,t7,t8,t9,t10,t11],JZ x=true):∃E2,dB GK zBG [.v v,.v (.int c),t2,t3,t4,t5,t6,t7,t8,t9,t10,t11]=.ok (.nx,E2)/\InL v E2:=by
 obtain⟨p,e1,hpn⟩:=QD c;obtain⟨a,p1,d1,l1,hp1⟩:=Wj p hpn 2 (by omega) (by omega);obtain⟨n,p2,d2,l2,hp2⟩:=Wj p1 hp1 21 (by omega) (by omega);obtain⟨b,p3,d3,l3,hp3⟩:=Wj p2 hp2 8 (by omega) (by omega);have am:zAa (.int 2) (.int (a:Nat))=some (.v (.int ((2+a:Nat):Int))):=zBS 2 a;have ak:zAa (.int 2) (.int (b:Nat))=some (.v (.int ((2+b:Nat):Int))):=zBS 2 b;have hm:2<=2+a/\2+a<=3:=by omega
 have hk:2<=2+b/\2+b<=9:=by omega
 generalize 2+a=m at am hm;generalize 2+b=k at ak hk;have od:Od m n k:=⟨hm,by omega,by omega⟩;have od2:Od m n 2:=⟨hm,by omega,by omega⟩;obtain⟨q,p4,d4,l4,hp4⟩:=Wj p3 hp3 (wy m k [] n) (wy_pos hm.1 hk.1) (wy_lt hm.2 (by omega));have er:=e_right od l4;have ef:yJ [.v (.int (m:Nat)),.v (.int (n:Nat)),.v (.int (k:Nat)),.v (.t [])]=.ok (.v (.int ((wy m k [] n:Nat):Int)),O4):=zCY od (r:=[]) (zero_le _) (λx h=>by cases h);have g2:=hp t2 (by simp);have g3:=hp t3 (by simp);have g4:=hp t4 (by simp);have g5:=hp t5 (by simp);have g6:=hp t6 (by simp);have g7:=hp t7 (by simp);have g8:=hp t8 (by simp);have g9:=hp t9 (by simp);have g10:=hp t10 (by simp);have g11:=hp t11 (by simp);obtain⟨x,lp,hx⟩:=zGm (v:=.v v) (pn:=.own p4) (c:=.int c) (m:=m) (n:=n) (k:=k) (y:=wy m k [] n) hm (by omega) t9 t10 t11 g9;have ea:=e_any (m:=m) (n:=n) (k:=k-1) hm (by omega) (by omega);have eW:A (replicate m 1) n (k-1)=wy m k [] n:=(wy_A (by omega) (by omega) n).symm;rw[eW,nn_is]at ea;have pm:0<m^n:=pow_pos (by omega);have cr:=cross (c:=0) (a:=wy m k [] n) (u:=wy m k [] n) pm rfl;have w1:=wy_lt (m:=m) (k:=k) (r:=[]) hm.2 (show n<=20 by omega);have big:(2:Nat)^100<2^800:=by decide +kernel
 have p1':m^n<2^800:=zBU (w_pow (by omega) (by omega));have m1:=QE (tp (wy m k [] n) (m^n)) (m^n) (lt_of_le_of_lt (tp_le _ _) (lt_trans w1 big)) p1';have m2:=QE (wy m k [] n) (bt (wy m k [] n) (m^n)) (lt_trans w1 big) (lt_of_le_of_lt (bt_le _ _) p1');rw[show tp (wy m k [] n) (m^n)*m^n=wy m k [] n*bt (wy m k [] n) (m^n)from cr]at m1;have ones:WT (.t [.int 1]) (.int (m:Nat))=some (.v (tN (replicate m 1))):=by
  have:=zGa (.int 1) m (by omega);rw[this];simp[tN,N]
 have sk:WR (.int (k:Nat)) (.int 1)=some (.v (.int ((k-1:Nat):Int))):=wA (b:=1) (by omega);have G0:gtD (.int (n:Nat)) (.int 0)=some (.v (.bl (decide (0<n)))):=YZ n 0;have E2:eqG (.int (m:Nat)) (.int 2)=some (.v (.bl (decide (m=2)))):=zHb m 2;have L4:ltD (.int (k:Nat)) (.int 4)=some (.v (.bl (decide (k<4)))):=lt_nat k 4
 let Y:D:=.int (wy m k [] n:Nat)
 let fr3:zS:=[.v v,.v (.int c),.own p4,.v (.int (m:Nat)),.v (.int (n:Nat)),.v (.int (k:Nat)),.v Y,.v (.int (two m n:Nat)),.v (.int (m^n:Nat)),x,t10,t11]
 refine⟨[.v v,.v (.int c),.own p4,.v (.int (m:Nat)),.v (.int (n:Nat)),.v (.int (k:Nat)),.v Y,.v (.int (two m n:Nat)),.v (.int (m^n:Nat)),x,.v (.int (tp (wy m k [] n) (m^n):Nat)),.v (.int (bt (wy m k [] n) (m^n):Nat))],?_,_,_,_,_,_,_,_,_,_,_,_,rfl,λz hz=>?_⟩
 ·refine zT (E1:=[.v v,.v (.int c),.own p,t3,t4,t5,t6,t7,t8,t9,t10,t11]) (jw (yT (F:=jC) rfl (zA rfl) e1) (j9 rfl g2 rfl)) ?_
  refine zT (E1:=[.v v,.v (.int c),.own p1,.v (.int (m:Nat)),t4,t5,t6,t7,t8,t9,t10,t11]) (jw (zz x_c (We (F:=yL) rfl rfl x_c d1 rfl) am) (j9 rfl g3 rfl)) ?_;refine zT (E1:=[.v v,.v (.int c),.own p3,.v (.int (m:Nat)),.v (.int (n:Nat)),.v (.int (k:Nat)),t6,t7,t8,t9,t10,t11]) (zGX (zI (We (F:=yL) rfl rfl x_c d2 rfl) (zI (zz x_c (We (F:=yL) rfl rfl x_c d3 rfl) ak) zW)) (Zf (j9 rfl g4 rfl) (Zf (j9 rfl g5 rfl) rfl))) ?_;refine zT (E1:=[.v v,.v (.int c),.own p3,.v (.int (m:Nat)),.v (.int (n:Nat)),.v (.int (k:Nat)),.v Y,t7,t8,t9,t10,t11]) (jw (zi (F:=yS) rfl (zA rfl) (zA rfl) (zA rfl) (zCZ od)) (j9 rfl g6 rfl)) ?_;refine zT (E1:=[.v v,.v (.int c),.own p4,.v (.int (m:Nat)),.v (.int (n:Nat)),.v (.int (k:Nat)),.v Y,t7,t8,t9,t10,t11]) (yt (zC3 (t_E (yB (zA rfl) (yi (F:=yJ) rfl (zA rfl) (zA rfl) (zA rfl) (ZH zW rfl Za) ef) (QH _))) (WY (t_E (x_call5 (F:=yo) rfl (zA rfl) (zA rfl) (zA rfl) (We (F:=yL) rfl rfl (zA rfl) d4 rfl) (zA rfl) er)) rfl)) yw) ?_;refine zT (E1:=[.v v,.v (.int c),.own p4,.v (.int (m:Nat)),.v (.int (n:Nat)),.v (.int (k:Nat)),.v Y,.v (.int (m:Nat)),.v (.int 1),t9,t10,t11]) (zGX (zI (zA rfl) (zI x_c zW)) (Zf (j9 rfl g7 rfl) (Zf (j9 rfl g8 rfl) rfl))) ?_;refine zT (E1:=fr3) (ZZ (tg:=.n 9) (j:=(n:Int)) (zI (zA rfl) zW) rfl ⟨by omega,by omega⟩ (by rw[Int.toNat_natCast];exact lp)) ?_;refine zT (E1:=fr3) ?_ ?_
  ·by_cases hn:n=0
   ·rw[decide_eq_false (by omega)]at G0
    exact yt (zCI (t_E (yB (zA rfl) x_c G0))) yw
   ·rw[decide_eq_true (by omega)]at G0
    have e2:=zCZ od2;rw[zHl (by omega) (by omega)]at e2;have e3:m*(m-1)^(n-1)=two m n:=(if_neg hn).symm;rw[e3]at e2;exact yt (zAR (t_E (yB (zA rfl) x_c G0)) (t_E (yB (zi (F:=yS) rfl (zA rfl) (zA rfl) x_c e2) (zA rfl) (QH _)))) yw
  refine zT (E1:=[.v v,.v (.int c),.own p4,.v (.int (m:Nat)),.v (.int (n:Nat)),.v (.int (k:Nat)),.v Y,.v (.int (two m n:Nat)),.v (.int (m^n:Nat)),x,.v (.int (tp (wy m k [] n) (m^n):Nat)),.v (.int (bt (wy m k [] n) (m^n):Nat))]) (s_tup (zi (F:=Jv) rfl (zz (ZH (zI x_c zW) rfl yx) (zA rfl) ones) (zA rfl) (zz (zA rfl) x_c sk) ea) (Zf (j9 rfl g10 rfl) (Zf (j9 rfl g11 rfl) rfl))) ?_;refine zT (yt (t_E (yB (zz (zA rfl) (zA rfl) m1) (zz (zA rfl) (zA rfl) m2) (QH _))) yw) (zr ?_);by_cases h2:m=2
  ·rw[decide_eq_true h2]at E2
   by_cases h4:k<4
   ·rw[decide_eq_true h4]at L4
    subst h2;obtain⟨X,Y',Z,f0,f1,f2,f3⟩:=e_mach (k:=k) (n:=n) (by omega) (by omega);exact yt (zAR (t_E (yB (zA rfl) x_c E2)) (zAR (t_E (yB (zA rfl) x_c L4)) (t_E (yB (Ji (F:=jY) rfl (Ji (F:=GJ) rfl (zi (F:=jV) rfl x_c x_c (zA rfl) f0) (zi (F:=jV) rfl x_c x_c (zA rfl) f1) f2) (zA rfl) f3) (zA rfl) (QH _))))) yw
   ·rw[decide_eq_false h4]at L4
    exact yt (zAR (t_E (yB (zA rfl) x_c E2)) (zCI (t_E (yB (zA rfl) x_c L4)))) yw
  ·rw[decide_eq_false h2]at E2
   exact yt (zCI (t_E (yB (zA rfl) x_c E2))) yw
 ·simp only[mem_cons,mem_nil_iff,or_false]at hz
  rcases hz with rfl|rfl|rfl|rfl|rfl|rfl|rfl|rfl|rfl|rfl|rfl<;>first|exact hx|rfl
def math65(ns:List Int)(hns:ns.length<=63):∃outs,m_law [.v (.l (ns.map D.int))]=.ok (.v (.bl true),outs):=by
 obtain⟨c,e2⟩:=uR ns;have hcut:zBo (ns.map D.int) (some 1) (some 4)=((ns.drop (HT.sIx ns.length 0 (some 1))).take (HT.sIx ns.length ns.length (some 4)-HT.sIx ns.length 0 (some 1))).map D.int:=by
  unfold zBo;simp[List.map_drop,List.map_take]
 generalize hk:(ns.drop (HT.sIx ns.length 0 (some 1))).take (HT.sIx ns.length ns.length (some 4)-HT.sIx ns.length 0 (some 1))=k at hcut;have hkl:k.length<=63:=by rw[<- hk];simp;omega
 have c1:slD (.l (ns.map D.int)) (some 1) (some 4)=some (.own (k.map D.int)):=by simp only[slD,hcut]
 have c2:=QB [.int c] (k.map D.int) (by simp;omega);generalize hv:D.l (ns.map D.int)=v at e2 c1;obtain⟨E',f1,u1,u2,u3,u4,u5,u6,u7,u8,u9,u10,u11,hE,_⟩:=jT (tg:=gN 1) (body:=dB GK zBG) (λ_ E=>InL v E) ([.int c]++k.map D.int) 0 [.v v,.e,.e,.e,.e,.e,.e,.e,.e,.e,.e,.e] ⟨_,_,_,_,_,_,_,_,_,_,_,rfl,λx hx=>by
   simp only[mem_cons,mem_nil_iff,or_false,or_self]at hx;rw[hx];rfl⟩
  (λi d q E ⟨s1,s2,s3,s4,s5,s6,s7,s8,s9,s10,s11,hE,hs⟩=>by
   obtain⟨x,rfl⟩:∃x:Int,d=.int x:=by
    have:=mem_of_getElem? q;rcases mem_append.mp this with m|m
    ·exact⟨c,mem_singleton.mp m⟩
    ·obtain⟨x,_,rfl⟩:=mem_map.mp m;exact⟨x,rfl⟩
   obtain⟨E2,f1,f2⟩:=cell_ok v x s2 s3 s4 s5 s6 s7 s8 s9 s10 s11 (λy hy=>hs y (qD _ hy));refine⟨[.v v,.v (.int x),s2,s3,s4,s5,s6,s7,s8,s9,s10,s11],E2,?_,f1,f2⟩;have h1:=hs s1 (by simp);subst hE;cases s1<;>first|rfl|(cases h1))
 subst hE;refine⟨_,yl (r:=.v (.bl true)) (E1:=[.v v,u1,u2,u3,u4,u5,u6,u7,u8,u9,u10,u11]) ?_ rfl⟩;exact zT (s_forL (zz (QA (zI (Ji (F:=yk) rfl (zA rfl) x_c e2) zW) rfl yx) (x_sl (zA rfl) (o_S x_c) (o_S x_c) c1) c2) rfl f1) (zr (yu x_c))
end My
namespace My
open PySem L2 DV
def txt_lk{K:qH}{h:Heap}{mg:Str->Option Value}(X:K.In h)(G:h.Ns mainGlobals mg)(e:Wu K=wants):Txt K mg :=
 have e1:=congrArg (λx:lkT=>x.1) e;have e2:=congrArg (λx:lkT=>x.2.1) e;have e3:=congrArg (λx:lkT=>x.2.2.1) e
 {n_abs:=Y4 X G (ix 0 e3),n_all:=Y4 X G (ix 1 e3),n_bool:=Y4 X G (ix 2 e3),n_enumerate:=Y4 X G (ix 3 e3),n_int:=Y4 X G (ix 4 e3),n_isinstance:=Y4 X G (ix 5 e3),n_len:=Y4 X G (ix 6 e3),n_list:=Y4 X G (ix 7 e3),n_max:=Y4 X G (ix 8 e3),n_range:=Y4 X G (ix 9 e3),n_reversed:=Y4 X G (ix 10 e3),n_sum:=Y4 X G (ix 11 e3),n_tuple:=Y4 X G (ix 12 e3),n_zip:=Y4 X G (ix 13 e3),c_LEAST_SIGNS:=uI X G (ix 0 e2),c_LEAST_WEIGHT:=uI X G (ix 1 e2),c_MOST_COUNTED:=uI X G (ix 2 e2),c_MOST_FREE:=uI X G (ix 3 e2),c_MOST_SIGNS:=uI X G (ix 4 e2),c_MOST_STANDS:=uI X G (ix 5 e2),c_MOST_TAKEN:=uI X G (ix 6 e2),c_MOST_THROWS:=uI X G (ix 7 e2),c_MOST_WATCHED:=uI X G (ix 8 e2),c_MOST_WEIGHT:=uI X G (ix 9 e2),f_is_whole:=zn X G (ix 0 e1),f_is_whole_within:=zn X G (ix 1 e1),f_greatest_divisor:=zn X G (ix 2 e1),f_whole_power:=zn X G (ix 3 e1),f_share_of:=zn X G (ix 4 e1),f_die_good:=zn X G (ix 5 e1),f_sign_good:=zn X G (ix 6 e1),f_row_good:=zn X G (ix 7 e1),f_row_good_of:=zn X G (ix 8 e1),f_need_die:=zn X G (ix 9 e1),f_need_row:=zn X G (ix 10 e1),f_need_number:=zn X G (ix 11 e1),f_need_signs:=zn X G (ix 12 e1),f_need_sign:=zn X G (ix 13 e1),f_greatest_length:=zn X G (ix 14 e1),f_runs_of:=zn X G (ix 15 e1),f_longest_any:=zn X G (ix 16 e1),f_weigh_alike_upto:=zn X G (ix 17 e1),f_need_free_length:=zn X G (ix 18 e1),f_need_ordered:=zn X G (ix 19 e1),f_ways_on:=zn X G (ix 20 e1),f_free_many:=zn X G (ix 21 e1),f_free_nth:=zn X G (ix 22 e1),f_free_rank:=zn X G (ix 23 e1),f_free_next:=zn X G (ix 24 e1),f_need_begun:=zn X G (ix 25 e1),f_free_begun:=zn X G (ix 26 e1),f_next_signs:=zn X G (ix 27 e1),f_share_in_all:=zn X G (ix 28 e1),f_any_upto:=zn X G (ix 29 e1),f_all_within:=zn X G (ix 30 e1),f_steps_good:=zn X G (ix 31 e1),f_rising_stands:=zn X G (ix 32 e1),f_machine_good:=zn X G (ix 33 e1),f_need_machine:=zn X G (ix 34 e1),f_signs_read:=zn X G (ix 35 e1),f_need_alike:=zn X G (ix 36 e1),f_weigh_taken:=zn X G (ix 37 e1),f_taken_many:=zn X G (ix 38 e1),f_run_machine:=zn X G (ix 39 e1),f_contrary:=zn X G (ix 40 e1),f_no_run:=zn X G (ix 41 e1),f_pair_behind:=zn X G (ix 42 e1),f_met_pairs:=zn X G (ix 43 e1),f_good_many:=zn X G (ix 44 e1),f_joined:=zn X G (ix 45 e1),f_both:=zn X G (ix 46 e1),f__law_cell_at:=zn X G (ix 47 e1),f__law_next:=zn X G (ix 48 e1),f__law_pen_of:=zn X G (ix 49 e1),f__law_draw:=zn X G (ix 50 e1),f__law_row_right:=zn X G (ix 51 e1),f_law:=zn X G (ix 52 e1),cl:=cl_at X G (congrArg (λx:lkT=>x.2.2.2) e)}
end My
end
open PySem PySem.W PyProof.Rows
set_option maxRecDepth 100000 in
set_option maxHeartbeats 0 in
theorem PySem.Challenge.cw_throwruns_k65_whole_free_rows_holds : PySem.Challenge.rw_throwruns_k65_whole_free_rows.Holds := by
 w_on;refine holds_law My.hz λsaid=>?_
 refine holds_open (q:=My.q) (loose:=My.ls) (Xt:=λs=>xlAt My.q [] s&&recOk (RowW.records (OpenLaw.row PySem.Challenge.rw_throwruns_k65_whole_free_rows).toRowW) s) (XP:=XL My.q []) (Yf:=λs=>My.Wu (DV.Yb s.heap My.as)) (Ya:=λ_=>My.wants) (YP:=(DV.zCA My.as My.lkT My.Wu My.wants).says) (N:=6150) My.hl (DV.zCA My.as My.lkT My.Wu My.wants).of (DV.zCA My.as My.lkT My.Wu My.wants).keeps (λs e=>xl_of s (Bool.and_eq_true_iff.mp e).1) XL.keeps (by rfl) (by rfl) (by rfl) (λs e=>recFacts_of (Bool.and_eq_true_iff.mp e).2) ?h4 ?h5 ?h6 ⟨rfl,rfl,rfl,rfl,rfl,by decide +kernel⟩ ?hw ?hc
 case h4=>rfl
 case h5=>first|assumption|decide +kernel
 case h6=>decide +kernel
 case hw=>w_witness2
 case hc=>exact DV.walkE (l:=PySem.Challenge.rw_throwruns_k65_whole_free_rows) (x:="_law_script") My.math65 rfl rfl λw K mg fa h KX e G hmg=>My.law_fd hmg (My.txt_lk KX G e)
