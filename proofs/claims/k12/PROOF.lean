import PyProof.Rows.All
import KE.KFromBytes
import KE.KSortTup
import KE.KIsAll
import KE.KRevIter
import PySem.Challenge.RW_throwruns_k12_whole_counts
set_option Elab.async false
set_option linter.all false
set_option genSizeOf false
set_option genSizeOfSpec false
set_option genInjectivity false
set_option maxRecDepth 100000
set_option maxHeartbeats 0
theorem DV.nf{P:Prop}(h:false=true):P:=absurd h Bool.false_ne_true
open List (mem_filter mem_range filterMap_cons mem_cons_self mem_cons_of_mem mem_cons mem_append mem_append_left getElem?_set_self getElem?_set_ne set_comm mem_filterMap mem_append_right append_nil nodup_cons of_mem_zip replicate length getElem?_append_right getElem?_append_left getElem?_map mem_of_getElem? length_append length_map length_replicate size_toArray length_drop reverse_cons replicate_succ flatten_cons foldl append_assoc map_cons sublist_cons_self nodup_append nil_append perm_append_comm sublist_append_right cons_append length_cons all_cons drop_eq_getElem_cons drop_length perm_middle zip_cons_cons zip_append lookup_cons all_eq_true mem_nil_iff getD_eq_getElem?_getD getElem?_eq_getElem getElem_toArray getElem_mem sum_append mem_singleton zipWith mem_map isEmpty_iff filter_cons length_nil filter_eq_self map_map range_succ map_append map_congr_left sum_cons flatMap_cons foldr_cons range' getD map_take)
open Nat (lt_of_lt_of_le lt_irrefl ne_of_lt le_trans ne_of_gt le_refl zero_le lt_succ_self mul_comm lt_trans lt_succ_of_lt not_lt le_succ zero_add pow_succ mul_assoc mul_add add_mul gcd_comm gcd_rec lt_of_le_of_lt pow_le_pow_left sub_self min_eq_right min_eq_left)
open PySem.W (clsIn typeIn findIn specialIn takesIn nsIn codeIn keepIn fnOf excIn instObj methodObj hideAll hideAll_get of_hideAll plainGet emptyDict mroIn cellsFrom_some codeRec_of kitOne kia_one mg_of)
open PySem.Heap (lt_size get?_push_of_some get?_push_size size_push get?_update_other)
noncomputable section
namespace L2
open PySem
def J5(s:Stmt):Arguments:=match s with
 | .FunctionDef _ a _ _ _ _ _ _ _ _=>a
 |_=>{posonlyargs:=[],args:=[],vararg:=none,kwonlyargs:=[],kw_defaults:=[],kwarg:=none,defaults:=[]}
def jS(s:Stmt):List Stmt:=match s with
 | .FunctionDef _ _ b _ _ _ _ _ _ _=>b
 |_=>[]
def zb(s:Stmt):Scope:=match s with
 | .FunctionDef _ _ _ _ _ _ sc _ _ _=>sc
 |_=>{kind:=.function,names:=[],isGenerator:=false,isCoroutine:=false}
end L2
namespace DV
open PySem L2
abbrev VB:List Value:=[.type "ValueError",.type "Exception",.type "BaseException",.type "object"]
def xIn(K:PySem.W.Frag)(c:Str)(C T:Addr):Bool:=(match clsIn K C with|some cd=>cd.name==c&&cd.mro==[.ref C,.ref T,.type "ValueError",.type "Exception",.type "BaseException",.type "object"]|none=>false)
 && typeIn K (.ref C)==some (.type "type")&&findIn K (.ref C) "__getattribute__" == some (some (.builtin "BaseException.__getattribute__"))&&findIn K (.ref C) "__getattr__" == some none
 && findIn K (.ref C) "__class__" == some (some (.builtin "object.__class__"))&&specialIn K (.builtin "object.__class__") "__get__" == some (some (.builtin "getset_descriptor.__get__"))&&takesIn K (.builtin "object.__class__")==some true&&!(C==T)
def tIn(K:PySem.W.Frag)(T:Addr):Bool:=(match clsIn K T with|some cd=>cd.mro==(.ref T::VB)|none=>false)&&typeIn K (.ref T)==some (.type "type")
def isFr:Obj->Bool
 |⟨_,_,.freed,_⟩=>true
 |_=>false
def GJ:List Obj->Nat->List Addr->PySem.W.Frag
 | [],_,_=>[]
 |_::_,_,[]=>[]
 |o::os,i,a::as=>match Nat.beq i a with
  |true=>(match isFr o with
   |true=>GJ os (i+1) as
   |false=>(i,o)::GJ os (i+1) as)
  |false=>GJ os (i+1) (a::as)
def YT(h:Heap)(as:List Addr):PySem.W.Frag:=GJ h.objs.toList 0 as
def FvT:Type:=Bool×Str×Str×Arguments×FuncBody×Scope×Addr×List (Str×Addr)×Value×Addr
def fvOf(b:Bool)(fd:FuncData):FvT:=(b,fd.name,fd.qualname,fd.params,fd.body,fd.scope,fd.globals,fd.closure,fd.defaults,fd.builtins)
def zt(K:PySem.W.Frag)(n:Str):Option FvT:=match nsIn K mainGlobals n with
 |some (some (.ref a))=>(match K.lookup a with
  |some ⟨_,_,.func fd,_⟩=>some (fvOf (codeIn K fd.code n&&keepIn K (.ref a)) fd)
  |_=>none)
 |_=>none
def zz(n:Str)(st:Stmt):Option FvT:=some (fvOf true (fnOf n n (J5 st) (jS st) (zb st) .none .none .none .none none .none .none))
def YU(K:PySem.W.Frag)(n:Str):Option Int:=match nsIn K mainGlobals n with
 |some (some (.int i _))=>some i
 |_=>none
def jv(K:PySem.W.Frag)(n:Str):Bool:=match nsIn K mainGlobals n with
 |some none=>true
 |_=>false
def Jq(K:PySem.W.Frag)(n:Str):Option Addr:=match nsIn K mainGlobals n with
 |some (some (.ref a))=>some a
 |_=>none
def zBR(K:PySem.W.Frag):Bool:=match K.lookup sysModules with
 |some o=>(match o.data with | .dict _ _=>true|_=>false)
 |none=>false
def zE4(K:PySem.W.Frag)(cl rs:List Str):Bool :=
 (cl.isEmpty||(match Jq K "ThrowError" with
  |some T=>tIn K T&&cl.all λc=>(match Jq K c with|some C=>xIn K c C T|none=>false)
  |none=>false)) &&
 (rs.all λc=>(match Jq K c with|some C=>excIn K C VB "ValueError.__new__" |none=>false))&&zBR K
end DV
namespace My
open PySem L2 DV
def top(i:Nat):Stmt:=PySem.Challenge.pw_throwruns_k12_whole_counts.main.body.getD i (.Pass ⟨0,0,0,0⟩)
abbrev vP:Stmt:=top 7
abbrev wW:Stmt:=top 8
abbrev j7:Stmt:=top 9
abbrev YV:Stmt:=top 10
abbrev vQ:Stmt:=top 11
abbrev vR:Stmt:=top 18
abbrev WA:Stmt:=top 19
abbrev vS:Stmt:=top 20
abbrev vT:Stmt:=top 21
abbrev vU:Stmt:=top 22
abbrev YW:Stmt:=top 23
abbrev ZL:Stmt:=top 24
abbrev WB:Stmt:=top 25
abbrev wX:Stmt:=top 26
abbrev Jr:Stmt:=top 27
abbrev GK:Stmt:=top 28
abbrev GL:Stmt:=top 29
abbrev ZM:Stmt:=top 33
abbrev ZN:Stmt:=top 34
abbrev YX:Stmt:=top 35
abbrev j8:Stmt:=top 36
abbrev ZO:Stmt:=top 37
abbrev Js:Stmt:=top 38
abbrev WC:Stmt:=top 39
abbrev WD:Stmt:=top 40
abbrev ZP:Stmt:=top 41
abbrev ZQ:Stmt:=top 42
abbrev ZR:Stmt:=top 43
abbrev YY:Stmt:=top 44
abbrev Jt:Stmt:=top 45
abbrev ZS:Stmt:=top 46
abbrev vV:Stmt:=top 47
abbrev YZ:Stmt:=top 48
abbrev WE:Stmt:=top 49
abbrev Yb:Stmt:=top 51
abbrev JH:Stmt:=top 52
abbrev Ju:Stmt:=top 53
abbrev ZT:Stmt:=top 54
abbrev Jv:Stmt:=top 56
abbrev ZU:Stmt:=top 57
abbrev WF:Stmt:=top 58
abbrev Yc:Stmt:=top 59
abbrev WG:Stmt:=top 60
abbrev jw:Stmt:=top 61
abbrev ZV:Stmt:=top 62
abbrev s_law:Stmt:=top 63
def cl_:List Str:=[]
def rs_:List Str:=[]
def lkT:Type:=List (Option FvT)×List (Option Int)×List Bool×Bool
def WH(K:PySem.W.Frag):lkT:=([zt K "is_whole",zt K "is_whole_within",zt K "greatest_divisor",zt K "whole_power",zt K "share_of",zt K "die_good",zt K "sign_good",zt K "row_good",zt K "need_die",zt K "need_row",zt K "need_number",zt K "need_signs",zt K "need_sign",zt K "greatest_length",zt K "runs_of_sign",zt K "runs_of",zt K "longest",zt K "weigh_upto",zt K "weigh_just",zt K "weigh_table",zt K "weigh_alike_upto",zt K "weigh_runs",zt K "need_counted",zt K "rows_upto",zt K "rows_just",zt K "alike_upto",zt K "alike_just",zt K "rows_table",zt K "alike_table",zt K "rows_by_runs",zt K "runs_total",zt K "grown_by",zt K "can_come_to",zt K "rows_with",zt K "need_thrown",zt K "others_weight",zt K "share_in_all",zt K "share_upto",zt K "_law_cell_at",zt K "_law_power",zt K "_law_next",zt K "_law_pen_of",zt K "_law_draw",zt K "_law_tables_right",zt K "_law_right",zt K "law"],[YU K "LEAST_SIGNS",YU K "LEAST_WEIGHT",YU K "MOST_COUNTED",YU K "MOST_LISTED",YU K "MOST_SIGNS",YU K "MOST_THROWS",YU K "MOST_WEIGHT"],[jv K "abs",jv K "all",jv K "bool",jv K "enumerate",jv K "int",jv K "isinstance",jv K "len",jv K "max",jv K "range",jv K "reversed",jv K "sum",jv K "tuple",jv K "zip"],zE4 K cl_ rs_)
def wants:lkT:=([zz "is_whole" vP,zz "is_whole_within" wW,zz "greatest_divisor" j7,zz "whole_power" YV,zz "share_of" vQ,zz "die_good" vR,zz "sign_good" WA,zz "row_good" vS,zz "need_die" vT,zz "need_row" vU,zz "need_number" YW,zz "need_signs" ZL,zz "need_sign" WB,zz "greatest_length" wX,zz "runs_of_sign" Jr,zz "runs_of" GK,zz "longest" GL,zz "weigh_upto" ZM,zz "weigh_just" ZN,zz "weigh_table" YX,zz "weigh_alike_upto" j8,zz "weigh_runs" ZO,zz "need_counted" Js,zz "rows_upto" WC,zz "rows_just" WD,zz "alike_upto" ZP,zz "alike_just" ZQ,zz "rows_table" ZR,zz "alike_table" YY,zz "rows_by_runs" Jt,zz "runs_total" ZS,zz "grown_by" vV,zz "can_come_to" YZ,zz "rows_with" WE,zz "need_thrown" Yb,zz "others_weight" JH,zz "share_in_all" Ju,zz "share_upto" ZT,zz "_law_cell_at" Jv,zz "_law_power" ZU,zz "_law_next" WF,zz "_law_pen_of" Yc,zz "_law_draw" WG,zz "_law_tables_right" jw,zz "_law_right" ZV,zz "law" s_law],[some 2,some 1,some 40,some 500,some 3,some 20,some 9],[true,true,true,true,true,true,true,true,true,true,true,true,true],true)
def q0:Program:=PySem.Challenge.pw_throwruns_k12_whole_counts
def isLaw:Stmt->Bool
 | .FunctionDef f ..=>f == "law"
 |_=>false
def q:Program:={q0 with main:={q0.main with body:=q0.main.body.filter isLaw}}
def nameOf:Stmt->List Str
 | .FunctionDef f ..=>[f]
 | .ClassDef f ..=>[f]
 | .Assign [.Name x _] _ _=>[x]
 |_=>[]
def ls:List Str:=(q0.main.body.flatMap nameOf).filter (· != "law")
def as:List Addr:=[1,2,3,15,22,23,24,25,28,35,36,37,40,47,48,49,52,59,60,61,64,71,73,74,76,77,78,79,80,83,85,86,88,89,90,92,93,95,96,97,99,100,102,103,104,106,107,109,110,111,113,114,116,117,118,121,122,123,125,126,128,129,130,133,134,135,137,138,140,141,142,144,145,147,148,149,151,152,154,155,156,158,159,161,162,163,165,166,168,169,170,173,174,175,178,179,180,182,183,185,186,187,189,190,192,193,194,197,198,199,201,202,204,205,206,209,210,211,214,215,216,218,219,221,222,223,225,226,228,229,230,232,233,235,236,237,239,240,242,243,244,246,247,249,250,251,253,254,256,257,258,260,261,263,264,265,268,269,270,273,274,275,277,278,280,281,282,284,285,287,288,289,291,292,294,295,296,299,300,301,303,304,306,307,308,310,311,313,314,315,317,318,320,321,322,324,325,327,328,329,331,332,334,335,336,338,339,341,342,343,345,346,348,349,350,352,353,355,356,357,359,360,362,363,364,367,368,369,372,373,374,376,377,379,380]
end My
section
open PySem PySem.W PyProof.Rows
theorem My.hz:OpenLaw.wellSaid PySem.Challenge.rw_throwruns_k12_whole_counts=true:=by decide +kernel
theorem My.h2{α β γ:Type}{o:Option α}{f:α->β}{g:α->γ}{b:β}{c:γ}(h1:o.map f=some b)(h2:o.map g=some c):o.map (λs=>(f s,g s))=some (b,c):=by
 cases o with
 |none=>cases h1
 |some s=>cases h1;cases h2;rfl
theorem My.hu:∀(w:World) (os:OsState),(topFrom treeTable (OpenLaw.row PySem.Challenge.rw_throwruns_k12_whole_counts).toRowW.prog w 5232 ⟨boot_heap w.params,#[],boot_drawn,boot_toks,os⟩).map (λs=>openSeen My.q My.ls (importedModules (OpenLaw.row PySem.Challenge.rw_throwruns_k12_whole_counts).toRowW.prog.main.body) (λs=>xlAt My.q [] s&&recOk (RowW.records (OpenLaw.row PySem.Challenge.rw_throwruns_k12_whole_counts).toRowW) s) true s)=some (openGood My.q My.ls):=by
 intro w os
 kernel_rfl
theorem My.h4{α γ:Type}{o:Option α}{g:α->List γ}{w:List γ}(n:Nat)(ha:o.map (λs=>(g s).take n)=some (w.take n))(hb:o.map (λs=>(g s).drop n)=some (w.drop n)):o.map g=some w:=by
 cases o with
 |none=>cases ha
 |some s=>exact congrArg some ((List.take_append_drop n (g s)).symm.trans ((congr (congrArg HAppend.hAppend (Option.some.inj ha)) (Option.some.inj hb)).trans (List.take_append_drop n w)))
theorem My.h5{α γ δ:Type}{o:Option α}{g:α->γ×δ}{w:γ×δ}(ha:o.map (λs=>(g s).1)=some w.1)(hc:o.map (λs=>(g s).2)=some w.2):o.map g=some w:=by
 cases o with
 |none=>cases ha
 |some s=>exact congrArg some (Prod.ext (Option.some.inj ha) (Option.some.inj hc))
theorem My.hv0:∀(w:World) (os:OsState),(topFrom treeTable (OpenLaw.row PySem.Challenge.rw_throwruns_k12_whole_counts).toRowW.prog w 5232 ⟨boot_heap w.params,#[],boot_drawn,boot_toks,os⟩).map (λs=>((My.WH (DV.YT s.heap My.as)).1.take 23))=some (My.wants.1.take 23):=by
 intro w os
 kernel_rfl
theorem My.hv1:∀(w:World) (os:OsState),(topFrom treeTable (OpenLaw.row PySem.Challenge.rw_throwruns_k12_whole_counts).toRowW.prog w 5232 ⟨boot_heap w.params,#[],boot_drawn,boot_toks,os⟩).map (λs=>((My.WH (DV.YT s.heap My.as)).1.drop 23))=some (My.wants.1.drop 23):=by
 intro w os
 kernel_rfl
theorem My.hvc:∀(w:World) (os:OsState),(topFrom treeTable (OpenLaw.row PySem.Challenge.rw_throwruns_k12_whole_counts).toRowW.prog w 5232 ⟨boot_heap w.params,#[],boot_drawn,boot_toks,os⟩).map (λs=>(My.WH (DV.YT s.heap My.as)).2)=some My.wants.2:=by
 intro w os
 kernel_rfl
theorem My.hv(w:World)(os:OsState):(topFrom treeTable (OpenLaw.row PySem.Challenge.rw_throwruns_k12_whole_counts).toRowW.prog w 5232 ⟨boot_heap w.params,#[],boot_drawn,boot_toks,os⟩).map (λs=>My.WH (DV.YT s.heap My.as))=some My.wants:=My.h5 (My.h4 23 (My.hv0 w os) (My.hv1 w os)) (My.hvc w os)
theorem My.ht:∀(w:World) (os:OsState),(topFrom treeTable (OpenLaw.row PySem.Challenge.rw_throwruns_k12_whole_counts).toRowW.prog w 5232 ⟨boot_heap w.params,#[],boot_drawn,boot_toks,os⟩).map (λs=>(openSeen My.q My.ls (importedModules (OpenLaw.row PySem.Challenge.rw_throwruns_k12_whole_counts).toRowW.prog.main.body) (λs=>xlAt My.q [] s&&recOk (RowW.records (OpenLaw.row PySem.Challenge.rw_throwruns_k12_whole_counts).toRowW) s) true s,My.WH (DV.YT s.heap My.as)))=some (openGood My.q My.ls,My.wants):=λw os=>My.h2 (My.hu w os) (My.hv w os)
theorem My.ho:opening (OpenLaw.row PySem.Challenge.rw_throwruns_k12_whole_counts).toRowW.prog=plainProg (OpenLaw.row PySem.Challenge.rw_throwruns_k12_whole_counts).toRowW.prog.main.scope.names:=by kernel_rfl
theorem My.hf:∀s,fenceModules? (OpenLaw.row PySem.Challenge.rw_throwruns_k12_whole_counts).toRowW.prog s=some s:=by
 intro s
 kernel_rfl
theorem My.hl:LeftO (OpenLaw.row PySem.Challenge.rw_throwruns_k12_whole_counts).toRowW.prog My.q My.ls (λs=>xlAt My.q [] s&&recOk (RowW.records (OpenLaw.row PySem.Challenge.rw_throwruns_k12_whole_counts).toRowW) s) (λs=>My.WH (DV.YT s.heap My.as)) (λ_=>My.wants) 5232:=by
 intro w;obtain⟨s,hs,hv⟩:=Option.map_eq_some_iff.mp (boot_open My.ho (N:=5232) rfl My.hf w);unfold openEnds;rw[hs];obtain⟨h,g,d,t,os⟩:=s;have h1:h=boot_heap w.params:=congrArg Prod.fst hv;have h2:g=#[]:=congrArg (λx=>x.2.1) hv;have h3:d=boot_drawn:=congrArg (λx=>x.2.2.1) hv;have h4:t=boot_toks:=congrArg (λx=>x.2.2.2) hv;subst h1;subst h2;subst h3;subst h4;exact My.ht w os
end
namespace L2
open PySem PySem.Spec PyProof.Rows
abbrev Key:=Sum Int Str
def keyIs:Key->Value->Bool
 | .inl k,v=>Value.isInt k v
 | .inr x,v=>Value.isStrOf x v
def keyH(w:World):Key->Int
 | .inl k=>hashInt k
 | .inr x=>hashStr w x
theorem yX:∀{k:Key} {v:Value},keyIs k v=true->(∃i t,k=Sum.inl i/\v=Value.int i t)\/(∃x t,k=Sum.inr x/\v=Value.str x t)
 | .inl i,v,h=>by
  obtain⟨t,e⟩:=Value.isInt_shape (k:=i) (v:=v) h;exact .inl ⟨i,t,rfl,e⟩
 | .inr x,v,h=>by
  obtain⟨t,e⟩:=Value.isStrOf_shape (x:=x) (v:=v) h;exact .inr ⟨x,t,rfl,e⟩
theorem key_ll(a b:Int):decide ((Sum.inl a:Key)=Sum.inl b)=(a==b):=by
 by_cases e:a=b
 ·subst e;simp
 ·have h:¬(Sum.inl a:Key)=Sum.inl b:=λq=>e (Sum.inl.inj q)
  rw[decide_eq_false h];exact(beq_eq_false_iff_ne.mpr e).symm
theorem key_rr(a b:Str):decide ((Sum.inr a:Key)=Sum.inr b)=decide (a=b):=by
 by_cases e:a=b
 ·subst e;simp
 ·have h:¬(Sum.inr a:Key)=Sum.inr b:=λq=>e (Sum.inr.inj q)
  rw[decide_eq_false h,decide_eq_false e]
theorem key_lr(a:Int)(b:Str):decide ((Sum.inl a:Key)=Sum.inr b)=false:=decide_eq_false (λq=>nomatch q)
theorem key_rl(a:Str)(b:Int):decide ((Sum.inr a:Key)=Sum.inl b)=false:=decide_eq_false (λq=>nomatch q)
def zBS(prog:Program)(w:World):PySem.KeyKind prog w Key where
 is:=keyIs
 hash:=keyH w
 inj:=λv a b ha hb=>by
  rcases yX ha with⟨i,t,rfl,rfl⟩|⟨x,t,rfl,rfl⟩
  ·rcases yX hb with⟨j,u,rfl,e⟩|⟨y,u,rfl,e⟩
   ·injection e with e1 _;rw[e1]
   ·exact nomatch e
  ·rcases yX hb with⟨j,u,rfl,e⟩|⟨y,u,rfl,e⟩
   ·exact nomatch e
   ·injection e with e1 _;rw[e1]
 byValue:=λk v h=>by
  rcases yX h with⟨i,t,rfl,rfl⟩|⟨x,t,rfl,rfl⟩<;>rfl
 pyHash:=λhv h=>by
  rcases yX hv with⟨i,t,rfl,rfl⟩|⟨x,t,rfl,rfl⟩
  ·exact wpAny_pyHash_int h
  ·exact wpAny_pyHash_str h
 eqBool:=λhu hv h=>by
  rcases yX hu with⟨i,t,rfl,rfl⟩|⟨x,t,rfl,rfl⟩
  ·rcases yX hv with⟨j,u,rfl,rfl⟩|⟨y,u,rfl,rfl⟩
   ·rw[key_ll]at h;exact wpAny_eqBool_int h
   ·rw[key_lr]at h;exact SeqAt.EqAt.int_str i t y u _ _ _ _ h
  ·rcases yX hv with⟨j,u,rfl,rfl⟩|⟨y,u,rfl,rfl⟩
   ·rw[key_rl]at h;exact SeqAt.EqAt.str_int x t j u _ _ _ _ h
   ·rw[key_rr]at h;exact wpAny_eqBool_str h
 «strs»:=λk x t v h=>by
  rcases yX h with⟨i,u,rfl,e⟩|⟨y,u,rfl,e⟩
  ·exact nomatch e
  ·injection e with e1 _
   subst e1;cases v<;>rfl
end L2
namespace L2
open PySem PySem.Spec PyProof.Rows
set_option genInjectivity true in
inductive V where
 |non|bl (b:Bool)|int (i:Int)|str (x:Str)|byt (b:Array UInt8)|flt (b:UInt64)|ref (a:Addr)|ty (n:String)
 deriving DecidableEq
def yU:V->Value->Prop
 | .non,u=>u=Value.none
 | .bl b,u=>u=Value.bool b
 | .int i,u=>∃t,u=Value.int i t
 | .str x,u=>∃t,u=Value.str x t
 | .byt b,u=>∃t,u=Value.bytes b t
 | .flt b,u=>∃t,u=Value.float b t
 | .ref a,u=>u=Value.ref a
 | .ty n,u=>u=Value.type n
abbrev yD:List V->List Value->Prop:=Paired yU
theorem yD.length{xs:List V}{us:List Value}(r:yD xs us):xs.length=us.length:=Paired.length r
theorem yD.get:∀{xs:List V} {us:List Value} {i:Nat} {x:V},yD xs us->xs[i]?=some x->∃u,us[i]?=some u/\yU x u
 |_,_,_,_,.nil,e=>by simp at e
 |_,_,0,_,.cons r _,e=>by simp at e;subst e;exact⟨_,rfl,r⟩
 |_,_,i+1,x,.cons _ t,e=>by
  obtain⟨u,h1,h2⟩:=yD.get (i:=i) (x:=x) t (by simpa using e);exact⟨u,by simpa using h1,h2⟩
theorem yD.set{x:V}{u:Value}(r:yU x u):∀{xs:List V} {us:List Value} (i:Nat),yD xs us->yD (xs.set i x) (us.set i u)
 |_,_,_,.nil=>.nil
 |_,_,0,.cons _ t=>.cons r t
 |_,_,i+1,.cons q t=>.cons q (yD.set r i t)
theorem yD.append:∀{xs ys:List V} {us ws:List Value},yD xs us->yD ys ws->yD (xs++ys) (us++ws)
 |_,_,_,_,.nil,s=>s
 |_,_,_,_,.cons r t,s=>.cons r (yD.append t s)
theorem yD.take:∀{xs:List V} {us:List Value} (n:Nat),yD xs us->yD (xs.take n) (us.take n)
 |_,_,0,_=>.nil
 |_,_,_+1,.nil=>.nil
 |_,_,n+1,.cons r t=>.cons r (yD.take n t)
theorem yD.drop:∀{xs:List V} {us:List Value} (n:Nat),yD xs us->yD (xs.drop n) (us.drop n)
 |_,_,0,r=>r
 |_,_,_+1,.nil=>.nil
 |_,_,n+1,.cons _ t=>yD.drop n t
def RelO:Option V->Option Value->Prop
 |some v,some u=>yU v u
 |none,none=>True
 |_,_=>False
def KV{κ:Type}:List (κ×V)->List (κ×Value)->Prop:=Paired λ(p:κ×V) (q:κ×Value)=>p.1=q.1/\yU p.2 q.2
def kV:Key->V
 | .inl i=>.int i
 | .inr x=>.str x
inductive HO where
 /-- a list -/
 |lst (xs:List V)
 /-- a tuple (never changes) -/
 |tup (xs:List V)
 /-- a dict whose keys are ints and texts; one whose keys are tuples of ints and texts (the empty one is both) -/
 |dK (kvs:List (Key×V))|dT (kvs:List (List Key×V))
 /-- a set of ints: its members,its size -/
 |set (S:Int->Bool) (n:Nat)
 /-- an instance of the class at C,its dict at dx,its attributes -/
 |ins (C dx:Addr) (fs:List (Str×V))
 /-- the dict of the instance at x -/
 |own (x:Addr)
 /-- the dict of an exception -/
 |xd (fs:List (Str×V))
 /-- a bound method,f of x -/
 |met (f x:Addr)
 /-- a range object lo,lo+1,.. below hi -/
 |rng (lo hi:Int)
 /-- a thing that is known to the object (the script; a dict while a loop walks it): read,never written while it is so -/
 |frz (o:Obj) (u:HO)
 /-- a code object's table -/
 |tbl (ps:Array Value)
 /-- any other thing,by what is true of its one object (a def of one's own: SetO a S n:=HO.ext fun h=>..) -/
 |ext (φ:Heap->Prop)
abbrev Hp:=Addr->Option HO
def upd(H:Hp)(a:Addr)(o:HO):Hp:=λb=>if b=a then some o else H b
theorem j9{H:Hp}{a:Addr}{o:HO}:upd H a o a=some o:=by unfold upd;rw[if_pos rfl]
theorem z9{H:Hp}{a b:Addr}{o:HO}(h:b≠a):upd H a o b=H b:=by unfold upd;rw[if_neg h]
theorem wY{H:Hp}{a b:Addr}{o:HO}(h:H a=some o)(h':H b=none):a≠b:=by
 intro e;subst e;rw[h]at h';cases h'
section
variable(P:Program)(w:World)
def JE(H:Hp)(h:Heap)(a:Addr):HO->Prop
 | .lst xs=>xs.length<=sizeLine/\∃(its:List Value) (n:Nat),yD xs its/\h.get? a=some {cls:=.type "list",data:=.seq its.toArray n}
 | .tup xs=>xs.length<=sizeLine/\∃its:List Value,yD xs its/\IsTup h a its.toArray
 | .dK kvs=>kvs.length<=sizeLine/\(a==sysModules)=false/\∃vs,KV kvs vs/\h.DictOf (zBS P w) a vs
 | .dT kvs=>kvs.length<=sizeLine/\(a==sysModules)=false/\∃xs:List (List Key×Addr×Value),
   Paired (λ(p:List Key×V) (q:List Key×Addr×Value)=>p.1=q.1/\H q.2.1=some (.tup (p.1.map kV))/\yU p.2 q.2.2) kvs xs /\
   ∃o es ep,h.get? a=some o/\o.ExactDict/\o.data=.dict es ep/\es.toList=xs.map (entryOfKey (tupleKind (zBS P w)))/\(xs.map (·.1)).Nodup
 | .set S n=>h.SetOf (intKind P w) a S n
 | .ins C dx fs=>H dx=some (.own a)/\fs.length<=1000/\dx≠a/\h.get? a=some (instObj C dx) /\
   ∃mA,h.Ns1 dx mA/\(∀f,RelO (fs.lookup f) (mA f))/\PySem.Within mA (fs.map (·.1))
 | .own _=>∃o,h.get? a=some o
 | .xd fs=>∃mA,h.Ns1 a mA/\∀f,RelO (fs.lookup f) (mA f)
 | .rng lo hi=>∃t u v,h.get? a=some {cls:=.type "range",data:=.fields #[.int lo t,.int hi u,.int 1 v]}
 | .frz o u=>h.get? a=some o/\JE H h a u
 | .tbl ps=>h.get? a=some {cls:=.none,data:=.fields ps}
 | .met f x=>h.get? a=some (methodObj (.ref f) (.ref x))
 | .ext φ=>φ h/\(∃o,h.get? a=some o)/\∀h1 h2:Heap,φ h1->(∀o,h1.get? a=some o->h2.get? a=some o)->φ h2
def HOk(H:Hp)(h:Heap):Prop:=∀a o,H a=some o->JE P w H h a o
end
section
variable{P:Program}{w:World}{H H':Hp}{h h':Heap}{a:Addr}{o:HO}
theorem JE.lt(x:JE P w H h a o):a<h.objs.size:=by
 cases o with
 |lst xs=>obtain⟨_,_,_,_,e⟩:=x;exact lt_size e
 |tup xs=>obtain⟨_,_,_,p⟩:=x;exact p.lt
 |dK kvs=>obtain⟨_,_,_,_,o,_,_,e,_⟩:=x;exact lt_size e
 |dT kvs=>obtain⟨_,_,_,_,o,_,_,e,_⟩:=x;exact lt_size e
 |set S n=>obtain⟨o,_,_,_,e,_⟩:=x;exact lt_size e
 |ins C dx fs=>obtain⟨_,_,_,e,_⟩:=x;exact lt_size e
 |own y=>obtain⟨_,e⟩:=x;exact lt_size e
 |xd fs=>obtain⟨_,⟨_,_,_,e,_⟩,_⟩:=x;exact lt_size e
 |rng lo hi=>obtain⟨_,_,_,e⟩:=x;exact lt_size e
 |frz ob u=>obtain⟨e,_⟩:=x;exact lt_size e
 |tbl ps=>exact lt_size (show h.get? a=some _ from x)
 |met f y=>exact lt_size (show h.get? a=some _ from x)
 |ext φ=>obtain⟨_,⟨_,e⟩,_⟩:=x;exact lt_size e
theorem Paired.mapP{α β:Type}{F G:α->β->Prop}:∀{l₁:List α} {l₂:List β},Paired F l₁ l₂->(∀a b,F a b->G a b)->Paired G l₁ l₂
 |_,_,.nil,_=>.nil
 |_,_,.cons r t,f=>.cons (f _ _ r) (Paired.mapP t f)
theorem JE.stay(x:JE P w H h a o)(k:∀b u,(b=a\/H b=some (.own a))->h.get? b=some u->h'.get? b=some u)
  (ho:∀b,H b=some (.own a)->H' b=some (.own a)) (ht:∀b xs,H b=some (.tup xs)->H' b=some (.tup xs)):JE P w H' h' a o:=by
 induction o with
 |lst xs=>obtain⟨z,its,n,r,e⟩:=x;exact⟨z,its,n,r,k _ _ (.inl rfl) e⟩
 |tup xs=>obtain⟨z,its,r,ob,e,c⟩:=x;exact⟨z,its,r,ob,k _ _ (.inl rfl) e,c⟩
 |dK kvs=>obtain⟨z,y,vs,r,ob,es,ep,e,c⟩:=x;exact⟨z,y,vs,r,ob,es,ep,k _ _ (.inl rfl) e,c⟩
 |dT kvs =>
  obtain⟨z,y,xs,r,ob,es,ep,e,c⟩:=x;exact⟨z,y,xs,Paired.mapP r λp q z=>⟨z.1,ht _ _ z.2.1,z.2.2⟩,ob,es,ep,k _ _ (.inl rfl) e,c⟩
 |set S n=>obtain⟨ob,es,ep,t,e,c⟩:=x;exact⟨ob,es,ep,t,k _ _ (.inl rfl) e,c⟩
 |ins C dx fs =>
  obtain⟨d,z,ne,e,mA,⟨od,es,ep,e2,c⟩,r⟩:=x;exact⟨ho _ d,z,ne,k _ _ (.inl rfl) e,mA,⟨od,es,ep,k _ _ (.inr d) e2,c⟩,r⟩
 |own y=>obtain⟨ob,e⟩:=x;exact⟨ob,k _ _ (.inl rfl) e⟩
 |xd fs=>obtain⟨mA,⟨od,es,ep,e,c⟩,r⟩:=x;exact⟨mA,⟨od,es,ep,k _ _ (.inl rfl) e,c⟩,r⟩
 |rng lo hi=>obtain⟨t,u,v,e⟩:=x;exact⟨t,u,v,k _ _ (.inl rfl) e⟩
 |frz ob u ih=>obtain⟨e,q⟩:=x;exact⟨k _ _ (.inl rfl) e,ih q⟩
 |tbl ps =>
  have e:h.get? a=some {cls:=.none,data:=.fields ps}:=x;show h'.get? a=some {cls:=.none,data:=.fields ps};exact k a _ (.inl rfl) e
 |met f y =>
  have e:h.get? a=some (methodObj (.ref f) (.ref y)):=x;show h'.get? a=some (methodObj (.ref f) (.ref y));exact k a _ (.inl rfl) e
 |ext φ=>obtain⟨p,⟨o,e⟩,st⟩:=x;exact⟨st _ _ p λo q=>k _ _ (.inl rfl) q,⟨o,k _ _ (.inl rfl) e⟩,st⟩
theorem HOk.lt(x:HOk P w H h)(e:H a=some o):a<h.objs.size:=(x a o e).lt
theorem HOk.fresh(x:HOk P w H h)(e:h.objs.size<=a):H a=none:=by
 cases q:H a with
 |none=>rfl
 |some u=>exact absurd (lt_of_lt_of_le (x.lt q) e) (lt_irrefl _)
theorem HOk.kept(x:HOk P w H h)(k:∀b u,h.get? b=some u->h'.get? b=some u):HOk P w H h':=λa o e =>
 (x a o e).stay (λb u _ q=>k b u q) (λ_ q=>q) λ_ _ q=>q
theorem HOk.laid(x:HOk P w H h)(k:∀b u,h.get? b=some u->h'.get? b=some u)(hp:h.objs.size<=a)(new:JE P w (upd H a o) h' a o):HOk P w (upd H a o) h':=λb u e=>by
 have hn:=x.fresh hp;by_cases hb:b=a
 ·subst hb;rw[j9]at e;cases e;exact new
 ·rw[z9 hb]at e
  exact(x b u e).stay (λc v _ q=>k c v q) (λc q=>by rw[z9 (wY q hn)];exact q) λc xs q=>by rw[z9 (wY q hn)];exact q
end
def Rd(H:Hp)(a:Addr)(u:HO):Prop:=H a=some u\/∃o,H a=some (.frz o u)
theorem Rd.of{H:Hp}{a:Addr}{u:HO}(h:H a=some u):Rd H a u:=.inl h
theorem Rd.ok{P:Program}{w:World}{H:Hp}{h:Heap}{a:Addr}{u:HO}(r:Rd H a u)(x:HOk P w H h):JE P w H h a u:=by
 rcases r with r|⟨o,r⟩
 ·exact x a u r
 ·obtain⟨_,q⟩:=x a _ r
  exact q
def Mut:Option HO->Prop
 |some (.lst _)=>True
 |some (.dK _)=>True
 |some (.dT _)=>True
 |some (.set _ _)=>True
 |some (.ins _ _ _)=>True
 |some (.ext _)=>True
 |_=>False
section
variable{P:Program}{w:World}{H:Hp}{h h':Heap}{x e:Addr}{o':HO}
theorem HOk.write(ok:HOk P w H h)(mu:Mut (H x))(he:e=x\/H e=some (.own x))(k:∀b u,b≠e->h.get? b=some u->h'.get? b=some u)(heo:∃u,h'.get? e=some u)
  (new:JE P w (upd H x o') h' x o'):HOk P w (upd H x o') h':=λb u q=>by
 have nown:∀c y,H c=some (.own y)->c≠x:=λc y r z=>by subst z;rw[r]at mu;exact mu
 have ntup:∀c xs,H c=some (.tup xs)->c≠x:=λc xs r z=>by subst z;rw[r]at mu;exact mu
 by_cases hb:b=x
 ·subst hb;rw[j9]at q;cases q;exact new
 ·rw[z9 hb]at q
  by_cases hbe:b=e
  ·have q':H b=some (.own x):=by
    rcases he with z|z
    ·exact absurd (hbe.trans z) hb
    ·rw[hbe];exact z
   rw[q]at q';cases q';obtain⟨v,hv⟩:=heo;exact⟨v,by rw[hbe];exact hv⟩
  ·refine(ok b u q).stay (λc v hc r=>k c v ?_ r) (λc r=>by rw[z9 (nown c b r)];exact r) λc xs r=>by rw[z9 (ntup c xs r)];exact r
   rcases hc with rfl|hc
   ·exact hbe
   ·rintro rfl
    rcases he with z|z
    ·exact nown c b hc z
    ·rw[hc]at z;cases z;exact hb rfl
end
structure Un(fs ex:List Addr)(H H':Hp)(h h':Heap):Prop where
 keep:∀b o,h.get? b=some o->H b=none->b∉fs->b∉ex->h'.get? b=some o
 slot:∀b o,h.get? b=some o->H b=none->b∈fs->b∉ex->∃sl,h'.get? b=some {o with slots:=sl}
 free:∀b o,h.get? b=some o->H b=none->b∉ex->H' b=none
 there:∀b o,h.get? b=some o->b∉ex->∃o',h'.get? b=some o'
 tups:∀b xs,H b=some (.tup xs)->H' b=some (.tup xs)
 frzs:∀b o u,H b=some (.frz o u)->H' b=some (.frz o u)
 tbls:∀b ps,H b=some (.tbl ps)->∃more,H' b=some (.tbl (ps++more))
section
variable{fs fs' ex ex':List Addr}{H H1 H2:Hp}{h h1 h2 h':Heap}{a x e:Addr}{o:HO}
theorem Un.any(u:Un fs ex H H1 h h1){b:Addr}{ob:Obj}(q:h.get? b=some ob)(n:H b=none)(hx:b∉ex):∃sl,h1.get? b=some {ob with slots:=sl}:=by
 by_cases hb:b∈fs
 ·exact u.slot b ob q n hb hx
 ·exact⟨ob.slots,u.keep b ob q n hb hx⟩
theorem Un.trans(a:Un fs ex H H1 h h1)(b:Un fs ex H1 H2 h1 h2):Un fs ex H H2 h h2 where
 keep:=λc ob q n hc hx=>b.keep c ob (a.keep c ob q n hc hx) (a.free c ob q n hx) hc hx
 slot:=λc ob q n hc hx=>by
  obtain⟨sl,e1⟩:=a.slot c ob q n hc hx;obtain⟨sl',e2⟩:=b.slot c _ e1 (a.free c ob q n hx) hc hx;exact⟨sl',e2⟩
 free:=λc ob q n hx=>by
  obtain⟨o',e1⟩:=a.there c ob q hx;exact b.free c o' e1 (a.free c ob q n hx) hx
 there:=λc ob q hx=>by
  obtain⟨o',e1⟩:=a.there c ob q hx;exact b.there c o' e1 hx
 tups:=λc xs q=>b.tups c xs (a.tups c xs q)
 frzs:=λc ob xs q=>b.frzs c ob xs (a.frzs c ob xs q)
 tbls:=λc ps q=>by
  obtain⟨m1,e1⟩:=a.tbls c ps q;obtain⟨m2,e2⟩:=b.tbls c _ e1;exact⟨m1++m2,by rw[e2,Array.append_assoc]⟩
theorem Un.kept(k:∀b u,h.get? b=some u->h'.get? b=some u):Un fs ex H H h h' :=
 ⟨λb ob q _ _ _=>k b ob q,λb ob q _ _ _=>⟨ob.slots,k b ob q⟩,λ_ _ _ n _=>n,λb ob q _=>⟨ob,k b ob q⟩,λ_ _ q=>q,λ_ _ _ q=>q,λ_ ps q=>⟨#[],by rw[q];simp⟩⟩
theorem Un.refl:Un fs ex H H h h:=Un.kept λ_ _ q=>q
theorem Un.laid(k:∀b u,h.get? b=some u->h'.get? b=some u)(hp:h.objs.size<=a)(hn:H a=none):Un fs ex H (upd H a o) h h' where
 keep:=λb u q _ _ _=>k b u q
 slot:=λb u q _ _ _=>⟨u.slots,k b u q⟩
 free:=λb u q n _=>by rw[z9 (ne_of_lt (lt_of_lt_of_le (lt_size q) hp))];exact n
 there:=λb u q _=>⟨u,k b u q⟩
 tups:=λb xs q=>by rw[z9 (wY q hn)];exact q
 frzs:=λb u xs q=>by rw[z9 (wY q hn)];exact q
 tbls:=λb ps q=>⟨#[],by rw[z9 (wY q hn),q];simp⟩
theorem Un.write(mu:Mut (H x))(he:e=x\/H e=some (.own x))(k:∀b u,b≠e->h.get? b=some u->h'.get? b=some u)(heo:∃u,h'.get? e=some u):Un fs ex H (upd H x o) h h':=by
 have hx:∀b,H b=none->b≠x:=λb n z=>by subst z;rw[n]at mu;exact mu
 have hb:∀b,H b=none->b≠e:=λb n z=>by
  subst z;rcases he with r|r
  ·exact hx b n r
  ·rw[n]at r;cases r
 have hm:∀b u,H b=some u->¬Mut (some u)->b≠x:=λb u q nm z=>by subst z;rw[q]at mu;exact nm mu
 refine⟨λb u q n _ _=>k b u (hb b n) q,λb u q n _ _=>⟨u.slots,k b u (hb b n) q⟩,λb u q n _=>by rw[z9 (hx b n)];exact n,λb u q _=>?_,
  λb xs q=>by rw[z9 (hm b _ q λz=>z)];exact q,λb u xs q=>by rw[z9 (hm b _ q λz=>z)];exact q,λb ps q=>⟨#[],by rw[z9 (hm b _ q λz=>z),q];simp⟩⟩
 by_cases hbe:b=e
 ·subst hbe;exact heo
 ·exact⟨u,k b u hbe q⟩
theorem Un.mono(u:Un fs ex H H1 h h1)(hs:∀b∈fs,b∈fs')(hx:∀b∈ex,b∈ex'):Un fs' ex' H H1 h h1 :=
 ⟨λb ob q n hb he=>u.keep b ob q n (λz=>hb (hs b z)) λz=>he (hx b z),λ_ _ q n _ he=>u.any q n λz=>he (hx _ z),λb ob q n he=>u.free b ob q n λz=>he (hx b z),λb ob q he=>u.there b ob q λz=>he (hx b z),u.tups,u.frzs,u.tbls⟩
end
def trk(h:Heap)(H:Hp):List Addr:=(List.range h.objs.size).filter λa=>(H a).isSome
def zDW(h:Heap)(H:Hp):Heap:=hideAll h (trk h H)
theorem zBT(h:Heap)(H:Hp):(zDW h H).objs.size=h.objs.size:=PySem.W.hideAll_size _ _
theorem zDX{h:Heap}{H:Hp}{b:Addr}{o:Obj}(e:h.get? b=some o)(n:H b=none):(zDW h H).get? b=some o :=
 hideAll_get _ e λhm=>by
  have q:(H b).isSome=true:=(mem_filter.mp hm).2;rw[n]at q;simp at q
theorem of_hidT{h:Heap}{H:Hp}{b:Addr}{o:Obj}(e:(zDW h H).get? b=some o):h.get? b=some o/\H b=none:=by
 have e':h.get? b=some o:=of_hideAll (trk h H) e;refine⟨e',?_⟩;cases q:H b with
 |none=>rfl
 |some x =>
  have hm:b∈trk h H:=mem_filter.mpr ⟨mem_range.mpr (lt_size e'),by simp[q]⟩;have z:(zDW h H).get? b=none:=PySem.W.hideAll_none (trk h H) hm;rw[z]at e;cases e
def allNews(g h:Heap)(L:Addr):List (Addr×Obj):=(List.range h.objs.size).filterMap λa=>if a=L\/(g.get? a).isSome=true then none else(h.get? a).map λo=>(a,o)
def YQ(g h:Heap)(L d:Addr):List (Addr×Obj):=(allNews g h L).filter λp=>decide (p.1≠d)
end L2
namespace L2
open PySem PySem.Spec PyProof.Rows
structure Mod(K:PySem.W.Frag)(mg:Str->Option Value)(base:Heap):Prop where
 kin:K.In base
 glob:base.Ns mainGlobals mg
 blt:∃mb,base.Ns builtinsNs mb/\∀x:Str,x≠"__name__"->mb x=bootBuiltins x
 nolimit:base.NoLimit
structure Cx where
 prog:Program
 w:World
 K:PySem.W.Frag
 mg:Str->Option Value
 base:Heap
 A:Around
 N:List Str
 s₀:Shared
 H₀:Hp
 env:Env
 outer:List Env
 stack:List Env
 ex:List Addr
 fn:Str->Bool
 calm:Bool
 pn:List (Addr×Obj)
 xe:Value->Shared->Prop
def frs(l:List Env):List Addr:=l.filterMap (·.frame)
abbrev Cx.fs(X:Cx):List Addr:=frs X.outer
def Vis(sc:Scope)(x:Str):Prop:=sc.names.lookup x=some .local\/sc.names.lookup x=some .cell\/sc.names.lookup x=some .free
def Loc(sc:Scope)(x:Str):Prop:=sc.names.lookup x=some .local\/sc.names.lookup x=some .cell
def Look(env:Env)(h:Heap)(m:Str->Option Value)(x:Str)(u:Value):Prop :=
 (env.kindOf x=some .local/\m x=some u)\/((env.kindOf x=some .cell\/env.kindOf x=some .free)/\∃c,env.cells.lookup x=some c/\h.IsCell c (some u))
structure Cx.Ok(X:Cx):Prop where
 mod:Mod X.K X.mg X.base
 kind:X.env.scope.kind=.function
 glob:X.env.globals=mainGlobals
 blt:X.env.builtins=builtinsNs
 above:X.s₀.heap.objs.size<=X.env.locals
 inj:∀x y c,X.env.cells.lookup x=some c->X.env.cells.lookup y=some c->x=y
 has:∀x,(X.env.kindOf x=some .cell\/X.env.kindOf x=some .free)->∃c,X.env.cells.lookup x=some c
 cab:∀x c,X.fn x=true->X.env.cells.lookup x=some c->X.s₀.heap.objs.size<=c
 hd:X.calm=true->X.A.handled=none
 frames:X.A.frames=some X.stack
 stk:X.stack=X.outer\/(X.stack=X.env::X.outer/\X.env.frame=some X.env.locals)
 exf:∀b∈X.ex,b≠X.env.locals/\∀x c,X.env.cells.lookup x=some c->c≠b
 bs:∀b o,X.base.get? b=some o->X.s₀.heap.get? b=some o/\X.H₀ b=none
 bsz:X.base.objs.size<=X.s₀.heap.objs.size
 noex:∀b o,X.base.get? b=some o->b∉X.ex
 exfs:∀b∈X.ex,b∉X.fs
 funs:X.s₀.heap.FunFrames X.base X.outer
 frf:∀b∈X.fs,X.H₀ b=none
structure Inv(X:Cx)(pins:List (Addr×Obj))(σ:List (Option V))(H:Hp)(s:Shared):Prop where
 ok:X.Ok
 os:s.os=X.s₀.os
 bare:AllBare s.gens
 base:Un X.fs X.ex X.H₀ H X.s₀.heap s.heap
 loc:∃m,s.heap.Ns X.env.locals m/\∀(i:Nat) (x:Str) (v:V),X.N[i]?=some x->σ[i]?=some (some v)->Vis X.env.scope x->∃u,yU v u/\Look X.env s.heap m x u
 cell:∀x c,X.env.cells.lookup x=some c->∃v,s.heap.IsCell c v
 free:H X.env.locals=none
 freeC:∀x c,X.env.cells.lookup x=some c->H c=none
 pin:∀p∈X.pn++pins,s.heap.get? p.1=some p.2/\H p.1=none/\p.1≠X.env.locals/\p.1∉X.fs/\∀v,p.2.data≠.cell v
 hok:HOk X.prog X.w H s.heap
 len:σ.length=X.N.length
section
variable{X:Cx}{pins:List (Addr×Obj)}{σ:List (Option V)}{H H':Hp}{s:Shared}{h':Heap}
theorem Cx.Ok.nofr(ok:X.Ok){b:Addr}{o:Obj}(e:X.base.get? b=some o):b∉X.fs:=λhb=>by
 have:=(ok.funs.mem hb).1;rw[e]at this;cases this
theorem Inv.bs(I:Inv X pins σ H s):∀b o,X.base.get? b=some o->s.heap.get? b=some o/\H b=none:=λb o e =>
 ⟨I.base.keep b o (I.ok.bs b o e).1 (I.ok.bs b o e).2 (I.ok.nofr e) (I.ok.noex b o e),I.base.free b o (I.ok.bs b o e).1 (I.ok.bs b o e).2 (I.ok.noex b o e)⟩
theorem Inv.bk(I:Inv X pins σ H s):∀b o,X.base.get? b=some o->s.heap.get? b=some o:=λb o e=>(I.bs b o e).1
theorem Inv.mod(I:Inv X pins σ H s):Mod X.K X.mg X.base:=I.ok.mod
theorem Inv.kIn(I:Inv X pins σ H s):X.K.In s.heap:=I.ok.mod.kin.keeps I.bk
theorem Inv.nolimit(I:Inv X pins σ H s):s.heap.NoLimit:=I.ok.mod.nolimit.keeps I.bk
theorem Inv.fr(I:Inv X pins σ H s):∃m,Fr X.base X.env.locals s.heap m :=
 let ⟨m,hn,_⟩:=I.loc
 ⟨m,hn,I.bk,le_trans I.ok.bsz I.ok.above⟩
theorem Inv.lt(I:Inv X pins σ H s):X.env.locals<s.heap.objs.size:=let ⟨_,hn,_⟩:=I.loc;hn.lt
theorem Inv.sz(I:Inv X pins σ H s):X.s₀.heap.objs.size<=s.heap.objs.size:=le_trans I.ok.above (Nat.le_of_lt I.lt)
theorem Inv.nofs(I:Inv X pins σ H s){a:Addr}(h:s.heap.objs.size<=a):a∉X.fs:=λhb=>by
 obtain⟨_,o,ho,_⟩:=I.ok.funs.mem hb;exact absurd (lt_of_lt_of_le (lt_size ho) (le_trans I.sz h)) (lt_irrefl _)
theorem Inv.cne(I:Inv X pins σ H s):∀x c,X.env.cells.lookup x=some c->c≠X.env.locals:=λx c e z=>by
 obtain⟨v,o,ho,hd⟩:=I.cell x c e;obtain⟨m,⟨o',es,ep,ho',hd',_⟩,_⟩:=I.loc;rw[z,ho']at ho;cases ho;rw[hd']at hd;cases hd
theorem Inv.funs(I:Inv X pins σ H s):s.heap.FunFrames X.base X.outer:=by
 have all:∀(l:List Env),(∀b∈frs l,b∈X.fs)->X.s₀.heap.FunFrames X.base l->s.heap.FunFrames X.base l:=by
  intro l
  induction l with
  |nil=>intro _ _;trivial
  |cons env r ih =>
   intro hs hl;obtain⟨hk,⟨L,o,hf,hn,ho,hd⟩,hr⟩:=hl;have hL:L∈X.fs:=hs L (by unfold frs;rw[filterMap_cons,hf];exact mem_cons_self);obtain⟨sl,e⟩:=I.base.slot L o ho (I.ok.frf L hL) hL λz=>I.ok.exfs L z hL
   exact⟨hk,⟨L,_,hf,hn,e,hd⟩,ih (λb hb=>hs b (by unfold frs;rw[filterMap_cons,hf];exact mem_cons_of_mem _ hb)) hr⟩
 exact all X.outer (λ_ hb=>hb) I.ok.funs
theorem Inv.stack(I:Inv X pins σ H s):s.heap.FunFrames X.base X.stack:=by
 rcases I.ok.stk with e|⟨e,hf⟩
 ·rw[e];exact I.funs
 ·rw[e]
  obtain⟨m,hn,_⟩:=I.loc;refine .cons (by rw[I.ok.kind];decide) hf hn ?_ I.funs;exact Heap.get?_none_of_le (le_trans I.ok.bsz I.ok.above)
theorem Inv.stkSub(I:Inv X pins σ H s):∀b∈frs X.stack,b∈X.env.locals::X.fs:=λb hb=>by
 rcases I.ok.stk with e|⟨e,hf⟩
 ·rw[e]at hb;exact mem_cons_of_mem _ hb
 ·rw[e]at hb
  unfold frs at hb;rw[filterMap_cons,hf]at hb;exact hb
theorem Inv.stkFree(I:Inv X pins σ H s):∀b∈frs X.stack,H b=none:=λb hb=>by
 rcases mem_cons.mp (I.stkSub b hb)with e|hb
 ·rw[e];exact I.free
 ·obtain⟨_,o,ho,_⟩:=I.ok.funs.mem hb
  exact I.base.free b o ho (I.ok.frf b hb) λz=>I.ok.exfs b z hb
theorem Inv.step{g':Array GenState}{t':Nat}{d':Drawn}{ch:List Addr}(I:Inv X pins σ H s)
  (hch:∀b∈ch,(b∈X.ex\/X.s₀.heap.objs.size<=b)/\b≠X.env.locals/\(∀x c,X.env.cells.lookup x=some c->c≠b)/\∀p∈X.pn++pins,p.1≠b)
  (keep:∀b o,b≠X.env.locals->b∉X.fs->b∉ch->s.heap.get? b=some o->H b=none->h'.get? b=some o)
  (slot:∀b o,b≠X.env.locals->b∈X.fs->b∉ch->s.heap.get? b=some o->H b=none->∃sl,h'.get? b=some {o with slots:=sl}) (free:∀b o,b∉ch->s.heap.get? b=some o->H b=none->H' b=none)
  (there:∀b o,b∉ch->s.heap.get? b=some o->∃o',h'.get? b=some o')
  (tups:∀b xs,H b=some (.tup xs)->H' b=some (.tup xs)) (frzs:∀b o u,H b=some (.frz o u)->H' b=some (.frz o u)) (tbls:∀b ps,H b=some (.tbl ps)->∃more,H' b=some (.tbl (ps++more)))
  (ns:∀m,s.heap.Ns X.env.locals m->h'.Ns X.env.locals m) (hok:HOk X.prog X.w H' h') (hg:AllBare g') :
  Inv X pins σ H' {s with heap:=h',gens:=g',drawn:=d',toks:=t'}:=by
 have neL:∀b o,X.s₀.heap.get? b=some o->b≠X.env.locals:=λb o e=>ne_of_lt (lt_of_lt_of_le (lt_size e) I.ok.above)
 have neC:∀b o,X.s₀.heap.get? b=some o->b∉X.ex->b∉ch:=λb o e hx hb=>by
  rcases(hch b hb).1 with z|z
  ·exact hx z
  ·exact absurd (lt_of_lt_of_le (lt_size e) z) (lt_irrefl _)
 have cellK:∀x c,X.env.cells.lookup x=some c->∀v,s.heap.IsCell c v->h'.IsCell c v:=λx c e v ⟨o,ho,hd⟩=>by
  have nch:c∉ch:=λz=>(hch c z).2.2.1 x c e rfl
  by_cases hc:c∈X.fs
  ·obtain⟨sl,q⟩:=slot c o (I.cne x c e) hc nch ho (I.freeC x c e)
   exact⟨_,q,hd⟩
  ·exact⟨o,keep c o (I.cne x c e) hc nch ho (I.freeC x c e),hd⟩
 refine⟨I.ok,I.os,hg,⟨λb o e n hb hx=>?_,λb o e n hb hx=>?_,λb o e n hx=>?_,λb o e hx=>?_,λb xs e=>tups b xs (I.base.tups b xs e),λb o xs e=>frzs b o xs (I.base.frzs b o xs e),λb ps e=>?_⟩,?_,λx c e=>?_,?_,λx c e=>?_,λp hp=>?_,hok,I.len⟩
 ·exact keep b o (neL b o e) hb (neC b o e hx) (I.base.keep b o e n hb hx) (I.base.free b o e n hx)
 ·obtain⟨sl,e1⟩:=I.base.slot b o e n hb hx
  obtain⟨sl',e2⟩:=slot b _ (neL b o e) hb (neC b o e hx) e1 (I.base.free b o e n hx);exact⟨sl',e2⟩
 ·obtain⟨o',e1⟩:=I.base.there b o e hx
  exact free b o' (neC b o e hx) e1 (I.base.free b o e n hx)
 ·obtain⟨o',e1⟩:=I.base.there b o e hx
  exact there b o' (neC b o e hx) e1
 ·obtain⟨m1,e1⟩:=I.base.tbls b ps e
  obtain⟨m2,e2⟩:=tbls b _ e1;exact⟨m1++m2,by rw[e2,Array.append_assoc]⟩
 ·obtain⟨m,hn,hl⟩:=I.loc
  refine⟨m,ns m hn,λi x v e1 e2 e3=>?_⟩;obtain⟨u,r,l⟩:=hl i x v e1 e2 e3;refine⟨u,r,?_⟩;rcases l with l|⟨k,c,e,z⟩
  ·exact .inl l
  ·exact .inr ⟨k,c,e,cellK x c e _ z⟩
 ·obtain⟨v,z⟩:=I.cell x c e
  exact⟨v,cellK x c e v z⟩
 ·obtain⟨m,⟨o,_,_,ho,_⟩,_⟩:=I.loc
  exact free _ o (λz=>(hch _ z).2.1 rfl) ho I.free
 ·obtain⟨v,o,ho,hd⟩:=I.cell x c e
  exact free c o (λz=>(hch c z).2.2.1 x c e rfl) ho (I.freeC x c e)
 ·obtain⟨e,n,ne,nf,d⟩:=I.pin p hp
  have nch:p.1∉ch:=λz=>(hch p.1 z).2.2.2 p hp rfl
  exact⟨keep p.1 p.2 ne nf nch e n,free p.1 p.2 nch e n,ne,nf,d⟩
theorem Inv.un{t':Nat}(I:Inv X pins σ H s)(u:Un X.fs [] H H' s.heap h')(hok:HOk X.prog X.w H' h'):Inv X pins σ H' {s with heap:=h',toks:=t'}:=by
 obtain⟨m,⟨o,es,ep,ho,r⟩,_⟩:=id I.loc;obtain⟨sl,hL⟩:=u.any ho I.free (by simp);exact I.step (g':=s.gens) (d':=s.drawn) (ch:=[]) (λ_ z=>nomatch z) (λb o _ hb _ e n=>u.keep b o e n hb (by simp)) (λb o _ hb _ e n=>u.slot b o e n hb (by simp)) (λb o _ e n=>u.free b o e n (by simp)) (λb o _ e=>u.there b o e (by simp)) u.tups u.frzs u.tbls (λm' hm=>by
  obtain⟨o',es',ep',ho',r'⟩:=hm;rw[ho]at ho';cases ho';exact⟨_,es',ep',hL,r'⟩) hok I.bare
theorem Inv.call{g':Array GenState}{t':Nat}{d':Drawn}{ch:List Addr}(I:Inv X pins σ H s)(u:Un (frs X.stack) ch H H' s.heap h')(hok:HOk X.prog X.w H' h')(hg:AllBare g')
  (hch:∀b∈ch,(b∈X.ex\/X.s₀.heap.objs.size<=b)/\b≠X.env.locals/\(∀x c,X.env.cells.lookup x=some c->c≠b)/\∀p∈X.pn++pins,p.1≠b) :
  Inv X pins σ H' {s with heap:=h',gens:=g',drawn:=d',toks:=t'}:=by
 obtain⟨m,⟨o,es,ep,ho,r⟩,_⟩:=id I.loc;obtain⟨sl,hL⟩:=u.any ho I.free λz=>(hch _ z).2.1 rfl
 exact I.step (ch:=ch) hch (λb o hL hb hc e n=>u.keep b o e n (λz=>(mem_cons.mp (I.stkSub b z)).elim hL hb) hc) (λb o _ _ hc e n=>u.any e n hc) (λb o hc e n=>u.free b o e n hc) (λb o hc e=>u.there b o e hc) u.tups u.frzs u.tbls (λm' hm=>by
  obtain⟨o',es',ep',ho',r'⟩:=hm;rw[ho]at ho';cases ho';exact⟨_,es',ep',hL,r'⟩) hok hg
theorem Inv.turned{t':Nat}{it:Addr}(I:Inv X pins σ H s)(k:∀b o,b≠it->s.heap.get? b=some o->h'.get? b=some o)(hn:H it=none)(hL:it≠X.env.locals)
  (h1:it∈X.ex\/X.s₀.heap.objs.size<=it) (h2:∀x c,X.env.cells.lookup x=some c->c≠it) (h3:∀p∈X.pn++pins,p.1≠it):Inv X pins σ H {s with heap:=h',toks:=t'}:=by
 have nit:∀b u,H b=some u->b≠it:=λb u e z=>by rw[z,hn]at e;cases e
 refine I.step (g':=s.gens) (d':=s.drawn) (ch:=[it]) (λb hb=>?_) (λb o _ _ hc e _=>k b o (λz=>hc (by simp[z])) e) (λb o _ _ hc e _=>⟨o.slots,k b o (λz=>hc (by simp[z])) e⟩) (λ_ _ _ _ n=>n)
  (λb o hc e=>⟨o,k b o (λz=>hc (by simp[z])) e⟩) (λ_ _ e=>e) (λ_ _ _ e=>e) (λb ps e=>⟨#[],by rw[e];simp⟩) (λm hm=>?_) (λb u e=>?_) I.bare
 ·have e:b=it:=by simpa using hb
  subst e;exact⟨h1,hL,h2,h3⟩
 ·obtain⟨o,es,ep,ho,r⟩:=hm
  exact⟨o,es,ep,k _ o (Ne.symm hL) ho,r⟩
 ·refine(I.hok b u e).stay (λc v hc q=>k c v ?_ q) (λ_ q=>q) λ_ _ q=>q
  rcases hc with z|z
  ·rw[z];exact nit b u e
  ·exact nit c _ z
theorem Inv.tok(I:Inv X pins σ H s)(t:Nat):Inv X pins σ H {s with toks:=t}:=I.un (h':=s.heap) (t':=t) Un.refl I.hok
theorem Inv.kept{t':Nat}(I:Inv X pins σ H s)(k:∀b u,s.heap.get? b=some u->h'.get? b=some u):Inv X pins σ H {s with heap:=h',toks:=t'}:=I.un (Un.kept k) (I.hok.kept k)
theorem Inv.laid{a:Addr}{o:HO}{t':Nat}(I:Inv X pins σ H s)(k:∀b u,s.heap.get? b=some u->h'.get? b=some u)(hp:s.heap.objs.size<=a)(new:JE X.prog X.w (upd H a o) h' a o) :
  Inv X pins σ (upd H a o) {s with heap:=h',toks:=t'}:=I.un (Un.laid k hp (I.hok.fresh hp)) (I.hok.laid k hp new)
theorem Inv.write{x e:Addr}{o:HO}{t':Nat}(I:Inv X pins σ H s)(mu:Mut (H x))(he:e=x\/H e=some (.own x))(k:∀b u,b≠e->s.heap.get? b=some u->h'.get? b=some u)(heo:∃u,h'.get? e=some u)
  (new:JE X.prog X.w (upd H x o) h' x o):Inv X pins σ (upd H x o) {s with heap:=h',toks:=t'}:=I.un (Un.write mu he k heo) (I.hok.write mu he k heo new)
theorem Inv.weak{σ':List (Option V)}(I:Inv X pins σ H s)(hl:σ'.length=σ.length)(w:∀(i:Nat) v,σ'[i]?=some (some v)->σ[i]?=some (some v)):Inv X pins σ' H s :=
 ⟨I.ok,I.os,I.bare,I.base,let ⟨m,hn,hl'⟩:=I.loc;⟨m,hn,λi x v e1 e2 e3=>hl' i x v e1 (w i v e2) e3⟩,I.cell,I.free,I.freeC,I.pin,I.hok,hl.trans I.len⟩
theorem Inv.pins_of{pins':List (Addr×Obj)}(I:Inv X pins σ H s)(h:∀p∈pins',s.heap.get? p.1=some p.2/\H p.1=none/\p.1≠X.env.locals/\p.1∉X.fs/\∀v,p.2.data≠.cell v):Inv X pins' σ H s :=
 ⟨I.ok,I.os,I.bare,I.base,I.loc,I.cell,I.free,I.freeC,λp hp=>(mem_append.mp hp).elim (λz=>I.pin p (mem_append_left _ z)) (h p),I.hok,I.len⟩
theorem zAA{N:List Str}(hN:N.Nodup){i j:Nat}{x:Str}(a:N[i]?=some x)(b:N[j]?=some x):i=j:=by
 obtain⟨h1,e1⟩:=List.getElem?_eq_some_iff.mp a;obtain⟨h2,e2⟩:=List.getElem?_eq_some_iff.mp b;exact(List.getElem_inj hN).mp (e1.trans e2.symm)
theorem WI{M:Model}{A:Around}{E:Value->Shared->Prop}{i:Nat}{x:Str}{v:V}{u:Value}{Q:Unit->Shared->Prop}(I:Inv X pins σ H s)(hN:X.N.Nodup)(hi:X.N[i]?=some x)(hx:Loc X.env.scope x)(r:yU v u)
  (h:∀s',Inv X pins (σ.set i (some v)) H s'->(∃a,Heap.SameBut a s.heap s'.heap/\(a=X.env.locals\/X.env.cells.lookup x=some a))->Q () s') (hf:X.fn x=true\/X.env.scope.names.lookup x=some .local:=by first|exact .inl rfl|exact .inr rfl|assumption):wpAny M A (storeName X.env x u) Q E s:=by
 obtain⟨m,hn,hl⟩:=id I.loc;have hcls:(X.env.scope.kind==.class||(X.env.scope.kind==.module&&X.env.locals != X.env.globals))=false:=by rw[I.ok.kind];rfl
 have hiσ:i<σ.length:=by rw[I.len];exact(List.getElem?_eq_some_iff.mp hi).1
 have cne:=I.cne;have tracked:∀{a:Addr} {h':Heap},(∃o,s.heap.get? a=some o/\H a=none)->Heap.SameBut a s.heap h'->HOk X.prog X.w H h':=λ{a h'} ha hs b ob e=>by
  obtain⟨_,_,hfree⟩:=ha;refine(I.hok b ob e).stay (λc w' hc q=>(hs.2 c ?_).trans q) (λ_ q=>q) λ_ _ q=>q
  rintro rfl
  rcases hc with rfl|hc
  ·rw[hfree]at e;cases e
  ·rw[hfree]at hc;cases hc
 rcases hx with hk|hk
 ·refine wpAny_storeName_local hk hn (λh' hn' hs=>?_) hcls
  obtain⟨oL,_,_,hoL,_⟩:=id hn;refine h _ ⟨I.ok,I.os,I.bare,⟨λb o e n hb hx=>?_,λb o e n hb hx=>?_,I.base.free,λb o e hx=>?_,I.base.tups,I.base.frzs,I.base.tbls⟩,⟨_,hn',λj y v' e1 e2 e3=>?_⟩,λy c e=>?_,I.free,I.freeC,λp hp=>?_,tracked ⟨oL,hoL,I.free⟩ hs,by simpa using I.len⟩ ⟨_,hs,.inl rfl⟩
  ·exact(hs.2 b (ne_of_lt (lt_of_lt_of_le (lt_size e) I.ok.above))).trans (I.base.keep b o e n hb hx)
  ·obtain⟨sl,e1⟩:=I.base.slot b o e n hb hx
   exact⟨sl,(hs.2 b (ne_of_lt (lt_of_lt_of_le (lt_size e) I.ok.above))).trans e1⟩
  ·obtain⟨o',e1⟩:=I.base.there b o e hx
   exact⟨o',(hs.2 b (ne_of_lt (lt_of_lt_of_le (lt_size e) I.ok.above))).trans e1⟩
  ·by_cases hj:j=i
   ·subst hj
    rw[hi]at e1;cases e1;rw[getElem?_set_self hiσ]at e2;cases e2;exact⟨u,r,.inl ⟨hk,by simp⟩⟩
   ·rw[getElem?_set_ne (Ne.symm hj)]at e2
    obtain⟨u',r',q⟩:=hl j y v' e1 e2 e3;refine⟨u',r',?_⟩;rcases q with⟨k,e⟩|⟨k,c,e,z⟩
    ·refine .inl ⟨k,?_⟩
     have:y≠x:=λe=>hj (zAA hN e1 (e▸hi))
     simp[this,e]
    ·exact .inr ⟨k,c,e,z.sameBut hs (cne y c e)⟩
  ·obtain⟨w',z⟩:=I.cell y c e
   exact⟨w',z.sameBut hs (cne y c e)⟩
  ·obtain⟨e,n,ne,nf,d⟩:=I.pin p hp
   exact⟨(hs.2 p.1 ne).trans e,n,ne,nf,d⟩
 ·have hfn:X.fn x=true:=by
   rcases hf with z|z
   ·exact z
   ·rw[z]at hk;cases hk
  obtain⟨c,hc⟩:=I.ok.has x (.inl hk);obtain⟨w',z⟩:=I.cell x c hc;refine wpAny_storeName_cell I.ok.kind hk hc z (λh' hc' hs=>?_);obtain⟨oc,hoc,hocd⟩:=id z;refine h {s with heap:=h'} ⟨I.ok,I.os,I.bare,⟨λb o e n hb hx=>?_,λb o e n hb hx=>?_,I.base.free,λb o e hx=>?_,I.base.tups,I.base.frzs,I.base.tbls⟩,⟨m,hn.sameBut hs (Ne.symm (cne x c hc)),λj y v' e1 e2 e3=>?_⟩,λy c' e=>?_,I.free,I.freeC,λp hp=>?_,tracked ⟨oc,hoc,I.freeC x c hc⟩ hs,by simpa using I.len⟩ ⟨c,hs,.inr hc⟩
  ·exact(hs.2 b (ne_of_lt (lt_of_lt_of_le (lt_size e) (I.ok.cab x c hfn hc)))).trans (I.base.keep b o e n hb hx)
  ·obtain⟨sl,e1⟩:=I.base.slot b o e n hb hx
   exact⟨sl,(hs.2 b (ne_of_lt (lt_of_lt_of_le (lt_size e) (I.ok.cab x c hfn hc)))).trans e1⟩
  ·obtain⟨o',e1⟩:=I.base.there b o e hx
   exact⟨o',(hs.2 b (ne_of_lt (lt_of_lt_of_le (lt_size e) (I.ok.cab x c hfn hc)))).trans e1⟩
  ·by_cases hj:j=i
   ·subst hj
    rw[hi]at e1;cases e1;rw[getElem?_set_self hiσ]at e2;cases e2;exact⟨u,r,.inr ⟨.inl hk,c,hc,hc'⟩⟩
   ·rw[getElem?_set_ne (Ne.symm hj)]at e2
    obtain⟨u',r',q⟩:=hl j y v' e1 e2 e3;refine⟨u',r',?_⟩;rcases q with q|⟨k,c',e,z'⟩
    ·exact .inl q
    ·refine .inr ⟨k,c',e,z'.sameBut hs ?_⟩
     rintro rfl
     exact hj (zAA hN e1 (I.ok.inj _ _ _ e hc▸hi))
  ·by_cases hcc:c'=c
   ·subst hcc;exact⟨_,hc'⟩
   ·obtain⟨w2,z2⟩:=I.cell y c' e
    exact⟨w2,z2.sameBut hs hcc⟩
  ·obtain⟨e,n,ne,nf,d⟩:=I.pin p hp
   refine⟨(hs.2 p.1 ?_).trans e,n,ne,nf,d⟩;intro q;rw[q,hoc]at e;have q':oc=p.2:=Option.some.inj e;exact d w' (by rw[<- q'];exact hocd)
theorem wA{M:Model}{A:Around}{E:Value->Shared->Prop}{i:Nat}{x:Str}{v:V}{u:Value}{Q:Unit->Shared->Prop}(I:Inv X pins σ H s)(hN:X.N.Nodup)(hi:X.N[i]?=some x)(hx:Loc X.env.scope x)(r:yU v u)
  (h:∀s',Inv X pins (σ.set i (some v)) H s'->Q () s') (hf:X.fn x=true\/X.env.scope.names.lookup x=some .local:=by first|exact .inl rfl|exact .inr rfl|assumption):wpAny M A (storeName X.env x u) Q E s :=
 WI I hN hi hx r (λs' I' _=>h s' I') hf
theorem Inv.call'{s':Shared}{ch:List Addr}(I:Inv X pins σ H s)(ho:s'.os=s.os)(u:Un (frs X.stack) ch H H' s.heap s'.heap)(hok:HOk X.prog X.w H' s'.heap)(hg:AllBare s'.gens)
  (hch:∀b∈ch,(b∈X.ex\/X.s₀.heap.objs.size<=b)/\b≠X.env.locals/\(∀x c,X.env.cells.lookup x=some c->c≠b)/\∀p∈X.pn++pins,p.1≠b):Inv X pins σ H' s':=by
 obtain⟨h',g',d',t',o'⟩:=s';have e:o'=s.os:=ho;subst e;exact I.call (g':=g') (t':=t') (d':=d') u hok hg hch
end
abbrev XK:=Value->Option Addr->Hp->Prop
abbrev St:=List (Option V)
abbrev VK:=V->Hp->Prop
abbrev TE:=St->Hp->VK->Prop
abbrev TT:=St->Hp->(Bool->Hp->Prop)->Prop
abbrev TA:=St->Hp->(List V->Hp->Prop)->Prop
structure Ends where
 nx:St->Hp->Prop
 rt:VK
 bk:St->Hp->Prop:=λ_ _=>False
 ct:St->Hp->Prop:=λ_ _=>False
abbrev TS:=Ends->St->Hp->Prop
def EP(X:Cx)(pins:List (Addr×Obj))(σ:St)(Q:VK)(u:Value)(s':Shared):Prop:=∃v H',Inv X pins σ H' s'/\yU v u/\Q v H'
def TP(X:Cx)(pins:List (Addr×Obj))(σ:St)(Q:Bool->Hp->Prop)(b:Bool)(s':Shared):Prop:=∃H',Inv X pins σ H' s'/\Q b H'
def AP(X:Cx)(pins:List (Addr×Obj))(σ:St)(Q:List V->Hp->Prop)(us:List Value)(s':Shared):Prop:=∃vs H',Inv X pins σ H' s'/\yD vs us/\Q vs H'
def SP(X:Cx)(pins:List (Addr×Obj))(D:Ends)(f:Flow)(s':Shared):Prop :=
 match f with
 | .next=>∃σ' H',Inv X pins σ' H' s'/\D.nx σ' H'
 | .brk=>∃σ' H',Inv X pins σ' H' s'/\D.bk σ' H'
 | .cont=>∃σ' H',Inv X pins σ' H' s'/\D.ct σ' H'
 | .ret u=>∃v σ' H',Inv X pins σ' H' s'/\yU v u/\D.rt v H'
def PE(X:Cx)(e:Expr)(t:TE):Prop :=
 ∀(pins:List (Addr×Obj)) (s:Shared) (σ:St) (H:Hp) (Q:VK),Inv X pins σ H s->t σ H Q->wpAny (model X.prog X.w) X.A (eval e X.env) (EP X pins σ Q) X.xe s
def PT(X:Cx)(e:Expr)(t:TT):Prop :=
 ∀(pins:List (Addr×Obj)) (s:Shared) (σ:St) (H:Hp) (Q:Bool->Hp->Prop),Inv X pins σ H s->t σ H Q->wpAny (model X.prog X.w) X.A (isTrue e X.env (eval e X.env)) (TP X pins σ Q) X.xe s
def PW(X:Cx)(e:Expr)(t:TT):Prop :=
 ∀(whole:Sem Value) (pins:List (Addr×Obj)) (s:Shared) (σ:St) (H:Hp) (Q:Bool->Hp->Prop),Inv X pins σ H s->t σ H Q->wpAny (model X.prog X.w) X.A (isTrue e X.env whole) (TP X pins σ Q) X.xe s
theorem PW.pt{X:Cx}{e:Expr}{t:TT}(h:PW X e t):PT X e t:=h _
def PA(X:Cx)(es:List Expr)(t:TA):Prop :=
 ∀(pos:Pos) (pins:List (Addr×Obj)) (s:Shared) (σ:St) (H:Hp) (Q:List V->Hp->Prop),Inv X pins σ H s->t σ H Q->wpAny (model X.prog X.w) X.A (spliced (backTo pos (starEach es X.env))) (AP X pins σ Q) X.xe s
def PS(X:Cx)(st:Stmt)(t:TS):Prop :=
 ∀(pins:List (Addr×Obj)) (s:Shared) (σ:St) (H:Hp) (D:Ends),Inv X pins σ H s->t D σ H->wpAny (model X.prog X.w) X.A (exec st X.env) (SP X pins D) X.xe s
def PSs(X:Cx)(st:List Stmt)(t:TS):Prop :=
 ∀(pins:List (Addr×Obj)) (s:Shared) (σ:St) (H:Hp) (D:Ends),Inv X pins σ H s->t D σ H->wpAny (model X.prog X.w) X.A (execs st X.env) (SP X pins D) X.xe s
theorem thn{α:Type}{t:Sem α}{Q Q':α->Shared->Prop}{M:Model}{A:Around}{E:Value->Shared->Prop}{s:Shared}(h:wpAny M A t Q E s)(hQ:∀a s,Q a s->Q' a s):wpAny M A t Q' E s:=wpAny_mono h hQ λ_ _ x=>x
end L2
namespace L2
open PySem PySem.Spec PyProof.Rows
section
variable{X:Cx}
theorem bin{a b:Expr}{ta tb:TE}(ha:PE X a ta)(hb:PE X b tb){pins:List (Addr×Obj)}{s:Shared}{σ:St}{H:Hp}{R:V->V->Hp->Prop}(I:Inv X pins σ H s)(h:ta σ H λx H1=>tb σ H1 λy H2=>R x y H2)
  {α:Type} {Q:α->Shared->Prop} {f:Value->Value->Sem α}
  (hf:∀v u s2 x y H2,Inv X pins σ H2 s2->yU x v->yU y u->R x y H2->wpAny (model X.prog X.w) X.A (f v u) Q X.xe s2) :
  wpAny (model X.prog X.w) X.A (eval a X.env) (λv s₁=>wpAny (model X.prog X.w) X.A (eval b X.env) (λu s₂=>wpAny (model X.prog X.w) X.A (f v u) Q X.xe s₂) X.xe s₁) X.xe s:=by
 refine thn (ha pins s σ H _ I h) λv s1 ⟨x,H1,I1,r1,q1⟩=>?_
 refine thn (hb pins s1 σ H1 _ I1 q1) λu s2 ⟨y,H2,I2,r2,q2⟩=>?_
 exact hf v u s2 x y H2 I2 r1 r2 q2
def zBU(i:Nat):TE:=λσ H Q=>∃v,σ[i]?=some (some v)/\Q v H
def tC(v:V):TE:=λ_ H Q=>Q v H
theorem pe_var{i:Nat}{x:Str}{pos:Pos}(hN:X.N[i]?=some x)(hv:Vis X.env.scope x)(hd:(x==("__debug__":Str))=false:=by decide)(hcd:(x==("__classdict__":Str))=false:=by decide):PE X (.Name x pos) (zBU i):=by
 intro pins s σ H Q I h;obtain⟨v,e,h⟩:=h;obtain⟨m,hn,hl⟩:=I.loc;obtain⟨u,r,l⟩:=hl i x v hN e hv;have fin:EP X pins σ Q u s:=⟨v,H,I,r,h⟩;rcases l with⟨hk,hm⟩|⟨hk,c,hc,hcell⟩
 ·exact wpAny_Name (wpAny_loadName_local I.ok.kind hk hn hm fin) hd
 ·rcases hk with hk|hk
  ·exact wpAny_Name (wpAny_loadName_cell I.ok.kind hk hc hcell fin) hd
  ·exact wpAny_Name (wpAny_loadName_free I.ok.kind hk hc hcell fin hcd) hd
theorem pe_int{i j pos}:PE X (.Constant (.int i) j pos) (tC (.int i)):=λ_ _ _ H _ I h=>wpAny_Constant_int ⟨.int i,H,I.tok _,⟨_,rfl⟩,h⟩
theorem pe_bl{b j pos}:PE X (.Constant (.bool b) j pos) (tC (.bl b)):=λ_ _ _ H _ I h=>Constant_bool ⟨.bl b,H,I,rfl,h⟩
theorem pe_non{j pos}:PE X (.Constant .none j pos) (tC .non):=λ_ _ _ H _ I h=>Constant_none ⟨.non,H,I,rfl,h⟩
theorem pe_str{x j pos}:PE X (.Constant (.str x) j pos) (tC (.str x)):=λ_ _ _ H _ I h=>Calls.Constant_str ⟨.str x,H,I.tok _,⟨_,rfl⟩,h⟩
def Gl(X:Cx)(x:Str):Prop:=X.env.kindOf x=some .globalImplicit
theorem zBV{E:Value->Shared->Prop}{pins:List (Addr×Obj)}{s:Shared}{σ:St}{H:Hp}{x:Str}{u:Value}{pos:Pos}{Q:Value->Shared->Prop}(I:Inv X pins σ H s)(hg:Gl X x)(hm:X.mg x=some u)(h:Q u s)
  (hd:(x==("__debug__":Str))=false:=by decide):wpAny (model X.prog X.w) X.A (eval (.Name x pos) X.env) Q E s :=
 Calls.Name_function_global I.ok.kind hg (Calls.loadGlobal_global (by rw[I.ok.glob];exact I.mod.glob.keeps I.bk) hm h) hd
theorem Jw{E:Value->Shared->Prop}{pins:List (Addr×Obj)}{s:Shared}{σ:St}{H:Hp}{x:Str}{u:Value}{pos:Pos}{Q:Value->Shared->Prop}(I:Inv X pins σ H s)(hg:Gl X x)(hm:X.mg x=none)(hv:bootBuiltins x=some u)(h:Q u s)
  (hn:x≠"__name__":=by decide) (hd:(x==("__debug__":Str))=false:=by decide):wpAny (model X.prog X.w) X.A (eval (.Name x pos) X.env) Q E s:=by
 obtain⟨mb,h1,h2⟩:=I.mod.blt;exact Calls.Name_function_global I.ok.kind hg (Calls.loadGlobal_builtin (by rw[I.ok.glob];exact I.mod.glob.keeps I.bk) hm (by rw[I.ok.blt];exact h1.keeps I.bk) ((h2 x hn).trans hv) h) hd
theorem pe_glob{x:Str}{v:V}{u:Value}{pos:Pos}(hg:Gl X x)(hm:X.mg x=some u)(r:yU v u)(hd:(x==("__debug__":Str))=false:=by decide):PE X (.Name x pos) (tC v) :=
 λ_ _ _ H _ I h=>zBV I hg hm ⟨v,H,I,r,h⟩ hd
theorem pe_bltn{x:Str}{v:V}{u:Value}{pos:Pos}(hg:Gl X x)(hm:X.mg x=none)(hv:bootBuiltins x=some u)(r:yU v u)(hn:x≠"__name__":=by decide)(hd:(x==("__debug__":Str))=false:=by decide):PE X (.Name x pos) (tC v) :=
 λ_ _ _ H _ I h=>Jw I hg hm hv ⟨v,H,I,r,h⟩ hn hd
variable{a b:Expr}{ta tb:TE}{pos:Pos}
def tB(t:TE):TT:=λσ H Q=>t σ H λx H1=>∃c,x=.bl c/\Q c H1
theorem pt_val{e:Expr}{t:TE}(h:PE X e t)(he:∀whole,isTrue e X.env whole=(do let v <- whole;standAt e.pos;holding [v] (truthy v)):=by intro _;rfl):PT X e (tB t):=by
 intro pins s σ H Q I hw;refine isTrue_plain (thn (h pins s σ H _ I hw) λv s1 ⟨x,H1,I1,r1,q1⟩=>?_) (he _);obtain⟨d,rfl,q⟩:=q1;cases r1;exact wpAny_truthy_bool ⟨H1,I1,q⟩
variable{tA tB':TT}{YQ:List Expr}
def tAnd(t u:TT):TT:=λσ H Q=>t σ H λc H1=>if c=true then u σ H1 Q else Q false H1
def tOr(t u:TT):TT:=λσ H Q=>t σ H λc H1=>if c=true then Q true H1 else u σ H1 Q
def tNot(t:TT):TT:=λσ H Q=>t σ H λc H1=>Q (!c) H1
theorem pw_and1(ha:PT X a tA):PW X (.BoolOp .And [a] pos) tA:=by
 intro wh pins s σ H Q I h;refine isTrue_and (thn (ha pins s σ H Q I h) λc s1 e=>?_);cases c with
 |true=>exact isTrue_and_nil e
 |false=>exact e
theorem pw_or1(ha:PT X a tA):PW X (.BoolOp .Or [a] pos) tA:=by
 intro wh pins s σ H Q I h;refine isTrue_or (thn (ha pins s σ H Q I h) λc s1 e=>?_);cases c with
 |false=>exact isTrue_or_nil e
 |true=>exact e
theorem pw_and(ha:PT X a tA)(hb:PW X (.BoolOp .And (b::YQ) pos) tB'):PW X (.BoolOp .And (a::b::YQ) pos) (tAnd tA tB'):=by
 intro wh pins s σ H Q I h;refine isTrue_and (thn (ha pins s σ H _ I h) λc s1 ⟨H1,I1,q1⟩=>?_);cases c with
 |true=>exact hb wh pins s1 σ H1 Q I1 q1
 |false=>exact⟨H1,I1,q1⟩
theorem pw_or(ha:PT X a tA)(hb:PW X (.BoolOp .Or (b::YQ) pos) tB'):PW X (.BoolOp .Or (a::b::YQ) pos) (tOr tA tB'):=by
 intro wh pins s σ H Q I h;refine isTrue_or (thn (ha pins s σ H _ I h) λc s1 ⟨H1,I1,q1⟩=>?_);cases c with
 |true=>exact⟨H1,I1,q1⟩
 |false=>exact hb wh pins s1 σ H1 Q I1 q1
theorem pt_not(ha:PT X a tA):PT X (.UnaryOp .Not a pos) (tNot tA):=by
 intro pins s σ H Q I h;exact isTrue_not (ha pins s σ H (λc H1=>Q (!c) H1) I h)
def tAndV(ta tb:TE):TE:=λσ H Q=>ta σ H λx H1=>∃c,x=.bl c/\if c=true then tb σ H1 Q else Q (.bl false) H1
def tOrV(ta tb:TE):TE:=λσ H Q=>ta σ H λx H1=>∃c,x=.bl c/\if c=true then Q (.bl true) H1 else tb σ H1 Q
def tNotV(ta:TE):TE:=λσ H Q=>ta σ H λx H1=>∃c,x=.bl c/\Q (.bl (!c)) H1
theorem pe_one{op}{t:TE}(h:PE X a t):PE X (.BoolOp op [a] pos) t:=λpins s σ H Q I hw=>BoolOp_one (h pins s σ H Q I hw)
theorem pe_and(ha:PE X a ta)(hb:PE X (.BoolOp .And (b::YQ) pos) tb):PE X (.BoolOp .And (a::b::YQ) pos) (tAndV ta tb):=by
 intro pins s σ H Q I h;refine BoolOp_and (thn (ha pins s σ H _ I h) λv s1 ⟨x,H1,I1,r1,q1⟩=>?_);obtain⟨c,rfl,q1⟩:=q1;cases r1;refine wpAny_truthy_bool ?_;cases c with
 |true=>exact hb pins s1 σ H1 Q I1 q1
 |false=>exact⟨.bl false,H1,I1,rfl,q1⟩
theorem pe_or(ha:PE X a ta)(hb:PE X (.BoolOp .Or (b::YQ) pos) tb):PE X (.BoolOp .Or (a::b::YQ) pos) (tOrV ta tb):=by
 intro pins s σ H Q I h;refine BoolOp_or (thn (ha pins s σ H _ I h) λv s1 ⟨x,H1,I1,r1,q1⟩=>?_);obtain⟨c,rfl,q1⟩:=q1;cases r1;refine wpAny_truthy_bool ?_;cases c with
 |false=>exact hb pins s1 σ H1 Q I1 q1
 |true=>exact⟨.bl true,H1,I1,rfl,q1⟩
theorem pe_not(ha:PE X a ta):PE X (.UnaryOp .Not a pos) (tNotV ta):=by
 intro pins s σ H Q I h;refine UnaryOp_ (thn (ha pins s σ H _ I h) λv s1 ⟨x,H1,I1,r1,q1⟩=>?_);obtain⟨c,rfl,q1⟩:=q1;cases r1;exact not_of (wpAny_truthy_bool ⟨.bl (!c),H1,I1,rfl,q1⟩)
def tIf(t:TT)(ta tb:TE):TE:=λσ H Q=>t σ H λc H1=>if c=true then ta σ H1 Q else tb σ H1 Q
theorem zDY{c:Expr}(hc:PT X c tA)(ha:PE X a ta)(hb:PE X b tb):PE X (.IfExp c a b pos) (tIf tA ta tb):=by
 intro pins s σ H Q I h;refine wpAny_IfExp (thn (hc pins s σ H _ I h) λd s1 ⟨H1,I1,q1⟩=>?_);cases d with
 |true=>exact ha pins s1 σ H1 Q I1 q1
 |false=>exact hb pins s1 σ H1 Q I1 q1
end
end L2
namespace L2
open PySem PySem.Spec PyProof.Rows
def SqL(K:PySem.W.Frag)(H:Hp)(a:Addr)(xs:List V):Prop :=
 Rd H a (.lst xs) \/
  ∃(o:Obj) (its:Array Value) (n:Nat),K.lookup a=some o/\o.cls=.type "list"/\o.dict=none/\o.data=.seq its n/\its.size<=sizeLine/\yD xs its.toList
def SqT(K:PySem.W.Frag)(H:Hp)(a:Addr)(xs:List V):Prop :=
 Rd H a (.tup xs) \/
  ∃(o:Obj) (its:Array Value) (n:Nat),K.lookup a=some o/\o.cls=.type "tuple"/\o.data=.seq its n/\its.size<=sizeLine/\yD xs its.toList
def absV:Value->Option V
 | .none=>some .non
 | .bool b=>some (.bl b)
 | .int i _=>some (.int i)
 | .str x _=>some (.str x)
 | .bytes b _=>some (.byt b)
 | .float b _=>some (.flt b)
 | .ref a=>some (.ref a)
 | .type n=>some (.ty n)
 |_=>none
theorem yU.abs{x:V}{u:Value}(r:yU x u):absV u=some x:=by
 cases x with
 |non=>cases r;rfl
 |bl _=>cases r;rfl
 |int _=>obtain⟨t,rfl⟩:=r;rfl
 |str _=>obtain⟨t,rfl⟩:=r;rfl
 |byt _=>obtain⟨t,rfl⟩:=r;rfl
 |flt _=>obtain⟨t,rfl⟩:=r;rfl
 |ref _=>cases r;rfl
 |ty _=>cases r;rfl
theorem yU.inj{x y:V}{u:Value}(r:yU x u)(q:yU y u):x=y:=Option.some.inj (r.abs.symm.trans q.abs)
theorem yD.inj:∀{xs ys:List V} {us:List Value},yD xs us->yD ys us->xs=ys
 |_,_,_,.nil,.nil=>rfl
 |_,_,_,.cons r t,.cons r' t'=>by rw[r.inj r',yD.inj t t']
section
variable{X:Cx}{pins:List (Addr×Obj)}{σ:St}{H:Hp}{s:Shared}{a:Addr}{xs ys:List V}
theorem SqL.of{K:PySem.W.Frag}(h:H a=some (.lst xs)):SqL K H a xs:=.inl (.inl h)
theorem SqT.of{K:PySem.W.Frag}(h:H a=some (.tup xs)):SqT K H a xs:=.inl (.inl h)
theorem Inv.list(I:Inv X pins σ H s)(h:SqL X.K H a xs):∃its:List Value,yD xs its/\PlainL s.heap a its.toArray/\xs.length<=sizeLine:=by
 rcases h with h|⟨o,its,n,hk,hc,hd,hs,hz,r⟩
 ·obtain⟨z,its,n,r,e⟩:=h.ok I.hok
  exact⟨its,r,⟨_,n,e,rfl,rfl,rfl⟩,z⟩
 ·refine⟨its.toList,r,⟨o,n,I.kIn a o hk,hc,hd,by simpa using hs⟩,?_⟩
  have e:=r.length;simp only[Array.length_toList]at e;omega
theorem Inv.tuple(I:Inv X pins σ H s)(h:SqT X.K H a xs):∃its:List Value,yD xs its/\IsTup s.heap a its.toArray/\xs.length<=sizeLine:=by
 rcases h with h|⟨o,its,n,hk,hc,hs,hz,r⟩
 ·obtain⟨z,its,r,p⟩:=h.ok I.hok
  exact⟨its,r,p,z⟩
 ·refine⟨its.toList,r,⟨o,I.kIn a o hk,hc,n,by simpa using hs⟩,?_⟩
  have e:=r.length;simp only[Array.length_toList]at e;omega
theorem Inv.list_inj(I:Inv X pins σ H s)(h:SqL X.K H a xs)(h':SqL X.K H a ys):xs=ys:=by
 obtain⟨its,r,⟨o,n,e,_,_,d⟩,_⟩:=I.list h;obtain⟨its',r',⟨o',n',e',_,_,d'⟩,_⟩:=I.list h';rw[e]at e';cases e';rw[d]at d';injection d' with d1 _
 have:its=its':=by simpa using congrArg Array.toList d1
 subst this;exact r.inj r'
theorem Inv.tuple_inj(I:Inv X pins σ H s)(h:SqT X.K H a xs)(h':SqT X.K H a ys):xs=ys:=by
 obtain⟨its,r,⟨o,e,_,n,d⟩,_⟩:=I.tuple h;obtain⟨its',r',⟨o',e',_,n',d'⟩,_⟩:=I.tuple h';rw[e]at e';cases e';rw[d]at d';injection d' with d1 _
 have:its=its':=by simpa using congrArg Array.toList d1
 subst this;exact r.inj r'
end
abbrev Cx.wish(X:Cx)(E:Value->Shared->Prop):Cx:={X with xe:=E}
abbrev Cx.nox(X:Cx):Cx:=X.wish λ_ _=>False
theorem Cx.Ok.wish{X:Cx}(ok:X.Ok)(E:Value->Shared->Prop):(X.wish E).Ok :=
 ⟨ok.mod,ok.kind,ok.glob,ok.blt,ok.above,ok.inj,ok.has,ok.cab,ok.hd,ok.frames,ok.stk,ok.exf,ok.bs,ok.bsz,ok.noex,ok.exfs,ok.funs,ok.frf⟩
theorem Cx.Ok.unwish{X:Cx}{E:Value->Shared->Prop}(ok:(X.wish E).Ok):X.Ok :=
 ⟨ok.mod,ok.kind,ok.glob,ok.blt,ok.above,ok.inj,ok.has,ok.cab,ok.hd,ok.frames,ok.stk,ok.exf,ok.bs,ok.bsz,ok.noex,ok.exfs,ok.funs,ok.frf⟩
section
variable{X:Cx}{pins:List (Addr×Obj)}{σ:St}{H:Hp}{s:Shared}{E:Value->Shared->Prop}
theorem Inv.wish(I:Inv X pins σ H s)(E:Value->Shared->Prop):Inv (X.wish E) pins σ H s:=⟨I.ok.wish E,I.os,I.bare,I.base,I.loc,I.cell,I.free,I.freeC,I.pin,I.hok,I.len⟩
theorem Inv.unwish(I:Inv (X.wish E) pins σ H s):Inv X pins σ H s:=⟨I.ok.unwish,I.os,I.bare,I.base,I.loc,I.cell,I.free,I.freeC,I.pin,I.hok,I.len⟩
theorem SP.unwish{D:Ends}{f:Flow}{s':Shared}(h:SP (X.wish E) pins D f s'):SP X pins D f s':=by
 cases f with
 |next=>obtain⟨σ',H',I,q⟩:=h;exact⟨σ',H',I.unwish,q⟩
 |brk=>obtain⟨σ',H',I,q⟩:=h;exact⟨σ',H',I.unwish,q⟩
 |cont=>obtain⟨σ',H',I,q⟩:=h;exact⟨σ',H',I.unwish,q⟩
 |ret u=>obtain⟨v,σ',H',I,r,q⟩:=h;exact⟨v,σ',H',I.unwish,r,q⟩
theorem PE.nox{e:Expr}{t:TE}(h:PE X.nox e t):PE X e t:=λpins s σ H Q I hw =>
 wpAny_mono (h pins s σ H Q (I.wish _) hw) (λ_ _ ⟨v,H',I',r,q⟩=>⟨v,H',I'.unwish,r,q⟩) λ_ _ z=>False.elim z
theorem PT.nox{e:Expr}{t:TT}(h:PT X.nox e t):PT X e t:=λpins s σ H Q I hw =>
 wpAny_mono (h pins s σ H Q (I.wish _) hw) (λ_ _ ⟨H',I',q⟩=>⟨H',I'.unwish,q⟩) λ_ _ z=>False.elim z
theorem PSs.nox{st:List Stmt}{t:TS}(h:PSs X.nox st t):PSs X st t:=λpins s σ H D I hw =>
 wpAny_mono (h pins s σ H D (I.wish _) hw) (λ_ _ q=>q.unwish) λ_ _ z=>False.elim z
end
section
variable{X:Cx}{st:Stmt}{YQ:List Stmt}{t u:TS}{e:Expr}{te:TE}{pos:Pos}
def tNext:TS:=λD σ H=>D.nx σ H
def tSeq(t u:TS):TS:=λD σ H=>t {D with nx:=u D} σ H
theorem pss_nil:PSs X [] tNext:=λ_ _ σ H _ I h=>wpAny_execs_nil ⟨σ,H,I,h⟩
theorem zDZ(h1:PS X st t)(h2:PSs X YQ u):PSs X (st::YQ) (tSeq t u):=by
 intro pins s σ H D I h;refine wpAny_execs_cons (thn (h1 pins s σ H {D with nx:=u D} I h) λf s1 q=>?_)
 cases f with
 |next =>
  obtain⟨σ',H',I',q⟩:=q;exact h2 pins s1 σ' H' D I' q
 |ret v=>exact q
 |brk=>exact q
 |cont=>exact q
theorem pss_one(h1:PS X st t):PSs X [st] t:=by
 intro pins s σ H D I h;refine wpAny_execs_cons (thn (h1 pins s σ H D I h) λf s1 q=>?_);cases f with
 |next=>exact wpAny_execs_nil q
 |ret v=>exact q
 |brk=>exact q
 |cont=>exact q
theorem Inv.quiet{pins:List (Addr×Obj)}{σ:St}{H:Hp}{s:Shared}(I:Inv X pins σ H s):interactive X.env=false:=by simp[interactive,I.ok.kind]
def tDrop(te:TE):TS:=λD σ H=>te σ H λ_ H1=>D.nx σ H1
theorem zBW(he:PE X e te)(hs:swapsWith e none pos.line X.env=pure false:=by rfl):PS X (.Expr e pos) (tDrop te):=by
 intro pins s σ H D I h;exact wpAny_Expr_any (thn (he pins s σ H _ I h) λv s1 ⟨x,H1,I1,r1,q1⟩=>⟨σ,H1,I1,q1⟩) I.quiet hs
def tRet(te:TE):TS:=λD σ H=>te σ H D.rt
theorem ps_ret(he:PE X e te):PS X (.Return (some e) pos) (tRet te):=by
 intro pins s σ H D I h;exact wpAny_Return_some (thn (he pins s σ H _ I h) λv s1 ⟨x,H1,I1,r1,q1⟩=>⟨x,σ,H1,I1,r1,q1⟩)
def tIfS(c:TT)(t u:TS):TS:=λD σ H=>c σ H λb H1=>if b=true then t D σ H1 else u D σ H1
theorem ps_if{c:Expr}{a b:List Stmt}{tc:TT}(hc:PT X c tc)(ha:PSs X a t)(hb:PSs X b u):PS X (.If c a b pos) (tIfS tc t u):=by
 intro pins s σ H D I h;refine wpAny_If (thn (hc pins s σ H _ I h) λd s1 ⟨H1,I1,q1⟩=>?_);cases d with
 |true=>exact ha pins s1 σ H1 D I1 q1
 |false=>exact hb pins s1 σ H1 D I1 q1
def tNever:TS:=λ_ _ _=>False
theorem zDa:PS X st tNever:=λ_ _ _ _ _ _ h=>h.elim
end
abbrev TG:=V->St->Hp->(St->Hp->Prop)->Prop
abbrev TGs:=List V->St->Hp->(St->Hp->Prop)->Prop
def PG(X:Cx)(target:Expr)(t:TG):Prop :=
 ∀(pins:List (Addr×Obj)) (s:Shared) (σ:St) (H:Hp) (v:V) (u:Value) (Q:St->Hp->Prop),Inv X pins σ H s->yU v u->t v σ H Q ->
  wpAny (model X.prog X.w) X.A (assign target X.env u) (λ_ s'=>∃σ' H',Inv X pins σ' H' s'/\Q σ' H') X.xe s
def PGs(X:Cx)(ts:List Expr)(t:TGs):Prop :=
 ∀(pins:List (Addr×Obj)) (s:Shared) (σ:St) (H:Hp) (vs:List V) (us:List Value) (Q:St->Hp->Prop),Inv X pins σ H s->yD vs us->t vs σ H Q ->
  wpAny (model X.prog X.w) X.A (assignInOrder ((assignEach ts X.env).map (·.2)) us) (λ_ s'=>∃σ' H',Inv X pins σ' H' s'/\Q σ' H') X.xe s
abbrev TSet:=V->V->V->Hp->(Hp->Prop)->Prop
def PSet(X:Cx)(t:TSet):Prop :=
 ∀(pins:List (Addr×Obj)) (s:Shared) (σ:St) (H:Hp) (o i v:V) (ov iv u:Value) (Q:Hp->Prop),Inv X pins σ H s->yU o ov->yU i iv->yU v u->t o i v H Q ->
  wpAny (model X.prog X.w) X.A (setItem ov iv u) (λ_ s'=>∃H',Inv X pins σ H' s'/\Q H') X.xe s
abbrev TIp:=V->V->Hp->VK->Prop
def PIp(X:Cx)(op:Operator)(t:TIp):Prop :=
 ∀(pins:List (Addr×Obj)) (s:Shared) (σ:St) (H:Hp) (x y:V) (v u:Value) (Q:VK),Inv X pins σ H s->yU x v->yU y u->t x y H Q ->
  wpAny (model X.prog X.w) X.A (inplaceOp op v u) (EP X pins σ Q) X.xe s
section
variable{X:Cx}{pos:Pos}
def GM(i:Nat):TG:=λv σ H Q=>Q (σ.set i (some v)) H
theorem zBX{i:Nat}{x:Str}(hN:X.N.Nodup)(hi:X.N[i]?=some x)(hx:Loc X.env.scope x)(hf:X.fn x=true\/X.env.scope.names.lookup x=some .local:=by first|exact .inl rfl|exact .inr rfl|assumption):PG X (.Name x pos) (GM i):=by
 intro pins s σ H v u Q I r h;exact wpAny_assign_Name (wA I hN hi hx r (λs' I'=>⟨_,H,I',h⟩) hf)
def gNil:TGs:=λvs σ H Q=>vs=[]/\Q σ H
def gCons(t:TG)(u:TGs):TGs:=λvs σ H Q=>∃v r,vs=v::r/\t v σ H λσ' H'=>u r σ' H' Q
theorem pgs_nil:PGs X [] gNil:=by
 intro pins s σ H vs us Q I r h;obtain⟨e,h⟩:=h;subst e;cases r;exact assignInOrder_nil ⟨σ,H,I,h⟩
theorem zDb{e:Expr}{es:List Expr}{t:TG}{u:TGs}(h1:PG X e t)(h2:PGs X es u)
  (hs:(assignEach (e::es) X.env).map (·.2)=assign e X.env::(assignEach es X.env).map (·.2):=by rfl):PGs X (e::es) (gCons t u):=by
 intro pins s σ H vs us Q I r h;obtain⟨v,vr,e1,h⟩:=h;subst e1;cases r with
 |cons r rr =>
  rw[hs];refine assignInOrder_cons (thn (h1 pins s σ H _ _ _ I r h) λ_ s1 ⟨σ1,H1,I1,q1⟩=>?_);exact h2 pins s1 σ1 H1 _ _ Q I1 rr q1
def gTup(K:PySem.W.Frag)(n:Nat)(t:TGs):TG:=λv σ H Q=>∃a xs,v=.ref a/\SqT K H a xs/\xs.length=n/\t xs σ H Q
theorem zE5{es:List Expr}{k:Nat}{t:TGs}{n:Nat}(hc:X.calm=true)(h:PGs X es t)
  (hn:(assignEach es X.env).length=n:=by rfl) (hst:(assignEach es X.env).findIdx? (·.1)=none:=by rfl):PG X (.Tuple es k pos) (gTup X.K n t):=by
 intro pins s σ H v u Q I r hw;obtain⟨a,xs,e1,hq,hl,hw⟩:=hw;subst e1;cases r;obtain⟨its,rv,ht,hz⟩:=I.tuple hq;refine assign_Tuple_tuple (I.ok.hd hc) ht (by simp[hn,<- hl,rv.length]) hst λh' hx=>?_
 have I1:Inv X pins σ H {s with heap:=h'}:=I.kept (t':=s.toks) λb o e=>hx b o (ne_of_lt (lt_size e)) e
 exact h pins _ σ H xs _ Q I1 (by simpa using rv) hw
def gSub(to ti:TE)(t:TSet):TG:=λv σ H Q=>to σ H λo H1=>ti σ H1 λi H2=>t o i v H2 λH3=>Q σ H3
theorem pg_sub{o i:Expr}{to ti:TE}{t:TSet}(ho:PE X o to)(hi:PE X i ti)(hs:PSet X t)
  (ha:∀v,assign (.Subscript o i pos) X.env v=(do
   let ov <- holding [v] (eval o X.env)
   let iv <- holding [v,ov] (eval i X.env)
   standAt pos
   holding [v,ov,iv] (setItem ov iv v)
   release [v,ov,iv] []):=by intro _;rfl):PG X (.Subscript o i pos) (gSub to ti t):=by
 intro pins s σ H v u Q I r h;rw[ha];refine wpAny_bind (wpAny_holding (thn (ho pins s σ H _ I h) λov s1 ⟨x,H1,I1,r1,q1⟩=>?_));refine wpAny_bind (wpAny_holding (thn (hi pins s1 σ H1 _ I1 q1) λiv s2 ⟨y,H2,I2,r2,q2⟩=>?_));refine wpAny_bind (wpAny_standAt (wpAny_bind (wpAny_holding (thn (hs pins s2 σ H2 x y v ov iv u _ I2 r1 r2 r q2) λ_ s3 ⟨H3,I3,q3⟩=>?_))));exact wpAny_release ⟨σ,H3,I3,q3⟩
def tAsg(te:TE)(g:TG):TS:=λD σ H=>te σ H λx H1=>g x σ H1 D.nx
theorem zE6{tg e:Expr}{te:TE}{g:TG}(he:PE X e te)(hg:PG X tg g)(hs:swapsWithSole [tg] e pos.line X.env=pure false:=by rfl)(hw:swappedStores [tg] e X.env=pure none:=by rfl)
  (h1:(assignEach [tg] X.env).map (·.2)=[assign tg X.env]:=by rfl):PS X (.Assign [tg] e pos) (tAsg te g):=by
 intro pins s σ H D I h;refine wpAny_Assign_stores (thn (he pins s σ H _ I h) λv s1 ⟨x,H1,I1,r1,q1⟩=>?_) hs hw;rw[h1];exact thn (hg pins s1 σ H1 x v _ I1 r1 q1) λ_ s2 q=>q
theorem ps_set{i:Nat}{x:Str}{e:Expr}{te:TE}{pos':Pos}(hN:X.N.Nodup)(hi:X.N[i]?=some x)(hx:Loc X.env.scope x)(he:PE X e te)(hs:swapsWith e (some (.Name x pos')) pos.line X.env=pure false:=by rfl)(hf:X.fn x=true\/X.env.scope.names.lookup x=some .local:=by first|exact .inl rfl|exact .inr rfl|assumption) :
  PS X (.Assign [.Name x pos'] e pos) (tAsg te (GM i)):=by
 intro pins s σ H D I h;refine wpAny_Assign_Name (thn (he pins s σ H _ I h) λv s1 ⟨y,H1,I1,r1,q1⟩=>?_) hs;exact wA I1 hN hi hx r1 (λs2 I2=>⟨_,H1,I2,q1⟩) hf
def tPar(i j:Nat)(ta:TA):TS:=λD σ H=>ta σ H λvs H1=>∃v w,vs=[v,w]/\D.nx ((σ.set i (some v)).set j (some w)) H1
theorem ps_par{i j:Nat}{x y:Str}{a b:Expr}{ta:TA}{px py pt:Pos}{kt k2 pt2}(hc:X.calm=true)(hN:X.N.Nodup)(hi:X.N[i]?=some x)(hj:X.N[j]?=some y)(hij:i≠j)
  (hx:X.env.scope.names.lookup x=some .local) (hy:X.env.scope.names.lookup y=some .local) (ha:PA X [a,b] ta)
  (hw:swappedStores [.Tuple [.Name x px,.Name y py] kt pt] (.Tuple [a,b] k2 pt2) X.env=pure (some [x,y]))
  (hs:swapsWithSole [.Tuple [.Name x px,.Name y py] kt pt] (.Tuple [a,b] k2 pt2) pos.line X.env=pure false:=by rfl) :
  PS X (.Assign [.Tuple [.Name x px,.Name y py] kt pt] (.Tuple [a,b] k2 pt2) pos) (tPar i j ta):=by
 intro pins s σ H D I h;rw[exec_Assign_arm];refine wpAny_bind (wpAny_standAt ?_);rw[hs];refine wpAny_bind (wpAny_pure ?_);rw[if_neg (by decide)];refine wpAny_bind (Tuple_ (thn (ha _ pins s σ H _ I h) λus s1 ⟨vs,H1,I1,r1,q1⟩=>?_));obtain⟨v,w,e1,q1⟩:=q1;subst e1;obtain⟨u1,u2,rfl,rv,rw'⟩:∃u1 u2,us=[u1,u2]/\yU v u1/\yU w u2:=by
  cases r1 with
  |cons p q =>
   cases q with
   |cons p' q' =>
    cases q';exact⟨_,_,rfl,p,p'⟩
 refine wpAny_newObj_type ?_ (by show 2<=sizeLine;decide);have I2:Inv X pins σ H1 {s1 with heap:=s1.heap.push {cls:=.type "tuple",data:=.seq [u1,u2].toArray}}:=I1.kept (t':=s1.toks) λb o e=>get?_push_of_some _ e
 rw[hw];refine wpAny_bind (wpAny_pure ?_);show wpAny (model X.prog X.w) X.A (do rule "assign.swapped-stores";let items <- unpackItems (.ref s1.heap.objs.size) 2 none;assignInOrder [λv=>bindName X.env y v,λv=>bindName X.env x v] items.reverse;pure Flow.next) _ _ _;refine wpAny_bind (wpAny_rule (wpAny_bind (unpackItems_tuple (items:=#[u1,u2]) (I.ok.hd hc) (IsTup.new s1.heap _) λh' hx'=>?_)));have I3:=I2.kept (h':=h') (t':=s1.toks) λb o e=>hx' b o (ne_of_lt (lt_size e)) e
 show wpAny _ _ (assignInOrder [λv=>bindName X.env y v,λv=>bindName X.env x v] [u2,u1] >>= λ_=>pure Flow.next) _ _ _
 refine wpAny_bind (assignInOrder_cons (wpAny_bindName (wA I3 hN hj (.inl hy) rw' (λs2 I4=>?_) (.inr hy))));refine assignInOrder_cons (wpAny_bindName (wA I4 hN hi (.inl hx) rv (λs3 I5=>assignInOrder_nil (wpAny_pure ?_)) (.inr hx)));rw[set_comm _ _ (Ne.symm hij)]at I5;exact⟨_,H1,I5,q1⟩
def tAug(i:Nat)(te:TE)(ti:TIp):TS:=λD σ H=>∃x,σ[i]?=some (some x)/\te σ H λy H1=>ti x y H1 λz H2=>D.nx (σ.set i (some z)) H2
theorem zBY{i:Nat}{x:Str}{e:Expr}{te:TE}{op:Operator}{ti:TIp}{pos':Pos}(hN:X.N.Nodup)(hi:X.N[i]?=some x)(hx:Loc X.env.scope x)(he:PE X e te)(ho:PIp X op ti)(hf:X.fn x=true\/X.env.scope.names.lookup x=some .local:=by first|exact .inl rfl|exact .inr rfl|assumption) :
  PS X (.AugAssign (.Name x pos') op e pos) (tAug i te ti):=by
 intro pins s σ H D I h;obtain⟨v,e1,h⟩:=h;obtain⟨m,hn,hl⟩:=I.loc;have vis:Vis X.env.scope x:=by rcases hx with k|k;exact .inl k;exact .inr (.inl k)
 obtain⟨u,r,l⟩:=hl i x v hi e1 vis;refine wpAny_AugAssign_Name ?_;have go:wpAny (model X.prog X.w) X.A (eval e X.env) (λw s₂=>wpAny (model X.prog X.w) X.A (inplaceOp op u w) (λr s₃=>wpAny (model X.prog X.w) X.A (storeName X.env x r) (λ_=>SP X pins D .next) X.xe s₃) X.xe s₂) X.xe s:=by
  refine thn (he pins s σ H _ I h) λw s1 ⟨y,H1,I1,r1,q1⟩=>?_
  refine thn (ho pins s1 σ H1 v y u w _ I1 r r1 q1) λz s2 ⟨zv,H2,I2,r2,q2⟩=>?_
  exact wA I2 hN hi hx r2 (λs3 I3=>⟨_,H2,I3,q2⟩) hf
 rcases l with⟨hk,hm⟩|⟨hk,c,hc,hcell⟩
 ·exact wpAny_loadName_local I.ok.kind hk hn hm go
 ·rcases hk with hk|hk
  ·exact wpAny_loadName_cell I.ok.kind hk hc hcell go
  ·rcases hx with k|k
   ·have:X.env.scope.names.lookup x=some .free:=hk
    rw[k]at this;cases this
   ·have:X.env.scope.names.lookup x=some .free:=hk
    rw[k]at this;cases this
def ipI(f:Int->Int->Int):TIp:=λx y H Q=>∃i j,x=.int i/\y=.int j/\Q (.int (f i j)) H
theorem ip_add:PIp X .Add (ipI λi j=>i+j):=by
 intro pins s σ H x y v u Q I r1 r2 h;obtain⟨i,j,e1,e2,q⟩:=h;subst e1;subst e2;obtain⟨t,rfl⟩:=r1;obtain⟨t',rfl⟩:=r2;exact iadd_int ⟨.int _,H,I.tok _,⟨_,rfl⟩,q⟩
theorem ip_sub:PIp X .Sub (ipI λi j=>i-j):=by
 intro pins s σ H x y v u Q I r1 r2 h;obtain⟨i,j,e1,e2,q⟩:=h;subst e1;subst e2;obtain⟨t,rfl⟩:=r1;obtain⟨t',rfl⟩:=r2;exact isub_int ⟨.int _,H,I.tok _,⟨_,rfl⟩,q⟩
end
section
variable{X:Cx}{pos:Pos}
def zE7(c:TT)(tb:TS):TS:=λD σ H=>∃W:Nat->St->Hp->Prop,(∃m,W m σ H)/\∀m σ H,W m σ H ->
 c σ H λb H1=>if b=true then ∃N:St->Hp->Prop,(∀σ' H',N σ' H'->∃m',m'<m/\W m' σ' H')/\tb {D with nx:=N,ct:=N,bk:=D.nx} σ H1 else D.nx σ H1
theorem zDc{c:Expr}{body:List Stmt}{tc:TT}{tb:TS}(hp:PassesOwn (model X.prog X.w) X.A X.env X.xe)(hc:PT X c tc)(hb:PSs X body tb):PS X (.While c body [] pos) (zE7 tc tb):=by
 intro pins s σ H D I h;obtain⟨W,⟨m0,w0⟩,turn⟩:=h;refine wpAny_While (codeAny_whileLoop (λn s'=>∃σ' H',Inv X pins σ' H' s'/\W n σ' H') ?_ m0 ⟨σ,H,I,w0⟩)
 rintro n s1 ⟨σ1,H1,I1,w1⟩
 refine wpAny_passesOwn hp (thn (hc pins s1 σ1 H1 _ I1 (turn n σ1 H1 w1)) λb s2 ⟨H2,I2,q2⟩=>?_);cases b with
 |true =>
  obtain⟨N,hN,q2⟩:=q2;rw[if_pos rfl];refine wpAny_passesOwn hp (thn (hb pins s2 σ1 H2 _ I2 q2) λf s3 q3=>?_);cases f with
  |next =>
   obtain⟨σ3,H3,I3,n3⟩:=q3;obtain⟨m',hm,w3⟩:=hN σ3 H3 n3;exact⟨m',hm,σ3,H3,I3,w3⟩
  |cont =>
   obtain⟨σ3,H3,I3,n3⟩:=q3;obtain⟨m',hm,w3⟩:=hN σ3 H3 n3;exact⟨m',hm,σ3,H3,I3,w3⟩
  |brk=>exact q3
  |ret v=>exact q3
 |false =>
  rw[if_neg Bool.false_ne_true];exact wpAny_execs_nil ⟨σ1,H2,I2,q2⟩
end
structure It where
 go:Nat->Hp->Prop
 yld:Nat->Hp->V->Hp->Prop
 stop:Nat->Hp->Prop
def QT(X:Cx)(pins:List (Addr×Obj))(H:Hp)(b:Addr):Prop :=
 H b=none/\b≠X.env.locals/\b∉X.fs/\(b∈X.ex\/X.s₀.heap.objs.size<=b)/\(∀x c,X.env.cells.lookup x=some c->c≠b)/\∀p∈X.pn++pins,p.1≠b
theorem Inv.fpOk{X:Cx}{pins:List (Addr×Obj)}{σ:St}{H H':Hp}{s:Shared}{b:Addr}(I:Inv X pins σ H s)(hb:s.heap.objs.size<=b)(hn:H' b=none):QT X pins H' b:=by
 refine⟨hn,ne_of_gt (lt_of_lt_of_le I.lt hb),I.nofs hb,.inr (le_trans I.sz hb),λx c e z=>?_,λp hp z=>?_⟩
 ·obtain⟨v,q⟩:=I.cell x c e
  exact absurd (lt_of_lt_of_le q.lt (by rw[z];exact hb)) (lt_irrefl _)
 ·exact absurd (lt_of_lt_of_le (lt_size (I.pin p hp).1) (by rw[z];exact hb)) (lt_irrefl _)
structure Turn(P:Program)(w:World)(K:PySem.W.Frag)(tg:Expr)(J:It)(fp:List Addr)(it:Addr)(tn:Nat->Heap->Prop):Prop where
 mem:it∈fp
 obj:∀i h,tn i h->∀b∈fp,∃o,h.get? b=some o/\∀v,o.data≠.cell v
 keep:∀i h h',tn i h->(∀b∈fp,∀o,h.get? b=some o->h'.get? b=some o)->tn i h'
 item:∀(X:Cx),X.prog=P->X.w=w->X.K=K->X.calm=true->∀(i:Nat) (pins:List (Addr×Obj)) (s:Shared) (σ:St) (H:Hp) (E:Value->Shared->Prop),Inv X pins σ H s->(∀b∈fp,QT X pins H b)->tn i s.heap->J.go i H ->
  wpAny (model P w) X.A (pyNext (.ref it)) (λr s1=>∃u,r=some u /\
   wpAny (model P w) X.A (letOwnedTupleGo tg (.ref it) u) (λ_ s2=>∃x H',Inv X pins σ H' s2/\yU x u/\J.yld i H x H'/\tn (i+1) s2.heap/\∀b∈fp,H' b=none) E s1) E s
 done:∀(X:Cx),X.prog=P->X.w=w->X.K=K->X.calm=true->∀(i:Nat) (pins:List (Addr×Obj)) (s:Shared) (σ:St) (H:Hp) (E:Value->Shared->Prop),Inv X pins σ H s->(∀b∈fp,QT X pins H b)->tn i s.heap->J.stop i H ->
  wpAny (model P w) X.A (pyNext (.ref it)) (λr s1=>r=none/\Inv X pins σ H s1) E s
 self:∀(A:Around) (i:Nat) (s:Shared) (Q:Value->Shared->Prop) (E:Value->Shared->Prop),tn i s.heap->Q (.ref it) s->wpAny (model P w) A (pyIter (.ref it)) Q E s
abbrev TI:=St->Hp->(It->Hp->Prop)->Prop
def PIE(X:Cx)(pins:List (Addr×Obj))(σ:St)(tg:Expr)(R:It->Hp->Prop)(itv:Value)(s2:Shared):Prop :=
 ∃(it:Addr) (fp:List Addr) (tn:Nat->Heap->Prop) (J:It) (H':Hp),itv=.ref it/\Inv X pins σ H' s2/\Turn X.prog X.w X.K tg J fp it tn/\tn 0 s2.heap/\(∀b∈fp,QT X pins H' b)/\R J H'
def PI(X:Cx)(tg iter:Expr)(wi:TI):Prop :=
 ∀(pins:List (Addr×Obj)) (s:Shared) (σ:St) (H:Hp) (R:It->Hp->Prop),Inv X pins σ H s->wi σ H R ->
  wpAny (model X.prog X.w) X.A (eval iter X.env) (λv s1=>wpAny (model X.prog X.w) X.A (pyIter v) (PIE X pins σ tg R) X.xe s1) X.xe s
theorem J6{M:Model}{A:Around}{E:Value->Shared->Prop}{s:Shared}{tg:Expr}{it:Addr}{u:Value}{o:Obj}{n:String}{vs:Array Value}{Q:Unit->Shared->Prop}(ho:s.heap.get? it=some o)(hc:o.cls=.type n)(hd:o.data=.fields vs)
  (hn:["enumerate","zip","dict_itemiterator","dict_reverseitemiterator","odict_iterator","itertools.zip_longest","itertools.pairwise"].contains n=false) (hQ:Q () s):wpAny M A (letOwnedTupleGo tg (.ref it) u) Q E s:=by
 unfold letOwnedTupleGo
 cases tg<;>first
  |exact wpAny_pure hQ
  | (cases u<;>first
    |exact wpAny_pure hQ
    | (refine wpAny_bind (wpAny_load ho ?_)
       rw[hc,hd];show wpAny M A (if(["enumerate","zip","dict_itemiterator","dict_reverseitemiterator","odict_iterator","itertools.zip_longest","itertools.pairwise"].contains n&&vs[0]?==some (rawInt _))=true then _ else _) Q E s;rw[if_neg (by intro h;rw[hn,Bool.false_and]at h;cases h)];exact wpAny_pure hQ))
def Itl(K:PySem.W.Frag)(a:Addr):It :=
 ⟨λi H=>∃xs x,SqL K H a xs/\xs[i]?=some x,λi H x H'=>H'=H/\∀xs,SqL K H a xs->xs[i]?=some x,λi H=>∃xs,SqL K H a xs/\xs.length<=i⟩
def Itt(K:PySem.W.Frag)(a:Addr):It :=
 ⟨λi H=>∃xs x,SqT K H a xs/\xs[i]?=some x,λi H x H'=>H'=H/\∀xs,SqT K H a xs->xs[i]?=some x,λi H=>∃xs,SqT K H a xs/\xs.length<=i⟩
def Itr(lo:Int)(n:Nat):It:=⟨λi _=>i<n,λi H x H'=>H'=H/\x=.int (lo+i),λi _=>n<=i⟩
theorem zBZ{P:Program}{w:World}{K:PySem.W.Frag}{tg:Expr}(a it:Addr):Turn P w K tg (Itl K a) [it] it (λi h=>h.IsListIter it a i) where
 mem:=by simp
 obj:=λi h st b hb=>by
  have e:b=it:=by simpa using hb
  subst e;obtain⟨o,e,c,d⟩:=st;exact⟨o,e,λv z=>by rw[d]at z;cases z⟩
 keep:=λi h h' st k=>st.at λo e=>k it (by simp) o e
 item:=by
  intro X hP hw hK hc i pins s σ H E I hf st hg;subst hP hw hK;obtain⟨xs,x,hq,hx⟩:=hg;obtain⟨its,rv,p,hz⟩:=I.list hq;obtain⟨u,hu,ru⟩:=rv.get hx;obtain⟨f0,f1,f2,f3,f4,f5⟩:=hf it (by simp);refine wpAny_pyNext_list_item st p.isList (x:=u) (by simpa using hu) λh' st' sb=>?_
  have I1:Inv X pins σ H {s with heap:=h'}:=I.turned (t':=s.toks) (λb o hb e=>(sb.2 b hb).trans e) f0 f1 f3 f4 f5
  obtain⟨o,e,c,d⟩:=id st';exact⟨u,rfl,J6 (s:={s with heap:=h'}) e c d (by decide) ⟨x,H,I1,ru,⟨rfl,λys hy=>by rw[I.list_inj hy hq];exact hx⟩,st',λb hb=>(hf b hb).1⟩⟩
 done:=by
  intro X hP hw hK hc i pins s σ H E I hf st hg;subst hP hw hK;obtain⟨xs,hq,hx⟩:=hg;obtain⟨its,rv,p,hz⟩:=I.list hq;obtain⟨f0,f1,f2,f3,f4,f5⟩:=hf it (by simp);have hl:=rv.length;exact wpAny_pyNext_list_end (I.ok.hd hc) st p.isList (by simp;omega) λh' eb=>⟨rfl,I.turned (t':=s.toks) (λb o hb e=>eb b o hb e) f0 f1 f3 f4 f5⟩
 self:=λ_ _ _ _ _ st h=>wpAny_pyIter_listiter st h
theorem zAy{P:Program}{w:World}{K:PySem.W.Frag}{tg:Expr}(a it:Addr):Turn P w K tg (Itt K a) [it] it (λi h=>h.IsTupleIter it a i) where
 mem:=by simp
 obj:=λi h st b hb=>by
  have e:b=it:=by simpa using hb
  subst e;obtain⟨o,e,c,d⟩:=st;exact⟨o,e,λv z=>by rw[d]at z;cases z⟩
 keep:=λi h h' st k=>st.at λo e=>k it (by simp) o e
 item:=by
  intro X hP hw hK hc i pins s σ H E I hf st hg;subst hP hw hK;obtain⟨xs,x,hq,hx⟩:=hg;obtain⟨its,rv,p,hz⟩:=I.tuple hq;obtain⟨u,hu,ru⟩:=rv.get hx;obtain⟨f0,f1,f2,f3,f4,f5⟩:=hf it (by simp);refine wpAny_pyNext_tuple_item st (show s.heap.IsTuple a its.toArray from p) (x:=u) (by simpa using hu) λh' st' sb=>?_
  have I1:Inv X pins σ H {s with heap:=h'}:=I.turned (t':=s.toks) (λb o hb e=>(sb.2 b hb).trans e) f0 f1 f3 f4 f5
  obtain⟨o,e,c,d⟩:=id st';exact⟨u,rfl,J6 (s:={s with heap:=h'}) e c d (by decide) ⟨x,H,I1,ru,⟨rfl,λys hy=>by rw[I.tuple_inj hy hq];exact hx⟩,st',λb hb=>(hf b hb).1⟩⟩
 done:=by
  intro X hP hw hK hc i pins s σ H E I hf st hg;subst hP hw hK;obtain⟨xs,hq,hx⟩:=hg;obtain⟨its,rv,p,hz⟩:=I.tuple hq;obtain⟨f0,f1,f2,f3,f4,f5⟩:=hf it (by simp);have hl:=rv.length;exact wpAny_pyNext_tuple_end (I.ok.hd hc) st (show s.heap.IsTuple a its.toArray from p) (by simp;omega) λh' eb=>⟨rfl,I.turned (t':=s.toks) (λb o hb e=>eb b o hb e) f0 f1 f3 f4 f5⟩
 self:=λ_ _ _ _ _ st h=>wpAny_pyIter_tupleiter st h
theorem zAz{P:Program}{w:World}{K:PySem.W.Frag}{tg:Expr}(it:Addr)(lo:Int)(n:Nat):Turn P w K tg (Itr lo n) [it] it (λi h=>IsRangeIter h it (lo+(i:Nat)*1) ((n:Int)-(i:Nat)) 1) where
 mem:=by simp
 obj:=λi h st b hb=>by
  have e:b=it:=by simpa using hb
  subst e;exact⟨_,st,λv z=>by
   have z':Data.fields _=Data.cell v:=z;cases z'⟩
 keep:=λi h h' st k=>k it (by simp) _ st
 item:=by
  intro X hP hw hK hc i pins s σ H E I hf st hg;subst hP hw hK;obtain⟨f0,f1,f2,f3,f4,f5⟩:=hf it (by simp);have W:=Walks.range (prog:=X.prog) (w:=X.w) (I.ok.hd hc) it lo 1 n;refine W.item i s _ _ hg st λv h' tk hv st' kk=>?_
  obtain⟨t,rfl⟩:=hv;have I1:Inv X pins σ H {s with heap:=h',toks:=tk}:=I.turned (λb o hb e=>kk b o (by simpa using hb) e) f0 f1 f3 f4 f5
  refine⟨_,rfl,J6 (s:={s with heap:=h',toks:=tk}) (n:="range_iterator") st' rfl rfl (by decide) ⟨.int (lo+i),H,I1,⟨t,?_⟩,⟨rfl,rfl⟩,st',λb hb=>(hf b hb).1⟩⟩
  rw[Int.mul_one]
 done:=by
  intro X hP hw hK hc i pins s σ H E I hf st hg;subst hP hw hK;obtain⟨f0,f1,f2,f3,f4,f5⟩:=hf it (by simp);exact wpAny_pyNext_range_end (I.ok.hd hc) st (by have:n<=i:=hg;omega) λh' eb=>⟨rfl,I.turned (t':=s.toks) (λb o hb e=>eb b o hb e) f0 f1 f3 f4 f5⟩
 self:=λ_ _ _ _ _ st h=>wpAny_pyIter_rangeiter st h
end L2
namespace L2
open PySem PySem.Spec PyProof.Rows
section
variable{X:Cx}{tg:Expr}
def iList(K:PySem.W.Frag)(tl:TE):TI:=λσ H R=>tl σ H λx H1=>∃a,x=.ref a/\(∃xs,SqL K H1 a xs)/\R (Itl K a) H1
def iTup(K:PySem.W.Frag)(tl:TE):TI:=λσ H R=>tl σ H λx H1=>∃a,x=.ref a/\(∃xs,SqT K H1 a xs)/\R (Itt K a) H1
theorem zBa{l:Expr}{tl:TE}(hl:PE X l tl):PI X tg l (iList X.K tl):=by
 intro pins s σ H R I h;refine thn (hl pins s σ H _ I h) λv s1 ⟨x,H1,I1,r1,q1⟩=>?_
 obtain⟨a,e,⟨xs,hq⟩,q⟩:=q1;subst e;cases r1;obtain⟨its,rv,p,hz⟩:=I1.list hq;refine wpAny_pyIter_list p.isList ?_;refine⟨s1.heap.objs.size,[s1.heap.objs.size],_,_,H1,rfl,I1.kept (t':=s1.toks) λb o e=>get?_push_of_some _ e,zBZ a _,⟨_,get?_push_size _ rfl,rfl,rfl⟩,λb hb=>?_,q⟩;have e:b=s1.heap.objs.size:=by simpa using hb
 subst e;exact I1.fpOk (le_refl _) (I1.hok.fresh (le_refl _))
theorem pi_tup{l:Expr}{tl:TE}(hl:PE X l tl):PI X tg l (iTup X.K tl):=by
 intro pins s σ H R I h;refine thn (hl pins s σ H _ I h) λv s1 ⟨x,H1,I1,r1,q1⟩=>?_
 obtain⟨a,e,⟨xs,hq⟩,q⟩:=q1;subst e;cases r1;obtain⟨its,rv,p,hz⟩:=I1.tuple hq;refine wpAny_pyIter_tuple (show s1.heap.IsTuple a its.toArray from p) ?_;refine⟨s1.heap.objs.size,[s1.heap.objs.size],_,_,H1,rfl,I1.kept (t':=s1.toks) λb o e=>get?_push_of_some _ e,zAy a _,⟨_,get?_push_size _ rfl,rfl,rfl⟩,λb hb=>?_,q⟩;have e:b=s1.heap.objs.size:=by simpa using hb
 subst e;exact I1.fpOk (le_refl _) (I1.hok.fresh (le_refl _))
theorem zAB{pins:List (Addr×Obj)}{σ:St}{H:Hp}{s:Shared}{R:It->Hp->Prop}{E:Value->Shared->Prop}{lo hi:Int}{t u v:Tok}{tk:Nat}(I:Inv X pins σ H s)(h1:-(2^62)<=lo)(h2:lo<2^62)(h3:-(2^62)<=hi)(h4:hi<2^62)
  (q:R (Itr lo (hi-lo).toNat) H):wpAny (model X.prog X.w) X.A (pyIter (.ref s.heap.objs.size)) (PIE X pins σ tg R) E {s with heap:=s.heap.push {cls:=.type "range",data:=.fields #[.int lo t,.int hi u,.int 1 v]},toks:=tk}:=by
 refine wpAny_pyIter_range (IsRange.new ..) (small_one h1 h2 h3 h4) ?_;have I1:Inv X pins σ H {s with heap:=s.heap.push {cls:=.type "range",data:=.fields #[.int lo t,.int hi u,.int 1 v]},toks:=tk}:=I.kept λb o e=>get?_push_of_some _ e
 refine⟨(s.heap.push {cls:=.type "range",data:=.fields #[.int lo t,.int hi u,.int 1 v]}).objs.size,[(s.heap.push {cls:=.type "range",data:=.fields #[.int lo t,.int hi u,.int 1 v]}).objs.size],_,_,H,rfl,
  I1.kept (t':=tk) λb o e=>get?_push_of_some _ e,zAz _ lo (hi-lo).toNat,?_,λb hb=>?_,q⟩
 ·have e1:lo+((0:Nat):Int)*1=lo:=by simp
  have e2:(((hi-lo).toNat:Nat):Int)-((0:Nat):Int)=Builtin.Range.rangeSize lo hi 1:=by rw[rangeSize_one];split<;>omega
  show IsRangeIter _ _ (lo+((0:Nat):Int)*1) ((((hi-lo).toNat:Nat):Int)-((0:Nat):Int)) 1
  rw[e1,e2];exact get?_push_size _ rfl
 ·have e:b=(s.heap.push {cls:=.type "range",data:=.fields #[.int lo t,.int hi u,.int 1 v]}).objs.size:=by simpa using hb
  subst e;exact I1.fpOk (le_refl _) (I1.hok.fresh (le_refl _))
def iRng1(ta:TA):TI:=λσ H R=>ta σ H λvs H1=>∃j:Int,vs=[.int j]/\-(2^62)<=j/\j<2^62/\R (Itr 0 j.toNat) H1
def iRng2(ta:TA):TI:=λσ H R=>ta σ H λvs H1=>∃i j:Int,vs=[.int i,.int j]/\(-(2^62)<=i/\i<2^62/\-(2^62)<=j/\j<2^62)/\R (Itr i (j-i).toNat) H1
theorem GN{a:Expr}{ta:TA}{p pos:Pos}(hg:Gl X "range")(hm:X.mg "range"=none)(ha:PA X [a] ta)(hs:starEach [a] X.env=[(false,eval a X.env)]:=by rfl):PI X tg (.Call (.Name "range" p) [a] [] pos) (iRng1 ta):=by
 intro pins s σ H R I h;refine Call_ (Jw I hg hm boot_range (PyProof.Rows.callWith_type1 (thn (ha pos pins s σ H _ I h) λus s1 ⟨vs,H1,I1,r1,q1⟩=>?_) hs rfl));obtain⟨j,e,q1,q2,q⟩:=q1;subst e;cases r1 with
 |cons r rr =>
  cases rr;obtain⟨t,rfl⟩:=r;exact call_range_1 (zAB I1 (by omega) (by omega) q1 q2 (by simpa using q))
theorem zBb{a b:Expr}{ta:TA}{p pos:Pos}(hg:Gl X "range")(hm:X.mg "range"=none)(ha:PA X [a,b] ta)(hs:starEach [a,b] X.env=[(false,eval a X.env),(false,eval b X.env)]:=by rfl)(hs2:starEach [b] X.env=[(false,eval b X.env)]:=by rfl) :
  PI X tg (.Call (.Name "range" p) [a,b] [] pos) (iRng2 ta):=by
 intro pins s σ H R I h;refine Call_ (Jw I hg hm boot_range (PyProof.Rows.callWith_type1 (thn (ha pos pins s σ H _ I h) λus s1 ⟨vs,H1,I1,r1,q1⟩=>?_) (by rw[hs,hs2]) (by rw[hs2];rfl)));obtain⟨i,j,e,⟨q1,q2,q3,q4⟩,q⟩:=q1;subst e;cases r1 with
 |cons r rr =>
  cases rr with
  |cons r' rr =>
   cases rr;obtain⟨t,rfl⟩:=r;obtain⟨t',rfl⟩:=r';exact call_range_2 (zAB I1 q1 q2 q3 q4 q)
def tFor(wi:TI)(g:TG)(tb:TS):TS:=λD σ H=>wi σ H λJ H1=>∃W:Nat->Nat->St->Hp->Prop,(∃m,W 0 m σ H1)/\∀i m σ H,W i m σ H ->
 (J.stop i H/\D.nx σ H)\/(J.go i H/\∃N:St->Hp->Prop,(∀σ' H',N σ' H'->∃m',m'<m/\W (i+1) m' σ' H')/\∀x H',J.yld i H x H'->g x σ H' λσ2 H2=>tb {D with nx:=N,ct:=N,bk:=D.nx} σ2 H2)
def WJ(fp:List Addr)(h:Heap):List (Addr×Obj):=fp.filterMap λb=>(h.get? b).map λo=>(b,o)
theorem yy{fp:List Addr}{h:Heap}{b:Addr}{o:Obj}(hb:b∈fp)(e:h.get? b=some o):(b,o)∈WJ fp h:=mem_filterMap.mpr ⟨b,hb,by rw[e];rfl⟩
theorem zBc{fp:List Addr}{h:Heap}{p:Addr×Obj}(hp:p∈WJ fp h):p.1∈fp/\h.get? p.1=some p.2:=by
 obtain⟨b,hb,e⟩:=mem_filterMap.mp hp;cases q:h.get? b with
 |none=>rw[q]at e;cases e
 |some o =>
  rw[q]at e;have e':(b,o)=p:=Option.some.inj e;subst e';exact⟨hb,q⟩
theorem Inv.pinned{pins:List (Addr×Obj)}{σ:St}{H:Hp}{s:Shared}{fp:List Addr}(I:Inv X pins σ H s)(hf:∀b∈fp,QT X pins H b)(ho:∀b∈fp,∃o,s.heap.get? b=some o/\∀v,o.data≠.cell v):Inv X (pins++WJ fp s.heap) σ H s :=
 I.pins_of λp hp=>(mem_append.mp hp).elim (λz=>I.pin p (mem_append_right _ z)) λz=>by
  obtain⟨hb,e⟩:=zBc z;obtain⟨f0,f1,f2,_⟩:=hf p.1 hb;obtain⟨o,e',d⟩:=ho p.1 hb;rw[e]at e';cases e';exact⟨e,f0,f1,f2,d⟩
theorem Inv.unpinned{pins pl:List (Addr×Obj)}{σ:St}{H:Hp}{s:Shared}(I:Inv X (pins++pl) σ H s):Inv X pins σ H s:=I.pins_of λp hp=>I.pin p (mem_append_right _ (mem_append_left _ hp))
theorem zAC{iter:Expr}{body:List Stmt}{wi:TI}{g:TG}{tb:TS}{pos:Pos}(hp:PassesOwn (model X.prog X.w) X.A X.env X.xe)(hc:X.calm=true)(hi:PI X tg iter wi)(hg:PG X tg g)(hb:PSs X body tb)
  (hs:∀x,foldedSetIterable iter X.env x=pure x:=by intro _;rfl):PS X (.For tg iter body [] pos) (tFor wi g tb):=by
 intro pins s σ H D I h;refine wpAny_For (thn (hi pins s σ H _ I h) λv s1 h1=>thn h1 λitv s2 h2=>?_) hs;obtain⟨it,fp,tn,J,H2,e,I2,T,st2,f2,W,⟨m0,w0⟩,turn⟩:=h2;subst e
 -- what stays true of the iterator's objects through the loop
 have stat:∀{H':Hp},(∀b∈fp,H' b=none)->∀b∈fp,QT X pins H' b:=λhn b hb=>⟨hn b hb,(f2 b hb).2⟩
 refine codeAny_forLoop_any (λn s'=>∃i σ' H',Inv X pins σ' H' s'/\tn i s'.heap/\(∀b∈fp,H' b=none)/\W i n σ' H') ?_ m0 ⟨0,σ,H2,I2,st2,λb hb=>(f2 b hb).1,w0⟩
 rintro n s3 ⟨i,σ3,H3,I3,st3,fr3,w3⟩
 rcases turn i n σ3 H3 w3 with⟨stop,qn⟩|⟨go,N,hN,step⟩
 ·refine wpAny_passesOwn hp (thn (T.done X rfl rfl rfl hc i pins s3 σ3 H3 X.xe I3 (stat fr3) st3 stop) λr s4 ⟨hr,I4⟩=>?_)
  subst hr;exact wpAny_execs_nil ⟨σ3,H3,I4,qn⟩
 ·refine wpAny_passesOwn hp (thn (T.item X rfl rfl rfl hc i pins s3 σ3 H3 X.xe I3 (stat fr3) st3 go) λr s4 ⟨u,hr,h4⟩=>?_)
  subst hr;refine wpAny_passesOwn hp (thn h4 λ_ s5 ⟨x,H5,I5,r5,y5,st5,fr5⟩=>?_);have I5':=I5.pinned (stat fr5) (T.obj _ _ st5);refine wpAny_passesOwn hp (thn (hg _ s5 σ3 H5 x u _ I5' r5 (step x H5 y5)) λ_ s6 ⟨σ6,H6,I6,q6⟩=>?_);refine wpAny_passesOwn hp (thn (hb _ s6 σ6 H6 _ I6 q6) λf s7 q7=>?_);have again:∀{σ7:St} {H7:Hp},Inv X (pins++WJ fp s5.heap) σ7 H7 s7->N σ7 H7->∃m,m<n/\∃i σ' H',Inv X pins σ' H' s7/\tn i s7.heap/\(∀b∈fp,H' b=none)/\W i m σ' H':=λ{σ7 H7} I7 n7=>by
   obtain⟨m',hm,w7⟩:=hN σ7 H7 n7;refine⟨m',hm,i+1,σ7,H7,I7.unpinned,T.keep _ _ _ st5 λb hb o e=>(I7.pin (b,o) (mem_append_right _ (mem_append_right _ (yy hb e)))).1,λb hb=>?_,w7⟩;obtain⟨o,e,d⟩:=T.obj _ _ st5 b hb;exact(I7.pin (b,o) (mem_append_right _ (mem_append_right _ (yy hb e)))).2.1
  cases f with
  |next=>obtain⟨σ7,H7,I7,n7⟩:=q7;exact again I7 n7
  |cont=>obtain⟨σ7,H7,I7,n7⟩:=q7;exact again I7 n7
  |brk=>obtain⟨σ7,H7,I7,q7⟩:=q7;exact⟨σ7,H7,I7.unpinned,q7⟩
  |ret v=>obtain⟨x7,σ7,H7,I7,r7,q7⟩:=q7;exact⟨x7,σ7,H7,I7.unpinned,r7,q7⟩
end
theorem zDd{K:PySem.W.Frag}{a:Addr}{xs:List V}{g:TG}{tb:TS}{D:Ends}{σ:St}{H:Hp}(Pv:Nat->St->Hp->Prop)(h0:Pv 0 σ H)(hl:∀i σ H,i<=xs.length->Pv i σ H->SqL K H a xs)
  (hs:∀i x σ H,xs[i]?=some x->Pv i σ H->g x σ H λσ2 H2=>tb {D with nx:=Pv (i+1),ct:=Pv (i+1),bk:=D.nx} σ2 H2) (hd:∀σ H,Pv xs.length σ H->D.nx σ H) :
  ∃W:Nat->Nat->St->Hp->Prop,(∃m,W 0 m σ H)/\∀i m σ H,W i m σ H ->
   ((Itl K a).stop i H/\D.nx σ H)\/((Itl K a).go i H/\∃N:St->Hp->Prop,(∀σ' H',N σ' H'->∃m',m'<m/\W (i+1) m' σ' H')/\∀x H',(Itl K a).yld i H x H'->g x σ H' λσ2 H2=>tb {D with nx:=N,ct:=N,bk:=D.nx} σ2 H2):=by
 refine⟨λi m σ H=>m=xs.length-i/\i<=xs.length/\Pv i σ H,⟨xs.length,by simp,zero_le _,h0⟩,?_⟩
 rintro i m σ H ⟨rfl,hi,p⟩
 have q:=hl i σ H hi p;by_cases hlt:i<xs.length
 ·refine .inr ⟨⟨xs,xs[i],q,by simp[hlt]⟩,Pv (i+1),λσ' H' p'=>⟨xs.length-(i+1),by omega,rfl,hlt,p'⟩,λx H' y=>?_⟩
  obtain⟨e,y⟩:=y;subst e;exact hs i x σ _ (y xs q) p
 ·have e:i=xs.length:=by omega
  subst e;exact .inl ⟨⟨xs,q,le_refl _⟩,hd σ H p⟩
theorem zBd{lo:Int}{n:Nat}{g:TG}{tb:TS}{D:Ends}{σ:St}{H:Hp}(Pv:Nat->St->Hp->Prop)(h0:Pv 0 σ H)
  (hs:∀i σ H,i<n->Pv i σ H->g (.int (lo+i)) σ H λσ2 H2=>tb {D with nx:=Pv (i+1),ct:=Pv (i+1),bk:=D.nx} σ2 H2) (hd:∀σ H,Pv n σ H->D.nx σ H) :
  ∃W:Nat->Nat->St->Hp->Prop,(∃m,W 0 m σ H)/\∀i m σ H,W i m σ H ->
   ((Itr lo n).stop i H/\D.nx σ H)\/((Itr lo n).go i H/\∃N:St->Hp->Prop,(∀σ' H',N σ' H'->∃m',m'<m/\W (i+1) m' σ' H')/\∀x H',(Itr lo n).yld i H x H'->g x σ H' λσ2 H2=>tb {D with nx:=N,ct:=N,bk:=D.nx} σ2 H2):=by
 refine⟨λi m σ H=>m=n-i/\i<=n/\Pv i σ H,⟨n,by simp,zero_le _,h0⟩,?_⟩
 rintro i m σ H ⟨rfl,hi,p⟩
 by_cases hlt:i<n
 ·refine .inr ⟨hlt,Pv (i+1),λσ' H' p'=>⟨n-(i+1),by omega,rfl,hlt,p'⟩,λx H' y=>?_⟩
  obtain⟨e,y⟩:=y;subst e y;exact hs i σ _ hlt p
 ·have e:i=n:=by omega
  subst e;exact .inl ⟨le_refl _,hd σ H p⟩
end L2
namespace L2
open PySem PySem.Spec PyProof.Rows
abbrev R2:=V->V->Hp->VK->Prop
def OpR(X:Cx)(f:Value->Value->Sem Value)(r:R2):Prop :=
 ∀(pins:List (Addr×Obj)) (s:Shared) (σ:St) (H:Hp) (x y:V) (v u:Value) (Q:VK),Inv X pins σ H s->yU x v->yU y u->r x y H Q ->
  wpAny (model X.prog X.w) X.A (f v u) (EP X pins σ Q) X.xe s
def UnR(X:Cx)(f:Value->Sem Value)(r:V->Hp->VK->Prop):Prop :=
 ∀(pins:List (Addr×Obj)) (s:Shared) (σ:St) (H:Hp) (x:V) (v:Value) (Q:VK),Inv X pins σ H s->yU x v->r x H Q ->
  wpAny (model X.prog X.w) X.A (f v) (EP X pins σ Q) X.xe s
def wM(X:Cx)(f:Value)(r:List V->Hp->VK->Prop):Prop :=
 ∀(pins:List (Addr×Obj)) (s:Shared) (σ:St) (H:Hp) (xs:List V) (us:List Value) (Q:VK),Inv X pins σ H s->yD xs us->r xs H Q ->
  wpAny (model X.prog X.w) X.A (call f us) (EP X pins σ Q) X.xe s
def tOp(r:R2)(ta tb:TE):TE:=λσ H Q=>ta σ H λx H1=>tb σ H1 λy H2=>r x y H2 Q
def tUn(r:V->Hp->VK->Prop)(ta:TE):TE:=λσ H Q=>ta σ H λx H1=>r x H1 Q
def rI(C:Int->Int->Prop)(g:Int->Int->V):R2:=λx y H Q=>∃i j,x=.int i/\y=.int j/\C i j/\Q (g i j) H
def rI0(g:Int->Int->V):R2:=λx y H Q=>∃i j,x=.int i/\y=.int j/\Q (g i j) H
def rU(g:Int->V):V->Hp->VK->Prop:=λx H Q=>∃i,x=.int i/\Q (g i) H
section
variable{X:Cx}{a b c:Expr}{ta tb tc:TE}{pos:Pos}
theorem binT(ha:PE X a ta)(hb:PE X b tb){pins:List (Addr×Obj)}{s:Shared}{σ:St}{H:Hp}{R:V->V->Hp->Prop}(I:Inv X pins σ H s)
  (h:ta σ H λx H1=>tb σ H1 λy H2=>R x y H2) {Q:Value->Shared->Prop} {f:Value->Value->Sem Value}
  (hf:∀v u s2 x y H2,Inv X pins σ H2 s2->yU x v->yU y u->R x y H2->wpAny (model X.prog X.w) X.A (f v u) Q X.xe s2) :
  wpAny (model X.prog X.w) X.A (eval a X.env) (λv s₁=>wpAny (model X.prog X.w) X.A (eval b X.env) (λu s₂=>wpAny (model X.prog X.w) X.A (f v u) Q X.xe s₂) X.xe s₁) X.xe s:=by
 refine thn (ha pins s σ H _ I h) λv s1 ⟨x,H1,I1,r1,q1⟩=>?_
 refine thn (hb pins s1 σ H1 _ I1 q1) λu s2 ⟨y,H2,I2,r2,q2⟩=>?_
 exact hf v u s2 x y H2 I2 r1 r2 q2
theorem pe_op{op:Operator}{r:R2}(ho:OpR X (binaryOp op) r)(ha:PE X a ta)(hb:PE X b tb):PE X (.BinOp a op b pos) (tOp r ta tb):=by
 intro pins s σ H Q I h;exact wpAny_BinOp (binT ha hb I h λv u s2 x y H2 I2 rx ry q=>ho pins s2 σ H2 x y v u Q I2 rx ry q)
theorem pe_un{op:UnaryOp}{r:V->Hp->VK->Prop}(ho:UnR X (unaryOp op) r)(ha:PE X a ta):PE X (.UnaryOp op a pos) (tUn r ta):=by
 intro pins s σ H Q I h;exact UnaryOp_ (thn (ha pins s σ H _ I h) λv s1 ⟨x,H1,I1,r1,q1⟩=>ho pins s1 σ H1 x v Q I1 r1 q1)
theorem opI{f:Value->Value->Sem Value}{C:Int->Int->Prop}{g:Int->Int->Int}
  (rule:∀(i j:Int) (t u:Tok) (s:Shared) (Q:Value->Shared->Prop) (E:Value->Shared->Prop),C i j->Q (.int (g i j) s.toks) {s with toks:=s.toks+1}->wpAny (model X.prog X.w) X.A (f (.int i t) (.int j u)) Q E s) :
  OpR X f (rI C λi j=>.int (g i j)):=by
 intro pins s σ H x y v u Q I rx ry h;obtain⟨i,j,rfl,rfl,hc,q⟩:=h;obtain⟨t,rfl⟩:=rx;obtain⟨t',rfl⟩:=ry;exact rule i j t t' s _ _ hc ⟨.int (g i j),H,I.tok _,⟨_,rfl⟩,q⟩
theorem opI0{f:Value->Value->Sem Value}{g:Int->Int->Int}
  (rule:∀(i j:Int) (t u:Tok) (s:Shared) (Q:Value->Shared->Prop) (E:Value->Shared->Prop),Q (.int (g i j) s.toks) {s with toks:=s.toks+1}->wpAny (model X.prog X.w) X.A (f (.int i t) (.int j u)) Q E s) :
  OpR X f (rI0 λi j=>.int (g i j)):=by
 intro pins s σ H x y v u Q I rx ry h;obtain⟨i,j,rfl,rfl,q⟩:=h;obtain⟨t,rfl⟩:=rx;obtain⟨t',rfl⟩:=ry;exact rule i j t t' s _ _ ⟨.int (g i j),H,I.tok _,⟨_,rfl⟩,q⟩
theorem opB0{f:Value->Value->Sem Value}{g:Int->Int->Bool}
  (rule:∀(i j:Int) (t u:Tok) (s:Shared) (Q:Value->Shared->Prop) (E:Value->Shared->Prop),Q (.bool (g i j)) s->wpAny (model X.prog X.w) X.A (f (.int i t) (.int j u)) Q E s) :
  OpR X f (rI0 λi j=>.bl (g i j)):=by
 intro pins s σ H x y v u Q I rx ry h;obtain⟨i,j,rfl,rfl,q⟩:=h;obtain⟨t,rfl⟩:=rx;obtain⟨t',rfl⟩:=ry;exact rule i j t t' s _ _ ⟨.bl (g i j),H,I,rfl,q⟩
def CPow(i j:Int):Prop:=0<=j/\j<=1000000/\i.natAbs<2^64
def CMul(i j:Int):Prop:=(-(2^64)<i/\i<2^64)\/(-(2^64)<j/\j<2^64)
theorem CMul.ok{i j:Int}(h:CMul i j):IntMulOk i j:=by
 rcases h with⟨h1,h2⟩|⟨h1,h2⟩
 ·exact .of_left (intBits_le_64 h1 h2)
 ·exact .of_right (intBits_le_64 h1 h2)
theorem op_add:OpR X (binaryOp .Add) (rI0 λi j=>.int (i+j)):=opI0 λ_ _ _ _ _ _ _ q=>add_int q
theorem op_sub:OpR X (binaryOp .Sub) (rI0 λi j=>.int (i-j)):=opI0 λ_ _ _ _ _ _ _ q=>sub_int q
theorem op_mod:OpR X (binaryOp .Mod) (rI (λ_ j=>0<j) λi j=>.int (i%j)):=opI λi j _ _ _ _ _ hc q=>by
 have h1:(0:Int)<j:=hc;exact mod_int' (by omega) (by rw[Int.fmod_eq_emod_of_nonneg i (by omega)];exact q)
theorem op_pow:OpR X (binaryOp .Pow) (rI CPow λi j=>.int (i^j.toNat)):=opI λ_ _ _ _ _ _ _ hc q=>pow_int_small hc.1 hc.2.1 hc.2.2 q
theorem unI{f:Value->Sem Value}{g:Int->Int}
  (rule:∀(i:Int) (t:Tok) (s:Shared) (Q:Value->Shared->Prop) (E:Value->Shared->Prop),Q (.int (g i) s.toks) {s with toks:=s.toks+1}->wpAny (model X.prog X.w) X.A (f (.int i t)) Q E s) :
  UnR X f (rU λi=>.int (g i)):=by
 intro pins s σ H x v Q I rx h;obtain⟨i,rfl,q⟩:=h;obtain⟨t,rfl⟩:=rx;exact rule i t s _ _ ⟨.int (g i),H,I.tok _,⟨_,rfl⟩,q⟩
theorem un_neg:UnR X (unaryOp .USub) (rU λi=>.int (-i)):=unI λ_ _ _ _ _ q=>neg_int q
end
def scal:V->V->Bool
 | .non,.non=>true | .non,.int _=>true | .int _,.non=>true | .non,.bl _=>true | .bl _,.non=>true | .non,.str _=>true | .str _,.non=>true
 | .int _,.int _=>true | .bl _,.bl _=>true | .str _,.str _=>true | .byt _,.byt _=>true
 | .int _,.str _=>true | .str _,.int _=>true | .bl _,.str _=>true | .str _,.bl _=>true
 |_,_=>false
def rEq:R2:=λx y H Q=>scal x y=true/\Q (.bl (decide (x=y))) H
def rNe:R2:=λx y H Q=>scal x y=true/\Q (.bl (!decide (x=y))) H
theorem zBe{i j:Int}:decide (V.int i=V.int j)=(i==j):=by
 rw[Bool.eq_iff_iff];simp
theorem zE8{i j:Bool}:decide (V.bl i=V.bl j)=(i==j):=by
 rw[Bool.eq_iff_iff];simp
theorem zBf{i j:Str}:decide (V.str i=V.str j)=(i==j):=by
 rw[Bool.eq_iff_iff];simp
theorem zBg{i j:Array UInt8}:decide (V.byt i=V.byt j)=(i.toList==j.toList):=by
 rw[Bool.eq_iff_iff];cases i;cases j;simp
section
variable{X:Cx}{a b c:Expr}{ta tb tc:TE}{pos:Pos}
theorem yJ{pins:List (Addr×Obj)}{σ:St}{H:Hp}{s:Shared}{Q:VK}{k k':Bool}(I:Inv X pins σ H s)(q:Q (.bl k) H)(e:k=k'):EP X pins σ Q (.bool k') s:=by
 subst e;exact⟨.bl k,H,I,rfl,q⟩
theorem op_eq:OpR X (compareOp .Eq) rEq:=by
 intro pins s σ H x y v u Q I rx ry h;obtain⟨hs,q⟩:=h;cases x with
 |non =>
  cases rx;cases y with
  |non=>cases ry;exact PySem.EqNone.eq_none_none (yJ I q (by simp))
  |bl j=>cases ry;exact PySem.EqNone.eq_none_bool (yJ I q (by simp))
  |int j=>obtain⟨t',rfl⟩:=ry;exact PySem.EqNone.eq_none_int (yJ I q (by simp))
  |str j=>obtain⟨t',rfl⟩:=ry;exact PySem.EqNone.eq_none_str (yJ I q (by simp))
  |_=>exact absurd (show false=true from hs) Bool.false_ne_true
 |bl i =>
  cases rx;cases y with
  |non=>cases ry;exact PySem.EqNone.eq_bool_none (yJ I q (by simp))
  |bl j=>cases ry;exact eq_bool (yJ I q zE8)
  |str j=>obtain⟨t',rfl⟩:=ry;exact PySem.EqMixed.eq_bool_str (yJ I q (by simp))
  |_=>exact absurd (show false=true from hs) Bool.false_ne_true
 |int i =>
  obtain⟨t,rfl⟩:=rx;cases y with
  |non=>cases ry;exact PySem.EqNone.eq_int_none (yJ I q (by simp))
  |int j=>obtain⟨t',rfl⟩:=ry;exact eq_int (yJ I q zBe)
  |str j=>obtain⟨t',rfl⟩:=ry;exact PySem.EqMixed.eq_int_str (yJ I q (by simp))
  |_=>exact absurd (show false=true from hs) Bool.false_ne_true
 |str i =>
  obtain⟨t,rfl⟩:=rx;cases y with
  |non=>cases ry;exact PySem.EqNone.eq_str_none (yJ I q (by simp))
  |bl j=>cases ry;exact PySem.EqMixed.eq_str_bool (yJ I q (by simp))
  |int j=>obtain⟨t',rfl⟩:=ry;exact PySem.EqMixed.eq_str_int (yJ I q (by simp))
  |str j=>obtain⟨t',rfl⟩:=ry;exact eq_str (yJ I q zBf)
  |_=>exact absurd (show false=true from hs) Bool.false_ne_true
 |byt i =>
  obtain⟨t,rfl⟩:=rx;cases y with
  |byt j=>obtain⟨t',rfl⟩:=ry;exact PySem.W.eq_bytes (yJ I q zBg)
  |_=>exact absurd (show false=true from hs) Bool.false_ne_true
 |_=>cases y<;>exact absurd (show false=true from hs) Bool.false_ne_true
theorem op_ne:OpR X (compareOp .NotEq) rNe:=by
 intro pins s σ H x y v u Q I rx ry h;obtain⟨hs,q⟩:=h;cases x with
 |non =>
  cases rx;cases y with
  |non=>cases ry;exact PySem.EqNone.ne_none_none (yJ I q (by simp))
  |bl j=>cases ry;exact PySem.EqNone.ne_none_bool (yJ I q (by simp))
  |int j=>obtain⟨t',rfl⟩:=ry;exact PySem.EqNone.ne_none_int (yJ I q (by simp))
  |str j=>obtain⟨t',rfl⟩:=ry;exact PySem.EqNone.ne_none_str (yJ I q (by simp))
  |_=>exact absurd (show false=true from hs) Bool.false_ne_true
 |bl i =>
  cases rx;cases y with
  |non=>cases ry;exact PySem.EqNone.ne_bool_none (yJ I q (by simp))
  |bl j=>cases ry;exact ne_bool (yJ I q (congrArg not zE8))
  |str j=>obtain⟨t',rfl⟩:=ry;exact PySem.EqMixed.ne_bool_str (yJ I q (by simp))
  |_=>exact absurd (show false=true from hs) Bool.false_ne_true
 |int i =>
  obtain⟨t,rfl⟩:=rx;cases y with
  |non=>cases ry;exact PySem.EqNone.ne_int_none (yJ I q (by simp))
  |int j=>obtain⟨t',rfl⟩:=ry;exact ne_int (yJ I q (congrArg not zBe))
  |str j=>obtain⟨t',rfl⟩:=ry;exact PySem.EqMixed.ne_int_str (yJ I q (by simp))
  |_=>exact absurd (show false=true from hs) Bool.false_ne_true
 |str i =>
  obtain⟨t,rfl⟩:=rx;cases y with
  |non=>cases ry;exact PySem.EqNone.ne_str_none (yJ I q (by simp))
  |bl j=>cases ry;exact PySem.EqMixed.ne_str_bool (yJ I q (by simp))
  |int j=>obtain⟨t',rfl⟩:=ry;exact PySem.EqMixed.ne_str_int (yJ I q (by simp))
  |str j=>obtain⟨t',rfl⟩:=ry;exact ne_str (yJ I q (congrArg not zBf))
  |_=>exact absurd (show false=true from hs) Bool.false_ne_true
 |byt i =>
  obtain⟨t,rfl⟩:=rx;cases y with
  |byt j=>obtain⟨t',rfl⟩:=ry;exact PySem.W.ne_bytes (yJ I q (congrArg not zBg))
  |_=>exact absurd (show false=true from hs) Bool.false_ne_true
 |_=>cases y<;>exact absurd (show false=true from hs) Bool.false_ne_true
theorem op_lt:OpR X (compareOp .Lt) (rI0 λi j=>.bl (decide (i<j))):=opB0 λ_ _ _ _ _ _ _ q=>lt_int q
theorem op_le:OpR X (compareOp .LtE) (rI0 λi j=>.bl (decide (i<=j))):=opB0 λ_ _ _ _ _ _ _ q=>le_int q
theorem op_gt:OpR X (compareOp .Gt) (rI0 λi j=>.bl (decide (j<i))):=opB0 λ_ _ _ _ _ _ _ q=>gt_int q
theorem op_ge:OpR X (compareOp .GtE) (rI0 λi j=>.bl (decide (j<=i))):=opB0 λ_ _ _ _ _ _ _ q=>ge_int q
theorem OpR.or{f:Value->Value->Sem Value}{r r':R2}(h:OpR X f r)(h':OpR X f r'):OpR X f (λx y H Q=>r x y H Q\/r' x y H Q):=by
 intro pins s σ H x y v u Q I rx ry q;rcases q with q|q
 ·exact h pins s σ H x y v u Q I rx ry q
 ·exact h' pins s σ H x y v u Q I rx ry q
theorem pe_cmpR{op:CmpOp}{r:R2}(ho:OpR X (compareOp op) r)(ha:PE X a ta)(hb:PE X b tb)(hm:behindInMarks op b=false):PE X (.Compare a [op] [b] pos) (tOp r ta tb):=by
 intro pins s σ H Q I h;exact wpAny_Compare1 (binT ha hb I h λv u s2 x y H2 I2 rx ry q=>ho pins s2 σ H2 x y v u Q I2 rx ry q) hm
def tTest(t:TE):TT:=λσ H Q=>t σ H λx H'=>∃k,x=.bl k/\Q k H'
theorem pt_cmpR{op:CmpOp}{r:R2}(ho:OpR X (compareOp op) r)(ha:PE X a ta)(hb:PE X b tb)(hm:behindInMarks op b=false):PT X (.Compare a [op] [b] pos) (tTest (tOp r ta tb)):=by
 intro pins s σ H Q I h;refine wpAny_isTrue_Compare1 (thn (ha pins s σ H _ I h) λv s1 ⟨x,H1,I1,r1,q1⟩=>thn (hb pins s1 σ H1 _ I1 q1) λu s2 ⟨y,H2,I2,r2,q2⟩ =>
  thn (ho pins s2 σ H2 x y v u _ I2 r1 r2 q2) λc s3 ⟨z,H3,I3,r3,k,e,q3⟩=>?_) hm
 subst e;cases r3;exact wpAny_truthy_bool ⟨H3,I3,q3⟩
def zBh(r r':R2)(ta tb tc:TE):TE:=λσ H Q=>ta σ H λx H1=>tb σ H1 λy H2=>r x y H2 λz H3=>∃k,z=.bl k /\
 (if k=true then tc σ H3 λw' H4=>r' y w' H4 Q else Q (.bl false) H3)
theorem zDe{op op':CmpOp}{r r':R2}(ho:OpR X (compareOp op) r)(ho':OpR X (compareOp op') r')(ha:PE X a ta)(hb:PE X b tb)(hc:PE X c tc)
  (hm:lastMarks [op,op'] [b,c]=false:=by with_unfolding_all rfl):PE X (.Compare a [op,op'] [b,c] pos) (zBh r r' ta tb tc):=by
 intro pins s σ H Q I h;refine Compare_chain (thn (ha pins s σ H _ I h) λv s1 ⟨x,H1,I1,r1,q1⟩=>chain_link (thn (hb pins s1 σ H1 _ I1 q1) λu s2 ⟨y,H2,I2,r2,q2⟩ =>
  thn (ho pins s2 σ H2 x y v u _ I2 r1 r2 q2) λd s3 ⟨z,H3,I3,r3,k,e,q3⟩=>?_)) hm
 subst e;cases r3;refine wpAny_truthy_bool ?_;cases k with
 |false=>exact ite_ff ⟨.bl false,H3,I3,rfl,q3⟩
 |true=>exact ite_tt (chain_last (thn (hc pins s3 σ H3 _ I3 q3) λw' s4 ⟨z',H4,I4,r4,q4⟩=>ho' pins s4 σ H4 y z' u w' Q I4 r2 r4 q4))
theorem zDf{op op':CmpOp}{r r':R2}(ho:OpR X (compareOp op) r)(ho':OpR X (compareOp op') r')(ha:PE X a ta)(hb:PE X b tb)(hc:PE X c tc)
  (hm:lastMarks [op,op'] [b,c]=false:=by with_unfolding_all rfl):PT X (.Compare a [op,op'] [b,c] pos) (tTest (zBh r r' ta tb tc)):=by
 intro pins s σ H Q I h;refine isTrue_chain (thn (ha pins s σ H _ I h) λv s1 ⟨x,H1,I1,r1,q1⟩=>test_link (thn (hb pins s1 σ H1 _ I1 q1) λu s2 ⟨y,H2,I2,r2,q2⟩ =>
  thn (ho pins s2 σ H2 x y v u _ I2 r1 r2 q2) λd s3 ⟨z,H3,I3,r3,k,e,q3⟩=>?_)) hm
 subst e;cases r3;refine wpAny_truthy_bool ?_;cases k with
 |false =>
  obtain⟨k',e',q'⟩:=q3;cases e';exact ite_ff ⟨H3,I3,q'⟩
 |true =>
  refine ite_tt (test_last (thn (hc pins s3 σ H3 _ I3 q3) λw' s4 ⟨z',H4,I4,r4,q4⟩=>thn (ho' pins s4 σ H4 y z' u w' _ I4 r2 r4 q4) λd' s5 ⟨z2,H5,I5,r5,k2,e2,q5⟩=>?_));subst e2;cases r5;exact wpAny_truthy_bool ⟨H5,I5,q5⟩
theorem zAD:(sizeLine:Nat)<2^63:=by rw[sizeLine_eq];decide
theorem W2{x:V}{us:List Value}(r:yD [x] us):∃u,us=[u]/\yU x u:=by
 cases r with
 |cons r1 r2=>cases r2;exact⟨_,rfl,r1⟩
theorem vals2{x y:V}{us:List Value}(r:yD [x,y] us):∃u w',us=[u,w']/\yU x u/\yU y w':=by
 cases r with
 |cons r1 r2 =>
  cases r2 with
  |cons r3 r4=>cases r4;exact⟨_,_,rfl,r1,r3⟩
theorem zDg:wM X (.builtin "abs") (λxs H Q=>∃i,xs=[.int i]/\Q (.int (if i<0 then -i else i)) H):=by
 intro pins s σ H xs us Q I r h;obtain⟨i,rfl,q⟩:=h;obtain⟨u,rfl,t,rfl⟩:=W2 r;exact call_abs_int λu tk=>⟨.int (if i<0 then -i else i),H,I.tok _,⟨_,rfl⟩,q⟩
theorem zBi(hc:X.calm=true):wM X (.builtin "max") (λxs H Q=>∃i j,xs=[.int i,.int j]/\Q (.int (if j > i then j else i)) H):=by
 intro pins s σ H xs us Q I r h;obtain⟨i,j,rfl,q⟩:=h;obtain⟨u,w',rfl,⟨t,rfl⟩,⟨t',rfl⟩⟩:=vals2 r;refine max_two_ints (I.ok.hd hc) λh' tk k=>⟨_,H,I.kept k,?_,q⟩
 by_cases hj:j > i
 ·rw[if_pos hj,if_pos hj];exact⟨_,rfl⟩
 ·rw[if_neg hj,if_neg hj];exact⟨_,rfl⟩
theorem zBj:wM X (.type "int") (λxs H Q=>(∃i,xs=[.int i]/\Q (.int i) H)\/∃k,xs=[.bl k]/\Q (.int (if k then 1 else 0)) H):=by
 intro pins s σ H xs us Q I r h;rcases h with⟨i,rfl,q⟩|⟨k,rfl,q⟩
 ·obtain⟨u,rfl,t,rfl⟩:=W2 r
  exact call_int_int ⟨.int i,H,I,⟨_,rfl⟩,q⟩
 ·obtain⟨u,rfl,r1⟩:=W2 r
  cases r1;exact call_int_bool ⟨.int (if k then 1 else 0),H,I.tok _,⟨_,rfl⟩,q⟩
end
end L2
namespace L2
open PySem PySem.Spec PyProof.Rows
structure ObjM(h:Heap)(x dx C:Addr)(mA:Str->Option Value):Prop where
 obj:h.get? x=some (instObj C dx)
 ns:h.Ns1 dx mA
 ne:dx≠x
section
variable{prog:Program}{w:World}{A:Around}{E:Value->Shared->Prop}{s:Shared}{K:PySem.W.Frag}{x dx C f:Addr}{mA:Str->Option Value}{name:Str}{v:Value}
end
section
variable{P:Program}{w:World}{H H':Hp}{h h':Heap}{a C dx:Addr}{fs fs':List (Str×V)}
end
structure Cls(K:PySem.W.Frag)(C:Addr):Prop where
 pg:plainGet K C Str.empty=true
 hd:PySem.W.hasDictIn K C=true
 po:PySem.W.plainOver K C=true
 sa:findIn K (.ref C) "__setattr__"=some (some (.builtin "object.__setattr__"))
theorem Cls.get{K:PySem.W.Frag}{C:Addr}(c:Cls K C)(f:Str):plainGet K C f=true:=c.pg
structure Con(K:PySem.W.Frag)(C:Addr)(f:Str)(v:V)(u:Value):Prop where
 at_:findIn K (.ref C) f=some (some u)
 rel:yU v u
 get:specialIn K u "__get__"=some none
 cp:PySem.W.copiedNames.contains f=false
structure Meth(K:PySem.W.Frag)(C:Addr)(m:Str)(f:Addr):Prop where
 at_:findIn K (.ref C) m=some (some (.ref f))
 fn:PySem.W.isFn K (.ref f)=true
 kp:keepIn K (.ref f)=true
section
variable{X:Cx}{pins:List (Addr×Obj)}{σ:St}{H:Hp}{s:Shared}{a C dx:Addr}{fs:List (Str×V)}{f:Str}{v:V}{A:Around}{E:Value->Shared->Prop}
theorem Inv.made(I:Inv X pins σ H s):Inv X pins σ (upd (upd H s.heap.objs.size (.own (s.heap.objs.size+1))) (s.heap.objs.size+1) (.ins C s.heap.objs.size []))
  {s with heap:=(s.heap.push emptyDict).push (instObj C s.heap.objs.size)}:=by
 have e1:(s.heap.push emptyDict).get? s.heap.objs.size=some emptyDict:=get?_push_size s.heap rfl;have e2:((s.heap.push emptyDict).push (instObj C s.heap.objs.size)).get? (s.heap.objs.size+1)=some (instObj C s.heap.objs.size):=by
  have:=get?_push_size (s.heap.push emptyDict) (o:=instObj C s.heap.objs.size) rfl
  rwa [size_push]at this
 have e3:(s.heap.push emptyDict).Ns s.heap.objs.size (λ_=>none):=⟨emptyDict,#[],_,e1,rfl,(λe he=>absurd he (by simp)),λ_=>rfl⟩;have I1:=I.laid (a:=s.heap.objs.size) (o:=.own (s.heap.objs.size+1)) (h':=s.heap.push emptyDict) (t':=s.toks) (λb u q=>get?_push_of_some _ q) (le_refl _) ⟨_,e1⟩;refine I1.laid (a:=s.heap.objs.size+1) (o:=.ins C s.heap.objs.size []) (t':=s.toks) (λb u q=>get?_push_of_some _ q) (Nat.le_of_eq (size_push _ _)) ?_;have ne:s.heap.objs.size≠s.heap.objs.size+1:=ne_of_lt (lt_succ_self _);refine⟨by rw[z9 ne,j9],zero_le _,ne,e2,λ_=>none,(Heap.Ns1.of_empty e3).at λo q=>get?_push_of_some _ q,λ_=>True.intro,λy hy=>absurd rfl hy⟩
end
section
variable{X:Cx}{o e value:Expr}{f:Str}{pos pos' tpos:Pos}{ta tv:TE}
end
section
variable{X:Cx}{pins:List (Addr×Obj)}{σ:St}{H:Hp}{s:Shared}{A:Around}{E:Value->Shared->Prop}{Q:Value->Shared->Prop}{c:Value}{b:Bool}
inductive TyOf(K:PySem.W.Frag)(H:Hp):V->Value->Prop where
 |non:TyOf K H .non (.type "NoneType")
 |bl (x:Bool):TyOf K H (.bl x) (.type "bool")
 |int (i:Int):TyOf K H (.int i) (.type "int")
 |str (x:Str):TyOf K H (.str x) (.type "str")
 |flt (x:UInt64):TyOf K H (.flt x) (.type "float")
 |lst {a:Addr} {xs:List V} (e:H a=some (.lst xs)):TyOf K H (.ref a) (.type "list")
 |frz {a:Addr} {o:Obj} {xs:List V} (e:H a=some (.frz o (.lst xs))):TyOf K H (.ref a) (.type "list")
 |tup {a:Addr} {xs:List V} (e:H a=some (.tup xs)):TyOf K H (.ref a) (.type "tuple")
 |dK {a:Addr} {kvs:List (Key×V)} (e:H a=some (.dK kvs)):TyOf K H (.ref a) (.type "dict")
 |dT {a:Addr} {kvs:List (List Key×V)} (e:H a=some (.dT kvs)):TyOf K H (.ref a) (.type "dict")
 |ins {a C dx:Addr} {fs:List (Str×V)} (e:H a=some (.ins C dx fs)) (cl:Cls K C) (ha:findIn K (.ref C) "__class__"=some (some (.builtin "object.__class__")))
   (hn:specialIn K (.builtin "object.__class__") "__get__"=some (some (.builtin "getset_descriptor.__get__"))) (htk:takesIn K (.builtin "object.__class__")=some true)
   (hm:mroIn K C (.type "object")=some true):TyOf K H (.ref a) (.ref C)
end
end L2
namespace L2
open PySem PySem.Spec PyProof.Rows
structure Room(k:Nat)(A:Around):Prop where
 hd:A.handled=none
 gd:A.guards=some []
 dp:A.depth+3*k+5<recursionLimit
 un:A.units+16*k+200<cLine
theorem Room.mono{j k:Nat}{A:Around}(r:Room k A)(h:j<=k):Room j A:=⟨r.hd,r.gd,by have:=r.dp;omega,by have:=r.un;omega⟩
theorem Room.deeper{k:Nat}{A:Around}(r:Room (k+1) A)(env:Env):Room k (A.deeper env) :=
 ⟨r.hd,r.gd,by have:=r.dp;show A.depth+1+3*k+5<_;omega,by have:=r.un;show A.units+3+16*k+200<_;omega⟩
theorem Room.in1{k:Nat}{A:Around}(r:Room (k+1) A):Room k A.in1 :=
 ⟨r.hd,r.gd,by have:=r.dp;show A.depth+3*k+5<_;omega,by have:=r.un;show A.units+1+16*k+200<_;omega⟩
theorem Room.depth{k:Nat}{A:Around}(r:Room k A):A.depth<recursionLimit:=by have:=r.dp;omega
theorem Room.units{k:Nat}{A:Around}(r:Room k A):A.units+64<cLine:=by have:=r.un;omega
def tNil:TA:=λ_ H Q=>Q [] H
def tCons(ta:TE)(tr:TA):TA:=λσ H Q=>ta σ H λx H1=>tr σ H1 λxs H2=>Q (x::xs) H2
section
variable{X:Cx}{e:Expr}{es:List Expr}{te:TE}{t:TA}{pos:Pos}
theorem GO:PA X [] tNil:=λ_ _ _ _ H Q I h=>Calls.spliced_nil ⟨[],H,I,.nil,h⟩
theorem J7(ha:PE X e te)(hr:PA X es t)(hs:starEach (e::es) X.env=(false,eval e X.env)::starEach es X.env:=by rfl):PA X (e::es) (tCons te t):=by
 intro pos pins s σ H Q I h;rw[hs];show wpAny _ _ (spliced ((false,eval e X.env)::backTo pos (starEach es X.env))) _ _ s;refine Calls.spliced_cons (thn (ha pins s σ H _ I h) λu s1 ⟨x,H1,I1,r1,q1⟩=>?_);exact thn (hr pos pins s1 σ H1 _ I1 q1) λus s2 ⟨xs,H2,I2,r2,q2⟩=>⟨x::xs,H2,I2,.cons r1 r2,q2⟩
def tTup(t:TA):TE:=λσ H Q=>t σ H λxs H1=>xs.length<=sizeLine/\∀p,H1 p=none->Q (.ref p) (upd H1 p (.tup xs))
def tLst(t:TA):TE:=λσ H Q=>t σ H λxs H1=>xs.length<=sizeLine/\∀p,H1 p=none->Q (.ref p) (upd H1 p (.lst xs))
theorem pe_tup{x1}(h:PA X es t):PE X (.Tuple es x1 pos) (tTup t):=by
 intro pins s σ H Q I hq;refine wpAny_Tuple_spliced (thn (h pos pins s σ H _ I hq) λus s1 ⟨xs,H1,I1,r,z,q⟩=>⟨by rw[<- r.length];exact z,?_⟩);have hf:H1 s1.heap.objs.size=none:=I1.hok.fresh (le_refl _);refine⟨.ref s1.heap.objs.size,upd H1 s1.heap.objs.size (.tup xs),I1.laid (t':=s1.toks) (λb u e=>get?_push_of_some _ e) (le_refl _) ?_,rfl,q _ hf⟩;exact⟨z,us,r,⟨_,get?_push_size _ rfl,rfl,_,rfl⟩⟩
theorem pe_lst(h:PA X es t):PE X (.List es pos) (tLst t):=by
 intro pins s σ H Q I hq;refine wpAny_List_spliced (thn (h pos pins s σ H _ I hq) λus s1 ⟨xs,H1,I1,r,z,q⟩=>⟨by rw[<- r.length];exact z,?_⟩);have hf:H1 s1.heap.objs.size=none:=I1.hok.fresh (le_refl _);refine⟨.ref s1.heap.objs.size,upd H1 s1.heap.objs.size (.lst xs),I1.laid (t':=s1.toks) (λb u e=>get?_push_of_some _ e) (le_refl _) ?_,rfl,q _ hf⟩;exact⟨z,us,0,r,get?_push_size _ rfl⟩
end
abbrev Sp:=List V->Hp->VK->XK->Prop
abbrev CXT:=List Env->Hp->Shared->XK->Value->Shared->Prop
structure Env0(P:Program)(w:World)(K:PySem.W.Frag)(mg:Str->Option Value)(base:Heap)(A:Around)(outer:List Env)(s:Shared)(H:Hp):Prop where
 frames:A.frames=some outer
 mod:Mod K mg base
 bs:∀b o,base.get? b=some o->s.heap.get? b=some o/\H b=none
 bsz:base.objs.size<=s.heap.objs.size
 funs:s.heap.FunFrames base outer
 frf:∀b∈frs outer,H b=none
 hok:HOk P w H s.heap
 bare:AllBare s.gens
def CE(outer:List Env)(P:Program)(w:World)(H:Hp)(s:Shared)(Q:VK)(u:Value)(s':Shared):Prop :=
 ∃v H',s'.os=s.os/\AllBare s'.gens/\Un (frs outer) [] H H' s.heap s'.heap/\HOk P w H' s'.heap/\yU v u/\Q v H'
def CR(CX:CXT)(outer:List Env)(P:Program)(w:World)(H:Hp)(s:Shared)(Q:VK)(E:XK)(r:Result)(s':Shared):Prop :=
 match r with
 | .ok (.ret u)=>CE outer P w H s Q u s'
 | .ok _=>False
 | .error e=>CX outer H s E e s'
structure FnOk(P:Program)(w:World)(K:PySem.W.Frag)(mg:Str->Option Value)(base:Heap)(CX:CXT)(k:Nat)(f:Addr)(fd:FuncData)(ps:List Str)(sp:Sp):Prop where
 len:∀vs H Q E,sp vs H Q E->vs.length=ps.length
 run:∀(A:Around) (outer:List Env) (s:Shared) (H:Hp) (args:Args) (us:List Value) (vs:List V) (Q:VK) (E:XK),Room k A->Env0 P w K mg base A outer s H->BindsTo s fd args (ps.zip us)->yD vs us->sp vs H Q E ->
  codeAny (model P w) A (.call (.ref f) args) (CR CX outer P w H s Q E) s
theorem FnOk.mono{P:Program}{w:World}{K:PySem.W.Frag}{mg:Str->Option Value}{base:Heap}{CX:CXT}{j k:Nat}{f:Addr}{fd:FuncData}{ps:List Str}{sp:Sp}(F:FnOk P w K mg base CX j f fd ps sp)(h:j<=k) :
  FnOk P w K mg base CX k f fd ps sp:=⟨F.len,λA outer s H args us vs Q E hr=>F.run A outer s H args us vs Q E (hr.mono h)⟩
theorem FnOk.imp{P:Program}{w:World}{K:PySem.W.Frag}{mg:Str->Option Value}{base:Heap}{CX:CXT}{k:Nat}{f:Addr}{fd:FuncData}{ps:List Str}{sp sp':Sp}(F:FnOk P w K mg base CX k f fd ps sp)
  (h:∀vs H Q E,sp' vs H Q E->sp vs H Q E):FnOk P w K mg base CX k f fd ps sp' :=
 ⟨λvs H Q E q=>F.len vs H Q E (h _ _ _ _ q),λA outer s H args us vs Q E hr he hb hv hs=>F.run A outer s H args us vs Q E hr he hb hv (h _ _ _ _ hs)⟩
theorem Env0.in1{P:Program}{w:World}{K:PySem.W.Frag}{mg:Str->Option Value}{base:Heap}{A:Around}{outer:List Env}{s:Shared}{H:Hp}(e:Env0 P w K mg base A outer s H) :
  Env0 P w K mg base A.in1 outer s H:=⟨e.frames,e.mod,e.bs,e.bsz,e.funs,e.frf,e.hok,e.bare⟩
section
variable{X:Cx}{pins:List (Addr×Obj)}{σ:St}{H:Hp}{s s':Shared}
theorem Inv.env0(I:Inv X pins σ H s):Env0 X.prog X.w X.K X.mg X.base X.A X.stack s H :=
 ⟨I.ok.frames,I.ok.mod,I.bs,le_trans I.ok.bsz I.sz,I.stack,I.stkFree,I.hok,I.bare⟩
theorem Inv.after{Q:VK}{u:Value}(I:Inv X pins σ H s)(h:CE X.stack X.prog X.w H s Q u s'):EP X pins σ Q u s':=by
 obtain⟨v,H',os,bare,un,hok,r,q⟩:=h;obtain⟨hh,g,d,t,os'⟩:=s';obtain rfl:os'=s.os:=os;exact⟨v,H',I.call (h':=hh) (g':=g) (d':=d) (t':=t) (ch:=[]) un hok bare (λb z=>absurd z (by simp)),r,q⟩
end
def WK(K:PySem.W.Frag)(fd:FuncData)(ps:List Str)(ds:List Value):Prop :=
 ∀(s:Shared) (us:List Value),K.In s.heap->(us++ds).length=ps.length->BindsTo s fd ⟨us,[]⟩ (ps.zip (us++ds))
theorem WK.all{K:PySem.W.Frag}{fd:FuncData}{ps:List Str}(h:∀us:List Value,us.length=ps.length->bindArgs fd ⟨us,[]⟩=pure (ps.zip us)):WK K fd ps []:=λs us _ hl=>by
 rw[append_nil]at hl ⊢;exact .of_eq (h us hl)
section
variable{X:Cx}{CX:CXT}{k:Nat}{f C:Addr}{fd:FuncData}{ps:List Str}{sp:Sp}{dvs:List V}{ds:List Value}{E:XK}{x m:Str}{p pos apos:Pos}{e o:Expr}{es:List Expr}{ta:TE}{t:TA}
structure Mk(K:PySem.W.Frag)(C f:Addr):Prop where
 makes:PySem.W.makesIn K C=true
 init:findIn K (.ref C) "__init__"=some (some (.ref f))
 fn:PySem.W.isFn K (.ref f)=true
 kp:keepIn K (.ref C)=true
end
section
variable{X:Cx}{CX:CXT}{k:Nat}{f C:Addr}{fd:FuncData}{ps ks:List Str}{sp:Sp}{E:XK}{x m:Str}{p pos apos kpos:Pos}{e o:Expr}{es:List Expr}{kws:List Keyword}{te ta:TE}{t tk:TA}{nm:Option Str}
structure KBinds(K:PySem.W.Frag)(fd:FuncData)(ps ks:List Str)(g:List Value->List Value->List Value)(gV:List V->List V->List V):Prop where
 to:∀(s:Shared) (us ws:List Value),K.In s.heap->(g us ws).length=ps.length->BindsTo s fd ⟨us,ks.zip ws⟩ (ps.zip (g us ws))
 rel:∀{vs:List V} {us:List Value} {zs:List V} {ws:List Value},yD vs us->yD zs ws->yD (gV vs zs) (g us ws)
variable{g:List Value->List Value->List Value}{gV:List V->List V->List V}
end
structure FnScope(N P:List Str)(sc:Scope):Prop where
 kind:sc.kind=.function
 co:sc.isCoroutine=false
 gen:sc.isGenerator=false
 nd:N.Nodup
 pre:N.take P.length=P
 par:∀x∈P,sc.names.lookup x=some .local\/sc.names.lookup x=some .cell
 nofree:∀y∈sc.names,y.2≠.free
theorem GP{kindOf:Str->Option NameKind}{x:Str}:∀{binds:List (Str×Value)} {m:Str->Option Value},(∀v,(x,v)∉binds)->bindL kindOf binds m x=m x
 | [],_,_=>rfl
 | (n,v)::r,m,h=>by
  unfold bindL;rw[GP λw hw=>h w (mem_cons_of_mem _ hw)];split
  ·have:x≠n:=by rintro rfl;exact h v mem_cons_self
   simp[this]
  ·rfl
theorem GQ{kindOf:Str->Option NameKind}{x:Str}:∀{binds:List (Str×Value)} {m:Str->Option Value},(∀v,(x,v)∉binds)->bindC kindOf binds m x=m x
 | [],_,_=>rfl
 | (n,v)::r,m,h=>by
  unfold bindC;rw[GQ λw hw=>h w (mem_cons_of_mem _ hw)];split
  ·rfl
  ·have:x≠n:=by rintro rfl;exact h v mem_cons_self
   simp[this]
theorem GR{kindOf:Str->Option NameKind}{x:Str}{v:Value}:∀{P:List Str} {vs:List Value} {i:Nat} {m:Str->Option Value},P.Nodup->P[i]?=some x->vs[i]?=some v->kindOf x=some .local ->
  bindL kindOf (P.zip vs) m x=some v
 | [],_,_,_,_,h,_,_=>by simp at h
 |_::_,[],_,_,_,_,h,_=>by simp at h
 |p::P,w::vs,0,m,nd,h1,h2,hk=>by
  simp at h1 h2;subst h1;subst h2
  show bindL kindOf ((p,w)::P.zip vs) m p=_
  unfold bindL;rw[GP λv hv=>(nodup_cons.mp nd).1 (of_mem_zip hv).1,if_pos hk];simp
 |p::P,w::vs,i+1,m,nd,h1,h2,hk=>by
  show bindL kindOf ((p,w)::P.zip vs) m x=_
  unfold bindL;exact GR (i:=i) (nodup_cons.mp nd).2 (by simpa using h1) (by simpa using h2) hk
theorem GS{kindOf:Str->Option NameKind}{x:Str}{v:Value}:∀{P:List Str} {vs:List Value} {i:Nat} {m:Str->Option Value},P.Nodup->P[i]?=some x->vs[i]?=some v->kindOf x≠some .local ->
  bindC kindOf (P.zip vs) m x=some v
 | [],_,_,_,_,h,_,_=>by simp at h
 |_::_,[],_,_,_,_,h,_=>by simp at h
 |p::P,w::vs,0,m,nd,h1,h2,hk=>by
  simp at h1 h2;subst h1;subst h2
  show bindC kindOf ((p,w)::P.zip vs) m p=_
  unfold bindC;rw[GQ λv hv=>(nodup_cons.mp nd).1 (of_mem_zip hv).1,if_neg hk];simp
 |p::P,w::vs,i+1,m,nd,h1,h2,hk=>by
  show bindC kindOf ((p,w)::P.zip vs) m x=_
  unfold bindC;exact GS (i:=i) (nodup_cons.mp nd).2 (by simpa using h1) (by simpa using h2) hk
def jx(N:List Str)(vs:List V):St:=vs.map some++replicate (N.length-vs.length) none
def zDh(CX:CXT)(P:Program)(w:World)(K:PySem.W.Frag)(mg:Str->Option Value)(base:Heap)(N:List Str)(qual:Str)(scope:Scope)(f:Addr)(cd:Value)(A:Around)(outer:List Env)(s:Shared)(H:Hp)(E:XK):Cx where
 prog:=P
 w:=w
 K:=K
 mg:=mg
 base:=base
 A:=A.deeper (envOfC qual scope s.heap.objs.size f cd)
 N:=N
 s₀:=s
 H₀:=H
 env:=envOfC qual scope s.heap.objs.size f cd
 outer:=outer
 stack:=envOfC qual scope s.heap.objs.size f cd::outer
 ex:=[]
 calm:=true
 fn:=λ_=>true
 pn:=[]
 xe:=λe s'=>wpAny (model P w) (A.deeper (envOfC qual scope s.heap.objs.size f cd)) (leaving (envOfC qual scope s.heap.objs.size f cd) e) (λ_ s''=>CX outer H s E e s'') (λe' s''=>CX outer H s E e' s'') s'
theorem zAE{sc:Scope}{n:Nat}{x:Str}(h:sc.names.lookup x=some .cell):∃c,(cellsFrom n sc.names []).lookup x=some c:=by
 have q:=cellsFrom_some sc.names n [] (.inl h);exact Option.isSome_iff_exists.mp q
theorem GT{CX:CXT}{P:Program}{w:World}{K:PySem.W.Frag}{mg:Str->Option Value}{base:Heap}{N ps:List Str}{qual:Str}{scope:Scope}{f:Addr}{cd:Value}{A:Around}{outer:List Env}{s s1:Shared}{H:Hp}{E:XK}{us:List Value}{vs:List V}
  (S:FnScope N ps scope) (hd:A.handled=none) (e0:Env0 P w K mg base A outer s H) (hl:vs.length=ps.length) (r:yD vs us)
  (x:InCallC s s.heap.objs.size (bindL (envOfC qual scope s.heap.objs.size f cd).kindOf (ps.zip us) λ_=>none) (cellsFrom (s.heap.objs.size+1) scope.names []) (bindC (envOfC qual scope s.heap.objs.size f cd).kindOf (ps.zip us) λ_=>none) s1) :
  Inv (zDh CX P w K mg base N qual scope f cd A outer s H E) [] (jx N vs) H s1:=by
 have hpl:ps.length<=N.length:=by have:=congrArg length S.pre;rw[List.length_take]at this;omega
 obtain⟨h1,tk,rfl,hk⟩:=x.done;have noA:∀b:Addr,b∉(zDh CX P w K mg base N qual scope f cd A outer s H E).ex:=λb z=>absurd (show b∈([]:List Addr)from z) (by simp)
 refine⟨⟨e0.mod,S.kind,rfl,rfl,le_refl _,λy z c h1 h2=>?_,λy hy=>?_,λy c _ h=>?_,λ_=>hd,Around.frames_deeper e0.frames,.inr ⟨rfl,rfl⟩,λb z=>absurd z (noA b),e0.bs,e0.bsz,λb _ _=>noA b,λb z=>absurd z (noA b),e0.funs,e0.frf⟩,
  rfl,e0.bare,Un.kept hk,⟨_,x.toInCall.ns,λi y v h1 h2 h3=>?_⟩,λy c h=>⟨_,x.cell y c h⟩,e0.hok.fresh (le_refl _),λy c h=>?_,λp hp=>absurd (show p∈([]:List (Addr×Obj))from hp) (by simp),e0.hok.kept hk,?_⟩
 ·exact name_of_addr x.apart (PySem.mem_of_lookup h1) (PySem.mem_of_lookup h2)
 ·have hy:scope.names.lookup y=some .cell\/scope.names.lookup y=some .free:=hy
  rcases hy with hy|hy
  ·exact zAE hy
  ·exact absurd rfl (S.nofree _ (PySem.mem_of_lookup hy))
 ·exact Nat.le_of_lt (x.above y c (PySem.mem_of_lookup h))
 ·have hi:i<vs.length:=by
   unfold jx at h2;by_cases hi:i<vs.length
   ·exact hi
   ·rw[getElem?_append_right (by simpa using hi)]at h2
    rw[List.getElem?_replicate]at h2;split at h2<;>cases h2
  have ha:vs[i]?=some v:=by
   unfold jx at h2;rw[getElem?_append_left (by simpa using hi),getElem?_map]at h2;cases e:vs[i]? with
   |none=>rw[e]at h2;cases h2
   |some a=>rw[e]at h2;cases h2;rfl
  obtain⟨u,hu,rv⟩:=r.get ha;have hp:ps[i]?=some y:=by
   rw[<- S.pre,List.getElem?_take_of_lt (by omega)];exact h1
  have ndP:ps.Nodup:=by rw[<- S.pre];exact S.nd.sublist (List.take_sublist _ _)
  refine⟨u,rv,?_⟩;rcases S.par y (mem_of_getElem? hp)with k|k
  ·exact .inl ⟨k,GR ndP hp hu k⟩
  ·obtain⟨c,e⟩:=zAE (n:=s.heap.objs.size+1) k
   refine .inr ⟨.inl k,c,e,?_⟩;have q:=x.cell y c e;rw[GS ndP hp hu (by show scope.names.lookup y≠_;rw[k];decide)]at q;exact q
 ·exact e0.hok.fresh (Nat.le_of_lt (x.above y c (PySem.mem_of_lookup h)))
 ·unfold jx
  show _=N.length
  rw[length_append,length_map,length_replicate];omega
theorem fn_of{CX:CXT}{P:Program}{w:World}{K:PySem.W.Frag}{mg:Str->Option Value}{base:Heap}{k:Nat}{f:Addr}{name qual:Str}{params:Arguments}{body:List Stmt}{scope:Scope}{dV kV doc pm cdv ct oc:Value}{an od:Option Addr}
  {osl:Array (Option Value)} {N ps:List Str} {sp:Sp} (lk:K.lookup f=some ⟨oc,od,.func (fnOf name qual params body scope dV kV doc pm an cdv ct),osl⟩) (hcd:codeIn K cdv qual=true) (S:FnScope N ps scope)
  (len:∀vs H Q E,sp vs H Q E->vs.length=ps.length)
  (hbody:∀(A:Around) (outer:List Env) (s:Shared) (H:Hp) (vs:List V) (Q:VK) (E:XK),Room k (A.deeper (envOfC qual scope s.heap.objs.size f cdv))->sp vs H Q E ->
   ∃t,PSs (zDh CX P w K mg base N qual scope f cdv A outer s H E) body t/\t {nx:=λ_ H'=>Q .non H',rt:=Q} (jx N vs) H) :
  FnOk P w K mg base CX (k+1) f (fnOf name qual params body scope dV kV doc pm an cdv ct) ps sp:=by
 refine⟨len,λA outer s H args us vs Q E hr e0 hb r hsp=>?_⟩;have hl:=len _ _ _ _ hsp;have KX:K.In s.heap:=e0.mod.kin.keeps λb o e=>(e0.bs b o e).1
 have lim:s.heap.NoLimit:=e0.mod.nolimit.keeps λb o e=>(e0.bs b o e).1
 have hkind:∀y∈ps.zip us,scope.names.lookup y.1=some .local\/(scope.names.lookup y.1=some .cell/\((cellsFrom (s.heap.objs.size+1) scope.names []).lookup y.1).isSome=true):=λ⟨n,v⟩ hy=>by
  rcases S.par n (of_mem_zip hy).1 with q|q
  ·exact .inl q
  ·exact .inr ⟨q,cellsFrom_some _ _ _ (.inl q)⟩
 refine codeAny_call_function hr.depth (KX _ _ lk) rfl S.co S.gen rfl (codeRec_of KX hcd) (hb _ _ _ _ ?_);refine wpAny_newFunctionEnv_cells S.kind hkind λenv he s1 x=>?_
 subst he;refine⟨lim.keeps x.toInCall.keep,codeAny_func ?_⟩;obtain⟨t,ht,hq⟩:=hbody A outer s H vs Q E (hr.deeper _) hsp;have I:Inv (zDh CX P w K mg base N qual scope f cdv A outer s H E) [] (jx N vs) H s1:=GT S hr.hd e0 hl r x;refine wpAny_mono (ht [] s1 (jx N vs) H _ I hq) (λfl s' hs=>?_) λe s' hs=>hs
 have fin:∀{σ':St} {H':Hp} {v:V} {u:Value},Inv (zDh CX P w K mg base N qual scope f cdv A outer s H E) [] σ' H' s'->yU v u->Q v H'->CE outer P w H s Q u s' :=
  λ{σ' H' v u} J rv q=>⟨v,H',J.os,J.bare,J.base,J.hok,rv,q⟩
 cases fl with
 |ret u =>
  obtain⟨v,σ',H',J,rv,q⟩:=hs;exact fin J rv q
 |next =>
  obtain⟨σ',H',J,q⟩:=hs;exact fin (v:=V.non) (u:=Value.none) J rfl q
 |brk =>
  obtain⟨_,_,_,q⟩:=hs;exact False.elim q
 |cont =>
  obtain⟨_,_,_,q⟩:=hs;exact False.elim q
end L2
namespace L2
open PySem PySem.Spec PyProof.Rows
section
variable{X:Cx}{x:Str}{p pos:Pos}{e:Expr}{es:List Expr}{t:TA}{id T:String}{r:List V->Hp->VK->Prop}
def tCB(r:List V->Hp->VK->Prop)(t:TA):TE:=λσ H Q=>t σ H λvs H1=>r vs H1 Q
theorem zAF(hc:wM X (.builtin id) r)(hg:Gl X x)(hm:X.mg x=none)(hv:bootBuiltins x=some (.builtin id))(ha:PA X (e::es) t)(hn:x≠"__name__":=by decide)(hdb:(x==("__debug__":Str))=false:=by decide)
  (he:starEach (e::es) X.env=(false,eval e X.env)::starEach es X.env:=by rfl) (hpl:(backTo pos (starEach es X.env)).any (·.1)=false:=by rfl):PE X (.Call (.Name x p) (e::es) [] pos) (tCB r t):=by
 intro pins s σ H Q I h;refine wpAny_Call_Name_kw (Jw I hg hm hv ?_ hn hdb);exact PyProof.Rows.callWith_builtin1 (thn (ha pos pins s σ H _ I h) λus s1 ⟨vs,H1,I1,r1,q1⟩=>hc pins s1 σ H1 vs us Q I1 r1 q1) he hpl
theorem zBk(hc:wM X (.type T) r)(hg:Gl X x)(hm:X.mg x=none)(hv:bootBuiltins x=some (.type T))(ha:PA X (e::es) t)(hn:x≠"__name__":=by decide)(hdb:(x==("__debug__":Str))=false:=by decide)
  (he:starEach (e::es) X.env=(false,eval e X.env)::starEach es X.env:=by rfl) (hpl:(backTo pos (starEach es X.env)).any (·.1)=false:=by rfl):PE X (.Call (.Name x p) (e::es) [] pos) (tCB r t):=by
 intro pins s σ H Q I h;refine wpAny_Call_Name_kw (Jw I hg hm hv ?_ hn hdb);exact PyProof.Rows.callWith_type1 (thn (ha pos pins s σ H _ I h) λus s1 ⟨vs,H1,I1,r1,q1⟩=>hc pins s1 σ H1 vs us Q I1 r1 q1) he hpl
end
end L2
namespace HT
open PySem PyProof.Rows
section
open PySem.SeqAt
open PySem.AutoSeq1 (wpAny_loadPart')
open PySem.MeetsSeq PySem.MeetsSeq2 PySem.MeetsSeq3
end
section
variable{prog:Program}{w:World}{A:Around}{E:Value->Shared->Prop}{s:Shared}
theorem cat_tup{t b:Addr}{vs ws:List Value}{Q:Value->Shared->Prop}(ht:IsTup s.heap t vs.toArray)(hb:IsTup s.heap b ws.toArray)(hv:vs≠[])
  (h1:ws=[]->Q (.ref t) s) (h2:ws≠[]->Q (.ref s.heap.objs.size) {s with heap:=s.heap.push {cls:=.type "tuple",data:=.seq (vs++ws).toArray}})
  (hsz:vs.length+ws.length<=sizeLine):wpAny (model prog w) A (binaryOp .Add (.ref t) (.ref b)) Q E s:=by
 obtain⟨⟨cls,dd,data,sl⟩,ho,hc,n,hd⟩:=id ht;obtain⟨⟨cls2,dd2,data2,sl2⟩,ho2,hc2,n2,hd2⟩:=id hb;simp only at hc hd hc2 hd2;subst hc hd hc2 hd2;have e:vs.toArray++ws.toArray=(vs++ws).toArray:=by simp
 by_cases hw:ws=[]
 ·exact concat_meets ⟨_,ho,rfl⟩ ⟨_,ho2,rfl⟩ noFill_tuple_add seq_tuple_add PySem.F.slot_tuple_add PySem.F.entry_tuple_add (PySem.F.args_tuple_add_2 _ _)
   (tuple_addW1 t b vs.toArray ws.toArray n n2 dd dd2 sl sl2 (by simpa using hv) (by simp[hw])) ⟨ho,ho2,h1 hw⟩
 ·refine concat_meets ⟨_,ho,rfl⟩ ⟨_,ho2,rfl⟩ noFill_tuple_add seq_tuple_add PySem.F.slot_tuple_add PySem.F.entry_tuple_add (PySem.F.args_tuple_add_2 _ _)
   (tuple_addW2 t b vs.toArray ws.toArray n n2 dd dd2 sl sl2 (by simpa using hv) (by simpa using hw) (by rw[size_toArray,size_toArray];exact hsz)) ⟨ho,ho2,?_⟩
  rw[e];exact h2 hw
def sIx(n d:Nat):Option Int->Nat
 |none=>d
 |some v=>if v<0 then(v+(n:Int)).toNat else min v.toNat n
theorem sIx_nat(n d k:Nat):sIx n d (some (k:Int))=min k n:=by
 show(if(k:Int)<0 then((k:Int)+(n:Int)).toNat else min (k:Int).toNat n)=min k n
 rw[if_neg (by omega),Int.toNat_natCast]
theorem sIx_le(n d:Nat)(hd:d<=n)(o:Option Int):sIx n d o<=n:=by
 cases o with
 |none=>exact hd
 |some v =>
  show(if v<0 then(v+(n:Int)).toNat else min v.toNat n)<=n
  by_cases hv:v<0
  ·rw[if_pos hv];omega
  ·rw[if_neg hv];exact Nat.min_le_right _ _
theorem zBl(v:Int)(n d:Nat):(if v<0 then max (v+(n:Int)) 0 else min v (n:Int))=((sIx n d (some v):Nat):Int):=by
 show(if v<0 then max (v+(n:Int)) 0 else min v (n:Int))=(((if v<0 then(v+(n:Int)).toNat else min v.toNat n):Nat):Int)
 by_cases hv:v<0
 ·simp only[if_pos hv];omega
 ·simp only[if_neg hv];omega
theorem zA0(lo hi:Option Int)(n:Nat):Builtin.Slice.sliceAdjust lo hi 1 (n:Int)=(((sIx n 0 lo:Nat):Int),((sIx n n hi:Nat):Int)):=by
 have h1:¬((1:Int)<0):=by omega
 unfold Builtin.Slice.sliceAdjust;simp only[h1,if_false];refine Prod.ext ?_ ?_
 ·cases lo with
  |none=>rfl
  |some v=>exact zBl v n 0
 ·cases hi with
  |none=>rfl
  |some v=>exact zBl v n n
theorem zA1(i j:Nat):Builtin.Slice.slicePlaces (i:Int) (j:Int) 1=j-i:=by
 unfold Builtin.Slice.slicePlaces;have h1:(1:Int) > 0:=by omega
 simp only[h1,if_true,Int.ediv_one];split<;>omega
theorem vW{v:Value}{o:Option Int}{Q:Option Int->Shared->Prop}(p:IsPart v o)(h:Q o s):wpAny (model prog w) A (Builtin.Slice.slicePartIndex v) Q E s:=by
 cases p with
 |none=>exact slicePart_none h
 |int i t=>exact slicePart_int h
theorem sliceApplied_gen{sl:Addr}{vl vu:Value}{lo hi:Option Int}{n:Nat}{Q:Int×Int×Nat->Shared->Prop}(hs:s.heap.IsSliceOf sl vl vu .none)(pl:IsPart vl lo)(pu:IsPart vu hi)
  (h:Q (((sIx n 0 lo:Nat):Int),1,sIx n n hi-sIx n 0 lo) s):wpAny (model prog w) A (Builtin.Slice.sliceApplied (.ref sl) (pure (n:Int))) Q E s:=by
 obtain⟨os,hos,hcs,hds⟩:=id hs;unfold Builtin.Slice.sliceApplied Builtin.Slice.sliceFields;refine wpAny_bind (wpAny_bind (wpAny_field hos hds (x:=vl) rfl (wpAny_bind (wpAny_field hos hds (x:=vu) rfl (wpAny_bind (wpAny_field hos hds (x:=.none) rfl (wpAny_pure ?_)))))));refine wpAny_bind (slicePart_none ?_);show wpAny _ _ (if((1:Int)==0)=true then _ else _) _ _ s;rw[if_neg (by decide)];refine wpAny_bind (vW pl (wpAny_bind (vW pu (wpAny_bind (wpAny_pure ?_)))));show wpAny _ _ (match Builtin.Slice.sliceAdjust lo hi 1 (n:Int)with|(lo,hi)=>pure (lo,(1:Int),Builtin.Slice.slicePlaces lo hi 1)) _ _ s
 rw[zA0 lo hi n];show wpAny _ _ (pure (((sIx n 0 lo:Nat):Int),(1:Int),Builtin.Slice.slicePlaces ((sIx n 0 lo:Nat):Int) ((sIx n n hi:Nat):Int) 1)) _ _ s;rw[zA1];exact wpAny_pure h
theorem zDi(xs:Array Value)(i k:Nat):((List.range k).filterMap λ(m:Nat)=>xs[((i:Int)+(m:Int)*1).toNat]?).toArray=((xs.toList.drop i).take k).toArray:=by
 have e:(λ(m:Nat)=>xs[((i:Int)+(m:Int)*1).toNat]?)=λm=>xs[i+m]?:=by
  funext m
  have:((i:Int)+(m:Int)*1).toNat=i+m:=by omega
  rw[this]
 rw[e];have:=pick_run xs i k;rw[List.filterMap_map]at this;have e2:((λx=>xs[x]?) ∘ λx=>i+x)=λm=>xs[i+m]?:=rfl
 rw[e2]at this;rw[this]
theorem getItem_tuple_cut{t sl:Addr}{items:Array Value}{vl vu:Value}{lo hi:Option Int}{Q:Value->Shared->Prop}(ht:IsTup s.heap t items)(hs:s.heap.IsSliceOf sl vl vu .none)(pl:IsPart vl lo)(pu:IsPart vu hi)
  (hw:¬(sIx items.size 0 lo=0/\sIx items.size items.size hi=items.size))
  (h:Q (.ref s.heap.objs.size) {s with heap:=s.heap.push {cls:=.type "tuple",data:=.seq ((items.toList.drop (sIx items.size 0 lo)).take (sIx items.size items.size hi-sIx items.size 0 lo)).toArray}})
  (hsz:items.size<=sizeLine):wpAny (model prog w) A (getItem (.ref t) (.ref sl)) Q E s:=by
 have htake:sizeOk (.seq ((items.toList.drop (sIx items.size 0 lo)).take (sIx items.size items.size hi-sIx items.size 0 lo)).toArray):=by
  show((items.toList.drop (sIx items.size 0 lo)).take (sIx items.size items.size hi-sIx items.size 0 lo)).toArray.size<=sizeLine
  rw[size_toArray,List.length_take,length_drop,Array.length_toList];omega
 have hj:sIx items.size items.size hi<=items.size:=sIx_le _ _ (le_refl _) hi;obtain⟨os,hos,hcs,hds⟩:=id hs;have hTs:s.TypeIs (.ref sl) "slice":=⟨os,hos,hcs⟩;unfold getItem
 try with_reducible refine wpAny_holding ?_
 first|refine wpAny_bind (wpAny_pure ?_)|skip
 refine wpAny_bind (wpAny_sequenceKey ht.typeIs (by decide) ?_);refine wpAny_bind (wpAny_callSpecial?_slot (name:=Str.ofString "__getitem__") ht.typeIs PyProof.Rows.slot_tuple_getitem
  (wpAny_call_entry PyProof.Rows.slot_tuple_getitem ht.typeIs entry_tuple_getitem ?_ (args_tuple_getitem _ _)))
 show wpAny _ _ (Builtin.Tuple.tupleItemsOf (.ref t) >>= _) _ _ s
 refine wpAny_bind (tupleItemsOf_ ht ?_);refine wpAny_bind (wpAny_typeOf hTs ?_);rw[if_pos (by decide)];refine wpAny_bind (sliceApplied_gen hs pl pu ?_);have hno:¬((((sIx items.size 0 lo:Nat):Int)==0&&(1:Int)==1&&(sIx items.size items.size hi-sIx items.size 0 lo)==items.size)=true):=by
  intro q;rw[Bool.and_eq_true,Bool.and_eq_true]at q;have q1:((sIx items.size 0 lo:Nat):Int)=0:=eq_of_beq q.1.1;have q2:sIx items.size items.size hi-sIx items.size 0 lo=items.size:=eq_of_beq q.2;exact hw ⟨by omega,by omega⟩
 show wpAny _ _ (if(((sIx items.size 0 lo:Nat):Int)==0&&(1:Int)==1&&(sIx items.size items.size hi-sIx items.size 0 lo)==items.size)=true then _ else _) _ _ s
 rw[if_neg hno,zDi]
 first
  |exact wpAny_bind (m:=Builtin.Tuple.tupleExact _) (wpAny_newObj_type (wpAny_pure ⟨_,rfl,wpAny_pure h⟩) htake)
  |exact wpAny_bind (m:=Builtin.Tuple.tupleExact _) (wpAny_newObj_type (wpAny_bind (wpAny_pure (wpAny_pure ⟨_,rfl,wpAny_pure h⟩))) htake)
  |exact wpAny_bind (wpAny_bind (m:=Builtin.Tuple.tupleExact _) (wpAny_newObj_type (wpAny_pure (wpAny_pure ⟨_,rfl,wpAny_pure h⟩)) htake))
  |exact wpAny_bind (wpAny_bind (m:=Builtin.Tuple.tupleExact _) (wpAny_newObj_type (wpAny_pure ⟨_,rfl,wpAny_pure h⟩) htake))
end
end HT
namespace L2
open PySem PySem.Spec PyProof.Rows
abbrev TO:=St->Hp->(Option Int->Hp->Prop)->Prop
def PO(X:Cx)(e:Option Expr)(t:TO):Prop :=
 ∀(pins:List (Addr×Obj)) (s:Shared) (σ:St) (H:Hp) (Q:Option Int->Hp->Prop),Inv X pins σ H s->t σ H Q ->
  wpAny (model X.prog X.w) X.A (evalPart e X.env) (λu s'=>∃o H',Inv X pins σ H' s'/\IsPart u o/\Q o H') X.xe s
def tNoPart:TO:=λ_ H Q=>Q none H
def tPart(t:TE):TO:=λσ H Q=>t σ H λx H1=>∃i,x=.int i/\Q (some i) H1
section
variable{X:Cx}{e:Expr}{te:TE}{lo hi:Option Expr}{tl th:TO}{pos p2:Pos}
theorem po_none:PO X none tNoPart:=by
 intro pins s σ H Q I h;rw[evalPart_none];exact wpAny_pure ⟨none,H,I,.none,h⟩
theorem po_some(h:PE X e te):PO X (some e) (tPart te):=by
 intro pins s σ H Q I hw;rw[evalPart_some];refine thn (h pins s σ H _ I hw) λu s1 ⟨x,H1,I1,r1,q1⟩=>?_
 obtain⟨i,rfl,q⟩:=q1;obtain⟨t,rfl⟩:=r1;exact⟨some i,H1,I1,.int i t,q⟩
def SlR(X:Cx)(r:V->Option Int->Option Int->Hp->VK->Prop):Prop :=
 ∀(pins:List (Addr×Obj)) (s:Shared) (σ:St) (H:Hp) (x:V) (v vl vu:Value) (lo hi:Option Int) (sl:Addr) (Q:VK),Inv X pins σ H s->yU x v->s.heap.IsSliceOf sl vl vu .none->IsPart vl lo->IsPart vu hi->r x lo hi H Q ->
  ∃T id,typeLookup (.type T) "__getitem__"=pure (some (.builtin id))/\s.TypeIs v T/\wpAny (model X.prog X.w) X.A (getItem v (.ref sl)) (EP X pins σ Q) X.xe s
theorem SlR.or{r r':V->Option Int->Option Int->Hp->VK->Prop}(h:SlR X r)(h':SlR X r'):SlR X (λx lo hi H Q=>r x lo hi H Q\/r' x lo hi H Q):=by
 intro pins s σ H x v vl vu lo hi sl Q I rx hs pl pu q;rcases q with q|q
 ·exact h pins s σ H x v vl vu lo hi sl Q I rx hs pl pu q
 ·exact h' pins s σ H x v vl vu lo hi sl Q I rx hs pl pu q
def tSl(r:V->Option Int->Option Int->Hp->VK->Prop)(te:TE)(tl th:TO):TE:=λσ H Q=>te σ H λx H1=>tl σ H1 λl H2=>th σ H2 λu H3=>r x l u H3 Q
theorem zDj{r:V->Option Int->Option Int->Hp->VK->Prop}(hr:SlR X r)(he:PE X e te)(hl:PO X lo tl)(hu:PO X hi th):PE X (.Subscript e (.Slice lo hi none p2) pos) (tSl r te tl th):=by
 intro pins s σ H Q I h;refine Subscript_ (thn (he pins s σ H _ I h) λv s1 ⟨x,H1,I1,r1,q1⟩=>?_);refine wpAny_Slice (thn (hl pins s1 σ H1 _ I1 q1) λvl s2 ⟨l,H2,I2,pl,q2⟩=>thn (hu pins s2 σ H2 _ I2 q2) λvu s3 ⟨u,H3,I3,pu,q3⟩=>?_);rw[evalPart_none];refine wpAny_pure ?_;have I4:Inv X pins σ H3 {s3 with heap:=s3.heap.push {cls:=.type "slice",data:=.fields #[vl,vu,.none]}}:=I3.kept (t':=s3.toks) λb ob q=>get?_push_of_some _ q
 obtain⟨T,id,hT,ht,hg⟩:=hr pins {s3 with heap:=s3.heap.push {cls:=.type "slice",data:=.fields #[vl,vu,.none]}} σ H3 x v vl vu l u s3.heap.objs.size Q I4 r1 (Heap.IsSliceOf.new ..) pl pu q3
 show wpAny (model X.prog X.w) X.A (subscriptTail e (.Slice lo hi none p2) v (.ref s3.heap.objs.size)) (EP X pins σ Q) X.xe {s3 with heap:=s3.heap.push {cls:=.type "slice",data:=.fields #[vl,vu,.none]}}
 exact tail_any (ops:=[.ref s3.heap.objs.size,v]) ht hT hg (by with_unfolding_all rfl)
def zDk(xs:List V)(lo hi:Option Int):List V:=(xs.drop (HT.sIx xs.length 0 lo)).take (HT.sIx xs.length xs.length hi-HT.sIx xs.length 0 lo)
theorem WL(xs:List V)(lo hi:Option Int):(zDk xs lo hi).length<=xs.length:=by
 unfold zDk;rw[List.length_take,length_drop];omega
def rSlT(K:PySem.W.Frag):V->Option Int->Option Int->Hp->VK->Prop:=λx lo hi H Q=>∃a xs,x=.ref a/\SqT K H a xs /\
 ¬(HT.sIx xs.length 0 lo=0/\HT.sIx xs.length xs.length hi=xs.length)/\∀p,H p=none->Q (.ref p) (upd H p (.tup (zDk xs lo hi)))
theorem sl_tup:SlR X (rSlT X.K):=by
 intro pins s σ H x v vl vu lo hi sl Q I rx hs pl pu h;obtain⟨a,xs,rfl,hx,hw,q⟩:=h;cases rx;obtain⟨its,r,ht,hz⟩:=I.tuple hx;have hlen:its.toArray.size=xs.length:=by rw[size_toArray];exact r.length.symm
 refine⟨"tuple",_,PyProof.Rows.slot_tuple_getitem.lookup,ht.typeIs,?_⟩;refine HT.getItem_tuple_cut ht hs pl pu (by rw[hlen];exact hw) ?_ (by rw[hlen];exact hz);rw[hlen];refine⟨.ref s.heap.objs.size,_,I.laid (t':=s.toks) (o:=.tup (zDk xs lo hi)) (λb ob q=>get?_push_of_some _ q) (le_refl _) ?_,rfl,q _ (I.hok.fresh (le_refl _))⟩;exact⟨le_trans (WL xs lo hi) hz,_,(r.drop (HT.sIx xs.length 0 lo)).take (HT.sIx xs.length xs.length hi-HT.sIx xs.length 0 lo),IsTup.new _ _⟩
def rCatT(K:PySem.W.Frag):R2:=λx y H Q=>∃a b xs ys,x=.ref a/\y=.ref b/\SqT K H a xs/\SqT K H b ys/\xs≠[]/\xs.length+ys.length<=sizeLine /\
 (ys=[]->Q (.ref a) H)/\(ys≠[]->∀p,H p=none->Q (.ref p) (upd H p (.tup (xs++ys))))
theorem yD.nil_iff{xs:List V}{us:List Value}(r:yD xs us):us=[]↔xs=[]:=by
 cases r with
 |nil=>simp
 |cons _ _=>simp
theorem op_catT:OpR X (binaryOp .Add) (rCatT X.K):=by
 intro pins s σ H x y v u Q I rx ry h;obtain⟨a,b,xs,ys,rfl,rfl,ha,hb,hx,hz,q1,q2⟩:=h;cases rx;cases ry;obtain⟨its,r1,p1,_⟩:=I.tuple ha;obtain⟨its2,r2,p2,_⟩:=I.tuple hb;refine HT.cat_tup p1 p2 (λz=>hx (r1.nil_iff.mp z)) (λz=>⟨.ref a,H,I,rfl,q1 (r2.nil_iff.mp z)⟩) (λz=>?_) (by rw[<- r1.length,<- r2.length];exact hz);refine⟨.ref s.heap.objs.size,_,I.laid (t':=s.toks) (o:=.tup (xs++ys)) (λb ob q=>get?_push_of_some _ q) (le_refl _) ?_,rfl,q2 (λw=>z (r2.nil_iff.mpr w)) _ (I.hok.fresh (le_refl _))⟩;exact⟨by rw[length_append];exact hz,_,r1.append r2,IsTup.new _ _⟩
end
end L2
namespace L2
open PySem PySem.Spec PyProof.Rows
def ixN(n:Nat)(i:Int):Option Nat:=if 0<=i then(if i<n then some i.toNat else none)else if -(n:Int)<=i then some (i+n).toNat else none
def atI{α:Type}(xs:List α)(i:Int):Option α:=(ixN xs.length i).bind λj=>xs[j]?
theorem zBm{n:Nat}{i:Int}{j:Nat}(h:ixN n i=some j):seqIndex? i n=some j/\j<n/\-(n:Int)<=i/\i<n:=by
 unfold ixN at h;by_cases h0:0<=i
 ·rw[if_pos h0]at h
  by_cases h1:i<n
  ·rw[if_pos h1]at h
   have e:i.toNat=j:=Option.some.inj h;exact⟨by rw[seqIndex_of h0 h1,e],by omega,by omega,h1⟩
  ·rw[if_neg h1]at h;cases h
 ·rw[if_neg h0]at h
  by_cases h1:-(n:Int)<=i
  ·rw[if_pos h1]at h
   have e:(i+n).toNat=j:=Option.some.inj h;exact⟨by rw[seqIndex_neg (by omega) h1,e],by omega,h1,by omega⟩
  ·rw[if_neg h1]at h;cases h
theorem zBn{α:Type}{xs:List α}{i:Int}{v:α}(h:atI xs i=some v):∃j,seqIndex? i xs.length=some j/\xs[j]?=some v/\j<xs.length/\-(xs.length:Int)<=i/\i<xs.length:=by
 unfold atI at h;cases e:ixN xs.length i with
 |none=>rw[e]at h;cases h
 |some j =>
  rw[e]at h;obtain⟨h1,h2,h3,h4⟩:=zBm e;exact⟨j,h1,h,h2,h3,h4⟩
def uG(b:Expr):Prop:=∀o i,subscripted b false o i=operate [o,i] (getItem o i)
def IxR(X:Cx)(r:R2):Prop :=
 ∀(value slice:Expr) (pins:List (Addr×Obj)) (s:Shared) (σ:St) (H:Hp) (x y:V) (v u:Value) (Q:VK),Inv X pins σ H s->yU x v->yU y u->r x y H Q ->
  subscripted slice false v u=operate [v,u] (getItem v u)->wpAny (model X.prog X.w) X.A (subscriptTail value slice v u) (EP X pins σ Q) X.xe s
def MtR(X:Cx)(id:String)(r:V->List V->Hp->VK->Prop):Prop :=
 ∀(pins:List (Addr×Obj)) (s:Shared) (σ:St) (H:Hp) (x:V) (xs:List V) (v:Value) (us:List Value) (Q:VK),Inv X pins σ H s->yU x v->yD xs us->r x xs H Q ->
  wpAny (model X.prog X.w) X.A (call (.builtin id) (v::us)) (EP X pins σ Q) X.xe s
section
variable{X:Cx}{a b:Expr}{ta tb:TE}{pos:Pos}
theorem IxR.or{r r':R2}(h:IxR X r)(h':IxR X r'):IxR X (λx y H Q=>r x y H Q\/r' x y H Q):=by
 intro value slice pins s σ H x y v u Q I rx ry q hs;rcases q with q|q
 ·exact h value slice pins s σ H x y v u Q I rx ry q hs
 ·exact h' value slice pins s σ H x y v u Q I rx ry q hs
theorem MtR.or{id:String}{r r':V->List V->Hp->VK->Prop}(h:MtR X id r)(h':MtR X id r'):MtR X id (λx xs H Q=>r x xs H Q\/r' x xs H Q):=by
 intro pins s σ H x xs v us Q I rx rs q;rcases q with q|q
 ·exact h pins s σ H x xs v us Q I rx rs q
 ·exact h' pins s σ H x xs v us Q I rx rs q
theorem pe_ix{r:R2}(hr:IxR X r)(ha:PE X a ta)(hb:PE X b tb)(hs:uG b):PE X (.Subscript a b pos) (tOp r ta tb):=by
 intro pins s σ H Q I h;exact Subscript_ (binT ha hb I h λv u s2 x y H2 I2 rx ry q=>hr a b pins s2 σ H2 x y v u Q I2 rx ry q (hs _ _))
def rIxL(K:PySem.W.Frag):R2:=λx y H Q=>∃p xs i v,x=.ref p/\y=.int i/\SqL K H p xs/\atI xs i=some v/\Q v H
def rIxT(K:PySem.W.Frag):R2:=λx y H Q=>∃p xs i v,x=.ref p/\y=.int i/\SqT K H p xs/\atI xs i=some v/\Q v H
theorem zBo:IxR X (rIxL X.K):=by
 intro value slice pins s σ H x y v u Q I rx ry h hs;obtain⟨p,xs,i,z,rfl,rfl,hq,he,q⟩:=h;cases rx;obtain⟨t,rfl⟩:=ry;obtain⟨its,r,pl,hz⟩:=I.list hq;obtain⟨j,h1,h2,h3,h4,h5⟩:=zBn he;obtain⟨w,ew,rw'⟩:=r.get h2;have hl:=r.length;have hn:=zAD;have fin:EP X pins σ Q w s:=⟨z,H,I,rw',q⟩;by_cases h0:0<=i
 ·have hj:i.toNat=j:=by
   rw[seqIndex_of h0 h5]at h1;exact Option.some.inj h1
  exact item_listR pl.isList h0 (by omega) (by rw[hj];simpa using ew) fin hs
 ·have hj:(i+(its.toArray.size:Int)).toNat=j:=by
   rw[seqIndex_neg (by omega) h4]at h1;rw[size_toArray,<- hl];exact Option.some.inj h1
  exact subscriptTail_builtinR (x:=w) pl.isList.typeIs slot_list_getitem.lookup
   (wpAny_getItem_list_neg (Q:=λr s'=>r=w/\EP X pins σ Q r s') pl.isList (by omega) (by rw[size_toArray]<;>omega) (by omega) (by rw[hj];simpa using ew) ⟨rfl,fin⟩) hs
theorem zE9:IxR X (rIxT X.K):=by
 intro value slice pins s σ H x y v u Q I rx ry h hs;obtain⟨p,xs,i,z,rfl,rfl,hq,he,q⟩:=h;cases rx;obtain⟨t,rfl⟩:=ry;obtain⟨its,r,pl,hz⟩:=I.tuple hq;obtain⟨j,h1,h2,h3,h4,h5⟩:=zBn he;obtain⟨w,ew,rw'⟩:=r.get h2;have hl:=r.length;have hn:=zAD;have fin:EP X pins σ Q w s:=⟨z,H,I,rw',q⟩;exact subscriptTail_builtinR (x:=w) pl.typeIs slot_tuple_getitem.lookup
  (getItem_tuple (j:=j) (Q:=λr s'=>r=w/\EP X pins σ Q r s') pl (by omega) (by omega) (by rw[size_toArray,<- hl];exact h1) (by simpa using ew) ⟨rfl,fin⟩) hs
theorem zA2(its:List Value)(n j:Nat)(u:Value):Obj.mapSeq (·.setIfInBounds j u) {cls:=.type "list",data:=.seq its.toArray n}={cls:=.type "list",data:=.seq (its.set j u).toArray n}:=by
 simp[Obj.mapSeq]
theorem Inv.lst{pins:List (Addr×Obj)}{σ:St}{H:Hp}{s:Shared}{p:Addr}{xs:List V}(I:Inv X pins σ H s)(h:H p=some (.lst xs)) :
  ∃(its:List Value) (n:Nat),yD xs its/\s.heap.get? p=some {cls:=.type "list",data:=.seq its.toArray n}/\xs.length<=sizeLine:=by
 obtain⟨z,its,n,r,e⟩:=I.hok p _ h;exact⟨its,n,r,e,z⟩
theorem Inv.lstUpd{pins:List (Addr×Obj)}{σ:St}{H:Hp}{s:Shared}{p:Addr}{xs ys:List V}{its its':List Value}{n n':Nat}{f:Obj->Obj}(I:Inv X pins σ H s)(h:H p=some (.lst xs))
  (ho:s.heap.get? p=some {cls:=.type "list",data:=.seq its.toArray n}) (hf:f {cls:=.type "list",data:=.seq its.toArray n}={cls:=.type "list",data:=.seq its'.toArray n'}) (r:yD ys its') (hz:ys.length<=sizeLine) (t:Nat) :
  Inv X pins σ (upd H p (.lst ys)) {s with heap:=s.heap.update p f,toks:=t}:=by
 have e:(s.heap.update p f).get? p=some {cls:=.type "list",data:=.seq its'.toArray n'}:=by
  rw[Heap.get?_update_self f ho (by rw[hf]<;>rfl),hf]
 refine I.write (x:=p) (e:=p) (by rw[h];trivial) (.inl rfl) (λb u hb q=>(get?_update_other _ _ (Ne.symm hb)).trans q) ⟨_,e⟩ ?_;exact⟨hz,its',n',r,e⟩
def rSetL:V->V->V->Hp->(Hp->Prop)->Prop:=λo i v H Q=>∃p xs k j,o=.ref p/\i=.int k/\H p=some (.lst xs)/\ixN xs.length k=some j/\Q (upd H p (.lst (xs.set j v)))
theorem zDl:PSet X rSetL:=by
 intro pins s σ H o i v ov iv u Q I ro ri rv h;obtain⟨p,xs,k,j,rfl,rfl,hp,hj,q⟩:=h;cases ro;obtain⟨t,rfl⟩:=ri;obtain⟨its,n,r,ho,hz⟩:=I.lst hp;obtain⟨h1,h2,h3,h4⟩:=zBm hj;have hl:=r.length;have hn:=zAD;have I':Inv X pins σ (upd H p (.lst (xs.set j v))) {s with heap:=s.heap.update p (Obj.mapSeq (·.setIfInBounds j u))} :=
  I.lstUpd hp ho (zA2 its n j u) (r.set rv j) (by rw[List.length_set];exact hz) s.toks
 by_cases h0:0<=k
 ·have hk:k.toNat=j:=by
   rw[seqIndex_of h0 h4]at h1;exact Option.some.inj h1
  exact PySem.W.ki_setAt ho h0 (by omega) (by rw[size_toArray,<- hl];exact h4) (by rw[hk];exact⟨_,I',q⟩)
 ·have hk:(k+(its.toArray.size:Int)).toNat=j:=by
   rw[seqIndex_neg (by omega) h3]at h1;rw[size_toArray,<- hl];exact Option.some.inj h1
  exact PySem.W.ki_setBack ho (by omega) (by rw[size_toArray,<- hl];exact h3) (by omega) (by rw[hk];exact⟨_,I',q⟩)
theorem GU(lo hi:Option Int)(n:Nat):(sliceBounds lo hi none n).1=((HT.sIx n 0 lo:Nat):Int)/\(sliceBounds lo hi none n).2.1=((HT.sIx n n hi:Nat):Int)/\(sliceBounds lo hi none n).2.2=1:=by
 refine⟨?_,?_,rfl⟩
 ·cases lo with
  |none=>simp[sliceBounds,HT.sIx]
  |some i =>
   simp only[sliceBounds,HT.sIx,Option.getD_none,show(1:Int) > 0 by decide,if_true];by_cases h:i<0
   ·simp only[h,if_true]<;>omega
   ·simp only[h,if_false]<;>omega
 ·cases hi with
  |none=>simp[sliceBounds,HT.sIx]
  |some i =>
   simp only[sliceBounds,HT.sIx,Option.getD_none,show(1:Int) > 0 by decide,if_true];by_cases h:i<0
   ·simp only[h,if_true]<;>omega
   ·simp only[h,if_false]<;>omega
theorem uH(its:List Value)(lo hi:Option Int):slicePick its.toArray lo hi none=((its.drop (HT.sIx its.length 0 lo)).take (HT.sIx its.length its.length hi-HT.sIx its.length 0 lo)).toArray:=by
 obtain⟨h1,h2,h3⟩:=GU lo hi its.toArray.size;unfold slicePick;rw[h1,h2,h3];simp only[sliceRange_one,pick_run,size_toArray]<;>rfl
def rSlL(K:PySem.W.Frag):V->Option Int->Option Int->Hp->VK->Prop:=λx lo hi H Q=>∃a xs,x=.ref a/\SqL K H a xs/\∀p,H p=none->Q (.ref p) (upd H p (.lst (zDk xs lo hi)))
theorem sl_list:SlR X (rSlL X.K):=by
 intro pins s σ H x v vl vu lo hi sl Q I rx hs pl pu h;obtain⟨a,xs,rfl,hx,q⟩:=h;cases rx;obtain⟨its,r,ht,hz⟩:=I.list hx;have hlen:=r.length;refine⟨"list",_,slot_list_getitem.lookup,ht.isList.typeIs,?_⟩;refine wpAny_getItem_list_slice ht.isList hs pl pu .none (by simp) ?_ (by rw[size_toArray]<;>omega);rw[uH,<- hlen];refine⟨.ref s.heap.objs.size,_,I.laid (t':=s.toks) (o:=.lst (zDk xs lo hi)) (λb ob q=>get?_push_of_some _ q) (le_refl _) ?_,rfl,q _ (I.hok.fresh (le_refl _))⟩;exact⟨le_trans (WL xs lo hi) hz,_,0,(r.drop (HT.sIx xs.length 0 lo)).take (HT.sIx xs.length xs.length hi-HT.sIx xs.length 0 lo),get?_push_size _ rfl⟩
def uI:V->Bool
 | .non=>true
 | .bl _=>true
 | .int _=>true
 | .str _=>true
 |_=>false
def eqV:V->V->Bool
 | .non,.non=>true
 | .bl a,.bl b=>a==b
 | .bl a,.int b=>(if a then 1 else 0)==b
 | .int a,.bl b=>a==(if b then 1 else 0)
 | .int a,.int b=>a==b
 | .str a,.str b=>a==b
 |_,_=>false
theorem zFA{A:Around}{s:Shared}{y x:V}{u v:Value}(ry:yU y u)(rx:yU x v)(fy:uI y=true)(fx:uI x=true):SeqAt.EqAt A s u v (eqV y x):=by
 cases y with
 |non =>
  cases ry;cases x with
  |non=>cases rx;exact SeqAt.EqAt.same _
  |bl b=>cases rx;exact SeqAt.EqAt.none_bool b
  |int b=>obtain⟨t,rfl⟩:=rx;exact SeqAt.EqAt.none_int b t
  |str b=>obtain⟨t,rfl⟩:=rx;exact SeqAt.EqAt.none_str b t
  |_=>exact absurd (show false=true from fx) Bool.false_ne_true
 |bl a =>
  cases ry;cases x with
  |non=>cases rx;exact SeqAt.EqAt.bool_none a
  |bl b=>cases rx;exact SeqAt.EqAt.bool_bool a b
  |int b=>obtain⟨t,rfl⟩:=rx;exact SeqAt.EqAt.bool_int a b t
  |str b=>obtain⟨t,rfl⟩:=rx;exact SeqAt.EqAt.bool_str a b t
  |_=>exact absurd (show false=true from fx) Bool.false_ne_true
 |int a =>
  obtain⟨t',rfl⟩:=ry;cases x with
  |non=>cases rx;exact SeqAt.EqAt.int_none a t'
  |bl b=>cases rx;exact SeqAt.EqAt.int_bool a t' b
  |int b=>obtain⟨t,rfl⟩:=rx;exact SeqAt.EqAt.int_int a t' b t
  |str b=>obtain⟨t,rfl⟩:=rx;exact SeqAt.EqAt.int_str a t' b t
  |_=>exact absurd (show false=true from fx) Bool.false_ne_true
 |str a =>
  obtain⟨t',rfl⟩:=ry;cases x with
  |non=>cases rx;exact SeqAt.EqAt.str_none a t'
  |bl b=>cases rx;exact SeqAt.EqAt.str_bool a t' b
  |int b=>obtain⟨t,rfl⟩:=rx;exact SeqAt.EqAt.str_int a t' b t
  |str b=>obtain⟨t,rfl⟩:=rx;exact SeqAt.EqAt.str_str a t' b t
  |_=>exact absurd (show false=true from fx) Bool.false_ne_true
 |_=>exact absurd (show false=true from fy) Bool.false_ne_true
theorem GV:wM X (.builtin "len") (λxs H Q=>∃p ys,xs=[.ref p]/\(SqL X.K H p ys\/SqT X.K H p ys)/\Q (.int ys.length) H):=by
 intro pins s σ H xs us Q I r h;obtain⟨p,ys,rfl,hq,q⟩:=h;obtain⟨u,rfl,rx⟩:=W2 r;cases rx;have hn:=zAD;rcases hq with hq|hq
 ·obtain⟨its,r',pl,hz⟩:=I.list hq
  have hlen:=r'.length;exact Calls.call_len_list pl.isList (by simp only[size_toArray]<;>omega) ⟨.int ys.length,H,I.tok _,⟨s.toks+1,by rw[size_toArray,hlen]⟩,q⟩
 ·obtain⟨its,r',pl,hz⟩:=I.tuple hq
  have hlen:=r'.length;exact len_tuple pl (by simp only[size_toArray]<;>omega) ⟨.int ys.length,H,I.tok _,⟨s.toks+1,by rw[size_toArray,hlen]⟩,q⟩
theorem wM.or{f:Value}{r r':List V->Hp->VK->Prop}(h:wM X f r)(h':wM X f r'):wM X f (λxs H Q=>r xs H Q\/r' xs H Q):=by
 intro pins s σ H xs us Q I rs q;rcases q with q|q
 ·exact h pins s σ H xs us Q I rs q
 ·exact h' pins s σ H xs us Q I rs q
theorem uJ:wM X (.type "tuple") (λxs H Q=>∃p ys,xs=[.ref p]/\((SqL X.K H p ys/\∀l,H l=none->Q (.ref l) (upd H l (.tup ys)))\/(SqT X.K H p ys/\Q (.ref p) H))):=by
 intro pins s σ H xs us Q I r h;obtain⟨p,ys,rfl,h⟩:=h;obtain⟨u,rfl,rx⟩:=W2 r;cases rx;rcases h with⟨hq,q⟩|⟨hq,q⟩
 ·obtain⟨its,r',pl,hz⟩:=I.list hq
  have hlen:=r'.length;refine call_tuple_list pl.isList (λh' kp=>?_) (by simp only[size_toArray]<;>omega);have I1:Inv X pins σ H {s with heap:=h'}:=I.kept (t':=s.toks) kp
  have I2:Inv X pins σ (upd H h'.objs.size (.tup ys)) {s with heap:=h'.push {cls:=.type "tuple",data:=.seq its.toArray}} :=
   I1.laid (t':=s.toks) (λb o e=>get?_push_of_some _ e) (le_refl _) (show JE X.prog X.w _ _ _ (.tup ys)from⟨hz,its,r',IsTup.new _ _⟩)
  exact⟨.ref h'.objs.size,_,I2,rfl,q _ (I1.hok.fresh (le_refl _))⟩
 ·obtain⟨its,r',pl,hz⟩:=I.tuple hq
  exact call_tuple_same pl ⟨.ref p,H,I,rfl,q⟩
def tyV(K:PySem.W.Frag)(T:String)(x:V)(H:Hp):Prop:=match x with
 | .str _=>T="str"
 | .int _=>T="int"
 | .ref p=>(T="list"/\∃xs,SqL K H p xs)\/(T="tuple"/\∃o,K.lookup p=some o/\o.cls=.type "tuple"/\o.dict=none) \/
   (T="dict"/\((∃kvs,H p=some (.dK kvs))\/∃kvs,H p=some (.dT kvs)))\/(T="set"/\∃S n,H p=some (.set S n))
 |_=>False
theorem tyV_is{pins:List (Addr×Obj)}{σ:St}{H:Hp}{s:Shared}{T:String}{x:V}{v:Value}(I:Inv X pins σ H s)(r:yU x v)(ty:tyV X.K T x H) :
  s.TypeIs v T/\∀a,v=.ref a->∃ob,s.heap.get? a=some ob/\ob.dict=none:=by
 cases x with
 |str z =>
  obtain⟨t,rfl⟩:=r;cases (show T="str" from ty);exact⟨typeIs_str s z t,λ_ e=>nomatch e⟩
 |int i =>
  obtain⟨t,rfl⟩:=r;cases (show T="int" from ty);exact⟨typeIs_int s i t,λ_ e=>nomatch e⟩
 |ref p =>
  cases r;rcases ty with⟨rfl,xs,hq⟩|⟨rfl,o,hk,hc,hd⟩|⟨rfl,hk⟩|⟨rfl,S,n,hk⟩
  ·obtain⟨its,_,pl,_⟩:=I.list hq
   refine⟨pl.isList.typeIs,λa e=>?_⟩;cases e;obtain⟨o,n,e,c,hd,_⟩:=pl;exact⟨o,e,hd⟩
  ·refine⟨⟨o,I.kIn p o hk,hc⟩,λa e=>?_⟩
   cases e;exact⟨o,I.kIn _ o hk,hd⟩
  ·have z:∃o,s.heap.get? p=some o/\o.ExactDict:=by
    rcases hk with⟨kvs,hk⟩|⟨kvs,hk⟩
    ·obtain⟨_,_,_,_,o,_,_,e,ex,_⟩:=I.hok p _ hk
     exact⟨o,e,ex⟩
    ·obtain⟨_,_,_,_,o,_,_,e,ex,_⟩:=I.hok p _ hk
     exact⟨o,e,ex⟩
   obtain⟨o,e,ex⟩:=z;refine⟨⟨o,e,ex.1⟩,λa e2=>?_⟩;cases e2;exact⟨o,e,ex.2.1⟩
  ·obtain⟨o,_,_,_,e,ex,_⟩:=I.hok p _ hk
   refine⟨⟨o,e,ex.1⟩,λa e2=>?_⟩;cases e2;exact⟨o,e,ex.2.1⟩
 |_=>exact False.elim ty
def tBM(K:PySem.W.Frag)(T:String)(r:V->List V->Hp->VK->Prop)(to:TE)(t:TA):TE:=λσ H Q=>to σ H λx H1=>tyV K T x H1/\t σ H1 λxs H2=>r x xs H2 Q
variable{o e:Expr}{es:List Expr}{to:TE}{t:TA}{name:Str}{apos cpos:Pos}{T id:String}{r:V->List V->Hp->VK->Prop}
theorem pe_bm(pa:PlainAttrs T)(slot:Slot T name id)(hty:typeOf (.builtin id)=pure (.type "method_descriptor"))(hm:MtR X id r)(ho:PE X o to)(ha:PA X (e::es) t)
  (hbase:attributeBase o name X.env (eval o X.env)=eval o X.env:=by rfl)
  (hfew:((backTo cpos (starEach (e::es) X.env)).all (λx=>!x.1)&&(backToKw cpos (keywordEach [] X.env)).all (λx=>x.1.isSome)
   && decide ((e::es).length+([]:List Keyword).length+(if([]:List Keyword).isEmpty then 0 else 1)<30))=true:=by rfl)
  (hline:(apos.endLine==cpos.line)=true:=by rfl) (hs:starEach (e::es) X.env=(false,eval e X.env)::starEach es X.env:=by rfl) (hplain:(backTo cpos (starEach es X.env)).any (·.1)=false:=by rfl) :
  PE X (.Call (.Attribute o name apos) (e::es) [] cpos) (tBM X.K T r to t):=by
 intro pins s σ H Q I h;refine wpAny_Call_method_late hbase hfew hline rfl (thn (ho pins s σ H _ I h) λv s1 ⟨x,H1,I1,r1,ty,q1⟩=>?_);obtain⟨h1,h2⟩:=tyV_is I1 r1 ty;refine⟨T,id,pa,slot,hty,h1,h2,?_⟩;have hA:=ha cpos pins s1 σ H1 _ I1 q1;rw[hs]at hA ⊢;refine Calls.callWith_builtin (by show(false||(backTo cpos (starEach es X.env)).any (·.1))=false;rw[hplain]<;>rfl) (Calls.evalArgs_plain ?_);exact thn hA λus s2 ⟨vs,H2,I2,r2,q2⟩=>hm pins s2 σ H2 x vs v us Q I2 r1 r2 q2
end
end L2
namespace L2
open PySem PySem.Spec PyProof.Rows
def MtM(X:Cx)(id:String)(r:V->List V->Hp->VK->Prop):Prop :=
 ∀(pins:List (Addr×Obj)) (s:Shared) (σ:St) (H:Hp) (x:V) (xs:List V) (v:Value) (us:List Value) (Q:VK),Inv X pins σ H s->yU x v->yD xs us->r x xs H Q ->
  wpAny (model X.prog X.w) X.A (call (.builtin id) (v::us)) (EP X pins σ Q) X.xe s
theorem yD.one:∀{x:V} {us:List Value},yD [x] us->∃u,us=[u]/\yU x u
 |_,_,.cons r .nil=>⟨_,rfl,r⟩
theorem yD.zero:∀{us:List Value},yD [] us->us=[]
 |_,.nil=>rfl
theorem yD.dropLast{xs:List V}{us:List Value}(h:yD xs us):yD xs.dropLast us.dropLast:=by
 induction h with
 |nil=>exact .nil
 |cons r t ih =>
  cases t with
  |nil=>exact .nil
  |cons q t'=>exact .cons r ih
theorem yD.eraseIdx:∀{xs:List V} {us:List Value} (i:Nat),yD xs us->yD (xs.eraseIdx i) (us.eraseIdx i)
 |_,_,_,.nil=>.nil
 |_,_,0,.cons _ t=>t
 |_,_,i+1,.cons r t=>.cons r (yD.eraseIdx i t)
theorem yD.reverse{xs:List V}{us:List Value}(h:yD xs us):yD xs.reverse us.reverse:=by
 induction h with
 |nil=>exact .nil
 |cons r t ih=>rw[reverse_cons,reverse_cons];exact yD.append ih (.cons r .nil)
theorem yD.rep{xs:List V}{us:List Value}(h:yD xs us):∀k:Nat,yD (replicate k xs).flatten (replicate k us).flatten
 |0=>.nil
 |k+1=>by
  rw[replicate_succ,replicate_succ,flatten_cons,flatten_cons];exact yD.append h (yD.rep h k)
theorem WM(its:List Value):∀(k:Nat) (acc:List Value),
  foldl (λx1 x2=>x1++x2) acc.toArray (replicate k its.toArray)=(acc++(replicate k its).flatten).toArray
 |0,acc=>by simp
 |k+1,acc=>by
  have e:acc.toArray++its.toArray=(acc++its).toArray:=by simp
  have e2:(acc++its)++(replicate k its).flatten=acc++(replicate (k+1) its).flatten:=by
   rw[replicate_succ,flatten_cons,append_assoc]
  rw[<- e2,<- WM its k (acc++its),<- e,replicate_succ,List.foldl_cons]
section
variable{X:Cx}{pins:List (Addr×Obj)}{σ:St}{H:Hp}{s:Shared}{l b:Addr}{xs ys zs:List V}
theorem Inv.lset{its its':List Value}{n:Nat}{f:Array Value->Array Value}{t':Nat}(I:Inv X pins σ H s)(hH:H l=some (.lst xs))
  (e:s.heap.get? l=some {cls:=.type "list",data:=.seq its.toArray n}) (hf:f its.toArray=its'.toArray) (hv:yD ys its') (hz:ys.length<=sizeLine) :
  Inv X pins σ (upd H l (.lst ys)) {s with heap:=s.heap.update l (Obj.mapSeq f),toks:=t'}:=by
 have q:=PySem.IsL.update e f;rw[hf]at q;refine I.write (x:=l) (e:=l) (by rw[hH];exact trivial) (.inl rfl) (λb' u hb hu=>(get?_update_other s.heap (Obj.mapSeq f) (Ne.symm hb)).trans hu) ⟨_,q⟩ ?_;exact⟨hz,its',_,hv,q⟩
theorem Inv.lnew{its:List Value}{t':Nat}(I:Inv X pins σ H s)(hv:yD ys its)(hz:ys.length<=sizeLine) :
  Inv X pins σ (upd H s.heap.objs.size (.lst ys)) {s with heap:=s.heap.push {cls:=.type "list",data:=.seq its.toArray},toks:=t'} :=
 I.laid (λ_ _ q=>get?_push_of_some _ q) (le_refl _) ⟨hz,its,0,hv,get?_push_size _ rfl⟩
theorem Inv.fresh(I:Inv X pins σ H s):H s.heap.objs.size=none:=I.hok.fresh (le_refl _)
theorem Inv.lstM(I:Inv X pins σ H s)(hH:H l=some (.lst xs)):xs.length<=sizeLine/\∃(its:List Value) (n:Nat),yD xs its/\xs.length=its.length/\s.heap.get? l=some {cls:=.type "list",data:=.seq its.toArray n}:=by
 obtain⟨z,its,n,r,e⟩:=I.hok l _ hH;exact⟨z,its,n,r,r.length,e⟩
theorem zDm{n:Nat}(h:n<=sizeLine):Builtin.List.listTooLong n=false:=by
 unfold Builtin.List.listTooLong;exact decide_eq_false (by omega)
end
section
variable{X:Cx}
def zBp:V->List V->Hp->VK->Prop:=λx vs H Q=>∃l xs y,x=.ref l/\vs=[y]/\H l=some (.lst xs)/\xs.length<sizeLine/\Q .non (upd H l (.lst (xs++[y])))
theorem WN:MtM X "list.append" zBp:=by
 intro pins s σ H x vs v us Q I rx rv h;obtain⟨l,xs,y,rfl,rfl,hH,hz,q⟩:=h;cases rx;obtain⟨u,rfl,ru⟩:=rv.one;obtain⟨z,its,n,r,hl,e⟩:=I.lstM hH;refine call_meets F.slot_list_append ⟨_,e,rfl⟩ F.entry_list_append (F.args_list_append_2 _ _) (PySem.list_append l its.toArray n u (by rw[size_toArray];omega)) ⟨e,?_⟩;refine⟨.non,_,I.lset (its':=its++[u]) hH e (by simp) (r.append (.cons ru .nil)) ?_,rfl,q⟩;rw[length_append,List.length_singleton];omega
theorem QW{α:Type}(xs:List α)(k:Nat):(replicate k xs).flatten.length=k*xs.length:=by
 induction k with
 |zero=>simp
 |succ k ih=>rw[replicate_succ,flatten_cons,length_append,ih,Nat.succ_mul,Nat.add_comm]
end
section
variable{prog:Program}{w:World}{A:Around}{E:Value->Shared->Prop}{s:Shared}
end
section
variable{X:Cx}
end
end L2
namespace Att
open PySem PySem.W PySem.Calls PyProof.Rows
theorem WO{P:Params}{h:Heap}:∀(ns:List Int) (vs:List Value),WellAll P h vs (ns.map WData.int)->IntsAre vs ns:=by
 intro ns
 induction ns with
 |nil =>
  intro vs w;rw[List.map_nil]at w;cases w;exact .nil
 |cons n ns ih =>
  intro vs w;rw[map_cons]at w;cases w with
  |cons a b =>
   cases a;exact .cons _ _ (ih _ b)
theorem zBq{l:OpenLaw}{n:Nat}(hn:l.most=some n){P:Params}{h:Heap}{args:List WData}{vals:List Value}
  (hpre:l.row.toRowW.claim.pre args=true) (hwl:WellAll P h vals args) :
  ∃a vs ns,vals=[Value.ref a]/\args=[WData.list (ns.map WData.int)]/\h.get? a=some {cls:=.type "list",data:=.seq vs.toArray}/\IntsAre vs ns/\ns.length<=n:=by
 have hsh:WShape.hasAll [] args [.list .int]=true:=(pre_splitW hpre).1;have hc:l.pre.holds [] {args:=args}=true:=(pre_splitW hpre).2;obtain⟨d,r,rfl,h1,h2⟩:=hasAllW_cons hsh;obtain rfl:=hasAllW_nil h2;obtain⟨xs,rfl,h3⟩:=hasW_list h1;obtain⟨ns,rfl⟩:=items_int h3;have hlen:ns.length<=n:=by
  unfold OpenLaw.pre at hc;have h4:(WTm.not (.lt (.lit (.int (n:Int))) (.len (.arg 0)))).holds [] {args:=[.list (ns.map .int)]}=true:=by
   have h4:=(holds_andW hc).1;rw[hn]at h4;exact h4
  have h5:=condW_of h4 (w_not (w_lt w_lit (w_len_list (w_arg rfl))));rw[length_map]at h5;refine Nat.le_of_not_lt λq=>?_
  have q':(n:Int)<((ns.length:Nat):Int):=by omega
  first
   | (rw[decide_eq_true q']at h5;exact absurd h5 (by decide))
   | (simp at h5;omega)
 cases hwl with
 |cons w1 w2 =>
  cases w2;cases w1 with
  |list ho hall=>exact⟨_,_,ns,rfl,rfl,ho,WO ns _ hall,hlen⟩
theorem zBr(l:OpenLaw)(args:List WData):l.row.toRowW.claim.post args (.bool true) args=true :=
 postW_of (r:=l.row.toRowW) (X:=(true==true))
  (show WShape.has [] (.bool true) .bool=true by first|rfl|decide|simp[WShape.has,WShape.arms,WShape.armsAll])
  (show(WTm.eq .res (.lit (.bool true))).value [] {args:=args,res:=some (.bool true),after:=args}=some (.bool (true==true))from w_eq_bool (w_res rfl) w_lit) rfl
theorem attach_call{l:OpenLaw}{n:Nat}{q:Program}{loose:List Str}{XP:(Str->Option Value)->Heap->Prop}{YP:World->Heap->Prop}{d:DefRec}
  (hn:l.most=some n) (hdf:d.params.defaults=[])
  (call:∀(w:World) (s₀ s₁:Shared) (mg mb:Str->Option Value) (fa:Addr) (o:Obj) (pm cd doc:Value) (a:Addr) (vs:List Value) (ns:List Int),
   Ground q loose [] XP w s₀ mg mb s₁.heap->YP w s₁.heap ->
   s₁.heap.get? fa=some o->o.data=.func (docDef d.name d.params d.body d.scope pm cd doc)->s₁.heap.CodeRec cd d.name->mg d.name=some (.ref fa) ->
   s₁.heap.get? a=some {cls:=.type "list",data:=.seq vs.toArray}->IntsAre vs ns->ns.length<=n->s₁.gens=#[] ->
   codeAny (model l.prog w) callerA (.call (.ref fa) ⟨[.ref a],[]⟩) (λr s'=>r=.ok (.ret (.bool true))/\OldK s₁.heap s'.heap/\s'.os=s₁.os/\AllBare s'.gens) s₁) :
  WalkO q loose XP YP l.row.toRowW d [] (λf vs=>PySem.call f vs):=by
 intro w s₀ s₁ mg mb G Y fa o pm cd doc dV kV ho hd hcd hD hmg hg args vals as hpre hlay hrd hwl hlo;obtain rfl:dV=.none:=Dflts.none hD hdf;obtain rfl:kV=.none:=Dflts.noKw hD;obtain⟨a,vs,ns,rfl,rfl,hobj,hints,hlen⟩:=zBq hn hpre hwl;refine enter_call (codeAny_mono (call w s₀ s₁ mg mb fa o pm cd doc a vs ns G Y ho (fd_plain hd) hcd hmg hobj hints hlen hg) λr s' hq=>?_);obtain⟨rfl,h2,h3,h4⟩:=hq;exact⟨.inl ⟨.bool true,.bool true,[],rfl,λ_=>rfl,.bool true,zBr l _,λ_=>⟨List.Pairwise.nil,λ_ hm=>(nomatch hm)⟩⟩,h2,h3,h4⟩
section
variable{prog:Program}{w:World}{A:Around}{E:Value->Shared->Prop}{s:Shared}{K:Frag}
end
end Att
namespace L2
open PySem PySem.Spec PyProof.Rows
theorem GW:∀{vs:List Value} {ns:List Int},IntsAre vs ns->yD (ns.map V.int) vs
 |_,_,.nil=>.nil
 |_,_,.cons n t h=>.cons ⟨t,rfl⟩ (GW h)
def Only(H:Hp):Prop:=∀b,H b=none\/∃o xs,H b=some (.frz o (.lst xs))
theorem zDn{P:Program}{w:World}{K:PySem.W.Frag}{mg mb:Str->Option Value}{CX:CXT}{k:Nat}{fa a:Addr}{fd:FuncData}{x:Str}{sp:Sp}{s₁:Shared}{vs:List Value}{ns:List Int}
  (KX:K.In s₁.heap) (hns:s₁.heap.Ns mainGlobals mg) (hb:s₁.heap.Ns builtinsNs mb) (hbb:∀x:Str,x≠"__name__"->mb x=bootBuiltins x) (hlim:s₁.heap.NoLimit) (hg:s₁.gens=#[])
  (ha:s₁.heap.get? a=some {cls:=.type "list",data:=.seq vs.toArray}) (hi:IntsAre vs ns) (hl:ns.length<=sizeLine) (hr:Room k callerA)
  (F:∀base:Heap,K.In base->base.Ns mainGlobals mg->FnOk P w K mg base CX k fa fd [x] sp) (hbind:∀(s:Shared) (u:Value),BindsTo s fd ⟨[u],[]⟩ [(x,u)])
  (hsp:∀H:Hp,Only H->SqL K H a (ns.map V.int)->sp [.ref a] H (λv _=>v=.bl true) λ_ _ _=>False)
  (hCX:∀H e s',CX [] H s₁ (λ_ _ _=>False) e s'->False) :
  codeAny (model P w) callerA (.call (.ref fa) ⟨[.ref a],[]⟩) (λr s'=>r=.ok (.ret (.bool true))/\OldK s₁.heap s'.heap/\s'.os=s₁.os/\AllBare s'.gens) s₁:=by
 have rv:=GW hi;have lenV:=hi.length
 -- from an abstract heap in which nothing but the script may be tracked
 have core:∀H:Hp,Only H->SqL K H a (ns.map V.int)->HOk P w H s₁.heap->(∀b,H b≠none->b=a)->(H a≠none->K.lookup a=none) ->
   codeAny (model P w) callerA (.call (.ref fa) ⟨[.ref a],[]⟩) (λr s'=>r=.ok (.ret (.bool true))/\OldK s₁.heap s'.heap/\s'.os=s₁.os/\AllBare s'.gens) s₁:=by
  intro H hO hS hok hA hK;have base_of:∀{b:Addr} {o:Obj},s₁.heap.get? b=some o->H b=none->(zDW s₁.heap H).get? b=some o:=λe n=>zDX e n
  have noA:∀{b:Addr} {o:Obj} {es:Array DictEntry} {ep:Nat},s₁.heap.get? b=some o->o.data=.dict es ep->H b=none:=λ{b o es ep} e d=>by
   cases q:H b with
   |none=>rfl
   |some u =>
    have e':b=a:=hA b (by rw[q];simp);subst e';rw[ha]at e;cases e;have d':Data.seq vs.toArray _=Data.dict es ep:=d;cases d'
  have nsK:∀{b:Addr} {m:Str->Option Value},s₁.heap.Ns b m->(zDW s₁.heap H).Ns b m:=λ{b m} ⟨o,es,ep,e,d,r⟩=>⟨o,es,ep,base_of e (noA e d),d,r⟩
  have hKb:K.In (zDW s₁.heap H):=λb o e=>base_of (KX b o e) (by
   cases q:H b with
   |none=>rfl
   |some u =>
    have e':b=a:=hA b (by rw[q];simp);subst e';rw[hK (by rw[q];simp)]at e;cases e)
  have hM:Mod K mg (zDW s₁.heap H):=⟨hKb,nsK hns,⟨mb,nsK hb,hbb⟩,let ⟨mc,h1,h2⟩:=hlim;⟨mc,nsK h1,h2⟩⟩;have e0:Env0 P w K mg (zDW s₁.heap H) callerA [] s₁ H:=⟨rfl,hM,λb o e=>of_hidT e,Nat.le_of_eq (zBT _ _),trivial,λb hb=>absurd (show b∈([]:List Addr)from hb) (by simp),hok,.of_eq hg⟩;refine codeAny_mono ((F _ hKb (nsK hns)).run callerA [] s₁ H ⟨[.ref a],[]⟩ [.ref a] [.ref a] _ _ hr e0 (hbind s₁ (.ref a)) (.cons rfl .nil) (hsp H hO hS)) λr s' h=>?_
  cases r with
  |error e=>exact(hCX H e s' h).elim
  |ok fl =>
   cases fl with
   |next=>exact False.elim h
   |brk=>exact False.elim h
   |cont=>exact False.elim h
   |ret u =>
    obtain⟨v,H',os,bare,un,hok',r',q⟩:=h;have q':v=.bl true:=q;subst q';obtain rfl:u=Value.bool true:=r';refine⟨rfl,OldK.of_keep λb o e=>?_,os,bare⟩;cases q:H b with
    |none=>exact un.keep b o e q (by intro z;exact absurd (show b∈([]:List Addr)from z) (by simp)) (by simp)
    |some u =>
     rcases hO b with z|⟨ob,xs,z⟩
     ·rw[q]at z;cases z
     ·have z2:=un.frzs b ob _ z
      obtain⟨e1,_⟩:=hok b _ z;obtain⟨e2,_⟩:=hok' b _ z2;rw[e]at e1;cases e1;exact e2
 cases hk:K.lookup a with
 |some o =>
  -- the script is one of the module's own objects
  have e:=KX a o hk;rw[ha]at e;cases e;refine core (λ_=>none) (λ_=>.inl rfl) (.inr ⟨_,vs.toArray,_,hk,rfl,rfl,rfl,by rw[size_toArray,lenV];exact hl,by simpa using rv⟩) (λb u z=>by have z':(none:Option HO)=some u:=z;cases z') (λb z=>absurd rfl z) λz=>absurd rfl z
 |none =>
  refine core (λb=>if b=a then some (.frz {cls:=.type "list",data:=.seq vs.toArray} (.lst (ns.map V.int)))else none) (λb=>?_) (.inl (.inr ⟨{cls:=.type "list",data:=.seq vs.toArray},if_pos rfl⟩)) (λb u z=>?_) (λb z=>?_) λ_=>hk
  ·by_cases hb:b=a
   ·exact .inr ⟨_,_,if_pos hb⟩
   ·exact .inl (if_neg hb)
  ·by_cases hb:b=a
   ·have z':=(if_pos hb).symm.trans z
    cases z';subst hb;exact⟨ha,by rw[length_map];exact hl,vs,_,rv,ha⟩
   ·have z':=(if_neg hb).symm.trans z
    cases z'
  ·by_cases hb:b=a
   ·exact hb
   ·exact absurd (if_neg hb) z
end L2
namespace L2
open PySem PySem.Spec PyProof.Rows
end L2
namespace L2
open PySem PySem.Spec PyProof.Rows
abbrev CX0:CXT:=λ_ _ _ _ _ _=>False
abbrev E0:XK:=λ_ _ _=>False
structure Fun(K:PySem.W.Frag)(x qual:Str)(st:Stmt)(f:Addr)(fd:FuncData):Prop where
 ex:∃(oc:Value) (od:Option Addr) (kV doc pm:Value) (an:Option Addr) (cdv ct:Value) (osl:Array (Option Value)),
  fd=fnOf x qual (J5 st) (jS st) (zb st) .none kV doc pm an cdv ct/\K.lookup f=some ⟨oc,od,.func fd,osl⟩/\codeIn K cdv qual=true
 kp:keepIn K (.ref f)=true
section
variable{P:Program}{w:World}{K:PySem.W.Frag}{mg:Str->Option Value}{base:Heap}
theorem Fun.ok{x qual:Str}{st:Stmt}{f:Addr}{fd:FuncData}{N ps:List Str}{k:Nat}{sp:Sp}(F:Fun K x qual st f fd)(S:FnScope N ps (zb st))(len:∀vs H Q E,sp vs H Q E->vs.length=ps.length)
  (hbody:∀(cdv:Value) (A:Around) (outer:List Env) (s:Shared) (H:Hp) (vs:List V) (Q:VK) (E:XK),Room k (A.deeper (envOfC qual (zb st) s.heap.objs.size f cdv))->sp vs H Q E ->
   ∃t,PSs (zDh CX0 P w K mg base N qual (zb st) f cdv A outer s H E).nox (jS st) t/\t {nx:=λ_ H'=>Q .non H',rt:=Q} (jx N vs) H):FnOk P w K mg base CX0 (k+1) f fd ps sp:=by
 obtain⟨oc,od,kV,doc,pm,an,cdv,ct,osl,rfl,lk,hcd⟩:=F.ex;refine fn_of lk hcd S len λA outer s H vs Q E hr hsp=>?_
 obtain⟨t,h,q⟩:=hbody cdv A outer s H vs Q E hr hsp;exact⟨t,h.nox,q⟩
theorem Fun.binds{x qual:Str}{st:Stmt}{f:Addr}{fd:FuncData}{ps:List Str}(F:Fun K x qual st f fd)
  (h:∀(kV doc pm:Value) (an:Option Addr) (cdv ct:Value) (us:List Value),us.length=ps.length->bindArgs (fnOf x qual (J5 st) (jS st) (zb st) .none kV doc pm an cdv ct) ⟨us,[]⟩=pure (ps.zip us)):WK K fd ps []:=by
 obtain⟨oc,od,kV,doc,pm,an,cdv,ct,osl,rfl,lk,hcd⟩:=F.ex;exact .all (h kV doc pm an cdv ct)
theorem zFB{x qual:Str}{st:Stmt}{f:Addr}{oc:Value}{od an:Option Addr}{osl:Array (Option Value)}{kV doc pm cdv ct:Value}(l:K.lookup f=some ⟨oc,od,.func (fnOf x qual (J5 st) (jS st) (zb st) .none kV doc pm an cdv ct),osl⟩)
  (c:codeIn K cdv qual=true) (k:keepIn K (.ref f)=true):Fun K x qual st f (fnOf x qual (J5 st) (jS st) (zb st) .none kV doc pm an cdv ct):=⟨⟨oc,od,kV,doc,pm,an,cdv,ct,osl,rfl,l,c⟩,k⟩
end
section
variable{X:Cx}
end
theorem zDQ{A B:Prop}(h:B):if false=true then A else B:=by
 rw[if_neg Bool.false_ne_true];exact h
theorem zDR{A B:Prop}(h:A):if true=true then A else B:=by
 rw[if_pos rfl];exact h
def Y4(H H':Hp):Prop:=∀b o,H b=some o->H' b=some o
theorem Y4.refl(H:Hp):Y4 H H:=λ_ _ h=>h
theorem Y4.trans{H H1 H2:Hp}(a:Y4 H H1)(b:Y4 H1 H2):Y4 H H2:=λc o h=>b c o (a c o h)
theorem Y4.free{H H':Hp}(e:Y4 H H'){l:Addr}(h:H' l=Option.none):H l=Option.none:=by
 cases q:H l with
 |none=>rfl
 |some o =>
  rw[e l o q]at h;cases h
theorem Y4.seq{K:PySem.W.Frag}{H H':Hp}{a:Addr}{xs:List V}(e:Y4 H H')(h:SqL K H a xs):SqL K H' a xs:=by
 rcases h with(h|⟨o,h⟩)|h
 ·exact .inl (.inl (e _ _ h))
 ·exact .inl (.inr ⟨o,e _ _ h⟩)
 ·exact .inr h
end L2
namespace DV
open PySem L2 PyProof.Rows
def ExO(C a:Addr):HO:=.ext λh=>∃o,h.get? a=some o/\o.cls=.ref C
theorem zDo{P:Program}{w:World}{H:Hp}{h:Heap}{a:Addr}{o:HO}(x:JE P w H h a o):∃u,h.get? a=some u:=by
 cases o with
 |lst xs=>obtain⟨_,_,_,_,e⟩:=x;exact⟨_,e⟩
 |tup xs=>obtain⟨_,_,_,o,e,_⟩:=x;exact⟨_,e⟩
 |dK kvs=>obtain⟨_,_,_,_,o,_,_,e,_⟩:=x;exact⟨_,e⟩
 |dT kvs=>obtain⟨_,_,_,_,o,_,_,e,_⟩:=x;exact⟨_,e⟩
 |set S n=>obtain⟨o,_,_,_,e,_⟩:=x;exact⟨_,e⟩
 |ins C dx fs=>obtain⟨_,_,_,e,_⟩:=x;exact⟨_,e⟩
 |own y=>exact x
 |xd fs=>obtain⟨_,⟨_,_,_,e,_⟩,_⟩:=x;exact⟨_,e⟩
 |rng lo hi=>obtain⟨_,_,_,e⟩:=x;exact⟨_,e⟩
 |frz ob u=>obtain⟨e,_⟩:=x;exact⟨_,e⟩
 |tbl ps=>exact⟨_,(show h.get? a=some _ from x)⟩
 |met f y=>exact⟨_,(show h.get? a=some _ from x)⟩
 |ext φ=>obtain⟨_,e,_⟩:=x;exact e
def zFC(B:Heap)(H:Hp)(g:Heap)(fs:List Addr)(h:Heap):Prop:=∀b o,h.get? b=some o->((∃o',g.get? b=some o')\/H b≠none)->b∉fs->B.get? b=some o
def Flies(l:List Env)(H:Hp)(g:Heap)(a C:Addr)(h:Heap):Prop:=∃B t,Heap.FlyingW B l a (.ref C) (.ref t) h/\zFC B H g (frs l) h
def CXx(P:Program)(w:World):CXT:=λouter H s E e s'=>∃a C H',e=.ref a/\s'.os=s.os/\AllBare s'.gens/\Un (frs outer) [] H H' s.heap s'.heap/\HOk P w H' s'.heap/\H' a=none/\Flies outer H' s.heap a C s'.heap/\E (.ref C) none H'
section
variable{P:Program}{w:World}{fs:List Addr}{H H':Hp}{g h h' B:Heap}{L:Addr}
theorem un_on(u:Un fs [] H H' g h)(ok:HOk P w H' h)(kb:zFC B H' g (L::fs) h)(st:B.StaysIn h')(hL:g.get? L=none)(hf:∀b∈fs,∀o,h.get? b=some o->∃sl,h'.get? b=some {o with slots:=sl}):Un fs [] H H' g h' where
 keep:=λb o e n hb hx=>st b o (kb b o (u.keep b o e n hb hx) (.inl ⟨o,e⟩) λz=>by
  rcases mem_cons.mp z with rfl|z
  ·rw[hL]at e;cases e
  ·exact hb z)
 slot:=λb o e n hb hx=>by
  obtain⟨sl,q⟩:=u.slot b o e n hb hx;obtain⟨sl',q'⟩:=hf b hb _ q;exact⟨sl',q'⟩
 free:=u.free
 there:=λb o e hx=>by
  obtain⟨o',q⟩:=u.there b o e hx;by_cases hb:b∈fs
  ·obtain⟨sl,q'⟩:=hf b hb _ q;exact⟨_,q'⟩
  ·exact⟨o',st b o' (kb b o' q (.inl ⟨o,e⟩) λz=>by
    rcases mem_cons.mp z with rfl|z
    ·rw[hL]at e;cases e
    ·exact hb z)⟩
 tups:=u.tups
 frzs:=u.frzs
 tbls:=u.tbls
theorem zFD(ok:HOk P w H' h)(kb:zFC B H' g (L::fs) h)(st:B.StaysIn h')(hn:∀b∈L::fs,H' b=none):HOk P w H' h':=λa o e=>by
 refine(ok a o e).stay (λb u hb q=>?_) (λ_ q=>q) λ_ _ q=>q
 have ht:H' b≠none:=by
  rcases hb with rfl|hb
  ·rw[e];exact λz=>by cases z
  ·rw[hb];exact λz=>by cases z
 exact st b u (kb b u q (.inr ht) λz=>ht (hn b z))
theorem zBs(u:Un fs [] H H' g h)(ok:HOk P w H' h)(kb:zFC B H' g (L::fs) h)(st:B.StaysIn h')(hL:g.get? L=none)(hn:∀b∈L::fs,H' b=none):zFC B H' g fs h':=λb o e hb nf=>by
 have nL:b∉L::fs:=λz=>by
  rcases mem_cons.mp z with rfl|z
  ·rcases hb with⟨o',q⟩|q
   ·rw[hL]at q;cases q
   ·exact q (hn _ (mem_cons_self))
  ·exact nf z
 have:∃o1,h.get? b=some o1:=by
  rcases hb with⟨o',q⟩|q
  ·exact u.there b o' q (by simp)
  ·obtain⟨x,hx⟩:=Option.ne_none_iff_exists'.mp q
   exact zDo (ok b x hx)
 obtain⟨o1,q1⟩:=this;have q2:=kb b o1 q1 hb nL;have q3:=st b o1 q2;rw[e]at q3;cases q3;exact q2
end
section
variable{P:Program}{w:World}{K:PySem.W.Frag}{mg:Str->Option Value}{base:Heap}{N:List Str}{qual:Str}{scope:Scope}{f:Addr}{cd:Value}{A:Around}{outer:List Env}{s:Shared}{H:Hp}{E:XK}
abbrev cxC(c:Bool)(P:Program)(w:World)(K:PySem.W.Frag)(mg:Str->Option Value)(base:Heap)(N:List Str)(qual:Str)(scope:Scope)(f:Addr)(cd:Value)(A:Around)(outer:List Env)(s:Shared)(H:Hp)(E:XK):Cx :=
 {zDh (CXx P w) P w K mg base N qual scope f cd A outer s H E with calm:=c}
variable{c:Bool}
abbrev cxX(P:Program)(w:World)(K:PySem.W.Frag)(mg:Str->Option Value)(base:Heap)(N:List Str)(qual:Str)(scope:Scope)(f:Addr)(cd:Value)(A:Around)(outer:List Env)(s:Shared)(H:Hp)(E:XK):Cx :=
 zDh (CXx P w) P w K mg base N qual scope f cd A outer s H E
variable{pins:List (Addr×Obj)}{σ:L2.St}{H':Hp}{s' s1:Shared}{a C:Addr}
theorem QX:frs (envOfC qual scope s.heap.objs.size f cd::outer)=s.heap.objs.size::frs outer:=rfl
theorem zA3(I:Inv (cxC c P w K mg base N qual scope f cd A outer s H E) pins σ H' s')(u:Un (frs outer) [] H H' s.heap s'.heap)(hn:H' a=none)
  (hf:∃B t,Heap.FlyingW B (cxC c P w K mg base N qual scope f cd A outer s H E).stack a (.ref C) (.ref t) s'.heap/\zFC B H' s.heap (frs (cxC c P w K mg base N qual scope f cd A outer s H E).stack) s'.heap) (hE:E (.ref C) none H') :
  (cxC c P w K mg base N qual scope f cd A outer s H E).xe (.ref a) s':=by
 obtain⟨B,t,fl,kb⟩:=hf;have hL:s.heap.get? s.heap.objs.size=none:=Heap.get?_none_of_le (le_refl _);have hN:∀b∈s.heap.objs.size::frs outer,H' b=none:=λb hb=>I.stkFree b (by show b∈frs (envOfC qual scope s.heap.objs.size f cd::outer);rw[QX];exact hb)
 have kb':zFC B H' s.heap (s.heap.objs.size::frs outer) s'.heap:=kb;refine wpAny_leaves_onW (base:=B) I.ok.frames rfl fl λh' fl' sl=>?_
 have st:B.StaysIn h':=fl'.1;have hfs:∀b∈frs outer,∀o,s'.heap.get? b=some o->∃sl,h'.get? b=some {o with slots:=sl}:=λb hb o e=>by
  obtain⟨_,o',q,nd⟩:=I.funs.mem hb;rw[e]at q;cases q;exact sl b o e nd
 exact⟨a,C,H',rfl,I.os,I.bare,un_on u I.hok kb' st hL hfs,zFD I.hok kb' st hN,hn,⟨B,t,fl',zBs u I.hok kb' st hL hN⟩,hE⟩
theorem QY(I:Inv (cxC c P w K mg base N qual scope f cd A outer s H E) pins σ H' s1)(hx:Heap.MadeExcOf s1.heap s'.heap a (.ref C) [])(hs:s'={s1 with heap:=s'.heap})(hn:H' a=none)(hE:E (.ref C) none H') :
  (cxC c P w K mg base N qual scope f cd A outer s H E).xe (.ref a) s':=by
 have u:Un (frs outer) [] H H' s.heap s1.heap:=I.base;have hL:s.heap.get? s.heap.objs.size=none:=Heap.get?_none_of_le (le_refl _);have hN:∀b∈s.heap.objs.size::frs outer,H' b=none:=λb hb=>I.stkFree b (by show b∈frs (envOfC qual scope s.heap.objs.size f cd::outer);rw[QX];exact hb)
 have kb:zFC (hideAll s1.heap (s.heap.objs.size::frs outer)) H' s.heap (s.heap.objs.size::frs outer) s1.heap:=λb o e _ nf=>hideAll_get _ e nf
 have hin:∀env∈(envOfC qual scope s.heap.objs.size f cd::outer),∀b,env.frame=some b->b∈s.heap.objs.size::frs outer:=λenv he b hb=>by
  rw[<- QX (qual:=qual) (scope:=scope) (f:=f) (cd:=cd)];exact mem_filterMap.mpr ⟨env,he,hb⟩
 have hstk:s1.heap.FunFrames base (envOfC qual scope s.heap.objs.size f cd::outer):=I.stack;refine wpAny_leaves_madeW (base:=hideAll s1.heap (s.heap.objs.size::frs outer)) (h:=s1.heap) I.ok.frames rfl (λb o q=>of_hideAll _ q) (PySem.W.funFrames_hide hstk hin) hx λh' t x1 x2 x3 x4=>?_
 have st:=x1.1;have hfs:∀b∈frs outer,∀o,s1.heap.get? b=some o->∃sl,h'.get? b=some {o with slots:=sl}:=λb hb o e=>by
  obtain⟨_,o',q,nd⟩:=I.funs.mem hb;rw[e]at q;cases q;exact x4 b o (hx.keeps b o e) nd
 have os:s'.os=s1.os:=by rw[hs]
 have ge:s'.gens=s1.gens:=by rw[hs]
 refine⟨a,C,H',rfl,os.trans I.os,?_,un_on u I.hok kb st hL hfs,zFD I.hok kb st hN,hn,⟨_,t,x1,zBs u I.hok kb st hL hN⟩,hE⟩;show AllBare s'.gens;rw[ge];exact I.bare
end
end DV
namespace DV
open PySem L2 PyProof.Rows
structure RoomN(k:Nat)(A:Around):Prop where
 gd:A.guards=some []
 dp:A.depth+3*k+5<recursionLimit
 un:A.units+16*k+200<cLine
theorem RoomN.mono{j k:Nat}{A:Around}(r:RoomN k A)(h:j<=k):RoomN j A:=⟨r.gd,by have:=r.dp;omega,by have:=r.un;omega⟩
theorem RoomN.deeper{k:Nat}{A:Around}(r:RoomN (k+1) A)(env:Env):RoomN k (A.deeper env) :=
 ⟨r.gd,by have:=r.dp;show A.depth+1+3*k+5<_;omega,by have:=r.un;show A.units+3+16*k+200<_;omega⟩
theorem RoomN.depth{k:Nat}{A:Around}(r:RoomN k A):A.depth<recursionLimit:=by have:=r.dp;omega
theorem RoomN.room{k:Nat}{A:Around}(r:RoomN k A)(h:A.handled=none):Room k A:=⟨h,r.gd,r.dp,r.un⟩
theorem zDp{k:Nat}{A:Around}(r:Room k A):RoomN k A:=⟨r.gd,r.dp,r.un⟩
section
variable{X:Cx}{pins:List (Addr×Obj)}{σ:L2.St}{H:Hp}{s:Shared}
theorem vX(I:Inv X pins σ H s)(A':Around)(c:Bool)(E:Value->Shared->Prop)(hd:c=true->A'.handled=none)(fr:A'.frames=some X.stack):Inv {X with A:=A',calm:=c,xe:=E} pins σ H s :=
 ⟨⟨I.ok.mod,I.ok.kind,I.ok.glob,I.ok.blt,I.ok.above,I.ok.inj,I.ok.has,I.ok.cab,hd,fr,I.ok.stk,I.ok.exf,I.ok.bs,I.ok.bsz,I.ok.noex,I.ok.exfs,I.ok.funs,I.ok.frf⟩,I.os,I.bare,I.base,I.loc,I.cell,I.free,I.freeC,I.pin,I.hok,I.len⟩
end
abbrev cxN(c:Bool)(P:Program)(w:World)(K:PySem.W.Frag)(mg:Str->Option Value)(base:Heap)(N:List Str)(qual:Str)(scope:Scope)(f:Addr)(cd:Value)(A:Around)(outer:List Env)(s:Shared)(H:Hp)(E:XK):Cx :=
 cxC c P w K mg base N qual scope f cd A outer s H E
structure FnOkN(c:Bool)(P:Program)(w:World)(K:PySem.W.Frag)(mg:Str->Option Value)(base:Heap)(k:Nat)(f:Addr)(fd:FuncData)(ps:List Str)(sp:Sp):Prop where
 len:∀vs H Q E,sp vs H Q E->vs.length=ps.length
 run:∀(A:Around) (outer:List Env) (s:Shared) (H:Hp) (args:Args) (us:List Value) (vs:List V) (Q:VK) (E:XK),(c=true->A.handled=none)->RoomN k A->Env0 P w K mg base A outer s H->BindsTo s fd args (ps.zip us)->yD vs us->sp vs H Q E ->
  codeAny (model P w) A (.call (.ref f) args) (CR (CXx P w) outer P w H s Q E) s
section
variable{c:Bool}{P:Program}{w:World}{K:PySem.W.Frag}{mg:Str->Option Value}{base:Heap}
theorem FnOkN.mono{j k:Nat}{f:Addr}{fd:FuncData}{ps:List Str}{sp:Sp}(F:FnOkN c P w K mg base j f fd ps sp)(h:j<=k):FnOkN c P w K mg base k f fd ps sp :=
 ⟨F.len,λA outer s H args us vs Q E hd hr=>F.run A outer s H args us vs Q E hd (hr.mono h)⟩
theorem FnOkN.fn{k:Nat}{f:Addr}{fd:FuncData}{ps:List Str}{sp:Sp}(F:FnOkN c P w K mg base k f fd ps sp):FnOk P w K mg base (CXx P w) k f fd ps sp :=
 ⟨F.len,λA outer s H args us vs Q E hr=>F.run A outer s H args us vs Q E (λ_=>hr.hd) (zDp hr)⟩
theorem fn_ofN{k:Nat}{f:Addr}{name qual:Str}{params:Arguments}{body:List Stmt}{scope:Scope}{dV kV doc pm cdv ct oc:Value}{an od:Option Addr}
  {osl:Array (Option Value)} {N ps:List Str} {sp:Sp} (lk:K.lookup f=some ⟨oc,od,.func (fnOf name qual params body scope dV kV doc pm an cdv ct),osl⟩) (hcd:codeIn K cdv qual=true) (S:FnScope N ps scope)
  (len:∀vs H Q E,sp vs H Q E->vs.length=ps.length)
  (hbody:∀(A:Around) (outer:List Env) (s:Shared) (H:Hp) (vs:List V) (Q:VK) (E:XK),(c=true->A.handled=none)->RoomN k (A.deeper (envOfC qual scope s.heap.objs.size f cdv))->sp vs H Q E ->
   ∃t,PSs (cxN c P w K mg base N qual scope f cdv A outer s H E) body t/\t {nx:=λ_ H'=>Q .non H',rt:=Q} (jx N vs) H) :
  FnOkN c P w K mg base (k+1) f (fnOf name qual params body scope dV kV doc pm an cdv ct) ps sp:=by
 refine⟨len,λA outer s H args us vs Q E hd hr e0 hb r hsp=>?_⟩;have hl:=len _ _ _ _ hsp;have KX:K.In s.heap:=e0.mod.kin.keeps λb o e=>(e0.bs b o e).1
 have lim:s.heap.NoLimit:=e0.mod.nolimit.keeps λb o e=>(e0.bs b o e).1
 have hkind:∀y∈ps.zip us,scope.names.lookup y.1=some .local\/(scope.names.lookup y.1=some .cell/\((cellsFrom (s.heap.objs.size+1) scope.names []).lookup y.1).isSome=true):=λ⟨n,v⟩ hy=>by
  rcases S.par n (of_mem_zip hy).1 with q|q
  ·exact .inl q
  ·exact .inr ⟨q,cellsFrom_some _ _ _ (.inl q)⟩
 refine codeAny_call_function hr.depth (KX _ _ lk) rfl S.co S.gen rfl (codeRec_of KX hcd) (hb _ _ _ _ ?_);refine wpAny_newFunctionEnv_cells S.kind hkind λenv he s1 x=>?_
 subst he;refine⟨lim.keeps x.toInCall.keep,codeAny_func ?_⟩;obtain⟨t,ht,hq⟩:=hbody A outer s H vs Q E hd (hr.deeper _) hsp;have e1:Env0 P w K mg base {A with handled:=none} outer s H:=⟨e0.frames,e0.mod,e0.bs,e0.bsz,e0.funs,e0.frf,e0.hok,e0.bare⟩
 have I0:Inv (zDh (CXx P w) P w K mg base N qual scope f cdv {A with handled:=none} outer s H E) [] (jx N vs) H s1:=GT S rfl e1 hl r x
 have I:Inv (cxN c P w K mg base N qual scope f cdv A outer s H E) [] (jx N vs) H s1:=vX I0 (A.deeper (envOfC qual scope s.heap.objs.size f cdv)) c _ hd (Around.frames_deeper e0.frames);refine wpAny_mono (ht [] s1 (jx N vs) H _ I hq) (λfl s' hs=>?_) λe s' hs=>hs
 have fin:∀{σ':L2.St} {H':Hp} {v:V} {u:Value},Inv (cxN c P w K mg base N qual scope f cdv A outer s H E) [] σ' H' s'->yU v u->Q v H'->CE outer P w H s Q u s' :=
  λ{σ' H' v u} J rv q=>⟨v,H',J.os,J.bare,J.base,J.hok,rv,q⟩
 cases fl with
 |ret u =>
  obtain⟨v,σ',H',J,rv,q⟩:=hs;exact fin J rv q
 |next =>
  obtain⟨σ',H',J,q⟩:=hs;exact fin (v:=V.non) (u:=Value.none) J rfl q
 |brk =>
  obtain⟨_,_,_,q⟩:=hs;exact False.elim q
 |cont =>
  obtain⟨_,_,_,q⟩:=hs;exact False.elim q
end
structure Exn where
 cls:Str
 made:Bool
 deriving Inhabited
def RelX(X:Cx)(pins:List (Addr×Obj))(σ:L2.St)(x:Exn)(H:Hp)(e:Value)(s:Shared):Prop:=∃a C,e=.ref a/\X.mg x.cls=some (.ref C)/\H a=none /\
 ((x.made=true/\∃s1,Inv X pins σ H s1/\s={s1 with heap:=s.heap}/\Heap.MadeExcOf s1.heap s.heap a (.ref C) []) \/
  (x.made=false/\∃sc Hc,Inv X pins σ Hc sc/\Un (frs X.stack) [] Hc H sc.heap s.heap/\Flies X.stack H sc.heap a C s.heap))
def XE(X:Cx)(σ:L2.St)(H:Hp)(x:Exn):Prop:=∀(pins:List (Addr×Obj)) (s:Shared) (e:Value),Inv X pins σ H s->RelX X pins σ x H e s->X.xe e s
def EX(X:Cx)(σ:L2.St):XK:=λc _ H'=>∃x C,c=.ref C/\X.mg x.cls=some (.ref C)/\x.made=false/\XE X σ H' x
section
variable{X:Cx}{pins:List (Addr×Obj)}{σ:L2.St}{H:Hp}{s s':Shared}{e:Value}
theorem pass_x(I:Inv X pins σ H s)(h:CXx X.prog X.w X.stack H s (EX X σ) e s'):X.xe e s':=by
 obtain⟨a,C,H',rfl,os,bare,un,hok,hn,fl,x,C',ec,hm,hmd,k⟩:=h;cases ec;have I':Inv X pins σ H' s':=I.call' (ch:=[]) os un hok bare (λb z=>absurd z (by simp));exact k pins s' _ I' ⟨a,C,rfl,hm,hn,.inr ⟨hmd,s,H,I,un,fl⟩⟩
theorem run_fnN{c:Bool}{k:Nat}{f:Addr}{fd:FuncData}{ps:List Str}{sp:Sp}{Q:VK}{us:List Value}{vs:List V}(F:FnOkN c X.prog X.w X.K X.mg X.base k f fd ps sp)(hd:c=true->X.A.handled=none)(hr:RoomN k X.A)(hb:WK X.K fd ps [])
  (I:Inv X pins σ H s) (r:yD vs us) (h:sp vs H Q (EX X σ)):wpAny (model X.prog X.w) X.A (call (.ref f) us) (EP X pins σ Q) X.xe s:=by
 have hl:us.length=ps.length:=by rw[<- r.length];exact F.len _ _ _ _ h
 have hbd:=hb s us I.kIn (by rw[append_nil];exact hl);rw[append_nil]at hbd;refine wpAny_call (codeAny_mono (F.run X.A X.stack s H ⟨us,[]⟩ us vs Q (EX X σ) hd hr I.env0 hbd r h) λr s' hq=>?_);cases r with
 |error e=>exact pass_x I hq
 |ok fl =>
  cases fl with
  |ret u=>exact I.after hq
  |next=>exact False.elim hq
  |brk=>exact False.elim hq
  |cont=>exact False.elim hq
end
section
variable{X:Cx}{c:Bool}{k:Nat}{f:Addr}{fd:FuncData}{ps:List Str}{sp:Sp}{x:Str}{p pos:Pos}{e:Expr}{es:List Expr}{t:TA}
theorem zDq(F:FnOkN c X.prog X.w X.K X.mg X.base k f fd ps sp)(hdl:c=true->X.A.handled=none)(hr:RoomN k X.A)(hg:Gl X x)(hm:X.mg x=some (.ref f))(hk:keepIn X.K (.ref f)=true)(hb:WK X.K fd ps [])
  (ha:PA X (e::es) t) (hdb:(x==("__debug__":Str))=false:=by decide) (he:starEach (e::es) X.env=(false,eval e X.env)::starEach es X.env:=by rfl) (hpl:(backTo pos (starEach es X.env)).any (·.1)=false:=by rfl) :
  PE X (.Call (.Name x p) (e::es) [] pos) (λσ H Q=>t σ H λvs H1=>sp vs H1 Q (EX X σ)):=by
 intro pins s σ H Q I h;refine wpAny_Call_Name_kw (zBV I hg hm ?_ hdb);refine PySem.W.callWith_K (h₀:=X.base) I.ok.mod.kin hk (thn (ha pos pins s σ H _ I h) λus s1 ⟨vs,H1,I1,r,q⟩=>⟨I1.kIn,?_⟩) he hpl;exact run_fnN F hdl hr hb I1 r q
end
theorem zDr{c:Bool}{P:Program}{w:World}{K:PySem.W.Frag}{mg:Str->Option Value}{base:Heap}{N:List Str}{qual:Str}{scope:Scope}{f:Addr}{cd:Value}{A:Around}{outer:List Env}{s:Shared}{H H':Hp}{E:XK}{σ:L2.St}{x:Exn}
  (hE:∀C,mg x.cls=some (.ref C)->E (.ref C) none H'):XE (cxN c P w K mg base N qual scope f cd A outer s H E) σ H' x:=by
 intro pins s' e I ⟨a,C,he,hm,hn,h⟩;subst he;have sw:∀{H1:Hp} {s1:Shared},Inv (cxN c P w K mg base N qual scope f cd A outer s H E) pins σ H1 s1->Inv (cxX P w K mg base N qual scope f cd {A with handled:=none} outer s H E) pins σ H1 s1:=λJ=>vX J _ true _ (λ_=>rfl) J.ok.frames
 rcases h with⟨_,s1,I1,hs,hx⟩|⟨_,sc,Hc,Ic,un,fl⟩
 ·exact QY I1 hx hs hn (hE C hm)
 ·obtain⟨B,t,f1,f2⟩:=fl
  refine zA3 I I.base hn ⟨B,t,f1,λb o q z nf=>f2 b o q ?_ nf⟩ (hE C hm);rcases z with⟨o',z⟩|z
  ·exact .inl (Ic.base.there b o' z (by show b∉([]:List Addr);simp))
  ·exact .inr z
end DV
namespace DV
open PySem L2 PyProof.Rows PySem.Spec
open PySem.W (Frag Looks)
structure XCls(K:Frag)(c:Str)(C T:Addr):Prop where
 cd:∃cd,clsIn K C=some cd/\cd.name=c/\cd.mro=[.ref C,.ref T,.type "ValueError",.type "Exception",.type "BaseException",.type "object"]
 ty:typeIn K (.ref C)=some (.type "type")
 ga:findIn K (.ref C) "__getattribute__"=some (some (.builtin "BaseException.__getattribute__"))
 gn:findIn K (.ref C) "__getattr__"=some none
 gc:findIn K (.ref C) "__class__"=some (some (.builtin "object.__class__"))
 sp:specialIn K (.builtin "object.__class__") "__get__"=some (some (.builtin "getset_descriptor.__get__"))
 tk:takesIn K (.builtin "object.__class__")=some true
section
open Builtin Builtin.ObjectAttr Builtin.Getset_descriptor
variable{K:Frag}{c:Str}{C T x:Addr}{h:Heap}{ox:Obj}{M:Model}
theorem XCls.mro(F:XCls K c C T)(b:Value):mroIn K C b=some ([Value.ref C,.ref T,.type "ValueError",.type "Exception",.type "BaseException",.type "object"].contains b):=by
 obtain⟨cd,h1,_,h3⟩:=F.cd;unfold mroIn;rw[h1,Option.bind_some,h3];rfl
end
section
open Builtin Builtin.ObjectAttr Builtin.Getset_descriptor
variable{K:Frag}{c:Str}{C T x:Addr}{ox:Obj}{prog:Program}{w:World}{A:Around}{E:Value->Shared->Prop}{s:Shared}
end
end DV
namespace DV
open PySem L2 PyProof.Rows PySem.Spec
open PySem.W (Frag Looks)
structure TCls(K:Frag)(T:Addr):Prop where
 cd:∃cd,clsIn K T=some cd/\cd.mro=.ref T::VB
 ty:typeIn K (.ref T)=some (.type "type")
section
variable{K:Frag}{c y:Str}{C Y T x:Addr}{h:Heap}{ox:Obj}{M:Model}
theorem TCls.mro(F:TCls K T)(b:Value):mroIn K T b=some ((Value.ref T::VB).contains b):=by
 obtain⟨cd,h1,h3⟩:=F.cd;unfold mroIn;rw[h1,Option.bind_some,h3];rfl
end
end DV
namespace DV
open PySem L2
set_option genInjectivity true in
inductive D where
 |non
 |bl (b:Bool)
 |int (i:Int)
 |str (x:Str)
 |tup (ds:List D)
 |lst (ds:List D)
 |fn (x:Str)
 |dic
 |exn (c:Str)
 deriving Inhabited
mutual
def Rep(K:PySem.W.Frag)(mg:Str->Option Value)(H:Hp):D->V->Prop
 | .non,v=>v=.non
 | .bl b,v=>v=.bl b
 | .int i,v=>v=.int i
 | .str x,v=>v=.str x
 | .tup ds,v=>∃a xs,v=.ref a/\SqT K H a xs/\Reps K mg H ds xs
 | .lst ds,v=>∃a xs,v=.ref a/\SqL K H a xs/\Reps K mg H ds xs
 | .fn x,v=>∃f,v=.ref f/\mg x=some (.ref f)
 | .dic,v=>∃a,v=.ref a/\H a=some (.dK [])
 | .exn c,v=>∃a C,v=.ref a/\mg c=some (.ref C)/\H a=some (ExO C a)
def Reps(K:PySem.W.Frag)(mg:Str->Option Value)(H:Hp):List D->List V->Prop
 | [],vs=>vs=[]
 |d::ds,vs=>∃v r,vs=v::r/\Rep K mg H d v/\Reps K mg H ds r
end
section
variable{K:PySem.W.Frag}{mg:Str->Option Value}{H H':Hp}
theorem yR{a:Addr}{xs:List V}(e:Y4 H H')(h:SqT K H a xs):SqT K H' a xs:=by
 rcases h with(h|⟨o,h⟩)|h
 ·exact .inl (.inl (e _ _ h))
 ·exact .inl (.inr ⟨o,e _ _ h⟩)
 ·exact .inr h
mutual
theorem Rep.mono(e:Y4 H H'):∀{d:D} {v:V},Rep K mg H d v->Rep K mg H' d v
 | .non,_,h=>by simpa only[Rep]using h
 | .bl _,_,h=>by simpa only[Rep]using h
 | .int _,_,h=>by simpa only[Rep]using h
 | .str _,_,h=>by simpa only[Rep]using h
 | .tup ds,_,h=>by
  simp only[Rep]at h ⊢;obtain⟨a,xs,h1,h2,h3⟩:=h;exact⟨a,xs,h1,yR e h2,Reps.mono e h3⟩
 | .lst ds,_,h=>by
  simp only[Rep]at h ⊢;obtain⟨a,xs,h1,h2,h3⟩:=h;exact⟨a,xs,h1,e.seq h2,Reps.mono e h3⟩
 | .fn _,_,h=>by simpa only[Rep]using h
 | .dic,_,h=>by
  simp only[Rep]at h ⊢;obtain⟨a,h1,h2⟩:=h;exact⟨a,h1,e _ _ h2⟩
 | .exn _,_,h=>by
  simp only[Rep]at h ⊢;obtain⟨a,C,h1,h2,h3⟩:=h;exact⟨a,C,h1,h2,e _ _ h3⟩
theorem Reps.mono(e:Y4 H H'):∀{ds:List D} {vs:List V},Reps K mg H ds vs->Reps K mg H' ds vs
 | [],_,h=>by simpa only[Reps]using h
 |d::ds,_,h=>by
  simp only[Reps]at h ⊢;obtain⟨v,r,h1,h2,h3⟩:=h;exact⟨v,r,h1,Rep.mono e h2,Reps.mono e h3⟩
end
theorem Reps.length:∀{ds:List D} {vs:List V},Reps K mg H ds vs->vs.length=ds.length
 | [],_,h=>by simp only[Reps]at h;subst h;rfl
 |d::ds,_,h=>by
  simp only[Reps]at h;obtain⟨v,r,rfl,h2,h3⟩:=h;simp[Reps.length h3]
theorem Reps.nil:Reps K mg H [] []:=by simp only[Reps]
theorem Reps.cons{d:D}{v:V}{ds:List D}{vs:List V}(h:Rep K mg H d v)(t:Reps K mg H ds vs):Reps K mg H (d::ds) (v::vs):=by
 simp only[Reps];exact⟨v,vs,rfl,h,t⟩
theorem Reps.get:∀{ds:List D} {vs:List V} {i:Nat} {v:V},Reps K mg H ds vs->vs[i]?=some v->∃d,ds[i]?=some d/\Rep K mg H d v
 | [],_,_,_,h,e=>by simp only[Reps]at h;subst h;simp at e
 |d::ds,_,i,v,h,e=>by
  simp only[Reps]at h;obtain⟨v',r,rfl,h2,h3⟩:=h;cases i with
  |zero=>simp at e;subst e;exact⟨d,rfl,h2⟩
  |succ i=>simp at e;obtain⟨d',q1,q2⟩:=Reps.get h3 e;exact⟨d',by simpa using q1,q2⟩
theorem Reps.get':∀{ds:List D} {vs:List V} {i:Nat} {d:D},Reps K mg H ds vs->ds[i]?=some d->∃v,vs[i]?=some v/\Rep K mg H d v
 | [],_,_,_,h,e=>by simp at e
 |d::ds,_,i,d',h,e=>by
  simp only[Reps]at h;obtain⟨v',r,rfl,h2,h3⟩:=h;cases i with
  |zero=>simp at e;subst e;exact⟨v',rfl,h2⟩
  |succ i=>simp at e;obtain⟨v,q1,q2⟩:=Reps.get' h3 e;exact⟨v,by simpa using q1,q2⟩
theorem Reps.append:∀{ds es:List D} {vs ws:List V},Reps K mg H ds vs->Reps K mg H es ws->Reps K mg H (ds++es) (vs++ws)
 | [],_,_,_,h,g=>by simp only[Reps]at h;subst h;exact g
 |d::ds,_,_,_,h,g=>by
  simp only[Reps]at h;obtain⟨v',r,rfl,h2,h3⟩:=h;exact Reps.cons h2 (Reps.append h3 g)
theorem Reps.set:∀{ds:List D} {vs:List V} (i:Nat) {d:D} {v:V},Reps K mg H ds vs->Rep K mg H d v->Reps K mg H (ds.set i d) (vs.set i v)
 | [],_,_,_,_,h,g=>by simp only[Reps]at h;subst h;exact Reps.nil
 |d::ds,_,i,_,_,h,g=>by
  simp only[Reps]at h;obtain⟨v',r,rfl,h2,h3⟩:=h;cases i with
  |zero=>exact Reps.cons g h3
  |succ i=>exact Reps.cons h2 (Reps.set i h3 g)
theorem Reps.take:∀{ds:List D} {vs:List V} (n:Nat),Reps K mg H ds vs->Reps K mg H (ds.take n) (vs.take n)
 | [],_,_,h=>by simp only[Reps]at h;subst h;simp[Reps.nil]
 |d::ds,_,n,h=>by
  simp only[Reps]at h;obtain⟨v',r,rfl,h2,h3⟩:=h;cases n with
  |zero=>exact Reps.nil
  |succ n=>exact Reps.cons h2 (Reps.take n h3)
theorem Reps.drop:∀{ds:List D} {vs:List V} (n:Nat),Reps K mg H ds vs->Reps K mg H (ds.drop n) (vs.drop n)
 | [],_,_,h=>by simp only[Reps]at h;subst h;simp[Reps.nil]
 |d::ds,_,n,h=>by
  simp only[Reps]at h;obtain⟨v',r,rfl,h2,h3⟩:=h;cases n with
  |zero=>exact Reps.cons h2 h3
  |succ n=>exact Reps.drop n h3
theorem Reps.flatten{ds:List D}{vs:List V}(h:Reps K mg H ds vs):∀n:Nat,Reps K mg H (replicate n ds).flatten (replicate n vs).flatten
 |0=>Reps.nil
 |n+1=>by simp only[replicate_succ,flatten_cons];exact h.append (Reps.flatten h n)
end
open Classical in
def Hm(M:Addr->Prop)(H:Hp):Hp:=λb=>if M b then none else H b
section
variable{M M':Addr->Prop}{H H':Hp}{b:Addr}{o:HO}
theorem yP:Hm M H b=some o↔¬M b/\H b=some o:=by
 unfold Hm;by_cases h:M b
 ·simp[h]
 ·simp[h]
theorem zO:Y4 (Hm M H) H:=λb o h=>(yP.mp h).2
theorem jy(h:∀b,M' b->M b):Y4 (Hm M H) (Hm M' H):=λb o e=>yP.mpr ⟨λx=>(yP.mp e).1 (h b x),(yP.mp e).2⟩
end
inductive Slot where
 |emp
 |val (d:D)
 |own (ds:List D)
 |par (ds:List D)
 deriving Inhabited
abbrev zP:=List Slot
set_option genInjectivity true in
inductive R where
 |val (d:D)
 |own (ds:List D)
 deriving Inhabited
def R.slot:R->Slot
 | .val d=>.val d
 | .own ds=>.own ds
def R.d:R->D
 | .val d=>d
 | .own ds=>.lst ds
def Slot.list?:Slot->Option (List D)
 | .own ds=>some ds
 | .par ds=>some ds
 |_=>none
abbrev Fz:=List (Option V×Slot)
def QZ:Option V×Slot->Option Addr
 | (some (.ref a),.own _)=>some a
 | (some (.ref a),.par _)=>some a
 |_=>none
def yV(Z:Fz):List Addr:=Z.filterMap QZ
def Mo(M:Addr->Prop)(Z:Fz):Addr->Prop:=λb=>M b\/b∈yV Z
theorem zU(Z T:Fz):yV (Z++T)=yV Z++yV T:=List.filterMap_append
theorem zu(o:Option V)(d:D)(Z:Fz):yV ((o,.val d)::Z)=yV Z:=by
 unfold yV;rw[List.filterMap_cons_none];cases o with
 |none=>rfl
 |some v=>cases v<;>rfl
theorem Yd(a:Addr)(ds:List D)(Z:Fz):yV ((some (.ref a),.own ds)::Z)=a::yV Z:=rfl
theorem yY(o:Option V)(Z:Fz):yV ((o,.emp)::Z)=yV Z:=by
 unfold yV;rw[List.filterMap_cons_none];cases o with
 |none=>rfl
 |some v=>cases v<;>rfl
theorem jD(M:Addr->Prop)(T Z:Fz):Mo M (T++Z)=Mo (Mo M T) Z:=by
 funext b
 apply propext;simp only[Mo,zU,mem_append];constructor
 ·rintro (h|h|h)
  ·exact .inl (.inl h)
  ·exact .inl (.inr h)
  ·exact .inr h
 ·rintro ((h|h)|h)
  ·exact .inl h
  ·exact .inr (.inl h)
  ·exact .inr (.inr h)
theorem Qa{M:Addr->Prop}{T Z:Fz}(p:T.Perm Z):Mo M T=Mo M Z:=by
 funext b
 apply propext;simp only[Mo,yV];rw[(p.filterMap QZ).mem_iff]
theorem Jx(M:Addr->Prop)(o:Option V)(d:D)(Z:Fz):Mo M ((o,.val d)::Z)=Mo M Z:=by unfold Mo;rw[zu]
theorem zBt(M:Addr->Prop)(o:Option V)(Z:Fz):Mo M ((o,.emp)::Z)=Mo M Z:=by unfold Mo;rw[yY]
structure FR(K:PySem.W.Frag)(mg:Str->Option Value)(M:Addr->Prop)(H:Hp)(Z:Fz):Prop where
 val:∀o d,(o,Slot.val d)∈Z->∃v,o=some v/\Rep K mg (Hm (Mo M Z) H) d v
 own:∀o s ds,(o,s)∈Z->s.list?=some ds->∃a xs,o=some (.ref a)/\H a=some (.lst xs)/\¬M a/\Reps K mg (Hm (Mo M Z) H) ds xs
 nd:(yV Z).Nodup
 mal:∀b,M b->∃o,H b=some o
structure Step(M:Addr->Prop)(H:Hp)(Z:Fz)(H':Hp)(Z':Fz):Prop where
 same:Y4 (Hm (Mo M Z) H) (Hm (Mo M Z') H')
 keep:∀b o,M b->H b=some o->H' b=some o
section
variable{K:PySem.W.Frag}{mg:Str->Option Value}{M:Addr->Prop}{H H' H1 H2:Hp}{Z Z' T Z1 Z2:Fz}
theorem Step.refl:Step M H Z H Z:=⟨Y4.refl _,λ_ _ _ h=>h⟩
theorem Step.trans(a:Step M H Z H1 Z1)(b:Step M H1 Z1 H2 Z2):Step M H Z H2 Z2 :=
 ⟨a.same.trans b.same,λx o m h=>b.keep x o m (a.keep x o m h)⟩
theorem Ye(h:∀b,b∈yV Z->b∈yV Z'):∀b,Mo M Z b->Mo M Z' b:=λb q=>q.elim .inl λq=>.inr (h b q)
theorem Step.weak(a:Step M H Z H' Z')(h:∀b,b∈yV T->b∈yV Z'):Step M H Z H' T :=
 ⟨a.same.trans (jy (Ye h)),a.keep⟩
theorem Step.left(a:Step M H Z H' Z')(h:∀b,b∈yV Z->b∈yV T):Step M H T H' Z' :=
 ⟨(jy (Ye h)).trans a.same,a.keep⟩
theorem zC(h:T.Sublist Z):∀b,b∈yV T->b∈yV Z:=λb q=>(h.filterMap QZ).subset q
theorem zE(h:T.Perm Z):∀b,b∈yV T->b∈yV Z:=λb q=>(h.filterMap QZ).subset q
theorem FR.perm(h:FR K mg M H Z)(p:Z.Perm T):FR K mg M H T where
 val:=λo d q=>by rw[<- Qa p];exact h.val o d (p.mem_iff.mpr q)
 own:=λo s ds q e=>by rw[<- Qa p];exact h.own o s ds (p.mem_iff.mpr q) e
 nd:=(p.filterMap QZ).nodup_iff.mp h.nd
 mal:=h.mal
theorem FR.sub(h:FR K mg M H Z)(p:T.Sublist Z):FR K mg M H T where
 val:=λo d q=>by
  obtain⟨v,e,r⟩:=h.val o d (p.subset q);exact⟨v,e,r.mono (jy (Ye (zC p)))⟩
 own:=λo s ds q e=>by
  obtain⟨a,xs,e1,e2,e3,r⟩:=h.own o s ds (p.subset q) e;exact⟨a,xs,e1,e2,e3,r.mono (jy (Ye (zC p)))⟩
 nd:=h.nd.sublist (p.filterMap QZ)
 mal:=h.mal
theorem FR.tail{x:Option V×Slot}(h:FR K mg M H (x::Z)):FR K mg M H Z:=h.sub (sublist_cons_self _ _)
theorem wc{o:Option V}{s:Slot}{ds:List D}{a:Addr}(h:(o,s)∈Z)(e:s.list?=some ds)(ho:o=some (.ref a)):a∈yV Z:=by
 subst ho;refine mem_filterMap.mpr ⟨_,h,?_⟩;cases s<;>simp[Slot.list?]at e<;>rfl
theorem Qb{a:Addr}(h:a∈yV Z):∃s ds,(some (V.ref a),s)∈Z/\Slot.list? s=some ds:=by
 obtain⟨⟨o,s⟩,h1,h2⟩:=mem_filterMap.mp h;unfold QZ at h2;split at h2
 ·rename_i e;cases e;cases h2;exact⟨_,_,h1,rfl⟩
 ·rename_i e;cases e;cases h2;exact⟨_,_,h1,rfl⟩
 ·cases h2
theorem FR.ownAt(h:FR K mg M H Z){a:Addr}(e:a∈yV Z):∃xs,H a=some (.lst xs)/\¬M a:=by
 obtain⟨s,ds,h1,h2⟩:=Qb e;obtain⟨a',xs,e1,e2,e3,_⟩:=h.own _ s ds h1 h2;cases e1;exact⟨xs,e2,e3⟩
theorem FR.moAl(h:FR K mg M H Z)(b:Addr)(e:Mo M Z b):∃o,H b=some o:=by
 rcases e with e|e
 ·exact h.mal b e
 ·obtain⟨xs,q,_⟩:=h.ownAt e
  exact⟨_,q⟩
theorem FR.inner(h:FR K mg M H (T++Z)):FR K mg (Mo M T) H Z where
 val:=λo d q=>by rw[<- jD];exact h.val o d (mem_append_right _ q)
 own:=λo s ds q e=>by
  obtain⟨a,xs,e1,e2,e3,r⟩:=h.own o s ds (mem_append_right _ q) e;refine⟨a,xs,e1,e2,λm=>?_,by rw[<- jD];exact r⟩;rcases m with m|m
  ·exact e3 m
  ·have nd:=h.nd
   rw[zU]at nd;exact(nodup_append.mp nd).2.2 a m a (wc q e e1) rfl
 nd:=by
  have nd:=h.nd;rw[zU]at nd;exact(nodup_append.mp nd).2.1
 mal:=λb q=>by
  rcases q with q|q
  ·exact h.mal b q
  ·obtain⟨xs,q,_⟩:=h.ownAt (a:=b) (by rw[zU];exact mem_append_left _ q)
   exact⟨_,q⟩
theorem FR.outer(h:FR K mg M H (T++Z))(g:FR K mg (Mo M T) H' Z')(st:Step (Mo M T) H Z H' Z'):FR K mg M H' (T++Z') where
 val:=λo d q=>by
  rw[jD];rcases mem_append.mp q with q|q
  ·obtain⟨v,e,r⟩:=h.val o d (mem_append_left _ q)
   rw[jD]at r;exact⟨v,e,r.mono st.same⟩
  ·exact g.val o d q
 own:=λo s ds q e=>by
  rw[jD];rcases mem_append.mp q with q|q
  ·obtain⟨a,xs,e1,e2,e3,r⟩:=h.own o s ds (mem_append_left _ q) e
   rw[jD]at r;exact⟨a,xs,e1,st.keep a _ (.inr (wc q e e1)) e2,e3,r.mono st.same⟩
  ·obtain⟨a,xs,e1,e2,e3,r⟩:=g.own o s ds q e
   exact⟨a,xs,e1,e2,λm=>e3 (.inl m),r⟩
 nd:=by
  rw[zU];have nd:=h.nd;rw[zU]at nd;refine nodup_append.mpr ⟨(nodup_append.mp nd).1,g.nd,λa ha b hb e=>?_⟩;subst e;obtain⟨xs,_,q⟩:=g.ownAt hb;exact q (.inr ha)
 mal:=λb q=>g.mal b (.inl q)
theorem Step.outer(st:Step (Mo M T) H Z H' Z'):Step M H (T++Z) H' (T++Z') :=
 ⟨by rw[jD,jD];exact st.same,λb o m h=>st.keep b o (.inl m) h⟩
theorem jE{p:Addr}{o:HO}(hp:H p=none):Y4 H (upd H p o):=λb u e=>by
 rw[z9 (λq=>by subst q;rw[hp]at e;cases e)];exact e
theorem FR.grow(h:FR K mg M H Z){p:Addr}{o:HO}(hp:H p=none):FR K mg M (upd H p o) Z where
 val:=λo' d q=>by
  obtain⟨v,e,r⟩:=h.val o' d q;exact⟨v,e,r.mono λb u x=>yP.mpr ⟨(yP.mp x).1,jE hp b u (yP.mp x).2⟩⟩
 own:=λo' s ds q e=>by
  obtain⟨a,xs,e1,e2,e3,r⟩:=h.own o' s ds q e;exact⟨a,xs,e1,jE hp _ _ e2,e3,r.mono λb u x=>yP.mpr ⟨(yP.mp x).1,jE hp b u (yP.mp x).2⟩⟩
 nd:=h.nd
 mal:=λb q=>by obtain⟨u,e⟩:=h.mal b q;exact⟨u,jE hp _ _ e⟩
theorem Step.grow{p:Addr}{o:HO}(hp:H p=none):Step M H Z (upd H p o) Z :=
 ⟨λb u x=>yP.mpr ⟨(yP.mp x).1,jE hp b u (yP.mp x).2⟩,λb u _ e=>jE hp b u e⟩
theorem FR.add(h:FR K mg M H Z){v:V}{d:D}(r:Rep K mg (Hm (Mo M Z) H) d v):FR K mg M H ((some v,.val d)::Z) where
 val:=λo d' q=>by
  rw[Jx];rcases mem_cons.mp q with q|q
  ·cases q;exact⟨v,rfl,r⟩
  ·exact h.val o d' q
 own:=λo s ds q e=>by
  rw[Jx];rcases mem_cons.mp q with q|q
  ·cases q;cases e
  ·exact h.own o s ds q e
 nd:=by rw[zu];exact h.nd
 mal:=h.mal
theorem Step.add{v:Option V}{d:D}(st:Step M H Z H' Z'):Step M H Z H' ((v,.val d)::Z'):=by
 refine⟨?_,st.keep⟩;rw[Jx];exact st.same
theorem uK(h:FR K mg M H Z){p:Addr}(hp:H p=none):¬Mo M Z p:=λq=>by
 obtain⟨o,e⟩:=h.moAl p q;rw[hp]at e;cases e
theorem we(h:FR K mg M H Z){p:Addr}{ds:List D}{xs:List V}(hp:H p=none):Y4 (Hm (Mo M Z) H) (Hm (Mo M ((some (.ref p),.own ds)::Z)) (upd H p (.lst xs))):=λb u x=>by
 obtain⟨h1,h2⟩:=yP.mp x;refine yP.mpr ⟨λq=>?_,jE hp _ _ h2⟩;rcases q with q|q
 ·exact h1 (.inl q)
 ·rw[Yd]at q
  rcases mem_cons.mp q with q|q
  ·subst q;rw[hp]at h2;cases h2
  ·exact h1 (.inr q)
theorem FR.newOwn(h:FR K mg M H Z){p:Addr}{ds:List D}{xs:List V}(hp:H p=none)(r:Reps K mg (Hm (Mo M Z) H) ds xs):FR K mg M (upd H p (.lst xs)) ((some (.ref p),.own ds)::Z) where
 val:=λo d q=>by
  rcases mem_cons.mp q with q|q
  ·cases q
  ·obtain⟨v,e,r⟩:=h.val o d q
   exact⟨v,e,r.mono (we h hp)⟩
 own:=λo s ds' q e=>by
  rcases mem_cons.mp q with q|q
  ·cases q;cases e
   exact⟨p,xs,rfl,j9,λm=>uK h hp (.inl m),r.mono (we h hp)⟩
  ·obtain⟨a,ys,e1,e2,e3,r⟩:=h.own o s ds' q e
   exact⟨a,ys,e1,jE hp _ _ e2,e3,r.mono (we h hp)⟩
 nd:=by
  rw[Yd];exact nodup_cons.mpr ⟨λq=>uK h hp (.inr q),h.nd⟩
 mal:=λb q=>by obtain⟨u,e⟩:=h.mal b q;exact⟨u,jE hp _ _ e⟩
theorem Step.newOwn(h:FR K mg M H Z){p:Addr}{ds:List D}{xs:List V}(hp:H p=none):Step M H Z (upd H p (.lst xs)) ((some (.ref p),.own ds)::Z) :=
 ⟨we h hp,λb u _ e=>jE hp b u e⟩
theorem FR.newTup(h:FR K mg M H Z){p:Addr}{ds:List D}{xs:List V}(hp:H p=none)(r:Reps K mg (Hm (Mo M Z) H) ds xs):FR K mg M (upd H p (.tup xs)) ((some (.ref p),.val (.tup ds))::Z):=by
 refine(h.grow hp).add ?_;simp only[Rep];refine⟨p,xs,rfl,SqT.of (yP.mpr ⟨uK h hp,j9⟩),r.mono λb u x=>yP.mpr ⟨(yP.mp x).1,jE hp b u (yP.mp x).2⟩⟩
theorem Step.newVal{p:Addr}{o:HO}{v:Option V}{d:D}(hp:H p=none):Step M H Z (upd H p o) ((v,.val d)::Z):=(Step.grow hp).add
theorem FR.frz{o:Option V}{r:R}(h:FR K mg M H ((o,r.slot)::Z)):FR K mg M H ((o,.val r.d)::Z):=by
 cases r with
 |val d=>exact h
 |own ds =>
  obtain⟨a,xs,e1,e2,e3,rr⟩:=h.own o (.own ds) ds mem_cons_self rfl;subst e1;have hn:¬Mo M Z a:=λq=>by
   rcases q with q|q
   ·exact e3 q
   ·exact(nodup_cons.mp h.nd).1 q
  refine h.tail.add ?_;simp only[R.d,Rep];exact⟨a,xs,rfl,SqL.of (yP.mpr ⟨hn,e2⟩),rr.mono (jy (Ye (zC (sublist_cons_self _ _))))⟩
theorem Step.frz{o:Option V}{r:R}(h:Step M H Z H' ((o,r.slot)::Z')):Step M H Z H' ((o,.val r.d)::Z'):=by
 cases r with
 |val d=>exact h
 |own ds =>
  refine h.weak λb q=>?_
  rw[zu]at q;exact(zC (sublist_cons_self _ _)) b q
theorem uL:∀(σ:St) (E:zP) (i:Nat) (o:Option V) (s:Slot),(σ.set i o).zip (E.set i s)=(σ.zip E).set i (o,s)
 | [],_,_,_,_=>by simp
 |_::_,[],_,_,_=>by simp
 |x::σ,y::E,0,o,s=>by simp
 |x::σ,y::E,i+1,o,s=>by simp[uL σ E i o s]
theorem yM{α:Type}(x:α):∀(l:List α) (i:Nat),i<l.length->(l.set i x).Perm (x::l.eraseIdx i)
 | [],_,h=>by simp at h
 |y::l,0,_=>List.Perm.refl _
 |y::l,i+1,h=>by
  have ih:=yM x l i (by simpa using h);simp only[List.set_cons_succ,List.eraseIdx_cons_succ];exact(ih.cons y).trans (List.Perm.swap x y _)
theorem FR.put(h:FR K mg M H (((o:Option V),s)::Z)){i:Nat}(hi:i<Z.length):FR K mg M H (Z.set i (o,s)) :=
 (h.sub ((List.eraseIdx_sublist Z i).cons_cons (o,s))).perm (yM _ _ _ hi).symm
theorem Step.put{o:Option V}{s:Slot}(h:Step M H Z H' ((o,s)::Z')){i:Nat}(hi:i<Z'.length):Step M H Z H' (Z'.set i (o,s)):=by
 refine h.weak λb q=>?_
 exact zC ((List.eraseIdx_sublist Z' i).cons_cons (o,s)) b (zE (yM _ _ _ hi) b q)
end
end DV
namespace DV
open PySem L2
inductive Out(α:Type) where
 |stuck
 |ok (a:α)
 |exc (x:Exn) (E:zP)
 deriving Inhabited
abbrev ME:=zP->Out (R×zP)
abbrev MA:=zP->Out (List R×zP)
abbrev MT:=zP->Out (Bool×zP)
def PKp(σ:St)(E:zP)(σ':St)(E':zP):Prop:=∀(i:Nat) ds,E[i]?=some (.par ds)->(∃ds',E'[i]?=some (.par ds'))/\σ'[i]?=σ[i]?
theorem PKp.refl{σ:St}{E:zP}:PKp σ E σ E:=λi ds h=>⟨⟨ds,h⟩,rfl⟩
theorem PKp.trans{σ σ1 σ2:St}{E E1 E2:zP}(a:PKp σ E σ1 E1)(b:PKp σ1 E1 σ2 E2):PKp σ E σ2 E2:=λi ds h=>by
 obtain⟨⟨ds1,h1⟩,e1⟩:=a i ds h;obtain⟨h2,e2⟩:=b i ds1 h1;exact⟨h2,e2.trans e1⟩
structure Got(K:PySem.W.Frag)(mg:Str->Option Value)(M:Addr->Prop)(σ:St)(E:zP)(H:Hp)(T0:Fz)(σ':St)(E':zP)(H':Hp)(T:Fz):Prop where
 len:E'.length=σ'.length
 fr:FR K mg M H' (T++(T0++σ'.zip E'))
 st:Step M H (T0++σ.zip E) H' (T++(T0++σ'.zip E'))
 pk:PKp σ E σ' E'
def zBu(vs:List V)(rs:List R):Fz:=(vs.zip rs).map λp=>(some p.1,p.2.slot)
def KM(X:Cx)(M:Addr->Prop)(σ:St)(E:zP)(H:Hp)(T0:Fz)(Q:VK):Out (R×zP)->Prop
 | .stuck=>False
 | .ok (r,E')=>∀v H',Got X.K X.mg M σ E H T0 σ E' H' [(some v,r.slot)]->Q v H'
 | .exc x E'=>∀H',Got X.K X.mg M σ E H T0 σ E' H' []->XE X σ H' x
def KT(X:Cx)(M:Addr->Prop)(σ:St)(E:zP)(H:Hp)(T0:Fz)(Q:Bool->Hp->Prop):Out (Bool×zP)->Prop
 | .stuck=>False
 | .ok (b,E')=>∀H',Got X.K X.mg M σ E H T0 σ E' H' []->Q b H'
 | .exc x E'=>∀H',Got X.K X.mg M σ E H T0 σ E' H' []->XE X σ H' x
def KA(X:Cx)(M:Addr->Prop)(σ:St)(E:zP)(H:Hp)(T0:Fz)(Q:List V->Hp->Prop):Out (List R×zP)->Prop
 | .stuck=>False
 | .ok (rs,E')=>∀vs H',vs.length=rs.length->Got X.K X.mg M σ E H T0 σ E' H' (zBu vs rs)->Q vs H'
 | .exc x E'=>∀H',Got X.K X.mg M σ E H T0 σ E' H' []->XE X σ H' x
def tM(X:Cx)(m:ME):TE:=λσ H Q=>∃M E,E.length=σ.length/\FR X.K X.mg M H (σ.zip E)/\KM X M σ E H [] Q (m E)
def tMT(X:Cx)(m:MT):TT:=λσ H Q=>∃M E,E.length=σ.length/\FR X.K X.mg M H (σ.zip E)/\KT X M σ E H [] Q (m E)
def tMA(X:Cx)(m:MA):TA:=λσ H Q=>∃M E,E.length=σ.length/\FR X.K X.mg M H (σ.zip E)/\KA X M σ E H [] Q (m E)
abbrev EOk(X:Cx)(e:Expr)(m:ME):Prop:=PE X e (tM X m)
abbrev TOk(X:Cx)(e:Expr)(m:MT):Prop:=PT X e (tMT X m)
abbrev AOk(X:Cx)(es:List Expr)(m:MA):Prop:=PA X es (tMA X m)
theorem yN{X:Cx}{e:Expr}{t t':TE}(h:PE X e t)(i:∀σ H Q,t' σ H Q->t σ H Q):PE X e t':=λpins s σ H Q I q=>h pins s σ H Q I (i σ H Q q)
theorem zAG{X:Cx}{e:Expr}{t t':TT}(h:PT X e t)(i:∀σ H Q,t' σ H Q->t σ H Q):PT X e t':=λpins s σ H Q I q=>h pins s σ H Q I (i σ H Q q)
theorem zFE{X:Cx}{e:Expr}{t t':TT}(h:PW X e t)(i:∀σ H Q,t' σ H Q->t σ H Q):PW X e t':=λwh pins s σ H Q I q=>h wh pins s σ H Q I (i σ H Q q)
theorem GX{X:Cx}{e:List Expr}{t t':TA}(h:PA X e t)(i:∀σ H Q,t' σ H Q->t σ H Q):PA X e t':=λp pins s σ H Q I q=>h p pins s σ H Q I (i σ H Q q)
theorem yz{X:Cx}{e:Stmt}{t t':TS}(h:PS X e t)(i:∀D σ H,t' D σ H->t D σ H):PS X e t':=λpins s σ H D I q=>h pins s σ H D I (i D σ H q)
theorem zBv{X:Cx}{e:List Stmt}{t t':TS}(h:PSs X e t)(i:∀D σ H,t' D σ H->t D σ H):PSs X e t':=λpins s σ H D I q=>h pins s σ H D I (i D σ H q)
section
variable{X:Cx}{K:PySem.W.Frag}{mg:Str->Option Value}{M:Addr->Prop}{σ σ' σ1 σ2:St}{E E' E1 E2:zP}{H H' H1 H2:Hp}{T0 T T1 T2:Fz}{Q:VK}
theorem swapP{α:Type}(A B C:List α):(A++(B++([]++C))).Perm (B++(A++C)):=by
 rw[nil_append,<- append_assoc,<- append_assoc];exact(perm_append_comm).append_right _
theorem Zy{α:Type}{l:List α}{i:Nat}{x:α}(h:l[i]?=some x):l.set i x=l:=by
 obtain⟨hi,rfl⟩:=List.getElem?_eq_some_iff.mp h;exact List.set_getElem_self hi
theorem Got.outer(h:FR K mg M H (T0++σ.zip E))(g:Got K mg (Mo M T0) σ E H [] σ' E' H' T):Got K mg M σ E H T0 σ' E' H' T where
 len:=g.len
 fr:=by
  have q:=FR.outer h g.fr g.st;exact q.perm (swapP _ _ _)
 st:=by
  have q:=Step.outer g.st;refine q.weak λb hb=>?_
  exact zE (swapP _ _ _).symm b hb
 pk:=g.pk
theorem Got.trans(a:Got K mg M σ E H T0 σ1 E1 H1 T1)(b:Got K mg M σ1 E1 H1 (T1++T0) σ2 E2 H2 T2):Got K mg M σ E H T0 σ2 E2 H2 (T2++T1) where
 len:=b.len
 fr:=by
  have q:=b.fr;rw[append_assoc]at q;rw[append_assoc];exact q
 st:=by
  have q:=b.st;rw[append_assoc,append_assoc]at q;rw[append_assoc];exact a.st.trans q
 pk:=a.pk.trans b.pk
theorem Got.drop(a:Got K mg M σ E H T0 σ1 E1 H1 (T2++T1)):Got K mg M σ E H T0 σ1 E1 H1 T1 where
 len:=a.len
 fr:=a.fr.sub (by rw[append_assoc];exact sublist_append_right _ _)
 st:=a.st.weak (zC (by rw[append_assoc];exact sublist_append_right _ _))
 pk:=a.pk
theorem Got.dropAll(a:Got K mg M σ E H T0 σ1 E1 H1 T1):Got K mg M σ E H T0 σ1 E1 H1 [] where
 len:=a.len
 fr:=a.fr.sub (sublist_append_right _ _)
 st:=a.st.weak (zC (sublist_append_right _ _))
 pk:=a.pk
theorem Got.trans'(a:Got K mg M σ E H [] σ1 E1 H1 T1)(b:Got K mg M σ1 E1 H1 T1 σ2 E2 H2 T2):Got K mg M σ E H [] σ2 E2 H2 (T2++T1):=a.trans (by rw[append_nil];exact b)
theorem Got.refl(hl:E.length=σ.length)(h:FR K mg M H (T0++σ.zip E)):Got K mg M σ E H T0 σ E H []:=⟨hl,h,Step.refl,PKp.refl⟩
theorem Got.more(a:Got K mg M σ E H [] σ1 E1 H1 T1)(f:FR K mg M H2 (T++σ1.zip E1))(s:Step M H1 (σ1.zip E1) H2 (T++σ1.zip E1)):Got K mg M σ E H [] σ1 E1 H2 T where
 len:=a.len
 fr:=f
 st:=(a.st.weak (zC (sublist_append_right _ _))).trans s
 pk:=a.pk
theorem Got.frame(a:Got K mg M σ E H [] σ1 E1 H1 T1):FR K mg M H1 (σ1.zip E1):=a.fr.sub (sublist_append_right _ _)
theorem vY(v:V)(r:R)(vs:List V)(rs:List R):zBu (v::vs) (r::rs)=(some v,r.slot)::zBu vs rs:=rfl
theorem zBw:∀{vs:List V} {rs:List R} {Z:Fz},vs.length=rs.length->FR K mg M H (zBu vs rs++Z)->Reps K mg (Hm (Mo M Z) H) (rs.map R.d) vs
 | [],[],Z,_,h=>Reps.nil
 |v::vs,r::rs,Z,hl,h=>by
  rw[vY,cons_append]at h;refine Reps.cons ?_ (zBw (by simpa using hl) h.tail);obtain⟨v',e,q⟩:=h.frz.val (some v) r.d mem_cons_self;cases e;refine q.mono (jy (Ye λb hb=>?_));rw[zu,zU];exact mem_append_right _ hb
theorem Got.reps{vs:List V}{rs:List R}(hl:vs.length=rs.length)(a:Got K mg M σ E H [] σ1 E1 H1 (zBu vs rs)):Reps K mg (Hm (Mo M (σ1.zip E1)) H1) (rs.map R.d) vs:=zBw hl a.fr
theorem Got.rep{v:V}{r:R}(a:Got K mg M σ E H [] σ1 E1 H1 [(some v,r.slot)]):Rep K mg (Hm (Mo M (σ1.zip E1)) H1) r.d v:=by
 have q:=Got.reps (vs:=[v]) (rs:=[r]) rfl a;simp only[List.map,Reps]at q;obtain⟨v',r',e,h,_⟩:=q;cases e;exact h
theorem yK{m:ME}(hl:E.length=σ.length)(h:FR X.K X.mg M H (T0++σ.zip E))
  (k:KM X M σ E H T0 Q (m E)):tM X m σ H Q:=by
 refine⟨Mo M T0,E,hl,h.inner,?_⟩;cases e:m E with
 |stuck=>rw[e]at k;exact k
 |ok a=>rw[e]at k;exact λv H' g=>k v H' (g.outer h)
 |exc x E'=>rw[e]at k;exact λH' g=>k H' (g.outer h)
theorem JI{m:MT}{Q:Bool->Hp->Prop}(hl:E.length=σ.length)(h:FR X.K X.mg M H (T0++σ.zip E))
  (k:KT X M σ E H T0 Q (m E)):tMT X m σ H Q:=by
 refine⟨Mo M T0,E,hl,h.inner,?_⟩;cases e:m E with
 |stuck=>rw[e]at k;exact k
 |ok a=>rw[e]at k;exact λH' g=>k H' (g.outer h)
 |exc x E'=>rw[e]at k;exact λH' g=>k H' (g.outer h)
theorem wN{m:MA}{Q:List V->Hp->Prop}(hl:E.length=σ.length)(h:FR X.K X.mg M H (T0++σ.zip E))
  (k:KA X M σ E H T0 Q (m E)):tMA X m σ H Q:=by
 refine⟨Mo M T0,E,hl,h.inner,?_⟩;cases e:m E with
 |stuck=>rw[e]at k;exact k
 |ok a=>rw[e]at k;exact λvs H' hv g=>k vs H' hv (g.outer h)
 |exc x E'=>rw[e]at k;exact λH' g=>k H' (g.outer h)
def eC(d:D):ME:=λE=>.ok (.val d,E)
def flat:D->Bool
 | .non | .bl _ | .int _ | .str _=>true
 |_=>false
def flV:D->V
 | .bl b=>.bl b
 | .int i=>.int i
 | .str x=>.str x
 |_=>.non
theorem zAH{d:D}(h:flat d=true):Rep K mg H d (flV d):=by
 cases d<;>simp[flat]at h<;>simp[Rep,flV]
theorem Got.flat(a:Got K mg M σ E H [] σ1 E1 H1 T1){d:D}(h:flat d=true):Got K mg M σ E H [] σ1 E1 H1 [(some (flV d),.val d)] :=
 a.more (a.frame.add (zAH h)) Step.refl.add
theorem ok_c{e:Expr}{d:D}(h:PE X e (tC (flV d)))(hf:flat d=true:=by rfl):EOk X e (eC d):=yN h λσ H Q ⟨M,E,hl,f,k⟩ =>
 k (flV d) H ((Got.refl (T0:=[]) hl f).flat hf)
theorem ok_int{i j pos}:EOk X (.Constant (.int i) j pos) (eC (.int i)):=ok_c pe_int
theorem ok_bl{b j pos}:EOk X (.Constant (.bool b) j pos) (eC (.bl b)):=ok_c pe_bl
theorem ok_non{j pos}:EOk X (.Constant .none j pos) (eC .non):=ok_c pe_non
theorem ok_str{x j pos}:EOk X (.Constant (.str x) j pos) (eC (.str x)):=ok_c pe_str
def Zr(i:Nat):ME:=λE=>match E[i]? with
 |some (.val d)=>.ok (.val d,E)
 |some (.own ds)=>.ok (.val (.lst ds),E.set i (.val (.lst ds)))
 |_=>.stuck
theorem Y5{i:Nat}{s:Slot}(hl:E.length=σ.length)(h:E[i]?=some s):∃o,σ[i]?=some o/\(σ.zip E)[i]?=some (o,s):=by
 have hi:i<E.length:=(List.getElem?_eq_some_iff.mp h).1;have:i<σ.length:=hl▸hi;refine⟨σ[i],by simp[this],?_⟩;rw[List.getElem?_zip_eq_some];exact⟨by simp[this],h⟩
theorem wf{i:Nat}{s:Slot}(hl:E.length=σ.length)(h:E[i]?=some s):∃o,σ[i]?=some o/\(o,s)∈σ.zip E:=by
 obtain⟨o,h1,h2⟩:=Y5 hl h;exact⟨o,h1,mem_of_getElem? h2⟩
theorem yd{i:Nat}{o:Option V}(s:Slot)(h:σ[i]?=some o):σ.zip (E.set i s)=(σ.zip E).set i (o,s):=by
 rw[<- uL];congr 1;have hi:i<σ.length:=(List.getElem?_eq_some_iff.mp h).1;apply List.ext_getElem?;intro j;by_cases e:i=j
 ·subst e;rw[getElem?_set_self hi,h]
 ·rw[getElem?_set_ne e]
theorem zFF{i:Nat}{s:Slot}{ds0:List D}(h:E[i]?=some s)(hs:∀ds,s≠.par ds)(o:Slot):PKp σ E σ (E.set i o):=λj ds e=>by
 have ne:i≠j:=λq=>by subst q;rw[h]at e;exact hs ds (Option.some.inj e)
 exact⟨⟨ds,by rw[getElem?_set_ne ne];exact e⟩,rfl⟩
theorem ok_var(i:Nat){x:Str}{pos:Pos}(h:PE X (.Name x pos) (zBU i)):EOk X (.Name x pos) (Zr i):=yN h λσ H Q ⟨M,E,hl,f,k⟩=>by
 unfold Zr at k;cases e:E[i]? with
 |none=>rw[e]at k;exact k.elim
 |some sl =>
 rw[e]at k;cases sl with
 |emp=>exact k.elim
 |par ds=>exact k.elim
 |val d =>
  obtain⟨o,h1,h2⟩:=wf hl e;obtain⟨v,rfl,r⟩:=f.val o d h2;exact⟨v,h1,k v H ⟨hl,f.add r,Step.refl.add,PKp.refl⟩⟩
 |own ds =>
  obtain⟨o,h1,h2⟩:=Y5 hl e;obtain⟨a,xs,rfl,q1,q2,q3⟩:=f.own o (.own ds) ds (mem_of_getElem? h2) rfl;refine⟨.ref a,h1,k _ H ?_⟩;have hlt:i<(σ.zip E).length:=(List.getElem?_eq_some_iff.mp h2).1;have p:(σ.zip E).Perm ((some (.ref a),R.slot (.own ds))::(σ.zip E).eraseIdx i):=by
   have:=yM (some (V.ref a),Slot.own ds) (σ.zip E) i hlt;rw[Zy h2]at this;exact this
  have f1:=(f.perm p).frz;have f2:FR X.K X.mg M H ((σ.zip E).set i (some (.ref a),.val (.lst ds))):=f1.perm (yM _ _ _ hlt).symm;rw[<- yd (.val (.lst ds)) h1]at f2;have r:=f1.val _ _ mem_cons_self;obtain⟨v,ev,rr⟩:=r;cases ev;have em:Mo M ((some (V.ref a),Slot.val (R.own ds).d)::(σ.zip E).eraseIdx i)=Mo M (σ.zip (E.set i (.val (.lst ds)))):=by
   rw[yd (.val (.lst ds)) h1];exact(Qa (yM _ _ _ hlt)).symm
  rw[em]at rr;refine⟨by simp[hl],f2.add rr,?_,?_⟩
  ·refine Step.add ?_
   refine Step.weak Step.refl λb hb=>?_
   refine zE p.symm b ?_;rw[nil_append,yd (.val (.lst ds)) h1]at hb;have hb':=zE (yM _ _ _ hlt) b hb;rw[zu]at hb';exact zC (sublist_cons_self _ _) b hb'
  ·exact zFF (ds0:=[]) e (λds' q=>by cases q) _
end
def zL:Expr->Bool
 | .Starred _ _=>true
 |_=>false
def jc:List Expr->Bool
 | []=>true
 |e::es=>!zL e&&jc es
theorem yA{e:Expr}{es:List Expr}{env:Env}(h:zL e=false):starEach (e::es) env=(false,eval e env)::starEach es env:=by
 cases e<;>first|rfl|(cases h)
theorem star2{a b:Expr}{env:Env}(ha:zL a=false)(hb:zL b=false):starEach [a,b] env=[(false,eval a env),(false,eval b env)]:=by
 rw[yA ha,yA hb];rfl
theorem Qc{a:Expr}{env:Env}(ha:zL a=false):starEach [a] env=[(false,eval a env)]:=by
 rw[yA ha];rfl
def yb:Expr->Bool
 | .Set _ _ _=>false
 |_=>true
theorem ye{e:Expr}{env:Env}(h:yb e=true):∀x,foldedSetIterable e env x=pure x:=by
 intro x;cases e<;>first|rfl|(cases h)
def wg:Expr->Bool
 | .ListComp _ _ _ _=>false
 | .SetComp _ _ _ _=>false
 | .DictComp _ _ _ _ _=>false
 |_=>true
theorem uM{e:Expr}{t:Option Expr}{l:Nat}{env:Env}(h:wg e=true):swapsWith e t l env=pure false:=by
 cases e<;>first|rfl|(cases h)
def zFG:Expr->Bool
 | .UnaryOp .Not _ _=>false
 | .BoolOp _ _ _=>false
 | .IfExp _ _ _ _=>false
 | .Compare _ _ _ _=>false
 |_=>true
theorem test_of{e:Expr}{env:Env}(h:zFG e=true):∀whole,isTrue e env whole=(do let v <- whole;standAt e.pos;holding [v] (truthy v)):=by
 intro x;cases e<;>first|rfl|(cases h)|skip;rename_i op _ _;cases op<;>first|rfl|(cases h)
def GY:Expr->Bool
 | .Slice _ _ _ _=>false
 |_=>true
theorem GZ{env:Env}:∀{es:List Expr},jc es=true->(starEach es env).any (·.1)=false
 | [],_=>rfl
 |e::es,h=>by
  simp only[jc,Bool.and_eq_true,Bool.not_eq_true']at h;rw[yA h.1];simp[GZ h.2]
theorem zDs(pos:Pos)(l:List (Bool×Sem Value)):(backTo pos l).any (·.1)=l.any (·.1):=by
 unfold backTo;rw[List.any_map];rfl
theorem Yg{env:Env}{es:List Expr}{pos:Pos}(h:jc es=true):(backTo pos (starEach es env)).any (·.1)=false:=by
 rw[zDs,GZ h]
end DV
namespace L2
open PySem PySem.Spec PyProof.Rows
section
variable{X:Cx}
def zFH(K:PySem.W.Frag):R2:=λx y H Q=>∃a b xs ys,x=.ref a/\y=.ref b/\SqT K H a xs/\SqT K H b ys/\xs.length+ys.length<=sizeLine /\
 (xs=[]->Q (.ref b) H)/\(xs≠[]->ys=[]->Q (.ref a) H)/\(xs≠[]->ys≠[]->∀p,H p=none->Q (.ref p) (upd H p (.tup (xs++ys))))
theorem zDt:OpR X (binaryOp .Add) (zFH X.K):=by
 intro pins s σ H x y v u Q I rx ry h;obtain⟨a,b,xs,ys,rfl,rfl,ha,hb,hz,q0,q1,q2⟩:=h;cases rx;cases ry;obtain⟨its,r1,p1,_⟩:=I.tuple ha;obtain⟨its2,r2,p2,_⟩:=I.tuple hb;by_cases hx:xs=[]
 ·have hi:its=[]:=r1.nil_iff.mpr hx
  obtain⟨⟨cls,dd,data,sl⟩,ho,hc,n,hd⟩:=id p1;obtain⟨⟨cls2,dd2,data2,sl2⟩,ho2,hc2,n2,hd2⟩:=id p2;simp only at hc hd hc2 hd2;subst hc hd hc2 hd2;exact concat_meets ⟨_,ho,rfl⟩ ⟨_,ho2,rfl⟩ noFill_tuple_add seq_tuple_add PySem.F.slot_tuple_add PySem.F.entry_tuple_add (PySem.F.args_tuple_add_2 _ _)
   (tuple_addW0 a b its.toArray its2.toArray n n2 dd dd2 sl sl2 (by simp[hi])) ⟨ho,ho2,⟨.ref b,H,I,rfl,q0 hx⟩⟩
 ·exact op_catT pins s σ H (.ref a) (.ref b) (.ref a) (.ref b) Q I rfl rfl ⟨a,b,xs,ys,rfl,rfl,ha,hb,hx,hz,q1 hx,q2 hx⟩
def rCatL(K:PySem.W.Frag):R2:=λx y H Q=>∃l b xs zs,x=.ref l/\y=.ref b/\SqL K H l xs/\SqL K H b zs/\xs.length+zs.length<=sizeLine/\∀p,H p=none->Q (.ref p) (upd H p (.lst (xs++zs)))
theorem op_catL:OpR X (binaryOp .Add) (rCatL X.K):=by
 intro pins s σ H x y v u Q I rx ry h;obtain⟨l,b,xs,zs,rfl,rfl,hH,hB,hz,q⟩:=h;cases rx;cases ry;obtain⟨its,r,pl,_⟩:=I.list hH;obtain⟨its2,r2,pl2,_⟩:=I.list hB;have hl:=r.length;have hl2:=r2.length;obtain⟨⟨cls,dd,data,sl⟩,n,ho,hc,hdd,hd⟩:=pl;obtain⟨⟨cls2,dd2,data2,sl2⟩,n2,ho2,hc2,hdd2,hd2⟩:=pl2;simp only at hc hd hc2 hd2;subst hc hd hc2 hd2;refine concat_meets ⟨_,ho,rfl⟩ ⟨_,ho2,rfl⟩ noFill_list_add seq_list_add PySem.F.slot_list_add PySem.F.entry_list_add (PySem.F.args_list_add_2 _ _) (list_addW l b its.toArray its2.toArray n n2 dd dd2 sl sl2 (by rw[size_toArray,size_toArray];omega)) ⟨ho,ho2,?_⟩;have ea:its.toArray++its2.toArray=(its++its2).toArray:=by simp
 rw[ea];exact⟨.ref _,_,I.lnew (t':=s.toks) (r.append r2) (by rw[length_append];omega),rfl,q _ I.fresh⟩
theorem J8{prog:Program}{w:World}{A:Around}{E:Value->Shared->Prop}{s:Shared}{t sl:Addr}{items:Array Value}{vl vu:Value}{lo hi:Option Int}{Q:Value->Shared->Prop}(ht:IsTup s.heap t items)(hs:s.heap.IsSliceOf sl vl vu .none)(pl:IsPart vl lo)(pu:IsPart vu hi)
  (h1:HT.sIx items.size 0 lo=0) (h2:HT.sIx items.size items.size hi=items.size)
  (h:Q (.ref t) s):wpAny (model prog w) A (getItem (.ref t) (.ref sl)) Q E s:=by
 obtain⟨os,hos,hcs,hds⟩:=id hs;have hTs:s.TypeIs (.ref sl) "slice":=⟨os,hos,hcs⟩;unfold getItem
 try with_reducible refine wpAny_holding ?_
 first|refine wpAny_bind (wpAny_pure ?_)|skip
 refine wpAny_bind (wpAny_sequenceKey ht.typeIs (by decide) ?_);refine wpAny_bind (wpAny_callSpecial?_slot (name:=Str.ofString "__getitem__") ht.typeIs PyProof.Rows.slot_tuple_getitem
  (wpAny_call_entry PyProof.Rows.slot_tuple_getitem ht.typeIs entry_tuple_getitem ?_ (args_tuple_getitem _ _)))
 show wpAny _ _ (Builtin.Tuple.tupleItemsOf (.ref t) >>= _) _ _ s
 refine wpAny_bind (tupleItemsOf_ ht ?_);refine wpAny_bind (wpAny_typeOf hTs ?_);rw[if_pos (by decide)];refine wpAny_bind (HT.sliceApplied_gen hs pl pu ?_);have hyes:(((HT.sIx items.size 0 lo:Nat):Int)==0&&(1:Int)==1&&(HT.sIx items.size items.size hi-HT.sIx items.size 0 lo)==items.size)=true:=by
  rw[h1,h2];simp
 show wpAny _ _ (if(((HT.sIx items.size 0 lo:Nat):Int)==0&&(1:Int)==1&&(HT.sIx items.size items.size hi-HT.sIx items.size 0 lo)==items.size)=true then _ else _) _ _ s
 rw[if_pos hyes];unfold Builtin.Tuple.tupleIsExact;refine wpAny_bind (wpAny_bind (wpAny_typeOf ht.typeIs (wpAny_pure ?_)));rw[if_pos (by decide)];exact wpAny_bind (wpAny_rule (wpAny_pure ⟨_,rfl,wpAny_pure h⟩))
def rSlTT(K:PySem.W.Frag):V->Option Int->Option Int->Hp->VK->Prop:=λx lo hi H Q=>∃a xs,x=.ref a/\SqT K H a xs /\
 ((HT.sIx xs.length 0 lo=0/\HT.sIx xs.length xs.length hi=xs.length)->Q (.ref a) H) /\
 (¬(HT.sIx xs.length 0 lo=0/\HT.sIx xs.length xs.length hi=xs.length)->∀p,H p=none->Q (.ref p) (upd H p (.tup (zDk xs lo hi))))
theorem sl_tupT:SlR X (rSlTT X.K):=by
 intro pins s σ H x v vl vu lo hi sl Q I rx hs pl pu h;obtain⟨a,xs,rfl,hx,q1,q2⟩:=h;by_cases hw:HT.sIx xs.length 0 lo=0/\HT.sIx xs.length xs.length hi=xs.length
 ·cases rx
  obtain⟨its,r,ht,hz⟩:=I.tuple hx;have hlen:its.toArray.size=xs.length:=by rw[size_toArray];exact r.length.symm
  refine⟨"tuple",_,PyProof.Rows.slot_tuple_getitem.lookup,ht.typeIs,?_⟩;exact J8 ht hs pl pu (by rw[hlen];exact hw.1) (by rw[hlen];exact hw.2) ⟨.ref a,H,I,rfl,q1 hw⟩
 ·exact sl_tup pins s σ H (.ref a) v vl vu lo hi sl Q I rx hs pl pu ⟨a,xs,rfl,hx,hw,q2 hw⟩
theorem Ga:∀bs:List Bool,(List.range bs.length).all (λi=>bs.getD i false)=bs.all id
 | []=>rfl
 |b::bs=>by
  rw[length_cons,List.range_succ_eq_map,all_cons,all_cons,List.all_map,<- Ga bs];rfl
theorem zDu(hc:X.calm=true):wM X (.builtin "all") (λxs H Q=>∃(p:Addr) (bs:List Bool),xs=[.ref p]/\SqL X.K H p (bs.map V.bl)/\Q (.bl (bs.all id)) H):=by
 intro pins s σ H xs us Q I r h;obtain⟨p,bs,rfl,hq,q⟩:=h;obtain⟨u,rfl,rx⟩:=W2 r;cases rx;obtain⟨its,rv,pl,hz⟩:=I.list hq;have hlen:=rv.length;refine call_all_walk (wpAny_pyIter_list pl.isList ?_);have hp:p<s.heap.objs.size:=by obtain⟨o,n,e,_⟩:=pl;exact lt_size e
 have hk:∀b o,s.heap.get? b=some o->(s.heap.push {cls:=.type "list_iterator",data:=.fields #[.ref p,.int 0 0]}).get? b=some o:=λb o e=>get?_push_of_some _ e
 have htr:∀(i:Nat) (v:Value),its.toArray[i]?=some v->v=Value.bool (bs.getD i false):=λi v hv=>by
  have hv':its[i]?=some v:=by simpa using hv
  have hi:i<its.length:=(List.getElem?_eq_some_iff.mp hv').1;have hx:i<(bs.map V.bl).length:=by rw[hlen];exact hi
  obtain⟨u',e1,e2⟩:=rv.get (i:=i) (x:=(bs.map V.bl)[i]) (by simp[hx]);rw[hv']at e1;cases e1;rw[length_map]at hx;rw[List.getElem_map]at e2;have:v=.bool (bs[i]):=e2;rw[this];simp[hx]
 refine⟨s.heap.objs.size,[s.heap.objs.size,p],[s.heap.objs.size],its.toArray.size,_,_,λi=>bs.getD i false,rfl,
  Walks.list (by show X.A.handled=none;exact I.ok.hd hc) _ p (ne_of_lt hp) its.toArray,⟨⟨_,get?_push_size _ rfl,rfl,rfl⟩,?_⟩,?_,?_⟩
 ·obtain⟨o,e,c⟩:=pl.isList
  exact⟨o,hk _ _ e,c⟩
 ·intro i v s' Q' E' hv hQ
  rw[htr i v hv];exact wpAny_truthy_bool hQ
 ·intro h' tk kp
  have e:(List.range its.toArray.size).all (λi=>bs.getD i false)=bs.all id:=by
   rw[size_toArray,<- hlen,length_map,Ga]
  rw[e];exact⟨.bl (bs.all id),H,I.kept (t':=tk) λb o eb=>kp b o (λm=>by
   have:b=s.heap.objs.size:=by simpa using m
   subst this;exact absurd (lt_size eb) (lt_irrefl _)) (hk b o eb),rfl,q⟩
theorem Zs:fillsNumberSlot (.type "tuple") "mul"=pure false :=
 PySem.fillsNumberSlot_seq (id:="tuple.__mul__") (r:=some (.builtin "tuple.__rmul__")) F.slot_tuple_mul.lookup (by decide +kernel) F.slot_tuple_rmul.lookup (by decide +kernel)
theorem Gb:seqRepeat? (.type "tuple")=pure (some (.builtin "tuple.__mul__")):=by
 unfold seqRepeat?;rw[PySem.seqSlot_of (T:="tuple") (name:="__mul__") (id:="tuple.__mul__") F.slot_tuple_mul.lookup (by decide +kernel),PySem.seqSlot_of (T:="tuple") (name:="__rmul__") (id:="tuple.__rmul__") F.slot_tuple_rmul.lookup (by decide +kernel)];rfl
theorem W3(a:Int)(t:Tok)(l:Addr)(items:Array Value)(n:Nat)(dd:Option Addr)(sl:Array (Option Value)) :
  Meets (Builtin.«int.__rmul__» ⟨[.int a t,.ref l],[]⟩) (λ_ R s=>s.heap.get? l=some {cls:=.type "tuple",dict:=dd,data:=.seq items n,slots:=sl}/\R (.ok (.ret Value.notImplemented)) s) :=
 .of_wp λprog w A R s h=>by obtain⟨hp,g,d,tk,os⟩:=s;obtain⟨hl,h⟩:=h;wp_walk;exact⟨_,rfl,h⟩
theorem W4{prog:Program}{w:World}{A:Around}{E:Value->Shared->Prop}{s:Shared}{l:Addr}{items:Array Value}{k:Int}{t:Tok}{Q:Value->Shared->Prop}(hl:IsTup s.heap l items)(h1:-(2^63)<=k)(h2:k<2^63)
  (hz:(items.size:Int)*k<=sizeLine) (q0:items.isEmpty=true\/k=1->Q (.ref l) s)
  (q1:k<=0->Q (.ref s.heap.objs.size) {s with heap:=s.heap.push {cls:=.type "tuple",data:=.seq #[]}})
  (q2:Q (.ref s.heap.objs.size) {s with heap:=s.heap.push {cls:=.type "tuple",data:=.seq ((replicate k.toNat items).foldl (·++·) #[])}})
  (hfit:sizeOk (.seq ((replicate k.toNat items).foldl (·++·) #[]))) :
  wpAny (model prog w) A (call (.builtin "tuple.__mul__") [.ref l,.int k t]) Q E s:=by
 refine wpAny_call_entry F.slot_tuple_mul hl.typeIs F.entry_tuple_mul ?_ (F.args_tuple_mul_2 _ _);show wpAny _ _ (asIndex (.int k t) >>= _) _ _ s;refine wpAny_bind (wpAny_of_eq (a:=k) rfl ?_);dsimp only;rw[if_neg (by simp only[Bool.or_eq_true,decide_eq_true_eq];omega)];refine wpAny_bind (tupleItemsOf_ hl ?_);by_cases e1:(items.isEmpty||k==1)=true
 ·rw[if_pos e1]
  unfold Builtin.Tuple.tupleIsExact;refine wpAny_bind (wpAny_bind (wpAny_typeOf hl.typeIs (wpAny_pure ?_)));rw[if_pos (by decide)];refine wpAny_bind (wpAny_rule (wpAny_pure ⟨_,rfl,q0 ?_⟩));rw[Bool.or_eq_true,beq_iff_eq]at e1;exact e1
 ·rw[if_neg e1]
  by_cases e2:(decide (k<=0)||items.isEmpty)=true
  ·rw[if_pos e2]
   have hk:k<=0:=by
    simp only[Bool.or_eq_true,decide_eq_true_eq,beq_iff_eq,not_or]at e1 e2;rcases e2 with e2|e2
    ·exact e2
    ·exact absurd e2 e1.1
   exact wpAny_bind (m:=Builtin.Tuple.tupleExact _) (wpAny_newObj_type (wpAny_pure ⟨_,rfl,q1 hk⟩) (by show(#[]:Array Value).size<=sizeLine;simp))
  ·rw[if_neg e2]
   have hs:sizeLine=16777216:=sizeLine_eq;rw[if_neg (by rw[hs]at hz;omega),if_neg (by unfold Builtin.Tuple.tupleTooMany;simp only[decide_eq_true_eq];omega)];exact wpAny_bind (m:=Builtin.Tuple.tupleExact _) (wpAny_newObj_type (wpAny_pure ⟨_,rfl,q2⟩) hfit)
def rRepT(K:PySem.W.Frag):R2:=λx y H Q=>∃l k xs,x=.ref l/\y=.int k/\SqT K H l xs/\-(2^63)<=k/\k<2^63/\xs.length*k.toNat<=sizeLine /\
 (xs=[]\/k=1->Q (.ref l) H)/\(∀p,H p=none->Q (.ref p) (upd H p (.tup (replicate k.toNat xs).flatten)))
theorem op_repT:OpR X (binaryOp .Mult) (rRepT X.K):=by
 intro pins s σ H x y v u Q I rx ry h;obtain⟨l,k,xs,rfl,rfl,hH,h1,h2,hz,q0,q⟩:=h;cases rx;obtain⟨t,rfl⟩:=ry;obtain⟨its,r,pt,_⟩:=I.tuple hH;have hl:=r.length;obtain⟨⟨cls,dd,data,sl⟩,ho,hc,n,hd⟩:=id pt;simp only at hc hd;subst hc hd;have hnew:foldl (λx1 x2=>x1++x2) #[] (replicate k.toNat its.toArray)=(replicate k.toNat its).flatten.toArray:=by
  have:=WM its k.toNat [];rw[nil_append]at this;exact this
 have hlen:(replicate k.toNat its).flatten.length<=sizeLine:=by rw[QW,mul_comm,<- hl];exact hz
 have hzz:((its.toArray.size:Nat):Int)*k<=(sizeLine:Nat):=by
  rw[size_toArray,<- hl];by_cases hk:0<=k
  ·obtain⟨m,rfl⟩:=Int.eq_ofNat_of_zero_le hk
   have:xs.length*m<=sizeLine:=by simpa using hz
   exact_mod_cast this
  ·have:(xs.length:Int)*k<=0:=Int.mul_nonpos_of_nonneg_of_nonpos (Int.natCast_nonneg _) (by omega)
   omega
 refine wpAny_binaryOp_repeat_ref (T:="tuple") (U:="int") (by decide) ⟨_,ho,rfl⟩ (λs'=>typeIs_int s' k t) Zs F.fills_int_mul F.slot_int_rmul Gb F.slot_int_index.lookup
  (call_meets F.slot_int_rmul (typeIs_int s k t) F.entry_int_rmul (F.args_int_rmul_2 _ _) (W3 k t l its.toArray n dd sl) ⟨ho,rfl,⟨_,ho,rfl⟩,?_⟩)
 refine W4 pt h1 h2 hzz (λe=>⟨.ref l,H,I,rfl,q0 ?_⟩) (λe=>?_) ?_ ?_
 ·rcases e with e|e
  ·left
   have:its=[]:=by simpa using e
   exact r.nil_iff.mp this
  ·right;exact e
 ·have ek:k.toNat=0:=by omega
  have q':=q s.heap.objs.size I.fresh;rw[ek]at q';exact⟨.ref s.heap.objs.size,_,I.laid (t':=s.toks) (o:=.tup []) (λb ob q=>get?_push_of_some _ q) (le_refl _) ⟨zero_le _,[],.nil,IsTup.new _ _⟩,rfl,q'⟩
 ·rw[hnew]
  exact⟨.ref s.heap.objs.size,_,I.laid (t':=s.toks) (o:=.tup (replicate k.toNat xs).flatten) (λb ob q=>get?_push_of_some _ q) (le_refl _) ⟨by rw[QW,mul_comm];exact hz,_,r.rep k.toNat,IsTup.new _ _⟩,rfl,q _ I.fresh⟩
 ·rw[hnew]
  show(replicate k.toNat its).flatten.toArray.size<=sizeLine
  rw[size_toArray];exact hlen
end
end L2
namespace DV
open PySem L2
def cap:Nat:=1000000
theorem Yh{n:Nat}(h:n<=cap):n<=sizeLine:=le_trans h (by rw[sizeLine_eq];decide)
abbrev Kt(K:PySem.W.Frag)(mg:Str->Option Value)(M:Addr->Prop)(H:Hp)(Z:Fz)(res:R)(Q:VK):Prop :=
 ∀v H',FR K mg M H' ((some v,res.slot)::Z)->Step M H Z H' ((some v,res.slot)::Z)->Q v H'
def ROk(K:PySem.W.Frag)(mg:Str->Option Value)(rel:R2)(f:D->D->Option R):Prop :=
 ∀(M:Addr->Prop) (H:Hp) (Z:Fz) (x y:V) (d1 d2:D) (res:R) (Q:VK),FR K mg M H Z->Rep K mg (Hm (Mo M Z) H) d1 x->Rep K mg (Hm (Mo M Z) H) d2 y->f d1 d2=some res->Kt K mg M H Z res Q->rel x y H Q
def COk(K:PySem.W.Frag)(mg:Str->Option Value)(rel:List V->Hp->VK->Prop)(f:List D->Option R):Prop :=
 ∀(M:Addr->Prop) (H:Hp) (Z:Fz) (xs:List V) (ds:List D) (res:R) (Q:VK),FR K mg M H Z->Reps K mg (Hm (Mo M Z) H) ds xs->f ds=some res->Kt K mg M H Z res Q->rel xs H Q
section
variable{X:Cx}{K:PySem.W.Frag}{mg:Str->Option Value}{M:Addr->Prop}{H H':Hp}{Z:Fz}{Q:VK}{σ:St}
theorem Kt.flat{d:D}(k:Kt K mg M H Z (.val d) Q)(f:FR K mg M H Z)(h:flat d=true):Q (flV d) H:=k _ _ (f.add (zAH h)) Step.refl.add
theorem Kt.rep{d:D}{v:V}(k:Kt K mg M H Z (.val d) Q)(f:FR K mg M H Z)(h:Rep K mg (Hm (Mo M Z) H) d v):Q v H:=k _ _ (f.add h) Step.refl.add
theorem Kt.tup{ds:List D}{xs:List V}{p:Addr}(k:Kt K mg M H Z (.val (.tup ds)) Q)(f:FR K mg M H Z)(hp:H p=none)(h:Reps K mg (Hm (Mo M Z) H) ds xs):Q (.ref p) (upd H p (.tup xs)):=k _ _ (f.newTup hp h) (Step.newVal hp)
theorem Kt.own{ds:List D}{xs:List V}{p:Addr}(k:Kt K mg M H Z (.own ds) Q)(f:FR K mg M H Z)(hp:H p=none)(h:Reps K mg (Hm (Mo M Z) H) ds xs):Q (.ref p) (upd H p (.lst xs)):=k _ _ (f.newOwn hp h) (Step.newOwn f hp)
def Ji(f:D->D->Option R)(a b:ME):ME:=λE=>match a E with
 | .stuck=>.stuck
 | .exc x E1=>.exc x E1
 | .ok (r1,E1)=>match b E1 with
  | .stuck=>.stuck
  | .exc x E2=>.exc x E2
  | .ok (r2,E2)=>match f r1.d r2.d with
   |some r=>.ok (r,E2)
   |none=>.stuck
theorem WP{rel:R2}{f:D->D->Option R}{a b:ME}(hr:ROk X.K X.mg rel f){H:Hp}{Q:VK}(h:tM X (Ji f a b) σ H Q):tOp rel (tM X a) (tM X b) σ H Q:=by
 obtain⟨M,E,hl,fr,k⟩:=h;unfold Ji at k;refine yK (T0:=[]) hl fr ?_;cases ea:a E with
 |stuck=>rw[ea]at k;exact k
 |exc x E1=>rw[ea]at k;exact λH' g=>k H' g
 |ok p =>
  obtain⟨r1,E1⟩:=p;rw[ea]at k;intro x H1 g1;refine yK (T0:=[(some x,r1.slot)]) g1.len g1.fr ?_;dsimp only at k;cases eb:b E1 with
  |stuck=>rw[eb]at k;exact k
  |exc x E2=>rw[eb]at k;exact λH' g=>k H' (g1.trans' g).dropAll
  |ok p =>
   obtain⟨r2,E2⟩:=p;rw[eb]at k;intro y H2 g2;have g:=g1.trans' g2;have rp:=Got.reps (vs:=[y,x]) (rs:=[r2,r1]) rfl g;simp only[List.map,Reps]at rp;obtain⟨y',_,e1,ry,x',_,e2,rx,_⟩:=rp;cases e1;cases e2;dsimp only at k;cases ef:f r1.d r2.d with
   |none=>rw[ef]at k;exact k.elim
   |some r =>
    rw[ef]at k;exact hr M H2 _ x y r1.d r2.d r Q g.frame rx ry ef λv H' f' s'=>k v H' (g.more (T:=[(some v,r.slot)]) f' s')
theorem zA4{op:Operator}{rel:R2}{f:D->D->Option R}{a b:Expr}{ma mb:ME}{pos:Pos}(ho:OpR X (binaryOp op) rel)(hr:ROk X.K X.mg rel f)(ha:EOk X a ma)(hb:EOk X b mb):EOk X (.BinOp a op b pos) (Ji f ma mb) :=
 yN (pe_op ho ha hb) λσ H Q h=>WP hr h
theorem vZ{op:CmpOp}{rel:R2}{f:D->D->Option R}{a b:Expr}{ma mb:ME}{pos:Pos}(ho:OpR X (compareOp op) rel)(hr:ROk X.K X.mg rel f)(hm:behindInMarks op b=false)(ha:EOk X a ma)(hb:EOk X b mb):EOk X (.Compare a [op] [b] pos) (Ji f ma mb) :=
 yN (pe_cmpR ho ha hb hm) λσ H Q h=>WP hr h
theorem ok_ix{rel:R2}{f:D->D->Option R}{a b:Expr}{ma mb:ME}{pos:Pos}(ho:IxR X rel)(hr:ROk X.K X.mg rel f)(hs:uG b)(ha:EOk X a ma)(hb:EOk X b mb):EOk X (.Subscript a b pos) (Ji f ma mb) :=
 yN (pe_ix ho ha hb hs) λσ H Q h=>WP hr h
def tT(m:ME):MT:=λE=>match m E with
 | .stuck=>.stuck
 | .exc x E1=>.exc x E1
 | .ok (.val (.bl b),E1)=>.ok (b,E1)
 |_=>.stuck
theorem zBx{m:ME}{H:Hp}{Q:Bool->Hp->Prop}(h:tMT X (tT m) σ H Q):tM X m σ H λx H'=>∃k,x=.bl k/\Q k H':=by
 obtain⟨M,E,hl,fr,k⟩:=h;refine⟨M,E,hl,fr,?_⟩;unfold tT at k;cases e:m E with
 |stuck=>rw[e]at k;exact k
 |exc x E1=>rw[e]at k;exact k
 |ok p =>
  obtain⟨r,E1⟩:=p;rw[e]at k;cases r with
  |own ds=>exact k.elim
  |val d =>
   cases d with
   |bl b =>
    intro v H' g;have rp:=g.rep;simp only[R.d,Rep]at rp;exact⟨b,rp,k H' g.dropAll⟩
   |_=>exact k.elim
theorem ok_test{e:Expr}{m:ME}(h:EOk X e m)(he:∀whole,isTrue e X.env whole=(do let v <- whole;standAt e.pos;holding [v] (truthy v)):=by intro _;rfl):TOk X e (tT m) :=
 zAG (pt_val h he) λσ H Q q=>zBx q
theorem Y6{op:CmpOp}{rel:R2}{f:D->D->Option R}{a b:Expr}{ma mb:ME}{pos:Pos}(ho:OpR X (compareOp op) rel)(hr:ROk X.K X.mg rel f)(hm:behindInMarks op b=false)(ha:EOk X a ma)(hb:EOk X b mb):TOk X (.Compare a [op] [b] pos) (tT (Ji f ma mb)) :=
 zAG (pt_cmpR ho ha hb hm) λσ H Q h=>WP hr (zBx h)
def wZ(a b:MT):MT:=λE=>match a E with
 | .ok (true,E1)=>b E1
 |o=>o
def va(a b:MT):MT:=λE=>match a E with
 | .ok (false,E1)=>b E1
 |o=>o
def wj(a:MT):MT:=λE=>match a E with
 | .stuck=>.stuck
 | .exc x E1=>.exc x E1
 | .ok (b,E1)=>.ok (!b,E1)
theorem and_run{a b:MT}{H:Hp}{Q:Bool->Hp->Prop}(h:tMT X (wZ a b) σ H Q):tAnd (tMT X a) (tMT X b) σ H Q:=by
 obtain⟨M,E,hl,fr,k⟩:=h;unfold wZ at k;refine JI (T0:=[]) hl fr ?_;cases ea:a E with
 |stuck=>rw[ea]at k;exact k
 |exc x E1=>rw[ea]at k;exact k
 |ok p =>
  obtain⟨c,E1⟩:=p;rw[ea]at k;intro H1 g1;cases c with
  |false=>exact zDQ (k H1 g1)
  |true =>
   refine zDR ?_;refine JI (T0:=[]) g1.len g1.fr ?_;dsimp only at k;cases eb:b E1 with
   |stuck=>rw[eb]at k;exact k
   |exc x E2=>rw[eb]at k;exact λH' g=>k H' (g1.trans' g)
   |ok p=>rw[eb]at k;exact λH' g=>k H' (g1.trans' g)
theorem or_run{a b:MT}{H:Hp}{Q:Bool->Hp->Prop}(h:tMT X (va a b) σ H Q):tOr (tMT X a) (tMT X b) σ H Q:=by
 obtain⟨M,E,hl,fr,k⟩:=h;unfold va at k;refine JI (T0:=[]) hl fr ?_;cases ea:a E with
 |stuck=>rw[ea]at k;exact k
 |exc x E1=>rw[ea]at k;exact k
 |ok p =>
  obtain⟨c,E1⟩:=p;rw[ea]at k;intro H1 g1;cases c with
  |true=>exact zDR (k H1 g1)
  |false =>
   refine zDQ ?_;refine JI (T0:=[]) g1.len g1.fr ?_;dsimp only at k;cases eb:b E1 with
   |stuck=>rw[eb]at k;exact k
   |exc x E2=>rw[eb]at k;exact λH' g=>k H' (g1.trans' g)
   |ok p=>rw[eb]at k;exact λH' g=>k H' (g1.trans' g)
theorem not_run{a:MT}{H:Hp}{Q:Bool->Hp->Prop}(h:tMT X (wj a) σ H Q):tNot (tMT X a) σ H Q:=by
 obtain⟨M,E,hl,fr,k⟩:=h;unfold wj at k;refine JI (T0:=[]) hl fr ?_;cases ea:a E with
 |stuck=>rw[ea]at k;exact k
 |exc x E1=>rw[ea]at k;exact k
 |ok p=>rw[ea]at k;exact k
abbrev WOk(X:Cx)(e:Expr)(m:MT):Prop:=PW X e (tMT X m)
theorem wk_and1{a:Expr}{m:MT}{pos:Pos}(h:TOk X a m):WOk X (.BoolOp .And [a] pos) m:=pw_and1 h
theorem wk_or1{a:Expr}{m:MT}{pos:Pos}(h:TOk X a m):WOk X (.BoolOp .Or [a] pos) m:=pw_or1 h
theorem zFI{a b:Expr}{YQ:List Expr}{ma mb:MT}{pos:Pos}(ha:TOk X a ma)(hb:WOk X (.BoolOp .And (b::YQ) pos) mb):WOk X (.BoolOp .And (a::b::YQ) pos) (wZ ma mb):=zFE (pw_and ha hb) λσ H Q=>and_run
theorem wk_or{a b:Expr}{YQ:List Expr}{ma mb:MT}{pos:Pos}(ha:TOk X a ma)(hb:WOk X (.BoolOp .Or (b::YQ) pos) mb):WOk X (.BoolOp .Or (a::b::YQ) pos) (va ma mb):=zFE (pw_or ha hb) λσ H Q=>or_run
theorem tk_w{e:Expr}{m:MT}(h:WOk X e m):TOk X e m:=h.pt
theorem tk_not{a:Expr}{m:MT}{pos:Pos}(h:TOk X a m):TOk X (.UnaryOp .Not a pos) (wj m):=zAG (pt_not h) λσ H Q=>not_run
def GF(a:ME):ME:=λE=>match a E with
 | .ok (.val (.bl b),E1)=>.ok (.val (.bl (!b)),E1)
 | .exc x E1=>.exc x E1
 |_=>.stuck
def GG(a b:ME):ME:=λE=>match a E with
 | .ok (.val (.bl true),E1)=>b E1
 | .ok (.val (.bl false),E1)=>.ok (.val (.bl false),E1)
 | .exc x E1=>.exc x E1
 |_=>.stuck
def eOr(a b:ME):ME:=λE=>match a E with
 | .ok (.val (.bl false),E1)=>b E1
 | .ok (.val (.bl true),E1)=>.ok (.val (.bl true),E1)
 | .exc x E1=>.exc x E1
 |_=>.stuck
theorem zDv{a:ME}{H:Hp}{Q:VK}(h:tM X (GF a) σ H Q):tNotV (tM X a) σ H Q:=by
 obtain⟨M,E,hl,fr,k⟩:=h;unfold GF at k;refine yK (T0:=[]) hl fr ?_;cases ea:a E with
 |stuck=>rw[ea]at k;exact k
 |exc x E1=>rw[ea]at k;exact k
 |ok p =>
  obtain⟨r,E1⟩:=p;rw[ea]at k;cases r with
  |own ds=>exact k.elim
  |val d =>
   cases d with
   |bl b =>
    intro v H' g;have rp:=g.rep;simp only[R.d,Rep]at rp;exact⟨b,rp,k _ H' (g.flat (d:=.bl (!b)) rfl)⟩
   |_=>exact k.elim
theorem zDw{a b:ME}{H:Hp}{Q:VK}(h:tM X (GG a b) σ H Q):tAndV (tM X a) (tM X b) σ H Q:=by
 obtain⟨M,E,hl,fr,k⟩:=h;unfold GG at k;refine yK (T0:=[]) hl fr ?_;cases ea:a E with
 |stuck=>rw[ea]at k;exact k
 |exc x E1=>rw[ea]at k;exact k
 |ok p =>
  obtain⟨r,E1⟩:=p;rw[ea]at k;cases r with
  |own ds=>exact k.elim
  |val d =>
   cases d with
   |bl c =>
    intro v H' g;have rp:=g.rep;simp only[R.d,Rep]at rp;refine⟨c,rp,?_⟩;cases c with
    |false=>exact zDQ (k _ H' (g.flat (d:=.bl false) rfl))
    |true =>
     refine zDR (yK (T0:=[]) g.len g.frame ?_);dsimp only at k;cases eb:b E1 with
     |stuck=>rw[eb]at k;exact k
     |exc x E2=>rw[eb]at k;exact λH'' g'=>k H'' (g.dropAll.trans' g')
     |ok p=>rw[eb]at k;exact λv'' H'' g'=>k v'' H'' (g.dropAll.trans' g')
   |_=>exact k.elim
theorem eOr_run{a b:ME}{H:Hp}{Q:VK}(h:tM X (eOr a b) σ H Q):tOrV (tM X a) (tM X b) σ H Q:=by
 obtain⟨M,E,hl,fr,k⟩:=h;unfold eOr at k;refine yK (T0:=[]) hl fr ?_;cases ea:a E with
 |stuck=>rw[ea]at k;exact k
 |exc x E1=>rw[ea]at k;exact k
 |ok p =>
  obtain⟨r,E1⟩:=p;rw[ea]at k;cases r with
  |own ds=>exact k.elim
  |val d =>
   cases d with
   |bl c =>
    intro v H' g;have rp:=g.rep;simp only[R.d,Rep]at rp;refine⟨c,rp,?_⟩;cases c with
    |true=>exact zDR (k _ H' (g.flat (d:=.bl true) rfl))
    |false =>
     refine zDQ (yK (T0:=[]) g.len g.frame ?_);dsimp only at k;cases eb:b E1 with
     |stuck=>rw[eb]at k;exact k
     |exc x E2=>rw[eb]at k;exact λH'' g'=>k H'' (g.dropAll.trans' g')
     |ok p=>rw[eb]at k;exact λv'' H'' g'=>k v'' H'' (g.dropAll.trans' g')
   |_=>exact k.elim
theorem ok_not{a:Expr}{m:ME}{pos:Pos}(h:EOk X a m):EOk X (.UnaryOp .Not a pos) (GF m):=yN (pe_not h) λσ H Q=>zDv
theorem zFJ{a b:Expr}{YQ:List Expr}{ma mb:ME}{pos:Pos}(ha:EOk X a ma)(hb:EOk X (.BoolOp .And (b::YQ) pos) mb):EOk X (.BoolOp .And (a::b::YQ) pos) (GG ma mb):=yN (pe_and ha hb) λσ H Q=>zDw
theorem ok_or{a b:Expr}{YQ:List Expr}{ma mb:ME}{pos:Pos}(ha:EOk X a ma)(hb:EOk X (.BoolOp .Or (b::YQ) pos) mb):EOk X (.BoolOp .Or (a::b::YQ) pos) (eOr ma mb):=yN (pe_or ha hb) λσ H Q=>eOr_run
theorem zFK{a:Expr}{op:BoolOp}{m:ME}{pos:Pos}(h:EOk X a m):EOk X (.BoolOp op [a] pos) m:=pe_one h
def eIf(c:MT)(a b:ME):ME:=λE=>match c E with
 | .ok (true,E1)=>a E1
 | .ok (false,E1)=>b E1
 | .exc x E1=>.exc x E1
 | .stuck=>.stuck
theorem if_run{c:MT}{a b:ME}{H:Hp}{Q:VK}(h:tM X (eIf c a b) σ H Q):tIf (tMT X c) (tM X a) (tM X b) σ H Q:=by
 obtain⟨M,E,hl,fr,k⟩:=h;unfold eIf at k;refine JI (T0:=[]) hl fr ?_;cases ea:c E with
 |stuck=>rw[ea]at k;exact k
 |exc x E1=>rw[ea]at k;exact k
 |ok p =>
  obtain⟨t,E1⟩:=p;rw[ea]at k;intro H1 g1;cases t with
  |true =>
   refine zDR (yK (T0:=[]) g1.len g1.fr ?_);dsimp only at k;cases eb:a E1 with
   |stuck=>rw[eb]at k;exact k
   |exc x E2=>rw[eb]at k;exact λH' g=>k H' (g1.trans' g)
   |ok p=>rw[eb]at k;exact λv H' g=>k v H' (g1.trans' g)
  |false =>
   refine zDQ (yK (T0:=[]) g1.len g1.fr ?_);dsimp only at k;cases eb:b E1 with
   |stuck=>rw[eb]at k;exact k
   |exc x E2=>rw[eb]at k;exact λH' g=>k H' (g1.trans' g)
   |ok p=>rw[eb]at k;exact λv H' g=>k v H' (g1.trans' g)
theorem ok_if{c a b:Expr}{mc:MT}{ma mb:ME}{pos:Pos}(hc:TOk X c mc)(ha:EOk X a ma)(hb:EOk X b mb):EOk X (.IfExp c a b pos) (eIf mc ma mb):=yN (zDY hc ha hb) λσ H Q=>if_run
def Gc:MA:=λE=>.ok ([],E)
def wk(a:ME)(m:MA):MA:=λE=>match a E with
 | .stuck=>.stuck
 | .exc x E1=>.exc x E1
 | .ok (r,E1)=>match m E1 with
  | .stuck=>.stuck
  | .exc x E2=>.exc x E2
  | .ok (rs,E2)=>.ok (r::rs,E2)
theorem ak_nil:AOk X [] Gc:=GX GO λσ H Q ⟨M,E,hl,fr,k⟩=>k [] H rfl (Got.refl (T0:=[]) hl fr)
theorem Got.perm{K:PySem.W.Frag}{mg:Str->Option Value}{M:Addr->Prop}{σ σ1:St}{E E1:zP}{H H1:Hp}{T0 T T':Fz}(a:Got K mg M σ E H T0 σ1 E1 H1 T)(p:T.Perm T'):Got K mg M σ E H T0 σ1 E1 H1 T' where
 len:=a.len
 fr:=a.fr.perm (p.append_right _)
 st:=a.st.weak (zE (p.append_right _).symm)
 pk:=a.pk
theorem zDx{a:ME}{m:MA}{H:Hp}{Q:List V->Hp->Prop}(h:tMA X (wk a m) σ H Q):tCons (tM X a) (tMA X m) σ H Q:=by
 obtain⟨M,E,hl,fr,k⟩:=h;unfold wk at k;refine yK (T0:=[]) hl fr ?_;cases ea:a E with
 |stuck=>rw[ea]at k;exact k
 |exc x E1=>rw[ea]at k;exact k
 |ok p =>
  obtain⟨r1,E1⟩:=p;rw[ea]at k;intro x H1 g1;refine wN (T0:=[(some x,r1.slot)]) g1.len g1.fr ?_;dsimp only at k;cases eb:m E1 with
  |stuck=>rw[eb]at k;exact k
  |exc x E2=>rw[eb]at k;exact λH' g=>k H' (g1.trans' g).dropAll
  |ok p =>
   obtain⟨rs,E2⟩:=p;rw[eb]at k;intro vs H2 hv g2;refine k (x::vs) H2 (by simp[hv]) ?_;rw[vY];exact(g1.trans' g2).perm (perm_append_comm)
theorem ak_cons{e:Expr}{es:List Expr}{a:ME}{m:MA}(ha:EOk X e a)(hm:AOk X es m)(hs:zL e=false:=by rfl):AOk X (e::es) (wk a m):=GX (J7 ha hm (yA hs)) λσ H Q=>zDx
def eCB(f:List D->Option R)(m:MA):ME:=λE=>match m E with
 | .stuck=>.stuck
 | .exc x E1=>.exc x E1
 | .ok (rs,E1)=>match f (rs.map R.d)with
  |some r=>.ok (r,E1)
  |none=>.stuck
theorem zAI{rel:List V->Hp->VK->Prop}{f:List D->Option R}{m:MA}(hr:COk X.K X.mg rel f){H:Hp}{Q:VK}(h:tM X (eCB f m) σ H Q):tCB rel (tMA X m) σ H Q:=by
 obtain⟨M,E,hl,fr,k⟩:=h;unfold eCB at k;refine wN (T0:=[]) hl fr ?_;cases ea:m E with
 |stuck=>rw[ea]at k;exact k
 |exc x E1=>rw[ea]at k;exact k
 |ok p =>
  obtain⟨rs,E1⟩:=p;rw[ea]at k;intro vs H1 hv g;have rp:=Got.reps hv g;dsimp only at k;cases ef:f (rs.map R.d)with
  |none=>rw[ef]at k;exact k.elim
  |some r =>
   rw[ef]at k;exact hr M H1 _ vs _ r Q g.frame rp ef λv H' f' s'=>k v H' (g.more (T:=[(some v,r.slot)]) f' s')
def Gd(m:MA):ME:=eCB (λds=>if ds.length<=cap then some (.val (.tup ds))else none) m
def Ge(m:MA):ME:=eCB (λds=>if ds.length<=cap then some (.own ds)else none) m
theorem ok_tup{es:List Expr}{m:MA}{x1:Nat}{pos:Pos}(h:AOk X es m):EOk X (.Tuple es x1 pos) (Gd m) :=
 yN (pe_tup h) λσ H Q q=>zAI (rel:=λxs H1 Q=>xs.length<=sizeLine/\∀p,H1 p=none->Q (.ref p) (upd H1 p (.tup xs))) (λM H Z xs ds res Q f r e k=>by
  split at e
  ·rename_i hc
   cases e;exact⟨by rw[r.length];exact Yh hc,λp hp=>k.tup f hp r⟩
  ·cases e) q
theorem ok_lst{es:List Expr}{m:MA}{pos:Pos}(h:AOk X es m):EOk X (.List es pos) (Ge m) :=
 yN (pe_lst h) λσ H Q q=>zAI (rel:=λxs H1 Q=>xs.length<=sizeLine/\∀p,H1 p=none->Q (.ref p) (upd H1 p (.lst xs))) (λM H Z xs ds res Q f r e k=>by
  split at e
  ·rename_i hc
   cases e;exact⟨by rw[r.length];exact Yh hc,λp hp=>k.own f hp r⟩
  ·cases e) q
theorem Yi{f:List D->Option R}{m:MA}{rel:List V->Hp->VK->Prop}{id:String}{x:Str}{p pos:Pos}{e:Expr}{es:List Expr}(hc:wM X (.builtin id) rel)(hr:COk X.K X.mg rel f)(hg:Gl X x)(hm:X.mg x=none)(hv:bootBuiltins x=some (.builtin id))(ha:AOk X (e::es) m)(hn:x≠"__name__":=by decide)(hdb:(x==("__debug__":Str))=false:=by decide)
  (he:zL e=false:=by rfl) (hpl:jc es=true:=by rfl):EOk X (.Call (.Name x p) (e::es) [] pos) (eCB f m) :=
 yN (zAF hc hg hm hv ha hn hdb (yA he) (Yg hpl)) λσ H Q q=>zAI hr q
theorem Gf{f:List D->Option R}{m:MA}{rel:List V->Hp->VK->Prop}{T:String}{x:Str}{p pos:Pos}{e:Expr}{es:List Expr}(hc:wM X (.type T) rel)(hr:COk X.K X.mg rel f)(hg:Gl X x)(hm:X.mg x=none)(hv:bootBuiltins x=some (.type T))(ha:AOk X (e::es) m)(hn:x≠"__name__":=by decide)(hdb:(x==("__debug__":Str))=false:=by decide)
  (he:zL e=false:=by rfl) (hpl:jc es=true:=by rfl):EOk X (.Call (.Name x p) (e::es) [] pos) (eCB f m) :=
 yN (zBk hc hg hm hv ha hn hdb (yA he) (Yg hpl)) λσ H Q q=>zAI hr q
end
end DV
namespace DV
open PySem L2
section
variable{X:Cx}{K:PySem.W.Frag}{mg:Str->Option Value}
theorem zQ{H:Hp}{i:Int}{v:V}(h:Rep K mg H (.int i) v):v=.int i:=by simpa only[Rep]using h
theorem WQ{H:Hp}{i:Bool}{v:V}(h:Rep K mg H (.bl i) v):v=.bl i:=by simpa only[Rep]using h
theorem WR{H:Hp}{i:Str}{v:V}(h:Rep K mg H (.str i) v):v=.str i:=by simpa only[Rep]using h
theorem rep_non{H:Hp}{v:V}(h:Rep K mg H .non v):v=.non:=by simpa only[Rep]using h
theorem ze{H:Hp}{ds:List D}{v:V}(h:Rep K mg H (.tup ds) v):∃a xs,v=.ref a/\SqT K H a xs/\Reps K mg H ds xs:=by simpa only[Rep]using h
theorem zZ{H:Hp}{ds:List D}{v:V}(h:Rep K mg H (.lst ds) v):∃a xs,v=.ref a/\SqL K H a xs/\Reps K mg H ds xs:=by simpa only[Rep]using h
theorem za{H:Hp}{d:D}{v:V}(hf:flat d=true)(h:Rep K mg H d v):v=flV d:=by
 cases d<;>simp[flat]at hf<;>simpa only[Rep,flV]using h
def zA5:D->D->Option R
 | .int i,.int j=>some (.val (.int (i+j)))
 | .tup a,.tup b=>if a.length+b.length<=cap then some (.val (.tup (a++b)))else none
 | .lst a,.lst b=>if a.length+b.length<=cap then some (.own (a++b))else none
 |_,_=>none
def rAddD(K:PySem.W.Frag):R2:=λx y H Q=>rI0 (λi j=>.int (i+j)) x y H Q\/(zFH K x y H Q\/rCatL K x y H Q)
theorem op_addD:OpR X (binaryOp .Add) (rAddD X.K):=op_add.or (zDt.or op_catL)
theorem ro_add:ROk K mg (rAddD K) zA5:=by
 intro M H Z x y d1 d2 res Q f r1 r2 e k;cases d1 with
 |int i =>
  cases d2 with
  |int j =>
   cases e;exact .inl ⟨i,j,zQ r1,zQ r2,k.flat f rfl⟩
  |_=>cases e
 |tup a =>
  cases d2 with
  |tup b =>
   simp only[zA5]at e;split at e
   ·rename_i hc
    cases e;obtain⟨p,xs,rfl,h1,h2⟩:=ze r1;obtain⟨q,ys,rfl,h3,h4⟩:=ze r2;have l1:=h2.length;have l2:=h4.length;refine .inr (.inl ⟨p,q,xs,ys,rfl,rfl,yR zO h1,yR zO h3,by rw[l1,l2];exact Yh hc,λe=>?_,λ_ e=>?_,λ_ _ p' hp=>k.tup f hp (h2.append h4)⟩)
    ·subst e
     have:a=[]:=by simpa using l1.symm
     subst this;exact k.rep f (by simpa using r2)
    ·subst e
     have:b=[]:=by simpa using l2.symm
     subst this;exact k.rep f (by simpa using r1)
   ·cases e
  |_=>cases e
 |lst a =>
  cases d2 with
  |lst b =>
   simp only[zA5]at e;split at e
   ·rename_i hc
    cases e;obtain⟨p,xs,rfl,h1,h2⟩:=zZ r1;obtain⟨q,ys,rfl,h3,h4⟩:=zZ r2;have l1:=h2.length;have l2:=h4.length;exact .inr (.inr ⟨p,q,xs,ys,rfl,rfl,zO.seq h1,zO.seq h3,by rw[l1,l2];exact Yh hc,λp' hp=>k.own f hp (h2.append h4)⟩)
   ·cases e
  |_=>cases e
 |_=>cases e
def zBy(C:Int->Int->Bool)(g:Int->Int->D):D->D->Option R
 | .int i,.int j=>if C i j=true then some (.val (g i j))else none
 |_,_=>none
theorem zBz{C:Int->Int->Bool}{P:Int->Int->Prop}{g:Int->Int->D}{gv:Int->Int->V}(hC:∀i j,C i j=true->P i j)(hg:∀i j,flat (g i j)=true/\flV (g i j)=gv i j):ROk K mg (rI P gv) (zBy C g):=by
 intro M H Z x y d1 d2 res Q f r1 r2 e k;cases d1 with
 |int i =>
  cases d2 with
  |int j =>
   simp only[zBy]at e;split at e
   ·rename_i hc
    cases e;refine⟨i,j,zQ r1,zQ r2,hC i j hc,?_⟩;have:=k.flat f (hg i j).1;rw[(hg i j).2]at this;exact this
   ·cases e
  |_=>cases e
 |_=>cases e
def zA6(g:Int->Int->D):D->D->Option R
 | .int i,.int j=>some (.val (g i j))
 |_,_=>none
theorem WS{g:Int->Int->D}{gv:Int->Int->V}(hg:∀i j,flat (g i j)=true/\flV (g i j)=gv i j):ROk K mg (rI0 gv) (zA6 g):=by
 intro M H Z x y d1 d2 res Q f r1 r2 e k;cases d1 with
 |int i =>
  cases d2 with
  |int j =>
   cases e;refine⟨i,j,zQ r1,zQ r2,?_⟩;have:=k.flat f (hg i j).1;rw[(hg i j).2]at this;exact this
  |_=>cases e
 |_=>cases e
abbrev W0:=zA6 λi j=>.int (i-j)
theorem ro_sub:ROk K mg (rI0 λi j=>.int (i-j)) W0:=WS λ_ _=>⟨rfl,rfl⟩
def Big:Nat:=2^4000
theorem zB0{n:Nat}(h:n<Big):n.log2<4000:=by
 by_cases h0:n=0
 ·subst h0;decide +kernel
 ·exact(Nat.log2_lt h0).mpr h
theorem zAJ{i:Int}(h:i.natAbs<Big):Builtin.Int.intBits i<=4000:=by
 unfold Builtin.Int.intBits;split
 ·exact zero_le _
 ·exact zB0 h
theorem zB1{i j:Int}(h1:i.natAbs<Big)(h2:j.natAbs<Big):IntMulOk i j:=by
 have b1:=zAJ h1;have b2:=zAJ h2;unfold IntMulOk;have:Builtin.Int.intTooBig (((Builtin.Int.intBits i:Nat):Int)+(Builtin.Int.intBits j:Nat))=false:=by
  unfold Builtin.Int.intTooBig bitsLine;simp only[decide_eq_false_iff_not];have:(2^27:Nat)=134217728:=by decide
  omega
 rw[this,Bool.and_false];decide
def CDivB(i j:Int):Prop:=0<j/\(j<1073741824\/j.natAbs<Big)
theorem zDy:OpR X (binaryOp .FloorDiv) (rI CDivB λi j=>.int (i/j)):=opI λi j _ _ _ _ _ hc q=>by
 have h1:(0:Int)<j:=hc.1;refine PyProof.Rows.floordiv_int (by omega) (by rw[Int.fdiv_eq_ediv_of_nonneg i (by omega)];exact q) (.inl ?_);rcases hc.2 with h|h
 ·exact PyProof.noPylong_small (by omega)
 ·exact PyProof.noPylong_of_log2 (lt_of_lt_of_le (zB0 h) (by decide))
def CMulB(i j:Int):Prop:=CMul i j\/(i.natAbs<Big/\j.natAbs<Big)
theorem op_mulB:OpR X (binaryOp .Mult) (rI CMulB λi j=>.int (i*j)):=opI λ_ _ _ _ _ _ _ hc q=>PyProof.Rows.mul_int q (by
 rcases hc with h|h
 ·exact h.ok
 ·exact zB1 h.1 h.2)
abbrev zA7:=zBy (λ_ j=>decide (0<j/\(j<1073741824\/j.natAbs<Big))) λi j=>.int (i/j)
theorem ro_fdiv:ROk K mg (rI CDivB λi j=>.int (i/j)) zA7:=zBz (λi j h=>(of_decide_eq_true h:0<j/\(j<1073741824\/j.natAbs<Big))) λ_ _=>⟨rfl,rfl⟩
abbrev zFL:=zBy (λ_ j=>decide (0<j)) λi j=>.int (i%j)
theorem ro_mod:ROk K mg (rI (λ_ j=>0<j) λi j=>.int (i%j)) zFL:=zBz (λi j h=>of_decide_eq_true h) λ_ _=>⟨rfl,rfl⟩
abbrev powD:=zBy (λi j=>decide (0<=j/\j<=1000000/\i.natAbs<2^64)) λi j=>.int (i^j.toNat)
theorem ro_pow:ROk K mg (rI CPow λi j=>.int (i^j.toNat)) powD:=zBz (λi j h=>(of_decide_eq_true h:0<=j/\j<=1000000/\i.natAbs<2^64)) λ_ _=>⟨rfl,rfl⟩
def YR:D->D->Option R
 | .int i,.int j=>if((-(2^64)<i/\i<2^64)\/(-(2^64)<j/\j<2^64))\/(i.natAbs<Big/\j.natAbs<Big)then some (.val (.int (i*j)))else none
 | .tup a,.int k=>if -(2^63)<=k/\k<2^63/\a.length*k.toNat<=cap then some (.val (.tup (replicate k.toNat a).flatten))else none
 |_,_=>none
def rMulD(K:PySem.W.Frag):R2:=λx y H Q=>rI CMulB (λi j=>.int (i*j)) x y H Q\/rRepT K x y H Q
theorem op_mulD:OpR X (binaryOp .Mult) (rMulD X.K):=op_mulB.or op_repT
theorem ro_mul:ROk K mg (rMulD K) YR:=by
 intro M H Z x y d1 d2 res Q f r1 r2 e k;cases d1 with
 |int i =>
  cases d2 with
  |int j =>
   simp only[YR]at e;split at e
   ·rename_i hc
    cases e;exact .inl ⟨i,j,zQ r1,zQ r2,hc,k.flat f rfl⟩
   ·cases e
  |_=>cases e
 |tup a =>
  cases d2 with
  |int n =>
   simp only[YR]at e;split at e
   ·rename_i hc
    cases e;obtain⟨p,xs,rfl,h1,h2⟩:=ze r1;have l1:=h2.length;refine .inr ⟨p,n,xs,rfl,zQ r2,yR zO h1,hc.1,hc.2.1,by rw[l1];exact Yh hc.2.2,λe=>?_,λp' hp=>k.tup f hp (h2.flatten _)⟩;refine k.rep f ?_;rcases e with e|e
    ·subst e
     have:a=[]:=by simpa using l1.symm
     subst this;simpa using r1
    ·subst e
     simpa using r1
   ·cases e
  |_=>cases e
 |_=>cases e
abbrev ltD:=zA6 λi j=>.bl (decide (i<j))
theorem ro_lt:ROk K mg (rI0 λi j=>.bl (decide (i<j))) ltD:=WS λ_ _=>⟨rfl,rfl⟩
abbrev leD:=zA6 λi j=>.bl (decide (i<=j))
theorem ro_le:ROk K mg (rI0 λi j=>.bl (decide (i<=j))) leD:=WS λ_ _=>⟨rfl,rfl⟩
abbrev gtD:=zA6 λi j=>.bl (decide (j<i))
theorem ro_gt:ROk K mg (rI0 λi j=>.bl (decide (j<i))) gtD:=WS λ_ _=>⟨rfl,rfl⟩
abbrev geD:=zA6 λi j=>.bl (decide (j<=i))
theorem ro_ge:ROk K mg (rI0 λi j=>.bl (decide (j<=i))) geD:=WS λ_ _=>⟨rfl,rfl⟩
def eqF:D->D->Option R
 | .int i,.int j=>some (.val (.bl (decide (i=j))))
 | .bl i,.bl j=>some (.val (.bl (decide (i=j))))
 | .str i,.str j=>some (.val (.bl (decide (i=j))))
 |_,_=>none
def neF:D->D->Option R
 | .int i,.int j=>some (.val (.bl (!decide (i=j))))
 | .bl i,.bl j=>some (.val (.bl (!decide (i=j))))
 | .str i,.str j=>some (.val (.bl (!decide (i=j))))
 |_,_=>none
theorem vint{i j:Int}:decide (V.int i=V.int j)=decide (i=j):=by simp
theorem vbl{i j:Bool}:decide (V.bl i=V.bl j)=decide (i=j):=by simp
theorem vstr{i j:Str}:decide (V.str i=V.str j)=decide (i=j):=by simp
theorem ro_eq:ROk K mg rEq eqF:=by
 intro M H Z x y d1 d2 res Q f r1 r2 e k;cases d1<;>cases d2<;>cases e
 ·rw[WQ r1,WQ r2];refine⟨rfl,?_⟩;rw[vbl];exact k.flat f rfl
 ·rw[zQ r1,zQ r2];refine⟨rfl,?_⟩;rw[vint];exact k.flat f rfl
 ·rw[WR r1,WR r2];refine⟨rfl,?_⟩;rw[vstr];exact k.flat f rfl
theorem ro_ne:ROk K mg rNe neF:=by
 intro M H Z x y d1 d2 res Q f r1 r2 e k;cases d1<;>cases d2<;>cases e
 ·rw[WQ r1,WQ r2];refine⟨rfl,?_⟩;rw[vbl];exact k.flat f rfl
 ·rw[zQ r1,zQ r2];refine⟨rfl,?_⟩;rw[vint];exact k.flat f rfl
 ·rw[WR r1,WR r2];refine⟨rfl,?_⟩;rw[vstr];exact k.flat f rfl
theorem yk{d:D}(h:flat d=true):uI (flV d)=true:=by cases d<;>simp[flat]at h<;>rfl
def ixD:D->D->Option R
 | .tup ds,.int i=>(atI ds i).map .val
 | .lst ds,.int i=>(atI ds i).map .val
 |_,_=>none
theorem Zz{H:Hp}{ds:List D}{xs:List V}{i:Int}{d:D}(h:Reps K mg H ds xs)(e:atI ds i=some d):∃v,atI xs i=some v/\Rep K mg H d v:=by
 unfold atI at e ⊢;have hl:=h.length;rw[hl];cases hj:ixN ds.length i with
 |none=>rw[hj]at e;cases e
 |some j =>
  rw[hj]at e;exact h.get' e
theorem ro_ix:ROk K mg (λx y H Q=>rIxL K x y H Q\/rIxT K x y H Q) ixD:=by
 intro M H Z x y d1 d2 res Q f r1 r2 e k;cases d1 with
 |tup ds =>
  cases d2 with
  |int i =>
   simp only[ixD]at e;cases ea:atI ds i with
   |none=>rw[ea]at e;cases e
   |some d =>
    rw[ea]at e;cases e;obtain⟨p,xs,rfl,h1,h2⟩:=ze r1;obtain⟨v,e1,e2⟩:=Zz h2 ea;exact .inr ⟨p,xs,i,v,rfl,zQ r2,yR zO h1,e1,k.rep f e2⟩
  |_=>cases e
 |lst ds =>
  cases d2 with
  |int i =>
   simp only[ixD]at e;cases ea:atI ds i with
   |none=>rw[ea]at e;cases e
   |some d =>
    rw[ea]at e;cases e;obtain⟨p,xs,rfl,h1,h2⟩:=zZ r1;obtain⟨v,e1,e2⟩:=Zz h2 ea;exact .inl ⟨p,xs,i,v,rfl,zQ r2,zO.seq h1,e1,k.rep f e2⟩
  |_=>cases e
 |_=>cases e
theorem ix_both:IxR X (λx y H Q=>rIxL X.K x y H Q\/rIxT X.K x y H Q):=zBo.or zE9
def zDz:List D->Option R
 | [.tup ds]=>some (.val (.int ds.length))
 | [.lst ds]=>some (.val (.int ds.length))
 |_=>none
theorem J9{H:Hp}{d:D}{xs:List V}(h:Reps K mg H [d] xs):∃v,xs=[v]/\Rep K mg H d v:=by
 simp only[Reps]at h;obtain⟨v,r,rfl,h1,rfl⟩:=h;exact⟨v,rfl,h1⟩
theorem reps2{H:Hp}{d e:D}{xs:List V}(h:Reps K mg H [d,e] xs):∃v w,xs=[v,w]/\Rep K mg H d v/\Rep K mg H e w:=by
 simp only[Reps]at h;obtain⟨v,r,rfl,h1,w,r',rfl,h2,rfl⟩:=h;exact⟨v,w,rfl,h1,h2⟩
theorem co_len:COk K mg (λxs H Q=>∃p ys,xs=[.ref p]/\(SqL K H p ys\/SqT K H p ys)/\Q (.int ys.length) H) zDz:=by
 intro M H Z xs ds res Q f r e k
 match ds,e with
 | [.tup ds],e =>
  cases e;obtain⟨v,rfl,h⟩:=J9 r;obtain⟨p,ys,rfl,h1,h2⟩:=ze h;refine⟨p,ys,rfl,.inr (yR zO h1),?_⟩;rw[h2.length];exact k.flat f rfl
 | [.lst ds],e =>
  cases e;obtain⟨v,rfl,h⟩:=J9 r;obtain⟨p,ys,rfl,h1,h2⟩:=zZ h;refine⟨p,ys,rfl,.inl (zO.seq h1),?_⟩;rw[h2.length];exact k.flat f rfl
def uN:List D->Option R
 | [.int i,.int j]=>some (.val (.int (if j > i then j else i)))
 |_=>none
theorem co_max:COk K mg (λxs H Q=>∃i j,xs=[.int i,.int j]/\Q (.int (if j > i then j else i)) H) uN:=by
 intro M H Z xs ds res Q f r e k
 match ds,e with
 | [.int i,.int j],e =>
  cases e;obtain⟨v,w,rfl,h1,h2⟩:=reps2 r;exact⟨i,j,by rw[zQ h1,zQ h2],k.flat f rfl⟩
def intF:List D->Option R
 | [.int i]=>some (.val (.int i))
 | [.bl b]=>some (.val (.int (if b then 1 else 0)))
 |_=>none
theorem co_int:COk K mg (λxs H Q=>(∃i,xs=[.int i]/\Q (.int i) H)\/∃k,xs=[.bl k]/\Q (.int (if k then 1 else 0)) H) intF:=by
 intro M H Z xs ds res Q f r e k
 match ds,e with
 | [.int i],e =>
  cases e;obtain⟨v,rfl,h1⟩:=J9 r;exact .inl ⟨i,by rw[zQ h1],k.flat f rfl⟩
 | [.bl b],e =>
  cases e;obtain⟨v,rfl,h1⟩:=J9 r;exact .inr ⟨b,by rw[WQ h1],k.flat f rfl⟩
def zFM:List D->Option R
 | [.lst ds]=>some (.val (.tup ds))
 | [.tup ds]=>some (.val (.tup ds))
 |_=>none
theorem zD0:COk K mg (λxs H Q=>∃p ys,xs=[.ref p]/\((SqL K H p ys/\∀l,H l=none->Q (.ref l) (upd H l (.tup ys)))\/(SqT K H p ys/\Q (.ref p) H))) zFM:=by
 intro M H Z xs ds res Q f r e k
 match ds,e with
 | [.lst ds],e =>
  cases e;obtain⟨v,rfl,h⟩:=J9 r;obtain⟨p,ys,rfl,h1,h2⟩:=zZ h;exact⟨p,ys,rfl,.inl ⟨zO.seq h1,λl hl=>k.tup f hl h2⟩⟩
 | [.tup ds],e =>
  cases e;obtain⟨v,rfl,h⟩:=J9 r;have h':=h;obtain⟨p,ys,rfl,h1,h2⟩:=ze h;exact⟨p,ys,rfl,.inr ⟨yR zO h1,k.rep f h'⟩⟩
def wO:List D->Option (List Bool)
 | []=>some []
 | .bl b::ds=>(wO ds).map (b::·)
 |_=>none
theorem vb{H:Hp}:∀{ds:List D} {xs:List V} {bs:List Bool},wO ds=some bs->Reps K mg H ds xs->xs=bs.map V.bl
 | [],_,_,e,h=>by cases e;simp only[Reps]at h;subst h;rfl
 |d::ds,_,bs,e,h=>by
  simp only[Reps]at h;obtain⟨v,r,rfl,h1,h2⟩:=h;cases d with
  |bl b =>
   simp only[wO]at e;cases eb:wO ds with
   |none=>rw[eb]at e;cases e
   |some cs =>
    rw[eb]at e;cases e;rw[WQ h1,vb eb h2];rfl
  |_=>cases e
def allD:List D->Option R
 | [.lst ds]=>(wO ds).map λbs=>.val (.bl (bs.all id))
 |_=>none
theorem co_all:COk K mg (λxs H Q=>∃(p:Addr) (bs:List Bool),xs=[.ref p]/\SqL K H p (bs.map V.bl)/\Q (.bl (bs.all id)) H) allD:=by
 intro M H Z xs ds res Q f r e k
 match ds,e with
 | [.lst ds],e =>
  simp only[allD]at e;cases eb:wO ds with
  |none=>rw[eb]at e;cases e
  |some bs =>
   rw[eb]at e;cases e;obtain⟨v,rfl,h⟩:=J9 r;obtain⟨p,ys,rfl,h1,h2⟩:=zZ h;have:=vb eb h2;subst this;exact⟨p,bs,rfl,zO.seq h1,k.flat f rfl⟩
end
end DV
namespace DV
open PySem L2
abbrev MO:=zP->Out (Option Int×zP)
def tMO(X:Cx)(m:MO):TO:=λσ H Q=>∃M E,E.length=σ.length/\FR X.K X.mg M H (σ.zip E)/\match m E with
 | .stuck=>False
 | .ok (b,E')=>∀H',Got X.K X.mg M σ E H [] σ E' H' []->Q b H'
 | .exc x E'=>∀H',Got X.K X.mg M σ E H [] σ E' H' []->XE X σ H' x
section
variable{X:Cx}{K:PySem.W.Frag}{mg:Str->Option Value}{σ:St}{M:Addr->Prop}{E:zP}{H:Hp}{T0:Fz}
theorem zB2{m:MO}{Q:Option Int->Hp->Prop}(hl:E.length=σ.length)(h:FR X.K X.mg M H (T0++σ.zip E))
  (k:match m E with | .stuck=>False | .ok (b,E')=>∀H',Got X.K X.mg M σ E H T0 σ E' H' []->Q b H' | .exc x E'=>∀H',Got X.K X.mg M σ E H T0 σ E' H' []->XE X σ H' x):tMO X m σ H Q:=by
 refine⟨Mo M T0,E,hl,h.inner,?_⟩;cases e:m E with
 |stuck=>rw[e]at k;exact k
 |ok a=>rw[e]at k;exact λH' g=>k H' (g.outer h)
 |exc x E'=>rw[e]at k;exact λH' g=>k H' (g.outer h)
abbrev OOk(X:Cx)(e:Option Expr)(m:MO):Prop:=PO X e (tMO X m)
theorem zFN{e:Option Expr}{t t':TO}(h:PO X e t)(i:∀σ H Q,t' σ H Q->t σ H Q):PO X e t':=λpins s σ H Q I q=>h pins s σ H Q I (i σ H Q q)
def oNone:MO:=λE=>.ok (none,E)
def zD1(m:ME):MO:=λE=>match m E with
 | .ok (.val (.int i),E1)=>.ok (some i,E1)
 | .exc x E1=>.exc x E1
 |_=>.stuck
theorem oo_none:OOk X none oNone:=zFN po_none λσ H Q ⟨M,E,hl,fr,k⟩=>k H (Got.refl (T0:=[]) hl fr)
theorem oo_some{e:Expr}{m:ME}(h:EOk X e m):OOk X (some e) (zD1 m):=zFN (po_some h) λσ H Q ⟨M,E,hl,fr,k⟩=>by
 unfold zD1 at k;refine yK (T0:=[]) hl fr ?_;cases ea:m E with
 |stuck=>rw[ea]at k;exact k
 |exc x E1=>rw[ea]at k;exact k
 |ok p =>
  obtain⟨r,E1⟩:=p;rw[ea]at k;cases r with
  |own ds=>exact k.elim
  |val d =>
   cases d with
   |int i =>
    intro v H' g;exact⟨i,zQ g.rep,k H' g.dropAll⟩
   |_=>exact k.elim
def eSl(f:D->Option Int->Option Int->Option R)(a:ME)(lo hi:MO):ME:=λE=>match a E with
 | .stuck=>.stuck
 | .exc x E1=>.exc x E1
 | .ok (r,E1)=>match lo E1 with
  | .stuck=>.stuck
  | .exc x E2=>.exc x E2
  | .ok (l,E2)=>match hi E2 with
   | .stuck=>.stuck
   | .exc x E3=>.exc x E3
   | .ok (u,E3)=>match f r.d l u with
    |some r=>.ok (r,E3)
    |none=>.stuck
def QU(ds:List D)(lo hi:Option Int):List D:=(ds.drop (HT.sIx ds.length 0 lo)).take (HT.sIx ds.length ds.length hi-HT.sIx ds.length 0 lo)
def slD:D->Option Int->Option Int->Option R
 | .tup ds,lo,hi=>some (.val (.tup (QU ds lo hi)))
 | .lst ds,lo,hi=>some (.own (QU ds lo hi))
 |_,_,_=>none
theorem zAK{ds:List D}{xs:List V}(h:Reps K mg H ds xs)(lo hi:Option Int):Reps K mg H (QU ds lo hi) (zDk xs lo hi):=by
 unfold QU zDk;rw[h.length];exact(h.drop _).take _
theorem sl_run{a:ME}{lo hi:MO}{Q:VK}(h:tM X (eSl slD a lo hi) σ H Q):tSl (λx l u H Q=>rSlTT X.K x l u H Q\/rSlL X.K x l u H Q) (tM X a) (tMO X lo) (tMO X hi) σ H Q:=by
 obtain⟨M,E,hl,fr,k⟩:=h;unfold eSl at k;refine yK (T0:=[]) hl fr ?_;cases ea:a E with
 |stuck=>rw[ea]at k;exact k
 |exc x E1=>rw[ea]at k;exact λH' g=>k H' g
 |ok p =>
  obtain⟨r1,E1⟩:=p;rw[ea]at k;intro x H1 g1;refine zB2 (T0:=[(some x,r1.slot)]) g1.len g1.fr ?_;dsimp only at k;cases eb:lo E1 with
  |stuck=>rw[eb]at k;exact k
  |exc x E2=>rw[eb]at k;exact λH' g=>k H' (g1.trans' g).dropAll
  |ok p =>
   obtain⟨l,E2⟩:=p;rw[eb]at k;intro H2 g2;have g12:=g1.trans' g2;refine zB2 (T0:=[(some x,r1.slot)]) g12.len g12.fr ?_;dsimp only at k;cases ec:hi E2 with
   |stuck=>rw[ec]at k;exact k
   |exc x E3=>rw[ec]at k;exact λH' g=>k H' (g12.trans' g).dropAll
   |ok p =>
    obtain⟨u,E3⟩:=p;rw[ec]at k;intro H3 g3;have g:=g12.trans' g3;have rx:=g.rep;dsimp only at k;have f:=g.frame;cases ed:r1.d with
    |tup ds =>
     rw[ed]at k rx;have k':Kt X.K X.mg M H3 (σ.zip E3) (.val (.tup (QU ds l u))) Q:=λv H' f' s'=>k v H' (g.more (T:=[(some v,_)]) f' s')
     obtain⟨p,xs,rfl,h1,h2⟩:=ze rx;refine .inl ⟨p,xs,rfl,yR zO h1,λhw=>k'.rep f ?_,λ_ p' hp=>k'.tup f hp (zAK h2 l u)⟩;have:QU ds l u=ds:=by
      have hl:=h2.length;rw[hl]at hw;unfold QU;rw[hw.1,hw.2];simp
     rw[this];exact rx
    |lst ds =>
     rw[ed]at k rx;have k':Kt X.K X.mg M H3 (σ.zip E3) (.own (QU ds l u)) Q:=λv H' f' s'=>k v H' (g.more (T:=[(some v,_)]) f' s')
     obtain⟨p,xs,rfl,h1,h2⟩:=zZ rx;exact .inr ⟨p,xs,rfl,zO.seq h1,λp' hp=>k'.own f hp (zAK h2 l u)⟩
    |_=>rw[ed]at k;exact k.elim
theorem ok_sl{a:Expr}{lo hi:Option Expr}{ma:ME}{ml mh:MO}{p2 pos:Pos}(ha:EOk X a ma)(hl:OOk X lo ml)(hh:OOk X hi mh):EOk X (.Subscript a (.Slice lo hi none p2) pos) (eSl slD ma ml mh) :=
 yN (zDj (sl_tupT.or sl_list) ha hl hh) λσ H Q=>sl_run
def tyD:D->Option String
 | .non=>some "NoneType"
 | .bl _=>some "bool"
 | .int _=>some "int"
 | .str _=>some "str"
 | .tup _=>some "tuple"
 | .lst _=>some "list"
 | .dic=>some "dict"
 | .fn _=>none
 | .exn _=>none
def Qd(t T:String):Bool:=t==T||(t == "bool"&&T == "int")
theorem zD2{T:String}(hk:∀t∈["NoneType","bool","int","str","tuple","list","dict"],kitOne X.K (.type t) (.type T)=some (Qd t T)) :
  wM X (.builtin "isinstance") (λxs H Q=>∃x d t,xs=[x,.ty T]/\Rep X.K X.mg H d x/\tyD d=some t/\Q (.bl (Qd t T)) H):=by
 intro pins s σ H xs us Q I r h;obtain⟨x,d,t,rfl,rd,et,q⟩:=h;obtain⟨u,w',rfl,rx,ry⟩:=vals2 r;cases (show w'=Value.type T from ry);have fin:∀tk,EP X pins σ Q (.bool (Qd t T)) {s with toks:=tk}:=λtk=>⟨.bl _,H,I.tok tk,rfl,q⟩
 cases d with
 |non=>cases et;rw[rep_non rd]at rx;cases (show u=Value.none from rx);exact kia_one PySem.W.kitx_none I.kIn True.intro (hk _ (by simp)) (λz=>nomatch z) fin
 |bl b=>cases et;rw[WQ rd]at rx;cases (show u=Value.bool b from rx);exact kia_one PySem.W.kitx_bool I.kIn True.intro (hk _ (by simp)) (λz=>nomatch z) fin
 |int i=>cases et;rw[zQ rd]at rx;obtain⟨t,q⟩:=(show ∃t,u=Value.int i t from rx);cases q;exact kia_one PySem.W.kitx_int I.kIn True.intro (hk _ (by simp)) (λz=>nomatch z) fin
 |str y=>cases et;rw[WR rd]at rx;obtain⟨t,q⟩:=(show ∃t,u=Value.str y t from rx);cases q;exact kia_one PySem.W.kitx_str I.kIn True.intro (hk _ (by simp)) (λz=>nomatch z) fin
 |tup ds =>
  cases et;obtain⟨a,xs,rfl,h1,_⟩:=ze rd;cases (show u=Value.ref a from rx);obtain⟨its,_,p,_⟩:=I.tuple h1;obtain⟨o,e1,e2,_⟩:=p;exact kia_one PySem.W.kitx_tuple I.kIn ⟨o,e1,e2⟩ (hk _ (by simp)) (λz=>nomatch z) fin
 |lst ds =>
  cases et;obtain⟨a,xs,rfl,h1,_⟩:=zZ rd;cases (show u=Value.ref a from rx);obtain⟨its,_,p,_⟩:=I.list h1;obtain⟨o,n,e1,e2,_⟩:=p;exact kia_one PySem.W.kitx_list I.kIn ⟨o,e1,e2⟩ (hk _ (by simp)) (λz=>nomatch z) fin
 |dic =>
  cases et;simp only[Rep]at rd;obtain⟨a,rfl,e⟩:=rd;cases (show u=Value.ref a from rx);obtain⟨_,_,vs,_,p⟩:=(show JE X.prog X.w H s.heap a (.dK [])from I.hok a _ e);obtain⟨o,es,ep,h1,h2,_⟩:=p;exact kia_one PySem.W.kitx_dict I.kIn ⟨o,h1,h2.1⟩ (hk _ (by simp)) (λz=>nomatch z) fin
 |fn x=>cases et
 |exn x=>cases et
def eIs(T:String)(m:ME):ME:=λE=>match m E with
 | .stuck=>.stuck
 | .exc x E1=>.exc x E1
 | .ok (r,E1)=>match tyD r.d with
  |some t=>.ok (.val (.bl (Qd t T)),E1)
  |none=>.stuck
theorem ok_is{T:String}{a:Expr}{m:ME}{x:Str}{p p1 pos:Pos}(hk:∀t∈["NoneType","bool","int","str","tuple","list","dict"],kitOne X.K (.type t) (.type T)=some (Qd t T))(hg:Gl X "isinstance")(hm:X.mg "isinstance"=none)
  (hgT:Gl X x) (hmT:X.mg x=none) (hvT:bootBuiltins x=some (.type T)) (ha:EOk X a m) (hv:bootBuiltins "isinstance"=some (.builtin "isinstance")) (hn:x≠"__name__":=by decide) (hd:(x==("__debug__":Str))=false:=by decide)
  (he:zL a=false:=by rfl) :
  EOk X (.Call (.Name "isinstance" p) [a,.Name x p1] [] pos) (eIs T m):=by
 refine yN (zAF (zD2 hk) hg hm hv (J7 ha (J7 (pe_bltn (v:=.ty T) hgT hmT hvT rfl hn hd) GO (yA rfl)) (yA he)) (by decide) (by decide) (yA he) (Yg rfl)) λσ H Q ⟨M,E,hl,fr,k⟩=>?_
 unfold eIs at k;refine yK (T0:=[]) hl fr ?_;cases ea:m E with
 |stuck=>rw[ea]at k;exact k
 |exc x E1=>rw[ea]at k;exact k
 |ok pr =>
  obtain⟨r,E1⟩:=pr;rw[ea]at k;intro v H' g;dsimp only at k;cases et:tyD r.d with
  |none=>rw[et]at k;exact k.elim
  |some t =>
   rw[et]at k;exact⟨v,r.d,t,rfl,g.rep.mono zO,et,k _ H' (g.flat (d:=.bl (Qd t T)) rfl)⟩
inductive Fl where
 |nx
 |ret (r:R)
 |bk
 |ct
 deriving Inhabited
abbrev MS:=zP->Out (Fl×zP)
def KS(X:Cx)(M:Addr->Prop)(σ:St)(E:zP)(H:Hp)(T0:Fz)(D:Ends):Out (Fl×zP)->Prop
 | .stuck=>False
 | .ok (.nx,E')=>∀σ' H',Got X.K X.mg M σ E H T0 σ' E' H' []->D.nx σ' H'
 | .ok (.bk,E')=>∀σ' H',Got X.K X.mg M σ E H T0 σ' E' H' []->D.bk σ' H'
 | .ok (.ct,E')=>∀σ' H',Got X.K X.mg M σ E H T0 σ' E' H' []->D.ct σ' H'
 | .ok (.ret r,E')=>∀v σ' H',Got X.K X.mg M σ E H T0 σ' E' H' [(some v,r.slot)]->D.rt v H'
 | .exc x E'=>∀σ' H',Got X.K X.mg M σ E H T0 σ' E' H' []->XE X σ' H' x
def tS(X:Cx)(m:MS):TS:=λD σ H=>∃M E,E.length=σ.length/\FR X.K X.mg M H (σ.zip E)/\KS X M σ E H [] D (m E)
abbrev SOk(X:Cx)(st:Stmt)(m:MS):Prop:=PS X st (tS X m)
abbrev zA8(X:Cx)(st:List Stmt)(m:MS):Prop:=PSs X st (tS X m)
theorem vc{m:MS}{D:Ends}(hl:E.length=σ.length)(h:FR X.K X.mg M H (T0++σ.zip E))
  (k:KS X M σ E H T0 D (m E)):tS X m D σ H:=by
 refine⟨Mo M T0,E,hl,h.inner,?_⟩;cases e:m E with
 |stuck=>rw[e]at k;exact k
 |ok a =>
  obtain⟨fl,E'⟩:=a;rw[e]at k;cases fl with
  |nx=>exact λσ' H' g=>k σ' H' (g.outer h)
  |bk=>exact λσ' H' g=>k σ' H' (g.outer h)
  |ct=>exact λσ' H' g=>k σ' H' (g.outer h)
  |ret r=>exact λv σ' H' g=>k v σ' H' (g.outer h)
 |exc x E'=>rw[e]at k;exact λσ' H' g=>k σ' H' (g.outer h)
def Gg:MS:=λE=>.ok (.nx,E)
def W5(a b:MS):MS:=λE=>match a E with
 | .ok (.nx,E1)=>b E1
 |o=>o
theorem sk_nil:zA8 X [] Gg:=zBv pss_nil λD σ H ⟨M,E,hl,fr,k⟩=>k σ H (Got.refl (T0:=[]) hl fr)
theorem sk_one{st:Stmt}{m:MS}(h:SOk X st m):zA8 X [st] m:=pss_one h
theorem seq_run{a b:MS}{D:Ends}(h:tS X (W5 a b) D σ H):tSeq (tS X a) (tS X b) D σ H:=by
 obtain⟨M,E,hl,fr,k⟩:=h;unfold W5 at k;refine vc (T0:=[]) hl fr ?_;cases ea:a E with
 |stuck=>rw[ea]at k;exact k
 |exc x E1=>rw[ea]at k;exact k
 |ok p =>
  obtain⟨fl,E1⟩:=p;rw[ea]at k;cases fl with
  |bk=>exact k
  |ct=>exact k
  |ret r=>exact k
  |nx =>
   intro σ1 H1 g1;refine vc (T0:=[]) g1.len g1.fr ?_;dsimp only at k;cases eb:b E1 with
   |stuck=>rw[eb]at k;exact k
   |exc x E2=>rw[eb]at k;exact λσ' H' g=>k σ' H' (g1.trans' g)
   |ok p =>
    obtain⟨fl2,E2⟩:=p;rw[eb]at k;cases fl2 with
    |nx=>exact λσ' H' g=>k σ' H' (g1.trans' g)
    |bk=>exact λσ' H' g=>k σ' H' (g1.trans' g)
    |ct=>exact λσ' H' g=>k σ' H' (g1.trans' g)
    |ret r=>exact λv σ' H' g=>k v σ' H' (g1.trans' g)
theorem sk_cons{st:Stmt}{YQ:List Stmt}{a b:MS}(h1:SOk X st a)(h2:zA8 X YQ b):zA8 X (st::YQ) (W5 a b):=zBv (zDZ h1 h2) λD σ H=>seq_run
def sIf(c:MT)(a b:MS):MS:=λE=>match c E with
 | .ok (true,E1)=>a E1
 | .ok (false,E1)=>b E1
 | .exc x E1=>.exc x E1
 | .stuck=>.stuck
theorem tS_go{m:MS}{D:Ends}{σ1:St}{E1:zP}{H1:Hp}(g1:Got X.K X.mg M σ E H [] σ1 E1 H1 [])
  (k:match m E1 with
   | .stuck=>False
   | .ok (.nx,E')=>∀σ' H',Got X.K X.mg M σ E H [] σ' E' H' []->D.nx σ' H'
   | .ok (.bk,E')=>∀σ' H',Got X.K X.mg M σ E H [] σ' E' H' []->D.bk σ' H'
   | .ok (.ct,E')=>∀σ' H',Got X.K X.mg M σ E H [] σ' E' H' []->D.ct σ' H'
   | .ok (.ret r,E')=>∀v σ' H',Got X.K X.mg M σ E H [] σ' E' H' [(some v,r.slot)]->D.rt v H'
   | .exc x E'=>∀σ' H',Got X.K X.mg M σ E H [] σ' E' H' []->XE X σ' H' x):tS X m D σ1 H1:=by
 refine vc (T0:=[]) g1.len g1.fr ?_;cases eb:m E1 with
 |stuck=>rw[eb]at k;exact k
 |exc x E2=>rw[eb]at k;exact λσ' H' g=>k σ' H' (g1.trans' g)
 |ok p =>
  obtain⟨fl2,E2⟩:=p;rw[eb]at k;cases fl2 with
  |nx=>exact λσ' H' g=>k σ' H' (g1.trans' g)
  |bk=>exact λσ' H' g=>k σ' H' (g1.trans' g)
  |ct=>exact λσ' H' g=>k σ' H' (g1.trans' g)
  |ret r=>exact λv σ' H' g=>k v σ' H' (g1.trans' g)
theorem sif_run{c:MT}{a b:MS}{D:Ends}(h:tS X (sIf c a b) D σ H):tIfS (tMT X c) (tS X a) (tS X b) D σ H:=by
 obtain⟨M,E,hl,fr,k⟩:=h;unfold sIf at k;refine JI (T0:=[]) hl fr ?_;cases ea:c E with
 |stuck=>rw[ea]at k;exact k
 |exc x E1=>rw[ea]at k;exact λH' g=>k σ H' g
 |ok p =>
  obtain⟨t,E1⟩:=p;rw[ea]at k;intro H1 g1;cases t with
  |true=>exact zDR (tS_go g1 k)
  |false=>exact zDQ (tS_go g1 k)
theorem sk_if{c:Expr}{a b:List Stmt}{mc:MT}{ma mb:MS}{pos:Pos}(hc:TOk X c mc)(ha:zA8 X a ma)(hb:zA8 X b mb):SOk X (.If c a b pos) (sIf mc ma mb):=yz (ps_if hc ha hb) λD σ H=>sif_run
def Yj(i:Nat)(r:R)(E:zP):Out zP:=match E[i]? with
 |none=>.stuck
 |some (.par _)=>.stuck
 |some _=>.ok (E.set i r.slot)
def sSet(i:Nat)(m:ME):MS:=λE=>match m E with
 | .stuck=>.stuck
 | .exc x E1=>.exc x E1
 | .ok (r,E1)=>match Yj i r E1 with
  | .ok E2=>.ok (.nx,E2)
  |_=>.stuck
theorem uO{σ1:St}{E1 E2:zP}{H1:Hp}{i:Nat}{r:R}{v:V}(g:Got K mg M σ E H T0 σ1 E1 H1 [(some v,r.slot)])(e:Yj i r E1=.ok E2):Got K mg M σ E H T0 (σ1.set i (some v)) E2 H1 []:=by
 unfold Yj at e;cases e1:E1[i]? with
 |none=>rw[e1]at e;cases e
 |some sl =>
  rw[e1]at e;have hne:∀ds,sl≠.par ds:=λds q=>by subst q;cases e
  have e2:E2=E1.set i r.slot:=by
   cases sl with
   |par ds=>exact absurd rfl (hne ds)
   |_=>cases e;rfl
  subst e2;have hi:i<E1.length:=(List.getElem?_eq_some_iff.mp e1).1;have hl:=g.len;have hz:i<(σ1.zip E1).length:=by rw[List.length_zip];omega
  have hT:T0++((σ1.set i (some v)).zip (E1.set i r.slot))=(T0++σ1.zip E1).set (T0.length+i) (some v,r.slot):=by
   rw[uL,List.set_append_right _ _ (by omega)];congr 2;omega
  have hz2:T0.length+i<(T0++σ1.zip E1).length:=by rw[length_append];omega
  refine⟨by simp[hl],?_,?_,?_⟩
  ·show FR K mg M H1 (T0++((σ1.set i (some v)).zip (E1.set i r.slot)))
   rw[hT];exact FR.put g.fr hz2
  ·show Step M H _ H1 (T0++((σ1.set i (some v)).zip (E1.set i r.slot)))
   rw[hT];exact Step.put g.st hz2
  ·refine g.pk.trans λj ds q=>?_
   have ne:i≠j:=λz=>by subst z;rw[e1]at q;exact hne ds (Option.some.inj q)
   exact⟨⟨ds,by rw[getElem?_set_ne ne];exact q⟩,by rw[getElem?_set_ne ne]⟩
theorem Qe{i:Nat}{m:ME}{D:Ends}(h:tS X (sSet i m) D σ H):tAsg (tM X m) (GM i) D σ H:=by
 obtain⟨M,E,hl,fr,k⟩:=h;unfold sSet at k;refine yK (T0:=[]) hl fr ?_;cases ea:m E with
 |stuck=>rw[ea]at k;exact k
 |exc x E1=>rw[ea]at k;exact λH' g=>k σ H' g
 |ok p =>
  obtain⟨r,E1⟩:=p;rw[ea]at k;intro v H' g;dsimp only at k;cases ep:Yj i r E1 with
  |stuck=>rw[ep]at k;exact k.elim
  |exc _ _=>rw[ep]at k;exact k.elim
  |ok E2 =>
   rw[ep]at k;exact k _ H' (uO g ep)
theorem zFO{i:Nat}{x:Str}{e:Expr}{m:ME}{pos pos':Pos}(hN:X.N.Nodup)(hi:X.N[i]?=some x)(hx:Loc X.env.scope x)(he:EOk X e m)(hs:swapsWith e (some (.Name x pos')) pos.line X.env=pure false:=by rfl)
  (hf:X.fn x=true\/X.env.scope.names.lookup x=some .local:=by first|exact .inl rfl|exact .inr rfl|assumption):SOk X (.Assign [.Name x pos'] e pos) (sSet i m) :=
 yz (ps_set hN hi hx he hs hf) λD σ H=>Qe
def sRet(m:ME):MS:=λE=>match m E with
 | .stuck=>.stuck
 | .exc x E1=>.exc x E1
 | .ok (r,E1)=>.ok (.ret r,E1)
theorem ret_run{m:ME}{D:Ends}(h:tS X (sRet m) D σ H):tRet (tM X m) D σ H:=by
 obtain⟨M,E,hl,fr,k⟩:=h;unfold sRet at k;refine yK (T0:=[]) hl fr ?_;cases ea:m E with
 |stuck=>rw[ea]at k;exact k
 |exc x E1=>rw[ea]at k;exact λH' g=>k σ H' g
 |ok p=>rw[ea]at k;exact λv H' g=>k v σ H' g
theorem sk_ret{e:Expr}{m:ME}{pos:Pos}(he:EOk X e m):SOk X (.Return (some e) pos) (sRet m):=yz (ps_ret he) λD σ H=>ret_run
def zD3(i:Nat):ME:=λE=>match E[i]? with
 |some (.own ds)=>.ok (.own ds,E.set i .emp)
 |some (.val d)=>.ok (.val d,E)
 |_=>.stuck
theorem ok_move(i:Nat){x:Str}{pos:Pos}(h:PE X (.Name x pos) (zBU i)):EOk X (.Name x pos) (zD3 i):=yN h λσ H Q ⟨M,E,hl,f,k⟩=>by
 unfold zD3 at k;cases e:E[i]? with
 |none=>rw[e]at k;exact k.elim
 |some sl =>
 rw[e]at k;cases sl with
 |emp=>exact k.elim
 |par ds=>exact k.elim
 |val d =>
  obtain⟨o,h1,h2⟩:=wf hl e;obtain⟨v,rfl,r⟩:=f.val o d h2;exact⟨v,h1,k v H ⟨hl,f.add r,Step.refl.add,PKp.refl⟩⟩
 |own ds =>
  obtain⟨o,h1,h2⟩:=Y5 hl e;obtain⟨a,xs,rfl,q1,q2,q3⟩:=f.own o (.own ds) ds (mem_of_getElem? h2) rfl;refine⟨.ref a,h1,k _ H ?_⟩;have hlt:i<(σ.zip E).length:=(List.getElem?_eq_some_iff.mp h2).1;have p:(σ.zip E).Perm ((some (.ref a),R.slot (.own ds))::(σ.zip E).eraseIdx i):=by
   have:=yM (some (V.ref a),Slot.own ds) (σ.zip E) i hlt;rw[Zy h2]at this;exact this
  have ez:σ.zip (E.set i .emp)=(σ.zip E).set i (some (.ref a),.emp):=yd .emp h1;have p2:((some (V.ref a),R.slot (.own ds))::σ.zip (E.set i .emp)).Perm ((some (V.ref a),Slot.emp)::((some (V.ref a),R.slot (.own ds))::(σ.zip E).eraseIdx i)):=by
   rw[ez];exact((yM _ _ _ hlt).cons _).trans (List.Perm.swap _ _ _)
  have f1:=f.perm p;have f2:FR X.K X.mg M H ((some (V.ref a),Slot.emp)::((some (V.ref a),R.slot (.own ds))::(σ.zip E).eraseIdx i)):={
   val:=λo d q=>by
    rw[zBt];rcases mem_cons.mp q with q|q
    ·cases q
    ·exact f1.val o d q
   own:=λo s ds' q e'=>by
    rw[zBt];rcases mem_cons.mp q with q|q
    ·cases q;cases e'
    ·exact f1.own o s ds' q e'
   nd:=by rw[yY];exact f1.nd
   mal:=f1.mal}
  refine⟨by simp[hl],f2.perm p2.symm,?_,zFF (ds0:=[]) e (λds' q=>by cases q) _⟩;refine Step.weak Step.refl λb hb=>?_
  have hb':=zE p2 b hb;rw[yY]at hb';exact zE p.symm b hb'
def sDrop(m:ME):MS:=λE=>match m E with
 | .stuck=>.stuck
 | .exc x E1=>.exc x E1
 | .ok (_,E1)=>.ok (.nx,E1)
theorem zD4{m:ME}{D:Ends}(h:tS X (sDrop m) D σ H):tDrop (tM X m) D σ H:=by
 obtain⟨M,E,hl,fr,k⟩:=h;unfold sDrop at k;refine yK (T0:=[]) hl fr ?_;cases ea:m E with
 |stuck=>rw[ea]at k;exact k
 |exc x E1=>rw[ea]at k;exact λH' g=>k σ H' g
 |ok p=>rw[ea]at k;exact λv H' g=>k σ H' g.dropAll
theorem sk_drop{e:Expr}{m:ME}{pos:Pos}(he:EOk X e m)(hs:swapsWith e none pos.line X.env=pure false:=by rfl):SOk X (.Expr e pos) (sDrop m):=yz (zBW he hs) λD σ H=>zD4
end
end DV
namespace DV
open PySem L2
theorem wB{α β:Type}{f:α->Option β}{x y:α}(h:f y=f x):∀{l:List α} {i:Nat},l[i]?=some x->(l.set i y).filterMap f=l.filterMap f
 | [],_,e=>by simp at e
 |a::l,0,e=>by
  simp at e;subst e
  simp only[List.set_cons_zero,filterMap_cons,h]
 |a::l,i+1,e=>by
  simp at e
  simp only[List.set_cons_succ,filterMap_cons,wB h e]
section
variable{X:Cx}{K:PySem.W.Frag}{mg:Str->Option Value}{σ:St}{M:Addr->Prop}{E:zP}{H:Hp}{T0 Z:Fz}
def Slot.put:Slot->List D->Slot
 | .own _,es=>.own es
 | .par _,es=>.par es
 |s,_=>s
theorem uP{p:Addr}{s:Slot}{ds es:List D}(hs:s.list?=some ds):QZ (some (.ref p),s.put es)=QZ (some (.ref p),s)/\(s.put es).list?=some es:=by
 cases s<;>simp[Slot.list?]at hs<;>exact⟨rfl,rfl⟩
theorem FR.mut(h:FR K mg M H Z){i:Nat}{p:Addr}{s:Slot}{ds es:List D}{ys:List V}(hi:Z[i]?=some (some (.ref p),s))(hs:s.list?=some ds)(r:Reps K mg (Hm (Mo M Z) H) es ys) :
  FR K mg M (upd H p (.lst ys)) (Z.set i (some (.ref p),s.put es))/\Step M H Z (upd H p (.lst ys)) (Z.set i (some (.ref p),s.put es)):=by
 have eo:yV (Z.set i (some (.ref p),s.put es))=yV Z:=wB (uP hs).1 hi;have em:Mo M (Z.set i (some (.ref p),s.put es))=Mo M Z:=by unfold Mo;rw[eo]
 have hp:p∈yV Z:=wc (mem_of_getElem? hi) hs rfl;obtain⟨xs0,hH,hM⟩:=h.ownAt hp;have ehm:Hm (Mo M Z) (upd H p (.lst ys))=Hm (Mo M Z) H:=by
  funext b
  unfold Hm;by_cases hb:Mo M Z b
  ·simp[hb]
  ·have:b≠p:=λe=>hb (by subst e;exact .inr hp)
   simp[hb,z9 this]
 have mem:∀{q:Option V×Slot},q∈Z.set i (some (.ref p),s.put es)->q=(some (.ref p),s.put es)\/q∈Z:=λ{q} hq=>(List.mem_or_eq_of_mem_set hq).symm
 have hlt:i<Z.length:=(List.getElem?_eq_some_iff.mp hi).1;have nd2:(yV (Z.eraseIdx i)).Nodup/\p∉yV (Z.eraseIdx i):=by
  have pz:Z.Perm ((some (.ref p),s)::Z.eraseIdx i):=by
   have:=yM (some (V.ref p),s) Z i hlt;rw[Zy hi]at this;exact this
  have nd:=(pz.filterMap QZ).nodup_iff.mp h.nd;have e:List.filterMap QZ ((some (V.ref p),s)::Z.eraseIdx i)=p::yV (Z.eraseIdx i):=by
   cases s<;>simp[Slot.list?]at hs<;>rfl
  rw[e]at nd;exact⟨(nodup_cons.mp nd).2,(nodup_cons.mp nd).1⟩
 have pz2:(Z.set i (some (.ref p),s.put es)).Perm ((some (.ref p),s.put es)::Z.eraseIdx i):=yM _ _ _ hlt;refine⟨⟨λo d q=>?_,λo s' ds' q e=>?_,by rw[eo];exact h.nd,λb q=>?_⟩,⟨by rw[em,ehm];exact Y4.refl _,λb o m e=>?_⟩⟩
 ·rw[em,ehm]
  rcases mem q with q|q
  ·exfalso
   cases s<;>simp[Slot.list?]at hs<;>cases q
  ·exact h.val o d q
 ·rw[em,ehm]
  rcases mem_cons.mp (pz2.mem_iff.mp q)with q'|q'
  ·cases q'
   rw[(uP (p:=p) hs).2]at e;cases e;exact⟨p,ys,rfl,j9,hM,r⟩
  ·have q'':(o,s')∈Z:=(List.eraseIdx_sublist Z i).subset q'
   obtain⟨a,xs,e1,e2,e3,rr⟩:=h.own o s' ds' q'' e;have ne:a≠p:=λz=>by
    subst z;exact nd2.2 (wc q' e e1)
   exact⟨a,xs,e1,by rw[z9 ne];exact e2,e3,rr⟩
 ·obtain⟨o,e⟩:=h.mal b q
  by_cases z:b=p
  ·subst z;exact⟨_,j9⟩
  ·exact⟨o,by rw[z9 z];exact e⟩
 ·have ne:b≠p:=λz=>hM (by subst z;exact m)
  rw[z9 ne];exact e
theorem Got.mut{σ1:St}{E1:zP}{H1:Hp}{T:Fz}(g:Got K mg M σ E H [] σ1 E1 H1 T){i:Nat}{s:Slot}{ds es:List D}{ys:List V}(hi:E1[i]?=some s)(hs:s.list?=some ds)(r:Reps K mg (Hm (Mo M (σ1.zip E1)) H1) es ys) :
  ∃p,σ1[i]?=some (some (.ref p))/\Got K mg M σ E H [] σ1 (E1.set i (s.put es)) (upd H1 p (.lst ys)) []:=by
 obtain⟨o,h1,h2⟩:=Y5 g.len hi;obtain⟨p,xs,rfl,_⟩:=g.frame.own o s ds (mem_of_getElem? h2) hs;refine⟨p,h1,?_⟩;obtain⟨f,st⟩:=FR.mut g.frame h2 hs r;have e:=yd (E:=E1) (s.put es) h1;rw[<- e]at f st;refine⟨by simp[g.len],f,(g.st.weak (zC (sublist_append_right _ _))).trans st,g.pk.trans λj ds' q=>?_⟩;by_cases ej:i=j
 ·subst ej
  rw[hi]at q;cases q;have hlt:i<E1.length:=(List.getElem?_eq_some_iff.mp hi).1;exact⟨⟨es,by rw[getElem?_set_self hlt];rfl⟩,rfl⟩
 ·exact⟨⟨ds',by rw[getElem?_set_ne ej];exact q⟩,rfl⟩
theorem zB3{i:Nat}{s:Slot}(hl:E.length=σ.length)(f:FR K mg M H (σ.zip E))(h:E[i]?=some s)(hs:s≠.emp):∃v,σ[i]?=some (some v):=by
 obtain⟨o,h1,h2⟩:=wf hl h;cases s with
 |emp=>exact absurd rfl hs
 |val d=>obtain⟨v,rfl,_⟩:=f.val o d h2;exact⟨v,h1⟩
 |own ds=>obtain⟨a,_,rfl,_⟩:=f.own o _ ds h2 rfl;exact⟨_,h1⟩
 |par ds=>obtain⟨a,_,rfl,_⟩:=f.own o _ ds h2 rfl;exact⟨_,h1⟩
def WT:Option Slot->Bool
 |none=>true
 |some .emp=>true
 |_=>false
theorem Qf{o:Option Slot}(h:WT o=false):∃s,o=some s/\s≠.emp:=by
 cases o with
 |none=>cases h
 |some s=>cases s<;>simp[WT]at h<;>exact⟨_,rfl,by intro q;cases q⟩
def ixS:Slot->Int->Option D
 | .own ds,i=>atI ds i
 | .par ds,i=>atI ds i
 | .val (.lst ds),i=>atI ds i
 |_,_=>none
def eIxO(i:Nat)(m:ME):ME:=λE=>if WT E[i]?=true then .stuck else match m E with
 | .stuck=>.stuck
 | .exc x E1=>.exc x E1
 | .ok (.val (.int k),E1)=>match E1[i]? with
  |some s=>match ixS s k with
   |some d=>.ok (.val d,E1)
   |none=>.stuck
  |none=>.stuck
 |_=>.stuck
theorem ixO_run{i:Nat}{m:ME}{Q:VK}(h:tM X (eIxO i m) σ H Q):tOp (rIxL X.K) (zBU i) (tM X m) σ H Q:=by
 obtain⟨M,E,hl,fr,k⟩:=h;unfold eIxO at k;cases em:WT E[i]? with
 |true=>rw[em]at k;exact k.elim
 |false =>
  rw[em]at k;obtain⟨s,hs1,hs2⟩:=Qf em;obtain⟨v,hv⟩:=zB3 hl fr hs1 hs2;refine⟨v,hv,?_⟩;refine yK (T0:=[]) hl fr ?_;simp only[Bool.false_eq_true,if_false]at k;cases ea:m E with
  |stuck=>rw[ea]at k;exact k
  |exc x E1=>rw[ea]at k;exact k
  |ok p =>
   obtain⟨r,E1⟩:=p;rw[ea]at k;cases r with
   |own ds=>exact k.elim
   |val d =>
    cases d with
    |int n =>
     intro y H' g;dsimp only at k;cases e1:E1[i]? with
     |none=>rw[e1]at k;exact k.elim
     |some s1 =>
      rw[e1]at k;dsimp only at k;cases e2:ixS s1 n with
      |none=>rw[e2]at k;exact k.elim
      |some d =>
       rw[e2]at k;have f:=g.frame;have fin:∀{w:V},Rep X.K X.mg (Hm (Mo M (σ.zip E1)) H') d w->Q w H':=λ{w} rw'=>k w H' (g.more (T:=[(some w,.val d)]) (f.add rw') Step.refl.add)
       obtain⟨o,h1,h2⟩:=wf g.len e1;have ho:o=some v:=by rw[hv]at h1;exact(Option.some.inj h1).symm
       subst ho;have key:∀{ds:List D},s1.list?=some ds->atI ds n=some d->rIxL X.K v y H' Q:=λ{ds} hl1 ha=>by
        obtain⟨a,xs,ev,q1,_,q3⟩:=f.own _ s1 ds h2 hl1;cases ev;obtain⟨w,a1,a2⟩:=Zz q3 ha;exact⟨a,xs,n,w,rfl,zQ g.rep,SqL.of q1,a1,fin a2⟩
       cases s1 with
       |emp=>cases e2
       |own ds=>exact key rfl e2
       |par ds=>exact key rfl e2
       |val dd =>
        cases dd with
        |lst ds =>
         obtain⟨v',ev,rr⟩:=f.val _ _ h2;cases ev;obtain⟨a,xs,rfl,q1,q2⟩:=zZ rr;obtain⟨w,a1,a2⟩:=Zz q2 e2;exact⟨a,xs,n,w,rfl,zQ g.rep,zO.seq q1,a1,fin a2⟩
        |_=>cases e2
    |_=>exact k.elim
theorem ok_ixO(i:Nat){x:Str}{b:Expr}{m:ME}{p pos:Pos}(hv:PE X (.Name x p) (zBU i))(hb:EOk X b m)(hs:uG b):EOk X (.Subscript (.Name x p) b pos) (eIxO i m) :=
 yN (pe_ix zBo hv hb hs) λσ H Q=>ixO_run
def vd(i:Nat)(mi mv:ME):MS:=λE=>if WT E[i]?=true then .stuck else match mv E with
 | .stuck=>.stuck
 | .exc x E1=>.exc x E1
 | .ok (r,E1)=>match mi E1 with
  | .stuck=>.stuck
  | .exc x E2=>.exc x E2
  | .ok (.val (.int k),E2)=>match E2[i]? with
   |none=>.stuck
   |some s=>match s.list? with
    |none=>.stuck
    |some ds=>match ixN ds.length k with
     |none=>.stuck
     |some j=>.ok (.nx,E2.set i (s.put (ds.set j r.d)))
  |_=>.stuck
theorem zB4{i:Nat}{mi mv:ME}{D:Ends}(h:tS X (vd i mi mv) D σ H):tAsg (tM X mv) (gSub (zBU i) (tM X mi) rSetL) D σ H:=by
 obtain⟨M,E,hl,fr,k⟩:=h;unfold vd at k;cases em:WT E[i]? with
 |true=>rw[em]at k;exact k.elim
 |false =>
  rw[em]at k;obtain⟨s,hs1,hs2⟩:=Qf em;obtain⟨v,hv⟩:=zB3 hl fr hs1 hs2;refine yK (T0:=[]) hl fr ?_;simp only[Bool.false_eq_true,if_false]at k;cases ea:mv E with
  |stuck=>rw[ea]at k;exact k
  |exc x E1=>rw[ea]at k;exact λH' g=>k σ H' g
  |ok p =>
   obtain⟨r,E1⟩:=p;rw[ea]at k;intro y H1 g1;refine⟨v,hv,?_⟩;refine yK (T0:=[(some y,r.slot)]) g1.len g1.fr ?_;dsimp only at k;cases eb:mi E1 with
   |stuck=>rw[eb]at k;exact k
   |exc x E2=>rw[eb]at k;exact λH' g=>k σ H' (g1.trans' g).dropAll
   |ok p =>
    obtain⟨r2,E2⟩:=p;rw[eb]at k;cases r2 with
    |own ds=>exact k.elim
    |val d =>
     cases d with
     |int n =>
      intro z H2 g2;have g:=g1.trans' g2;dsimp only at k;cases e1:E2[i]? with
      |none=>rw[e1]at k;exact k.elim
      |some s1 =>
       rw[e1]at k;dsimp only at k;cases e2:s1.list? with
       |none=>rw[e2]at k;exact k.elim
       |some ds =>
        rw[e2]at k;dsimp only at k;cases e3:ixN ds.length n with
        |none=>rw[e3]at k;exact k.elim
        |some j =>
         rw[e3]at k;have rp:=Got.reps (vs:=[z,y]) (rs:=[.val (.int n),r]) rfl g;simp only[List.map,Reps]at rp;obtain⟨z',_,q1,rz,y',_,q2,ry,_⟩:=rp;cases q1;cases q2;obtain⟨o,h1,h2⟩:=wf g.len e1;obtain⟨a,xs,ev,w1,_,w3⟩:=g.frame.own _ s1 ds h2 e2;subst ev;have ev:v=.ref a:=by rw[hv]at h1;exact Option.some.inj (Option.some.inj h1)
         subst ev;obtain⟨p,hp,g'⟩:=g.mut e1 e2 (w3.set j ry);have ep:p=a:=by rw[h1]at hp;cases hp;rfl
         subst ep;exact⟨p,xs,n,j,rfl,zQ rz,w1,by rw[w3.length];exact e3,k σ _ g'⟩
     |_=>exact k.elim
theorem zD5(i:Nat){x:Str}{b e:Expr}{mi mv:ME}{p p1 pos:Pos}(hv:PE X (.Name x p) (zBU i))(hb:EOk X b mi)(he:EOk X e mv)
  (ha:∀v,assign (.Subscript (.Name x p) b p1) X.env v=(do
   let ov <- holding [v] (eval (.Name x p) X.env)
   let iv <- holding [v,ov] (eval b X.env)
   standAt p1
   holding [v,ov,iv] (setItem ov iv v)
   release [v,ov,iv] []):=by intro _;rfl) (hs:swapsWithSole [.Subscript (.Name x p) b p1] e pos.line X.env=pure false:=by rfl):SOk X (.Assign [.Subscript (.Name x p) b p1] e pos) (vd i mi mv) :=
 yz (zE6 he (pg_sub hv hb zDl ha) hs) λD σ H=>zB4
def sApp(i:Nat)(m:ME):MS:=λE=>match E[i]? with
 |none=>.stuck
 |some s0=>match s0.list? with
  |none=>.stuck
  |some _=>match m E with
   | .stuck=>.stuck
   | .exc x E1=>.exc x E1
   | .ok (r,E1)=>match E1[i]? with
    |none=>.stuck
    |some s=>match s.list? with
     |none=>.stuck
     |some ds=>if ds.length<cap then .ok (.nx,E1.set i (s.put (ds++[r.d])))else .stuck
theorem app_run{i:Nat}{m:ME}{D:Ends}(h:tS X (sApp i m) D σ H):tDrop (tBM X.K "list" zBp (zBU i) (tCons (tM X m) tNil)) D σ H:=by
 obtain⟨M,E,hl,fr,k⟩:=h;unfold sApp at k;cases e0:E[i]? with
 |none=>rw[e0]at k;exact k.elim
 |some s0 =>
  rw[e0]at k;dsimp only at k;cases e00:s0.list? with
  |none=>rw[e00]at k;exact k.elim
  |some ds0 =>
   rw[e00]at k;obtain⟨o,h1,h2⟩:=wf hl e0;obtain⟨a,xs,ev,w1,_,w3⟩:=fr.own _ s0 ds0 h2 e00;subst ev;refine⟨.ref a,h1,.inl ⟨rfl,xs,SqL.of w1⟩,?_⟩;refine yK (T0:=[]) hl fr ?_;dsimp only at k;cases ea:m E with
   |stuck=>rw[ea]at k;exact k
   |exc x E1=>rw[ea]at k;exact λH' g=>k σ H' g
   |ok p =>
    obtain⟨r,E1⟩:=p;rw[ea]at k;intro y H1 g;dsimp only at k;cases e1:E1[i]? with
    |none=>rw[e1]at k;exact k.elim
    |some s =>
     rw[e1]at k;dsimp only at k;cases e2:s.list? with
     |none=>rw[e2]at k;exact k.elim
     |some ds =>
      rw[e2]at k;dsimp only at k;by_cases hc:ds.length<cap
      ·rw[if_pos hc]at k
       obtain⟨o,h1',h2'⟩:=wf g.len e1;obtain⟨a',ys,ev,q1,_,q3⟩:=g.frame.own _ s ds h2' e2;subst ev;have ea':a'=a:=by rw[h1]at h1';cases h1';rfl
       subst ea';obtain⟨p,hp,g'⟩:=g.mut e1 e2 (q3.append (Reps.cons g.rep Reps.nil));have ep:p=a':=by rw[h1]at hp;cases hp;rfl
       subst ep;exact⟨p,ys,y,rfl,rfl,q1,by rw[q3.length];exact lt_of_lt_of_le hc (Yh (le_refl _)),k σ _ g'⟩
      ·rw[if_neg hc]at k;exact k.elim
theorem sk_app(i:Nat){x:Str}{e:Expr}{m:ME}{p apos cpos pos:Pos}(hv:PE X (.Name x p) (zBU i))(he:EOk X e m)
  (hbase:attributeBase (.Name x p) "append" X.env (eval (.Name x p) X.env)=eval (.Name x p) X.env:=by rfl)
  (hfew:((backTo cpos (starEach (e::[]) X.env)).all (λx=>!x.1)&&(backToKw cpos (keywordEach [] X.env)).all (λx=>x.1.isSome)
   && decide ((e::([]:List Expr)).length+([]:List Keyword).length+(if([]:List Keyword).isEmpty then 0 else 1)<30))=true:=by rfl)
  (hline:(apos.endLine==cpos.line)=true:=by rfl) (hs:starEach (e::[]) X.env=(false,eval e X.env)::starEach [] X.env:=by rfl) (hplain:(backTo cpos (starEach [] X.env)).any (·.1)=false:=by rfl)
  (hsw:swapsWith (.Call (.Attribute (.Name x p) "append" apos) [e] [] cpos) none pos.line X.env=pure false:=by rfl):SOk X (.Expr (.Call (.Attribute (.Name x p) "append" apos) [e] [] cpos) pos) (sApp i m) :=
 yz (zBW (pe_bm PySem.F.plainAttrs_list PySem.F.slot_list_append PySem.F.type_list_append WN hv (J7 he GO hs) hbase hfew hline hs hplain) hsw) λD σ H=>app_run
end
end DV
namespace DV
open PySem L2
section
variable{X:Cx}{K:PySem.W.Frag}{mg:Str->Option Value}{σ:St}{M:Addr->Prop}{E:zP}{H:Hp}{T0 Z:Fz}
abbrev MG:=D->zP->Out zP
def GOk(X:Cx)(g:TG)(tg:MG):Prop:=∀(M:Addr->Prop) (σ:St) (E:zP) (H:Hp) (T0:Fz) (x:V) (d:D) (E':zP) (Q:St->Hp->Prop),E.length=σ.length->FR X.K X.mg M H ((some x,.val d)::(T0++σ.zip E))->tg d E=.ok E' ->
 (∀σ',Got X.K X.mg M σ E H T0 σ' E' H []->Q σ' H)->g x σ H Q
def gN(i:Nat):MG:=λd E=>Yj i (.val d) E
theorem go_name(i:Nat):GOk X (GM i) (gN i):=λM σ E H T0 x d E' Q hl f e k =>
 k _ (uO (σ1:=σ) (E1:=E) (H1:=H) (r:=.val d) (v:=x) ⟨hl,f,Step.refl.add,PKp.refl⟩ e)
def gNs:List Nat->List D->zP->Out zP
 | [],[],E=>.ok E
 |i::is,d::ds,E=>match Yj i (.val d) E with
  | .ok E1=>gNs is ds E1
  |_=>.stuck
 |_,_,_=>.stuck
def gT(is:List Nat):MG:=λd E=>match d with
 | .tup ds=>gNs is ds E
 |_=>.stuck
def YA:List Nat->TGs
 | []=>gNil
 |i::is=>gCons (GM i) (YA is)
theorem Yk:∀(is:List Nat) (ds:List D) (xs:List V) {M:Addr->Prop} {σ0 σ:St} {E0 E E':zP} {H:Hp} {T0:Fz} {a:Addr} {ts:List D} {Q:St->Hp->Prop},
  Got X.K X.mg M σ0 E0 H T0 σ E H []->Reps X.K X.mg (Hm (Mo M (T0++σ.zip E)) H) ds xs->gNs is ds E=.ok E'->(∀σ',Got X.K X.mg M σ0 E0 H T0 σ' E' H []->Q σ' H)->YA is xs σ H Q
 | [],[],xs,M,σ0,σ,E0,E,E',H,T0,a,ts,Q,g,r,e,k=>by
  cases e;simp only[Reps]at r;exact⟨r,k σ g⟩
 | [],d::ds,xs,M,σ0,σ,E0,E,E',H,T0,a,ts,Q,g,r,e,k=>by cases e
 |i::is,[],xs,M,σ0,σ,E0,E,E',H,T0,a,ts,Q,g,r,e,k=>by cases e
 |i::is,d::ds,xs,M,σ0,σ,E0,E,E',H,T0,a,ts,Q,g,r,e,k=>by
  simp only[Reps]at r;obtain⟨x,YQ,rfl,rx,rr⟩:=r;simp only[gNs]at e;cases e1:Yj i (.val d) E with
  |stuck=>rw[e1]at e;cases e
  |exc _ _=>rw[e1]at e;cases e
  |ok E1 =>
   rw[e1]at e;refine⟨x,YQ,rfl,?_⟩;have g1:Got X.K X.mg M σ0 E0 H T0 σ E H [(some x,R.slot (.val d))]:=⟨g.len,g.fr.add rx,g.st.add,g.pk⟩;have g2:=uO g1 e1;refine Yk is ds YQ (a:=a) (ts:=ts) g2 (rr.mono ?_) e k;refine jy (Ye λb hb=>?_);have st:=g2.fr
   -- the stored slot is a value: it yV nothing
   unfold Yj at e1;cases e2:E[i]? with
   |none=>rw[e2]at e1;cases e1
   |some sl =>
    rw[e2]at e1;have e3:E1=E.set i (.val d):=by cases sl<;>cases e1<;>rfl
    subst e3;have hi:i<E.length:=(List.getElem?_eq_some_iff.mp e2).1;have hz:i<(σ.zip E).length:=by rw[List.length_zip];have:=g.len;omega
    rw[uL]at hb;rw[zU]at hb ⊢;rcases mem_append.mp hb with hb|hb
    ·exact mem_append_left _ hb
    ·refine mem_append_right _ ?_
     have:=zE (yM _ _ _ hz) b hb;rw[zu]at this;exact zC (List.eraseIdx_sublist _ _) b this
theorem zFP{n:Nat}(is:List Nat)(hn:is.length=n):GOk X (gTup X.K n (YA is)) (gT is):=λM σ E H T0 x d E' Q hl f e k=>by
 cases d with
 |tup ds =>
  obtain⟨v,ev,r⟩:=f.val _ _ mem_cons_self;cases ev;obtain⟨a,xs,rfl,h1,h2⟩:=ze r;rw[Jx]at h2;have hlen:ds.length=is.length:=by
   have:∀(is:List Nat) (ds:List D) (E E':zP),gNs is ds E=.ok E'->ds.length=is.length:=by
    intro is
    induction is with
    |nil=>intro ds E E' h;cases ds with|nil=>rfl|cons d ds=>cases h
    |cons i is ih =>
     intro ds E E' h;cases ds with
     |nil=>cases h
     |cons d ds =>
      simp only[gNs]at h;cases e1:Yj i (.val d) E with
      |ok E1=>rw[e1]at h;simp[ih ds E1 E' h]
      |stuck=>rw[e1]at h;cases h
      |exc _ _=>rw[e1]at h;cases h
   exact this is ds E E' e
  refine⟨a,xs,rfl,yR zO h1,by rw[h2.length,hlen,hn],?_⟩;exact Yk is ds xs (a:=a) (ts:=[]) (Got.refl hl f.tail) h2 e k
 |_=>cases e
def W6(tg:MG)(body:MS):List D->zP->Out (Fl×zP)
 | [],E=>.ok (.nx,E)
 |d::ds,E=>match tg d E with
  | .ok E1=>match body E1 with
   | .ok (.nx,E2)=>W6 tg body ds E2
   | .ok (.ct,E2)=>W6 tg body ds E2
   | .ok (.bk,E2)=>.ok (.nx,E2)
   | .ok (.ret r,E2)=>.ok (.ret r,E2)
   | .exc x E2=>.exc x E2
   | .stuck=>.stuck
  |_=>.stuck
def Fin(X:Cx)(M:Addr->Prop)(σ:St)(E:zP)(H:Hp)(D:Ends)(o:Out (Fl×zP)):Prop:=match o with
 | .stuck=>False
 | .ok (.nx,E')=>∀σ' H',Got X.K X.mg M σ E H [] σ' E' H' []->D.nx σ' H'
 | .ok (.bk,E')=>∀σ' H',Got X.K X.mg M σ E H [] σ' E' H' []->D.bk σ' H'
 | .ok (.ct,E')=>∀σ' H',Got X.K X.mg M σ E H [] σ' E' H' []->D.ct σ' H'
 | .ok (.ret r,E')=>∀v σ' H',Got X.K X.mg M σ E H [] σ' E' H' [(some v,r.slot)]->D.rt v H'
 | .exc x E'=>∀σ' H',Got X.K X.mg M σ E H [] σ' E' H' []->XE X σ' H' x
theorem Got.dropT{K:PySem.W.Frag}{mg:Str->Option Value}{M:Addr->Prop}{σ σ1:St}{E E1:zP}{H H1:Hp}{T T':Fz}(a:Got K mg M σ E H [] σ1 E1 H1 (T++T')):Got K mg M σ E H [] σ1 E1 H1 T where
 len:=a.len
 fr:=a.fr.sub (by rw[append_assoc];exact(sublist_append_right _ _).append_left _)
 st:=a.st.weak (zC (by rw[append_assoc];exact(sublist_append_right _ _).append_left _))
 pk:=a.pk
theorem uQ{tg:MG}{body:MS}{g:TG}{D:Ends}{d:DV.D}{ds:List DV.D}{σ1:St}{E1:zP}{H1:Hp}{T:Fz}{x:V}{P:St->Hp->Prop}(hg:GOk X g tg)
  (g1:Got X.K X.mg M σ E H [] σ1 E1 H1 T) (rx:Rep X.K X.mg (Hm (Mo M (T++σ1.zip E1)) H1) d x) (fin:Fin X M σ E H D (W6 tg body (d::ds) E1))
  (next:∀σ2 E2 H2,Got X.K X.mg M σ E H [] σ2 E2 H2 T->Step M H1 (T++σ1.zip E1) H2 (T++σ2.zip E2)->Fin X M σ E H D (W6 tg body ds E2)->P σ2 H2) :
  g x σ1 H1 λσ2 H2=>tS X body {D with nx:=P,ct:=P,bk:=D.nx} σ2 H2:=by
 simp only[W6]at fin;cases e1:tg d E1 with
 |stuck=>rw[e1]at fin;exact fin.elim
 |exc _ _=>rw[e1]at fin;exact fin.elim
 |ok E2 =>
  rw[e1]at fin;dsimp only at fin;refine hg M σ1 E1 H1 T x d E2 _ g1.len (g1.fr.add rx) e1 λσ2 g2=>?_
  have g12:=g1.trans' g2;refine vc (T0:=T) g2.len g2.fr ?_;cases e2:body E2 with
  |stuck=>rw[e2]at fin;exact fin
  |exc y E3=>rw[e2]at fin;exact λσ' H' g'=>fin σ' H' (g12.trans' g').dropAll
  |ok p =>
   obtain⟨fl,E3⟩:=p;rw[e2]at fin;cases fl with
   |nx=>exact λσ' H' g'=>next σ' E3 H' (g12.trans' g') (g2.st.trans g'.st) fin
   |ct=>exact λσ' H' g'=>next σ' E3 H' (g12.trans' g') (g2.st.trans g'.st) fin
   |bk=>exact λσ' H' g'=>fin σ' H' (g12.trans' g').dropAll
   |ret r=>exact λv σ' H' g'=>fin v σ' H' (g12.trans' g').dropT
def sForL(m:ME)(tg:MG)(body:MS):MS:=λE=>match m E with
 | .stuck=>.stuck
 | .exc x E1=>.exc x E1
 | .ok (r,E1)=>match r.d with
  | .lst ds=>W6 tg body ds E1
  |_=>.stuck
theorem zAL{m:MS}{D:Ends}(h:tS X m D σ H):∃M E,E.length=σ.length/\FR X.K X.mg M H (σ.zip E)/\Fin X M σ E H D (m E):=h
theorem zD6{m:ME}{tg:MG}{g:TG}{body:MS}{D:Ends}(hg:GOk X g tg)(h:tS X (sForL m tg body) D σ H):tFor (iList X.K (tM X m)) g (tS X body) D σ H:=by
 obtain⟨M,E,hl,fr,k⟩:=zAL h;unfold sForL at k;refine yK (T0:=[]) hl fr ?_;cases ea:m E with
 |stuck=>rw[ea]at k;exact k
 |exc x E1=>rw[ea]at k;exact λH' g=>k σ H' g
 |ok p =>
  obtain⟨r,E1⟩:=p;rw[ea]at k;intro v H1 g0;have g1:Got X.K X.mg M σ E H [] σ E1 H1 [(some v,.val r.d)]:=⟨g0.len,g0.fr.frz,g0.st.frz,g0.pk⟩;dsimp only at k;cases ed:r.d with
  |lst ds =>
   rw[ed]at k g1;have rl:=g0.rep;rw[ed]at rl;obtain⟨a,xs,rfl,q1,q2⟩:=zZ rl;refine⟨a,rfl,⟨xs,zO.seq q1⟩,?_⟩;have em:∀(σ':St) (E':zP),Mo M ([(some (V.ref a),Slot.val (.lst ds))]++σ'.zip E')=Mo M (σ'.zip E'):=λσ' E'=>Jx _ _ _ _
   refine zDd (K:=X.K) (a:=a) (xs:=xs) (λi σ1 H2=>∃E2,Got X.K X.mg M σ E H [] σ1 E2 H2 [(some (.ref a),.val (.lst ds))]/\SqL X.K (Hm (Mo M (σ1.zip E2)) H2) a xs/\Reps X.K X.mg (Hm (Mo M (σ1.zip E2)) H2) ds xs/\Fin X M σ E H D (W6 tg body (ds.drop i) E2))
    ⟨E1,g1,q1,q2,k⟩ (λi σ' H' _ ⟨E2,_,q,_⟩=>zO.seq q) ?_ ?_
   ·rintro i x σ1 H2 hx ⟨E2,g2,s2,r2,fin⟩
    obtain⟨d,hd,rx⟩:=r2.get hx;have ed:ds.drop i=d::ds.drop (i+1):=by
     obtain⟨hi,rfl⟩:=List.getElem?_eq_some_iff.mp hd;exact drop_eq_getElem_cons hi
    rw[ed]at fin;refine uQ hg g2 (by rw[em];exact rx) fin λσ3 E3 H3 g3 st fin3=>?_
    have sm:=st.same;rw[em,em]at sm;exact⟨E3,g3,sm.seq s2,r2.mono sm,fin3⟩
   ·rintro σ1 H2 ⟨E2,g2,s2,r2,fin⟩
    rw[r2.length,drop_length]at fin;exact fin σ1 H2 g2.dropAll
  |_=>rw[ed]at k;exact k.elim
def zM(lo:Int):Nat->List D
 |0=>[]
 |n+1=>.int lo::zM (lo+1) n
theorem yf(lo:Int):∀n,(zM lo n).length=n
 |0=>rfl
 |n+1=>by simp[zM,yf (lo+1) n]
theorem wm:∀(n i:Nat) (lo:Int),i<n->(zM lo n).drop i=.int (lo+i)::(zM lo n).drop (i+1)
 |0,_,_,h=>by omega
 |n+1,0,lo,_=>by simp[zM]
 |n+1,i+1,lo,h=>by
  have:=wm n i (lo+1) (by omega);simp only[zM,List.drop_succ_cons];rw[this];congr 2;omega
def sForR1(m:MA)(tg:MG)(body:MS):MS:=λE=>match m E with
 | .stuck=>.stuck
 | .exc x E1=>.exc x E1
 | .ok ([r],E1)=>match r.d with
  | .int j=>if -(2^62)<=j/\j<2^62 then W6 tg body (zM 0 j.toNat) E1 else .stuck
  |_=>.stuck
 |_=>.stuck
def sForR2(m:MA)(tg:MG)(body:MS):MS:=λE=>match m E with
 | .stuck=>.stuck
 | .exc x E1=>.exc x E1
 | .ok ([r,r'],E1)=>match r.d,r'.d with
  | .int i,.int j=>if -(2^62)<=i/\i<2^62/\-(2^62)<=j/\j<2^62 then W6 tg body (zM i (j-i).toNat) E1 else .stuck
  |_,_=>.stuck
 |_=>.stuck
theorem WU{tg:MG}{g:TG}{body:MS}{D:Ends}(hg:GOk X g tg){lo:Int}{n:Nat}{E1:zP}{H1:Hp}(g1:Got X.K X.mg M σ E H [] σ E1 H1 [])(fin:Fin X M σ E H D (W6 tg body (zM lo n) E1)) :
  ∃W:Nat->Nat->St->Hp->Prop,(∃m,W 0 m σ H1)/\∀i m σ H,W i m σ H ->
   ((Itr lo n).stop i H/\D.nx σ H)\/((Itr lo n).go i H/\∃N:St->Hp->Prop,(∀σ' H',N σ' H'->∃m',m'<m/\W (i+1) m' σ' H')/\∀x H',(Itr lo n).yld i H x H'->g x σ H' λσ2 H2=>tS X body {D with nx:=N,ct:=N,bk:=D.nx} σ2 H2):=by
 refine zBd (λi σ1 H2=>∃E2,Got X.K X.mg M σ E H [] σ1 E2 H2 []/\Fin X M σ E H D (W6 tg body ((zM lo n).drop i) E2)) ⟨E1,g1,fin⟩ ?_ ?_
 ·rintro i σ1 H2 hi ⟨E2,g2,fin⟩
  rw[wm n i lo hi]at fin;exact uQ hg g2 (by simp only[Rep]) fin λσ3 E3 H3 g3 st fin3=>⟨E3,g3,fin3⟩
 ·rintro σ1 H2 ⟨E2,g2,fin⟩
  rw[List.drop_of_length_le (by rw[yf];exact le_refl _)]at fin;exact fin σ1 H2 g2
theorem zB5{m:MA}{tg:MG}{g:TG}{body:MS}{D:Ends}(hg:GOk X g tg)(h:tS X (sForR1 m tg body) D σ H):tFor (iRng1 (tMA X m)) g (tS X body) D σ H:=by
 obtain⟨M,E,hl,fr,k⟩:=zAL h;unfold sForR1 at k;refine wN (T0:=[]) hl fr ?_;cases ea:m E with
 |stuck=>rw[ea]at k;exact k
 |exc x E1=>rw[ea]at k;exact λH' g=>k σ H' g
 |ok p =>
  obtain⟨rs,E1⟩:=p;rw[ea]at k
  match rs,k with
  | [r],k =>
   intro vs H1 hv g1;have rp:=Got.reps hv g1;dsimp only at k;cases ed:r.d with
   |int j =>
    rw[ed]at k;simp only[List.map,ed]at rp;obtain⟨v,rfl,h1⟩:=J9 rp;dsimp only at k;by_cases hc:-(2^62)<=j/\j<2^62
    ·rw[if_pos hc]at k
     exact⟨j,by rw[zQ h1],hc.1,hc.2,WU hg g1.dropAll k⟩
    ·rw[if_neg hc]at k;exact k.elim
   |_=>rw[ed]at k;exact k.elim
  | [],k=>exact k.elim
  |_::_::_,k=>exact k.elim
theorem zB6{m:MA}{tg:MG}{g:TG}{body:MS}{D:Ends}(hg:GOk X g tg)(h:tS X (sForR2 m tg body) D σ H):tFor (iRng2 (tMA X m)) g (tS X body) D σ H:=by
 obtain⟨M,E,hl,fr,k⟩:=zAL h;unfold sForR2 at k;refine wN (T0:=[]) hl fr ?_;cases ea:m E with
 |stuck=>rw[ea]at k;exact k
 |exc x E1=>rw[ea]at k;exact λH' g=>k σ H' g
 |ok p =>
  obtain⟨rs,E1⟩:=p;rw[ea]at k
  match rs,k with
  | [r,r'],k =>
   intro vs H1 hv g1;have rp:=Got.reps hv g1;dsimp only at k;cases ed:r.d with
   |int i =>
    cases ed':r'.d with
    |int j =>
     rw[ed,ed']at k;simp only[List.map,ed,ed']at rp;obtain⟨v,w,rfl,h1,h2⟩:=reps2 rp;dsimp only at k;by_cases hc:-(2^62)<=i/\i<2^62/\-(2^62)<=j/\j<2^62
     ·rw[if_pos hc]at k
      exact⟨i,j,by rw[zQ h1,zQ h2],hc,WU hg g1.dropAll k⟩
     ·rw[if_neg hc]at k;exact k.elim
    |_=>rw[ed,ed']at k;exact k.elim
   |_=>rw[ed]at k;exact k.elim
  | [],k=>exact k.elim
  | [_],k=>exact k.elim
  |_::_::_::_,k=>exact k.elim
theorem sk_forL{tgt iter:Expr}{body:List Stmt}{m:ME}{g:TG}{tg:MG}{mb:MS}{pos:Pos}(hp:PassesOwn (model X.prog X.w) X.A X.env X.xe)(hc:X.calm=true)(hi:EOk X iter m)(hg:PG X tgt g)(ho:GOk X g tg)(hb:zA8 X body mb)
  (hs:∀x,foldedSetIterable iter X.env x=pure x:=by intro _;rfl):SOk X (.For tgt iter body [] pos) (sForL m tg mb):=yz (zAC hp hc (zBa hi) hg hb hs) λD σ H=>zD6 ho
theorem zD7{tgt a:Expr}{body:List Stmt}{m:MA}{g:TG}{tg:MG}{mb:MS}{p cpos pos:Pos}(hp:PassesOwn (model X.prog X.w) X.A X.env X.xe)(hc:X.calm=true)(hgl:Gl X "range")(hm:X.mg "range"=none)(ha:AOk X [a] m)(hg:PG X tgt g)(ho:GOk X g tg)(hb:zA8 X body mb)
  (hst:zL a=false:=by rfl) (hs:∀x,foldedSetIterable (.Call (.Name "range" p) [a] [] cpos) X.env x=pure x:=by intro _;rfl):SOk X (.For tgt (.Call (.Name "range" p) [a] [] cpos) body [] pos) (sForR1 m tg mb) :=
 yz (zAC hp hc (GN hgl hm ha (Qc hst)) hg hb hs) λD σ H=>zB5 ho
theorem zD8{tgt a b:Expr}{body:List Stmt}{m:MA}{g:TG}{tg:MG}{mb:MS}{p cpos pos:Pos}(hp:PassesOwn (model X.prog X.w) X.A X.env X.xe)(hc:X.calm=true)(hgl:Gl X "range")(hm:X.mg "range"=none)(ha:AOk X [a,b] m)(hg:PG X tgt g)(ho:GOk X g tg)(hb:zA8 X body mb)
  (hst:zL a=false:=by rfl) (hst2:zL b=false:=by rfl) (hs:∀x,foldedSetIterable (.Call (.Name "range" p) [a,b] [] cpos) X.env x=pure x:=by intro _;rfl):SOk X (.For tgt (.Call (.Name "range" p) [a,b] [] cpos) body [] pos) (sForR2 m tg mb) :=
 yz (zAC hp hc (zBb hgl hm ha (star2 hst hst2) (Qc hst2)) hg hb hs) λD σ H=>zB6 ho
end
end DV
namespace DV
open PySem L2
section
variable{X:Cx}{K:PySem.W.Frag}{mg:Str->Option Value}{σ:St}{M:Addr->Prop}{E:zP}{H H':Hp}{T0 Z T:Fz}
theorem zD9{o:Option V}{s s':Slot}{ds:List D}(h:s.list?=some ds)(h':s'.list?=some ds):QZ (o,s')=QZ (o,s):=by
 cases s<;>simp[Slot.list?]at h<;>cases s'<;>simp[Slot.list?]at h'<;>(cases o with|none=>rfl|some v=>cases v<;>rfl)
theorem Z0{o:Option V}{s s':Slot}{ds:List D}(h:s.list?=some ds)(h':s'.list?=some ds):yV ((o,s')::Z)=yV ((o,s)::Z):=by
 unfold yV;rw[filterMap_cons,filterMap_cons,zD9 h h']
theorem FR.lab{o:Option V}{s s':Slot}{ds:List D}(f:FR K mg M H ((o,s)::Z))(h:s.list?=some ds)(h':s'.list?=some ds):FR K mg M H ((o,s')::Z):=by
 have em:Mo M ((o,s')::Z)=Mo M ((o,s)::Z):=by unfold Mo;rw[Z0 h h']
 refine⟨λo' d q=>?_,λo' t es q e=>?_,by rw[Z0 h h'];exact f.nd,f.mal⟩
 ·rw[em]
  rcases mem_cons.mp q with q|q
  ·cases q;cases h'
  ·exact f.val o' d (mem_cons_of_mem _ q)
 ·rw[em]
  rcases mem_cons.mp q with q|q
  ·cases q
   rw[h']at e;cases e;exact f.own o s ds mem_cons_self h
  ·exact f.own o' t es (mem_cons_of_mem _ q) e
theorem Gh{o:Option V}{s1 s2:Slot}{i:Nat}(hi:Z[i]?=some (o,s2)):((o,s1)::(T++Z)).Perm ((o,s2)::(T++Z.set i (o,s1))):=by
 have hlt:i<Z.length:=(List.getElem?_eq_some_iff.mp hi).1;have p1:Z.Perm ((o,s2)::Z.eraseIdx i):=by
  have:=yM (o,s2) Z i hlt;rw[Zy hi]at this;exact this
 have p2:(Z.set i (o,s1)).Perm ((o,s1)::Z.eraseIdx i):=yM _ _ _ hlt;refine((p1.append_left T).cons _).trans ?_;refine List.Perm.trans ?_ ((p2.append_left T).cons _).symm;have a:(T++(o,s2)::Z.eraseIdx i).Perm ((o,s2)::(T++Z.eraseIdx i)):=perm_middle;have b:(T++(o,s1)::Z.eraseIdx i).Perm ((o,s1)::(T++Z.eraseIdx i)):=perm_middle;exact((a.cons _).trans (List.Perm.swap _ _ _)).trans (b.cons _).symm
inductive AR where
 |tmp (d:D)
 |ln (i:Nat)
 deriving Inhabited
def AR.slot:AR->Slot
 | .tmp d=>.val d
 | .ln _=>.emp
def yB(vs:List V)(as:List AR):Fz:=(vs.map some).zip (as.map AR.slot)
def AV(σ:St):List AR->List V->Prop
 | [],vs=>vs=[]
 | .tmp _::as,vs=>∃v r,vs=v::r/\AV σ as r
 | .ln i::as,vs=>∃v r,vs=v::r/\σ[i]?=some (some v)/\AV σ as r
theorem AV.length:∀{as:List AR} {vs:List V},AV σ as vs->vs.length=as.length
 | [],_,h=>by simp only[AV]at h;subst h;rfl
 | .tmp _::as,_,h=>by simp only[AV]at h;obtain⟨v,r,rfl,h⟩:=h;simp[AV.length h]
 | .ln i::as,_,h=>by simp only[AV]at h;obtain⟨v,r,rfl,_,h⟩:=h;simp[AV.length h]
def zJ:List AR->zP->Out (List Slot×zP)
 | [],E=>.ok ([],E)
 | .tmp d::as,E=>match zJ as E with
  | .ok (ss,E')=>.ok (.val d::ss,E')
  |_=>.stuck
 | .ln i::as,E=>match E[i]? with
  |none=>.stuck
  |some s=>match s.list? with
   |none=>.stuck
   |some ds=>match zJ as (E.set i .emp)with
    | .ok (ss,E')=>.ok (.par ds::ss,E')
    |_=>.stuck
def zG:List AR->List Slot->zP->zP->Out zP
 | [],[],_,E=>.ok E
 | .tmp _::as,_::ss,E0,E=>zG as ss E0 E
 | .ln i::as,s'::ss,E0,E=>match E0[i]? with
  |none=>.stuck
  |some s=>match s.list?,s'.list?,E[i]? with
   |some _,some ds,some .emp=>zG as ss E0 (E.set i (s.put ds))
   |_,_,_=>.stuck
 |_,_,_,_=>.stuck
theorem Y7:∀(as:List AR) {vs:List V} {E E':zP} {ss:List Slot} {T:Fz},E.length=σ.length->AV σ as vs->zJ as E=.ok (ss,E')->FR K mg M H (T++(yB vs as++σ.zip E)) ->
  FR K mg M H (T++((vs.map some).zip ss++σ.zip E'))/\(∀b,b∈yV (T++(yB vs as++σ.zip E))↔b∈yV (T++((vs.map some).zip ss++σ.zip E')))/\ss.length=as.length/\E'.length=σ.length
 | [],vs,E,E',ss,T,hl,av,e,f=>by
  cases e;simp only[AV]at av;subst av;exact⟨f,λb=>Iff.rfl,rfl,hl⟩
 | .tmp d::as,vs,E,E',ss,T,hl,av,e,f=>by
  simp only[AV]at av;obtain⟨v,r,rfl,av⟩:=av;simp only[zJ]at e;cases e1:zJ as E with
  |stuck=>rw[e1]at e;cases e
  |exc _ _=>rw[e1]at e;cases e
  |ok p =>
   obtain⟨ss1,E1⟩:=p;rw[e1]at e;cases e;have f1:FR K mg M H ((T++[(some v,.val d)])++(yB r as++σ.zip E)):=by
    rw[append_assoc];exact f
   obtain⟨g1,g2,g3,g4⟩:=Y7 as hl av e1 f1;refine⟨by rw[append_assoc]at g1;exact g1,λb=>?_,by simp[g3],g4⟩;have:=g2 b;rw[append_assoc,append_assoc]at this;exact this
 | .ln i::as,vs,E,E',ss,T,hl,av,e,f=>by
  simp only[AV]at av;obtain⟨v,r,rfl,hv,av⟩:=av;simp only[zJ]at e;cases e0:E[i]? with
  |none=>rw[e0]at e;cases e
  |some s =>
   rw[e0]at e;dsimp only at e;cases e2:s.list? with
   |none=>rw[e2]at e;cases e
   |some ds =>
    rw[e2]at e;dsimp only at e;cases e1:zJ as (E.set i .emp)with
    |stuck=>rw[e1]at e;cases e
    |exc _ _=>rw[e1]at e;cases e
    |ok p =>
     obtain⟨ss1,E1⟩:=p;rw[e1]at e;cases e;obtain⟨o,h1,h2⟩:=Y5 hl e0;have ho:o=some v:=by rw[hv]at h1;exact(Option.some.inj h1).symm
     subst ho;have ez:σ.zip (E.set i .emp)=(σ.zip E).set i (some v,.emp):=yd .emp hv;have pA:(T++(((some v,Slot.emp)::yB r as)++σ.zip E)).Perm ((some v,s)::(T++(yB r as++σ.zip (E.set i .emp)))):=by
      rw[ez];have a:(T++(((some v,Slot.emp)::yB r as)++σ.zip E)).Perm ((some v,Slot.emp)::((T++yB r as)++σ.zip E)):=by
       rw[append_assoc];exact perm_middle
      refine a.trans ((Gh h2).trans ?_);rw[append_assoc]
     have f1:=(f.perm pA).lab e2 (s':=.par ds) rfl;have f2:FR K mg M H ((((some v,Slot.par ds))::T)++(yB r as++σ.zip (E.set i .emp))):=f1;obtain⟨g1,g2,g3,g4⟩:=Y7 as (by simp[hl]) av e1 f2;have pB:(((some v,Slot.par ds)::T)++((r.map some).zip ss1++σ.zip E')).Perm (T++(((some v,Slot.par ds)::(r.map some).zip ss1)++σ.zip E')):=perm_middle.symm;refine⟨g1.perm pB,λb=>?_,by simp[g3],g4⟩;have x1:b∈yV (T++(((some v,Slot.emp)::yB r as)++σ.zip E))↔b∈yV ((some v,s)::(T++(yB r as++σ.zip (E.set i .emp)))):=(pA.filterMap QZ).mem_iff;have x2:yV ((some v,Slot.par ds)::(T++(yB r as++σ.zip (E.set i .emp))))=yV ((some v,s)::(T++(yB r as++σ.zip (E.set i .emp)))):=Z0 e2 rfl;have x3:=g2 b;have x4:b∈yV (((some v,Slot.par ds)::T)++((r.map some).zip ss1++σ.zip E'))↔b∈yV (T++(((some v,Slot.par ds)::(r.map some).zip ss1)++σ.zip E')):=(pB.filterMap QZ).mem_iff;refine x1.trans ?_;rw[<- x2];exact x3.trans x4
theorem uR:∀(as:List AR) {vs:List V} {E0 E E':zP} {ss:List Slot} {T:Fz},E.length=σ.length->AV σ as vs->zG as ss E0 E=.ok E'->FR K mg M H (T++((vs.map some).zip ss++σ.zip E)) ->
  FR K mg M H (T++σ.zip E')/\(∀b,b∈yV (T++σ.zip E')->b∈yV (T++((vs.map some).zip ss++σ.zip E)))/\E'.length=σ.length
 | [],vs,E0,E,E',ss,T,hl,av,e,f=>by
  cases ss with
  |cons _ _=>cases e
  |nil =>
   cases e;simp only[AV]at av;subst av;exact⟨f,λb q=>q,hl⟩
 | .tmp d::as,vs,E0,E,E',ss,T,hl,av,e,f=>by
  simp only[AV]at av;obtain⟨v,r,rfl,av⟩:=av;cases ss with
  |nil=>cases e
  |cons s ss =>
   simp only[zG]at e;have sub:(T++((r.map some).zip ss++σ.zip E)).Sublist (T++(((some v,s)::(r.map some).zip ss)++σ.zip E)):=(sublist_cons_self _ _).append_left _;obtain⟨g1,g2,g3⟩:=uR as hl av e (f.sub sub);exact⟨g1,λb q=>zC sub b (g2 b q),g3⟩
 | .ln i::as,vs,E0,E,E',ss,T,hl,av,e,f=>by
  simp only[AV]at av;obtain⟨v,r,rfl,hv,av⟩:=av;cases ss with
  |nil=>cases e
  |cons s' ss =>
   simp only[zG]at e;cases e0:E0[i]? with
   |none=>rw[e0]at e;cases e
   |some s =>
    rw[e0]at e;dsimp only at e;cases e1:s.list? with
    |none=>rw[e1]at e;cases e
    |some ds0 =>
     cases e2:s'.list? with
     |none=>rw[e1,e2]at e;cases e
     |some ds =>
      cases e3:E[i]? with
      |none=>rw[e1,e2,e3]at e;cases e
      |some se =>
       rw[e1,e2,e3]at e;cases se with
       |emp =>
        dsimp only at e;obtain⟨o,h1,h2⟩:=Y5 hl e3;have ho:o=some v:=by rw[hv]at h1;exact(Option.some.inj h1).symm
        subst ho;have ez:σ.zip (E.set i (s.put ds))=(σ.zip E).set i (some v,s.put ds):=yd _ hv;have hp:(s.put ds).list?=some ds:=(uP (p:=0) e1).2;have pA:(T++(((some v,s')::(r.map some).zip ss)++σ.zip E)).Perm ((some v,s')::((T++(r.map some).zip ss)++σ.zip E)):=by
         rw[append_assoc];exact perm_middle
        have f1:=(f.perm pA).lab e2 hp;have pB:((some v,s.put ds)::((T++(r.map some).zip ss)++σ.zip E)).Perm ((some v,Slot.emp)::((T++(r.map some).zip ss)++σ.zip (E.set i (s.put ds)))):=by
         rw[ez];exact Gh h2
        have f2:=(f1.perm pB).tail;rw[append_assoc]at f2;obtain⟨g1,g2,g3⟩:=uR as (by simp[hl]) av e f2;refine⟨g1,λb q=>?_,g3⟩;have q1:=g2 b q;rw[<- append_assoc]at q1;have q2:b∈yV ((some v,Slot.emp)::((T++(r.map some).zip ss)++σ.zip (E.set i (s.put ds)))):=zC (sublist_cons_self _ _) b q1;have q3:=zE pB.symm b q2;rw[Z0 e2 hp]at q3;exact zE pA.symm b q3
       |_=>cases e
def Qg:List AR->List Nat
 | []=>[]
 | .tmp _::as=>Qg as
 | .ln i::as=>i::Qg as
theorem uS:∀(as:List AR) {E E':zP} {ss:List Slot},zJ as E=.ok (ss,E')->∀(k:Nat),k∉Qg as->E'[k]?=E[k]?
 | [],E,E',ss,e,k,h=>by cases e;rfl
 | .tmp d::as,E,E',ss,e,k,h=>by
  simp only[zJ]at e;cases e1:zJ as E with
  |stuck=>rw[e1]at e;cases e
  |exc _ _=>rw[e1]at e;cases e
  |ok p =>
   obtain⟨ss1,E1⟩:=p;rw[e1]at e;cases e;exact uS as e1 k h
 | .ln i::as,E,E',ss,e,k,h=>by
  simp only[zJ]at e;cases e0:E[i]? with
  |none=>rw[e0]at e;cases e
  |some s =>
   rw[e0]at e;dsimp only at e;cases e2:s.list? with
   |none=>rw[e2]at e;cases e
   |some ds =>
    rw[e2]at e;dsimp only at e;cases e1:zJ as (E.set i .emp)with
    |stuck=>rw[e1]at e;cases e
    |exc _ _=>rw[e1]at e;cases e
    |ok p =>
     obtain⟨ss1,E1⟩:=p;rw[e1]at e;cases e;simp only[Qg,mem_cons,not_or]at h;rw[uS as e1 k h.2,getElem?_set_ne (λq=>h.1 q.symm)]
theorem Z3:∀(as:List AR) {E0 E E':zP} {ss:List Slot},zG as ss E0 E=.ok E'->∀(k:Nat),E'[k]?=E[k]?\/∃(s:Slot) (ds:List D),E0[k]?=some s/\E'[k]?=some (s.put ds)
 | [],E0,E,E',ss,e,k=>by
  cases ss with
  |cons _ _=>cases e
  |nil=>cases e;exact .inl rfl
 | .tmp d::as,E0,E,E',ss,e,k=>by
  cases ss with
  |nil=>cases e
  |cons s ss=>exact Z3 as e k
 | .ln i::as,E0,E,E',ss,e,k=>by
  cases ss with
  |nil=>cases e
  |cons s' ss =>
   simp only[zG]at e;cases e0:E0[i]? with
   |none=>rw[e0]at e;cases e
   |some s =>
    rw[e0]at e;dsimp only at e;cases e1:s.list? with
    |none=>rw[e1]at e;cases e
    |some ds0 =>
     cases e2:s'.list? with
     |none=>rw[e1,e2]at e;cases e
     |some ds =>
      cases e3:E[i]? with
      |none=>rw[e1,e2,e3]at e;cases e
      |some se =>
       rw[e1,e2,e3]at e;cases se with
       |emp =>
        dsimp only at e;rcases Z3 as e k with q|q
        ·by_cases ek:i=k
         ·subst ek
          have hlt:i<E.length:=(List.getElem?_eq_some_iff.mp e3).1;rw[getElem?_set_self hlt]at q;exact .inr ⟨s,ds,e0,q⟩
         ·rw[getElem?_set_ne ek]at q
          exact .inl q
        ·exact .inr q
       |_=>cases e
theorem WV:∀(as:List AR) {E0 E E':zP} {ss:List Slot},zG as ss E0 E=.ok E'->∀(k:Nat),k∈Qg as->∃(s:Slot) (ds:List D),E0[k]?=some s/\E'[k]?=some (s.put ds)
 | [],E0,E,E',ss,e,k,h=>by cases h
 | .tmp d::as,E0,E,E',ss,e,k,h=>by
  cases ss with
  |nil=>cases e
  |cons s ss=>exact WV as e k h
 | .ln i::as,E0,E,E',ss,e,k,h=>by
  cases ss with
  |nil=>cases e
  |cons s' ss =>
   simp only[zG]at e;cases e0:E0[i]? with
   |none=>rw[e0]at e;cases e
   |some s =>
    rw[e0]at e;dsimp only at e;cases e1:s.list? with
    |none=>rw[e1]at e;cases e
    |some ds0 =>
     cases e2:s'.list? with
     |none=>rw[e1,e2]at e;cases e
     |some ds =>
      cases e3:E[i]? with
      |none=>rw[e1,e2,e3]at e;cases e
      |some se =>
       rw[e1,e2,e3]at e;cases se with
       |emp =>
        dsimp only at e;by_cases ek:i=k
        ·subst ek
         rcases Z3 as e i with q|q
         ·have hlt:i<E.length:=(List.getElem?_eq_some_iff.mp e3).1
          rw[getElem?_set_self hlt]at q;exact⟨s,ds,e0,q⟩
         ·exact q
        ·simp only[Qg,mem_cons]at h
         rcases h with h|h
         ·exact absurd h.symm ek
         ·exact WV as e k h
       |_=>cases e
theorem zB7{as:List AR}{E1 E2 E3:zP}{ss outs:List Slot}(h1:zJ as E1=.ok (ss,E2))(h2:zG as outs E1 E2=.ok E3):PKp σ E1 σ E3:=λk ds e=>by
 refine⟨?_,rfl⟩;by_cases hk:k∈Qg as
 ·obtain⟨s,es,q1,q2⟩:=WV as h2 k hk
  rw[e]at q1;cases q1;exact⟨es,q2⟩
 ·rcases Z3 as h2 k with q|⟨s,es,q1,q2⟩
  ·rw[q,uS as h1 k hk];exact⟨ds,e⟩
  ·rw[e]at q1;cases q1
   exact⟨es,q2⟩
abbrev MF:=List Slot->Out (R×List Slot)
def spM(K:PySem.W.Frag)(mg:Str->Option Value)(n:Nat)(F:MF):Sp:=λvs H Q XQ=>vs.length=n/\∃(M:Addr->Prop) (ss:List Slot),ss.length=vs.length/\FR K mg M H ((vs.map some).zip ss)/\match F ss with
 | .stuck=>False
 | .ok (r,outs)=>∀v H',outs.length=vs.length->FR K mg M H' ((some v,r.slot)::(vs.map some).zip outs)->Step M H ((vs.map some).zip ss) H' ((some v,r.slot)::(vs.map some).zip outs)->Q v H'
 | .exc x _=>∀C H',mg x.cls=some (.ref C)->FR K mg M H' []->Step M H ((vs.map some).zip ss) H' []->XQ (.ref C) none H'
inductive Arg where
 |ev (m:ME)
 |lend (i:Nat)
def zm:List Arg->zP->Out (List AR×zP)
 | [],E=>.ok ([],E)
 | .ev m::as,E=>match m E with
  | .stuck=>.stuck
  | .exc x E1=>.exc x E1
  | .ok (r,E1)=>match zm as E1 with
   | .ok (ars,E2)=>.ok (.tmp r.d::ars,E2)
   | .exc x E2=>.exc x E2
   | .stuck=>.stuck
 | .lend i::as,E=>if WT E[i]?=true then .stuck else match zm as E with
  | .ok (ars,E2)=>.ok (.ln i::ars,E2)
  | .exc x E2=>.exc x E2
  | .stuck=>.stuck
def tArgs(X:Cx)(as:List Arg):TA:=λσ H Q=>∃M E,E.length=σ.length/\FR X.K X.mg M H (σ.zip E)/\match zm as E with
 | .stuck=>False
 | .ok (ars,E')=>∀vs H',AV σ ars vs->Got X.K X.mg M σ E H [] σ E' H' (yB vs ars)->Q vs H'
 | .exc x E'=>∀H',Got X.K X.mg M σ E H [] σ E' H' []->XE X σ H' x
abbrev zFQ(X:Cx)(es:List Expr)(as:List Arg):Prop:=PA X es (tArgs X as)
theorem WW{as:List Arg}{Q:List V->Hp->Prop}(hl:E.length=σ.length)(h:FR X.K X.mg M H (T0++σ.zip E))
  (k:match zm as E with | .stuck=>False | .ok (ars,E')=>∀vs H',AV σ ars vs->Got X.K X.mg M σ E H T0 σ E' H' (yB vs ars)->Q vs H' | .exc x E'=>∀H',Got X.K X.mg M σ E H T0 σ E' H' []->XE X σ H' x):tArgs X as σ H Q:=by
 refine⟨Mo M T0,E,hl,h.inner,?_⟩;cases e:zm as E with
 |stuck=>rw[e]at k;exact k
 |ok a=>rw[e]at k;exact λvs H' av g=>k vs H' av (g.outer h)
 |exc x E'=>rw[e]at k;exact λH' g=>k H' (g.outer h)
theorem ga_nil:zFQ X [] []:=GX GO λσ H Q ⟨M,E,hl,fr,k⟩=>k [] H (by simp only[AV]) (Got.refl (T0:=[]) hl fr)
theorem ga_ev{e:Expr}{es:List Expr}{m:ME}{as:List Arg}(he:EOk X e m)(hr:zFQ X es as)(hs:zL e=false:=by rfl):zFQ X (e::es) (.ev m::as):=GX (J7 he hr (yA hs)) λσ H Q ⟨M,E,hl,fr,k⟩=>by
 simp only[zm]at k;refine yK (T0:=[]) hl fr ?_;cases ea:m E with
 |stuck=>rw[ea]at k;exact k
 |exc x E1=>rw[ea]at k;exact k
 |ok p =>
  obtain⟨r1,E1⟩:=p;rw[ea]at k;intro x H1 g0;have g1:Got X.K X.mg M σ E H [] σ E1 H1 [(some x,.val r1.d)]:=⟨g0.len,g0.fr.frz,g0.st.frz,g0.pk⟩;refine WW (T0:=[(some x,.val r1.d)]) g1.len g1.fr ?_;dsimp only at k;cases eb:zm as E1 with
  |stuck=>rw[eb]at k;exact k
  |exc x E2=>rw[eb]at k;exact λH' g=>k H' (g1.trans' g).dropAll
  |ok p =>
   obtain⟨ars,E2⟩:=p;rw[eb]at k;intro vs H2 av g2;refine k (x::vs) H2 (by simp only[AV];exact⟨x,vs,rfl,av⟩) ?_;exact(g1.trans' g2).perm (perm_append_comm)
theorem ga_lend{x:Str}{p:Pos}{es:List Expr}{i:Nat}{as:List Arg}(hv:PE X (.Name x p) (zBU i))(hr:zFQ X es as)  : zFQ X (.Name x p::es) (.lend i::as):=GX (J7 hv hr (yA rfl)) λσ H Q ⟨M,E,hl,fr,k⟩=>by
 simp only[zm]at k;cases em:WT E[i]? with
 |true=>rw[em]at k;exact k.elim
 |false =>
  rw[em]at k;simp only[Bool.false_eq_true,if_false]at k;obtain⟨s,hs1,hs2⟩:=Qf em;obtain⟨v,hv⟩:=zB3 hl fr hs1 hs2;refine⟨v,hv,?_⟩;refine WW (T0:=[]) hl fr ?_;cases eb:zm as E with
  |stuck=>rw[eb]at k;exact k
  |exc x E2=>rw[eb]at k;exact k
  |ok p =>
   obtain⟨ars,E2⟩:=p;rw[eb]at k;intro vs H2 av g2;refine k (v::vs) H2 (by simp only[AV];exact⟨v,vs,rfl,hv,av⟩) ?_;have em2:Mo M ((some v,Slot.emp)::(yB vs ars++([]++σ.zip E2)))=Mo M (yB vs ars++([]++σ.zip E2)):=zBt _ _ _;refine⟨g2.len,⟨λo d q=>?_,λo t ds q e=>?_,?_,g2.fr.mal⟩,⟨?_,g2.st.keep⟩,g2.pk⟩
   ·show ∃v',_/\Rep X.K X.mg (Hm (Mo M ((some v,Slot.emp)::(yB vs ars++([]++σ.zip E2)))) H2) d v'
    rw[em2];rcases mem_cons.mp q with q|q
    ·cases q
    ·exact g2.fr.val o d q
   ·show ∃a xs,_/\_/\_/\Reps X.K X.mg (Hm (Mo M ((some v,Slot.emp)::(yB vs ars++([]++σ.zip E2)))) H2) ds xs
    rw[em2];rcases mem_cons.mp q with q|q
    ·cases q;cases e
    ·exact g2.fr.own o t ds q e
   ·show(yV ((some v,Slot.emp)::(yB vs ars++([]++σ.zip E2)))).Nodup
    rw[yY];exact g2.fr.nd
   ·show Y4 _ (Hm (Mo M ((some v,Slot.emp)::(yB vs ars++([]++σ.zip E2)))) H2)
    rw[em2];exact g2.st.same
def Gi:List AR->Bool
 | []=>true
 | .tmp _::as=>Gi as
 | .ln _::_=>false
theorem ve:∀{as:List AR} {E E':zP} {ss:List Slot},Gi as=true->zJ as E=.ok (ss,E')->E'=E
 | [],E,E',ss,_,e=>by cases e;rfl
 | .tmp d::as,E,E',ss,h,e=>by
  simp only[zJ]at e;cases q:zJ as E with
  |stuck=>rw[q]at e;cases e
  |exc _ _=>rw[q]at e;cases e
  |ok p=>obtain⟨s1,E1⟩:=p;rw[q]at e;cases e;exact ve (as:=as) h q
 | .ln i::as,E,E',ss,h,e=>by cases h
def jh(F:MF)(as:List Arg):ME:=λE=>match zm as E with
 | .stuck=>.stuck
 | .exc x E1=>.exc x E1
 | .ok (ars,E1)=>match zJ ars E1 with
  | .ok (ss,E2)=>match F ss with
   | .ok (r,outs)=>match zG ars outs E1 E2 with
    | .ok E3=>.ok (r,E3)
    |_=>.stuck
   | .exc x _=>if Gi ars=true then .exc ⟨x.cls,false⟩ E1 else .stuck
   | .stuck=>.stuck
  |_=>.stuck
theorem zEA{F:MF}{n:Nat}{ars:List AR}{E1 E2 E3:zP}{ss outs:List Slot}{r:R}{vs:List V}{H1:Hp}{Q:VK}{XQ:XK}(hn:ars.length=n)(e1:zJ ars E1=.ok (ss,E2))(e2:F ss=.ok (r,outs))(e3:zG ars outs E1 E2=.ok E3)
  (av:AV σ ars vs) (g:Got K mg M σ E H [] σ E1 H1 (yB vs ars)) (k:∀v H',Got K mg M σ E H [] σ E3 H' [(some v,r.slot)]->Q v H'):spM K mg n F vs H1 Q XQ:=by
 obtain⟨f1,o1,l1,l2⟩:=Y7 (T:=[]) ars g.len av e1 g.fr;have f1':FR K mg M H1 (σ.zip E2++(vs.map some).zip ss):=FR.perm (T:=σ.zip E2++(vs.map some).zip ss) (Z:=(vs.map some).zip ss++σ.zip E2) f1 perm_append_comm;have hlen:=av.length;refine⟨hlen.trans hn,Mo M (σ.zip E2),ss,l1.trans hlen.symm,f1'.inner,?_⟩;rw[e2];intro v H' ol f2 s2;have f3:=FR.outer f1' f2 s2;have s3:=Step.outer s2;have p:(σ.zip E2++((some v,r.slot)::(vs.map some).zip outs)).Perm ([(some v,r.slot)]++((vs.map some).zip outs++σ.zip E2)):=by
  refine perm_append_comm.trans ?_;exact List.Perm.refl _
 obtain⟨f4,o4,l4⟩:=uR ars l2 av e3 (f3.perm p);refine k v H' ⟨l4,f4,?_,g.pk.trans (zB7 e1 e3)⟩;have st1:Step M H (σ.zip E) H1 (σ.zip E2++(vs.map some).zip ss):=g.st.weak λb hb=>(o1 b).mpr (zE (T:=σ.zip E2++(vs.map some).zip ss) (Z:=(vs.map some).zip ss++σ.zip E2) perm_append_comm b hb)
 have st2:=st1.trans s3;exact st2.weak λb hb=>zE p.symm b (o4 b hb)
theorem zEB{F:MF}{n:Nat}{ars:List AR}{E1 E2:zP}{ss outs:List Slot}{x:Exn}{vs:List V}{H1:Hp}{Q:VK}{XQ:XK}(hn:ars.length=n)(hl:Gi ars=true)(e1:zJ ars E1=.ok (ss,E2))(e2:F ss=.exc x outs)
  (av:AV σ ars vs) (g:Got K mg M σ E H [] σ E1 H1 (yB vs ars)) (k:∀C H',mg x.cls=some (.ref C)->Got K mg M σ E H [] σ E1 H' []->XQ (.ref C) none H'):spM K mg n F vs H1 Q XQ:=by
 obtain⟨f1,o1,l1,l2⟩:=Y7 (T:=[]) ars g.len av e1 g.fr;have f1':FR K mg M H1 (σ.zip E2++(vs.map some).zip ss):=FR.perm (T:=σ.zip E2++(vs.map some).zip ss) (Z:=(vs.map some).zip ss++σ.zip E2) f1 perm_append_comm;have hlen:=av.length;refine⟨hlen.trans hn,Mo M (σ.zip E2),ss,l1.trans hlen.symm,f1'.inner,?_⟩;rw[e2];intro C H' hm f2 s2;have f3:=FR.outer f1' f2 s2;have s3:=Step.outer s2;rw[append_nil]at f3 s3;have st1:Step M H (σ.zip E) H1 (σ.zip E2++(vs.map some).zip ss):=g.st.weak λb hb=>(o1 b).mpr (zE (T:=σ.zip E2++(vs.map some).zip ss) (Z:=(vs.map some).zip ss++σ.zip E2) perm_append_comm b hb)
 obtain rfl:=ve hl e1;exact k C H' hm ⟨g.len,f3,st1.trans s3,g.pk⟩
theorem ji:∀(as:List Arg) {E E':zP} {ars:List AR},zm as E=.ok (ars,E')->ars.length=as.length
 | [],E,E',ars,e=>by cases e;rfl
 | .ev m::as,E,E',ars,e=>by
  simp only[zm]at e;cases ea:m E with
  |stuck=>rw[ea]at e;cases e
  |exc _ _=>rw[ea]at e;cases e
  |ok p =>
   obtain⟨r,E1⟩:=p;rw[ea]at e;dsimp only at e;cases eb:zm as E1 with
   |stuck=>rw[eb]at e;cases e
   |exc _ _=>rw[eb]at e;cases e
   |ok p=>obtain⟨a,b⟩:=p;rw[eb]at e;cases e;simp[ji as eb]
 | .lend i::as,E,E',ars,e=>by
  simp only[zm]at e;split at e
  ·cases e
  ·cases eb:zm as E with
   |stuck=>rw[eb]at e;cases e
   |exc _ _=>rw[eb]at e;cases e
   |ok p=>obtain⟨a,b⟩:=p;rw[eb]at e;cases e;simp[ji as eb]
theorem zEC{F:MF}{n:Nat}{as:List Arg}{Q:VK}(hn:as.length=n)(h:tM X (jh F as) σ H Q):tArgs X as σ H λvs H1=>spM X.K X.mg n F vs H1 Q (EX X σ):=by
 obtain⟨M,E,hl,fr,k⟩:=h;unfold jh at k;refine WW (T0:=[]) hl fr ?_;cases ea:zm as E with
 |stuck=>rw[ea]at k;exact k
 |exc x E1=>rw[ea]at k;exact k
 |ok p =>
  obtain⟨ars,E1⟩:=p;rw[ea]at k;intro vs H1 av g;dsimp only at k;cases e1:zJ ars E1 with
  |stuck=>rw[e1]at k;exact k.elim
  |exc _ _=>rw[e1]at k;exact k.elim
  |ok p =>
   obtain⟨ss,E2⟩:=p;rw[e1]at k;dsimp only at k;cases e2:F ss with
   |stuck=>rw[e2]at k;exact k.elim
   |exc x o =>
    rw[e2]at k;dsimp only at k;cases hl:Gi ars with
    |false=>rw[hl]at k;exact k.elim
    |true =>
     rw[hl]at k;exact zEB ((ji as ea).trans hn) hl e1 e2 av g λC H' hm g'=>⟨⟨x.cls,false⟩,C,rfl,hm,rfl,k H' g'⟩
   |ok p =>
    obtain⟨r,outs⟩:=p;rw[e2]at k;dsimp only at k;cases e3:zG ars outs E1 E2 with
    |stuck=>rw[e3]at k;exact k.elim
    |exc _ _=>rw[e3]at k;exact k.elim
    |ok E3 =>
     rw[e3]at k;exact zEA ((ji as ea).trans hn) e1 e2 e3 av g k
inductive Mask:Fz->Fz->Prop
 |nil (Z:Fz):Mask Z []
 |keep {z:Option V×Slot} {Z W:Fz}:Mask Z W->Mask (z::Z) (z::W)
 |skip {z:Option V×Slot} {Z W:Fz}:Mask Z W->Mask (z::Z) W
 |extra {o:Option V} {Z W:Fz}:Mask Z W->Mask Z ((o,.emp)::W)
theorem Mask.emp{z:Option V×Slot}{o:Option V}{Z W:Fz}(h:Mask Z W):Mask (z::Z) ((o,.emp)::W):=.skip (.extra h)
theorem Mask.sub:∀{Z W:Fz},Mask Z W->(yV W).Sublist (yV Z)
 |_,_,.nil Z=>by simp[yV]
 |_,_,.keep (z:=z) (Z:=Z) (W:=W) h=>by
  have e:∀W:Fz,yV (z::W)=yV [z]++yV W:=λW=>zU [z] W
  rw[e Z,e W];exact h.sub.append_left _
 |_,_,.skip (z:=z) (Z:=Z) (W:=W) h=>by
  have e:∀W:Fz,yV (z::W)=yV [z]++yV W:=λW=>zU [z] W
  rw[e Z];exact h.sub.trans (sublist_append_right _ _)
 |_,_,.extra (Z:=Z) (W:=W) h=>by
  rw[yY];exact h.sub
theorem Mask.mem:∀{Z W:Fz},Mask Z W->∀o s,s≠Slot.emp->(o,s)∈W->(o,s)∈Z
 |_,_,.nil Z,o,s,hs,h=>by cases h
 |_,_,.keep h,o,s,hs,q=>by
  rcases mem_cons.mp q with q|q
  ·subst q;exact mem_cons_self
  ·exact mem_cons_of_mem _ (h.mem o s hs q)
 |_,_,.skip h,o,s,hs,q=>mem_cons_of_mem _ (h.mem o s hs q)
 |_,_,.extra h,o,s,hs,q=>by
  rcases mem_cons.mp q with q|q
  ·cases q;exact absurd rfl hs
  ·exact h.mem o s hs q
theorem FR.mask{Z W:Fz}(f:FR K mg M H Z)(h:Mask Z W):FR K mg M H W where
 val:=λo d q=>by
  obtain⟨v,e,r⟩:=f.val o d (h.mem o _ (by intro z;cases z) q);exact⟨v,e,r.mono (jy (Ye λb hb=>h.sub.subset hb))⟩
 own:=λo s ds q e=>by
  obtain⟨a,xs,e1,e2,e3,r⟩:=f.own o s ds (h.mem o s (by intro z;subst z;cases e) q) e;exact⟨a,xs,e1,e2,e3,r.mono (jy (Ye λb hb=>h.sub.subset hb))⟩
 nd:=f.nd.sublist h.sub
 mal:=f.mal
def zw:List Slot->zP->List Slot
 | [],_=>[]
 | .par _::ss,s::E=>s::zw ss E
 |_::ss,_::E=>.emp::zw ss E
 |_::ss,[]=>.emp::zw ss []
def fnM(N:Nat)(body:MS):MF:=λss=>match body (ss++replicate (N-ss.length) .emp)with
 | .ok (.ret r,E')=>.ok (r,zw ss E')
 | .ok (.nx,E')=>.ok (.val .non,zw ss E')
 | .exc x E'=>.exc x (zw ss E')
 |_=>.stuck
theorem zn:∀(ss:List Slot) (E:zP),(zw ss E).length=ss.length
 | [],_=>rfl
 | .par _::ss,s::E=>by simp[zw,zn ss E]
 | .emp::ss,s::E=>by simp[zw,zn ss E]
 | .val _::ss,s::E=>by simp[zw,zn ss E]
 | .own _::ss,s::E=>by simp[zw,zn ss E]
 | .par _::ss,[]=>by simp[zw,zn ss []]
 | .emp::ss,[]=>by simp[zw,zn ss []]
 | .val _::ss,[]=>by simp[zw,zn ss []]
 | .own _::ss,[]=>by simp[zw,zn ss []]
theorem Yl:∀(ss:List Slot) (vs:List (Option V)) (σ:St) (E:zP),E.length=σ.length->vs.length=ss.length->(∀(i:Nat) ds,ss[i]?=some (.par ds)->σ[i]?=vs[i]?)->Mask (σ.zip E) (vs.zip (zw ss E))
 | [],vs,σ,E,_,_,_=>by
  simp only[zw,List.zip_nil_right];exact .nil _
 |s::ss,[],σ,E,_,h,_=>by simp at h
 |s::ss,v::vs,[],y::E,h,_,_=>by simp at h
 |s::ss,v::vs,x::σ,[],h,_,_=>by simp at h
 |s::ss,v::vs,[],[],h1,h2,h4=>by
  have ih:=Yl ss vs [] [] rfl (by simpa using h2) λi ds e=>by
   have:=h4 (i+1) ds (by simpa using e);simpa using this
  cases s<;>exact .extra ih
 |s::ss,v::vs,x::σ,y::E,h1,h2,h4=>by
  have ih:=Yl ss vs σ E (by simpa using h1) (by simpa using h2) λi ds e=>by
   have:=h4 (i+1) ds (by simpa using e);simpa using this
  cases s with
  |par ds =>
   have e:=h4 0 ds rfl;simp at e;subst e;simp only[zw,zip_cons_cons];exact .keep ih
  |emp=>simp only[zw,zip_cons_cons];exact .emp ih
  |val d=>simp only[zw,zip_cons_cons];exact .emp ih
  |own ds=>simp only[zw,zip_cons_cons];exact .emp ih
theorem uT:∀n:Nat,(replicate n (none:Option V)).zip (replicate n Slot.emp)=replicate n (none,Slot.emp)
 |0=>rfl
 |n+1=>by simp[replicate_succ,uT n]
theorem uU(n:Nat):yV (replicate n ((none:Option V),Slot.emp))=[]:=by
 induction n with
 |zero=>rfl
 |succ n ih=>rw[replicate_succ,yY,ih]
theorem FR.emps(f:FR K mg M H Z)(n:Nat):FR K mg M H (Z++replicate n (none,.emp)):=by
 have eo:yV (Z++replicate n (none,Slot.emp))=yV Z:=by rw[zU,uU,append_nil]
 have em:Mo M (Z++replicate n (none,Slot.emp))=Mo M Z:=by unfold Mo;rw[eo]
 refine⟨λo d q=>?_,λo s ds q e=>?_,by rw[eo];exact f.nd,f.mal⟩
 ·rw[em]
  rcases mem_append.mp q with q|q
  ·exact f.val o d q
  ·have:=List.eq_of_mem_replicate q;cases this
 ·rw[em]
  rcases mem_append.mp q with q|q
  ·exact f.own o s ds q e
  ·have:=List.eq_of_mem_replicate q;cases this;cases e
theorem body_ok{N:List Str}{n:Nat}{body:MS}{vs:List V}{Q:VK}{XQ:XK}(hx:∀x σ' H',(∀C,X.mg x.cls=some (.ref C)->XQ (.ref C) none H')->XE X σ' H' x)(h:spM X.K X.mg n (fnM N.length body) vs H Q XQ):tS X body {nx:=λ_ H'=>Q .non H',rt:=Q} (L2.jx N vs) H:=by
 obtain⟨hv,M,ss,hl,f,k⟩:=h;have e0:(L2.jx N vs).zip (ss++replicate (N.length-ss.length) Slot.emp)=(vs.map some).zip ss++replicate (N.length-ss.length) (none,.emp):=by
  unfold L2.jx;rw[zip_append (by simp[hl]),hl,uT]
 have hE:(ss++replicate (N.length-ss.length) Slot.emp).length=(L2.jx N vs).length:=by
  unfold L2.jx;simp[hl]
 have f0:FR X.K X.mg M H ((L2.jx N vs).zip (ss++replicate (N.length-ss.length) Slot.emp)):=by rw[e0];exact f.emps _
 have eo:∀b,b∈yV ((L2.jx N vs).zip (ss++replicate (N.length-ss.length) Slot.emp))->b∈yV ((vs.map some).zip ss):=λb hb=>by
  rw[e0,zU,uU,append_nil]at hb;exact hb
 refine⟨M,ss++replicate (N.length-ss.length) Slot.emp,hE,f0,?_⟩;unfold fnM at k;have fin:∀{σ':St} {E':zP} {H':Hp} {v:V} {r:R},Got X.K X.mg M (L2.jx N vs) (ss++replicate (N.length-ss.length) Slot.emp) H [] σ' E' H' [(some v,r.slot)] ->
   (∀v H',(zw ss E').length=vs.length->FR X.K X.mg M H' ((some v,r.slot)::(vs.map some).zip (zw ss E'))->Step M H ((vs.map some).zip ss) H' ((some v,r.slot)::(vs.map some).zip (zw ss E'))->Q v H')->Q v H':=λ{σ' E' H' v r} g kk=>by
  have mk:Mask (σ'.zip E') ((vs.map some).zip (zw ss E')):=Yl ss _ σ' E' g.len (by simp[hl]) λi ds e=>by
   have hi:i<ss.length:=(List.getElem?_eq_some_iff.mp e).1;have e1:(ss++replicate (N.length-ss.length) Slot.emp)[i]?=some (.par ds):=by rw[getElem?_append_left hi];exact e
   have:=(g.pk i ds e1).2;rw[this];unfold L2.jx;rw[getElem?_append_left (by simp;omega)]
  refine kk v H' (by rw[zn,hl]) (g.fr.mask (.keep mk)) ?_;exact(g.st.weak λb hb=>(Mask.keep mk).sub.subset hb).left eo
 cases eb:body (ss++replicate (N.length-ss.length) Slot.emp)with
 |stuck=>rw[eb]at k;exact k
 |exc x E' =>
  rw[eb]at k;intro σ' H' g;refine hx x σ' H' λC hm=>k C H' hm (g.fr.sub (List.nil_sublist _)) ?_
  exact(g.st.weak λb hb=>by cases hb).left eo
 |ok p =>
  obtain⟨fl,E'⟩:=p;rw[eb]at k;cases fl with
  |bk=>exact k.elim
  |ct=>exact k.elim
  |ret r=>exact λv σ' H' g=>fin g k
  |nx=>exact λσ' H' g=>fin (r:=.val .non) (g.flat (d:=.non) rfl) k
end
section
variable{P:Program}{w:World}{K:PySem.W.Frag}{mg:Str->Option Value}{base:Heap}
theorem fn_ok{c:Bool}{x qual:Str}{st:Stmt}{f:Addr}{fd:FuncData}{N ps:List Str}{k:Nat}{body:MS}(F:Fun K x qual st f fd)(S:FnScope N ps (zb st))
  (hb:∀(cdv:Value) (A:Around) (outer:List Env) (s:Shared) (H:Hp) (E:XK),(c=true->A.handled=none)->RoomN k (A.deeper (PyProof.Rows.envOfC qual (zb st) s.heap.objs.size f cdv)) ->
   zA8 (cxN c P w K mg base N qual (zb st) f cdv A outer s H E) (jS st) body):FnOkN c P w K mg base (k+1) f fd ps (spM K mg ps.length (fnM N.length body)):=by
 obtain⟨oc,od,kV,doc,pm,an,cdv,ct,osl,rfl,lk,hcd⟩:=F.ex;exact fn_ofN lk hcd S (λvs H Q E h=>h.1) λA outer s H vs Q E hd hr h=>⟨_,hb cdv A outer s H E hd hr,body_ok (X:=cxN c P w K mg base N qual (zb st) f cdv A outer s H E) (λx σ' H' hE=>zDr hE) h⟩
end
section
variable{X:Cx}{k:Nat}{f:Addr}{fd:FuncData}{ps:List Str}{F:MF}{x:Str}{p pos:Pos}{e:Expr}{es:List Expr}{as:List Arg}
theorem ok_call{c:Bool}(G:FnOkN c X.prog X.w X.K X.mg X.base k f fd ps (spM X.K X.mg ps.length F))(hd:c=true->X.A.handled=none)(hr:RoomN k X.A)(hg:Gl X x)(hm:X.mg x=some (.ref f))(hk:keepIn X.K (.ref f)=true)(hb:WK X.K fd ps [])(ha:zFQ X (e::es) as)(hn:as.length=ps.length:=by rfl)
  (hdb:(x==("__debug__":Str))=false:=by decide) (he:zL e=false:=by rfl) (hpl:jc es=true:=by rfl):EOk X (.Call (.Name x p) (e::es) [] pos) (jh F as) :=
 yN (zDq G hd hr hg hm hk hb ha hdb (yA he) (Yg hpl)) λσ H Q=>zEC hn
end
end DV
namespace DV
open PySem L2
section
variable{X:Cx}{σ:St}{H:Hp}
end
end DV
namespace L2
open PySem PySem.Spec PyProof.Rows
theorem Inv.big{X:Cx}{pins:List (Addr×Obj)}{σ:St}{H:Hp}{s:Shared}(I:Inv X pins σ H s):sysModules<s.heap.objs.size:=by
 have h:mainGlobals<s.heap.objs.size:=(I.mod.glob.keeps I.bk).lt;exact lt_trans (by decide) h
def cxB(X:Cx)(N:List Str)(scope:Scope)(cl:List (Str×Addr))(C:Addr)(ex:List Addr)(s:Shared)(H:Hp):Cx :=
 {X with N:=N,s₀:=s,H₀:=H,env:=compEnvC scope cl C X.env,outer:=X.stack,ex:=ex,fn:=λy=>scope.names.lookup y==some NameKind.cell,pn:=[]}
theorem YB{prog:Program}{w:World}{A:Around}{R:Result->Shared->Prop}{s:Shared}{elt target iter:Expr}{ifs:List Expr}{scope:Scope}{pos:Pos}{it acc:Value}{env:Env}(I:Nat->Shared->Prop)
  (turn:∀n s,I n s->wpAny (model prog w) A (pyNext it) (λr s₁=>match r with
   |none=>R (.ok .next) s₁
   |some v=>wpAny (model prog w) A (letOwnedTupleGo target it v) (λ_ s₁=>wpAny (model prog w) A (assign target env v) (λ_ s₂ =>
     wpAny (model prog w) A (forIn ifs true λc r=>if r=true then do let ok <- isTrue c env (eval c env);pure (ForInStep.yield ok)else pure (ForInStep.yield r)) (λok s₃ =>
      if ok=true then wpAny (model prog w) A (eval elt env) (λx s₄ =>
       wpAny (model prog w) A (call (.builtin "list.append") [acc,x]) (λ_ s₅=>∃m,m<n/\I m s₅) (notedBy (model prog w) A env λe s'=>R (.error e) s') s₄) (notedBy (model prog w) A env λe s'=>R (.error e) s') s₃
      else ∃m,m<n/\I m s₃) (notedBy (model prog w) A env λe s'=>R (.error e) s') s₂) (notedBy (model prog w) A env λe s'=>R (.error e) s') s₁) (notedBy (model prog w) A env λe s'=>R (.error e) s') s₁) (notedBy (model prog w) A env λe s'=>R (.error e) s') s)
  (n:Nat) (h:I n s) :
  codeAny (model prog w) A (.compLoop (.ListComp elt [⟨target,iter,ifs,0⟩] scope pos) 0 it acc env) R s:=by
 refine codeAny_loop rfl I (λn s hI=>?_) n h;show wpAny _ A ((compTurn (.ListComp elt [⟨target,iter,ifs,0⟩] scope pos) 0 it acc env).onRaise (λx=>do noteFrame x env;theTreesLotGoes x)) _ _ s;refine wpAny_noted ?_;rw[compTurn_list];refine wpAny_bind (wpAny_standAt (wpAny_bind (wpAny_mono (turn n s hI) (λr s₁ h₁=>?_) λ_ _ h'=>h')));cases r with
 |none=>exact wpAny_pure h₁
 |some v =>
  refine wpAny_bind (wpAny_mono h₁ (λ_ s₁' h₁'=>?_) λ_ _ h'=>h');refine wpAny_bind (wpAny_mono h₁' (λ_ s₂ h₂=>wpAny_bind (wpAny_mono h₂ (λok s₃ h₃=>?_) λ_ _ h'=>h')) λ_ _ h'=>h');cases ok with
  |false=>exact wpAny_pure ⟨rfl,h₃⟩
  |true =>
   exact wpAny_bind (wpAny_bind (wpAny_mono h₃ (λx s₄ h₄=>wpAny_bind (wpAny_mono h₄ (λ_ s₅ h₅=>wpAny_pure (wpAny_pure ⟨rfl,h₅⟩)) λ_ _ h'=>h')) λ_ _ h'=>h'))
def zBP(X:Cx)(ifs:List Expr)(t:TT):Prop:=∀(pins:List (Addr×Obj)) (s:Shared) (σ:St) (H:Hp) (Q:Bool->Hp->Prop),Inv X pins σ H s->t σ H Q ->
 wpAny (model X.prog X.w) X.A (forIn ifs true λc r=>if r=true then do let ok <- isTrue c X.env (eval c X.env);pure (ForInStep.yield ok)else pure (ForInStep.yield r)) (TP X pins σ Q) X.xe s
theorem pif_nil{X:Cx}:zBP X [] (λσ H Q=>Q true H):=λpins s σ H Q I h=>wpAny_tests_nil ⟨H,I,h⟩
theorem pif_one{X:Cx}{c:Expr}{t:TT}(h:PT X c t):zBP X [c] t:=λpins s σ H Q I q=>wpAny_tests_one (h pins s σ H Q I q)
def zY(nl:Nat)(caps:List Nat)(σ:St):St:=replicate nl none++caps.map λj=>(σ[j]?).getD none
def zED(nl:Nat)(caps:List Nat)(wi:TI)(g:TG)(tt:TT)(te:TE):TE:=λσ H Q=>wi σ H λJ H1=>∀D,H1 D=none->∃W:Nat->Nat->St->Hp->Prop,(∃m,W 0 m (zY nl caps σ) (upd H1 D (.lst [])))/\∀i m σ' H',W i m σ' H' ->
 (J.stop i H'/\Q (.ref D) H')\/(J.go i H'/\∃Nx:St->Hp->Prop,(∀σ'' H'',Nx σ'' H''->∃m',m'<m/\W (i+1) m' σ'' H'')/\∀x H'',J.yld i H' x H''->g x σ' H'' λσ2 H2 =>
  tt σ2 H2 λb H3=>if b=true then te σ2 H3 λy H4=>∃ys,H4 D=some (.lst ys)/\ys.length<sizeLine/\Nx σ2 (upd H4 D (.lst (ys++[y])))else Nx σ2 H3)
theorem wP{env:Env}:∀{names:List (Str×NameKind)} {x:Str} {k:NameKind},(names.map λ(n,k)=>if(k==NameKind.free&&env.scope.kind==.function&&env.kindOf n==some .cell)then(n,NameKind.cell)else(n,k)).lookup x=some k ->
  ∃k0,names.lookup x=some k0/\(k=k0\/(k0=.free/\k=.cell))
 | [],_,_,h=>by simp at h
 | (n,k1)::r,x,k,h=>by
  have ih:=@wP env r x k;rw[map_cons]at h;by_cases hc:(k1==NameKind.free&&env.scope.kind==.function&&env.kindOf n==some .cell)=true
  ·simp only[hc,if_true]at h
   cases hx:x==n with
   |true =>
    simp only[lookup_cons,hx]at h ⊢;cases h;refine⟨k1,rfl,.inr ⟨?_,rfl⟩⟩;simp only[Bool.and_eq_true,beq_iff_eq]at hc;exact hc.1.1
   |false=>simp only[lookup_cons,hx]at h ⊢;exact ih h
  ·have hc':(k1==NameKind.free&&env.scope.kind==.function&&env.kindOf n==some .cell)=false:=by simpa using hc
   simp only[hc',Bool.false_eq_true,if_false]at h;cases hx:x==n with
   |true=>simp only[lookup_cons,hx]at h ⊢;cases h;exact⟨k1,rfl,.inl rfl⟩
   |false=>simp only[lookup_cons,hx]at h ⊢;exact ih h
theorem JJ{env:Env}:∀{names:List (Str×NameKind)} {x:Str},names.lookup x=some .free->env.scope.kind=.function->env.kindOf x=some .cell ->
  (names.map λ(n,k)=>if(k==NameKind.free&&env.scope.kind==.function&&env.kindOf n==some .cell)then(n,NameKind.cell)else(n,k)).lookup x=some .cell
 | [],_,h,_,_=>by simp at h
 | (n,k1)::r,x,h,hk,hc=>by
  have ih:=@JJ env r x;rw[map_cons];cases hx:x==n with
  |true =>
   have:x=n:=by simpa using hx
   subst this;simp only[lookup_cons,hx]at h;cases h;have:(NameKind.free==NameKind.free&&env.scope.kind==.function&&env.kindOf x==some .cell)=true:=by simp[hk,hc]
   simp only[this,if_true,lookup_cons,hx]
  |false =>
   simp only[lookup_cons,hx]at h;by_cases hcc:(k1==NameKind.free&&env.scope.kind==.function&&env.kindOf n==some .cell)=true
   ·simp only[hcc,if_true,lookup_cons,hx];exact ih h hk hc
   ·have hcc':(k1==NameKind.free&&env.scope.kind==.function&&env.kindOf n==some .cell)=false:=by simpa using hcc
    simp only[hcc',Bool.false_eq_true,if_false,lookup_cons,hx];exact ih h hk hc
def QV(env:Env):List (Str×NameKind)->List (Str×Addr)->List (Str×Addr)
 | [],cs=>cs
 | (n,k)::r,cs=>if k==.free then QV env r ((n,(env.cells.lookup n).getD 0)::cs)else QV env r cs
theorem JZ{env:Env}:∀(names:List (Str×NameKind)) (cs:List (Str×Addr)),(∀y∈names,y.2=.free->∃c,env.cells.lookup y.1=some c) ->
  (forIn names cs (λx r=>if(x.snd==NameKind.free)=true then do
    let c <- cellOf env x.fst
    pure (ForInStep.yield ((x.fst,c)::r))
   else pure (ForInStep.yield r)):Sem (List (Str×Addr)))=pure (QV env names cs)
 | [],cs,_=>by rfl
 | (n,k)::r,cs,h=>by
  rw[List.forIn_cons];dsimp only;by_cases hk:(k==NameKind.free)=true
  ·obtain⟨c,hc⟩:=h (n,k) mem_cons_self (by simpa using hk)
   have ec:cellOf env n=pure c:=by unfold cellOf;rw[hc]
   rw[if_pos hk,ec];show(forIn r ((n,c)::cs) _:Sem (List (Str×Addr)))=_;rw[JZ r _ λy hy=>h y (mem_cons_of_mem _ hy)]
   conv=>rhs;unfold QV
   rw[if_pos hk,hc];rfl
  ·rw[if_neg hk]
   show(forIn r cs _:Sem (List (Str×Addr)))=_
   rw[JZ r _ λy hy=>h y (mem_cons_of_mem _ hy)]
   conv=>rhs;unfold QV
   rw[if_neg hk]
theorem jT{env:Env}:∀(names:List (Str×NameKind)) (cs:List (Str×Addr)) (x:Str),(∀y∈names,y.2=.free->∃c,env.cells.lookup y.1=some c)->(∀c,cs.lookup x=some c->env.cells.lookup x=some c) ->
  (∀c,(QV env names cs).lookup x=some c->env.cells.lookup x=some c)/\(((∃c,cs.lookup x=some c)\/∃y∈names,y.1=x/\y.2=.free)->∃c,(QV env names cs).lookup x=some c)
 | [],cs,x,_,hcs=>⟨hcs,λh=>h.elim id λ⟨y,hy,_⟩=>by cases hy⟩
 | (n,k)::r,cs,x,h,hcs=>by
  unfold QV;by_cases hk:(k==NameKind.free)=true
  ·rw[if_pos hk]
   obtain⟨c,hc⟩:=h (n,k) mem_cons_self (by simpa using hk);have ih:=jT r ((n,(env.cells.lookup n).getD 0)::cs) x (λy hy=>h y (mem_cons_of_mem _ hy)) (λc' e=>by
    rw[lookup_cons]at e;cases hx:x==n with
    |true =>
     have:x=n:=by simpa using hx
     subst this;rw[hx]at e;simp only[hc,Option.getD_some]at e;rw[hc];exact e
    |false=>rw[hx]at e;exact hcs c' e)
   refine⟨ih.1,λq=>ih.2 ?_⟩;rcases q with⟨c',q⟩|⟨y,hy,q1,q2⟩
   ·left
    rw[lookup_cons];cases hx:x==n with
    |true=>exact⟨_,rfl⟩
    |false=>exact⟨c',q⟩
   ·rcases mem_cons.mp hy with hy|hy
    ·subst hy
     left
     have q1:n=x:=q1;subst q1;exact⟨(env.cells.lookup n).getD 0,by rw[lookup_cons,beq_self_eq_true]⟩
    ·right;exact⟨y,hy,q1,q2⟩
  ·rw[if_neg hk]
   have ih:=jT r cs x (λy hy=>h y (mem_cons_of_mem _ hy)) hcs;refine⟨ih.1,λq=>ih.2 ?_⟩;rcases q with q|⟨y,hy,q1,q2⟩
   ·exact .inl q
   ·rcases mem_cons.mp hy with hy|hy
    ·subst hy
     exact absurd (by simpa using q2) hk
    ·exact .inr ⟨y,hy,q1,q2⟩
theorem Ym:∀(names:List (Str×NameKind)) (h:Heap) (acc:List (Str×Addr)) (x:Str) (c:Addr),(cellsFrom h.objs.size names acc).lookup x=some c ->
  acc.lookup x=some c\/((x,NameKind.cell)∈names/\h.objs.size<=c/\(pushCells h names).IsCell c none)
 | [],h,acc,x,c,e=>.inl e
 | (n,k)::r,h,acc,x,c,e=>by
  unfold cellsFrom at e;unfold pushCells;split at e
  ·rename_i hk
   rw[if_pos hk];have sz:(h.push {cls:=.type "cell",data:=.cell none}).objs.size=h.objs.size+1:=size_push ..;rw[<- sz]at e;rcases Ym r (h.push {cls:=.type "cell",data:=.cell none}) _ x c e with q|⟨q1,q2,q3⟩
   ·rw[lookup_cons]at q
    cases hx:x==n with
    |true =>
     rw[hx]at q;cases q;have hx':x=n:=by simpa using hx
     have hk':k=.cell:=by simpa using hk
     subst hx';subst hk';exact .inr ⟨mem_cons_self,le_refl _,⟨_,pushCells_keeps _ _ _ _ (get?_push_size _ rfl),rfl⟩⟩
    |false=>rw[hx]at q;exact .inl q
   ·exact .inr ⟨mem_cons_of_mem _ q1,by rw[sz]at q2;omega,q3⟩
  ·rename_i hk
   rw[if_neg hk];rcases Ym r h acc x c e with q|⟨q1,q2,q3⟩
   ·exact .inl q
   ·exact .inr ⟨mem_cons_of_mem _ q1,q2,q3⟩
theorem WX:∀(names:List (Str×NameKind)) (n:Nat) (acc:List (Str×Addr)) (x:Str),(x,NameKind.cell)∉names->(cellsFrom n names acc).lookup x=acc.lookup x
 | [],n,acc,x,_=>rfl
 | (y,k)::r,n,acc,x,h=>by
  simp only[mem_cons,not_or]at h;unfold cellsFrom;split
  ·rename_i hk
   rw[WX r _ _ x h.2,lookup_cons];cases hx:x==y with
   |true =>
    have hx':x=y:=by simpa using hx
    have hk':k=.cell:=by simpa using hk
    subst hx';subst hk';exact absurd rfl h.1
   |false=>rfl
  ·exact WX r _ _ x h.2
theorem zAM:∀(names:List (Str×NameKind)) (n:Nat) (acc:List (Str×Addr)) (x:Str) (c:Addr),(x,NameKind.cell)∈names->(cellsFrom n names acc).lookup x=some c->n<=c
 | [],_,_,_,_,h,_=>by cases h
 | (y,k)::r,n,acc,x,c,h,e=>by
  unfold cellsFrom at e;by_cases hr:(x,NameKind.cell)∈r
  ·split at e
   ·exact Nat.le_of_succ_le (zAM r _ _ x c hr e)
   ·exact zAM r _ _ x c hr e
  ·rcases mem_cons.mp h with q|q
   ·cases q
    rw[if_pos (by rfl),WX r _ _ _ hr,lookup_cons,beq_self_eq_true]at e;cases e;exact le_refl _
   ·exact absurd q hr
theorem zAN:∀(names:List (Str×NameKind)) (n:Nat) (acc:List (Str×Addr)),(∀x y c,acc.lookup x=some c->acc.lookup y=some c->x=y)->(∀x c,acc.lookup x=some c->c<n) ->
  ∀x y c,(cellsFrom n names acc).lookup x=some c->(cellsFrom n names acc).lookup y=some c->x=y
 | [],n,acc,hi,_,x,y,c,e1,e2=>hi x y c e1 e2
 | (z,k)::r,n,acc,hi,hb,x,y,c,e1,e2=>by
  unfold cellsFrom at e1 e2;split at e1
  ·refine zAN r (n+1) ((z,n)::acc) (λx y c e1 e2=>?_) (λx c e=>?_) x y c e1 (by rename_i hk;rwa [if_pos hk]at e2)
   ·rw[lookup_cons]at e1 e2
    cases hx:x==z with
    |true =>
     rw[hx]at e1;cases e1;have hx':x=z:=by simpa using hx
     cases hy:y==z with
     |true =>
      have hy':y=z:=by simpa using hy
      rw[hx',hy']
     |false=>rw[hy]at e2;exact absurd (hb y _ e2) (lt_irrefl _)
    |false =>
     rw[hx]at e1;cases hy:y==z with
     |true=>rw[hy]at e2;cases e2;exact absurd (hb x _ e1) (lt_irrefl _)
     |false=>rw[hy]at e2;exact hi x y c e1 e2
   ·rw[lookup_cons]at e
    cases hx:x==z with
    |true=>rw[hx]at e;cases e;exact lt_succ_self _
    |false=>rw[hx]at e;exact lt_succ_of_lt (hb x c e)
  ·exact zAN r n acc hi hb x y c e1 (by rename_i hk;rwa [if_neg hk]at e2)
theorem JC{M:Model}{A:Around}{E:Value->Shared->Prop}{s:Shared}{scope:Scope}{globals:Addr}{cl:List (Str×Addr)}{qual:Str}{env:Env}{Q:Env->Shared->Prop}
  (hQ:Q (newEnv scope s.heap.objs.size globals (cellsFrom (s.heap.objs.size+1) scope.names cl) qual none .none (some env) builtinsNs) {s with heap:=pushCells (s.heap.push {cls:=.type "dict",data:=.dict #[]}) scope.names}) :
  wpAny M A (newFunctionEnv scope globals cl [] qual none .none (some env)) Q E s:=by
 simp only[newFunctionEnv,Option.isSome_some,if_true];refine wpAny_bind (wpAny_alloc ?_);refine wpAny_bind (wpAny_layCells _ (λname kind cells=>by cases hkc:kind==NameKind.cell<;>simp[hkc]) _ _ _ _ ?_);rw[show({s with heap:=s.heap.push {cls:=.type "dict",data:=.dict #[]}}:Shared).heap.objs.size=s.heap.objs.size+1 from size_push ..]
 rw[List.forIn_nil];exact wpAny_bind (wpAny_pure (wpAny_pure hQ))
section
variable{X:Cx}{elt target iter:Expr}{ifs:List Expr}{scope:Scope}{pos:Pos}{nl:Nat}{caps:List Nat}{N':List Str}
theorem Gj{wi:TI}{g:TG}{tt:TT}{te:TE}{use:Option (Value->Sem Unit)}{QQ:Value->Shared->Prop}{pins:List (Addr×Obj)}{s:Shared}{σ:St}{H:Hp}{Q:VK}{p0:Pos}(hx:∀e s,¬X.xe e s)(hc:X.calm=true)(hkind:scope.kind=.function)(hnames:∀y∈scope.names,y.2=.local->scope.names.lookup y.1=some .local)(hcell:∀y∈scope.names,y.2=.cell->scope.names.lookup y.1=some .cell)
  (hfree:(scope.names.all λy=>y.2 != .free||X.env.kindOf y.1==some .cell)=true)
  (hlen:N'.length=nl+caps.length) (hcap:∀(i j:Nat),caps[i]?=some j->∃x,N'[nl+i]?=some x/\X.N[j]?=some x/\scope.names.lookup x=some .free)
  (hi:PI X target iter wi) (hg:∀cl C ex s H,PG (cxB X N' scope cl C ex s H) target g) (ht:∀cl C ex s H,zBP (cxB X N' scope cl C ex s H) ifs tt) (he:∀cl C ex s H,PE (cxB X N' scope cl C ex s H) elt te)
  (hs:∀x,foldedSetIterable iter X.env x=pure x) (I:Inv X pins σ H s) (h:zED nl caps wi g tt te σ H Q)
  (hfin:∀(D C:Addr) (H5:Hp) (s6:Shared) (m6:Str->Option Value),Inv X pins σ H5 s6->QT X pins H5 C->s6.heap.Ns C m6->Q (.ref D) H5->compPost (model X.prog X.w) X.A X.xe use QQ (.ref D) C (.ok .next) s6) :
  wpAny (model X.prog X.w) X.A (comprehension (.ListComp elt [⟨target,iter,ifs,0⟩] scope pos) scope X.env p0 (newList []) false (eval iter X.env) use) QQ X.xe s:=by
 have hfr:∀y∈scope.names,y.2=.free->X.env.kindOf y.1=some .cell:=λy hy e=>by
  have:=all_eq_true.mp hfree y hy;rw[e]at this;simpa using this
 have hcl:∀y∈scope.names,y.2=.free->∃c,X.env.cells.lookup y.1=some c:=λy hy e=>I.ok.has y.1 (.inl (hfr y hy e))
 have hclos:closureFor scope X.env=pure (QV X.env scope.names []):=by
  simp only[closureFor];rw[JZ scope.names [] hcl];rfl
 have cl1:∀x c,(QV X.env scope.names []).lookup x=some c->X.env.cells.lookup x=some c:=λx c e=>(jT scope.names [] x hcl (λ_ z=>by cases z)).1 c e
 have cl2:∀x,(∃y∈scope.names,y.1=x/\y.2=.free)->∃c,(QV X.env scope.names []).lookup x=some c:=λx q=>(jT scope.names [] x hcl (λ_ z=>by cases z)).2 (.inr q)
 generalize QV X.env scope.names []=cl at hclos cl1 cl2;refine wpAny_comprehension_free (use:=use) rfl hs hclos hkind hnames (thn (hi pins s σ H _ I h) λxv s1 h1=>thn h1 λitv s2 h2=>?_);obtain⟨it,fp,tn,J,H2,e,I2,T,st2,f2,turn⟩:=h2;subst e;refine wpAny_newObj_type (JC ?_) (by show(#[]:Array Value).size<=sizeLine;simp);dsimp only;generalize hH3:s2.heap.push {cls:=.type "list",dict:=none,data:=.seq ([]:List Value).toArray}=h3;have hC:h3.objs.size=s2.heap.objs.size+1:=by rw[<- hH3,size_push]
 have hD:H2 s2.heap.objs.size=none:=I2.hok.fresh (le_refl _);obtain⟨W,⟨m0,w0⟩,step⟩:=turn s2.heap.objs.size hD
 -- the state at the block's entry
 have I3:Inv X pins σ (upd H2 s2.heap.objs.size (.lst [])) {s2 with heap:=h3}:=by
  rw[<- hH3];exact I2.laid (t':=s2.toks) (λb o q=>get?_push_of_some _ q) (le_refl _) ⟨zero_le _,[],0,.nil,get?_push_size _ rfl⟩
 have hcfr:∀x,scope.names.lookup x=some .free->(x,NameKind.cell)∉scope.names:=λx e z=>by
  have:=hcell _ z rfl;rw[e]at this;cases this
 have szp:(h3.push {cls:=.type "dict",data:=.dict #[]}).objs.size=h3.objs.size+1:=size_push ..;have cw:∀x c,(cellsFrom (h3.objs.size+1) scope.names cl).lookup x=some c->cl.lookup x=some c\/((x,NameKind.cell)∈scope.names/\h3.objs.size+1<=c/\(pushCells (h3.push {cls:=.type "dict",data:=.dict #[]}) scope.names).IsCell c none):=λx c e=>by
  rw[<- szp]at e ⊢;exact Ym _ _ _ x c e
 have cfr:∀x,scope.names.lookup x=some .free->(cellsFrom (h3.objs.size+1) scope.names cl).lookup x=cl.lookup x:=λx e=>WX _ _ _ x (hcfr x e)
 have chas:∀x,scope.names.lookup x=some .cell->∃c,(cellsFrom (h3.objs.size+1) scope.names cl).lookup x=some c:=λx e=>by
  have:=cellsFrom_some scope.names (h3.objs.size+1) cl (x:=x) (.inl e);exact Option.isSome_iff_exists.mp this
 have clt:∀x c,cl.lookup x=some c->c<h3.objs.size:=λx c e=>by
  obtain⟨v,q⟩:=I3.cell x c (cl1 x c e);exact q.lt
 have cinj:=zAN scope.names (h3.objs.size+1) cl (λx y c e1 e2=>I.ok.inj x y c (cl1 x c e1) (cl1 y c e2)) λx c e=>lt_succ_of_lt (clt x c e)
 have hns₁:(pushCells (h3.push {cls:=.type "dict",data:=.dict #[]}) scope.names).Ns h3.objs.size λ_=>none:=(Heap.Ns.new h3 (.type "dict")).keeps (pushCells_keeps _ _)
 have old:∀b o,h3.get? b=some o->(pushCells (h3.push {cls:=.type "dict",data:=.dict #[]}) scope.names).get? b=some o:=λb o e=>pushCells_keeps _ _ b o (get?_push_of_some _ e)
 generalize hh1:pushCells (h3.push {cls:=.type "dict",data:=.dict #[]}) scope.names=h₁ at hns₁ old cw ⊢;generalize hcs:cellsFrom (h3.objs.size+1) scope.names cl=cs at cw cfr chas cinj ⊢;have fpD:∀b∈fp,b≠s2.heap.objs.size:=λb hb z=>by
  obtain⟨o,e,_⟩:=T.obj 0 s2.heap st2 b hb;subst z;exact absurd (lt_size e) (lt_irrefl _)
 have fp3:∀b∈fp,upd H2 s2.heap.objs.size (.lst []) b=none:=λb hb=>by rw[z9 (fpD b hb)];exact(f2 b hb).1
 have fpC:∀b∈fp,b≠h3.objs.size:=λb hb z=>by
  obtain⟨o,e,_⟩:=T.obj 0 s2.heap st2 b hb;have q:b<s2.heap.objs.size:=lt_size e;rw[z,hC]at q;exact absurd q (not_lt.mpr (le_succ _))
 have hCn:upd H2 s2.heap.objs.size (.lst []) h3.objs.size=none:=I3.hok.fresh (le_refl _);have fpok:∀b∈fp,(b∈X.ex\/X.s₀.heap.objs.size<=b)/\b≠X.env.locals/\(∀x c,X.env.cells.lookup x=some c->c≠b)/\∀p∈X.pn++pins,p.1≠b:=λb hb=>by
  obtain⟨_,q2,_,q4,q5,q6⟩:=f2 b hb;exact⟨q4,q2,q5,q6⟩
 have fpH:∀b∈fp,b<h3.objs.size:=λb hb=>by
  obtain⟨o,e,_⟩:=T.obj 0 s2.heap st2 b hb;have q:b<s2.heap.objs.size:=lt_size e;rw[hC];exact lt_succ_of_lt q
 have fpcs:∀b∈fp,∀x c,cs.lookup x=some c->c≠b:=λb hb x c e=>by
  rcases cw x c e with q|⟨_,q,_⟩
  ·exact(fpok b hb).2.2.1 x c (cl1 x c q)
  ·intro z;subst z
   exact absurd (lt_of_lt_of_le (fpH _ hb) (Nat.le_of_succ_le q)) (lt_irrefl _)
 let Y:Cx:=cxB X N' scope cs h3.objs.size fp {s2 with heap:=h3} (upd H2 s2.heap.objs.size (.lst []))
 have kindY:∀x k,Y.env.kindOf x=some k->∃k0,scope.names.lookup x=some k0/\(k=k0\/(k0=.free/\k=.cell)):=λx k e=>wP e
 have okY:Y.Ok:={
  mod:=I.ok.mod
  kind:=hkind
  glob:=I.ok.glob
  blt:=I.ok.blt
  above:=le_refl _
  inj:=cinj
  has:=λx q=>by
   have:scope.names.lookup x=some .cell\/scope.names.lookup x=some .free:=by
    rcases q with q|q
    ·obtain⟨k0,e,z⟩:=kindY x _ q
     rcases z with z|z
     ·subst z;exact .inl e
     ·rw[z.1]at e;exact .inr e
    ·obtain⟨k0,e,z⟩:=kindY x _ q
     rcases z with z|z
     ·subst z;exact .inr e
     ·rw[z.1]at e;exact .inr e
   rcases this with q|q
   ·exact chas x q
   ·obtain⟨c,e⟩:=cl2 x ⟨(x,.free),PySem.mem_of_lookup q,rfl,rfl⟩
    exact⟨c,by show cs.lookup x=_;rw[cfr x q];exact e⟩
  cab:=λx c z e=>by
   have z:scope.names.lookup x=some .cell:=by
    have z:(scope.names.lookup x==some NameKind.cell)=true:=z;simpa using z
   have e:cs.lookup x=some c:=e;rw[<- hcs]at e;exact le_trans (le_succ _) (zAM _ _ _ x c (PySem.mem_of_lookup z) e)
  hd:=I.ok.hd
  frames:=I.ok.frames
  stk:=.inl rfl
  exf:=λb hb=>⟨fpC b hb,fpcs b hb⟩
  bs:=λb o e=>I3.bs b o e
  bsz:=le_trans I.ok.bsz I3.sz
  noex:=λb o e hb=>by
   obtain⟨q,_⟩:=fpok b hb;rcases q with q|q
   ·exact I.ok.noex b o e q
   ·exact absurd (lt_of_lt_of_le (lt_size e) I.ok.bsz) (not_lt.mpr q)
  exfs:=λb hb z=>by
   have:=I2.stkSub b z;rcases mem_cons.mp this with q|q
   ·exact(fpok b hb).2.1 q
   ·exact(f2 b hb).2.2.1 q
  funs:=I3.stack
  frf:=I3.stkFree}
 have keep1:∀b o,h3.get? b=some o->h₁.get? b=some o:=old;have lenY:(zY nl caps σ).length=N'.length:=by unfold zY;simp[hlen]
 have IY:Inv Y [] (zY nl caps σ) (upd H2 s2.heap.objs.size (.lst [])) {s2 with heap:=h₁}:={
  ok:=okY
  os:=rfl
  bare:=I3.bare
  base:=Un.kept keep1
  loc:=by
   refine⟨_,hns₁,λi x v e1 e2 e3=>?_⟩;have e1:N'[i]?=some x:=e1;have hi:nl<=i:=by
    by_cases z:nl<=i
    ·exact z
    ·unfold zY at e2
     rw[getElem?_append_left (by simp;omega),List.getElem?_replicate]at e2;split at e2<;>cases e2
   unfold zY at e2;rw[getElem?_append_right (by simpa using hi),length_replicate,getElem?_map]at e2;cases ej:caps[i-nl]? with
   |none=>rw[ej]at e2;cases e2
   |some j =>
    rw[ej]at e2;simp only[Option.map_some,Option.some.injEq]at e2;obtain⟨x',c1,c2,c3⟩:=hcap (i-nl) j ej;have ex:x'=x:=by
     rw[show nl+(i-nl)=i by omega,e1]at c1;exact(Option.some.inj c1).symm
    subst ex;have e4:σ[j]?=some (some v):=by
     cases z:σ[j]? with
     |none=>rw[z]at e2;cases e2
     |some o=>rw[z]at e2;simp at e2;rw[e2]
    have kx:X.env.kindOf x'=some .cell:=hfr (x',.free) (PySem.mem_of_lookup c3) rfl;obtain⟨mm,_,lk⟩:=I3.loc;obtain⟨u,ru,lu⟩:=lk j x' v c2 e4 (.inr (.inl kx));refine⟨u,ru,?_⟩;rcases lu with⟨z,_⟩|⟨_,c,d1,d2⟩
    ·rw[kx]at z;cases z
    ·obtain⟨c',d3⟩:=cl2 x' ⟨(x',.free),PySem.mem_of_lookup c3,rfl,rfl⟩
     have:c'=c:=by have:=cl1 x' c' d3;rw[d1]at this;exact(Option.some.inj this).symm
     subst this;exact .inr ⟨.inl (JJ c3 I.ok.kind kx),c',by show cs.lookup _=_;rw[cfr x' c3];exact d3,d2.keeps old⟩
  cell:=λx c e=>by
   rcases cw x c e with e|⟨_,_,q⟩
   ·obtain⟨v,q⟩:=I3.cell x c (cl1 x c e)
    exact⟨v,q.keeps old⟩
   ·exact⟨_,q⟩
  free:=hCn
  freeC:=λx c e=>by
   rcases cw x c e with e|⟨_,q,_⟩
   ·exact I3.freeC x c (cl1 x c e)
   ·exact I3.hok.fresh (le_trans (le_succ _) q)
  pin:=λp hp=>absurd (show p∈([]:List (Addr×Obj))from hp) (by simp)
  hok:=I3.hok.kept old
  len:=lenY}
 have st1:tn 0 h₁:=T.keep 0 s2.heap h₁ st2 λb hb o e=>old b o (by rw[<- hH3];exact get?_push_of_some _ e)
 have fpY:∀{H':Hp},(∀b∈fp,H' b=none)->∀b∈fp,QT Y [] H' b:=λhn b hb =>
  ⟨hn b hb,fpC b hb,okY.exfs b hb,.inl hb,fpcs b hb,λp hp=>absurd (show p∈([]:List (Addr×Obj))from hp) (by simp)⟩
 have hA:Y.A=X.A:=rfl;have noE:∀{E':Value->Shared->Prop} {e:Value} {s:Shared},X.xe e s->E' e s:=λq=>absurd q (hx _ _)
 have fin:∀s₄:Shared,s₄={s2 with heap:=h₁} ->
   codeAny (model X.prog X.w) X.A (.compLoop (.ListComp elt [⟨target,iter,ifs,0⟩] scope pos) 0 (.ref it) (.ref s2.heap.objs.size) Y.env)
    (compPost (model X.prog X.w) X.A X.xe use QQ (.ref s2.heap.objs.size) h3.objs.size) s₄:=by
  rintro s₄ rfl
  refine YB (λn s'=>∃i σ' H',Inv Y [] σ' H' s'/\tn i s'.heap/\(∀b∈fp,H' b=none)/\W i n σ' H') ?_ m0 ⟨0,zY nl caps σ,_,IY,st1,fp3,w0⟩
  rintro n s5 ⟨i,σ5,H5,I5,st5,fr5,w5⟩
  rcases step i n σ5 H5 w5 with⟨stop,q⟩|⟨go,Nx,hN,turn⟩
  ·refine wpAny_mono (T.done Y rfl rfl rfl hc i [] s5 σ5 H5 (λ_ _=>False) I5 (fpY fr5) st5 stop) (λr s6 ⟨hr,I6⟩=>?_) (λ_ _ z=>z.elim)
   subst hr;obtain⟨m6,n6,_⟩:=I6.loc;have u:Un (frs X.stack) fp (upd H2 s2.heap.objs.size (.lst [])) H5 h3 s6.heap:=I6.base;have I7:Inv X pins σ H5 s6:=I3.call' (s':=s6) (ch:=fp) I6.os u I6.hok I6.bare fpok;exact hfin _ _ H5 s6 m6 I7 (I3.fpOk (le_refl _) I6.free) n6 q
  ·refine wpAny_mono (T.item Y rfl rfl rfl hc i [] s5 σ5 H5 (λ_ _=>False) I5 (fpY fr5) st5 go) (λr s6 ⟨u,hr,h6⟩=>?_) (λ_ _ z=>z.elim)
   subst hr;refine wpAny_mono h6 (λ_ s7 ⟨x,H7,I7,r7,y7,st7,fr7⟩=>?_) (λ_ _ z=>z.elim);have I7':=I7.pinned (fpY fr7) (T.obj _ _ st7);refine wpAny_mono (hg _ _ _ _ _ _ s7 σ5 H7 x u _ I7' r7 (turn x H7 y7)) (λ_ s8 ⟨σ8,H8,I8,q8⟩=>?_) (λ_ _ z=>noE z);refine wpAny_mono (ht _ _ _ _ _ _ s8 σ8 H8 _ I8 q8) (λb s9 ⟨H9,I9,q9⟩=>?_) (λ_ _ z=>noE z);have again:∀{σ7:St} {H':Hp} {s':Shared},Inv Y ([]++WJ fp s7.heap) σ7 H' s'->Nx σ7 H'->∃m,m<n/\∃i σ' H',Inv Y [] σ' H' s'/\tn i s'.heap/\(∀b∈fp,H' b=none)/\W i m σ' H':=λ{σ7 H' s'} I' n7=>by
    obtain⟨m',hm,w7⟩:=hN σ7 H' n7;refine⟨m',hm,i+1,σ7,H',I'.unpinned,T.keep _ _ _ st7 λb hb o e=>(I'.pin (b,o) (mem_append_right _ (mem_append_right _ (yy hb e)))).1,λb hb=>?_,w7⟩;obtain⟨o,e,d⟩:=T.obj _ _ st7 b hb;exact(I'.pin (b,o) (mem_append_right _ (mem_append_right _ (yy hb e)))).2.1
   cases b with
   |false =>
    rw[if_neg Bool.false_ne_true]at q9 ⊢;exact again I9 q9
   |true =>
    rw[if_pos rfl]at q9 ⊢;refine wpAny_mono (he _ _ _ _ _ _ s9 σ8 H9 _ I9 q9) (λy s10 ⟨vy,H10,I10,r10,ys,hy,hz,n10⟩=>?_) (λ_ _ z=>noE z);have ap:=WN (X:=Y) _ s10 σ8 H10 (.ref s2.heap.objs.size) [vy] (.ref s2.heap.objs.size) [y] (λv H'=>Nx σ8 H') I10 rfl (.cons r10 .nil) ⟨_,ys,vy,rfl,rfl,hy,hz,n10⟩;refine wpAny_mono ap (λ_ s11 ⟨v11,H11,I11,_,n11⟩=>?_) (λ_ _ z=>noE z);exact again I11 n11
 exact codeAny_compStart_list (fin _ rfl) (T.self X.A 0 _ _ _ st1 (fin _ rfl))
theorem pe_comp{wi:TI}{g:TG}{tt:TT}{te:TE}(hx:∀e s,¬X.xe e s)(hc:X.calm=true)(hkind:scope.kind=.function)(hnames:∀y∈scope.names,y.2=.local->scope.names.lookup y.1=some .local)(hcell:∀y∈scope.names,y.2=.cell->scope.names.lookup y.1=some .cell)
  (hfree:(scope.names.all λy=>y.2 != .free||X.env.kindOf y.1==some .cell)=true)
  (hlen:N'.length=nl+caps.length) (hcap:∀(i j:Nat),caps[i]?=some j->∃x,N'[nl+i]?=some x/\X.N[j]?=some x/\scope.names.lookup x=some .free)
  (hi:PI X target iter wi) (hg:∀cl C ex s H,PG (cxB X N' scope cl C ex s H) target g) (ht:∀cl C ex s H,zBP (cxB X N' scope cl C ex s H) ifs tt) (he:∀cl C ex s H,PE (cxB X N' scope cl C ex s H) elt te)
  (hs:∀x,foldedSetIterable iter X.env x=pure x:=by intro _;rfl):PE X (.ListComp elt [⟨target,iter,ifs,0⟩] scope pos) (zED nl caps wi g tt te):=by
 intro pins s σ H Q I h;rw[eval_ListComp];refine Gj (use:=none) hx hc hkind hnames hcell hfree hlen hcap hi hg ht he hs I h λD C H5 s6 m6 I7 f n6 q=>?_
 refine⟨m6,n6,λh' hs'=>?_⟩;obtain⟨f1,f2,f3,f4,f5,f6⟩:=f;exact⟨.ref D,H5,I7.turned (it:=C) (t':=s6.toks) (λb o hb e=>hs'.extBut b o hb e) f1 (λz=>f2 z) f4 f5 f6,rfl,q⟩
theorem ps_setC{i:Nat}{y:Str}{py spos:Pos}{wi:TI}{g:TG}{tt:TT}{te:TE}(hN:X.N.Nodup)(hi':X.N[i]?=some y)(hy:Loc X.env.scope y)(hf:X.fn y=true\/X.env.scope.names.lookup y=some .local)(hx:∀e s,¬X.xe e s)(hc:X.calm=true)(hkind:scope.kind=.function)(hnames:∀y∈scope.names,y.2=.local->scope.names.lookup y.1=some .local)(hcell:∀y∈scope.names,y.2=.cell->scope.names.lookup y.1=some .cell)
  (hfree:(scope.names.all λy=>y.2 != .free||X.env.kindOf y.1==some .cell)=true)
  (hlen:N'.length=nl+caps.length) (hcap:∀(i j:Nat),caps[i]?=some j->∃x,N'[nl+i]?=some x/\X.N[j]?=some x/\scope.names.lookup x=some .free)
  (hi:PI X target iter wi) (hg:∀cl C ex s H,PG (cxB X N' scope cl C ex s H) target g) (ht:∀cl C ex s H,zBP (cxB X N' scope cl C ex s H) ifs tt) (he:∀cl C ex s H,PE (cxB X N' scope cl C ex s H) elt te)
  (hs:∀x,foldedSetIterable iter X.env x=pure x) (hsw:swapsWith (.ListComp elt [⟨target,iter,ifs,0⟩] scope pos) (some (.Name y py)) spos.line X.env=pure true) :
  PS X (.Assign [.Name y py] (.ListComp elt [⟨target,iter,ifs,0⟩] scope pos) spos) (tAsg (zED nl caps wi g tt te) (GM i)):=by
 intro pins s σ H D I h;rw[exec_Assign_Name_used _ _ _ _ hsw];refine wpAny_bind (wpAny_standAt (wpAny_bind ?_));show wpAny _ X.A (do let _ <- comprehension (.ListComp elt [⟨target,iter,ifs,0⟩] scope pos) scope X.env _ (newList []) false (eval iter X.env) (some (assign (.Name y py) X.env))) _ _ s;refine wpAny_bind (wpAny_mono (Gj (use:=some (assign (.Name y py) X.env)) (QQ:=λ_ s'=>SP X pins D .next s') hx hc hkind hnames hcell hfree hlen hcap hi hg ht he hs I h λDa C H5 s6 m6 I7 f n6 q=>?_) (λ_ s' hq=>wpAny_pure (wpAny_pure hq)) λ_ _ e=>e);obtain⟨f1,f2,f3,f4,f5,f6⟩:=f;show wpAny _ X.A (assign (.Name y py) X.env (.ref Da)) _ _ s6;refine wpAny_assign_Name (WI I7 hN hi' hy (v:=.ref Da) rfl (λs7 I8 ⟨a,sb,ha⟩=>?_) hf);have hne:C≠a:=by
  rcases ha with ha|ha
  ·rw[ha];exact f2
  ·exact λz=>f5 y a ha z.symm
 refine⟨m6,n6.sameBut sb hne,λh' hs'=>?_⟩;exact⟨_,H5,I8.turned (it:=C) (t':=s7.toks) (λb o hb e=>hs'.extBut b o hb e) f1 (λz=>f2 z) f4 f5 f6,q⟩
end
end L2
namespace DV
open PySem L2
section
variable{X:Cx}{K:PySem.W.Frag}{mg:Str->Option Value}{σ:St}{M:Addr->Prop}{E:zP}{H:Hp}{T0 Z T:Fz}
structure ItOk(K:PySem.W.Frag)(mg:Str->Option Value)(J:It)(ds:List D)(Iv:Hp->Prop):Prop where
 mono:∀H H',Y4 H H'->Iv H->Iv H'
 go:∀i Hh H,Y4 Hh H->Iv Hh->i<ds.length->J.go i H
 yld:∀i Hh H x H',Y4 Hh H->Iv Hh->i<ds.length->J.yld i H x H'->∃d,ds[i]?=some d/\((H'=H/\Rep K mg Hh d x)\/∃q xs es,H q=none/\H'=upd H q (.tup xs)/\x=.ref q/\d=.tup es/\Reps K mg Hh es xs)
 stop:∀i Hh H,Y4 Hh H->Iv Hh->ds.length<=i->J.stop i H
abbrev MI:=zP->Out (List D×zP)
def tMI(X:Cx)(m:MI):TI:=λσ H R=>∃M E,E.length=σ.length/\FR X.K X.mg M H (σ.zip E)/\match m E with
 | .stuck=>False
 | .ok (ds,E')=>∀J Iv H',ItOk X.K X.mg J ds Iv->Iv (Hm (Mo M (σ.zip E')) H')->Got X.K X.mg M σ E H [] σ E' H' []->R J H'
 | .exc x E'=>∀H',Got X.K X.mg M σ E H [] σ E' H' []->XE X σ H' x
abbrev IOk(X:Cx)(tg e:Expr)(m:MI):Prop:=PI X tg e (tMI X m)
theorem ZW{tg e:Expr}{t t':TI}(h:PI X tg e t)(i:∀σ H R,t' σ H R->t σ H R):PI X tg e t':=λpins s σ H R I q=>h pins s σ H R I (i σ H R q)
def iL(m:ME):MI:=λE=>match m E with
 | .stuck=>.stuck
 | .exc x E1=>.exc x E1
 | .ok (r,E1)=>match r.d with
  | .lst ds=>.ok (ds,E1)
  |_=>.stuck
def iT(m:ME):MI:=λE=>match m E with
 | .stuck=>.stuck
 | .exc x E1=>.exc x E1
 | .ok (r,E1)=>match r.d with
  | .tup ds=>.ok (ds,E1)
  |_=>.stuck
theorem it_list{a:Addr}{xs:List V}{ds:List D}:ItOk K mg (Itl K a) ds (λH=>SqL K H a xs/\Reps K mg H ds xs) where
 mono:=λH H' s h=>⟨s.seq h.1,h.2.mono s⟩
 go:=λi Hh H s h hi=>⟨xs,xs[i]'(by rw[h.2.length];exact hi),s.seq h.1,by simp⟩
 yld:=λi Hh H x H' s h hi y=>by
  obtain⟨e,y⟩:=y;obtain⟨d,h1,h2⟩:=h.2.get (y xs (s.seq h.1));exact⟨d,h1,.inl ⟨e,h2⟩⟩
 stop:=λi Hh H s h hi=>⟨xs,s.seq h.1,by rw[h.2.length];exact hi⟩
theorem it_tup{a:Addr}{xs:List V}{ds:List D}:ItOk K mg (Itt K a) ds (λH=>SqT K H a xs/\Reps K mg H ds xs) where
 mono:=λH H' s h=>⟨yR s h.1,h.2.mono s⟩
 go:=λi Hh H s h hi=>⟨xs,xs[i]'(by rw[h.2.length];exact hi),yR s h.1,by simp⟩
 yld:=λi Hh H x H' s h hi y=>by
  obtain⟨e,y⟩:=y;obtain⟨d,h1,h2⟩:=h.2.get (y xs (yR s h.1));exact⟨d,h1,.inl ⟨e,h2⟩⟩
 stop:=λi Hh H s h hi=>⟨xs,yR s h.1,by rw[h.2.length];exact hi⟩
theorem Gm:∀(n i:Nat) (lo:Int),i<n->(zM lo n)[i]?=some (.int (lo+i)):=λn i lo h=>by
 have:=wm n i lo h;have e:((zM lo n).drop i)[0]?=some (.int (lo+i)):=by rw[this];rfl
 rw[List.getElem?_drop]at e;simpa using e
theorem it_rng{lo:Int}{n:Nat}:ItOk K mg (Itr lo n) (zM lo n) (λ_=>True) where
 mono:=λ_ _ _ h=>h
 go:=λi Hh H s h hi=>by rw[yf]at hi;exact hi
 yld:=λi Hh H x H' s h hi y=>by
  obtain⟨e,y⟩:=y;rw[yf]at hi;exact⟨_,Gm n i lo hi,.inl ⟨e,by rw[y];simp only[Rep]⟩⟩
 stop:=λi Hh H s h hi=>by rw[yf]at hi;exact hi
theorem io_list{tg e:Expr}{m:ME}(h:EOk X e m):IOk X tg e (iL m):=ZW (zBa h) λσ H R ⟨M,E,hl,fr,k⟩=>by
 unfold iL at k;refine yK (T0:=[]) hl fr ?_;cases ea:m E with
 |stuck=>rw[ea]at k;exact k
 |exc x E1=>rw[ea]at k;exact k
 |ok p =>
  obtain⟨r,E1⟩:=p;rw[ea]at k;intro v H1 g;dsimp only at k;cases ed:r.d with
  |lst ds =>
   rw[ed]at k;have rl:=g.rep;rw[ed]at rl;obtain⟨a,xs,rfl,q1,q2⟩:=zZ rl;exact⟨a,rfl,⟨xs,zO.seq q1⟩,k _ _ H1 it_list ⟨q1,q2⟩ g.dropAll⟩
  |_=>rw[ed]at k;exact k.elim
theorem io_tup{tg e:Expr}{m:ME}(h:EOk X e m):IOk X tg e (iT m):=ZW (pi_tup h) λσ H R ⟨M,E,hl,fr,k⟩=>by
 unfold iT at k;refine yK (T0:=[]) hl fr ?_;cases ea:m E with
 |stuck=>rw[ea]at k;exact k
 |exc x E1=>rw[ea]at k;exact k
 |ok p =>
  obtain⟨r,E1⟩:=p;rw[ea]at k;intro v H1 g;dsimp only at k;cases ed:r.d with
  |tup ds =>
   rw[ed]at k;have rl:=g.rep;rw[ed]at rl;obtain⟨a,xs,rfl,q1,q2⟩:=ze rl;exact⟨a,rfl,⟨xs,yR zO q1⟩,k _ _ H1 it_tup ⟨q1,q2⟩ g.dropAll⟩
  |_=>rw[ed]at k;exact k.elim
def iR1(m:MA):MI:=λE=>match m E with
 | .stuck=>.stuck
 | .exc x E1=>.exc x E1
 | .ok ([r],E1)=>match r.d with
  | .int j=>if -(2^62)<=j/\j<2^62 then .ok (zM 0 j.toNat,E1)else .stuck
  |_=>.stuck
 |_=>.stuck
theorem io_r1{tg a:Expr}{m:MA}{p cpos:Pos}(hgl:Gl X "range")(hm:X.mg "range"=none)(ha:AOk X [a] m)(hst:zL a=false:=by rfl):IOk X tg (.Call (.Name "range" p) [a] [] cpos) (iR1 m):=ZW (GN hgl hm ha (Qc hst)) λσ H R ⟨M,E,hl,fr,k⟩=>by
 unfold iR1 at k;refine wN (T0:=[]) hl fr ?_;cases ea:m E with
 |stuck=>rw[ea]at k;exact k
 |exc x E1=>rw[ea]at k;exact k
 |ok p =>
  obtain⟨rs,E1⟩:=p;rw[ea]at k
  match rs,k with
  | [r],k =>
   intro vs H1 hv g1;have rp:=Got.reps hv g1;dsimp only at k;cases ed:r.d with
   |int j =>
    rw[ed]at k;simp only[List.map,ed]at rp;obtain⟨v,rfl,h1⟩:=J9 rp;dsimp only at k;by_cases hc:-(2^62)<=j/\j<2^62
    ·rw[if_pos hc]at k
     exact⟨j,by rw[zQ h1],hc.1,hc.2,k _ _ H1 it_rng trivial g1.dropAll⟩
    ·rw[if_neg hc]at k;exact k.elim
   |_=>rw[ed]at k;exact k.elim
  | [],k=>exact k.elim
  |_::_::_,k=>exact k.elim
def Zt(tg:MG)(tt:MT)(el:ME):List D->zP->List D->Out (List D×zP)
 | [],E,acc=>.ok (acc,E)
 |d::ds,E,acc=>match tg d E with
  | .ok E1=>match tt E1 with
   | .ok (true,E2)=>match el E2 with
    | .ok (r,E3)=>if acc.length<cap then Zt tg tt el ds E3 (acc++[r.d])else .stuck
    |_=>.stuck
   | .ok (false,E2)=>Zt tg tt el ds E2 acc
   |_=>.stuck
  |_=>.stuck
def Jj(E:zP):List Nat->Out (List AR)
 | []=>.ok []
 |j::js=>match E[j]? with
  |some (.val d)=>match Jj E js with
   | .ok as=>.ok (.tmp d::as)
   |_=>.stuck
  |some s=>match s.list? with
   |some _=>match Jj E js with
    | .ok as=>.ok (.ln j::as)
    |_=>.stuck
   |none=>.stuck
  |none=>.stuck
def uV(nl:Nat)(caps:List Nat)(mi:MI)(tg:MG)(tt:MT)(el:ME):ME:=λE=>match mi E with
 | .stuck=>.stuck
 | .exc x E1=>.exc x E1
 | .ok (ds,E1)=>match Jj E1 caps with
  | .ok ars=>match zJ ars E1 with
   | .ok (ss,E2)=>match Zt tg tt el ds (replicate nl .emp++ss) []with
    | .ok (res,Eb)=>match zG ars ((zw (replicate nl .emp++ss) Eb).drop nl) E1 E2 with
     | .ok E3=>.ok (.own res,E3)
     |_=>.stuck
    |_=>.stuck
   |_=>.stuck
  |_=>.stuck
def jf:MT:=λE=>.ok (true,E)
abbrev IfOk(X:Cx)(ifs:List Expr)(m:MT):Prop:=zBP X ifs (tMT X m)
theorem wn{ifs:List Expr}{t t':TT}(h:zBP X ifs t)(i:∀σ H Q,t' σ H Q->t σ H Q):zBP X ifs t':=λpins s σ H Q I q=>h pins s σ H Q I (i σ H Q q)
theorem Y8:IfOk X [] jf:=wn pif_nil λσ H Q ⟨M,E,hl,fr,k⟩=>k H (Got.refl (T0:=[]) hl fr)
theorem zB8{c:Expr}{m:MT}(h:TOk X c m):IfOk X [c] m:=pif_one h
theorem zAO:∀(js:List Nat) {as:List AR} {T:Fz},E.length=σ.length->Jj E js=.ok as->FR K mg M H (T++σ.zip E) ->
  ∃vs,AV σ as vs/\vs.map some=js.map (λj=>(σ[j]?).getD none)/\FR K mg M H (T++(yB vs as++σ.zip E))/\∀b,b∈yV (T++(yB vs as++σ.zip E))->b∈yV (T++σ.zip E)
 | [],as,T,hl,e,f=>by
  cases e;exact⟨[],by simp only[AV],rfl,f,λb q=>q⟩
 |j::js,as,T,hl,e,f=>by
  simp only[Jj]at e;cases ej:E[j]? with
  |none=>rw[ej]at e;cases e
  |some s =>
   rw[ej]at e;obtain⟨o,h1,h2⟩:=wf hl ej;have lnk:∀{ds:List D},s.list?=some ds->(match Jj E js with | .ok as=>Out.ok (AR.ln j::as)|_=>.stuck)=.ok as->∃vs,AV σ as vs/\vs.map some=(j::js).map (λj=>(σ[j]?).getD none)/\FR K mg M H (T++(yB vs as++σ.zip E))/\∀b,b∈yV (T++(yB vs as++σ.zip E))->b∈yV (T++σ.zip E):=λ{ds} hs e=>by
    cases ec:Jj E js with
    |stuck=>rw[ec]at e;cases e
    |exc _ _=>rw[ec]at e;cases e
    |ok as1 =>
     rw[ec]at e;cases e;obtain⟨a,xs,ev,_⟩:=f.own o s ds (mem_append_right _ h2) hs;subst ev;obtain⟨vs,q1,q2,q3,q4⟩:=zAO js hl ec f;have p:(T++(((some (V.ref a),Slot.emp)::yB vs as1)++σ.zip E)).Perm ((some (V.ref a),Slot.emp)::(T++(yB vs as1++σ.zip E))):=perm_middle;have fe:FR K mg M H ((some (V.ref a),Slot.emp)::(T++(yB vs as1++σ.zip E))):=q3.mask (.extra (by
      have:∀W:Fz,Mask W W:=by
       intro W
       induction W with
       |nil=>exact .nil _
       |cons x W ih=>exact .keep ih
      exact this _))
     refine⟨.ref a::vs,by simp only[AV];exact⟨_,vs,rfl,h1,q1⟩,by simp[h1,q2],fe.perm p.symm,λb hb=>?_⟩;have:=zE p b hb;rw[yY]at this;exact q4 b this
   cases s with
   |emp=>cases e
   |own ds=>exact lnk rfl e
   |par ds=>exact lnk rfl e
   |val d =>
    dsimp only at e;cases ec:Jj E js with
    |stuck=>rw[ec]at e;cases e
    |exc _ _=>rw[ec]at e;cases e
    |ok as1 =>
     rw[ec]at e;cases e;obtain⟨v,ev,r⟩:=f.val o d (mem_append_right _ h2);subst ev;obtain⟨vs,q1,q2,q3,q4⟩:=zAO js hl ec f;obtain⟨v',ev',r'⟩:=q3.val (some v) d (mem_append_right _ (mem_append_right _ h2));cases ev';have p:(T++(((some v,Slot.val d)::yB vs as1)++σ.zip E)).Perm ((some v,Slot.val d)::(T++(yB vs as1++σ.zip E))):=perm_middle;refine⟨v::vs,by simp only[AV];exact⟨v,vs,rfl,q1⟩,by simp[h1,q2],(q3.add r').perm p.symm,λb hb=>?_⟩;have:=zE p b hb;rw[zu]at this;exact q4 b this
theorem Gn(n:Nat)(Z:Fz):yV (replicate n ((none:Option V),Slot.emp)++Z)=yV Z:=by rw[zU,uU,nil_append]
theorem FR.emps0(f:FR K mg M H Z)(n:Nat):FR K mg M H (replicate n (none,.emp)++Z):=(f.emps n).perm perm_append_comm
end
end DV
namespace DV
open PySem L2
def tN(K:PySem.W.Frag)(mg:Str->Option Value)(m:ME):TE:=λσ H Q=>∃M E,E.length=σ.length/\FR K mg M H (σ.zip E)/\match m E with
 | .ok (r,E')=>∀v H',Got K mg M σ E H [] σ E' H' [(some v,r.slot)]->Q v H'
 |_=>False
def tNT(K:PySem.W.Frag)(mg:Str->Option Value)(m:MT):TT:=λσ H Q=>∃M E,E.length=σ.length/\FR K mg M H (σ.zip E)/\match m E with
 | .ok (b,E')=>∀H',Got K mg M σ E H [] σ E' H' []->Q b H'
 |_=>False
section
variable{X:Cx}{K:PySem.W.Frag}{mg:Str->Option Value}{σ:St}{M:Addr->Prop}{E:zP}{H:Hp}{T0 Z T:Fz}
theorem tN_M{m:ME}{Q:VK}(h:tN X.K X.mg m σ H Q):tM X m σ H Q:=by
 obtain⟨M,E,hl,fr,k⟩:=h;refine⟨M,E,hl,fr,?_⟩;cases e:m E with
 |stuck=>rw[e]at k;exact k
 |exc x E1=>rw[e]at k;exact k.elim
 |ok p=>rw[e]at k;exact k
theorem zA9{m:MT}{Q:Bool->Hp->Prop}(h:tNT X.K X.mg m σ H Q):tMT X m σ H Q:=by
 obtain⟨M,E,hl,fr,k⟩:=h;refine⟨M,E,hl,fr,?_⟩;cases e:m E with
 |stuck=>rw[e]at k;exact k
 |exc x E1=>rw[e]at k;exact k.elim
 |ok p=>rw[e]at k;exact k
theorem zFR{m:ME}{r:R}{E':zP}{Q:VK}(hl:E.length=σ.length)(h:FR K mg M H (T0++σ.zip E))(e:m E=.ok (r,E'))(k:∀v H',Got K mg M σ E H T0 σ E' H' [(some v,r.slot)]->Q v H'):tN K mg m σ H Q:=by
 refine⟨Mo M T0,E,hl,h.inner,?_⟩;rw[e];exact λv H' g=>k v H' (g.outer h)
theorem zB9{m:MT}{b:Bool}{E':zP}{Q:Bool->Hp->Prop}(hl:E.length=σ.length)(h:FR K mg M H (T0++σ.zip E))(e:m E=.ok (b,E'))(k:∀H',Got K mg M σ E H T0 σ E' H' []->Q b H'):tNT K mg m σ H Q:=by
 refine⟨Mo M T0,E,hl,h.inner,?_⟩;rw[e];exact λH' g=>k H' (g.outer h)
theorem Go{ars:List AR}{E1 E2 E3:zP}{ss outs:List Slot}{r:R}{vs:List V}{v:V}{H1 H':Hp}(e1:zJ ars E1=.ok (ss,E2))(e3:zG ars outs E1 E2=.ok E3)
  (av:AV σ ars vs) (f1':FR K mg M H1 (σ.zip E2++(vs.map some).zip ss)) (st1:Step M H (σ.zip E) H1 (σ.zip E2++(vs.map some).zip ss)) (l2:E2.length=σ.length) (pk:PKp σ E σ E1)
  (f2:FR K mg (Mo M (σ.zip E2)) H' ((some v,r.slot)::(vs.map some).zip outs)) (s2:Step (Mo M (σ.zip E2)) H1 ((vs.map some).zip ss) H' ((some v,r.slot)::(vs.map some).zip outs)):Got K mg M σ E H [] σ E3 H' [(some v,r.slot)]:=by
 have f3:=FR.outer f1' f2 s2;have s3:=Step.outer s2;have p:(σ.zip E2++((some v,r.slot)::(vs.map some).zip outs)).Perm ([(some v,r.slot)]++((vs.map some).zip outs++σ.zip E2)):=by
  refine perm_append_comm.trans ?_;exact List.Perm.refl _
 obtain⟨f4,o4,l4⟩:=uR ars l2 av e3 (f3.perm p);refine⟨l4,f4,?_,pk.trans (zB7 e1 e3)⟩;have st2:=st1.trans s3;exact st2.weak λb hb=>zE p.symm b (o4 b hb)
theorem JK:∀(n:Nat) {Z W:Fz},Mask Z W->Mask Z (W.drop n)
 |0,_,_,h=>h
 |n+1,_,_,.nil Z=>by simp only[List.drop_nil];exact .nil _
 |n+1,_,_,.keep h=>.skip (JK n h)
 |n+1,_,_,.skip h=>.skip (JK (n+1) h)
 |n+1,_,_,.extra h=>JK n h
theorem WY{α β:Type}:∀(n:Nat) (l:List α) (m:List β),(l.zip m).drop n=(l.drop n).zip (m.drop n)
 |0,_,_=>rfl
 |n+1,[],_=>by simp
 |n+1,_::_,[]=>by simp
 |n+1,_::l,_::m=>by simp[WY n l m]
theorem yld_got{J:It}{ds:List D}{Iv:Hp->Prop}{σ0 σ':St}{E0 E':zP}{H1 H' H'':Hp}{Da:Addr}{acc:List D}{i:Nat}{x:V}(it:ItOk K mg J ds Iv)(hlt:i<ds.length)(gb:Got K mg M σ0 E0 H1 [] σ' E' H' [(some (.ref Da),.own acc)])(ivb:Iv (Hm (Mo M ((some (.ref Da),Slot.own acc)::σ'.zip E')) H'))(y:J.yld i H' x H'') :
  ∃d,ds[i]?=some d/\Got K mg M σ0 E0 H1 [] σ' E' H'' [(some (.ref Da),.own acc)]/\Iv (Hm (Mo M ((some (.ref Da),Slot.own acc)::σ'.zip E')) H'')/\Rep K mg (Hm (Mo M ((some (.ref Da),Slot.own acc)::σ'.zip E')) H'') d x:=by
 obtain⟨d,hd,h⟩:=it.yld i _ _ x _ zO ivb hlt y;rcases h with⟨rfl,rx⟩|⟨q,xs,es,hq,rfl,rfl,rfl,rs⟩
 ·exact⟨d,hd,gb,ivb,rx⟩
 ·have f:FR K mg M H' ((some (.ref Da),Slot.own acc)::σ'.zip E'):=gb.fr
  have f1:=f.newTup hq rs;have s1:Step M H' ((some (.ref Da),Slot.own acc)::σ'.zip E') (upd H' q (.tup xs)) ((some (.ref q),.val (.tup es))::((some (.ref Da),Slot.own acc)::σ'.zip E')):=Step.newVal hq;obtain⟨v,ev,rv⟩:=f1.val _ _ mem_cons_self;cases ev;have sm:=s1.same;rw[Jx]at rv sm;have s2:Step M H' ((some (.ref Da),Slot.own acc)::σ'.zip E') (upd H' q (.tup xs)) ((some (.ref Da),Slot.own acc)::σ'.zip E'):=⟨sm,s1.keep⟩;exact⟨_,hd,⟨gb.len,f1.tail,gb.st.trans s2,gb.pk⟩,it.mono _ _ sm ivb,rv⟩
theorem zAP{nl:Nat}{caps:List Nat}{mi:MI}{tg:MG}{tt:MT}{el:ME}{g:TG}{Q:VK}(ho:GOk X g tg)(h:tM X (uV nl caps mi tg tt el) σ H Q):zED nl caps (tMI X mi) g (tNT X.K X.mg tt) (tN X.K X.mg el) σ H Q:=by
 obtain⟨M,E,hl,fr,k⟩:=h;unfold uV at k;refine⟨M,E,hl,fr,?_⟩;cases ei:mi E with
 |stuck=>rw[ei]at k;exact k
 |exc x E1=>rw[ei]at k;exact k
 |ok p =>
  obtain⟨ds,E1⟩:=p;rw[ei]at k;intro J Iv H1 it iv g1 D hD;dsimp only at k;cases ec:Jj E1 caps with
  |stuck=>rw[ec]at k;exact k.elim
  |exc _ _=>rw[ec]at k;exact k.elim
  |ok ars =>
   rw[ec]at k;dsimp only at k;cases el1:zJ ars E1 with
   |stuck=>rw[el1]at k;exact k.elim
   |exc _ _=>rw[el1]at k;exact k.elim
   |ok p =>
    obtain⟨ss,E2⟩:=p;rw[el1]at k;dsimp only at k;cases em:Zt tg tt el ds (replicate nl .emp++ss) []with
    |stuck=>rw[em]at k;exact k.elim
    |exc _ _=>rw[em]at k;exact k.elim
    |ok p =>
     obtain⟨res,Eb⟩:=p;rw[em]at k;dsimp only at k;cases eb:zG ars ((zw (replicate nl .emp++ss) Eb).drop nl) E1 E2 with
     |stuck=>rw[eb]at k;exact k.elim
     |exc _ _=>rw[eb]at k;exact k.elim
     |ok E3 =>
      rw[eb]at k;obtain⟨vs,av,evs,f1,o1⟩:=zAO (T:=[]) caps g1.len ec g1.fr;obtain⟨f2,o2,l2,l3⟩:=Y7 (T:=[]) ars g1.len av el1 f1;have hv:=av.length;have f2':FR X.K X.mg M H1 (σ.zip E2++(vs.map some).zip ss):=FR.perm (T:=σ.zip E2++(vs.map some).zip ss) (Z:=(vs.map some).zip ss++σ.zip E2) f2 perm_append_comm;have osub:∀b,b∈yV (σ.zip E2++(vs.map some).zip ss)->b∈yV (σ.zip E1):=λb hb =>
       o1 b ((o2 b).mpr (zE (T:=σ.zip E2++(vs.map some).zip ss) (Z:=(vs.map some).zip ss++σ.zip E2) perm_append_comm b hb))
      have st1:Step M H (σ.zip E) H1 (σ.zip E2++(vs.map some).zip ss):=g1.st.weak osub;have eσ:zY nl caps σ=replicate nl none++vs.map some:=by unfold L2.zY;rw[evs]
      rw[eσ];have ez:(replicate nl (none:Option V)++vs.map some).zip (replicate nl Slot.emp++ss)=replicate nl (none,.emp)++(vs.map some).zip ss:=by
       rw[zip_append (by simp),uT]
      have f4:FR X.K X.mg (Mo M (σ.zip E2)) H1 ((replicate nl (none:Option V)++vs.map some).zip (replicate nl Slot.emp++ss)):=by
       rw[ez];exact(FR.inner f2').emps0 nl
      have oo:yV ((replicate nl (none:Option V)++vs.map some).zip (replicate nl Slot.emp++ss))=yV ((vs.map some).zip ss):=by rw[ez,Gn]
      generalize hσ0:replicate nl (none:Option V)++vs.map some=σ0 at f4 oo ⊢;generalize hE0:replicate nl Slot.emp++ss=E0 at f4 oo em eb ⊢;have hl0:E0.length=σ0.length:=by rw[<- hσ0,<- hE0];simp[l2,hv]
      have f5:=f4.newOwn (ds:=[]) (xs:=[]) hD Reps.nil;have s5:=Step.newOwn (ds:=[]) (xs:=[]) f4 hD;have iv5:Iv (Hm (Mo (Mo M (σ.zip E2)) ((some (.ref D),Slot.own [])::σ0.zip E0)) (upd H1 D (.lst []))):=by
       refine it.mono _ _ s5.same (it.mono _ _ (jy λb hb=>?_) iv);rcases hb with hb|hb
       ·rcases hb with hb|hb
        ·exact .inl hb
        ·exact .inr (osub b (by rw[zU];exact mem_append_left _ hb))
       ·rw[oo]at hb
        exact .inr (osub b (by rw[zU];exact mem_append_right _ hb))
      refine⟨λi m σ' H'=>m=ds.length-i/\i<=ds.length/\∃E' acc,Got X.K X.mg (Mo M (σ.zip E2)) σ0 E0 H1 [] σ' E' H' [(some (.ref D),.own acc)]/\Iv (Hm (Mo (Mo M (σ.zip E2)) ((some (.ref D),Slot.own acc)::σ'.zip E')) H')/\Zt tg tt el (ds.drop i) E' acc=.ok (res,Eb),
       ⟨ds.length,by simp,zero_le _,E0,[],⟨hl0,f5,s5,PKp.refl⟩,iv5,em⟩,?_⟩
      rintro i m σ' H' ⟨rfl,hi,E',acc,gb,ivb,cm⟩
      by_cases hlt:i<ds.length
      ·refine .inr ⟨it.go i _ H' zO ivb hlt,λσ'' H''=>(i+1<=ds.length/\∃E' acc,Got X.K X.mg (Mo M (σ.zip E2)) σ0 E0 H1 [] σ'' E' H'' [(some (.ref D),.own acc)]/\Iv (Hm (Mo (Mo M (σ.zip E2)) ((some (.ref D),Slot.own acc)::σ''.zip E')) H'')/\Zt tg tt el (ds.drop (i+1)) E' acc=.ok (res,Eb)),
        λσ'' H'' q=>⟨ds.length-(i+1),by omega,rfl,q⟩,λx H'' y=>?_⟩
       obtain⟨d,hd,gb,ivb,rx⟩:=yld_got it hlt gb ivb y;have ed:ds.drop i=d::ds.drop (i+1):=by
        obtain⟨hi',rfl⟩:=List.getElem?_eq_some_iff.mp hd;exact drop_eq_getElem_cons hi'
       rw[ed]at cm;simp only[Zt]at cm;cases e1:tg d E' with
       |stuck=>rw[e1]at cm;cases cm
       |exc _ _=>rw[e1]at cm;cases cm
       |ok Ea =>
        rw[e1]at cm;dsimp only at cm;refine ho _ σ' E' _ [(some (.ref D),.own acc)] x d Ea _ gb.len (gb.fr.add rx) e1 λσ2 ga=>?_
        have g2:=gb.trans' ga;cases e2:tt Ea with
        |stuck=>rw[e2]at cm;cases cm
        |exc _ _=>rw[e2]at cm;cases cm
        |ok p =>
         obtain⟨b,Eb2⟩:=p;rw[e2]at cm;refine zB9 ga.len ga.fr e2 λH3 gt=>?_
         have g3:=g2.trans' gt;have iv3:=it.mono _ _ (ga.st.same.trans gt.st.same) ivb;cases b with
         |false =>
          refine zDQ ⟨hlt,Eb2,acc,g3,iv3,cm⟩
         |true =>
          refine zDR ?_;dsimp only at cm;cases e3:el Eb2 with
          |stuck=>rw[e3]at cm;cases cm
          |exc _ _=>rw[e3]at cm;cases cm
          |ok p =>
           obtain⟨r,Ec⟩:=p;rw[e3]at cm;dsimp only at cm;by_cases hcap:acc.length<cap
           ·rw[if_pos hcap]at cm
            refine zFR g3.len g3.fr e3 λyv H4 ge=>?_
            have g4:=g3.trans' ge;have fz:FR X.K X.mg (Mo M (σ.zip E2)) H4 ((some yv,.val r.d)::((some (.ref D),Slot.own acc)::σ2.zip Ec)):=g4.fr.frz;obtain⟨yv',ey,ry⟩:=fz.val _ _ mem_cons_self;cases ey;rw[Jx]at ry;have fo:=fz.tail;obtain⟨a,ys,ea,ha,_,rys⟩:=fo.own _ _ acc mem_cons_self rfl;cases ea;refine⟨ys,ha,by rw[rys.length];exact lt_of_lt_of_le hcap (Yh (le_refl _)),hlt,Ec,acc++[r.d],?_⟩;obtain⟨fm,sm⟩:=FR.mut (i:=0) (s:=.own acc) fo rfl rfl (rys.append (Reps.cons ry Reps.nil));have fm':FR X.K X.mg (Mo M (σ.zip E2)) (upd H4 D (.lst (ys++[yv]))) ((some (.ref D),Slot.own (acc++[r.d]))::σ2.zip Ec):=fm;have sm':Step (Mo M (σ.zip E2)) H4 ((some (.ref D),Slot.own acc)::σ2.zip Ec) (upd H4 D (.lst (ys++[yv]))) ((some (.ref D),Slot.own (acc++[r.d]))::σ2.zip Ec):=sm;have sz:Step (Mo M (σ.zip E2)) H3 ((some (.ref D),Slot.own acc)::σ2.zip Eb2) H4 ((some (.ref D),Slot.own acc)::σ2.zip Ec):=ge.st.weak (zC (sublist_cons_self _ _));have sz0:Step (Mo M (σ.zip E2)) H1 (σ0.zip E0) H4 ((some (.ref D),Slot.own acc)::σ2.zip Ec):=g4.st.weak (zC (sublist_cons_self _ _));exact⟨⟨g4.len,fm',sz0.trans sm',g4.pk⟩,it.mono _ _ (sz.same.trans sm'.same) iv3,cm⟩
           ·rw[if_neg hcap]at cm;cases cm
      ·have ei2:i=ds.length:=by omega
       subst ei2;rw[drop_length]at cm;simp only[Zt]at cm;cases cm;refine .inl ⟨it.stop _ _ H' zO ivb (le_refl _),k _ H' ?_⟩;have mk0:Mask (σ'.zip Eb) (σ0.zip (zw E0 Eb)):=Yl E0 σ0 σ' Eb gb.len (hl0.symm) λj ds' e=>(gb.pk j ds' e).2
       have mk:Mask (σ'.zip Eb) ((vs.map some).zip ((zw E0 Eb).drop nl)):=by
        have:=JK nl mk0;have e:(σ0.zip (zw E0 Eb)).drop nl=(vs.map some).zip ((zw E0 Eb).drop nl):=by
         rw[WY,<- hσ0];congr 1;rw[List.drop_left' (by simp)]
        rw[e]at this;exact this
       refine Go (r:=.own res) el1 eb av f2' st1 l3 g1.pk (gb.fr.mask (.keep mk)) ?_;refine(gb.st.weak λb hb=>(Mask.keep mk).sub.subset hb).left λb hb=>?_
       show b∈yV _
       rw[nil_append,oo]at hb;exact hb
end
section
variable{X:Cx}{elt target iter:Expr}{ifs:List Expr}{scope:Scope}{pos:Pos}
theorem ok_comp{mi:MI}{tg:MG}{tt:MT}{el:ME}{g:TG}(nl:Nat)(caps:List Nat)(N':List Str)(hx:∀e s,¬X.xe e s)(hc:X.calm=true)(hkind:scope.kind=.function)(hnames:∀y∈scope.names,y.2=.local->scope.names.lookup y.1=some .local)(hcell:∀y∈scope.names,y.2=.cell->scope.names.lookup y.1=some .cell)
  (hfree:(scope.names.all λy=>y.2 != .free||X.env.kindOf y.1==some .cell)=true)
  (hlen:N'.length=nl+caps.length) (hcap:∀(i j:Nat),caps[i]?=some j->∃x,N'[nl+i]?=some x/\X.N[j]?=some x/\scope.names.lookup x=some .free)
  (hi:IOk X target iter mi) (hg:∀cl C ex s H,PG (cxB X N' scope cl C ex s H) target g) (ho:GOk X g tg) (ht:∀cl C ex s H,IfOk (cxB X N' scope cl C ex s H) ifs tt) (he:∀cl C ex s H,EOk (cxB X N' scope cl C ex s H) elt el)
  (hs:∀x,foldedSetIterable iter X.env x=pure x:=by intro _;rfl):EOk X (.ListComp elt [⟨target,iter,ifs,0⟩] scope pos) (uV nl caps mi tg tt el) :=
 yN (pe_comp (te:=tN X.K X.mg el) (tt:=tNT X.K X.mg tt) hx hc hkind hnames hcell hfree hlen hcap hi hg (λcl C ex s H=>wn (ht cl C ex s H) λσ H Q q=>zA9 (X:=cxB X N' scope cl C ex s _) q) (λcl C ex s H=>yN (he cl C ex s H) λσ H Q q=>tN_M (X:=cxB X N' scope cl C ex s _) q) hs) λσ H Q=>zAP ho
theorem sk_comp{mi:MI}{tg:MG}{tt:MT}{el:ME}{g:TG}{i:Nat}{y:Str}{py spos:Pos}(nl:Nat)(caps:List Nat)(N':List Str)(hN:X.N.Nodup)(hi':X.N[i]?=some y)(hy:Loc X.env.scope y)(hf:X.fn y=true\/X.env.scope.names.lookup y=some .local)(hx:∀e s,¬X.xe e s)(hc:X.calm=true)(hkind:scope.kind=.function)(hnames:∀y∈scope.names,y.2=.local->scope.names.lookup y.1=some .local)(hcell:∀y∈scope.names,y.2=.cell->scope.names.lookup y.1=some .cell)
  (hfree:(scope.names.all λy=>y.2 != .free||X.env.kindOf y.1==some .cell)=true)
  (hlen:N'.length=nl+caps.length) (hcap:∀(i j:Nat),caps[i]?=some j->∃x,N'[nl+i]?=some x/\X.N[j]?=some x/\scope.names.lookup x=some .free)
  (hi:IOk X target iter mi) (hg:∀cl C ex s H,PG (cxB X N' scope cl C ex s H) target g) (ho:GOk X g tg) (ht:∀cl C ex s H,IfOk (cxB X N' scope cl C ex s H) ifs tt) (he:∀cl C ex s H,EOk (cxB X N' scope cl C ex s H) elt el)
  (hs:∀x,foldedSetIterable iter X.env x=pure x) (hsw:swapsWith (.ListComp elt [⟨target,iter,ifs,0⟩] scope pos) (some (.Name y py)) spos.line X.env=pure true) :
  SOk X (.Assign [.Name y py] (.ListComp elt [⟨target,iter,ifs,0⟩] scope pos) spos) (sSet i (uV nl caps mi tg tt el)) :=
 yz (ps_setC (te:=tN X.K X.mg el) (tt:=tNT X.K X.mg tt) hN hi' hy hf hx hc hkind hnames hcell hfree hlen hcap hi hg (λcl C ex s H=>wn (ht cl C ex s H) λσ H Q q=>zA9 (X:=cxB X N' scope cl C ex s _) q) (λcl C ex s H=>yN (he cl C ex s H) λσ H Q q=>tN_M (X:=cxB X N' scope cl C ex s _) q) hs hsw) λD σ H h=>zAP ho (Qe h)
end
end DV
namespace DV
open PySem L2
theorem mem7{P:String->Prop}(h1:P "NoneType")(h2:P "bool")(h3:P "int")(h4:P "str")(h5:P "tuple")(h6:P "list")(h7:P "dict"):∀t∈["NoneType","bool","int","str","tuple","list","dict"],P t:=by
 intro t ht;simp only[mem_cons,mem_nil_iff,or_false]at ht;rcases ht with rfl|rfl|rfl|rfl|rfl|rfl|rfl<;>assumption
abbrev Kit(K:PySem.W.Frag)(T:String):Prop:=∀t∈["NoneType","bool","int","str","tuple","list","dict"],kitOne K (.type t) (.type T)=some (Qd t T)
theorem kit_int(K:PySem.W.Frag):Kit K "int":=mem7 rfl rfl rfl rfl rfl rfl rfl
theorem zEE(K:PySem.W.Frag):Kit K "bool":=mem7 rfl rfl rfl rfl rfl rfl rfl
theorem zCA(K:PySem.W.Frag):Kit K "tuple":=mem7 rfl rfl rfl rfl rfl rfl rfl
theorem zEF(K:PySem.W.Frag):Kit K "list":=mem7 rfl rfl rfl rfl rfl rfl rfl
theorem kit_str(K:PySem.W.Frag):Kit K "str":=mem7 rfl rfl rfl rfl rfl rfl rfl
theorem zEG(K:PySem.W.Frag):Kit K "dict":=mem7 rfl rfl rfl rfl rfl rfl rfl
theorem uW:bootBuiltins "isinstance"=some (.builtin "isinstance"):=by decide +kernel
theorem bt_len:bootBuiltins "len"=some (.builtin "len"):=by decide +kernel
theorem zFS:bootBuiltins "max"=some (.builtin "max"):=by decide +kernel
theorem bt_all:bootBuiltins "all"=some (.builtin "all"):=by decide +kernel
theorem zFT:bootBuiltins "int"=some (.type "int"):=by decide +kernel
theorem bt_bool:bootBuiltins "bool"=some (.type "bool"):=by decide +kernel
theorem zAQ:bootBuiltins "tuple"=some (.type "tuple"):=by decide +kernel
theorem bt_list:bootBuiltins "list"=some (.type "list"):=by decide +kernel
theorem bt_str:bootBuiltins "str"=some (.type "str"):=by decide +kernel
theorem bt_dict:bootBuiltins "dict"=some (.type "dict"):=by decide +kernel
section
variable{X:Cx}{K:PySem.W.Frag}{mg:Str->Option Value}{σ:St}{H:Hp}
def eNeg(a:ME):ME:=λE=>match a E with
 | .ok (.val (.int i),E1)=>.ok (.val (.int (-i)),E1)
 | .exc x E1=>.exc x E1
 |_=>.stuck
theorem ok_neg{a:Expr}{m:ME}{pos:Pos}(h:EOk X a m):EOk X (.UnaryOp .USub a pos) (eNeg m):=yN (pe_un un_neg h) λσ H Q ⟨M,E,hl,fr,k⟩=>by
 unfold eNeg at k;refine yK (T0:=[]) hl fr ?_;cases ea:m E with
 |stuck=>rw[ea]at k;exact k
 |exc x E1=>rw[ea]at k;exact k
 |ok p =>
  obtain⟨r,E1⟩:=p;rw[ea]at k;cases r with
  |own ds=>exact k.elim
  |val d =>
   cases d with
   |int i =>
    intro v H' g;exact⟨i,zQ g.rep,k _ H' (g.flat (d:=.int (-i)) rfl)⟩
   |_=>exact k.elim
def yl(p p':Int->Int->Bool)(a b c:ME):ME:=λE=>match a E with
 | .stuck=>.stuck
 | .exc x E1=>.exc x E1
 | .ok (.val (.int i),E1)=>match b E1 with
  | .stuck=>.stuck
  | .exc x E2=>.exc x E2
  | .ok (.val (.int j),E2)=>if p i j=true then match c E2 with
    | .stuck=>.stuck
    | .exc x E3=>.exc x E3
    | .ok (.val (.int k),E3)=>.ok (.val (.bl (p' j k)),E3)
    |_=>.stuck
   else .ok (.val (.bl false),E2)
  |_=>.stuck
 |_=>.stuck
theorem Gp{p p':Int->Int->Bool}{a b c:ME}{Q:VK}(h:tM X (yl p p' a b c) σ H Q):zBh (rI0 λi j=>.bl (p i j)) (rI0 λi j=>.bl (p' i j)) (tM X a) (tM X b) (tM X c) σ H Q:=by
 obtain⟨M,E,hl,fr,k⟩:=h;unfold yl at k;refine yK (T0:=[]) hl fr ?_;cases ea:a E with
 |stuck=>rw[ea]at k;exact k
 |exc x E1=>rw[ea]at k;exact k
 |ok q =>
  obtain⟨r,E1⟩:=q;rw[ea]at k;cases r with
  |own ds=>exact k.elim
  |val d =>
   cases d with
   |int i =>
    intro x H1 g1;have g1':=g1.dropAll;refine yK (T0:=[]) g1'.len g1'.fr ?_;dsimp only at k;cases eb:b E1 with
    |stuck=>rw[eb]at k;exact k
    |exc x E2=>rw[eb]at k;exact λH' g=>k H' (g1'.trans' g)
    |ok q =>
     obtain⟨r2,E2⟩:=q;rw[eb]at k;cases r2 with
     |own ds=>exact k.elim
     |val d2 =>
      cases d2 with
      |int j =>
       intro y H2 g2;have g12:=(g1'.trans' g2).dropAll;refine⟨i,j,zQ g1.rep,zQ g2.rep,p i j,rfl,?_⟩;dsimp only at k;cases ep:p i j with
       |false =>
        rw[ep]at k;exact zDQ (k _ H2 (g12.flat (d:=.bl false) rfl))
       |true =>
        rw[ep]at k;simp only[if_true]at k;refine zDR (yK (T0:=[]) g12.len g12.fr ?_);cases ec:c E2 with
        |stuck=>rw[ec]at k;exact k
        |exc x E3=>rw[ec]at k;exact λH' g=>k H' (g12.trans' g)
        |ok q =>
         obtain⟨r3,E3⟩:=q;rw[ec]at k;cases r3 with
         |own ds=>exact k.elim
         |val d3 =>
          cases d3 with
          |int n =>
           intro w H3 g3;exact⟨j,n,zQ g2.rep,zQ g3.rep,k _ H3 ((g12.trans' g3).flat (d:=.bl (p' j n)) rfl)⟩
          |_=>exact k.elim
      |_=>exact k.elim
   |_=>exact k.elim
theorem zEH{op op':CmpOp}{p p':Int->Int->Bool}{a b c:Expr}{ma mb mc:ME}{pos:Pos}(ho:OpR X (compareOp op) (rI0 λi j=>.bl (p i j)))(ho':OpR X (compareOp op') (rI0 λi j=>.bl (p' i j)))(ha:EOk X a ma)(hb:EOk X b mb)(hc:EOk X c mc)
  (hm:lastMarks [op,op'] [b,c]=false:=by with_unfolding_all rfl):EOk X (.Compare a [op,op'] [b,c] pos) (yl p p' ma mb mc):=yN (zDe ho ho' ha hb hc hm) λσ H Q=>Gp
theorem zCB{op op':CmpOp}{p p':Int->Int->Bool}{a b c:Expr}{ma mb mc:ME}{pos:Pos}(ho:OpR X (compareOp op) (rI0 λi j=>.bl (p i j)))(ho':OpR X (compareOp op') (rI0 λi j=>.bl (p' i j)))(ha:EOk X a ma)(hb:EOk X b mb)(hc:EOk X c mc)
  (hm:lastMarks [op,op'] [b,c]=false:=by with_unfolding_all rfl):TOk X (.Compare a [op,op'] [b,c] pos) (tT (yl p p' ma mb mc)):=zAG (zDf ho ho' ha hb hc hm) λσ H Q q=>Gp (zBx q)
abbrev ltB:Int->Int->Bool:=λi j=>decide (i<j)
abbrev leB:Int->Int->Bool:=λi j=>decide (i<=j)
abbrev gtB:Int->Int->Bool:=λi j=>decide (j<i)
abbrev geB:Int->Int->Bool:=λi j=>decide (j<=i)
def Qh(X:Cx)(scope:Scope):List Nat->List Str->Prop
 | [],[]=>True
 |j::js,x::xs=>X.N[j]?=some x/\scope.names.lookup x=some .free/\Qh X scope js xs
 |_,_=>False
theorem Gq{scope:Scope}{loc:List Str}:∀{caps:List Nat} {capn:List Str},Qh X scope caps capn->capn.length=caps.length/\∀(i j:Nat),caps[i]?=some j->∃x,capn[i]?=some x/\X.N[j]?=some x/\scope.names.lookup x=some .free
 | [],[],h=>⟨rfl,λi j e=>by simp at e⟩
 | [],_::_,h=>h.elim
 |_::_,[],h=>h.elim
 |j::js,x::xs,h=>by
  obtain⟨h1,h2,h3⟩:=h;obtain⟨i1,i2⟩:=Gq (loc:=loc) h3;refine⟨by simp[i1],λi k e=>?_⟩;cases i with
  |zero=>simp at e;subst e;exact⟨x,rfl,h1,h2⟩
  |succ i=>simp at e;obtain⟨y,q⟩:=i2 i k e;exact⟨y,by simpa using q⟩
theorem ok_lc{elt target iter:Expr}{ifs:List Expr}{scope:Scope}{pos:Pos}{mi:MI}{tg:MG}{tt:MT}{el:ME}{g:TG}{nl:Nat}{caps:List Nat}(loc capn:List Str)(hnl:loc.length=nl)(hx:∀e s,¬X.xe e s)(hc:X.calm=true)(hkind:scope.kind=.function)(hnames:∀y∈scope.names,y.2=.local->scope.names.lookup y.1=some .local)(hcell:∀y∈scope.names,y.2=.cell->scope.names.lookup y.1=some .cell)
  (hfree:(scope.names.all λy=>y.2 != .free||X.env.kindOf y.1==some .cell)=true) (hcap:Qh X scope caps capn)
  (hi:IOk X target iter mi) (hg:∀cl C ex s H,PG (cxB X (loc++capn) scope cl C ex s H) target g) (ho:GOk X g tg) (ht:∀cl C ex s H,IfOk (cxB X (loc++capn) scope cl C ex s H) ifs tt) (he:∀cl C ex s H,EOk (cxB X (loc++capn) scope cl C ex s H) elt el)
  (hs:∀x,foldedSetIterable iter X.env x=pure x:=by intro _;rfl):EOk X (.ListComp elt [⟨target,iter,ifs,0⟩] scope pos) (uV nl caps mi tg tt el):=by
 obtain⟨c1,c2⟩:=Gq (loc:=loc) hcap;refine ok_comp nl caps (loc++capn) hx hc hkind hnames hcell hfree (by simp[hnl,c1]) (λi j e=>?_) hi hg ho ht he hs;obtain⟨x,q1,q2,q3⟩:=c2 i j e;refine⟨x,?_,q2,q3⟩;rw[getElem?_append_right (by omega),hnl,Nat.add_sub_cancel_left];exact q1
theorem sk_lc{elt target iter:Expr}{ifs:List Expr}{scope:Scope}{pos:Pos}{mi:MI}{tg:MG}{tt:MT}{el:ME}{g:TG}{nl:Nat}{caps:List Nat}{i:Nat}{y:Str}{py spos:Pos}(loc capn:List Str)(hN:X.N.Nodup)(hi':X.N[i]?=some y)(hy:Loc X.env.scope y)(hf:X.fn y=true\/X.env.scope.names.lookup y=some .local)(hnl:loc.length=nl)(hx:∀e s,¬X.xe e s)(hc:X.calm=true)(hkind:scope.kind=.function)(hnames:∀y∈scope.names,y.2=.local->scope.names.lookup y.1=some .local)(hcell:∀y∈scope.names,y.2=.cell->scope.names.lookup y.1=some .cell)
  (hfree:(scope.names.all λy=>y.2 != .free||X.env.kindOf y.1==some .cell)=true) (hcap:Qh X scope caps capn)
  (hi:IOk X target iter mi) (hg:∀cl C ex s H,PG (cxB X (loc++capn) scope cl C ex s H) target g) (ho:GOk X g tg) (ht:∀cl C ex s H,IfOk (cxB X (loc++capn) scope cl C ex s H) ifs tt) (he:∀cl C ex s H,EOk (cxB X (loc++capn) scope cl C ex s H) elt el)
  (hs:∀x,foldedSetIterable iter X.env x=pure x) (hsw:swapsWith (.ListComp elt [⟨target,iter,ifs,0⟩] scope pos) (some (.Name y py)) spos.line X.env=pure true) :
  SOk X (.Assign [.Name y py] (.ListComp elt [⟨target,iter,ifs,0⟩] scope pos) spos) (sSet i (uV nl caps mi tg tt el)):=by
 obtain⟨c1,c2⟩:=Gq (loc:=loc) hcap;refine sk_comp nl caps (loc++capn) hN hi' hy hf hx hc hkind hnames hcell hfree (by simp[hnl,c1]) (λi j e=>?_) hi hg ho ht he hs hsw;obtain⟨x,q1,q2,q3⟩:=c2 i j e;refine⟨x,?_,q2,q3⟩;rw[getElem?_append_right (by omega),hnl,Nat.add_sub_cancel_left];exact q1
end
section
variable(P:Program)(w:World)(K:PySem.W.Frag)(mg:Str->Option Value)(base:Heap)
def jj(x:Str)(st:Stmt)(ps:List Str):Prop:=∃(a:Addr) (fd:FuncData),mg x=some (.ref a)/\Fun K x x st a fd/\WK K fd ps []
def FOk(c:Bool)(x:Str)(k:Nat)(ps:List Str)(F:MF):Prop:=∃(a:Addr) (fd:FuncData),mg x=some (.ref a)/\keepIn K (.ref a)=true/\WK K fd ps []/\FnOkN c P w K mg base k a fd ps (spM K mg ps.length F)
end
end DV
namespace DV
open PySem L2
section
variable{X:Cx}{n:Nat}
end
end DV
namespace DV
open PySem L2
mutual
def deq:D->D->Bool
 | .tup a,d=>match d with
  | .tup b=>deqs a b
  |_=>false
 | .lst a,d=>match d with
  | .lst b=>deqs a b
  |_=>false
 |a,d=>match d with
  | .tup _=>false
  | .lst _=>false
  |b=>eqV (flV a) (flV b)
def deqs:List D->List D->Bool
 | [],[]=>true
 |a::as,b::bs=>deq a b&&deqs as bs
 | [],_::_=>false
 |_::_,[]=>false
end
def eqb:Nat->D->Bool
 |_,.non=>true
 |_,.bl _=>true
 |_,.int _=>true
 |_,.str _=>true
 |n+1,.tup ds=>ds.all (eqb n)
 |n+1,.lst ds=>ds.all (eqb n)
 |_,_=>false
theorem wq:∀(a b:List D),deqs a b=((List.range (min a.length b.length)).all (λj=>deq (a.getD j .non) (b.getD j .non))&&a.length==b.length)
 | [],[]=>by simp[deqs]
 | [],_::_=>by simp[deqs]
 |_::_,[]=>by simp[deqs]
 |a::as,b::bs=>by
  simp only[deqs,wq as bs,length_cons];have e:min (as.length+1) (bs.length+1)=min as.length bs.length+1:=by omega
  rw[e,List.range_succ_eq_map,all_cons,List.all_map];simp[Function.comp_def,Bool.and_assoc]
section
variable{X:Cx}{pins:List (Addr×Obj)}{σ:St}{H:Hp}{s:Shared}
theorem wC{d:D}(h:eqb 0 d=true):flat d=true:=by cases d<;>first|rfl|(simp[eqb]at h)
theorem zAR{v:V}(h:uI v=true):eqV v v=true:=by cases v<;>simp[uI]at h<;>simp[eqV]
theorem Ja{a b:D}(ha:flat a=true)(hb:flat b=true):deq a b=eqV (flV a) (flV b):=by
 cases a<;>cases b<;>first|(simp[flat]at ha;done)|(simp[flat]at hb;done)|simp[deq]
theorem zr{n:Nat}{d:D}(h:eqb n d=true):flat d=true\/(∃m ds,n=m+1/\d=.tup ds/\∀e∈ds,eqb m e=true)\/(∃m ds,n=m+1/\d=.lst ds/\∀e∈ds,eqb m e=true):=by
 cases d with
 |tup ds =>
  cases n with
  |zero=>simp[eqb]at h
  |succ m=>exact .inr (.inl ⟨m,ds,rfl,rfl,by simpa[eqb]using h⟩)
 |lst ds =>
  cases n with
  |zero=>simp[eqb]at h
  |succ m=>exact .inr (.inr ⟨m,ds,rfl,rfl,by simpa[eqb]using h⟩)
 |fn x=>cases n<;>simp[eqb]at h
 |dic=>cases n<;>simp[eqb]at h
 |exn x=>cases n<;>simp[eqb]at h
 |_=>exact .inl rfl
theorem zAS(I:Inv X pins σ H s):∀(n:Nat) (d e:D) (x:V),eqb n d=true->eqb n e=true->Rep X.K X.mg H d x->Rep X.K X.mg H e x->deq d e=true:=by
 intro n
 induction n with
 |zero =>
  intro d e x hd he rd re;have fd:=wC hd;have fe:=wC he;rw[Ja fd fe,<- za fd rd,<- za fe re];exact zAR (by rw[za fd rd];exact yk fd)
 |succ n ih =>
  intro d e x hd he rd re;have seq:∀(ds es:List D) (xs:List V),(∀e∈ds,eqb n e=true)->(∀e∈es,eqb n e=true)->Reps X.K X.mg H ds xs->Reps X.K X.mg H es xs->deqs ds es=true:=by
   intro ds
   induction ds with
   |nil =>
    intro es xs _ _ r1 r2;simp only[Reps]at r1;subst r1;cases es with
    |nil=>rfl
    |cons e es=>simp only[Reps]at r2;obtain⟨v,r,q,_⟩:=r2;cases q
   |cons d ds ihd =>
    intro es xs h1 h2 r1 r2;simp only[Reps]at r1;obtain⟨v,r,rfl,a1,a2⟩:=r1;cases es with
    |nil=>simp only[Reps]at r2;cases r2
    |cons e es =>
     simp only[Reps]at r2;obtain⟨v',r',q,b1,b2⟩:=r2;cases q;simp only[deqs,Bool.and_eq_true];exact⟨ih d e v (h1 d mem_cons_self) (h2 e mem_cons_self) a1 b1,ihd es r (λz hz=>h1 z (mem_cons_of_mem _ hz)) (λz hz=>h2 z (mem_cons_of_mem _ hz)) a2 b2⟩
  have isRef:∀{d:D} {a:Addr},flat d=true->Rep X.K X.mg H d (.ref a)->False:=λ{d a} fd r=>by
   have:=za fd r;cases d<;>simp[flat]at fd<;>cases this
  have kinds:∀{a:Addr} {xs ys:List V},SqT X.K H a xs->SqL X.K H a ys->False:=λ{a xs ys} h1 h2=>by
   obtain⟨i1,_,⟨o,e1,c1,_⟩,_⟩:=I.tuple h1;obtain⟨i2,_,⟨o2,n2,e2,c2,_⟩,_⟩:=I.list h2;rw[e1]at e2;cases e2;rw[c1]at c2;simp at c2
  rcases zr hd with fd|⟨m,ds,em,rfl,hds⟩|⟨m,ds,em,rfl,hds⟩
  ·rcases zr he with fe|⟨m,es,em,rfl,hes⟩|⟨m,es,em,rfl,hes⟩
   ·rw[Ja fd fe,<- za fd rd,<- za fe re]
    exact zAR (by rw[za fd rd];exact yk fd)
   ·obtain⟨a,xs,rfl,_,_⟩:=ze re
    exact(isRef fd rd).elim
   ·obtain⟨a,xs,rfl,_,_⟩:=zZ re
    exact(isRef fd rd).elim
  ·cases em
   obtain⟨a,xs,rfl,q1,q2⟩:=ze rd;rcases zr he with fe|⟨m,es,em,rfl,hes⟩|⟨m,es,em,rfl,hes⟩
   ·exact(isRef fe re).elim
   ·cases em
    obtain⟨b,ys,e,p1,p2⟩:=ze re;cases e;have:=I.tuple_inj q1 p1;subst this;simp only[deq];exact seq ds es xs hds hes q2 p2
   ·obtain⟨b,ys,e,p1,p2⟩:=zZ re
    cases e;exact(kinds q1 p1).elim
  ·cases em
   obtain⟨a,xs,rfl,q1,q2⟩:=zZ rd;rcases zr he with fe|⟨m,es,em,rfl,hes⟩|⟨m,es,em,rfl,hes⟩
   ·exact(isRef fe re).elim
   ·obtain⟨b,ys,e,p1,p2⟩:=ze re
    cases e;exact(kinds p1 q1).elim
   ·cases em
    obtain⟨b,ys,e,p1,p2⟩:=zZ re;cases e;have:=I.list_inj q1 p1;subst this;simp only[deq];exact seq ds es xs hds hes q2 p2
theorem Y9{ds:List D}{xs:List V}{us:List Value}(r:Reps X.K X.mg H ds xs)(v:yD xs us){j:Nat}(h:j<us.length):j<ds.length/\∃x,Rep X.K X.mg H (ds.getD j .non) x/\yU x us[j]:=by
 have l1:=r.length;have l2:=v.length;have hd:j<ds.length:=by omega
 refine⟨hd,?_⟩;obtain⟨x,q1,q2⟩:=r.get' (i:=j) (d:=ds[j]) (by simp[hd]);obtain⟨u,e1,e2⟩:=v.get q1;have:us[j]=u:=by
  have:=List.getElem?_eq_some_iff.mp e1;exact this.2
 refine⟨x,?_,by rw[this];exact e2⟩;rw[getD_eq_getElem?_getD,getElem?_eq_getElem hd];exact q2
theorem eqAt_ft{A:Around}{d:D}{x:V}{u:Value}{b:Addr}{its:Array Value}(hd:flat d=true)(rx:yU x u)(ex:x=flV d)(hb:s.heap.IsTuple b its)(hu:A.units<cLine):SeqAt.EqAt A s u (.ref b) false:=by
 subst ex;cases d with
 |non=>cases rx;exact SeqAt.EqAt.none_tuple hb hu
 |bl c=>cases rx;exact SeqAt.EqAt.bool_tuple c hb hu
 |int i=>obtain⟨t,rfl⟩:=rx;exact SeqAt.EqAt.int_tuple i t hb hu
 |str z=>obtain⟨t,rfl⟩:=rx;exact SeqAt.EqAt.str_tuple z t hb hu
 |_=>simp[flat]at hd
theorem eqAt_fl{A:Around}{d:D}{x:V}{u:Value}{b:Addr}{its:Array Value}(hd:flat d=true)(rx:yU x u)(ex:x=flV d)(hb:s.heap.IsList b its)(hu:A.units<cLine):SeqAt.EqAt A s u (.ref b) false:=by
 subst ex;cases d with
 |non=>cases rx;exact SeqAt.EqAt.none_list hb hu
 |bl c=>cases rx;exact SeqAt.EqAt.bool_list c hb hu
 |int i=>obtain⟨t,rfl⟩:=rx;exact SeqAt.EqAt.int_list i t hb hu
 |str z=>obtain⟨t,rfl⟩:=rx;exact SeqAt.EqAt.str_list z t hb hu
 |_=>simp[flat]at hd
theorem eqAt_tf{A:Around}{d:D}{x:V}{u:Value}{b:Addr}{its:Array Value}(hd:flat d=true)(rx:yU x u)(ex:x=flV d)(hb:s.heap.IsTuple b its)(hu:A.units<cLine):SeqAt.EqAt A s (.ref b) u false:=by
 subst ex;cases d with
 |non=>cases rx;exact SeqAt.EqAt.tuple_none hb hu
 |bl c=>cases rx;exact SeqAt.EqAt.tuple_bool c hb hu
 |int i=>obtain⟨t,rfl⟩:=rx;exact SeqAt.EqAt.tuple_int i t hb hu
 |str z=>obtain⟨t,rfl⟩:=rx;exact SeqAt.EqAt.tuple_str z t hb hu
 |_=>simp[flat]at hd
theorem eqAt_lf{A:Around}{d:D}{x:V}{u:Value}{b:Addr}{its:Array Value}(hd:flat d=true)(rx:yU x u)(ex:x=flV d)(hb:s.heap.IsList b its)(hu:A.units<cLine):SeqAt.EqAt A s (.ref b) u false:=by
 subst ex;cases d with
 |non=>cases rx;exact SeqAt.EqAt.list_none hb hu
 |bl c=>cases rx;exact SeqAt.EqAt.list_bool c hb hu
 |int i=>obtain⟨t,rfl⟩:=rx;exact SeqAt.EqAt.list_int i t hb hu
 |str z=>obtain⟨t,rfl⟩:=rx;exact SeqAt.EqAt.list_str z t hb hu
 |_=>simp[flat]at hd
theorem zCC{d:D}{ds:List D}(h:flat d=true):deq d (.tup ds)=false:=by cases d<;>simp[flat]at h<;>simp[deq]
theorem zCD{d:D}{ds:List D}(h:flat d=true):deq d (.lst ds)=false:=by cases d<;>simp[flat]at h<;>simp[deq]
theorem zCE{d:D}{ds:List D}(h:flat d=true):deq (.tup ds) d=false:=by cases d<;>simp[flat]at h<;>simp[deq]
theorem zCF{d:D}{ds:List D}(h:flat d=true):deq (.lst ds) d=false:=by cases d<;>simp[flat]at h<;>simp[deq]
theorem eqAtD(I:Inv X pins σ H s):∀(n:Nat) (A:Around) (d e:D) (x y:V) (u v:Value),eqb n d=true->eqb n e=true->Rep X.K X.mg H d x->Rep X.K X.mg H e y->yU x u->yU y v->A.units+n<cLine->SeqAt.EqAt A s u v (deq d e):=by
 intro n
 induction n with
 |zero =>
  intro A d e x y u v hd he rd re rx ry hu;have fd:=wC hd;have fe:=wC he;rw[Ja fd fe,<- za fd rd,<- za fe re];exact zFA rx ry (by rw[za fd rd];exact yk fd) (by rw[za fe re];exact yk fe)
 |succ n ih =>
  intro A d e x y u v hd he rd re rx ry hu;have hu0:A.units<cLine:=by omega
  have item:∀{ds es:List D} {xs ys:List V} {us vs:List Value},(∀e∈ds,eqb n e=true)->(∀e∈es,eqb n e=true)->Reps X.K X.mg H ds xs->Reps X.K X.mg H es ys->yD xs us->yD ys vs ->
    ∀j (h1:j<us.toArray.size) (h2:j<vs.toArray.size),SeqAt.EqAt A.in1 s us.toArray[j] vs.toArray[j] (deq (ds.getD j .non) (es.getD j .non)):=by
   intro ds es xs ys us vs k1 k2 r1 r2 v1 v2 j h1 h2;have h1':j<us.length:=by simpa using h1
   have h2':j<vs.length:=by simpa using h2
   obtain⟨l1,x1,a1,b1⟩:=Y9 r1 v1 h1';obtain⟨l2,x2,a2,b2⟩:=Y9 r2 v2 h2';rw[getElem_toArray,getElem_toArray];have m1:ds.getD j .non∈ds:=by rw[getD_eq_getElem?_getD,getElem?_eq_getElem l1];exact getElem_mem l1
   have m2:es.getD j .non∈es:=by rw[getD_eq_getElem?_getD,getElem?_eq_getElem l2];exact getElem_mem l2
   exact ih A.in1 _ _ x1 x2 _ _ (k1 _ m1) (k2 _ m2) a1 a2 b1 b2 (by show A.units+1+n<cLine;omega)
  rcases zr hd with fd|⟨m,ds,em,rfl,hds⟩|⟨m,ds,em,rfl,hds⟩
  ·have ex:=za fd rd
   rcases zr he with fe|⟨m,es,em,rfl,hes⟩|⟨m,es,em,rfl,hes⟩
   ·rw[Ja fd fe,<- za fd rd,<- za fe re]
    exact zFA rx ry (by rw[za fd rd];exact yk fd) (by rw[za fe re];exact yk fe)
   ·obtain⟨b,ys,rfl,p1,p2⟩:=ze re
    cases ry;obtain⟨its,_,pl,_⟩:=I.tuple p1;rw[zCC fd];exact eqAt_ft fd rx ex pl hu0
   ·obtain⟨b,ys,rfl,p1,p2⟩:=zZ re
    cases ry;obtain⟨its,_,pl,_⟩:=I.list p1;rw[zCD fd];exact eqAt_fl fd rx ex pl.isList hu0
  ·cases em
   obtain⟨a,xs,rfl,q1,q2⟩:=ze rd;cases rx;obtain⟨us,v1,pl1,_⟩:=I.tuple q1;rcases zr he with fe|⟨m,es,em,rfl,hes⟩|⟨m,es,em,rfl,hes⟩
   ·rw[zCE fe];exact eqAt_tf fe ry (za fe re) pl1 hu0
   ·cases em
    obtain⟨b,ys,rfl,p1,p2⟩:=ze re;cases ry;obtain⟨vs,v2,pl2,_⟩:=I.tuple p1;by_cases hab:a=b
    ·subst hab
     rw[zAS I (n+1) _ _ _ hd he rd re];exact SeqAt.EqAt.same _
    ·have q:=SeqAt.EqAt.of_refs hab (SeqAt.RcAt.tuples pl1 pl2 hu0 (item hds hes q2 p2 v1 v2))
     simp only[deq];rw[wq];have l1:us.toArray.size=ds.length:=by rw[size_toArray,<- v1.length,q2.length]
     have l2:vs.toArray.size=es.length:=by rw[size_toArray,<- v2.length,p2.length]
     rw[l1,l2]at q;exact q
   ·obtain⟨b,ys,rfl,p1,p2⟩:=zZ re
    cases ry;obtain⟨vs,v2,pl2,_⟩:=I.list p1;simp only[deq];exact SeqAt.EqAt.tuple_list pl1 pl2.isList hu0
  ·cases em
   obtain⟨a,xs,rfl,q1,q2⟩:=zZ rd;cases rx;obtain⟨us,v1,pl1,_⟩:=I.list q1;rcases zr he with fe|⟨m,es,em,rfl,hes⟩|⟨m,es,em,rfl,hes⟩
   ·rw[zCF fe];exact eqAt_lf fe ry (za fe re) pl1.isList hu0
   ·obtain⟨b,ys,rfl,p1,p2⟩:=ze re
    cases ry;obtain⟨vs,v2,pl2,_⟩:=I.tuple p1;simp only[deq];exact SeqAt.EqAt.list_tuple pl1.isList pl2 hu0
   ·cases em
    obtain⟨b,ys,rfl,p1,p2⟩:=zZ re;cases ry;obtain⟨vs,v2,pl2,_⟩:=I.list p1;have l1:us.toArray.size=ds.length:=by rw[size_toArray,<- v1.length,q2.length]
    have l2:vs.toArray.size=es.length:=by rw[size_toArray,<- v2.length,p2.length]
    by_cases hab:a=b
    ·subst hab
     rw[zAS I (n+1) _ _ _ hd he rd re];exact SeqAt.EqAt.same _
    ·simp only[deq]
     rw[wq];by_cases hl:ds.length=es.length
     ·have q:=SeqAt.EqAt.of_refs hab (SeqAt.RcAt.lists pl1.isList pl2.isList (by rw[l1,l2,hl]) hu0 (item hds hes q2 p2 v1 v2))
      rw[l1]at q;rw[hl]at q ⊢;simpa using q
     ·have q:=SeqAt.EqAt.of_refs hab (SeqAt.RcAt.lists_lengths (A:=A) pl1.isList pl2.isList (by rw[l1,l2];simpa using hl) hu0)
      have e:(ds.length==es.length)=false:=by simpa using hl
      rw[e,Bool.and_false];exact q
theorem rcAt_V{A:Around}{y x:V}{u v:Value}(ry:yU y u)(rx:yU x v)(fy:uI y=true)(fx:uI x=true):SeqAt.RcAt A s u v (eqV y x):=by
 cases y with
 |non =>
  cases ry;cases x with
  |non=>cases rx;exact SeqAt.RcAt.none_none
  |bl b=>cases rx;exact SeqAt.RcAt.none_bool  b
  |int b=>obtain⟨t2,rfl⟩:=rx;exact SeqAt.RcAt.none_int  b t2
  |str b=>obtain⟨t2,rfl⟩:=rx;exact SeqAt.RcAt.none_str  b t2
  |_=>exact absurd (show false=true from fx) Bool.false_ne_true
 |bl a =>
  cases ry;cases x with
  |non=>cases rx;exact SeqAt.RcAt.bool_none a
  |bl b=>cases rx;exact SeqAt.RcAt.bool_bool a b
  |int b=>obtain⟨t2,rfl⟩:=rx;exact SeqAt.RcAt.bool_int a b t2
  |str b=>obtain⟨t2,rfl⟩:=rx;exact SeqAt.RcAt.bool_str a b t2
  |_=>exact absurd (show false=true from fx) Bool.false_ne_true
 |int a =>
  obtain⟨t,rfl⟩:=ry;cases x with
  |non=>cases rx;exact SeqAt.RcAt.int_none a t
  |bl b=>cases rx;exact SeqAt.RcAt.int_bool a t b
  |int b=>obtain⟨t2,rfl⟩:=rx;exact SeqAt.RcAt.int_int a t b t2
  |str b=>obtain⟨t2,rfl⟩:=rx;exact SeqAt.RcAt.int_str a t b t2
  |_=>exact absurd (show false=true from fx) Bool.false_ne_true
 |str a =>
  obtain⟨t,rfl⟩:=ry;cases x with
  |non=>cases rx;exact SeqAt.RcAt.str_none a t
  |bl b=>cases rx;exact SeqAt.RcAt.str_bool a t b
  |int b=>obtain⟨t2,rfl⟩:=rx;exact SeqAt.RcAt.str_int a t b t2
  |str b=>obtain⟨t2,rfl⟩:=rx;exact SeqAt.RcAt.str_str a t b t2
  |_=>exact absurd (show false=true from fx) Bool.false_ne_true
 |_=>exact absurd (show false=true from fy) Bool.false_ne_true
theorem rcNe_V{A:Around}{y x:V}{u v:Value}(ry:yU y u)(rx:yU x v)(fy:uI y=true)(fx:uI x=true):SeqAt.RcNeAt A s u v (!eqV y x):=by
 cases y with
 |non =>
  cases ry;cases x with
  |non=>cases rx;exact SeqAt.RcNeAt.none_none
  |bl b=>cases rx;exact SeqAt.RcNeAt.none_bool  b
  |int b=>obtain⟨t2,rfl⟩:=rx;exact SeqAt.RcNeAt.none_int  b t2
  |str b=>obtain⟨t2,rfl⟩:=rx;exact SeqAt.RcNeAt.none_str  b t2
  |_=>exact absurd (show false=true from fx) Bool.false_ne_true
 |bl a =>
  cases ry;cases x with
  |non=>cases rx;exact SeqAt.RcNeAt.bool_none a
  |bl b=>cases rx;exact SeqAt.RcNeAt.bool_bool a b
  |int b=>obtain⟨t2,rfl⟩:=rx;exact SeqAt.RcNeAt.bool_int a b t2
  |str b=>obtain⟨t2,rfl⟩:=rx;exact SeqAt.RcNeAt.bool_str a b t2
  |_=>exact absurd (show false=true from fx) Bool.false_ne_true
 |int a =>
  obtain⟨t,rfl⟩:=ry;cases x with
  |non=>cases rx;exact SeqAt.RcNeAt.int_none a t
  |bl b=>cases rx;exact SeqAt.RcNeAt.int_bool a t b
  |int b=>obtain⟨t2,rfl⟩:=rx;exact SeqAt.RcNeAt.int_int a t b t2
  |str b=>obtain⟨t2,rfl⟩:=rx;exact SeqAt.RcNeAt.int_str a t b t2
  |_=>exact absurd (show false=true from fx) Bool.false_ne_true
 |str a =>
  obtain⟨t,rfl⟩:=ry;cases x with
  |non=>cases rx;exact SeqAt.RcNeAt.str_none a t
  |bl b=>cases rx;exact SeqAt.RcNeAt.str_bool a t b
  |int b=>obtain⟨t2,rfl⟩:=rx;exact SeqAt.RcNeAt.str_int a t b t2
  |str b=>obtain⟨t2,rfl⟩:=rx;exact SeqAt.RcNeAt.str_str a t b t2
  |_=>exact absurd (show false=true from fx) Bool.false_ne_true
 |_=>exact absurd (show false=true from fy) Bool.false_ne_true
theorem rc_ft{A:Around}{d:D}{x:V}{u:Value}{b:Addr}{its:Array Value}(hd:flat d=true)(rx:yU x u)(ex:x=flV d)(hb:s.heap.IsTuple b its)(hu:A.units<cLine):SeqAt.RcAt A s u (.ref b) false:=by
 subst ex;cases d with
 |non=>cases rx;exact SeqAt.RcAt.none_tuple hb hu
 |bl c=>cases rx;exact SeqAt.RcAt.bool_tuple c hb hu
 |int c=>obtain⟨t,rfl⟩:=rx;exact SeqAt.RcAt.int_tuple c t hb hu
 |str c=>obtain⟨t,rfl⟩:=rx;exact SeqAt.RcAt.str_tuple c t hb hu
 |_=>simp[flat]at hd
theorem rc_fl{A:Around}{d:D}{x:V}{u:Value}{b:Addr}{its:Array Value}(hd:flat d=true)(rx:yU x u)(ex:x=flV d)(hb:s.heap.IsList b its)(hu:A.units<cLine):SeqAt.RcAt A s u (.ref b) false:=by
 subst ex;cases d with
 |non=>cases rx;exact SeqAt.RcAt.none_list hb hu
 |bl c=>cases rx;exact SeqAt.RcAt.bool_list c hb hu
 |int c=>obtain⟨t,rfl⟩:=rx;exact SeqAt.RcAt.int_list c t hb hu
 |str c=>obtain⟨t,rfl⟩:=rx;exact SeqAt.RcAt.str_list c t hb hu
 |_=>simp[flat]at hd
theorem rc_tf{A:Around}{d:D}{x:V}{u:Value}{b:Addr}{its:Array Value}(hd:flat d=true)(rx:yU x u)(ex:x=flV d)(hb:s.heap.IsTuple b its)(hu:A.units<cLine):SeqAt.RcAt A s (.ref b) u false:=by
 subst ex;cases d with
 |non=>cases rx;exact SeqAt.RcAt.tuple_none hb hu
 |bl c=>cases rx;exact SeqAt.RcAt.tuple_bool c hb hu
 |int c=>obtain⟨t,rfl⟩:=rx;exact SeqAt.RcAt.tuple_int c t hb hu
 |str c=>obtain⟨t,rfl⟩:=rx;exact SeqAt.RcAt.tuple_str c t hb hu
 |_=>simp[flat]at hd
theorem rc_lf{A:Around}{d:D}{x:V}{u:Value}{b:Addr}{its:Array Value}(hd:flat d=true)(rx:yU x u)(ex:x=flV d)(hb:s.heap.IsList b its)(hu:A.units<cLine):SeqAt.RcAt A s (.ref b) u false:=by
 subst ex;cases d with
 |non=>cases rx;exact SeqAt.RcAt.list_none hb hu
 |bl c=>cases rx;exact SeqAt.RcAt.list_bool c hb hu
 |int c=>obtain⟨t,rfl⟩:=rx;exact SeqAt.RcAt.list_int c t hb hu
 |str c=>obtain⟨t,rfl⟩:=rx;exact SeqAt.RcAt.list_str c t hb hu
 |_=>simp[flat]at hd
theorem rn_ft{A:Around}{d:D}{x:V}{u:Value}{b:Addr}{its:Array Value}(hd:flat d=true)(rx:yU x u)(ex:x=flV d)(hb:s.heap.IsTuple b its)(hu:A.units<cLine):SeqAt.RcNeAt A s u (.ref b) true:=by
 subst ex;cases d with
 |non=>cases rx;exact SeqAt.RcNeAt.none_tuple hb hu
 |bl c=>cases rx;exact SeqAt.RcNeAt.bool_tuple c hb hu
 |int c=>obtain⟨t,rfl⟩:=rx;exact SeqAt.RcNeAt.int_tuple c t hb hu
 |str c=>obtain⟨t,rfl⟩:=rx;exact SeqAt.RcNeAt.str_tuple c t hb hu
 |_=>simp[flat]at hd
theorem rn_fl{A:Around}{d:D}{x:V}{u:Value}{b:Addr}{its:Array Value}(hd:flat d=true)(rx:yU x u)(ex:x=flV d)(hb:s.heap.IsList b its)(hu:A.units<cLine):SeqAt.RcNeAt A s u (.ref b) true:=by
 subst ex;cases d with
 |non=>cases rx;exact SeqAt.RcNeAt.none_list hb hu
 |bl c=>cases rx;exact SeqAt.RcNeAt.bool_list c hb hu
 |int c=>obtain⟨t,rfl⟩:=rx;exact SeqAt.RcNeAt.int_list c t hb hu
 |str c=>obtain⟨t,rfl⟩:=rx;exact SeqAt.RcNeAt.str_list c t hb hu
 |_=>simp[flat]at hd
theorem rn_tf{A:Around}{d:D}{x:V}{u:Value}{b:Addr}{its:Array Value}(hd:flat d=true)(rx:yU x u)(ex:x=flV d)(hb:s.heap.IsTuple b its)(hu:A.units<cLine):SeqAt.RcNeAt A s (.ref b) u true:=by
 subst ex;cases d with
 |non=>cases rx;exact SeqAt.RcNeAt.tuple_none hb hu
 |bl c=>cases rx;exact SeqAt.RcNeAt.tuple_bool c hb hu
 |int c=>obtain⟨t,rfl⟩:=rx;exact SeqAt.RcNeAt.tuple_int c t hb hu
 |str c=>obtain⟨t,rfl⟩:=rx;exact SeqAt.RcNeAt.tuple_str c t hb hu
 |_=>simp[flat]at hd
theorem rn_lf{A:Around}{d:D}{x:V}{u:Value}{b:Addr}{its:Array Value}(hd:flat d=true)(rx:yU x u)(ex:x=flV d)(hb:s.heap.IsList b its)(hu:A.units<cLine):SeqAt.RcNeAt A s (.ref b) u true:=by
 subst ex;cases d with
 |non=>cases rx;exact SeqAt.RcNeAt.list_none hb hu
 |bl c=>cases rx;exact SeqAt.RcNeAt.list_bool c hb hu
 |int c=>obtain⟨t,rfl⟩:=rx;exact SeqAt.RcNeAt.list_int c t hb hu
 |str c=>obtain⟨t,rfl⟩:=rx;exact SeqAt.RcNeAt.list_str c t hb hu
 |_=>simp[flat]at hd
theorem rcAtD(I:Inv X pins σ H s)(n:Nat)(A:Around)(d e:D)(x y:V)(u v:Value)(hd:eqb n d=true)(he:eqb n e=true)(rd:Rep X.K X.mg H d x)(re:Rep X.K X.mg H e y)(rx:yU x u)(ry:yU y v)(hu:A.units+n<cLine):SeqAt.RcAt A s u v (deq d e):=by
 have hu0:A.units<cLine:=by omega
 have item:∀{m:Nat} {ds es:List D} {xs ys:List V} {us vs:List Value},n=m+1->(∀e∈ds,eqb m e=true)->(∀e∈es,eqb m e=true)->Reps X.K X.mg H ds xs->Reps X.K X.mg H es ys->yD xs us->yD ys vs ->
   ∀j (h1:j<us.toArray.size) (h2:j<vs.toArray.size),SeqAt.EqAt A.in1 s us.toArray[j] vs.toArray[j] (deq (ds.getD j .non) (es.getD j .non)):=by
  intro m ds es xs ys us vs hm k1 k2 r1 r2 v1 v2 j h1 h2;have h1':j<us.length:=by simpa using h1
  have h2':j<vs.length:=by simpa using h2
  obtain⟨l1,x1,a1,b1⟩:=Y9 r1 v1 h1';obtain⟨l2,x2,a2,b2⟩:=Y9 r2 v2 h2';rw[getElem_toArray,getElem_toArray];have m1:ds.getD j .non∈ds:=by rw[getD_eq_getElem?_getD,getElem?_eq_getElem l1];exact getElem_mem l1
  have m2:es.getD j .non∈es:=by rw[getD_eq_getElem?_getD,getElem?_eq_getElem l2];exact getElem_mem l2
  exact eqAtD I m A.in1 _ _ x1 x2 _ _ (k1 _ m1) (k2 _ m2) a1 a2 b1 b2 (by show A.units+1+m<cLine;omega)
 rcases zr hd with fd|⟨m,ds,em,rfl,hds⟩|⟨m,ds,em,rfl,hds⟩
 ·have ex:=za fd rd
  rcases zr he with fe|⟨m,es,em,rfl,hes⟩|⟨m,es,em,rfl,hes⟩
  ·rw[Ja fd fe,<- za fd rd,<- za fe re]
   exact rcAt_V rx ry (by rw[za fd rd];exact yk fd) (by rw[za fe re];exact yk fe)
  ·obtain⟨b,ys,rfl,p1,p2⟩:=ze re
   cases ry;obtain⟨its,_,pl,_⟩:=I.tuple p1;rw[zCC fd];exact rc_ft fd rx ex pl hu0
  ·obtain⟨b,ys,rfl,p1,p2⟩:=zZ re
   cases ry;obtain⟨its,_,pl,_⟩:=I.list p1;rw[zCD fd];exact rc_fl fd rx ex pl.isList hu0
 ·obtain⟨a,xs,rfl,q1,q2⟩:=ze rd
  cases rx;obtain⟨us,v1,pl1,_⟩:=I.tuple q1;rcases zr he with fe|⟨m',es,em',rfl,hes⟩|⟨m',es,em',rfl,hes⟩
  ·rw[zCE fe];exact rc_tf fe ry (za fe re) pl1 hu0
  ·have:m=m':=by omega
   subst this;obtain⟨b,ys,rfl,p1,p2⟩:=ze re;cases ry;obtain⟨vs,v2,pl2,_⟩:=I.tuple p1;have q:=SeqAt.RcAt.tuples pl1 pl2 hu0 (item em hds hes q2 p2 v1 v2);simp only[deq];rw[wq];have l1:us.toArray.size=ds.length:=by rw[size_toArray,<- v1.length,q2.length]
   have l2:vs.toArray.size=es.length:=by rw[size_toArray,<- v2.length,p2.length]
   rw[l1,l2]at q;exact q
  ·obtain⟨b,ys,rfl,p1,p2⟩:=zZ re
   cases ry;obtain⟨vs,v2,pl2,_⟩:=I.list p1;simp only[deq];exact SeqAt.RcAt.tuple_list pl1 pl2.isList hu0
 ·obtain⟨a,xs,rfl,q1,q2⟩:=zZ rd
  cases rx;obtain⟨us,v1,pl1,_⟩:=I.list q1;rcases zr he with fe|⟨m',es,em',rfl,hes⟩|⟨m',es,em',rfl,hes⟩
  ·rw[zCF fe];exact rc_lf fe ry (za fe re) pl1.isList hu0
  ·obtain⟨b,ys,rfl,p1,p2⟩:=ze re
   cases ry;obtain⟨vs,v2,pl2,_⟩:=I.tuple p1;simp only[deq];exact SeqAt.RcAt.list_tuple pl1.isList pl2 hu0
  ·have:m=m':=by omega
   subst this;obtain⟨b,ys,rfl,p1,p2⟩:=zZ re;cases ry;obtain⟨vs,v2,pl2,_⟩:=I.list p1;have l1:us.toArray.size=ds.length:=by rw[size_toArray,<- v1.length,q2.length]
   have l2:vs.toArray.size=es.length:=by rw[size_toArray,<- v2.length,p2.length]
   simp only[deq];rw[wq];by_cases hl:ds.length=es.length
   ·have q:=SeqAt.RcAt.lists pl1.isList pl2.isList (by rw[l1,l2,hl]) hu0 (item em hds hes q2 p2 v1 v2)
    rw[l1]at q;rw[hl]at q ⊢;simpa using q
   ·have q:=SeqAt.RcAt.lists_lengths (A:=A) pl1.isList pl2.isList (by rw[l1,l2];simpa using hl) hu0
    have e:(ds.length==es.length)=false:=by simpa using hl
    rw[e,Bool.and_false];exact q
theorem rcNeD(I:Inv X pins σ H s)(n:Nat)(A:Around)(d e:D)(x y:V)(u v:Value)(hd:eqb n d=true)(he:eqb n e=true)(rd:Rep X.K X.mg H d x)(re:Rep X.K X.mg H e y)(rx:yU x u)(ry:yU y v)(hu:A.units+n<cLine):SeqAt.RcNeAt A s u v (!deq d e):=by
 have hu0:A.units<cLine:=by omega
 have item:∀{m:Nat} {ds es:List D} {xs ys:List V} {us vs:List Value},n=m+1->(∀e∈ds,eqb m e=true)->(∀e∈es,eqb m e=true)->Reps X.K X.mg H ds xs->Reps X.K X.mg H es ys->yD xs us->yD ys vs ->
   ∀j (h1:j<us.toArray.size) (h2:j<vs.toArray.size),SeqAt.EqAt A.in1 s us.toArray[j] vs.toArray[j] (deq (ds.getD j .non) (es.getD j .non)):=by
  intro m ds es xs ys us vs hm k1 k2 r1 r2 v1 v2 j h1 h2;have h1':j<us.length:=by simpa using h1
  have h2':j<vs.length:=by simpa using h2
  obtain⟨l1,x1,a1,b1⟩:=Y9 r1 v1 h1';obtain⟨l2,x2,a2,b2⟩:=Y9 r2 v2 h2';rw[getElem_toArray,getElem_toArray];have m1:ds.getD j .non∈ds:=by rw[getD_eq_getElem?_getD,getElem?_eq_getElem l1];exact getElem_mem l1
  have m2:es.getD j .non∈es:=by rw[getD_eq_getElem?_getD,getElem?_eq_getElem l2];exact getElem_mem l2
  exact eqAtD I m A.in1 _ _ x1 x2 _ _ (k1 _ m1) (k2 _ m2) a1 a2 b1 b2 (by show A.units+1+m<cLine;omega)
 rcases zr hd with fd|⟨m,ds,em,rfl,hds⟩|⟨m,ds,em,rfl,hds⟩
 ·have ex:=za fd rd
  rcases zr he with fe|⟨m,es,em,rfl,hes⟩|⟨m,es,em,rfl,hes⟩
  ·rw[Ja fd fe,<- za fd rd,<- za fe re]
   exact rcNe_V rx ry (by rw[za fd rd];exact yk fd) (by rw[za fe re];exact yk fe)
  ·obtain⟨b,ys,rfl,p1,p2⟩:=ze re
   cases ry;obtain⟨its,_,pl,_⟩:=I.tuple p1;rw[zCC fd];exact rn_ft fd rx ex pl hu0
  ·obtain⟨b,ys,rfl,p1,p2⟩:=zZ re
   cases ry;obtain⟨its,_,pl,_⟩:=I.list p1;rw[zCD fd];exact rn_fl fd rx ex pl.isList hu0
 ·obtain⟨a,xs,rfl,q1,q2⟩:=ze rd
  cases rx;obtain⟨us,v1,pl1,_⟩:=I.tuple q1;rcases zr he with fe|⟨m',es,em',rfl,hes⟩|⟨m',es,em',rfl,hes⟩
  ·rw[zCE fe];exact rn_tf fe ry (za fe re) pl1 hu0
  ·have:m=m':=by omega
   subst this;obtain⟨b,ys,rfl,p1,p2⟩:=ze re;cases ry;obtain⟨vs,v2,pl2,_⟩:=I.tuple p1;have q:=SeqAt.RcNeAt.tuples pl1 pl2 hu0 (item em hds hes q2 p2 v1 v2);simp only[deq];rw[wq];have l1:us.toArray.size=ds.length:=by rw[size_toArray,<- v1.length,q2.length]
   have l2:vs.toArray.size=es.length:=by rw[size_toArray,<- v2.length,p2.length]
   rw[l1,l2]at q;exact q
  ·obtain⟨b,ys,rfl,p1,p2⟩:=zZ re
   cases ry;obtain⟨vs,v2,pl2,_⟩:=I.list p1;simp only[deq];exact SeqAt.RcNeAt.tuple_list pl1 pl2.isList hu0
 ·obtain⟨a,xs,rfl,q1,q2⟩:=zZ rd
  cases rx;obtain⟨us,v1,pl1,_⟩:=I.list q1;rcases zr he with fe|⟨m',es,em',rfl,hes⟩|⟨m',es,em',rfl,hes⟩
  ·rw[zCF fe];exact rn_lf fe ry (za fe re) pl1.isList hu0
  ·obtain⟨b,ys,rfl,p1,p2⟩:=ze re
   cases ry;obtain⟨vs,v2,pl2,_⟩:=I.tuple p1;simp only[deq];exact SeqAt.RcNeAt.list_tuple pl1.isList pl2 hu0
  ·have:m=m':=by omega
   subst this;obtain⟨b,ys,rfl,p1,p2⟩:=zZ re;cases ry;obtain⟨vs,v2,pl2,_⟩:=I.list p1;have l1:us.toArray.size=ds.length:=by rw[size_toArray,<- v1.length,q2.length]
   have l2:vs.toArray.size=es.length:=by rw[size_toArray,<- v2.length,p2.length]
   simp only[deq];rw[wq];by_cases hl:ds.length=es.length
   ·have q:=SeqAt.RcNeAt.lists pl1.isList pl2.isList (by rw[l1,l2,hl]) hu0 (item em hds hes q2 p2 v1 v2)
    rw[l1]at q;rw[hl]at q ⊢;simpa using q
   ·have q:=SeqAt.RcNeAt.lists_lengths (A:=A) pl1.isList pl2.isList (by rw[l1,l2];simpa using hl) hu0
    have e:(ds.length==es.length)=false:=by simpa using hl
    rw[e,Bool.and_false];exact q
end
section
variable{X:Cx}{K:PySem.W.Frag}{mg:Str->Option Value}
def rEqD(K:PySem.W.Frag)(mg:Str->Option Value)(neg:Bool):R2:=λx y H Q=>∃d e,eqb 20 d=true/\eqb 20 e=true/\Rep K mg H d x/\Rep K mg H e y/\Q (.bl (if neg then !deq d e else deq d e)) H
theorem zFU(hu:X.A.units+20<cLine):OpR X (compareOp .Eq) (rEqD X.K X.mg false):=by
 intro pins s σ H x y v u Q I rx ry h;obtain⟨d,e,h1,h2,r1,r2,q⟩:=h;exact rcAtD I 20 X.A d e x y v u h1 h2 r1 r2 rx ry hu X.prog X.w _ _ ⟨.bl (deq d e),H,I,rfl,q⟩
theorem zFV(hu:X.A.units+20<cLine):OpR X (compareOp .NotEq) (rEqD X.K X.mg true):=by
 intro pins s σ H x y v u Q I rx ry h;obtain⟨d,e,h1,h2,r1,r2,q⟩:=h;exact rcNeD I 20 X.A d e x y v u h1 h2 r1 r2 rx ry hu X.prog X.w _ _ ⟨.bl (!deq d e),H,I,rfl,q⟩
def eqDD(neg:Bool)(d e:D):Option R:=if eqb 20 d=true/\eqb 20 e=true then some (.val (.bl (if neg then !deq d e else deq d e)))else none
theorem zFW{neg:Bool}:ROk K mg (rEqD K mg neg) (eqDD neg):=by
 intro M H Z x y d1 d2 res Q f r1 r2 e k;unfold eqDD at e;split at e
 ·rename_i hc
  cases e;exact⟨d1,d2,hc.1,hc.2,r1.mono zO,r2.mono zO,k.flat f rfl⟩
 ·cases e
end
end DV
namespace L2
open PySem PySem.Spec PyProof.Rows
section
variable{X:Cx}
theorem Jb{ns:List Int}{its:List Value}(rv:yD (ns.map V.int) its)(i:Nat)(v:Value)(hv:its.toArray[i]?=some v):∃t,v=.int (ns.getD i 0) t:=by
 have hv':its[i]?=some v:=by simpa using hv
 have hi:i<its.length:=(List.getElem?_eq_some_iff.mp hv').1;have hl:=rv.length;have hx:i<(ns.map V.int).length:=by rw[hl];exact hi
 obtain⟨u',e1,e2⟩:=rv.get (i:=i) (x:=(ns.map V.int)[i]) (by simp[hx]);rw[hv']at e1;cases e1;rw[length_map]at hx;rw[List.getElem_map]at e2;obtain⟨t,e⟩:=(show ∃t,v=.int (ns[i]) t from e2);exact⟨t,by rw[e];simp[hx]⟩
def W7(ns:List Int):Int:=ns.getD (argBest (λi j=>decide (ns.getD i 0 > ns.getD j 0)) (ns.length-1)) 0
theorem zCG(hc:X.calm=true):wM X (.builtin "max") (λxs H Q=>∃(p:Addr) (ns:List Int),xs=[.ref p]/\SqL X.K H p (ns.map V.int)/\0<ns.length/\Q (.int (W7 ns)) H):=by
 intro pins s σ H xs us Q I r h;obtain⟨p,ns,rfl,hq,hpos,q⟩:=h;obtain⟨u,rfl,rx⟩:=W2 r;cases rx;obtain⟨its,rv,pl,hz⟩:=I.list hq;have hlen:its.length=ns.length:=by rw[<- rv.length,length_map]
 have hp:p<s.heap.objs.size:=by obtain⟨o,n,e,_⟩:=pl;exact lt_size e
 have hk:∀b o,s.heap.get? b=some o->(s.heap.push {cls:=.type "list_iterator",data:=.fields #[.ref p,.int 0 0]}).get? b=some o:=λb o e=>get?_push_of_some _ e
 refine call_max_walk (wpAny_pyIter_list pl.isList ?_);refine⟨s.heap.objs.size,[s.heap.objs.size,p],[s.heap.objs.size],its.toArray.size,_,_,_,rfl,
  Walks.list (by show X.A.handled=none;exact I.ok.hd hc) _ p (ne_of_lt hp) its.toArray,⟨⟨_,get?_push_size _ rfl,rfl,rfl⟩,?_⟩,?_,?_,CmpOf.ints_gt (λi=>ns.getD i 0) (Jb rv),?_⟩
 ·obtain⟨o,e,c⟩:=pl.isList
  exact⟨o,hk _ _ e,c⟩
 ·intro b hb
  rw[size_push];rcases mem_cons.mp hb with rfl|hb
  ·exact lt_succ_self _
  ·have:b=p:=by simpa using hb
   subst this;exact lt_succ_of_lt hp
 ·rw[size_toArray,hlen];exact hpos
 ·intro v h' tk hP kp
  obtain⟨t,e⟩:=Jb rv _ v hP;subst e;rw[size_toArray,hlen];exact⟨.int (W7 ns),H,I.kept (t':=tk) λb o eb=>kp b o (λm=>by
   have:b=s.heap.objs.size:=by simpa using m
   subst this;exact absurd (lt_size eb) (lt_irrefl _)) (hk b o eb),⟨_,rfl⟩,q⟩
theorem WZ(ns:List Int):∀k,k<=ns.length->preSum (λi=>ns.getD i 0) k=(ns.take k).sum
 |0,_=>by simp[preSum]
 |k+1,h=>by
  have hk:k<ns.length:=by omega
  rw[preSum,WZ ns k (by omega),List.take_add_one,getElem?_eq_getElem hk,sum_append];simp[hk]
theorem zCH(hc:X.calm=true):wM X (.builtin "sum") (λxs H Q=>∃(p:Addr) (ns:List Int),xs=[.ref p]/\SqL X.K H p (ns.map V.int)/\Q (.int ns.sum) H):=by
 intro pins s σ H xs us Q I r h;obtain⟨p,ns,rfl,hq,q⟩:=h;obtain⟨u,rfl,rx⟩:=W2 r;cases rx;obtain⟨its,rv,pl,hz⟩:=I.list hq;have hlen:its.length=ns.length:=by rw[<- rv.length,length_map]
 have hp:p<s.heap.objs.size:=by obtain⟨o,n,e,_⟩:=pl;exact lt_size e
 have hk:∀b o,s.heap.get? b=some o->(s.heap.push {cls:=.type "list_iterator",data:=.fields #[.ref p,.int 0 0]}).get? b=some o:=λb o e=>get?_push_of_some _ e
 refine call_sum_walkAnyS (wpAny_pyIter_list pl.isList ?_);refine⟨s.heap.objs.size,[s.heap.objs.size,p],[s.heap.objs.size],_,its.toArray.size,_,_,λi=>ns.getD i 0,rfl,
  (Walks.list (by show X.A.handled=none;exact I.ok.hd hc) _ p (ne_of_lt hp) its.toArray).toS,⟨⟨_,get?_push_size _ rfl,rfl,rfl⟩,?_⟩,?_,Jb rv,?_⟩
 ·obtain⟨o,e,c⟩:=pl.isList
  exact⟨o,hk _ _ e,c⟩
 ·intro b hb
  rw[size_push];rcases mem_cons.mp hb with rfl|hb
  ·exact lt_succ_self _
  ·have:b=p:=by simpa using hb
   subst this;exact lt_succ_of_lt hp
 ·intro s' t' mv
  rw[size_toArray,hlen,WZ ns _ (le_refl _),List.take_length];obtain⟨h',g',d',tk,o'⟩:=s';have e1:g'=s.gens:=mv.gens;have e2:d'=s.drawn:=mv.drawn;have e3:o'=s.os:=mv.os;subst e1 e2 e3;exact⟨.int ns.sum,H,I.kept (t':=tk) λb o eb=>mv.heap b o (λm=>by
   have:b=s.heap.objs.size:=by simpa using m
   subst this;exact absurd (lt_size eb) (lt_irrefl _)) (hk b o eb),⟨_,rfl⟩,q⟩
theorem zCI(hc:X.calm=true):wM X (.builtin "sum") (λxs H Q=>∃(p:Addr) (ns:List Int),xs=[.ref p]/\SqT X.K H p (ns.map V.int)/\Q (.int ns.sum) H):=by
 intro pins s σ H xs us Q I r h;obtain⟨p,ns,rfl,hq,q⟩:=h;obtain⟨u,rfl,rx⟩:=W2 r;cases rx;obtain⟨its,rv,pl,hz⟩:=I.tuple hq;have hlen:its.length=ns.length:=by rw[<- rv.length,length_map]
 have hp:p<s.heap.objs.size:=by obtain⟨o,e,_⟩:=pl;exact lt_size e
 have hk:∀b o,s.heap.get? b=some o->(s.heap.push {cls:=.type "tuple_iterator",data:=.fields #[.ref p,.int 0 0]}).get? b=some o:=λb o e=>get?_push_of_some _ e
 refine call_sum_walkAnyS (wpAny_pyIter_tuple (show s.heap.IsTuple p its.toArray from pl) ?_);refine⟨s.heap.objs.size,[s.heap.objs.size,p],[s.heap.objs.size],_,its.toArray.size,_,_,λi=>ns.getD i 0,rfl,
  (Walks.tuple (by show X.A.handled=none;exact I.ok.hd hc) _ p (ne_of_lt hp) its.toArray).toS,⟨⟨_,get?_push_size _ rfl,rfl,rfl⟩,?_⟩,?_,Jb rv,?_⟩
 ·obtain⟨o,e,c⟩:=pl
  exact⟨o,hk _ _ e,c⟩
 ·intro b hb
  rw[size_push];rcases mem_cons.mp hb with rfl|hb
  ·exact lt_succ_self _
  ·have:b=p:=by simpa using hb
   subst this;exact lt_succ_of_lt hp
 ·intro s' t' mv
  rw[size_toArray,hlen,WZ ns _ (le_refl _),List.take_length];obtain⟨h',g',d',tk,o'⟩:=s';have e1:g'=s.gens:=mv.gens;have e2:d'=s.drawn:=mv.drawn;have e3:o'=s.os:=mv.os;subst e1 e2 e3;exact⟨.int ns.sum,H,I.kept (t':=tk) λb o eb=>mv.heap b o (λm=>by
   have:b=s.heap.objs.size:=by simpa using m
   subst this;exact absurd (lt_size eb) (lt_irrefl _)) (hk b o eb),⟨_,rfl⟩,q⟩
theorem zBA(a:Int)(t:Tok)(l:Addr)(its:Array Value)(n:Nat)(dd:Option Addr)(sl:Array (Option Value)) :
  Meets (Builtin.«int.__rmul__» ⟨[.int a t,.ref l],[]⟩) (λ_ R s=>s.heap.get? l=some {cls:=.type "list",dict:=dd,data:=.seq its n,slots:=sl}/\R (.ok (.ret Value.notImplemented)) s) :=
 .of_wp λprog w A R s h=>by
  obtain⟨hp,g,d,tk,os⟩:=s;obtain⟨hl,h⟩:=h
  wp_walk
  exact⟨_,rfl,h⟩
theorem zCJ(l:Addr)(its:Array Value)(n:Nat)(dd:Option Addr)(sl:Array (Option Value))(k:Int)(u:Tok)(h0:¬(!Builtin.List.listFitsIndex k)=true)(h1:¬its.size*k.toNat > (2^63-1)/8)(h2:¬Builtin.List.listTooLong (its.size*k.toNat)=true) :
  Meets (Builtin.«list.__mul__» ⟨[.ref l,.int k u],[]⟩) (λ_ R s=>s.heap.get? l=some {cls:=.type "list",dict:=dd,data:=.seq its n,slots:=sl} /\
   R (.ok (.ret (Value.ref s.heap.objs.size))) {s with heap:=s.heap.push {cls:=Value.type "list",data:=Data.seq (foldl (λa b=>a++b) #[] (replicate (if its.isEmpty=true then 0 else k.toNat) its))},toks:=s.toks}) :=
 .of_wp λprog w A R s h=>by
  obtain⟨hp,g,d,tk,os⟩:=s;obtain⟨hl,h⟩:=h;have fits:=AutoListH.joined_fits h2
  wp_walk
  refine wpAny_ite_false (decide_eq_false (not_lt.mpr fits)) ?_
  wp_walk
  exact⟨_,rfl,h⟩
def rRepL(K:PySem.W.Frag):R2:=λx y H Q=>∃l k xs,x=.ref l/\y=.int k/\SqL K H l xs/\-(2^63)<=k/\k<2^63/\xs.length*k.toNat<=sizeLine /\
 ∀p,H p=none->Q (.ref p) (upd H p (.lst (replicate k.toNat xs).flatten))
theorem op_repL:OpR X (binaryOp .Mult) (rRepL X.K):=by
 intro pins s σ H x y v u Q I rx ry h;obtain⟨l,k,xs,rfl,rfl,hH,h1,h2,hz,q⟩:=h;cases rx;obtain⟨t,rfl⟩:=ry;obtain⟨its,r,pl,_⟩:=I.list hH;have hl:=r.length;obtain⟨⟨cls,dd,data,sl⟩,n,ho,hc,hdd,hd⟩:=pl;simp only at hc hd;subst hc hd;have hlen:its.toArray.size*k.toNat<=sizeLine:=by rw[size_toArray,<- hl];exact hz
 have c1:¬its.toArray.size*k.toNat > (2^63-1)/8:=by
  have:(sizeLine:Nat)<=(2^63-1)/8:=by decide
  omega
 have c2:¬(!Builtin.List.listFitsIndex k)=true:=by rw[fitsIndex_both h1 h2];exact Bool.false_ne_true
 have c3:¬Builtin.List.listTooLong (its.toArray.size*k.toNat)=true:=by rw[zDm hlen];exact Bool.false_ne_true
 have hnew:foldl (λa b=>a++b) #[] (replicate (if its.toArray.isEmpty=true then 0 else k.toNat) its.toArray)=(replicate k.toNat its).flatten.toArray:=by
  have f0:∀m:Nat,foldl (λa b=>a++b) #[] (replicate m its.toArray)=(replicate m its).flatten.toArray:=λm=>by
   have:=WM its m [];rw[nil_append]at this;exact this
  rw[f0];cases its with
  |nil=>simp
  |cons a r'=>rw[if_neg (by simp)]
 refine wpAny_binaryOp_repeat_ref (T:="list") (U:="int") (by decide) ⟨_,ho,rfl⟩ (λs'=>typeIs_int s' k t) noFill_list_mul F.fills_int_mul F.slot_int_rmul repeat_list F.slot_int_index.lookup
  (call_meets F.slot_int_rmul (typeIs_int s k t) F.entry_int_rmul (F.args_int_rmul_2 _ _) (zBA k t l its.toArray n dd sl) ⟨ho,rfl,⟨_,ho,rfl⟩,?_⟩)
 refine call_meets F.slot_list_mul ⟨_,ho,rfl⟩ F.entry_list_mul (F.args_list_mul_2 _ _) (zCJ l its.toArray n dd sl k t c2 c1 c3) ⟨ho,?_⟩;rw[hnew];exact⟨.ref _,_,I.lnew (t':=s.toks) (r.rep k.toNat) (by rw[QW,mul_comm];exact hz),rfl,q _ I.fresh⟩
end
end L2
namespace L2
open PySem PySem.Spec PyProof.Rows
def evens{α:Type}:List α->List α
 | []=>[]
 | [a]=>[a]
 |a::_::r=>a::evens r
def Gr{α:Type}(k:Bool)(xs:List α):List α:=if k then evens xs else xs.reverse
theorem yD.evens:∀{xs:List V} {us:List Value},yD xs us->yD (evens xs) (L2.evens us)
 |_,_,.nil=>.nil
 |_,_,.cons a .nil=>.cons a .nil
 |_,_,.cons a (.cons b r)=>.cons a (yD.evens r)
theorem yD.rev{xs:List V}{us:List Value}(r:yD xs us):yD xs.reverse us.reverse:=by
 induction r with
 |nil=>exact .nil
 |cons a r ih=>rw[reverse_cons,reverse_cons];exact ih.append (.cons a .nil)
theorem yD.step(k:Bool){xs:List V}{us:List Value}(r:yD xs us):yD (Gr k xs) (Gr k us):=by
 cases k
 ·simp only[Gr,Bool.false_eq_true,if_false];exact r.rev
 ·simp only[Gr,if_true];exact r.evens
section
variable{prog:Program}{w:World}{A:Around}{E:Value->Shared->Prop}{s:Shared}
end
section
variable{X:Cx}{e st:Expr}{te:TE}{pos p2:Pos}
end
end L2
namespace DV
open PySem PySem.W PyProof.Rows
variable{κ:Nat->Int}
def ev(κ:Nat->Int){α:Type}:KasT α->α
 | .ret a=>a
 | .ask i j k=>ev κ (k (decide (κ i<κ j)))
def Kp(κ:Nat->Int)(p:Array Nat)(t:Nat):Int:=κ (p.getD t 0)
theorem getD_q(p:Array Nat)(t:Nat):p.getD t 0=(p[t]?).getD 0:=by simp
def Srt(κ:Nat->Int)(p:Array Nat)(m:Nat):Prop:=∀i,0<i->i<m->Kp κ p (i-1)<=Kp κ p i
def Dsc(κ:Nat->Int)(p:Array Nat)(m:Nat):Prop:=∀i,0<i->i<m->Kp κ p i<=Kp κ p (i-1)
theorem Srt.le{p:Array Nat}{m:Nat}(h:Srt κ p m):∀(d i:Nat),i+d<m->Kp κ p i<=Kp κ p (i+d)
 |0,i,_=>Int.le_refl _
 |d+1,i,hi=>by
  have h1:=Srt.le h d i (by omega);have h2:=h (i+(d+1)) (by omega) hi;rw[show i+(d+1)-1=i+d by omega]at h2;omega
theorem Srt.same{p q:Array Nat}{m:Nat}(h:Srt κ p m)(e:∀t,Kp κ q t=Kp κ p t):Srt κ q m:=λi h0 hi=>by rw[e,e];exact h i h0 hi
theorem Dsc.same{p q:Array Nat}{m:Nat}(h:Dsc κ p m)(e:∀t,Kp κ q t=Kp κ p t):Dsc κ q m:=λi h0 hi=>by rw[e,e];exact h i h0 hi
theorem zEI(p:Array Nat)(i j:Nat):(kas_rev p i j).Perm p:=mirror_perm _ _ _ _
def Bd(n:Nat)(p:Array Nat):Prop:=0<n/\∀x∈p,x<n
theorem Bd.at{n:Nat}{p:Array Nat}(h:Bd n p)(t:Nat):p.getD t 0<n:=by
 rw[getD_q];cases e:p[t]? with
 |none=>exact h.1
 |some x=>exact h.2 x (Array.mem_of_getElem? e)
theorem Bd.perm{n:Nat}{p q:Array Nat}(h:Bd n p)(e:q.Perm p):Bd n q:=⟨h.1,λx hx=>h.2 x (e.mem_iff.mp hx)⟩
theorem Bd.rev{n:Nat}{p:Array Nat}(h:Bd n p)(i j:Nat):Bd n (kas_rev p i j):=h.perm (zEI _ _ _)
end DV
namespace L2
open PySem PySem.Spec PyProof.Rows PySem.W
section
variable{prog:Program}{w:World}{A:Around}{E:Value->Shared->Prop}{s:Shared}{κ:Nat->Int}
end
end L2
namespace DV
open PySem L2 PyProof.Rows PySem.W
def tlt:List D->List D->Option Bool
 | [],[]=>some false
 | [],_::_=>some true
 |_::_,[]=>some false
 |p::ps,q::qs=>if deq p q=true then tlt ps qs else match p,q with
  | .int i,.int j=>some (decide (i<j))
  |_,_=>none
def zCK:D->List D
 | .tup es=>es
 |_=>[]
def ltAtD(ds:List D)(i j:Nat):Option Bool:=tlt (zCK (ds.getD i .non)) (zCK (ds.getD j .non))
def rkD(ds:List D)(i:Nat):Int:=(((List.range ds.length).filter λk=>ltAtD ds k i==some true).length:Nat)
structure SortOk(ds:List D):Prop where
 few:ds.length<64
 tups:∀d∈ds,∃es,d=.tup es/\(∀e∈es,eqb 18 e=true)/\(2<=ds.length->∃i r,es=.int i::r)
 lt:∀i j,i<ds.length->j<ds.length->ltAtD ds i j=some (decide (rkD ds i<rkD ds j))
 one:∀i j,i<ds.length->j<ds.length->rkD ds i=rkD ds j->ds.getD i .non=ds.getD j .non
section
variable{X:Cx}{pins:List (Addr×Obj)}{σ:L2.St}{H:Hp}{s:Shared}{prog:Program}{w:World}{A:Around}
end
end DV
namespace L2
open PySem PySem.Spec PyProof.Rows
section
variable{prog:Program}{w:World}{A:Around}{R:Result->Shared->Prop}{I:Addr}{fp wr:List Addr}{n:Nat}{P:Nat->Value->Prop}{St:Nat->Heap->Prop}
theorem Yn:(toString "max"++toString ".loop":String)="max.loop":=by decide
theorem Wa(W:Walks prog w A.in1 I fp wr n P St){bt:Nat->Nat->Bool}(hcmp:CmpOf prog w A.in1 .Gt P bt)(S:Addr)(hSf:S∉fp)(kw:List (Str×Value)) :
  ∀(m j:Nat) (s:Shared) (best:Value) (c:Nat),n=j+1+m->St (j+1) s.heap->P (argBest bt j) best->s.heap.get? S=some {cls:=.type "list",dict:=none,data:=.seq #[best,best] c,slots:=#[]} ->
  (∀v h' tk,P (argBest bt (n-1)) v->(∀b o,b∉wr->b≠S->s.heap.get? b=some o->h'.get? b=some o)->R (.ok (.ret v)) {s with heap:=h',toks:=tk}) ->
  codeAny (model prog w) A (.builtin "max.loop" ⟨[.ref I,.none,.ref S],kw⟩) R s
 |0,j,s,best,c,hn,hst,hP,hS,hR=>by
  have hSw:S∉wr:=λz=>hSf (W.sub _ z)
  refine codeAny_builtin F.entry_max_loop ?_;rw[Around.under_plainId F.plain_max_loop _];show wpAny _ A.in1 (seqItems? (.ref S) >>= _) _ _ s;refine wpAny_bind (wpAny_seqItems hS rfl ?_);show wpAny _ A.in1 (tryCatch (pyNext (.ref I)) _ >>= _) _ _ s;have en:j+1=n:=by omega
  refine wpAny_bind (wpAny_tryCatch (W.done s _ _ (en▸hst) λh' tk kp=>?_));have hS':=kp S _ hSw hS;show wpAny _ A.in1 (updateSeq S (λ_=>#[]) >>= _) _ _ _;refine wpAny_bind (wpAny_updateSeq hS' rfl (wpAny_bind (wpAny_letGo (wpAny_pure (hR best _ tk ?_ ?_)))))
  ·rw[<- en];exact hP
  ·exact λb o hb hbS e=>(get?_update_other _ _ (Ne.symm hbS)).trans (kp b o hb e)
 |m+1,j,s,best,c,hn,hst,hP,hS,hR=>by
  have hSw:S∉wr:=λz=>hSf (W.sub _ z)
  have hlt:j+1<n:=by omega
  refine codeAny_builtin F.entry_max_loop ?_;rw[Around.under_plainId F.plain_max_loop _];show wpAny _ A.in1 (seqItems? (.ref S) >>= _) _ _ s;refine wpAny_bind (wpAny_seqItems hS rfl ?_);show wpAny _ A.in1 (tryCatch (pyNext (.ref I)) _ >>= _) _ _ s;refine wpAny_bind (wpAny_tryCatch (W.item (j+1) s _ _ hlt hst λv h' tk hv hst' kp=>?_));have hS':=kp S _ hSw hS;show wpAny _ A.in1 (tryCatch (holding [v,v] (richCompare .Gt v best >>= _)) _ >>= _) _ _ _;refine wpAny_bind (wpAny_tryCatch (wpAny_holding (wpAny_bind (hcmp (j+1) (argBest bt j) v best _ _ _ hv hP ?_))));refine wpAny_bind (wpAny_holding (wpAny_truthy_bool (wpAny_bind (wpAny_letGo (wpAny_pure ?_)))));cases hb:bt (j+1) (argBest bt j)with
  |true =>
   simp only[if_true];refine wpAny_bind (wpAny_updateSeq hS' rfl (wpAny_bind (wpAny_letGo ?_)));rw[Yn];refine wpAny_pure ⟨plainId_quiet F.plain_max_loop _,Wa W hcmp S hSf kw m (j+1) _ v _ (by omega) (W.frame _ _ _ hst' λb hbf o e=>?_) (by simp only[argBest,hb,if_true];exact hv) (Heap.get?_update_self _ hS' rfl) λv' h'' tk'' hP' kp''=>?_⟩
   ·exact(get?_update_other _ _ (λz:S=b=>hSf (by rw[z];exact hbf))).trans e
   ·exact hR v' h'' tk'' hP' λb o hbw hbS e=>kp'' b o hbw hbS ((get?_update_other _ _ (Ne.symm hbS)).trans (kp b o hbw e))
  |false =>
   simp only[Bool.false_eq_true,if_false];refine wpAny_bind (wpAny_letGo ?_);rw[Yn];refine wpAny_pure ⟨plainId_quiet F.plain_max_loop _,Wa W hcmp S hSf kw m (j+1) _ best c (by omega) hst' (by simp only[argBest,hb,Bool.false_eq_true,if_false];exact hP) hS' λv' h'' tk'' hP' kp''=>?_⟩;exact hR v' h'' tk'' hP' λb o hbw hbS e=>kp'' b o hbw hbS (kp b o hbw e)
theorem zBB(W:Walks prog w A.in1 I fp wr n P St){bt:Nat->Nat->Bool}(hcmp:CmpOf prog w A.in1 .Gt P bt)(S:Addr)(hSf:S∉fp)(d:Value){s:Shared}{c:Nat}(hst:St 0 s.heap)
  (hS:s.heap.get? S=some {cls:=.type "list",dict:=none,data:=.seq #[] c,slots:=#[]})
  (hR:∀v h' tk,(n=0/\v=d)\/(0<n/\P (argBest bt (n-1)) v)->(∀b o,b∉wr->b≠S->s.heap.get? b=some o->h'.get? b=some o)->R (.ok (.ret v)) {s with heap:=h',toks:=tk}) :
  codeAny (model prog w) A (.builtin "max.loop" ⟨[.ref I,.none,.ref S],[(Str.ofString "default",d)]⟩) R s:=by
 have hSw:S∉wr:=λz=>hSf (W.sub _ z)
 refine codeAny_builtin F.entry_max_loop ?_;rw[Around.under_plainId F.plain_max_loop _];show wpAny _ A.in1 (seqItems? (.ref S) >>= _) _ _ s;refine wpAny_bind (wpAny_seqItems hS rfl ?_);show wpAny _ A.in1 (tryCatch (pyNext (.ref I)) _ >>= _) _ _ s;by_cases hn:n=0
 ·refine wpAny_bind (wpAny_tryCatch (W.done s _ _ (hn▸hst) λh' tk kp=>?_))
  show wpAny _ A.in1 (rule _ >>= λ_=>ret d) _ _ _
  refine wpAny_bind (wpAny_rule (wpAny_pure (hR d h' tk (.inl ⟨hn,rfl⟩) λb o hb _ e=>kp b o hb e)))
 ·have h0:0<n:=Nat.pos_of_ne_zero hn
  refine wpAny_bind (wpAny_tryCatch (W.item 0 s _ _ h0 hst λv h' tk hv hst' kp=>?_));have hS':=kp S _ hSw hS;show wpAny _ A.in1 (updateSeq S (λ_=>#[v,v]) >>= _) _ _ _;refine wpAny_bind (wpAny_updateSeq hS' rfl ?_);rw[Yn];refine wpAny_pure ⟨plainId_quiet F.plain_max_loop _,Wa W hcmp S hSf _ (n-1) 0 _ v _ (by omega) (W.frame _ _ _ hst' λb hbf o e=>?_) hv (Heap.get?_update_self _ hS' rfl) λv' h'' tk'' hP' kp''=>?_⟩
  ·exact(get?_update_other _ _ (λz:S=b=>hSf (by rw[z];exact hbf))).trans e
  ·exact hR v' h'' tk'' (.inr ⟨h0,hP'⟩) λb o hbw hbS e=>kp'' b o hbw hbS ((get?_update_other _ _ (Ne.symm hbS)).trans (kp b o hbw e))
end
theorem zCL(a v:Value):argsOk "max" ⟨[a],[(Str.ofString "default",v)]⟩:=by unfold argsOk;kernel_rfl
def Wb(ns:List Int)(k:Int):Int:=if ns.length=0 then k else W7 ns
section
variable{prog:Program}{w:World}{A:Around}{E:Value->Shared->Prop}{s:Shared}
theorem Gs{id:String}{b:Builtin}{args:List Value}{kw:List (Str×Value)}{Q:Value->Shared->Prop}(hk:builtinKind id=none)(hp:plainId id=true)(hb:entryFor table id=some b)(ha:argsOk id ⟨args,kw⟩)
  (hc:wpAny (model prog w) A.in1 (b ⟨args,kw⟩) (λfin s'=>match fin with
   | .done f=>(match(Except.ok f:Result)with | .ok (.ret v)=>Q v s' | .ok _=>False | .error e=>E e s')
   | .again c'=>c'.quiet=true/\codeAny (model prog w) A c' (λr s'=>match r with | .ok (.ret v)=>Q v s' | .ok _=>False | .error e=>E e s') s') E s) :
  wpAny (model prog w) A (call (.builtin id) args kw) Q E s:=by
 refine wpAny_call (codeAny_call_builtin hp hb ?_);simp only[checkBuiltinCall,hk];cases sg:Manifest.signature? id with
 |none=>exact wpAny_pure hc
 |some g =>
  have chk:Bind.checkArgs id g ⟨args,kw⟩=pure ():=by simpa only[argsOk,sg]using ha
  simp only[chk];exact wpAny_pure hc
end
section
variable{X:Cx}{e d:Expr}{te td:TE}{p pos kp:Pos}
theorem zCM(hc:X.calm=true){pins:List (Addr×Obj)}{s:Shared}{σ:L2.St}{H:Hp}{l:Addr}{ns:List Int}{k:Int}{t:Tok}{Q:VK}(I:Inv X pins σ H s)(hq:SqL X.K H l (ns.map V.int))(q:Q (.int (Wb ns k)) H) :
  wpAny (model X.prog X.w) X.A (call (.builtin "max") [.ref l] [(Str.ofString "default",.int k t)]) (EP X pins σ Q) X.xe s:=by
 obtain⟨its,rv,pl,hz⟩:=I.list hq;have hlen:its.length=ns.length:=by rw[<- rv.length,length_map]
 have hp:l<s.heap.objs.size:=by obtain⟨o,n,e,_⟩:=pl;exact lt_size e
 have hk:∀b o,s.heap.get? b=some o->(s.heap.push {cls:=.type "list_iterator",data:=.fields #[.ref l,.int 0 0]}).get? b=some o:=λb o e=>get?_push_of_some _ e
 refine Gs F.kind_max F.plain_max F.entry_max (zCL _ _) ?_;show wpAny _ X.A.in1 (Builtin.Builtins.bindParams "max" ["key","default"] 0 ⟨[],[(Str.ofString "default",.int k t)]⟩ >>= _) _ _ s;refine wpAny_bind (wpAny_of_eq (show Builtin.Builtins.bindParams "max" ["key","default"] 0 ⟨[],[(Str.ofString "default",.int k t)]⟩=pure [none,some (.int k t)]from rfl) ?_);refine wpAny_bind (wpAny_pure (wpAny_bind (wpAny_pyIter_list pl.isList (wpAny_bind (wpAny_newObj_type ?_)))));rw[Yn];have hI:s.heap.objs.size<(s.heap.push {cls:=.type "list_iterator",data:=.fields #[.ref l,.int 0 0]}).objs.size:=by rw[size_push];exact lt_succ_self _
 refine wpAny_pure ⟨plainId_quiet F.plain_max_loop _,zBB (fp:=[s.heap.objs.size,l]) (wr:=[s.heap.objs.size])
  (Walks.list (by show X.A.handled=none;exact I.ok.hd hc) _ l (ne_of_lt hp) its.toArray) (CmpOf.ints_gt (λi=>ns.getD i 0) (Jb rv)) _ ?_ (.int k t) ⟨⟨_,get?_push_of_some _ (get?_push_size _ rfl),rfl,rfl⟩,?_⟩ (get?_push_size _ rfl) ?_⟩
 ·intro hm
  rcases mem_cons.mp hm with e|e
  ·rw[e]at hI;exact absurd hI (lt_irrefl _)
  ·have e':=mem_singleton.mp e
   rw[e']at hI;exact absurd (lt_trans hp hI) (lt_irrefl _)
 ·obtain⟨o,e,c⟩:=pl.isList
  exact⟨o,get?_push_of_some _ (hk _ _ e),c⟩
 ·intro v h' tk hv kp
  have keep:∀b o,s.heap.get? b=some o->h'.get? b=some o:=λb o eb=>kp b o (λm=>by
   have:b=s.heap.objs.size:=by simpa using m
   subst this;exact absurd (lt_size eb) (lt_irrefl _)) (λz=>by
   have:=lt_size eb;rw[z]at this;exact absurd (lt_trans this hI) (lt_irrefl _)) (get?_push_of_some _ (hk b o eb))
  rcases hv with⟨h0,rfl⟩|⟨h0,hP⟩
  ·have e0:ns.length=0:=by rw[<- hlen];simpa using h0
   have em:Wb ns k=k:=by unfold Wb;rw[if_pos e0]
   rw[em]at q;exact⟨.int k,H,I.kept (t':=tk) keep,⟨_,rfl⟩,q⟩
  ·obtain⟨t',e⟩:=Jb rv _ v hP
   subst e;have e0:¬ns.length=0:=by rw[<- hlen];simp at h0;omega
   have em:Wb ns k=W7 ns:=by unfold Wb;rw[if_neg e0]
   rw[em]at q;rw[size_toArray,hlen];exact⟨.int (W7 ns),H,I.kept (t':=tk) keep,⟨_,rfl⟩,q⟩
theorem pe_maxd(hc:X.calm=true)(hg:Gl X "max")(hm:X.mg "max"=none)(hv:bootBuiltins "max"=some (.builtin "max"))(he:PE X e te)(hd:PE X d td)(hst:starEach [e] X.env=[(false,eval e X.env)]) :
  PE X (.Call (.Name "max" p) [e] [⟨some (Str.ofString "default"),d,kp⟩] pos) (λσ H Q=>te σ H λx H1=>td σ H1 λz H2=>∃l ns k,x=.ref l/\z=.int k/\SqL X.K H2 l (ns.map V.int)/\Q (.int (Wb ns k)) H2):=by
 intro pins s σ H Q I h;refine wpAny_Call_Name_kw (Jw I hg hm hv ?_ (by decide) (by decide));refine callWith_kw ?_ (by rw[hst];rfl) (by rw[hst];rfl);refine thn ((J7 he GO hst) pos pins s σ H (λvs H1=>match vs with
  | [x]=>td σ H1 λz H2=>∃l ns k,x=.ref l/\z=.int k/\SqL X.K H2 l (ns.map V.int)/\Q (.int (Wb ns k)) H2
  |_=>False) I h) λus s1 ⟨vs,H1,I1,r1,q1⟩=>?_
 match vs,q1 with
 | [x],q1 =>
  obtain⟨u,rfl,rx⟩:=W2 r1;refine kws_cons (thn (hd pins s1 σ H1 _ I1 q1) λw s2 ⟨z,H2,I2,rz,l,ns,k,e1,e2,hq,q⟩=>kws_nil ?_);subst e1 e2;cases rx;obtain⟨t,rfl⟩:=rz;exact zCM hc I2 hq q
end
end L2
namespace DV
open PySem L2
section
variable{X:Cx}{K:PySem.W.Frag}{mg:Str->Option Value}
theorem zCN{f:Value}{r r':List V->Hp->VK->Prop}(h:wM X f r)(h':wM X f r'):wM X f (λxs H Q=>r xs H Q\/r' xs H Q):=by
 intro pins s σ H xs us Q I rv q;rcases q with q|q
 ·exact h pins s σ H xs us Q I rv q
 ·exact h' pins s σ H xs us Q I rv q
def eqG(d e:D):Option R:=match eqF d e with
 |some r=>some r
 |none=>eqDD false d e
def neG(d e:D):Option R:=match neF d e with
 |some r=>some r
 |none=>eqDD true d e
theorem zFX:ROk K mg (λx y H Q=>rEq x y H Q\/rEqD K mg false x y H Q) eqG:=by
 intro M H Z x y d1 d2 res Q f r1 r2 e k;unfold eqG at e;cases h:eqF d1 d2 with
 |some r=>rw[h]at e;cases e;exact .inl (ro_eq M H Z x y d1 d2 res Q f r1 r2 h k)
 |none=>rw[h]at e;exact .inr (zFW M H Z x y d1 d2 res Q f r1 r2 e k)
theorem zFY:ROk K mg (λx y H Q=>rNe x y H Q\/rEqD K mg true x y H Q) neG:=by
 intro M H Z x y d1 d2 res Q f r1 r2 e k;unfold neG at e;cases h:neF d1 d2 with
 |some r=>rw[h]at e;cases e;exact .inl (ro_ne M H Z x y d1 d2 res Q f r1 r2 h k)
 |none=>rw[h]at e;exact .inr (zFW M H Z x y d1 d2 res Q f r1 r2 e k)
def ZA(d e:D):Option R:=match YR d e with
 |some r=>some r
 |none=>match d,e with
  | .lst a,.int k=>if -(2^63)<=k/\k<2^63/\a.length*k.toNat<=cap then some (.own (replicate k.toNat a).flatten)else none
  |_,_=>none
theorem ro_mulG:ROk K mg (λx y H Q=>rMulD K x y H Q\/rRepL K x y H Q) ZA:=by
 intro M H Z x y d1 d2 res Q f r1 r2 e k;unfold ZA at e;cases h:YR d1 d2 with
 |some r=>rw[h]at e;cases e;exact .inl (ro_mul M H Z x y d1 d2 res Q f r1 r2 h k)
 |none =>
  rw[h]at e;cases d1 with
  |lst a =>
   cases d2 with
   |int n =>
    dsimp only at e;split at e
    ·rename_i hc
     cases e;obtain⟨p,xs,rfl,h1,h2⟩:=zZ r1;rw[zQ r2];exact .inr ⟨p,n,xs,rfl,rfl,zO.seq h1,hc.1,hc.2.1,by rw[h2.length];exact Yh hc.2.2,λq hq=>k.own f hq (h2.flatten _)⟩
    ·cases e
   |_=>cases e
  |_=>cases e
def Jk:List D->Option (List Int)
 | []=>some []
 | .int i::ds=>(Jk ds).map (i::·)
 |_::_=>none
theorem wa{H:Hp}:∀{ds:List D} {xs:List V} {ns:List Int},Jk ds=some ns->Reps K mg H ds xs->xs=ns.map V.int
 | [],_,_,e,h=>by cases e;simp only[Reps]at h;subst h;rfl
 |d::ds,_,ns,e,h=>by
  simp only[Reps]at h;obtain⟨v,r,rfl,h1,h2⟩:=h;cases d with
  |int i =>
   simp only[Jk]at e;cases eb:Jk ds with
   |none=>rw[eb]at e;cases e
   |some cs =>
    rw[eb]at e;cases e;rw[zQ h1,wa eb h2];rfl
  |_=>cases e
def W8:List D->Option R
 | [.int i,.int j]=>uN [.int i,.int j]
 | [.lst ds]=>match Jk ds with
  |some ns=>if 0<ns.length then some (.val (.int (W7 ns)))else none
  |none=>none
 |_=>none
theorem co_maxG:COk K mg (λxs H Q=>(∃i j,xs=[.int i,.int j]/\Q (.int (if j > i then j else i)) H)\/∃(p:Addr) (ns:List Int),xs=[.ref p]/\SqL K H p (ns.map V.int)/\0<ns.length/\Q (.int (W7 ns)) H) W8:=by
 intro M H Z xs ds res Q f r e k
 match ds,e with
 | [.int i,.int j],e=>exact .inl (co_max M H Z xs _ res Q f r e k)
 | [.lst ds],e =>
  simp only[W8]at e;cases hi:Jk ds with
  |none=>rw[hi]at e;cases e
  |some ns =>
   rw[hi]at e;dsimp only at e;split at e
   ·rename_i hp
    cases e;obtain⟨v,rfl,h⟩:=J9 r;obtain⟨p,ys,rfl,h1,h2⟩:=zZ h;rw[wa hi h2]at h1;exact .inr ⟨p,ns,rfl,zO.seq h1,hp,k.flat f rfl⟩
   ·cases e
def zEJ:List D->Option R
 | [.lst ds]=>(Jk ds).map λns=>.val (.int ns.sum)
 | [.tup ds]=>(Jk ds).map λns=>.val (.int ns.sum)
 |_=>none
theorem co_sumG:COk K mg (λxs H Q=>(∃(p:Addr) (ns:List Int),xs=[.ref p]/\SqL K H p (ns.map V.int)/\Q (.int ns.sum) H)\/∃(p:Addr) (ns:List Int),xs=[.ref p]/\SqT K H p (ns.map V.int)/\Q (.int ns.sum) H) zEJ:=by
 intro M H Z xs ds res Q f r e k
 match ds,e with
 | [.lst ds],e =>
  simp only[zEJ]at e;cases hi:Jk ds with
  |none=>rw[hi]at e;cases e
  |some ns =>
   rw[hi]at e;cases e;obtain⟨v,rfl,h⟩:=J9 r;obtain⟨p,ys,rfl,h1,h2⟩:=zZ h;rw[wa hi h2]at h1;exact .inl ⟨p,ns,rfl,zO.seq h1,k.flat f rfl⟩
 | [.tup ds],e =>
  simp only[zEJ]at e;cases hi:Jk ds with
  |none=>rw[hi]at e;cases e
  |some ns =>
   rw[hi]at e;cases e;obtain⟨v,rfl,h⟩:=J9 r;obtain⟨p,ys,rfl,h1,h2⟩:=ze h;rw[wa hi h2]at h1;exact .inr ⟨p,ns,rfl,yR zO h1,k.flat f rfl⟩
def absG:List D->Option R
 | [.int i]=>some (.val (.int (if i<0 then -i else i)))
 |_=>none
theorem co_absG:COk K mg (λxs H Q=>∃i,xs=[.int i]/\Q (.int (if i<0 then -i else i)) H) absG:=by
 intro M H Z xs ds res Q f r e k
 match ds,e with
 | [.int i],e =>
  cases e;obtain⟨v,rfl,h⟩:=J9 r;exact⟨i,by rw[zQ h],k.flat f rfl⟩
end
end DV
namespace DV
open PySem L2
section
variable{X:Cx}{σ:St}{H:Hp}
theorem Reps.evens{K:PySem.W.Frag}{mg:Str->Option Value}{H:Hp}:∀{ds:List D} {xs:List V},Reps K mg H ds xs->Reps K mg H (L2.evens ds) (L2.evens xs)
 | [],_,h=>by simp only[Reps]at h;subst h;simp only[L2.evens];exact Reps.nil
 | [d],_,h=>by
  simp only[Reps]at h;obtain⟨v,r,rfl,h1,rfl⟩:=h;simp only[L2.evens];exact Reps.cons h1 Reps.nil
 |d::e::ds,_,h=>by
  simp only[Reps]at h;obtain⟨v,r,rfl,h1,v',r',rfl,h2,h3⟩:=h;simp only[L2.evens];exact Reps.cons h1 (Reps.evens h3)
theorem Reps.rev{K:PySem.W.Frag}{mg:Str->Option Value}{H:Hp}:∀{ds:List D} {xs:List V},Reps K mg H ds xs->Reps K mg H ds.reverse xs.reverse
 | [],_,h=>by simp only[Reps]at h;subst h;exact Reps.nil
 |d::ds,_,h=>by
  simp only[Reps]at h;obtain⟨v,r,rfl,h1,h2⟩:=h;rw[reverse_cons,reverse_cons];exact(Reps.rev h2).append (Reps.cons h1 Reps.nil)
theorem Reps.step{K:PySem.W.Frag}{mg:Str->Option Value}{H:Hp}(k:Bool){ds:List D}{xs:List V}(h:Reps K mg H ds xs):Reps K mg H (Gr k ds) (Gr k xs):=by
 cases k
 ·simp only[Gr,Bool.false_eq_true,if_false];exact h.rev
 ·simp only[Gr,if_true];exact h.evens
def zCO:D->D->Option R
 | .lst ds,.int k=>(Jk ds).map λns=>.val (.int (Wb ns k))
 |_,_=>none
theorem ro_maxd{K:PySem.W.Frag}{mg:Str->Option Value}:ROk K mg (λx z H Q=>∃l ns k,x=.ref l/\z=.int k/\SqL K H l (ns.map V.int)/\Q (.int (Wb ns k)) H) zCO:=by
 intro M H Z x y d1 d2 res Q f r1 r2 e k;cases d1 with
 |lst ds =>
  cases d2 with
  |int n =>
   simp only[zCO]at e;cases hi:Jk ds with
   |none=>rw[hi]at e;cases e
   |some ns =>
    rw[hi]at e;cases e;obtain⟨p,ys,rfl,h1,h2⟩:=zZ r1;rw[wa hi h2]at h1;exact⟨p,ns,n,rfl,zQ r2,zO.seq h1,k.flat f rfl⟩
  |_=>cases e
 |_=>cases e
theorem ok_maxd{e d:Expr}{m md:ME}{p kp pos:Pos}(hc:X.calm=true)(hg:Gl X "max")(hm:X.mg "max"=none)(he:EOk X e m)(hd:EOk X d md)(hs:zL e=false):EOk X (.Call (.Name "max" p) [e] [⟨some (Str.ofString "default"),d,kp⟩] pos) (Ji zCO m md) :=
 yN (pe_maxd hc hg hm zFS he hd (Qc hs)) λσ H Q q=>WP ro_maxd q
def sTup(is:List Nat)(m:ME):MS:=λE=>match m E with
 | .stuck=>.stuck
 | .exc x E1=>.exc x E1
 | .ok (r,E1)=>match gT is r.d E1 with
  | .ok E2=>.ok (.nx,E2)
  |_=>.stuck
theorem zEK{is:List Nat}{m:ME}{D:Ends}(h:tS X (sTup is m) D σ H):tAsg (tM X m) (gTup X.K is.length (YA is)) D σ H:=by
 obtain⟨M,E,hl,fr,k⟩:=h;unfold sTup at k;refine yK (T0:=[]) hl fr ?_;cases ea:m E with
 |stuck=>rw[ea]at k;exact k
 |exc x E1=>rw[ea]at k;exact λH' g=>k σ H' g
 |ok p =>
  obtain⟨r,E1⟩:=p;rw[ea]at k;intro v H1 g;dsimp only at k;cases eg:gT is r.d E1 with
  |stuck=>rw[eg]at k;exact k.elim
  |exc _ _=>rw[eg]at k;exact k.elim
  |ok E2 =>
   rw[eg]at k;have g0:=g.dropAll;exact zFP (X:=X) is rfl M σ E1 H1 [] v r.d E2 _ g0.len (FR.add g0.frame g.rep) eg λσ' g'=>k σ' H1 (g0.trans' g')
theorem sk_tup{is:List Nat}{es:List Expr}{e:Expr}{m:ME}{k:Nat}{p pos:Pos}(hg:PG X (.Tuple es k p) (gTup X.K is.length (YA is)))(he:EOk X e m)(hs:swapsWithSole [.Tuple es k p] e pos.line X.env=pure false)(hw:swappedStores [.Tuple es k p] e X.env=pure none):SOk X (.Assign [.Tuple es k p] e pos) (sTup is m) :=
 yz (zE6 he hg hs hw) λD σ H=>zEK
def sPar(i j:Nat)(m:MA):MS:=λE=>match m E with
 | .stuck=>.stuck
 | .exc x E1=>.exc x E1
 | .ok ([r1,r2],E1)=>match gNs [i,j] [r1.d,r2.d] E1 with
  | .ok E2=>.ok (.nx,E2)
  |_=>.stuck
 |_=>.stuck
theorem zEL{i j:Nat}{m:MA}{D:Ends}(h:tS X (sPar i j m) D σ H):tPar i j (tMA X m) D σ H:=by
 obtain⟨M,E,hl,fr,k⟩:=h;unfold sPar at k;refine wN (T0:=[]) hl fr ?_;cases ea:m E with
 |stuck=>rw[ea]at k;exact k
 |exc x E1=>rw[ea]at k;exact λH' g=>k σ H' g
 |ok p =>
  obtain⟨rs,E1⟩:=p;rw[ea]at k
  match rs,k with
  | [r1,r2],k =>
   intro vs H1 hv g;dsimp only at k;cases eg:gNs [i,j] [r1.d,r2.d] E1 with
   |stuck=>rw[eg]at k;exact k.elim
   |exc _ _=>rw[eg]at k;exact k.elim
   |ok E2 =>
    rw[eg]at k
    match vs,hv with
    | [v,w],_ =>
     have rp:=Got.reps rfl g;have g0:=g.dropAll;have q:=Yk (X:=X) [i,j] [r1.d,r2.d] [v,w] (a:=0) (ts:=[]) (Q:=D.nx) (Got.refl (T0:=[]) g0.len g0.fr) rp eg λσ' g'=>k σ' H1 (g0.trans' g')
     obtain⟨v1,rr,e1,v2,rr2,e2,e3,q⟩:=q;cases e1;cases e2;exact⟨v,w,rfl,q⟩
  | [],k=>exact k.elim
  | [_],k=>exact k.elim
  |_::_::_::_,k=>exact k.elim
theorem sk_any{st:Stmt}:SOk X st (λ_=>.stuck):=yz zDa λD σ H ⟨M,E,hl,fr,k⟩=>k
end
end DV
namespace DV
open PySem L2
section
variable{X:Cx}{pins:List (Addr×Obj)}{σ:L2.St}{H:Hp}{s:Shared}
end
end DV
namespace DV
open PySem L2
section
variable{X:Cx}{σ:L2.St}{H:Hp}
end
section
variable{X:Cx}{σ:L2.St}{H:Hp}
end
end DV
namespace DV
open PySem L2
section
variable{X:Cx}{σ:L2.St}{H:Hp}{K:PySem.W.Frag}{mg:Str->Option Value}{M:Addr->Prop}{E E1:zP}{T0:Fz}
def whN(c:MT)(b:MS):Nat->MS
 |0=>λ_=>.stuck
 |n+1=>λE=>match c E with
  | .stuck=>.stuck
  | .exc x E1=>.exc x E1
  | .ok (false,E1)=>.ok (.nx,E1)
  | .ok (true,E1)=>match b E1 with
   | .ok (.nx,E2)=>whN c b n E2
   | .ok (.ct,E2)=>whN c b n E2
   | .ok (.bk,E2)=>.ok (.nx,E2)
   |o=>o
theorem whN_run{c:MT}{b:MS}{D:Ends}{n:Nat}(h:tS X (whN c b n) D σ H):zE7 (tMT X c) (tS X b) D σ H:=by
 refine⟨λm σ H=>tS X (whN c b m) D σ H,⟨n,h⟩,λm σ H h=>?_⟩;cases m with
 |zero=>obtain⟨M,E,hl,fr,k⟩:=h;exact k.elim
 |succ m =>
  obtain⟨M,E,hl,fr,k⟩:=h;unfold whN at k;refine JI (T0:=[]) hl fr ?_;cases ec:c E with
  |stuck=>rw[ec]at k;exact k
  |exc x E1=>rw[ec]at k;exact λH' g=>k σ H' g
  |ok p =>
   obtain⟨t,E1⟩:=p;rw[ec]at k;intro H1 g1;cases t with
   |false=>exact zDQ (k σ H1 g1)
   |true =>
    refine zDR ⟨λσ' H'=>tS X (whN c b m) D σ' H',λσ' H' q=>⟨m,lt_succ_self m,q⟩,?_⟩;refine vc (T0:=[]) g1.len g1.fr ?_;dsimp only at k;cases eb:b E1 with
    |stuck=>rw[eb]at k;exact k
    |exc x E2=>rw[eb]at k;exact λσ' H' g=>k σ' H' (g1.trans' g)
    |ok p =>
     obtain⟨fl,E2⟩:=p;rw[eb]at k;cases fl with
     |ret r=>exact λv σ' H' g=>k v σ' H' (g1.trans' g)
     |bk=>exact λσ' H' g=>k σ' H' (g1.trans' g)
     |nx=>exact λσ' H' g=>go g1 g k
     |ct=>exact λσ' H' g=>go g1 g k
where
 go {c:MT} {b:MS} {D:Ends} {n:Nat} {M:Addr->Prop} {σ σ1 σ':L2.St} {E E1 E2:zP} {H H1 H':Hp} (g1:Got X.K X.mg M σ E H [] σ1 E1 H1 []) (g:Got X.K X.mg M σ1 E1 H1 [] σ' E2 H' [])
  (k:match whN c b n E2 with
   | .stuck=>False
   | .ok (.nx,E')=>∀σ' H',Got X.K X.mg M σ E H [] σ' E' H' []->D.nx σ' H'
   | .ok (.bk,E')=>∀σ' H',Got X.K X.mg M σ E H [] σ' E' H' []->D.bk σ' H'
   | .ok (.ct,E')=>∀σ' H',Got X.K X.mg M σ E H [] σ' E' H' []->D.ct σ' H'
   | .ok (.ret r,E')=>∀v σ' H',Got X.K X.mg M σ E H [] σ' E' H' [(some v,r.slot)]->D.rt v H'
   | .exc x E'=>∀σ' H',Got X.K X.mg M σ E H [] σ' E' H' []->XE X σ' H' x):tS X (whN c b n) D σ' H':=by
  have gg:=g1.trans' g;refine vc (T0:=[]) gg.len gg.fr ?_;cases e:whN c b n E2 with
  |stuck=>rw[e]at k;exact k
  |exc x E3=>rw[e]at k;exact λσ3 H3 g3=>k σ3 H3 (gg.trans' g3)
  |ok p =>
   obtain⟨fl,E3⟩:=p;rw[e]at k;cases fl with
   |nx=>exact λσ3 H3 g3=>k σ3 H3 (gg.trans' g3)
   |bk=>exact λσ3 H3 g3=>k σ3 H3 (gg.trans' g3)
   |ct=>exact λσ3 H3 g3=>k σ3 H3 (gg.trans' g3)
   |ret r=>exact λv σ3 H3 g3=>k v σ3 H3 (gg.trans' g3)
def sWhile(c:MT)(b:MS):MS:=whN c b 1000000
theorem zEM{c:Expr}{body:List Stmt}{mc:MT}{mb:MS}{pos:Pos}(hp:PassesOwn (model X.prog X.w) X.A X.env X.xe)(hc:TOk X c mc)(hb:zA8 X body mb):SOk X (.While c body [] pos) (sWhile mc mb) :=
 yz (zDc hp hc hb) λD σ H h=>whN_run h
def sAug(i:Nat)(f:Int->Int->Option Int)(m:ME):MS:=λE=>match E[i]? with
 |some (.val (.int a))=>(match m E with
  | .stuck=>.stuck
  | .exc x E1=>.exc x E1
  | .ok (r,E1)=>match r.d with
   | .int b=>(match E1[i]?,f a b with
    |some (.val (.int a')),some z=>if a'=a then .ok (.nx,E1.set i (.val (.int z)))else .stuck
    |_,_=>.stuck)
   |_=>.stuck)
 |_=>.stuck
theorem Qi{i:Nat}{f:Int->Int->Option Int}{ti:TIp}{m:ME}{D:Ends}(hi:∀a b z H Q,f a b=some z->Q (.int z) H->ti (.int a) (.int b) H Q)(h:tS X (sAug i f m) D σ H):tAug i (tM X m) ti D σ H:=by
 obtain⟨M,E,hl,fr,k⟩:=h;unfold sAug at k;cases e0:E[i]? with
 |none=>rw[e0]at k;exact k.elim
 |some s0 =>
  rw[e0]at k;cases s0 with
  |val d =>
   cases d with
   |int a =>
    dsimp only at k;obtain⟨o,h1,h2⟩:=wf hl e0;obtain⟨v,rfl,rv⟩:=fr.val o (.int a) h2;have ev:=zQ rv;subst ev;refine⟨.int a,h1,?_⟩;refine yK (T0:=[]) hl fr ?_;cases em:m E with
    |stuck=>rw[em]at k;exact k
    |exc x E1=>rw[em]at k;exact λH' g=>k σ H' g
    |ok p =>
     obtain⟨r,E1⟩:=p;rw[em]at k;intro y H1 g;dsimp only at k;cases ed:r.d with
     |int b =>
      rw[ed]at k;dsimp only at k;have ry:=g.rep;rw[ed]at ry;have ey:=zQ ry;subst ey;cases e1:E1[i]? with
      |none=>rw[e1]at k;exact k.elim
      |some s1 =>
       cases ef:f a b with
       |none=>rw[e1,ef]at k;cases s1<;>first|exact k.elim|(rename_i d;cases d<;>exact k.elim)
       |some z =>
        rw[e1,ef]at k;cases s1 with
        |val d1 =>
         cases d1 with
         |int a' =>
          dsimp only at k;by_cases ha:a'=a
          ·rw[if_pos ha]at k
           refine hi a b z _ _ ef (k _ H1 ?_);have gz:=g.dropAll.flat (d:=.int z) rfl;exact uO (r:=.val (.int z)) gz (by simp only[Yj,e1];rfl)
          ·rw[if_neg ha]at k;exact k.elim
         |_=>exact k.elim
        |_=>exact k.elim
     |_=>rw[ed]at k;exact k.elim
   |_=>exact k.elim
  |_=>exact k.elim
theorem ip_mulB:PIp X .Mult (λx y H Q=>∃i j,x=.int i/\y=.int j/\CMulB i j/\Q (.int (i*j)) H):=by
 intro pins s σ H x y v u Q I r1 r2 h;obtain⟨i,j,e1,e2,hc,q⟩:=h;subst e1;subst e2;obtain⟨t,rfl⟩:=r1;obtain⟨t',rfl⟩:=r2;refine PyProof.Rows.imul_int ⟨.int _,H,I.tok _,⟨_,rfl⟩,q⟩ ?_;rcases hc with h|h
 ·exact h.ok
 ·exact zB1 h.1 h.2
def Gu:Int->Int->Option Int:=λa b=>if((-(2^64)<a/\a<2^64)\/(-(2^64)<b/\b<2^64))\/(a.natAbs<Big/\b.natAbs<Big)then some (a*b)else none
theorem zCP{i:Nat}{x:Str}{e:Expr}{m:ME}{pos pos':Pos}(hN:X.N.Nodup)(hi:X.N[i]?=some x)(hx:Loc X.env.scope x)(hf:X.fn x=true\/X.env.scope.names.lookup x=some .local)(he:EOk X e m):SOk X (.AugAssign (.Name x pos') .Add e pos) (sAug i (λa b=>some (a+b)) m) :=
 yz (zBY hN hi hx he ip_add hf) λD σ H h=>Qi (λa b z H Q ez q=>by cases ez;exact⟨a,b,rfl,rfl,q⟩) h
theorem zCQ{i:Nat}{x:Str}{e:Expr}{m:ME}{pos pos':Pos}(hN:X.N.Nodup)(hi:X.N[i]?=some x)(hx:Loc X.env.scope x)(hf:X.fn x=true\/X.env.scope.names.lookup x=some .local)(he:EOk X e m):SOk X (.AugAssign (.Name x pos') .Sub e pos) (sAug i (λa b=>some (a-b)) m) :=
 yz (zBY hN hi hx he ip_sub hf) λD σ H h=>Qi (λa b z H Q ez q=>by cases ez;exact⟨a,b,rfl,rfl,q⟩) h
theorem zCR{i:Nat}{x:Str}{e:Expr}{m:ME}{pos pos':Pos}(hN:X.N.Nodup)(hi:X.N[i]?=some x)(hx:Loc X.env.scope x)(hf:X.fn x=true\/X.env.scope.names.lookup x=some .local)(he:EOk X e m):SOk X (.AugAssign (.Name x pos') .Mult e pos) (sAug i Gu m) :=
 yz (zBY hN hi hx he ip_mulB hf) λD σ H h=>Qi (λa b z H Q ez q=>by
  unfold Gu at ez;split at ez
  ·rename_i hc
   cases ez;exact⟨a,b,rfl,rfl,hc,q⟩
  ·cases ez) h
end
end DV
namespace DV
open PySem L2
section
variable{X:Cx}{σ:L2.St}{pins:List (Addr×Obj)}{H:Hp}{s:Shared}
def SmOk(K:PySem.W.Frag):Prop:=∃o es n,K.lookup sysModules=some o/\o.data=.dict es n
end
end DV
namespace L2
open PySem PySem.Spec PyProof.Rows
section
variable{X:Cx}{pins:List (Addr×Obj)}{σ:List (Option V)}{H:Hp}{s:Shared}{h':Heap}
theorem Inv.turnLay{t':Nat}{fp:List Addr}{q:Addr}{xs:List V}(I:Inv X pins σ H s)(hf:∀b∈fp,QT X pins H b)(k:∀b o,b∉fp->s.heap.get? b=some o->h'.get? b=some o)(hq:s.heap.objs.size<=q)(new:JE X.prog X.w (upd H q (.tup xs)) h' q (.tup xs)):Inv X pins σ (upd H q (.tup xs)) {s with heap:=h',toks:=t'}:=by
 have hn:H q=none:=I.hok.fresh hq;have nq:∀b u,H b=some u->b≠q:=λb u e z=>by rw[z,hn]at e;cases e
 have nf:∀b u,H b=some u->b∉fp:=λb u e z=>by rw[(hf b z).1]at e;cases e
 refine I.step (g':=s.gens) (d':=s.drawn) (ch:=fp) (λb hb=>?_) (λb o _ _ hc e _=>k b o hc e) (λb o _ _ hc e _=>⟨o.slots,k b o hc e⟩) (λb o _ e n=>?_) (λb o hc e=>⟨o,k b o hc e⟩)
  (λb ys e=>?_) (λb o u e=>?_) (λb ps e=>⟨#[],?_⟩) (λm hm=>?_) (λb u e=>?_) I.bare
 ·obtain⟨_,f1,_,f3,f4,f5⟩:=hf b hb
  exact⟨f3,f1,f4,f5⟩
 ·have:b≠q:=λz=>by subst z;exact absurd (lt_of_lt_of_le (lt_size e) hq) (lt_irrefl _)
  rw[z9 this];exact n
 ·rw[z9 (nq b _ e)];exact e
 ·rw[z9 (nq b _ e)];exact e
 ·rw[z9 (nq b _ e),e];simp
 ·obtain⟨o,es,ep,ho,r⟩:=hm
  exact⟨o,es,ep,k _ o (λz=>(hf _ z).2.1 rfl) ho,r⟩
 ·by_cases hb:b=q
  ·subst hb;rw[j9]at e;cases e;exact new
  ·rw[z9 hb]at e
   refine(I.hok b u e).stay (λc v hc q'=>k c v ?_ q') (λc q'=>?_) λc ys q'=>?_
   ·rcases hc with z|z
    ·rw[z];exact nf b u e
    ·exact nf c _ z
   ·rw[z9 (nq c _ q')];exact q'
   ·rw[z9 (nq c _ q')];exact q'
theorem Inv.turnL{t':Nat}{fp:List Addr}(I:Inv X pins σ H s)(hf:∀b∈fp,QT X pins H b)(k:∀b o,b∉fp->s.heap.get? b=some o->h'.get? b=some o):Inv X pins σ H {s with heap:=h',toks:=t'}:=by
 have nf:∀b u,H b=some u->b∉fp:=λb u e z=>by rw[(hf b z).1]at e;cases e
 refine I.step (g':=s.gens) (d':=s.drawn) (ch:=fp) (λb hb=>?_) (λb o _ _ hc e _=>k b o hc e) (λb o _ _ hc e _=>⟨o.slots,k b o hc e⟩) (λ_ _ _ _ n=>n) (λb o hc e=>⟨o,k b o hc e⟩)
  (λ_ _ e=>e) (λ_ _ _ e=>e) (λb ps e=>⟨#[],by rw[e];simp⟩) (λm hm=>?_) (λb u e=>?_) I.bare
 ·obtain⟨_,f1,_,f3,f4,f5⟩:=hf b hb
  exact⟨f3,f1,f4,f5⟩
 ·obtain⟨o,es,ep,ho,r⟩:=hm
  exact⟨o,es,ep,k _ o (λz=>(hf _ z).2.1 rfl) ho,r⟩
 ·refine(I.hok b u e).stay (λc v hc q'=>k c v ?_ q') (λ_ q=>q) λ_ _ q=>q
  rcases hc with z|z
  ·rw[z];exact nf b u e
  ·exact nf c _ z
end
end L2
namespace DV
open PySem
section
variable{prog:Program}{w:World}{A:Around}{E:Value->Shared->Prop}{s:Shared}
theorem st_iter{α:Type}{Q:α->Shared->Prop}(hh:A.handled=none)(hE:∀h' e,(∀b o,s.heap.get? b=some o->h'.get? b=some o)->(∃o,h'.get? e=some o/\o.cls=.type "StopIteration")->E (.ref e) {s with heap:=h'}):wpAny (model prog w) A.in1 (Builtin.SmallTypes.stopIteration:Sem α) Q E s:=by
 unfold Builtin.SmallTypes.stopIteration;refine wpAny_bind ?_;unfold newExc newTuple;refine wpAny_bind (wpAny_newObj_type ?_ (by size_fits));refine wpAny_bind (m:=firstArgMember _ _) (wpAny_of_eq (a:=Value.none) rfl ?_);refine wpAny_newObj_type ?_ (by size_fits);unfold raiseNew;have hh':A.in1.handled=none:=hh;refine wpAny_bind (wpAny_handled ?_);rw[hh'];refine wpAny_bind (wpAny_pure (wpAny_throw ?_));exact hE _ _ (λb o eb=>get?_push_of_some _ (get?_push_of_some _ eb)) ⟨_,get?_push_size _ rfl,rfl⟩
theorem sp_tup{it t:Addr}{i:Nat}{items:Array Value}{Q:Option Value->Shared->Prop}(hh:A.handled=none)(hit:s.heap.IsTupleIter it t i)(ht:s.heap.IsTuple t items)
  (h1:∀x,items[i]?=some x->∀h',h'.IsTupleIter it t (i+1)->Heap.SameBut it s.heap h'->Q (some x) {s with heap:=h'})
  (h2:items[i]?=none->∀h' e,Heap.ExtBut it s.heap h'->(∃o,h'.get? e=some o/\o.cls=.type "StopIteration")->E (.ref e) {s with heap:=h'}) :
  wpAny (model prog w) A (callSpecial? (.ref it) (Str.ofString "__next__")) Q E s:=by
 have⟨o,ho,hc,hd⟩:=id hit;obtain⟨u,hu,_,n,du⟩:=ht;refine wpAny_callSpecial?_slot hit.typeIs F.slot_tuple_iterator_next (wpAny_call_entry F.slot_tuple_iterator_next hit.typeIs F.entry_tuple_iterator_next ?_ (F.args_tuple_iterator_next_1 _));refine wpAny_bind (m:=field (.ref it) 0) (wpAny_field ho hd (x:=.ref t) rfl ?_);have nn:¬(Value.ref t==Value.none)=true:=Bool.false_ne_true;simp only[nn,Bool.false_eq_true,if_false];refine wpAny_bind (m:=field (.ref it) 1) (wpAny_field ho hd (x:=.int i 0) rfl ?_);refine wpAny_bind (m:=seqItems? (.ref t)) (wpAny_seqItems hu du ?_);cases hx:items[i]? with
 |some x =>
  simp only[Int.toNat_natCast,hx];refine wpAny_bind (wpAny_setField ho hd (by simp) (wpAny_pure ⟨x,rfl,h1 x hx _ ?_ (Heap.SameBut.update ..)⟩));exact⟨_,Heap.get?_update_self _ ho (Obj.isFreed_of_fields (Obj.data_mapFields hd _)),(Obj.cls_mapFields ..).trans hc,by rw[Obj.data_mapFields hd];simp[rawInt]⟩
 |none =>
  simp only[Int.toNat_natCast,hx];refine wpAny_bind (wpAny_rule (wpAny_bind (wpAny_setField ho hd (by simp) ?_)));refine st_iter hh λh' e k q=>h2 hx h' e (λb o nb eb=>k b o ?_) q
  exact(Heap.SameBut.update ..).extBut b o nb eb
structure Src(prog:Program)(w:World)(A:Around)(it l:Addr)(items:Array Value)(st:Nat->Heap->Prop):Prop where
 keep:∀{i:Nat} {h h':Heap},st i h->(∀b,b=it\/b=l->∀o,h.get? b=some o->h'.get? b=some o)->st i h'
 lt:∀{i:Nat} {h:Heap},st i h->it<h.objs.size
 next:∀{i:Nat} {s:Shared} {Q:Value->Shared->Prop} {E:Value->Shared->Prop},st i s.heap->(∀x,items[i]?=some x->∀h',st (i+1) h'->Heap.SameBut it s.heap h'->Q x {s with heap:=h'}) ->
  (items[i]?=none->∀h' e,Heap.ExtBut it s.heap h'->(∃o,h'.get? e=some o/\o.cls=.type "StopIteration")->E (.ref e) {s with heap:=h'})->wpAny (model prog w) A (Builtin.SmallTypes.nextOf (.ref it)) Q E s
theorem src_tup(hh:A.handled=none){it t:Addr}(ne:t≠it)(items:Array Value):Src prog w A it t items (λi h=>h.IsTupleIter it t i/\h.IsTuple t items) where
 keep:=λst k=>⟨st.1.at λo e=>k it (.inl rfl) o e,st.2.at λo e=>k t (.inr rfl) o e⟩
 lt:=λst=>by obtain⟨⟨o,e,_⟩,_⟩:=st;exact lt_size e
 next:=λ{i s Q E} st h1 h2=>by
  unfold Builtin.SmallTypes.nextOf;exact wpAny_bind (sp_tup hh st.1 st.2 (λx hx h' a b=>wpAny_pure (h1 x hx h' ⟨a,st.2.extBut b.extBut ne⟩ b)) h2)
theorem zEN(hh:A.handled=none){it t:Addr}(ne:t≠it)(items:Array Value):Src prog w A it t items (λi h=>h.IsListIter it t i/\h.IsList t items) where
 keep:=λst k=>⟨st.1.at λo e=>k it (.inl rfl) o e,st.2.at λo e=>k t (.inr rfl) o e⟩
 lt:=λst=>by obtain⟨⟨o,e,_⟩,_⟩:=st;exact lt_size e
 next:=λ{i s Q E} st h1 h2=>by
  cases hx:items[i]? with
  |some x=>exact wpAny_nextOf_list_item st.1 st.2 hx λh' a b=>h1 x hx h' ⟨a,st.2.extBut b.extBut ne⟩ b
  |none=>exact wpAny_nextOf_list_end hh st.1 st.2 hx (h2 hx)
theorem zp_next{z TI TO i1 i2 l1 l2:Addr}{k:Nat}{xs ys:Array Value}{st1 st2:Nat->Heap->Prop}{a b:Value}{Q:Value->Shared->Prop}(S1:Src prog w A i1 l1 xs st1)(S2:Src prog w A i2 l2 ys st2)(D:ZipApart z TI TO i1 i2 l1 l2)
  (hz:IsZip s.heap z TI TO .none) (hTI:IsPair s.heap TI (.ref i1) (.ref i2)) (hTO:IsPair s.heap TO a b) (h1:st1 k s.heap) (h2:st2 k s.heap)
  (hQ:∀x y,xs[k]?=some x->ys[k]?=some y->∀h',IsZip h' z TI TO (rawInt s.heap.objs.size)->IsPair h' TO x y->st1 (k+1) h'->st2 (k+1) h'->IsPair h' s.heap.objs.size x y ->
   (∀c o,c≠z->c≠TO->c≠i1->c≠i2->s.heap.get? c=some o->h'.get? c=some o)->Q (.ref s.heap.objs.size) {s with heap:=h'})
  (hE:xs[k]?=none\/ys[k]?=none->∀h' e,(∀c o,c≠z->c≠TO->c≠i1->c≠i2->s.heap.get? c=some o->h'.get? c=some o)->(∃o,h'.get? e=some o/\o.cls=.type "StopIteration")->E (.ref e) {s with heap:=h'}) :
  wpAny (model prog w) A (Builtin.«zip.__next__» ⟨[.ref z],[]⟩) (λfin s'=>∃v,fin=.done (.ret v)/\Q v s') E s:=by
 refine wpAny_bind (m:=field (.ref z) 2) (wpAny_field hz rfl (x:=.bool false) rfl ?_);refine wpAny_bind (m:=field (.ref z) 3) (wpAny_field hz rfl (x:=.ref TI) rfl ?_);refine wpAny_bind (wpAny_seqItems hTI rfl ?_);refine wpAny_bind (m:=Builtin.SmallTypes.ownedTupleIsFree (.ref z)) ?_;unfold Builtin.SmallTypes.ownedTupleIsFree;refine wpAny_bind (wpAny_field hz rfl (x:=.none) rfl (wpAny_pure ?_));simp only[if_true];refine wpAny_bind (wpAny_rule (wpAny_bind (wpAny_field hz rfl (x:=.ref TO) rfl (wpAny_bind (wpAny_setField_rec hz (by simp) λg1 z1 b1=>?_)))));have z1:IsZip g1 z TI TO .ellipsis:=z1;refine wpAny_bind ?_;simp only[List.zipIdx_cons,List.zipIdx_nil,List.forIn_cons,List.forIn_nil];have s1:st1 k g1:=S1.keep h1 λc hc o e=>b1.extBut c o (by rcases hc with rfl|rfl;exact D.i1z;exact D.l1z) e
 refine wpAny_bind (wpAny_bind (wpAny_onRaise (wpAny_bind (m:=Builtin.SmallTypes.nextOf (.ref i1)) (S1.next s1 (λx hx g2 s2 b2=>wpAny_pure ?_) λhx g2 e b2 he=>?_))))
 ·have t2:IsPair g2 TO a b:=b2.extBut _ _ D.TOi1 (b1.extBut _ _ D.TOz hTO)
  refine wpAny_bind (wpAny_seqItems t2 rfl (wpAny_bind (wpAny_updateSeq_pair t2 λg3 t3 b3=>wpAny_bind (wpAny_letGo (wpAny_pure ?_)))));have t3:IsPair g3 TO x b:=t3;have k3:∀c o,c≠z->c≠TO->c≠i1->s.heap.get? c=some o->g3.get? c=some o:=λc o c1 c2 c3 e=>b3.extBut _ _ c2 (b2.extBut _ _ c3 (b1.extBut _ _ c1 e))
  have s3:st1 (k+1) g3:=S1.keep s2 λc hc o e=>b3.extBut c o (by rcases hc with rfl|rfl;exact D.TOi1.symm;exact D.l1TO) e
  have r3:st2 k g3:=S2.keep h2 λc hc o e=>k3 c o (by rcases hc with rfl|rfl;exact D.i2z;exact D.l2z) (by rcases hc with rfl|rfl;exact D.TOi2.symm;exact D.l2TO) (by rcases hc with rfl|rfl;exact D.i12.symm;exact D.l2i1) e
  have z3:IsZip g3 z TI TO .ellipsis:=b3.extBut _ _ D.TOz.symm (b2.extBut _ _ D.i1z.symm z1);refine wpAny_bind (wpAny_bind (wpAny_onRaise (wpAny_bind (m:=Builtin.SmallTypes.nextOf (.ref i2)) (S2.next r3 (λy hy g4 r4 b4=>wpAny_pure ?_) λhy g4 e b4 he=>?_))))
  ·have t4:IsPair g4 TO x b:=b4.extBut _ _ D.TOi2 t3
   refine wpAny_bind (wpAny_seqItems t4 rfl (wpAny_bind (wpAny_updateSeq_pair t4 λg5 t5 b5=>wpAny_bind (wpAny_letGo (wpAny_pure (wpAny_pure ?_))))));have t5:IsPair g5 TO x y:=t5;have k5:∀c o,c≠z->c≠TO->c≠i1->c≠i2->s.heap.get? c=some o->g5.get? c=some o:=λc o c1 c2 c3 c4 e=>b5.extBut _ _ c2 (b4.extBut _ _ c4 (k3 c o c1 c2 c3 e))
   have s5:st1 (k+1) g5:=S1.keep s3 λc hc o e=>b5.extBut c o (by rcases hc with rfl|rfl;exact D.TOi1.symm;exact D.l1TO) (b4.extBut c o (by rcases hc with rfl|rfl;exact D.i12;exact D.l1i2) e)
   have r5:st2 (k+1) g5:=S2.keep r4 λc hc o e=>b5.extBut c o (by rcases hc with rfl|rfl;exact D.TOi2.symm;exact D.l2TO) e
   have z5:IsZip g5 z TI TO .ellipsis:=b5.extBut _ _ D.TOz.symm (b4.extBut _ _ D.i2z.symm z3);have sz:g5.objs.size=s.heap.objs.size:=by rw[b5.1,b4.1,b3.1,b2.1,b1.1]
   refine wpAny_bind (wpAny_seqItems t5 rfl (wpAny_bind (wpAny_newTuple ?_)));refine wpAny_bind (m:=Builtin.SmallTypes.ownedTupleHandOut (.ref z) (.ref g5.objs.size)) ?_;unfold Builtin.SmallTypes.ownedTupleHandOut;have z6:IsZip (g5.push {cls:=.type "tuple",data:=.seq #[x,y]}) z TI TO .ellipsis:=get?_push_of_some _ z5;refine wpAny_bind (wpAny_setField_rec z6 (by simp) λg7 z7 b7=>?_);have z7:IsZip g7 z TI TO (rawInt g5.objs.size):=z7;refine wpAny_setField_rec z7 (by simp) λg8 z8 b8=>?_
   have z8:IsZip g8 z TI TO (rawInt g5.objs.size):=z8;have up:∀c o,c≠z->g5.get? c=some o->g8.get? c=some o:=λc o c1 e=>b8.extBut _ _ c1 (b7.extBut _ _ c1 (get?_push_of_some _ e))
   have zl:z<g5.objs.size:=lt_size z5;have p8:IsPair g8 g5.objs.size x y:=b8.extBut _ _ (ne_of_gt zl) (b7.extBut _ _ (ne_of_gt zl) (get?_push_size _ rfl));rw[sz]at z8 p8;refine wpAny_pure ⟨_,rfl,?_⟩;show Q (.ref g5.objs.size) _;rw[sz];exact hQ x y hx hy g8 z8 (up _ _ D.TOz t5) (S1.keep s5 λc hc o e=>up c o (by rcases hc with rfl|rfl;exact D.i1z;exact D.l1z) e) (S2.keep r5 λc hc o e=>up c o (by rcases hc with rfl|rfl;exact D.i2z;exact D.l2z) e) p8 λc o c1 c2 c3 c4 e=>up c o c1 (k5 c o c1 c2 c3 c4 e)
  ·have z4:IsZip g4 z TI TO .ellipsis:=b4 _ _ D.i2z.symm z3
   obtain⟨oe,ho,hc⟩:=he;have ez:e≠z:=λq=>by subst q;rw[z4]at ho;cases ho;simp at hc
   exact wpAny_setField_rec z4 (by simp) λg5 _ b5=>hE (.inr hy) g5 e (λc o c1 c2 c3 c4 x=>b5.extBut _ _ c1 (b4 _ _ c4 (k3 c o c1 c2 c3 x))) ⟨oe,b5.extBut _ _ ez ho,hc⟩
 ·have z2:IsZip g2 z TI TO .ellipsis:=b2 _ _ D.i1z.symm z1
  obtain⟨oe,ho,hc⟩:=he;have ez:e≠z:=λq=>by subst q;rw[z2]at ho;cases ho;simp at hc
  exact wpAny_setField_rec z2 (by simp) λg3 _ b3=>hE (.inl hx) g3 e (λc o c1 c2 c3 c4 x=>b3.extBut _ _ c1 (b2 _ _ c3 (b1.extBut _ _ c1 x))) ⟨oe,b3.extBut _ _ ez ho,hc⟩
theorem Gv{z TI TO i1 i2 l1 l2:Addr}{k:Nat}{xs ys:Array Value}{st1 st2:Nat->Heap->Prop}{a b:Value}{Q:Option Value->Shared->Prop}(S1:Src prog w A.in1 i1 l1 xs st1)(S2:Src prog w A.in1 i2 l2 ys st2)(D:ZipApart z TI TO i1 i2 l1 l2)
  (hz:IsZip s.heap z TI TO .none) (hTI:IsPair s.heap TI (.ref i1) (.ref i2)) (hTO:IsPair s.heap TO a b) (h1:st1 k s.heap) (h2:st2 k s.heap)
  (hQ:∀x y,xs[k]?=some x->ys[k]?=some y->∀h',IsZip h' z TI TO (rawInt s.heap.objs.size)->IsPair h' TO x y->st1 (k+1) h'->st2 (k+1) h'->IsPair h' s.heap.objs.size x y ->
   (∀c o,c≠z->c≠TO->c≠i1->c≠i2->s.heap.get? c=some o->h'.get? c=some o)->Q (some (.ref s.heap.objs.size)) {s with heap:=h'})
  (hE:xs[k]?=none\/ys[k]?=none->∀h',(∀c o,c≠z->c≠TO->c≠i1->c≠i2->s.heap.get? c=some o->h'.get? c=some o)->Q none {s with heap:=h'}):wpAny (model prog w) A (pyNext (.ref z)) Q E s:=by
 have hT:s.TypeIs (.ref z) "zip":=⟨_,hz,rfl⟩;unfold pyNext;refine wpAny_bind (wpAny_attempt (wpAny_callSpecial?_slot hT F.slot_zip_next (wpAny_call_entry F.slot_zip_next hT F.entry_zip_next (zp_next S1 S2 D hz hTI hTO h1 h2 (λx y hx hy h' a1 a2 a3 a4 a5 a6=>?_) λhend h' e hk he=>?_) (F.args_zip_next_1 _))))
 ·exact wpAny_pure (hQ x y hx hy h' a1 a2 a3 a4 a5 a6)
 ·obtain⟨o,ho,hc⟩:=he
  exact wpAny_bind (wpAny_isInstance (T:="StopIteration") (b:=true) ⟨o,ho,hc⟩ isSubtype_stop (wpAny_pure (hE hend h' hk)))
end
end DV
namespace DV
open PySem
abbrev itO(c:String)(l:Addr):Obj:={cls:=.type c,data:=.fields #[.ref l,.int 0 0]}
abbrev zpA(h:Heap)(c1 c2:String)(l1 l2:Addr):Heap:=(h.push (itO c1 l1)).push (itO c2 l2)
abbrev zpB(h:Heap)(c1 c2:String)(l1 l2:Addr):Heap:=(zpA h c1 c2 l1 l2).push {cls:=.type "tuple",data:=.seq #[.ref h.objs.size,.ref (h.push (itO c1 l1)).objs.size]}
abbrev zpC(h:Heap)(c1 c2:String)(l1 l2:Addr):Heap:=(zpB h c1 c2 l1 l2).push {cls:=.type "tuple",data:=.seq #[.none,.none]}
abbrev zpD(h:Heap)(c1 c2:String)(l1 l2:Addr):Heap:=(zpC h c1 c2 l1 l2).push {cls:=.type "zip",data:=.fields #[.none,.bool false,.bool false,.ref (zpA h c1 c2 l1 l2).objs.size,.ref (zpB h c1 c2 l1 l2).objs.size]}
theorem zEO(l1 l2:Addr)(xs ys:Array Value):Meets (Builtin.«zip.__new__» ⟨[.type "zip",.ref l1,.ref l2],[]⟩) (λ_ R s=>s.heap.IsTuple l1 xs/\s.heap.IsTuple l2 ys/\R (.ok (.ret (.ref (zpC s.heap "tuple_iterator" "tuple_iterator" l1 l2).objs.size))) {s with heap:=zpD s.heap "tuple_iterator" "tuple_iterator" l1 l2}) :=
 .of_wp λprog w A R s h=>by
  obtain⟨hp,g,d,tk,os⟩:=s;obtain⟨h1,h2,h⟩:=h;have hs:=sub_zip;have a1:Heap.IsTuple (Shared.heap ⟨hp,g,d,tk,os⟩) l1 xs:=h1;have a2:Heap.IsTuple (Shared.heap ⟨hp.push (itO "tuple_iterator" l1),g,d,tk,os⟩) l2 ys:=h2.at λo e=>get?_push_of_some _ e
  wp_walk using wpAny_pyIter_tuple a1,wpAny_pyIter_tuple a2
  exact⟨_,rfl,h⟩
theorem zEP(l1 l2:Addr)(xs ys:Array Value):Meets (Builtin.«zip.__new__» ⟨[.type "zip",.ref l1,.ref l2],[]⟩) (λ_ R s=>s.heap.IsTuple l1 xs/\s.heap.IsList l2 ys/\R (.ok (.ret (.ref (zpC s.heap "tuple_iterator" "list_iterator" l1 l2).objs.size))) {s with heap:=zpD s.heap "tuple_iterator" "list_iterator" l1 l2}) :=
 .of_wp λprog w A R s h=>by
  obtain⟨hp,g,d,tk,os⟩:=s;obtain⟨h1,h2,h⟩:=h;have hs:=sub_zip;have a1:Heap.IsTuple (Shared.heap ⟨hp,g,d,tk,os⟩) l1 xs:=h1;have a2:Heap.IsList (Shared.heap ⟨hp.push (itO "tuple_iterator" l1),g,d,tk,os⟩) l2 ys:=h2.at λo e=>get?_push_of_some _ e
  wp_walk using wpAny_pyIter_tuple a1,wpAny_pyIter_list a2
  exact⟨_,rfl,h⟩
theorem zEQ(l1 l2:Addr)(xs ys:Array Value):Meets (Builtin.«zip.__new__» ⟨[.type "zip",.ref l1,.ref l2],[]⟩) (λ_ R s=>s.heap.IsList l1 xs/\s.heap.IsTuple l2 ys/\R (.ok (.ret (.ref (zpC s.heap "list_iterator" "tuple_iterator" l1 l2).objs.size))) {s with heap:=zpD s.heap "list_iterator" "tuple_iterator" l1 l2}) :=
 .of_wp λprog w A R s h=>by
  obtain⟨hp,g,d,tk,os⟩:=s;obtain⟨h1,h2,h⟩:=h;have hs:=sub_zip;have a1:Heap.IsList (Shared.heap ⟨hp,g,d,tk,os⟩) l1 xs:=h1;have a2:Heap.IsTuple (Shared.heap ⟨hp.push (itO "list_iterator" l1),g,d,tk,os⟩) l2 ys:=h2.at λo e=>get?_push_of_some _ e
  wp_walk using wpAny_pyIter_list a1,wpAny_pyIter_tuple a2
  exact⟨_,rfl,h⟩
theorem zER(l1 l2:Addr)(xs ys:Array Value):Meets (Builtin.«zip.__new__» ⟨[.type "zip",.ref l1,.ref l2],[]⟩) (λ_ R s=>s.heap.IsList l1 xs/\s.heap.IsList l2 ys/\R (.ok (.ret (.ref (zpC s.heap "list_iterator" "list_iterator" l1 l2).objs.size))) {s with heap:=zpD s.heap "list_iterator" "list_iterator" l1 l2}):=meets_zip_new l1 l2 xs ys
structure Zp(h h':Heap)(c1 c2:String)(l1 l2:Addr):Prop where
 z:IsZip h' (h.objs.size+4) (h.objs.size+2) (h.objs.size+3) .none
 a:IsPair h' (h.objs.size+2) (.ref h.objs.size) (.ref (h.objs.size+1))
 b:IsPair h' (h.objs.size+3) .none .none
 i1:h'.get? h.objs.size=some (itO c1 l1)
 i2:h'.get? (h.objs.size+1)=some (itO c2 l2)
 kp:∀c o,h.get? c=some o->h'.get? c=some o
theorem zp_of(h:Heap)(c1 c2:String)(l1 l2:Addr):Zp h (zpD h c1 c2 l1 l2) c1 c2 l1 l2/\(zpC h c1 c2 l1 l2).objs.size=h.objs.size+4:=by
 have n1:(h.push (itO c1 l1)).objs.size=h.objs.size+1:=size_push ..;have n2:(zpA h c1 c2 l1 l2).objs.size=h.objs.size+2:=by rw[size_push,n1]
 have n3:(zpB h c1 c2 l1 l2).objs.size=h.objs.size+3:=by rw[size_push,n2]
 have n4:(zpC h c1 c2 l1 l2).objs.size=h.objs.size+4:=by rw[size_push,n3]
 have u:=λ(h:Heap) (o:Obj) {b:Addr} {q:Obj} (e:h.get? b=some q)=>get?_push_of_some (h:=h) o e
 have g5:(zpD h c1 c2 l1 l2).get? (zpC h c1 c2 l1 l2).objs.size=some _:=get?_push_size _ rfl;have g4:(zpD h c1 c2 l1 l2).get? (zpB h c1 c2 l1 l2).objs.size=some _:=get?_push_of_some _ (get?_push_size _ rfl);have g3:(zpD h c1 c2 l1 l2).get? (zpA h c1 c2 l1 l2).objs.size=some _:=get?_push_of_some _ (get?_push_of_some _ (get?_push_size _ rfl));have g2:(zpD h c1 c2 l1 l2).get? (h.push (itO c1 l1)).objs.size=some (itO c2 l2):=get?_push_of_some _ (get?_push_of_some _ (get?_push_of_some _ (get?_push_size _ rfl)));have g1:(zpD h c1 c2 l1 l2).get? h.objs.size=some (itO c1 l1):=get?_push_of_some _ (get?_push_of_some _ (get?_push_of_some _ (get?_push_of_some _ (get?_push_size _ rfl))));rw[n2,n3,n4]at g5;rw[n1,n2]at g3;rw[n3]at g4;rw[n1]at g2;exact⟨⟨g5,g3,g4,g1,g2,λc o e=>get?_push_of_some _ (get?_push_of_some _ (get?_push_of_some _ (get?_push_of_some _ (get?_push_of_some _ e))))⟩,n4⟩
section
variable{prog:Program}{w:World}{A:Around}{E:Value->Shared->Prop}{s:Shared}
def SqO(h:Heap)(t:Bool)(l:Addr)(xs:Array Value):Prop:=if t then h.IsTuple l xs else h.IsList l xs
def itC(t:Bool):String:=if t then "tuple_iterator" else "list_iterator"
theorem zp_call{t1 t2:Bool}{l1 l2:Addr}{xs ys:Array Value}{Q:Value->Shared->Prop}(h1:SqO s.heap t1 l1 xs)(h2:SqO s.heap t2 l2 ys)(h:∀h',Zp s.heap h' (itC t1) (itC t2) l1 l2->Q (.ref (s.heap.objs.size+4)) {s with heap:=h'}):wpAny (model prog w) A (call (.type "zip") [.ref l1,.ref l2]) Q E s:=by
 obtain⟨z,n⟩:=zp_of s.heap (itC t1) (itC t2) l1 l2;have hz:=h _ z;have fin:∀{P:Heap->Prop},P s.heap->Meets (Builtin.«zip.__new__» ⟨[.type "zip",.ref l1,.ref l2],[]⟩) (λ_ R s=>P s.heap/\R (.ok (.ret (.ref (zpC s.heap (itC t1) (itC t2) l1 l2).objs.size))) {s with heap:=zpD s.heap (itC t1) (itC t2) l1 l2})->wpAny (model prog w) A (call (.type "zip") [.ref l1,.ref l2]) Q E s:=λ{P} hP m=>by
  refine callType_new F.called_zip (by decide) (F.typeCall_zip_2 _ _) (F.newCall_zip_2 _ _) (λobj=>F.args_object_init_3 obj _ _) F.entry_zip_new m ⟨hP,?_⟩;show _/\_;rw[n];exact⟨⟨_,z.z,rfl⟩,hz⟩
 cases t1<;>cases t2
 ·exact fin (P:=λh=>h.IsList l1 xs/\h.IsList l2 ys) ⟨h1,h2⟩ (Meets.of_imp (zER l1 l2 xs ys) λA R s q=>⟨q.1.1,q.1.2,q.2⟩)
 ·exact fin (P:=λh=>h.IsList l1 xs/\h.IsTuple l2 ys) ⟨h1,h2⟩ (Meets.of_imp (zEQ l1 l2 xs ys) λA R s q=>⟨q.1.1,q.1.2,q.2⟩)
 ·exact fin (P:=λh=>h.IsTuple l1 xs/\h.IsList l2 ys) ⟨h1,h2⟩ (Meets.of_imp (zEP l1 l2 xs ys) λA R s q=>⟨q.1.1,q.1.2,q.2⟩)
 ·exact fin (P:=λh=>h.IsTuple l1 xs/\h.IsTuple l2 ys) ⟨h1,h2⟩ (Meets.of_imp (zEO l1 l2 xs ys) λA R s q=>⟨q.1.1,q.1.2,q.2⟩)
end
end DV
namespace DV
open PySem L2 PySem.Spec PyProof.Rows
def SqH(K:PySem.W.Frag)(H:Hp)(t:Bool)(a:Addr)(xs:List V):Prop:=if t then SqT K H a xs else SqL K H a xs
section
variable{X:Cx}{pins:List (Addr×Obj)}{σ:L2.St}{H:Hp}{s:Shared}{a b:Addr}{xs ys:List V}
theorem wu{t:Bool}(I:Inv X pins σ H s)(h:SqH X.K H t a xs):∃its:List Value,yD xs its/\SqO s.heap t a its.toArray:=by
 cases t with
 |true =>
  obtain⟨its,r,p,_⟩:=I.tuple h;exact⟨its,r,p⟩
 |false =>
  obtain⟨its,r,p,_⟩:=I.list h;exact⟨its,r,p.isList⟩
theorem Qj{t:Bool}(I:Inv X pins σ H s)(h:SqH X.K H t a xs)(h':SqH X.K H t a ys):xs=ys:=by
 cases t with
 |true=>exact I.tuple_inj h h'
 |false=>exact I.list_inj h h'
theorem vf{t:Bool}(I:Inv X pins σ H s)(h:SqH X.K H t a xs)(f:QT X pins H b):a≠b:=by
 intro z;subst z;have key:∀o,X.K.lookup a=some o->False:=λo hk=>by
  have hb:=I.ok.mod.kin a o hk;have e:=I.ok.bs a o hb;rcases f.2.2.2.1 with q|q
  ·exact I.ok.noex a o hb q
  ·exact absurd (lt_of_lt_of_le (lt_size e.1) q) (lt_irrefl _)
 have key2:∀u,Rd H a u->False:=λu r=>by
  rcases r with r|⟨o,r⟩<;>rw[f.1]at r<;>cases r
 cases t with
 |true =>
  rcases h with h|⟨o,its,n,hk,_⟩
  ·exact key2 _ h
  ·exact key o hk
 |false =>
  rcases h with h|⟨o,its,n,hk,_⟩
  ·exact key2 _ h
  ·exact key o hk
end
def Itz(K:PySem.W.Frag)(t1 t2:Bool)(a b:Addr):It :=
 ⟨λi H=>∃xs ys,SqH K H t1 a xs/\SqH K H t2 b ys/\i<xs.length/\i<ys.length,
  λi H x H'=>∃q u v,(∀xs,SqH K H t1 a xs->xs[i]?=some u)/\(∀ys,SqH K H t2 b ys->ys[i]?=some v)/\H q=none/\H'=upd H q (.tup [u,v])/\x=.ref q,
  λi H=>∃xs ys,SqH K H t1 a xs/\SqH K H t2 b ys/\(xs.length<=i\/ys.length<=i)⟩
def ItA(t:Bool)(h:Heap)(it l:Addr)(i:Nat):Prop:=if t then h.IsTupleIter it l i else h.IsListIter it l i
theorem vg{t:Bool}{h h':Heap}{it l:Addr}{i:Nat}(x:ItA t h it l i)(k:∀o,h.get? it=some o->h'.get? it=some o):ItA t h' it l i:=by
 cases t with
 |true=>exact Heap.IsTupleIter.at x k
 |false=>exact Heap.IsListIter.at x k
theorem ZB{t:Bool}{h:Heap}{it l:Addr}{i:Nat}(x:ItA t h it l i):∃o,h.get? it=some o/\∀v,o.data≠.cell v:=by
 cases t with
 |true=>obtain⟨o,e,c,d⟩:=x;exact⟨o,e,λv z=>by rw[d]at z;cases z⟩
 |false=>obtain⟨o,e,c,d⟩:=x;exact⟨o,e,λv z=>by rw[d]at z;cases z⟩
theorem srcA{prog:Program}{w:World}{A:Around}(hh:A.handled=none)(t:Bool){it l:Addr}(ne:l≠it)(items:Array Value):Src prog w A it l items (λi h=>ItA t h it l i/\SqO h t l items):=by
 cases t with
 |true=>exact src_tup hh ne items
 |false=>exact zEN hh ne items
structure Five(z TI TO i1 i2:Addr):Prop where
 a1:TI≠z
 a2:TO≠z
 a3:i1≠z
 a4:i2≠z
 a5:TI≠TO
 a6:TI≠i1
 a7:TI≠i2
 a8:TO≠i1
 a9:TO≠i2
 a10:i1≠i2
def ZSt(z TI TO i1 i2:Addr)(t1 t2:Bool)(a b:Addr)(i:Nat)(h:Heap):Prop:=IsZip h z TI TO .none/\IsPair h TI (.ref i1) (.ref i2)/\(∃u v,IsPair h TO u v)/\ItA t1 h i1 a i/\ItA t2 h i2 b i
theorem zES{P:Program}{w:World}{K:PySem.W.Frag}{elts:List Expr}{x1}{pos:Pos}{z TI TO i1 i2:Addr}(F:Five z TI TO i1 i2)(t1 t2:Bool)(a b:Addr):Turn P w K (.Tuple elts x1 pos) (Itz K t1 t2 a b) [z,TI,TO,i1,i2] z (ZSt z TI TO i1 i2 t1 t2 a b) where
 mem:=by simp
 obj:=λi h st c hc=>by
  obtain⟨hz,hI,⟨u,v,hO⟩,h1,h2⟩:=st;simp only[mem_cons,mem_nil_iff,or_false]at hc;rcases hc with rfl|rfl|rfl|rfl|rfl
  ·exact⟨_,hz,λv z=>by cases z⟩
  ·exact⟨_,hI,λv z=>by cases z⟩
  ·exact⟨_,hO,λv z=>by cases z⟩
  ·exact ZB h1
  ·exact ZB h2
 keep:=λi h h' st k=>by
  obtain⟨hz,hI,⟨u,v,hO⟩,h1,h2⟩:=st;exact⟨k z (by simp) _ hz,k TI (by simp) _ hI,⟨u,v,k TO (by simp) _ hO⟩,vg h1 λo e=>k i1 (by simp) o e,vg h2 λo e=>k i2 (by simp) o e⟩
 item:=by
  intro X hP hw hK hc i pins s σ H E I hf st hg;subst hP hw hK;obtain⟨hz,hI,⟨u0,v0,hO⟩,h1,h2⟩:=st;obtain⟨xs,ys,q1,q2,l1,l2⟩:=hg;obtain⟨us,r1,p1⟩:=wu I q1;obtain⟨vs,r2,p2⟩:=wu I q2;have na:∀c∈[z,TI,TO,i1,i2],a≠c:=λc hc=>vf I q1 (hf c hc)
  have nb:∀c∈[z,TI,TO,i1,i2],b≠c:=λc hc=>vf I q2 (hf c hc)
  have D:ZipApart z TI TO i1 i2 a b:=⟨F.a1,F.a2,F.a3,F.a4,F.a5,F.a6,F.a7,F.a8,F.a9,F.a10,na z (by simp),na TO (by simp),na i1 (by simp),na i2 (by simp),nb z (by simp),nb TO (by simp),nb i1 (by simp),nb i2 (by simp)⟩;have hh:X.A.in1.handled=none:=I.ok.hd hc;obtain⟨u,eu⟩:∃u,xs[i]?=some u:=⟨_,getElem?_eq_getElem l1⟩;obtain⟨v,ev⟩:∃v,ys[i]?=some v:=⟨_,getElem?_eq_getElem l2⟩;obtain⟨u',eu',ru⟩:=r1.get eu;obtain⟨v',ev',rv⟩:=r2.get ev;refine Gv (srcA hh t1 (na i1 (by simp)) us.toArray) (srcA hh t2 (nb i2 (by simp)) vs.toArray) D hz hI hO ⟨h1,p1⟩ ⟨h2,p2⟩ (λx y hx hy h' z1 o1 s1 s2 pq kk=>?_) (λhe=>?_)
  ·have ex:x=u':=by simp[eu']at hx;exact hx.symm
   have ey:y=v':=by simp[ev']at hy;exact hy.symm
   subst ex ey;refine⟨_,rfl,wpAny_letOwnedTupleGo_zip z1 λh2 z2 b2=>?_⟩;have lt:∀{c o},s.heap.get? c=some o->s.heap.objs.size≠c:=λe=>ne_of_gt (lt_size e)
   have pq2:IsPair h2 s.heap.objs.size x y:=b2.extBut _ _ (lt hz) pq;have k2:∀c o,c∉[z,TI,TO,i1,i2]->s.heap.get? c=some o->h2.get? c=some o:=λc o hc e=>b2.extBut _ _ (λq=>hc (by simp[q])) (kk c o (λq=>hc (by simp[q])) (λq=>hc (by simp[q])) (λq=>hc (by simp[q])) (λq=>hc (by simp[q])) e)
   have new:JE X.prog X.w (upd H s.heap.objs.size (.tup [u,v])) h2 s.heap.objs.size (.tup [u,v]):=⟨by simp[sizeLine_eq],[x,y],.cons ru (.cons rv .nil),⟨_,pq2,rfl,_,rfl⟩⟩;have I2:=I.turnLay (t':=s.toks) hf k2 (le_refl _) new;have fresh:H s.heap.objs.size=none:=I.hok.fresh (le_refl _);refine⟨.ref s.heap.objs.size,_,I2,rfl,⟨_,u,v,λzs hz=>by rw[Qj I hz q1];exact eu,λzs hz=>by rw[Qj I hz q2];exact ev,fresh,rfl,rfl⟩,⟨z2,b2.extBut _ _ F.a1 (kk TI _ F.a1 F.a5 F.a6 F.a7 hI),⟨_,_,b2.extBut _ _ F.a2 o1⟩,vg s1.1 λo e=>b2.extBut _ _ F.a3 e,vg s2.1 λo e=>b2.extBut _ _ F.a4 e⟩,λc hc=>?_⟩;have:c≠s.heap.objs.size:=λq=>by
    obtain⟨o,e⟩:∃o,s.heap.get? c=some o:=by
     simp only[mem_cons,mem_nil_iff,or_false]at hc;rcases hc with rfl|rfl|rfl|rfl|rfl
     ·exact⟨_,hz⟩
     ·exact⟨_,hI⟩
     ·exact⟨_,hO⟩
     ·obtain⟨o,e,_⟩:=ZB h1;exact⟨o,e⟩
     ·obtain⟨o,e,_⟩:=ZB h2;exact⟨o,e⟩
    exact lt e q.symm
   rw[z9 this];exact(hf c hc).1
  ·exfalso
   rcases he with he|he
   ·simp[eu']at he
   ·simp[ev']at he
 done:=by
  intro X hP hw hK hc i pins s σ H E I hf st hg;subst hP hw hK;obtain⟨hz,hI,⟨u0,v0,hO⟩,h1,h2⟩:=st;obtain⟨xs,ys,q1,q2,l12⟩:=hg;obtain⟨us,r1,p1⟩:=wu I q1;obtain⟨vs,r2,p2⟩:=wu I q2;have na:∀c∈[z,TI,TO,i1,i2],a≠c:=λc hc=>vf I q1 (hf c hc)
  have nb:∀c∈[z,TI,TO,i1,i2],b≠c:=λc hc=>vf I q2 (hf c hc)
  have D:ZipApart z TI TO i1 i2 a b:=⟨F.a1,F.a2,F.a3,F.a4,F.a5,F.a6,F.a7,F.a8,F.a9,F.a10,na z (by simp),na TO (by simp),na i1 (by simp),na i2 (by simp),nb z (by simp),nb TO (by simp),nb i1 (by simp),nb i2 (by simp)⟩;have hh:X.A.in1.handled=none:=I.ok.hd hc;have e1:=r1.length;have e2:=r2.length;refine Gv (srcA hh t1 (na i1 (by simp)) us.toArray) (srcA hh t2 (nb i2 (by simp)) vs.toArray) D hz hI hO ⟨h1,p1⟩ ⟨h2,p2⟩ (λx y hx hy=>?_) (λhe h' kk=>⟨rfl,?_⟩)
  ·exfalso
   simp at hx hy
   have a1:=(List.getElem?_eq_some_iff.mp hx).1;have a2:=(List.getElem?_eq_some_iff.mp hy).1;omega
  ·exact I.turnL (t':=s.toks) hf λc o hc e=>kk c o (λq=>hc (by simp[q])) (λq=>hc (by simp[q])) (λq=>hc (by simp[q])) (λq=>hc (by simp[q])) e
 self:=λ_ _ _ _ _ st h=>wpAny_pyIter_zip st.1 h
end DV
namespace DV
open PySem L2 PySem.Spec PyProof.Rows
section
variable{X:Cx}{K:PySem.W.Frag}{mg:Str->Option Value}{σ:L2.St}{H:Hp}
def iZip(K:PySem.W.Frag)(t1 t2:Bool)(ta:TA):TI:=λσ H R=>ta σ H λvs H1=>∃a b xs ys,vs=[.ref a,.ref b]/\SqH K H1 t1 a xs/\SqH K H1 t2 b ys/\R (Itz K t1 t2 a b) H1
theorem bt_zip:bootBuiltins "zip"=some (.type "zip"):=by decide +kernel
theorem zCS{t:Bool}{h:Heap}{it l:Addr}(e:h.get? it=some (itO (itC t) l)):ItA t h it l 0:=by
 cases t with
 |true=>exact⟨_,e,rfl,rfl⟩
 |false=>exact⟨_,e,rfl,rfl⟩
theorem five(n:Addr):Five (n+4) (n+2) (n+3) n (n+1) :=
 have e:∀i j:Nat,i≠j->n+i≠n+j:=λi j h q=>h (Nat.add_left_cancel q)
 ⟨e 2 4 (by decide),e 3 4 (by decide),e 0 4 (by decide),e 1 4 (by decide),e 2 3 (by decide),e 2 0 (by decide),e 2 1 (by decide),e 3 0 (by decide),e 3 1 (by decide),e 0 1 (by decide)⟩
theorem pi_zip{t1 t2:Bool}{e f:Expr}{ta:TA}{elts:List Expr}{x1}{tp p pos:Pos}(hg:Gl X "zip")(hm:X.mg "zip"=none)(ha:PA X [e,f] ta)(hs:starEach [e,f] X.env=[(false,eval e X.env),(false,eval f X.env)]:=by rfl)(hs2:starEach [f] X.env=[(false,eval f X.env)]:=by rfl) :
  PI X (.Tuple elts x1 tp) (.Call (.Name "zip" p) [e,f] [] pos) (iZip X.K t1 t2 ta):=by
 intro pins s σ H R I h;refine Call_ (Jw I hg hm bt_zip (PyProof.Rows.callWith_type1 (thn (ha pos pins s σ H _ I h) λus s1 ⟨vs,H1,I1,r1,q1⟩=>?_) (by rw[hs,hs2]) (by rw[hs2];rfl)));obtain⟨a,b,xs,ys,ev,qa,qb,q⟩:=q1;subst ev;cases r1 with
 |cons r rr =>
  cases rr with
  |cons r' rr =>
   cases rr;cases r;cases r';obtain⟨u1,v1,p1⟩:=wu I1 qa;obtain⟨u2,v2,p2⟩:=wu I1 qb;refine zp_call p1 p2 λh' z=>?_
   refine wpAny_pyIter_zip (s:={s1 with heap:=h'}) z.z ?_
   have n:∀j,s1.heap.objs.size<=s1.heap.objs.size+j:=λj=>Nat.le_add_right _ _
   have fr:∀c,s1.heap.objs.size<=c->QT X pins H1 c:=λc hc=>I1.fpOk hc (I1.hok.fresh hc)
   refine⟨_,[s1.heap.objs.size+4,s1.heap.objs.size+2,s1.heap.objs.size+3,s1.heap.objs.size,s1.heap.objs.size+1],_,_,H1,rfl,I1.kept (t':=s1.toks) z.kp,zES (five _) t1 t2 a b,⟨z.z,z.a,⟨_,_,z.b⟩,zCS z.i1,zCS z.i2⟩,λc hc=>?_,q⟩;simp only[mem_cons,mem_nil_iff,or_false]at hc;rcases hc with rfl|rfl|rfl|rfl|rfl
   ·exact fr _ (n 4)
   ·exact fr _ (n 2)
   ·exact fr _ (n 3)
   ·exact fr _ (n 0)
   ·exact fr _ (n 1)
def Zu(d e:D):D:=.tup [d,e]
theorem yZ{t:Bool}{a:Addr}{xs:List V}{H H':Hp}(e:Y4 H H')(h:SqH K H t a xs):SqH K H' t a xs:=by
 cases t with
 |true=>exact yR e h
 |false=>exact e.seq h
theorem it_zip{t1 t2:Bool}{a b:Addr}{xs ys:List V}{ds es:List D}:ItOk K mg (Itz K t1 t2 a b) (zipWith Zu ds es) (λH=>SqH K H t1 a xs/\Reps K mg H ds xs/\SqH K H t2 b ys/\Reps K mg H es ys) where
 mono:=λH H' s h=>⟨yZ s h.1,h.2.1.mono s,yZ s h.2.2.1,h.2.2.2.mono s⟩
 go:=λi Hh H s h hi=>by
  rw[List.length_zipWith]at hi;exact⟨xs,ys,yZ s h.1,yZ s h.2.2.1,by rw[h.2.1.length];omega,by rw[h.2.2.2.length];omega⟩
 yld:=λi Hh H x H' s h hi y=>by
  obtain⟨q,u,v,h1,h2,hq,rfl,rfl⟩:=y;have e1:=h1 xs (yZ s h.1);have e2:=h2 ys (yZ s h.2.2.1);obtain⟨d,g1,r1⟩:=h.2.1.get e1;obtain⟨e,g2,r2⟩:=h.2.2.2.get e2;refine⟨Zu d e,by rw[List.getElem?_zipWith,g1,g2],.inr ⟨q,[u,v],[d,e],hq,rfl,rfl,rfl,Reps.cons r1 (Reps.cons r2 Reps.nil)⟩⟩
 stop:=λi Hh H s h hi=>by
  rw[List.length_zipWith]at hi;refine⟨xs,ys,yZ s h.1,yZ s h.2.2.1,?_⟩;rw[h.2.1.length,h.2.2.2.length];omega
end
end DV
namespace DV
open PySem L2
section
variable{X:Cx}
def zCT:Bool->D->Option (List D)
 |true,.tup ds=>some ds
 |false,.lst ds=>some ds
 |_,_=>none
def iZ(t1 t2:Bool)(m:MA):MI:=λE=>match m E with
 | .stuck=>.stuck
 | .exc x E1=>.exc x E1
 | .ok ([r,r'],E1)=>match zCT t1 r.d,zCT t2 r'.d with
  |some ds,some es=>.ok (zipWith Zu ds es,E1)
  |_,_=>.stuck
 |_=>.stuck
theorem Ql{K:PySem.W.Frag}{mg:Str->Option Value}{H:Hp}{t:Bool}{d:D}{ds:List D}{v:V}(e:zCT t d=some ds)(r:Rep K mg H d v):∃a xs,v=.ref a/\SqH K H t a xs/\Reps K mg H ds xs:=by
 cases t with
 |true =>
  cases d with
  |tup es=>cases e;exact ze r
  |_=>cases e
 |false =>
  cases d with
  |lst es=>cases e;exact zZ r
  |_=>cases e
theorem io_zip{t1 t2:Bool}{a b:Expr}{m:MA}{elts:List Expr}{x1}{tp p cpos:Pos}(hgl:Gl X "zip")(hm:X.mg "zip"=none)(ha:AOk X [a,b] m)(hst:zL a=false:=by rfl)(hst2:zL b=false:=by rfl) :
  IOk X (.Tuple elts x1 tp) (.Call (.Name "zip" p) [a,b] [] cpos) (iZ t1 t2 m):=ZW (pi_zip hgl hm ha (star2 hst hst2) (Qc hst2)) λσ H R ⟨M,E,hl,fr,k⟩=>by
 unfold iZ at k;refine wN (T0:=[]) hl fr ?_;cases ea:m E with
 |stuck=>rw[ea]at k;exact k
 |exc x E1=>rw[ea]at k;exact k
 |ok p =>
  obtain⟨rs,E1⟩:=p;rw[ea]at k
  match rs,k with
  | [r,r'],k =>
   intro vs H1 hv g1;have rp:=Got.reps hv g1;dsimp only at k;cases ed:zCT t1 r.d with
   |none=>rw[ed]at k;exact k.elim
   |some ds =>
    cases ed':zCT t2 r'.d with
    |none=>rw[ed,ed']at k;exact k.elim
    |some es =>
     rw[ed,ed']at k;simp only[List.map]at rp;obtain⟨v,w,rfl,h1,h2⟩:=reps2 rp;obtain⟨c,xs,rfl,c1,c2⟩:=Ql ed h1;obtain⟨d,ys,rfl,d1,d2⟩:=Ql ed' h2;exact⟨c,d,xs,ys,rfl,yZ zO c1,yZ zO d1,k _ _ H1 it_zip ⟨c1,c2,d1,d2⟩ g1.dropAll⟩
  | [],k=>exact k.elim
  | [_],k=>exact k.elim
  |_::_::_::_,k=>exact k.elim
end
end DV
namespace DV
open PySem L2
section
variable{X:Cx}{K:PySem.W.Frag}{mg:Str->Option Value}{σ:L2.St}{M:Addr->Prop}{E:zP}{H:Hp}
theorem zET{J:It}{ds:List D}{Iv:Hp->Prop}{σ0 σ':L2.St}{E0 E':zP}{H1 H' H'':Hp}{i:Nat}{x:V}(it:ItOk K mg J ds Iv)(hlt:i<ds.length)(gb:Got K mg M σ0 E0 H1 [] σ' E' H' [])(ivb:Iv (Hm (Mo M (σ'.zip E')) H'))(y:J.yld i H' x H'') :
  ∃d,ds[i]?=some d/\Got K mg M σ0 E0 H1 [] σ' E' H'' []/\Iv (Hm (Mo M (σ'.zip E')) H'')/\Rep K mg (Hm (Mo M (σ'.zip E')) H'') d x:=by
 obtain⟨d,hd,h⟩:=it.yld i _ _ x _ zO ivb hlt y;rcases h with⟨rfl,rx⟩|⟨q,xs,es,hq,rfl,rfl,rfl,rs⟩
 ·exact⟨d,hd,gb,ivb,rx⟩
 ·have f:FR K mg M H' (σ'.zip E'):=gb.fr
  have f1:=f.newTup hq rs;have s1:Step M H' (σ'.zip E') (upd H' q (.tup xs)) ((some (.ref q),.val (.tup es))::σ'.zip E'):=Step.newVal hq;obtain⟨v,ev,rv⟩:=f1.val _ _ mem_cons_self;cases ev;have sm:=s1.same;rw[Jx]at rv sm;have s2:Step M H' (σ'.zip E') (upd H' q (.tup xs)) (σ'.zip E'):=⟨sm,s1.keep⟩;exact⟨_,hd,⟨gb.len,f1.tail,gb.st.trans s2,gb.pk⟩,it.mono _ _ sm ivb,rv⟩
def sForI(mi:MI)(tg:MG)(body:MS):MS:=λE=>match mi E with
 | .stuck=>.stuck
 | .exc x E1=>.exc x E1
 | .ok (ds,E1)=>W6 tg body ds E1
theorem zEU{mi:MI}{tg:MG}{g:TG}{body:MS}{D:Ends}(hg:GOk X g tg)(h:tS X (sForI mi tg body) D σ H):tFor (tMI X mi) g (tS X body) D σ H:=by
 obtain⟨M,E,hl,fr,k⟩:=zAL h;unfold sForI at k;refine⟨M,E,hl,fr,?_⟩;cases ei:mi E with
 |stuck=>rw[ei]at k;exact k
 |exc x E1=>rw[ei]at k;exact λH' g=>k σ H' g
 |ok p =>
  obtain⟨ds,E1⟩:=p;rw[ei]at k;intro J Iv H1 it iv g1;refine⟨λi m σ1 H2=>m=ds.length-i/\i<=ds.length/\∃E2,Got X.K X.mg M σ E H [] σ1 E2 H2 []/\Iv (Hm (Mo M (σ1.zip E2)) H2)/\Fin X M σ E H D (W6 tg body (ds.drop i) E2),⟨ds.length,by simp,zero_le _,E1,g1,iv,k⟩,?_⟩
  rintro i m σ1 H2 ⟨rfl,hi,E2,g2,iv2,fin⟩
  by_cases hlt:i<ds.length
  ·refine .inr ⟨it.go i _ H2 zO iv2 hlt,λσ3 H3=>i+1<=ds.length/\∃E3,Got X.K X.mg M σ E H [] σ3 E3 H3 []/\Iv (Hm (Mo M (σ3.zip E3)) H3)/\Fin X M σ E H D (W6 tg body (ds.drop (i+1)) E3),λσ3 H3 q=>⟨ds.length-(i+1),by omega,rfl,q⟩,λx H3 y=>?_⟩
   obtain⟨d,hd,g3,iv3,rx⟩:=zET it hlt g2 iv2 y;have ed:ds.drop i=d::ds.drop (i+1):=by
    obtain⟨hi',rfl⟩:=List.getElem?_eq_some_iff.mp hd;exact drop_eq_getElem_cons hi'
   rw[ed]at fin;exact uQ hg g3 rx fin λσ4 E4 H4 g4 st fin4=>⟨hlt,E4,g4,it.mono _ _ st.same iv3,fin4⟩
  ·have e:i=ds.length:=by omega
   subst e;rw[drop_length]at fin;exact .inl ⟨it.stop _ _ H2 zO iv2 (le_refl _),fin σ1 H2 g2⟩
theorem sk_forI{tgt iter:Expr}{body:List Stmt}{mi:MI}{g:TG}{tg:MG}{mb:MS}{pos:Pos}(hp:PassesOwn (model X.prog X.w) X.A X.env X.xe)(hc:X.calm=true)(hi:IOk X tgt iter mi)(hg:PG X tgt g)(ho:GOk X g tg)(hb:zA8 X body mb)
  (hs:∀x,foldedSetIterable iter X.env x=pure x:=by intro _;rfl):SOk X (.For tgt iter body [] pos) (sForI mi tg mb):=yz (zAC hp hc hi hg hb hs) λD σ H=>zEU ho
end
end DV
namespace DV
open PySem L2 PySem.Spec PyProof.Rows
section
variable{prog:Program}{w:World}{A:Around}{E:Value->Shared->Prop}{s:Shared}
theorem en_next{e it l:Addr}{k:Nat}{items:Array Value}{st:Nat->Heap->Prop}{old:Value}{Q:Value->Shared->Prop}(S:Src prog w A it l items st)(ne:e≠it)(nl:l≠e)(he:IsEnum s.heap e it k old)(h1:st k s.heap)
  (hQ:∀x,items[k]?=some x->∀h',IsEnumOut h' e it ((k:Int)+1) x s.heap.objs.size->st (k+1) h'->IsPair h' s.heap.objs.size (.int k s.toks) x->(∀b o,b≠e->b≠it->s.heap.get? b=some o->h'.get? b=some o)->Q (.ref s.heap.objs.size) {s with heap:=h',toks:=s.toks+1})
  (hE:items[k]?=none->∀h' x,Heap.ExtBut it s.heap h'->(∃o,h'.get? x=some o/\o.cls=.type "StopIteration")->E (.ref x) {s with heap:=h'}) :
  wpAny (model prog w) A (Builtin.«enumerate.__next__» ⟨[.ref e],[]⟩) (λfin s'=>∃v,fin=.done (.ret v)/\Q v s') E s:=by
 obtain⟨hp,g,d,tk,os⟩:=s;refine wpAny_bind (m:=field (.ref e) 2) (wpAny_field he rfl (x:=.ref it) rfl (wpAny_bind (S.next h1 (λx hx g1 s1 b1=>?_) hE)));have b1:Heap.SameBut it hp g1:=b1;have e1:IsEnum g1 e it k old:=(b1.2 e ne).trans he;refine wpAny_bind (m:=field (.ref e) 3) (wpAny_field e1 rfl (x:=rawInt k) rfl ?_);refine wpAny_bind (m:=field (.ref e) 4) (wpAny_field e1 rfl (x:=.none) rfl ?_);refine wpAny_bind (m:=mkInt k) (wpAny_mkInt ?_);refine wpAny_bind (m:=setField (.ref e) 3 (rawInt ((k:Int)+1))) (wpAny_setField_rec e1 (by simp) λg2 e2 b2=>?_);have b2:Heap.SameBut e g1 g2:=b2;have e2:IsEnum g2 e it ((k:Int)+1) old:=e2;refine wpAny_bind (m:=setField (.ref e) 4 .none) (wpAny_setField_rec e2 (by simp) λg3 e3 b3=>?_);have b3:Heap.SameBut e g2 g3:=b3;have e3:IsEnum g3 e it ((k:Int)+1) old:=e3;refine wpAny_bind (m:=newTuple [.int k tk,x]) (wpAny_newTuple ?_);have sz:g3.objs.size=hp.objs.size:=by rw[b3.1,b2.1,b1.1]
 have el:e<hp.objs.size:=lt_size he;have e4:IsEnum (g3.push {cls:=.type "tuple",data:=.seq #[.int k tk,x]}) e it ((k:Int)+1) old:=get?_push_of_some _ e3;have p4:IsPair (g3.push {cls:=.type "tuple",data:=.seq #[.int k tk,x]}) hp.objs.size (.int k tk) x:=by rw[<- sz];exact get?_push_size _ rfl
 have k4:∀b o,b≠e->g1.get? b=some o->(g3.push {cls:=.type "tuple",data:=.seq #[.int k tk,x]}).get? b=some o:=λb o nb q=>get?_push_of_some _ (b3.extBut b o nb (b2.extBut b o nb q))
 generalize g3.push {cls:=.type "tuple",data:=.seq #[.int k tk,x]}=g4 at e4 p4 k4;refine wpAny_bind (m:=Builtin.SmallTypes.ownedTupleIsFree (.ref e)) ?_;rw[sz];unfold Builtin.SmallTypes.ownedTupleIsFree;refine wpAny_bind (wpAny_field e4 rfl (x:=.none) rfl (wpAny_pure ?_));simp only[if_true];refine wpAny_bind (wpAny_rule (wpAny_bind (wpAny_field e4 rfl (x:=old) rfl (wpAny_bind (wpAny_setField_rec e4 (by simp) λg5 e5 b5=>?_)))));have b5:Heap.SameBut e g4 g5:=b5;have e5:IsEnum g5 e it ((k:Int)+1) x:=e5;refine wpAny_bind (m:=Builtin.SmallTypes.ownedTupleHandOut (.ref e) (.ref hp.objs.size)) ?_;unfold Builtin.SmallTypes.ownedTupleHandOut;refine wpAny_bind (wpAny_setField_rec e5 (by simp) λg6 e6 b6=>?_);have b6:Heap.SameBut e g5 g6:=b6;have e6:IsEnumOut g6 e it ((k:Int)+1) x hp.objs.size:=e6;refine wpAny_setField_rec e6 (by simp) λg7 e7 b7=>?_
 have b7:Heap.SameBut e g6 g7:=b7;have e7:IsEnumOut g7 e it ((k:Int)+1) x hp.objs.size:=e7;have up:∀b o,b≠e->g4.get? b=some o->g7.get? b=some o:=λb o nb q=>b7.extBut b o nb (b6.extBut b o nb (b5.extBut b o nb q))
 refine wpAny_bind (wpAny_letGo (wpAny_pure ⟨_,rfl,hQ x hx g7 e7 (S.keep s1 λb hb o q=>?_) (up _ _ (ne_of_gt el) p4) λb o nb ni q=>up b o nb (k4 b o nb (b1.extBut b o ni q))⟩));have nb:b≠e:=by rcases hb with rfl|rfl;exact ne.symm;exact nl
 exact up b o nb (k4 b o nb q)
theorem Gw{e it l:Addr}{k:Nat}{items:Array Value}{st:Nat->Heap->Prop}{old:Value}{Q:Option Value->Shared->Prop}(S:Src prog w A.in1 it l items st)(ne:e≠it)(nl:l≠e)(he:IsEnum s.heap e it k old)(h1:st k s.heap)
  (hQ:∀x,items[k]?=some x->∀h',IsEnumOut h' e it ((k:Int)+1) x s.heap.objs.size->st (k+1) h'->IsPair h' s.heap.objs.size (.int k s.toks) x->(∀b o,b≠e->b≠it->s.heap.get? b=some o->h'.get? b=some o)->Q (some (.ref s.heap.objs.size)) {s with heap:=h',toks:=s.toks+1})
  (hE:items[k]?=none->∀h',(∀b o,b≠it->s.heap.get? b=some o->h'.get? b=some o)->Q none {s with heap:=h'}):wpAny (model prog w) A (pyNext (.ref e)) Q E s:=by
 have hT:s.TypeIs (.ref e) "enumerate":=⟨_,he,rfl⟩;unfold pyNext;refine wpAny_bind (wpAny_attempt (wpAny_callSpecial?_slot hT F.slot_enumerate_next (wpAny_call_entry F.slot_enumerate_next hT F.entry_enumerate_next (en_next S ne nl he h1 (λx hx h' a1 a2 a3 a4=>?_) λhx h' y hk q=>?_) (F.args_enumerate_next_1 _))))
 ·exact wpAny_pure (hQ x hx h' a1 a2 a3 a4)
 ·obtain⟨o,ho,hc⟩:=q
  exact wpAny_bind (wpAny_isInstance (T:="StopIteration") (b:=true) ⟨o,ho,hc⟩ isSubtype_stop (wpAny_pure (hE hx h' λb o nb e=>hk b o nb e)))
end
def Ite(K:PySem.W.Frag)(t:Bool)(a:Addr):It :=
 ⟨λi H=>∃xs,SqH K H t a xs/\i<xs.length,
  λi H x H'=>∃q u,(∀xs,SqH K H t a xs->xs[i]?=some u)/\H q=none/\H'=upd H q (.tup [.int i,u])/\x=.ref q,
  λi H=>∃xs,SqH K H t a xs/\xs.length<=i⟩
def ESt(e it:Addr)(t:Bool)(a:Addr)(i:Nat)(h:Heap):Prop:=(∃old,IsEnum h e it i old)/\ItA t h it a i
theorem zCU{P:Program}{w:World}{K:PySem.W.Frag}{elts:List Expr}{x1}{pos:Pos}{e it:Addr}(ne:e≠it)(t:Bool)(a:Addr):Turn P w K (.Tuple elts x1 pos) (Ite K t a) [e,it] e (ESt e it t a) where
 mem:=by simp
 obj:=λi h st c hc=>by
  obtain⟨⟨old,he⟩,h1⟩:=st;simp only[mem_cons,mem_nil_iff,or_false]at hc;rcases hc with rfl|rfl
  ·exact⟨_,he,λv z=>by cases z⟩
  ·exact ZB h1
 keep:=λi h h' st k=>by
  obtain⟨⟨old,he⟩,h1⟩:=st;exact⟨⟨old,k e (by simp) _ he⟩,vg h1 λo q=>k it (by simp) o q⟩
 item:=by
  intro X hP hw hK hc i pins s σ H E I hf st hg;subst hP hw hK;obtain⟨⟨old,he⟩,h1⟩:=st;obtain⟨xs,q1,l1⟩:=hg;obtain⟨us,r1,p1⟩:=wu I q1;have na:∀c∈[e,it],a≠c:=λc hc=>vf I q1 (hf c hc)
  have hh:X.A.in1.handled=none:=I.ok.hd hc;obtain⟨u,eu⟩:∃u,xs[i]?=some u:=⟨_,getElem?_eq_getElem l1⟩;obtain⟨u',eu',ru⟩:=r1.get eu;refine Gw (srcA hh t (na it (by simp)) us.toArray) ne (na e (by simp)) he ⟨h1,p1⟩ (λx hx h' o1 s1 pq kk=>?_) (λhx=>?_)
  ·have ex:x=u':=by simp[eu']at hx;exact hx.symm
   subst ex;refine⟨_,rfl,wpAny_letOwnedTupleGo_enum o1 λh2 z2 b2=>?_⟩;have lt:∀{c o},s.heap.get? c=some o->s.heap.objs.size≠c:=λq=>ne_of_gt (lt_size q)
   have pq2:IsPair h2 s.heap.objs.size (.int i s.toks) x:=b2.extBut _ _ (lt he) pq;have k2:∀c o,c∉[e,it]->s.heap.get? c=some o->h2.get? c=some o:=λc o hc q=>b2.extBut _ _ (λz=>hc (by simp[z])) (kk c o (λz=>hc (by simp[z])) (λz=>hc (by simp[z])) q)
   have new:JE X.prog X.w (upd H s.heap.objs.size (.tup [.int i,u])) h2 s.heap.objs.size (.tup [.int i,u]):=⟨by simp[sizeLine_eq],[.int i s.toks,x],.cons ⟨_,rfl⟩ (.cons ru .nil),⟨_,pq2,rfl,_,rfl⟩⟩;have I2:=I.turnLay (t':=s.toks+1) hf k2 (le_refl _) new;have fresh:H s.heap.objs.size=none:=I.hok.fresh (le_refl _);refine⟨.ref s.heap.objs.size,_,I2,rfl,⟨_,u,λzs hz=>by rw[Qj I hz q1];exact eu,fresh,rfl,rfl⟩,⟨⟨_,by have:=z2;simpa using this⟩,vg s1.1 λo q=>b2.extBut _ _ ne.symm q⟩,λc hc=>?_⟩;have:c≠s.heap.objs.size:=λq=>by
    obtain⟨o,e⟩:∃o,s.heap.get? c=some o:=by
     simp only[mem_cons,mem_nil_iff,or_false]at hc;rcases hc with rfl|rfl
     ·exact⟨_,he⟩
     ·obtain⟨o,e,_⟩:=ZB h1;exact⟨o,e⟩
    exact lt e q.symm
   rw[z9 this];exact(hf c hc).1
  ·exfalso
   simp[eu']at hx
 done:=by
  intro X hP hw hK hc i pins s σ H E I hf st hg;subst hP hw hK;obtain⟨⟨old,he⟩,h1⟩:=st;obtain⟨xs,q1,l1⟩:=hg;obtain⟨us,r1,p1⟩:=wu I q1;have na:∀c∈[e,it],a≠c:=λc hc=>vf I q1 (hf c hc)
  have hh:X.A.in1.handled=none:=I.ok.hd hc;have e1:=r1.length;refine Gw (srcA hh t (na it (by simp)) us.toArray) ne (na e (by simp)) he ⟨h1,p1⟩ (λx hx=>?_) (λhx h' kk=>⟨rfl,?_⟩)
  ·exfalso
   simp at hx
   have a1:=(List.getElem?_eq_some_iff.mp hx).1;omega
  ·exact I.turnL (t':=s.toks) hf λc o hc q=>kk c o (λz=>hc (by simp[z])) q
 self:=λ_ _ _ _ _ st h=>by
  obtain⟨⟨old,he⟩,_⟩:=st;exact wpAny_pyIter_enum he h
end DV
namespace DV
open PySem L2 PySem.Spec PyProof.Rows
open AutoSeq1 (wpAny_loadPart')
abbrev enH(h:Heap)(c:String)(l:Addr):Heap:=(h.push (itO c l)).push {cls:=.type "enumerate",data:=.fields #[.none,.bool false,.ref h.objs.size,rawInt 0,.none,.none]}
theorem en_newT(l:Addr)(items:Array Value)(n:Nat)(dd:Option Addr)(sl:Array (Option Value)) :
  Meets (Builtin.«enumerate.__new__» ⟨[.type "enumerate",.ref l],[]⟩) (λ_ R s=>s.heap.get? l=some {cls:=.type "tuple",dict:=dd,data:=.seq items n,slots:=sl}/\R (.ok (.ret (.ref (s.heap.push (itO "tuple_iterator" l)).objs.size))) {s with heap:=enH s.heap "tuple_iterator" l}) :=
 .of_wp λprog w A R s h=>by
  obtain⟨hp,g,d,tk,os⟩:=s;obtain⟨hl,h⟩:=h;have hs:=sub_enumerate;have a1:Heap.IsTuple (Shared.heap ⟨hp,g,d,tk,os⟩) l items:=⟨_,hl,rfl,n,rfl⟩
  wp_walk using wpAny_loadPart' hl
  refine wpAny_stack_any λst=>wpAny_pure ?_
  split
  ·rename_i c _ _ _ _ _
   cases (c==Value.type "enumerate")<;>(wp_walk using wpAny_loadPart' hl,wpAny_pyIter_tuple a1;exact⟨_,rfl,h⟩)
  ·wp_walk using wpAny_loadPart' hl,wpAny_pyIter_tuple a1;exact⟨_,rfl,h⟩
section
variable{prog:Program}{w:World}{A:Around}{E:Value->Shared->Prop}{s:Shared}
structure En(h h':Heap)(c:String)(l:Addr):Prop where
 e:IsEnum h' (h.objs.size+1) h.objs.size 0 .none
 i:h'.get? h.objs.size=some (itO c l)
 kp:∀b o,h.get? b=some o->h'.get? b=some o
theorem en_call{t:Bool}{l:Addr}{xs:Array Value}{Q:Value->Shared->Prop}(h1:SqO s.heap t l xs)(h:∀h',(IsEnum h' (s.heap.objs.size+1) s.heap.objs.size 0 .none)->ItA t h' s.heap.objs.size l 0->(∀b o,s.heap.get? b=some o->h'.get? b=some o)->Q (.ref (s.heap.objs.size+1)) {s with heap:=h'}):wpAny (model prog w) A (call (.type "enumerate") [.ref l]) Q E s:=by
 cases t with
 |false =>
  exact call_enumerate_list h1 λh' a b c k=>h h' a b k
 |true =>
  obtain⟨⟨cl,dd,da,sl⟩,e,c,n,d⟩:=(h1:s.heap.IsTuple l xs);simp only at c d;subst c d;refine callType_new F.called_enumerate (by decide) (F.typeCall_enumerate_1 _) (F.newCall_enumerate_1 _) (λobj=>F.args_object_init_2 obj _) F.entry_enumerate_new (en_newT l xs n dd sl) ⟨e,?_⟩;have hz:(s.heap.push (itO "tuple_iterator" l)).objs.size=s.heap.objs.size+1:=size_push ..;have g1:(enH s.heap "tuple_iterator" l).get? (s.heap.push (itO "tuple_iterator" l)).objs.size=some _:=get?_push_size _ rfl;rw[hz]at g1;show _/\_;rw[hz];exact⟨⟨_,g1,rfl⟩,h _ g1 ⟨_,get?_push_of_some _ (get?_push_size _ rfl),rfl,rfl⟩ λb o x=>get?_push_of_some _ (get?_push_of_some _ x)⟩
end
section
variable{X:Cx}{K:PySem.W.Frag}{mg:Str->Option Value}{σ:L2.St}{H:Hp}
def iEnum(K:PySem.W.Frag)(t:Bool)(ta:TA):TI:=λσ H R=>ta σ H λvs H1=>∃a xs,vs=[.ref a]/\SqH K H1 t a xs/\R (Ite K t a) H1
theorem bt_enum:bootBuiltins "enumerate"=some (.type "enumerate"):=by decide +kernel
theorem pi_enum{t:Bool}{e:Expr}{ta:TA}{elts:List Expr}{x1}{tp p pos:Pos}(hg:Gl X "enumerate")(hm:X.mg "enumerate"=none)(ha:PA X [e] ta)(hs:starEach [e] X.env=[(false,eval e X.env)]:=by rfl) :
  PI X (.Tuple elts x1 tp) (.Call (.Name "enumerate" p) [e] [] pos) (iEnum X.K t ta):=by
 intro pins s σ H R I h;refine Call_ (Jw I hg hm bt_enum (PyProof.Rows.callWith_type1 (thn (ha pos pins s σ H _ I h) λus s1 ⟨vs,H1,I1,r1,q1⟩=>?_) hs rfl));obtain⟨a,xs,ev,qa,q⟩:=q1;subst ev;cases r1 with
 |cons r rr =>
  cases rr;cases r;obtain⟨u1,v1,p1⟩:=wu I1 qa;refine en_call p1 λh' z0 z1 kp=>?_
  refine wpAny_pyIter_enum (s:={s1 with heap:=h'}) z0 ?_
  have fr:∀c,s1.heap.objs.size<=c->QT X pins H1 c:=λc hc=>I1.fpOk hc (I1.hok.fresh hc)
  have nn:s1.heap.objs.size+1≠s1.heap.objs.size:=λz=>by have:=Nat.succ_ne_self s1.heap.objs.size;exact this z
  refine⟨_,[s1.heap.objs.size+1,s1.heap.objs.size],_,_,H1,rfl,I1.kept (t':=s1.toks) kp,zCU nn t a,⟨⟨_,z0⟩,z1⟩,λc hc=>?_,q⟩;simp only[mem_cons,mem_nil_iff,or_false]at hc;rcases hc with rfl|rfl
  ·exact fr _ (le_succ _)
  ·exact fr _ (le_refl _)
def GH:Nat->List D->List D
 |_,[]=>[]
 |n,d::ds=>.tup [.int (n:Int),d]::GH (n+1) ds
theorem uX:∀(ds:List D) (n:Nat),(GH n ds).length=ds.length
 | [],_=>rfl
 |d::ds,n=>by simp[GH,uX ds]
theorem zAT:∀(ds:List D) (n i:Nat) (d:D),ds[i]?=some d->(GH n ds)[i]?=some (.tup [.int ((n+i:Nat):Int),d])
 | [],_,_,_,h=>by simp at h
 |e::ds,n,0,d,h=>by simp at h;subst h;simp[GH]
 |e::ds,n,i+1,d,h=>by
  simp only[List.getElem?_cons_succ]at h;have:=zAT ds (n+1) i d h;simp only[GH,List.getElem?_cons_succ];rw[this,show n+1+i=n+(i+1)by omega]
theorem it_enum{t:Bool}{a:Addr}{xs:List V}{ds:List D}:ItOk K mg (Ite K t a) (GH 0 ds) (λH=>SqH K H t a xs/\Reps K mg H ds xs) where
 mono:=λH H' s h=>⟨yZ s h.1,h.2.mono s⟩
 go:=λi Hh H s h hi=>by
  rw[uX]at hi;exact⟨xs,yZ s h.1,by rw[h.2.length];omega⟩
 yld:=λi Hh H x H' s h hi y=>by
  obtain⟨q,u,h1,hq,rfl,rfl⟩:=y;have e1:=h1 xs (yZ s h.1);obtain⟨d,g1,r1⟩:=h.2.get e1;refine⟨_,zAT ds 0 i d g1,.inr ⟨q,[.int (i:Int),u],[.int ((0+i:Nat):Int),d],hq,rfl,rfl,rfl,Reps.cons (by rw[zero_add];simp only[Rep]) (Reps.cons r1 Reps.nil)⟩⟩
 stop:=λi Hh H s h hi=>by
  rw[uX]at hi;exact⟨xs,yZ s h.1,by rw[h.2.length];omega⟩
def iE(t:Bool)(m:MA):MI:=λE=>match m E with
 | .stuck=>.stuck
 | .exc x E1=>.exc x E1
 | .ok ([r],E1)=>match zCT t r.d with
  |some ds=>.ok (GH 0 ds,E1)
  |none=>.stuck
 |_=>.stuck
theorem io_enum{t:Bool}{a:Expr}{m:MA}{elts:List Expr}{x1}{tp p cpos:Pos}(hgl:Gl X "enumerate")(hm:X.mg "enumerate"=none)(ha:AOk X [a] m)(hst:zL a=false:=by rfl) :
  IOk X (.Tuple elts x1 tp) (.Call (.Name "enumerate" p) [a] [] cpos) (iE t m):=ZW (pi_enum hgl hm ha (Qc hst)) λσ H R ⟨M,E,hl,fr,k⟩=>by
 unfold iE at k;refine wN (T0:=[]) hl fr ?_;cases ea:m E with
 |stuck=>rw[ea]at k;exact k
 |exc x E1=>rw[ea]at k;exact k
 |ok p =>
  obtain⟨rs,E1⟩:=p;rw[ea]at k
  match rs,k with
  | [r],k =>
   intro vs H1 hv g1;have rp:=Got.reps hv g1;dsimp only at k;cases ed:zCT t r.d with
   |none=>rw[ed]at k;exact k.elim
   |some ds =>
    rw[ed]at k;simp only[List.map]at rp;obtain⟨v,rfl,h1⟩:=J9 rp;obtain⟨c,xs,rfl,c1,c2⟩:=Ql ed h1;exact⟨c,xs,rfl,yZ zO c1,k _ _ H1 it_enum ⟨c1,c2⟩ g1.dropAll⟩
  | [],k=>exact k.elim
  |_::_::_,k=>exact k.elim
end
end DV
namespace PySem
open Sem (wp)
open AutoSeq1 (wpAny_loadPart')
section
variable{prog:Program}{w:World}{A:Around}{E:Value->Shared->Prop}{s:Shared}
end
end PySem
namespace L2
open PySem PySem.Spec PyProof.Rows
section
variable{X:Cx}
end
end L2
namespace DV
open PySem L2
section
variable{X:Cx}
end
end DV
namespace DV
open PySem L2
section
variable{X:Cx}{K:PySem.W.Frag}{mg:Str->Option Value}{σ σ1:St}{M:Addr->Prop}{E E1:zP}{H H1:Hp}
end
end DV
namespace DV
open PySem L2
section
variable{X:Cx}{K:PySem.W.Frag}{mg:Str->Option Value}{P P':Addr->Prop}{H:Hp}{a:Addr}{xs:List V}
def zEV(mi:MI)(tg:MG)(body:MS):MS:=λE=>match mi E with
 | .exc x E1=>.exc x E1
 |_=>(match sForI mi tg body E with
  | .exc _ _=>.stuck
  |o=>o)
theorem ps_forX{tg iter:Expr}{body:List Stmt}{wi:TI}{pos:Pos}(hi:PI X tg iter wi)(hs:∀x,foldedSetIterable iter X.env x=pure x):PS X (.For tg iter body [] pos) (λD σ H=>wi σ H λ_ _=>False):=by
 intro pins s σ H D I h;refine wpAny_For (thn (hi pins s σ H _ I h) λv s1 h1=>thn h1 λitv s2 h2=>?_) hs;obtain⟨it,fp,tn,J,H2,e,I2,T,st2,f2,f⟩:=h2;exact f.elim
def tPar3(i j l:Nat)(ta:TA):TS:=λD σ H=>ta σ H λvs H1=>∃v w u,vs=[v,w,u]/\D.nx (((σ.set i (some v)).set j (some w)).set l (some u)) H1
open PySem.Spec PyProof.Rows in
theorem ps_par3{i j l:Nat}{x y z:Str}{a b c:Expr}{ta:TA}{px py pz pt pos:Pos}{kt k2:Nat}{pt2:Pos}(hc:X.calm=true)(hN:X.N.Nodup)(hi:X.N[i]?=some x)(hj:X.N[j]?=some y)(hl:X.N[l]?=some z)(hij:i≠j)(hil:i≠l)(hjl:j≠l)
  (hx:X.env.scope.names.lookup x=some .local) (hy:X.env.scope.names.lookup y=some .local) (hz:X.env.scope.names.lookup z=some .local) (ha:PA X [a,b,c] ta)
  (hw:swappedStores [.Tuple [.Name x px,.Name y py,.Name z pz] kt pt] (.Tuple [a,b,c] k2 pt2) X.env=pure (some [x,y,z]))
  (hs:swapsWithSole [.Tuple [.Name x px,.Name y py,.Name z pz] kt pt] (.Tuple [a,b,c] k2 pt2) pos.line X.env=pure false) :
  PS X (.Assign [.Tuple [.Name x px,.Name y py,.Name z pz] kt pt] (.Tuple [a,b,c] k2 pt2) pos) (tPar3 i j l ta):=by
 intro pins s σ H D I h;rw[exec_Assign_arm];refine wpAny_bind (wpAny_standAt ?_);rw[hs];refine wpAny_bind (wpAny_pure ?_);rw[if_neg (by decide)];refine wpAny_bind (Tuple_ (thn (ha _ pins s σ H _ I h) λus s1 ⟨vs,H1,I1,r1,q1⟩=>?_));obtain⟨v,w,u,e1,q1⟩:=q1;subst e1;obtain⟨u1,u2,u3,rfl,rv,rw',ru⟩:∃u1 u2 u3,us=[u1,u2,u3]/\yU v u1/\yU w u2/\yU u u3:=by
  cases r1 with
  |cons p q =>
   cases q with
   |cons p' q' =>
    cases q' with
    |cons p'' q'' =>
     cases q'';exact⟨_,_,_,rfl,p,p',p''⟩
 refine wpAny_newObj_type ?_ (by show 3<=sizeLine;decide);have I2:Inv X pins σ H1 {s1 with heap:=s1.heap.push {cls:=.type "tuple",data:=.seq [u1,u2,u3].toArray}}:=I1.kept (t':=s1.toks) λb o e=>get?_push_of_some _ e
 rw[hw];refine wpAny_bind (wpAny_pure ?_);show wpAny (model X.prog X.w) X.A (do rule "assign.swapped-stores";let items <- unpackItems (.ref s1.heap.objs.size) 3 none;assignInOrder [λv=>bindName X.env z v,λv=>bindName X.env y v,λv=>bindName X.env x v] items.reverse;pure Flow.next) _ _ _;refine wpAny_bind (wpAny_rule (wpAny_bind (unpackItems_tuple (items:=#[u1,u2,u3]) (I.ok.hd hc) (IsTup.new s1.heap _) λh' hx'=>?_)));have I3:=I2.kept (h':=h') (t':=s1.toks) λb o e=>hx' b o (ne_of_lt (lt_size e)) e
 show wpAny _ _ (assignInOrder [λv=>bindName X.env z v,λv=>bindName X.env y v,λv=>bindName X.env x v] [u3,u2,u1] >>= λ_=>pure Flow.next) _ _ _
 refine wpAny_bind (assignInOrder_cons (wpAny_bindName (wA I3 hN hl (.inl hz) ru (λs2 I4=>?_) (.inr hz))));refine assignInOrder_cons (wpAny_bindName (wA I4 hN hj (.inl hy) rw' (λs3 I5=>?_) (.inr hy)));refine assignInOrder_cons (wpAny_bindName (wA I5 hN hi (.inl hx) rv (λs4 I6=>assignInOrder_nil (wpAny_pure ?_)) (.inr hx)));have e:((σ.set l (some u)).set j (some w)).set i (some v)=((σ.set i (some v)).set j (some w)).set l (some u):=by
  rw[set_comm _ _ (Ne.symm hij),set_comm (l:=σ) _ _ (Ne.symm hil),set_comm _ _ (Ne.symm hjl)]
 rw[e]at I6;exact⟨_,H1,I6,q1⟩
def sPar3(i j l:Nat)(m:MA):MS:=λE=>match m E with
 | .stuck=>.stuck
 | .exc x E1=>.exc x E1
 | .ok ([r1,r2,r3],E1)=>match gNs [i,j,l] [r1.d,r2.d,r3.d] E1 with
  | .ok E2=>.ok (.nx,E2)
  |_=>.stuck
 |_=>.stuck
theorem zCV{σ:St}{H:Hp}{i j l:Nat}{m:MA}{D:Ends}(h:tS X (sPar3 i j l m) D σ H):tPar3 i j l (tMA X m) D σ H:=by
 obtain⟨M,E,hl,fr,k⟩:=h;unfold sPar3 at k;refine wN (T0:=[]) hl fr ?_;cases ea:m E with
 |stuck=>rw[ea]at k;exact k
 |exc x E1=>rw[ea]at k;exact λH' g=>k σ H' g
 |ok p =>
  obtain⟨rs,E1⟩:=p;rw[ea]at k
  match rs,k with
  | [r1,r2,r3],k =>
   intro vs H1 hv g;dsimp only at k;cases eg:gNs [i,j,l] [r1.d,r2.d,r3.d] E1 with
   |stuck=>rw[eg]at k;exact k.elim
   |exc _ _=>rw[eg]at k;exact k.elim
   |ok E2 =>
    rw[eg]at k
    match vs,hv with
    | [v,w,u],_ =>
     have rp:=Got.reps rfl g;have g0:=g.dropAll;have q:=Yk (X:=X) [i,j,l] [r1.d,r2.d,r3.d] [v,w,u] (a:=0) (ts:=[]) (Q:=D.nx) (Got.refl (T0:=[]) g0.len g0.fr) rp eg λσ' g'=>k σ' H1 (g0.trans' g')
     obtain⟨v1,rr,e1,v2,rr2,e2,v3,rr3,e3,e4,q⟩:=q;cases e1;cases e2;cases e3;exact⟨v,w,u,rfl,q⟩
  | [],k=>exact k.elim
  | [_],k=>exact k.elim
  | [_,_],k=>exact k.elim
  |_::_::_::_::_,k=>exact k.elim
end
end DV
namespace DV
open PySem L2
section
variable{X:Cx}{σ:L2.St}{pins:List (Addr×Obj)}{H:Hp}{s:Shared}{K:PySem.W.Frag}{mg:Str->Option Value}
theorem MtM.or{id:String}{r r':V->List V->Hp->VK->Prop}(h:MtM X id r)(h':MtM X id r'):MtM X id (λx vs H Q=>r x vs H Q\/r' x vs H Q):=by
 intro pins s σ H x vs v us Q I rx rv q;rcases q with q|q
 ·exact h pins s σ H x vs v us Q I rx rv q
 ·exact h' pins s σ H x vs v us Q I rx rv q
end
end DV
namespace DV
open PySem L2 PyProof.Rows PySem.Calls
section
variable{prog:Program}{w:World}{A:Around}{R:Result->Shared->Prop}{I:Addr}{fp wr:List Addr}{n:Nat}{P:Nat->Value->Prop}{St:Nat->Heap->Prop}{J:Heap->Prop}
end
section
variable{prog:Program}{w:World}{A:Around}{E:Value->Shared->Prop}{s:Shared}
end
section
variable{X:Cx}{σ:L2.St}{pins:List (Addr×Obj)}{H:Hp}{s:Shared}{K:PySem.W.Frag}{mg:Str->Option Value}
end
end DV
namespace DV
open PySem L2
section
variable{X:Cx}{σ:L2.St}{pins:List (Addr×Obj)}{H:Hp}{s:Shared}
end
end DV
namespace DV
open PySem L2
section
variable{X:Cx}
end
end DV
namespace DV
open PySem L2
section
variable{X:Cx}{σ:L2.St}
end
end DV
namespace DV
open PySem PyProof.Rows
section
variable{prog:Program}{w:World}{A:Around}{E:Value->Shared->Prop}
variable{s:Shared}
end
end DV
namespace DV
open PySem L2
section
variable{X:Cx}{σ:L2.St}{H:Hp}
end
end DV
namespace DV
open PySem L2
section
variable{prog:Program}{w:World}{A:Around}{R:Result->Shared->Prop}{s:Shared}{elt t0 i0 t1 i1:Expr}{f0 f1:List Expr}{scope:Scope}{pos:Pos}{it acc:Value}{env:Env}
theorem start1(h0:codeAny (model prog w) A (.compLoop (.ListComp elt [⟨t0,i0,f0,0⟩,⟨t1,i1,f1,0⟩] scope pos) 1 it acc env) R s)
  (h:wpAny (model prog w) A (pyIter it) (λit' s'=>codeAny (model prog w) A (.compLoop (.ListComp elt [⟨t0,i0,f0,0⟩,⟨t1,i1,f1,0⟩] scope pos) 1 it' acc env) R s') (notedBy (model prog w) A env λx s'=>R (.error x) s') s) :
  codeAny (model prog w) A (.compStart (.ListComp elt [⟨t0,i0,f0,0⟩,⟨t1,i1,f1,0⟩] scope pos) 1 it acc env) R s:=by
 refine codeAny_of_tree (wpAny_notedAt ?_);refine wpAny_bind (wpAny_askSetting (wpAny_ite ?_));split
 ·exact wpAny_bind (wpAny_pure (wpAny_pure ⟨rfl,h0⟩))
 ·exact wpAny_bind (wpAny_rule (wpAny_bind (wpAny_standAt (wpAny_bind (wpAny_mono h (λit' s' h'=>wpAny_pure ⟨rfl,h'⟩) λx x_1 x_2=>x_2)))))
theorem turn2_0:compTurn (.ListComp elt [⟨t0,i0,f0,0⟩,⟨t1,i1,f1,0⟩] scope pos) 0 it acc env=(do
  standAt i0.pos
  let r <- pyNext it
  match r with
  |none=>pure (.done .next)
  |some v=>do
   letOwnedTupleGo t0 it v
   assign t0 env v
   let ok <- forIn f0 true λc r=>if r=true then do let ok <- isTrue c env (eval c env);pure (ForInStep.yield ok)else pure (ForInStep.yield r)
   if ok=true then do
    let x <- eval i1 env
    standAt i1.pos
    let x <- foldedSetIterable i1 env x
    let j <- holding [x] (pyIter x)
    let _ <- runOwn (.compStart (.ListComp elt [⟨t0,i0,f0,0⟩,⟨t1,i1,f1,0⟩] scope pos) 1 j acc env) env
    again (.compLoop (.ListComp elt [⟨t0,i0,f0,0⟩,⟨t1,i1,f1,0⟩] scope pos) 0 it acc env)
   else again (.compLoop (.ListComp elt [⟨t0,i0,f0,0⟩,⟨t1,i1,f1,0⟩] scope pos) 0 it acc env)):=rfl
theorem turn2_1:compTurn (.ListComp elt [⟨t0,i0,f0,0⟩,⟨t1,i1,f1,0⟩] scope pos) 1 it acc env=(do
  standAt i1.pos
  let r <- pyNext it
  match r with
  |none=>pure (.done .next)
  |some v=>do
   letOwnedTupleGo t1 it v
   assign t1 env v
   let ok <- forIn f1 true λc r=>if r=true then do let ok <- isTrue c env (eval c env);pure (ForInStep.yield ok)else pure (ForInStep.yield r)
   if ok=true then do
    (do let x <- eval elt env;let _ <- call (.builtin "list.append") [acc,x];pure ())
    again (.compLoop (.ListComp elt [⟨t0,i0,f0,0⟩,⟨t1,i1,f1,0⟩] scope pos) 1 it acc env)
   else again (.compLoop (.ListComp elt [⟨t0,i0,f0,0⟩,⟨t1,i1,f1,0⟩] scope pos) 1 it acc env)):=rfl
theorem loopG{gens:List Comprehension}{d:Nat}{p:Pos}{t:Expr}{fs:List Expr}{act:Sem PySem.Fin->Sem PySem.Fin}
  (hT:compTurn (.ListComp elt gens scope pos) d it acc env=(do
   standAt p
   let r <- pyNext it
   match r with
   |none=>pure (.done .next)
   |some v=>do
    letOwnedTupleGo t it v
    assign t env v
    let ok <- forIn fs true λc r=>if r=true then do let ok <- isTrue c env (eval c env);pure (ForInStep.yield ok)else pure (ForInStep.yield r)
    if ok=true then act (again (.compLoop (.ListComp elt gens scope pos) d it acc env))else again (.compLoop (.ListComp elt gens scope pos) d it acc env)))
  (I:Nat->Shared->Prop)
  (turn:∀n s,I n s->wpAny (model prog w) A (pyNext it) (λr s₁=>match r with
   |none=>R (.ok .next) s₁
   |some v=>wpAny (model prog w) A (letOwnedTupleGo t it v) (λ_ s₁=>wpAny (model prog w) A (assign t env v) (λ_ s₂ =>
     wpAny (model prog w) A (forIn fs true λc r=>if r=true then do let ok <- isTrue c env (eval c env);pure (ForInStep.yield ok)else pure (ForInStep.yield r)) (λok s₃ =>
      if ok=true then ∀(k:Sem PySem.Fin) (Q:PySem.Fin->Shared->Prop),(∀s',(∃m,m<n/\I m s')->wpAny (model prog w) A k Q (notedBy (model prog w) A env λe s'=>R (.error e) s') s')->wpAny (model prog w) A (act k) Q (notedBy (model prog w) A env λe s'=>R (.error e) s') s₃
      else ∃m,m<n/\I m s₃) (notedBy (model prog w) A env λe s'=>R (.error e) s') s₂) (notedBy (model prog w) A env λe s'=>R (.error e) s') s₁) (notedBy (model prog w) A env λe s'=>R (.error e) s') s₁) (notedBy (model prog w) A env λe s'=>R (.error e) s') s)
  (n:Nat) (h:I n s):codeAny (model prog w) A (.compLoop (.ListComp elt gens scope pos) d it acc env) R s:=by
 refine codeAny_loop rfl I (λn s hI=>?_) n h;show wpAny _ A ((compTurn (.ListComp elt gens scope pos) d it acc env).onRaise (λx=>do noteFrame x env;theTreesLotGoes x)) _ _ s;refine wpAny_noted ?_;rw[hT];refine wpAny_bind (wpAny_standAt (wpAny_bind (wpAny_mono (turn n s hI) (λr s₁ h₁=>?_) λ_ _ h'=>h')));cases r with
 |none=>exact wpAny_pure h₁
 |some v =>
  refine wpAny_bind (wpAny_mono h₁ (λ_ s₁' h₁'=>?_) λ_ _ h'=>h');refine wpAny_bind (wpAny_mono h₁' (λ_ s₂ h₂=>wpAny_bind (wpAny_mono h₂ (λok s₃ h₃=>?_) λ_ _ h'=>h')) λ_ _ h'=>h');cases ok with
  |false=>exact wpAny_pure ⟨rfl,h₃⟩
  |true=>exact h₃ _ _ λs' q=>wpAny_pure ⟨rfl,q⟩
end
abbrev TA:=Addr->St->Hp->(St->Hp->Prop)->Prop
def PA(Y:Cx)(act:Value->Env->Sem PySem.Fin->Sem PySem.Fin)(ta:TA):Prop:=∀(D:Addr) (pins:List (Addr×Obj)) (s:Shared) (σ:St) (H:Hp) (Nx:St->Hp->Prop) (k:Sem PySem.Fin) (Q:PySem.Fin->Shared->Prop) (E:Value->Shared->Prop),Inv Y pins σ H s->ta D σ H Nx ->
 (∀σ' H' s',Inv Y pins σ' H' s'->Nx σ' H'->wpAny (model Y.prog Y.w) Y.A k Q E s')->wpAny (model Y.prog Y.w) Y.A (act (.ref D) Y.env k) Q E s
def act1(elt:Expr):Value->Env->Sem PySem.Fin->Sem PySem.Fin:=λacc env k=>do
 (do let x <- eval elt env;let _ <- call (.builtin "list.append") [acc,x];pure ())
 k
def act2(elt t0 i0:Expr)(f0:List Expr)(t1 i1:Expr)(f1:List Expr)(scope:Scope)(pos:Pos):Value->Env->Sem PySem.Fin->Sem PySem.Fin:=λacc env k=>do
 let x <- eval i1 env
 standAt i1.pos
 let x <- foldedSetIterable i1 env x
 let j <- holding [x] (pyIter x)
 let _ <- runOwn (.compStart (.ListComp elt [⟨t0,i0,f0,0⟩,⟨t1,i1,f1,0⟩] scope pos) 1 j acc env) env
 k
def ta1(te:TE):TA:=λD σ H Nx=>te σ H λy H4=>∃ys,H4 D=some (.lst ys)/\ys.length<sizeLine/\Nx σ (upd H4 D (.lst (ys++[y])))
def taL(wi:TI)(g:TG)(tt:TT)(ta:TA):TA:=λD σ H Nx=>wi σ H λJ H1=>∃W:Nat->Nat->St->Hp->Prop,(∃m,W 0 m σ H1)/\∀i m σ' H',W i m σ' H' ->
 (J.stop i H'/\Nx σ' H')\/(J.go i H'/\∃N2:St->Hp->Prop,(∀σ'' H'',N2 σ'' H''->∃m',m'<m/\W (i+1) m' σ'' H'')/\∀x H'',J.yld i H' x H''->g x σ' H'' λσ2 H2 =>
  tt σ2 H2 λb H3=>if b=true then ta D σ2 H3 N2 else N2 σ2 H3)
def zAU(nl:Nat)(caps:List Nat)(wi:TI)(g:TG)(tt:TT)(ta:TA):TE:=λσ H Q=>wi σ H λJ H1=>∀D,H1 D=none->∃W:Nat->Nat->St->Hp->Prop,(∃m,W 0 m (L2.zY nl caps σ) (upd H1 D (.lst [])))/\∀i m σ' H',W i m σ' H' ->
 (J.stop i H'/\Q (.ref D) H')\/(J.go i H'/\∃Nx:St->Hp->Prop,(∀σ'' H'',Nx σ'' H''->∃m',m'<m/\W (i+1) m' σ'' H'')/\∀x H'',J.yld i H' x H''->g x σ' H'' λσ2 H2 =>
  tt σ2 H2 λb H3=>if b=true then ta D σ2 H3 Nx else Nx σ2 H3)
theorem zFZ{Y:Cx}{elt:Expr}{te:TE}(hx:∀e s,¬Y.xe e s)(he:PE Y elt te):PA Y (act1 elt) (ta1 te):=λD pins s σ H Nx k Q E I h hk=>by
 unfold act1;refine wpAny_bind (wpAny_bind (wpAny_mono (he pins s σ H _ I h) (λy s10 h10=>?_) λ_ _ z=>absurd z (hx _ _)));obtain⟨vy,H10,I10,r10,ys,hy,hz,n10⟩:=h10;have ap:=WN (X:=Y) _ s10 σ H10 (.ref D) [vy] (.ref D) [y] (λv H'=>Nx σ H') I10 rfl (.cons r10 .nil) ⟨_,ys,vy,rfl,rfl,hy,hz,n10⟩;refine wpAny_bind (wpAny_mono ap (λ_ s11 h11=>?_) λ_ _ z=>absurd z (hx _ _));obtain⟨v11,H11,I11,_,n11⟩:=h11;exact wpAny_pure (hk σ H11 s11 I11 n11)
theorem zCW{Y:Cx}{elt t0 i0 t1 i1:Expr}{f0 f1:List Expr}{scope:Scope}{pos:Pos}{wi:TI}{g:TG}{tt:TT}{ta:TA}(hx:∀e s,¬Y.xe e s)(hc:Y.calm=true)(hi:PI Y t1 i1 wi)(hg:PG Y t1 g)(ht:zBP Y f1 tt)(he:PA Y (act1 elt) ta)
  (hs:∀x,foldedSetIterable i1 Y.env x=pure x):PA Y (act2 elt t0 i0 f0 t1 i1 f1 scope pos) (taL wi g tt ta):=λD pins s σ H Nx k Q E I h hk=>by
 unfold act2;refine wpAny_bind (wpAny_mono (hi pins s σ H _ I h) (λxv s1 h1=>wpAny_bind (wpAny_standAt ?_)) λ_ _ z=>absurd z (hx _ _));rw[hs];refine wpAny_bind (wpAny_pure (wpAny_bind (wpAny_holding (wpAny_mono h1 (λitv s2 h2=>wpAny_bind ?_) λ_ _ z=>absurd z (hx _ _)))));obtain⟨it,fp,tn,J,H2,e,I2,T,st2,f2,W,⟨m0,w0⟩,step⟩:=h2;subst e;have fpY:∀{H':Hp},(∀b∈fp,H' b=none)->∀b∈fp,QT Y pins H' b:=λhn b hb=>⟨hn b hb,(f2 b hb).2⟩
 have fin:∀R:Result->Shared->Prop,(∀σ' H' s',Inv Y pins σ' H' s'->Nx σ' H'->R (.ok .next) s')->codeAny (model Y.prog Y.w) Y.A (.compLoop (.ListComp elt [⟨t0,i0,f0,0⟩,⟨t1,i1,f1,0⟩] scope pos) 1 (.ref it) (.ref D) Y.env) R s2:=by
  intro R hR;refine loopG (act:=act1 elt (.ref D) Y.env) turn2_1 (λn s'=>∃i σ' H',Inv Y pins σ' H' s'/\tn i s'.heap/\(∀b∈fp,H' b=none)/\W i n σ' H') ?_ m0 ⟨0,σ,H2,I2,st2,λb hb=>(f2 b hb).1,w0⟩
  rintro n s5 ⟨i,σ5,H5,I5,st5,fr5,w5⟩
  rcases step i n σ5 H5 w5 with⟨stop,q⟩|⟨go,N2,hN,turn⟩
  ·refine wpAny_mono (T.done Y rfl rfl rfl hc i pins s5 σ5 H5 (λ_ _=>False) I5 (fpY fr5) st5 stop) (λr s6 h6=>?_) (λ_ _ z=>z.elim)
   obtain⟨hr,I6⟩:=h6;subst hr;exact hR σ5 H5 s6 I6 q
  ·refine wpAny_mono (T.item Y rfl rfl rfl hc i pins s5 σ5 H5 (λ_ _=>False) I5 (fpY fr5) st5 go) (λr s6 h6=>?_) (λ_ _ z=>z.elim)
   obtain⟨u,hr,h6⟩:=h6;subst hr;refine wpAny_mono h6 (λ_ s7 h7=>?_) (λ_ _ z=>z.elim);obtain⟨x,H7,I7,r7,y7,st7,fr7⟩:=h7;have I7':=I7.pinned (fpY fr7) (T.obj _ _ st7);refine wpAny_mono (hg _ s7 σ5 H7 x u _ I7' r7 (turn x H7 y7)) (λ_ s8 h8=>?_) (λ_ _ z=>absurd z (hx _ _));obtain⟨σ8,H8,I8,q8⟩:=h8;refine wpAny_mono (ht _ s8 σ8 H8 _ I8 q8) (λb s9 h9=>?_) (λ_ _ z=>absurd z (hx _ _));obtain⟨H9,I9,q9⟩:=h9;have again:∀{σ7:St} {H':Hp} {s':Shared},Inv Y (pins++WJ fp s7.heap) σ7 H' s'->N2 σ7 H'->∃m,m<n/\∃i σ' H',Inv Y pins σ' H' s'/\tn i s'.heap/\(∀b∈fp,H' b=none)/\W i m σ' H':=λ{σ7 H' s'} I' n7=>by
    obtain⟨m',hm,w7⟩:=hN σ7 H' n7;refine⟨m',hm,i+1,σ7,H',I'.unpinned,T.keep _ _ _ st7 λb hb o e=>(I'.pin (b,o) (mem_append_right _ (mem_append_right _ (yy hb e)))).1,λb hb=>?_,w7⟩;obtain⟨o,e,d⟩:=T.obj _ _ st7 b hb;exact(I'.pin (b,o) (mem_append_right _ (mem_append_right _ (yy hb e)))).2.1
   cases b with
   |false =>
    rw[if_neg Bool.false_ne_true]at q9 ⊢;exact again I9 q9
   |true =>
    rw[if_pos rfl]at q9 ⊢;exact λk Qk hk=>he D _ s9 σ8 H9 N2 k Qk _ I9 q9 λσ' H' s' I' n'=>hk s' (again I' n')
 have go:∀R:Result->Shared->Prop,(∀σ' H' s',Inv Y pins σ' H' s'->Nx σ' H'->R (.ok .next) s')->codeAny (model Y.prog Y.w) Y.A (.compStart (.ListComp elt [⟨t0,i0,f0,0⟩,⟨t1,i1,f1,0⟩] scope pos) 1 (.ref it) (.ref D) Y.env) R s2:=λR hR=>start1 (fin R hR) (T.self Y.A 0 _ _ _ st2 (fin R hR))
 exact wpAny_runOwn (go _ λσ' H' s' I' n'=>hk σ' H' s' I' n')
section
variable{X:Cx}{elt target iter:Expr}{ifs:List Expr}{scope:Scope}{pos:Pos}{nl:Nat}{caps:List Nat}{N':List Str}
theorem vh{wi:TI}{g:TG}{tt:TT}{ta:TA}{t1 i1:Expr}{f1:List Expr}{use:Option (Value->Sem Unit)}{QQ:Value->Shared->Prop}{pins:List (Addr×Obj)}{s:Shared}{σ:St}{H:Hp}{Q:VK}{p0:Pos}(hx:∀e s,¬X.xe e s)(hc:X.calm=true)(hkind:scope.kind=.function)(hnames:∀y∈scope.names,y.2=.local->scope.names.lookup y.1=some .local)(hcell:∀y∈scope.names,y.2=.cell->scope.names.lookup y.1=some .cell)
  (hfree:(scope.names.all λy=>y.2 != .free||X.env.kindOf y.1==some .cell)=true)
  (hlen:N'.length=nl+caps.length) (hcap:∀(i j:Nat),caps[i]?=some j->∃x,N'[nl+i]?=some x/\X.N[j]?=some x/\scope.names.lookup x=some .free)
  (hi:PI X target iter wi) (hg:∀cl C ex s H,PG (cxB X N' scope cl C ex s H) target g) (ht:∀cl C ex s H,zBP (cxB X N' scope cl C ex s H) ifs tt) (he:∀cl C ex s H,PA (cxB X N' scope cl C ex s H) (act2 elt target iter ifs t1 i1 f1 scope pos) ta)
  (hs:∀x,foldedSetIterable iter X.env x=pure x) (I:Inv X pins σ H s) (h:zAU nl caps wi g tt ta σ H Q)
  (hfin:∀(D C:Addr) (H5:Hp) (s6:Shared) (m6:Str->Option Value),Inv X pins σ H5 s6->QT X pins H5 C->s6.heap.Ns C m6->Q (.ref D) H5->compPost (model X.prog X.w) X.A X.xe use QQ (.ref D) C (.ok .next) s6) :
  wpAny (model X.prog X.w) X.A (comprehension (.ListComp elt [⟨target,iter,ifs,0⟩,⟨t1,i1,f1,0⟩] scope pos) scope X.env p0 (newList []) false (eval iter X.env) use) QQ X.xe s:=by
 have hfr:∀y∈scope.names,y.2=.free->X.env.kindOf y.1=some .cell:=λy hy e=>by
  have:=all_eq_true.mp hfree y hy;rw[e]at this;simpa using this
 have hcl:∀y∈scope.names,y.2=.free->∃c,X.env.cells.lookup y.1=some c:=λy hy e=>I.ok.has y.1 (.inl (hfr y hy e))
 have hclos:closureFor scope X.env=pure (QV X.env scope.names []):=by
  simp only[closureFor];rw[JZ scope.names [] hcl];rfl
 have cl1:∀x c,(QV X.env scope.names []).lookup x=some c->X.env.cells.lookup x=some c:=λx c e=>(jT scope.names [] x hcl (λ_ z=>by cases z)).1 c e
 have cl2:∀x,(∃y∈scope.names,y.1=x/\y.2=.free)->∃c,(QV X.env scope.names []).lookup x=some c:=λx q=>(jT scope.names [] x hcl (λ_ z=>by cases z)).2 (.inr q)
 generalize QV X.env scope.names []=cl at hclos cl1 cl2;refine wpAny_comprehension_free (use:=use) rfl hs hclos hkind hnames (thn (hi pins s σ H _ I h) λxv s1 h1=>thn h1 λitv s2 h2=>?_);obtain⟨it,fp,tn,J,H2,e,I2,T,st2,f2,turn⟩:=h2;subst e;refine wpAny_newObj_type (JC ?_) (by show(#[]:Array Value).size<=sizeLine;simp);dsimp only;generalize hH3:s2.heap.push {cls:=.type "list",dict:=none,data:=.seq ([]:List Value).toArray}=h3;have hC:h3.objs.size=s2.heap.objs.size+1:=by rw[<- hH3,size_push]
 have hD:H2 s2.heap.objs.size=none:=I2.hok.fresh (le_refl _);obtain⟨W,⟨m0,w0⟩,step⟩:=turn s2.heap.objs.size hD
 -- the state at the block's entry
 have I3:Inv X pins σ (upd H2 s2.heap.objs.size (.lst [])) {s2 with heap:=h3}:=by
  rw[<- hH3];exact I2.laid (t':=s2.toks) (λb o q=>get?_push_of_some _ q) (le_refl _) ⟨zero_le _,[],0,.nil,get?_push_size _ rfl⟩
 have hcfr:∀x,scope.names.lookup x=some .free->(x,NameKind.cell)∉scope.names:=λx e z=>by
  have:=hcell _ z rfl;rw[e]at this;cases this
 have szp:(h3.push {cls:=.type "dict",data:=.dict #[]}).objs.size=h3.objs.size+1:=size_push ..;have cw:∀x c,(cellsFrom (h3.objs.size+1) scope.names cl).lookup x=some c->cl.lookup x=some c\/((x,NameKind.cell)∈scope.names/\h3.objs.size+1<=c/\(pushCells (h3.push {cls:=.type "dict",data:=.dict #[]}) scope.names).IsCell c none):=λx c e=>by
  rw[<- szp]at e ⊢;exact Ym _ _ _ x c e
 have cfr:∀x,scope.names.lookup x=some .free->(cellsFrom (h3.objs.size+1) scope.names cl).lookup x=cl.lookup x:=λx e=>WX _ _ _ x (hcfr x e)
 have chas:∀x,scope.names.lookup x=some .cell->∃c,(cellsFrom (h3.objs.size+1) scope.names cl).lookup x=some c:=λx e=>by
  have:=cellsFrom_some scope.names (h3.objs.size+1) cl (x:=x) (.inl e);exact Option.isSome_iff_exists.mp this
 have clt:∀x c,cl.lookup x=some c->c<h3.objs.size:=λx c e=>by
  obtain⟨v,q⟩:=I3.cell x c (cl1 x c e);exact q.lt
 have cinj:=zAN scope.names (h3.objs.size+1) cl (λx y c e1 e2=>I.ok.inj x y c (cl1 x c e1) (cl1 y c e2)) λx c e=>lt_succ_of_lt (clt x c e)
 have hns₁:(pushCells (h3.push {cls:=.type "dict",data:=.dict #[]}) scope.names).Ns h3.objs.size λ_=>none:=(Heap.Ns.new h3 (.type "dict")).keeps (pushCells_keeps _ _)
 have old:∀b o,h3.get? b=some o->(pushCells (h3.push {cls:=.type "dict",data:=.dict #[]}) scope.names).get? b=some o:=λb o e=>pushCells_keeps _ _ b o (get?_push_of_some _ e)
 generalize hh1:pushCells (h3.push {cls:=.type "dict",data:=.dict #[]}) scope.names=h₁ at hns₁ old cw ⊢;generalize hcs:cellsFrom (h3.objs.size+1) scope.names cl=cs at cw cfr chas cinj ⊢;have fpD:∀b∈fp,b≠s2.heap.objs.size:=λb hb z=>by
  obtain⟨o,e,_⟩:=T.obj 0 s2.heap st2 b hb;subst z;exact absurd (lt_size e) (lt_irrefl _)
 have fp3:∀b∈fp,upd H2 s2.heap.objs.size (.lst []) b=none:=λb hb=>by rw[z9 (fpD b hb)];exact(f2 b hb).1
 have fpC:∀b∈fp,b≠h3.objs.size:=λb hb z=>by
  obtain⟨o,e,_⟩:=T.obj 0 s2.heap st2 b hb;have q:b<s2.heap.objs.size:=lt_size e;rw[z,hC]at q;exact absurd q (not_lt.mpr (le_succ _))
 have hCn:upd H2 s2.heap.objs.size (.lst []) h3.objs.size=none:=I3.hok.fresh (le_refl _);have fpok:∀b∈fp,(b∈X.ex\/X.s₀.heap.objs.size<=b)/\b≠X.env.locals/\(∀x c,X.env.cells.lookup x=some c->c≠b)/\∀p∈X.pn++pins,p.1≠b:=λb hb=>by
  obtain⟨_,q2,_,q4,q5,q6⟩:=f2 b hb;exact⟨q4,q2,q5,q6⟩
 have fpH:∀b∈fp,b<h3.objs.size:=λb hb=>by
  obtain⟨o,e,_⟩:=T.obj 0 s2.heap st2 b hb;have q:b<s2.heap.objs.size:=lt_size e;rw[hC];exact lt_succ_of_lt q
 have fpcs:∀b∈fp,∀x c,cs.lookup x=some c->c≠b:=λb hb x c e=>by
  rcases cw x c e with q|⟨_,q,_⟩
  ·exact(fpok b hb).2.2.1 x c (cl1 x c q)
  ·intro z;subst z
   exact absurd (lt_of_lt_of_le (fpH _ hb) (Nat.le_of_succ_le q)) (lt_irrefl _)
 let Y:Cx:=cxB X N' scope cs h3.objs.size fp {s2 with heap:=h3} (upd H2 s2.heap.objs.size (.lst []))
 have kindY:∀x k,Y.env.kindOf x=some k->∃k0,scope.names.lookup x=some k0/\(k=k0\/(k0=.free/\k=.cell)):=λx k e=>wP e
 have okY:Y.Ok:={
  mod:=I.ok.mod
  kind:=hkind
  glob:=I.ok.glob
  blt:=I.ok.blt
  above:=le_refl _
  inj:=cinj
  has:=λx q=>by
   have:scope.names.lookup x=some .cell\/scope.names.lookup x=some .free:=by
    rcases q with q|q
    ·obtain⟨k0,e,z⟩:=kindY x _ q
     rcases z with z|z
     ·subst z;exact .inl e
     ·rw[z.1]at e;exact .inr e
    ·obtain⟨k0,e,z⟩:=kindY x _ q
     rcases z with z|z
     ·subst z;exact .inr e
     ·rw[z.1]at e;exact .inr e
   rcases this with q|q
   ·exact chas x q
   ·obtain⟨c,e⟩:=cl2 x ⟨(x,.free),PySem.mem_of_lookup q,rfl,rfl⟩
    exact⟨c,by show cs.lookup x=_;rw[cfr x q];exact e⟩
  cab:=λx c z e=>by
   have z:scope.names.lookup x=some .cell:=by
    have z:(scope.names.lookup x==some NameKind.cell)=true:=z;simpa using z
   have e:cs.lookup x=some c:=e;rw[<- hcs]at e;exact le_trans (le_succ _) (zAM _ _ _ x c (PySem.mem_of_lookup z) e)
  hd:=I.ok.hd
  frames:=I.ok.frames
  stk:=.inl rfl
  exf:=λb hb=>⟨fpC b hb,fpcs b hb⟩
  bs:=λb o e=>I3.bs b o e
  bsz:=le_trans I.ok.bsz I3.sz
  noex:=λb o e hb=>by
   obtain⟨q,_⟩:=fpok b hb;rcases q with q|q
   ·exact I.ok.noex b o e q
   ·exact absurd (lt_of_lt_of_le (lt_size e) I.ok.bsz) (not_lt.mpr q)
  exfs:=λb hb z=>by
   have:=I2.stkSub b z;rcases mem_cons.mp this with q|q
   ·exact(fpok b hb).2.1 q
   ·exact(f2 b hb).2.2.1 q
  funs:=I3.stack
  frf:=I3.stkFree}
 have keep1:∀b o,h3.get? b=some o->h₁.get? b=some o:=old;have lenY:(L2.zY nl caps σ).length=N'.length:=by unfold L2.zY;simp[hlen]
 have IY:Inv Y [] (L2.zY nl caps σ) (upd H2 s2.heap.objs.size (.lst [])) {s2 with heap:=h₁}:={
  ok:=okY
  os:=rfl
  bare:=I3.bare
  base:=Un.kept keep1
  loc:=by
   refine⟨_,hns₁,λi x v e1 e2 e3=>?_⟩;have e1:N'[i]?=some x:=e1;have hi:nl<=i:=by
    by_cases z:nl<=i
    ·exact z
    ·unfold L2.zY at e2
     rw[getElem?_append_left (by simp;omega),List.getElem?_replicate]at e2;split at e2<;>cases e2
   unfold L2.zY at e2;rw[getElem?_append_right (by simpa using hi),length_replicate,getElem?_map]at e2;cases ej:caps[i-nl]? with
   |none=>rw[ej]at e2;cases e2
   |some j =>
    rw[ej]at e2;simp only[Option.map_some,Option.some.injEq]at e2;obtain⟨x',c1,c2,c3⟩:=hcap (i-nl) j ej;have ex:x'=x:=by
     rw[show nl+(i-nl)=i by omega,e1]at c1;exact(Option.some.inj c1).symm
    subst ex;have e4:σ[j]?=some (some v):=by
     cases z:σ[j]? with
     |none=>rw[z]at e2;cases e2
     |some o=>rw[z]at e2;simp at e2;rw[e2]
    have kx:X.env.kindOf x'=some .cell:=hfr (x',.free) (PySem.mem_of_lookup c3) rfl;obtain⟨mm,_,lk⟩:=I3.loc;obtain⟨u,ru,lu⟩:=lk j x' v c2 e4 (.inr (.inl kx));refine⟨u,ru,?_⟩;rcases lu with⟨z,_⟩|⟨_,c,d1,d2⟩
    ·rw[kx]at z;cases z
    ·obtain⟨c',d3⟩:=cl2 x' ⟨(x',.free),PySem.mem_of_lookup c3,rfl,rfl⟩
     have:c'=c:=by have:=cl1 x' c' d3;rw[d1]at this;exact(Option.some.inj this).symm
     subst this;exact .inr ⟨.inl (JJ c3 I.ok.kind kx),c',by show cs.lookup _=_;rw[cfr x' c3];exact d3,d2.keeps old⟩
  cell:=λx c e=>by
   rcases cw x c e with e|⟨_,_,q⟩
   ·obtain⟨v,q⟩:=I3.cell x c (cl1 x c e)
    exact⟨v,q.keeps old⟩
   ·exact⟨_,q⟩
  free:=hCn
  freeC:=λx c e=>by
   rcases cw x c e with e|⟨_,q,_⟩
   ·exact I3.freeC x c (cl1 x c e)
   ·exact I3.hok.fresh (le_trans (le_succ _) q)
  pin:=λp hp=>absurd (show p∈([]:List (Addr×Obj))from hp) (by simp)
  hok:=I3.hok.kept old
  len:=lenY}
 have st1:tn 0 h₁:=T.keep 0 s2.heap h₁ st2 λb hb o e=>old b o (by rw[<- hH3];exact get?_push_of_some _ e)
 have fpY:∀{H':Hp},(∀b∈fp,H' b=none)->∀b∈fp,QT Y [] H' b:=λhn b hb =>
  ⟨hn b hb,fpC b hb,okY.exfs b hb,.inl hb,fpcs b hb,λp hp=>absurd (show p∈([]:List (Addr×Obj))from hp) (by simp)⟩
 have hA:Y.A=X.A:=rfl;have noE:∀{E':Value->Shared->Prop} {e:Value} {s:Shared},X.xe e s->E' e s:=λq=>absurd q (hx _ _)
 have fin:∀s₄:Shared,s₄={s2 with heap:=h₁} ->
   codeAny (model X.prog X.w) X.A (.compLoop (.ListComp elt [⟨target,iter,ifs,0⟩,⟨t1,i1,f1,0⟩] scope pos) 0 (.ref it) (.ref s2.heap.objs.size) Y.env)
    (compPost (model X.prog X.w) X.A X.xe use QQ (.ref s2.heap.objs.size) h3.objs.size) s₄:=by
  rintro s₄ rfl
  refine loopG (act:=act2 elt target iter ifs t1 i1 f1 scope pos (.ref s2.heap.objs.size) Y.env) turn2_0 (λn s'=>∃i σ' H',Inv Y [] σ' H' s'/\tn i s'.heap/\(∀b∈fp,H' b=none)/\W i n σ' H') ?_ m0 ⟨0,L2.zY nl caps σ,_,IY,st1,fp3,w0⟩
  rintro n s5 ⟨i,σ5,H5,I5,st5,fr5,w5⟩
  rcases step i n σ5 H5 w5 with⟨stop,q⟩|⟨go,Nx,hN,turn⟩
  ·refine wpAny_mono (T.done Y rfl rfl rfl hc i [] s5 σ5 H5 (λ_ _=>False) I5 (fpY fr5) st5 stop) (λr s6 ⟨hr,I6⟩=>?_) (λ_ _ z=>z.elim)
   subst hr;obtain⟨m6,n6,_⟩:=I6.loc;have u:Un (frs X.stack) fp (upd H2 s2.heap.objs.size (.lst [])) H5 h3 s6.heap:=I6.base;have I7:Inv X pins σ H5 s6:=I3.call' (s':=s6) (ch:=fp) I6.os u I6.hok I6.bare fpok;exact hfin _ _ H5 s6 m6 I7 (I3.fpOk (le_refl _) I6.free) n6 q
  ·refine wpAny_mono (T.item Y rfl rfl rfl hc i [] s5 σ5 H5 (λ_ _=>False) I5 (fpY fr5) st5 go) (λr s6 ⟨u,hr,h6⟩=>?_) (λ_ _ z=>z.elim)
   subst hr;refine wpAny_mono h6 (λ_ s7 ⟨x,H7,I7,r7,y7,st7,fr7⟩=>?_) (λ_ _ z=>z.elim);have I7':=I7.pinned (fpY fr7) (T.obj _ _ st7);refine wpAny_mono (hg _ _ _ _ _ _ s7 σ5 H7 x u _ I7' r7 (turn x H7 y7)) (λ_ s8 ⟨σ8,H8,I8,q8⟩=>?_) (λ_ _ z=>noE z);refine wpAny_mono (ht _ _ _ _ _ _ s8 σ8 H8 _ I8 q8) (λb s9 ⟨H9,I9,q9⟩=>?_) (λ_ _ z=>noE z);have again:∀{σ7:St} {H':Hp} {s':Shared},Inv Y ([]++WJ fp s7.heap) σ7 H' s'->Nx σ7 H'->∃m,m<n/\∃i σ' H',Inv Y [] σ' H' s'/\tn i s'.heap/\(∀b∈fp,H' b=none)/\W i m σ' H':=λ{σ7 H' s'} I' n7=>by
    obtain⟨m',hm,w7⟩:=hN σ7 H' n7;refine⟨m',hm,i+1,σ7,H',I'.unpinned,T.keep _ _ _ st7 λb hb o e=>(I'.pin (b,o) (mem_append_right _ (mem_append_right _ (yy hb e)))).1,λb hb=>?_,w7⟩;obtain⟨o,e,d⟩:=T.obj _ _ st7 b hb;exact(I'.pin (b,o) (mem_append_right _ (mem_append_right _ (yy hb e)))).2.1
   cases b with
   |false =>
    rw[if_neg Bool.false_ne_true]at q9 ⊢;exact again I9 q9
   |true =>
    rw[if_pos rfl]at q9 ⊢;exact λk Qk hk=>he _ _ _ _ _ _ _ s9 σ8 H9 Nx k Qk _ I9 q9 λσ' H' s' I' n'=>hk s' (again I' n')
 exact codeAny_compStart_list (fin _ rfl) (T.self X.A 0 _ _ _ st1 (fin _ rfl))
theorem zEW{wi:TI}{g:TG}{tt:TT}{ta:TA}{t1 i1:Expr}{f1:List Expr}(hx:∀e s,¬X.xe e s)(hc:X.calm=true)(hkind:scope.kind=.function)(hnames:∀y∈scope.names,y.2=.local->scope.names.lookup y.1=some .local)(hcell:∀y∈scope.names,y.2=.cell->scope.names.lookup y.1=some .cell)
  (hfree:(scope.names.all λy=>y.2 != .free||X.env.kindOf y.1==some .cell)=true)
  (hlen:N'.length=nl+caps.length) (hcap:∀(i j:Nat),caps[i]?=some j->∃x,N'[nl+i]?=some x/\X.N[j]?=some x/\scope.names.lookup x=some .free)
  (hi:PI X target iter wi) (hg:∀cl C ex s H,PG (cxB X N' scope cl C ex s H) target g) (ht:∀cl C ex s H,zBP (cxB X N' scope cl C ex s H) ifs tt) (he:∀cl C ex s H,PA (cxB X N' scope cl C ex s H) (act2 elt target iter ifs t1 i1 f1 scope pos) ta)
  (hs:∀x,foldedSetIterable iter X.env x=pure x:=by intro _;rfl):PE X (.ListComp elt [⟨target,iter,ifs,0⟩,⟨t1,i1,f1,0⟩] scope pos) (zAU nl caps wi g tt ta):=by
 intro pins s σ H Q I h;rw[eval_ListComp];refine vh (use:=none) hx hc hkind hnames hcell hfree hlen hcap hi hg ht he hs I h λD C H5 s6 m6 I7 f n6 q=>?_
 refine⟨m6,n6,λh' hs'=>?_⟩;obtain⟨f1,f2,f3,f4,f5,f6⟩:=f;exact⟨.ref D,H5,I7.turned (it:=C) (t':=s6.toks) (λb o hb e=>hs'.extBut b o hb e) f1 (λz=>f2 z) f4 f5 f6,rfl,q⟩
theorem zEX{i:Nat}{y:Str}{py spos:Pos}{wi:TI}{g:TG}{tt:TT}{ta:TA}{t1 i1:Expr}{f1:List Expr}(hN:X.N.Nodup)(hi':X.N[i]?=some y)(hy:Loc X.env.scope y)(hf:X.fn y=true\/X.env.scope.names.lookup y=some .local)(hx:∀e s,¬X.xe e s)(hc:X.calm=true)(hkind:scope.kind=.function)(hnames:∀y∈scope.names,y.2=.local->scope.names.lookup y.1=some .local)(hcell:∀y∈scope.names,y.2=.cell->scope.names.lookup y.1=some .cell)
  (hfree:(scope.names.all λy=>y.2 != .free||X.env.kindOf y.1==some .cell)=true)
  (hlen:N'.length=nl+caps.length) (hcap:∀(i j:Nat),caps[i]?=some j->∃x,N'[nl+i]?=some x/\X.N[j]?=some x/\scope.names.lookup x=some .free)
  (hi:PI X target iter wi) (hg:∀cl C ex s H,PG (cxB X N' scope cl C ex s H) target g) (ht:∀cl C ex s H,zBP (cxB X N' scope cl C ex s H) ifs tt) (he:∀cl C ex s H,PA (cxB X N' scope cl C ex s H) (act2 elt target iter ifs t1 i1 f1 scope pos) ta)
  (hs:∀x,foldedSetIterable iter X.env x=pure x) (hsw:swapsWith (.ListComp elt [⟨target,iter,ifs,0⟩,⟨t1,i1,f1,0⟩] scope pos) (some (.Name y py)) spos.line X.env=pure true) :
  PS X (.Assign [.Name y py] (.ListComp elt [⟨target,iter,ifs,0⟩,⟨t1,i1,f1,0⟩] scope pos) spos) (tAsg (zAU nl caps wi g tt ta) (GM i)):=by
 intro pins s σ H D I h;rw[exec_Assign_Name_used _ _ _ _ hsw];refine wpAny_bind (wpAny_standAt (wpAny_bind ?_));show wpAny _ X.A (do let _ <- comprehension (.ListComp elt [⟨target,iter,ifs,0⟩,⟨t1,i1,f1,0⟩] scope pos) scope X.env _ (newList []) false (eval iter X.env) (some (assign (.Name y py) X.env))) _ _ s;refine wpAny_bind (wpAny_mono (vh (use:=some (assign (.Name y py) X.env)) (QQ:=λ_ s'=>SP X pins D .next s') hx hc hkind hnames hcell hfree hlen hcap hi hg ht he hs I h λDa C H5 s6 m6 I7 f n6 q=>?_) (λ_ s' hq=>wpAny_pure (wpAny_pure hq)) λ_ _ e=>e);obtain⟨f1,f2,f3,f4,f5,f6⟩:=f;show wpAny _ X.A (assign (.Name y py) X.env (.ref Da)) _ _ s6;refine wpAny_assign_Name (WI I7 hN hi' hy (v:=.ref Da) rfl (λs7 I8 ⟨a,sb,ha⟩=>?_) hf);have hne:C≠a:=by
  rcases ha with ha|ha
  ·rw[ha];exact f2
  ·exact λz=>f5 y a ha z.symm
 refine⟨m6,n6.sameBut sb hne,λh' hs'=>?_⟩;exact⟨_,H5,I8.turned (it:=C) (t':=s7.toks) (λb o hb e=>hs'.extBut b o hb e) f1 (λz=>f2 z) f4 f5 f6,q⟩
end
section
variable{X:Cx}{K:PySem.W.Frag}{mg:Str->Option Value}{σ:St}{M:Addr->Prop}{E:zP}{H:Hp}{T0 Z T:Fz}
structure GA(K:PySem.W.Frag)(mg:Str->Option Value)(M:Addr->Prop)(D:Addr)(σ:St)(E:zP)(H:Hp)(acc:List DV.D)(σ':St)(E':zP)(H':Hp)(acc':List DV.D):Prop where
 len:E'.length=σ'.length
 fr:FR K mg M H' ((some (.ref D),.own acc')::σ'.zip E')
 st:Step M H ((some (.ref D),.own acc)::σ.zip E) H' ((some (.ref D),.own acc')::σ'.zip E')
 pk:PKp σ E σ' E'
theorem GA.of{D:Addr}{acc:List DV.D}{σ':St}{E':zP}{H':Hp}(g:Got K mg M σ E H [(some (.ref D),.own acc)] σ' E' H' []):GA K mg M D σ E H acc σ' E' H' acc:=⟨g.len,g.fr,g.st,g.pk⟩
theorem GA.trans{D:Addr}{acc acc1 acc2:List DV.D}{σ1 σ2:St}{E1 E2:zP}{H1 H2:Hp}(a:GA K mg M D σ E H acc σ1 E1 H1 acc1)(b:GA K mg M D σ1 E1 H1 acc1 σ2 E2 H2 acc2):GA K mg M D σ E H acc σ2 E2 H2 acc2:=⟨b.len,b.fr,a.st.trans b.st,a.pk.trans b.pk⟩
abbrev MC:=zP->List D->Out (List D×zP)
def zCX(K:PySem.W.Frag)(mg:Str->Option Value)(ma:MC)(ta:TA):Prop:=∀(M:Addr->Prop) (D:Addr) (σ:St) (E:zP) (H:Hp) (acc acc':List DV.D) (E':zP) (Nx:St->Hp->Prop),E.length=σ.length->FR K mg M H ((some (.ref D),.own acc)::σ.zip E)->ma E acc=.ok (acc',E')->(∀σ' H',GA K mg M D σ E H acc σ' E' H' acc'->Nx σ' H')->ta D σ H Nx
def JL(tg:MG)(tt:MT)(ma:MC):List D->zP->List D->Out (List D×zP)
 | [],E,acc=>.ok (acc,E)
 |d::ds,E,acc=>match tg d E with
  | .ok E1=>match tt E1 with
   | .ok (true,E2)=>match ma E2 acc with
    | .ok (acc',E3)=>JL tg tt ma ds E3 acc'
    |_=>.stuck
   | .ok (false,E2)=>JL tg tt ma ds E2 acc
   |_=>.stuck
  |_=>.stuck
def ma1(el:ME):MC:=λE acc=>match el E with
 | .ok (r,E3)=>if acc.length<cap then .ok (acc++[r.d],E3)else .stuck
 |_=>.stuck
def maL(mi:MI)(tg:MG)(tt:MT)(ma:MC):MC:=λE acc=>match mi E with
 | .ok (ds,E1)=>JL tg tt ma ds E1 acc
 |_=>.stuck
def vi(nl:Nat)(caps:List Nat)(mi:MI)(tg:MG)(tt:MT)(ma:MC):ME:=λE=>match mi E with
 | .stuck=>.stuck
 | .exc x E1=>.exc x E1
 | .ok (ds,E1)=>match Jj E1 caps with
  | .ok ars=>match zJ ars E1 with
   | .ok (ss,E2)=>match JL tg tt ma ds (replicate nl .emp++ss) []with
    | .ok (res,Eb)=>match zG ars ((zw (replicate nl .emp++ss) Eb).drop nl) E1 E2 with
     | .ok E3=>.ok (.own res,E3)
     |_=>.stuck
    |_=>.stuck
   |_=>.stuck
  |_=>.stuck
def tNI(K:PySem.W.Frag)(mg:Str->Option Value)(m:MI):TI:=λσ H R=>∃M E,E.length=σ.length/\FR K mg M H (σ.zip E)/\match m E with
 | .ok (ds,E')=>∀J Iv H',ItOk K mg J ds Iv->Iv (Hm (Mo M (σ.zip E')) H')->Got K mg M σ E H [] σ E' H' []->R J H'
 |_=>False
theorem tNI_M{m:MI}{R:It->Hp->Prop}(h:tNI X.K X.mg m σ H R):tMI X m σ H R:=by
 obtain⟨M,E,hl,fr,k⟩:=h;refine⟨M,E,hl,fr,?_⟩;cases e:m E with
 |stuck=>rw[e]at k;exact k
 |exc x E1=>rw[e]at k;exact k.elim
 |ok p=>rw[e]at k;exact k
theorem yld_ga{J:It}{ds:List D}{Iv:Hp->Prop}{σ0 σ':St}{E0 E':zP}{H1 H' H'':Hp}{Da:Addr}{acc0 acc:List D}{i:Nat}{x:V}(it:ItOk K mg J ds Iv)(hlt:i<ds.length)(gb:GA K mg M Da σ0 E0 H1 acc0 σ' E' H' acc)(ivb:Iv (Hm (Mo M ((some (.ref Da),Slot.own acc)::σ'.zip E')) H'))(y:J.yld i H' x H'') :
  ∃d,ds[i]?=some d/\GA K mg M Da σ0 E0 H1 acc0 σ' E' H'' acc/\Iv (Hm (Mo M ((some (.ref Da),Slot.own acc)::σ'.zip E')) H'')/\Rep K mg (Hm (Mo M ((some (.ref Da),Slot.own acc)::σ'.zip E')) H'') d x:=by
 obtain⟨d,hd,h⟩:=it.yld i _ _ x _ zO ivb hlt y;rcases h with⟨rfl,rx⟩|⟨q,xs,es,hq,rfl,rfl,rfl,rs⟩
 ·exact⟨d,hd,gb,ivb,rx⟩
 ·have f1:=gb.fr.newTup hq rs
  have s1:Step M H' ((some (.ref Da),Slot.own acc)::σ'.zip E') (upd H' q (.tup xs)) ((some (.ref q),.val (.tup es))::((some (.ref Da),Slot.own acc)::σ'.zip E')):=Step.newVal hq;obtain⟨v,ev,rv⟩:=f1.val _ _ mem_cons_self;cases ev;have sm:=s1.same;rw[Jx]at rv sm;exact⟨_,hd,⟨gb.len,f1.tail,gb.st.trans ⟨sm,s1.keep⟩,gb.pk⟩,it.mono _ _ sm ivb,rv⟩
theorem zCY{el:ME}:zCX K mg (ma1 el) (ta1 (tN K mg el)):=λM D σ E H acc acc' E' Nx hl fr em hN=>by
 unfold ma1 at em;cases e3:el E with
 |stuck=>rw[e3]at em;cases em
 |exc _ _=>rw[e3]at em;cases em
 |ok p =>
  obtain⟨r,Ec⟩:=p;rw[e3]at em;dsimp only at em;by_cases hcap:acc.length<cap
  ·rw[if_pos hcap]at em
   cases em;refine zFR (T0:=[(some (.ref D),.own acc)]) hl fr e3 λyv H4 ge=>?_
   have fz:FR K mg M H4 ((some yv,.val r.d)::((some (.ref D),Slot.own acc)::σ.zip E')):=FR.frz (r:=r) ge.fr;obtain⟨yv',ey,ry⟩:=fz.val _ _ mem_cons_self;cases ey;rw[Jx]at ry;have fo:=fz.tail;obtain⟨a,ys,ea,ha,_,rys⟩:=fo.own _ _ acc mem_cons_self rfl;cases ea;refine⟨ys,ha,by rw[rys.length];exact lt_of_lt_of_le hcap (Yh (le_refl _)),hN σ _ ?_⟩;obtain⟨fm,sm⟩:=FR.mut (i:=0) (s:=.own acc) fo rfl rfl (rys.append (Reps.cons ry Reps.nil));have sz:Step M H ((some (.ref D),Slot.own acc)::σ.zip E) H4 ((some (.ref D),Slot.own acc)::σ.zip E'):=ge.st.weak (zC (sublist_cons_self _ _));exact⟨ge.len,fm,sz.trans sm,ge.pk⟩
  ·rw[if_neg hcap]at em;cases em
theorem turns{tg:MG}{tt:MT}{ma:MC}{ta:TA}{g:TG}(ho:GOk X g tg)(ha:zCX X.K X.mg ma ta){J:It}{ds:List D}{Iv:Hp->Prop}(it:ItOk X.K X.mg J ds Iv){Da:Addr}{acc accF:List DV.D}{EF:zP}{Nx:St->Hp->Prop}(hl:E.length=σ.length)(fr:FR X.K X.mg M H ((some (.ref Da),.own acc)::σ.zip E))(iv:Iv (Hm (Mo M ((some (.ref Da),Slot.own acc)::σ.zip E)) H))(em:JL tg tt ma ds E acc=.ok (accF,EF))
  (hN:∀σ' H',GA X.K X.mg M Da σ E H acc σ' EF H' accF->Nx σ' H'):∃W:Nat->Nat->St->Hp->Prop,(∃m,W 0 m σ H)/\∀i m σ' H',W i m σ' H' ->
   (J.stop i H'/\Nx σ' H')\/(J.go i H'/\∃N2:St->Hp->Prop,(∀σ'' H'',N2 σ'' H''->∃m',m'<m/\W (i+1) m' σ'' H'')/\∀x H'',J.yld i H' x H''->g x σ' H'' λσ2 H2 =>
    tNT X.K X.mg tt σ2 H2 λb H3=>if b=true then ta Da σ2 H3 N2 else N2 σ2 H3):=by
 refine⟨λi m σ' H'=>m=ds.length-i/\i<=ds.length/\∃E' acc',GA X.K X.mg M Da σ E H acc σ' E' H' acc'/\Iv (Hm (Mo M ((some (.ref Da),Slot.own acc')::σ'.zip E')) H')/\JL tg tt ma (ds.drop i) E' acc'=.ok (accF,EF),
  ⟨ds.length,by simp,zero_le _,E,acc,⟨hl,fr,Step.refl,PKp.refl⟩,iv,em⟩,?_⟩
 rintro i m σ' H' ⟨rfl,hi,E',acc',gb,ivb,cm⟩
 by_cases hlt:i<ds.length
 ·refine .inr ⟨it.go i _ H' zO ivb hlt,λσ'' H''=>(i+1<=ds.length/\∃E' acc',GA X.K X.mg M Da σ E H acc σ'' E' H'' acc'/\Iv (Hm (Mo M ((some (.ref Da),Slot.own acc')::σ''.zip E')) H'')/\JL tg tt ma (ds.drop (i+1)) E' acc'=.ok (accF,EF)),
   λσ'' H'' q=>⟨ds.length-(i+1),by omega,rfl,q⟩,λx H'' y=>?_⟩
  obtain⟨d,hd,gb,ivb,rx⟩:=yld_ga it hlt gb ivb y;have ed:ds.drop i=d::ds.drop (i+1):=by
   obtain⟨hi',rfl⟩:=List.getElem?_eq_some_iff.mp hd;exact drop_eq_getElem_cons hi'
  rw[ed]at cm;simp only[JL]at cm;cases e1:tg d E' with
  |stuck=>rw[e1]at cm;cases cm
  |exc _ _=>rw[e1]at cm;cases cm
  |ok Ea =>
   rw[e1]at cm;dsimp only at cm;refine ho _ σ' E' _ [(some (.ref Da),.own acc')] x d Ea _ gb.len (gb.fr.add rx) e1 λσ2 ga=>?_
   have g2:=gb.trans (GA.of ga);cases e2:tt Ea with
   |stuck=>rw[e2]at cm;cases cm
   |exc _ _=>rw[e2]at cm;cases cm
   |ok p =>
    obtain⟨b,Eb2⟩:=p;rw[e2]at cm;refine zB9 ga.len ga.fr e2 λH3 gt=>?_
    have gt':GA X.K X.mg M Da σ2 Ea H'' acc' σ2 Eb2 H3 acc':=⟨gt.len,gt.fr,gt.st,gt.pk⟩;have g3:=g2.trans gt';have iv3:=it.mono _ _ (ga.st.same.trans gt.st.same) ivb;cases b with
    |false=>exact zDQ ⟨hlt,Eb2,acc',g3,iv3,cm⟩
    |true =>
     refine zDR ?_;dsimp only at cm;cases e3:ma Eb2 acc' with
     |stuck=>rw[e3]at cm;cases cm
     |exc _ _=>rw[e3]at cm;cases cm
     |ok p =>
      obtain⟨acc2,Ec⟩:=p;rw[e3]at cm;exact ha M Da σ2 Eb2 H3 acc' acc2 Ec _ g3.len g3.fr e3 λσ4 H4 g4=>⟨hlt,Ec,acc2,g3.trans g4,it.mono _ _ g4.st.same iv3,cm⟩
 ·have ei2:i=ds.length:=by omega
  subst ei2;rw[drop_length]at cm;simp only[JL]at cm;cases cm;exact .inl ⟨it.stop _ _ H' zO ivb (le_refl _),hN σ' H' gb⟩
theorem zAV{mi:MI}{tg:MG}{tt:MT}{ma:MC}{ta:TA}{g:TG}(ho:GOk X g tg)(ha:zCX X.K X.mg ma ta):zCX X.K X.mg (maL mi tg tt ma) (taL (tNI X.K X.mg mi) g (tNT X.K X.mg tt) ta):=λM D σ E H acc accF EF Nx hl fr em hN=>by
 unfold maL at em;cases ei:mi E with
 |stuck=>rw[ei]at em;cases em
 |exc _ _=>rw[ei]at em;cases em
 |ok p =>
  obtain⟨ds,E1⟩:=p;rw[ei]at em;refine⟨Mo M [(some (.ref D),.own acc)],E,hl,FR.inner (T:=[(some (.ref D),.own acc)]) fr,?_⟩;rw[ei];intro J Iv H1 it iv g1;have g2:Got X.K X.mg M σ E H [(some (.ref D),.own acc)] σ E1 H1 []:=g1.outer (T0:=[(some (.ref D),.own acc)]) fr;rw[<- jD]at iv;exact turns ho ha it g2.len g2.fr iv em λσ' H' ga=>hN σ' H' ((GA.of g2).trans ga)
theorem Gy{nl:Nat}{caps:List Nat}{mi:MI}{tg:MG}{tt:MT}{ma:MC}{ta:TA}{g:TG}{Q:VK}(ho:GOk X g tg)(ha:zCX X.K X.mg ma ta)(h:tM X (vi nl caps mi tg tt ma) σ H Q):zAU nl caps (tMI X mi) g (tNT X.K X.mg tt) ta σ H Q:=by
 obtain⟨M,E,hl,fr,k⟩:=h;unfold vi at k;refine⟨M,E,hl,fr,?_⟩;cases ei:mi E with
 |stuck=>rw[ei]at k;exact k
 |exc x E1=>rw[ei]at k;exact k
 |ok p =>
  obtain⟨ds,E1⟩:=p;rw[ei]at k;intro J Iv H1 it iv g1 D hD;dsimp only at k;cases ec:Jj E1 caps with
  |stuck=>rw[ec]at k;exact k.elim
  |exc _ _=>rw[ec]at k;exact k.elim
  |ok ars =>
   rw[ec]at k;dsimp only at k;cases el1:zJ ars E1 with
   |stuck=>rw[el1]at k;exact k.elim
   |exc _ _=>rw[el1]at k;exact k.elim
   |ok p =>
    obtain⟨ss,E2⟩:=p;rw[el1]at k;dsimp only at k;cases em:JL tg tt ma ds (replicate nl .emp++ss) []with
    |stuck=>rw[em]at k;exact k.elim
    |exc _ _=>rw[em]at k;exact k.elim
    |ok p =>
     obtain⟨res,Eb⟩:=p;rw[em]at k;dsimp only at k;cases eb:zG ars ((zw (replicate nl .emp++ss) Eb).drop nl) E1 E2 with
     |stuck=>rw[eb]at k;exact k.elim
     |exc _ _=>rw[eb]at k;exact k.elim
     |ok E3 =>
      rw[eb]at k;obtain⟨vs,av,evs,f1,o1⟩:=zAO (T:=[]) caps g1.len ec g1.fr;obtain⟨f2,o2,l2,l3⟩:=Y7 (T:=[]) ars g1.len av el1 f1;have hv:=av.length;have f2':FR X.K X.mg M H1 (σ.zip E2++(vs.map some).zip ss):=FR.perm (T:=σ.zip E2++(vs.map some).zip ss) (Z:=(vs.map some).zip ss++σ.zip E2) f2 perm_append_comm;have osub:∀b,b∈yV (σ.zip E2++(vs.map some).zip ss)->b∈yV (σ.zip E1):=λb hb =>
       o1 b ((o2 b).mpr (zE (T:=σ.zip E2++(vs.map some).zip ss) (Z:=(vs.map some).zip ss++σ.zip E2) perm_append_comm b hb))
      have st1:Step M H (σ.zip E) H1 (σ.zip E2++(vs.map some).zip ss):=g1.st.weak osub;have eσ:zY nl caps σ=replicate nl none++vs.map some:=by unfold L2.zY;rw[evs]
      rw[eσ];have ez:(replicate nl (none:Option V)++vs.map some).zip (replicate nl Slot.emp++ss)=replicate nl (none,.emp)++(vs.map some).zip ss:=by
       rw[zip_append (by simp),uT]
      have f4:FR X.K X.mg (Mo M (σ.zip E2)) H1 ((replicate nl (none:Option V)++vs.map some).zip (replicate nl Slot.emp++ss)):=by
       rw[ez];exact(FR.inner f2').emps0 nl
      have oo:yV ((replicate nl (none:Option V)++vs.map some).zip (replicate nl Slot.emp++ss))=yV ((vs.map some).zip ss):=by rw[ez,Gn]
      generalize hσ0:replicate nl (none:Option V)++vs.map some=σ0 at f4 oo ⊢;generalize hE0:replicate nl Slot.emp++ss=E0 at f4 oo em eb ⊢;have hl0:E0.length=σ0.length:=by rw[<- hσ0,<- hE0];simp[l2,hv]
      have f5:=f4.newOwn (ds:=[]) (xs:=[]) hD Reps.nil;have s5:=Step.newOwn (ds:=[]) (xs:=[]) f4 hD;have iv5:Iv (Hm (Mo (Mo M (σ.zip E2)) ((some (.ref D),Slot.own [])::σ0.zip E0)) (upd H1 D (.lst []))):=by
       refine it.mono _ _ s5.same (it.mono _ _ (jy λb hb=>?_) iv);rcases hb with hb|hb
       ·rcases hb with hb|hb
        ·exact .inl hb
        ·exact .inr (osub b (by rw[zU];exact mem_append_left _ hb))
       ·rw[oo]at hb
        exact .inr (osub b (by rw[zU];exact mem_append_right _ hb))
      refine turns ho ha it hl0 f5 iv5 em λσ' H' ga=>k _ H' ?_
      have gb:Got X.K X.mg (Mo M (σ.zip E2)) σ0 E0 H1 [] σ' Eb H' [(some (.ref D),.own res)]:=⟨ga.len,ga.fr,s5.trans ga.st,ga.pk⟩;have mk0:Mask (σ'.zip Eb) (σ0.zip (zw E0 Eb)):=Yl E0 σ0 σ' Eb gb.len (hl0.symm) λj ds' e=>(gb.pk j ds' e).2
      have mk:Mask (σ'.zip Eb) ((vs.map some).zip ((zw E0 Eb).drop nl)):=by
       have:=JK nl mk0;have e:(σ0.zip (zw E0 Eb)).drop nl=(vs.map some).zip ((zw E0 Eb).drop nl):=by
        rw[WY,<- hσ0];congr 1;rw[List.drop_left' (by simp)]
       rw[e]at this;exact this
      refine Go (r:=.own res) el1 eb av f2' st1 l3 g1.pk (gb.fr.mask (.keep mk)) ?_;refine(gb.st.weak λb hb=>(Mask.keep mk).sub.subset hb).left λb hb=>?_
      show b∈yV _
      rw[nil_append,oo]at hb;exact hb
end
section
variable{X:Cx}{elt target iter t1 i1:Expr}{scope:Scope}{pos:Pos}{mi mi1:MI}{tg tg1:MG}{el:ME}{g g1:TG}{nl:Nat}{caps:List Nat}
theorem ok_lc2(loc capn:List Str)(hnl:loc.length=nl)(hx:∀e s,¬X.xe e s)(hc:X.calm=true)(hkind:scope.kind=.function)(hnames:∀y∈scope.names,y.2=.local->scope.names.lookup y.1=some .local)(hcell:∀y∈scope.names,y.2=.cell->scope.names.lookup y.1=some .cell)
  (hfree:(scope.names.all λy=>y.2 != .free||X.env.kindOf y.1==some .cell)=true) (hcap:Qh X scope caps capn)
  (hi:IOk X target iter mi) (hg:∀cl C ex s H,PG (cxB X (loc++capn) scope cl C ex s H) target g) (ho:GOk X g tg) (hi1:∀cl C ex s H,IOk (cxB X (loc++capn) scope cl C ex s H) t1 i1 mi1) (hg1:∀cl C ex s H,PG (cxB X (loc++capn) scope cl C ex s H) t1 g1) (ho1:GOk X g1 tg1) (he:∀cl C ex s H,EOk (cxB X (loc++capn) scope cl C ex s H) elt el)
  (hs:∀x,foldedSetIterable iter X.env x=pure x) (hs1:∀cl C ex s H x,foldedSetIterable i1 (cxB X (loc++capn) scope cl C ex s H).env x=pure x) :
  EOk X (.ListComp elt [⟨target,iter,[],0⟩,⟨t1,i1,[],0⟩] scope pos) (vi nl caps mi tg jf (maL mi1 tg1 jf (ma1 el))):=by
 obtain⟨c1,c2⟩:=Gq (loc:=loc) hcap;refine yN (zEW (N':=loc++capn) (tt:=tNT X.K X.mg jf) (ta:=taL (tNI X.K X.mg mi1) g1 (tNT X.K X.mg jf) (ta1 (tN X.K X.mg el))) hx hc hkind hnames hcell hfree (by simp[hnl,c1]) (λi j e=>by
  obtain⟨x,q1,q2,q3⟩:=c2 i j e;refine⟨x,?_,q2,q3⟩;rw[getElem?_append_right (by omega),hnl,Nat.add_sub_cancel_left];exact q1) hi hg (λcl C ex s H=>wn Y8 λσ H Q q=>zA9 (X:=cxB X (loc++capn) scope cl C ex s _) q)
  (λcl C ex s H=>zCW (Y:=cxB X (loc++capn) scope cl C ex s H) (ta:=ta1 (tN X.K X.mg el)) hx hc (ZW (hi1 cl C ex s H) λσ H R q=>tNI_M (X:=cxB X (loc++capn) scope cl C ex s _) q) (hg1 cl C ex s H) (wn Y8 λσ H Q q=>zA9 (X:=cxB X (loc++capn) scope cl C ex s _) q) (zFZ hx (yN (he cl C ex s H) λσ H Q q=>tN_M (X:=cxB X (loc++capn) scope cl C ex s _) q)) (hs1 cl C ex s H)) hs) λσ H Q=>Gy ho (zAV ho1 zCY)
theorem sk_lc2{i:Nat}{y:Str}{py spos:Pos}(loc capn:List Str)(hN:X.N.Nodup)(hi':X.N[i]?=some y)(hy:Loc X.env.scope y)(hf:X.fn y=true\/X.env.scope.names.lookup y=some .local)(hnl:loc.length=nl)(hx:∀e s,¬X.xe e s)(hc:X.calm=true)(hkind:scope.kind=.function)(hnames:∀y∈scope.names,y.2=.local->scope.names.lookup y.1=some .local)(hcell:∀y∈scope.names,y.2=.cell->scope.names.lookup y.1=some .cell)
  (hfree:(scope.names.all λy=>y.2 != .free||X.env.kindOf y.1==some .cell)=true) (hcap:Qh X scope caps capn)
  (hi:IOk X target iter mi) (hg:∀cl C ex s H,PG (cxB X (loc++capn) scope cl C ex s H) target g) (ho:GOk X g tg) (hi1:∀cl C ex s H,IOk (cxB X (loc++capn) scope cl C ex s H) t1 i1 mi1) (hg1:∀cl C ex s H,PG (cxB X (loc++capn) scope cl C ex s H) t1 g1) (ho1:GOk X g1 tg1) (he:∀cl C ex s H,EOk (cxB X (loc++capn) scope cl C ex s H) elt el)
  (hs:∀x,foldedSetIterable iter X.env x=pure x) (hs1:∀cl C ex s H x,foldedSetIterable i1 (cxB X (loc++capn) scope cl C ex s H).env x=pure x)
  (hsw:swapsWith (.ListComp elt [⟨target,iter,[],0⟩,⟨t1,i1,[],0⟩] scope pos) (some (.Name y py)) spos.line X.env=pure true) :
  SOk X (.Assign [.Name y py] (.ListComp elt [⟨target,iter,[],0⟩,⟨t1,i1,[],0⟩] scope pos) spos) (sSet i (vi nl caps mi tg jf (maL mi1 tg1 jf (ma1 el)))):=by
 obtain⟨c1,c2⟩:=Gq (loc:=loc) hcap;refine yz (zEX (N':=loc++capn) (tt:=tNT X.K X.mg jf) (ta:=taL (tNI X.K X.mg mi1) g1 (tNT X.K X.mg jf) (ta1 (tN X.K X.mg el))) hN hi' hy hf hx hc hkind hnames hcell hfree (by simp[hnl,c1]) (λi j e=>by
  obtain⟨x,q1,q2,q3⟩:=c2 i j e;refine⟨x,?_,q2,q3⟩;rw[getElem?_append_right (by omega),hnl,Nat.add_sub_cancel_left];exact q1) hi hg (λcl C ex s H=>wn Y8 λσ H Q q=>zA9 (X:=cxB X (loc++capn) scope cl C ex s _) q)
  (λcl C ex s H=>zCW (Y:=cxB X (loc++capn) scope cl C ex s H) (ta:=ta1 (tN X.K X.mg el)) hx hc (ZW (hi1 cl C ex s H) λσ H R q=>tNI_M (X:=cxB X (loc++capn) scope cl C ex s _) q) (hg1 cl C ex s H) (wn Y8 λσ H Q q=>zA9 (X:=cxB X (loc++capn) scope cl C ex s _) q) (zFZ hx (yN (he cl C ex s H) λσ H Q q=>tN_M (X:=cxB X (loc++capn) scope cl C ex s _) q)) (hs1 cl C ex s H)) hs hsw) λD σ H h=>Gy ho (zAV ho1 zCY) (Qe h)
end
end DV
namespace DV
open PySem L2
section
variable{prog:Program}{w:World}{A:Around}{E:Value->Shared->Prop}{s:Shared}
theorem Wc:isSubtype (.type "range_iterator") (.type "reversed")=pure false:=by rw[isSubtype_type];kernel_rfl
def zBC(n:Int):Obj:={cls:=.type "range_iterator",data:=.fields #[rawInt (0+(Builtin.Range.rangeSize 0 n 1-1)*1),rawInt (Builtin.Range.rangeSize 0 n 1),rawInt (-1)]}
theorem zEY{n:Int}(h1:-(2^62)<=n)(h2:n<2^62):(Builtin.Range.rangeFitsLong 0&&Builtin.Range.rangeFitsLong n&&Builtin.Range.rangeFitsLong 1&&Builtin.Range.rangeFitsLong (-1)&&Builtin.Range.rangeFitsLong (0-1)&&Builtin.Range.rangeFitsLong (Builtin.Range.rangeSize 0 n 1))=true:=by
 have e:Builtin.Range.rangeSize 0 n 1=if 0<n then n else 0:=by rw[rangeSize_one];simp
 rw[e];simp only[Builtin.Range.rangeFitsLong];split<;>simp<;>omega
theorem W9{r:Addr}{n:Int}{t u v:Tok}{Q:Value->Shared->Prop}(hr:IsRange s.heap r 0 n 1 t u v)(h1:-(2^62)<=n)(h2:n<2^62)
  (h:Q (.ref s.heap.objs.size) {s with heap:=s.heap.push (zBC n)}):wpAny (model prog w) A (call (.builtin "range.__reversed__") [.ref r]) Q E s:=by
 refine wpAny_call_entry F.slot_range_reversed ⟨_,hr,rfl⟩ F.entry_range_reversed ?_ (F.args_range_reversed_1 _);unfold Builtin.«range.__reversed__»;refine wpAny_bind (wpAny_of_eq (a:=Value.ref r) rfl ?_);have hf:∀(A:Around) (E':Value->Shared->Prop),wpAny (model prog w) A (Builtin.Range.rangeFields (.ref r)) (λx s'=>x=(0,n,1)/\s'=s) E' s:=by
  intro A E';unfold Builtin.Range.rangeFields
  repeat (any_goals (first|assumption|wp_step))
  exact⟨rfl,rfl⟩
 refine wpAny_bind (wpAny_mono (hf _ _) (λx s' hx=>?_) λ_ _ z=>z);obtain⟨rfl,rfl⟩:=hx;dsimp only;rw[zEY h1 h2];simp only[Bool.not_true,Bool.false_eq_true,if_false,if_true]
 repeat (any_goals (first|assumption|wp_step))
 exact⟨_,rfl,h⟩
theorem Gz{r:Addr}{n:Int}{t u v:Tok}{Q₁:Value->Shared->Prop}(hr:IsRange s.heap r 0 n 1 t u v)(h1:-(2^62)<=n)(h2:n<2^62)
  (h:Q₁ (.ref s.heap.objs.size) {s with heap:=s.heap.push (zBC n)}) :
  codeAny (model prog w) A (.call (.builtin "reversed.__new__") ⟨[.type "reversed",.ref r],[]⟩) (PySem.wants Q₁ E) s:=by
 refine codeAny_of_tree ?_;show wpAny _ A.in1 (do checkBuiltinCall "reversed.__new__" ⟨[.type "reversed",.ref r],[]⟩;again (.builtin "reversed.__new__" ⟨[.type "reversed",.ref r],[]⟩)) _ _ s;refine wpAny_bind (wpAny_of_eq (F.newCall_reversed_1 _) (wpAny_pure ⟨plainId_quiet F.plain_reversed_new _,codeAny_builtin F.entry_reversed_new ?_⟩));rw[Around.under_plainId F.plain_reversed_new _];unfold Builtin.«reversed.__new__»;refine wpAny_bind (wpAny_of_eq (newClass_reversed _) ?_)
 try dsimp only
 refine wpAny_bind (wpAny_of_eq (a:=()) (by first|rfl|kernel_rfl) ?_);refine wpAny_bind (wpAny_of_eq (a:=()) (by first|rfl|kernel_rfl) ?_)
 try dsimp only
 refine wpAny_bind (wpAny_specialOf ⟨_,hr,rfl⟩ F.slot_range_reversed.lookup ?_)
 try dsimp only
 refine wpAny_bind (wpAny_of_eq (F.slot_range_reversed.bind _) ?_)
 try dsimp only
 rw[if_neg (show ¬((Value.builtin "range.__reversed__" == Value.none)=true)from Bool.false_ne_true)];refine wpAny_bind (wpAny_rule ?_);refine wpAny_bind (m:=runValue (.call (.builtin "range.__reversed__") ⟨[.ref r],[]⟩)) (show wpAny _ _ (call (.builtin "range.__reversed__") [.ref r]) _ _ _ from W9 hr h1 h2 ?_)
 first
 |exact wpAny_pure h
 |exact wpAny_bind (wpAny_pure (wpAny_pure h))
theorem ZC{r:Addr}{n:Int}{t u v:Tok}{Q:Value->Shared->Prop}(hr:IsRange s.heap r 0 n 1 t u v)(h1:-(2^62)<=n)(h2:n<2^62)
  (h:Q (.ref s.heap.objs.size) {s with heap:=s.heap.push (zBC n)}):wpAny (model prog w) A (call (.type "reversed") [.ref r]) Q E s:=by
 refine callType_other (U:="range_iterator") (Q₁:=λobj s₁=>obj=.ref s.heap.objs.size/\s₁={s with heap:=s.heap.push (zBC n)}) (by decide +kernel) F.create_reversed ⟨_,_,F.mro_reversed⟩ F.made_reversed Wc (F.typeCall_reversed_1 _) (Gz hr h1 h2 ⟨rfl,rfl⟩) ?_
 rintro obj s₁ ⟨rfl,rfl⟩
 exact⟨⟨_,get?_push_size _ rfl,rfl⟩,h⟩
end
def Itv(n:Nat):It:=⟨λi _=>i<n,λi H x H'=>H'=H/\x=.int ((n:Int)-1-i),λi _=>n<=i⟩
theorem zEZ{P:Program}{w:World}{K:PySem.W.Frag}{tg:Expr}(it:Addr)(n:Nat):Turn P w K tg (Itv n) [it] it (λi h=>IsRangeIter h it ((n:Int)-1+(i:Nat)*(-1)) ((n:Int)-(i:Nat)) (-1)) where
 mem:=by simp
 obj:=λi h st b hb=>by
  have e:b=it:=by simpa using hb
  subst e;exact⟨_,st,λv z=>by
   have z':Data.fields _=Data.cell v:=z;cases z'⟩
 keep:=λi h h' st k=>k it (by simp) _ st
 item:=by
  intro X hP hw hK hc i pins s σ H E I hf st hg;subst hP hw hK;obtain⟨f0,f1,f2,f3,f4,f5⟩:=hf it (by simp);have W:=Walks.range (prog:=X.prog) (w:=X.w) (I.ok.hd hc) it ((n:Int)-1) (-1) n;refine W.item i s _ _ hg st λv h' tk hv st' kk=>?_
  obtain⟨t,rfl⟩:=hv;have I1:Inv X pins σ H {s with heap:=h',toks:=tk}:=I.turned (λb o hb e=>kk b o (by simpa using hb) e) f0 f1 f3 f4 f5
  refine⟨_,rfl,J6 (s:={s with heap:=h',toks:=tk}) (n:="range_iterator") st' rfl rfl (by decide) ⟨.int ((n:Int)-1-i),H,I1,⟨t,?_⟩,⟨rfl,rfl⟩,st',λb hb=>(hf b hb).1⟩⟩
  rw[show(n:Int)-1+(i:Int)*(-1)=(n:Int)-1-i by omega]
 done:=by
  intro X hP hw hK hc i pins s σ H E I hf st hg;subst hP hw hK;obtain⟨f0,f1,f2,f3,f4,f5⟩:=hf it (by simp);exact wpAny_pyNext_range_end (I.ok.hd hc) st (by have:n<=i:=hg;omega) λh' eb=>⟨rfl,I.turned (t':=s.toks) (λb o hb e=>eb b o hb e) f0 f1 f3 f4 f5⟩
 self:=λ_ _ _ _ _ st h=>wpAny_pyIter_rangeiter st h
def iRev(ta:L2.TA):TI:=λσ H R=>ta σ H λvs H1=>∃j:Int,vs=[.int j]/\-(2^62)<=j/\j<2^62/\R (Itv j.toNat) H1
theorem pi_rev{X:Cx}{tg a:Expr}{ta:L2.TA}{p p2 pos pos2:Pos}(hg:Gl X "reversed")(hm:X.mg "reversed"=none)(hg2:Gl X "range")(hm2:X.mg "range"=none)(ha:L2.PA X [a] ta)(hs:starEach [a] X.env=[(false,eval a X.env)]) :
  PI X tg (.Call (.Name "reversed" p) [.Call (.Name "range" p2) [a] [] pos2] [] pos) (iRev ta):=by
 intro pins s σ H R I h;refine PyProof.Rows.Call_ (Jw I hg hm PyProof.Rows.boot_reversed (PyProof.Rows.callWith_type1 ?_ rfl rfl));show wpAny _ _ (spliced ((false,eval (.Call (.Name "range" p2) [a] [] pos2) X.env)::backTo pos (starEach [] X.env))) _ _ s;refine Calls.spliced_cons (PyProof.Rows.Call_ (Jw I hg2 hm2 PyProof.Rows.boot_range (PyProof.Rows.callWith_type1 (thn (ha pos2 pins s σ H _ I h) λus s1 h1=>?_) hs rfl)));obtain⟨vs,H1,I1,r1,j,e,q1,q2,q⟩:=h1;subst e;cases r1 with
 |cons r rr =>
  cases rr;obtain⟨t,rfl⟩:=r;refine call_range_1 ?_;refine Calls.spliced_nil ?_;refine ZC (IsRange.new ..) q1 q2 ?_;have rs:Builtin.Range.rangeSize 0 j 1=((j.toNat:Nat):Int):=by rw[rangeSize_one];split<;>omega
  have hst:IsRangeIter ((s1.heap.push {cls:=.type "range",data:=.fields #[.int 0 s1.toks,.int j t,.int 1 (s1.toks+1)]}).push (zBC j)) (s1.heap.push {cls:=.type "range",data:=.fields #[.int 0 s1.toks,.int j t,.int 1 (s1.toks+1)]}).objs.size (((j.toNat:Nat):Int)-1+((0:Nat):Int)*(-1)) (((j.toNat:Nat):Int)-((0:Nat):Int)) (-1):=by
   rw[show((j.toNat:Nat):Int)-1+((0:Nat):Int)*(-1)=0+(Builtin.Range.rangeSize 0 j 1-1)*1 by rw[rs];omega,show((j.toNat:Nat):Int)-((0:Nat):Int)=Builtin.Range.rangeSize 0 j 1 by rw[rs];omega];exact get?_push_size _ rfl
  have I2:Inv X pins σ H1 {s1 with heap:=(s1.heap.push {cls:=.type "range",data:=.fields #[.int 0 s1.toks,.int j t,.int 1 (s1.toks+1)]}).push (zBC j),toks:=s1.toks+1+1}:=I1.kept λb o e=>get?_push_of_some _ (get?_push_of_some _ e)
  refine wpAny_pyIter_rangeiter hst ⟨_,[_],_,_,H1,rfl,I2,zEZ _ j.toNat,hst,λb hb=>?_,q⟩;have e:b=(s1.heap.push {cls:=.type "range",data:=.fields #[.int 0 s1.toks,.int j t,.int 1 (s1.toks+1)]}).objs.size:=by simpa using hb
  subst e;have I3:Inv X pins σ H1 {s1 with heap:=s1.heap.push {cls:=.type "range",data:=.fields #[.int 0 s1.toks,.int j t,.int 1 (s1.toks+1)]},toks:=s1.toks+1+1}:=I1.kept λb o e=>get?_push_of_some _ e
  exact I3.fpOk (le_refl _) (I3.hok.fresh (le_refl _))
section
variable{X:Cx}{K:PySem.W.Frag}{mg:Str->Option Value}
def yo(n:Nat):List D:=(List.range n).map λi=>.int ((n:Int)-1-(i:Nat))
theorem it_rev{n:Nat}:ItOk K mg (Itv n) (yo n) (λ_=>True) where
 mono:=λ_ _ _ _=>trivial
 go:=λi _ _ _ _ h=>show i<n by simpa[yo]using h
 yld:=λi Hh H x H' _ _ h y=>by
  obtain⟨rfl,rfl⟩:=y;have h:i<n:=by simpa[yo]using h
  refine⟨.int ((n:Int)-1-(i:Nat)),by simp[yo,h],.inl ⟨rfl,?_⟩⟩;simp only[Rep]
 stop:=λi _ _ _ _ h=>show n<=i by simpa[yo]using h
def iRv(m:MA):MI:=λE=>match m E with
 | .stuck=>.stuck
 | .exc x E1=>.exc x E1
 | .ok ([r],E1)=>match r.d with
  | .int j=>if -(2^62)<=j/\j<2^62 then .ok (yo j.toNat,E1)else .stuck
  |_=>.stuck
 |_=>.stuck
theorem io_rv{tg a:Expr}{m:MA}{p p2 cpos pos2:Pos}(hgl:Gl X "reversed")(hm:X.mg "reversed"=none)(hgl2:Gl X "range")(hm2:X.mg "range"=none)(ha:AOk X [a] m)(hst:zL a=false):IOk X tg (.Call (.Name "reversed" p) [.Call (.Name "range" p2) [a] [] pos2] [] cpos) (iRv m):=ZW (pi_rev hgl hm hgl2 hm2 ha (Qc hst)) λσ H R h=>by
 obtain⟨M,E,hl,fr,k⟩:=h;unfold iRv at k;refine wN (T0:=[]) hl fr ?_;cases ea:m E with
 |stuck=>rw[ea]at k;exact k
 |exc x E1=>rw[ea]at k;exact k
 |ok p =>
  obtain⟨rs,E1⟩:=p;rw[ea]at k
  match rs,k with
  | [r],k =>
   intro vs H1 hv g1;have rp:=Got.reps hv g1;dsimp only at k;cases ed:r.d with
   |int j =>
    rw[ed]at k;simp only[List.map,ed]at rp;obtain⟨v,rfl,h1⟩:=J9 rp;dsimp only at k;by_cases hc:-(2^62)<=j/\j<2^62
    ·rw[if_pos hc]at k
     exact⟨j,by rw[zQ h1],hc.1,hc.2,k _ _ H1 it_rev trivial g1.dropAll⟩
    ·rw[if_neg hc]at k;exact k.elim
   |_=>rw[ed]at k;exact k.elim
  | [],k=>exact k.elim
  |_::_::_,k=>exact k.elim
end
end DV
namespace DV
open PySem L2
inductive Op2 where
 |add|sub|mul|fdiv|mod|pow
def Op2.op:Op2->Operator
 | .add=>.Add | .sub=>.Sub | .mul=>.Mult | .fdiv=>.FloorDiv | .mod=>.Mod | .pow=>.Pow
def Op2.f:Op2->D->D->Option R
 | .add=>zA5 | .sub=>W0 | .mul=>ZA | .fdiv=>zA7 | .mod=>zFL | .pow=>powD
inductive Cp where
 |lt|le|gt|ge|eq|ne
def Cp.op:Cp->CmpOp
 | .lt=>.Lt | .le=>.LtE | .gt=>.Gt | .ge=>.GtE | .eq=>.Eq | .ne=>.NotEq
def Cp.f:Cp->D->D->Option R
 | .lt=>ltD | .le=>leD | .gt=>gtD | .ge=>geD | .eq=>eqG | .ne=>neG
def Cp.isI:Cp->Bool
 | .lt | .le | .gt | .ge=>true
 |_=>false
def Cp.b:Cp->Int->Int->Bool
 | .lt=>ltB | .le=>leB | .gt=>gtB|_=>geB
inductive Bi where
 |len|max|all|int|tuple|sum|abs
def Bi.nm:Bi->Str
 | .len=>"len" | .max=>"max" | .all=>"all" | .int=>"int" | .tuple=>"tuple" | .sum=>"sum" | .abs=>"abs"
def Bi.f:Bi->List D->Option R
 | .len=>zDz | .max=>W8 | .all=>allD | .int=>intF | .tuple=>zFM | .sum=>zEJ | .abs=>absG
inductive Ty where
 |int|bool|tuple|list|str|dict
def Ty.s:Ty->String
 | .int=>"int" | .bool=>"bool" | .tuple=>"tuple" | .list=>"list" | .str=>"str" | .dict=>"dict"
def Ty.nm:Ty->Str
 | .int=>"int" | .bool=>"bool" | .tuple=>"tuple" | .list=>"list" | .str=>"str" | .dict=>"dict"
inductive Tg where
 |n (i:Nat)
 |t (is:List Nat)
def Tg.m:Tg->MG
 | .n i=>gN i
 | .t is=>gT is
mutual
inductive Ex where
 |c (d:D)|gl (d:D)|var (i:Nat)|mov (i:Nat)
 |bin (o:Op2) (a b:Ex)|cmp (o:Cp) (a b:Ex)|chain (o o':Cp) (a b c:Ex)
 |neg (a:Ex)|not (a:Ex)|and (a b:Ex)|or (a b:Ex)
 |ifx (t:Tx) (a b:Ex)|tup (as:Ax)|lst (as:Ax)
 |ix (a b:Ex)|ixO (i:Nat) (b:Ex)|sl (a:Ex) (l h:Ox)
 |comp (nl:Nat) (loc capn:List Str) (caps:List Nat) (it:Ix) (tg:Tg) (tt:Tx) (el:Ex)
 |comp2 (nl:Nat) (loc capn:List Str) (caps:List Nat) (it:Ix) (tg:Tg) (jt:Ix) (tg2:Tg) (el:Ex)
 |is (T:Ty) (a:Ex)|cB (b:Bi) (as:Ax)|call (k:Nat) (as:Gx)
 |maxd (a d:Ex)
inductive Tx where
 |tAnd (a b:Tx)|tOr (a b:Tx)|tNot (a:Tx)|tE (a:Ex)|tTr
inductive Ax where
 |nil|cons (a:Ex) (as:Ax)
inductive Gx where
 |nil|ev (a:Ex) (as:Gx)|lend (i:Nat) (as:Gx)
inductive Ox where
 |oN|oS (a:Ex)
inductive Ix where
 |iL (a:Ex)|iT (a:Ex)|iR1 (as:Ax)|iRv (as:Ax)|iZ (t1 t2:Bool) (as:Ax)|iE (t1:Bool) (as:Ax)
end
mutual
inductive Sx where
 |sIf (t:Tx) (a b:Bx)|sSet (i:Nat) (a:Ex)|sRet (a:Ex)|sDrop (a:Ex)|sIx (i:Nat) (b a:Ex)|sApp (i:Nat) (a:Ex)
 |sForL (a:Ex) (tg:Tg) (b:Bx)|sForR1 (as:Ax) (tg:Tg) (b:Bx)|sForR2 (as:Ax) (tg:Tg) (b:Bx)|sForI (it:Ix) (tg:Tg) (b:Bx)
 |sAny|sTup (is:List Nat) (a:Ex)|sPar (i j:Nat) (as:Ax)|sPar3 (i j l:Nat) (as:Ax)
 |sWhile (t:Tx) (b:Bx)|sAug (i:Nat) (o:Op2) (a:Ex)
inductive Bx where
 |bNil|bOne (s:Sx)|bSeq (s:Sx) (b:Bx)
end
structure FI where
 x:Str
 n:Nat
 lv:Nat
 wild:Bool
 F:MF
def fiF(fs:List FI)(k:Nat):MF:=match fs[k]? with
 |some i=>i.F
 |none=>λ_=>.stuck
def fiX(fs:List FI)(k:Nat):Str:=match fs[k]? with
 |some i=>i.x
 |none=>""
def Op2.aug:Op2->Int->Int->Option Int
 | .add=>λa b=>some (a+b)
 | .sub=>λa b=>some (a-b)
 | .mul=>Gu
 |_=>λ_ _=>none
def Op2.isAug:Op2->Bool
 | .add | .sub | .mul=>true
 |_=>false
def W1(m:ME):ME:=λE=>match m E with
 | .exc _ _=>.stuck
 |o=>o
def Zv(m:MS):MS:=λE=>match m E with
 | .exc _ _=>.stuck
 |o=>o
theorem zCZ{m:ME}{E:zP}{p:R×zP}(h:m E=.ok p):W1 m E=.ok p:=by simp only[W1,h]
theorem uY{m:MS}{E:zP}{p:Fl×zP}(h:m E=.ok p):Zv m E=.ok p:=by simp only[Zv,h]
theorem no_E{X:Cx}{e:Expr}{m:ME}(h:EOk X.nox e m):EOk X e (W1 m):=yN h.nox λσ H Q ⟨M,E,hl,fr,k⟩=>by
 unfold W1 at k;refine⟨M,E,hl,fr,?_⟩;cases e:m E with
 |stuck=>rw[e]at k;exact k
 |exc x E1=>rw[e]at k;exact k.elim
 |ok p=>rw[e]at k;exact k
theorem no_S{X:Cx}{st:Stmt}{m:MS}(h:SOk X.nox st m):SOk X st (Zv m):=λpins s σ H D I ⟨M,E,hl,fr,k⟩=>by
 refine wpAny_mono (h pins s σ H D (I.wish _) ⟨M,E,hl,fr,?_⟩) (λ_ _ q=>q.unwish) λ_ _ z=>False.elim z
 unfold Zv at k;cases e:m E with
 |stuck=>rw[e]at k;exact k
 |exc x E1=>rw[e]at k;exact k.elim
 |ok p =>
  rw[e]at k;obtain⟨fl,E1⟩:=p;cases fl<;>exact k
theorem sk_forN{X:Cx}{st:Stmt}{mi:MI}{tg:MG}{body:MS}(h1:PS X st (λD σ H=>tMI X mi σ H λ_ _=>False))(h2:SOk X st (Zv (sForI mi tg body))):SOk X st (zEV mi tg body):=λpins s σ H D I ⟨M,E,hl,fr,k⟩=>by
 unfold zEV at k;cases e:mi E with
 |exc x E1=>rw[e]at k;exact h1 pins s σ H D I ⟨M,E,hl,fr,by rw[e];exact λH' g=>k σ H' g⟩
 |stuck=>rw[e]at k;exact h2 pins s σ H D I ⟨M,E,hl,fr,k⟩
 |ok p=>rw[e]at k;exact h2 pins s σ H D I ⟨M,E,hl,fr,k⟩
theorem zFa{i:Nat}{m:ME}:Zv (sSet i m)=sSet i (W1 m):=by
 funext E
 simp only[Zv,sSet,W1];cases m E with
 |stuck=>rfl
 |exc x E1=>rfl
 |ok p =>
  obtain⟨r,E1⟩:=p;dsimp only;cases Yj i r E1<;>rfl
mutual
def dE(fs:List FI):Ex->ME
 | .c d=>eC d
 | .gl d=>eC d
 | .var i=>Zr i
 | .mov i=>zD3 i
 | .bin o a b=>Ji o.f (dE fs a) (dE fs b)
 | .cmp o a b=>Ji o.f (dE fs a) (dE fs b)
 | .chain o o' a b c=>yl o.b o'.b (dE fs a) (dE fs b) (dE fs c)
 | .neg a=>eNeg (dE fs a)
 | .not a=>GF (dE fs a)
 | .and a b=>GG (dE fs a) (dE fs b)
 | .or a b=>eOr (dE fs a) (dE fs b)
 | .ifx t a b=>eIf (dT fs t) (dE fs a) (dE fs b)
 | .tup as=>Gd (dA fs as)
 | .lst as=>Ge (dA fs as)
 | .ix a b=>Ji ixD (dE fs a) (dE fs b)
 | .ixO i b=>eIxO i (dE fs b)
 | .sl a l h=>eSl slD (dE fs a) (dO fs l) (dO fs h)
 | .comp nl _ _ caps it tg tt el=>W1 (uV nl caps (dI fs it) tg.m (dT fs tt) (dE fs el))
 | .comp2 nl _ _ caps it tg jt tg2 el=>W1 (vi nl caps (dI fs it) tg.m jf (maL (dI fs jt) tg2.m jf (ma1 (dE fs el))))
 | .is T a=>eIs T.s (dE fs a)
 | .cB b as=>eCB b.f (dA fs as)
 | .call k as=>jh (fiF fs k) (dG fs as)
 | .maxd a d=>Ji zCO (dE fs a) (dE fs d)
def dT(fs:List FI):Tx->MT
 | .tAnd a b=>wZ (dT fs a) (dT fs b)
 | .tOr a b=>va (dT fs a) (dT fs b)
 | .tNot a=>wj (dT fs a)
 | .tE a=>tT (dE fs a)
 | .tTr=>jf
def dA(fs:List FI):Ax->MA
 | .nil=>Gc
 | .cons a as=>wk (dE fs a) (dA fs as)
def dG(fs:List FI):Gx->List Arg
 | .ev a as=>.ev (dE fs a)::dG fs as
 | .lend i as=>.lend i::dG fs as
 | .nil=>[]
def dO(fs:List FI):Ox->MO
 | .oN=>oNone
 | .oS a=>zD1 (dE fs a)
def dI(fs:List FI):Ix->MI
 | .iL a=>iL (dE fs a)
 | .iT a=>iT (dE fs a)
 | .iR1 as=>iR1 (dA fs as)
 | .iRv as=>DV.iRv (dA fs as)
 | .iZ t1 t2 as=>iZ t1 t2 (dA fs as)
 | .iE t1 as=>iE t1 (dA fs as)
end
mutual
def dS(fs:List FI):Sx->MS
 | .sIf t a b=>sIf (dT fs t) (dB fs a) (dB fs b)
 | .sSet i a=>sSet i (dE fs a)
 | .sRet a=>sRet (dE fs a)
 | .sDrop a=>sDrop (dE fs a)
 | .sIx i b a=>vd i (dE fs b) (dE fs a)
 | .sApp i a=>sApp i (dE fs a)
 | .sTup is a=>sTup is (dE fs a)
 | .sPar i j as=>sPar i j (dA fs as)
 | .sPar3 i j l as=>sPar3 i j l (dA fs as)
 | .sForL a tg b=>Zv (sForL (dE fs a) tg.m (dB fs b))
 | .sForI it tg b=>zEV (dI fs it) tg.m (dB fs b)
 | .sForR1 a tg b=>Zv (sForR1 (dA fs a) tg.m (dB fs b))
 | .sForR2 a tg b=>Zv (sForR2 (dA fs a) tg.m (dB fs b))
 | .sAny=>λ_=>.stuck
 | .sWhile t b=>Zv (DV.sWhile (dT fs t) (dB fs b))
 | .sAug i o a=>DV.sAug i o.aug (dE fs a)
def dB(fs:List FI):Bx->MS
 | .bNil=>Gg
 | .bOne s=>dS fs s
 | .bSeq s b=>W5 (dS fs s) (dB fs b)
end
structure Sg where
 N:List Str
 sc:Scope
 top:Bool
 cs:List (Str×D)
 fs:List FI
 bs:List Str
 lv:Nat
 calm:Bool
 cl:List Str
 rs:List Str
 oc:List Str
def kIs(sg:Sg)(x:Str)(k:NameKind):Bool:=sg.sc.names.lookup x==some k
def vis(sg:Sg)(i:Nat)(x:Str):Bool:=sg.N[i]?==some x&&(kIs sg x .local||(kIs sg x .cell||kIs sg x .free))&&(!(x==("__debug__":Str))&&!(x==("__classdict__":Str)))
def glb(sg:Sg)(x:Str):Bool:=kIs sg x .globalImplicit&&!(x==("__debug__":Str))
def zFb(sg:Sg)(i:Nat)(x:Str):Bool:=sg.N[i]?==some x&&(kIs sg x .local||(kIs sg x .cell&&(sg.top||sg.oc.contains x)))
def cIs:D->Const->Bool
 | .non,.none=>true
 | .bl b,.bool c=>b==c
 | .int i,.int j=>i==j
 | .str x,.str y=>x==y
 |_,_=>false
def feq:D->D->Bool
 | .non,.non=>true
 | .bl b,.bl c=>b==c
 | .int i,.int j=>i==j
 | .str x,.str y=>x==y
 |_,_=>false
def geq:D->D->Bool
 | .tup [.int a,.int b],.tup [.int c,.int d]=>a==c&&b==d
 | .tup [.non,.int b],.tup [.non,.int d]=>b==d
 |d,e=>feq d e
def gIs(sg:Sg)(x:Str)(d:D):Bool:=match sg.cs.lookup x with
 |some d'=>geq d d'
 |none=>false
def fIs(sg:Sg)(k:Nat)(x:Str):Bool:=match sg.fs[k]? with
 |some i=>i.x==x
 |none=>false
def fArg(sg:Sg)(n:Nat)(k:Nat):Bool:=match sg.fs[k]? with
 |some i=>i.n==n&&decide (i.lv<=sg.lv)&&(sg.calm||i.wild)
 |none=>false
def bIn(sg:Sg)(x:Str):Bool:=sg.bs.contains x
def gLen:Gx->Nat
 | .ev _ as=>gLen as+1
 | .lend _ as=>gLen as+1
 | .nil=>0
def Z4:Tg->Sg->Expr->Bool
 | .n i,sg,e=>match e with
  | .Name x _=>zFb sg i x
  |_=>false
 | .t is,sg,e=>match e with
  | .Tuple es _ _=>all2 sg is es
  |_=>false
where all2 (sg:Sg):List Nat->List Expr->Bool
 | [],[]=>true
 |i::is,e::es=>(match e with | .Name x _=>zFb sg i x|_=>false)&&all2 sg is es
 |_,_=>false
def relab(scope:Scope)(sc:Scope):Scope:={scope with names:=scope.names.map λ(n,k)=>if(k==NameKind.free&&sc.kind==.function&&sc.names.lookup n==some .cell)then(n,NameKind.cell)else(n,k)}
def capB(sg:Sg)(scope:Scope):List Nat->List Str->Bool
 | [],[]=>true
 |j::js,x::xs=>sg.N[j]?==some x&&scope.names.lookup x==some .free&&capB sg scope js xs
 |_,_=>false
def JD(sg:Sg)(N:List Str)(scope:Scope):Sg:={sg with N:=N,sc:=relab scope sg.sc,top:=false,oc:=(scope.names.filter λy=>y.2==.cell).map Prod.fst}
def vA(sg:Sg)(nl:Nat)(loc capn:List Str)(caps:List Nat)(scope:Scope):Bool :=
 loc.length==nl&&scope.kind==.function&&decide (loc++capn).Nodup&&scope.names.all (λy=>y.2 != .local||scope.names.lookup y.1==some .local)&&scope.names.all (λy=>y.2 != .cell||scope.names.lookup y.1==some .cell)
  && scope.names.all (λy=>y.2 != .free||sg.sc.names.lookup y.1==some .cell)&&capB sg scope caps capn
def isCmp:Ex->Bool
 | .cmp _ _ _=>true
 | .chain _ _ _ _ _=>true
 |_=>false
def swOk(sg:Sg)(es:List Expr)(v:Expr):Bool:=match v with
 | .Tuple vs _ _=>es.any (λe=>match e with | .Name x _=>!(kIs sg x .local)|_=>true)||vs.all (foldedForSure 8)
 |_=>true
def swB(sg:Sg)(x:Str)(px:Pos)(scope:Scope)(vp:Pos):Bool:=kIs sg x .local&&px.line==vp.line&&!(scope.names.any λy=>y.1==x&&(y.2==.local||y.2==.cell))
def isCo:Ex->Bool
 | .comp _ _ _ _ _ _ _ _=>true
 | .comp2 _ _ _ _ _ _ _ _ _=>true
 |_=>false
def setOk(sg:Sg)(x:Str)(px:Pos)(a:Ex)(v:Expr):Bool:=match v with
 | .ListComp _ _ scope vp=>sg.sc.kind==.function&&(!swB sg x px scope vp||isCo a)
 |v=>wg v
def zCa(sg:Sg)(i j:Nat)(x y:Str)(px py:Pos)(a b:Expr):Bool :=
 sg.sc.kind==.function&&sg.N[i]?==some x&&sg.N[j]?==some y&&i != j&&kIs sg x .local&&kIs sg y .local&&py.line==px.line&&!(x==y)&&!zL a&&!zL b&&!([a,b].all (foldedForSure 8))&&!([a,b].all (constantsAlone 8))
def zCb(sg:Sg)(i j l:Nat)(x y z:Str)(px py pz:Pos)(a b c:Expr):Bool :=
 sg.sc.kind==.function&&sg.N[i]?==some x&&sg.N[j]?==some y&&sg.N[l]?==some z&&i != j&&i != l&&j != l&&kIs sg x .local&&kIs sg y .local&&kIs sg z .local&&py.line==px.line&&pz.line==px.line&&!(x==y)&&!(x==z)&&!(y==z)&&!zL a&&!zL b&&!zL c&&!([a,b,c].all (foldedForSure 8))&&!([a,b,c].all (constantsAlone 8))
def isTr:Tx->Bool
 | .tTr=>true
 |_=>false
def zBQ:Ix->Expr->Bool
 | .iZ _ _ _,e=>match e with
  | .Tuple _ _ _=>true
  |_=>false
 | .iE _ _,e=>match e with
  | .Tuple _ _ _=>true
  |_=>false
 |_,_=>true
mutual
def yS:Ex->Sg->Expr->Bool
 | .c d,_,e=>match e with
  | .Constant k _ _=>cIs d k
  |_=>false
 | .gl d,sg,e=>match e with
  | .Name x _=>glb sg x&&gIs sg x d
  |_=>false
 | .var i,sg,e=>match e with
  | .Name x _=>vis sg i x
  |_=>false
 | .mov i,sg,e=>match e with
  | .Name x _=>vis sg i x
  |_=>false
 | .bin o a b,sg,e=>match e with
  | .BinOp x op y _=>op==o.op&&(yS a sg x&&yS b sg y)
  |_=>false
 | .cmp o a b,sg,e=>match e with
  | .Compare x [op] [y] _=>op==o.op&&yb y&&(yS a sg x&&yS b sg y)
  |_=>false
 | .chain o o' a b c,sg,e=>match e with
  | .Compare x [op,op'] [y,z] _=>op==o.op&&op'==o'.op&&o.isI&&o'.isI&&yb z&&(yS a sg x&&(yS b sg y&&yS c sg z))
  |_=>false
 | .neg a,sg,e=>match e with
  | .UnaryOp .USub x _=>yS a sg x
  |_=>false
 | .not a,sg,e=>match e with
  | .UnaryOp .Not x _=>yS a sg x
  |_=>false
 | .and a b,sg,e=>match e with
  | .BoolOp .And (x::y::r) p=>yS a sg x&&(match r with | []=>yS b sg y|z::r'=>yS b sg (.BoolOp .And (y::z::r') p))
  |_=>false
 | .or a b,sg,e=>match e with
  | .BoolOp .Or (x::y::r) p=>yS a sg x&&(match r with | []=>yS b sg y|z::r'=>yS b sg (.BoolOp .Or (y::z::r') p))
  |_=>false
 | .ifx t a b,sg,e=>match e with
  | .IfExp c x y _=>chkT t sg c&&(yS a sg x&&yS b sg y)
  |_=>false
 | .tup as,sg,e=>match e with
  | .Tuple es _ _=>chkA as sg es
  |_=>false
 | .lst as,sg,e=>match e with
  | .List es _=>chkA as sg es
  |_=>false
 | .ix a b,sg,e=>match e with
  | .Subscript x y _=>GY y&&(yS a sg x&&yS b sg y)
  |_=>false
 | .ixO i b,sg,e=>match e with
  | .Subscript (.Name x _) y _=>vis sg i x&&GY y&&yS b sg y
  |_=>false
 | .sl a l h,sg,e=>match e with
  | .Subscript x (.Slice lo hi none _) _=>yS a sg x&&(chkO l sg lo&&chkO h sg hi)
  |_=>false
 | .comp nl loc capn caps it tg tt el,sg,e=>match e with
  | .ListComp elt [⟨target,iter,ifs,0⟩] scope _=>sg.calm&&(vA sg nl loc capn caps scope&&yb iter&&((zBQ it target&&chkI it sg iter)&&(Z4 tg (JD sg (loc++capn) scope) target&&((match ifs with | []=>isTr tt|c::cs=>cs.isEmpty&&chkT tt (JD sg (loc++capn) scope) c)&&yS el (JD sg (loc++capn) scope) elt))))
  |_=>false
 | .comp2 nl loc capn caps it tg jt tg2 el,sg,e=>match e with
  | .ListComp elt [⟨target,iter,[],0⟩,⟨target2,iter2,[],0⟩] scope _=>sg.calm&&(vA sg nl loc capn caps scope&&yb iter&&((zBQ it target&&chkI it sg iter)&&(Z4 tg (JD sg (loc++capn) scope) target&&(yb iter2&&((zBQ jt target2&&chkI jt (JD sg (loc++capn) scope) iter2)&&(Z4 tg2 (JD sg (loc++capn) scope) target2&&yS el (JD sg (loc++capn) scope) elt))))))
  |_=>false
 | .is T a,sg,e=>match e with
  | .Call (.Name f _) [x,.Name y _] [] _=>f == "isinstance"&&y==T.nm&&glb sg "isinstance"&&bIn sg "isinstance"&&glb sg T.nm&&bIn sg T.nm&&!zL x&&yS a sg x
  |_=>false
 | .cB b as,sg,e=>match e with
  | .Call (.Name f _) (x::es) [] _=>sg.calm&&(f==b.nm&&glb sg b.nm&&bIn sg b.nm&&jc (x::es)&&chkA as sg (x::es))
  |_=>false
 | .call k as,sg,e=>match e with
  | .Call (.Name f _) (x::es) [] _=>glb sg f&&fIs sg k f&&fArg sg (gLen as) k&&jc (x::es)&&chkG as sg (x::es)
  |_=>false
 | .maxd a d,sg,e=>match e with
  | .Call (.Name f _) [x] [⟨some nm,y,_⟩] _=>sg.calm&&(f == "max"&&nm==Str.ofString "default"&&glb sg "max"&&bIn sg "max"&&!zL x&&(yS a sg x&&yS d sg y))
  |_=>false
def chkT:Tx->Sg->Expr->Bool
 | .tAnd a b,sg,e=>match e with
  | .BoolOp .And (x::y::r) p=>chkT a sg x&&(match r with | []=>chkT b sg y|z::r'=>chkT b sg (.BoolOp .And (y::z::r') p))
  |_=>false
 | .tOr a b,sg,e=>match e with
  | .BoolOp .Or (x::y::r) p=>chkT a sg x&&(match r with | []=>chkT b sg y|z::r'=>chkT b sg (.BoolOp .Or (y::z::r') p))
  |_=>false
 | .tNot a,sg,e=>match e with
  | .UnaryOp .Not x _=>chkT a sg x
  |_=>false
 | .tE a,sg,e=>(zFG e||isCmp a)&&yS a sg e
 | .tTr,_,_=>false
def chkA:Ax->Sg->List Expr->Bool
 | .nil,_,es=>es.isEmpty
 | .cons a as,sg,es=>match es with
  |x::r=>!zL x&&(yS a sg x&&chkA as sg r)
  | []=>false
def chkG:Gx->Sg->List Expr->Bool
 | .nil,_,es=>es.isEmpty
 | .ev a as,sg,es=>match es with
  |x::r=>!zL x&&(yS a sg x&&chkG as sg r)
  | []=>false
 | .lend i as,sg,es=>match es with
  | .Name x _::r=>vis sg i x&&chkG as sg r
  |_=>false
def chkO:Ox->Sg->Option Expr->Bool
 | .oN,_,o=>o.isNone
 | .oS a,sg,o=>match o with
  |some e=>yS a sg e
  |none=>false
def chkI:Ix->Sg->Expr->Bool
 | .iL a,sg,e=>yS a sg e
 | .iT a,sg,e=>yS a sg e
 | .iRv as,sg,e=>match e with
  | .Call (.Name f _) [.Call (.Name f2 _) [x] [] _] [] _=>f == "reversed"&&glb sg "reversed"&&bIn sg "reversed"&&(f2 == "range"&&glb sg "range"&&bIn sg "range"&&!zL x&&chkA as sg [x])
  |_=>false
 | .iR1 as,sg,e=>match e with
  | .Call (.Name f _) [x] [] _=>f == "range"&&glb sg "range"&&bIn sg "range"&&!zL x&&chkA as sg [x]
  |_=>false
 | .iE t1 as,sg,e=>match e with
  | .Call (.Name f _) [x] [] _=>f == "enumerate"&&glb sg "enumerate"&&bIn sg "enumerate"&&!zL x&&chkA as sg [x]
  |_=>false
 | .iZ t1 t2 as,sg,e=>match e with
  | .Call (.Name f _) [x,y] [] _=>f == "zip"&&glb sg "zip"&&bIn sg "zip"&&!zL x&&!zL y&&chkA as sg [x,y]
  |_=>false
end
mutual
def chkS:Sx->Sg->Stmt->Bool
 | .sIf t a b,sg,e=>match e with
  | .If c x y _=>chkT t sg c&&(chkB a sg x&&chkB b sg y)
  |_=>false
 | .sSet i a,sg,e=>match e with
  | .Assign [.Name x px] v _=>zFb sg i x&&setOk sg x px a v&&yS a sg v
  |_=>false
 | .sAny,_,_=>true
 | .sWhile t b,sg,e=>match e with
  | .While c body [] _=>chkT t sg c&&chkB b sg body
  |_=>false
 | .sAug i o a,sg,e=>match e with
  | .AugAssign (.Name x _) op v _=>zFb sg i x&&op==o.op&&o.isAug&&yS a sg v
  |_=>false
 | .sTup is a,sg,e=>match e with
  | .Assign [.Tuple es k p] v _=>sg.calm&&(Z4.all2 sg is es&&wg v&&swOk sg es v&&yS a sg v)
  |_=>false
 | .sPar3 i j l as,sg,e=>match e with
  | .Assign [.Tuple [.Name x px,.Name y py,.Name z pz] _ _] (.Tuple [a,b,c] _ _) _=>sg.calm&&(zCb sg i j l x y z px py pz a b c&&chkA as sg [a,b,c])
  |_=>false
 | .sPar i j as,sg,e=>match e with
  | .Assign [.Tuple [.Name x px,.Name y py] _ _] (.Tuple [a,b] _ _) _=>sg.calm&&(zCa sg i j x y px py a b&&chkA as sg [a,b])
  |_=>false
 | .sRet a,sg,e=>match e with
  | .Return (some v) _=>yS a sg v
  |_=>false
 | .sDrop a,sg,e=>match e with
  | .Expr v _=>wg v&&yS a sg v
  |_=>false
 | .sIx i b a,sg,e=>match e with
  | .Assign [.Subscript (.Name x _) y _] v _=>vis sg i x&&GY y&&wg v&&(yS b sg y&&yS a sg v)
  |_=>false
 | .sApp i a,sg,e=>match e with
  | .Expr (.Call (.Attribute (.Name x _) m ap) [v] [] cp) _=>m == "append"&&ap.endLine==cp.line&&vis sg i x&&!zL v&&yS a sg v
  |_=>false
 | .sForL a tg b,sg,e=>match e with
  | .For t it body [] _=>sg.calm&&(yb it&&Z4 tg sg t&&(yS a sg it&&chkB b sg body))
  |_=>false
 | .sForI ix tg b,sg,e=>match e with
  | .For t it body [] _=>sg.calm&&(yb it&&Z4 tg sg t&&((zBQ ix t&&chkI ix sg it)&&chkB b sg body))
  |_=>false
 | .sForR1 as tg b,sg,e=>match e with
  | .For t (.Call (.Name f _) [x] [] _) body [] _=>sg.calm&&(f == "range"&&glb sg "range"&&bIn sg "range"&&!zL x&&Z4 tg sg t&&(chkA as sg [x]&&chkB b sg body))
  |_=>false
 | .sForR2 as tg b,sg,e=>match e with
  | .For t (.Call (.Name f _) [x,y] [] _) body [] _=>sg.calm&&(f == "range"&&glb sg "range"&&bIn sg "range"&&!zL x&&!zL y&&Z4 tg sg t&&(chkA as sg [x,y]&&chkB b sg body))
  |_=>false
def chkB:Bx->Sg->List Stmt->Bool
 | .bNil,_,l=>l.isEmpty
 | .bOne a,sg,l=>match l with
  | [s]=>chkS a sg s
  |_=>false
 | .bSeq a b,sg,l=>match l with
  |s::r=>chkS a sg s&&chkB b sg r
  |_=>false
end
structure SgOk(X:Cx)(sg:Sg):Prop where
 N:X.N=sg.N
 sc:X.env.scope=sg.sc
 fn:sg.top=true->∀x,X.fn x=true
 oc:∀x∈sg.oc,X.env.scope.names.lookup x=some .cell->X.fn x=true
 calm:sg.calm=true->X.calm=true
 hd:sg.calm=true->X.A.handled=none
 stk:sg.top=true->X.stack=X.env::X.outer/\X.env.frame=some X.env.locals
 nd:X.N.Nodup
 cs:∀x d,sg.cs.lookup x=some d->∃u v,X.mg x=some u/\yU v u/\∀H,Rep X.K X.mg H d v
 fs:∀i∈sg.fs,∃f fd ps,X.mg i.x=some (.ref f)/\keepIn X.K (.ref f)=true/\WK X.K fd ps []/\ps.length=i.n/\FnOkN (!i.wild) X.prog X.w X.K X.mg X.base i.lv f fd ps (spM X.K X.mg i.n i.F)
 bs:∀x∈sg.bs,X.mg x=none
 room:RoomN sg.lv X.A
 cl:sg.cl≠[]->∃T,X.mg "ThrowError"=some (.ref T)/\TCls X.K T/\∀c∈sg.cl,∃C,X.mg c=some (.ref C)/\XCls X.K c C T/\C≠T
 rs:∀c∈sg.rs,∃C,X.mg c=some (.ref C)/\excIn X.K C VB "ValueError.__new__"=true
 sm:SmOk X.K
section
variable{X:Cx}{sg:Sg}
theorem jR(G:SgOk X sg){x:Str}{k:NameKind}(h:kIs sg x k=true):X.env.scope.names.lookup x=some k:=by
 rw[G.sc];simpa[kIs]using h
theorem wD(G:SgOk X sg){x:Str}(h:glb sg x=true):Gl X x/\(x==("__debug__":Str))=false:=by
 simp only[glb,Bool.and_eq_true,Bool.not_eq_true']at h;exact⟨jR G h.1,h.2⟩
theorem vj(G:SgOk X sg){x:Str}{i:Nat}{pos:Pos}(h:vis sg i x=true):PE X (.Name x pos) (zBU i):=by
 simp only[vis,Bool.and_eq_true,Bool.or_eq_true,Bool.not_eq_true']at h;refine pe_var (by rw[G.N];simpa using h.1.1) ?_ h.2.1 h.2.2;rcases h.1.2 with q|q|q
 ·exact .inl (jR G q)
 ·exact .inr (.inl (jR G q))
 ·exact .inr (.inr (jR G q))
theorem uZ(G:SgOk X sg){x:Str}{i:Nat}(h:zFb sg i x=true):X.N[i]?=some x/\Loc X.env.scope x/\(X.fn x=true\/X.env.scope.names.lookup x=some .local):=by
 simp only[zFb,Bool.and_eq_true,Bool.or_eq_true]at h;refine⟨by rw[G.N];simpa using h.1,?_⟩;rcases h.2 with q|q
 ·exact⟨.inl (jR G q),.inr (jR G q)⟩
 ·refine⟨.inr (jR G q.1),.inl ?_⟩
  rcases q.2 with q2|q2
  ·exact G.fn q2 x
  ·exact G.oc x (by simpa using q2) (jR G q.1)
theorem JM(G:SgOk X sg){x:Str}(h:bIn sg x=true):X.mg x=none:=G.bs x (by simpa[bIn]using h)
theorem feq_of{d d':D}(h:feq d d'=true):d=d':=by
 cases d<;>cases d'<;>simp[feq]at h<;>first|rfl|(subst h;rfl)
theorem geq_of{d d':D}(h:geq d d'=true):d=d':=by
 unfold geq at h;split at h
 ·obtain⟨h1,h2⟩:=Bool.and_eq_true_iff.mp h
  have:=beq_iff_eq.mp h1;have:=beq_iff_eq.mp h2
  subst_vars;rfl
 ·have:=beq_iff_eq.mp h
  subst_vars;rfl
 ·exact feq_of h
theorem ok_glR{x:Str}{d:D}{u:Value}{v:V}{pos:Pos}(hg:Gl X x)(hm:X.mg x=some u)(r:yU v u)(hr:∀H,Rep X.K X.mg H d v)(hd:(x==("__debug__":Str))=false):EOk X (.Name x pos) (eC d) :=
 yN (pe_glob hg hm r hd) λσ H Q ⟨M,E,hl,fr,k⟩=>k _ H ((Got.refl (T0:=[]) hl fr).more (T:=[(some v,.val d)]) (FR.add fr (hr _)) Step.refl.add)
theorem fIs_of{k:Nat}{x:Str}(h:fIs sg k x=true):∃i,sg.fs[k]?=some i/\i.x=x:=by
 unfold fIs at h;split at h
 ·rename_i i e;exact⟨i,e,by simpa using h⟩
 ·cases h
theorem fArg_of{k n:Nat}(h:fArg sg n k=true):∃i,sg.fs[k]?=some i/\i.n=n/\i.lv<=sg.lv/\(sg.calm||i.wild)=true:=by
 unfold fArg at h;split at h
 ·rename_i i e
  simp only[Bool.and_eq_true,decide_eq_true_eq,beq_iff_eq]at h;exact⟨i,e,h.1.1,h.1.2,by simpa using h.2⟩
 ·cases h
theorem hd_of(G:SgOk X sg){b:Bool}(h:(sg.calm||b)=true):(!b)=true->X.A.handled=none:=λhb=>G.hd (by
 cases b with
 |true=>cases hb
 |false=>simpa using h)
theorem fiF_of{fs:List FI}{k:Nat}{i:FI}(h:fs[k]?=some i):fiF fs k=i.F/\fiX fs k=i.x:=by
 unfold fiF fiX;rw[h];exact⟨rfl,rfl⟩
theorem vk{b:Expr}(h:GY b=true):uG b:=by
 intro o i;cases b<;>first|rfl|(cases h)
theorem ZX(es:List Expr)(is:List Nat)(G:SgOk X sg)(h:Z4.all2 sg is es=true):PGs X es (YA is)/\(assignEach es X.env).length=is.length/\(assignEach es X.env).findIdx? (·.1)=none:=by
 induction es generalizing is with
 |nil =>
  cases is with
  |nil=>exact⟨pgs_nil,rfl,rfl⟩
  |cons i is=>cases h
 |cons e es ih =>
  cases is with
  |nil=>cases h
  |cons i is =>
   simp only[Z4.all2,Bool.and_eq_true]at h;obtain⟨h1,h2⟩:=h;cases e with
   |Name x pos =>
    obtain⟨q1,q2,q3⟩:=uZ G h1;obtain⟨i1,i2,i3⟩:=ih is h2;refine⟨zDb (zBX G.nd q1 q2 q3) i1 rfl,?_,?_⟩
    ·show(assignEach es X.env).length+1=_
     rw[i2];rfl
    ·show List.findIdx? _ ((false,_)::assignEach es X.env)=none
     simp only[List.findIdx?_cons,i3];rfl
   |_=>cases h1
def gOf(K:PySem.W.Frag):Tg->TG
 | .n i=>GM i
 | .t is=>gTup K is.length (YA is)
theorem J6(tg:Tg):GOk X (gOf X.K tg) tg.m:=by
 cases tg with
 |n i=>exact go_name i
 |t is=>exact zFP is rfl
theorem vB{tg:Tg}{t:Expr}(hcm:sg.calm=true)(G:SgOk X sg)(h:Z4 tg sg t=true):PG X t (gOf X.K tg):=by
 cases tg with
 |n i =>
  simp only[Z4]at h;cases t with
  |Name x pos =>
   obtain⟨q1,q2,q3⟩:=uZ G h;exact zBX G.nd q1 q2 q3
  |_=>cases h
 |t is =>
  simp only[Z4]at h;cases t with
  |Tuple es k pos =>
   obtain⟨q1,q2,q3⟩:=ZX es is G h;exact zE5 (G.calm hcm) q1 q2 q3
  |_=>cases h
theorem Z5(G:SgOk X sg){N:List Str}{scope:Scope}(hn:N.Nodup)(hcell:∀y∈scope.names,y.2=.cell->scope.names.lookup y.1=some .cell){cl C ex s H}:SgOk (cxB X N scope cl C ex s H) (JD sg N scope) where
 N:=rfl
 sc:=by
  show relabel scope X.env=relab scope sg.sc
  rw[<- G.sc];rfl
 fn:=λh=>by cases h
 oc:=λx h _=>by
  obtain⟨y,hy,rfl⟩:=mem_map.mp (show x∈(scope.names.filter λy=>y.2==.cell).map Prod.fst from h);obtain⟨q1,q2⟩:=mem_filter.mp hy;show(scope.names.lookup y.1==some NameKind.cell)=true;rw[hcell y q1 (by simpa using q2)];rfl
 calm:=G.calm
 hd:=G.hd
 stk:=λh=>by cases h
 nd:=hn
 cs:=G.cs
 fs:=G.fs
 bs:=G.bs
 room:=G.room
 cl:=G.cl
 rs:=G.rs
 sm:=G.sm
theorem yL(G:SgOk X sg):SgOk X.nox sg:=⟨G.N,G.sc,G.fn,G.oc,G.calm,G.hd,G.stk,G.nd,G.cs,G.fs,G.bs,G.room,G.cl,G.rs,G.sm⟩
end
section
open Bool
theorem kit_of(K:PySem.W.Frag)(T:Ty):Kit K T.s:=by
 cases T
 ·exact kit_int K
 ·exact zEE K
 ·exact zCA K
 ·exact zEF K
 ·exact kit_str K
 ·exact zEG K
theorem bt_of(T:Ty):bootBuiltins T.nm=some (.type T.s):=by
 cases T
 ·exact zFT
 ·exact bt_bool
 ·exact zAQ
 ·exact bt_list
 ·exact bt_str
 ·exact bt_dict
theorem nm_of(T:Ty):T.nm≠"__name__":=by cases T<;>decide +kernel
theorem bin_of{X:Cx}{o:Op2}{a b:Expr}{ma mb:ME}{pos:Pos}(ha:EOk X a ma)(hb:EOk X b mb):EOk X (.BinOp a o.op b pos) (Ji o.f ma mb):=by
 cases o
 ·exact zA4 op_addD ro_add ha hb
 ·exact zA4 op_sub ro_sub ha hb
 ·exact zA4 (op_mulD.or op_repL) ro_mulG ha hb
 ·exact zA4 zDy ro_fdiv ha hb
 ·exact zA4 op_mod ro_mod ha hb
 ·exact zA4 op_pow ro_pow ha hb
theorem zAW{X:Cx}{sg:Sg}(G:SgOk X sg):X.A.units+20<cLine:=by have:=G.room.un;omega
theorem bt_sum:bootBuiltins "sum"=some (.builtin "sum"):=by decide +kernel
theorem bt_abs:bootBuiltins "abs"=some (.builtin "abs"):=by decide +kernel
theorem yg{op:CmpOp}{b:Expr}(h:yb b=true):behindInMarks op b=false:=by
 cases b<;>first|rfl|(cases h)
theorem cmp_of{X:Cx}{sg:Sg}(G:SgOk X sg){o:Cp}{a b:Expr}{ma mb:ME}{pos:Pos}(hn:yb b=true)(ha:EOk X a ma)(hb:EOk X b mb):EOk X (.Compare a [o.op] [b] pos) (Ji o.f ma mb):=by
 cases o
 ·exact vZ op_lt ro_lt (yg hn) ha hb
 ·exact vZ op_le ro_le (yg hn) ha hb
 ·exact vZ op_gt ro_gt (yg hn) ha hb
 ·exact vZ op_ge ro_ge (yg hn) ha hb
 ·exact vZ (op_eq.or (zFU (zAW G))) zFX (yg hn) ha hb
 ·exact vZ (op_ne.or (zFV (zAW G))) zFY (yg hn) ha hb
theorem cmpT_of{X:Cx}{sg:Sg}(G:SgOk X sg){o:Cp}{a b:Expr}{ma mb:ME}{pos:Pos}(hn:yb b=true)(ha:EOk X a ma)(hb:EOk X b mb):TOk X (.Compare a [o.op] [b] pos) (tT (Ji o.f ma mb)):=by
 cases o
 ·exact Y6 op_lt ro_lt (yg hn) ha hb
 ·exact Y6 op_le ro_le (yg hn) ha hb
 ·exact Y6 op_gt ro_gt (yg hn) ha hb
 ·exact Y6 op_ge ro_ge (yg hn) ha hb
 ·exact Y6 (op_eq.or (zFU (zAW G))) zFX (yg hn) ha hb
 ·exact Y6 (op_ne.or (zFV (zAW G))) zFY (yg hn) ha hb
theorem zCc{o o':CmpOp}{b c:Expr}(h:yb c=true):lastMarks [o,o'] [b,c]=false:=yg h
theorem zAX{X:Cx}{o:Cp}(h:o.isI=true):OpR X (compareOp o.op) (rI0 λi j=>.bl (o.b i j)):=by
 cases o<;>first|exact op_lt|exact op_le|exact op_gt|exact op_ge|(cases h)
theorem bi_of{X:Cx}{sg:Sg}(hcm:sg.calm=true)(G:SgOk X sg)(b:Bi){x:Expr}{es:List Expr}{m:MA}{p pos:Pos}(hg:Gl X b.nm)(hm:X.mg b.nm=none)(hs:jc (x::es)=true)(ha:AOk X (x::es) m):EOk X (.Call (.Name b.nm p) (x::es) [] pos) (eCB b.f m):=by
 have h1:zL x=false:=by simp only[jc,Bool.and_eq_true,Bool.not_eq_true']at hs;exact hs.1
 have h2:jc es=true:=by simp only[jc,Bool.and_eq_true,Bool.not_eq_true']at hs;exact hs.2
 cases b with
 |len=>exact Yi GV co_len hg hm bt_len ha (by decide +kernel) (by decide +kernel) h1 h2
 |max=>exact Yi (zCN (zBi (G.calm hcm)) (zCG (G.calm hcm))) co_maxG hg hm zFS ha (by decide +kernel) (by decide +kernel) h1 h2
 |all=>exact Yi (zDu (G.calm hcm)) co_all hg hm bt_all ha (by decide +kernel) (by decide +kernel) h1 h2
 |int=>exact Gf zBj co_int hg hm zFT ha (by decide +kernel) (by decide +kernel) h1 h2
 |tuple=>exact Gf uJ zD0 hg hm zAQ ha (by decide +kernel) (by decide +kernel) h1 h2
 |sum=>exact Yi (zCN (zCH (G.calm hcm)) (zCI (G.calm hcm))) co_sumG hg hm bt_sum ha (by decide +kernel) (by decide +kernel) h1 h2
 |abs=>exact Yi zDg co_absG hg hm bt_abs ha (by decide +kernel) (by decide +kernel) h1 h2
theorem zCd(fs:List FI):∀as:Gx,(dG fs as).length=gLen as
 | .nil=>rfl
 | .ev a as=>congrArg (·+1) (zCd fs as)
 | .lend i as=>congrArg (·+1) (zCd fs as)
theorem call_ok{X:Cx}{sg:Sg}(G:SgOk X sg){k:Nat}{as:Gx}{f:Str}{x:Expr}{es:List Expr}{p pos:Pos}(h1:glb sg f=true)(h2:fIs sg k f=true)(h3:fArg sg (gLen as) k=true)(h4:jc (x::es)=true)(ha:zFQ X (x::es) (dG sg.fs as)):EOk X (.Call (.Name f p) (x::es) [] pos) (jh (fiF sg.fs k) (dG sg.fs as)):=by
 obtain⟨g1,g2⟩:=wD G h1;obtain⟨i,e1,e2⟩:=fIs_of h2;obtain⟨i',e1',e3,e4,e5⟩:=fArg_of h3;rw[e1]at e1';cases e1';obtain⟨a,fd,ps,m1,m2,m3,m4,m5⟩:=G.fs i (mem_of_getElem? e1);rw[(fiF_of e1).1];subst e2;simp only[jc,Bool.and_eq_true,Bool.not_eq_true']at h4;rw[<- m4]at m5;exact ok_call m5 (hd_of G e5) (G.room.mono e4) g1 m1 m2 m3 ha (by rw[zCd,m4,e3]) g2 h4.1 h4.2
theorem G0{X:Cx}{sg:Sg}(G:SgOk X sg){scope:Scope}:∀{caps:List Nat} {capn:List Str},capB sg scope caps capn=true->Qh X scope caps capn
 | [],[],_=>trivial
 | [],_::_,h=>by cases h
 |_::_,[],h=>by cases h
 |j::js,x::xs,h=>by
  simp only[capB,Bool.and_eq_true]at h;exact⟨by rw[G.N];simpa using h.1.1,by simpa using h.1.2,G0 G h.2⟩
end
section
theorem set_of{x:Str}{p p1:Pos}{b:Expr}{env:Env}(h:GY b=true):∀v,assign (.Subscript (.Name x p) b p1) env v=(do
   let ov <- holding [v] (eval (.Name x p) env)
   let iv <- holding [v,ov] (eval b env)
   standAt p1
   holding [v,ov,iv] (setItem ov iv v)
   release [v,ov,iv] []):=by
 intro v;cases b<;>first|rfl|(cases h)
theorem ua{t e:Expr}{l:Nat}{env:Env}(h:wg e=true):swapsWithSole [t] e l env=pure false:=by
 show swapsWith e (some t) l env=pure false
 exact uM h
theorem Qm{X:Cx}{sg:Sg}(G:SgOk X sg)(h:(sg.sc.kind==ScopeKind.function)=true):X.env.blockKind=.function:=by
 have:X.env.scope.kind=.function:=by rw[G.sc];exact beq_iff_eq.mp h
 unfold Env.blockKind;rw[this];rfl
theorem zCe{X:Cx}{sg:Sg}(G:SgOk X sg)(hk:(sg.sc.kind==ScopeKind.function)=true){el:Expr}{gs:List Comprehension}{scope:Scope}{vp px:Pos}{x:Str}{l:Nat}:swapsWith (.ListComp el gs scope vp) (some (.Name x px)) l X.env=pure (swB sg x px scope vp):=by
 show(pure (X.env.blockKind==.function&&X.env.kindOf x==some .local&&px.line==vp.line&&!(scope.names.any λ(n,k)=>n==x&&(k==.local||k==.cell))):Sem Bool)=_
 rw[Qm G hk];unfold swB kIs Env.kindOf;rw[G.sc];simp
theorem zFc{α β:Type}(f:α->Option β):∀l:List α,(l.filterMap f).length<=l.length
 | []=>le_refl _
 |a::l=>by
  have:=zFc f l;rw[filterMap_cons];split
  ·simp only[length_cons];omega
  ·simp only[length_cons];omega
theorem fm_lt{α β:Type}(f:α->Option β):∀l:List α,(∃a∈l,f a=none)->(l.filterMap f).length<l.length
 | [],h=>by obtain⟨a,h,_⟩:=h;cases h
 |b::l,h=>by
  obtain⟨a,hm,hf⟩:=h;rw[filterMap_cons];rcases mem_cons.mp hm with rfl|hm
  ·rw[hf]
   have:=zFc f l;simp only[length_cons];omega
  ·have:=fm_lt f l ⟨a,hm,hf⟩
   split
   ·simp only[length_cons];omega
   ·simp only[length_cons];omega
theorem sw_ok{X:Cx}{sg:Sg}(G:SgOk X sg){es:List Expr}{k:Nat}{p:Pos}{v:Expr}(h:swOk sg es v=true):swappedStores [.Tuple es k p] v X.env=pure none:=by
 cases v with
 |Tuple vs k2 p2 =>
  unfold swappedStores;dsimp only;split
  ·rfl
  split
  ·rfl
  split
  ·rfl
  rename_i hn;split
  ·rfl
  rename_i hf
  exfalso
  rcases Bool.or_eq_true _ _ |>.mp h with h|h
  ·obtain⟨e,he,hk⟩:=List.any_eq_true.mp h
   refine hn (Bool.or_eq_true _ _ |>.mpr (.inl ?_));refine bne_iff_ne.mpr (ne_of_lt (fm_lt _ es ⟨e,he,?_⟩));cases e with
   |Name x q =>
    have:X.env.kindOf x≠some .local:=λz=>by
     have z':sg.sc.names.lookup x=some .local:=by rw[<- G.sc];exact z
     simp[kIs,z']at hk
    have e1:(X.env.kindOf x==some NameKind.local)=false:=by simpa using this
    simp[e1]
   |_=>rfl
  ·exact hf h
 |_=>rfl
theorem sw_par0{env:Env}{x y:Str}{px py p p2:Pos}{a b:Expr}{kt k2:Nat}(hk:env.blockKind=.function)(hx:env.kindOf x=some .local)(hy:env.kindOf y=some .local)(hl:py.line=px.line)(hxy:(x==y)=false)(ha:zL a=false)(hb:zL b=false)(hf:[a,b].all (foldedForSure 8)=false)(hc:[a,b].all (constantsAlone 8)=false) :
  swappedStores [.Tuple [.Name x px,.Name y py] kt p] (.Tuple [a,b] k2 p2) env=pure (some [x,y]):=by
 have sa:∀e:Expr,(match e with | .Starred _ _=>true|_=>false)=zL e:=λe=>by cases e<;>rfl
 have e1:([Expr.Name x px,Expr.Name y py].filterMap fun
  | .Name id pos=>if env.kindOf id==some .local&&pos.line==px.line then some id else none
  |_=>none)=[x,y]:=by simp[hx,hy,hl]
 have e2:[x,y].eraseDups.length=2:=by
  have:y≠x:=λz=>by subst z;simp at hxy
  have h2:(y==x)=false:=by simpa using this
  simp[List.eraseDups,List.eraseDupsBy,List.eraseDupsBy.loop,h2]
 have e3:([a,b].any fun | .Starred ..=>true|_=>false)=false:=by
  simp only[List.any_cons,List.any_nil,Bool.or_false];rw[sa,sa,ha,hb];rfl
 show(if !(2==2||2==3)||2 != 2||env.blockKind != .function then pure none else if([a,b].any fun | .Starred ..=>true|_=>false)then pure none else
  (let names:=([Expr.Name x px,Expr.Name y py].filterMap fun
  | .Name id pos=>if env.kindOf id==some .local&&pos.line==px.line then some id else none
  |_=>none)
  if names.length != 2||names.eraseDups.length != names.length then pure none else if [a,b].all (foldedForSure 8)then pure none else if [a,b].all (constantsAlone 8)then(do unsupported "assign.tuple-of-constant-expressions:order-of-the-stores";pure (some names))else pure (some names)):Sem (Option (List Str)))=_
 rw[hk,e3,e1,hf,hc];simp[e2]
theorem sw_par{X:Cx}{sg:Sg}(G:SgOk X sg){i j:Nat}{x y:Str}{px py p p2:Pos}{a b:Expr}{kt k2:Nat}(h:zCa sg i j x y px py a b=true):swappedStores [.Tuple [.Name x px,.Name y py] kt p] (.Tuple [a,b] k2 p2) X.env=pure (some [x,y]):=by
 unfold zCa at h;simp only[Bool.and_eq_true,Bool.not_eq_true',beq_iff_eq,bne_iff_ne]at h;obtain⟨⟨⟨⟨⟨⟨⟨⟨⟨⟨⟨kk,_⟩,_⟩,_⟩,l1⟩,l2⟩,ln⟩,xy⟩,sa⟩,sb⟩,f1⟩,f2⟩:=h;exact sw_par0 (Qm G (by rw[kk];rfl)) (jR G l1) (jR G l2) ln xy sa sb f1 f2
theorem zEa{env:Env}{x y z:Str}{px py pz p p2:Pos}{a b c:Expr}{kt k2:Nat}(hk:env.blockKind=.function)(hx:env.kindOf x=some .local)(hy:env.kindOf y=some .local)(hz:env.kindOf z=some .local)(hl:py.line=px.line)(hl2:pz.line=px.line)(hxy:(x==y)=false)(hxz:(x==z)=false)(hyz:(y==z)=false)(ha:zL a=false)(hb:zL b=false)(hc':zL c=false)(hf:[a,b,c].all (foldedForSure 8)=false)(hc:[a,b,c].all (constantsAlone 8)=false) :
  swappedStores [.Tuple [.Name x px,.Name y py,.Name z pz] kt p] (.Tuple [a,b,c] k2 p2) env=pure (some [x,y,z]):=by
 have sa:∀e:Expr,(match e with | .Starred _ _=>true|_=>false)=zL e:=λe=>by cases e<;>rfl
 have e1:([Expr.Name x px,Expr.Name y py,Expr.Name z pz].filterMap fun
  | .Name id pos=>if env.kindOf id==some .local&&pos.line==px.line then some id else none
  |_=>none)=[x,y,z]:=by simp[hx,hy,hz,hl,hl2]
 have sy:∀{u v:Str},(u==v)=false->(v==u)=false:=λ{u v} h=>by
  have:v≠u:=λz=>by subst z;simp at h
  simpa using this
 have e2:[x,y,z].eraseDups.length=3:=by
  simp[List.eraseDups,List.eraseDupsBy,List.eraseDupsBy.loop,sy hxy,sy hxz,sy hyz]
 have e3:([a,b,c].any fun | .Starred ..=>true|_=>false)=false:=by
  simp only[List.any_cons,List.any_nil,Bool.or_false];rw[sa,sa,sa,ha,hb,hc'];rfl
 show(if !(3==2||3==3)||3 != 3||env.blockKind != .function then pure none else if([a,b,c].any fun | .Starred ..=>true|_=>false)then pure none else
  (let names:=([Expr.Name x px,Expr.Name y py,Expr.Name z pz].filterMap fun
  | .Name id pos=>if env.kindOf id==some .local&&pos.line==px.line then some id else none
  |_=>none)
  if names.length != 3||names.eraseDups.length != names.length then pure none else if [a,b,c].all (foldedForSure 8)then pure none else if [a,b,c].all (constantsAlone 8)then(do unsupported "assign.tuple-of-constant-expressions:order-of-the-stores";pure (some names))else pure (some names)):Sem (Option (List Str)))=_
 rw[hk,e3,e1,hf,hc];simp[e2]
theorem zFd{X:Cx}{op:BoolOp}{vs:List Expr}{p:Pos}{m:MT}(h:TOk X (.BoolOp op vs p) m):WOk X (.BoolOp op vs p) m:=λwh=>h
theorem few_of{e:Expr}{env:Env}{cpos:Pos}(h:zL e=false):((backTo cpos (starEach (e::[]) env)).all (λx=>!x.1)&&(backToKw cpos (keywordEach [] env)).all (λx=>x.1.isSome)
   && decide ((e::([]:List Expr)).length+([]:List Keyword).length+(if([]:List Keyword).isEmpty then 0 else 1)<30))=true:=by
 rw[yA h];rfl
theorem zH{a b:Bool}(h:(a&&b)=true):a=true/\b=true:=by simpa using h
theorem nst{a:Bool}(h:(!a)=true):a=false:=by simpa using h
mutual
theorem sE:∀(t:Ex) {X:Cx} {sg:Sg} {e:Expr},SgOk X sg->yS t sg e=true->EOk X e (dE sg.fs t)
 | .c d,X,sg,e,G,h=>by
  cases e with
  |Constant k w1 w2 =>
   replace h:(cIs d k)=true:=h;unfold cIs at h;split at h
   ·exact ok_non
   ·have:=(beq_iff_eq.mp h);subst this;exact ok_bl
   ·have:=(beq_iff_eq.mp h);subst this;exact ok_int
   ·have:=(beq_iff_eq.mp h);subst this;exact ok_str
   ·cases h
  |_=>exact nf h
 | .gl d,X,sg,e,G,h=>by
  cases e with
  |Name x w1 =>
   replace h:(glb sg x&&gIs sg x d)=true:=h;obtain⟨h1,h2⟩:=zH h;obtain⟨g1,g2⟩:=wD G h1;unfold gIs at h2;split at h2
   ·rename_i d' e
    have:=geq_of h2;subst this;obtain⟨u,v,q1,q2,q3⟩:=G.cs x d e;exact ok_glR g1 q1 q2 q3 g2
   ·cases h2
  |_=>exact nf h
 | .var i,X,sg,e,G,h=>by
  cases e with
  |Name x w1 =>
   replace h:(vis sg i x)=true:=h;exact ok_var i (vj G h)
  |_=>exact nf h
 | .mov i,X,sg,e,G,h=>by
  cases e with
  |Name x w1 =>
   replace h:(vis sg i x)=true:=h;exact ok_move i (vj G h)
  |_=>exact nf h
 | .bin o a b,X,sg,e,G,h=>by
  cases e with
  |BinOp x op y w1 =>
   replace h:(op==o.op&&(yS a sg x&&yS b sg y))=true:=h;obtain⟨h1,h2⟩:=zH h;obtain⟨h2,h3⟩:=zH h2;have:=beq_iff_eq.mp h1;subst this;exact bin_of (sE a G h2) (sE b G h3)
  |_=>exact nf h
 | .cmp o a b,X,sg,e,G,h=>by
  cases e with
  |Compare x v1 v2 w1 =>
   cases v1 with
   |cons op v3 =>
    cases v3 with
    |nil =>
     cases v2 with
     |cons y v4 =>
      cases v4 with
      |nil =>
       replace h:(op==o.op&&yb y&&(yS a sg x&&yS b sg y))=true:=h;obtain⟨h1,h2⟩:=zH h;obtain⟨h1,h0⟩:=zH h1;obtain⟨h2,h3⟩:=zH h2;have:=beq_iff_eq.mp h1;subst this;exact cmp_of G h0 (sE a G h2) (sE b G h3)
      |_=>exact nf h
     |_=>exact nf h
    |_=>exact nf h
   |_=>exact nf h
  |_=>exact nf h
 | .chain o o' a b c,X,sg,e,G,h=>by
  cases e with
  |Compare x v5 v6 w1 =>
   cases v5 with
   |cons op v7 =>
    cases v7 with
    |cons op' v8 =>
     cases v8 with
     |nil =>
      cases v6 with
      |cons y v9 =>
       cases v9 with
       |cons z v10 =>
        cases v10 with
        |nil =>
         replace h:(op==o.op&&op'==o'.op&&o.isI&&o'.isI&&yb z&&(yS a sg x&&(yS b sg y&&yS c sg z)))=true:=h;obtain⟨h1,h2⟩:=zH h;obtain⟨h1,k5⟩:=zH h1;obtain⟨h1,k4⟩:=zH h1;obtain⟨h1,k3⟩:=zH h1;obtain⟨k1,k2⟩:=zH h1;obtain⟨h2,h3⟩:=zH h2;obtain⟨h3,h4⟩:=zH h3;have:=beq_iff_eq.mp k1;subst this;have:=beq_iff_eq.mp k2;subst this;exact zEH (zAX k3) (zAX k4) (sE a G h2) (sE b G h3) (sE c G h4) (zCc k5)
        |_=>exact nf h
       |_=>exact nf h
      |_=>exact nf h
     |_=>exact nf h
    |_=>exact nf h
   |_=>exact nf h
  |_=>exact nf h
 | .neg a,X,sg,e,G,h=>by
  cases e with
  |UnaryOp v11 x w1 =>
   cases v11 with
   |USub =>
    replace h:(yS a sg x)=true:=h;exact ok_neg (sE a G h)
   |_=>exact nf h
  |_=>exact nf h
 | .not a,X,sg,e,G,h=>by
  cases e with
  |UnaryOp v12 x w1 =>
   cases v12 with
   |Not =>
    replace h:(yS a sg x)=true:=h;exact ok_not (sE a G h)
   |_=>exact nf h
  |_=>exact nf h
 | .and a b,X,sg,e,G,h=>by
  cases e with
  |BoolOp v13 v14 p =>
   cases v13 with
   |And =>
    cases v14 with
    |cons x v15 =>
     cases v15 with
     |cons y r =>
      replace h:(yS a sg x&&_)=true:=h;obtain⟨h1,h2⟩:=zH h;cases r with
      |nil=>exact zFJ (sE a G h1) (zFK (sE b G h2))
      |cons z r'=>exact zFJ (sE a G h1) (sE b G h2)
     |_=>exact nf h
    |_=>exact nf h
   |_=>exact nf h
  |_=>exact nf h
 | .or a b,X,sg,e,G,h=>by
  cases e with
  |BoolOp v16 v17 p =>
   cases v16 with
   |Or =>
    cases v17 with
    |cons x v18 =>
     cases v18 with
     |cons y r =>
      replace h:(yS a sg x&&_)=true:=h;obtain⟨h1,h2⟩:=zH h;cases r with
      |nil=>exact ok_or (sE a G h1) (zFK (sE b G h2))
      |cons z r'=>exact ok_or (sE a G h1) (sE b G h2)
     |_=>exact nf h
    |_=>exact nf h
   |_=>exact nf h
  |_=>exact nf h
 | .ifx t a b,X,sg,e,G,h=>by
  cases e with
  |IfExp c x y w1 =>
   replace h:(chkT t sg c&&(yS a sg x&&yS b sg y))=true:=h;obtain⟨h1,h2⟩:=zH h;obtain⟨h2,h3⟩:=zH h2;exact ok_if (sT t G h1) (sE a G h2) (sE b G h3)
  |_=>exact nf h
 | .tup as,X,sg,e,G,h=>by
  cases e with
  |Tuple es w1 w2 =>
   replace h:(chkA as sg es)=true:=h;exact ok_tup (sA as G h)
  |_=>exact nf h
 | .lst as,X,sg,e,G,h=>by
  cases e with
  |List es w1 =>
   replace h:(chkA as sg es)=true:=h;exact ok_lst (sA as G h)
  |_=>exact nf h
 | .ix a b,X,sg,e,G,h=>by
  cases e with
  |Subscript x y w1 =>
   replace h:(GY y&&(yS a sg x&&yS b sg y))=true:=h;obtain⟨h1,h2⟩:=zH h;obtain⟨h2,h3⟩:=zH h2;exact ok_ix ix_both ro_ix (vk h1) (sE a G h2) (sE b G h3)
  |_=>exact nf h
 | .ixO i b,X,sg,e,G,h=>by
  cases e with
  |Subscript v21 y w2 =>
   cases v21 with
   |Name x w1 =>
    replace h:(vis sg i x&&GY y&&yS b sg y)=true:=h;obtain⟨h1,h2⟩:=zH h;obtain⟨h1,h3⟩:=zH h1;exact ok_ixO i (vj G h1) (sE b G h2) (vk h3)
   |_=>exact nf h
  |_=>exact nf h
 | .sl a l hh,X,sg,e,G,h=>by
  cases e with
  |Subscript x v27 w2 =>
   cases v27 with
   |Slice lo hi v28 w1 =>
    cases v28 with
    |none =>
     replace h:(yS a sg x&&(chkO l sg lo&&chkO hh sg hi))=true:=h;obtain⟨h1,h2⟩:=zH h;obtain⟨h2,h3⟩:=zH h2;exact ok_sl (sE a G h1) (sO l G h2) (sO hh G h3)
    |_=>exact nf h
   |_=>exact nf h
  |_=>exact nf h
 | .comp nl loc capn caps it tg tt el,X,sg,e,G,h=>by
  cases e with
  |ListComp elt v29 scope w1 =>
   cases v29 with
   |cons v30 v31 =>
    cases v30 with
    |mk target iter ifs v32 =>
     cases v32 with
     |ofNat v33 =>
      cases v33 with
      |zero =>
       cases v31 with
       |nil =>
        replace h:(sg.calm&&(vA sg nl loc capn caps scope&&yb iter&&((zBQ it target&&chkI it sg iter)&&(Z4 tg (JD sg (loc++capn) scope) target&&(_&&yS el (JD sg (loc++capn) scope) elt)))))=true:=h;obtain⟨hcm,h⟩:=zH h;obtain⟨h1,h2⟩:=zH h;obtain⟨h1,k9⟩:=zH h1;unfold vA at h1;obtain⟨h1,k7⟩:=zH h1;obtain⟨h1,k6⟩:=zH h1;obtain⟨h1,k5⟩:=zH h1;obtain⟨h1,k4⟩:=zH h1;obtain⟨h1,k3⟩:=zH h1;obtain⟨k1,k2⟩:=zH h1;obtain⟨q1,q2⟩:=zH h2;obtain⟨q0,q1⟩:=zH q1;obtain⟨q2,q3⟩:=zH q2;obtain⟨q3,q4⟩:=zH q3;have nd:(loc++capn).Nodup:=of_decide_eq_true k3;have kc:∀y∈scope.names,y.2=.cell->scope.names.lookup y.1=some .cell:=λy hy hc=>by
         have:=all_eq_true.mp k5 y hy;rw[hc]at this;simpa using this
        have I:∀cl C ex s H,SgOk (cxB X.nox (loc++capn) scope cl C ex s H) (JD sg (loc++capn) scope):=λ_ _ _ _ _=>Z5 (yL G) nd kc
        refine no_E (ok_lc (X:=X.nox) loc capn (beq_iff_eq.mp k1) (λe s z=>z) (G.calm hcm) (beq_iff_eq.mp k2) (λy hy hl=>?_) (λy hy hc=>?_) (by rw[show X.env.kindOf=λn=>X.env.scope.names.lookup n from rfl,G.sc];exact k6) (G0 (yL G) k7) (sI it (yL G) q1 q0) (g:=gOf X.K tg) (λcl C ex s H=>vB (sg:=JD sg (loc++capn) scope) hcm (I cl C ex s H) q2) (J6 tg) (λcl C ex s H=>?_) (λcl C ex s H=>sE (sg:=JD sg (loc++capn) scope) el (I cl C ex s H) q4) (ye k9))
        ·have:=all_eq_true.mp k4 y hy
         rw[hl]at this;simpa using this
        ·exact kc y hy hc
        ·cases ifs with
         |nil =>
          cases tt<;>first|(cases q3;done)|skip;exact Y8
         |cons c cs =>
          obtain⟨q3,q5⟩:=zH q3;have:=isEmpty_iff.mp q3;subst this;exact zB8 (sT (sg:=JD sg (loc++capn) scope) tt (I cl C ex s H) q5)
       |_=>exact nf h
      |_=>exact nf h
     |_=>exact nf h
   |_=>exact nf h
  |_=>exact nf h
 | .comp2 nl loc capn caps it tg jt tg2 el,X,sg,e,G,h=>by
  cases e with
  |ListComp elt y1 scope w1 =>
   cases y1 with
   |cons y2 y3 =>
    cases y2 with
    |mk target iter y4 y5 =>
     cases y4 with
     |nil =>
      cases y5 with
      |ofNat y6 =>
       cases y6 with
       |zero =>
        cases y3 with
        |cons y7 y8 =>
         cases y7 with
         |mk target2 iter2 y9 y10 =>
          cases y9 with
          |nil =>
           cases y10 with
           |ofNat y11 =>
            cases y11 with
            |zero =>
             cases y8 with
             |nil =>
              replace h:(sg.calm&&(vA sg nl loc capn caps scope&&yb iter&&((zBQ it target&&chkI it sg iter)&&(Z4 tg (JD sg (loc++capn) scope) target&&(yb iter2&&((zBQ jt target2&&chkI jt (JD sg (loc++capn) scope) iter2)&&(Z4 tg2 (JD sg (loc++capn) scope) target2&&yS el (JD sg (loc++capn) scope) elt)))))))=true:=h;obtain⟨hcm,h⟩:=zH h;obtain⟨h1,h2⟩:=zH h;obtain⟨h1,k9⟩:=zH h1;unfold vA at h1;obtain⟨h1,k7⟩:=zH h1;obtain⟨h1,k6⟩:=zH h1;obtain⟨h1,k5⟩:=zH h1;obtain⟨h1,k4⟩:=zH h1;obtain⟨h1,k3⟩:=zH h1;obtain⟨k1,k2⟩:=zH h1;obtain⟨q1,q2⟩:=zH h2;obtain⟨q0,q1⟩:=zH q1;obtain⟨q2,q3⟩:=zH q2;obtain⟨q3,q4⟩:=zH q3;obtain⟨q4,q5⟩:=zH q4;obtain⟨q40,q4⟩:=zH q4;obtain⟨q5,q6⟩:=zH q5;have nd:(loc++capn).Nodup:=of_decide_eq_true k3;have kc:∀y∈scope.names,y.2=.cell->scope.names.lookup y.1=some .cell:=λy hy hc=>by
               have:=all_eq_true.mp k5 y hy;rw[hc]at this;simpa using this
              have I:∀cl C ex s H,SgOk (cxB X.nox (loc++capn) scope cl C ex s H) (JD sg (loc++capn) scope):=λ_ _ _ _ _=>Z5 (yL G) nd kc
              have kl:∀y∈scope.names,y.2=.local->scope.names.lookup y.1=some .local:=λy hy hl=>by
               have:=all_eq_true.mp k4 y hy;rw[hl]at this;simpa using this
              exact no_E (ok_lc2 (X:=X.nox) loc capn (beq_iff_eq.mp k1) (λe s z=>z) (G.calm hcm) (beq_iff_eq.mp k2) kl kc (by rw[show X.env.kindOf=λn=>X.env.scope.names.lookup n from rfl,G.sc];exact k6) (G0 (yL G) k7) (sI it (yL G) q1 q0) (g:=gOf X.K tg) (λcl C ex s H=>vB (sg:=JD sg (loc++capn) scope) hcm (I cl C ex s H) q2) (J6 tg) (λcl C ex s H=>sI (sg:=JD sg (loc++capn) scope) jt (I cl C ex s H) q4 q40) (g1:=gOf X.K tg2) (λcl C ex s H=>vB (sg:=JD sg (loc++capn) scope) hcm (I cl C ex s H) q5) (J6 tg2) (λcl C ex s H=>sE (sg:=JD sg (loc++capn) scope) el (I cl C ex s H) q6) (ye k9) (λcl C ex s H=>ye q3))
             |_=>exact nf h
            |_=>exact nf h
           |_=>exact nf h
          |_=>exact nf h
        |_=>exact nf h
       |_=>exact nf h
      |_=>exact nf h
     |_=>exact nf h
   |_=>exact nf h
  |_=>exact nf h
 | .is T a,X,sg,e,G,h=>by
  cases e with
  |Call v34 v35 v36 w3 =>
   cases v34 with
   |Name f w1 =>
    cases v35 with
    |cons x v37 =>
     cases v37 with
     |cons v38 v39 =>
      cases v38 with
      |Name y w2 =>
       cases v39 with
       |nil =>
        cases v36 with
        |nil =>
         replace h:(f == "isinstance"&&y==T.nm&&glb sg "isinstance"&&bIn sg "isinstance"&&glb sg T.nm&&bIn sg T.nm&&!zL x&&yS a sg x)=true:=h;obtain⟨h1,h2⟩:=zH h;obtain⟨h1,k7⟩:=zH h1;obtain⟨h1,k6⟩:=zH h1;obtain⟨h1,k5⟩:=zH h1;obtain⟨h1,k4⟩:=zH h1;obtain⟨h1,k3⟩:=zH h1;obtain⟨k1,k2⟩:=zH h1;have:=beq_iff_eq.mp k1;subst this;have:=beq_iff_eq.mp k2;subst this;exact ok_is (kit_of _ T) (wD G k3).1 (JM G k4) (wD G k5).1 (JM G k6) (bt_of T) (sE a G h2) uW (nm_of T) (wD G k5).2 (nst k7)
        |_=>exact nf h
       |_=>exact nf h
      |_=>exact nf h
     |_=>exact nf h
    |_=>exact nf h
   |_=>exact nf h
  |_=>exact nf h
 | .cB b as,X,sg,e,G,h=>by
  cases e with
  |Call v40 v41 v42 w2 =>
   cases v40 with
   |Name f w1 =>
    cases v41 with
    |cons x es =>
     cases v42 with
     |nil =>
      replace h:(sg.calm&&(f==b.nm&&glb sg b.nm&&bIn sg b.nm&&jc (x::es)&&chkA as sg (x::es)))=true:=h;obtain⟨hcm,h⟩:=zH h;obtain⟨h1,h2⟩:=zH h;obtain⟨h1,k4⟩:=zH h1;obtain⟨h1,k3⟩:=zH h1;obtain⟨k1,k2⟩:=zH h1;have:=beq_iff_eq.mp k1;subst this;exact bi_of hcm G b (wD G k2).1 (JM G k3) k4 (sA as G h2)
     |_=>exact nf h
    |_=>exact nf h
   |_=>exact nf h
  |_=>exact nf h
 | .call k as,X,sg,e,G,h=>by
  cases e with
  |Call v43 v44 v45 w2 =>
   cases v43 with
   |Name f w1 =>
    cases v44 with
    |cons x es =>
     cases v45 with
     |nil =>
      replace h:(glb sg f&&fIs sg k f&&fArg sg (gLen as) k&&jc (x::es)&&chkG as sg (x::es))=true:=h;obtain⟨h1,h2⟩:=zH h;obtain⟨h1,k4⟩:=zH h1;obtain⟨h1,k3⟩:=zH h1;obtain⟨k1,k2⟩:=zH h1;exact call_ok G k1 k2 k3 k4 (sG as G h2)
     |_=>exact nf h
    |_=>exact nf h
   |_=>exact nf h
  |_=>exact nf h
 | .maxd a d,X,sg,e,G,h=>by
  cases e with
  |Call v50 v51 v52 w3 =>
   cases v50 with
   |Name f w1 =>
    cases v51 with
    |cons x v53 =>
     cases v53 with
     |nil =>
      cases v52 with
      |cons v54 v55 =>
       cases v54 with
       |mk v56 y w2 =>
        cases v56 with
        |some nm =>
         cases v55 with
         |nil =>
          replace h:(sg.calm&&(f == "max"&&nm==Str.ofString "default"&&glb sg "max"&&bIn sg "max"&&!zL x&&(yS a sg x&&yS d sg y)))=true:=h;obtain⟨hcm,h⟩:=zH h;obtain⟨h1,h2⟩:=zH h;obtain⟨h2,h3⟩:=zH h2;obtain⟨h1,k5⟩:=zH h1;obtain⟨h1,k4⟩:=zH h1;obtain⟨h1,k3⟩:=zH h1;obtain⟨k1,k2⟩:=zH h1;have:=beq_iff_eq.mp k1;subst this;have:=beq_iff_eq.mp k2;subst this;exact ok_maxd (G.calm hcm) (wD G k3).1 (JM G k4) (sE a G h2) (sE d G h3) (nst k5)
         |_=>exact nf h
        |_=>exact nf h
      |_=>exact nf h
     |_=>exact nf h
    |_=>exact nf h
   |_=>exact nf h
  |_=>exact nf h
theorem sT:∀(t:Tx) {X:Cx} {sg:Sg} {e:Expr},SgOk X sg->chkT t sg e=true->TOk X e (dT sg.fs t)
 | .tAnd a b,X,sg,e,G,h=>by
  cases e with
  |BoolOp v59 v60 p =>
   cases v59 with
   |And =>
    cases v60 with
    |cons x v61 =>
     cases v61 with
     |cons y r =>
      replace h:(chkT a sg x&&_)=true:=h;obtain⟨h1,h2⟩:=zH h;cases r with
      |nil=>exact tk_w (zFI (sT a G h1) (wk_and1 (sT b G h2)))
      |cons z r'=>exact tk_w (zFI (sT a G h1) (zFd (sT b G h2)))
     |_=>exact nf h
    |_=>exact nf h
   |_=>exact nf h
  |_=>exact nf h
 | .tOr a b,X,sg,e,G,h=>by
  cases e with
  |BoolOp v62 v63 p =>
   cases v62 with
   |Or =>
    cases v63 with
    |cons x v64 =>
     cases v64 with
     |cons y r =>
      replace h:(chkT a sg x&&_)=true:=h;obtain⟨h1,h2⟩:=zH h;cases r with
      |nil=>exact tk_w (wk_or (sT a G h1) (wk_or1 (sT b G h2)))
      |cons z r'=>exact tk_w (wk_or (sT a G h1) (zFd (sT b G h2)))
     |_=>exact nf h
    |_=>exact nf h
   |_=>exact nf h
  |_=>exact nf h
 | .tNot a,X,sg,e,G,h=>by
  cases e with
  |UnaryOp v65 x w1 =>
   cases v65 with
   |Not =>
    replace h:(chkT a sg x)=true:=h;exact tk_not (sT a G h)
   |_=>exact nf h
  |_=>exact nf h
 | .tE a,X,sg,e,G,h=>by
  obtain⟨h1,h2⟩:=zH h;rcases Bool.or_eq_true _ _ |>.mp h1 with h1|h1
  ·exact ok_test (sE a G h2) (test_of h1)
  ·cases a with
   |cmp o a b =>
    cases e with
    |Compare x v66 v67 w1 =>
     cases v66 with
     |cons op v68 =>
      cases v68 with
      |nil =>
       cases v67 with
       |cons y v69 =>
        cases v69 with
        |nil =>
         replace h2:(op==o.op&&yb y&&(yS a sg x&&yS b sg y))=true:=h2;obtain⟨h1,k1⟩:=zH h2;obtain⟨h1,h0⟩:=zH h1;obtain⟨k2,k3⟩:=zH k1;have:=beq_iff_eq.mp h1;subst this;exact cmpT_of G h0 (sE a G k2) (sE b G k3)
        |_=>exact absurd h2 Bool.false_ne_true
       |_=>exact absurd h2 Bool.false_ne_true
      |_=>exact absurd h2 Bool.false_ne_true
     |_=>exact absurd h2 Bool.false_ne_true
    |_=>exact absurd h2 Bool.false_ne_true
   |chain o o' a b c =>
    cases e with
    |Compare x v70 v71 w1 =>
     cases v70 with
     |cons op v72 =>
      cases v72 with
      |cons op' v73 =>
       cases v73 with
       |nil =>
        cases v71 with
        |cons y v74 =>
         cases v74 with
         |cons z v75 =>
          cases v75 with
          |nil =>
           replace h2:(op==o.op&&op'==o'.op&&o.isI&&o'.isI&&yb z&&(yS a sg x&&(yS b sg y&&yS c sg z)))=true:=h2;obtain⟨h1,j2⟩:=zH h2;obtain⟨h1,k5⟩:=zH h1;obtain⟨h1,k4⟩:=zH h1;obtain⟨h1,k3⟩:=zH h1;obtain⟨k1,k2⟩:=zH h1;obtain⟨j2,j3⟩:=zH j2;obtain⟨j3,j4⟩:=zH j3;have:=beq_iff_eq.mp k1;subst this;have:=beq_iff_eq.mp k2;subst this;exact zCB (zAX k3) (zAX k4) (sE a G j2) (sE b G j3) (sE c G j4) (zCc k5)
          |_=>exact absurd h2 Bool.false_ne_true
         |_=>exact absurd h2 Bool.false_ne_true
        |_=>exact absurd h2 Bool.false_ne_true
       |_=>exact absurd h2 Bool.false_ne_true
      |_=>exact absurd h2 Bool.false_ne_true
     |_=>exact absurd h2 Bool.false_ne_true
    |_=>exact absurd h2 Bool.false_ne_true
   |_=>cases h1
 | .tTr,X,sg,e,G,h=>absurd h Bool.false_ne_true
theorem sA:∀(t:Ax) {X:Cx} {sg:Sg} {e:List Expr},SgOk X sg->chkA t sg e=true->AOk X e (dA sg.fs t)
 | .nil,X,sg,e,G,h=>by
  have:=isEmpty_iff.mp h;subst this;exact ak_nil
 | .cons a as,X,sg,e,G,h=>by
  cases e with
  |cons x r =>
   replace h:(!zL x&&(yS a sg x&&chkA as sg r))=true:=h;obtain⟨h1,h2⟩:=zH h;obtain⟨h2,h3⟩:=zH h2;exact ak_cons (sE a G h2) (sA as G h3) (nst h1)
  |_=>exact nf h
theorem sG:∀(t:Gx) {X:Cx} {sg:Sg} {e:List Expr},SgOk X sg->chkG t sg e=true->zFQ X e (dG sg.fs t)
 | .nil,X,sg,e,G,h=>by
  have:=isEmpty_iff.mp h;subst this;exact ga_nil
 | .ev a as,X,sg,e,G,h=>by
  cases e with
  |cons x r =>
   replace h:(!zL x&&(yS a sg x&&chkG as sg r))=true:=h;obtain⟨h1,h2⟩:=zH h;obtain⟨h2,h3⟩:=zH h2;exact ga_ev (sE a G h2) (sG as G h3) (nst h1)
  |_=>exact nf h
 | .lend i as,X,sg,e,G,h=>by
  cases e with
  |cons v76 r =>
   cases v76 with
   |Name x w1 =>
    replace h:(vis sg i x&&chkG as sg r)=true:=h;obtain⟨h1,h2⟩:=zH h;exact ga_lend (vj G h1) (sG as G h2)
   |_=>exact nf h
  |_=>exact nf h
theorem sO:∀(t:Ox) {X:Cx} {sg:Sg} {e:Option Expr},SgOk X sg->chkO t sg e=true->OOk X e (dO sg.fs t)
 | .oN,X,sg,e,G,h=>by
  cases e with
  |none=>exact oo_none
  |some e=>cases h
 | .oS a,X,sg,e,G,h=>by
  cases e with
  |none=>cases h
  |some e=>exact oo_some (sE a G h)
theorem sI:∀(t:Ix) {X:Cx} {sg:Sg} {tg e:Expr},SgOk X sg->chkI t sg e=true->zBQ t tg=true->IOk X tg e (dI sg.fs t)
 | .iL a,X,sg,tg,e,G,h,hz=>by
  exact io_list (sE a G h)
 | .iT a,X,sg,tg,e,G,h,hz=>by
  exact io_tup (sE a G h)
 | .iRv as,X,sg,tg,e,G,h,hz=>by
  cases e with
  |Call y1 y2 y3 w2 =>
   cases y1 with
   |Name f w1 =>
    cases y2 with
    |cons y4 y5 =>
     cases y4 with
     |Call y6 y7 y8 w3 =>
      cases y6 with
      |Name f2 w4 =>
       cases y7 with
       |cons x y9 =>
        cases y9 with
        |nil =>
         cases y8 with
         |nil =>
          cases y5 with
          |nil =>
           cases y3 with
           |nil =>
            replace h:(f == "reversed"&&glb sg "reversed"&&bIn sg "reversed"&&(f2 == "range"&&glb sg "range"&&bIn sg "range"&&!zL x&&chkA as sg [x]))=true:=h;obtain⟨h0,h⟩:=zH h;obtain⟨h0,j3⟩:=zH h0;obtain⟨j1,j2⟩:=zH h0;obtain⟨h1,h2⟩:=zH h;obtain⟨h1,k4⟩:=zH h1;obtain⟨h1,k3⟩:=zH h1;obtain⟨k1,k2⟩:=zH h1;have:=beq_iff_eq.mp j1;subst this;have:=beq_iff_eq.mp k1;subst this;exact io_rv (wD G j2).1 (JM G j3) (wD G k2).1 (JM G k3) (sA as G h2) (nst k4)
           |_=>exact nf h
          |_=>exact nf h
         |_=>exact nf h
        |_=>exact nf h
       |_=>exact nf h
      |_=>exact nf h
     |_=>exact nf h
    |_=>exact nf h
   |_=>exact nf h
  |_=>exact nf h
 | .iR1 as,X,sg,tg,e,G,h,hz=>by
  cases e with
  |Call v77 v78 v79 w2 =>
   cases v77 with
   |Name f w1 =>
    cases v78 with
    |cons x v80 =>
     cases v80 with
     |nil =>
      cases v79 with
      |nil =>
       replace h:(f == "range"&&glb sg "range"&&bIn sg "range"&&!zL x&&chkA as sg [x])=true:=h;obtain⟨h1,h2⟩:=zH h;obtain⟨h1,k4⟩:=zH h1;obtain⟨h1,k3⟩:=zH h1;obtain⟨k1,k2⟩:=zH h1;have:=beq_iff_eq.mp k1;subst this;exact io_r1 (wD G k2).1 (JM G k3) (sA as G h2) (nst k4)
      |_=>exact nf h
     |_=>exact nf h
    |_=>exact nf h
   |_=>exact nf h
  |_=>exact nf h
 | .iE t1 as,X,sg,tg,e,G,h,hz=>by
  cases e with
  |Call v77 v78 v79 w2 =>
   cases v77 with
   |Name f w1 =>
    cases v78 with
    |cons x v80 =>
     cases v80 with
     |nil =>
      cases v79 with
      |nil =>
       replace h:(f == "enumerate"&&glb sg "enumerate"&&bIn sg "enumerate"&&!zL x&&chkA as sg [x])=true:=h;obtain⟨h1,h2⟩:=zH h;obtain⟨h1,k4⟩:=zH h1;obtain⟨h1,k3⟩:=zH h1;obtain⟨k1,k2⟩:=zH h1;have:=beq_iff_eq.mp k1;subst this;cases tg with
       |Tuple tE tX tP=>exact io_enum (wD G k2).1 (JM G k3) (sA as G h2) (nst k4)
       |_=>exact absurd hz Bool.false_ne_true
      |_=>exact nf h
     |_=>exact nf h
    |_=>exact nf h
   |_=>exact nf h
  |_=>exact nf h
 | .iZ t1 t2 as,X,sg,tg,e,G,h,hz=>by
  cases e with
  |Call v81 v82 v83 w2 =>
   cases v81 with
   |Name f w1 =>
    cases v82 with
    |cons x v84 =>
     cases v84 with
     |cons y v85 =>
      cases v85 with
      |nil =>
       cases v83 with
       |nil =>
        replace h:(f == "zip"&&glb sg "zip"&&bIn sg "zip"&&!zL x&&!zL y&&chkA as sg [x,y])=true:=h;obtain⟨h1,h2⟩:=zH h;obtain⟨h1,k5⟩:=zH h1;obtain⟨h1,k4⟩:=zH h1;obtain⟨h1,k3⟩:=zH h1;obtain⟨k1,k2⟩:=zH h1;have:=beq_iff_eq.mp k1;subst this;cases tg with
        |Tuple tE tX tP=>exact io_zip (wD G k2).1 (JM G k3) (sA as G h2) (nst k4) (nst k5)
        |_=>exact absurd hz Bool.false_ne_true
       |_=>exact nf h
      |_=>exact nf h
     |_=>exact nf h
    |_=>exact nf h
   |_=>exact nf h
  |_=>exact nf h
end
theorem zCf{X:Cx}{sg:Sg}(G:SgOk X sg){i:Nat}{x:Str}{px spos:Pos}{nl:Nat}{loc capn:List Str}{caps:List Nat}{it jt:Ix}{tg tg2:Tg}{el:Ex}{e:Expr}(hi:X.N[i]?=some x)(hx:Loc X.env.scope x)(hf:X.fn x=true\/X.env.scope.names.lookup x=some .local)
  (hsw:swapsWith e (some (.Name x px)) spos.line X.env=pure true) (h:yS (.comp2 nl loc capn caps it tg jt tg2 el) sg e=true):SOk X (.Assign [.Name x px] e spos) (sSet i (dE sg.fs (.comp2 nl loc capn caps it tg jt tg2 el))):=by
 cases e with
 |ListComp elt y1 scope w1 =>
  cases y1 with
  |cons y2 y3 =>
   cases y2 with
   |mk target iter y4 y5 =>
    cases y4 with
    |nil =>
     cases y5 with
     |ofNat y6 =>
      cases y6 with
      |zero =>
       cases y3 with
       |cons y7 y8 =>
        cases y7 with
        |mk target2 iter2 y9 y10 =>
         cases y9 with
         |nil =>
          cases y10 with
          |ofNat y11 =>
           cases y11 with
           |zero =>
            cases y8 with
            |nil =>
             replace h:(sg.calm&&(vA sg nl loc capn caps scope&&yb iter&&((zBQ it target&&chkI it sg iter)&&(Z4 tg (JD sg (loc++capn) scope) target&&(yb iter2&&((zBQ jt target2&&chkI jt (JD sg (loc++capn) scope) iter2)&&(Z4 tg2 (JD sg (loc++capn) scope) target2&&yS el (JD sg (loc++capn) scope) elt)))))))=true:=h;obtain⟨hcm,h⟩:=zH h;obtain⟨h1,h2⟩:=zH h;obtain⟨h1,k9⟩:=zH h1;unfold vA at h1;obtain⟨h1,k7⟩:=zH h1;obtain⟨h1,k6⟩:=zH h1;obtain⟨h1,k5⟩:=zH h1;obtain⟨h1,k4⟩:=zH h1;obtain⟨h1,k3⟩:=zH h1;obtain⟨k1,k2⟩:=zH h1;obtain⟨q1,q2⟩:=zH h2;obtain⟨q0,q1⟩:=zH q1;obtain⟨q2,q3⟩:=zH q2;obtain⟨q3,q4⟩:=zH q3;obtain⟨q4,q5⟩:=zH q4;obtain⟨q40,q4⟩:=zH q4;obtain⟨q5,q6⟩:=zH q5;have nd:(loc++capn).Nodup:=of_decide_eq_true k3;have kc:∀y∈scope.names,y.2=.cell->scope.names.lookup y.1=some .cell:=λy hy hc=>by
              have:=all_eq_true.mp k5 y hy;rw[hc]at this;simpa using this
             have I:∀cl C ex s H,SgOk (cxB X.nox (loc++capn) scope cl C ex s H) (JD sg (loc++capn) scope):=λ_ _ _ _ _=>Z5 (yL G) nd kc
             have kl:∀y∈scope.names,y.2=.local->scope.names.lookup y.1=some .local:=λy hy hl=>by
              have:=all_eq_true.mp k4 y hy;rw[hl]at this;simpa using this
             exact zFa▸no_S (sk_lc2 (X:=X.nox) loc capn G.nd hi hx hf (beq_iff_eq.mp k1) (λe s z=>z) (G.calm hcm) (beq_iff_eq.mp k2) kl kc (by rw[show X.env.kindOf=λn=>X.env.scope.names.lookup n from rfl,G.sc];exact k6) (G0 (yL G) k7) (sI it (yL G) q1 q0) (g:=gOf X.K tg) (λcl C ex s H=>vB (sg:=JD sg (loc++capn) scope) hcm (I cl C ex s H) q2) (J6 tg) (λcl C ex s H=>sI (sg:=JD sg (loc++capn) scope) jt (I cl C ex s H) q4 q40) (g1:=gOf X.K tg2) (λcl C ex s H=>vB (sg:=JD sg (loc++capn) scope) hcm (I cl C ex s H) q5) (J6 tg2) (λcl C ex s H=>sE (sg:=JD sg (loc++capn) scope) el (I cl C ex s H) q6) (ye k9) (λcl C ex s H=>ye q3) hsw)
            |_=>exact nf h
           |_=>exact nf h
          |_=>exact nf h
         |_=>exact nf h
       |_=>exact nf h
      |_=>exact nf h
     |_=>exact nf h
    |_=>exact nf h
  |_=>exact nf h
 |_=>exact nf h
theorem zEb{X:Cx}{sg:Sg}(G:SgOk X sg){i:Nat}{x:Str}{px spos:Pos}{nl:Nat}{loc capn:List Str}{caps:List Nat}{it:Ix}{tg:Tg}{tt:Tx}{el:Ex}{v:Expr}(hi:X.N[i]?=some x)(hx:Loc X.env.scope x)(hf:X.fn x=true\/X.env.scope.names.lookup x=some .local)
  (hsw:swapsWith v (some (.Name x px)) spos.line X.env=pure true) (h:yS (.comp nl loc capn caps it tg tt el) sg v=true):SOk X (.Assign [.Name x px] v spos) (sSet i (dE sg.fs (.comp nl loc capn caps it tg tt el))):=by
 cases v with
 |ListComp elt v86 scope w1 =>
  cases v86 with
  |cons v87 v88 =>
   cases v87 with
   |mk target iter ifs v89 =>
    cases v89 with
    |ofNat v90 =>
     cases v90 with
     |zero =>
      cases v88 with
      |nil =>
       replace h:(sg.calm&&(vA sg nl loc capn caps scope&&yb iter&&((zBQ it target&&chkI it sg iter)&&(Z4 tg (JD sg (loc++capn) scope) target&&(_&&yS el (JD sg (loc++capn) scope) elt)))))=true:=h;obtain⟨hcm,h⟩:=zH h;obtain⟨h1,h2⟩:=zH h;obtain⟨h1,k9⟩:=zH h1;unfold vA at h1;obtain⟨h1,k7⟩:=zH h1;obtain⟨h1,k6⟩:=zH h1;obtain⟨h1,k5⟩:=zH h1;obtain⟨h1,k4⟩:=zH h1;obtain⟨h1,k3⟩:=zH h1;obtain⟨k1,k2⟩:=zH h1;obtain⟨q1,q2⟩:=zH h2;obtain⟨q0,q1⟩:=zH q1;obtain⟨q2,q3⟩:=zH q2;obtain⟨q3,q4⟩:=zH q3;have nd:(loc++capn).Nodup:=of_decide_eq_true k3;have kc:∀y∈scope.names,y.2=.cell->scope.names.lookup y.1=some .cell:=λy hy hc=>by
        have:=all_eq_true.mp k5 y hy;rw[hc]at this;simpa using this
       have I:∀cl C ex s H,SgOk (cxB X.nox (loc++capn) scope cl C ex s H) (JD sg (loc++capn) scope):=λ_ _ _ _ _=>Z5 (yL G) nd kc
       refine zFa▸no_S (sk_lc (X:=X.nox) loc capn G.nd hi hx hf (beq_iff_eq.mp k1) (λe s z=>z) (G.calm hcm) (beq_iff_eq.mp k2) (λy hy hl=>?_) (λy hy hc=>?_) (by rw[show X.env.kindOf=λn=>X.env.scope.names.lookup n from rfl,G.sc];exact k6) (G0 (yL G) k7) (sI it (yL G) q1 q0) (g:=gOf X.K tg) (λcl C ex s H=>vB (sg:=JD sg (loc++capn) scope) hcm (I cl C ex s H) q2) (J6 tg) (λcl C ex s H=>?_) (λcl C ex s H=>sE (sg:=JD sg (loc++capn) scope) el (I cl C ex s H) q4) (ye k9) hsw)
       ·have:=all_eq_true.mp k4 y hy
        rw[hl]at this;simpa using this
       ·exact kc y hy hc
       ·cases ifs with
        |nil =>
         cases tt<;>first|(cases q3;done)|skip;exact Y8
        |cons c cs =>
         obtain⟨q3,q5⟩:=zH q3;have:=isEmpty_iff.mp q3;subst this;exact zB8 (sT (sg:=JD sg (loc++capn) scope) tt (I cl C ex s H) q5)
      |_=>exact nf h
     |_=>exact nf h
    |_=>exact nf h
  |_=>exact nf h
 |_=>exact nf h
mutual
theorem sS:∀(t:Sx) {X:Cx} {sg:Sg} {e:Stmt},SgOk X sg->chkS t sg e=true->SOk X e (dS sg.fs t)
 | .sIf t a b,X,sg,e,G,h=>by
  cases e with
  |If c x y w1 =>
   replace h:(chkT t sg c&&(chkB a sg x&&chkB b sg y))=true:=h;obtain⟨h1,h2⟩:=zH h;obtain⟨h2,h3⟩:=zH h2;exact sk_if (sT t G h1) (sB a G h2) (sB b G h3)
  |_=>exact nf h
 | .sSet i a,X,sg,e,G,h=>by
  cases e with
  |Assign v91 v w1 =>
   cases v91 with
   |cons v92 v93 =>
    cases v92 with
    |Name x px =>
     cases v93 with
     |nil =>
      replace h:(zFb sg i x&&setOk sg x px a v&&yS a sg v)=true:=h;obtain⟨h1,h2⟩:=zH h;obtain⟨h1,h3⟩:=zH h1;obtain⟨q1,q2,q3⟩:=uZ G h1;unfold setOk at h3;split at h3
      ·obtain⟨k1,k2⟩:=zH h3
       rename_i el gs scope vp;cases hb:swB sg _ _ scope vp with
       |false=>exact zFO G.nd q1 q2 (sE a G h2) (by rw[zCe G k1,hb]) q3
       |true =>
        rw[hb]at k2;cases a with
        |comp nl loc capn caps it tg tt el'=>exact zEb G q1 q2 q3 (by rw[zCe G k1,hb]) h2
        |comp2 nl loc capn caps it tg jt tg2 el'=>exact zCf G q1 q2 q3 (by rw[zCe G k1,hb]) h2
        |_=>cases k2
      ·exact zFO G.nd q1 q2 (sE a G h2) (uM h3) q3
     |_=>exact nf h
    |_=>exact nf h
   |_=>exact nf h
  |_=>exact nf h
 | .sAny,X,sg,e,G,h=>by
  exact sk_any
 | .sTup is a,X,sg,e,G,h=>by
  cases e with
  |Assign v94 v w1 =>
   cases v94 with
   |cons v95 v96 =>
    cases v95 with
    |Tuple es k p =>
     cases v96 with
     |nil =>
      replace h:(sg.calm&&(Z4.all2 sg is es&&wg v&&swOk sg es v&&yS a sg v))=true:=h;obtain⟨hcm,h⟩:=zH h;obtain⟨h1,h2⟩:=zH h;obtain⟨h1,k3⟩:=zH h1;obtain⟨k1,k2⟩:=zH h1;obtain⟨q1,q2,q3⟩:=ZX _ is G k1;exact sk_tup (zE5 (G.calm hcm) q1 q2 q3) (sE a G h2) (ua k2) (sw_ok G k3)
     |_=>exact nf h
    |_=>exact nf h
   |_=>exact nf h
  |_=>exact nf h
 | .sPar3 i j l as,X,sg,e,G,h=>by
  cases e with
  |Assign v1 v2 w5 =>
   cases v1 with
   |cons v3 v4 =>
    cases v3 with
    |Tuple v5 w1 w2 =>
     cases v5 with
     |cons v6 v7 =>
      cases v6 with
      |Name x px =>
       cases v7 with
       |cons v8 v9 =>
        cases v8 with
        |Name y py =>
         cases v9 with
         |cons v10 v11 =>
          cases v10 with
          |Name z pz =>
           cases v11 with
           |nil =>
            cases v4 with
            |nil =>
             cases v2 with
             |Tuple v12 w3 w4 =>
              cases v12 with
              |cons a v13 =>
               cases v13 with
               |cons b v14 =>
                cases v14 with
                |cons c v15 =>
                 cases v15 with
                 |nil =>
                  replace h:(sg.calm&&(zCb sg i j l x y z px py pz a b c&&chkA as sg [a,b,c]))=true:=h;obtain⟨hcm,h⟩:=zH h;obtain⟨h1,h2⟩:=zH h;unfold zCb at h1;simp only[Bool.and_eq_true,Bool.not_eq_true',beq_iff_eq,bne_iff_ne]at h1;obtain⟨⟨⟨⟨⟨⟨⟨⟨⟨⟨⟨⟨⟨⟨⟨⟨⟨⟨⟨kk,n1⟩,n2⟩,n3⟩,n4⟩,n5⟩,n6⟩,l1⟩,l2⟩,l3⟩,p1⟩,p2⟩,x1⟩,x2⟩,x3⟩,s1⟩,s2⟩,s3⟩,f1⟩,f2⟩:=h1;exact yz (ps_par3 (G.calm hcm) G.nd (by rw[G.N];exact n1) (by rw[G.N];exact n2) (by rw[G.N];exact n3) n4 n5 n6 (jR G l1) (jR G l2) (jR G l3) (sA as G h2) (zEa (Qm G (by rw[kk];rfl)) (jR G l1) (jR G l2) (jR G l3) p1 p2 x1 x2 x3 s1 s2 s3 f1 f2) (ua rfl)) λD σ H=>zCV
                 |_=>exact nf h
                |_=>exact nf h
               |_=>exact nf h
              |_=>exact nf h
             |_=>exact nf h
            |_=>exact nf h
           |_=>exact nf h
          |_=>exact nf h
         |_=>exact nf h
        |_=>exact nf h
       |_=>exact nf h
      |_=>exact nf h
     |_=>exact nf h
    |_=>exact nf h
   |_=>exact nf h
  |_=>exact nf h
 | .sPar i j as,X,sg,e,G,h=>by
  cases e with
  |Assign v97 v98 w5 =>
   cases v97 with
   |cons v99 v100 =>
    cases v99 with
    |Tuple v101 w1 w2 =>
     cases v101 with
     |cons v102 v103 =>
      cases v102 with
      |Name x px =>
       cases v103 with
       |cons v104 v105 =>
        cases v104 with
        |Name y py =>
         cases v105 with
         |nil =>
          cases v100 with
          |nil =>
           cases v98 with
           |Tuple v106 w3 w4 =>
            cases v106 with
            |cons a v107 =>
             cases v107 with
             |cons b v108 =>
              cases v108 with
              |nil =>
               replace h:(sg.calm&&(zCa sg i j x y px py a b&&chkA as sg [a,b]))=true:=h;obtain⟨hcm,h⟩:=zH h;obtain⟨h1,h2⟩:=zH h;have h1':=h1;unfold zCa at h1;simp only[Bool.and_eq_true,Bool.not_eq_true',beq_iff_eq,bne_iff_ne]at h1;obtain⟨⟨⟨⟨⟨⟨⟨⟨⟨⟨⟨_,n1⟩,n2⟩,n3⟩,l1⟩,l2⟩,_⟩,_⟩,_⟩,_⟩,_⟩,_⟩:=h1;exact yz (ps_par (G.calm hcm) G.nd (by rw[G.N];exact n1) (by rw[G.N];exact n2) n3 (jR G l1) (jR G l2) (sA as G h2) (sw_par G h1') (ua rfl)) λD σ H=>zEL
              |_=>exact nf h
             |_=>exact nf h
            |_=>exact nf h
           |_=>exact nf h
          |_=>exact nf h
         |_=>exact nf h
        |_=>exact nf h
       |_=>exact nf h
      |_=>exact nf h
     |_=>exact nf h
    |_=>exact nf h
   |_=>exact nf h
  |_=>exact nf h
 | .sRet a,X,sg,e,G,h=>by
  cases e with
  |Return v109 w1 =>
   cases v109 with
   |some v =>
    replace h:(yS a sg v)=true:=h;exact sk_ret (sE a G h)
   |_=>exact nf h
  |_=>exact nf h
 | .sDrop a,X,sg,e,G,h=>by
  cases e with
  |Expr v w1 =>
   replace h:(wg v&&yS a sg v)=true:=h;obtain⟨h1,h2⟩:=zH h;exact sk_drop (sE a G h2) (uM h1)
  |_=>exact nf h
 | .sIx i b a,X,sg,e,G,h=>by
  cases e with
  |Assign v110 v w3 =>
   cases v110 with
   |cons v111 v112 =>
    cases v111 with
    |Subscript v113 y w2 =>
     cases v113 with
     |Name x w1 =>
      cases v112 with
      |nil =>
       replace h:(vis sg i x&&GY y&&wg v&&(yS b sg y&&yS a sg v))=true:=h;obtain⟨h1,h2⟩:=zH h;obtain⟨h1,h0⟩:=zH h1;obtain⟨h1,h4⟩:=zH h1;obtain⟨h2,h3⟩:=zH h2;exact zD5 i (vj G h1) (sE b G h2) (sE a G h3) (set_of h4) (ua h0)
      |_=>exact nf h
     |_=>exact nf h
    |_=>exact nf h
   |_=>exact nf h
  |_=>exact nf h
 | .sApp i a,X,sg,e,G,h=>by
  cases e with
  |Expr v114 w2 =>
   cases v114 with
   |Call v115 v116 v117 cp =>
    cases v115 with
    |Attribute v118 m ap =>
     cases v118 with
     |Name x w1 =>
      cases v116 with
      |cons v v119 =>
       cases v119 with
       |nil =>
        cases v117 with
        |nil =>
         replace h:(m == "append"&&ap.endLine==cp.line&&vis sg i x&&!zL v&&yS a sg v)=true:=h;obtain⟨h1,h2⟩:=zH h;obtain⟨h1,k4⟩:=zH h1;obtain⟨h1,k3⟩:=zH h1;obtain⟨k1,k2⟩:=zH h1;have:=beq_iff_eq.mp k1;subst this;exact sk_app i (vj G k3) (sE a G h2) rfl (few_of (nst k4)) k2 (yA (nst k4)) rfl rfl
        |_=>exact nf h
       |_=>exact nf h
      |_=>exact nf h
     |_=>exact nf h
    |_=>exact nf h
   |_=>exact nf h
  |_=>exact nf h
 | .sForL a tg b,X,sg,e,G,h=>by
  cases e with
  |For t it body v120 w1 =>
   cases v120 with
   |nil =>
    replace h:(sg.calm&&(yb it&&Z4 tg sg t&&(yS a sg it&&chkB b sg body)))=true:=h;obtain⟨hcm,h⟩:=zH h;obtain⟨h1,h2⟩:=zH h;obtain⟨h1,h0⟩:=zH h1;obtain⟨h2,h3⟩:=zH h2;exact no_S (sk_forL (X:=X.nox) PassesOwn.never (G.calm hcm) (sE a (yL G) h2) (vB hcm (yL G) h0) (J6 tg) (sB b (yL G) h3) (ye h1))
   |_=>exact nf h
  |_=>exact nf h
 | .sForI ix tg b,X,sg,e,G,h=>by
  cases e with
  |For t it body v120 w1 =>
   cases v120 with
   |nil =>
    replace h:(sg.calm&&(yb it&&Z4 tg sg t&&((zBQ ix t&&chkI ix sg it)&&chkB b sg body)))=true:=h;obtain⟨hcm,h⟩:=zH h;obtain⟨h1,h2⟩:=zH h;obtain⟨h1,h0⟩:=zH h1;obtain⟨h2,h3⟩:=zH h2;obtain⟨h4,h2⟩:=zH h2;exact sk_forN (ps_forX (sI ix G h2 h4) (ye h1)) (no_S (sk_forI (X:=X.nox) PassesOwn.never (G.calm hcm) (sI ix (yL G) h2 h4) (vB hcm (yL G) h0) (J6 tg) (sB b (yL G) h3) (ye h1)))
   |_=>exact nf h
  |_=>exact nf h
 | .sForR1 as tg b,X,sg,e,G,h=>by
  cases e with
  |For t v122 body v123 w3 =>
   cases v122 with
   |Call v124 v125 v126 w2 =>
    cases v124 with
    |Name f w1 =>
     cases v125 with
     |cons x v127 =>
      cases v127 with
      |nil =>
       cases v126 with
       |nil =>
        cases v123 with
        |nil =>
         replace h:(sg.calm&&(f == "range"&&glb sg "range"&&bIn sg "range"&&!zL x&&Z4 tg sg t&&(chkA as sg [x]&&chkB b sg body)))=true:=h;obtain⟨hcm,h⟩:=zH h;obtain⟨h1,h2⟩:=zH h;obtain⟨h1,k5⟩:=zH h1;obtain⟨h1,k4⟩:=zH h1;obtain⟨h1,k3⟩:=zH h1;obtain⟨k1,k2⟩:=zH h1;obtain⟨h2,h3⟩:=zH h2;have:=beq_iff_eq.mp k1;subst this;exact no_S (zD7 (X:=X.nox) PassesOwn.never (G.calm hcm) (wD (yL G) k2).1 (JM (yL G) k3) (sA as (yL G) h2) (vB hcm (yL G) k5) (J6 tg) (sB b (yL G) h3) (nst k4) (ye rfl))
        |_=>exact nf h
       |_=>exact nf h
      |_=>exact nf h
     |_=>exact nf h
    |_=>exact nf h
   |_=>exact nf h
  |_=>exact nf h
 | .sForR2 as tg b,X,sg,e,G,h=>by
  cases e with
  |For t v128 body v129 w3 =>
   cases v128 with
   |Call v130 v131 v132 w2 =>
    cases v130 with
    |Name f w1 =>
     cases v131 with
     |cons x v133 =>
      cases v133 with
      |cons y v134 =>
       cases v134 with
       |nil =>
        cases v132 with
        |nil =>
         cases v129 with
         |nil =>
          replace h:(sg.calm&&(f == "range"&&glb sg "range"&&bIn sg "range"&&!zL x&&!zL y&&Z4 tg sg t&&(chkA as sg [x,y]&&chkB b sg body)))=true:=h;obtain⟨hcm,h⟩:=zH h;obtain⟨h1,h2⟩:=zH h;obtain⟨h1,k6⟩:=zH h1;obtain⟨h1,k5⟩:=zH h1;obtain⟨h1,k4⟩:=zH h1;obtain⟨h1,k3⟩:=zH h1;obtain⟨k1,k2⟩:=zH h1;obtain⟨h2,h3⟩:=zH h2;have:=beq_iff_eq.mp k1;subst this;exact no_S (zD8 (X:=X.nox) PassesOwn.never (G.calm hcm) (wD (yL G) k2).1 (JM (yL G) k3) (sA as (yL G) h2) (vB hcm (yL G) k6) (J6 tg) (sB b (yL G) h3) (nst k4) (nst k5) (ye rfl))
         |_=>exact nf h
        |_=>exact nf h
       |_=>exact nf h
      |_=>exact nf h
     |_=>exact nf h
    |_=>exact nf h
   |_=>exact nf h
  |_=>exact nf h
 | .sWhile t b,X,sg,e,G,h=>by
  cases e with
  |While c body v200 w1 =>
   cases v200 with
   |nil =>
    replace h:(chkT t sg c&&chkB b sg body)=true:=h;obtain⟨h1,h2⟩:=zH h;exact no_S (zEM (X:=X.nox) PassesOwn.never (sT t (yL G) h1) (sB b (yL G) h2))
   |_=>exact nf h
  |_=>exact nf h
 | .sAug i o a,X,sg,e,G,h=>by
  cases e with
  |AugAssign v200 op v w1 =>
   cases v200 with
   |Name x w2 =>
    replace h:(zFb sg i x&&op==o.op&&o.isAug&&yS a sg v)=true:=h;obtain⟨h,h2⟩:=zH h;obtain⟨h,k2⟩:=zH h;obtain⟨h1,k1⟩:=zH h;obtain⟨q1,q2,q3⟩:=uZ G h1;have:=beq_iff_eq.mp k1;subst this;cases o with
    |add=>exact zCP G.nd q1 q2 q3 (sE a G h2)
    |sub=>exact zCQ G.nd q1 q2 q3 (sE a G h2)
    |mul=>exact zCR G.nd q1 q2 q3 (sE a G h2)
    |_=>cases k2
   |_=>exact nf h
  |_=>exact nf h
theorem sB:∀(t:Bx) {X:Cx} {sg:Sg} {e:List Stmt},SgOk X sg->chkB t sg e=true->zA8 X e (dB sg.fs t)
 | .bNil,X,sg,e,G,h=>by
  have:=isEmpty_iff.mp h;subst this;exact sk_nil
 | .bOne a,X,sg,e,G,h=>by
  cases e with
  |cons s v135 =>
   cases v135 with
   |nil =>
    replace h:(chkS a sg s)=true:=h;exact sk_one (sS a G h)
   |_=>exact nf h
  |_=>exact nf h
 | .bSeq a b,X,sg,e,G,h=>by
  cases e with
  |cons s r =>
   replace h:(chkS a sg s&&chkB b sg r)=true:=h;obtain⟨h1,h2⟩:=zH h;exact sk_cons (sS a G h1) (sB b G h2)
  |_=>exact nf h
end
end
def ClOk(K:PySem.W.Frag)(mg:Str->Option Value)(cl rs:List Str):Prop :=
 (cl≠[]->∃T,mg "ThrowError"=some (.ref T)/\TCls K T/\∀c∈cl,∃C,mg c=some (.ref C)/\XCls K c C T/\C≠T)/\(∀c∈rs,∃C,mg c=some (.ref C)/\excIn K C VB "ValueError.__new__"=true)/\SmOk K
theorem def_ok{P:Program}{w:World}{K:PySem.W.Frag}{mg:Str->Option Value}{base:Heap}{x:Str}{st:Stmt}{ps N:List Str}{n lv:Nat}{cs:List (Str×D)}{fs:List FI}{bs:List Str}{c:Bool}{cl rs:List Str}(t:Bx)(T:jj K mg x st ps)(S:FnScope N ps (zb st))(hn:N.length=n)
  (hcs:∀x d,cs.lookup x=some d->∃u v,mg x=some u/\yU v u/\∀H,Rep K mg H d v)
  (hfs:∀i∈fs,∃f fd ps,mg i.x=some (.ref f)/\keepIn K (.ref f)=true/\WK K fd ps []/\ps.length=i.n/\FnOkN (!i.wild) P w K mg base i.lv f fd ps (spM K mg i.n i.F))
  (hbs:∀x∈bs,mg x=none) (hcl:ClOk K mg cl rs) (h:chkB t ⟨N,zb st,true,cs,fs,bs,lv,c,cl,rs,[]⟩ (jS st)=true):FOk P w K mg base c x (lv+1) ps (fnM n (dB fs t)):=by
 obtain⟨a,fd,hm,F,bnd⟩:=T;subst hn;refine⟨a,fd,hm,F.kp,bnd,fn_ok F S λcdv A outer s H E hd hr=>?_⟩;exact sB (sg:=⟨N,zb st,true,cs,fs,bs,lv,c,cl,rs,[]⟩) t ⟨rfl,rfl,λ_ _=>rfl,(λx h=>by cases h),id,hd,λ_=>⟨rfl,rfl⟩,S.nd,hcs,hfs,hbs,hr,hcl.1,hcl.2.1,hcl.2.2⟩ h
end DV
namespace DV
open PySem L2
def zEc(K:PySem.W.Frag)(mg:Str->Option Value)(cs:List (Str×D)):Prop:=∀x d,cs.lookup x=some d->∃u v,mg x=some u/\yU v u/\∀H,Rep K mg H d v
def BsOk(mg:Str->Option Value)(bs:List Str):Prop:=∀x∈bs,mg x=none
def FsOk(P:Program)(w:World)(K:PySem.W.Frag)(mg:Str->Option Value)(base:Heap)(fs:List FI):Prop :=
 ∀i∈fs,∃f fd ps,mg i.x=some (.ref f)/\keepIn K (.ref f)=true/\WK K fd ps []/\ps.length=i.n/\FnOkN (!i.wild) P w K mg base i.lv f fd ps (spM K mg i.n i.F)
section
variable{P:Program}{w:World}{K:PySem.W.Frag}{mg:Str->Option Value}{base:Heap}
theorem cs_nil:zEc K mg []:=λx d h=>by cases h
theorem cs_put{x:Str}{d:D}{cs:List (Str×D)}(h:∃u v,mg x=some u/\yU v u/\∀H,Rep K mg H d v)(t:zEc K mg cs):zEc K mg ((x,d)::cs):=λy d' e=>by
 rw[lookup_cons]at e;cases hy:y==x with
 |true =>
  rw[hy]at e;cases e;have:y=x:=by simpa using hy
  subst this;exact h
 |false=>rw[hy]at e;exact t y d' e
theorem YC{x:Str}{i:Int}{cs:List (Str×D)}(h:∃t,mg x=some (.int i t))(t:zEc K mg cs):zEc K mg ((x,.int i)::cs):=by
 obtain⟨k,h⟩:=h;exact cs_put ⟨_,.int i,h,⟨_,rfl⟩,λH=>by simp only[Rep]⟩ t
theorem bs_nil:BsOk mg []:=λx h=>by cases h
theorem jU{x:Str}{bs:List Str}(h:mg x=none)(t:BsOk mg bs):BsOk mg (x::bs):=λy e=>by
 rcases mem_cons.mp e with e|e
 ·subst e;exact h
 ·exact t y e
theorem zV:FsOk P w K mg base []:=λx h=>by cases h
theorem zB{x:Str}{n lv:Nat}{F:MF}{fs:List FI}{ps:List Str}{wl:Bool}(h:FOk P w K mg base (!wl) x lv ps F)(hl:ps.length=n)(t:FsOk P w K mg base fs):FsOk P w K mg base (⟨x,n,lv,wl,F⟩::fs):=λi e=>by
 rcases mem_cons.mp e with e|e
 ·subst e
  subst hl;obtain⟨a,fd,h1,h2,h3,h4⟩:=h;exact⟨a,fd,ps,h1,h2,h3,rfl,h4⟩
 ·exact t i e
theorem def_at{x:Str}{st:Stmt}{ps N:List Str}{n lv:Nat}{cs:List (Str×D)}{fs:List FI}{bs:List Str}{cl rs:List Str}(t:Bx){a:Addr}{fd:FuncData}(F:Fun K x x st a fd)(S:FnScope N ps (zb st))(hn:N.length=n)
  (hcs:zEc K mg cs) (hfs:FsOk P w K mg base fs) (hbs:BsOk mg bs) (hcl:ClOk K mg cl rs) (h:chkB t ⟨N,zb st,true,cs,fs,bs,lv,true,cl,rs,[]⟩ (jS st)=true):FnOk P w K mg base (CXx P w) (lv+1) a fd ps (spM K mg ps.length (fnM n (dB fs t))):=by
 subst hn;refine(fn_ok (c:=true) F S λcdv A outer s H E hd hr=>?_).fn;exact sB (sg:=⟨N,zb st,true,cs,fs,bs,lv,true,cl,rs,[]⟩) t ⟨rfl,rfl,λ_ _=>rfl,(λx h=>by cases h),id,hd,λ_=>⟨rfl,rfl⟩,S.nd,hcs,hfs,hbs,hr,hcl.1,hcl.2.1,hcl.2.2⟩ h
def scP(N P:List Str)(sc:Scope):Prop:=sc.kind=.function/\sc.isCoroutine=false/\sc.isGenerator=false/\N.Nodup/\N.take P.length=P/\(∀x∈P,sc.names.lookup x=some .local\/sc.names.lookup x=some .cell)/\∀y∈sc.names,y.2≠.free
instance scD (N P:List Str) (sc:Scope):Decidable (scP N P sc):=by unfold scP;infer_instance
theorem sc_of{N P:List Str}{sc:Scope}(h:scP N P sc):FnScope N P sc:=⟨h.1,h.2.1,h.2.2.1,h.2.2.2.1,h.2.2.2.2.1,h.2.2.2.2.2.1,h.2.2.2.2.2.2⟩
theorem zK{x:Str}{st:Stmt}{ps:List Str}{lv:Nat}{cs:List (Str×D)}{fs:List FI}{bs:List Str}{c:Bool}{cl rs:List Str}(t:Bx)(N:List Str)(T:jj K mg x st ps)
  (hcs:zEc K mg cs) (hfs:FsOk P w K mg base fs) (hbs:BsOk mg bs) (hcl:ClOk K mg cl rs) (h:(decide (scP N ps (zb st))&&chkB t ⟨N,zb st,true,cs,fs,bs,lv,c,cl,rs,[]⟩ (jS st))=true):FOk P w K mg base c x (lv+1) ps (fnM N.length (dB fs t)) :=
 def_ok t T (sc_of (of_decide_eq_true (Bool.and_eq_true_iff.mp h).1)) rfl hcs hfs hbs hcl (Bool.and_eq_true_iff.mp h).2
theorem def_atB{x:Str}{st:Stmt}{ps:List Str}{lv:Nat}{cs:List (Str×D)}{fs:List FI}{bs:List Str}{cl rs:List Str}(t:Bx)(N:List Str){a:Addr}{fd:FuncData}(F:Fun K x x st a fd)
  (hcs:zEc K mg cs) (hfs:FsOk P w K mg base fs) (hbs:BsOk mg bs) (hcl:ClOk K mg cl rs) (h:(decide (scP N ps (zb st))&&chkB t ⟨N,zb st,true,cs,fs,bs,lv,true,cl,rs,[]⟩ (jS st))=true):FnOk P w K mg base (CXx P w) (lv+1) a fd ps (spM K mg ps.length (fnM N.length (dB fs t))) :=
 def_at t F (sc_of (of_decide_eq_true (Bool.and_eq_true_iff.mp h).1)) rfl hcs hfs hbs hcl (Bool.and_eq_true_iff.mp h).2
theorem zCg{c:Str}{C T:Addr}(h:xIn K c C T=true):XCls K c C T/\C≠T:=by
 unfold xIn at h;simp only[Bool.and_eq_true,beq_iff_eq,Bool.not_eq_true']at h;obtain⟨⟨⟨⟨⟨⟨⟨h1,h2⟩,h3⟩,h4⟩,h5⟩,h6⟩,h7⟩,h8⟩:=h;refine⟨⟨?_,h2,h3,h4,h5,h6,h7⟩,by simpa using h8⟩;cases e:clsIn K C with
 |none=>rw[e]at h1;cases h1
 |some cd =>
  rw[e]at h1;simp only[Bool.and_eq_true,beq_iff_eq]at h1;exact⟨cd,rfl,h1.1,h1.2⟩
theorem tcls_of{T:Addr}(h:tIn K T=true):TCls K T:=by
 unfold tIn at h;simp only[Bool.and_eq_true,beq_iff_eq]at h;obtain⟨h1,h2⟩:=h;refine⟨?_,h2⟩;cases e:clsIn K T with
 |none=>rw[e]at h1;cases h1
 |some cd=>rw[e]at h1;exact⟨cd,rfl,by simpa using h1⟩
def spLaw(K:PySem.W.Frag):Sp:=λvs H Q _=>∃(a:Addr) (ns:List Int),vs=[.ref a]/\SqL K H a (ns.map V.int)/\ns.length<=63/\∀H',Q (.bl true) H'
theorem G1{H:Hp}:∀ns:List Int,Reps K mg H (ns.map D.int) (ns.map V.int)
 | []=>Reps.nil
 |n::ns=>Reps.cons (by simp only[Rep]) (G1 ns)
theorem law_imp{F:MF}(hm:∀ns:List Int,ns.length<=63->∃outs,F [.val (.lst (ns.map D.int))]=.ok (.val (.bl true),outs))(vs:List V)(H:Hp)(Q:VK)(E:XK)(h:spLaw K vs H Q E):spM K mg 1 F vs H Q E:=by
 obtain⟨a,ns,rfl,hS,hl,k⟩:=h;obtain⟨outs,hF⟩:=hm ns hl;have em:∀b,¬Mo (λ_=>False) [(some (V.ref a),Slot.val (.lst (ns.map D.int)))] b:=by
  intro b q;rcases q with q|q
  ·exact q
  ·rw[zu]at q;cases q
 have sm:Y4 H (Hm (Mo (λ_=>False) [(some (V.ref a),Slot.val (.lst (ns.map D.int)))]) H):=λb o q=>yP.mpr ⟨em b,q⟩
 refine⟨rfl,λ_=>False,[.val (.lst (ns.map D.int))],rfl,⟨?_,?_,?_,?_⟩,?_⟩
 ·intro o d q
  have q':=mem_singleton.mp q
  cases q';refine⟨_,rfl,?_⟩;simp only[Rep];exact⟨a,_,rfl,sm.seq hS,G1 ns⟩
 ·intro o s ds q e
  have q':=mem_singleton.mp q
  cases q';cases e
 ·show(yV [(some (V.ref a),Slot.val (.lst (ns.map D.int)))]).Nodup
  rw[zu];exact List.nodup_nil
 ·intro b q;cases q
 ·rw[hF]
  intro v H' _ fr _;obtain⟨v',e,r⟩:=fr.val (some v) (.bl true) mem_cons_self;cases e;simp only[Rep]at r;subst r;exact k H'
end
theorem yq{E:zP}:zw [] E=[]:=rfl
theorem jF{ds:List D}{ss:List Slot}{s:Slot}{E:zP}:zw (.par ds::ss) (s::E)=s::zw ss E:=rfl
theorem yr{d:D}{ss:List Slot}{s:Slot}{E:zP}:zw (.val d::ss) (s::E)=.emp::zw ss E:=rfl
theorem jG{d:List D}{ss:List Slot}{s:Slot}{E:zP}:zw (.own d::ss) (s::E)=.emp::zw ss E:=rfl
theorem jH{ss:List Slot}{s:Slot}{E:zP}:zw (.emp::ss) (s::E)=.emp::zw ss E:=rfl
theorem jY{tg:MG}{body:MS}(I:Nat->zP->Prop):∀(ds:List D) (k:Nat) (E:zP),I k E ->
  (∀i d,ds[i]?=some d->∀E,I (k+i) E->∃E1 E2,tg d E=.ok E1/\body E1=.ok (.nx,E2)/\I (k+i+1) E2) ->
  ∃E',W6 tg body ds E=.ok (.nx,E')/\I (k+ds.length) E'
 | [],k,E,h,step=>⟨E,rfl,h⟩
 |d::ds,k,E,h,step=>by
  obtain⟨E1,E2,h1,h2,h4⟩:=step 0 d rfl E h;obtain⟨E',q1,q2⟩:=jY I ds (k+1) E2 h4 λi d' e E h=>by
   have:=step (i+1) d' (by simpa using e) E (by rw[show k+(i+1)=k+1+i by omega];exact h);rw[show k+(i+1)=k+1+i by omega]at this;exact this
  refine⟨E',?_,?_⟩
  ·simp only[W6,h1,h2]
   exact q1
  ·rw[length_cons,show k+(ds.length+1)=k+1+ds.length by omega];exact q2
theorem Jc:∀(n:Nat) (lo:Int) (i:Nat) (d:D),(zM lo n)[i]?=some d->i<n/\d=.int (lo+i)
 |0,_,_,_,h=>by simp[zM]at h
 |n+1,lo,0,d,h=>by
  simp[zM]at h;exact⟨by omega,by rw[<- h];simp⟩
 |n+1,lo,i+1,d,h=>by
  simp only[zM,List.getElem?_cons_succ]at h;obtain⟨h1,h2⟩:=Jc n (lo+1) i d h;refine⟨by omega,?_⟩;rw[h2];congr 1
  push_cast
  omega
theorem jk:∀(n:Nat) (lo:Int),(zM lo n).length=n
 |0,_=>rfl
 |n+1,lo=>by simp[zM,jk n]
def jl:Slot->Bool
 | .par _=>false
 |_=>true
theorem ub:∀(vs:List D) (E:zP),zJ (vs.map AR.tmp) E=.ok (vs.map Slot.val,E)
 | [],_=>rfl
 |d::vs,E=>by simp only[map_cons,zJ,ub vs E]
theorem uc:∀(vs:List D) (outs:List Slot) (E0 E:zP),outs.length=vs.length->zG (vs.map AR.tmp) outs E0 E=.ok E
 | [],[],_,_,_=>rfl
 | [],_::_,_,_,h=>by cases h
 |_::_,[],_,_,h=>by cases h
 |d::vs,s::outs,E0,E,h=>by simp only[map_cons,zG];exact uc vs outs E0 E (by simpa using h)
end DV
namespace DV
open PySem L2
theorem G2{vs:List D}{tg:MG}{tt:MT}{el:ME}{nl:Nat}(pat:D->List DV.Slot)(f:D->Bool)(g:D->D):∀(ds:List D),
  (∀d∈ds,∀S:List DV.Slot,S.length=nl->(∀s∈S,jl s=true)->tg d (S++vs.map Slot.val)=.ok (pat d++vs.map Slot.val)) ->
  (∀d∈ds,(pat d).length=nl/\∀s∈pat d,jl s=true) ->
  (∀d∈ds,tt (pat d++vs.map Slot.val)=.ok (f d,pat d++vs.map Slot.val)) ->
  (∀d∈ds,f d=true->∃r,el (pat d++vs.map Slot.val)=.ok (r,pat d++vs.map Slot.val)/\r.d=g d) ->
  ∀(S:List DV.Slot) (acc:List D),S.length=nl->(∀s∈S,jl s=true)->acc.length+ds.length<=cap->∃S',S'.length=nl/\Zt tg tt el ds (S++vs.map Slot.val) acc=.ok (acc++(ds.filter f).map g,S'++vs.map Slot.val)
 | [],_,_,_,_,S,acc,hS,_,_=>⟨S,hS,by simp[Zt]⟩
 |d::ds,h1,h2,h3,h4,S,acc,hS,hn,hc=>by
  have m:=mem_cons_self (a:=d) (l:=ds);have r1:=h1 d m S hS hn;have r3:=h3 d m;have r2:=h2 d m;simp only[length_cons]at hc;have go:=G2 pat f g ds (λz hz=>h1 z (mem_cons_of_mem _ hz)) (λz hz=>h2 z (mem_cons_of_mem _ hz)) (λz hz=>h3 z (mem_cons_of_mem _ hz)) (λz hz=>h4 z (mem_cons_of_mem _ hz)) (pat d);cases hf:f d with
  |false =>
   rw[hf]at r3;obtain⟨S',l',e'⟩:=go acc r2.1 r2.2 (by omega);refine⟨S',l',?_⟩;simp only[Zt,r1,r3,e',filter_cons,hf];simp
  |true =>
   rw[hf]at r3;obtain⟨r,r4,r5⟩:=h4 d m hf;obtain⟨S',l',e'⟩:=go (acc++[r.d]) r2.1 r2.2 (by simp;omega);refine⟨S',l',?_⟩;simp only[Zt,r1,r3,r4];rw[if_pos (by omega),e',r5];simp[filter_cons,hf]
theorem ud{vs:List D}{tg:MG}{tt:MT}{el:ME}{nl:Nat}{caps:List Nat}(pat:D->List DV.Slot)(f:D->Bool)(g:D->D)(ds:List D)
  (h1:∀d∈ds,∀S:List DV.Slot,S.length=nl->(∀s∈S,jl s=true)->tg d (S++vs.map Slot.val)=.ok (pat d++vs.map Slot.val))
  (h2:∀d∈ds,(pat d).length=nl/\∀s∈pat d,jl s=true)
  (h3:∀d∈ds,tt (pat d++vs.map Slot.val)=.ok (f d,pat d++vs.map Slot.val))
  (h4:∀d∈ds,f d=true->∃r,el (pat d++vs.map Slot.val)=.ok (r,pat d++vs.map Slot.val)/\r.d=g d) (hc:ds.length<=cap)
  {mi:MI} {E E1:zP} (hi:mi E=.ok (ds,E1)) (hcap:Jj E1 caps=.ok (vs.map AR.tmp)):uV nl caps mi tg tt el E=.ok (.own ((ds.filter f).map g),E1):=by
 obtain⟨S',l',e'⟩:=G2 (vs:=vs) (tg:=tg) (tt:=tt) (el:=el) (nl:=nl) pat f g ds h1 h2 h3 h4 (replicate nl .emp) [] (by simp) (λs hs=>by rw[(List.mem_replicate.mp hs).2];rfl) (by simpa using hc);simp only[uV,hi,hcap,ub,e'];rw[uc vs _ _ _ (by rw[length_drop,zn];simp)];simp
theorem zFe{a b c:D}{S:List DV.Slot}{R:List DV.Slot}(hS:S.length=3)(hn:∀s∈S,jl s=true):gT [0,1,2] (.tup [a,b,c]) (S++R)=.ok ([.val a,.val b,.val c]++R):=by
 match S,hS,hn with
 | [x,y,z],_,hn =>
  have hx:=hn x (by simp);have hy:=hn y (by simp);have hz:=hn z (by simp);cases x<;>first|(cases hx;done)|(cases y<;>first|(cases hy;done)|(cases z<;>first|(cases hz;done)|rfl))
theorem zFf{a b:D}{S:List DV.Slot}{R:List DV.Slot}(hS:S.length=2)(hn:∀s∈S,jl s=true):gT [0,1] (.tup [a,b]) (S++R)=.ok ([.val a,.val b]++R):=by
 match S,hS,hn with
 | [x,y],_,hn =>
  have hx:=hn x (by simp);have hy:=hn y (by simp);cases x<;>first|(cases hx;done)|(cases y<;>first|(cases hy;done)|rfl)
theorem zCh{a:D}{S:List DV.Slot}{R:List DV.Slot}(hS:S.length=1)(hn:∀s∈S,jl s=true):gN 0 a (S++R)=.ok ([.val a]++R):=by
 match S,hS,hn with
 | [x],_,hn =>
  have hx:=hn x (by simp);cases x<;>first|(cases hx;done)|rfl
end DV
namespace DV
open PySem L2
theorem zAY:∀(l:List Obj) (i:Nat) (as:List Addr) (a:Addr) (o:Obj),(GJ l i as).lookup a=some o->∃j,a=i+j/\l[j]?=some o/\isFr o=false
 | [],_,_,a,o,e=>by cases e
 |_::_,_,[],a,o,e=>by cases e
 |x::os,i,b::as,a,o,e=>by
  have up:∀{as:List Addr},(GJ os (i+1) as).lookup a=some o->∃j,a=i+j/\(x::os)[j]?=some o/\isFr o=false:=λe=>by
   obtain⟨j,h1,h2,h3⟩:=zAY os (i+1) _ a o e;exact⟨j+1,h1.trans ((Nat.add_assoc i 1 j).trans (congrArg (i+·) (Nat.add_comm 1 j))),by simpa using h2,h3⟩
  unfold GJ at e;cases hb:Nat.beq i b with
  |false=>rw[hb]at e;exact up e
  |true =>
   rw[hb]at e;cases hf:isFr x with
   |true=>rw[hf]at e;exact up e
   |false =>
    rw[hf]at e;replace e:(match a==i with|true=>some x|false=>List.lookup a (GJ os (i+1) as))=some o:=e
    cases ha:a==i with
    |true =>
     rw[ha]at e;cases e;exact⟨0,beq_iff_eq.mp ha,rfl,hf⟩
    |false=>rw[ha]at e;exact up e
theorem zCi{h:Heap}(as:List Addr):(YT h as).In h:=λa o e=>by
 obtain⟨j,h1,h2,h3⟩:=zAY _ _ _ _ _ e;rw[zero_add]at h1;subst h1;have h4:h.objs[a]?=some o:=by rw[<- Array.getElem?_toList];exact h2
 unfold Heap.get?;rw[h4];obtain⟨c,d,dt,sl⟩:=o;cases dt<;>first|rfl|(cases h3)
def zAZ(as:List Addr)(α:Type)(L:PySem.W.Frag->α)(v:α):PySem.W.Hook :=
 ⟨α,λs=>L (YT s.heap as),λ_=>v,λ_ h=>∃K:PySem.W.Frag,K.In h/\L K=v,λ_ s e=>⟨_,zCi as,e⟩,λ_ _ _ ⟨K,x,e⟩ k=>⟨K,x.keeps k,e⟩⟩
theorem zEd{K:PySem.W.Frag}{n:Str}{st:Stmt}(e:zt K n=zz n st):∃(f:Addr) (oc:Value) (od:Option Addr) (kV dc pm:Value) (an:Option Addr) (cd ct:Value) (sl:Array (Option Value)),
  nsIn K mainGlobals n=some (some (.ref f))/\K.lookup f=some ⟨oc,od,.func (fnOf n n (J5 st) (jS st) (zb st) .none kV dc pm an cd ct),sl⟩/\codeIn K cd n=true/\keepIn K (.ref f)=true:=by
 unfold zt at e;split at e
 ·rename_i a ha
  split at e
  ·rename_i oc od fd sl hl
   have e:=Option.some.inj e;unfold fvOf at e;injection e with e1 e
   injection e with e2 e
   injection e with e3 e
   injection e with e4 e
   injection e with e5 e
   injection e with e6 e
   injection e with e7 e
   injection e with e8 e
   injection e with e9 e10
   obtain⟨k,p⟩:=zH e1;cases fd;simp only at e2 e3 e4 e5 e6 e7 e8 e9 e10;subst e2 e3 e4 e5 e6 e7 e8 e9 e10;exact⟨_,_,_,_,_,_,_,_,_,_,ha,hl,k,p⟩
  ·cases e
 ·cases e
def nth{α:Type}:List α->Nat->Option α
 | [],_=>none
 |a::_,0=>some a
 |_::l,n+1=>nth l n
theorem ix{α:Type}{l l':List α}(n:Nat)(h:l=l'):nth l n=nth l' n:=congrArg (λl=>nth l n) h
section
variable{K:PySem.W.Frag}{h:Heap}{mg:Str->Option Value}
theorem ar0{P:List Value->Prop}(h:P []):∀us:List Value,us.length=0->P us
 | [],_=>h
theorem ar1{P:List Value->Prop}(h:∀a:Value,P [a]):∀us:List Value,us.length=1->P us
 | [a],_=>h a
theorem ar2{P:List Value->Prop}(h:∀a b:Value,P [a,b]):∀us:List Value,us.length=2->P us
 | [a,b],_=>h a b
theorem ar3{P:List Value->Prop}(h:∀a b c:Value,P [a,b,c]):∀us:List Value,us.length=3->P us
 | [a,b,c],_=>h a b c
theorem ar4{P:List Value->Prop}(h:∀a b c d:Value,P [a,b,c,d]):∀us:List Value,us.length=4->P us
 | [a,b,c,d],_=>h a b c d
theorem ar5{P:List Value->Prop}(h:∀a b c d e:Value,P [a,b,c,d,e]):∀us:List Value,us.length=5->P us
 | [a,b,c,d,e],_=>h a b c d e
theorem ar6{P:List Value->Prop}(h:∀a b c d e f:Value,P [a,b,c,d,e,f]):∀us:List Value,us.length=6->P us
 | [a,b,c,d,e,f],_=>h a b c d e f
theorem ar7{P:List Value->Prop}(h:∀a b c d e f g:Value,P [a,b,c,d,e,f,g]):∀us:List Value,us.length=7->P us
 | [a,b,c,d,e,f,g],_=>h a b c d e f g
theorem yE{n:Str}{st:Stmt}{ps:List Str}(X:K.In h)(G:h.Ns mainGlobals mg)(e:some (zt K n)=some (zz n st))
  (b:∀(kV doc pm:Value) (an:Option Addr) (cdv ct:Value) (us:List Value),us.length=ps.length->bindArgs (fnOf n n (J5 st) (jS st) (zb st) .none kV doc pm an cdv ct) ⟨us,[]⟩=pure (ps.zip us):=by intro _ _ _ _ _ _;first|exact ar1 (λ_=>rfl)|exact ar2 (λ_ _=>rfl)|exact ar3 (λ_ _ _=>rfl)|exact ar4 (λ_ _ _ _=>rfl)|exact ar5 (λ_ _ _ _ _=>rfl)|exact ar6 (λ_ _ _ _ _ _=>rfl)|exact ar7 (λ_ _ _ _ _ _ _=>rfl)|exact ar0 rfl):jj K mg n st ps:=by
 obtain⟨f,oc,od,kV,dc,pm,an,cd,ct,sl,a,l,k,p⟩:=zEd (Option.some.inj e);exact⟨_,_,mg_of X G a,zFB (st:=st) l k p,(zFB (st:=st) l k p).binds b⟩
theorem Qn{n:Str}{i:Int}(X:K.In h)(G:h.Ns mainGlobals mg)(e:some (YU K n)=some (some i)):∃t,mg n=some (.int i t):=by
 have e:=Option.some.inj e;unfold YU at e;split at e
 ·rename_i j t hj
  cases e;exact⟨_,mg_of X G hj⟩
 ·cases e
theorem ZD{n:Str}(X:K.In h)(G:h.Ns mainGlobals mg)(e:some (jv K n)=some true):mg n=none:=by
 have e:=Option.some.inj e;unfold jv at e;split at e
 ·rename_i hj
  exact PySem.W.mg_none_of X G hj
 ·cases e
theorem Qo{n:Str}{a:Addr}(X:K.In h)(G:h.Ns mainGlobals mg)(e:Jq K n=some a):mg n=some (.ref a):=by
 unfold Jq at e;split at e
 ·rename_i b hb
  cases e;exact mg_of X G hb
 ·cases e
theorem sm_at(e:zBR K=true):SmOk K:=by
 unfold zBR at e;cases h:K.lookup sysModules with
 |none=>rw[h]at e;cases e
 |some o =>
  rw[h]at e;dsimp only at e;cases hd:o.data with
  |dict es n=>exact⟨o,es,n,h,hd⟩
  |_=>rw[hd]at e;cases e
theorem cl_at{cl rs:List Str}(X:K.In h)(G:h.Ns mainGlobals mg)(e:zE4 K cl rs=true):ClOk K mg cl rs:=by
 obtain⟨e,e3⟩:=zH e;obtain⟨e1,e2⟩:=zH e;refine⟨λhc=>?_,λc hc=>?_,sm_at e3⟩
 ·cases cl with
  |nil=>exact absurd rfl hc
  |cons c0 cs =>
   replace e1:(match Jq K "ThrowError" with
    |some T=>tIn K T&&(c0::cs).all λc=>(match Jq K c with|some C=>xIn K c C T|none=>false)
    |none=>false)=true:=e1
   cases hT:Jq K "ThrowError" with
   |none=>rw[hT]at e1;cases e1
   |some T =>
    rw[hT]at e1;obtain⟨t1,t2⟩:=zH e1;refine⟨T,Qo X G hT,tcls_of t1,λc hc=>?_⟩;have q:=all_eq_true.mp t2 c hc;cases hC:Jq K c with
    |none=>rw[hC]at q;cases q
    |some C =>
     rw[hC]at q;exact⟨C,Qo X G hC,(zCg q).1,(zCg q).2⟩
 ·have q:=all_eq_true.mp e2 c hc
  cases hC:Jq K c with
  |none=>rw[hC]at q;cases q
  |some C =>
   rw[hC]at q;exact⟨C,Qo X G hC,q⟩
end
theorem walkE{l:PySem.W.OpenLaw}{q:Program}{loose:List Str}{XP:(Str->Option Value)->Heap->Prop}{d:DefRec}{as:List Addr}{α:Type}{L:PySem.W.Frag->α}{v:α}{x:Str}{F:MF}(hm:∀ns:List Int,ns.length<=63->∃outs,F [.val (.lst (ns.map D.int))]=.ok (.val (.bl true),outs))
  (hn:l.most=some 63) (hdf:d.params.defaults=[])
  (Gk:∀(w:World) (K:PySem.W.Frag) (mg:Str->Option Value) (fa:Addr) (h:Heap),K.In h->L K=v->h.Ns mainGlobals mg->mg d.name=some (.ref fa) ->
   ∃fd:FuncData,(∀(s:Shared) (u:Value),BindsTo s fd ⟨[u],[]⟩ [(x,u)])/\∀base:Heap,FnOk l.prog w K mg base (CXx l.prog w) 40 fa fd [x] (spM K mg 1 F)) :
  PySem.W.WalkO q loose XP (zAZ as α L v).says l.row.toRowW d [] (λf vs=>PySem.call f vs):=by
 refine Att.attach_call hn hdf λw s₀ s₁ mg mb fa o pm cd doc a vs ns G Y ho hd hcd hmg hobj hints hlen hg=>?_
 obtain⟨K,KX,e⟩:=Y;obtain⟨fd,hb,hF⟩:=Gk w K mg fa _ KX e G.T.g hmg;exact zDn (sp:=spLaw K) (k:=40) KX G.T.g G.T.b G.T.builtins G.T.nolimit hg hobj hints (le_trans hlen (by decide)) ⟨rfl,rfl,by decide,by decide⟩ (λbase _ _=>(hF base).imp (law_imp hm)) hb (λH hO hS=>⟨a,ns,rfl,hS,hlen,λ_=>rfl⟩) λH e s' ⟨_,_,_,_,_,_,_,_,_,_,z⟩=>z
end DV
namespace My
open PySem L2 DV
def cs_:List (Str×D):=[("LEAST_SIGNS",.int 2),("LEAST_WEIGHT",.int 1),("MOST_COUNTED",.int 40),("MOST_LISTED",.int 500),("MOST_SIGNS",.int 3),("MOST_THROWS",.int 20),("MOST_WEIGHT",.int 9)]
def bs_:List Str:=["abs","all","bool","enumerate","int","isinstance","len","max","range","reversed","sum","tuple","zip"]
def vm:Bx :=
  (.bOne (.sRet (.and (.is .int (.var 0)) (.not (.is .bool (.var 0))))))
def Qp:List FI:=[]
def ZE:MF:=fnM 1 (dB Qp vm)
def yh:Bx :=
  (.bOne (.sRet (.and (.call 0 (.ev (.var 0) .nil)) (.chain .le .le (.var 1) (.var 0) (.var 2)))))
def jI:List FI:=[⟨"is_whole",1,1,false,ZE⟩]
def zh:MF:=fnM 3 (dB jI yh)
abbrev Jl:Bx :=
  (.bOne (.sPar 0 1 (.cons (.var 1) (.cons (.bin .mod (.var 0) (.var 1)) .nil))))
def wE:Bx :=
  (.bSeq (.sPar 0 1 (.cons (.cB .abs (.cons (.var 0) .nil)) (.cons (.cB .abs (.cons (.var 1) .nil)) .nil)))
  (.bSeq (.sWhile (.tE (.cmp .ne (.var 1) (.c (.int 0))))
  Jl)
  (.bOne (.sRet (.var 0)))))
def yt:List FI:=[]
def jJ:MF:=fnM 2 (dB yt wE)
abbrev Wd:Bx :=
  (.bOne (.sAug 2 .mul (.var 0)))
def Yo:Bx :=
  (.bSeq (.sSet 2 (.c (.int 1)))
  (.bSeq (.sForR1 (.cons (.var 1) .nil) (.n 3)
  Wd)
  (.bOne (.sRet (.var 2)))))
def Jy:List FI:=[]
def zk:MF:=fnM 4 (dB Jy Yo)
def vn:Bx :=
  (.bSeq (.sIf (.tE (.cmp .eq (.var 1) (.c (.int 0)))) (.bOne .sAny) .bNil)
  (.bSeq (.sSet 2 (.call 0 (.ev (.var 0) (.ev (.var 1) .nil))))
  (.bSeq (.sIf (.tE (.cmp .lt (.var 1) (.c (.int 0)))) (.bOne (.sSet 2 (.neg (.var 2)))) .bNil)
  (.bOne (.sRet (.tup (.cons (.bin .fdiv (.var 0) (.var 2)) (.cons (.bin .fdiv (.var 1) (.var 2)) .nil))))))))
def Qq:List FI:=[⟨"greatest_divisor",2,1,false,jJ⟩]
def Jd:MF:=fnM 3 (dB Qq vn)
def vo:Bx :=
  (.bSeq (.sIf (.tOr (.tNot (.tE (.is .tuple (.var 0)))) (.tNot (.tE (.chain .le .le (.gl (.int 2)) (.cB .len (.cons (.var 0) .nil)) (.gl (.int 3)))))) (.bOne (.sRet (.c (.bl false)))) .bNil)
  (.bOne (.sRet (.cB .all (.cons (.comp 1 ["weight"] [] [] (.iT (.var 0)) (.n 0) .tTr (.call 0 (.ev (.var 0) (.ev (.gl (.int 1)) (.ev (.gl (.int 9)) .nil))))) .nil)))))
def YD:List FI:=[⟨"is_whole_within",3,2,false,zh⟩]
def ZF:MF:=fnM 1 (dB YD vo)
def We:Bx :=
  (.bOne (.sRet (.call 0 (.ev (.var 0) (.ev (.c (.int 0)) (.ev (.bin .sub (.gl (.int 3)) (.c (.int 1))) .nil))))))
def G3:List FI:=[⟨"is_whole_within",3,2,false,zh⟩]
def YE:MF:=fnM 1 (dB G3 We)
def vq:Bx :=
  (.bSeq (.sIf (.tOr (.tNot (.tE (.is .tuple (.var 0)))) (.tE (.cmp .gt (.cB .len (.cons (.var 0) .nil)) (.gl (.int 20))))) (.bOne (.sRet (.c (.bl false)))) .bNil)
  (.bOne (.sRet (.cB .all (.cons (.comp 1 ["sign"] [] [] (.iT (.var 0)) (.n 0) .tTr (.call 0 (.ev (.var 0) .nil))) .nil)))))
def jz:List FI:=[⟨"sign_good",1,3,false,YE⟩]
def ZG:MF:=fnM 1 (dB jz vq)
def vt:Bx :=
  (.bOne (.sIf (.tNot (.tE (.call 0 (.ev (.var 0) .nil)))) (.bOne .sAny) .bNil))
def Qr:List FI:=[⟨"die_good",1,3,false,ZF⟩]
def Je:MF:=fnM 1 (dB Qr vt)
def vv:Bx :=
  (.bOne (.sIf (.tNot (.tE (.call 0 (.ev (.var 0) .nil)))) (.bOne .sAny) .bNil))
def Qs:List FI:=[⟨"row_good",1,4,false,ZG⟩]
def Jf:MF:=fnM 1 (dB Qs vv)
def Yp:Bx :=
  (.bOne (.sIf (.tNot (.tE (.call 0 (.ev (.var 0) (.ev (.var 1) (.ev (.var 2) .nil)))))) (.bOne .sAny) .bNil))
def vC:List FI:=[⟨"is_whole_within",3,2,false,zh⟩]
def zF:MF:=fnM 3 (dB vC Yp)
def ZY:Bx :=
  (.bOne (.sDrop (.call 0 (.ev (.var 0) (.ev (.gl (.int 2)) (.ev (.gl (.int 3)) .nil))))))
def ue:List FI:=[⟨"need_number",3,3,false,zF⟩]
def y0:MF:=fnM 1 (dB ue ZY)
def Wf:Bx :=
  (.bOne (.sDrop (.call 0 (.ev (.var 0) (.ev (.c (.int 0)) (.ev (.bin .sub (.var 1) (.c (.int 1))) .nil))))))
def G4:List FI:=[⟨"need_number",3,3,false,zF⟩]
def yu:MF:=fnM 2 (dB G4 Wf)
def jV:Bx :=
  (.bOne (.sRet (.maxd (.comp 3 ["sign","begin","length"] [] [] (.iL (.var 0)) (.t [0,1,2]) .tTr (.var 2)) (.c (.int 0)))))
def wF:List FI:=[]
def yi:MF:=fnM 1 (dB wF jV)
def wQ:Bx :=
  (.bOne (.sRet (.comp 1 ["run"] ["wanted"] [1] (.iL (.var 0)) (.n 0) (.tE (.cmp .eq (.ix (.var 0) (.c (.int 0))) (.var 1))) (.var 0))))
def JN:List FI:=[]
def jZ:MF:=fnM 2 (dB JN wQ)
abbrev Qt:Bx :=
  (.bOne (.sIf (.tOr (.tE (.cmp .eq (.var 3) (.cB .len (.cons (.var 0) .nil)))) (.tE (.cmp .ne (.ix (.var 0) (.var 3)) (.ix (.var 0) (.var 2))))) (.bSeq (.sApp 1 (.tup (.cons (.ix (.var 0) (.var 2)) (.cons (.var 2) (.cons (.bin .sub (.var 3) (.var 2)) .nil)))))
  (.bOne (.sSet 2 (.var 3)))) .bNil))
def G5:Bx :=
  (.bSeq (.sDrop (.call 0 (.ev (.var 0) .nil)))
  (.bSeq (.sSet 1 (.lst .nil))
  (.bSeq (.sSet 2 (.c (.int 0)))
  (.bSeq (.sForR2 (.cons (.c (.int 1)) (.cons (.bin .add (.cB .len (.cons (.var 0) .nil)) (.c (.int 1))) .nil)) (.n 3)
  Qt)
  (.bOne (.sRet (.mov 1)))))))
def zi:List FI:=[⟨"need_row",1,5,false,Jf⟩]
def Yq:MF:=fnM 4 (dB zi G5)
def G6:Bx :=
  (.bSeq (.sDrop (.call 4 (.ev (.var 0) .nil)))
  (.bSeq (.sDrop (.call 3 (.ev (.var 1) (.ev (.gl (.int 3)) .nil))))
  (.bOne (.sRet (.call 0 (.ev (.call 1 (.ev (.call 2 (.ev (.var 0) .nil)) (.ev (.var 1) .nil))) .nil))))))
def zBD:List FI:=[⟨"greatest_length",1,1,false,yi⟩,⟨"runs_of_sign",2,1,false,jZ⟩,⟨"runs_of",1,6,false,Yq⟩,⟨"need_sign",2,4,false,yu⟩,⟨"need_row",1,5,false,Jf⟩]
def JO:MF:=fnM 2 (dB zBD G6)
abbrev vD:Bx :=
  (.bOne (.sSet 4 (.bin .add (.lst (.cons (.bin .mul (.var 1) (.cB .sum (.cons (.var 4) .nil))) .nil)) (.comp 1 ["end"] ["weight"] [0] (.iL (.sl (.var 4) .oN (.oS (.neg (.c (.int 1)))))) (.n 0) .tTr (.bin .mul (.var 1) (.var 0))))))
def ZZ:Bx :=
  (.bSeq (.sSet 4 (.bin .add (.lst (.cons (.c (.int 1)) .nil)) (.bin .mul (.lst (.cons (.c (.int 0)) .nil)) (.var 3))))
  (.bSeq (.sForR1 (.cons (.var 2) .nil) (.n 5)
  vD)
  (.bOne (.sRet (.cB .sum (.cons (.var 4) .nil))))))
def wv:List FI:=[]
def zW:MF:=fnM 6 (dB wv ZZ)
def Za:Bx :=
  (.bSeq (.sIf (.tE (.cmp .eq (.var 3) (.c (.int 0)))) (.bOne (.sRet (.call 0 (.ev (.var 0) (.ev (.var 1) (.ev (.var 2) (.ev (.c (.int 0)) .nil))))))) .bNil)
  (.bOne (.sRet (.bin .sub (.call 0 (.ev (.var 0) (.ev (.var 1) (.ev (.var 2) (.ev (.var 3) .nil))))) (.call 0 (.ev (.var 0) (.ev (.var 1) (.ev (.var 2) (.ev (.bin .sub (.var 3) (.c (.int 1))) .nil)))))))))
def uf:List FI:=[⟨"weigh_upto",4,1,false,zW⟩]
def yW:MF:=fnM 4 (dB uf Za)
def Yr:Bx :=
  (.bOne (.sRet (.comp 1 ["k"] ["weight","others","n"] [0,1,2] (.iR1 (.cons (.bin .add (.var 2) (.c (.int 1))) .nil)) (.n 0) .tTr (.call 0 (.ev (.var 1) (.ev (.var 2) (.ev (.var 3) (.ev (.var 0) .nil))))))))
def wR:List FI:=[⟨"weigh_just",4,2,false,yW⟩]
def jm:MF:=fnM 3 (dB wR Yr)
abbrev Jm:Bx :=
  (.bSeq (.sSet 5 (.cB .sum (.cons (.comp 1 ["of_sign"] [] [] (.iL (.var 3)) (.n 0) .tTr (.cB .sum (.cons (.var 0) .nil))) .nil)))
  (.bOne (.sSet 3 (.comp 2 ["weight","of_sign"] ["whole"] [5] (.iZ false false (.cons (.var 0) (.cons (.var 3) .nil))) (.t [0,1]) .tTr (.bin .add (.lst (.cons (.bin .mul (.var 0) (.bin .sub (.var 2) (.cB .sum (.cons (.var 1) .nil)))) .nil)) (.comp 1 ["end"] ["weight"] [0] (.iL (.sl (.var 1) .oN (.oS (.neg (.c (.int 1)))))) (.n 0) .tTr (.bin .mul (.var 1) (.var 0))))))))
def wG:Bx :=
  (.bSeq (.sIf (.tE (.cmp .eq (.var 1) (.c (.int 0)))) (.bOne (.sRet (.c (.int 1)))) .bNil)
  (.bSeq (.sIf (.tE (.cmp .eq (.var 2) (.c (.int 0)))) (.bOne (.sRet (.c (.int 0)))) .bNil)
  (.bSeq (.sSet 3 (.comp 1 ["weight"] ["k"] [2] (.iL (.var 0)) (.n 0) .tTr (.bin .add (.lst (.cons (.var 0) .nil)) (.bin .mul (.lst (.cons (.c (.int 0)) .nil)) (.bin .sub (.var 1) (.c (.int 1)))))))
  (.bSeq (.sForR1 (.cons (.bin .sub (.var 1) (.c (.int 1))) .nil) (.n 4)
  Jm)
  (.bOne (.sRet (.cB .sum (.cons (.comp 1 ["of_sign"] [] [] (.iL (.var 3)) (.n 0) .tTr (.cB .sum (.cons (.var 0) .nil))) .nil))))))))
def zj:List FI:=[]
def yc:MF:=fnM 6 (dB zj wG)
def Zb:Bx :=
  (.bSeq (.sIf (.tE (.cmp .gt (.var 3) (.var 2))) (.bOne (.sRet (.c (.int 0)))) .bNil)
  (.bSeq (.sSet 4 (.call 0 (.ev (.var 0) (.ev (.var 3) .nil))))
  (.bSeq (.sSet 5 (.bin .mul (.var 4) (.call 0 (.ev (.bin .add (.var 0) (.var 1)) (.ev (.bin .sub (.var 2) (.var 3)) .nil)))))
  (.bSeq (.sIf (.tE (.cmp .eq (.var 3) (.var 2))) (.bOne (.sRet (.var 5))) .bNil)
  (.bOne (.sRet (.bin .add (.var 5) (.bin .mul (.bin .mul (.bin .mul (.bin .sub (.var 2) (.var 3)) (.var 1)) (.var 4)) (.call 0 (.ev (.bin .add (.var 0) (.var 1)) (.ev (.bin .sub (.bin .sub (.var 2) (.var 3)) (.c (.int 1))) .nil)))))))))))
def ug:List FI:=[⟨"whole_power",2,1,false,zk⟩]
def wH:MF:=fnM 6 (dB ug Zb)
def Jz:Bx :=
  (.bSeq (.sDrop (.call 1 (.ev (.var 0) .nil)))
  (.bOne (.sDrop (.call 0 (.ev (.var 1) (.ev (.c (.int 0)) (.ev (.gl (.int 40)) .nil)))))))
def Wg:List FI:=[⟨"need_number",3,3,false,zF⟩,⟨"need_signs",1,4,false,y0⟩]
def zI:MF:=fnM 2 (dB Wg Jz)
def Wh:Bx :=
  (.bSeq (.sDrop (.call 2 (.ev (.var 0) (.ev (.var 1) .nil))))
  (.bSeq (.sDrop (.call 1 (.ev (.var 2) (.ev (.c (.int 0)) (.ev (.gl (.int 40)) .nil)))))
  (.bOne (.sRet (.call 0 (.ev (.c (.int 1)) (.ev (.bin .sub (.var 0) (.c (.int 1))) (.ev (.var 1) (.ev (.var 2) .nil)))))))))
def G7:List FI:=[⟨"weigh_upto",4,1,false,zW⟩,⟨"need_number",3,3,false,zF⟩,⟨"need_counted",2,5,false,zI⟩]
def yw:MF:=fnM 3 (dB G7 Wh)
def Wi:Bx :=
  (.bSeq (.sDrop (.call 2 (.ev (.var 0) (.ev (.var 1) .nil))))
  (.bSeq (.sDrop (.call 1 (.ev (.var 2) (.ev (.c (.int 0)) (.ev (.gl (.int 40)) .nil)))))
  (.bOne (.sRet (.call 0 (.ev (.c (.int 1)) (.ev (.bin .sub (.var 0) (.c (.int 1))) (.ev (.var 1) (.ev (.var 2) .nil)))))))))
def G8:List FI:=[⟨"weigh_just",4,2,false,yW⟩,⟨"need_number",3,3,false,zF⟩,⟨"need_counted",2,5,false,zI⟩]
def yQ:MF:=fnM 3 (dB G8 Wi)
def Zc:Bx :=
  (.bSeq (.sDrop (.call 2 (.ev (.var 0) (.ev (.var 1) .nil))))
  (.bSeq (.sDrop (.call 1 (.ev (.var 2) (.ev (.c (.int 0)) (.ev (.gl (.int 40)) .nil)))))
  (.bOne (.sRet (.call 0 (.ev (.bin .mul (.lst (.cons (.c (.int 1)) .nil)) (.var 0)) (.ev (.var 1) (.ev (.var 2) .nil))))))))
def uh:List FI:=[⟨"weigh_alike_upto",3,1,false,yc⟩,⟨"need_number",3,3,false,zF⟩,⟨"need_counted",2,5,false,zI⟩]
def zx:MF:=fnM 3 (dB uh Zc)
def Zd:Bx :=
  (.bSeq (.sSet 3 (.call 0 (.ev (.var 0) (.ev (.var 1) (.ev (.var 2) .nil)))))
  (.bSeq (.sIf (.tE (.cmp .eq (.var 2) (.c (.int 0)))) (.bOne (.sRet (.var 3))) .bNil)
  (.bOne (.sRet (.bin .sub (.var 3) (.call 0 (.ev (.var 0) (.ev (.var 1) (.ev (.bin .sub (.var 2) (.c (.int 1))) .nil)))))))))
def ui:List FI:=[⟨"alike_upto",3,6,false,zx⟩]
def jA:MF:=fnM 4 (dB ui Zd)
def Ze:Bx :=
  (.bSeq (.sDrop (.call 1 (.ev (.var 0) (.ev (.var 1) .nil))))
  (.bOne (.sRet (.call 0 (.ev (.c (.int 1)) (.ev (.bin .sub (.var 0) (.c (.int 1))) (.ev (.var 1) .nil)))))))
def uj:List FI:=[⟨"weigh_table",3,3,false,jm⟩,⟨"need_counted",2,5,false,zI⟩]
def wI:MF:=fnM 2 (dB uj Ze)
def Ys:Bx :=
  (.bSeq (.sDrop (.call 1 (.ev (.var 0) (.ev (.var 1) .nil))))
  (.bOne (.sRet (.comp 1 ["k"] ["m","n"] [0,1] (.iR1 (.cons (.bin .add (.var 1) (.c (.int 1))) .nil)) (.n 0) .tTr (.call 0 (.ev (.var 1) (.ev (.var 2) (.ev (.var 0) .nil))))))))
def wS:List FI:=[⟨"alike_just",3,7,false,jA⟩,⟨"need_counted",2,5,false,zI⟩]
def jn:MF:=fnM 2 (dB wS Ys)
abbrev yp:Bx :=
  (.bSeq (.sSet 4 (.bin .add (.var 2) (.lst (.cons (.c (.int 0)) .nil))))
  (.bSeq (.sSet 5 (.bin .add (.lst (.cons (.c (.int 0)) .nil)) (.comp 1 ["rows"] ["m"] [0] (.iL (.var 2)) (.n 0) .tTr (.bin .mul (.bin .sub (.var 1) (.c (.int 1))) (.var 0)))))
  (.bOne (.sSet 2 (.comp 2 ["one","more"] [] [] (.iZ false false (.cons (.var 4) (.cons (.var 5) .nil))) (.t [0,1]) .tTr (.bin .add (.var 0) (.var 1)))))))
def J0:Bx :=
  (.bSeq (.sDrop (.call 0 (.ev (.var 0) (.ev (.var 1) .nil))))
  (.bSeq (.sIf (.tE (.cmp .eq (.var 1) (.c (.int 0)))) (.bOne (.sRet (.lst (.cons (.c (.int 1)) .nil)))) .bNil)
  (.bSeq (.sSet 2 (.lst (.cons (.c (.int 0)) (.cons (.var 0) .nil))))
  (.bSeq (.sForR1 (.cons (.bin .sub (.var 1) (.c (.int 1))) .nil) (.n 3)
  yp)
  (.bOne (.sRet (.var 2)))))))
def zo:List FI:=[⟨"need_counted",2,5,false,zI⟩]
def ja:MF:=fnM 6 (dB zo J0)
def Zf:Bx :=
  (.bSeq (.sDrop (.call 2 (.ev (.var 0) (.ev (.var 1) .nil))))
  (.bSeq (.sDrop (.call 1 (.ev (.var 2) (.ev (.c (.int 1)) (.ev (.gl (.int 40)) .nil)))))
  (.bOne (.sRet (.call 0 (.ev (.c (.int 1)) (.ev (.bin .sub (.var 0) (.c (.int 1))) (.ev (.var 1) (.ev (.var 2) .nil)))))))))
def uk:List FI:=[⟨"weigh_runs",4,2,false,wH⟩,⟨"need_number",3,3,false,zF⟩,⟨"need_counted",2,5,false,zI⟩]
def wJ:MF:=fnM 3 (dB uk Zf)
def vw:Bx :=
  (.bSeq (.sTup [3,4,5] (.var 0))
  (.bSeq (.sSet 4 (.ifx (.tE (.cmp .eq (.var 1) (.var 2))) (.bin .add (.var 4) (.c (.int 1))) (.c (.int 0))))
  (.bOne (.sRet (.tup (.cons (.bin .add (.var 3) (.tup (.cons (.var 1) .nil))) (.cons (.var 4) (.cons (.cB .max (.cons (.var 5) (.cons (.var 4) .nil))) .nil))))))))
def Wj:List FI:=[]
def wb:MF:=fnM 6 (dB Wj vw)
def Yt:Bx :=
  (.bSeq (.sTup [3,4,5] (.var 0))
  (.bOne (.sRet (.or (.cmp .eq (.var 5) (.var 2)) (.chain .lt .le (.var 5) (.var 2) (.bin .add (.var 4) (.var 1)))))))
def vE:List FI:=[]
def jo:MF:=fnM 6 (dB vE Yt)
abbrev jp:Bx :=
  (.bSeq (.sSet 7 (.comp2 2 ["begun","thrown"] ["sign","m"] [1,0] (.iL (.var 5)) (.n 0) (.iR1 (.cons (.var 3) .nil)) (.n 1) (.call 1 (.ev (.var 0) (.ev (.var 1) (.ev (.var 2) .nil))))))
  (.bOne (.sSet 5 (.comp 1 ["begun"] ["left","k"] [6,3] (.iL (.var 7)) (.n 0) (.tE (.call 0 (.ev (.var 0) (.ev (.var 1) (.ev (.var 2) .nil))))) (.var 0)))))
def YF:Bx :=
  (.bSeq (.sDrop (.call 5 (.ev (.var 0) .nil)))
  (.bSeq (.sDrop (.call 4 (.ev (.var 1) (.ev (.var 0) .nil))))
  (.bSeq (.sDrop (.call 3 (.ev (.var 2) (.ev (.c (.int 0)) (.ev (.gl (.int 20)) .nil)))))
  (.bSeq (.sDrop (.call 3 (.ev (.var 3) (.ev (.c (.int 0)) (.ev (.gl (.int 40)) .nil)))))
  (.bSeq (.sSet 4 (.call 2 (.ev (.var 0) (.ev (.var 2) (.ev (.var 3) .nil)))))
  (.bSeq (.sIf (.tE (.cmp .gt (.var 4) (.gl (.int 500)))) (.bOne .sAny) .bNil)
  (.bSeq (.sIf (.tE (.cmp .eq (.var 4) (.c (.int 0)))) (.bOne (.sRet (.lst .nil))) .bNil)
  (.bSeq (.sSet 5 (.lst (.cons (.tup (.cons (.tup .nil) (.cons (.c (.int 0)) (.cons (.c (.int 0)) .nil)))) .nil)))
  (.bSeq (.sForI (.iRv (.cons (.var 2) .nil)) (.n 6)
  jp)
  (.bOne (.sRet (.comp 3 ["row","ending","best"] [] [] (.iL (.var 5)) (.t [0,1,2]) .tTr (.var 0)))))))))))))
def zp:List FI:=[⟨"can_come_to",3,1,false,jo⟩,⟨"grown_by",3,1,false,wb⟩,⟨"rows_just",3,6,false,yQ⟩,⟨"need_number",3,3,false,zF⟩,⟨"need_sign",2,4,false,yu⟩,⟨"need_signs",1,4,false,y0⟩]
def ww:MF:=fnM 8 (dB zp YF)
def Yu:Bx :=
  (.bSeq (.sDrop (.call 2 (.ev (.var 0) .nil)))
  (.bSeq (.sDrop (.call 1 (.ev (.var 1) (.ev (.cB .len (.cons (.var 0) .nil)) .nil))))
  (.bOne (.sDrop (.call 0 (.ev (.var 2) (.ev (.c (.int 0)) (.ev (.gl (.int 40)) .nil))))))))
def vF:List FI:=[⟨"need_number",3,3,false,zF⟩,⟨"need_sign",2,4,false,yu⟩,⟨"need_die",1,4,false,Je⟩]
def jq:MF:=fnM 3 (dB vF Yu)
def JP:Bx :=
  (.bOne (.sRet (.bin .sub (.cB .sum (.cons (.var 0) .nil)) (.ix (.var 0) (.var 1)))))
def Zw:List FI:=[]
def jK:MF:=fnM 2 (dB Zw JP)
def J1:Bx :=
  (.bOne (.sRet (.call 0 (.ev (.var 2) (.ev (.call 1 (.ev (.cB .sum (.cons (.var 0) .nil)) (.ev (.var 1) .nil))) .nil)))))
def Wk:List FI:=[⟨"share_of",2,2,false,Jd⟩,⟨"whole_power",2,1,false,zk⟩]
def jb:MF:=fnM 3 (dB Wk J1)
def Zg:Bx :=
  (.bSeq (.sDrop (.call 4 (.ev (.var 0) (.ev (.var 1) (.ev (.var 2) .nil)))))
  (.bSeq (.sDrop (.call 3 (.ev (.var 3) (.ev (.c (.int 0)) (.ev (.gl (.int 40)) .nil)))))
  (.bOne (.sRet (.call 0 (.ev (.var 0) (.ev (.var 2) (.ev (.call 1 (.ev (.ix (.var 0) (.var 1)) (.ev (.call 2 (.ev (.var 0) (.ev (.var 1) .nil))) (.ev (.var 2) (.ev (.var 3) .nil))))) .nil))))))))
def um:List FI:=[⟨"share_in_all",3,3,false,jb⟩,⟨"weigh_upto",4,1,false,zW⟩,⟨"others_weight",2,1,false,jK⟩,⟨"need_number",3,3,false,zF⟩,⟨"need_thrown",3,5,false,jq⟩]
def wK:MF:=fnM 4 (dB um Zg)
def wT:Bx :=
  (.bSeq (.sIf (.tE (.cmp .lt (.var 1) (.cB .len (.cons (.var 0) .nil)))) (.bOne (.sRet (.ix (.var 0) (.var 1)))) .bNil)
  (.bOne (.sRet (.c (.int 0)))))
def JQ:List FI:=[]
def ym:MF:=fnM 2 (dB JQ wT)
abbrev vG:Bx :=
  (.bOne (.sSet 2 (.bin .mul (.var 2) (.var 0))))
def Zh:Bx :=
  (.bSeq (.sSet 2 (.c (.int 1)))
  (.bSeq (.sForR1 (.cons (.var 1) .nil) (.n 3)
  vG)
  (.bOne (.sRet (.var 2)))))
def Yv:List FI:=[]
def jB:MF:=fnM 4 (dB Yv Zh)
def YG:Bx :=
  (.bSeq (.sSet 0 (.bin .mod (.bin .add (.var 0) (.c (.int 7919))) (.c (.int 2147483647))))
  (.bOne (.sRet (.bin .mod (.bin .add (.bin .add (.bin .mul (.var 0) (.var 0)) (.bin .mul (.c (.int 48271)) (.var 0))) (.c (.int 12345))) (.c (.int 2147483629))))))
def Zi:List FI:=[]
def wx:MF:=fnM 1 (dB Zi YG)
def wy:Bx :=
  (.bSeq (.sSet 1 (.cB .max (.cons (.var 0) (.cons (.bin .sub (.c (.int 0)) (.var 0)) .nil))))
  (.bOne (.sRet (.lst (.cons (.var 1) (.cons (.cB .int (.cons (.cmp .ge (.var 1) (.bin .pow (.c (.int 10)) (.c (.int 18)))) .nil)) (.cons (.bin .mod (.var 1) (.c (.int 1000003))) .nil)))))))
def J2:List FI:=[]
def jL:MF:=fnM 2 (dB J2 wy)
def wz:Bx :=
  (.bSeq (.sIf (.tE (.cmp .eq (.ixO 0 (.c (.int 1))) (.c (.int 1)))) (.bSeq (.sSet 2 (.bin .mod (.ixO 0 (.c (.int 0))) (.var 1)))
  (.bSeq (.sIx 0 (.c (.int 0)) (.bin .fdiv (.ixO 0 (.c (.int 0))) (.var 1)))
  (.bOne (.sRet (.var 2))))) .bNil)
  (.bSeq (.sIx 0 (.c (.int 2)) (.call 0 (.ev (.bin .add (.call 0 (.ev (.ixO 0 (.c (.int 2))) .nil)) (.c (.int 7))) .nil)))
  (.bOne (.sRet (.bin .mod (.bin .fdiv (.ixO 0 (.c (.int 2))) (.c (.int 64))) (.var 1))))))
def JR:List FI:=[⟨"_law_next",1,1,false,wx⟩]
def zq:MF:=fnM 3 (dB JR wz)
def j0:Bx :=
  (.bSeq (.sPar3 3 4 5 (.cons (.call 8 (.ev (.var 0) (.ev (.var 1) .nil))) (.cons (.call 7 (.ev (.var 0) (.ev (.var 1) .nil))) (.cons (.call 6 (.ev (.var 0) (.ev (.var 1) .nil))) .nil))))
  (.bSeq (.sIf (.tE (.cmp .ne (.comp 1 ["_law_some"] [] [] (.iT (.tup (.cons (.var 3) (.cons (.var 4) (.cons (.var 5) .nil))))) (.n 0) .tTr (.cB .sum (.cons (.var 0) .nil))) (.bin .mul (.lst (.cons (.call 5 (.ev (.var 0) (.ev (.var 1) .nil))) .nil)) (.c (.int 3))))) (.bOne (.sRet (.c (.bl false)))) .bNil)
  (.bSeq (.sIf (.tOr (.tE (.cmp .ne (.call 4 (.ev (.var 0) (.ev (.var 1) (.ev (.var 2) .nil)))) (.cB .sum (.cons (.sl (.var 3) .oN (.oS (.bin .add (.var 2) (.c (.int 1))))) .nil)))) (.tE (.cmp .ne (.call 3 (.ev (.var 0) (.ev (.var 1) (.ev (.var 2) .nil)))) (.cB .sum (.cons (.sl (.var 4) .oN (.oS (.bin .add (.var 2) (.c (.int 1))))) .nil))))) (.bOne (.sRet (.c (.bl false)))) .bNil)
  (.bSeq (.sIf (.tOr (.tE (.cmp .ne (.call 2 (.ev (.var 0) (.ev (.var 1) (.ev (.var 2) .nil)))) (.cB .sum (.cons (.sl (.var 3) (.oS (.var 2)) (.oS (.bin .add (.var 2) (.c (.int 1))))) .nil)))) (.tE (.cmp .ne (.call 1 (.ev (.var 0) (.ev (.var 1) (.ev (.var 2) .nil)))) (.cB .sum (.cons (.sl (.var 4) (.oS (.var 2)) (.oS (.bin .add (.var 2) (.c (.int 1))))) .nil))))) (.bOne (.sRet (.c (.bl false)))) .bNil)
  (.bOne (.sRet (.cmp .eq (.bin .mul (.var 0) (.call 0 (.ev (.var 0) (.ev (.var 1) (.ev (.c (.int 1)) .nil))))) (.cB .sum (.cons (.comp 2 ["_law_at","_law_many"] [] [] (.iE false (.cons (.var 5) .nil)) (.t [0,1]) .tTr (.bin .mul (.var 0) (.var 1))) .nil)))))))))
def yj:List FI:=[⟨"runs_total",3,6,false,wJ⟩,⟨"alike_just",3,7,false,jA⟩,⟨"rows_just",3,6,false,yQ⟩,⟨"alike_upto",3,6,false,zx⟩,⟨"rows_upto",3,6,false,yw⟩,⟨"_law_power",2,1,false,jB⟩,⟨"rows_by_runs",2,6,false,ja⟩,⟨"alike_table",2,8,false,jn⟩,⟨"rows_table",2,6,false,wI⟩]
def ya:MF:=fnM 6 (dB yj j0)
abbrev yn:Bx :=
  (.bSeq (.sSet 5 (.call 2 (.ev (.var 0) (.ev (.var 4) (.ev (.var 1) (.ev (.var 2) .nil))))))
  (.bOne (.sIf (.tOr (.tE (.cmp .ne (.cB .len (.cons (.var 5) .nil)) (.call 1 (.ev (.var 0) (.ev (.var 1) (.ev (.var 2) .nil)))))) (.tNot (.tE (.cB .all (.cons (.comp 1 ["_law_row"] ["_law_sign","_law_k"] [4,2] (.iL (.var 5)) (.n 0) .tTr (.cmp .eq (.call 0 (.ev (.var 0) (.ev (.var 1) .nil))) (.var 2))) .nil))))) (.bOne (.sRet (.c (.bl false)))) .bNil)))
def JS:Bx :=
  (.bSeq (.sIf (.tNot (.tE (.call 7 (.ev (.var 0) (.ev (.var 1) (.ev (.var 2) .nil)))))) (.bOne (.sRet (.c (.bl false)))) .bNil)
  (.bSeq (.sIf (.tAnd (.tE (.cmp .eq (.var 0) (.c (.int 2)))) (.tAnd (.tE (.cmp .gt (.var 1) (.c (.int 0)))) (.tAnd (.tE (.cmp .gt (.var 2) (.c (.int 0)))) (.tE (.cmp .ne (.call 6 (.ev (.c (.int 2)) (.ev (.var 1) (.ev (.var 2) .nil)))) (.bin .mul (.c (.int 2)) (.call 4 (.ev (.c (.int 2)) (.ev (.bin .sub (.var 1) (.c (.int 1))) (.ev (.bin .sub (.var 2) (.c (.int 1))) .nil)))))))))) (.bOne (.sRet (.c (.bl false)))) .bNil)
  (.bSeq (.sSet 3 (.call 5 (.ev (.bin .mul (.tup (.cons (.c (.int 5)) .nil)) (.var 0)) (.ev (.bin .sub (.var 0) (.c (.int 1))) (.ev (.var 1) (.ev (.var 2) .nil))))))
  (.bSeq (.sIf (.tE (.cmp .ne (.bin .mul (.ix (.var 3) (.c (.int 0))) (.call 3 (.ev (.var 0) (.ev (.var 1) .nil)))) (.bin .mul (.call 4 (.ev (.var 0) (.ev (.var 1) (.ev (.var 2) .nil)))) (.ix (.var 3) (.c (.int 1)))))) (.bOne (.sRet (.c (.bl false)))) .bNil)
  (.bSeq (.sIf (.tE (.cmp .gt (.call 1 (.ev (.var 0) (.ev (.var 1) (.ev (.var 2) .nil)))) (.c (.int 300)))) (.bOne (.sRet (.c (.bl true)))) .bNil)
  (.bSeq (.sForR1 (.cons (.var 0) .nil) (.n 4)
  yn)
  (.bOne (.sRet (.c (.bl true))))))))))
def yO:List FI:=[⟨"longest",2,7,false,JO⟩,⟨"rows_just",3,6,false,yQ⟩,⟨"rows_with",4,7,false,ww⟩,⟨"_law_power",2,1,false,jB⟩,⟨"rows_upto",3,6,false,yw⟩,⟨"share_upto",4,6,false,wK⟩,⟨"alike_upto",3,6,false,zx⟩,⟨"_law_tables_right",3,9,false,ya⟩]
def wL:MF:=fnM 6 (dB yO JS)
abbrev uo:Bx :=
  (.bSeq (.sSet 2 (.call 2 (.ev (.var 1) .nil)))
  (.bSeq (.sPar 3 4 (.cons (.bin .add (.c (.int 2)) (.call 1 (.lend 2 (.ev (.c (.int 2)) .nil)))) (.cons (.call 1 (.lend 2 (.ev (.c (.int 21)) .nil))) .nil)))
  (.bSeq (.sSet 5 (.ix (.lst (.cons (.call 1 (.lend 2 (.ev (.c (.int 5)) .nil))) (.cons (.cB .max (.cons (.c (.int 0)) (.cons (.bin .sub (.var 4) (.call 1 (.lend 2 (.ev (.c (.int 4)) .nil)))) .nil))) (.cons (.call 1 (.lend 2 (.ev (.c (.int 25)) .nil))) .nil)))) (.call 1 (.lend 2 (.ev (.c (.int 3)) .nil)))))
  (.bOne (.sIf (.tNot (.tE (.call 0 (.ev (.var 3) (.ev (.var 4) (.ev (.var 5) .nil)))))) (.bOne (.sRet (.c (.bl false)))) .bNil)))))
def t_law:Bx :=
  (.bSeq (.sForL (.bin .add (.lst (.cons (.call 3 (.ev (.var 0) (.ev (.c (.int 0)) .nil))) .nil)) (.sl (.var 0) (.oS (.c (.int 1))) (.oS (.c (.int 8))))) (.n 1)
  uo)
  (.bOne (.sRet (.c (.bl true)))))
def vx:List FI:=[⟨"_law_right",3,10,false,wL⟩,⟨"_law_draw",2,2,false,zq⟩,⟨"_law_pen_of",1,1,false,jL⟩,⟨"_law_cell_at",2,1,false,ym⟩]
def m_law:MF:=fnM 6 (dB vx t_law)
structure Txt(K:PySem.W.Frag)(mg:Str->Option Value):Prop where
 n_abs:mg "abs"=none
 n_all:mg "all"=none
 n_bool:mg "bool"=none
 n_enumerate:mg "enumerate"=none
 n_int:mg "int"=none
 n_isinstance:mg "isinstance"=none
 n_len:mg "len"=none
 n_max:mg "max"=none
 n_range:mg "range"=none
 n_reversed:mg "reversed"=none
 n_sum:mg "sum"=none
 n_tuple:mg "tuple"=none
 n_zip:mg "zip"=none
 c_LEAST_SIGNS:∃t,mg "LEAST_SIGNS"=some (.int 2 t)
 c_LEAST_WEIGHT:∃t,mg "LEAST_WEIGHT"=some (.int 1 t)
 c_MOST_COUNTED:∃t,mg "MOST_COUNTED"=some (.int 40 t)
 c_MOST_LISTED:∃t,mg "MOST_LISTED"=some (.int 500 t)
 c_MOST_SIGNS:∃t,mg "MOST_SIGNS"=some (.int 3 t)
 c_MOST_THROWS:∃t,mg "MOST_THROWS"=some (.int 20 t)
 c_MOST_WEIGHT:∃t,mg "MOST_WEIGHT"=some (.int 9 t)
 f_is_whole:jj K mg "is_whole" vP ["thing"]
 f_is_whole_within:jj K mg "is_whole_within" wW ["thing","low","high"]
 f_greatest_divisor:jj K mg "greatest_divisor" j7 ["one","other"]
 f_whole_power:jj K mg "whole_power" YV ["base","exponent"]
 f_share_of:jj K mg "share_of" vQ ["top","bottom"]
 f_die_good:jj K mg "die_good" vR ["thing"]
 f_sign_good:jj K mg "sign_good" WA ["thing"]
 f_row_good:jj K mg "row_good" vS ["thing"]
 f_need_die:jj K mg "need_die" vT ["thing"]
 f_need_row:jj K mg "need_row" vU ["thing"]
 f_need_number:jj K mg "need_number" YW ["thing","low","high"]
 f_need_signs:jj K mg "need_signs" ZL ["thing"]
 f_need_sign:jj K mg "need_sign" WB ["thing","signs"]
 f_greatest_length:jj K mg "greatest_length" wX ["runs"]
 f_runs_of_sign:jj K mg "runs_of_sign" Jr ["runs","wanted"]
 f_runs_of:jj K mg "runs_of" GK ["row"]
 f_longest:jj K mg "longest" GL ["row","sign"]
 f_weigh_upto:jj K mg "weigh_upto" ZM ["weight","others","n","k"]
 f_weigh_just:jj K mg "weigh_just" ZN ["weight","others","n","k"]
 f_weigh_table:jj K mg "weigh_table" YX ["weight","others","n"]
 f_weigh_alike_upto:jj K mg "weigh_alike_upto" j8 ["weights","n","k"]
 f_weigh_runs:jj K mg "weigh_runs" ZO ["weight","others","n","k"]
 f_need_counted:jj K mg "need_counted" Js ["m","n"]
 f_rows_upto:jj K mg "rows_upto" WC ["m","n","k"]
 f_rows_just:jj K mg "rows_just" WD ["m","n","k"]
 f_alike_upto:jj K mg "alike_upto" ZP ["m","n","k"]
 f_alike_just:jj K mg "alike_just" ZQ ["m","n","k"]
 f_rows_table:jj K mg "rows_table" ZR ["m","n"]
 f_alike_table:jj K mg "alike_table" YY ["m","n"]
 f_rows_by_runs:jj K mg "rows_by_runs" Jt ["m","n"]
 f_runs_total:jj K mg "runs_total" ZS ["m","n","k"]
 f_grown_by:jj K mg "grown_by" vV ["begun","thrown","sign"]
 f_can_come_to:jj K mg "can_come_to" YZ ["begun","left","k"]
 f_rows_with:jj K mg "rows_with" WE ["m","sign","n","k"]
 f_need_thrown:jj K mg "need_thrown" Yb ["die","sign","n"]
 f_others_weight:jj K mg "others_weight" JH ["die","sign"]
 f_share_in_all:jj K mg "share_in_all" Ju ["die","n","weight"]
 f_share_upto:jj K mg "share_upto" ZT ["die","sign","n","k"]
 f__law_cell_at:jj K mg "_law_cell_at" Jv ["_law_script","_law_k"]
 f__law_power:jj K mg "_law_power" ZU ["_law_one","_law_many"]
 f__law_next:jj K mg "_law_next" WF ["_law_seed"]
 f__law_pen_of:jj K mg "_law_pen_of" Yc ["_law_cell"]
 f__law_draw:jj K mg "_law_draw" WG ["_law_pen","_law_many"]
 f__law_tables_right:jj K mg "_law_tables_right" jw ["_law_m","_law_n","_law_k"]
 f__law_right:jj K mg "_law_right" ZV ["_law_m","_law_n","_law_k"]
 f_law:jj K mg "law" s_law ["_law_script"]
 cl:ClOk K mg cl_ rs_
section
variable{P:Program}{w:World}{K:PySem.W.Frag}{mg:Str->Option Value}{base:Heap}
theorem yF(T:Txt K mg):zEc K mg cs_:=(YC T.c_LEAST_SIGNS (YC T.c_LEAST_WEIGHT (YC T.c_MOST_COUNTED (YC T.c_MOST_LISTED (YC T.c_MOST_SIGNS (YC T.c_MOST_THROWS (YC T.c_MOST_WEIGHT cs_nil)))))))
theorem yG(T:Txt K mg):BsOk mg bs_:=(jU T.n_abs (jU T.n_all (jU T.n_bool (jU T.n_enumerate (jU T.n_int (jU T.n_isinstance (jU T.n_len (jU T.n_max (jU T.n_range (jU T.n_reversed (jU T.n_sum (jU T.n_tuple (jU T.n_zip bs_nil)))))))))))))
theorem Qu(T:Txt K mg):FOk P w K mg base true "is_whole" 1 ["thing"] ZE:=zK vm ["thing"] T.f_is_whole (yF T) zV (yG T) T.cl (by decide +kernel)
theorem jM(T:Txt K mg):FOk P w K mg base true "is_whole_within" 2 ["thing","low","high"] zh:=zK yh ["thing","low","high"] T.f_is_whole_within (yF T) (zB (Qu T) rfl zV) (yG T) T.cl (by decide +kernel)
theorem YH(T:Txt K mg):FOk P w K mg base true "greatest_divisor" 1 ["one","other"] jJ:=zK wE ["one","other"] T.f_greatest_divisor (yF T) zV (yG T) T.cl (by decide +kernel)
theorem J3(T:Txt K mg):FOk P w K mg base true "whole_power" 1 ["base","exponent"] zk:=zK Yo ["base","exponent","power","step"] T.f_whole_power (yF T) zV (yG T) T.cl (by decide +kernel)
theorem Qv(T:Txt K mg):FOk P w K mg base true "share_of" 2 ["top","bottom"] Jd:=zK vn ["top","bottom","divisor"] T.f_share_of (yF T) (zB (YH T) rfl zV) (yG T) T.cl (by decide +kernel)
theorem Qw(T:Txt K mg):FOk P w K mg base true "die_good" 3 ["thing"] ZF:=zK vo ["thing"] T.f_die_good (yF T) (zB (jM T) rfl zV) (yG T) T.cl (by decide +kernel)
theorem G9(T:Txt K mg):FOk P w K mg base true "sign_good" 3 ["thing"] YE:=zK We ["thing"] T.f_sign_good (yF T) (zB (jM T) rfl zV) (yG T) T.cl (by decide +kernel)
theorem Qx(T:Txt K mg):FOk P w K mg base true "row_good" 4 ["thing"] ZG:=zK vq ["thing"] T.f_row_good (yF T) (zB (G9 T) rfl zV) (yG T) T.cl (by decide +kernel)
theorem Qy(T:Txt K mg):FOk P w K mg base true "need_die" 4 ["thing"] Je:=zK vt ["thing"] T.f_need_die (yF T) (zB (Qw T) rfl zV) (yG T) T.cl (by decide +kernel)
theorem Wl(T:Txt K mg):FOk P w K mg base true "need_row" 5 ["thing"] Jf:=zK vv ["thing"] T.f_need_row (yF T) (zB (Qx T) rfl zV) (yG T) T.cl (by decide +kernel)
theorem zc(T:Txt K mg):FOk P w K mg base true "need_number" 3 ["thing","low","high"] zF:=zK Yp ["thing","low","high"] T.f_need_number (yF T) (zB (jM T) rfl zV) (yG T) T.cl (by decide +kernel)
theorem Yw(T:Txt K mg):FOk P w K mg base true "need_signs" 4 ["thing"] y0:=zK ZY ["thing"] T.f_need_signs (yF T) (zB (zc T) rfl zV) (yG T) T.cl (by decide +kernel)
theorem JT(T:Txt K mg):FOk P w K mg base true "need_sign" 4 ["thing","signs"] yu:=zK Wf ["thing","signs"] T.f_need_sign (yF T) (zB (zc T) rfl zV) (yG T) T.cl (by decide +kernel)
theorem Yx(T:Txt K mg):FOk P w K mg base true "greatest_length" 1 ["runs"] yi:=zK jV ["runs"] T.f_greatest_length (yF T) zV (yG T) T.cl (by decide +kernel)
theorem Wm(T:Txt K mg):FOk P w K mg base true "runs_of_sign" 1 ["runs","wanted"] jZ:=zK wQ ["runs","wanted"] T.f_runs_of_sign (yF T) zV (yG T) T.cl (by decide +kernel)
theorem zBE(T:Txt K mg):FOk P w K mg base true "runs_of" 6 ["row"] Yq:=zK G5 ["row","runs","begin","end"] T.f_runs_of (yF T) (zB (Wl T) rfl zV) (yG T) T.cl (by decide +kernel)
theorem zBF(T:Txt K mg):FOk P w K mg base true "longest" 7 ["row","sign"] JO:=zK G6 ["row","sign"] T.f_longest (yF T) (zB (Yx T) rfl (zB (Wm T) rfl (zB (zBE T) rfl (zB (JT T) rfl (zB (Wl T) rfl zV))))) (yG T) T.cl (by decide +kernel)
theorem w6(T:Txt K mg):FOk P w K mg base true "weigh_upto" 1 ["weight","others","n","k"] zW:=zK ZZ ["weight","others","n","k","ends","throw"] T.f_weigh_upto (yF T) zV (yG T) T.cl (by decide +kernel)
theorem Yy(T:Txt K mg):FOk P w K mg base true "weigh_just" 2 ["weight","others","n","k"] yW:=zK Za ["weight","others","n","k"] T.f_weigh_just (yF T) (zB (w6 T) rfl zV) (yG T) T.cl (by decide +kernel)
theorem vH(T:Txt K mg):FOk P w K mg base true "weigh_table" 3 ["weight","others","n"] jm:=zK Yr ["weight","others","n"] T.f_weigh_table (yF T) (zB (Yy T) rfl zV) (yG T) T.cl (by decide +kernel)
theorem YI(T:Txt K mg):FOk P w K mg base true "weigh_alike_upto" 1 ["weights","n","k"] yc:=zK wG ["weights","n","k","ends","throw","whole"] T.f_weigh_alike_upto (yF T) zV (yG T) T.cl (by decide +kernel)
theorem uq(T:Txt K mg):FOk P w K mg base true "weigh_runs" 2 ["weight","others","n","k"] wH:=zK Zb ["weight","others","n","k","run","at_first"] T.f_weigh_runs (yF T) (zB (J3 T) rfl zV) (yG T) T.cl (by decide +kernel)
theorem yC(T:Txt K mg):FOk P w K mg base true "need_counted" 5 ["m","n"] zI:=zK Jz ["m","n"] T.f_need_counted (yF T) (zB (zc T) rfl (zB (Yw T) rfl zV)) (yG T) T.cl (by decide +kernel)
theorem Zj(T:Txt K mg):FOk P w K mg base true "rows_upto" 6 ["m","n","k"] yw:=zK Wh ["m","n","k"] T.f_rows_upto (yF T) (zB (w6 T) rfl (zB (zc T) rfl (zB (yC T) rfl zV))) (yG T) T.cl (by decide +kernel)
theorem JU(T:Txt K mg):FOk P w K mg base true "rows_just" 6 ["m","n","k"] yQ:=zK Wi ["m","n","k"] T.f_rows_just (yF T) (zB (Yy T) rfl (zB (zc T) rfl (zB (yC T) rfl zV))) (yG T) T.cl (by decide +kernel)
theorem w8(T:Txt K mg):FOk P w K mg base true "alike_upto" 6 ["m","n","k"] zx:=zK Zc ["m","n","k"] T.f_alike_upto (yF T) (zB (YI T) rfl (zB (zc T) rfl (zB (yC T) rfl zV))) (yG T) T.cl (by decide +kernel)
theorem Yz(T:Txt K mg):FOk P w K mg base true "alike_just" 7 ["m","n","k"] jA:=zK Zd ["m","n","k","upto"] T.f_alike_just (yF T) (zB (w8 T) rfl zV) (yG T) T.cl (by decide +kernel)
theorem ur(T:Txt K mg):FOk P w K mg base true "rows_table" 6 ["m","n"] wI:=zK Ze ["m","n"] T.f_rows_table (yF T) (zB (vH T) rfl (zB (yC T) rfl zV)) (yG T) T.cl (by decide +kernel)
theorem vI(T:Txt K mg):FOk P w K mg base true "alike_table" 8 ["m","n"] jn:=zK Ys ["m","n"] T.f_alike_table (yF T) (zB (Yz T) rfl (zB (yC T) rfl zV)) (yG T) T.cl (by decide +kernel)
theorem Wn(T:Txt K mg):FOk P w K mg base true "rows_by_runs" 6 ["m","n"] ja:=zK J0 ["m","n","many","throw","same","other"] T.f_rows_by_runs (yF T) (zB (yC T) rfl zV) (yG T) T.cl (by decide +kernel)
theorem ut(T:Txt K mg):FOk P w K mg base true "runs_total" 6 ["m","n","k"] wJ:=zK Zf ["m","n","k"] T.f_runs_total (yF T) (zB (uq T) rfl (zB (zc T) rfl (zB (yC T) rfl zV))) (yG T) T.cl (by decide +kernel)
theorem Qz(T:Txt K mg):FOk P w K mg base true "grown_by" 1 ["begun","thrown","sign"] wb:=zK vw ["begun","thrown","sign","row","ending","best"] T.f_grown_by (yF T) zV (yG T) T.cl (by decide +kernel)
theorem vJ(T:Txt K mg):FOk P w K mg base true "can_come_to" 1 ["begun","left","k"] jo:=zK Yt ["begun","left","k","row","ending","best"] T.f_can_come_to (yF T) zV (yG T) T.cl (by decide +kernel)
theorem QA(T:Txt K mg):FOk P w K mg base true "rows_with" 7 ["m","sign","n","k"] ww:=zK YF ["m","sign","n","k","many","rows","left","grown"] T.f_rows_with (yF T) (zB (vJ T) rfl (zB (Qz T) rfl (zB (JU T) rfl (zB (zc T) rfl (zB (JT T) rfl (zB (Yw T) rfl zV)))))) (yG T) T.cl (by decide +kernel)
theorem vK(T:Txt K mg):FOk P w K mg base true "need_thrown" 5 ["die","sign","n"] jq:=zK Yu ["die","sign","n"] T.f_need_thrown (yF T) (zB (zc T) rfl (zB (JT T) rfl (zB (Qy T) rfl zV))) (yG T) T.cl (by decide +kernel)
theorem Zx(T:Txt K mg):FOk P w K mg base true "others_weight" 1 ["die","sign"] jK:=zK JP ["die","sign"] T.f_others_weight (yF T) zV (yG T) T.cl (by decide +kernel)
theorem Wo(T:Txt K mg):FOk P w K mg base true "share_in_all" 3 ["die","n","weight"] jb:=zK J1 ["die","n","weight"] T.f_share_in_all (yF T) (zB (Qv T) rfl (zB (J3 T) rfl zV)) (yG T) T.cl (by decide +kernel)
theorem uu(T:Txt K mg):FOk P w K mg base true "share_upto" 6 ["die","sign","n","k"] wK:=zK Zg ["die","sign","n","k"] T.f_share_upto (yF T) (zB (Wo T) rfl (zB (w6 T) rfl (zB (Zx T) rfl (zB (zc T) rfl (zB (vK T) rfl zV))))) (yG T) T.cl (by decide +kernel)
theorem Wp(T:Txt K mg):FOk P w K mg base true "_law_cell_at" 1 ["_law_script","_law_k"] ym:=zK wT ["_law_script","_law_k"] T.f__law_cell_at (yF T) zV (yG T) T.cl (by decide +kernel)
theorem Y0(T:Txt K mg):FOk P w K mg base true "_law_power" 1 ["_law_one","_law_many"] jB:=zK Zh ["_law_one","_law_many","_law_found","_law_turn"] T.f__law_power (yF T) zV (yG T) T.cl (by decide +kernel)
theorem QB(T:Txt K mg):FOk P w K mg base true "_law_next" 1 ["_law_seed"] wx:=zK YG ["_law_seed"] T.f__law_next (yF T) zV (yG T) T.cl (by decide +kernel)
theorem vL(T:Txt K mg):FOk P w K mg base true "_law_pen_of" 1 ["_law_cell"] jL:=zK wy ["_law_cell","_law_left"] T.f__law_pen_of (yF T) zV (yG T) T.cl (by decide +kernel)
theorem QC(T:Txt K mg):FOk P w K mg base true "_law_draw" 2 ["_law_pen","_law_many"] zq:=zK wz ["_law_pen","_law_many","_law_found"] T.f__law_draw (yF T) (zB (QB T) rfl zV) (yG T) T.cl (by decide +kernel)
theorem Jo(T:Txt K mg):FOk P w K mg base true "_law_tables_right" 9 ["_law_m","_law_n","_law_k"] ya:=zK j0 ["_law_m","_law_n","_law_k","_law_one","_law_other","_law_third"] T.f__law_tables_right (yF T) (zB (ut T) rfl (zB (Yz T) rfl (zB (JU T) rfl (zB (w8 T) rfl (zB (Zj T) rfl (zB (Y0 T) rfl (zB (Wn T) rfl (zB (vI T) rfl (zB (ur T) rfl zV))))))))) (yG T) T.cl (by decide +kernel)
theorem uv(T:Txt K mg):FOk P w K mg base true "_law_right" 10 ["_law_m","_law_n","_law_k"] wL:=zK JS ["_law_m","_law_n","_law_k","_law_part","_law_sign","_law_found"] T.f__law_right (yF T) (zB (zBF T) rfl (zB (JU T) rfl (zB (QA T) rfl (zB (Y0 T) rfl (zB (Zj T) rfl (zB (uu T) rfl (zB (w8 T) rfl (zB (Jo T) rfl zV)))))))) (yG T) T.cl (by decide +kernel)
end
theorem law_fd{P:Program}{w:World}{K:PySem.W.Frag}{mg:Str->Option Value}{fa:Addr}(hfa:mg "law"=some (.ref fa))(T:Txt K mg):∃fd:FuncData,(∀(s:Shared) (u:Value),BindsTo s fd ⟨[u],[]⟩ [("_law_script",u)])/\∀base:Heap,FnOk P w K mg base (CXx P w) 40 fa fd ["_law_script"] (spM K mg 1 m_law):=by
 obtain⟨a,fd,hm,F,bnd⟩:=T.f_law;have e:=hfa.symm.trans hm;cases e;refine⟨fd,?_,λbase=>(def_atB (P:=P) (w:=w) (base:=base) (fs:=vx) (lv:=10) t_law ["_law_script","_law_cell","_law_pen","_law_m","_law_n","_law_k"] F (yF T) (zB (uv T) rfl (zB (QC T) rfl (zB (vL T) rfl (zB (Wp T) rfl zV)))) (yG T) T.cl (by decide +kernel)).mono (by decide)⟩;obtain⟨oc,od,kV,doc,pm,an,cdv,ct,osl,rfl,lk,hcd⟩:=F.ex;exact λs u=>.of_eq rfl
end My
namespace DV
open PySem L2
section
variable{fs:List FI}{E E1 E2 E3:zP}
theorem x_c{d:D}:dE fs (.c d) E=.ok (.val d,E):=by simp only[dE,eC]
theorem Wq{d:D}:dE fs (.gl d) E=.ok (.val d,E):=by simp only[dE,eC]
theorem zA{i:Nat}{d:D}(h:E[i]?=some (.val d)):dE fs (.var i) E=.ok (.val d,E):=by simp only[dE,Zr,h]
theorem zAa{i:Nat}{ds:List D}(h:E[i]?=some (.own ds))(h':E.set i (.val (.lst ds))=E1):dE fs (.var i) E=.ok (.val (.lst ds),E1):=by simp only[dE,Zr,h,h']
theorem zS{o:Op2}{a b:_}{r1 r2 r:R}(h1:dE fs a E=.ok (r1,E1))(h2:dE fs b E1=.ok (r2,E2))(h3:o.f r1.d r2.d=some r):dE fs (.bin o a b) E=.ok (r,E2):=by simp only[dE,Ji,h1,h2,h3]
theorem zf{o:Cp}{a b:_}{r1 r2 r:R}(h1:dE fs a E=.ok (r1,E1))(h2:dE fs b E1=.ok (r2,E2))(h3:o.f r1.d r2.d=some r):dE fs (.cmp o a b) E=.ok (r,E2):=by simp only[dE,Ji,h1,h2,h3]
theorem zDS{a b:_}{r1 r2 r:R}(h1:dE fs a E=.ok (r1,E1))(h2:dE fs b E1=.ok (r2,E2))(h3:ixD r1.d r2.d=some r):dE fs (.ix a b) E=.ok (r,E2):=by simp only[dE,Ji,h1,h2,h3]
theorem YS{b:Bi}{as:_}{rs:List R}{r:R}(h1:dA fs as E=.ok (rs,E1))(h2:b.f (rs.map R.d)=some r):dE fs (.cB b as) E=.ok (r,E1):=by simp only[dE,eCB,h1,h2]
theorem QD{as:_}{rs:List R}{ds:List D}(h1:dA fs as E=.ok (rs,E1))(h2:rs.map R.d=ds)(h3:ds.length<=cap):dE fs (.tup as) E=.ok (.val (.tup ds),E1):=by
 subst h2;simp only[dE,Gd,eCB,h1];rw[if_pos h3]
theorem Jp{as:_}{rs:List R}{ds:List D}(h1:dA fs as E=.ok (rs,E1))(h2:rs.map R.d=ds)(h3:ds.length<=cap):dE fs (.lst as) E=.ok (.own ds,E1):=by
 subst h2;simp only[dE,Ge,eCB,h1];rw[if_pos h3]
theorem x_sl{a l u:_}{r r':R}{lo hi:Option Int}{E3:zP}(h1:dE fs a E=.ok (r,E1))(h2:dO fs l E1=.ok (lo,E2))(h3:dO fs u E2=.ok (hi,E3))(h4:slD r.d lo hi=some r'):dE fs (.sl a l u) E=.ok (r',E3):=by simp only[dE,eSl,h1,h2,h3,h4]
theorem wU{k:Nat}{a:_}{F:MF}{r r':R}{o:Slot}(h0:fiF fs k=F)(h1:dE fs a E=.ok (r,E1))(h2:F [.val r.d]=.ok (r',[o])):dE fs (.call k (.ev a .nil)) E=.ok (r',E1):=by
 subst h0;simp only[dE,dG,jh,zm,h1,zJ,h2,zG]
theorem zg{k:Nat}{a b:_}{F:MF}{r r2 r':R}{o o2:Slot}(h0:fiF fs k=F)(h1:dE fs a E=.ok (r,E1))(h1':dE fs b E1=.ok (r2,E2))(h2:F [.val r.d,.val r2.d]=.ok (r',[o,o2])):dE fs (.call k (.ev a (.ev b .nil))) E=.ok (r',E2):=by
 subst h0;simp only[dE,dG,jh,zm,h1,h1',zJ,h2,zG]
theorem Q0{o o':Cp}{a b c:_}{i j k:Int}{E3:zP}{v:Bool}(h1:dE fs a E=.ok (.val (.int i),E1))(h2:dE fs b E1=.ok (.val (.int j),E2))(h3:o.b i j=true)(h4:dE fs c E2=.ok (.val (.int k),E3))(h5:o'.b j k=v):dE fs (.chain o o' a b c) E=.ok (.val (.bl v),E3):=by
 subst h5;simp only[dE,yl,h1,h2,h4];rw[if_pos h3]
theorem zAb{o o':Cp}{a b c:_}{i j:Int}(h1:dE fs a E=.ok (.val (.int i),E1))(h2:dE fs b E1=.ok (.val (.int j),E2))(h3:o.b i j=false):dE fs (.chain o o' a b c) E=.ok (.val (.bl false),E2):=by
 simp only[dE,yl,h1,h2];rw[if_neg (by rw[h3];decide)]
theorem Jg{k i:Nat}{a:_}{F:MF}{r r':R}{p p':List D}{o:Slot}(h0:fiF fs k=F)(hE:E[i]?=some (.own p))(h1:dE fs a E=.ok (r,E))(h2:F [.par p,.val r.d]=.ok (r',[.par p',o]))(h3:E.set i (.own p')=E1):dE fs (.call k (.lend i (.ev a .nil))) E=.ok (r',E1):=by
 subst h0 h3;have hi:i<E.length:=(List.getElem?_eq_some_iff.mp hE).1;have hs:(E.set i .emp)[i]?=some .emp:=by simp[hi]
 simp only[dE,dG,jh,zm,hE,WT,Bool.false_eq_true,if_false,h1,zJ,Slot.list?,h2,zG,hs,Slot.put,List.set_set]
theorem zR{k:Nat}{a b c:_}{F:MF}{r r2 r3 r':R}{o o2 o3:Slot}(h0:fiF fs k=F)(h1:dE fs a E=.ok (r,E1))(h1':dE fs b E1=.ok (r2,E2))(h1'':dE fs c E2=.ok (r3,E3))(h2:F [.val r.d,.val r2.d,.val r3.d]=.ok (r',[o,o2,o3])):dE fs (.call k (.ev a (.ev b (.ev c .nil)))) E=.ok (r',E3):=by
 subst h0;simp only[dE,dG,jh,zm,h1,h1',h1'',zJ,h2,zG]
theorem yH{n:Nat}{body:MS}{ss o:List Slot}{r:R}(h:body (ss++replicate (n-ss.length) .emp)=.ok (.ret r,E1))(ho:zw ss E1=o):fnM n body ss=.ok (r,o):=by
 subst ho;simp only[fnM,h]
theorem f_nx{n:Nat}{body:MS}{ss o:List Slot}(h:body (ss++replicate (n-ss.length) .emp)=.ok (.nx,E1))(ho:zw ss E1=o):fnM n body ss=.ok (.val .non,o):=by
 subst ho;simp only[fnM,h]
theorem zT:dA fs .nil E=.ok ([],E):=by simp only[dA,Gc]
theorem zD{a as:_}{r:R}{rs:List R}(h1:dE fs a E=.ok (r,E1))(h2:dA fs as E1=.ok (rs,E2)):dA fs (.cons a as) E=.ok (r::rs,E2):=by simp only[dA,wk,h1,h2]
theorem o_N:dO fs .oN E=.ok (none,E):=by simp only[dO,oNone]
theorem o_S{a:_}{i:Int}(h:dE fs a E=.ok (.val (.int i),E1)):dO fs (.oS a) E=.ok (some i,E1):=by simp only[dO,zD1,h]
theorem t_E{a:_}{b:Bool}(h:dE fs a E=.ok (.val (.bl b),E1)):dT fs (.tE a) E=.ok (b,E1):=by simp only[dT,tT,h]
theorem zDT{a b:_}{c:Bool}(h1:dT fs a E=.ok (false,E1))(h2:dT fs b E1=.ok (c,E2)):dT fs (.tOr a b) E=.ok (c,E2):=by simp only[dT,va,h1,h2]
theorem t_orT{a b:_}(h1:dT fs a E=.ok (true,E1)):dT fs (.tOr a b) E=.ok (true,E1):=by simp only[dT,va,h1]
theorem Wr{a:_}{b c:Bool}(h1:dT fs a E=.ok (b,E1))(h2:(!b)=c):dT fs (.tNot a) E=.ok (c,E1):=by subst h2;simp only[dT,wj,h1]
theorem jN{i:Nat}{a:_}{r:R}(h1:dE fs a E=.ok (r,E1))(h2:Yj i r E1=.ok E2):dS fs (.sSet i a) E=.ok (.nx,E2):=by simp only[dS,sSet,h1,h2]
theorem jO{t a b:_}{o:Out (Fl×zP)}(h1:dT fs t E=.ok (false,E1))(h2:dB fs b E1=o):dS fs (.sIf t a b) E=o:=by subst h2;simp only[dS,sIf,h1]
theorem YJ{t a b:_}{o:Out (Fl×zP)}(h1:dT fs t E=.ok (true,E1))(h2:dB fs a E1=o):dS fs (.sIf t a b) E=o:=by subst h2;simp only[dS,sIf,h1]
theorem yI{a:_}{r:R}(h1:dE fs a E=.ok (r,E1)):dS fs (.sRet a) E=.ok (.ret r,E1):=by simp only[dS,sRet,h1]
theorem yT{a:_}{r:R}(h1:dE fs a E=.ok (r,E1)):dS fs (.sDrop a) E=.ok (.nx,E1):=by simp only[dS,sDrop,h1]
theorem zEe{is:List Nat}{a:_}{r:R}(h1:dE fs a E=.ok (r,E1))(h2:gT is r.d E1=.ok E2):dS fs (.sTup is a) E=.ok (.nx,E2):=by simp only[dS,sTup,h1,h2]
theorem s_par{i j:Nat}{as:_}{r1 r2:R}(h1:dA fs as E=.ok ([r1,r2],E1))(h2:gNs [i,j] [r1.d,r2.d] E1=.ok E2):dS fs (.sPar i j as) E=.ok (.nx,E2):=by simp only[dS,sPar,h1,h2]
theorem s_forL{a b:_}{tg:Tg}{r:R}{ds:List D}{p:Fl×zP}(h1:dE fs a E=.ok (r,E1))(h2:r.d=.lst ds)(h3:W6 tg.m (dB fs b) ds E1=.ok p):dS fs (.sForL a tg b) E=.ok p:=by simp only[dS];exact uY (by simp only[sForL,h1,h2,h3])
theorem ZH{a b:_}{tg:Tg}{r:R}{j:Int}{p:Fl×zP}(h1:dA fs a E=.ok ([r],E1))(h2:r.d=.int j)(hj:-1000000<=j/\j<=1000000)(h3:W6 tg.m (dB fs b) (zM 0 j.toNat) E1=.ok p):dS fs (.sForR1 a tg b) E=.ok p:=by
 simp only[dS];refine uY ?_;simp only[sForR1,h1,h2];rw[if_pos ⟨by omega,by omega⟩,h3]
theorem s_forR2{a b:_}{tg:Tg}{r1 r2:R}{i j:Int}{p:Fl×zP}(h1:dA fs a E=.ok ([r1,r2],E1))(h2:r1.d=.int i)(h2':r2.d=.int j)(hi:-1000000<=i/\i<=1000000)(hj:-1000000<=j/\j<=1000000)(h3:W6 tg.m (dB fs b) (zM i (j-i).toNat) E1=.ok p):dS fs (.sForR2 a tg b) E=.ok p:=by
 simp only[dS];refine uY ?_;simp only[sForR2,h1,h2,h2'];rw[if_pos ⟨by omega,by omega,by omega,by omega⟩,h3]
theorem i_L{a:_}{r:R}{ds:List D}(h1:dE fs a E=.ok (r,E1))(h2:r.d=.lst ds):dI fs (.iL a) E=.ok (ds,E1):=by simp only[dI,iL,h1,h2]
theorem i_T{a:_}{r:R}{ds:List D}(h1:dE fs a E=.ok (r,E1))(h2:r.d=.tup ds):dI fs (.iT a) E=.ok (ds,E1):=by simp only[dI,iT,h1,h2]
theorem i_R1{a:_}{r:R}{j:Int}(h1:dA fs a E=.ok ([r],E1))(h2:r.d=.int j)(hj:-1000000<=j/\j<=1000000):dI fs (.iR1 a) E=.ok (zM 0 j.toNat,E1):=by
 simp only[dI,iR1,h1,h2];rw[if_pos ⟨by omega,by omega⟩]
theorem jP:dB fs .bNil E=.ok (.nx,E):=by simp only[dB,Gg]
theorem zX{s:_}{o:Out (Fl×zP)}(h:dS fs s E=o):dB fs (.bOne s) E=o:=by simp only[dB,h]
theorem zN{s b:_}{o:Out (Fl×zP)}(h:dS fs s E=.ok (.nx,E1))(h2:dB fs b E1=o):dB fs (.bSeq s b) E=o:=by simp only[dB,W5,h,h2]
theorem ZI{s b:_}{r:R}(h:dS fs s E=.ok (.ret r,E1)):dB fs (.bSeq s b) E=.ok (.ret r,E1):=by simp only[dB,W5,h]
theorem yx{d:D}:[d].length<=cap:=by simp only[List.length_singleton,cap];omega
theorem zCj:([]:List D).length<=cap:=by simp only[length_nil,cap];omega
theorem zCk{d e:D}:[d,e].length<=cap:=by simp only[length_cons,length_nil,cap];omega
theorem vz{nl:Nat}{xs ys:List Str}{caps:List Nat}{it tt el:_}{tg:Tg}{ds rs:List D}{vs:List D}(pat:D->List DV.Slot)(f:D->Bool)(g:D->D)(hi:dI fs it E=.ok (ds,E1))(hcap:Jj E1 caps=.ok (vs.map AR.tmp))
  (h1:∀d∈ds,∀S:List DV.Slot,S.length=nl->(∀s∈S,jl s=true)->tg.m d (S++vs.map Slot.val)=.ok (pat d++vs.map Slot.val))
  (h2:∀d∈ds,(pat d).length=nl/\∀s∈pat d,jl s=true)
  (h3:∀d∈ds,dT fs tt (pat d++vs.map Slot.val)=.ok (f d,pat d++vs.map Slot.val))
  (h4:∀d∈ds,f d=true->∃r,dE fs el (pat d++vs.map Slot.val)=.ok (r,pat d++vs.map Slot.val)/\r.d=g d) (hc:ds.length<=cap) (hr:(ds.filter f).map g=rs):dE fs (.comp nl xs ys caps it tg tt el) E=.ok (.own rs,E1):=by
 subst hr;simp only[dE];exact zCZ <| ud pat f g ds h1 h2 h3 h4 hc hi hcap
theorem wV{xs ys:List Str}{caps:List Nat}{it el:_}{ds rs:List D}{vs:List D}(g:D->D)(hi:dI fs it E=.ok (ds,E1))(hcap:Jj E1 caps=.ok (vs.map AR.tmp))
  (h4:∀d∈ds,∃r,dE fs el (.val d::vs.map Slot.val)=.ok (r,.val d::vs.map Slot.val)/\r.d=g d) (hc:ds.length<=cap) (hr:ds.map g=rs):dE fs (.comp 1 xs ys caps it (.n 0) .tTr el) E=.ok (.own rs,E1):=by
 refine vz (λd=>[.val d]) (λ_=>true) g hi hcap (λd hd S hS hn=>zCh hS hn) (λd hd=>⟨rfl,λs hs=>?_⟩) (λd hd=>?_) (λd hd _=>h4 d hd) hc ?_
 ·rw[mem_singleton]at hs;subst hs;rfl
 ·simp only[dT,jf]
 ·rw[filter_eq_self.mpr (λ_ _=>rfl),hr]
end
end DV
namespace SM
open PySem L2 DV
def JF(w o k:Nat):Nat->List Nat
 |0=>1::replicate k 0
 |n+1=>(o*(JF w o k n).sum)::((JF w o k n).dropLast.map (w*·))
def U(w o k n:Nat):Nat:=(JF w o k n).sum
theorem uw(w o k:Nat):∀n,(JF w o k n).length=k+1
 |0=>by simp[JF]
 |n+1=>by simp[JF,uw w o k n]
def F(w o k m:Nat):Nat->Nat
 |0=>0
 |r+1=>F w o k m r+w^r*o*U w o k (m-1-r)
def fE(w o k n j:Nat):Nat:=if j<n then w^j*o*U w o k (n-1-j)else if j=n then w^n else 0
theorem ux(w o k:Nat):∀n,JF w o k n=(List.range (k+1)).map (fE w o k n)
 |0=>by
  rw[List.range_succ_eq_map,map_cons,map_map];simp only[JF];congr 1;refine(List.eq_replicate_iff.mpr ⟨by simp,λb hb=>?_⟩).symm;simp at hb;obtain⟨a,_,rfl⟩:=hb;simp[fE]
 |n+1=>by
  have ih:=ux w o k n;have e:(JF w o k n).dropLast=(List.range k).map (fE w o k n):=by
   rw[ih,range_succ,map_append,List.map_singleton,List.dropLast_concat]
  rw[List.range_succ_eq_map,map_cons,map_map];simp only[JF];rw[e,map_map];congr 1
  ·simp[fE,U]
  ·refine map_congr_left λj _=>?_
   simp only[Function.comp,fE];by_cases h1:j<n
   ·rw[if_pos h1,if_pos (by omega),show n+1-1-(j+1)=n-1-j by omega,pow_succ]
    rw[<- mul_assoc,<- mul_assoc,mul_comm w]
   ·by_cases h2:j=n
    ·subst h2;simp[pow_succ,mul_comm]
    ·simp[h1,h2]
theorem rsum(f:Nat->Nat)(n:Nat):((List.range (n+1)).map f).sum=((List.range n).map f).sum+f n:=by
 rw[range_succ,map_append,sum_append];simp
theorem Ws(w:Nat):∀l:List Nat,(l.map (w*·)).sum=w*l.sum
 | []=>by simp
 |a::l=>by simp[Ws w l,mul_add]
theorem zAc:∀l:List Nat,l.dropLast.sum<=l.sum
 | []=>by simp
 | [a]=>by simp
 |a::b::l=>by
  have:=zAc (b::l);simp only[List.dropLast_cons₂,sum_cons]at this ⊢;omega
theorem U_succ(w o k n:Nat):U w o k (n+1)<=(w+o)*U w o k n:=by
 unfold U;simp only[JF,sum_cons,Ws];have:=zAc (JF w o k n);have h:=Nat.mul_le_mul_left w this;rw[add_mul];omega
theorem U_le(w o k:Nat):∀n,U w o k n<=(w+o)^n
 |0=>by simp[U,JF]
 |n+1=>by
  have h1:=U_succ w o k n;have h2:=Nat.mul_le_mul_left (w+o) (U_le w o k n);rw[pow_succ,mul_comm ((w+o)^n)];omega
def dot:List Nat->(Nat->Nat)->Nat
 | [],_=>0
 |e::es,g=>e*g 0+dot es λj=>g (j+1)
theorem zCl(w:Nat):∀(l:List Nat) (g:Nat->Nat),dot (l.map (w*·)) g=w*dot l g
 | [],g=>by simp[dot]
 |a::l,g=>by simp[dot,zCl w l,mul_add,mul_assoc]
theorem zCm:∀l:List Nat,dot l (λ_=>1)=l.sum
 | []=>rfl
 |a::l=>by simp[dot,zCm l]
theorem zAd(w c:Nat)(g:Nat->Nat):∀(l:List Nat) (d k:Nat),l.length+d=k+1->dot l (λh=>c+if d+h+1<=k then w*g (h+1)else 0)=c*l.sum+w*dot l.dropLast (λj=>g (j+1))
 | [],d,k,_=>by simp[dot]
 | [a],d,k,h=>by
  have:¬d+0+1<=k:=by simp at h;omega
  simp[dot,this,mul_comm]
 |a::b::l,d,k,h=>by
  have hd:d+0+1<=k:=by simp at h;omega
  have e:(λj=>c+if d+(j+1)+1<=k then w*g (j+1+1)else 0)=(λj=>c+if d+1+j+1<=k then w*(λi=>g (i+1)) (j+1)else 0):=by
   funext j
   rw[show d+(j+1)+1=d+1+j+1 by omega]
  have ih:=zAd w c (λi=>g (i+1)) (b::l) (d+1) k (by simp at h ⊢;omega);rw[dot,e,ih,if_pos hd];have s1:(a::b::l).sum=a+(b::l).sum:=by simp
  have s2:(a::b::l).dropLast=a::(b::l).dropLast:=rfl;rw[s1,s2,dot,mul_add a,mul_add c,mul_add w,mul_comm a c,Nat.mul_left_comm a w];omega
theorem zEf(w o k n:Nat)(g:Nat->Nat):dot (JF w o k n) (λh=>o*g 0+if h+1<=k then w*g (h+1)else 0)=dot (JF w o k (n+1)) g:=by
 have h:=zAd w (o*g 0) g (JF w o k n) 0 k (by rw[uw]);simp only[zero_add]at h;rw[h];simp only[JF,dot,zCl];rw[mul_assoc,mul_assoc,mul_comm (g 0)]
def j6(m:Nat):Nat->List (List Nat)
 |0=>[[]]
 |n+1=>(j6 m n).flatMap λr=>(List.range m).map λx=>r++[x]
def wt(die:List Nat)(row:List Nat):Nat:=row.foldl (λa x=>a*die.getD x 0) 1
def stp(s:Nat)(p:Nat×Nat)(x:Nat):Nat×Nat:=(max p.1 (if x=s then p.2+1 else 0),if x=s then p.2+1 else 0)
def stt(s:Nat)(row:List Nat):Nat×Nat:=row.foldl (stp s) (0,0)
theorem uA(p:List Nat->Bool)(f:List Nat->Nat):∀l:List (List Nat),((l.filter p).map f).sum=(l.map λx=>if p x=true then f x else 0).sum
 | []=>rfl
 |a::l=>by
  rw[filter_cons];by_cases h:p a=true<;>simp[h,uA p f l]
theorem zAe(g:List Nat->Nat)(f:List Nat->List (List Nat)):∀l:List (List Nat),((l.flatMap f).map g).sum=(l.map λx=>((f x).map g).sum).sum
 | []=>rfl
 |a::l=>by simp[flatMap_cons,zAe g f l]
def Die(die:List Nat):Prop:=(die.length=2\/die.length=3)/\∀x∈die,1<=x/\x<=9
theorem inner{die:List Nat}(hd:Die die){s:Nat}(hs:s<die.length)(k:Nat)(g:Nat->Nat)(r:List Nat) :
  ((List.range die.length).map λx=>if(stt s (r++[x])).1<=k then wt die (r++[x])*g (stt s (r++[x])).2 else 0).sum=if(stt s r).1<=k then wt die r*((die.sum-die.getD s 0)*g 0+if(stt s r).2+1<=k then die.getD s 0*g ((stt s r).2+1)else 0)else 0:=by
 have e1:∀x,stt s (r++[x])=stp s (stt s r) x:=λx=>by simp[stt]
 have e2:∀x,wt die (r++[x])=wt die r*die.getD x 0:=λx=>by simp[wt]
 simp only[e1,e2];generalize stt s r=p;generalize wt die r=t;obtain⟨m,h⟩:=p;have hm:∀a:Nat,max m (a+1)<=k↔m<=k/\a+1<=k:=λa=>by omega
 match die,hd with
 | [a,b],hd =>
  simp only[length_cons,length_nil]at hs;have:s=0\/s=1:=by omega
  rcases this with rfl|rfl<;>by_cases c1:m<=k<;>by_cases c2:h+1<=k<;>simp[range_succ,stp,hm,c1,c2,mul_add,mul_assoc]<;>omega
 | [a,b,c],hd =>
  simp only[length_cons,length_nil]at hs;have:s=0\/s=1\/s=2:=by omega
  have x1:a+(b+c)-b=a+c:=by omega
  have x2:a+(b+c)-c=a+b:=by omega
  rcases this with rfl|rfl|rfl<;>by_cases c1:m<=k<;>by_cases c2:h+1<=k<;>simp[range_succ,stp,hm,c1,c2,mul_add,add_mul,mul_assoc,x1,x2]<;>omega
 | [],hd=>simp[Die]at hd
 | [_],hd=>simp[Die]at hd
 |_::_::_::_::_,hd=>simp[Die]at hd
theorem gone{die:List Nat}(hd:Die die){s:Nat}(hs:s<die.length)(k:Nat):∀(n:Nat) (g:Nat->Nat),((j6 die.length n).map λr=>if(stt s r).1<=k then wt die r*g (stt s r).2 else 0).sum=dot (JF (die.getD s 0) (die.sum-die.getD s 0) k n) g
 |0,g=>by
  have z:∀(k:Nat) (g:Nat->Nat),dot (replicate k 0) g=0:=by
   intro k
   induction k with
   |zero=>intro g;rfl
   |succ k ih=>intro g;simp[replicate_succ,dot,ih]
  simp[j6,stt,wt,JF,dot,z]
 |n+1,g=>by
  rw[<- zEf,<- gone hd hs k n];simp only[j6];rw[zAe];congr 1;refine map_congr_left λr _=>?_
  rw[map_map];exact inner hd hs k g r
theorem gone_U{die:List Nat}(hd:Die die){s:Nat}(hs:s<die.length)(k n:Nat):(((j6 die.length n).filter λr=>decide ((stt s r).1<=k)).map (wt die)).sum=U (die.getD s 0) (die.sum-die.getD s 0) k n:=by
 have h:=gone hd hs k n (λ_=>1);rw[zCm]at h;unfold U;rw[<- h,uA];congr 1;refine map_congr_left λr _=>?_
 simp
end SM
namespace SM
open PySem L2 DV
def top'(t:Int)(b:Nat):Int:=t/(t.natAbs.gcd b:Nat)
def bot'(t:Int)(b:Nat):Nat:=b/t.natAbs.gcd b
def nrm(t:Int)(b:Nat):D:=.tup [.int (top' t b),.int (bot' t b:Nat)]
theorem top_nat(n b:Nat):top' (n:Int) b=((n/n.gcd b:Nat):Int):=by
 simp[top']
theorem zAf{c:MT}{bd:MS}(mk:Nat->Nat->zP)(hc:∀a b,c (mk a b)=.ok (decide (b≠0),mk a b))(hb:∀a b,b≠0->bd (mk a b)=.ok (.nx,mk b (a%b))) :
  ∀(k n a b:Nat),b<2^k->2*k+1<=n->whN c bd n (mk a b)=.ok (.nx,mk (a.gcd b) 0)
 |0,n,a,b,h,hn=>by
  have:b=0:=by omega
  subst this;obtain⟨m,rfl⟩:∃m,n=m+1:=⟨n-1,by omega⟩;simp only[whN,hc,ne_eq,not_true_eq_false,decide_false,Nat.gcd_zero_right]
 |k+1,n,a,b,h,hn=>by
  obtain⟨m,rfl⟩:∃m,n=m+2:=⟨n-2,by omega⟩;by_cases b0:b=0
  ·subst b0
   simp only[whN,hc,ne_eq,not_true_eq_false,decide_false,Nat.gcd_zero_right]
  ·by_cases r0:a%b=0
   ·simp only[whN,hc,hb a b b0,ne_eq,b0,not_false_eq_true,decide_true,r0,not_true_eq_false,decide_false]
    rw[gcd_comm,gcd_rec,r0,Nat.gcd_zero_left]
   ·have lt:a%b<b:=Nat.mod_lt _ (by omega)
    have lt2:b%(a%b)<a%b:=Nat.mod_lt _ (by omega);have half:b%(a%b)<2^k:=by
     have:2*(b%(a%b))<b:=by
      by_cases q:2*(a%b)<=b
      ·omega
      ·have:b%(a%b)=b-a%b:=by
        rw[Nat.mod_eq_sub_mod (by omega),Nat.mod_eq_of_lt (by omega)]
       omega
     rw[pow_succ]at h;omega
    have ih:=zAf mk hc hb k m (a%b) (b%(a%b)) half (by omega);simp only[whN,hc,hb a b b0,hb b (a%b) r0,ne_eq,b0,r0,not_false_eq_true,decide_true];rw[ih];rw[gcd_comm a b,gcd_rec b a,gcd_comm (a%b) b,gcd_comm (a%b),<- gcd_rec,gcd_comm b]
end SM
namespace SM
open PySem L2 DV
theorem zAg(w o:Nat){k:Nat}:∀n,n<=k->U w o k n=(w+o)^n
 |0,_=>by simp[U,JF]
 |n+1,h=>by
  have ih:=zAg w o n (Nat.le_of_succ_le h);have e:(JF w o k n).dropLast.sum=(JF w o k n).sum:=by
   rw[ux,range_succ,map_append,List.map_singleton,List.dropLast_concat,sum_append];have:fE w o k n k=0:=by unfold fE;rw[if_neg (by omega),if_neg (by omega)]
   simp[this]
  unfold U at ih ⊢;simp only[JF,sum_cons,Ws];rw[e,ih,pow_succ,mul_comm _ (w+o),add_mul];omega
theorem zAh{f g:Nat->Nat}:∀n,(∀j,j<n->f j<=g j)->((List.range n).map f).sum<=((List.range n).map g).sum
 |0,_=>by simp
 |n+1,h=>by
  rw[rsum,rsum];have:=zAh n λj hj=>h j (by omega)
  have:=h n (by omega);omega
theorem zAi(w o k n:Nat):U w o k n<=U w o (k+1) n:=by
 induction n using Nat.strongRecOn with
 |ind n ih =>
  unfold U;rw[ux,ux,rsum _ (k+1)];refine le_trans (zAh (g:=fE w o (k+1) n) (k+1) λj hj=>?_) (Nat.le_add_right _ _);unfold fE;by_cases c:j<n
  ·rw[if_pos c,if_pos c]
   exact Nat.mul_le_mul_left _ (ih _ (by omega))
  ·rw[if_neg c,if_neg c]
   exact le_refl _
theorem uB(c w o k:Nat):∀n,JF (c*w) (c*o) k n=(JF w o k n).map (c^n*·)
 |0=>by simp[JF]
 |n+1=>by
  simp only[JF,uB c w o k n,map_cons,Ws,List.map_dropLast,map_map];congr 1
  ·rw[pow_succ];grind
  ·congr 1
   apply map_congr_left;intro x _;simp only[Function.comp];rw[pow_succ];grind
theorem zCn(c w o k n:Nat):U (c*w) (c*o) k n=c^n*U w o k n:=by
 unfold U;rw[uB,Ws]
def tot(es:List (List Nat)):Nat:=(es.map List.sum).sum
def al(ws:List Nat)(k:Nat):Nat->List (List Nat)
 |0=>ws.map λw=>w::replicate (k-1) 0
 |n+1=>zipWith (λw e=>(w*(tot (al ws k n)-e.sum))::e.dropLast.map (w*·)) ws (al ws k n)
def A(ws:List Nat)(n k:Nat):Nat:=if n=0 then 1 else if k=0 then 0 else tot (al ws k (n-1))
theorem zCo(ws:List Nat)(k:Nat):∀n,(al ws k n).length=ws.length
 |0=>by simp[al]
 |n+1=>by simp[al,zCo ws k n]
theorem uC:∀{l:List Nat} {s x:Nat},l[s]?=some x->x<=l.sum
 |a::l,0,x,h=>by simp at h;subst h;simp
 |a::l,s+1,x,h=>by
  have:=uC (l:=l) (s:=s) (by simpa using h);simp only[sum_cons];omega
 | [],s,x,h=>by simp at h
theorem cross(t:Int)(b:Nat):top' t b*b=t*(bot' t b:Nat):=by
 unfold top' bot';have h1:((t.natAbs.gcd b:Nat):Int)∣t:=by
  have:=Nat.gcd_dvd_left t.natAbs b;exact Int.ofNat_dvd_left.mpr this
 have h2:t.natAbs.gcd b∣b:=Nat.gcd_dvd_right _ _;obtain⟨x,hx⟩:=h1;obtain⟨y,hy⟩:=h2;generalize hg:t.natAbs.gcd b=g at *;by_cases c:g=0
 ·subst c
  simp at hx hy
  subst hx;subst hy;simp
 ·have e1:t/(g:Int)=x:=by rw[hx];exact Int.mul_ediv_cancel_left _ (by omega)
  have e2:b/g=y:=by rw[hy];exact Nat.mul_div_cancel_left _ (by omega)
  rw[e1,e2,hx,hy,Int.natCast_mul]
  grind
end SM
namespace RM
open PySem L2 DV
abbrev B:=Int×Nat
def jC(a:Int):List B->List B
 | []=>[(a,1)]
 | (b,n)::r=>if a=b then(b,n+1)::r else(a,1)::(b,n)::r
def rle:List Int->List B
 | []=>[]
 |a::l=>jC a (rle l)
def JG:List B->Int->List B
 | [],a=>[(a,1)]
 | [(b,n)],a=>if b=a then [(b,n+1)]else [(b,n),(a,1)]
 |x::y::r,a=>x::JG (y::r) a
theorem zCp(c a:Int):∀q:List B,q≠[]->jC c (JG q a)=JG (jC c q) a
 | [],h=>absurd rfl h
 | [(b,n)],_=>by
  by_cases h1:b=a
  ·by_cases h2:c=b
   ·simp[JG,jC,h1,h2]
   ·simp[JG,jC,h1,h2]
    split<;>simp_all [JG]
  ·by_cases h2:c=b
   ·simp[JG,jC,h1,h2]
   ·simp[JG,jC,h1,h2]
 | (b,n)::y::r,_=>by
  by_cases h2:c=b
  ·simp[JG,jC,h2]
  ·simp[JG,jC,h2]
theorem zAj(a:Int):∀l:List Int,rle (l++[a])=JG (rle l) a
 | []=>rfl
 | [c]=>by
  show jC c [(a,1)]=JG [(c,1)] a
  simp only[jC,JG];by_cases h:c=a
  ·simp[h]
  ·simp[h]
 |c::d::l=>by
  have ih:=zAj a (d::l);show jC c (rle ((d::l)++[a]))=JG (jC c (rle (d::l))) a;rw[ih];refine zCp c a _ ?_;show jC d (rle l)≠[];cases rle l with
  |nil=>simp[jC]
  |cons x r=>obtain⟨b,n⟩:=x;simp only[jC];split<;>simp
def Y1:List B->List Int
 | []=>[]
 | (a,n)::r=>replicate n a++Y1 r
theorem QE(a:Int)(q:List B):Y1 (jC a q)=a::Y1 q:=by
 cases q with
 |nil=>rfl
 |cons x r =>
  obtain⟨b,n⟩:=x;simp only[jC];split
  ·rename_i h;subst h;simp[Y1,replicate_succ]
  ·simp[Y1,replicate_succ]
theorem ZJ:∀l:List Int,Y1 (rle l)=l
 | []=>rfl
 |a::l=>by show Y1 (jC a (rle l))=_;rw[QE,ZJ l]
theorem Wt(a:Int)(k:Nat):∀p:List Int,(∀z,p.getLast?=some z->z≠a)->rle (p++replicate (k+1) a)=rle p++[(a,k+1)]
 | [],_=>by
  show rle (replicate (k+1) a)=[(a,k+1)]
  induction k with
  |zero=>rfl
  |succ k ih =>
   rw[replicate_succ];show jC a (rle (replicate (k+1) a))=_;rw[ih];simp[jC]
 | [c],h=>by
  have hc:c≠a:=h c rfl;show jC c (rle (replicate (k+1) a))=jC c []++[(a,k+1)];have:=Wt a k [] (λz hz=>by cases hz);simp only[nil_append]at this;rw[this];simp[jC,hc,rle]
 |c::d::p,h=>by
  have ih:=Wt a k (d::p) (λz hz=>h z (by simpa using hz));show jC c (rle ((d::p)++replicate (k+1) a))=jC c (rle (d::p))++[(a,k+1)];rw[ih];cases hq:rle (d::p)with
  |nil =>
   have:=ZJ (d::p);rw[hq]at this;cases this
  |cons x r =>
   obtain⟨b,n⟩:=x;simp only[cons_append,jC];split<;>rfl
theorem zEg(m:List B)(z:B)(a:Int):JG (m++[z]) a=if z.1=a then m++[(z.1,z.2+1)]else m++[z,(a,1)]:=by
 induction m with
 |nil =>
  obtain⟨b,n⟩:=z;simp only[nil_append,JG]
 |cons x m ih =>
  cases h:m++[z]with
  |nil=>simp at h
  |cons y r =>
   rw[cons_append,h];simp only[JG];rw[<- h,ih];split<;>simp
def tot(q:List B):Nat:=(q.map (·.2)).sum
theorem uD:∀q:List B,tot q=(Y1 q).length
 | []=>rfl
 | (a,n)::r=>by
  have:=uD r;simp only[tot,map_cons,sum_cons,Y1,length_append,length_replicate]at this ⊢;omega
theorem Zk(v:Nat->Int):∀k,argBest (λi j=>decide (v i > v j)) k<=k/\∀i,i<=k->v i<=v (argBest (λi j=>decide (v i > v j)) k)
 |0=>⟨le_refl _,λi h=>by have:i=0:=(by omega);subst this;exact Int.le_refl _⟩
 |k+1=>by
  obtain⟨h1,h2⟩:=Zk v k;simp only[argBest];by_cases hc:v (k+1) > v (argBest (λi j=>decide (v i > v j)) k)
  ·rw[if_pos (by simpa using hc)]
   refine⟨le_refl _,λi hi=>?_⟩;by_cases e:i=k+1
   ·subst e;exact Int.le_refl _
   ·have:=h2 i (by omega);omega
  ·rw[if_neg (by simpa using hc)]
   refine⟨by omega,λi hi=>?_⟩;by_cases e:i=k+1
   ·subst e;omega
   ·exact h2 i (by omega)
theorem zBG{ns:List Int}(h:0<ns.length):W7 ns∈ns/\∀a∈ns,a<=W7 ns:=by
 obtain⟨h1,h2⟩:=Zk (λi=>ns.getD i 0) (ns.length-1);unfold W7;refine⟨?_,λa ha=>?_⟩
 ·generalize argBest (λi j=>decide (ns.getD i 0 > ns.getD j 0)) (ns.length-1)=m at h1
  have hm:m<ns.length:=by omega
  rw[getD_eq_getElem?_getD,getElem?_eq_getElem hm];exact getElem_mem hm
 ·obtain⟨i,hi,rfl⟩:=List.getElem_of_mem ha
  have:=h2 i (by omega);simp only[getD_eq_getElem?_getD,getElem?_eq_getElem hi,Option.getD_some]at this;simpa[getD_eq_getElem?_getD]using this
def top(ns:List Nat):Nat:=ns.foldr max 0
theorem top_le{ns:List Nat}:∀a∈ns,a<=top ns:=by
 induction ns with
 |nil=>intro a h;cases h
 |cons b r ih =>
  intro a h;simp only[top,foldr_cons];rcases mem_cons.mp h with h|h
  ·subst h;exact Nat.le_max_left _ _
  ·exact le_trans (ih a h) (Nat.le_max_right _ _)
theorem top_mem{ns:List Nat}(h:ns≠[]):top ns∈ns:=by
 induction ns with
 |nil=>exact absurd rfl h
 |cons b r ih =>
  simp only[top,foldr_cons];by_cases e:r=[]
  ·subst e;simp
  ·have:=ih e
   unfold top at this;by_cases hb:b<=List.foldr max 0 r
   ·rw[Nat.max_eq_right hb];exact mem_cons_of_mem _ this
   ·rw[Nat.max_eq_left (by omega)];exact mem_cons_self
theorem zCq(ns:List Nat):Wb (ns.map λ(n:Nat)=>(n:Int)) 0=(top ns:Int):=by
 unfold Wb;cases ns with
 |nil=>rfl
 |cons b r =>
  rw[if_neg (by simp)];obtain⟨h1,h2⟩:=zBG (ns:=(b::r).map λ(n:Nat)=>(n:Int)) (by simp);obtain⟨m,hm,e⟩:=mem_map.mp h1;have t1:=top_le m hm;have t2:=h2 _ (mem_map.mpr ⟨_,top_mem (ns:=b::r) (by simp),rfl⟩);rw[<- e]at t2 ⊢;have:top (b::r)<=m:=by exact_mod_cast t2
  have:m=top (b::r):=by omega
  rw[this]
theorem zBH(a b:List Nat):top (a++b)=max (top a) (top b):=by
 induction a with
 |nil=>simp[top]
 |cons x r ih =>
  simp only[cons_append,top,foldr_cons]at ih ⊢;rw[ih];omega
def zCr(s:Int)(q:List B):List Nat:=(q.filter λx=>x.1==s).map (·.2)
def best(s:Int)(q:List B):Nat:=top (zCr s q)
theorem Q1(s:Int)(a b:List B):zCr s (a++b)=zCr s a++zCr s b:=by simp[zCr]
end RM
namespace DV
open PySem L2
section
variable{fs:List FI}{E E1 E2 E3 E4 E5:zP}
theorem jW{k:Nat}{a b c d:_}{F:MF}{r r2 r3 r4 r':R}{o o2 o3 o4:DV.Slot}(h0:fiF fs k=F)(h1:dE fs a E=.ok (r,E1))(h1':dE fs b E1=.ok (r2,E2))(h1'':dE fs c E2=.ok (r3,E3))(h4:dE fs d E3=.ok (r4,E4))(h2:F [.val r.d,.val r2.d,.val r3.d,.val r4.d]=.ok (r',[o,o2,o3,o4])):dE fs (.call k (.ev a (.ev b (.ev c (.ev d .nil))))) E=.ok (r',E4):=by
 subst h0;simp only[dE,dG,jh,zm,h1,h1',h1'',h4,zJ,h2,zG]
theorem x_neg{a:_}{i:Int}(h:dE fs a E=.ok (.val (.int i),E1)):dE fs (.neg a) E=.ok (.val (.int (-i)),E1):=by simp only[dE,eNeg,h]
theorem x_ifx1{t a b:_}{o:Out (R×zP)}(h:dT fs t E=.ok (true,E1))(h1:dE fs a E1=o):dE fs (.ifx t a b) E=o:=by subst h1;simp only[dE,eIf,h]
theorem x_ifx0{t a b:_}{o:Out (R×zP)}(h:dT fs t E=.ok (false,E1))(h1:dE fs b E1=o):dE fs (.ifx t a b) E=o:=by subst h1;simp only[dE,eIf,h]
theorem uE{a b:_}{o:Out (Bool×zP)}(h1:dT fs a E=.ok (true,E1))(h2:dT fs b E1=o):dT fs (.tAnd a b) E=o:=by subst h2;simp only[dT,wZ,h1]
theorem zCs{a b:_}(h1:dT fs a E=.ok (false,E1)):dT fs (.tAnd a b) E=.ok (false,E1):=by simp only[dT,wZ,h1]
theorem i_Z{t1 t2:Bool}{as:_}{r1 r2:R}{ds es:List D}(h1:dA fs as E=.ok ([r1,r2],E1))(h2:zCT t1 r1.d=some ds)(h3:zCT t2 r2.d=some es):dI fs (.iZ t1 t2 as) E=.ok (zipWith Zu ds es,E1):=by
 simp only[dI,iZ,h1,h2,h3]
theorem s_app{i:Nat}{a:_}{r:R}{ds ds0:List D}(h0:E[i]?=some (.own ds0))(h1:dE fs a E=.ok (r,E1))(h2:E1[i]?=some (.own ds))(hl:ds.length<cap)(h3:E1.set i (.own (ds++[r.d]))=E2):dS fs (.sApp i a) E=.ok (.nx,E2):=by
 subst h3;simp only[dS,sApp,h0,Slot.list?,h1,h2,Slot.put];rw[if_pos hl]
end
theorem put_ok{i:Nat}{E:zP}{s:DV.Slot}(r:R)(h:E[i]?=some s)(hs:jl s=true):Yj i r E=.ok (E.set i r.slot):=by
 simp only[Yj,h];cases s<;>first|rfl|(cases hs)
theorem JV{i:Nat}{E E1:zP}{s:DV.Slot}{r:R}(h:E[i]?=some s)(hs:jl s=true)(e:E.set i r.slot=E1):Yj i r E=.ok E1:=by
 rw[put_ok r h hs,e]
theorem ne_int(x y:Int):neG (.int x) (.int y)=some (.val (.bl (!decide (x=y)))):=by simp[neG,neF]
theorem eq_int(x y:Int):eqG (.int x) (.int y)=some (.val (.bl (decide (x=y)))):=by simp[eqG,eqF]
theorem eq_str(t:Str):eqG (.str t) (.str t)=some (.val (.bl true)):=by simp[eqG,eqF]
theorem ne_str(t:Str):neG (.str t) (.str t)=some (.val (.bl false)):=by simp[neG,neF]
theorem YK(a b:List D)(h:a.length+b.length<=100000):zA5 (.lst a) (.lst b)=some (.own (a++b)):=by
 simp only[zA5];rw[if_pos (by simp only[cap];omega)]
theorem add_tup(a b:List D)(h:a.length+b.length<=100000):zA5 (.tup a) (.tup b)=some (.val (.tup (a++b))):=by
 simp only[zA5];rw[if_pos (by simp only[cap];omega)]
theorem zCt(x:D)(k:Nat):(replicate k [x]).flatten=replicate k x:=by
 induction k with
 |zero=>rfl
 |succ k ih=>rw[replicate_succ,flatten_cons,ih,replicate_succ];rfl
theorem Z6(d:D)(n:Nat)(h:n<=1000):ZA (.lst [d]) (.int n)=some (.own (replicate n d)):=by
 simp only[ZA,YR];rw[if_pos ⟨by omega,by omega,by simp only[List.length_singleton,Int.toNat_natCast,cap];omega⟩,Int.toNat_natCast,zCt]
theorem zEh(d:D)(n:Nat)(h:n<=1000):YR (.tup [d]) (.int n)=some (.val (.tup (replicate n d))):=by
 simp only[YR];rw[if_pos ⟨by omega,by omega,by simp only[List.length_singleton,Int.toNat_natCast,cap];omega⟩,Int.toNat_natCast,zCt]
theorem Q2{x y:D}{r:R}(e:YR x y=some r):ZA x y=some r:=by simp only[ZA,e]
theorem zEi(d:D)(n:Nat)(h:n<=1000):ZA (.tup [d]) (.int n)=some (.val (.tup (replicate n d))):=by
 exact Q2 (zEh d n h)
theorem at_nat{ds:List D}{k:Nat}{d:D}(h:ds[k]?=some d):atI ds (k:Int)=some d:=by
 obtain⟨hk,e⟩:=List.getElem?_eq_some_iff.mp h;have:(k:Int)<ds.length:=by omega
 simp[atI,ixN,this,h]
theorem zCu(ds:List D)(i:Int):ixD (.tup ds) (.int i)=(atI ds i).map .val:=rfl
theorem JW(f:D->Bool):∀ds:List D,wO (ds.map λd=>D.bl (f d))=some (ds.map f)
 | []=>rfl
 |d::ds=>by simp only[map_cons,wO,JW f ds];rfl
theorem all_map(f:D->Bool)(ds:List D):(ds.map f).all id=ds.all f:=by simp[List.all_map]
theorem zAk{f:D->Bool}{ds:List D}{b:Bool}(h:ds.all f=b):allD [.lst (ds.map λd=>D.bl (f d))]=some (.val (.bl b)):=by
 subst h;simp[allD,JW,all_map]
mutual
theorem zAl:∀(n:Nat) (d:D),eqb n d=true->deq d d=true
 |n,.non,_=>by simp[deq,eqV,flV]
 |n,.bl b,_=>by simp[deq,eqV,flV]
 |n,.int i,_=>by simp[deq,eqV,flV]
 |n,.str x,_=>by simp[deq,eqV,flV]
 |n+1,.tup ds,h=>by simp only[deq];exact deqs_refl n ds (by simpa[eqb]using h)
 |n+1,.lst ds,h=>by simp only[deq];exact deqs_refl n ds (by simpa[eqb]using h)
 |0,.tup ds,h=>by simp[eqb]at h
 |0,.lst ds,h=>by simp[eqb]at h
 |0,.fn _,h=>by simp[eqb]at h
 |0,.dic,h=>by simp[eqb]at h
 |0,.exn _,h=>by simp[eqb]at h
 |n+1,.fn _,h=>by simp[eqb]at h
 |n+1,.dic,h=>by simp[eqb]at h
 |n+1,.exn _,h=>by simp[eqb]at h
theorem deqs_refl:∀(n:Nat) (ds:List D),(∀d∈ds,eqb n d=true)->deqs ds ds=true
 |n,[],_=>by simp[deqs]
 |n,d::ds,h=>by
  simp only[deqs,Bool.and_eq_true];exact⟨zAl n d (h d mem_cons_self),deqs_refl n ds λe he=>h e (mem_cons_of_mem _ he)⟩
end
def N(l:List Nat):List D:=l.map λn:Nat=>D.int (n:Int)
theorem YL(l:List Nat):(N l).length=l.length:=by simp[N]
theorem zCv{l:List Nat}{d:D}(h:d∈N l):∃n∈l,d=.int (n:Nat):=by
 obtain⟨n,hn,rfl⟩:=mem_map.mp h;exact⟨n,hn,rfl⟩
theorem N_app(a b:List Nat):N (a++b)=N a++N b:=by simp[N]
theorem N_rep(k n:Nat):N (replicate k n)=replicate k (.int (n:Nat)):=by simp[N]
theorem zAm(n:Nat):zM 0 n=N (List.range n):=by
 have key:∀n k:Nat,zM (k:Int) n=N (range' k n):=by
  intro n
  induction n with
  |zero=>intro k;rfl
  |succ n ih =>
   intro k;have:=ih (k+1);rw[List.range'_succ];show D.int (k:Int)::zM ((k:Int)+1) n=D.int (k:Int)::N (range' (k+1) n);rw[<- this];simp
 rw[List.range_eq_range'];exact key n 0
end DV
namespace DV
open PySem L2
section
variable{fs:List FI}{E E1 E2 E3:zP}
theorem zEj{i:Nat}{s:DV.Slot}{ds:List D}(hs:s=.own ds\/s=.val (.lst ds))(h:E[i]?=some s)(h':E.set i (.val (.lst ds))=E1):dE fs (.var i) E=.ok (.val (.lst ds),E1):=by
 rcases hs with rfl|rfl
 ·exact zAa h h'
 ·rw[zA h]
  have:E.set i (.val (.lst ds))=E:=by
   obtain⟨hi,e⟩:=List.getElem?_eq_some_iff.mp h;rw[<- e,List.set_getElem_self]
  rw[<- h',this]
theorem s_forI{it b:_}{tg:Tg}{ds:List D}{p:Fl×zP}(h1:dI fs it E=.ok (ds,E1))(h3:W6 tg.m (dB fs b) ds E1=.ok p):dS fs (.sForI it tg b) E=.ok p:=by
 simp only[dS,zEV,h1,sForI,h3]
theorem i_E{t:Bool}{as:_}{r:R}{ds:List D}(h1:dA fs as E=.ok ([r],E1))(h2:zCT t r.d=some ds):dI fs (.iE t as) E=.ok (GH 0 ds,E1):=by
 simp only[dI,iE,h1,h2]
end
theorem ne_lst(ds:List D)(h:eqb 20 (.lst ds)=true):neG (.lst ds) (.lst ds)=some (.val (.bl false)):=by
 have e:neF (.lst ds) (.lst ds)=none:=rfl;simp only[neG,e,eqDD];rw[if_pos ⟨h,h⟩,zAl 20 _ h];rfl
end DV
namespace DV
open PySem L2
section
variable{fs:List FI}{E E1 E2 E3 E4 E5 E6:zP}
theorem s_par3{i j l:Nat}{as:_}{r1 r2 r3:R}(h1:dA fs as E=.ok ([r1,r2,r3],E1))(h2:gNs [i,j,l] [r1.d,r2.d,r3.d] E1=.ok E2):dS fs (.sPar3 i j l as) E=.ok (.nx,E2):=by simp only[dS,sPar3,h1,h2]
end
end DV
namespace DV
open PySem L2
section
variable{fs:List FI}{E E1 E2 E3 E4 E5 E6:zP}
end
end DV
namespace DV
open PySem L2
section
variable{fs:List FI}{E E1:zP}
theorem zFg{el:_}{d:D}{V:List DV.Slot}(g:D->D):∀(es:List D) (s1:DV.Slot) (acc:List D),jl s1=true->acc.length+es.length<=cap->(∀e∈es,∃r,dE fs el (.val d::.val e::V)=.ok (r,.val d::.val e::V)/\r.d=g e) ->
  ∃t1,jl t1=true/\JL (gN 1) jf (ma1 (dE fs el)) es (.val d::s1::V) acc=.ok (acc++es.map g,.val d::t1::V)
 | [],s1,acc,hs,hc,h=>⟨s1,hs,by simp[JL]⟩
 |e::es,s1,acc,hs,hc,h=>by
  obtain⟨r,h1,h2⟩:=h e mem_cons_self;have g1:gN 1 e (.val d::s1::V)=.ok (.val d::.val e::V):=by cases s1<;>first|rfl|(cases hs)
  obtain⟨t1,ht,f⟩:=zFg g es (.val e) (acc++[r.d]) rfl (by simp at hc ⊢;omega) λx hx=>h x (mem_cons_of_mem _ hx)
  refine⟨t1,ht,?_⟩;have hl:acc.length<cap:=by simp at hc;omega
  simp only[JL,g1,jf,ma1,h1];rw[if_pos hl];dsimp only;rw[f,h2];simp
theorem zFh{el jt:_}{V:List DV.Slot}{es:List D}(g:D->D->D):∀(ds:List D) (s0 s1:DV.Slot) (acc:List D),jl s0=true->jl s1=true->acc.length+ds.length*es.length<=cap ->
  (∀d∈ds,∀s1,dI fs jt (.val d::s1::V)=.ok (es,.val d::s1::V))->(∀d∈ds,∀e∈es,∃r,dE fs el (.val d::.val e::V)=.ok (r,.val d::.val e::V)/\r.d=g d e) ->
  ∃t0 t1,jl t0=true/\jl t1=true/\JL (gN 0) jf (maL (dI fs jt) (gN 1) jf (ma1 (dE fs el))) ds (s0::s1::V) acc=.ok (acc++ds.flatMap (λd=>es.map (g d)),t0::t1::V)
 | [],s0,s1,acc,h0,h1,hc,hj,h=>⟨s0,s1,h0,h1,by simp[JL]⟩
 |d::ds,s0,s1,acc,h0,h1,hc,hj,h=>by
  have g1:gN 0 d (s0::s1::V)=.ok (.val d::s1::V):=by cases s0<;>first|rfl|(cases h0)
  have hm:(ds.length+1)*es.length=ds.length*es.length+es.length:=Nat.succ_mul _ _;obtain⟨t1,ht,f⟩:=zFg (d:=d) (V:=V) (el:=el) (fs:=fs) (g d) es s1 acc h1 (by simp only[length_cons]at hc;omega) (h d mem_cons_self);obtain⟨u0,u1,q0,q1,f2⟩:=zFh g ds (.val d) t1 (acc++es.map (g d)) rfl ht (by simp only[length_cons,length_append,length_map]at hc ⊢;omega) (λx hx=>hj x (mem_cons_of_mem _ hx)) λx hx=>h x (mem_cons_of_mem _ hx)
  refine⟨u0,u1,q0,q1,?_⟩;simp only[JL,g1,jf,maL,hj d mem_cons_self s1,f,f2];simp
theorem x_comp2{xs ys:List Str}{caps:List Nat}{it jt el:_}{ds es vs:List D}(g:D->D->D)(hi:dI fs it E=.ok (ds,E1))(hcap:Jj E1 caps=.ok (vs.map AR.tmp))
  (hj:∀d∈ds,∀s1,dI fs jt (.val d::s1::vs.map Slot.val)=.ok (es,.val d::s1::vs.map Slot.val)) (h:∀d∈ds,∀e∈es,∃r,dE fs el (.val d::.val e::vs.map Slot.val)=.ok (r,.val d::.val e::vs.map Slot.val)/\r.d=g d e) (hc:ds.length*es.length<=cap) :
  dE fs (.comp2 2 xs ys caps it (.n 0) jt (.n 1) el) E=.ok (.own (ds.flatMap λd=>es.map (g d)),E1):=by
 obtain⟨t0,t1,q0,q1,f⟩:=zFh (el:=el) (jt:=jt) (V:=vs.map Slot.val) g ds .emp .emp [] rfl rfl (by simpa using hc) hj h;simp only[dE];refine zCZ ?_;have f':JL (gN 0) jf (maL (dI fs jt) (gN 1) jf (ma1 (dE fs el))) ds (replicate 2 .emp++vs.map Slot.val) []=.ok (ds.flatMap (λd=>es.map (g d)),t0::t1::vs.map Slot.val):=by simpa using f
 simp only[vi,hi,hcap,ub,Tg.m,f'];rw[uc vs _ _ _ (by rw[length_drop,zn];simp)]
theorem i_Rv{a:_}{r:R}{j:Int}(h1:dA fs a E=.ok ([r],E1))(h2:r.d=.int j)(hj:-1000000<=j/\j<=1000000):dI fs (.iRv a) E=.ok (yo j.toNat,E1):=by
 simp only[dI,DV.iRv,h1,h2];rw[if_pos ⟨by omega,by omega⟩]
end
end DV
namespace My
open PySem L2 DV
def isFn:D->Bool
 | .fn _=>true
 | .exn _=>true
 |_=>false
def isW:D->Bool
 | .int _=>true
 |_=>false
def Z7(lo hi:Int):D->Bool
 | .int i=>decide (lo<=i)&&decide (i<=hi)
 |_=>false
theorem zBI(d:D)(h:isFn d=false):ZE [.val d]=.ok (.val (.bl (isW d)),[.emp]):=by
 cases d<;>first|rfl|(cases h)
theorem jX(d:D)(lo hi:Int)(h:isFn d=false):zh [.val d,.val (.int lo),.val (.int hi)]=.ok (.val (.bl (Z7 lo hi d)),[.emp,.emp,.emp]):=by
 have e:=zBI d h;cases d with
 |int i =>
  simp[zh,yh,jI,fnM,dB,dS,dE,dG,dT,dA,dI,dO,sRet,sIf,W5,Gg,sSet,Yj,R.slot,GG,eOr,GF,jh,zm,Zr,eC,zJ,fiF,fiX,R.d,zG,yl,Cp.b,Cp.f,Op2.f,Bi.f,Ty.s,yr,yq,jF,jG,jH,va,wZ,wj,tT,Ji,eCB,wk,Gc,Gd,Ge,Zv,W1,Tg.m,eqG,eqF,neG,neF,W8,uN,ZA,YR,e,isW,Z7];by_cases h1:lo<=i<;>simp[h1,yr,yq]
 |_=>first|(cases h;done)|simp[zh,yh,jI,fnM,dB,dS,dE,dG,dT,dA,dI,dO,sRet,sIf,W5,Gg,sSet,Yj,R.slot,GG,eOr,GF,jh,zm,Zr,eC,zJ,fiF,fiX,R.d,zG,yl,Cp.b,Cp.f,Op2.f,Bi.f,Ty.s,yr,yq,jF,jG,jH,va,wZ,wj,tT,Ji,eCB,wk,Gc,Gd,Ge,Zv,W1,Tg.m,eqG,eqF,neG,neF,W8,uN,ZA,YR,e,isW,Z7]
def nxt(s:Int):Int:=((s+7919)%2147483647*((s+7919)%2147483647)+48271*((s+7919)%2147483647)+12345)%2147483629
theorem Q3(s:Int):wx [.val (.int s)]=.ok (.val (.int (nxt s)),[.emp]):=by
 have h1:0<=(s+7919)%2147483647:=Int.emod_nonneg _ (by decide);have h2:(s+7919)%2147483647<2147483647:=Int.emod_lt_of_pos _ (by decide);have h3:-18446744073709551616<(s+7919)%2147483647/\(s+7919)%2147483647<18446744073709551616:=by omega
 simp[wx,YG,Zi,fnM,dB,dS,dE,dG,dT,dA,dI,dO,sRet,sIf,W5,Gg,sSet,Yj,R.slot,GG,eOr,GF,jh,zm,Zr,eC,zJ,fiF,fiX,R.d,zG,yl,Cp.b,Cp.f,Op2.f,Bi.f,Ty.s,yr,yq,jF,jG,jH,va,wZ,wj,tT,Ji,eCB,wk,Gc,Gd,Ge,Zv,W1,Tg.m,eqG,eqF,neG,neF,W8,uN,ZA,YR,zA5,YR,zFL,zBy,nxt,h3]
def Pen(p:List D):Prop:=∃l f s:Int,p=[.int l,.int f,.int s]
theorem Q4(p:List D)(hp:Pen p)(m:Int)(h0:0<m)(h1:m<1073741824):∃r p',zq [.par p,.val (.int m)]=.ok (.val (.int r),[.par p',.emp])/\0<=r/\r<m/\Pen p':=by
 obtain⟨l,f,s,rfl⟩:=hp;by_cases hf:f=1
 ·refine⟨l%m,[.int (l/m),.int f,.int s],?_,Int.emod_nonneg _ (by omega),Int.emod_lt_of_pos _ h0,_,_,_,rfl⟩
  simp[zq,wz,JR,fnM,dB,dS,dE,dG,dT,dA,dI,dO,sRet,sIf,W5,Gg,sSet,Yj,R.slot,GG,eOr,GF,jh,zm,Zr,eC,zJ,fiF,fiX,R.d,zG,yl,Cp.b,Cp.f,Op2.f,Bi.f,Ty.s,yr,yq,jF,jG,jH,va,wZ,wj,tT,Ji,eCB,wk,Gc,Gd,Ge,Zv,W1,Tg.m,eqG,eqF,neG,neF,W8,uN,ZA,YR,eIxO,WT,ixS,atI,ixN,eqF,hf,zFL,zA7,zBy,h0,h1,vd,Slot.list?,Slot.put]
 ·refine⟨nxt (nxt s+7)/64%m,[.int l,.int f,.int (nxt (nxt s+7))],?_,Int.emod_nonneg _ (by omega),Int.emod_lt_of_pos _ h0,_,_,_,rfl⟩
  simp[zq,wz,JR,fnM,dB,dS,dE,dG,dT,dA,dI,dO,sRet,sIf,W5,Gg,sSet,Yj,R.slot,GG,eOr,GF,jh,zm,Zr,eC,zJ,fiF,fiX,R.d,zG,yl,Cp.b,Cp.f,Op2.f,Bi.f,Ty.s,yr,yq,jF,jG,jH,va,wZ,wj,tT,Ji,eCB,wk,Gc,Gd,Ge,Zv,W1,Tg.m,eqG,eqF,neG,neF,W8,uN,ZA,YR,eIxO,WT,ixS,atI,ixN,eqF,hf,zFL,zA7,zA5,zBy,h0,h1,vd,Slot.list?,Slot.put,Q3]
theorem uy(c:Int):∃p,jL [.val (.int c)]=.ok (.own p,[.emp])/\Pen p:=by
 refine⟨[.int (if 0-c > c then 0-c else c),.int (if decide (10^18<=(if 0-c > c then 0-c else c))=true then 1 else 0),.int ((if 0-c > c then 0-c else c)%1000003)],?_,_,_,_,rfl⟩;simp[jL,wy,J2,fnM,dB,dS,dE,dG,dT,dA,dI,dO,sRet,sIf,W5,Gg,sSet,Yj,R.slot,GG,eOr,GF,jh,zm,Zr,eC,zJ,fiF,fiX,R.d,zG,yl,Cp.b,Cp.f,Op2.f,Bi.f,Ty.s,yr,yq,jF,jG,jH,va,wZ,wj,tT,Ji,eCB,wk,Gc,Gd,Ge,Zv,W1,Tg.m,eqG,eqF,neG,neF,W8,uN,ZA,YR,uN,W0,zA6,intF,geD,powD,zFL,zBy,cap]
theorem vM(ns:List Int):∃c,ym [.val (.lst (ns.map .int)),.val (.int 0)]=.ok (.val (.int c),[.emp,.emp]):=by
 cases ns with
 |nil=>exact⟨0,rfl⟩
 |cons n ns => 
  refine⟨n,?_⟩;have:(0:Int)<ns.length+1:=by omega
  simp[ym,wT,JQ,fnM,dB,dS,dE,dG,dT,dA,dI,dO,sRet,sIf,W5,Gg,sSet,Yj,R.slot,GG,eOr,GF,jh,zm,Zr,eC,zJ,fiF,fiX,R.d,zG,yl,Cp.b,Cp.f,Op2.f,Bi.f,Ty.s,yr,yq,jF,jG,jH,va,wZ,wj,tT,Ji,eCB,wk,Gc,Gd,Ge,Zv,W1,Tg.m,eqG,eqF,neG,neF,W8,uN,ZA,YR,zDz,ltD,zA6,ixD,atI,ixN,this]
end My
namespace My
open PySem L2 DV SM
abbrev O1:List DV.Slot:=[.emp]
abbrev O2:List DV.Slot:=[.emp,.emp]
abbrev O3:List DV.Slot:=[.emp,.emp,.emp]
abbrev O4:List DV.Slot:=[.emp,.emp,.emp,.emp]
theorem JX(a b:Nat):zA5 (.int a) (.int b)=some (.val (.int ((a+b:Nat):Int))):=by simp[zA5]
theorem j5{a b:Nat}(h:b<=a):W0 (.int (a:Int)) (.int (b:Int))=some (.val (.int ((a-b:Nat):Int))):=by
 simp only[W0,zA6];rw[Int.ofNat_sub h]
theorem mul_sm0{i j:Int}(h0:0<=i)(h:i<=100000):YR (.int i) (.int j)=some (.val (.int (i*j))):=by
 simp only[YR];exact if_pos (.inl (.inl ⟨by omega,by omega⟩))
theorem mul_sm1{i j:Int}(h0:0<=j)(h:j<=100000):YR (.int i) (.int j)=some (.val (.int (i*j))):=by
 simp only[YR];exact if_pos (.inl (.inr ⟨by omega,by omega⟩))
theorem jQ(a b:Nat)(h:a<=100000):ZA (.int a) (.int b)=some (.val (.int ((a*b:Nat):Int))):=by
 have:=Q2 (mul_sm0 (i:=(a:Int)) (j:=(b:Int)) (by omega) (by omega));rw[this,Int.natCast_mul]
theorem zBJ(a b:Nat)(h:b<=100000):ZA (.int a) (.int b)=some (.val (.int ((a*b:Nat):Int))):=by
 have:=Q2 (mul_sm1 (i:=(a:Int)) (j:=(b:Int)) (by omega) (by omega));rw[this,Int.natCast_mul]
theorem zAn(a b:Nat):gtD (.int (a:Int)) (.int (b:Int))=some (.val (.bl (decide (b<a)))):=by
 show some (R.val (D.bl (decide ((b:Int)<a))))=_
 congr 3;simp
theorem QF(a b:Nat):eqG (.int (a:Int)) (.int (b:Int))=some (.val (.bl (decide (a=b)))):=by
 rw[eq_int];congr 3;simp[Int.natCast_inj]
theorem ne_nat(a b:Nat):neG (.int (a:Int)) (.int (b:Int))=some (.val (.bl (!decide (a=b)))):=by
 rw[ne_int];congr 4;simp[Int.natCast_inj]
theorem Wu(l:List Int):Jk (l.map D.int)=some l:=by
 induction l with
 |nil=>rfl
 |cons a l ih=>simp only[map_cons,Jk,ih];rfl
theorem intsD_N(l:List Nat):Jk (N l)=some (l.map λ(n:Nat)=>(n:Int)):=by
 have:N l=(l.map λ(n:Nat)=>(n:Int)).map D.int:=by simp[N]
 rw[this,Wu]
theorem uz:∀l:List Nat,(l.map λ(n:Nat)=>(n:Int)).sum=((l.sum:Nat):Int)
 | []=>rfl
 |a::l=>by simp[uz l]
theorem Y2(l:List Nat):zEJ [.lst (N l)]=some (.val (.int (l.sum:Nat))):=by
 simp only[zEJ,intsD_N,Option.map_some,uz]
theorem zEk(ds:List D)(h:0<ds.length):QU ds none (some (-1))=ds.dropLast:=by
 unfold QU;have h1:HT.sIx ds.length 0 none=0:=rfl;have h2:HT.sIx ds.length ds.length (some (-1))=ds.length-1:=by
  simp[HT.sIx];omega
 rw[h1,h2];simp[List.dropLast_eq_take]
theorem cut_N(e:List Nat)(h:0<e.length):slD (.lst (N e)) none (some (-1))=some (.own (N e.dropLast)):=by
 have:=zEk (N e) (by rw[YL];exact h);simp only[slD,this];simp[N,List.map_dropLast]
theorem zd(d:D)(lo hi:Int)(h:isFn d=false)(hb:Z7 lo hi d=true):zF [.val d,.val (.int lo),.val (.int hi)]=.ok (.val .non,O3):=by
 have e:=jX d lo hi h;rw[hb]at e;exact f_nx (zX (jO (Wr (t_E (zR rfl (zA rfl) (zA rfl) (zA rfl) e)) rfl) jP)) rfl
theorem Zl(d:D)(h:isFn d=false)(hb:Z7 2 3 d=true):y0 [.val d]=.ok (.val .non,O1) :=
 f_nx (zX (yT (zR rfl (zA rfl) Wq Wq (zd d 2 3 h hb)))) rfl
abbrev stepB:Bx:=(.bOne (.sSet 4 (.bin .add (.lst (.cons (.bin .mul (.var 1) (.cB .sum (.cons (.var 4) .nil))) .nil)) (.comp 1 ["end"] ["weight"] [0] (.iL (.sl (.var 4) .oN (.oS (.neg (.c (.int 1)))))) (.n 0) .tTr (.bin .mul (.var 1) (.var 0))))))
theorem zCw{fs:List FI}{E E1:zP}{x1 x2:List Str}{c0 ci:Nat}{w:Nat}{l:List Nat}{s:DV.Slot}(hw:w<=1000)(hl:0<l.length/\l.length<=1000)(hs:s=.own (N l)\/s=.val (.lst (N l)))(h:E[ci]?=some s)(h':E.set ci (.val (.lst (N l)))=E1)(h0:E1[c0]?=some (.val (.int (w:Nat)))) :
  dE fs (.comp 1 x1 x2 [c0] (.iL (.sl (.var ci) .oN (.oS (.neg (.c (.int 1)))))) (.n 0) .tTr (.bin .mul (.var 1) (.var 0))) E=.ok (.own (N (l.dropLast.map (w*·))),E1):=by
 refine wV (vs:=[.int (w:Nat)]) (λd=>match d with | .int e=>.int (w*e)|_=>.non) (i_L (x_sl (zEj hs h h') o_N (o_S (x_neg x_c)) (cut_N l hl.1)) rfl) (by simp[Jj,h0]) (λd hd=>?_) ?_ ?_
 ·obtain⟨x,_,rfl⟩:=zCv hd
  exact⟨_,zS (zA rfl) (zA rfl) (jQ w x (by omega)),by simp[R.d]⟩
 ·rw[YL];simp[cap];omega
 ·simp only[N,map_map]
  refine map_congr_left λx _=>?_
  simp
def InW(w o n k i:Nat)(E:zP):Prop:=∃s4 s5,E=[.val (.int w),.val (.int o),.val (.int n),.val (.int k),s4,s5]/\(s4=.own (N (JF w o k i))\/s4=.val (.lst (N (JF w o k i))))/\jl s5=true
theorem step_w{w o n k:Nat}(hw:w<=1000)(ho:o<=1000)(hk:k<=41)(i:Nat)(E:zP)(hE:InW w o n k i E):∃E1 E2,gN 5 (.int (i:Int)) E=.ok E1/\dB wv stepB E1=.ok (.nx,E2)/\InW w o n k (i+1) E2:=by
 obtain⟨s4,s5,hE,h4,h5⟩:=hE;have mo:=jQ o (JF w o k i).sum (by omega);have len:=uw w o k i;refine⟨[.val (.int w),.val (.int o),.val (.int n),.val (.int k),s4,.val (.int (i:Int))],[.val (.int w),.val (.int o),.val (.int n),.val (.int k),.own (N (JF w o k (i+1))),.val (.int (i:Int))],?_,?_,_,_,rfl,.inl rfl,rfl⟩
 ·subst hE;cases s5<;>first|rfl|(cases h5)
 ·have ad:=YK [.int ((o*(JF w o k i).sum:Nat):Int)] (N ((JF w o k i).dropLast.map (w*·))) (by simp[YL,len];omega)
  exact zX (jN (zS (Jp (zD (zS (zA rfl) (YS (zD (zEj h4 rfl rfl) zT) (Y2 _)) mo) zT) rfl yx) (zCw hw (by omega) (.inr rfl) rfl rfl rfl) ad) (JV rfl rfl rfl))
theorem jd{w o n k:Nat}(hw:w<=1000)(ho:o<=1000)(hk:k<=41)(hn:n<=41):zW [.val (.int w),.val (.int o),.val (.int n),.val (.int k)]=.ok (.val (.int (U w o k n:Nat)),O4):=by
 have z:replicate k (D.int 0)=N (replicate k 0):=by simp[N]
 have ml:=Z6 (.int 0) k (by omega);have ad:=YK [.int 1] (replicate k (.int 0)) (by simp;omega);obtain⟨E1,f1,s4,s5,hE,h4,h5⟩:=jY (tg:=gN 5) (body:=dB wv stepB) (λi E=>InW w o n k i E) (DV.zM 0 n) 0 [.val (.int w),.val (.int o),.val (.int n),.val (.int k),.own ([.int 1]++replicate k (.int 0)),.emp] ⟨_,_,rfl,.inl (by rw[z];rfl),rfl⟩ (λi d q E hI=>by
  obtain⟨hi,rfl⟩:=Jc _ _ _ _ q;rw[zero_add]at hI ⊢;rw[Int.zero_add];exact step_w hw ho hk i E hI)
 rw[jk,zero_add]at h4;subst hE;have tn:((n:Nat):Int).toNat=n:=by omega
 exact yH (zN (jN (zS (Jp (zD x_c zT) rfl yx) (zS (Jp (zD x_c zT) rfl yx) (zA rfl) ml) ad) rfl) (zN (ZH (zD (zA rfl) zT) rfl ⟨by omega,by omega⟩ (by rw[tn];exact f1)) (zX (yI (YS (zD (zEj h4 rfl rfl) zT) (Y2 _)))))) rfl
theorem U_mono'(w o:Nat){k:Nat}(n:Nat)(h:k≠0):U w o (k-1) n<=U w o k n:=by
 have:=zAi w o (k-1) n
 rwa [show k-1+1=k by omega]at this
def Jn(w o n k:Nat):Nat:=if k=0 then U w o 0 n else U w o k n-U w o (k-1) n
theorem QG{w o n k:Nat}(hw:w<=1000)(ho:o<=1000)(hk:k<=41)(hn:n<=41):yW [.val (.int w),.val (.int o),.val (.int n),.val (.int k)]=.ok (.val (.int (Jn w o n k:Nat)),O4):=by
 unfold Jn;by_cases c:k=0
 ·have q:eqG (.int (k:Int)) (.int 0)=some (.val (.bl true)):=by rw[eq_int,decide_eq_true (by omega)]
  rw[if_pos c];exact yH (ZI (YJ (t_E (zf (zA rfl) x_c q)) (zX (yI (jW (F:=zW) rfl (zA rfl) (zA rfl) (zA rfl) x_c (jd (k:=0) hw ho (by omega) hn)))))) rfl
 ·have q:eqG (.int (k:Int)) (.int 0)=some (.val (.bl false)):=by rw[eq_int,decide_eq_false (by omega)]
  have s1:W0 (.int (k:Int)) (.int 1)=some (.val (.int ((k-1:Nat):Int))):=j5 (b:=1) (by omega);rw[if_neg c];exact yH (zN (jO (t_E (zf (zA rfl) x_c q)) jP) (zX (yI (zS (jW (F:=zW) rfl (zA rfl) (zA rfl) (zA rfl) (zA rfl) (jd hw ho hk hn)) (jW (F:=zW) rfl (zA rfl) (zA rfl) (zA rfl) (zS (zA rfl) x_c s1) (jd (k:=k-1) hw ho (by omega) hn)) (j5 (U_mono' w o n c)))))) rfl
end My
namespace My
open PySem L2 DV SM
def LD(es:List (List Nat)):List D:=es.map λe=>.lst (N e)
theorem zFi(es:List (List Nat)):(LD es).length=es.length:=by simp[LD]
theorem LD_mem{es:List (List Nat)}{d:D}(h:d∈LD es):∃e∈es,d=.lst (N e):=by
 obtain⟨e,he,rfl⟩:=mem_map.mp h;exact⟨e,he,rfl⟩
theorem zFj{ws:List Nat}{k:Nat}(hk:1<=k):∀(i:Nat) (e:List Nat),e∈al ws k i->e.length=k
 |0,e,h=>by
  simp only[al,mem_map]at h;obtain⟨w,_,rfl⟩:=h;simp;omega
 |i+1,e,h=>by
  simp only[al]at h;obtain⟨j,hj⟩:=List.getElem?_of_mem h;rw[List.getElem?_zipWith]at hj;cases e1:ws[j]? with
  |none=>rw[e1]at hj;cases (al ws k i)[j]?<;>cases hj
  |some w =>
   cases e2:(al ws k i)[j]? with
   |none=>rw[e1,e2]at hj;cases hj
   |some f =>
    rw[e1,e2]at hj;simp at hj;subst hj;have:=zFj hk i f (mem_of_getElem? e2);simp;omega
def sumL:D->D
 | .lst ds=>match zEJ [.lst ds]with
  |some (.val d)=>d
  |_=>.non
 |d=>d
theorem zCx{fs:List FI}{E E1:zP}{es:List (List Nat)}{s3:DV.Slot}(hs:s3=.own (LD es)\/s3=.val (.lst (LD es)))(h3:E[3]?=some s3)(he:E.set 3 (.val (.lst (LD es)))=E1)(hl:es.length<=1000) :
  dE fs (.cB .sum (.cons (.comp 1 ["of_sign"] [] [] (.iL (.var 3)) (.n 0) .tTr (.cB .sum (.cons (.var 0) .nil))) .nil)) E=.ok (.val (.int ((tot es:Nat):Int)),E1):=by
 refine YS (zD (wV (vs:=[]) (rs:=N (es.map List.sum)) sumL (i_L (zEj hs h3 he) rfl) rfl (λd hd=>?_) (by rw[zFi];simp[cap];omega) ?_) zT) (Y2 (es.map List.sum))
 ·obtain⟨e,_,rfl⟩:=LD_mem hd
  have q:=Y2 e;refine⟨_,YS (zD (zA rfl) zT) q,?_⟩;simp[R.d,sumL,q]
 ·simp only[LD,N,map_map]
  apply map_congr_left;intro e _;have q:=Y2 e;simp only[N]at q;simp only[Function.comp,sumL,q]
def pat2:D->List DV.Slot
 | .tup [a,b]=>[.val a,.val b]
 |_=>[.emp,.emp]
def QH(l:List D):List Nat:=l.map λd=>match d with | .int i=>i.toNat|_=>0
theorem zCy(l:List Nat):QH (N l)=l:=by
 simp only[QH,N,map_map]
 conv=>rhs;rw[<- List.map_id l]
 apply map_congr_left;intro n _;simp
def zAo(T:Nat):D->D
 | .tup [.int w,.lst l]=>.lst (N ((w.toNat*(T-(QH l).sum))::(QH l).dropLast.map (w.toNat*·)))
 |d=>d
theorem Z8:∀{ws:List Nat} {es:List (List Nat)} {d:D},d∈zipWith Zu (N ws) (LD es)->∃w e,w∈ws/\e∈es/\d=.tup [.int (w:Nat),.lst (N e)]
 | [],es,d,h=>by simp[N]at h
 |w::ws,[],d,h=>by simp[N,LD]at h
 |w::ws,e::es,d,h=>by
  have q:zipWith Zu (N (w::ws)) (LD (e::es))=.tup [.int (w:Nat),.lst (N e)]::zipWith Zu (N ws) (LD es):=rfl;rw[q]at h;rcases mem_cons.mp h with h|h
  ·exact⟨w,e,mem_cons_self,mem_cons_self,h⟩
  ·obtain⟨w',e',h1,h2,h3⟩:=Z8 h
   exact⟨w',e',mem_cons_of_mem _ h1,mem_cons_of_mem _ h2,h3⟩
theorem zCz(T:Nat):∀(ws:List Nat) (es:List (List Nat)),(zipWith Zu (N ws) (LD es)).map (zAo T)=LD (zipWith (λw e=>(w*(T-List.sum e))::e.dropLast.map (w*·)) ws es)
 | [],es=>by simp[N,LD]
 |w::ws,[]=>by simp[N,LD]
 |w::ws,e::es=>by
  have q:zipWith Zu (N (w::ws)) (LD (e::es))=.tup [.int (w:Nat),.lst (N e)]::zipWith Zu (N ws) (LD es):=rfl;rw[q,map_cons,zCz T ws es];simp only[zAo,zCy,Int.toNat_natCast,List.zipWith_cons_cons,LD,map_cons]
abbrev alB:Bx:=(.bSeq (.sSet 5 (.cB .sum (.cons (.comp 1 ["of_sign"] [] [] (.iL (.var 3)) (.n 0) .tTr (.cB .sum (.cons (.var 0) .nil))) .nil)))
  (.bOne (.sSet 3 (.comp 2 ["weight","of_sign"] ["whole"] [5] (.iZ false false (.cons (.var 0) (.cons (.var 3) .nil))) (.t [0,1]) .tTr (.bin .add (.lst (.cons (.bin .mul (.var 0) (.bin .sub (.var 2) (.cB .sum (.cons (.var 1) .nil)))) .nil)) (.comp 1 ["end"] ["weight"] [0] (.iL (.sl (.var 1) .oN (.oS (.neg (.c (.int 1)))))) (.n 0) .tTr (.bin .mul (.var 1) (.var 0))))))))
def InA(ws:List Nat)(n k i:Nat)(E:zP):Prop:=∃s3 s4 s5,E=[.val (.lst (N ws)),.val (.int n),.val (.int k),s3,s4,s5]/\(s3=.own (LD (al ws k i))\/s3=.val (.lst (LD (al ws k i))))/\jl s4=true/\jl s5=true
theorem step_a{ws:List Nat}(hw:∀w∈ws,w<=9)(hl:ws.length<=3){n k:Nat}(hk:1<=k/\k<=41)(i:Nat)(E:zP)(hE:InA ws n k i E):∃E1 E2,gN 4 (.int (i:Int)) E=.ok E1/\dB zj alB E1=.ok (.nx,E2)/\InA ws n k (i+1) E2:=by
 obtain⟨s3,s4,s5,hE,h3,h4,h5⟩:=hE;have wd:=zFj (ws:=ws) hk.1 i;have ln:=zCo ws k i;have ht:∀f∈al ws k i,f.sum<=tot (al ws k i):=λf hf=>by
  obtain⟨j,hj⟩:=List.getElem?_of_mem hf;exact uC (l:=(al ws k i).map List.sum) (s:=j) (by simp[hj])
 have et:al ws k (i+1)=zipWith (λw e=>(w*(tot (al ws k i)-List.sum e))::e.dropLast.map (w*·)) ws (al ws k i):=rfl;generalize hT:tot (al ws k i)=T at ht et;refine⟨[.val (.lst (N ws)),.val (.int n),.val (.int k),s3,.val (.int (i:Int)),s5],[.val (.lst (N ws)),.val (.int n),.val (.int k),.own (LD (al ws k (i+1))),.val (.int (i:Int)),.val (.int (T:Nat))],?_,?_,_,_,_,rfl,.inl rfl,rfl,rfl⟩
 ·subst hE;cases s4<;>first|rfl|(cases h4)
 ·have e1:dE zj (.cB .sum (.cons (.comp 1 ["of_sign"] [] [] (.iL (.var 3)) (.n 0) .tTr (.cB .sum (.cons (.var 0) .nil))) .nil)) [.val (.lst (N ws)),.val (.int n),.val (.int k),s3,.val (.int (i:Int)),s5]=.ok (.val (.int (T:Nat)),[.val (.lst (N ws)),.val (.int n),.val (.int k),.val (.lst (LD (al ws k i))),.val (.int (i:Int)),s5]):=by
   rw[<- hT];exact zCx h3 rfl rfl (by omega)
  refine zN (jN e1 (JV rfl h5 rfl)) (zX (jN (vz (vs:=[.int (T:Nat)]) (rs:=LD (al ws k (i+1))) pat2 (λ_=>true) (zAo T) (i_Z (zD (zA rfl) (zD (zA rfl) zT)) rfl rfl) rfl (λd hd S hS hn=>?_) (λd hd=>?_) (λd hd=>?_) (λd hd _=>?_) ?_ ?_) (JV rfl rfl rfl)))
  ·obtain⟨w,e,_,_,rfl⟩:=Z8 hd
   exact zFf hS hn
  ·obtain⟨w,e,_,_,rfl⟩:=Z8 hd
   refine⟨rfl,λs hs=>?_⟩;simp only[pat2,mem_cons,mem_nil_iff,or_false]at hs;rcases hs with rfl|rfl<;>rfl
  ·simp only[dT,jf]
  ·obtain⟨w,e,hw',he,rfl⟩:=Z8 hd
   have hw9:=hw w hw';have el:=wd e he;have sb:W0 (.int (T:Int)) (.int ((e.sum:Nat):Int))=some (.val (.int ((T-e.sum:Nat):Int))):=j5 (ht e he);have ml:=jQ w (T-e.sum) (by omega);have ad:=YK [.int ((w*(T-e.sum):Nat):Int)] (N (e.dropLast.map (w*·))) (by simp[YL];omega);refine⟨_,zS (Jp (zD (zS (zA rfl) (zS (zA rfl) (YS (zD (zA rfl) zT) (Y2 e)) sb) ml) zT) rfl yx) (zCw (by omega) (by omega) (.inr rfl) rfl rfl rfl) ad,?_⟩;simp only[R.d,zAo,zCy,Int.toNat_natCast];rfl
  ·simp[YL,zFi,cap];omega
  ·rw[filter_eq_self.mpr (λ_ _=>rfl),zCz,et]
theorem u7{ws:List Nat}(hw:∀w∈ws,w<=9)(hl:ws.length<=3){n k:Nat}(hn:n<=41)(hk:k<=41):yc [.val (.lst (N ws)),.val (.int n),.val (.int k)]=.ok (.val (.int ((A ws n k:Nat):Int)),O3):=by
 unfold A;by_cases c:n=0
 ·have q:eqG (.int (n:Int)) (.int 0)=some (.val (.bl true)):=by rw[eq_int,decide_eq_true (by omega)]
  rw[if_pos c];exact yH (ZI (YJ (t_E (zf (zA rfl) x_c q)) (zX (yI x_c)))) rfl
 ·have q:eqG (.int (n:Int)) (.int 0)=some (.val (.bl false)):=by rw[eq_int,decide_eq_false (by omega)]
  rw[if_neg c];by_cases d:k=0
  ·have q2:eqG (.int (k:Int)) (.int 0)=some (.val (.bl true)):=by rw[eq_int,decide_eq_true (by omega)]
   rw[if_pos d];exact yH (zN (jO (t_E (zf (zA rfl) x_c q)) jP) (ZI (YJ (t_E (zf (zA rfl) x_c q2)) (zX (yI x_c))))) rfl
  ·have q2:eqG (.int (k:Int)) (.int 0)=some (.val (.bl false)):=by rw[eq_int,decide_eq_false (by omega)]
   rw[if_neg d];have s1:W0 (.int (k:Int)) (.int 1)=some (.val (.int ((k-1:Nat):Int))):=j5 (b:=1) (by omega);have s2:W0 (.int (n:Int)) (.int 1)=some (.val (.int ((n-1:Nat):Int))):=j5 (b:=1) (by omega);have ml:=Z6 (.int 0) (k-1) (by omega);have e0:dE zj (.comp 1 ["weight"] ["k"] [2] (.iL (.var 0)) (.n 0) .tTr (.bin .add (.lst (.cons (.var 0) .nil)) (.bin .mul (.lst (.cons (.c (.int 0)) .nil)) (.bin .sub (.var 1) (.c (.int 1)))))) [.val (.lst (N ws)),.val (.int n),.val (.int k),.emp,.emp,.emp]=.ok (.own (LD (al ws k 0)),[.val (.lst (N ws)),.val (.int n),.val (.int k),.emp,.emp,.emp]):=by
    refine wV (vs:=[.int k]) (λd=>.lst (d::replicate (k-1) (.int 0))) (i_L (zA rfl) rfl) rfl (λd hd=>?_) (by rw[YL];simp[cap];omega) ?_
    ·have ad:=YK [d] (replicate (k-1) (.int 0)) (by simp;omega)
     exact⟨_,zS (Jp (zD (zA rfl) zT) rfl yx) (zS (r1:=.own [.int 0]) (r2:=.val (.int ((k-1:Nat):Int))) (Jp (zD x_c zT) rfl yx) (zS (zA rfl) x_c s1) ml) ad,rfl⟩
    ·simp only[N,LD,al,map_map]
     refine map_congr_left λx _=>?_
     simp
   obtain⟨E1,f1,s3,s4,s5,hE,h3,h4,h5⟩:=jY (tg:=gN 4) (body:=dB zj alB) (λi E=>InA ws n k i E) (DV.zM 0 (n-1)) 0 [.val (.lst (N ws)),.val (.int n),.val (.int k),.own (LD (al ws k 0)),.emp,.emp] ⟨_,_,_,rfl,.inl rfl,rfl,rfl⟩ (λi d q E hI=>by
    obtain⟨hi,rfl⟩:=Jc _ _ _ _ q;rw[zero_add]at hI ⊢;rw[Int.zero_add];exact step_a hw hl ⟨by omega,hk⟩ i E hI)
   rw[jk,zero_add]at h3;subst hE;have fin:dE zj (.cB .sum (.cons (.comp 1 ["of_sign"] [] [] (.iL (.var 3)) (.n 0) .tTr (.cB .sum (.cons (.var 0) .nil))) .nil)) [.val (.lst (N ws)),.val (.int n),.val (.int k),s3,s4,s5]=.ok (.val (.int ((tot (al ws k (n-1)):Nat):Int)),[.val (.lst (N ws)),.val (.int n),.val (.int k),.val (.lst (LD (al ws k (n-1)))),s4,s5]):=zCx h3 rfl rfl (by rw[zCo];omega);exact yH (zN (jO (t_E (zf (zA rfl) x_c q)) jP) (zN (jO (t_E (zf (zA rfl) x_c q2)) jP) (zN (jN e0 rfl) (zN (ZH (j:=((n-1:Nat):Int)) (zD (zS (zA rfl) x_c s2) zT) rfl ⟨by omega,by omega⟩ (by rw[Int.toNat_natCast];exact f1)) (zX (yI fin)))))) rfl
end My
namespace SM
theorem zC0(m k:Nat)(hm:1<=m)(hk:1<=k):∀i,al (replicate m 1) k i=replicate m (JF 1 (m-1) (k-1) i)
 |0=>by
  simp only[al,JF];rw[List.map_replicate]
 |i+1=>by
  have ih:=zC0 m k hm hk i;have ht:tot (al (replicate m 1) k i)=m*(JF 1 (m-1) (k-1) i).sum:=by
   rw[ih];simp[tot]
  show zipWith (λw e=>(w*(tot (al (replicate m 1) k i)-List.sum e))::e.dropLast.map (w*·)) (replicate m 1) (al (replicate m 1) k i)=_
  rw[ht,ih,List.zipWith_replicate];congr 1
  ·simp
  ·simp only[JF,Nat.one_mul]
   congr 1
   rw[Nat.sub_mul];simp
theorem QI(m n k:Nat)(hm:1<=m):A (replicate m 1) n k=if n=0 then 1 else if k=0 then 0 else m*U 1 (m-1) (k-1) (n-1):=by
 unfold A;by_cases c:n=0
 ·rw[if_pos c,if_pos c]
 ·rw[if_neg c,if_neg c]
  by_cases d:k=0
  ·rw[if_pos d,if_pos d]
  ·rw[if_neg d,if_neg d,zC0 m k hm (by omega)]
   simp[tot,U]
theorem A_full(m n k:Nat)(hm:1<=m)(h:1<=n)(hn:n<=k):A (replicate m 1) n k=m^n:=by
 rw[QI m n k hm,if_neg (by omega),if_neg (by omega),zAg _ _ _ (by omega:n-1<=k-1),show 1+(m-1)=m by omega,mul_comm,<- pow_succ];congr 1;omega
theorem zFk(m n k:Nat)(hm:1<=m)(hk:1<=k):A (replicate m 1) n (k-1)<=A (replicate m 1) n k:=by
 rw[QI m n k hm,QI m n (k-1) hm];by_cases c:n=0
 ·simp[c]
 ·rw[if_neg c,if_neg c,if_neg (by omega:¬k=0)]
  by_cases d:k-1=0
  ·rw[if_pos d];omega
  ·rw[if_neg d]
   refine Nat.mul_le_mul_left m ?_;have:=zAi 1 (m-1) (k-1-1) (n-1)
   rwa [show k-1-1+1=k-1 by omega]at this
end SM
namespace My
open PySem L2 DV SM
structure Ok(m n k:Nat):Prop where
 hm:2<=m/\m<=3
 hn:n<=40
 hk:k<=40
theorem Zm{n lo hi:Nat}(h1:lo<=n)(h:n<=hi):Z7 (lo:Int) (hi:Int) (.int n)=true:=by
 simp[Z7];omega
theorem zy{m n:Nat}(hm:2<=m/\m<=3)(hn:n<=40):zI [.val (.int (m:Nat)),.val (.int (n:Nat))]=.ok (.val .non,O2) :=
 f_nx (zN (yT (wU (F:=y0) rfl (zA rfl) (Zl _ rfl (Zm (lo:=2) (hi:=3) hm.1 hm.2)))) (zX (yT (zR (F:=zF) rfl (zA rfl) x_c Wq (zd _ 0 40 rfl (Zm (lo:=0) (hi:=40) (by omega) hn)))))) rfl
theorem YM{m n k:Nat}(h:Ok m n k):yw [.val (.int (m:Nat)),.val (.int (n:Nat)),.val (.int (k:Nat))]=.ok (.val (.int ((U 1 (m-1) k n:Nat):Int)),O3):=by
 obtain⟨hm,hn,hk⟩:=h;have s1:W0 (.int (m:Int)) (.int 1)=some (.val (.int ((m-1:Nat):Int))):=j5 (b:=1) (by omega);exact yH (zN (yT (zg (F:=zI) rfl (zA rfl) (zA rfl) (zy hm hn))) (zN (yT (zR (F:=zF) rfl (zA rfl) x_c Wq (zd _ 0 40 rfl (Zm (lo:=0) (hi:=40) (by omega) hk)))) (zX (yI (jW (F:=zW) rfl x_c (zS (zA rfl) x_c s1) (zA rfl) (zA rfl) (jd (w:=1) (o:=m-1) (by omega) (by omega) (by omega) (by omega))))))) rfl
theorem w9{m n k:Nat}(h:Ok m n k):yQ [.val (.int (m:Nat)),.val (.int (n:Nat)),.val (.int (k:Nat))]=.ok (.val (.int ((Jn 1 (m-1) n k:Nat):Int)),O3):=by
 obtain⟨hm,hn,hk⟩:=h;have s1:W0 (.int (m:Int)) (.int 1)=some (.val (.int ((m-1:Nat):Int))):=j5 (b:=1) (by omega);exact yH (zN (yT (zg (F:=zI) rfl (zA rfl) (zA rfl) (zy hm hn))) (zN (yT (zR (F:=zF) rfl (zA rfl) x_c Wq (zd _ 0 40 rfl (Zm (lo:=0) (hi:=40) (by omega) hk)))) (zX (yI (jW (F:=yW) rfl x_c (zS (zA rfl) x_c s1) (zA rfl) (zA rfl) (QG (w:=1) (o:=m-1) (by omega) (by omega) (by omega) (by omega))))))) rfl
abbrev Ao(m n k:Nat):Nat:=A (replicate m 1) n k
theorem je{m n k:Nat}(h:Ok m n k):zx [.val (.int (m:Nat)),.val (.int (n:Nat)),.val (.int (k:Nat))]=.ok (.val (.int ((Ao m n k:Nat):Int)),O3):=by
 obtain⟨hm,hn,hk⟩:=h;have ml:=Z6 (.int 1) m (by omega);have e:=u7 (ws:=replicate m 1) (λw hw=>by have:=List.eq_of_mem_replicate hw;omega) (by simp;omega) (n:=n) (k:=k) (by omega) (by omega);rw[N_rep]at e;exact yH (zN (yT (zg (F:=zI) rfl (zA rfl) (zA rfl) (zy hm hn))) (zN (yT (zR (F:=zF) rfl (zA rfl) x_c Wq (zd _ 0 40 rfl (Zm (lo:=0) (hi:=40) (by omega) hk)))) (zX (yI (zR (F:=yc) rfl (zS (Jp (zD x_c zT) rfl yx) (zA rfl) ml) (zA rfl) (zA rfl) e))))) rfl
def Aj(m n k:Nat):Nat:=if k=0 then Ao m n k else Ao m n k-Ao m n (k-1)
theorem Zn{m n k:Nat}(h:Ok m n k):jA [.val (.int (m:Nat)),.val (.int (n:Nat)),.val (.int (k:Nat))]=.ok (.val (.int ((Aj m n k:Nat):Int)),O3):=by
 have h':=h;obtain⟨hm,hn,hk⟩:=h';unfold Aj;by_cases c:k=0
 ·have q:eqG (.int (k:Int)) (.int 0)=some (.val (.bl true)):=by rw[eq_int,decide_eq_true (by omega)]
  rw[if_pos c];exact yH (zN (jN (zR (F:=zx) rfl (zA rfl) (zA rfl) (zA rfl) (je h)) rfl) (ZI (YJ (t_E (zf (zA rfl) x_c q)) (zX (yI (zA rfl)))))) rfl
 ·have q:eqG (.int (k:Int)) (.int 0)=some (.val (.bl false)):=by rw[eq_int,decide_eq_false (by omega)]
  have s1:W0 (.int (k:Int)) (.int 1)=some (.val (.int ((k-1:Nat):Int))):=j5 (b:=1) (by omega);rw[if_neg c];exact yH (zN (jN (zR (F:=zx) rfl (zA rfl) (zA rfl) (zA rfl) (je h)) rfl) (zN (jO (t_E (zf (zA rfl) x_c q)) jP) (zX (yI (zS (zA rfl) (zR (F:=zx) rfl (zA rfl) (zA rfl) (zS (zA rfl) x_c s1) (je (k:=k-1) ⟨hm,hn,by omega⟩)) (j5 (zFk m n k (by omega) (by omega)))))))) rfl
end My
namespace My
open PySem L2 DV SM
abbrev nm:D:=.tup [.str "number"]
theorem zC1{S n:Nat}(h:S<=1000)(hn:n<=1000):jB [.val (.int S),.val (.int n)]=.ok (.val (.int (S^n:Nat)),O2):=by
 obtain⟨E1,f1,s3,hE,h3⟩:=jY (tg:=gN 3) (body:=dB Yv (.bOne (.sSet 2 (.bin .mul (.var 2) (.var 0))))) (λi E=>∃s3,E=[.val (.int S),.val (.int n),.val (.int (S^i:Nat)),s3]/\jl s3=true) (DV.zM 0 n) 0 [.val (.int S),.val (.int n),.val (.int 1),.emp] ⟨.emp,by simp,rfl⟩ (λi d q E ⟨s3,hE,h3⟩=>by
  obtain⟨hi,rfl⟩:=Jc _ _ _ _ q;rw[zero_add]at hE ⊢;refine⟨[.val (.int S),.val (.int n),.val (.int (S^i:Nat)),.val (.int (0+(i:Int)))],[.val (.int S),.val (.int n),.val (.int (S^(i+1):Nat)),.val (.int (0+(i:Int)))],?_,?_,_,rfl,rfl⟩
  ·subst hE;cases s3<;>first|rfl|(cases h3)
  ·have m:=zBJ (S^i) S (by omega)
   rw[pow_succ];exact zX (jN (zS (zA rfl) (zA rfl) m) rfl))
 rw[jk,zero_add]at hE;subst hE;have tn:((n:Nat):Int).toNat=n:=by omega
 exact yH (zN (jN x_c rfl) (zN (ZH (zD (zA rfl) zT) rfl ⟨by omega,by omega⟩ (by rw[tn];exact f1)) (zX (yI (zA rfl))))) rfl
end My
namespace My
open PySem L2 DV SM
def TL(ls:List (List Nat)):List D:=ls.map λl=>.tup (N l)
theorem zFl(ls:List (List Nat)):(TL ls).length=ls.length:=by simp[TL]
theorem TL_mem{ls:List (List Nat)}{d:D}(h:d∈TL ls):∃l∈ls,d=.tup (N l):=by
 obtain⟨l,hl,rfl⟩:=mem_map.mp h;exact⟨l,hl,rfl⟩
def more(m:Nat)(r:List Nat):List (List Nat):=(List.range m).map λx=>r++[x]
theorem u8(m:Nat):∀l:List (List Nat),(l.flatMap (more m)).length=l.length*m
 | []=>by simp
 |a::l=>by rw[flatMap_cons,length_append,u8 m l];simp[more,add_mul,Nat.add_comm]
theorem zAp(m:Nat):∀n,(j6 m n).length=m^n
 |0=>rfl
 |n+1=>by
  show((j6 m n).flatMap (more m)).length=_
  rw[u8,zAp m n,pow_succ]
theorem Q5(m:Nat):∀n (r:List Nat),r∈j6 m n->r.length=n
 |0,r,h=>by simp[j6]at h;subst h;rfl
 |n+1,r,h=>by
  obtain⟨a,ha,hr⟩:=List.mem_flatMap.mp h;obtain⟨x,_,rfl⟩:=mem_map.mp hr;have:=Q5 m n a ha;simp[this]
theorem Q6(m:Nat):∀n (r:List Nat),r∈j6 m n->∀x∈r,x<m
 |0,r,h=>by simp[j6]at h;subst h;simp
 |n+1,r,h=>by
  obtain⟨a,ha,hr⟩:=List.mem_flatMap.mp h;obtain⟨x,hx,rfl⟩:=mem_map.mp hr;have:=Q6 m n a ha;intro y hy;rcases mem_append.mp hy with hy|hy
  ·exact this y hy
  ·simp at hy hx;omega
end My
namespace My
open PySem L2 DV SM
theorem jr{w o n k:Nat}(h:w+o<=27)(hk:k<=41)(hn:n<=41):zW [.val (.int w),.val (.int o),.val (.int n),.val (.int k)]=.ok (.val (.int (U w o k n:Nat)),O4):=jd (by omega) (by omega) hk hn
def okD:D->Prop
 | .tup ds=>ds.length<=cap/\∀d∈ds,isFn d=false
 | .fn _=>False
 | .exn _=>False
 |_=>True
def zDU:D->Bool
 | .tup ds=>decide (2<=ds.length)&&decide (ds.length<=3)&&ds.all (Z7 1 9)
 |_=>false
theorem zBK(d:D)(h:okD d):ZF [.val d]=.ok (.val (.bl (zDU d)),[.emp]):=by
 cases d with
 |tup ds =>
  have t1:dT YD (.tNot (.tE (.is .tuple (.var 0)))) [.val (.tup ds)]=.ok (false,[.val (.tup ds)]):=Wr (t_E (b:=true) rfl) rfl;have l1:dE YD (.cB .len (.cons (.var 0) .nil)) [.val (.tup ds)]=.ok (.val (.int ds.length),[.val (.tup ds)]):=YS (zD (zA rfl) zT) rfl;by_cases h2:2<=ds.length
  ·have b1:Cp.le.b 2 (ds.length:Int)=true:=decide_eq_true (by omega)
   by_cases h3:ds.length<=3
   ·have b2:Cp.le.b (ds.length:Int) 3=true:=decide_eq_true (by omega)
    have e:zDU (.tup ds)=ds.all (Z7 1 9):=by simp[zDU,h2,h3]
    rw[e];exact yH (zN (jO (zDT t1 (Wr (t_E (Q0 Wq l1 b1 Wq b2)) rfl)) jP) (zX (yI (YS (zD (wV (vs:=[]) (λd=>.bl (Z7 1 9 d)) (i_T (zA rfl) rfl) rfl (λd hd=>⟨_,zR rfl (zA rfl) Wq Wq (jX d 1 9 (h.2 d hd)),rfl⟩) h.1 rfl) zT) (zAk rfl))))) rfl
   ·have b2:Cp.le.b (ds.length:Int) 3=false:=decide_eq_false (by omega)
    have e:zDU (.tup ds)=false:=by simp[zDU,h3]
    rw[e];exact yH (ZI (YJ (zDT t1 (Wr (t_E (Q0 Wq l1 b1 Wq b2)) rfl)) (zX (yI x_c)))) rfl
  ·have b1:Cp.le.b 2 (ds.length:Int)=false:=decide_eq_false (by omega)
   have e:zDU (.tup ds)=false:=by simp[zDU,h2]
   rw[e];exact yH (ZI (YJ (zDT t1 (Wr (t_E (zAb Wq l1 b1)) rfl)) (zX (yI x_c)))) rfl
 |fn x=>cases h
 |exn x=>cases h
 |_=>rfl
end My
namespace My
open PySem L2 DV SM
section
variable{fs:List FI}{E E1 E2 E3 E4:zP}
theorem s_while{t b:_}{p:Fl×zP}(h:DV.whN (dT fs t) (dB fs b) 1000000 E=.ok p):dS fs (.sWhile t b) E=.ok p:=by
 simp only[dS];exact uY (by simp only[DV.sWhile];exact h)
theorem s_aug{i:Nat}{o:Op2}{a:_}{x y z:Int}(h:E[i]?=some (.val (.int x)))(h1:dE fs a E=.ok (.val (.int y),E))(hz:o.aug x y=some z)(h2:E.set i (.val (.int z))=E1):dS fs (.sAug i o a) E=.ok (.nx,E1):=by
 subst h2;simp only[dS,DV.sAug,h,h1,R.d,hz,if_true]
end
theorem QJ{n:Nat}(h:n<2^800):n<Big:=lt_trans h (by decide +kernel)
theorem mul_big{i j:Int}(h1:i.natAbs<2^800)(h2:j.natAbs<2^800):ZA (.int i) (.int j)=some (.val (.int (i*j))):=by
 unfold ZA;have:YR (.int i) (.int j)=some (.val (.int (i*j))):=by
  simp only[YR];exact if_pos (.inr ⟨QJ h1,QJ h2⟩)
 rw[this]
theorem u9(a b:Nat)(h1:a<2^800)(h2:b<2^800):ZA (.int a) (.int b)=some (.val (.int ((a*b:Nat):Int))):=by
 rw[mul_big (by simpa using h1) (by simpa using h2)];simp
theorem zC2(t:Int):absG [.int t]=some (.val (.int (t.natAbs:Nat))):=by
 have:(if t<0 then -t else t)=((t.natAbs:Nat):Int):=by split<;>omega
 simp only[absG,this]
theorem abs_nat(t:Nat):absG [.int t]=some (.val (.int (t:Nat))):=by
 rw[zC2];simp
theorem mod_nat(a b:Nat)(h:b≠0):zFL (.int a) (.int b)=some (.val (.int ((a%b:Nat):Int))):=by
 have:(0:Int)<b:=by omega
 simp only[zFL,zBy];rw[if_pos (decide_eq_true this)];rfl
theorem zAq(a:Int)(b:Nat)(h:0<b)(h2:b<2^800):zA7 (.int a) (.int b)=some (.val (.int (a/b))):=by
 simp only[zA7,zBy];rw[if_pos (decide_eq_true ⟨by omega,.inr (QJ (by simpa using h2))⟩)]
theorem zBL(d:D)(h:okD d)(hb:zDU d=true):Je [.val d]=.ok (.val .non,[.emp]):=by
 have e:=zBK d h;rw[hb]at e;exact f_nx (zX (jO (Wr (t_E (wU rfl (zA rfl) e)) rfl) jP)) rfl
theorem YN(d:D)(m:Int)(h:isFn d=false)(hb:Z7 0 (m-1) d=true):yu [.val d,.val (.int m)]=.ok (.val .non,[.emp,.emp]) :=
 f_nx (zX (yT (zR rfl (zA rfl) x_c (zS (zA rfl) x_c rfl) (zd d 0 (m-1) h hb)))) rfl
theorem e_gcd(t:Int)(b:Nat)(hb:b<2^400):jJ [.val (.int t),.val (.int b)]=.ok (.val (.int (t.natAbs.gcd b:Nat)),[.emp,.emp]):=by
 have w:=zAf (c:=dT yt (.tE (.cmp .ne (.var 1) (.c (.int 0))))) (bd:=dB yt (.bOne (.sPar 0 1 (.cons (.var 1) (.cons (.bin .mod (.var 0) (.var 1)) .nil))))) (λa b=>[.val (.int (a:Nat)),.val (.int (b:Nat))])
  (λa b=>t_E (zf (zA rfl) x_c (by
   show neG (.int (b:Int)) (.int 0)=_
   rw[ne_int];by_cases z:b=0
   ·subst z;rfl
   ·have:¬(b:Int)=0:=by omega
    simp[z])))
  (λa b h=>zX (s_par (zD (zA rfl) (zD (zS (zA rfl) (zA rfl) (mod_nat a b h)) zT)) rfl)) 400 1000000 t.natAbs b hb (by omega)
 exact yH (zN (s_par (zD (YS (zD (zA rfl) zT) (zC2 t)) (zD (YS (zD (zA rfl) zT) (abs_nat b)) zT)) rfl) (zN (s_while w) (zX (yI (zA rfl))))) rfl
theorem gcd_lt{t b:Nat}(h0:0<b)(hb:b<2^400):0<t.gcd b/\t.gcd b<2^800:=by
 refine⟨Nat.gcd_pos_of_pos_right _ h0,?_⟩;have:=Nat.le_of_dvd h0 (Nat.gcd_dvd_right t b);exact lt_trans (lt_of_le_of_lt this hb) (by decide +kernel)
theorem zEl(b g:Nat):((b:Int)/(g:Int))=((b/g:Nat):Int):=by simp
theorem zBM(t:Int)(b:Nat)(h0:0<b)(hb:b<2^400):Jd [.val (.int t),.val (.int b)]=.ok (.val (nrm t b),[.emp,.emp]):=by
 obtain⟨g0,g1⟩:=gcd_lt (t:=t.natAbs) h0 hb;have q:eqG (.int (b:Int)) (.int 0)=some (.val (.bl false)):=by
  rw[eq_int,decide_eq_false (by omega)]
 have l:ltD (.int (b:Int)) (.int 0)=some (.val (.bl false)):=by
  simp[ltD,zA6]
 have d1:=zAq t _ g0 g1;have d2:=zAq b _ g0 g1;rw[zEl]at d2;exact yH (zN (jO (t_E (zf (zA rfl) x_c q)) jP) (zN (jN (zg rfl (zA rfl) (zA rfl) (e_gcd t b hb)) rfl) (zN (jO (t_E (zf (zA rfl) x_c l)) jP) (zX (yI (QD (zD (zS (zA rfl) (zA rfl) d1) (zD (zS (zA rfl) (zA rfl) d2) zT)) rfl zCk)))))) rfl
end My
namespace My
open PySem L2 DV SM
def nD(l:List Nat):List D:=(l.map λ(n:Nat)=>(n:Int)).map D.int
theorem zC3(l:List Nat):(nD l).length=l.length:=by simp[nD]
theorem nD_get{l:List Nat}{k x:Nat}(h:l[k]?=some x):(nD l)[k]?=some (.int (x:Nat)):=by simp[nD,h]
theorem zC4(l:List Nat):zEJ [.tup (nD l)]=some (.val (.int (l.sum:Nat))):=by
 simp only[zEJ,nD,Wu,Option.map_some,uz]
theorem p27{n:Nat}(h:n<=41):27^n<2^400:=lt_of_le_of_lt (Nat.pow_le_pow_right (by omega) h) (by decide +kernel)
theorem zEm{n:Nat}(h:n<2^400):n<2^800:=lt_trans h (by decide +kernel)
theorem zC5:∀{l:List Nat} {x:Nat},x∈l->x<=l.sum
 |a::l,x,h=>by
  rw[sum_cons];rcases mem_cons.mp h with rfl|h
  ·omega
  ·have:=zC5 h;omega
theorem U_lt{w o:Nat}(h:w+o<=27)(k:Nat){n:Nat}(hn:n<=41):U w o k n<2^400 :=
 lt_of_le_of_lt (le_trans (U_le w o k n) (pow_le_pow_left h n)) (p27 hn)
theorem ju{S n:Nat}(h:S<=27)(hn:n<=41):zk [.val (.int S),.val (.int n)]=.ok (.val (.int (S^n:Nat)),[.emp,.emp]):=by
 obtain⟨E1,f1,s3,hE,h3⟩:=jY (tg:=gN 3) (body:=dB Jy (.bOne (.sAug 2 .mul (.var 0)))) (λi E=>∃s3,E=[.val (.int S),.val (.int n),.val (.int (S^i:Nat)),s3]/\jl s3=true) (DV.zM 0 n) 0 [.val (.int S),.val (.int n),.val (.int 1),.emp] ⟨.emp,by simp,rfl⟩ (λi d q E ⟨s3,hE,h3⟩=>by
  obtain⟨hi,rfl⟩:=Jc _ _ _ _ q;rw[zero_add]at hE ⊢;refine⟨[.val (.int S),.val (.int n),.val (.int (S^i:Nat)),.val (.int (0+(i:Int)))],[.val (.int S),.val (.int n),.val (.int (S^(i+1):Nat)),.val (.int (0+(i:Int)))],?_,?_,_,rfl,rfl⟩
  ·subst hE;cases s3<;>first|rfl|(cases h3)
  ·have b1:S^i<2^800:=zEm (lt_of_le_of_lt (pow_le_pow_left h i) (p27 (by omega)))
   have m:Gu ((S^i:Nat):Int) (S:Int)=some ((S^(i+1):Nat):Int):=by
    unfold Gu;rw[if_pos (.inr ⟨QJ (by rw[Int.natAbs_natCast];exact b1),QJ (by rw[Int.natAbs_natCast];exact lt_of_le_of_lt h (by decide +kernel))⟩),pow_succ,Int.natCast_mul]
   exact zX (s_aug rfl (zA rfl) m rfl))
 rw[jk,zero_add]at hE;subst hE;have tn:((n:Nat):Int).toNat=n:=by omega
 exact yH (zN (jN x_c rfl) (zN (ZH (zD (zA rfl) zT) rfl ⟨by omega,by omega⟩ (by rw[tn];exact f1)) (zX (yI (zA rfl))))) rfl
end My
namespace My
open PySem L2 DV SM
section
variable{fs:List FI}{E E1 E2 E3 E4 E5:zP}
end
abbrev zDV(die:List Nat):D:=.tup (nD die)
theorem die_ok{die:List Nat}(h:Die die):okD (zDV die):=⟨by rw[zC3];rcases h.1 with e|e<;>rw[e]<;>simp[cap],λd hd=>by
 simp only[nD,map_map,mem_map]at hd;obtain⟨x,_,rfl⟩:=hd;rfl⟩
theorem die_B{die:List Nat}(h:Die die):zDU (zDV die)=true:=by
 have hl:2<=die.length/\die.length<=3:=by rcases h.1 with e|e<;>omega
 have ha:(nD die).all (Z7 1 9)=true:=by
  rw[all_eq_true];intro d hd;simp only[nD,map_map,mem_map]at hd;obtain⟨x,hx,rfl⟩:=hd;have:=h.2 x hx;simp[Z7];omega
 simp only[zDU,zC3,ha,decide_eq_true hl.1,decide_eq_true hl.2,Bool.and_self]
theorem QK{c:Nat}:∀{l:List Nat},(∀x∈l,1<=x/\x<=c)->l.length<=l.sum/\l.sum<=l.length*c
 | [],_=>by simp
 |a::l,h=>by
  have h1:=h a mem_cons_self;have ih:=QK (l:=l) (λx hx=>h x (mem_cons_of_mem _ hx));rw[sum_cons,length_cons,Nat.succ_mul];omega
structure DS(die:List Nat)(s:Nat):Prop where
 ok:Die die
 lt:s<die.length
namespace DS
variable{die:List Nat}{s:Nat}
theorem S27(h:DS die s):2<=die.sum/\die.sum<=27:=by
 have:=QK h.ok.2;rcases h.ok.1 with e|e<;>rw[e]at this<;>omega
theorem get(h:DS die s):die[s]?=some (die.getD s 0):=by
 rw[getD_eq_getElem?_getD,getElem?_eq_getElem h.lt];rfl
theorem le(h:DS die s):die.getD s 0<=die.sum:=zC5 (mem_of_getElem? h.get)
theorem wo(h:DS die s):die.getD s 0+(die.sum-die.getD s 0)<=27:=by have:=h.S27;have:=h.le;omega
end DS
theorem zFm{die:List Nat}{s x:Nat}(h:die[s]?=some x):ixD (zDV die) (.int s)=some (.val (.int (x:Nat))):=by
 show(atI (nD die) (s:Int)).map R.val=_
 rw[at_nat (nD_get h)];rfl
theorem len_die(die:List Nat):zDz [zDV die]=some (.val (.int die.length)):=by simp only[zDz,zC3]
theorem zC6{a b:Nat}(h:b<=a):W0 (.int a) (.int b)=some (.val (.int ((a-b:Nat):Int))):=by
 simp only[W0,zA6];rw[Int.ofNat_sub h]
theorem zEn{die:List Nat}{s:Nat}(h:DS die s):jK [.val (zDV die),.val (.int s)]=.ok (.val (.int ((die.sum-die.getD s 0:Nat):Int)),O2) :=
 yH (zX (yI (zS (YS (zD (zA rfl) zT) (zC4 die)) (zDS (zA rfl) (zA rfl) (zFm h.get)) (zC6 h.le)))) rfl
theorem S_pow{die:List Nat}{s:Nat}(h:DS die s){n:Nat}(hn:n<=41):0<die.sum^n/\die.sum^n<2^400 :=
 ⟨Nat.pow_pos (by have:=h.S27;omega),lt_of_le_of_lt (pow_le_pow_left h.S27.2 n) (p27 hn)⟩
theorem zEo{die:List Nat}{s:Nat}(h:DS die s){n:Nat}(hn:n<=41)(t:Int):jb [.val (zDV die),.val (.int n),.val (.int t)]=.ok (.val (nrm t (die.sum^n)),O3):=by
 obtain⟨p0,p1⟩:=S_pow h hn;exact yH (zX (yI (zg (F:=Jd) rfl (zA rfl) (zg (F:=zk) rfl (YS (zD (zA rfl) zT) (zC4 die)) (zA rfl) (ju h.S27.2 hn)) (zBM t _ p0 p1)))) rfl
theorem zC7{n hi:Nat}(h:n<=hi):Z7 0 (hi:Int) (.int n)=true:=by
 simp[Z7];omega
theorem zEp{die:List Nat}{s:Nat}(h:DS die s){n:Nat}(hn:n<=40):jq [.val (zDV die),.val (.int s),.val (.int n)]=.ok (.val .non,O3):=by
 have i1:Z7 0 ((die.length:Int)-1) (.int s)=true:=by
  have:=h.lt;simp[Z7];omega
 exact f_nx (zN (yT (wU (F:=Je) rfl (zA rfl) (zBL _ (die_ok h.ok) (die_B h.ok)))) (zN (yT (zg (F:=yu) rfl (zA rfl) (YS (zD (zA rfl) zT) (len_die die)) (YN _ _ rfl i1))) (zX (yT (zR (F:=zF) rfl (zA rfl) x_c Wq (zd _ 0 40 rfl (zC7 hn))))))) rfl
def Uw(die:List Nat)(s k n:Nat):Nat:=U (die.getD s 0) (die.sum-die.getD s 0) k n
theorem e_upto{die:List Nat}{s:Nat}(h:DS die s){n k:Nat}(hn:n<=40)(hk:k<=40):wK [.val (zDV die),.val (.int s),.val (.int n),.val (.int k)]=.ok (.val (nrm (Uw die s k n:Nat) (die.sum^n)),O4) :=
 yH (zN (yT (zR (F:=jq) rfl (zA rfl) (zA rfl) (zA rfl) (zEp h hn))) (zN (yT (zR (F:=zF) rfl (zA rfl) x_c Wq (zd _ 0 40 rfl (zC7 hk)))) (zX (yI (zR (F:=jb) rfl (zA rfl) (zA rfl) (jW (F:=zW) rfl (zDS (zA rfl) (zA rfl) (zFm h.get)) (zg (F:=jK) rfl (zA rfl) (zA rfl) (zEn h)) (zA rfl) (zA rfl) (jr h.wo (by omega) (by omega))) (zEo h (by omega) _)))))) rfl
theorem e_wjust{w o n k:Nat}(h:w+o<=27)(hk:k<=41)(hn:n<=41):yW [.val (.int w),.val (.int o),.val (.int n),.val (.int k)]=.ok (.val (.int (if k=0 then((U w o 0 n:Nat):Int)else(U w o k n:Nat)-(U w o (k-1) n:Nat))),O4):=by
 by_cases c:k=0
 ·subst c
  rw[if_pos rfl];exact yH (ZI (YJ (t_E (zf (zA rfl) x_c rfl)) (zX (yI (jW (F:=zW) rfl (zA rfl) (zA rfl) (zA rfl) x_c (jr (k:=0) h (by omega) hn)))))) rfl
 ·rw[if_neg c]
  have q:eqG (.int (k:Int)) (.int 0)=some (.val (.bl false)):=by rw[eq_int,decide_eq_false (by omega)]
  have k1:W0 (.int (k:Int)) (.int 1)=some (.val (.int ((k-1:Nat):Int))):=zC6 (b:=1) (by omega);exact yH (zN (jO (t_E (zf (zA rfl) x_c q)) jP) (zX (yI (zS (jW (F:=zW) rfl (zA rfl) (zA rfl) (zA rfl) (zA rfl) (jr h hk hn)) (jW (F:=zW) rfl (zA rfl) (zA rfl) (zA rfl) (zS (zA rfl) x_c k1) (jr h (by omega) hn)) rfl)))) rfl
end My
namespace My
open PySem L2 DV SM
theorem lt_mul{a b:Nat}(h1:a<2^400)(h2:b<2^400):a*b<2^800:=by
 have:2^400*2^400=2^800:=by decide +kernel
 rw[<- this];exact Nat.mul_lt_mul'' h1 h2
theorem w_pow{w r:Nat}(h:w<=27)(hr:r<=41):w^r<2^400:=lt_of_le_of_lt (pow_le_pow_left h r) (p27 hr)
theorem s27{x:Nat}(h:x<=2000):x<2^400:=lt_of_le_of_lt h (by decide +kernel)
theorem zEq{w o n k:Nat}(h:w+o<=27)(hk:k<=41)(hn:n<=41):yW [.val (.int w),.val (.int o),.val (.int n),.val (.int k)]=.ok (.val (.int (Jn w o n k:Nat)),O4):=by
 rw[e_wjust h hk hn];unfold Jn;by_cases c:k=0
 ·rw[if_pos c,if_pos c]
 ·rw[if_neg c,if_neg c]
  have:=zAi w o (k-1) n;rw[show k-1+1=k by omega]at this;rw[Int.ofNat_sub this]
theorem zAr(w o n:Nat):∀k,((List.range (k+1)).map (Jn w o n)).sum=U w o k n
 |0=>by simp[Jn]
 |k+1=>by
  rw[rsum,zAr w o n k];have:=zAi w o k n;simp[Jn];omega
def GI(w o n:Nat):List Nat:=(List.range (n+1)).map (Jn w o n)
theorem GB{w o n:Nat}(h:w+o<=27)(hn:n<=40):jm [.val (.int w),.val (.int o),.val (.int n)]=.ok (.own (N (GI w o n)),O3):=by
 have hi:dI wR (.iR1 (.cons (.bin .add (.var 2) (.c (.int 1))) .nil)) [.val (.int w),.val (.int o),.val (.int n)]=.ok (N (List.range (n+1)),[.val (.int w),.val (.int o),.val (.int n)]):=by
  have:=i_R1 (fs:=wR) (E:=[.val (.int w),.val (.int o),.val (.int n)]) (a:=.cons (.bin .add (.var 2) (.c (.int 1))) .nil) (j:=((n+1:Nat):Int)) (zD (zS (zA rfl) x_c rfl) zT) rfl ⟨by omega,by omega⟩;rw[Int.toNat_natCast,zAm]at this;exact this
 refine yH (zX (yI (wV (vs:=[.int w,.int o,.int n]) (λd=>match d with | .int i=>.int ((Jn w o n i.toNat:Nat):Int)|d=>d) hi rfl (λd hd=>?_) (by rw[YL];simp[cap];omega) ?_))) rfl
 ·obtain⟨k,hk,rfl⟩:=zCv hd
  have:=mem_range.mp hk;exact⟨_,jW (F:=yW) rfl (zA rfl) (zA rfl) (zA rfl) (zA rfl) (zEq h (by omega) (by omega)),rfl⟩
 ·simp only[N,GI,map_map]
  apply map_congr_left;intro k _;simp
section
variable{die:List Nat}{s:Nat}
theorem i_E{fs:List FI}{E E1:zP}{t:Bool}{as:_}{r:R}{ds:List D}(h1:dA fs as E=.ok ([r],E1))(h2:zCT t r.d=some ds):dI fs (.iE t as) E=.ok (GH 0 ds,E1):=by
 simp only[dI,iE,h1,h2]
theorem GC:∀(l:List Nat) (n:Nat) {d:D},d∈GH n (N l)->∃i j:Nat,d=.tup [.int (i:Nat),.int (j:Nat)]/\i<n+l.length
 | [],n,d,h=>by simp[N,GH]at h
 |a::l,n,d,h=>by
  have e:GH n (N (a::l))=.tup [.int (n:Int),.int (a:Nat)]::GH (n+1) (N l):=rfl;rw[e]at h;rcases mem_cons.mp h with h|h
  ·exact⟨n,a,h,by simp⟩
  ·obtain⟨i,j,e,hl⟩:=GC l (n+1) h
   exact⟨i,j,e,by simp only[length_cons];omega⟩
def mulP:D->D
 | .tup [.int a,.int b]=>.int (a*b)
 |d=>d
theorem zC8(f:Nat->Nat):∀(m n:Nat),(GH n (N ((range' n m).map f))).map mulP=N ((range' n m).map λk=>k*f k)
 |0,n=>rfl
 |m+1,n=>by
  have ih:=zC8 f m (n+1);rw[List.range'_succ];show mulP (.tup [.int (n:Int),.int ((f n:Nat):Int)])::(GH (n+1) (N ((range' (n+1) m).map f))).map mulP=_;rw[ih];simp[mulP,N]
def Vr(w o n k:Nat):Nat:=if n<k then 0 else if k=n then w^k*(w+o)^(n-k)else w^k*(w+o)^(n-k)+(n-k)*o*w^k*(w+o)^(n-k-1)
theorem QL{w o n k:Nat}(h:w+o<=27)(hk:k<=41)(hn:n<=41):wH [.val (.int w),.val (.int o),.val (.int n),.val (.int k)]=.ok (.val (.int (Vr w o n k:Nat)),O4):=by
 by_cases c:n<k
 ·have gt:gtD (.int (k:Int)) (.int (n:Int))=some (.val (.bl true)):=by show some (R.val (D.bl (decide ((n:Int)<k))))=_;rw[decide_eq_true (by omega)]
  have e:Vr w o n k=0:=if_pos c;rw[e];exact yH (ZI (YJ (t_E (zf (zA rfl) (zA rfl) gt)) (zX (yI x_c)))) rfl
 ·have gt:gtD (.int (k:Int)) (.int (n:Int))=some (.val (.bl false)):=by show some (R.val (D.bl (decide ((n:Int)<k))))=_;rw[decide_eq_false (by omega)]
  have p1:w^k<2^400:=w_pow (by omega) hk;have p2:(w+o)^(n-k)<2^400:=w_pow h (by omega);have m1:=u9 (w^k) ((w+o)^(n-k)) (zEm p1) (zEm p2);have s1:W0 (.int (n:Int)) (.int (k:Int))=some (.val (.int ((n-k:Nat):Int))):=j5 (by omega);have w1:=ju (S:=w) (n:=k) (by omega) hk;have w2:=ju (S:=w+o) (n:=n-k) h (by omega);by_cases d:k=n
  ·have eq:eqG (.int (k:Int)) (.int (n:Int))=some (.val (.bl true)):=by rw[eq_int,decide_eq_true (by omega)]
   have e:Vr w o n k=w^k*(w+o)^(n-k):=by unfold Vr;rw[if_neg c,if_pos d]
   rw[e];exact yH (zN (jO (t_E (zf (zA rfl) (zA rfl) gt)) jP) (zN (jN (zg (F:=zk) rfl (zA rfl) (zA rfl) w1) rfl) (zN (jN (zS (zA rfl) (zg (F:=zk) rfl (zS (zA rfl) (zA rfl) (JX w o)) (zS (zA rfl) (zA rfl) s1) w2) m1) rfl) (ZI (YJ (t_E (zf (zA rfl) (zA rfl) eq)) (zX (yI (zA rfl)))))))) rfl
  ·have eq:eqG (.int (k:Int)) (.int (n:Int))=some (.val (.bl false)):=by rw[eq_int,decide_eq_false (by omega)]
   have e:Vr w o n k=w^k*(w+o)^(n-k)+(n-k)*o*w^k*(w+o)^(n-k-1):=by unfold Vr;rw[if_neg c,if_neg d]
   rw[e];have w3:=ju (S:=w+o) (n:=n-k-1) h (by omega);have s2:W0 (.int ((n-k:Nat):Int)) (.int 1)=some (.val (.int ((n-k-1:Nat):Int))):=j5 (b:=1) (by omega);have hno:(n-k)*o<=2000:=le_trans (Nat.mul_le_mul (show n-k<=41 by omega) (show o<=27 by omega)) (by decide);have m2:=jQ (n-k) o (by omega);have m3:=jQ ((n-k)*o) (w^k) (by omega);have m4:=u9 ((n-k)*o*w^k) ((w+o)^(n-k-1)) (lt_mul (s27 hno) p1) (zEm (w_pow h (by omega)));have ad:=JX (w^k*(w+o)^(n-k)) ((n-k)*o*w^k*(w+o)^(n-k-1));exact yH (zN (jO (t_E (zf (zA rfl) (zA rfl) gt)) jP) (zN (jN (zg (F:=zk) rfl (zA rfl) (zA rfl) w1) rfl) (zN (jN (zS (zA rfl) (zg (F:=zk) rfl (zS (zA rfl) (zA rfl) (JX w o)) (zS (zA rfl) (zA rfl) s1) w2) m1) rfl) (zN (jO (t_E (zf (zA rfl) (zA rfl) eq)) jP) (zX (yI (zS (zA rfl) (zS (zS (zS (zS (zA rfl) (zA rfl) s1) (zA rfl) m2) (zA rfl) m3) (zg (F:=zk) rfl (zS (zA rfl) (zA rfl) (JX w o)) (zS (zS (zA rfl) (zA rfl) s1) x_c s2) w3) m4) ad))))))) rfl
end
end My
namespace My
open PySem L2 DV RM
def rowB:D->Bool
 | .tup ds=>decide (ds.length<=20)&&ds.all (Z7 0 2)
 |_=>false
theorem JW(f:D->Bool):∀ds:List D,wO (ds.map λd=>D.bl (f d))=some (ds.map f)
 | []=>rfl
 |d::ds=>by simp only[map_cons,wO,JW f ds];rfl
theorem all_map(f:D->Bool)(ds:List D):(ds.map f).all id=ds.all f:=by simp[List.all_map]
theorem Q7(d:D)(h:isFn d=false):YE [.val d]=.ok (.val (.bl (Z7 0 2 d)),[.emp]) :=
 yH (zX (yI (zR rfl (zA rfl) x_c (zS Wq x_c rfl) (jX d 0 2 h)))) rfl
theorem zAk{f:D->Bool}{ds:List D}{b:Bool}(h:ds.all f=b):allD [.lst (ds.map λd=>D.bl (f d))]=some (.val (.bl b)):=by
 subst h;simp[allD,JW,all_map]
theorem zBN(d:D)(h:okD d):ZG [.val d]=.ok (.val (.bl (rowB d)),[.emp]):=by
 cases d with
 |tup ds =>
  have t1:dT jz (.tNot (.tE (.is .tuple (.var 0)))) [.val (.tup ds)]=.ok (false,[.val (.tup ds)]):=Wr (t_E (b:=true) rfl) rfl;have l1:dE jz (.cB .len (.cons (.var 0) .nil)) [.val (.tup ds)]=.ok (.val (.int ds.length),[.val (.tup ds)]):=YS (zD (zA rfl) zT) rfl;by_cases ht:ds.length<=20
  ·have t2:dT jz (.tE (.cmp .gt (.cB .len (.cons (.var 0) .nil)) (.gl (.int 20)))) [.val (.tup ds)]=.ok (false,[.val (.tup ds)]) :=
    t_E (zf l1 Wq (by simp[Cp.f,gtD,zA6,R.d];omega))
   have e:rowB (.tup ds)=ds.all (Z7 0 2):=by simp[rowB];omega
   rw[e];exact yH (zN (jO (zDT t1 t2) jP) (zX (yI (YS (zD (wV (vs:=[]) (λd=>.bl (Z7 0 2 d)) (i_T (zA rfl) rfl) rfl (λd hd=>⟨_,wU rfl (zA rfl) (Q7 d (h.2 d hd)),rfl⟩) h.1 rfl) zT) (zAk rfl))))) rfl
  ·have t2:dT jz (.tE (.cmp .gt (.cB .len (.cons (.var 0) .nil)) (.gl (.int 20)))) [.val (.tup ds)]=.ok (true,[.val (.tup ds)]) :=
    t_E (zf l1 Wq (by simp[Cp.f,gtD,zA6,R.d];omega))
   have e:rowB (.tup ds)=false:=by simp[rowB];omega
   rw[e];exact yH (ZI (YJ (zDT t1 t2) (zX (yI x_c)))) rfl
 |fn x=>cases h
 |exn x=>cases h
 |_=>rfl
end My
namespace My
open PySem L2 DV RM
def Row(rs:List Int):Prop:=rs.length<=20/\∀r∈rs,0<=r/\r<=2
abbrev J4(rs:List Int):D:=.tup (rs.map D.int)
theorem row_ok{rs:List Int}(h:Row rs):okD (J4 rs):=⟨by simp[cap];have:=h.1;omega,λd hd=>by
 obtain⟨r,_,rfl⟩:=mem_map.mp hd;rfl⟩
theorem row_B{rs:List Int}(h:Row rs):rowB (J4 rs)=true:=by
 simp only[rowB,Bool.and_eq_true,decide_eq_true_eq,length_map,all_eq_true];refine⟨h.1,λd hd=>?_⟩;obtain⟨r,hr,rfl⟩:=mem_map.mp hd;have:=h.2 r hr;simp[Z7,this]
theorem uF{rs:List Int}(h:Row rs):Jf [.val (J4 rs)]=.ok (.val .non,[.emp]):=by
 have e:=zBN (J4 rs) (row_ok h);rw[row_B h]at e;exact f_nx (zX (jO (Wr (t_E (wU rfl (zA rfl) e)) rfl) jP)) rfl
def jg:Nat->List B->List D
 |_,[]=>[]
 |b,(s,n)::r=>.tup [.int s,.int b,.int n]::jg (b+n) r
theorem QM:∀(q:List B) (b:Nat) (a:Int) (m:Nat),jg b (q++[(a,m)])=jg b q++[.tup [.int a,.int (b+tot q:Nat),.int m]]
 | [],b,a,m=>by simp[jg,tot]
 | (s,n)::q,b,a,m=>by
  simp only[cons_append,jg,QM q (b+n) a m];have:b+n+tot q=b+tot ((s,n)::q):=by simp[tot];omega
  rw[this]
theorem Zo:∀(q:List B) (b:Nat),(jg b q).length=q.length
 | [],_=>rfl
 | (s,n)::q,b=>by simp[jg,Zo q]
theorem zC9{rs:List Int}{k:Nat}(h:k<rs.length):atI (rs.map D.int) (k:Int)=some (.int rs[k]):=by
 have:(k:Int)<rs.length:=by omega
 simp[atI,ixN,this,h]
theorem tot_rle(p:List Int):tot (rle p)=p.length:=by rw[uD,ZJ]
theorem zDA(p:List Int):(rle p).length<=p.length:=by
 induction p with
 |nil=>exact le_refl _
 |cons a p ih =>
  show(jC a (rle p)).length<=_
  cases h:rle p with
  |nil=>simp[jC]
  |cons x r =>
   rw[h]at ih;obtain⟨b,n⟩:=x;simp only[jC];split<;>simp at ih ⊢<;>omega
def Z9:Bx:=(.bOne (.sIf (.tOr (.tE (.cmp .eq (.var 3) (.cB .len (.cons (.var 0) .nil)))) (.tE (.cmp .ne (.ix (.var 0) (.var 3)) (.ix (.var 0) (.var 2))))) (.bSeq (.sApp 1 (.tup (.cons (.ix (.var 0) (.var 2)) (.cons (.var 2) (.cons (.bin .sub (.var 3) (.var 2)) .nil)))))
  (.bOne (.sSet 2 (.var 3)))) .bNil))
def RunI(rs:List Int)(k:Nat)(E:zP):Prop:=∃(p:List Int) (s3:DV.Slot),E=[.val (J4 rs),.own (jg 0 (rle p)),.val (.int p.length),s3]/\jl s3=true/\p.length<=20 /\
 ((k<rs.length/\∃a c,rs.take (k+1)=p++replicate (c+1) a/\∀z,p.getLast?=some z->z≠a)\/(k=rs.length/\p=rs))
theorem zDB{rs:List Int}(h:Row rs)(k:Nat)(hk:k<rs.length)(E:zP)(hI:RunI rs k E):∃E1 E2,gN 3 (.int (1+(k:Int))) E=.ok E1/\dB zi Z9 E1=.ok (.nx,E2)/\RunI rs (k+1) E2:=by
 obtain⟨p,s3,hE,h3,hp,hc⟩:=hI;obtain⟨a,c,ht,hl⟩:∃a c,rs.take (k+1)=p++replicate (c+1) a/\∀z,p.getLast?=some z->z≠a:=by
  rcases hc with⟨_,q⟩|⟨z,_⟩
  ·exact q
  ·omega
 have hlen:p.length+(c+1)=k+1:=by
  have:=congrArg length ht;simp at this;omega
 have hpk:p.length<rs.length:=by omega
 have hra:rs[p.length]=a:=by
  have h1:(rs.take (k+1))[p.length]?=some a:=by
   rw[ht,getElem?_append_right (le_refl _)];simp
  rw[List.getElem?_take_of_lt (by omega),getElem?_eq_getElem hpk]at h1;exact Option.some.inj h1
 have eb:=zC9 hpk;rw[hra]at eb;have h20:=h.1;have hcap:(jg 0 (rle p)).length<1000000:=by
  rw[Zo];have:=zDA p;omega
 have sub:(1+(k:Int))-(p.length:Int)=((c+1:Nat):Int):=by omega
 have app:jg 0 (rle p)++[.tup [.int a,.int (p.length:Int),.int ((c+1:Nat):Int)]]=jg 0 (rle (rs.take (k+1))):=by
  rw[ht,Wt a c p hl,QM,tot_rle,zero_add]
 have t1:gN 3 (.int (1+(k:Int))) E=.ok [.val (J4 rs),.own (jg 0 (rle p)),.val (.int p.length),.val (.int (1+(k:Int)))]:=by
  subst hE;cases s3<;>first|rfl|(cases h3)
 have ix:ixD (J4 rs) (.int (p.length:Int))=some (.val (.int a)):=by rw[zCu,eb];rfl
 have sb:W0 (.int (1+(k:Int))) (.int (p.length:Int))=some (.val (.int ((c+1:Nat):Int))):=by rw[<- sub];rfl
 have len:zDz [J4 rs]=some (.val (.int rs.length)):=by simp only[zDz,length_map]
 have app1:dB zi (.bSeq (.sApp 1 (.tup (.cons (.ix (.var 0) (.var 2)) (.cons (.var 2) (.cons (.bin .sub (.var 3) (.var 2)) .nil))))) (.bOne (.sSet 2 (.var 3)))) [.val (J4 rs),.own (jg 0 (rle p)),.val (.int p.length),.val (.int (1+(k:Int)))]=.ok (.nx,[.val (J4 rs),.own (jg 0 (rle p)++[.tup [.int a,.int (p.length:Int),.int ((c+1:Nat):Int)]]),.val (.int (1+(k:Int))),.val (.int (1+(k:Int)))]) :=
  zN (s_app rfl (QD (zD (zDS (zA rfl) (zA rfl) ix) (zD (zA rfl) (zD (zS (zA rfl) (zA rfl) sb) zT))) rfl (by simp[cap])) rfl hcap rfl) (zX (jN (zA rfl) rfl))
 by_cases ce:k+1=rs.length
 ·have ce':(1+(k:Int))=(rs.length:Int):=by omega
  refine⟨_,[.val (J4 rs),.own (jg 0 (rle (rs.take (k+1)))),.val (.int ((rs.take (k+1)).length:Nat)),.val (.int (1+(k:Int)))],t1,?_,rs.take (k+1),_,rfl,rfl,by simp;omega,.inr ⟨ce,by rw[ce,List.take_length]⟩⟩;rw[<- app];have e4:((rs.take (k+1)).length:Int)=1+(k:Int):=by simp;omega
  rw[e4];exact zX (YJ (t_orT (t_E (zf (zA rfl) (YS (zD (zA rfl) zT) len) (by
   show eqG (.int (1+(k:Int))) (.int (rs.length:Int))=_
   rw[eq_int,decide_eq_true ce'])))) app1)
 ·have ce':¬(1+(k:Int))=(rs.length:Int):=by omega
  have hk1:k+1<rs.length:=by omega
  have en:=zC9 hk1;have en':atI (rs.map D.int) (1+(k:Int))=some (.int rs[k+1]):=by
   rw[show(1+(k:Int))=((k+1:Nat):Int)by omega];exact en
  have ix2:ixD (J4 rs) (.int (1+(k:Int)))=some (.val (.int rs[k+1])):=by rw[zCu,en'];rfl
  have eqF:eqG (.int (1+(k:Int))) (.int (rs.length:Int))=some (.val (.bl false)):=by rw[eq_int,decide_eq_false ce']
  have tk:rs.take (k+1+1)=rs.take (k+1)++[rs[k+1]]:=List.take_succ_eq_append_getElem hk1;by_cases cn:rs[k+1]=a
  ·refine⟨_,[.val (J4 rs),.own (jg 0 (rle p)),.val (.int p.length),.val (.int (1+(k:Int)))],t1,?_,p,_,rfl,rfl,hp,.inl ⟨hk1,a,c+1,?_,hl⟩⟩
   ·exact zX (jO (zDT (t_E (zf (zA rfl) (YS (zD (zA rfl) zT) len) eqF)) (t_E (zf (zDS (zA rfl) (zA rfl) ix2) (zDS (zA rfl) (zA rfl) ix) (by
     show neG (.int rs[k+1]) (.int a)=_
     rw[ne_int,decide_eq_true cn];rfl)))) jP)
   ·rw[tk,ht,cn,append_assoc,<- List.replicate_succ']
  ·refine⟨_,[.val (J4 rs),.own (jg 0 (rle (rs.take (k+1)))),.val (.int ((rs.take (k+1)).length:Nat)),.val (.int (1+(k:Int)))],t1,?_,rs.take (k+1),_,rfl,rfl,by simp;omega,.inl ⟨hk1,rs[k+1],0,by rw[tk];rfl,λz hz=>?_⟩⟩
   ·rw[<- app]
    have e4:((rs.take (k+1)).length:Int)=1+(k:Int):=by simp;omega
    rw[e4];exact zX (YJ (zDT (t_E (zf (zA rfl) (YS (zD (zA rfl) zT) len) eqF)) (t_E (zf (zDS (zA rfl) (zA rfl) ix2) (zDS (zA rfl) (zA rfl) ix) (by
     show neG (.int rs[k+1]) (.int a)=_
     rw[ne_int,decide_eq_false cn];rfl)))) app1)
   ·rw[ht,List.replicate_succ',<- append_assoc]at hz
    simp at hz
    rw[<- hz];exact λq=>cn q.symm
end My
namespace My
open PySem L2 DV RM
theorem zDC{rs:List Int}(h:Row rs):∃s3,jl s3=true/\DV.W6 (gN 3) (dB zi Z9) (DV.zM 1 rs.length) [.val (J4 rs),.own [],.val (.int 0),.emp]=.ok (.nx,[.val (J4 rs),.own (jg 0 (rle rs)),.val (.int rs.length),s3]):=by
 have h20:=h.1;have jx:RunI rs 0 [.val (J4 rs),.own [],.val (.int 0),.emp]:=by
  refine⟨[],.emp,rfl,rfl,by simp,?_⟩;by_cases hz:0<rs.length
  ·refine .inl ⟨hz,rs[0],0,?_,λz hz=>by cases hz⟩
   rw[List.take_succ_eq_append_getElem hz];simp
  ·exact .inr ⟨by omega,(List.eq_nil_of_length_eq_zero (by omega)).symm⟩
 obtain⟨E',e1,p,s3,hE,h3,_,hc⟩:=jY (tg:=gN 3) (body:=dB zi Z9) (RunI rs) (DV.zM 1 rs.length) 0 _ jx
  (λi d e E hI=>by
   obtain⟨hi,rfl⟩:=Jc _ _ _ _ e;rw[zero_add]at hI ⊢;exact zDB h i hi E hI)
 rw[jk,zero_add]at hc;have hp:p=rs:=by
  rcases hc with⟨z,_⟩|⟨_,q⟩
  ·omega
  ·exact q
 subst hp;exact⟨s3,h3,by rw[e1,hE]⟩
theorem zAs{fs:List FI}{a b:_}{E E1:zP}(h:dS fs a E=.ok (.nx,E1)):dB fs (.bSeq a b) E=dB fs b E1:=by
 simp only[dB,W5,h]
theorem one_ok{fs:List FI}{a:_}{E:zP}:dB fs (.bOne a) E=dS fs a E:=by simp only[dB]
theorem fn_ret{n:Nat}{b:MS}{ss:List DV.Slot}{r:R}{E':zP}(h:b (ss++replicate (n-ss.length) .emp)=.ok (.ret r,E')):fnM n b ss=.ok (r,zw ss E'):=by
 simp only[fnM,h]
theorem zDD{rs:List Int}(h:Row rs):Yq [.val (J4 rs)]=.ok (.own (jg 0 (rle rs)),[.emp]):=by
 have e0:=uF h;have h20:=h.1;obtain⟨s3,h3,e1⟩:=zDC h;have a1:dS zi (.sDrop (.call 0 (.ev (.var 0) .nil))) [.val (J4 rs),.emp,.emp,.emp]=.ok (.nx,[.val (J4 rs),.emp,.emp,.emp]):=by
  simp[zi,fnM,dB,dS,dE,dG,dT,dA,dI,dO,sRet,sIf,W5,Gg,sSet,Yj,R.slot,GG,eOr,GF,jh,zm,Zr,eC,zJ,fiF,fiX,R.d,zG,yl,Cp.b,Cp.f,Op2.f,Bi.f,Ty.s,yr,yq,jF,jG,jH,va,wZ,wj,tT,Ji,eCB,wk,Gc,Gd,Ge,Zv,W1,Tg.m,eqG,eqF,neG,neF,W8,uN,ZA,YR,sDrop,e0]
 have a2:dS zi (.sSet 1 (.lst .nil)) [.val (J4 rs),.emp,.emp,.emp]=.ok (.nx,[.val (J4 rs),.own [],.emp,.emp]):=by
  simp[zi,fnM,dB,dS,dE,dG,dT,dA,dI,dO,sRet,sIf,W5,Gg,sSet,Yj,R.slot,GG,eOr,GF,jh,zm,Zr,eC,zJ,fiF,fiX,R.d,zG,yl,Cp.b,Cp.f,Op2.f,Bi.f,Ty.s,yr,yq,jF,jG,jH,va,wZ,wj,tT,Ji,eCB,wk,Gc,Gd,Ge,Zv,W1,Tg.m,eqG,eqF,neG,neF,W8,uN,ZA,YR,cap]
 have a3:dS zi (.sSet 2 (.c (.int 0))) [.val (J4 rs),.own [],.emp,.emp]=.ok (.nx,[.val (J4 rs),.own [],.val (.int 0),.emp]):=by
  simp[zi,fnM,dB,dS,dE,dG,dT,dA,dI,dO,sRet,sIf,W5,Gg,sSet,Yj,R.slot,GG,eOr,GF,jh,zm,Zr,eC,zJ,fiF,fiX,R.d,zG,yl,Cp.b,Cp.f,Op2.f,Bi.f,Ty.s,yr,yq,jF,jG,jH,va,wZ,wj,tT,Ji,eCB,wk,Gc,Gd,Ge,Zv,W1,Tg.m,eqG,eqF,neG,neF,W8,uN,ZA,YR]
 have a4:dS zi (.sForR2 (.cons (.c (.int 1)) (.cons (.bin .add (.cB .len (.cons (.var 0) .nil)) (.c (.int 1))) .nil)) (.n 3) Z9) [.val (J4 rs),.own [],.val (.int 0),.emp]=.ok (.nx,[.val (J4 rs),.own (jg 0 (rle rs)),.val (.int rs.length),s3]):=by
  have e:zA5 (.int ((rs.map D.int).length:Nat)) (.int 1)=some (.val (.int ((rs.length:Int)+1))):=by rw[length_map];rfl
  refine s_forR2 (zD x_c (zD (zS (YS (zD (zA rfl) zT) rfl) x_c e) zT)) rfl rfl (by omega) (by omega) ?_;rw[show((rs.length:Int)+1-1).toNat=rs.length by omega];exact e1
 have a5:dS zi (.sRet (.mov 1)) [.val (J4 rs),.own (jg 0 (rle rs)),.val (.int rs.length),s3]=.ok (.ret (.own (jg 0 (rle rs))),[.val (J4 rs),.emp,.val (.int rs.length),s3]):=by
  simp[zi,fnM,dB,dS,dE,dG,dT,dA,dI,dO,sRet,sIf,W5,Gg,sSet,Yj,R.slot,GG,eOr,GF,jh,zm,Zr,eC,zJ,fiF,fiX,R.d,zG,yl,Cp.b,Cp.f,Op2.f,Bi.f,Ty.s,yr,yq,jF,jG,jH,va,wZ,wj,tT,Ji,eCB,wk,Gc,Gd,Ge,Zv,W1,Tg.m,eqG,eqF,neG,neF,W8,uN,ZA,YR,zD3]
 unfold Yq;refine(fn_ret (r:=.own (jg 0 (rle rs))) (E':=[.val (J4 rs),.emp,.val (.int rs.length),s3]) ?_).trans rfl;show dB zi (.bSeq _ (.bSeq _ (.bSeq _ (.bSeq _ (.bOne _))))) [.val (J4 rs),.emp,.emp,.emp]=_;exact(zAs a1).trans ((zAs a2).trans ((zAs a3).trans ((zAs a4).trans (one_ok.trans a5))))
end My
namespace My
open PySem L2 DV RM
abbrev T3:=Int×Nat×Nat
def tD(t:T3):D:=.tup [.int t.1,.int t.2.1,.int t.2.2]
def fg(t:T3):B:=(t.1,t.2.2)
def Wv:Nat->List B->List T3
 |_,[]=>[]
 |b,(s,n)::r=>(s,b,n)::Wv (b+n) r
theorem zAt:∀(q:List B) (b:Nat),jg b q=(Wv b q).map tD
 | [],_=>rfl
 | (s,n)::q,b=>by simp only[jg,Wv,map_cons,zAt q];rfl
theorem zAu:∀(q:List B) (b:Nat),(Wv b q).map fg=q
 | [],_=>rfl
 | (s,n)::q,b=>by simp only[Wv,map_cons,zAu q];rfl
theorem Zq:∀(q:List B) (b:Nat),(Wv b q).length=q.length
 | [],_=>rfl
 | (s,n)::q,b=>by simp[Wv,Zq q]
def ln3:D->D
 | .tup [_,_,c]=>c
 |_=>.non
def pat3:D->List DV.Slot
 | .tup [a,b,c]=>[.val a,.val b,.val c]
 |_=>[]
theorem ZK(l:List T3)(hl:l.length<=1000):yi [.val (.lst (l.map tD))]=.ok (.val (.int (RM.top (l.map λt=>t.2.2):Nat)),[.emp]):=by
 have hc:=ud (vs:=[]) (nl:=3) (caps:=[]) (tg:=gT [0,1,2]) (tt:=jf) (el:=Zr 2) pat3 (λ_=>true) ln3 (l.map tD)
  (λd hd S hS hn=>by obtain⟨t,_,rfl⟩:=mem_map.mp hd;exact zFe hS hn)
  (λd hd=>by obtain⟨t,_,rfl⟩:=mem_map.mp hd;exact⟨rfl,λs hs=>by simp[pat3,tD]at hs;rcases hs with rfl|rfl|rfl<;>rfl⟩)
  (λd hd=>rfl)
  (λd hd _=>by obtain⟨t,_,rfl⟩:=mem_map.mp hd;exact⟨.val (.int t.2.2),rfl,rfl⟩)
  (by simp[cap];omega) (mi:=iL (Zr 0)) (E:=[.val (.lst (l.map tD))]) (E1:=[.val (.lst (l.map tD))]) rfl rfl
 have e2:((l.map tD).filter (λ_=>true)).map ln3=(l.map λt=>((t.2.2:Nat):Int)).map D.int:=by
  rw[filter_eq_self.mpr (λ_ _=>rfl),map_map,map_map];rfl
 rw[e2]at hc;have e3:=zCq (l.map λt=>t.2.2);rw[map_map]at e3;have e4:(l.map λt=>((t.2.2:Nat):Int))=l.map ((λ(n:Nat)=>(n:Int)) ∘ λt=>t.2.2):=rfl;rw[e4]at hc;have e5:Jk ((l.map ((λ(n:Nat)=>(n:Int)) ∘ λt=>t.2.2)).map D.int)=some _:=Wu _;generalize hg:(l.map ((λ(n:Nat)=>(n:Int)) ∘ λt=>t.2.2))=g at hc e3 e5;simp[yi,jV,wF,fnM,dB,dS,dE,dG,dT,dA,dI,dO,sRet,sIf,W5,Gg,sSet,Yj,R.slot,GG,eOr,GF,jh,zm,Zr,eC,zJ,fiF,fiX,R.d,zG,yl,Cp.b,Cp.f,Op2.f,Bi.f,Ty.s,yr,yq,jF,jG,jH,va,wZ,wj,tT,Ji,eCB,wk,Gc,Gd,Ge,Zv,W1,Tg.m,eqG,eqF,neG,neF,W8,uN,ZA,YR,hc,zCO,e5,e3]
theorem vN(l:List T3)(s:Int)(hl:l.length<=1000):jZ [.val (.lst (l.map tD)),.val (.int s)]=.ok (.own ((l.filter λt=>t.1==s).map tD),[.emp,.emp]):=by
 have hc:=ud (vs:=[.int s]) (nl:=1) (caps:=[1]) (tg:=gN 0) (tt:=tT (Ji eqG (Ji ixD (Zr 0) (eC (.int 0))) (Zr 1))) (el:=Zr 0) (λd=>[.val d]) (λd=>match d with | .tup (.int a::_)=>a==s|_=>false) id (l.map tD)
  (λd hd S hS hn=>zCh hS hn)
  (λd hd=>⟨rfl,λz hz=>by simp at hz;subst hz;rfl⟩)
  (λd hd=>by
   obtain⟨t,_,rfl⟩:=mem_map.mp hd;simp[fnM,dB,dS,dE,dG,dT,dA,dI,dO,sRet,sIf,W5,Gg,sSet,Yj,R.slot,GG,eOr,GF,jh,zm,Zr,eC,zJ,fiF,fiX,R.d,zG,yl,Cp.b,Cp.f,Op2.f,Bi.f,Ty.s,yr,yq,jF,jG,jH,va,wZ,wj,tT,Ji,eCB,wk,Gc,Gd,Ge,Zv,W1,Tg.m,eqG,eqF,neG,neF,W8,uN,ZA,YR,ixD,atI,ixN,tD];rfl)
  (λd hd _=>⟨.val d,rfl,rfl⟩)
  (by simp[cap];omega) (mi:=iL (Zr 0)) (E:=[.val (.lst (l.map tD)),.val (.int s)]) (E1:=[.val (.lst (l.map tD)),.val (.int s)]) rfl rfl
 have e2:((l.map tD).filter (λd=>match d with | .tup (.int a::_)=>a==s|_=>false)).map id=(l.filter λt=>t.1==s).map tD:=by
  rw[List.map_id,List.filter_map];rfl
 rw[e2]at hc;simp[jZ,wQ,JN,fnM,dB,dS,dE,dG,dT,dA,dI,dO,sRet,sIf,W5,Gg,sSet,Yj,R.slot,GG,eOr,GF,jh,zm,Zr,eC,zJ,fiF,fiX,R.d,zG,yl,Cp.b,Cp.f,Op2.f,Bi.f,Ty.s,yr,yq,jF,jG,jH,va,wZ,wj,tT,Ji,eCB,wk,Gc,Gd,Ge,Zv,W1,Tg.m,eqG,eqF,neG,neF,W8,uN,ZA,YR,hc]
end My
namespace My
open PySem L2 DV RM
theorem lens3(s:Int)(l:List T3):(l.filter λt=>t.1==s).map (λt=>t.2.2)=zCr s (l.map fg):=by
 unfold zCr;rw[List.filter_map,map_map];rfl
theorem few3(rs:List Int)(h:Row rs):(Wv 0 (rle rs)).length<=20:=by
 rw[Zq];have:=zDA rs;have:=h.1;omega
theorem zDE{rs:List Int}(h:Row rs){s:Int}(hs:0<=s/\s<=2):JO [.val (J4 rs),.val (.int s)]=.ok (.val (.int (best s (rle rs):Nat)),[.emp,.emp]):=by
 have f:=few3 rs h;have e3:=zDD h;rw[zAt]at e3;have e4:=vN (Wv 0 (rle rs)) s (by omega);have e5:=ZK ((Wv 0 (rle rs)).filter λt=>t.1==s) (by have:=List.length_filter_le (λt=>t.1==s) (Wv 0 (rle rs));omega);rw[lens3,zAu]at e5;exact yH (zN (yT (wU rfl (zA rfl) (uF h))) (zN (yT (zg rfl (zA rfl) Wq (YN (.int s) 3 rfl (by simp only[Z7,Bool.and_eq_true,decide_eq_true_eq];omega)))) (zX (yI (wU rfl (zg rfl (wU rfl (zA rfl) e3) (zA rfl) e4) e5))))) rfl
theorem at_first(x:T3)(l:List T3):atI (tD x::l.map tD) 0=some (tD x):=by
 have:(0:Int)<(l.length:Int)+1:=by omega
 simp[atI,ixN,this]
theorem zE9(ds:List D)(i:Int):ixD (.tup ds) (.int i)=(atI ds i).map .val:=rfl
end My
namespace My
open PySem L2 DV SM
theorem x_or1{fs:List FI}{E E1:zP}{a b:_}(h:dE fs a E=.ok (.val (.bl true),E1)):dE fs (.or a b) E=.ok (.val (.bl true),E1):=by simp only[dE,eOr,h]
theorem x_or0{fs:List FI}{E E1:zP}{a b:_}{o:Out (R×zP)}(h:dE fs a E=.ok (.val (.bl false),E1))(h1:dE fs b E1=o):dE fs (.or a b) E=o:=by subst h1;simp only[dE,eOr,h]
theorem zEr{m:Nat}(hm:2<=m/\m<=3):W0 (.int (m:Int)) (.int 1)=some (.val (.int ((m-1:Nat):Int))):=j5 (b:=1) (by omega)
theorem QN{m n:Nat}(hm:2<=m/\m<=3)(hn:n<=40):wI [.val (.int (m:Nat)),.val (.int (n:Nat))]=.ok (.own (N (GI 1 (m-1) n)),O2) :=
 yH (zN (yT (zg (F:=zI) rfl (zA rfl) (zA rfl) (zy hm hn))) (zX (yI (zR (F:=jm) rfl x_c (zS (zA rfl) x_c (zEr hm)) (zA rfl) (GB (w:=1) (o:=m-1) (by omega) hn))))) rfl
def QO(m n:Nat):List Nat:=(List.range (n+1)).map (Aj m n)
theorem GD{m n:Nat}(hm:2<=m/\m<=3)(hn:n<=39):jn [.val (.int (m:Nat)),.val (.int (n:Nat))]=.ok (.own (N (QO m n)),O2):=by
 have hi:dI wS (.iR1 (.cons (.bin .add (.var 1) (.c (.int 1))) .nil)) [.val (.int (m:Nat)),.val (.int (n:Nat))]=.ok (N (List.range (n+1)),[.val (.int (m:Nat)),.val (.int (n:Nat))]):=by
  have:=i_R1 (fs:=wS) (E:=[.val (.int (m:Nat)),.val (.int (n:Nat))]) (a:=.cons (.bin .add (.var 1) (.c (.int 1))) .nil) (j:=((n+1:Nat):Int)) (zD (zS (zA rfl) x_c rfl) zT) rfl ⟨by omega,by omega⟩;rw[Int.toNat_natCast,zAm]at this;exact this
 refine yH (zN (yT (zg (F:=zI) rfl (zA rfl) (zA rfl) (zy hm (by omega)))) (zX (yI (wV (vs:=[.int (m:Nat),.int (n:Nat)]) (λd=>match d with | .int i=>.int ((Aj m n i.toNat:Nat):Int)|d=>d) hi rfl (λd hd=>?_) (by rw[YL];simp[cap];omega) ?_)))) rfl
 ·obtain⟨k,hk,rfl⟩:=zCv hd
  have:=mem_range.mp hk;exact⟨_,zR (F:=jA) rfl (zA rfl) (zA rfl) (zA rfl) (Zn ⟨hm,by omega,by omega⟩),rfl⟩
 ·simp only[N,QO,map_map]
  apply map_congr_left;intro k _;simp
theorem QP{m n:Nat}(hm:2<=m/\m<=3)(hn:n<=40):wJ [.val (.int (m:Nat)),.val (.int (n:Nat)),.val (.int 1)]=.ok (.val (.int ((Vr 1 (m-1) n 1:Nat):Int)),O3) :=
 yH (zN (yT (zg (F:=zI) rfl (zA rfl) (zA rfl) (zy hm hn))) (zN (yT (zR (F:=zF) rfl (zA rfl) x_c Wq (zd _ 1 40 rfl rfl))) (zX (yI (jW (F:=wH) rfl x_c (zS (zA rfl) x_c (zEr hm)) (zA rfl) (zA rfl) (QL (w:=1) (o:=m-1) (k:=1) (by omega) (by omega) (by omega))))))) rfl
def mb(m:Nat):Nat->List Nat
 |0=>[0,m]
 |i+1=>zipWith (·+·) (mb m i++[0]) (0::(mb m i).map ((m-1)*·))
theorem zDF(m:Nat):∀i,(mb m i).length=i+2
 |0=>rfl
 |i+1=>by simp[mb,zDF m i]
def rbs(m n:Nat):List Nat:=if n=0 then [1]else mb m (n-1)
def addP:D->D
 | .tup [.int a,.int b]=>.int (a+b)
 |d=>d
theorem zDG:∀(a b:List Nat),(zipWith Zu (N a) (N b)).map addP=N (zipWith (·+·) a b)
 | [],_=>rfl
 |_::_,[]=>rfl
 |x::a,y::b=>by
  have ih:=zDG a b;simp only[N,map_cons,List.zipWith_cons_cons]at ih ⊢;rw[ih];rfl
theorem JA:∀{a b:List Nat} {d:D},d∈zipWith Zu (N a) (N b)->∃x y:Nat,d=.tup [.int (x:Nat),.int (y:Nat)]
 | [],_,d,h=>by simp[N]at h
 |_::_,[],d,h=>by simp[N]at h
 |x::a,y::b,d,h=>by
  simp only[N,map_cons,List.zipWith_cons_cons,mem_cons]at h;rcases h with rfl|h
  ·exact⟨x,y,rfl⟩
  ·exact JA (a:=a) (b:=b) h
def InB(m n:Nat)(i:Nat)(E:zP):Prop:=∃s2 s3 s4 s5,E=[.val (.int (m:Nat)),.val (.int (n:Nat)),s2,s3,s4,s5]/\(s2=.own (N (mb m i))\/s2=.val (.lst (N (mb m i))))/\jl s3=true/\jl s4=true/\jl s5=true
theorem step_b{m n:Nat}(hm:2<=m/\m<=3)(i:Nat)(hi:i<=40)(s2 x s4 s5:DV.Slot)(h2:s2=.own (N (mb m i))\/s2=.val (.lst (N (mb m i))))(hx:jl x=true)(h4:jl s4=true)(h5:jl s5=true):∃E2,dB zo yp [.val (.int (m:Nat)),.val (.int (n:Nat)),s2,x,s4,s5]=.ok (.nx,E2)/\InB m n (i+1) E2:=by
 have ln:=zDF m i;have a1:=YK (N (mb m i)) [.int 0] (by rw[YL];simp;omega);have e1:N (mb m i)++[.int 0]=N (mb m i++[0]):=by rw[N_app];rfl
 rw[e1]at a1;have c1:dE zo (.comp 1 ["rows"] ["m"] [0] (.iL (.var 2)) (.n 0) .tTr (.bin .mul (.bin .sub (.var 1) (.c (.int 1))) (.var 0))) [.val (.int (m:Nat)),.val (.int (n:Nat)),.val (.lst (N (mb m i))),x,.own (N (mb m i++[0])),s5]=.ok (.own (N ((mb m i).map ((m-1)*·))),[.val (.int (m:Nat)),.val (.int (n:Nat)),.val (.lst (N (mb m i))),x,.own (N (mb m i++[0])),s5]):=by
  refine wV (ds:=N (mb m i)) (vs:=[.int (m:Nat)]) (λd=>match d with | .int j=>.int (((m-1)*j.toNat:Nat):Int)|d=>d) (i_L (zA rfl) rfl) rfl (λd hd=>?_) (by rw[YL,ln];simp[cap];omega) ?_
  ·obtain⟨k,hk,rfl⟩:=zCv hd
   have x1:dE zo (.bin .sub (.var 1) (.c (.int 1))) [.val (.int (k:Nat)),.val (.int (m:Nat))]=.ok (.val (.int ((m-1:Nat):Int)),[.val (.int (k:Nat)),.val (.int (m:Nat))]):=zS (zA rfl) x_c (zEr hm);have ms:=jQ (m-1) k (by omega);generalize hv:(((m-1)*k:Nat):Int)=v at ms;generalize hw:((m-1:Nat):Int)=w at x1 ms;have x2:dE zo (.bin .mul (.bin .sub (.var 1) (.c (.int 1))) (.var 0)) [.val (.int (k:Nat)),.val (.int (m:Nat))]=.ok (.val (.int v),[.val (.int (k:Nat)),.val (.int (m:Nat))]):=zS x1 (zA rfl) ms;exact⟨.val (.int v),x2,by rw[<- hv];simp[R.d]⟩
  ·simp only[N,map_map]
   apply map_congr_left;intro k _;simp
 have a2:=YK [.int 0] (N ((mb m i).map ((m-1)*·))) (by rw[YL,length_map];simp;omega);have e2:[D.int 0]++N ((mb m i).map ((m-1)*·))=N (0::(mb m i).map ((m-1)*·)):=rfl;rw[e2]at a2;have c2:dE zo (.comp 2 ["one","more"] [] [] (.iZ false false (.cons (.var 4) (.cons (.var 5) .nil))) (.t [0,1]) .tTr (.bin .add (.var 0) (.var 1))) [.val (.int (m:Nat)),.val (.int (n:Nat)),.val (.lst (N (mb m i))),x,.own (N (mb m i++[0])),.own (N (0::(mb m i).map ((m-1)*·)))]=.ok (.own (N (mb m (i+1))),[.val (.int (m:Nat)),.val (.int (n:Nat)),.val (.lst (N (mb m i))),x,.val (.lst (N (mb m i++[0]))),.val (.lst (N (0::(mb m i).map ((m-1)*·))))]):=by
  refine vz (vs:=[]) pat2 (λ_=>true) addP (i_Z (zD (zAa rfl rfl) (zD (zAa rfl rfl) zT)) rfl rfl) rfl (λd hd S hS hn=>?_) (λd hd=>?_) (λd hd=>?_) (λd hd _=>?_) (by simp[N,ln,cap];omega) (by rw[filter_eq_self.mpr (λ_ _=>rfl),zDG];rfl)
  ·obtain⟨a,b,rfl⟩:=JA hd
   match S,hS,hn with
   | [u,v],_,hn =>
    have h1:=hn u (by simp);have h2:=hn v (by simp);cases u<;>first|(cases h1;done)|(cases v<;>first|rfl|(cases h2))
  ·obtain⟨a,b,rfl⟩:=JA hd
   refine⟨rfl,λs hs=>?_⟩;simp only[pat2,mem_cons,mem_nil_iff,or_false]at hs;rcases hs with rfl|rfl<;>rfl
  ·simp only[dT,jf]
  ·obtain⟨a,b,rfl⟩:=JA hd
   exact⟨_,zS (zA rfl) (zA rfl) rfl,rfl⟩
 refine⟨_,zN (jN (zS (zEj h2 rfl rfl) (Jp (zD x_c zT) rfl yx) a1) (JV rfl h4 rfl)) (zN (jN (zS (Jp (zD x_c zT) rfl yx) c1 a2) (JV rfl h5 rfl)) (zX (jN c2 (JV rfl rfl rfl)))),_,_,_,_,rfl,.inl rfl,hx,rfl,rfl⟩
theorem vO{m n:Nat}(hm:2<=m/\m<=3)(hn:n<=40):∃r,ja [.val (.int (m:Nat)),.val (.int (n:Nat))]=.ok (r,O2)/\r.d=.lst (N (rbs m n)):=by
 by_cases h0:n=0
 ·subst h0
  exact⟨.own [.int 1],yH (zN (yT (zg (F:=zI) rfl (zA rfl) (zA rfl) (zy hm hn))) (ZI (YJ (t_E (zf (zA rfl) x_c rfl)) (zX (yI (Jp (zD x_c zT) rfl yx)))))) rfl,rfl⟩
 ·obtain⟨E',f1,s2,s3,s4,s5,hE,h2,h3,h4,h5⟩:=jY (tg:=gN 3) (body:=dB zo yp) (λi E=>InB m n i E) (DV.zM 0 (n-1)) 0 [.val (.int (m:Nat)),.val (.int (n:Nat)),.own (N (mb m 0)),.emp,.emp,.emp] ⟨_,_,_,_,rfl,.inl rfl,rfl,rfl,rfl⟩
   (λi d q E ⟨s2,s3,s4,s5,hE,h2,h3,h4,h5⟩=>by
    have hi:i<n-1:=by
     have:=(List.getElem?_eq_some_iff.mp q).1
     rwa [jk]at this
    rw[zero_add]at h2 ⊢;obtain⟨E2,f,g⟩:=step_b (n:=n) hm i (by omega) s2 (.val d) s4 s5 h2 rfl h4 h5;refine⟨[.val (.int (m:Nat)),.val (.int (n:Nat)),s2,.val d,s4,s5],E2,?_,f,g⟩;subst hE;cases s3<;>first|rfl|(cases h3))
  rw[jk,zero_add]at h2;subst hE;have eq:eqG (.int (n:Int)) (.int 0)=some (.val (.bl false)):=by rw[eq_int,decide_eq_false (by omega)]
  have sb:W0 (.int (n:Int)) (.int 1)=some (.val (.int ((n-1:Nat):Int))):=j5 (b:=1) (by omega);have rb:rbs m n=mb m (n-1):=if_neg h0;have fo:=ZH (fs:=zo) (E:=[.val (.int (m:Nat)),.val (.int (n:Nat)),.own (N (mb m 0)),.emp,.emp,.emp]) (a:=.cons (.bin .sub (.var 1) (.c (.int 1))) .nil) (tg:=.n 3) (b:=yp) (j:=((n-1:Nat):Int)) (zD (zS (zA rfl) x_c sb) zT) rfl ⟨by omega,by omega⟩ (by rw[Int.toNat_natCast];exact f1);rw[rb];exact⟨.val (.lst (N (mb m (n-1)))),yH (zN (yT (zg (F:=zI) rfl (zA rfl) (zA rfl) (zy hm hn))) (zN (jO (t_E (zf (zA rfl) x_c eq)) jP) (zN (jN (Jp (ds:=N (mb m 0)) (zD x_c (zD (zA rfl) zT)) rfl zCk) rfl) (zN fo (zX (yI (zEj h2 rfl rfl))))))) rfl,rfl⟩
end My
namespace My
open PySem L2 DV SM
theorem JY{a b c:D}:[a,b,c].length<=cap:=by simp only[length_cons,length_nil,cap];omega
abbrev bD(s:Nat)(r:List Nat):D:=.tup [.tup (N r),.int ((stt s r).2:Nat),.int ((stt s r).1:Nat)]
theorem Ww(s:Nat)(r:List Nat)(x:Nat):stt s (r++[x])=stp s (stt s r) x:=by simp[stt]
theorem max_nat(a b:Nat):W8 [.int (a:Nat),.int (b:Nat)]=some (.val (.int ((max a b:Nat):Int))):=by
 have:(if(b:Int) > a then(b:Int)else a)=((max a b:Nat):Int):=by split<;>omega
 simp only[W8,uN,this]
theorem grown0{s x b e:Nat}{r:List Nat}(hr:r.length<=1000):wb [.val (.tup [.tup (N r),.int (e:Nat),.int (b:Nat)]),.val (.int (x:Nat)),.val (.int (s:Nat))]=.ok (.val (.tup [.tup (N (r++[x])),.int ((if x=s then e+1 else 0:Nat):Int),.int ((max b (if x=s then e+1 else 0):Nat):Int)]),O3):=by
 have a1:=add_tup (N r) [.int (x:Nat)] (by rw[YL];simp;omega);have e1:N r++[.int (x:Nat)]=N (r++[x]):=by rw[N_app];rfl
 rw[e1]at a1;have xi:dE Wj (.ifx (.tE (.cmp .eq (.var 1) (.var 2))) (.bin .add (.var 4) (.c (.int 1))) (.c (.int 0))) [.val (.tup [.tup (N r),.int (e:Nat),.int (b:Nat)]),.val (.int (x:Nat)),.val (.int (s:Nat)),.val (.tup (N r)),.val (.int (e:Nat)),.val (.int (b:Nat))]=.ok (.val (.int ((if x=s then e+1 else 0:Nat):Int)),[.val (.tup [.tup (N r),.int (e:Nat),.int (b:Nat)]),.val (.int (x:Nat)),.val (.int (s:Nat)),.val (.tup (N r)),.val (.int (e:Nat)),.val (.int (b:Nat))]):=by
  have eq:=QF x s;by_cases h:x=s
  ·rw[decide_eq_true h]at eq
   rw[if_pos h];exact x_ifx1 (t_E (zf (zA rfl) (zA rfl) eq)) (zS (zA rfl) x_c (JX e 1))
  ·rw[decide_eq_false h]at eq
   rw[if_neg h];exact x_ifx0 (t_E (zf (zA rfl) (zA rfl) eq)) x_c
 generalize (if x=s then e+1 else 0:Nat)=e' at xi;exact yH (zN (zEe (zA rfl) rfl) (zN (jN xi rfl) (zX (yI (QD (zD (zS (zA rfl) (QD (zD (zA rfl) zT) rfl yx) a1) (zD (zA rfl) (zD (YS (zD (zA rfl) (zD (zA rfl) zT)) (max_nat b e')) zT))) rfl JY))))) rfl
theorem e_grown{s x:Nat}{r:List Nat}(hr:r.length<=1000):wb [.val (bD s r),.val (.int (x:Nat)),.val (.int (s:Nat))]=.ok (.val (bD s (r++[x])),O3):=by
 have:=grown0 (s:=s) (x:=x) (b:=(stt s r).1) (e:=(stt s r).2) hr;rw[this,bD,Ww];rfl
def can(s k left:Nat)(r:List Nat):Bool:=decide ((stt s r).1=k)||(decide ((stt s r).1<k)&&decide (k<=(stt s r).2+left))
theorem e_can{s k left:Nat}(r:List Nat):jo [.val (bD s r),.val (.int (left:Nat)),.val (.int (k:Nat))]=.ok (.val (.bl (can s k left r)),O3):=by
 unfold can bD;generalize (stt s r).1=b;generalize (stt s r).2=e;have eq:=QF b k;have ad:=JX e left;by_cases h1:b=k
 ·rw[decide_eq_true h1]at eq ⊢
  exact yH (zN (zEe (zA rfl) rfl) (zX (yI (x_or1 (zf (zA rfl) (zA rfl) eq))))) rfl
 ·rw[decide_eq_false h1]at eq ⊢
  by_cases h2:b<k
  ·have c1:Cp.lt.b (b:Int) (k:Int)=true:=decide_eq_true (by omega)
   have c2:Cp.le.b (k:Int) ((e+left:Nat):Int)=decide (k<=e+left):=decide_eq_decide.mpr (by omega);rw[decide_eq_true h2];exact yH (zN (zEe (zA rfl) rfl) (zX (yI (x_or0 (zf (zA rfl) (zA rfl) eq) (Q0 (zA rfl) (zA rfl) c1 (zS (zA rfl) (zA rfl) ad) c2))))) rfl
  ·have c1:Cp.lt.b (b:Int) (k:Int)=false:=decide_eq_false (by omega)
   rw[decide_eq_false h2];exact yH (zN (zEe (zA rfl) rfl) (zX (yI (x_or0 (zf (zA rfl) (zA rfl) eq) (zAb (zA rfl) (zA rfl) c1))))) rfl
def Lt(m s n k t:Nat):List (List Nat):=(j6 m t).filter λr=>decide (t=0)||can s k (n-t) r
theorem zDH(s:Nat):∀r:List Nat,(stt s r).2<=(stt s r).1:=by
 intro r
 suffices h:∀(r:List Nat) (p:Nat×Nat),p.2<=p.1->(r.foldl (stp s) p).2<=(r.foldl (stp s) p).1 from h r (0,0) (le_refl _)
 intro r
 induction r with
 |nil=>intro p h;exact h
 |cons x r ih=>intro p h;exact ih _ (Nat.le_max_right _ _)
theorem zEs{s k left x:Nat}{r:List Nat}(h:can s k left (r++[x])=true):can s k (left+1) r=true:=by
 unfold can at *;rw[Ww]at h;have:=zDH s r;by_cases hx:x=s
 ·simp only[stp,if_pos hx,Bool.or_eq_true,Bool.and_eq_true,decide_eq_true_eq]at h ⊢
  omega
 ·simp only[stp,if_neg hx,Bool.or_eq_true,Bool.and_eq_true,decide_eq_true_eq]at h ⊢
  omega
theorem zEt{s k left m:Nat}(hm:2<=m)(hs:s<m){r:List Nat}(h:can s k (left+1) r=true):∃x,x<m/\can s k left (r++[x])=true:=by
 unfold can at *;have:=zDH s r;simp only[Bool.or_eq_true,Bool.and_eq_true,decide_eq_true_eq]at h;by_cases hb:(stt s r).1=k
 ·refine⟨if s=0 then 1 else 0,by split<;>omega,?_⟩
  rw[Ww];have ne:¬(if s=0 then 1 else 0)=s:=by split<;>omega
  simp only[stp,if_neg ne,Bool.or_eq_true,decide_eq_true_eq];left;omega
 ·refine⟨s,hs,?_⟩
  rw[Ww];simp only[stp,if_true,Bool.or_eq_true,Bool.and_eq_true,decide_eq_true_eq];omega
theorem zBO(m t:Nat):j6 m (t+1)=(j6 m t).flatMap (more m):=by first|rfl|simp[j6,more]
theorem JB{α β:Type}(p:β->Bool)(f:α->List β):∀l:List α,(l.flatMap f).filter p=l.flatMap λx=>(f x).filter p
 | []=>rfl
 |a::l=>by simp[flatMap_cons,JB p f l]
theorem Wx{α β:Type}(q:α->Bool)(f:α->List β):∀l:List α,(∀x∈l,q x=false->f x=[])->l.flatMap f=(l.filter q).flatMap f
 | [],_=>rfl
 |a::l,h=>by
  have ih:=Wx q f l λx hx=>h x (mem_cons_of_mem _ hx)
  cases e:q a with
  |true=>simp[flatMap_cons,filter_cons,e,ih]
  |false=>simp[flatMap_cons,filter_cons,e,ih,h a mem_cons_self e]
theorem zDI{m s n k t:Nat}(ht:t<n):Lt m s n k (t+1)=((Lt m s n k t).flatMap (more m)).filter (can s k (n-(t+1))):=by
 have e:(λr:List Nat=>decide (t+1=0)||can s k (n-(t+1)) r)=can s k (n-(t+1)):=by funext r;simp
 unfold Lt;rw[e,zBO,JB,JB];refine Wx _ _ _ λr _ h=>?_
 have h:can s k (n-t) r=false:=by simp only[Bool.or_eq_false_iff]at h;exact h.2
 rw[List.filter_eq_nil_iff];intro y hy q;obtain⟨x,_,rfl⟩:=mem_map.mp hy;have:=zEs q;rw[show n-(t+1)+1=n-t by omega,h]at this;cases this
theorem zAv{α β:Type}(f:α->List β):∀l:List α,(∀x∈l,1<=(f x).length)->l.length<=(l.flatMap f).length
 | [],_=>le_refl _
 |a::l,h=>by
  have ih:=zAv f l λx hx=>h x (mem_cons_of_mem _ hx)
  have:=h a mem_cons_self;simp only[flatMap_cons,length_append,length_cons];omega
theorem Lt_grow{m s n k t:Nat}(hm:2<=m)(hs:s<m)(ht:t<n)(h1:1<=t):(Lt m s n k t).length<=(Lt m s n k (t+1)).length:=by
 rw[zDI ht,JB];refine zAv _ _ λr hr=>?_
 have hc:can s k (n-(t+1)+1) r=true:=by
  have:=(mem_filter.mp hr).2;rw[show n-(t+1)+1=n-t by omega];simp only[Bool.or_eq_true,decide_eq_true_eq]at this;rcases this with h|h
  ·omega
  ·exact h
 obtain⟨x,hx,q⟩:=zEt hm hs hc;have:r++[x]∈(more m r).filter (can s k (n-(t+1))):=mem_filter.mpr ⟨mem_map.mpr ⟨x,mem_range.mpr hx,rfl⟩,q⟩;exact List.length_pos_of_mem this
theorem zDJ{m s n k:Nat}(hn:1<=n):Lt m s n k n=(j6 m n).filter λr=>decide ((stt s r).1=k):=by
 unfold Lt;congr 1;funext r;have:=zDH s r;rw[sub_self];unfold can;rw[decide_eq_false (by omega:¬n=0),Bool.false_or];by_cases h:(stt s r).1=k
 ·simp[h]
 ·simp[h];omega
theorem Lt_le{m s n k t:Nat}(hm:2<=m)(hs:s<m)(h1:1<=t)(ht:t<=n):(Lt m s n k t).length<=(Lt m s n k n).length:=by
 obtain⟨d,rfl⟩:∃d,n=t+d:=⟨n-t,by omega⟩
 suffices h:∀d':Nat,d'<=d->(Lt m s (t+d) k t).length<=(Lt m s (t+d) k (t+d')).length from h d (le_refl _)
 intro d'
 induction d' with
 |zero=>intro _;exact le_refl _
 |succ d' ih=>intro h;exact le_trans (ih (by omega)) (Lt_grow hm hs (by omega) (by omega))
end My
namespace My
open PySem L2 DV SM
theorem zDK{m:Nat}:∀(r:List Nat) (a:Nat),(∀x∈r,x<m)->r.foldl (λa x=>a*(replicate m 1).getD x 0) a=a
 | [],a,_=>rfl
 |x::r,a,h=>by
  have hx:=h x mem_cons_self;have e:(replicate m 1).getD x 0=1:=by simp[getD,hx]
  simp only[List.foldl_cons,e,Nat.mul_one];exact zDK r a λy hy=>h y (mem_cons_of_mem _ hy)
theorem zAw{α:Type}(f:α->Nat):∀l:List α,(∀x∈l,f x=1)->(l.map f).sum=l.length
 | [],_=>rfl
 |a::l,h=>by
  have ih:=zAw f l λx hx=>h x (mem_cons_of_mem _ hx)
  simp[h a mem_cons_self,ih];omega
theorem zEu{m:Nat}(hm:2<=m/\m<=3):Die (replicate m 1):=⟨by simp;omega,λx hx=>by rw[(List.mem_replicate.mp hx).2];omega⟩
theorem Q8{m s:Nat}(hm:2<=m/\m<=3)(hs:s<m)(n k:Nat):((j6 m n).filter λr=>decide ((stt s r).1<=k)).length=U 1 (m-1) k n:=by
 have g:=gone_U (zEu hm) (s:=s) (by simpa using hs) k n;rw[length_replicate]at g;have e1:(replicate m 1).getD s 0=1:=by simp[getD,hs]
 have e2:(replicate m 1).sum=m:=by simp
 rw[e1,e2,zAw]at g
 ·exact g
 ·intro r hr
  exact zDK r 1 (Q6 m n r (mem_filter.mp hr).1)
theorem QR{α:Type}(f:α->Nat)(k:Nat):∀l:List α,(l.filter λr=>decide (f r<=k+1)).length=(l.filter λr=>decide (f r<=k)).length+(l.filter λr=>decide (f r=k+1)).length
 | []=>rfl
 |a::l=>by
  have ih:=QR f k l;simp only[filter_cons,decide_eq_true_eq];split<;>split<;>split<;>(try simp only[length_cons])<;>omega
theorem zDL{m s:Nat}(hm:2<=m/\m<=3)(hs:s<m)(n k:Nat):((j6 m n).filter λr=>decide ((stt s r).1=k)).length=Jn 1 (m-1) n k:=by
 unfold Jn;cases k with
 |zero =>
  rw[if_pos rfl,<- Q8 hm hs n 0];congr 2;funext r;exact decide_eq_decide.mpr (by omega)
 |succ k =>
  rw[if_neg (by omega),Nat.add_sub_cancel,<- Q8 hm hs n (k+1),<- Q8 hm hs n k,QR];omega
def zEv:D->List Nat
 | .tup [.tup ns,_,_]=>QH ns
 |_=>[]
def numOf:D->Nat
 | .int x=>x.toNat
 |_=>0
theorem GE(s:Nat)(r:List Nat):zEv (bD s r)=r:=zCy r
def gD(s:Nat)(d e:D):D:=bD s (zEv d++[numOf e])
theorem zFn(m s:Nat):∀l:List (List Nat),(l.map (bD s)).flatMap (λd=>(N (List.range m)).map (gD s d))=(l.flatMap (more m)).map (bD s)
 | []=>rfl
 |r::l=>by
  have ih:=zFn m s l;simp only[map_cons,flatMap_cons,map_append,ih];congr 1;simp only[N,more,map_map];apply map_congr_left;intro x _;simp[gD,GE,numOf]
theorem zFo(s:Nat)(p:List Nat->Bool):∀l:List (List Nat),((l.map (bD s)).filter λd=>p (zEv d))=(l.filter p).map (bD s)
 | []=>rfl
 |r::l=>by
  have ih:=zFo s p l;simp only[map_cons,filter_cons,GE,ih];split<;>rfl
theorem zDM{s:Nat}{l:List (List Nat)}{d:D}(h:d∈l.map (bD s)):∃r∈l,d=bD s r:=by
 obtain⟨r,h1,h2⟩:=mem_map.mp h;exact⟨r,h1,h2.symm⟩
def InR(m s n k:Nat)(c:Int)(t:Nat)(E:zP):Prop:=∃s5 s6 s7,E=[.val (.int (m:Nat)),.val (.int (s:Nat)),.val (.int (n:Nat)),.val (.int (k:Nat)),.val (.int c),s5,s6,s7]/\(s5=.own ((Lt m s n k t).map (bD s))\/s5=.val (.lst ((Lt m s n k t).map (bD s))))/\jl s6=true/\jl s7=true
theorem step_r{m s n k:Nat}(hm:2<=m/\m<=3)(hs:s<m)(hn:n<=20)(c:Int)(t:Nat)(ht:t<n)(few:(Lt m s n k t).length<=500)(s5 s7:DV.Slot)(h5:s5=.own ((Lt m s n k t).map (bD s))\/s5=.val (.lst ((Lt m s n k t).map (bD s))))(h7:jl s7=true) :
  ∃E2,dB zp jp [.val (.int (m:Nat)),.val (.int (s:Nat)),.val (.int (n:Nat)),.val (.int (k:Nat)),.val (.int c),s5,.val (.int ((n-(t+1):Nat):Int)),s7]=.ok (.nx,E2)/\InR m s n k c (t+1) E2:=by
 have zCr:∀r∈Lt m s n k t,r.length<=1000:=λr hr=>by
  have:=Q5 m t r (mem_filter.mp hr).1;omega
 have c1:dE zp (.comp2 2 ["begun","thrown"] ["sign","m"] [1,0] (.iL (.var 5)) (.n 0) (.iR1 (.cons (.var 3) .nil)) (.n 1) (.call 1 (.ev (.var 0) (.ev (.var 1) (.ev (.var 2) .nil))))) [.val (.int (m:Nat)),.val (.int (s:Nat)),.val (.int (n:Nat)),.val (.int (k:Nat)),.val (.int c),s5,.val (.int ((n-(t+1):Nat):Int)),s7]=.ok (.own (((Lt m s n k t).flatMap (more m)).map (bD s)),[.val (.int (m:Nat)),.val (.int (s:Nat)),.val (.int (n:Nat)),.val (.int (k:Nat)),.val (.int c),.val (.lst ((Lt m s n k t).map (bD s))),.val (.int ((n-(t+1):Nat):Int)),s7]):=by
  rw[<- zFn];refine x_comp2 (ds:=(Lt m s n k t).map (bD s)) (es:=N (List.range m)) (vs:=[.int (s:Nat),.int (m:Nat)]) (gD s) (i_L (zEj h5 rfl rfl) rfl) rfl (λd hd s1=>?_) (λd hd e he=>?_) ?_
  ·have:=i_R1 (fs:=zp) (E:=.val d::s1::[DV.Slot.val (.int (s:Nat)),.val (.int (m:Nat))]) (a:=.cons (.var 3) .nil) (j:=((m:Nat):Int)) (zD (zA rfl) zT) rfl ⟨by omega,by omega⟩
   rw[Int.toNat_natCast,zAm]at this;exact this
  ·obtain⟨r,hr,rfl⟩:=zDM hd
   obtain⟨x,hx,rfl⟩:=zCv he;refine⟨.val (bD s (r++[x])),zR (F:=wb) rfl (zA rfl) (zA rfl) (zA rfl) (e_grown (zCr r hr)),?_⟩;simp[gD,GE,numOf,R.d]
  ·rw[length_map,YL,List.length_range]
   have:=Nat.mul_le_mul few hm.2;simp only[cap];omega
 have gl:((Lt m s n k t).flatMap (more m)).length<=1500:=by
  rw[u8];have:=Nat.mul_le_mul few hm.2;omega
 have c2:dE zp (.comp 1 ["begun"] ["left","k"] [6,3] (.iL (.var 7)) (.n 0) (.tE (.call 0 (.ev (.var 0) (.ev (.var 1) (.ev (.var 2) .nil))))) (.var 0)) [.val (.int (m:Nat)),.val (.int (s:Nat)),.val (.int (n:Nat)),.val (.int (k:Nat)),.val (.int c),.val (.lst ((Lt m s n k t).map (bD s))),.val (.int ((n-(t+1):Nat):Int)),.own (((Lt m s n k t).flatMap (more m)).map (bD s))]=.ok (.own ((Lt m s n k (t+1)).map (bD s)),[.val (.int (m:Nat)),.val (.int (s:Nat)),.val (.int (n:Nat)),.val (.int (k:Nat)),.val (.int c),.val (.lst ((Lt m s n k t).map (bD s))),.val (.int ((n-(t+1):Nat):Int)),.val (.lst (((Lt m s n k t).flatMap (more m)).map (bD s)))]):=by
  rw[zDI ht];refine vz (ds:=((Lt m s n k t).flatMap (more m)).map (bD s)) (vs:=[.int ((n-(t+1):Nat):Int),.int (k:Nat)]) (λd=>[.val d]) (λd=>can s k (n-(t+1)) (zEv d)) (λd=>d) (i_L (zAa rfl rfl) rfl) rfl (λd hd S hS hn=>zCh hS hn) (λd hd=>⟨rfl,λz hz=>?_⟩) (λd hd=>?_) (λd hd _=>⟨_,zA rfl,rfl⟩) (by rw[length_map];simp only[cap];omega) ?_
  ·rw[mem_singleton]at hz;subst hz;rfl
  ·obtain⟨r,hr,rfl⟩:=zDM hd
   rw[GE];exact t_E (zR (F:=jo) rfl (zA rfl) (zA rfl) (zA rfl) (e_can r))
  ·rw[List.map_id',zFo s (can s k (n-(t+1)))]
 refine⟨_,zN (jN c1 (JV rfl h7 rfl)) (zX (jN c2 (JV rfl rfl rfl))),_,_,_,rfl,.inl rfl,rfl,rfl⟩
end My
namespace My
open PySem L2 DV SM RM
abbrev In(r:List Nat):List Int:=r.map λn:Nat=>(n:Int)
theorem zEw(s a:Int)(c:Nat):zCr s [(a,c)]=if a=s then [c]else []:=by
 simp only[zCr,filter_cons,List.filter_nil,beq_iff_eq];split<;>rfl
theorem top_one(c:Nat):RM.top [c]=c:=by simp[RM.top]
theorem Y3(s a:Int)(c:Nat)(q:List RM.B):best s (q++[(a,c)])=max (best s q) (if a=s then c else 0):=by
 unfold best;rw[Q1,zBH,zEw];split
 ·rw[top_one]
 ·simp[RM.top]
theorem link(s:Nat):∀(n:Nat) (r:List Nat),r.length=n->best (s:Int) (rle (In r))=(stt s r).1/\((r=[]/\(stt s r).2=0)\/∃q a c,rle (In r)=q++[(a,c)]/\(stt s r).2=if a=(s:Int)then c else 0)
 |0,r,h=>by
  have:=List.length_eq_zero_iff.mp h;subst this;exact⟨rfl,.inl ⟨rfl,rfl⟩⟩
 |n+1,r,h=>by
  obtain⟨r',x,rfl⟩:∃r' x,r=r'++[x]:=by
   have hne:r≠[]:=by intro z;subst z;cases h
   exact⟨r.dropLast,r.getLast hne,(List.dropLast_concat_getLast hne).symm⟩
  have hl:r'.length=n:=by simpa using h
  obtain⟨ih1,ih2⟩:=link s n r' hl;have e0:In (r'++[x])=In r'++[(x:Int)]:=by simp[In]
  rw[e0,zAj,Ww];rcases ih2 with⟨rfl,z⟩|⟨q,a,c,hq,he⟩
  ·have e1:JG (rle (In [])) (x:Int)=[]++[((x:Int),1)]:=rfl
   have e2:best (s:Int) []=0:=rfl;rw[e1,Y3,e2];by_cases hx:x=s
   ·subst hx
    exact⟨by simp[stp,stt],.inr ⟨[],(x:Int),1,rfl,by simp[stp,stt]⟩⟩
   ·have hx':¬(x:Int)=(s:Int):=by omega
    exact⟨by simp[stp,stt,hx,hx'],.inr ⟨[],(x:Int),1,rfl,by simp[stp,stt,hx,hx']⟩⟩
  ·rw[hq,zEg]
   rw[hq,Y3]at ih1;by_cases hax:a=(x:Int)
   ·rw[if_pos hax,Y3]
    by_cases hx:x=s
    ·have has:a=(s:Int):=by omega
     rw[if_pos has]at ih1 he ⊢;refine⟨?_,.inr ⟨q,a,c+1,rfl,?_⟩⟩
     ·simp only[stp,if_pos hx];omega
     ·rw[if_pos has];simp only[stp,if_pos hx];omega
    ·have has:¬a=(s:Int):=by omega
     rw[if_neg has]at ih1 he ⊢;refine⟨?_,.inr ⟨q,a,c+1,rfl,?_⟩⟩
     ·simp only[stp,if_neg hx];omega
     ·rw[if_neg has];simp only[stp,if_neg hx]
   ·rw[if_neg hax,show q++[(a,c),((x:Int),1)]=(q++[(a,c)])++[((x:Int),1)]by simp,Y3,Y3]
    by_cases hx:x=s
    ·have has:¬a=(s:Int):=by omega
     have hxs:(x:Int)=(s:Int):=by omega
     rw[if_neg has]at ih1 he;rw[if_neg has,if_pos hxs];refine⟨?_,.inr ⟨q++[(a,c)],(x:Int),1,rfl,?_⟩⟩
     ·simp only[stp,if_pos hx];omega
     ·rw[if_pos hxs];simp only[stp,if_pos hx];omega
    ·have hxs:¬(x:Int)=(s:Int):=by omega
     rw[if_neg hxs];refine⟨?_,.inr ⟨q++[(a,c)],(x:Int),1,rfl,?_⟩⟩
     ·simp only[stp,if_neg hx];omega
     ·rw[if_neg hxs];simp only[stp,if_neg hx]
theorem e_best{m s:Nat}(hm:m<=3)(hs:s<m){n:Nat}(hn:n<=20){r:List Nat}(hr:r∈j6 m n):JO [.val (.tup (N r)),.val (.int (s:Nat))]=.ok (.val (.int ((stt s r).1:Nat)),O2):=by
 have hl:=Q5 m n r hr;have lo:=Q6 m n r hr;have R:Row (In r):=⟨by simp[In,hl];omega,λx hx=>by
  obtain⟨y,hy,rfl⟩:=mem_map.mp hx;have:=lo y hy;omega⟩
 have e:=zDE R (s:=(s:Int)) ⟨by omega,by omega⟩;rw[(link s r.length r rfl).1]at e;have er:J4 (In r)=.tup (N r):=by simp[N,In,map_map]
 rw[er]at e;exact e
def hdD:D->D
 | .tup [a,_,_]=>a
 |d=>d
theorem hd_b(s:Nat)(l:List (List Nat)):(l.map (bD s)).map hdD=TL l:=by simp[TL,map_map,hdD,Function.comp_def]
theorem zEx{n i:Nat}{d:D}(h:(yo n)[i]?=some d):i<n/\d=.int ((n-(i+1):Nat):Int):=by
 simp only[yo,getElem?_map,Option.map_eq_some_iff]at h;obtain⟨j,h1,h2⟩:=h;obtain⟨h3,h4⟩:=List.getElem?_eq_some_iff.mp h1;simp at h3 h4;subst h4;refine⟨h3,?_⟩;rw[<- h2];congr 1;omega
def Lf(m s n k:Nat):List (List Nat):=(j6 m n).filter λr=>decide ((stt s r).1=k)
theorem Q9{m s n k:Nat}(hm:2<=m/\m<=3)(hs:s<m)(hn:n<=20)(hk:k<=40)(few:Jn 1 (m-1) n k<=300):∃r,ww [.val (.int (m:Nat)),.val (.int (s:Nat)),.val (.int (n:Nat)),.val (.int (k:Nat))]=.ok (r,O4)/\r.d=.lst (TL (Lf m s n k)):=by
 have cj:=zDL hm hs n k;have n1:=Zl (.int (m:Nat)) rfl (Zm (lo:=2) (hi:=3) hm.1 hm.2);have n2:=YN (.int (s:Nat)) (m:Int) rfl (by simp only[Z7,Bool.and_eq_true,decide_eq_true_eq];omega);have n3:=zd (.int (n:Nat)) 0 20 rfl (Zm (lo:=0) (hi:=20) (by omega) hn);have n4:=zd (.int (k:Nat)) 0 40 rfl (Zm (lo:=0) (hi:=40) (by omega) hk);have rj:=w9 (m:=m) (n:=n) (k:=k) ⟨hm,by omega,hk⟩;have gt:=zAn (Jn 1 (m-1) n k) 500;rw[decide_eq_false (by omega)]at gt;have pre:∀{o:Out (Fl×zP)},dB zp (.bSeq (.sIf (.tE (.cmp .eq (.var 4) (.c (.int 0)))) (.bOne (.sRet (.lst .nil))) .bNil)
  (.bSeq (.sSet 5 (.lst (.cons (.tup (.cons (.tup .nil) (.cons (.c (.int 0)) (.cons (.c (.int 0)) .nil)))) .nil)))
  (.bSeq (.sForI (.iRv (.cons (.var 2) .nil)) (.n 6) jp)
  (.bOne (.sRet (.comp 3 ["row","ending","best"] [] [] (.iL (.var 5)) (.t [0,1,2]) .tTr (.var 0))))))) [.val (.int (m:Nat)),.val (.int (s:Nat)),.val (.int (n:Nat)),.val (.int (k:Nat)),.val (.int ((Jn 1 (m-1) n k:Nat):Int)),.emp,.emp,.emp]=o->dB zp YF [.val (.int (m:Nat)),.val (.int (s:Nat)),.val (.int (n:Nat)),.val (.int (k:Nat)),.emp,.emp,.emp,.emp]=o:=λh =>
  zN (yT (wU (F:=y0) rfl (zA rfl) n1)) (zN (yT (zg (F:=yu) rfl (zA rfl) (zA rfl) n2)) (zN (yT (zR (F:=zF) rfl (zA rfl) x_c Wq n3)) (zN (yT (zR (F:=zF) rfl (zA rfl) x_c Wq n4)) (zN (jN (zR (F:=yQ) rfl (zA rfl) (zA rfl) (zA rfl) rj) rfl) (zN (jO (t_E (zf (zA rfl) Wq gt)) jP) h)))))
 by_cases h0:Jn 1 (m-1) n k=0
 ·have el:Lf m s n k=[]:=List.length_eq_zero_iff.mp (by rw[Lf,cj,h0])
  have eq:eqG (.int ((Jn 1 (m-1) n k:Nat):Int)) (.int 0)=some (.val (.bl true)):=by rw[h0];rfl
  exact⟨.own [],yH (pre (ZI (YJ (t_E (zf (zA rfl) x_c eq)) (zX (yI (Jp zT rfl zCj)))))) rfl,by rw[el];rfl⟩
 ·have eq:eqG (.int ((Jn 1 (m-1) n k:Nat):Int)) (.int 0)=some (.val (.bl false)):=by rw[eq_int,decide_eq_false (by omega)]
  have fw:∀t,t<=n->(Lt m s n k t).length<=500:=λt ht=>by
   by_cases z:t=0
   ·subst z
    have:(Lt m s n k 0).length<=(j6 m 0).length:=List.length_filter_le _ _;rw[zAp]at this;simp at this;omega
   ·have:=Lt_le (n:=n) (k:=k) hm.1 hs (by omega:1<=t) ht
    rw[zDJ (by omega),cj]at this;omega
  have L0:Lt m s n k 0=[[]]:=by simp[Lt,j6]
  have Ln:Lt m s n k n=Lf m s n k:=by
   by_cases z:n=0
   ·subst z
    have hk0:k=0:=by
     by_cases q:k=0
     ·exact q
     ·exfalso
      apply h0;have u:∀k,U 1 (m-1) k 0=1:=λk=>by rw[zAg _ _ 0 (zero_le _)];rfl
      unfold Jn;rw[if_neg q,u,u]
    subst hk0;rw[L0];rfl
   ·exact zDJ (by omega)
  obtain⟨E',f1,s5,s6,s7,hE,h5,h6,h7⟩:=jY (tg:=gN 6) (body:=dB zp jp) (λt E=>InR m s n k ((Jn 1 (m-1) n k:Nat):Int) t E) (yo n) 0 [.val (.int (m:Nat)),.val (.int (s:Nat)),.val (.int (n:Nat)),.val (.int (k:Nat)),.val (.int ((Jn 1 (m-1) n k:Nat):Int)),.own [bD s []],.emp,.emp] ⟨_,_,_,rfl,.inl (by rw[L0];rfl),rfl,rfl⟩
   (λi d q E ⟨s5,s6,s7,hE,h5,h6,h7⟩=>by
    obtain⟨hi,rfl⟩:=zEx q;rw[zero_add]at h5 ⊢;obtain⟨E2,f,g⟩:=step_r hm hs hn ((Jn 1 (m-1) n k:Nat):Int) i hi (fw i (by omega)) s5 s7 h5 h7;refine⟨[.val (.int (m:Nat)),.val (.int (s:Nat)),.val (.int (n:Nat)),.val (.int (k:Nat)),.val (.int ((Jn 1 (m-1) n k:Nat):Int)),s5,.val (.int ((n-(i+1):Nat):Int)),s7],E2,?_,f,g⟩;subst hE;cases s6<;>first|rfl|(cases h6))
  have ld:(yo n).length=n:=by simp[yo]
  rw[ld,zero_add,Ln]at h5;subst hE;have hi:=i_Rv (fs:=zp) (E:=[.val (.int (m:Nat)),.val (.int (s:Nat)),.val (.int (n:Nat)),.val (.int (k:Nat)),.val (.int ((Jn 1 (m-1) n k:Nat):Int)),.own [bD s []],.emp,.emp]) (a:=.cons (.var 2) .nil) (j:=((n:Nat):Int)) (zD (zA rfl) zT) rfl ⟨by omega,by omega⟩;rw[Int.toNat_natCast]at hi;have x5:dE zp (.lst (.cons (.tup (.cons (.tup .nil) (.cons (.c (.int 0)) (.cons (.c (.int 0)) .nil)))) .nil)) [.val (.int (m:Nat)),.val (.int (s:Nat)),.val (.int (n:Nat)),.val (.int (k:Nat)),.val (.int ((Jn 1 (m-1) n k:Nat):Int)),.emp,.emp,.emp]=.ok (.own [bD s []],[.val (.int (m:Nat)),.val (.int (s:Nat)),.val (.int (n:Nat)),.val (.int (k:Nat)),.val (.int ((Jn 1 (m-1) n k:Nat):Int)),.emp,.emp,.emp]):=Jp (zD (QD (zD (QD zT rfl zCj) (zD x_c (zD x_c zT))) rfl JY) zT) rfl yx;have ll:(Lf m s n k).length<=300:=by rw[Lf,cj];exact few
  have cf:dE zp (.comp 3 ["row","ending","best"] [] [] (.iL (.var 5)) (.t [0,1,2]) .tTr (.var 0)) [.val (.int (m:Nat)),.val (.int (s:Nat)),.val (.int (n:Nat)),.val (.int (k:Nat)),.val (.int ((Jn 1 (m-1) n k:Nat):Int)),s5,s6,s7]=.ok (.own (TL (Lf m s n k)),[.val (.int (m:Nat)),.val (.int (s:Nat)),.val (.int (n:Nat)),.val (.int (k:Nat)),.val (.int ((Jn 1 (m-1) n k:Nat):Int)),.val (.lst ((Lf m s n k).map (bD s))),s6,s7]):=by
   refine vz (ds:=(Lf m s n k).map (bD s)) (vs:=[]) pat3 (λ_=>true) hdD (i_L (zEj h5 rfl rfl) rfl) rfl (λd hd S hS hn=>?_) (λd hd=>?_) (λd hd=>?_) (λd hd _=>?_) (by rw[length_map];simp only[cap];omega) (by rw[filter_eq_self.mpr (λ_ _=>rfl),hd_b])
   ·obtain⟨r,_,rfl⟩:=zDM hd
    exact zFe hS hn
   ·obtain⟨r,_,rfl⟩:=zDM hd
    refine⟨rfl,λz hz=>?_⟩;simp only[pat3,mem_cons,mem_nil_iff,or_false]at hz;rcases hz with rfl|rfl|rfl<;>rfl
   ·simp only[dT,jf]
   ·obtain⟨r,_,rfl⟩:=zDM hd
    exact⟨_,zA rfl,rfl⟩
  exact⟨.own (TL (Lf m s n k)),yH (pre (zN (jO (t_E (zf (zA rfl) x_c eq)) jP) (zN (jN x5 rfl) (zN (s_forI hi f1) (zX (yI cf)))))) rfl,rfl⟩
end My
namespace My
open PySem L2 DV SM
theorem take_range(f:Nat->Nat)(n k:Nat):((List.range (n+1)).map f).take (k+1)=(List.range (min (n+1) (k+1))).map f:=by
 rw[<- map_take,List.take_range,Nat.min_comm]
theorem QS(f:Nat->Nat)(n k:Nat):((((List.range (n+1)).map f).drop k).take 1).sum=if k<=n then f k else 0:=by
 by_cases h:k<=n
 ·rw[if_pos h]
  have:((List.range (n+1)).map f).drop k=f k::((List.range (n+1)).map f).drop (k+1):=by
   rw[drop_eq_getElem_cons (by simp;omega)];simp
  rw[this];simp
 ·rw[if_neg h,List.drop_eq_nil_of_le (by simp;omega)];rfl
section
variable{m:Nat}(hm:2<=m/\m<=3)
include hm
theorem Wy{k n:Nat}(h:n<=k):U 1 (m-1) k n=m^n:=by
 rw[zAg _ _ n h,show 1+(m-1)=m by omega]
theorem tab_sum(n:Nat):(GI 1 (m-1) n).sum=m^n:=by
 unfold GI;rw[zAr,Wy hm (le_refl _)]
theorem zEy(n k:Nat):((GI 1 (m-1) n).take (k+1)).sum=U 1 (m-1) k n:=by
 unfold GI;rw[take_range];by_cases h:k<=n
 ·rw[min_eq_right (by omega),zAr]
 ·rw[min_eq_left (by omega),zAr,Wy hm (le_refl _),Wy hm (by omega)]
theorem tab_one(n k:Nat):(((GI 1 (m-1) n).drop k).take 1).sum=Jn 1 (m-1) n k:=by
 unfold GI;rw[QS];split
 ·rfl
 ·unfold Jn
  rw[if_neg (by omega),Wy hm (by omega),Wy hm (by omega),sub_self]
theorem zAx(n:Nat):∀k,((List.range (k+1)).map (Aj m n)).sum=Ao m n k
 |0=>by simp[Aj]
 |k+1=>by
  rw[rsum,zAx n k];have:=zFk m n (k+1) (by omega) (by omega);rw[Nat.add_sub_cancel]at this;unfold Aj;rw[if_neg (by omega),Nat.add_sub_cancel];exact Nat.add_sub_cancel' this
theorem Wz{k n:Nat}(h:n<=k):Ao m n k=m^n:=by
 by_cases z:n=0
 ·subst z
  rw[Ao,QI m 0 k (by omega),if_pos rfl];rfl
 ·exact A_full m n k (by omega) (by omega) h
theorem zEz(n:Nat):(QO m n).sum=m^n:=by
 unfold QO;rw[zAx hm,Wz hm (le_refl _)]
theorem zDN(n k:Nat):((QO m n).take (k+1)).sum=Ao m n k:=by
 unfold QO;rw[take_range];by_cases h:k<=n
 ·rw[min_eq_right (by omega),zAx hm]
 ·rw[min_eq_left (by omega),zAx hm,Wz hm (le_refl _),Wz hm (by omega)]
theorem zE0(n k:Nat):(((QO m n).drop k).take 1).sum=Aj m n k:=by
 unfold QO;rw[QS];split
 ·rfl
 ·unfold Aj
  rw[if_neg (by omega),Wz hm (by omega),Wz hm (by omega),sub_self]
end
def wsum(l:List Nat):Nat:=((range' 0 l.length).map λi=>i*l.getD i 0).sum
theorem zE1:(([2,3]:List Nat).all λm=>(List.range 21).all λn=>decide ((rbs m n).sum=m^n)&&decide (m*Vr 1 (m-1) n 1=wsum (rbs m n)))=true:=by decide +kernel
theorem runs_ok{m n:Nat}(hm:2<=m/\m<=3)(hn:n<=20):(rbs m n).sum=m^n/\m*Vr 1 (m-1) n 1=wsum (rbs m n):=by
 have h:=all_eq_true.mp (all_eq_true.mp zE1 m (by simp;omega)) n (mem_range.mpr (by omega));simp only[Bool.and_eq_true,decide_eq_true_eq]at h;exact h
theorem zE2(l:List Nat):(range' 0 l.length).map (λi=>l.getD i 0)=l:=by
 apply List.ext_getElem?;intro i;by_cases h:i<l.length
 ·simp[h,getD,List.getElem?_range']
 ·simp[h,List.getElem?_eq_none]
theorem zDO(l:List Nat):(GH 0 (N l)).map mulP=N ((range' 0 l.length).map λi=>i*l.getD i 0):=by
 have:=zC8 (λi=>l.getD i 0) l.length 0;rw[zE2]at this;exact this
theorem rbs_len(m n:Nat):(rbs m n).length<=n+1:=by
 unfold rbs;split
 ·simp
 ·rw[zDF];omega
theorem zDP(l:List Nat)(k:Nat):slD (.lst (N l)) none (some ((k+1:Nat):Int))=some (.own (N (l.take (k+1)))):=by
 have:QU (N l) none (some ((k+1:Nat):Int))=N (l.take (k+1)):=by
  unfold QU;rw[HT.sIx_nat,show HT.sIx (N l).length 0 none=0 from rfl];simp only[N,List.drop_zero,Nat.sub_zero,length_map,map_take];by_cases h:k+1<=l.length
  ·rw[min_eq_left h]
  ·rw[min_eq_right (by omega),List.take_of_length_le (by simp),List.take_of_length_le (by simp;omega)]
 simp only[slD,this]
theorem zFp(l:List Nat)(k:Nat):slD (.lst (N l)) (some ((k:Nat):Int)) (some ((k+1:Nat):Int))=some (.own (N ((l.drop k).take 1))):=by
 have:QU (N l) (some ((k:Nat):Int)) (some ((k+1:Nat):Int))=N ((l.drop k).take 1):=by
  unfold QU;rw[HT.sIx_nat,HT.sIx_nat,YL];simp only[N,map_take,List.map_drop];by_cases h:k<l.length
  ·rw[min_eq_left (by omega),min_eq_left (by omega),Nat.add_sub_cancel_left]
  ·rw[min_eq_right (by omega),min_eq_right (by omega),sub_self,List.take_zero,List.drop_eq_nil_of_le (by simp;omega)];rfl
 simp only[slD,this]
theorem YO(a:Nat):neG (.int (a:Int)) (.int (a:Int))=some (.val (.bl false)):=by rw[ne_nat,decide_eq_true rfl];rfl
theorem zE3{m n k:Nat}(hm:2<=m/\m<=3)(hn:n<=20)(hk:k<=40):ya [.val (.int (m:Nat)),.val (.int (n:Nat)),.val (.int (k:Nat))]=.ok (.val (.bl true),O3):=by
 obtain⟨r3,e3,d3⟩:=vO hm (n:=n) (by omega);obtain⟨w1,w2⟩:=runs_ok hm hn;have e1:=QN hm (n:=n) (by omega);have e2:=GD hm (n:=n) (by omega);have ok:Ok m n k:=⟨hm,by omega,hk⟩;have pw:=zC1 (S:=m) (n:=n) (by omega) (by omega);have ml:=Z6 (.int ((m^n:Nat):Int)) 3 (by decide);have cp:dE yj (.comp 1 ["_law_some"] [] [] (.iT (.tup (.cons (.var 3) (.cons (.var 4) (.cons (.var 5) .nil))))) (.n 0) .tTr (.cB .sum (.cons (.var 0) .nil))) [.val (.int (m:Nat)),.val (.int (n:Nat)),.val (.int (k:Nat)),.val (.lst (N (GI 1 (m-1) n))),.val (.lst (N (QO m n))),.val (.lst (N (rbs m n)))]=.ok (.own (replicate 3 (.int ((m^n:Nat):Int))),[.val (.int (m:Nat)),.val (.int (n:Nat)),.val (.int (k:Nat)),.val (.lst (N (GI 1 (m-1) n))),.val (.lst (N (QO m n))),.val (.lst (N (rbs m n)))]):=by
  refine wV (ds:=[.lst (N (GI 1 (m-1) n)),.lst (N (QO m n)),.lst (N (rbs m n))]) (vs:=[]) (λ_=>.int ((m^n:Nat):Int)) (i_T (QD (zD (zA rfl) (zD (zA rfl) (zD (zA rfl) zT))) rfl JY) rfl) rfl (λd hd=>?_) JY rfl;simp only[mem_cons,mem_nil_iff,or_false]at hd;rcases hd with rfl|rfl|rfl
  ·have s:=Y2 (GI 1 (m-1) n)
   rw[tab_sum hm]at s;exact⟨_,YS (zD (zA rfl) zT) s,rfl⟩
  ·have s:=Y2 (QO m n)
   rw[zEz hm]at s;exact⟨_,YS (zD (zA rfl) zT) s,rfl⟩
  ·have s:=Y2 (rbs m n)
   rw[w1]at s;exact⟨_,YS (zD (zA rfl) zT) s,rfl⟩
 have ne3:neG (.lst (replicate 3 (.int ((m^n:Nat):Int)))) (.lst (replicate 3 (.int ((m^n:Nat):Int))))=some (.val (.bl false)):=ne_lst _ rfl;have ad:=JX k 1;have t1:=Y2 ((GI 1 (m-1) n).take (k+1));rw[zEy hm]at t1;have t2:=Y2 ((QO m n).take (k+1));rw[zDN hm]at t2;have o1:=Y2 (((GI 1 (m-1) n).drop k).take 1);rw[tab_one hm]at o1;have o2:=Y2 (((QO m n).drop k).take 1);rw[zE0 hm]at o2;have ce:dE yj (.comp 2 ["_law_at","_law_many"] [] [] (.iE false (.cons (.var 5) .nil)) (.t [0,1]) .tTr (.bin .mul (.var 0) (.var 1))) [.val (.int (m:Nat)),.val (.int (n:Nat)),.val (.int (k:Nat)),.val (.lst (N (GI 1 (m-1) n))),.val (.lst (N (QO m n))),.val (.lst (N (rbs m n)))]=.ok (.own (N ((range' 0 (rbs m n).length).map λi=>i*(rbs m n).getD i 0)),[.val (.int (m:Nat)),.val (.int (n:Nat)),.val (.int (k:Nat)),.val (.lst (N (GI 1 (m-1) n))),.val (.lst (N (QO m n))),.val (.lst (N (rbs m n)))]):=by
  have rl:=rbs_len m n;refine vz (ds:=GH 0 (N (rbs m n))) (vs:=[]) pat2 (λ_=>true) mulP (DV.i_E (zD (zA rfl) zT) rfl) rfl (λd hd S hS hn=>?_) (λd hd=>?_) (λd hd=>?_) (λd hd _=>?_) ?_ (by rw[filter_eq_self.mpr (λ_ _=>rfl),zDO])
  ·obtain⟨a,b,rfl,_⟩:=GC _ _ hd
   exact zFf hS hn
  ·obtain⟨a,b,rfl,_⟩:=GC _ _ hd
   refine⟨rfl,λz hz=>?_⟩;simp only[pat2,mem_cons,mem_nil_iff,or_false]at hz;rcases hz with rfl|rfl<;>rfl
  ·simp only[dT,jf]
  ·obtain⟨a,b,rfl,hl⟩:=GC _ _ hd
   have ms:=jQ a b (by omega);exact⟨_,zS (zA rfl) (zA rfl) ms,by simp[mulP,R.d]⟩
  ·have:=congrArg length (zDO (rbs m n))
   rw[length_map,YL,length_map,List.length_range']at this;rw[this];simp only[cap];omega
 have sw:=Y2 ((range' 0 (rbs m n).length).map λi=>i*(rbs m n).getD i 0);have mr:=jQ m (Vr 1 (m-1) n 1) (by omega);have eqw:eqG (.int ((m*Vr 1 (m-1) n 1:Nat):Int)) (.int ((((range' 0 (rbs m n).length).map λi=>i*(rbs m n).getD i 0).sum:Nat):Int))=some (.val (.bl true)):=by
  rw[QF,decide_eq_true];exact w2
 refine yH (E1:=[.val (.int (m:Nat)),.val (.int (n:Nat)),.val (.int (k:Nat)),.val (.lst (N (GI 1 (m-1) n))),.val (.lst (N (QO m n))),.val (.lst (N (rbs m n)))]) ?_ rfl;refine zN (s_par3 (zD (zg (F:=wI) rfl (zA rfl) (zA rfl) e1) (zD (zg (F:=jn) rfl (zA rfl) (zA rfl) e2) (zD (zg (F:=ja) rfl (zA rfl) (zA rfl) e3) zT))) (by rw[d3];rfl)) ?_;refine zN (jO (t_E (zf cp (zS (Jp (zD (zg (F:=jB) rfl (zA rfl) (zA rfl) pw) zT) rfl yx) x_c ml) ne3)) jP) ?_;refine zN (jO (zDT (t_E (zf (zR (F:=yw) rfl (zA rfl) (zA rfl) (zA rfl) (YM ok)) (YS (zD (x_sl (zA rfl) o_N (o_S (zS (zA rfl) x_c ad)) (zDP _ k)) zT) t1) (YO _))) (t_E (zf (zR (F:=zx) rfl (zA rfl) (zA rfl) (zA rfl) (je ok)) (YS (zD (x_sl (zA rfl) o_N (o_S (zS (zA rfl) x_c ad)) (zDP _ k)) zT) t2) (YO _)))) jP) ?_;refine zN (jO (zDT (t_E (zf (zR (F:=yQ) rfl (zA rfl) (zA rfl) (zA rfl) (w9 ok)) (YS (zD (x_sl (zA rfl) (o_S (zA rfl)) (o_S (zS (zA rfl) x_c ad)) (zFp _ k)) zT) o1) (YO _))) (t_E (zf (zR (F:=jA) rfl (zA rfl) (zA rfl) (zA rfl) (Zn ok)) (YS (zD (x_sl (zA rfl) (o_S (zA rfl)) (o_S (zS (zA rfl) x_c ad)) (zFp _ k)) zT) o2) (YO _)))) jP) ?_;exact zX (yI (zf (zS (zA rfl) (zR (F:=wJ) rfl (zA rfl) (zA rfl) x_c (QP hm (by omega))) mr) (YS (zD ce zT) sw) eqw))
end My
namespace My
open PySem L2 DV SM
theorem DS5{m:Nat}(hm:2<=m/\m<=3):DS (replicate m 5) (m-1):=⟨⟨by simp;omega,λx hx=>by rw[(List.mem_replicate.mp hx).2];omega⟩,by simp;omega⟩
theorem five_D(m:Nat):zDV (replicate m 5)=.tup (replicate m (.int 5)):=by simp[zDV,nD]
theorem Uw5{m:Nat}(hm:2<=m/\m<=3)(k n:Nat):Uw (replicate m 5) (m-1) k n=5^n*U 1 (m-1) k n:=by
 have e1:(replicate m 5).getD (m-1) 0=5*1:=by simp[getD,show m-1<m by omega]
 have e2:(replicate m 5).sum-5*1=5*(m-1):=by simp;omega
 unfold Uw;rw[e1,e2,zCn]
theorem cross{a b u v c:Nat}(hb:0<b)(h:a*v=u*b):a/a.gcd b*v=u*(b/a.gcd b):=by
 have g0:0<a.gcd b:=Nat.gcd_pos_of_pos_right _ hb;have d1:=Nat.div_mul_cancel (Nat.gcd_dvd_left a b);have d2:=Nat.div_mul_cancel (Nat.gcd_dvd_right a b);apply Nat.eq_of_mul_eq_mul_right g0;generalize a/a.gcd b=x at *;generalize b/a.gcd b=y at *
 calc x*v*a.gcd b=(x*a.gcd b)*v:=by rw[mul_assoc,mul_comm v,<- mul_assoc]
  _=u*(y*a.gcd b):=by rw[d1,d2,h]
  _=u*y*a.gcd b:=(mul_assoc _ _ _).symm
theorem slot_or{r:R}{L:List D}(h:r.d=.lst L):r.slot=.own L\/r.slot=.val (.lst L):=by
 cases r with
 |own ds=>left;cases h;rfl
 |val d=>right;simp only[R.d]at h;subst h;rfl
theorem turn_s{m n k s:Nat}(hm:2<=m/\m<=3)(hn:n<=20)(hk:k<=40)(few:Jn 1 (m-1) n k<=300)(hs:s<m)(p:D)(s5:DV.Slot)(h5:jl s5=true):∃t5,dB yO yn [.val (.int (m:Nat)),.val (.int (n:Nat)),.val (.int (k:Nat)),.val p,.val (.int (s:Nat)),s5]=.ok (.nx,[.val (.int (m:Nat)),.val (.int (n:Nat)),.val (.int (k:Nat)),.val p,.val (.int (s:Nat)),t5])/\jl t5=true:=by
 obtain⟨r,e,hr⟩:=Q9 hm hs hn hk few;have so:=slot_or hr;have cj:=zDL hm hs n k;have ln:(Lf m s n k).length=Jn 1 (m-1) n k:=cj;have l1:zDz [.lst (TL (Lf m s n k))]=some (.val (.int ((Jn 1 (m-1) n k:Nat):Int))):=by simp only[zDz,zFl,ln]
 have rj:=w9 (m:=m) (n:=n) (k:=k) ⟨hm,by omega,hk⟩;have al:dE yO (.cB .all (.cons (.comp 1 ["_law_row"] ["_law_sign","_law_k"] [4,2] (.iL (.var 5)) (.n 0) .tTr (.cmp .eq (.call 0 (.ev (.var 0) (.ev (.var 1) .nil))) (.var 2))) .nil)) [.val (.int (m:Nat)),.val (.int (n:Nat)),.val (.int (k:Nat)),.val p,.val (.int (s:Nat)),.val (.lst (TL (Lf m s n k)))]=.ok (.val (.bl true),[.val (.int (m:Nat)),.val (.int (n:Nat)),.val (.int (k:Nat)),.val p,.val (.int (s:Nat)),.val (.lst (TL (Lf m s n k)))]):=by
  refine YS (zD (wV (ds:=TL (Lf m s n k)) (vs:=[.int (s:Nat),.int (k:Nat)]) (λ_=>.bl true) (i_L (zA rfl) rfl) rfl (λd hd=>?_) (by rw[zFl,ln];simp only[cap];omega) rfl) zT) (zAk (f:=λ_=>true) (by simp));obtain⟨l,hl,rfl⟩:=TL_mem hd;obtain⟨q1,q2⟩:=mem_filter.mp hl;have q2:(stt s l).1=k:=of_decide_eq_true q2;have b:=e_best hm.2 hs hn q1;rw[q2]at b;have eq:=QF k k;rw[decide_eq_true rfl]at eq;exact⟨_,zf (zg (F:=JO) rfl (zA rfl) (zA rfl) b) (zA rfl) eq,rfl⟩
 refine⟨.val (.lst (TL (Lf m s n k))),?_,rfl⟩;exact zN (jN (jW (F:=ww) rfl (zA rfl) (zA rfl) (zA rfl) (zA rfl) e) (JV rfl h5 rfl)) (zX (jO (zDT (t_E (zf (YS (zD (zEj so rfl rfl) zT) l1) (zR (F:=yQ) rfl (zA rfl) (zA rfl) (zA rfl) rj) (YO _))) (Wr (t_E al) rfl)) jP))
theorem e_right{m n k:Nat}(hm:2<=m/\m<=3)(hn:n<=20)(hk:k<=40):wL [.val (.int (m:Nat)),.val (.int (n:Nat)),.val (.int (k:Nat))]=.ok (.val (.bl true),O3):=by
 have ok:Ok m n k:=⟨hm,by omega,hk⟩;have tr:=zE3 hm hn hk;have tst:dT yO (.tAnd (.tE (.cmp .eq (.var 0) (.c (.int 2)))) (.tAnd (.tE (.cmp .gt (.var 1) (.c (.int 0)))) (.tAnd (.tE (.cmp .gt (.var 2) (.c (.int 0)))) (.tE (.cmp .ne (.call 6 (.ev (.c (.int 2)) (.ev (.var 1) (.ev (.var 2) .nil)))) (.bin .mul (.c (.int 2)) (.call 4 (.ev (.c (.int 2)) (.ev (.bin .sub (.var 1) (.c (.int 1))) (.ev (.bin .sub (.var 2) (.c (.int 1))) .nil)))))))))) [.val (.int (m:Nat)),.val (.int (n:Nat)),.val (.int (k:Nat)),.emp,.emp,.emp]=.ok (false,[.val (.int (m:Nat)),.val (.int (n:Nat)),.val (.int (k:Nat)),.emp,.emp,.emp]):=by
  have q1:=QF m 2;have q2:=zAn n 0;have q3:=zAn k 0;by_cases h1:m=2
  ·rw[decide_eq_true h1]at q1
   by_cases h2:0<n
   ·rw[decide_eq_true h2]at q2
    by_cases h3:0<k
    ·rw[decide_eq_true h3]at q3
     subst h1;have a:=je ok;have b:=YM (m:=2) (n:=n-1) (k:=k-1) ⟨by omega,by omega,by omega⟩;have s1:W0 (.int (n:Int)) (.int 1)=some (.val (.int ((n-1:Nat):Int))):=j5 (b:=1) (by omega);have s2:W0 (.int (k:Int)) (.int 1)=some (.val (.int ((k-1:Nat):Int))):=j5 (b:=1) (by omega);have ml:=jQ 2 (U 1 (2-1) (k-1) (n-1)) (by omega);have ne:=YO (2*U 1 (2-1) (k-1) (n-1));have ao:Ao 2 n k=2*U 1 (2-1) (k-1) (n-1):=by rw[Ao,QI 2 n k (by omega),if_neg (by omega),if_neg (by omega)]
     rw[ao]at a;exact uE (t_E (zf (zA rfl) x_c q1)) (uE (t_E (zf (zA rfl) x_c q2)) (uE (t_E (zf (zA rfl) x_c q3)) (t_E (zf (zR (F:=zx) rfl x_c (zA rfl) (zA rfl) a) (zS x_c (zR (F:=yw) rfl x_c (zS (zA rfl) x_c s1) (zS (zA rfl) x_c s2) b) ml) ne))))
    ·rw[decide_eq_false h3]at q3
     exact uE (t_E (zf (zA rfl) x_c q1)) (uE (t_E (zf (zA rfl) x_c q2)) (zCs (t_E (zf (zA rfl) x_c q3))))
   ·rw[decide_eq_false h2]at q2
    exact uE (t_E (zf (zA rfl) x_c q1)) (zCs (t_E (zf (zA rfl) x_c q2)))
  ·rw[decide_eq_false h1]at q1
   exact zCs (t_E (zf (zA rfl) x_c q1))
 have mt:=zEi (.int 5) m (by omega);have up:=e_upto (DS5 hm) (n:=n) (k:=k) (by omega) hk;rw[five_D,Uw5 hm]at up;have sm:(replicate m 5).sum=5*m:=by simp;omega
 have bp:=S_pow (DS5 hm) (n:=n) (by omega);rw[sm]at up bp;have ul:5^n*U 1 (m-1) k n<2^400:=by
  have:=U_lt (w:=5*1) (o:=5*(m-1)) (by omega) k (n:=n) (by omega);rw[zCn]at this;exact this
 have u1:U 1 (m-1) k n<2^400:=U_lt (by omega) k (by omega);have mn:m^n<2^400:=lt_of_le_of_lt (pow_le_pow_left (show m<=5*m by omega) n) bp.2;have big:(2:Nat)^400<=2^800:=Nat.pow_le_pow_right (by decide) (by decide);generalize hg:(5^n*U 1 (m-1) k n).gcd ((5*m)^n)=g at *;have cr:=cross (a:=5^n*U 1 (m-1) k n) (b:=(5*m)^n) (u:=U 1 (m-1) k n) (v:=m^n) (c:=0) bp.1 (by rw[Nat.mul_pow];grind);rw[hg]at cr;have nr:nrm ((5^n*U 1 (m-1) k n:Nat):Int) ((5*m)^n)=.tup [.int (((5^n*U 1 (m-1) k n)/g:Nat):Int),.int (((5*m)^n/g:Nat):Int)]:=by
  simp only[nrm,top_nat,bot',Int.natAbs_natCast,hg]
 rw[nr]at up;have tl:(5^n*U 1 (m-1) k n)/g<2^800:=lt_of_le_of_lt (Nat.div_le_self _ _) (lt_of_lt_of_le ul big);have bl:(5*m)^n/g<2^800:=lt_of_le_of_lt (Nat.div_le_self _ _) (lt_of_lt_of_le bp.2 big);generalize (5^n*U 1 (m-1) k n)/g=x at *;generalize (5*m)^n/g=y at *;have m1:=u9 x (m^n) tl (lt_of_lt_of_le mn big);have m2:=u9 (U 1 (m-1) k n) y (lt_of_lt_of_le u1 big) bl;rw[<- cr]at m2;have pw:=zC1 (S:=m) (n:=n) (by omega) (by omega);have rj:=w9 ok;have ru:=YM ok;have gt:=zAn (Jn 1 (m-1) n k) 300;have pre:∀{o:Out (Fl×zP)},dB yO (.bSeq (.sIf (.tE (.cmp .gt (.call 1 (.ev (.var 0) (.ev (.var 1) (.ev (.var 2) .nil)))) (.c (.int 300)))) (.bOne (.sRet (.c (.bl true)))) .bNil)
  (.bSeq (.sForR1 (.cons (.var 0) .nil) (.n 4) yn)
  (.bOne (.sRet (.c (.bl true)))))) [.val (.int (m:Nat)),.val (.int (n:Nat)),.val (.int (k:Nat)),.val (.tup [.int (x:Nat),.int (y:Nat)]),.emp,.emp]=o->dB yO JS [.val (.int (m:Nat)),.val (.int (n:Nat)),.val (.int (k:Nat)),.emp,.emp,.emp]=o:=λh =>
  zN (jO (Wr (t_E (zR (F:=ya) rfl (zA rfl) (zA rfl) (zA rfl) tr)) rfl) jP) (zN (jO tst jP) (zN (jN (jW (F:=wK) rfl (zS (QD (zD x_c zT) rfl yx) (zA rfl) mt) (zS (zA rfl) x_c (zEr hm)) (zA rfl) (zA rfl) up) rfl) (zN (jO (t_E (zf (zS (zDS (zA rfl) x_c rfl) (zg (F:=jB) rfl (zA rfl) (zA rfl) pw) m1) (zS (zR (F:=yw) rfl (zA rfl) (zA rfl) (zA rfl) ru) (zDS (zA rfl) x_c rfl) m2) (YO _))) jP) h)))
 by_cases few:300<Jn 1 (m-1) n k
 ·rw[decide_eq_true few]at gt
  exact yH (pre (ZI (YJ (t_E (zf (zR (F:=yQ) rfl (zA rfl) (zA rfl) (zA rfl) rj) x_c gt)) (zX (yI x_c))))) rfl
 ·rw[decide_eq_false few]at gt
  obtain⟨E',f1,s4,s5,hE,h4,h5⟩:=jY (tg:=gN 4) (body:=dB yO yn) (λ_ E=>∃s4 s5,E=[.val (.int (m:Nat)),.val (.int (n:Nat)),.val (.int (k:Nat)),.val (.tup [.int (x:Nat),.int (y:Nat)]),s4,s5]/\jl s4=true/\jl s5=true) (DV.zM 0 m) 0 [.val (.int (m:Nat)),.val (.int (n:Nat)),.val (.int (k:Nat)),.val (.tup [.int (x:Nat),.int (y:Nat)]),.emp,.emp] ⟨_,_,rfl,rfl,rfl⟩
   (λi d q E ⟨s4,s5,hE,h4,h5⟩=>by
    have hi:i<m:=by
     have:=(List.getElem?_eq_some_iff.mp q).1
     rwa [jk]at this
    have hd:d=.int (i:Nat):=by
     rw[zAm,N,getElem?_map]at q;simp[List.getElem?_range,hi]at q;exact q.symm
    subst hd;obtain⟨t5,f,ht⟩:=turn_s hm hn hk (by omega) hi (.tup [.int (x:Nat),.int (y:Nat)]) s5 h5;refine⟨[.val (.int (m:Nat)),.val (.int (n:Nat)),.val (.int (k:Nat)),.val (.tup [.int (x:Nat),.int (y:Nat)]),.val (.int (i:Nat)),s5],_,?_,f,_,_,rfl,rfl,ht⟩;subst hE;cases s4<;>first|rfl|(cases h4))
  subst hE;have fo:=ZH (fs:=yO) (E:=[.val (.int (m:Nat)),.val (.int (n:Nat)),.val (.int (k:Nat)),.val (.tup [.int (x:Nat),.int (y:Nat)]),.emp,.emp]) (a:=.cons (.var 0) .nil) (tg:=.n 4) (b:=yn) (j:=((m:Nat):Int)) (zD (zA rfl) zT) rfl ⟨by omega,by omega⟩ (by rw[Int.toNat_natCast];exact f1);exact yH (pre (zN (jO (t_E (zf (zR (F:=yQ) rfl (zA rfl) (zA rfl) (zA rfl) rj) x_c gt)) jP) (zN fo (zX (yI x_c))))) rfl
end My
namespace My
open PySem L2 DV SM
theorem Jh(p:List D)(hp:Pen p)(m:Nat)(h0:0<m)(h1:m<1000):∃(r:Nat) (p':List D),zq [.par p,.val (.int (m:Nat))]=.ok (.val (.int (r:Nat)),[.par p',.emp])/\r<m/\Pen p':=by
 obtain⟨r,p',e,l,u,h⟩:=Q4 p hp m (by omega) (by omega);obtain⟨r,rfl⟩:=Int.eq_ofNat_of_zero_le l;exact⟨r,p',e,by omega,h⟩
theorem max0(a b:Nat):W8 [.int 0,.int ((a:Int)-(b:Int))]=some (.val (.int ((a-b:Nat):Int))):=by
 have:(if(a:Int)-(b:Int) > 0 then(a:Int)-(b:Int)else 0)=((a-b:Nat):Int):=by split<;>omega
 simp only[W8,uN,this]
def InC(v:D)(E:zP):Prop:=∃s1 s2 s3 s4 s5,E=[.val v,s1,s2,s3,s4,s5]/\jl s1=true/\jl s2=true/\jl s3=true/\jl s4=true/\jl s5=true
theorem put34{v s1 s2 s3 s4 s5:DV.Slot}{a b:D}(h3:jl s3=true)(h4:jl s4=true):gNs [3,4] [a,b] [v,s1,s2,s3,s4,s5]=.ok [v,s1,s2,.val a,.val b,s5]:=by
 cases s3<;>first|(cases h3;done)|(cases s4<;>first|rfl|(cases h4))
theorem cell_ok(v:D)(c:Int)(s2 s3 s4 s5:DV.Slot)(h2:jl s2=true)(h3:jl s3=true)(h4:jl s4=true)(h5:jl s5=true):∃E2,dB vx uo [.val v,.val (.int c),s2,s3,s4,s5]=.ok (.nx,E2)/\InC v E2:=by
 obtain⟨p0,e0,hp0⟩:=uy c;obtain⟨a,p1,e1,u1,hp1⟩:=Jh p0 hp0 2 (by decide) (by decide);obtain⟨n,p2,e2,u2,hp2⟩:=Jh p1 hp1 21 (by decide) (by decide);obtain⟨k1,p3,e3,u3,hp3⟩:=Jh p2 hp2 5 (by decide) (by decide);obtain⟨d,p4,e4,u4,hp4⟩:=Jh p3 hp3 4 (by decide) (by decide);obtain⟨k3,p5,e5,u5,hp5⟩:=Jh p4 hp4 25 (by decide) (by decide);obtain⟨i,p6,e6,u6,hp6⟩:=Jh p5 hp5 3 (by decide) (by decide);obtain⟨k,hk,ix⟩:∃k:Nat,k<=24/\ixD (.lst [.int (k1:Nat),.int ((n-d:Nat):Int),.int (k3:Nat)]) (.int (i:Nat))=some (.val (.int (k:Nat))):=by
  have:i=0\/i=1\/i=2:=by omega
  rcases this with rfl|rfl|rfl
  ·exact⟨k1,by omega,rfl⟩
  ·exact⟨n-d,by omega,rfl⟩
  ·exact⟨k3,by omega,rfl⟩
 have rt:=e_right (m:=2+a) (n:=n) (k:=k) (by omega) (by omega) (by omega);have xl:dE vx (.lst (.cons (.call 1 (.lend 2 (.ev (.c (.int 5)) .nil))) (.cons (.cB .max (.cons (.c (.int 0)) (.cons (.bin .sub (.var 4) (.call 1 (.lend 2 (.ev (.c (.int 4)) .nil)))) .nil))) (.cons (.call 1 (.lend 2 (.ev (.c (.int 25)) .nil))) .nil)))) [.val v,.val (.int c),.own p2,.val (.int ((2+a:Nat):Int)),.val (.int (n:Nat)),s5]=.ok (.own [.int (k1:Nat),.int ((n-d:Nat):Int),.int (k3:Nat)],[.val v,.val (.int c),.own p5,.val (.int ((2+a:Nat):Int)),.val (.int (n:Nat)),s5]) :=
  Jp (zD (Jg (F:=zq) rfl rfl x_c e3 rfl) (zD (YS (zD x_c (zD (zS (zA rfl) (Jg (F:=zq) rfl rfl x_c e4 rfl) rfl) zT)) (max0 n d)) (zD (Jg (F:=zq) rfl rfl x_c e5 rfl) zT))) rfl JY
 refine⟨[.val v,.val (.int c),.own p6,.val (.int ((2+a:Nat):Int)),.val (.int (n:Nat)),.val (.int (k:Nat))],?_,_,_,_,_,_,rfl,rfl,rfl,rfl,rfl,rfl⟩;refine zN (jN (wU (F:=jL) rfl (zA rfl) e0) (JV rfl h2 rfl)) ?_;refine zN (s_par (zD (zS x_c (Jg (F:=zq) rfl rfl x_c e1 rfl) (JX 2 a)) (zD (Jg (F:=zq) rfl rfl x_c e2 rfl) zT)) (put34 h3 h4)) ?_;refine zN (jN (zDS xl (Jg (F:=zq) rfl rfl x_c e6 rfl) ix) (JV rfl h5 rfl)) ?_;exact zX (jO (Wr (t_E (zR (F:=wL) rfl (zA rfl) (zA rfl) (zA rfl) rt)) rfl) jP)
theorem math12(ns:List Int)(hns:ns.length<=63):∃outs,m_law [.val (.lst (ns.map D.int))]=.ok (.val (.bl true),outs):=by
 obtain⟨c,e2⟩:=vM ns;have hcut:QU (ns.map D.int) (some 1) (some 8)=((ns.drop (HT.sIx ns.length 0 (some 1))).take (HT.sIx ns.length ns.length (some 8)-HT.sIx ns.length 0 (some 1))).map D.int:=by
  unfold QU;simp[List.map_drop,map_take]
 generalize hk:(ns.drop (HT.sIx ns.length 0 (some 1))).take (HT.sIx ns.length ns.length (some 8)-HT.sIx ns.length 0 (some 1))=k at hcut;have hkl:k.length<=63:=by rw[<- hk];simp;omega
 have c1:slD (.lst (ns.map D.int)) (some 1) (some 8)=some (.own (k.map D.int)):=by simp only[slD,hcut]
 have c2:=YK [.int c] (k.map D.int) (by simp;omega);generalize hv:D.lst (ns.map D.int)=v at e2 c1;obtain⟨E',f1,u1,u2,u3,u4,u5,hE,_⟩:=jY (tg:=gN 1) (body:=dB vx uo) (λ_ E=>InC v E) ([.int c]++k.map D.int) 0 [.val v,.emp,.emp,.emp,.emp,.emp] ⟨_,_,_,_,_,rfl,rfl,rfl,rfl,rfl,rfl⟩
  (λi d q E hI=>by
   obtain⟨s1,s2,s3,s4,s5,hE,h1,h2,h3,h4,h5⟩:=hI;obtain⟨x,rfl⟩:∃x:Int,d=.int x:=by
    have:=mem_of_getElem? q;rcases mem_append.mp this with m|m
    ·exact⟨c,mem_singleton.mp m⟩
    ·obtain⟨x,_,rfl⟩:=mem_map.mp m;exact⟨x,rfl⟩
   obtain⟨E2,f1,f2⟩:=cell_ok v x s2 s3 s4 s5 h2 h3 h4 h5;refine⟨[.val v,.val (.int x),s2,s3,s4,s5],E2,?_,f1,f2⟩;subst hE;cases s1<;>first|rfl|(cases h1))
 subst hE;refine⟨_,yH (r:=.val (.bl true)) (E1:=[.val v,u1,u2,u3,u4,u5]) ?_ rfl⟩;show dB vx (.bSeq (.sForL _ _ uo) (.bOne _)) [.val v,.emp,.emp,.emp,.emp,.emp]=_;exact zN (s_forL (zS (Jp (zD (zg (F:=ym) rfl (zA rfl) x_c e2) zT) rfl yx) (x_sl (zA rfl) (o_S x_c) (o_S x_c) c1) c2) rfl f1) (zX (yI x_c))
end My
namespace My
open PySem L2 DV
theorem txt_lk{K:PySem.W.Frag}{h:Heap}{mg:Str->Option Value}(X:K.In h)(G:h.Ns mainGlobals mg)(e:WH K=wants):Txt K mg :=
 have e1:=congrArg (λx:lkT=>x.1) e;have e2:=congrArg (λx:lkT=>x.2.1) e;have e3:=congrArg (λx:lkT=>x.2.2.1) e
 {n_abs:=ZD X G (ix 0 e3),n_all:=ZD X G (ix 1 e3),n_bool:=ZD X G (ix 2 e3),n_enumerate:=ZD X G (ix 3 e3),n_int:=ZD X G (ix 4 e3),n_isinstance:=ZD X G (ix 5 e3),n_len:=ZD X G (ix 6 e3),n_max:=ZD X G (ix 7 e3),n_range:=ZD X G (ix 8 e3),n_reversed:=ZD X G (ix 9 e3),n_sum:=ZD X G (ix 10 e3),n_tuple:=ZD X G (ix 11 e3),n_zip:=ZD X G (ix 12 e3),c_LEAST_SIGNS:=Qn X G (ix 0 e2),c_LEAST_WEIGHT:=Qn X G (ix 1 e2),c_MOST_COUNTED:=Qn X G (ix 2 e2),c_MOST_LISTED:=Qn X G (ix 3 e2),c_MOST_SIGNS:=Qn X G (ix 4 e2),c_MOST_THROWS:=Qn X G (ix 5 e2),c_MOST_WEIGHT:=Qn X G (ix 6 e2),f_is_whole:=yE X G (ix 0 e1),f_is_whole_within:=yE X G (ix 1 e1),f_greatest_divisor:=yE X G (ix 2 e1),f_whole_power:=yE X G (ix 3 e1),f_share_of:=yE X G (ix 4 e1),f_die_good:=yE X G (ix 5 e1),f_sign_good:=yE X G (ix 6 e1),f_row_good:=yE X G (ix 7 e1),f_need_die:=yE X G (ix 8 e1),f_need_row:=yE X G (ix 9 e1),f_need_number:=yE X G (ix 10 e1),f_need_signs:=yE X G (ix 11 e1),f_need_sign:=yE X G (ix 12 e1),f_greatest_length:=yE X G (ix 13 e1),f_runs_of_sign:=yE X G (ix 14 e1),f_runs_of:=yE X G (ix 15 e1),f_longest:=yE X G (ix 16 e1),f_weigh_upto:=yE X G (ix 17 e1),f_weigh_just:=yE X G (ix 18 e1),f_weigh_table:=yE X G (ix 19 e1),f_weigh_alike_upto:=yE X G (ix 20 e1),f_weigh_runs:=yE X G (ix 21 e1),f_need_counted:=yE X G (ix 22 e1),f_rows_upto:=yE X G (ix 23 e1),f_rows_just:=yE X G (ix 24 e1),f_alike_upto:=yE X G (ix 25 e1),f_alike_just:=yE X G (ix 26 e1),f_rows_table:=yE X G (ix 27 e1),f_alike_table:=yE X G (ix 28 e1),f_rows_by_runs:=yE X G (ix 29 e1),f_runs_total:=yE X G (ix 30 e1),f_grown_by:=yE X G (ix 31 e1),f_can_come_to:=yE X G (ix 32 e1),f_rows_with:=yE X G (ix 33 e1),f_need_thrown:=yE X G (ix 34 e1),f_others_weight:=yE X G (ix 35 e1),f_share_in_all:=yE X G (ix 36 e1),f_share_upto:=yE X G (ix 37 e1),f__law_cell_at:=yE X G (ix 38 e1),f__law_power:=yE X G (ix 39 e1),f__law_next:=yE X G (ix 40 e1),f__law_pen_of:=yE X G (ix 41 e1),f__law_draw:=yE X G (ix 42 e1),f__law_tables_right:=yE X G (ix 43 e1),f__law_right:=yE X G (ix 44 e1),f_law:=yE X G (ix 45 e1),cl:=cl_at X G (congrArg (λx:lkT=>x.2.2.2) e)}
end My
end
open PySem PySem.W PyProof.Rows
set_option maxRecDepth 100000 in
set_option maxHeartbeats 0 in
theorem PySem.Challenge.cw_throwruns_k12_whole_counts_holds : PySem.Challenge.rw_throwruns_k12_whole_counts.Holds := by
 w_on;refine holds_law My.hz λsaid=>?_
 refine holds_open (q:=My.q) (loose:=My.ls) (Xt:=λs=>xlAt My.q [] s&&recOk (RowW.records (OpenLaw.row PySem.Challenge.rw_throwruns_k12_whole_counts).toRowW) s) (XP:=XL My.q []) (Yf:=λs=>My.WH (DV.YT s.heap My.as)) (Ya:=λ_=>My.wants) (YP:=(DV.zAZ My.as My.lkT My.WH My.wants).says) (N:=5232) My.hl (DV.zAZ My.as My.lkT My.WH My.wants).of (DV.zAZ My.as My.lkT My.WH My.wants).keeps (λs e=>xl_of s (Bool.and_eq_true_iff.mp e).1) XL.keeps (by rfl) (by rfl) (by rfl) (λs e=>recFacts_of (Bool.and_eq_true_iff.mp e).2) ?h4 ?h5 ?h6 ⟨rfl,rfl,rfl,rfl,rfl,by decide +kernel⟩ ?hw ?hc
 case h4=>rfl
 case h5=>first|assumption|decide +kernel
 case h6=>decide +kernel
 case hw=>w_witness2
 case hc=>exact DV.walkE (l:=PySem.Challenge.rw_throwruns_k12_whole_counts) (x:="_law_script") My.math12 rfl rfl λw K mg fa h KX e G hmg=>My.law_fd hmg (My.txt_lk KX G e)
