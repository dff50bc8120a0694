import PyProof.Rows.All
import KE.KFromBytes
import KE.KSortTup
import KE.KIsAll
import PyProof.InstStoreFacts
import PyProof.InstSpecial
import PyProof.FString
import OpenK.KCls
import PyProof.TupleKey
import PyProof.Rows.TupTab
import PyProof.FactsAll.NoneType
import PyProof.DictRoadsH
import PyProof.Rows.TupDisplay
import KE.KDictList
import PySem.Challenge.RW_throwruns_k51_within_so_many_throws
set_option Elab.async false
set_option linter.all false
set_option genSizeOf false
set_option genSizeOfSpec false
set_option genInjectivity false
set_option maxRecDepth 100000
set_option maxHeartbeats 0
def DV.nf{P:Prop}(h:false=true):P:=absurd h Bool.false_ne_true
open List (mem_filter filterMap_cons mem_cons_self mem_cons_of_mem mem_cons mem_append mem_append_left getElem?_set_self getElem?_set_ne mem_filterMap mem_append_right append_nil nodup_cons of_mem_zip replicate length getElem?_append_right getElem?_append_left getElem?_map mem_of_getElem? length_append length_map size_toArray all_cons any_cons replicate_succ flatten_cons foldl append_assoc foldl_cons map_nil map_cons find?_cons map_append nodup_append mem_singleton mem_map map_map map_congr_left forIn_cons sublist_cons_self eraseIdx_sublist nil_append perm_append_comm sublist_append_right length_cons drop_eq_getElem_cons drop_length perm_middle zip_cons_cons zip_append lookup_cons all_eq_true mem_nil_iff getD_eq_getElem?_getD getElem?_eq_getElem getElem_toArray getElem_mem take_add_one sum_append take_length nodup_nil isEmpty_iff set_set length_nil range_succ range' sum_cons)
open Nat (lt_of_lt_of_le lt_irrefl ne_of_lt le_trans le_refl zero_le mul_comm lt_trans lt_succ_of_lt not_lt le_succ zero_add add_assoc mul_add pow_succ gcd_dvd_right mul_pos mul_zero gcd_comm gcd_rec mod_lt lt_of_le_of_lt pow_pos add_zero)
open PySem.W (clsIn typeIn findIn specialIn takesIn nsIn codeIn keepIn fnOf excIn methodObj hideAll hideAll_get of_hideAll cellsFrom_some mroIn looks_findIn looks_mroIn kitOne kitCls kia_one mg_of)
open PySem.Heap (lt_size get?_push_of_some get?_push_size size_push)
noncomputable section
def qA:=@PySem.Heap.get?_push_of_some
def qB:=@PySem.wpAny_bind
def qC:=@PySem.wpAny_pure
def qD:=@List.mem_cons_of_mem
def qE:=@List.mem_cons_self
def qF:=@Bool.false_ne_true
def qG:=@List.getElem?_eq_some_iff
def qJ:=@Option.some.inj
def qK:=@List.mem_append_right
abbrev qH:=PySem.W.Frag
namespace L2
open PySem
def Jj(s:Stmt):Arguments:=match s with
 | .FunctionDef _ a _ _ _ _ _ _ _ _=>a|_=>{posonlyargs:=[],args:=[],vararg:=none,kwonlyargs:=[],kw_defaults:=[],kwarg:=none,defaults:=[]}
def jH(s:Stmt):List Stmt:=match s with
 | .FunctionDef _ _ b _ _ _ _ _ _ _=>b|_=>[]
def zl(s:Stmt):Scope:=match s with
 | .FunctionDef _ _ _ _ _ _ sc _ _ _=>sc|_=>{kind:=.function,names:=[],isGenerator:=false,isCoroutine:=false}
end L2
namespace DV
open PySem L2
abbrev VB:List Value:=[.type "ValueError",.type "Exception",.type "BaseException",.type "object"]
def xIn(K:qH)(c:Str)(C T:Addr):Bool:=(match clsIn K C with|some cd=>cd.name==c&&cd.mro==[.ref C,.ref T,.type "ValueError",.type "Exception",.type "BaseException",.type "object"]|none=>false)
 && typeIn K (.ref C)==some (.type "type")&&findIn K (.ref C) "__getattribute__" == some (some (.builtin "BaseException.__getattribute__"))&&findIn K (.ref C) "__getattr__" == some none
 && findIn K (.ref C) "__class__" == some (some (.builtin "object.__class__"))&&specialIn K (.builtin "object.__class__") "__get__" == some (some (.builtin "getset_descriptor.__get__"))&&takesIn K (.builtin "object.__class__")==some true&&!(C==T)
def tIn(K:qH)(T:Addr):Bool:=(match clsIn K T with|some cd=>cd.mro==(.ref T::VB)|none=>false)&&typeIn K (.ref T)==some (.type "type")
def isFr:Obj->Bool
 |⟨_,_,.freed,_⟩=>true|_=>false
def uJ:List Obj->Nat->List Addr->qH
 | [],_,_=>[]|_::_,_,[]=>[]
 |o::os,i,a::as=>match Nat.beq i a with
  |true=>(match isFr o with
   |true=>uJ os (i+1) as|false=>(i,o)::uJ os (i+1) as)
  |false=>uJ os (i+1) (a::as)
def YC(h:Heap)(as:List Addr):qH:=uJ h.objs.toList 0 as
def FvT:Type:=Bool×Str×Str×Arguments×FuncBody×Scope×Addr×List (Str×Addr)×Value×Addr
def fvOf(b:Bool)(fd:FuncData):FvT:=(b,fd.name,fd.qualname,fd.params,fd.body,fd.scope,fd.globals,fd.closure,fd.defaults,fd.builtins)
def yM(K:qH)(n:Str):Option FvT:=match nsIn K mainGlobals n with
 |some (some (.ref a))=>(match K.lookup a with
  |some ⟨_,_,.func fd,_⟩=>some (fvOf (codeIn K fd.code n&&keepIn K (.ref a)) fd)|_=>none)
 |_=>none
def yU(n:Str)(st:Stmt):Option FvT:=some (fvOf true (fnOf n n (Jj st) (jH st) (zl st) .none .none .none .none none .none .none))
def Y1(K:qH)(n:Str):Option Int:=match nsIn K mainGlobals n with
 |some (some (.int i _))=>some i|_=>none
def zAp(K:qH)(n:Str)(j:Int):Bool:=match nsIn K mainGlobals n with
 |some (some (.ref a))=>(match K.lookup a with
  |some ⟨.type t,_,.seq its _,_⟩=>t == "tuple"&&(match its.toList with
   | [.none,.int y _]=>y==j|_=>false)
  |_=>false)
 |_=>false
def jK(K:qH)(n:Str):Bool:=match nsIn K mainGlobals n with
 |some none=>true|_=>false
def JN(K:qH)(n:Str):Option Addr:=match nsIn K mainGlobals n with
 |some (some (.ref a))=>some a|_=>none
def zAq(K:qH):Bool:=match K.lookup sysModules with
 |some o=>(match o.data with | .dict _ _=>true|_=>false)
 |none=>false
def zEx(K:qH)(cl rs:List Str):Bool :=
 (cl.isEmpty||(match JN K "ThrowError" with
  |some T=>tIn K T&&cl.all λc=>(match JN K c with|some C=>xIn K c C T|none=>false)
  |none=>false)) &&
 (rs.all λc=>(match JN K c with|some C=>excIn K C VB "ValueError.__new__" |none=>false))&&zAq K
end DV
namespace My
open PySem L2 DV
def top(i:Nat):Stmt:=PySem.Challenge.pw_throwruns_k51_within_so_many_throws.main.body.getD i (.Pass ⟨0,0,0,0⟩)
abbrev Wn:Stmt:=top 11
abbrev jz:Stmt:=top 12
abbrev ji:Stmt:=top 13
abbrev YD:Stmt:=top 14
abbrev Wo:Stmt:=top 15
abbrev Wp:Stmt:=top 21
abbrev YE:Stmt:=top 22
abbrev JO:Stmt:=top 24
abbrev Y2:Stmt:=top 29
abbrev Y3:Stmt:=top 30
abbrev YF:Stmt:=top 31
abbrev JP:Stmt:=top 32
abbrev Za:Stmt:=top 33
abbrev JQ:Stmt:=top 35
abbrev Zb:Stmt:=top 36
abbrev YG:Stmt:=top 37
abbrev Zc:Stmt:=top 38
abbrev JR:Stmt:=top 39
abbrev Y4:Stmt:=top 40
abbrev Wq:Stmt:=top 41
abbrev Y5:Stmt:=top 42
abbrev YH:Stmt:=top 43
abbrev wY:Stmt:=top 44
abbrev YI:Stmt:=top 45
abbrev Zd:Stmt:=top 46
abbrev YJ:Stmt:=top 47
abbrev Y6:Stmt:=top 48
abbrev Wr:Stmt:=top 49
abbrev Ze:Stmt:=top 50
abbrev Zf:Stmt:=top 51
abbrev s_law:Stmt:=top 52
def cl_:List Str:=["NoDie","NoRow","NoNumber","NoLine","NoMachine","NoPaper","NoText","TooGreat"]
def rs_:List Str:=["NoDie","NoRow","NoNumber","NoLine","NoMachine","NoPaper"]
def lkT:Type:=List (Option FvT)×List (Option Int)×List Bool×Bool
def Zg(K:qH):lkT:=([yM K "is_whole",yM K "is_whole_within",yM K "greatest_divisor",yM K "whole_power",yM K "share_of",yM K "die_good",yM K "need_number",yM K "share_in_all",yM K "match_good",yM K "need_match",yM K "stands_list",yM K "stand_behind",yM K "shares_by",yM K "_law_cell_at",yM K "_law_next",yM K "_law_pen_of",yM K "_law_draw",yM K "_law_kind_of",yM K "_law_share",yM K "_law_add",yM K "_law_times",yM K "_law_die_by",yM K "_law_match_by",yM K "_law_behind",yM K "_law_rows",yM K "_law_weight",yM K "_law_first",yM K "_law_due",yM K "_law_gone",yM K "_law_told",yM K "law"],[Y1 K "LEAST_SIGNS",Y1 K "LEAST_WEIGHT",Y1 K "MOST_MATCHED",Y1 K "MOST_PLAYED",Y1 K "MOST_SIGNS",Y1 K "MOST_WEIGHT"],[jK K "ValueError",jK K "abs",jK K "all",jK K "bool",jK K "enumerate",jK K "int",jK K "isinstance",jK K "len",jK K "list",jK K "max",jK K "range",jK K "repr",jK K "sum",jK K "tuple",zAp K "NO_STAND" 0],zEx K cl_ rs_)
def wants:lkT:=([yU "is_whole" Wn,yU "is_whole_within" jz,yU "greatest_divisor" ji,yU "whole_power" YD,yU "share_of" Wo,yU "die_good" Wp,yU "need_number" YE,yU "share_in_all" JO,yU "match_good" Y2,yU "need_match" Y3,yU "stands_list" YF,yU "stand_behind" JP,yU "shares_by" Za,yU "_law_cell_at" JQ,yU "_law_next" Zb,yU "_law_pen_of" YG,yU "_law_draw" Zc,yU "_law_kind_of" JR,yU "_law_share" Y4,yU "_law_add" Wq,yU "_law_times" Y5,yU "_law_die_by" YH,yU "_law_match_by" wY,yU "_law_behind" YI,yU "_law_rows" Zd,yU "_law_weight" YJ,yU "_law_first" Y6,yU "_law_due" Wr,yU "_law_gone" Ze,yU "_law_told" Zf,yU "law" s_law],[some 2,some 1,some 6,some 30,some 3,some 9],[true,true,true,true,true,true,true,true,true,true,true,true,true,true,true],true)
def q0:Program:=PySem.Challenge.pw_throwruns_k51_within_so_many_throws
def isLaw:Stmt->Bool
 | .FunctionDef f ..=>f == "law"|_=>false
def q:Program:={q0 with main:={q0.main with body:=q0.main.body.filter isLaw}}
def nameOf:Stmt->List Str
 | .FunctionDef f ..=>[f]| .ClassDef f ..=>[f]| .Assign [.Name x _] _ _=>[x]|_=>[]
def ls:List Str:=(q0.main.body.flatMap nameOf).filter (· != "law")
def as:List Addr:=[1,2,3,15,22,23,24,25,28,35,36,37,40,47,48,49,52,59,60,61,64,71,72,73,76,83,84,85,88,95,96,97,100,107,109,110,112,113,114,115,116,119,126,128,129,131,132,133,134,135,138,140,141,143,144,145,147,148,150,151,152,154,155,157,158,159,161,162,164,165,166,168,169,171,172,173,176,177,178,180,181,183,184,185,187,188,190,191,192,193,196,197,198,200,201,203,204,205,208,209,210,212,213,215,216,217,220,221,222,224,225,227,228,229,231,232,234,235,236,238,239,241,242,243,245,246,248,249,250,252,253,255,256,257,259,260,262,263,264,266,267,269,270,271,273,274,276,277,278,281,282,283,285,286,288,289,290,292,293,295,296,297,300,301,302,304,305,307,308,309,311,312,314,315,316,318,319,321,322,323,326,327,328,330,331,333,334,335,337,338,340,341]
end My
section
open PySem PySem.W PyProof.Rows
theorem My.hz:OpenLaw.wellSaid PySem.Challenge.rw_throwruns_k51_within_so_many_throws=true:=by decide +kernel
theorem My.h2{α β γ:Type}{o:Option α}{f:α->β}{g:α->γ}{b:β}{c:γ}(h1:o.map f=some b)(h2:o.map g=some c):o.map (λs=>(f s,g s))=some (b,c):=by
 cases o with
 |none=>cases h1|some s=>cases h1;cases h2;rfl
theorem My.hu:∀(w:World) (os:OsState),(topFrom treeTable (OpenLaw.row PySem.Challenge.rw_throwruns_k51_within_so_many_throws).toRowW.prog w 6156 ⟨boot_heap w.params,#[],boot_drawn,boot_toks,os⟩).map (λs=>openSeen My.q My.ls (importedModules (OpenLaw.row PySem.Challenge.rw_throwruns_k51_within_so_many_throws).toRowW.prog.main.body) (λs=>xlAt My.q [] s&&recOk (RowW.records (OpenLaw.row PySem.Challenge.rw_throwruns_k51_within_so_many_throws).toRowW) s) true s)=some (openGood My.q My.ls):=by
 intro w os
 kernel_rfl
theorem My.h4{α γ:Type}{o:Option α}{g:α->List γ}{w:List γ}(n:Nat)(ha:o.map (λs=>(g s).take n)=some (w.take n))(hb:o.map (λs=>(g s).drop n)=some (w.drop n)):o.map g=some w:=by
 cases o with
 |none=>cases ha|some s=>exact congrArg some ((List.take_append_drop n (g s)).symm.trans ((congr (congrArg HAppend.hAppend (qJ ha)) (qJ hb)).trans (List.take_append_drop n w)))
theorem My.h5{α γ δ:Type}{o:Option α}{g:α->γ×δ}{w:γ×δ}(ha:o.map (λs=>(g s).1)=some w.1)(hc:o.map (λs=>(g s).2)=some w.2):o.map g=some w:=by
 cases o with
 |none=>cases ha|some s=>exact congrArg some (Prod.ext (qJ ha) (qJ hc))
theorem My.hv0:∀(w:World) (os:OsState),(topFrom treeTable (OpenLaw.row PySem.Challenge.rw_throwruns_k51_within_so_many_throws).toRowW.prog w 6156 ⟨boot_heap w.params,#[],boot_drawn,boot_toks,os⟩).map (λs=>((My.Zg (DV.YC s.heap My.as)).1.take 20))=some (My.wants.1.take 20):=by
 intro w os
 kernel_rfl
theorem My.hv1:∀(w:World) (os:OsState),(topFrom treeTable (OpenLaw.row PySem.Challenge.rw_throwruns_k51_within_so_many_throws).toRowW.prog w 6156 ⟨boot_heap w.params,#[],boot_drawn,boot_toks,os⟩).map (λs=>((My.Zg (DV.YC s.heap My.as)).1.drop 20))=some (My.wants.1.drop 20):=by
 intro w os
 kernel_rfl
theorem My.hvc:∀(w:World) (os:OsState),(topFrom treeTable (OpenLaw.row PySem.Challenge.rw_throwruns_k51_within_so_many_throws).toRowW.prog w 6156 ⟨boot_heap w.params,#[],boot_drawn,boot_toks,os⟩).map (λs=>(My.Zg (DV.YC s.heap My.as)).2)=some My.wants.2:=by
 intro w os
 kernel_rfl
theorem My.hv(w:World)(os:OsState):(topFrom treeTable (OpenLaw.row PySem.Challenge.rw_throwruns_k51_within_so_many_throws).toRowW.prog w 6156 ⟨boot_heap w.params,#[],boot_drawn,boot_toks,os⟩).map (λs=>My.Zg (DV.YC s.heap My.as))=some My.wants:=My.h5 (My.h4 20 (My.hv0 w os) (My.hv1 w os)) (My.hvc w os)
theorem My.ht:∀(w:World) (os:OsState),(topFrom treeTable (OpenLaw.row PySem.Challenge.rw_throwruns_k51_within_so_many_throws).toRowW.prog w 6156 ⟨boot_heap w.params,#[],boot_drawn,boot_toks,os⟩).map (λs=>(openSeen My.q My.ls (importedModules (OpenLaw.row PySem.Challenge.rw_throwruns_k51_within_so_many_throws).toRowW.prog.main.body) (λs=>xlAt My.q [] s&&recOk (RowW.records (OpenLaw.row PySem.Challenge.rw_throwruns_k51_within_so_many_throws).toRowW) s) true s,My.Zg (DV.YC s.heap My.as)))=some (openGood My.q My.ls,My.wants):=λw os=>My.h2 (My.hu w os) (My.hv w os)
theorem My.ho:opening (OpenLaw.row PySem.Challenge.rw_throwruns_k51_within_so_many_throws).toRowW.prog=plainProg (OpenLaw.row PySem.Challenge.rw_throwruns_k51_within_so_many_throws).toRowW.prog.main.scope.names:=by kernel_rfl
theorem My.hf:∀s,fenceModules? (OpenLaw.row PySem.Challenge.rw_throwruns_k51_within_so_many_throws).toRowW.prog s=some s:=by
 intro s
 kernel_rfl
theorem My.hl:LeftO (OpenLaw.row PySem.Challenge.rw_throwruns_k51_within_so_many_throws).toRowW.prog My.q My.ls (λs=>xlAt My.q [] s&&recOk (RowW.records (OpenLaw.row PySem.Challenge.rw_throwruns_k51_within_so_many_throws).toRowW) s) (λs=>My.Zg (DV.YC s.heap My.as)) (λ_=>My.wants) 6156:=by
 intro w;obtain⟨s,hs,hv⟩:=Option.map_eq_some_iff.mp (boot_open My.ho (N:=6156) rfl My.hf w);unfold openEnds;rw[hs];obtain⟨h,g,d,t,os⟩:=s;have h1:h=boot_heap w.params:=congrArg Prod.fst hv;have h2:g=#[]:=congrArg (λx=>x.2.1) hv;have h3:d=boot_drawn:=congrArg (λx=>x.2.2.1) hv;have h4:t=boot_toks:=congrArg (λx=>x.2.2.2) hv;subst h1;subst h2;subst h3;subst h4;exact My.ht w os
end
namespace L2
open PySem PySem.Spec PyProof.Rows
abbrev Key:=Sum Int Str
def keyIs:Key->Value->Bool
 | .inl k,v=>Value.isInt k v| .inr x,v=>Value.isStrOf x v
def keyH(w:World):Key->Int
 | .inl k=>hashInt k| .inr x=>hashStr w x
def yD:∀{k:Key} {v:Value},keyIs k v=true->(∃i t,k=Sum.inl i/\v=Value.int i t)\/(∃x t,k=Sum.inr x/\v=Value.str x t)
 | .inl i,v,h=>by
  obtain⟨t,e⟩:=Value.isInt_shape (k:=i) (v:=v) h;exact .inl ⟨i,t,rfl,e⟩
 | .inr x,v,h=>by
  obtain⟨t,e⟩:=Value.isStrOf_shape (x:=x) (v:=v) h;exact .inr ⟨x,t,rfl,e⟩
def key_ll(a b:Int):decide ((Sum.inl a:Key)=Sum.inl b)=(a==b):=by
 by_cases e:a=b
 ·subst e;simp
 ·have h:¬(Sum.inl a:Key)=Sum.inl b:=λq=>e (Sum.inl.inj q)
  rw[decide_eq_false h];exact(beq_eq_false_iff_ne.mpr e).symm
def key_rr(a b:Str):decide ((Sum.inr a:Key)=Sum.inr b)=decide (a=b):=by
 by_cases e:a=b
 ·subst e;simp
 ·have h:¬(Sum.inr a:Key)=Sum.inr b:=λq=>e (Sum.inr.inj q)
  rw[decide_eq_false h,decide_eq_false e]
def key_lr(a:Int)(b:Str):decide ((Sum.inl a:Key)=Sum.inr b)=false:=decide_eq_false (λq=>nomatch q)
def key_rl(a:Str)(b:Int):decide ((Sum.inr a:Key)=Sum.inl b)=false:=decide_eq_false (λq=>nomatch q)
def Gd(prog:Program)(w:World):PySem.KeyKind prog w Key where
 is:=keyIs
 hash:=keyH w
 inj:=λv a b ha hb=>by
  rcases yD ha with⟨i,t,rfl,rfl⟩|⟨x,t,rfl,rfl⟩
  ·rcases yD hb with⟨j,u,rfl,e⟩|⟨y,u,rfl,e⟩
   ·injection e with e1 _;rw[e1]
   ·exact nomatch e
  ·rcases yD hb with⟨j,u,rfl,e⟩|⟨y,u,rfl,e⟩
   ·exact nomatch e
   ·injection e with e1 _;rw[e1]
 byValue:=λk v h=>by
  rcases yD h with⟨i,t,rfl,rfl⟩|⟨x,t,rfl,rfl⟩<;>rfl
 pyHash:=λhv h=>by
  rcases yD hv with⟨i,t,rfl,rfl⟩|⟨x,t,rfl,rfl⟩
  ·exact wpAny_pyHash_int h
  ·exact wpAny_pyHash_str h
 eqBool:=λhu hv h=>by
  rcases yD hu with⟨i,t,rfl,rfl⟩|⟨x,t,rfl,rfl⟩
  ·rcases yD hv with⟨j,u,rfl,rfl⟩|⟨y,u,rfl,rfl⟩
   ·rw[key_ll]at h;exact wpAny_eqBool_int h
   ·rw[key_lr]at h;exact SeqAt.EqAt.int_str i t y u _ _ _ _ h
  ·rcases yD hv with⟨j,u,rfl,rfl⟩|⟨y,u,rfl,rfl⟩
   ·rw[key_rl]at h;exact SeqAt.EqAt.str_int x t j u _ _ _ _ h
   ·rw[key_rr]at h;exact wpAny_eqBool_str h
 «strs»:=λk x t v h=>by
  rcases yD h with⟨i,u,rfl,e⟩|⟨y,u,rfl,e⟩
  ·exact nomatch e
  ·injection e with e1 _
   subst e1;cases v<;>rfl
set_option genInjectivity true in
inductive V where
 |non|bl (b:Bool)|int (i:Int)|str (x:Str)|byt (b:Array UInt8)|flt (b:UInt64)|ref (a:Addr)|ty (n:String)
 deriving DecidableEq
def zz:V->Value->Prop
 | .non,u=>u=Value.none| .bl b,u=>u=Value.bool b| .int i,u=>∃t,u=Value.int i t| .str x,u=>∃t,u=Value.str x t| .byt b,u=>∃t,u=Value.bytes b t| .flt b,u=>∃t,u=Value.float b t| .ref a,u=>u=Value.ref a| .ty n,u=>u=Value.type n
abbrev yG:List V->List Value->Prop:=Paired zz
theorem yG.length{xs:List V}{us:List Value}(r:yG xs us):xs.length=us.length:=Paired.length r
theorem yG.get:∀{xs:List V} {us:List Value} {i:Nat} {x:V},yG xs us->xs[i]?=some x->∃u,us[i]?=some u/\zz x u
 |_,_,_,_,.nil,e=>by simp at e|_,_,0,_,.cons r _,e=>by simp at e;subst e;exact⟨_,rfl,r⟩
 |_,_,i+1,x,.cons _ t,e=>by
  obtain⟨u,h1,h2⟩:=yG.get (i:=i) (x:=x) t (by simpa using e);exact⟨u,by simpa using h1,h2⟩
theorem yG.set{x:V}{u:Value}(r:zz x u):∀{xs:List V} {us:List Value} (i:Nat),yG xs us->yG (xs.set i x) (us.set i u)
 |_,_,_,.nil=>.nil|_,_,0,.cons _ t=>.cons r t|_,_,i+1,.cons q t=>.cons q (yG.set r i t)
theorem yG.append:∀{xs ys:List V} {us ws:List Value},yG xs us->yG ys ws->yG (xs++ys) (us++ws)
 |_,_,_,_,.nil,s=>s|_,_,_,_,.cons r t,s=>.cons r (yG.append t s)
theorem yG.take:∀{xs:List V} {us:List Value} (n:Nat),yG xs us->yG (xs.take n) (us.take n)
 |_,_,0,_=>.nil|_,_,_+1,.nil=>.nil|_,_,n+1,.cons r t=>.cons r (yG.take n t)
theorem yG.drop:∀{xs:List V} {us:List Value} (n:Nat),yG xs us->yG (xs.drop n) (us.drop n)
 |_,_,0,r=>r|_,_,_+1,.nil=>.nil|_,_,n+1,.cons _ t=>yG.drop n t
def RelO:Option V->Option Value->Prop
 |some v,some u=>zz v u|none,none=>True|_,_=>False
def KV{κ:Type}:List (κ×V)->List (κ×Value)->Prop:=Paired λ(p:κ×V) (q:κ×Value)=>p.1=q.1/\zz p.2 q.2
def kV:Key->V
 | .inl i=>.int i| .inr x=>.str x
inductive HO where
 /-- a list -/
 |l (xs:List V)
 /-- a tuple (never changes) -/
 |t (xs:List V)
 /-- a dict whose keys are ints and texts; one whose keys are tuples of ints and texts (the empty one is both) -/
 |dK (kvs:List (Key×V))|dT (kvs:List (List Key×V))
 /-- a set of ints: its members,its size -/
 |set (S:Int->Bool) (n:Nat)
 /-- an instance of the class at C,its dict at dx,its attributes -/
 |ins (C dx:Addr) (fs:List (Str×V))
 /-- the dict of the instance at x -/
 |own (x:Addr)
 /-- the dict of an exception -/
 |xd (fs:List (Str×V))
 /-- a bound method,f of x -/
 |met (f x:Addr)
 /-- a range object lo,lo+1,.. below hi -/
 |rng (lo hi:Int)
 /-- a thing that is known to the object (the script; a dict while a loop walks it): read,never written while it is so -/
 |frz (o:Obj) (u:HO)
 /-- a code object's table -/
 |tbl (ps:Array Value)
 /-- any other thing,by what is true of its one object (a def of one's own: SetO a S n:=HO.ext fun h=>..) -/
 |ext (φ:Heap->Prop)
 |dN (φ:Heap->Prop)
abbrev Hp:=Addr->Option HO
def upd(H:Hp)(a:Addr)(o:HO):Hp:=λb=>if b=a then some o else H b
def yY{H:Hp}{a:Addr}{o:HO}:upd H a o a=some o:=by unfold upd;rw[if_pos rfl]
def zc{H:Hp}{a b:Addr}{o:HO}(h:b≠a):upd H a o b=H b:=by unfold upd;rw[if_neg h]
def jW{H:Hp}{a b:Addr}{o:HO}(h:H a=some o)(h':H b=none):a≠b:=by
 intro e;subst e;rw[h]at h';cases h'
section
variable(P:Program)(w:World)
def yu(H:Hp)(h:Heap)(a:Addr):HO->Prop
 | .l xs=>xs.length<=sizeLine/\∃(its:List Value) (n:Nat),yG xs its/\h.get? a=some {cls:=.type "list",data:=.seq its.toArray n}| .t xs=>xs.length<=sizeLine/\∃its:List Value,yG xs its/\IsTup h a its.toArray| .dK kvs=>kvs.length<=sizeLine/\(a==sysModules)=false/\∃vs,KV kvs vs/\h.DictOf (Gd P w) a vs
 | .dT kvs=>kvs.length<=sizeLine/\(a==sysModules)=false/\∃xs:List (List Key×Addr×Value),
   Paired (λ(p:List Key×V) (q:List Key×Addr×Value)=>p.1=q.1/\H q.2.1=some (.t (p.1.map kV))/\zz p.2 q.2.2) kvs xs /\
   ∃o es ep,h.get? a=some o/\o.ExactDict/\o.data=.dict es ep/\es.toList=xs.map (entryOfKey (tupleKind (Gd P w)))/\(xs.map (·.1)).Nodup
 | .set S n=>h.SetOf (intKind P w) a S n
 | .ins C dx fs=>H dx=some (.own a)/\fs.length<=1000/\dx≠a/\h.get? a=some (PySem.W.instObj C dx) /\
   ∃mA,h.Ns1 dx mA/\(∀f,RelO (fs.lookup f) (mA f))/\PySem.Within mA (fs.map (·.1))
 | .own _=>∃o,h.get? a=some o| .xd fs=>∃mA,h.Ns1 a mA/\∀f,RelO (fs.lookup f) (mA f)| .rng lo hi=>∃t u v,h.get? a=some {cls:=.type "range",data:=.fields #[.int lo t,.int hi u,.int 1 v]}| .frz o u=>h.get? a=some o/\yu H h a u| .tbl ps=>h.get? a=some {cls:=.none,data:=.fields ps}| .met f x=>h.get? a=some (methodObj (.ref f) (.ref x))| .ext φ=>φ h/\(∃o,h.get? a=some o)/\∀h1 h2:Heap,φ h1->(∀o,h1.get? a=some o->h2.get? a=some o)->φ h2| .dN φ=>φ h/\(∃o,h.get? a=some o)/\∀h1 h2:Heap,φ h1->(∀o,h1.get? a=some o->h2.get? a=some o)->φ h2
def HOk(H:Hp)(h:Heap):Prop:=∀a o,H a=some o->yu P w H h a o
end
section
variable{P:Program}{w:World}{H H':Hp}{h h':Heap}{a:Addr}{o:HO}
theorem yu.lt(x:yu P w H h a o):a<h.objs.size:=by
 cases o with
 |l xs=>obtain⟨_,_,_,_,e⟩:=x;exact lt_size e|t xs=>obtain⟨_,_,_,p⟩:=x;exact p.lt|dK kvs=>obtain⟨_,_,_,_,o,_,_,e,_⟩:=x;exact lt_size e|dT kvs=>obtain⟨_,_,_,_,o,_,_,e,_⟩:=x;exact lt_size e|set S n=>obtain⟨o,_,_,_,e,_⟩:=x;exact lt_size e|ins C dx fs=>obtain⟨_,_,_,e,_⟩:=x;exact lt_size e|own y=>obtain⟨_,e⟩:=x;exact lt_size e|xd fs=>obtain⟨_,⟨_,_,_,e,_⟩,_⟩:=x;exact lt_size e|rng lo hi=>obtain⟨_,_,_,e⟩:=x;exact lt_size e|frz ob u=>obtain⟨e,_⟩:=x;exact lt_size e|tbl ps=>exact lt_size (show h.get? a=some _ from x)|met f y=>exact lt_size (show h.get? a=some _ from x)|ext φ=>obtain⟨_,⟨_,e⟩,_⟩:=x;exact lt_size e|dN φ=>obtain⟨_,⟨_,e⟩,_⟩:=x;exact lt_size e
theorem Paired.mapP{α β:Type}{F G:α->β->Prop}:∀{l₁:List α} {l₂:List β},Paired F l₁ l₂->(∀a b,F a b->G a b)->Paired G l₁ l₂
 |_,_,.nil,_=>.nil|_,_,.cons r t,f=>.cons (f _ _ r) (Paired.mapP t f)
def yu.stay(x:yu P w H h a o)(k:∀b u,(b=a\/H b=some (.own a))->h.get? b=some u->h'.get? b=some u)
  (ho:∀b,H b=some (.own a)->H' b=some (.own a)) (ht:∀b xs,H b=some (.t xs)->H' b=some (.t xs)):yu P w H' h' a o:=by
 induction o with
 |l xs=>obtain⟨z,its,n,r,e⟩:=x;exact⟨z,its,n,r,k _ _ (.inl rfl) e⟩|t xs=>obtain⟨z,its,r,ob,e,c⟩:=x;exact⟨z,its,r,ob,k _ _ (.inl rfl) e,c⟩|dK kvs=>obtain⟨z,y,vs,r,ob,es,ep,e,c⟩:=x;exact⟨z,y,vs,r,ob,es,ep,k _ _ (.inl rfl) e,c⟩
 |dT kvs =>
  obtain⟨z,y,xs,r,ob,es,ep,e,c⟩:=x;exact⟨z,y,xs,Paired.mapP r λp q z=>⟨z.1,ht _ _ z.2.1,z.2.2⟩,ob,es,ep,k _ _ (.inl rfl) e,c⟩
 |set S n=>obtain⟨ob,es,ep,t,e,c⟩:=x;exact⟨ob,es,ep,t,k _ _ (.inl rfl) e,c⟩
 |ins C dx fs =>
  obtain⟨d,z,ne,e,mA,⟨od,es,ep,e2,c⟩,r⟩:=x;exact⟨ho _ d,z,ne,k _ _ (.inl rfl) e,mA,⟨od,es,ep,k _ _ (.inr d) e2,c⟩,r⟩
 |own y=>obtain⟨ob,e⟩:=x;exact⟨ob,k _ _ (.inl rfl) e⟩|xd fs=>obtain⟨mA,⟨od,es,ep,e,c⟩,r⟩:=x;exact⟨mA,⟨od,es,ep,k _ _ (.inl rfl) e,c⟩,r⟩|rng lo hi=>obtain⟨t,u,v,e⟩:=x;exact⟨t,u,v,k _ _ (.inl rfl) e⟩|frz ob u ih=>obtain⟨e,q⟩:=x;exact⟨k _ _ (.inl rfl) e,ih q⟩
 |tbl ps =>
  have e:h.get? a=some {cls:=.none,data:=.fields ps}:=x;show h'.get? a=some {cls:=.none,data:=.fields ps};exact k a _ (.inl rfl) e
 |met f y =>
  have e:h.get? a=some (methodObj (.ref f) (.ref y)):=x;show h'.get? a=some (methodObj (.ref f) (.ref y));exact k a _ (.inl rfl) e
 |ext φ=>obtain⟨p,⟨o,e⟩,st⟩:=x;exact⟨st _ _ p λo q=>k _ _ (.inl rfl) q,⟨o,k _ _ (.inl rfl) e⟩,st⟩|dN φ=>obtain⟨p,⟨o,e⟩,st⟩:=x;exact⟨st _ _ p λo q=>k _ _ (.inl rfl) q,⟨o,k _ _ (.inl rfl) e⟩,st⟩
theorem HOk.lt(x:HOk P w H h)(e:H a=some o):a<h.objs.size:=(x a o e).lt
def HOk.fresh(x:HOk P w H h)(e:h.objs.size<=a):H a=none:=by
 cases q:H a with
 |none=>rfl|some u=>exact absurd (lt_of_lt_of_le (x.lt q) e) (lt_irrefl _)
def HOk.kept(x:HOk P w H h)(k:∀b u,h.get? b=some u->h'.get? b=some u):HOk P w H h':=λa o e =>
 (x a o e).stay (λb u _ q=>k b u q) (λ_ q=>q) λ_ _ q=>q
def HOk.laid(x:HOk P w H h)(k:∀b u,h.get? b=some u->h'.get? b=some u)(hp:h.objs.size<=a)(new:yu P w (upd H a o) h' a o):HOk P w (upd H a o) h':=λb u e=>by
 have hn:=x.fresh hp;by_cases hb:b=a
 ·subst hb;rw[yY]at e;cases e;exact new
 ·rw[zc hb]at e
  exact(x b u e).stay (λc v _ q=>k c v q) (λc q=>by rw[zc (jW q hn)];exact q) λc xs q=>by rw[zc (jW q hn)];exact q
end
def Rd(H:Hp)(a:Addr)(u:HO):Prop:=H a=some u\/∃o,H a=some (.frz o u)
def Rd.ok{P:Program}{w:World}{H:Hp}{h:Heap}{a:Addr}{u:HO}(r:Rd H a u)(x:HOk P w H h):yu P w H h a u:=by
 rcases r with r|⟨o,r⟩
 ·exact x a u r
 ·obtain⟨_,q⟩:=x a _ r
  exact q
def Mut:Option HO->Prop
 |some (.l _)=>True|some (.dK _)=>True|some (.dT _)=>True|some (.set _ _)=>True|some (.ins _ _ _)=>True|some (.ext _)=>True|some (.dN _)=>True|_=>False
section
variable{P:Program}{w:World}{H:Hp}{h h':Heap}{x e:Addr}{o':HO}
def HOk.write(ok:HOk P w H h)(mu:Mut (H x))(he:e=x\/H e=some (.own x))(k:∀b u,b≠e->h.get? b=some u->h'.get? b=some u)(heo:∃u,h'.get? e=some u)
  (new:yu P w (upd H x o') h' x o'):HOk P w (upd H x o') h':=λb u q=>by
 have nown:∀c y,H c=some (.own y)->c≠x:=λc y r z=>by subst z;rw[r]at mu;exact mu
 have ntup:∀c xs,H c=some (.t xs)->c≠x:=λc xs r z=>by subst z;rw[r]at mu;exact mu
 by_cases hb:b=x
 ·subst hb;rw[yY]at q;cases q;exact new
 ·rw[zc hb]at q
  by_cases hbe:b=e
  ·have q':H b=some (.own x):=by
    rcases he with z|z
    ·exact absurd (hbe.trans z) hb
    ·rw[hbe];exact z
   rw[q]at q';cases q';obtain⟨v,hv⟩:=heo;exact⟨v,by rw[hbe];exact hv⟩
  ·refine(ok b u q).stay (λc v hc r=>k c v ?_ r) (λc r=>by rw[zc (nown c b r)];exact r) λc xs r=>by rw[zc (ntup c xs r)];exact r
   rcases hc with rfl|hc
   ·exact hbe
   ·rintro rfl
    rcases he with z|z
    ·exact nown c b hc z
    ·rw[hc]at z;cases z;exact hb rfl
end
structure Un(fs ex:List Addr)(H H':Hp)(h h':Heap):Prop where
 keep:∀b o,h.get? b=some o->H b=none->b∉fs->b∉ex->h'.get? b=some o
 slot:∀b o,h.get? b=some o->H b=none->b∈fs->b∉ex->∃sl,h'.get? b=some {o with slots:=sl}
 free:∀b o,h.get? b=some o->H b=none->b∉ex->H' b=none
 there:∀b o,h.get? b=some o->b∉ex->∃o',h'.get? b=some o'
 tups:∀b xs,H b=some (.t xs)->H' b=some (.t xs)
 frzs:∀b o u,H b=some (.frz o u)->H' b=some (.frz o u)
 tbls:∀b ps,H b=some (.tbl ps)->∃more,H' b=some (.tbl (ps++more))
section
variable{fs fs' ex ex':List Addr}{H H1 H2:Hp}{h h1 h2 h':Heap}{a x e:Addr}{o:HO}
def Un.any(u:Un fs ex H H1 h h1){b:Addr}{ob:Obj}(q:h.get? b=some ob)(n:H b=none)(hx:b∉ex):∃sl,h1.get? b=some {ob with slots:=sl}:=by
 by_cases hb:b∈fs
 ·exact u.slot b ob q n hb hx
 ·exact⟨ob.slots,u.keep b ob q n hb hx⟩
def Un.kept(k:∀b u,h.get? b=some u->h'.get? b=some u):Un fs ex H H h h' :=
 ⟨λb ob q _ _ _=>k b ob q,λb ob q _ _ _=>⟨ob.slots,k b ob q⟩,λ_ _ _ n _=>n,λb ob q _=>⟨ob,k b ob q⟩,λ_ _ q=>q,λ_ _ _ q=>q,λ_ ps q=>⟨#[],by rw[q];simp⟩⟩
def Un.refl:Un fs ex H H h h:=Un.kept λ_ _ q=>q
def Un.laid(k:∀b u,h.get? b=some u->h'.get? b=some u)(hp:h.objs.size<=a)(hn:H a=none):Un fs ex H (upd H a o) h h' where
 keep:=λb u q _ _ _=>k b u q
 slot:=λb u q _ _ _=>⟨u.slots,k b u q⟩
 free:=λb u q n _=>by rw[zc (ne_of_lt (lt_of_lt_of_le (lt_size q) hp))];exact n
 there:=λb u q _=>⟨u,k b u q⟩
 tups:=λb xs q=>by rw[zc (jW q hn)];exact q
 frzs:=λb u xs q=>by rw[zc (jW q hn)];exact q
 tbls:=λb ps q=>⟨#[],by rw[zc (jW q hn),q];simp⟩
def Un.write(mu:Mut (H x))(he:e=x\/H e=some (.own x))(k:∀b u,b≠e->h.get? b=some u->h'.get? b=some u)(heo:∃u,h'.get? e=some u):Un fs ex H (upd H x o) h h':=by
 have hx:∀b,H b=none->b≠x:=λb n z=>by subst z;rw[n]at mu;exact mu
 have hb:∀b,H b=none->b≠e:=λb n z=>by
  subst z;rcases he with r|r
  ·exact hx b n r
  ·rw[n]at r;cases r
 have hm:∀b u,H b=some u->¬Mut (some u)->b≠x:=λb u q nm z=>by subst z;rw[q]at mu;exact nm mu
 refine⟨λb u q n _ _=>k b u (hb b n) q,λb u q n _ _=>⟨u.slots,k b u (hb b n) q⟩,λb u q n _=>by rw[zc (hx b n)];exact n,λb u q _=>?_,
  λb xs q=>by rw[zc (hm b _ q λz=>z)];exact q,λb u xs q=>by rw[zc (hm b _ q λz=>z)];exact q,λb ps q=>⟨#[],by rw[zc (hm b _ q λz=>z),q];simp⟩⟩
 by_cases hbe:b=e
 ·subst hbe;exact heo
 ·exact⟨u,k b u hbe q⟩
end
def trk(h:Heap)(H:Hp):List Addr:=(List.range h.objs.size).filter λa=>(H a).isSome
def zDC(h:Heap)(H:Hp):Heap:=hideAll h (trk h H)
def zAr(h:Heap)(H:Hp):(zDC h H).objs.size=h.objs.size:=PySem.W.hideAll_size _ _
def zDD{h:Heap}{H:Hp}{b:Addr}{o:Obj}(e:h.get? b=some o)(n:H b=none):(zDC h H).get? b=some o :=
 hideAll_get _ e λhm=>by
  have q:(H b).isSome=true:=(mem_filter.mp hm).2;rw[n]at q;simp at q
def of_hidT{h:Heap}{H:Hp}{b:Addr}{o:Obj}(e:(zDC h H).get? b=some o):h.get? b=some o/\H b=none:=by
 have e':h.get? b=some o:=of_hideAll (trk h H) e;refine⟨e',?_⟩;cases q:H b with
 |none=>rfl
 |some x =>
  have hm:b∈trk h H:=mem_filter.mpr ⟨List.mem_range.mpr (lt_size e'),by simp[q]⟩;have z:(zDC h H).get? b=none:=PySem.W.hideAll_none (trk h H) hm;rw[z]at e;cases e
def allNews(g h:Heap)(L:Addr):List (Addr×Obj):=(List.range h.objs.size).filterMap λa=>if a=L\/(g.get? a).isSome=true then none else(h.get? a).map λo=>(a,o)
def ZR(g h:Heap)(L d:Addr):List (Addr×Obj):=(allNews g h L).filter λp=>decide (p.1≠d)
structure Mod(K:qH)(mg:Str->Option Value)(base:Heap):Prop where
 kin:K.In base
 glob:base.Ns mainGlobals mg
 blt:∃mb,base.Ns builtinsNs mb/\∀x:Str,x≠"__name__"->mb x=bootBuiltins x
 nolimit:base.NoLimit
structure Cx where
 prog:Program
 w:World
 K:qH
 mg:Str->Option Value
 base:Heap
 A:Around
 N:List Str
 s₀:Shared
 H₀:Hp
 env:Env
 outer:List Env
 stack:List Env
 ex:List Addr
 fn:Str->Bool
 calm:Bool
 pn:List (Addr×Obj)
 xe:Value->Shared->Prop
def frs(l:List Env):List Addr:=l.filterMap (·.frame)
abbrev Cx.fs(X:Cx):List Addr:=frs X.outer
def Vis(sc:Scope)(x:Str):Prop:=sc.names.lookup x=some .local\/sc.names.lookup x=some .cell\/sc.names.lookup x=some .free
def Loc(sc:Scope)(x:Str):Prop:=sc.names.lookup x=some .local\/sc.names.lookup x=some .cell
def Look(env:Env)(h:Heap)(m:Str->Option Value)(x:Str)(u:Value):Prop :=
 (env.kindOf x=some .local/\m x=some u)\/((env.kindOf x=some .cell\/env.kindOf x=some .free)/\∃c,env.cells.lookup x=some c/\h.IsCell c (some u))
structure Cx.Ok(X:Cx):Prop where
 mod:Mod X.K X.mg X.base
 kind:X.env.scope.kind=.function
 glob:X.env.globals=mainGlobals
 blt:X.env.builtins=builtinsNs
 above:X.s₀.heap.objs.size<=X.env.locals
 inj:∀x y c,X.env.cells.lookup x=some c->X.env.cells.lookup y=some c->x=y
 has:∀x,(X.env.kindOf x=some .cell\/X.env.kindOf x=some .free)->∃c,X.env.cells.lookup x=some c
 cab:∀x c,X.fn x=true->X.env.cells.lookup x=some c->X.s₀.heap.objs.size<=c
 hd:X.calm=true->X.A.handled=none
 frames:X.A.frames=some X.stack
 stk:X.stack=X.outer\/(X.stack=X.env::X.outer/\X.env.frame=some X.env.locals)
 exf:∀b∈X.ex,b≠X.env.locals/\∀x c,X.env.cells.lookup x=some c->c≠b
 bs:∀b o,X.base.get? b=some o->X.s₀.heap.get? b=some o/\X.H₀ b=none
 bsz:X.base.objs.size<=X.s₀.heap.objs.size
 noex:∀b o,X.base.get? b=some o->b∉X.ex
 exfs:∀b∈X.ex,b∉X.fs
 funs:X.s₀.heap.FunFrames X.base X.outer
 frf:∀b∈X.fs,X.H₀ b=none
structure Inv(X:Cx)(pins:List (Addr×Obj))(O:List (Option V))(H:Hp)(s:Shared):Prop where
 ok:X.Ok
 os:s.os=X.s₀.os
 bare:AllBare s.gens
 base:Un X.fs X.ex X.H₀ H X.s₀.heap s.heap
 loc:∃m,s.heap.Ns X.env.locals m/\∀(i:Nat) (x:Str) (v:V),X.N[i]?=some x->O[i]?=some (some v)->Vis X.env.scope x->∃u,zz v u/\Look X.env s.heap m x u
 cell:∀x c,X.env.cells.lookup x=some c->∃v,s.heap.IsCell c v
 free:H X.env.locals=none
 freeC:∀x c,X.env.cells.lookup x=some c->H c=none
 pin:∀p∈X.pn++pins,s.heap.get? p.1=some p.2/\H p.1=none/\p.1≠X.env.locals/\p.1∉X.fs/\∀v,p.2.data≠.cell v
 hok:HOk X.prog X.w H s.heap
 len:O.length=X.N.length
section
variable{X:Cx}{pins:List (Addr×Obj)}{O:List (Option V)}{H H':Hp}{s:Shared}{h':Heap}
def Cx.Ok.nofr(ok:X.Ok){b:Addr}{o:Obj}(e:X.base.get? b=some o):b∉X.fs:=λhb=>by
 have:=(ok.funs.mem hb).1;rw[e]at this;cases this
theorem Inv.bs(I:Inv X pins O H s):∀b o,X.base.get? b=some o->s.heap.get? b=some o/\H b=none:=λb o e =>
 ⟨I.base.keep b o (I.ok.bs b o e).1 (I.ok.bs b o e).2 (I.ok.nofr e) (I.ok.noex b o e),I.base.free b o (I.ok.bs b o e).1 (I.ok.bs b o e).2 (I.ok.noex b o e)⟩
def Inv.bk(I:Inv X pins O H s):∀b o,X.base.get? b=some o->s.heap.get? b=some o:=λb o e=>(I.bs b o e).1
theorem Inv.mod(I:Inv X pins O H s):Mod X.K X.mg X.base:=I.ok.mod
def Inv.kIn(I:Inv X pins O H s):X.K.In s.heap:=I.ok.mod.kin.keeps I.bk
theorem Inv.lt(I:Inv X pins O H s):X.env.locals<s.heap.objs.size:=let ⟨_,hn,_⟩:=I.loc;hn.lt
def Inv.sz(I:Inv X pins O H s):X.s₀.heap.objs.size<=s.heap.objs.size:=le_trans I.ok.above (Nat.le_of_lt I.lt)
def Inv.nofs(I:Inv X pins O H s){a:Addr}(h:s.heap.objs.size<=a):a∉X.fs:=λhb=>by
 obtain⟨_,o,ho,_⟩:=I.ok.funs.mem hb;exact absurd (lt_of_lt_of_le (lt_size ho) (le_trans I.sz h)) (lt_irrefl _)
def Inv.cne(I:Inv X pins O H s):∀x c,X.env.cells.lookup x=some c->c≠X.env.locals:=λx c e z=>by
 obtain⟨v,o,ho,hd⟩:=I.cell x c e;obtain⟨m,⟨o',es,ep,ho',hd',_⟩,_⟩:=I.loc;rw[z,ho']at ho;cases ho;rw[hd']at hd;cases hd
theorem Inv.funs(I:Inv X pins O H s):s.heap.FunFrames X.base X.outer:=by
 have all:∀(l:List Env),(∀b∈frs l,b∈X.fs)->X.s₀.heap.FunFrames X.base l->s.heap.FunFrames X.base l:=by
  intro l
  induction l with
  |nil=>intro _ _;trivial
  |cons env r ih =>
   intro hs hl;obtain⟨hk,⟨L,o,hf,hn,ho,hd⟩,hr⟩:=hl;have hL:L∈X.fs:=hs L (by unfold frs;rw[filterMap_cons,hf];exact qE);obtain⟨sl,e⟩:=I.base.slot L o ho (I.ok.frf L hL) hL λz=>I.ok.exfs L z hL
   exact⟨hk,⟨L,_,hf,hn,e,hd⟩,ih (λb hb=>hs b (by unfold frs;rw[filterMap_cons,hf];exact qD _ hb)) hr⟩
 exact all X.outer (λ_ hb=>hb) I.ok.funs
theorem Inv.stack(I:Inv X pins O H s):s.heap.FunFrames X.base X.stack:=by
 rcases I.ok.stk with e|⟨e,hf⟩
 ·rw[e];exact I.funs
 ·rw[e]
  obtain⟨m,hn,_⟩:=I.loc;refine .cons (by rw[I.ok.kind];decide) hf hn ?_ I.funs;exact Heap.get?_none_of_le (le_trans I.ok.bsz I.ok.above)
def Inv.stkSub(I:Inv X pins O H s):∀b∈frs X.stack,b∈X.env.locals::X.fs:=λb hb=>by
 rcases I.ok.stk with e|⟨e,hf⟩
 ·rw[e]at hb;exact qD _ hb
 ·rw[e]at hb
  unfold frs at hb;rw[filterMap_cons,hf]at hb;exact hb
def Inv.stkFree(I:Inv X pins O H s):∀b∈frs X.stack,H b=none:=λb hb=>by
 rcases mem_cons.mp (I.stkSub b hb)with e|hb
 ·rw[e];exact I.free
 ·obtain⟨_,o,ho,_⟩:=I.ok.funs.mem hb
  exact I.base.free b o ho (I.ok.frf b hb) λz=>I.ok.exfs b z hb
def Inv.step{g':Array GenState}{t':Nat}{d':Drawn}{ch:List Addr}(I:Inv X pins O H s)
  (hch:∀b∈ch,(b∈X.ex\/X.s₀.heap.objs.size<=b)/\b≠X.env.locals/\(∀x c,X.env.cells.lookup x=some c->c≠b)/\∀p∈X.pn++pins,p.1≠b)
  (keep:∀b o,b≠X.env.locals->b∉X.fs->b∉ch->s.heap.get? b=some o->H b=none->h'.get? b=some o)
  (slot:∀b o,b≠X.env.locals->b∈X.fs->b∉ch->s.heap.get? b=some o->H b=none->∃sl,h'.get? b=some {o with slots:=sl}) (free:∀b o,b∉ch->s.heap.get? b=some o->H b=none->H' b=none)
  (there:∀b o,b∉ch->s.heap.get? b=some o->∃o',h'.get? b=some o')
  (tups:∀b xs,H b=some (.t xs)->H' b=some (.t xs)) (frzs:∀b o u,H b=some (.frz o u)->H' b=some (.frz o u)) (tbls:∀b ps,H b=some (.tbl ps)->∃more,H' b=some (.tbl (ps++more)))
  (ns:∀m,s.heap.Ns X.env.locals m->h'.Ns X.env.locals m) (hok:HOk X.prog X.w H' h') (hg:AllBare g') :
  Inv X pins O H' {s with heap:=h',gens:=g',drawn:=d',toks:=t'}:=by
 have neL:∀b o,X.s₀.heap.get? b=some o->b≠X.env.locals:=λb o e=>ne_of_lt (lt_of_lt_of_le (lt_size e) I.ok.above)
 have neC:∀b o,X.s₀.heap.get? b=some o->b∉X.ex->b∉ch:=λb o e hx hb=>by
  rcases(hch b hb).1 with z|z
  ·exact hx z
  ·exact absurd (lt_of_lt_of_le (lt_size e) z) (lt_irrefl _)
 have cellK:∀x c,X.env.cells.lookup x=some c->∀v,s.heap.IsCell c v->h'.IsCell c v:=λx c e v ⟨o,ho,hd⟩=>by
  have nch:c∉ch:=λz=>(hch c z).2.2.1 x c e rfl
  by_cases hc:c∈X.fs
  ·obtain⟨sl,q⟩:=slot c o (I.cne x c e) hc nch ho (I.freeC x c e)
   exact⟨_,q,hd⟩
  ·exact⟨o,keep c o (I.cne x c e) hc nch ho (I.freeC x c e),hd⟩
 refine⟨I.ok,I.os,hg,⟨λb o e n hb hx=>?_,λb o e n hb hx=>?_,λb o e n hx=>?_,λb o e hx=>?_,λb xs e=>tups b xs (I.base.tups b xs e),λb o xs e=>frzs b o xs (I.base.frzs b o xs e),λb ps e=>?_⟩,?_,λx c e=>?_,?_,λx c e=>?_,λp hp=>?_,hok,I.len⟩
 ·exact keep b o (neL b o e) hb (neC b o e hx) (I.base.keep b o e n hb hx) (I.base.free b o e n hx)
 ·obtain⟨sl,e1⟩:=I.base.slot b o e n hb hx
  obtain⟨sl',e2⟩:=slot b _ (neL b o e) hb (neC b o e hx) e1 (I.base.free b o e n hx);exact⟨sl',e2⟩
 ·obtain⟨o',e1⟩:=I.base.there b o e hx
  exact free b o' (neC b o e hx) e1 (I.base.free b o e n hx)
 ·obtain⟨o',e1⟩:=I.base.there b o e hx
  exact there b o' (neC b o e hx) e1
 ·obtain⟨m1,e1⟩:=I.base.tbls b ps e
  obtain⟨m2,e2⟩:=tbls b _ e1;exact⟨m1++m2,by rw[e2,Array.append_assoc]⟩
 ·obtain⟨m,hn,hl⟩:=I.loc
  refine⟨m,ns m hn,λi x v e1 e2 e3=>?_⟩;obtain⟨u,r,l⟩:=hl i x v e1 e2 e3;refine⟨u,r,?_⟩;rcases l with l|⟨k,c,e,z⟩
  ·exact .inl l
  ·exact .inr ⟨k,c,e,cellK x c e _ z⟩
 ·obtain⟨v,z⟩:=I.cell x c e
  exact⟨v,cellK x c e v z⟩
 ·obtain⟨m,⟨o,_,_,ho,_⟩,_⟩:=I.loc
  exact free _ o (λz=>(hch _ z).2.1 rfl) ho I.free
 ·obtain⟨v,o,ho,hd⟩:=I.cell x c e
  exact free c o (λz=>(hch c z).2.2.1 x c e rfl) ho (I.freeC x c e)
 ·obtain⟨e,n,ne,nf,d⟩:=I.pin p hp
  have nch:p.1∉ch:=λz=>(hch p.1 z).2.2.2 p hp rfl
  exact⟨keep p.1 p.2 ne nf nch e n,free p.1 p.2 nch e n,ne,nf,d⟩
def Inv.un{t':Nat}(I:Inv X pins O H s)(u:Un X.fs [] H H' s.heap h')(hok:HOk X.prog X.w H' h'):Inv X pins O H' {s with heap:=h',toks:=t'}:=by
 obtain⟨m,⟨o,es,ep,ho,r⟩,_⟩:=id I.loc;obtain⟨sl,hL⟩:=u.any ho I.free (by simp);exact I.step (g':=s.gens) (d':=s.drawn) (ch:=[]) (λ_ z=>nomatch z) (λb o _ hb _ e n=>u.keep b o e n hb (by simp)) (λb o _ hb _ e n=>u.slot b o e n hb (by simp)) (λb o _ e n=>u.free b o e n (by simp)) (λb o _ e=>u.there b o e (by simp)) u.tups u.frzs u.tbls (λm' hm=>by
  obtain⟨o',es',ep',ho',r'⟩:=hm;rw[ho]at ho';cases ho';exact⟨_,es',ep',hL,r'⟩) hok I.bare
def Inv.call{g':Array GenState}{t':Nat}{d':Drawn}{ch:List Addr}(I:Inv X pins O H s)(u:Un (frs X.stack) ch H H' s.heap h')(hok:HOk X.prog X.w H' h')(hg:AllBare g')
  (hch:∀b∈ch,(b∈X.ex\/X.s₀.heap.objs.size<=b)/\b≠X.env.locals/\(∀x c,X.env.cells.lookup x=some c->c≠b)/\∀p∈X.pn++pins,p.1≠b) :
  Inv X pins O H' {s with heap:=h',gens:=g',drawn:=d',toks:=t'}:=by
 obtain⟨m,⟨o,es,ep,ho,r⟩,_⟩:=id I.loc;obtain⟨sl,hL⟩:=u.any ho I.free λz=>(hch _ z).2.1 rfl
 exact I.step (ch:=ch) hch (λb o hL hb hc e n=>u.keep b o e n (λz=>(mem_cons.mp (I.stkSub b z)).elim hL hb) hc) (λb o _ _ hc e n=>u.any e n hc) (λb o hc e n=>u.free b o e n hc) (λb o hc e=>u.there b o e hc) u.tups u.frzs u.tbls (λm' hm=>by
  obtain⟨o',es',ep',ho',r'⟩:=hm;rw[ho]at ho';cases ho';exact⟨_,es',ep',hL,r'⟩) hok hg
def Inv.turned{t':Nat}{it:Addr}(I:Inv X pins O H s)(k:∀b o,b≠it->s.heap.get? b=some o->h'.get? b=some o)(hn:H it=none)(hL:it≠X.env.locals)
  (h1:it∈X.ex\/X.s₀.heap.objs.size<=it) (h2:∀x c,X.env.cells.lookup x=some c->c≠it) (h3:∀p∈X.pn++pins,p.1≠it):Inv X pins O H {s with heap:=h',toks:=t'}:=by
 have nit:∀b u,H b=some u->b≠it:=λb u e z=>by rw[z,hn]at e;cases e
 refine I.step (g':=s.gens) (d':=s.drawn) (ch:=[it]) (λb hb=>?_) (λb o _ _ hc e _=>k b o (λz=>hc (by simp[z])) e) (λb o _ _ hc e _=>⟨o.slots,k b o (λz=>hc (by simp[z])) e⟩) (λ_ _ _ _ n=>n)
  (λb o hc e=>⟨o,k b o (λz=>hc (by simp[z])) e⟩) (λ_ _ e=>e) (λ_ _ _ e=>e) (λb ps e=>⟨#[],by rw[e];simp⟩) (λm hm=>?_) (λb u e=>?_) I.bare
 ·have e:b=it:=by simpa using hb
  subst e;exact⟨h1,hL,h2,h3⟩
 ·obtain⟨o,es,ep,ho,r⟩:=hm
  exact⟨o,es,ep,k _ o (Ne.symm hL) ho,r⟩
 ·refine(I.hok b u e).stay (λc v hc q=>k c v ?_ q) (λ_ q=>q) λ_ _ q=>q
  rcases hc with z|z
  ·rw[z];exact nit b u e
  ·exact nit c _ z
def Inv.tok(I:Inv X pins O H s)(t:Nat):Inv X pins O H {s with toks:=t}:=I.un (h':=s.heap) (t':=t) Un.refl I.hok
theorem Inv.kept{t':Nat}(I:Inv X pins O H s)(k:∀b u,s.heap.get? b=some u->h'.get? b=some u):Inv X pins O H {s with heap:=h',toks:=t'}:=I.un (Un.kept k) (I.hok.kept k)
theorem Inv.laid{a:Addr}{o:HO}{t':Nat}(I:Inv X pins O H s)(k:∀b u,s.heap.get? b=some u->h'.get? b=some u)(hp:s.heap.objs.size<=a)(new:yu X.prog X.w (upd H a o) h' a o) :
  Inv X pins O (upd H a o) {s with heap:=h',toks:=t'}:=I.un (Un.laid k hp (I.hok.fresh hp)) (I.hok.laid k hp new)
theorem Inv.write{x e:Addr}{o:HO}{t':Nat}(I:Inv X pins O H s)(mu:Mut (H x))(he:e=x\/H e=some (.own x))(k:∀b u,b≠e->s.heap.get? b=some u->h'.get? b=some u)(heo:∃u,h'.get? e=some u)
  (new:yu X.prog X.w (upd H x o) h' x o):Inv X pins O (upd H x o) {s with heap:=h',toks:=t'}:=I.un (Un.write mu he k heo) (I.hok.write mu he k heo new)
def Inv.pins_of{pins':List (Addr×Obj)}(I:Inv X pins O H s)(h:∀p∈pins',s.heap.get? p.1=some p.2/\H p.1=none/\p.1≠X.env.locals/\p.1∉X.fs/\∀v,p.2.data≠.cell v):Inv X pins' O H s :=
 ⟨I.ok,I.os,I.bare,I.base,I.loc,I.cell,I.free,I.freeC,λp hp=>(mem_append.mp hp).elim (λz=>I.pin p (mem_append_left _ z)) (h p),I.hok,I.len⟩
def vA{N:List Str}(hN:N.Nodup){i j:Nat}{x:Str}(a:N[i]?=some x)(b:N[j]?=some x):i=j:=by
 obtain⟨h1,e1⟩:=qG.mp a;obtain⟨h2,e2⟩:=qG.mp b;exact(List.getElem_inj hN).mp (e1.trans e2.symm)
def Zh{M:Model}{A:Around}{E:Value->Shared->Prop}{i:Nat}{x:Str}{v:V}{u:Value}{Q:Unit->Shared->Prop}(I:Inv X pins O H s)(hN:X.N.Nodup)(hi:X.N[i]?=some x)(hx:Loc X.env.scope x)(r:zz v u)
  (h:∀s',Inv X pins (O.set i (some v)) H s'->(∃a,Heap.SameBut a s.heap s'.heap/\(a=X.env.locals\/X.env.cells.lookup x=some a))->Q () s') (hf:X.fn x=true\/X.env.scope.names.lookup x=some .local:=by first|exact .inl rfl|exact .inr rfl|assumption):wpAny M A (storeName X.env x u) Q E s:=by
 obtain⟨m,hn,hl⟩:=id I.loc;have hcls:(X.env.scope.kind==.class||(X.env.scope.kind==.module&&X.env.locals != X.env.globals))=false:=by rw[I.ok.kind];rfl
 have hiO:i<O.length:=by rw[I.len];exact(qG.mp hi).1
 have cne:=I.cne;have tracked:∀{a:Addr} {h':Heap},(∃o,s.heap.get? a=some o/\H a=none)->Heap.SameBut a s.heap h'->HOk X.prog X.w H h':=λ{a h'} ha hs b ob e=>by
  obtain⟨_,_,hfree⟩:=ha;refine(I.hok b ob e).stay (λc w' hc q=>(hs.2 c ?_).trans q) (λ_ q=>q) λ_ _ q=>q
  rintro rfl
  rcases hc with rfl|hc
  ·rw[hfree]at e;cases e
  ·rw[hfree]at hc;cases hc
 rcases hx with hk|hk
 ·refine wpAny_storeName_local hk hn (λh' hn' hs=>?_) hcls
  obtain⟨oL,_,_,hoL,_⟩:=id hn;refine h _ ⟨I.ok,I.os,I.bare,⟨λb o e n hb hx=>?_,λb o e n hb hx=>?_,I.base.free,λb o e hx=>?_,I.base.tups,I.base.frzs,I.base.tbls⟩,⟨_,hn',λj y v' e1 e2 e3=>?_⟩,λy c e=>?_,I.free,I.freeC,λp hp=>?_,tracked ⟨oL,hoL,I.free⟩ hs,by simpa using I.len⟩ ⟨_,hs,.inl rfl⟩
  ·exact(hs.2 b (ne_of_lt (lt_of_lt_of_le (lt_size e) I.ok.above))).trans (I.base.keep b o e n hb hx)
  ·obtain⟨sl,e1⟩:=I.base.slot b o e n hb hx
   exact⟨sl,(hs.2 b (ne_of_lt (lt_of_lt_of_le (lt_size e) I.ok.above))).trans e1⟩
  ·obtain⟨o',e1⟩:=I.base.there b o e hx
   exact⟨o',(hs.2 b (ne_of_lt (lt_of_lt_of_le (lt_size e) I.ok.above))).trans e1⟩
  ·by_cases hj:j=i
   ·subst hj
    rw[hi]at e1;cases e1;rw[getElem?_set_self hiO]at e2;cases e2;exact⟨u,r,.inl ⟨hk,by simp⟩⟩
   ·rw[getElem?_set_ne (Ne.symm hj)]at e2
    obtain⟨u',r',q⟩:=hl j y v' e1 e2 e3;refine⟨u',r',?_⟩;rcases q with⟨k,e⟩|⟨k,c,e,z⟩
    ·refine .inl ⟨k,?_⟩
     have:y≠x:=λe=>hj (vA hN e1 (e▸hi))
     simp[this,e]
    ·exact .inr ⟨k,c,e,z.sameBut hs (cne y c e)⟩
  ·obtain⟨w',z⟩:=I.cell y c e
   exact⟨w',z.sameBut hs (cne y c e)⟩
  ·obtain⟨e,n,ne,nf,d⟩:=I.pin p hp
   exact⟨(hs.2 p.1 ne).trans e,n,ne,nf,d⟩
 ·have hfn:X.fn x=true:=by
   rcases hf with z|z
   ·exact z
   ·rw[z]at hk;cases hk
  obtain⟨c,hc⟩:=I.ok.has x (.inl hk);obtain⟨w',z⟩:=I.cell x c hc;refine wpAny_storeName_cell I.ok.kind hk hc z (λh' hc' hs=>?_);obtain⟨oc,hoc,hocd⟩:=id z;refine h {s with heap:=h'} ⟨I.ok,I.os,I.bare,⟨λb o e n hb hx=>?_,λb o e n hb hx=>?_,I.base.free,λb o e hx=>?_,I.base.tups,I.base.frzs,I.base.tbls⟩,⟨m,hn.sameBut hs (Ne.symm (cne x c hc)),λj y v' e1 e2 e3=>?_⟩,λy c' e=>?_,I.free,I.freeC,λp hp=>?_,tracked ⟨oc,hoc,I.freeC x c hc⟩ hs,by simpa using I.len⟩ ⟨c,hs,.inr hc⟩
  ·exact(hs.2 b (ne_of_lt (lt_of_lt_of_le (lt_size e) (I.ok.cab x c hfn hc)))).trans (I.base.keep b o e n hb hx)
  ·obtain⟨sl,e1⟩:=I.base.slot b o e n hb hx
   exact⟨sl,(hs.2 b (ne_of_lt (lt_of_lt_of_le (lt_size e) (I.ok.cab x c hfn hc)))).trans e1⟩
  ·obtain⟨o',e1⟩:=I.base.there b o e hx
   exact⟨o',(hs.2 b (ne_of_lt (lt_of_lt_of_le (lt_size e) (I.ok.cab x c hfn hc)))).trans e1⟩
  ·by_cases hj:j=i
   ·subst hj
    rw[hi]at e1;cases e1;rw[getElem?_set_self hiO]at e2;cases e2;exact⟨u,r,.inr ⟨.inl hk,c,hc,hc'⟩⟩
   ·rw[getElem?_set_ne (Ne.symm hj)]at e2
    obtain⟨u',r',q⟩:=hl j y v' e1 e2 e3;refine⟨u',r',?_⟩;rcases q with q|⟨k,c',e,z'⟩
    ·exact .inl q
    ·refine .inr ⟨k,c',e,z'.sameBut hs ?_⟩
     rintro rfl
     exact hj (vA hN e1 (I.ok.inj _ _ _ e hc▸hi))
  ·by_cases hcc:c'=c
   ·subst hcc;exact⟨_,hc'⟩
   ·obtain⟨w2,z2⟩:=I.cell y c' e
    exact⟨w2,z2.sameBut hs hcc⟩
  ·obtain⟨e,n,ne,nf,d⟩:=I.pin p hp
   refine⟨(hs.2 p.1 ?_).trans e,n,ne,nf,d⟩;intro q;rw[q,hoc]at e;have q':oc=p.2:=qJ e;exact d w' (by rw[<- q'];exact hocd)
def j8{M:Model}{A:Around}{E:Value->Shared->Prop}{i:Nat}{x:Str}{v:V}{u:Value}{Q:Unit->Shared->Prop}(I:Inv X pins O H s)(hN:X.N.Nodup)(hi:X.N[i]?=some x)(hx:Loc X.env.scope x)(r:zz v u)
  (h:∀s',Inv X pins (O.set i (some v)) H s'->Q () s') (hf:X.fn x=true\/X.env.scope.names.lookup x=some .local:=by first|exact .inl rfl|exact .inr rfl|assumption):wpAny M A (storeName X.env x u) Q E s :=
 Zh I hN hi hx r (λs' I' _=>h s' I') hf
def Inv.call'{s':Shared}{ch:List Addr}(I:Inv X pins O H s)(ho:s'.os=s.os)(u:Un (frs X.stack) ch H H' s.heap s'.heap)(hok:HOk X.prog X.w H' s'.heap)(hg:AllBare s'.gens)
  (hch:∀b∈ch,(b∈X.ex\/X.s₀.heap.objs.size<=b)/\b≠X.env.locals/\(∀x c,X.env.cells.lookup x=some c->c≠b)/\∀p∈X.pn++pins,p.1≠b):Inv X pins O H' s':=by
 obtain⟨h',g',d',t',o'⟩:=s';have e:o'=s.os:=ho;subst e;exact I.call (g':=g') (t':=t') (d':=d') u hok hg hch
end
abbrev XK:=Value->Option Addr->Hp->Prop
abbrev St:=List (Option V)
abbrev VK:=V->Hp->Prop
abbrev TE:=St->Hp->VK->Prop
abbrev TT:=St->Hp->(Bool->Hp->Prop)->Prop
abbrev TA:=St->Hp->(List V->Hp->Prop)->Prop
structure Ends where
 nx:St->Hp->Prop
 rt:VK
 bk:St->Hp->Prop:=λ_ _=>False
 ct:St->Hp->Prop:=λ_ _=>False
abbrev TS:=Ends->St->Hp->Prop
def EP(X:Cx)(pins:List (Addr×Obj))(O:St)(Q:VK)(u:Value)(s':Shared):Prop:=∃v H',Inv X pins O H' s'/\zz v u/\Q v H'
def TP(X:Cx)(pins:List (Addr×Obj))(O:St)(Q:Bool->Hp->Prop)(b:Bool)(s':Shared):Prop:=∃H',Inv X pins O H' s'/\Q b H'
def AP(X:Cx)(pins:List (Addr×Obj))(O:St)(Q:List V->Hp->Prop)(us:List Value)(s':Shared):Prop:=∃vs H',Inv X pins O H' s'/\yG vs us/\Q vs H'
def SP(X:Cx)(pins:List (Addr×Obj))(D:Ends)(f:Flow)(s':Shared):Prop :=
 match f with
 | .next=>∃O' H',Inv X pins O' H' s'/\D.nx O' H'| .brk=>∃O' H',Inv X pins O' H' s'/\D.bk O' H'| .cont=>∃O' H',Inv X pins O' H' s'/\D.ct O' H'| .ret u=>∃v O' H',Inv X pins O' H' s'/\zz v u/\D.rt v H'
def PE(X:Cx)(e:Expr)(t:TE):Prop :=
 ∀(pins:List (Addr×Obj)) (s:Shared) (O:St) (H:Hp) (Q:VK),Inv X pins O H s->t O H Q->wpAny (model X.prog X.w) X.A (eval e X.env) (EP X pins O Q) X.xe s
def PT(X:Cx)(e:Expr)(t:TT):Prop :=
 ∀(pins:List (Addr×Obj)) (s:Shared) (O:St) (H:Hp) (Q:Bool->Hp->Prop),Inv X pins O H s->t O H Q->wpAny (model X.prog X.w) X.A (isTrue e X.env (eval e X.env)) (TP X pins O Q) X.xe s
def PW(X:Cx)(e:Expr)(t:TT):Prop :=
 ∀(whole:Sem Value) (pins:List (Addr×Obj)) (s:Shared) (O:St) (H:Hp) (Q:Bool->Hp->Prop),Inv X pins O H s->t O H Q->wpAny (model X.prog X.w) X.A (isTrue e X.env whole) (TP X pins O Q) X.xe s
def PW.pt{X:Cx}{e:Expr}{t:TT}(h:PW X e t):PT X e t:=h _
def PA(X:Cx)(es:List Expr)(t:TA):Prop :=
 ∀(pos:Pos) (pins:List (Addr×Obj)) (s:Shared) (O:St) (H:Hp) (Q:List V->Hp->Prop),Inv X pins O H s->t O H Q->wpAny (model X.prog X.w) X.A (spliced (backTo pos (starEach es X.env))) (AP X pins O Q) X.xe s
def PS(X:Cx)(st:Stmt)(t:TS):Prop :=
 ∀(pins:List (Addr×Obj)) (s:Shared) (O:St) (H:Hp) (D:Ends),Inv X pins O H s->t D O H->wpAny (model X.prog X.w) X.A (exec st X.env) (SP X pins D) X.xe s
def PSs(X:Cx)(st:List Stmt)(t:TS):Prop :=
 ∀(pins:List (Addr×Obj)) (s:Shared) (O:St) (H:Hp) (D:Ends),Inv X pins O H s->t D O H->wpAny (model X.prog X.w) X.A (execs st X.env) (SP X pins D) X.xe s
def thn{α:Type}{t:Sem α}{Q Q':α->Shared->Prop}{M:Model}{A:Around}{E:Value->Shared->Prop}{s:Shared}(h:wpAny M A t Q E s)(hQ:∀a s,Q a s->Q' a s):wpAny M A t Q' E s:=wpAny_mono h hQ λ_ _ x=>x
section
variable{X:Cx}
def bin{a b:Expr}{ta tb:TE}(ha:PE X a ta)(hb:PE X b tb){pins:List (Addr×Obj)}{s:Shared}{O:St}{H:Hp}{R:V->V->Hp->Prop}(I:Inv X pins O H s)(h:ta O H λx H1=>tb O H1 λy H2=>R x y H2)
  {α:Type} {Q:α->Shared->Prop} {f:Value->Value->Sem α}
  (hf:∀v u s2 x y H2,Inv X pins O H2 s2->zz x v->zz y u->R x y H2->wpAny (model X.prog X.w) X.A (f v u) Q X.xe s2) :
  wpAny (model X.prog X.w) X.A (eval a X.env) (λv s₁=>wpAny (model X.prog X.w) X.A (eval b X.env) (λu s₂=>wpAny (model X.prog X.w) X.A (f v u) Q X.xe s₂) X.xe s₁) X.xe s:=by
 refine thn (ha pins s O H _ I h) λv s1 ⟨x,H1,I1,r1,q1⟩=>?_
 refine thn (hb pins s1 O H1 _ I1 q1) λu s2 ⟨y,H2,I2,r2,q2⟩=>?_
 exact hf v u s2 x y H2 I2 r1 r2 q2
def vD(i:Nat):TE:=λO H Q=>∃v,O[i]?=some (some v)/\Q v H
def tC(v:V):TE:=λ_ H Q=>Q v H
def pe_var{i:Nat}{x:Str}{pos:Pos}(hN:X.N[i]?=some x)(hv:Vis X.env.scope x)(hd:(x==("__debug__":Str))=false:=by decide)(hcd:(x==("__classdict__":Str))=false:=by decide):PE X (.Name x pos) (vD i):=by
 intro pins s O H Q I h;obtain⟨v,e,h⟩:=h;obtain⟨m,hn,hl⟩:=I.loc;obtain⟨u,r,l⟩:=hl i x v hN e hv;have fin:EP X pins O Q u s:=⟨v,H,I,r,h⟩;rcases l with⟨hk,hm⟩|⟨hk,c,hc,hcell⟩
 ·exact wpAny_Name (wpAny_loadName_local I.ok.kind hk hn hm fin) hd
 ·rcases hk with hk|hk
  ·exact wpAny_Name (wpAny_loadName_cell I.ok.kind hk hc hcell fin) hd
  ·exact wpAny_Name (wpAny_loadName_free I.ok.kind hk hc hcell fin hcd) hd
def pe_int{i j pos}:PE X (.Constant (.int i) j pos) (tC (.int i)):=λ_ _ _ H _ I h=>wpAny_Constant_int ⟨.int i,H,I.tok _,⟨_,rfl⟩,h⟩
def pe_bl{b j pos}:PE X (.Constant (.bool b) j pos) (tC (.bl b)):=λ_ _ _ H _ I h=>Constant_bool ⟨.bl b,H,I,rfl,h⟩
def pe_non{j pos}:PE X (.Constant .none j pos) (tC .non):=λ_ _ _ H _ I h=>Constant_none ⟨.non,H,I,rfl,h⟩
def pe_str{x j pos}:PE X (.Constant (.str x) j pos) (tC (.str x)):=λ_ _ _ H _ I h=>Calls.Constant_str ⟨.str x,H,I.tok _,⟨_,rfl⟩,h⟩
def Gl(X:Cx)(x:Str):Prop:=X.env.kindOf x=some .globalImplicit
def vE{E:Value->Shared->Prop}{pins:List (Addr×Obj)}{s:Shared}{O:St}{H:Hp}{x:Str}{u:Value}{pos:Pos}{Q:Value->Shared->Prop}(I:Inv X pins O H s)(hg:Gl X x)(hm:X.mg x=some u)(h:Q u s)
  (hd:(x==("__debug__":Str))=false:=by decide):wpAny (model X.prog X.w) X.A (eval (.Name x pos) X.env) Q E s :=
 Calls.Name_function_global I.ok.kind hg (Calls.loadGlobal_global (by rw[I.ok.glob];exact I.mod.glob.keeps I.bk) hm h) hd
def Ws{E:Value->Shared->Prop}{pins:List (Addr×Obj)}{s:Shared}{O:St}{H:Hp}{x:Str}{u:Value}{pos:Pos}{Q:Value->Shared->Prop}(I:Inv X pins O H s)(hg:Gl X x)(hm:X.mg x=none)(hv:bootBuiltins x=some u)(h:Q u s)
  (hn:x≠"__name__":=by decide) (hd:(x==("__debug__":Str))=false:=by decide):wpAny (model X.prog X.w) X.A (eval (.Name x pos) X.env) Q E s:=by
 obtain⟨mb,h1,h2⟩:=I.mod.blt;exact Calls.Name_function_global I.ok.kind hg (Calls.loadGlobal_builtin (by rw[I.ok.glob];exact I.mod.glob.keeps I.bk) hm (by rw[I.ok.blt];exact h1.keeps I.bk) ((h2 x hn).trans hv) h) hd
def zAs{x:Str}{v:V}{u:Value}{pos:Pos}(hg:Gl X x)(hm:X.mg x=some u)(r:zz v u)(hd:(x==("__debug__":Str))=false:=by decide):PE X (.Name x pos) (tC v) :=
 λ_ _ _ H _ I h=>vE I hg hm ⟨v,H,I,r,h⟩ hd
def zAt{x:Str}{v:V}{u:Value}{pos:Pos}(hg:Gl X x)(hm:X.mg x=none)(hv:bootBuiltins x=some u)(r:zz v u)(hn:x≠"__name__":=by decide)(hd:(x==("__debug__":Str))=false:=by decide):PE X (.Name x pos) (tC v) :=
 λ_ _ _ H _ I h=>Ws I hg hm hv ⟨v,H,I,r,h⟩ hn hd
variable{a b:Expr}{ta tb:TE}{pos:Pos}
def tB(t:TE):TT:=λO H Q=>t O H λx H1=>∃c,x=.bl c/\Q c H1
def pt_val{e:Expr}{t:TE}(h:PE X e t)(he:∀whole,isTrue e X.env whole=(do let v <- whole;standAt e.pos;holding [v] (truthy v)):=by intro _;rfl):PT X e (tB t):=by
 intro pins s O H Q I hw;refine isTrue_plain (thn (h pins s O H _ I hw) λv s1 ⟨x,H1,I1,r1,q1⟩=>?_) (he _);obtain⟨d,rfl,q⟩:=q1;cases r1;exact wpAny_truthy_bool ⟨H1,I1,q⟩
variable{tA tB':TT}{ZR:List Expr}
def tOr(t u:TT):TT:=λO H Q=>t O H λc H1=>if c=true then Q true H1 else u O H1 Q
def tNot(t:TT):TT:=λO H Q=>t O H λc H1=>Q (!c) H1
def pw_or1(ha:PT X a tA):PW X (.BoolOp .Or [a] pos) tA:=by
 intro wh pins s O H Q I h;refine isTrue_or (thn (ha pins s O H Q I h) λc s1 e=>?_);cases c with
 |false=>exact isTrue_or_nil e|true=>exact e
def pw_or(ha:PT X a tA)(hb:PW X (.BoolOp .Or (b::ZR) pos) tB'):PW X (.BoolOp .Or (a::b::ZR) pos) (tOr tA tB'):=by
 intro wh pins s O H Q I h;refine isTrue_or (thn (ha pins s O H _ I h) λc s1 ⟨H1,I1,q1⟩=>?_);cases c with
 |true=>exact⟨H1,I1,q1⟩|false=>exact hb wh pins s1 O H1 Q I1 q1
def pt_not(ha:PT X a tA):PT X (.UnaryOp .Not a pos) (tNot tA):=by
 intro pins s O H Q I h;exact isTrue_not (ha pins s O H (λc H1=>Q (!c) H1) I h)
def tAndV(ta tb:TE):TE:=λO H Q=>ta O H λx H1=>∃c,x=.bl c/\if c=true then tb O H1 Q else Q (.bl false) H1
def tNotV(ta:TE):TE:=λO H Q=>ta O H λx H1=>∃c,x=.bl c/\Q (.bl (!c)) H1
def pe_one{op}{t:TE}(h:PE X a t):PE X (.BoolOp op [a] pos) t:=λpins s O H Q I hw=>BoolOp_one (h pins s O H Q I hw)
def pe_and(ha:PE X a ta)(hb:PE X (.BoolOp .And (b::ZR) pos) tb):PE X (.BoolOp .And (a::b::ZR) pos) (tAndV ta tb):=by
 intro pins s O H Q I h;refine BoolOp_and (thn (ha pins s O H _ I h) λv s1 ⟨x,H1,I1,r1,q1⟩=>?_);obtain⟨c,rfl,q1⟩:=q1;cases r1;refine wpAny_truthy_bool ?_;cases c with
 |true=>exact hb pins s1 O H1 Q I1 q1|false=>exact⟨.bl false,H1,I1,rfl,q1⟩
def pe_not(ha:PE X a ta):PE X (.UnaryOp .Not a pos) (tNotV ta):=by
 intro pins s O H Q I h;refine UnaryOp_ (thn (ha pins s O H _ I h) λv s1 ⟨x,H1,I1,r1,q1⟩=>?_);obtain⟨c,rfl,q1⟩:=q1;cases r1;exact not_of (wpAny_truthy_bool ⟨.bl (!c),H1,I1,rfl,q1⟩)
def tIf(t:TT)(ta tb:TE):TE:=λO H Q=>t O H λc H1=>if c=true then ta O H1 Q else tb O H1 Q
def zDE{c:Expr}(hc:PT X c tA)(ha:PE X a ta)(hb:PE X b tb):PE X (.IfExp c a b pos) (tIf tA ta tb):=by
 intro pins s O H Q I h;refine wpAny_IfExp (thn (hc pins s O H _ I h) λd s1 ⟨H1,I1,q1⟩=>?_);cases d with
 |true=>exact ha pins s1 O H1 Q I1 q1|false=>exact hb pins s1 O H1 Q I1 q1
end
def SqL(K:qH)(H:Hp)(a:Addr)(xs:List V):Prop :=
 Rd H a (.l xs) \/
  ∃(o:Obj) (its:Array Value) (n:Nat),K.lookup a=some o/\o.cls=.type "list"/\o.dict=none/\o.data=.seq its n/\its.size<=sizeLine/\yG xs its.toList
def SqT(K:qH)(H:Hp)(a:Addr)(xs:List V):Prop :=
 Rd H a (.t xs) \/
  ∃(o:Obj) (its:Array Value) (n:Nat),K.lookup a=some o/\o.cls=.type "tuple"/\o.data=.seq its n/\its.size<=sizeLine/\yG xs its.toList
def absV:Value->Option V
 | .none=>some .non| .bool b=>some (.bl b)| .int i _=>some (.int i)| .str x _=>some (.str x)| .bytes b _=>some (.byt b)| .float b _=>some (.flt b)| .ref a=>some (.ref a)| .type n=>some (.ty n)|_=>none
def zz.abs{x:V}{u:Value}(r:zz x u):absV u=some x:=by
 cases x with
 |non=>cases r;rfl|bl _=>cases r;rfl|int _=>obtain⟨t,rfl⟩:=r;rfl|str _=>obtain⟨t,rfl⟩:=r;rfl|byt _=>obtain⟨t,rfl⟩:=r;rfl|flt _=>obtain⟨t,rfl⟩:=r;rfl|ref _=>cases r;rfl|ty _=>cases r;rfl
theorem zz.inj{x y:V}{u:Value}(r:zz x u)(q:zz y u):x=y:=qJ (r.abs.symm.trans q.abs)
theorem yG.inj:∀{xs ys:List V} {us:List Value},yG xs us->yG ys us->xs=ys
 |_,_,_,.nil,.nil=>rfl|_,_,_,.cons r t,.cons r' t'=>by rw[r.inj r',yG.inj t t']
section
variable{X:Cx}{pins:List (Addr×Obj)}{O:St}{H:Hp}{s:Shared}{a:Addr}{xs ys:List V}
def SqL.of{K:qH}(h:H a=some (.l xs)):SqL K H a xs:=.inl (.inl h)
def SqT.of{K:qH}(h:H a=some (.t xs)):SqT K H a xs:=.inl (.inl h)
def Inv.list(I:Inv X pins O H s)(h:SqL X.K H a xs):∃its:List Value,yG xs its/\PlainL s.heap a its.toArray/\xs.length<=sizeLine:=by
 rcases h with h|⟨o,its,n,hk,hc,hd,hs,hz,r⟩
 ·obtain⟨z,its,n,r,e⟩:=h.ok I.hok
  exact⟨its,r,⟨_,n,e,rfl,rfl,rfl⟩,z⟩
 ·refine⟨its.toList,r,⟨o,n,I.kIn a o hk,hc,hd,by simpa using hs⟩,?_⟩
  have e:=r.length;simp only[Array.length_toList]at e;omega
def Inv.tuple(I:Inv X pins O H s)(h:SqT X.K H a xs):∃its:List Value,yG xs its/\IsTup s.heap a its.toArray/\xs.length<=sizeLine:=by
 rcases h with h|⟨o,its,n,hk,hc,hs,hz,r⟩
 ·obtain⟨z,its,r,p⟩:=h.ok I.hok
  exact⟨its,r,p,z⟩
 ·refine⟨its.toList,r,⟨o,I.kIn a o hk,hc,n,by simpa using hs⟩,?_⟩
  have e:=r.length;simp only[Array.length_toList]at e;omega
def Inv.list_inj(I:Inv X pins O H s)(h:SqL X.K H a xs)(h':SqL X.K H a ys):xs=ys:=by
 obtain⟨its,r,⟨o,n,e,_,_,d⟩,_⟩:=I.list h;obtain⟨its',r',⟨o',n',e',_,_,d'⟩,_⟩:=I.list h';rw[e]at e';cases e';rw[d]at d';injection d' with d1 _
 have:its=its':=by simpa using congrArg Array.toList d1
 subst this;exact r.inj r'
def Inv.tuple_inj(I:Inv X pins O H s)(h:SqT X.K H a xs)(h':SqT X.K H a ys):xs=ys:=by
 obtain⟨its,r,⟨o,e,_,n,d⟩,_⟩:=I.tuple h;obtain⟨its',r',⟨o',e',_,n',d'⟩,_⟩:=I.tuple h';rw[e]at e';cases e';rw[d]at d';injection d' with d1 _
 have:its=its':=by simpa using congrArg Array.toList d1
 subst this;exact r.inj r'
end
abbrev Cx.wish(X:Cx)(E:Value->Shared->Prop):Cx:={X with xe:=E}
abbrev Cx.nox(X:Cx):Cx:=X.wish λ_ _=>False
theorem Cx.Ok.wish{X:Cx}(ok:X.Ok)(E:Value->Shared->Prop):(X.wish E).Ok :=
 ⟨ok.mod,ok.kind,ok.glob,ok.blt,ok.above,ok.inj,ok.has,ok.cab,ok.hd,ok.frames,ok.stk,ok.exf,ok.bs,ok.bsz,ok.noex,ok.exfs,ok.funs,ok.frf⟩
def Cx.Ok.unwish{X:Cx}{E:Value->Shared->Prop}(ok:(X.wish E).Ok):X.Ok :=
 ⟨ok.mod,ok.kind,ok.glob,ok.blt,ok.above,ok.inj,ok.has,ok.cab,ok.hd,ok.frames,ok.stk,ok.exf,ok.bs,ok.bsz,ok.noex,ok.exfs,ok.funs,ok.frf⟩
section
variable{X:Cx}{pins:List (Addr×Obj)}{O:St}{H:Hp}{s:Shared}{E:Value->Shared->Prop}
theorem Inv.wish(I:Inv X pins O H s)(E:Value->Shared->Prop):Inv (X.wish E) pins O H s:=⟨I.ok.wish E,I.os,I.bare,I.base,I.loc,I.cell,I.free,I.freeC,I.pin,I.hok,I.len⟩
theorem Inv.unwish(I:Inv (X.wish E) pins O H s):Inv X pins O H s:=⟨I.ok.unwish,I.os,I.bare,I.base,I.loc,I.cell,I.free,I.freeC,I.pin,I.hok,I.len⟩
theorem SP.unwish{D:Ends}{f:Flow}{s':Shared}(h:SP (X.wish E) pins D f s'):SP X pins D f s':=by
 cases f with
 |next=>obtain⟨O',H',I,q⟩:=h;exact⟨O',H',I.unwish,q⟩|brk=>obtain⟨O',H',I,q⟩:=h;exact⟨O',H',I.unwish,q⟩|cont=>obtain⟨O',H',I,q⟩:=h;exact⟨O',H',I.unwish,q⟩|ret u=>obtain⟨v,O',H',I,r,q⟩:=h;exact⟨v,O',H',I.unwish,r,q⟩
theorem PE.nox{e:Expr}{t:TE}(h:PE X.nox e t):PE X e t:=λpins s O H Q I hw =>
 wpAny_mono (h pins s O H Q (I.wish _) hw) (λ_ _ ⟨v,H',I',r,q⟩=>⟨v,H',I'.unwish,r,q⟩) λ_ _ z=>False.elim z
end
section
variable{X:Cx}{st:Stmt}{ZR:List Stmt}{t u:TS}{e:Expr}{te:TE}{pos:Pos}
def tNext:TS:=λD O H=>D.nx O H
def tSeq(t u:TS):TS:=λD O H=>t {D with nx:=u D} O H
def pss_nil:PSs X [] tNext:=λ_ _ O H _ I h=>wpAny_execs_nil ⟨O,H,I,h⟩
def zDF(h1:PS X st t)(h2:PSs X ZR u):PSs X (st::ZR) (tSeq t u):=by
 intro pins s O H D I h;refine wpAny_execs_cons (thn (h1 pins s O H {D with nx:=u D} I h) λf s1 q=>?_)
 cases f with
 |next =>
  obtain⟨O',H',I',q⟩:=q;exact h2 pins s1 O' H' D I' q
 |ret v=>exact q|brk=>exact q|cont=>exact q
def pss_one(h1:PS X st t):PSs X [st] t:=by
 intro pins s O H D I h;refine wpAny_execs_cons (thn (h1 pins s O H D I h) λf s1 q=>?_);cases f with
 |next=>exact wpAny_execs_nil q|ret v=>exact q|brk=>exact q|cont=>exact q
def Inv.quiet{pins:List (Addr×Obj)}{O:St}{H:Hp}{s:Shared}(I:Inv X pins O H s):interactive X.env=false:=by simp[interactive,I.ok.kind]
def tDrop(te:TE):TS:=λD O H=>te O H λ_ H1=>D.nx O H1
def ps_expr(he:PE X e te)(hs:swapsWith e none pos.line X.env=pure false:=by rfl):PS X (.Expr e pos) (tDrop te):=by
 intro pins s O H D I h;exact wpAny_Expr_any (thn (he pins s O H _ I h) λv s1 ⟨x,H1,I1,r1,q1⟩=>⟨O,H1,I1,q1⟩) I.quiet hs
def tRet(te:TE):TS:=λD O H=>te O H D.rt
def ps_ret(he:PE X e te):PS X (.Return (some e) pos) (tRet te):=by
 intro pins s O H D I h;exact wpAny_Return_some (thn (he pins s O H _ I h) λv s1 ⟨x,H1,I1,r1,q1⟩=>⟨x,O,H1,I1,r1,q1⟩)
def tIfS(c:TT)(t u:TS):TS:=λD O H=>c O H λb H1=>if b=true then t D O H1 else u D O H1
def ps_if{c:Expr}{a b:List Stmt}{tc:TT}(hc:PT X c tc)(ha:PSs X a t)(hb:PSs X b u):PS X (.If c a b pos) (tIfS tc t u):=by
 intro pins s O H D I h;refine wpAny_If (thn (hc pins s O H _ I h) λd s1 ⟨H1,I1,q1⟩=>?_);cases d with
 |true=>exact ha pins s1 O H1 D I1 q1|false=>exact hb pins s1 O H1 D I1 q1
def tNever:TS:=λ_ _ _=>False
def zDG:PS X st tNever:=λ_ _ _ _ _ _ h=>h.elim
end
abbrev TG:=V->St->Hp->(St->Hp->Prop)->Prop
abbrev TGs:=List V->St->Hp->(St->Hp->Prop)->Prop
def PG(X:Cx)(target:Expr)(t:TG):Prop :=
 ∀(pins:List (Addr×Obj)) (s:Shared) (O:St) (H:Hp) (v:V) (u:Value) (Q:St->Hp->Prop),Inv X pins O H s->zz v u->t v O H Q ->
  wpAny (model X.prog X.w) X.A (assign target X.env u) (λ_ s'=>∃O' H',Inv X pins O' H' s'/\Q O' H') X.xe s
def PGs(X:Cx)(ts:List Expr)(t:TGs):Prop :=
 ∀(pins:List (Addr×Obj)) (s:Shared) (O:St) (H:Hp) (vs:List V) (us:List Value) (Q:St->Hp->Prop),Inv X pins O H s->yG vs us->t vs O H Q ->
  wpAny (model X.prog X.w) X.A (assignInOrder ((assignEach ts X.env).map (·.2)) us) (λ_ s'=>∃O' H',Inv X pins O' H' s'/\Q O' H') X.xe s
abbrev TSet:=V->V->V->Hp->(Hp->Prop)->Prop
def PSet(X:Cx)(t:TSet):Prop :=
 ∀(pins:List (Addr×Obj)) (s:Shared) (O:St) (H:Hp) (o i v:V) (ov iv u:Value) (Q:Hp->Prop),Inv X pins O H s->zz o ov->zz i iv->zz v u->t o i v H Q ->
  wpAny (model X.prog X.w) X.A (setItem ov iv u) (λ_ s'=>∃H',Inv X pins O H' s'/\Q H') X.xe s
abbrev TIp:=V->V->Hp->VK->Prop
def PIp(X:Cx)(op:Operator)(t:TIp):Prop :=
 ∀(pins:List (Addr×Obj)) (s:Shared) (O:St) (H:Hp) (x y:V) (v u:Value) (Q:VK),Inv X pins O H s->zz x v->zz y u->t x y H Q ->
  wpAny (model X.prog X.w) X.A (inplaceOp op v u) (EP X pins O Q) X.xe s
section
variable{X:Cx}{pos:Pos}
def uK(i:Nat):TG:=λv O H Q=>Q (O.set i (some v)) H
def zAu{i:Nat}{x:Str}(hN:X.N.Nodup)(hi:X.N[i]?=some x)(hx:Loc X.env.scope x)(hf:X.fn x=true\/X.env.scope.names.lookup x=some .local:=by first|exact .inl rfl|exact .inr rfl|assumption):PG X (.Name x pos) (uK i):=by
 intro pins s O H v u Q I r h;exact wpAny_assign_Name (j8 I hN hi hx r (λs' I'=>⟨_,H,I',h⟩) hf)
def gNil:TGs:=λvs O H Q=>vs=[]/\Q O H
def gCons(t:TG)(u:TGs):TGs:=λvs O H Q=>∃v r,vs=v::r/\t v O H λO' H'=>u r O' H' Q
def pgs_nil:PGs X [] gNil:=by
 intro pins s O H vs us Q I r h;obtain⟨e,h⟩:=h;subst e;cases r;exact assignInOrder_nil ⟨O,H,I,h⟩
def zDH{e:Expr}{es:List Expr}{t:TG}{u:TGs}(h1:PG X e t)(h2:PGs X es u)
  (hs:(assignEach (e::es) X.env).map (·.2)=assign e X.env::(assignEach es X.env).map (·.2):=by rfl):PGs X (e::es) (gCons t u):=by
 intro pins s O H vs us Q I r h;obtain⟨v,vr,e1,h⟩:=h;subst e1;cases r with
 |cons r rr =>
  rw[hs];refine assignInOrder_cons (thn (h1 pins s O H _ _ _ I r h) λ_ s1 ⟨O1,H1,I1,q1⟩=>?_);exact h2 pins s1 O1 H1 _ _ Q I1 rr q1
def gTup(K:qH)(n:Nat)(t:TGs):TG:=λv O H Q=>∃a xs,v=.ref a/\SqT K H a xs/\xs.length=n/\t xs O H Q
def zEy{es:List Expr}{k:Nat}{t:TGs}{n:Nat}(hc:X.calm=true)(h:PGs X es t)
  (hn:(assignEach es X.env).length=n:=by rfl) (hst:(assignEach es X.env).findIdx? (·.1)=none:=by rfl):PG X (.Tuple es k pos) (gTup X.K n t):=by
 intro pins s O H v u Q I r hw;obtain⟨a,xs,e1,hq,hl,hw⟩:=hw;subst e1;cases r;obtain⟨its,rv,ht,hz⟩:=I.tuple hq;refine assign_Tuple_tuple (I.ok.hd hc) ht (by simp[hn,<- hl,rv.length]) hst λh' hx=>?_
 have I1:Inv X pins O H {s with heap:=h'}:=I.kept (t':=s.toks) λb o e=>hx b o (ne_of_lt (lt_size e)) e
 exact h pins _ O H xs _ Q I1 (by simpa using rv) hw
def gSub(to ti:TE)(t:TSet):TG:=λv O H Q=>to O H λo H1=>ti O H1 λi H2=>t o i v H2 λH3=>Q O H3
def zEz{o i:Expr}{to ti:TE}{t:TSet}(ho:PE X o to)(hi:PE X i ti)(hs:PSet X t)
  (ha:∀v,assign (.Subscript o i pos) X.env v=(do
   let ov <- holding [v] (eval o X.env)
   let iv <- holding [v,ov] (eval i X.env)
   standAt pos
   holding [v,ov,iv] (setItem ov iv v)
   release [v,ov,iv] []):=by intro _;rfl):PG X (.Subscript o i pos) (gSub to ti t):=by
 intro pins s O H v u Q I r h;rw[ha];refine qB (wpAny_holding (thn (ho pins s O H _ I h) λov s1 ⟨x,H1,I1,r1,q1⟩=>?_));refine qB (wpAny_holding (thn (hi pins s1 O H1 _ I1 q1) λiv s2 ⟨y,H2,I2,r2,q2⟩=>?_));refine qB (wpAny_standAt (qB (wpAny_holding (thn (hs pins s2 O H2 x y v ov iv u _ I2 r1 r2 r q2) λ_ s3 ⟨H3,I3,q3⟩=>?_))));exact wpAny_release ⟨O,H3,I3,q3⟩
def zE0(te:TE)(g:TG):TS:=λD O H=>te O H λx H1=>g x O H1 D.nx
def zAv{tg e:Expr}{te:TE}{g:TG}(he:PE X e te)(hg:PG X tg g)(hs:swapsWithSole [tg] e pos.line X.env=pure false:=by rfl)(hw:swappedStores [tg] e X.env=pure none:=by rfl)
  (h1:(assignEach [tg] X.env).map (·.2)=[assign tg X.env]:=by rfl):PS X (.Assign [tg] e pos) (zE0 te g):=by
 intro pins s O H D I h;refine wpAny_Assign_stores (thn (he pins s O H _ I h) λv s1 ⟨x,H1,I1,r1,q1⟩=>?_) hs hw;rw[h1];exact thn (hg pins s1 O H1 x v _ I1 r1 q1) λ_ s2 q=>q
def ps_set{i:Nat}{x:Str}{e:Expr}{te:TE}{pos':Pos}(hN:X.N.Nodup)(hi:X.N[i]?=some x)(hx:Loc X.env.scope x)(he:PE X e te)(hs:swapsWith e (some (.Name x pos')) pos.line X.env=pure false:=by rfl)(hf:X.fn x=true\/X.env.scope.names.lookup x=some .local:=by first|exact .inl rfl|exact .inr rfl|assumption) :
  PS X (.Assign [.Name x pos'] e pos) (zE0 te (uK i)):=by
 intro pins s O H D I h;refine wpAny_Assign_Name (thn (he pins s O H _ I h) λv s1 ⟨y,H1,I1,r1,q1⟩=>?_) hs;exact j8 I1 hN hi hx r1 (λs2 I2=>⟨_,H1,I2,q1⟩) hf
def tPar(i j:Nat)(ta:TA):TS:=λD O H=>ta O H λvs H1=>∃v w,vs=[v,w]/\D.nx ((O.set i (some v)).set j (some w)) H1
def ps_par{i j:Nat}{x y:Str}{a b:Expr}{ta:TA}{px py pt:Pos}{kt k2 pt2}(hc:X.calm=true)(hN:X.N.Nodup)(hi:X.N[i]?=some x)(hj:X.N[j]?=some y)(hij:i≠j)
  (hx:X.env.scope.names.lookup x=some .local) (hy:X.env.scope.names.lookup y=some .local) (ha:PA X [a,b] ta)
  (hw:swappedStores [.Tuple [.Name x px,.Name y py] kt pt] (.Tuple [a,b] k2 pt2) X.env=pure (some [x,y]))
  (hs:swapsWithSole [.Tuple [.Name x px,.Name y py] kt pt] (.Tuple [a,b] k2 pt2) pos.line X.env=pure false:=by rfl) :
  PS X (.Assign [.Tuple [.Name x px,.Name y py] kt pt] (.Tuple [a,b] k2 pt2) pos) (tPar i j ta):=by
 intro pins s O H D I h;rw[exec_Assign_arm];refine qB (wpAny_standAt ?_);rw[hs];refine qB (qC ?_);rw[if_neg (by decide)];refine qB (Tuple_ (thn (ha _ pins s O H _ I h) λus s1 ⟨vs,H1,I1,r1,q1⟩=>?_));obtain⟨v,w,e1,q1⟩:=q1;subst e1;obtain⟨u1,u2,rfl,rv,rw'⟩:∃u1 u2,us=[u1,u2]/\zz v u1/\zz w u2:=by
  cases r1 with
  |cons p q =>
   cases q with
   |cons p' q' =>
    cases q';exact⟨_,_,rfl,p,p'⟩
 refine wpAny_newObj_type ?_ (by show 2<=sizeLine;decide);have I2:Inv X pins O H1 {s1 with heap:=s1.heap.push {cls:=.type "tuple",data:=.seq [u1,u2].toArray}}:=I1.kept (t':=s1.toks) λb o e=>qA _ e
 rw[hw];refine qB (qC ?_);show wpAny (model X.prog X.w) X.A (do rule "assign.swapped-stores";let items <- unpackItems (.ref s1.heap.objs.size) 2 none;assignInOrder [λv=>bindName X.env y v,λv=>bindName X.env x v] items.reverse;pure Flow.next) _ _ _;refine qB (wpAny_rule (qB (unpackItems_tuple (items:=#[u1,u2]) (I.ok.hd hc) (IsTup.new s1.heap _) λh' hx'=>?_)));have I3:=I2.kept (h':=h') (t':=s1.toks) λb o e=>hx' b o (ne_of_lt (lt_size e)) e
 show wpAny _ _ (assignInOrder [λv=>bindName X.env y v,λv=>bindName X.env x v] [u2,u1] >>= λ_=>pure Flow.next) _ _ _
 refine qB (assignInOrder_cons (wpAny_bindName (j8 I3 hN hj (.inl hy) rw' (λs2 I4=>?_) (.inr hy))));refine assignInOrder_cons (wpAny_bindName (j8 I4 hN hi (.inl hx) rv (λs3 I5=>assignInOrder_nil (qC ?_)) (.inr hx)));rw[List.set_comm _ _ (Ne.symm hij)]at I5;exact⟨_,H1,I5,q1⟩
def tAug(i:Nat)(te:TE)(ti:TIp):TS:=λD O H=>∃x,O[i]?=some (some x)/\te O H λy H1=>ti x y H1 λz H2=>D.nx (O.set i (some z)) H2
def zAw{i:Nat}{x:Str}{e:Expr}{te:TE}{op:Operator}{ti:TIp}{pos':Pos}(hN:X.N.Nodup)(hi:X.N[i]?=some x)(hx:Loc X.env.scope x)(he:PE X e te)(ho:PIp X op ti)(hf:X.fn x=true\/X.env.scope.names.lookup x=some .local:=by first|exact .inl rfl|exact .inr rfl|assumption) :
  PS X (.AugAssign (.Name x pos') op e pos) (tAug i te ti):=by
 intro pins s O H D I h;obtain⟨v,e1,h⟩:=h;obtain⟨m,hn,hl⟩:=I.loc;have vis:Vis X.env.scope x:=by rcases hx with k|k;exact .inl k;exact .inr (.inl k)
 obtain⟨u,r,l⟩:=hl i x v hi e1 vis;refine wpAny_AugAssign_Name ?_;have go:wpAny (model X.prog X.w) X.A (eval e X.env) (λw s₂=>wpAny (model X.prog X.w) X.A (inplaceOp op u w) (λr s₃=>wpAny (model X.prog X.w) X.A (storeName X.env x r) (λ_=>SP X pins D .next) X.xe s₃) X.xe s₂) X.xe s:=by
  refine thn (he pins s O H _ I h) λw s1 ⟨y,H1,I1,r1,q1⟩=>?_
  refine thn (ho pins s1 O H1 v y u w _ I1 r r1 q1) λz s2 ⟨zv,H2,I2,r2,q2⟩=>?_
  exact j8 I2 hN hi hx r2 (λs3 I3=>⟨_,H2,I3,q2⟩) hf
 rcases l with⟨hk,hm⟩|⟨hk,c,hc,hcell⟩
 ·exact wpAny_loadName_local I.ok.kind hk hn hm go
 ·rcases hk with hk|hk
  ·exact wpAny_loadName_cell I.ok.kind hk hc hcell go
  ·rcases hx with k|k
   ·have:X.env.scope.names.lookup x=some .free:=hk
    rw[k]at this;cases this
   ·have:X.env.scope.names.lookup x=some .free:=hk
    rw[k]at this;cases this
def tAugS(to ti te:TE)(tget:V->V->Hp->VK->Prop)(tip:TIp)(tset:TSet):TS:=λD O H=>to O H λo H1=>ti O H1 λi H2=>tget o i H2 λx H3=>te O H3 λy H4=>tip x y H4 λz H5=>tset o i z H5 λH6=>D.nx O H6
def PGet(X:Cx)(t:V->V->Hp->VK->Prop):Prop :=
 ∀(pins:List (Addr×Obj)) (s:Shared) (O:St) (H:Hp) (o i:V) (ov iv:Value) (Q:VK),Inv X pins O H s->zz o ov->zz i iv->t o i H Q ->
  wpAny (model X.prog X.w) X.A (getItem ov iv) (EP X pins O Q) X.xe s
def zAx{o i e:Expr}{to ti te:TE}{tget:V->V->Hp->VK->Prop}{tip:TIp}{tset:TSet}{op:Operator}{tpos:Pos}(ho:PE X o to)(hi:PE X i ti)(hg:PGet X tget)(he:PE X e te)(hp:PIp X op tip)(hs:PSet X tset)
  (ha:∀ov iv new,augStore i ov iv new=(do holding [new,ov,iv] (setItem ov iv new);release [new,ov,iv] [];pure .next):=by intros;rfl):PS X (.AugAssign (.Subscript o i tpos) op e pos) (tAugS to ti te tget tip tset):=by
 intro pins s O H D I h;refine wpAny_AugAssign_SubscriptAny (thn (ho pins s O H _ I h) λov s1 ⟨x1,H1,I1,r1,q1⟩=>?_) ha;refine thn (hi pins s1 O H1 _ I1 q1) λiv s2 ⟨x2,H2,I2,r2,q2⟩=>?_
 refine thn (hg pins s2 O H2 x1 x2 ov iv _ I2 r1 r2 q2) λold s3 ⟨x3,H3,I3,r3,q3⟩=>?_
 refine thn (he pins s3 O H3 _ I3 q3) λv s4 ⟨x4,H4,I4,r4,q4⟩=>?_
 refine thn (hp pins s4 O H4 x3 x4 old v _ I4 r3 r4 q4) λnew s5 ⟨x5,H5,I5,r5,q5⟩=>?_
 exact thn (hs pins s5 O H5 x1 x2 x5 ov iv new _ I5 r1 r2 r5 q5) λ_ s6 ⟨H6,I6,q6⟩=>⟨O,H6,I6,q6⟩
def ipI(f:Int->Int->Int):TIp:=λx y H Q=>∃i j,x=.int i/\y=.int j/\Q (.int (f i j)) H
def zAy:PIp X .Add (ipI λi j=>i+j):=by
 intro pins s O H x y v u Q I r1 r2 h;obtain⟨i,j,e1,e2,q⟩:=h;subst e1;subst e2;obtain⟨t,rfl⟩:=r1;obtain⟨t',rfl⟩:=r2;exact iadd_int ⟨.int _,H,I.tok _,⟨_,rfl⟩,q⟩
def ip_sub:PIp X .Sub (ipI λi j=>i-j):=by
 intro pins s O H x y v u Q I r1 r2 h;obtain⟨i,j,e1,e2,q⟩:=h;subst e1;subst e2;obtain⟨t,rfl⟩:=r1;obtain⟨t',rfl⟩:=r2;exact isub_int ⟨.int _,H,I.tok _,⟨_,rfl⟩,q⟩
end
section
variable{X:Cx}{pos:Pos}
def zE1(c:TT)(tb:TS):TS:=λD O H=>∃W:Nat->St->Hp->Prop,(∃m,W m O H)/\∀m O H,W m O H ->
 c O H λb H1=>if b=true then ∃N:St->Hp->Prop,(∀O' H',N O' H'->∃m',m'<m/\W m' O' H')/\tb {D with nx:=N,ct:=N,bk:=D.nx} O H1 else D.nx O H1
def zDI{c:Expr}{body:List Stmt}{tc:TT}{tb:TS}(hp:PassesOwn (model X.prog X.w) X.A X.env X.xe)(hc:PT X c tc)(hb:PSs X body tb):PS X (.While c body [] pos) (zE1 tc tb):=by
 intro pins s O H D I h;obtain⟨W,⟨m0,w0⟩,turn⟩:=h;refine wpAny_While (codeAny_whileLoop (λn s'=>∃O' H',Inv X pins O' H' s'/\W n O' H') ?_ m0 ⟨O,H,I,w0⟩)
 rintro n s1 ⟨O1,H1,I1,w1⟩
 refine wpAny_passesOwn hp (thn (hc pins s1 O1 H1 _ I1 (turn n O1 H1 w1)) λb s2 ⟨H2,I2,q2⟩=>?_);cases b with
 |true =>
  obtain⟨N,hN,q2⟩:=q2;rw[if_pos rfl];refine wpAny_passesOwn hp (thn (hb pins s2 O1 H2 _ I2 q2) λf s3 q3=>?_);cases f with
  |next =>
   obtain⟨O3,H3,I3,n3⟩:=q3;obtain⟨m',hm,w3⟩:=hN O3 H3 n3;exact⟨m',hm,O3,H3,I3,w3⟩
  |cont =>
   obtain⟨O3,H3,I3,n3⟩:=q3;obtain⟨m',hm,w3⟩:=hN O3 H3 n3;exact⟨m',hm,O3,H3,I3,w3⟩
  |brk=>exact q3|ret v=>exact q3
 |false =>
  rw[if_neg qF];exact wpAny_execs_nil ⟨O1,H2,I2,q2⟩
end
structure It where
 go:Nat->Hp->Prop
 yld:Nat->Hp->V->Hp->Prop
 stop:Nat->Hp->Prop
def Qb(X:Cx)(pins:List (Addr×Obj))(H:Hp)(b:Addr):Prop :=
 H b=none/\b≠X.env.locals/\b∉X.fs/\(b∈X.ex\/X.s₀.heap.objs.size<=b)/\(∀x c,X.env.cells.lookup x=some c->c≠b)/\∀p∈X.pn++pins,p.1≠b
def Inv.fpOk{X:Cx}{pins:List (Addr×Obj)}{O:St}{H H':Hp}{s:Shared}{b:Addr}(I:Inv X pins O H s)(hb:s.heap.objs.size<=b)(hn:H' b=none):Qb X pins H' b:=by
 refine⟨hn,Nat.ne_of_gt (lt_of_lt_of_le I.lt hb),I.nofs hb,.inr (le_trans I.sz hb),λx c e z=>?_,λp hp z=>?_⟩
 ·obtain⟨v,q⟩:=I.cell x c e
  exact absurd (lt_of_lt_of_le q.lt (by rw[z];exact hb)) (lt_irrefl _)
 ·exact absurd (lt_of_lt_of_le (lt_size (I.pin p hp).1) (by rw[z];exact hb)) (lt_irrefl _)
structure Turn(P:Program)(w:World)(K:qH)(tg:Expr)(J:It)(fp:List Addr)(it:Addr)(tn:Nat->Heap->Prop):Prop where
 mem:it∈fp
 obj:∀i h,tn i h->∀b∈fp,∃o,h.get? b=some o/\∀v,o.data≠.cell v
 keep:∀i h h',tn i h->(∀b∈fp,∀o,h.get? b=some o->h'.get? b=some o)->tn i h'
 item:∀(X:Cx),X.prog=P->X.w=w->X.K=K->X.calm=true->∀(i:Nat) (pins:List (Addr×Obj)) (s:Shared) (O:St) (H:Hp) (E:Value->Shared->Prop),Inv X pins O H s->(∀b∈fp,Qb X pins H b)->tn i s.heap->J.go i H ->
  wpAny (model P w) X.A (pyNext (.ref it)) (λr s1=>∃u,r=some u /\
   wpAny (model P w) X.A (letOwnedTupleGo tg (.ref it) u) (λ_ s2=>∃x H',Inv X pins O H' s2/\zz x u/\J.yld i H x H'/\tn (i+1) s2.heap/\∀b∈fp,H' b=none) E s1) E s
 done:∀(X:Cx),X.prog=P->X.w=w->X.K=K->X.calm=true->∀(i:Nat) (pins:List (Addr×Obj)) (s:Shared) (O:St) (H:Hp) (E:Value->Shared->Prop),Inv X pins O H s->(∀b∈fp,Qb X pins H b)->tn i s.heap->J.stop i H ->
  wpAny (model P w) X.A (pyNext (.ref it)) (λr s1=>r=none/\Inv X pins O H s1) E s
 self:∀(A:Around) (i:Nat) (s:Shared) (Q:Value->Shared->Prop) (E:Value->Shared->Prop),tn i s.heap->Q (.ref it) s->wpAny (model P w) A (pyIter (.ref it)) Q E s
abbrev TI:=St->Hp->(It->Hp->Prop)->Prop
def PIE(X:Cx)(pins:List (Addr×Obj))(O:St)(tg:Expr)(R:It->Hp->Prop)(itv:Value)(s2:Shared):Prop :=
 ∃(it:Addr) (fp:List Addr) (tn:Nat->Heap->Prop) (J:It) (H':Hp),itv=.ref it/\Inv X pins O H' s2/\Turn X.prog X.w X.K tg J fp it tn/\tn 0 s2.heap/\(∀b∈fp,Qb X pins H' b)/\R J H'
def PI(X:Cx)(tg iter:Expr)(wi:TI):Prop :=
 ∀(pins:List (Addr×Obj)) (s:Shared) (O:St) (H:Hp) (R:It->Hp->Prop),Inv X pins O H s->wi O H R ->
  wpAny (model X.prog X.w) X.A (eval iter X.env) (λv s1=>wpAny (model X.prog X.w) X.A (pyIter v) (PIE X pins O tg R) X.xe s1) X.xe s
def ZK{M:Model}{A:Around}{E:Value->Shared->Prop}{s:Shared}{tg:Expr}{it:Addr}{u:Value}{o:Obj}{n:String}{vs:Array Value}{Q:Unit->Shared->Prop}(ho:s.heap.get? it=some o)(hc:o.cls=.type n)(hd:o.data=.fields vs)
  (hn:["enumerate","zip","dict_itemiterator","dict_reverseitemiterator","odict_iterator","itertools.zip_longest","itertools.pairwise"].contains n=false) (hQ:Q () s):wpAny M A (letOwnedTupleGo tg (.ref it) u) Q E s:=by
 unfold letOwnedTupleGo
 cases tg<;>first
  |exact qC hQ
  | (cases u<;>first
    |exact qC hQ
    | (refine qB (wpAny_load ho ?_)
       rw[hc,hd];show wpAny M A (if(["enumerate","zip","dict_itemiterator","dict_reverseitemiterator","odict_iterator","itertools.zip_longest","itertools.pairwise"].contains n&&vs[0]?==some (rawInt _))=true then _ else _) Q E s;rw[if_neg (by intro h;rw[hn,Bool.false_and]at h;cases h)];exact qC hQ))
def Itl(K:qH)(a:Addr):It :=
 ⟨λi H=>∃xs x,SqL K H a xs/\xs[i]?=some x,λi H x H'=>H'=H/\∀xs,SqL K H a xs->xs[i]?=some x,λi H=>∃xs,SqL K H a xs/\xs.length<=i⟩
def Itt(K:qH)(a:Addr):It :=
 ⟨λi H=>∃xs x,SqT K H a xs/\xs[i]?=some x,λi H x H'=>H'=H/\∀xs,SqT K H a xs->xs[i]?=some x,λi H=>∃xs,SqT K H a xs/\xs.length<=i⟩
def Itr(lo:Int)(n:Nat):It:=⟨λi _=>i<n,λi H x H'=>H'=H/\x=.int (lo+i),λi _=>n<=i⟩
def zAz{P:Program}{w:World}{K:qH}{tg:Expr}(a it:Addr):Turn P w K tg (Itl K a) [it] it (λi h=>h.IsListIter it a i) where
 mem:=by simp
 obj:=λi h st b hb=>by
  have e:b=it:=by simpa using hb
  subst e;obtain⟨o,e,c,d⟩:=st;exact⟨o,e,λv z=>by rw[d]at z;cases z⟩
 keep:=λi h h' st k=>st.at λo e=>k it (by simp) o e
 item:=by
  intro X hP hw hK hc i pins s O H E I hf st hg;subst hP hw hK;obtain⟨xs,x,hq,hx⟩:=hg;obtain⟨its,rv,p,hz⟩:=I.list hq;obtain⟨u,hu,ru⟩:=rv.get hx;obtain⟨f0,f1,f2,f3,f4,f5⟩:=hf it (by simp);refine wpAny_pyNext_list_item st p.isList (x:=u) (by simpa using hu) λh' st' sb=>?_
  have I1:Inv X pins O H {s with heap:=h'}:=I.turned (t':=s.toks) (λb o hb e=>(sb.2 b hb).trans e) f0 f1 f3 f4 f5
  obtain⟨o,e,c,d⟩:=id st';exact⟨u,rfl,ZK (s:={s with heap:=h'}) e c d (by decide) ⟨x,H,I1,ru,⟨rfl,λys hy=>by rw[I.list_inj hy hq];exact hx⟩,st',λb hb=>(hf b hb).1⟩⟩
 done:=by
  intro X hP hw hK hc i pins s O H E I hf st hg;subst hP hw hK;obtain⟨xs,hq,hx⟩:=hg;obtain⟨its,rv,p,hz⟩:=I.list hq;obtain⟨f0,f1,f2,f3,f4,f5⟩:=hf it (by simp);have hl:=rv.length;exact wpAny_pyNext_list_end (I.ok.hd hc) st p.isList (by simp;omega) λh' eb=>⟨rfl,I.turned (t':=s.toks) (λb o hb e=>eb b o hb e) f0 f1 f3 f4 f5⟩
 self:=λ_ _ _ _ _ st h=>wpAny_pyIter_listiter st h
def zAO{P:Program}{w:World}{K:qH}{tg:Expr}(a it:Addr):Turn P w K tg (Itt K a) [it] it (λi h=>h.IsTupleIter it a i) where
 mem:=by simp
 obj:=λi h st b hb=>by
  have e:b=it:=by simpa using hb
  subst e;obtain⟨o,e,c,d⟩:=st;exact⟨o,e,λv z=>by rw[d]at z;cases z⟩
 keep:=λi h h' st k=>st.at λo e=>k it (by simp) o e
 item:=by
  intro X hP hw hK hc i pins s O H E I hf st hg;subst hP hw hK;obtain⟨xs,x,hq,hx⟩:=hg;obtain⟨its,rv,p,hz⟩:=I.tuple hq;obtain⟨u,hu,ru⟩:=rv.get hx;obtain⟨f0,f1,f2,f3,f4,f5⟩:=hf it (by simp);refine wpAny_pyNext_tuple_item st (show s.heap.IsTuple a its.toArray from p) (x:=u) (by simpa using hu) λh' st' sb=>?_
  have I1:Inv X pins O H {s with heap:=h'}:=I.turned (t':=s.toks) (λb o hb e=>(sb.2 b hb).trans e) f0 f1 f3 f4 f5
  obtain⟨o,e,c,d⟩:=id st';exact⟨u,rfl,ZK (s:={s with heap:=h'}) e c d (by decide) ⟨x,H,I1,ru,⟨rfl,λys hy=>by rw[I.tuple_inj hy hq];exact hx⟩,st',λb hb=>(hf b hb).1⟩⟩
 done:=by
  intro X hP hw hK hc i pins s O H E I hf st hg;subst hP hw hK;obtain⟨xs,hq,hx⟩:=hg;obtain⟨its,rv,p,hz⟩:=I.tuple hq;obtain⟨f0,f1,f2,f3,f4,f5⟩:=hf it (by simp);have hl:=rv.length;exact wpAny_pyNext_tuple_end (I.ok.hd hc) st (show s.heap.IsTuple a its.toArray from p) (by simp;omega) λh' eb=>⟨rfl,I.turned (t':=s.toks) (λb o hb e=>eb b o hb e) f0 f1 f3 f4 f5⟩
 self:=λ_ _ _ _ _ st h=>wpAny_pyIter_tupleiter st h
def zAP{P:Program}{w:World}{K:qH}{tg:Expr}(it:Addr)(lo:Int)(n:Nat):Turn P w K tg (Itr lo n) [it] it (λi h=>IsRangeIter h it (lo+(i:Nat)*1) ((n:Int)-(i:Nat)) 1) where
 mem:=by simp
 obj:=λi h st b hb=>by
  have e:b=it:=by simpa using hb
  subst e;exact⟨_,st,λv z=>by
   have z':Data.fields _=Data.cell v:=z;cases z'⟩
 keep:=λi h h' st k=>k it (by simp) _ st
 item:=by
  intro X hP hw hK hc i pins s O H E I hf st hg;subst hP hw hK;obtain⟨f0,f1,f2,f3,f4,f5⟩:=hf it (by simp);have W:=Walks.range (prog:=X.prog) (w:=X.w) (I.ok.hd hc) it lo 1 n;refine W.item i s _ _ hg st λv h' tk hv st' kk=>?_
  obtain⟨t,rfl⟩:=hv;have I1:Inv X pins O H {s with heap:=h',toks:=tk}:=I.turned (λb o hb e=>kk b o (by simpa using hb) e) f0 f1 f3 f4 f5
  refine⟨_,rfl,ZK (s:={s with heap:=h',toks:=tk}) (n:="range_iterator") st' rfl rfl (by decide) ⟨.int (lo+i),H,I1,⟨t,?_⟩,⟨rfl,rfl⟩,st',λb hb=>(hf b hb).1⟩⟩
  rw[Int.mul_one]
 done:=by
  intro X hP hw hK hc i pins s O H E I hf st hg;subst hP hw hK;obtain⟨f0,f1,f2,f3,f4,f5⟩:=hf it (by simp);exact wpAny_pyNext_range_end (I.ok.hd hc) st (by have:n<=i:=hg;omega) λh' eb=>⟨rfl,I.turned (t':=s.toks) (λb o hb e=>eb b o hb e) f0 f1 f3 f4 f5⟩
 self:=λ_ _ _ _ _ st h=>wpAny_pyIter_rangeiter st h
section
variable{X:Cx}{tg:Expr}
def iList(K:qH)(tl:TE):TI:=λO H R=>tl O H λx H1=>∃a,x=.ref a/\(∃xs,SqL K H1 a xs)/\R (Itl K a) H1
def iTup(K:qH)(tl:TE):TI:=λO H R=>tl O H λx H1=>∃a,x=.ref a/\(∃xs,SqT K H1 a xs)/\R (Itt K a) H1
def zA0{l:Expr}{tl:TE}(hl:PE X l tl):PI X tg l (iList X.K tl):=by
 intro pins s O H R I h;refine thn (hl pins s O H _ I h) λv s1 ⟨x,H1,I1,r1,q1⟩=>?_
 obtain⟨a,e,⟨xs,hq⟩,q⟩:=q1;subst e;cases r1;obtain⟨its,rv,p,hz⟩:=I1.list hq;refine wpAny_pyIter_list p.isList ?_;refine⟨s1.heap.objs.size,[s1.heap.objs.size],_,_,H1,rfl,I1.kept (t':=s1.toks) λb o e=>qA _ e,zAz a _,⟨_,get?_push_size _ rfl,rfl,rfl⟩,λb hb=>?_,q⟩;have e:b=s1.heap.objs.size:=by simpa using hb
 subst e;exact I1.fpOk (le_refl _) (I1.hok.fresh (le_refl _))
def zE2{l:Expr}{tl:TE}(hl:PE X l tl):PI X tg l (iTup X.K tl):=by
 intro pins s O H R I h;refine thn (hl pins s O H _ I h) λv s1 ⟨x,H1,I1,r1,q1⟩=>?_
 obtain⟨a,e,⟨xs,hq⟩,q⟩:=q1;subst e;cases r1;obtain⟨its,rv,p,hz⟩:=I1.tuple hq;refine wpAny_pyIter_tuple (show s1.heap.IsTuple a its.toArray from p) ?_;refine⟨s1.heap.objs.size,[s1.heap.objs.size],_,_,H1,rfl,I1.kept (t':=s1.toks) λb o e=>qA _ e,zAO a _,⟨_,get?_push_size _ rfl,rfl,rfl⟩,λb hb=>?_,q⟩;have e:b=s1.heap.objs.size:=by simpa using hb
 subst e;exact I1.fpOk (le_refl _) (I1.hok.fresh (le_refl _))
def Qc{pins:List (Addr×Obj)}{O:St}{H:Hp}{s:Shared}{R:It->Hp->Prop}{E:Value->Shared->Prop}{lo hi:Int}{t u v:Tok}{tk:Nat}(I:Inv X pins O H s)(h1:-(2^62)<=lo)(h2:lo<2^62)(h3:-(2^62)<=hi)(h4:hi<2^62)
  (q:R (Itr lo (hi-lo).toNat) H):wpAny (model X.prog X.w) X.A (pyIter (.ref s.heap.objs.size)) (PIE X pins O tg R) E {s with heap:=s.heap.push {cls:=.type "range",data:=.fields #[.int lo t,.int hi u,.int 1 v]},toks:=tk}:=by
 refine wpAny_pyIter_range (IsRange.new ..) (small_one h1 h2 h3 h4) ?_;have I1:Inv X pins O H {s with heap:=s.heap.push {cls:=.type "range",data:=.fields #[.int lo t,.int hi u,.int 1 v]},toks:=tk}:=I.kept λb o e=>qA _ e
 refine⟨(s.heap.push {cls:=.type "range",data:=.fields #[.int lo t,.int hi u,.int 1 v]}).objs.size,[(s.heap.push {cls:=.type "range",data:=.fields #[.int lo t,.int hi u,.int 1 v]}).objs.size],_,_,H,rfl,
  I1.kept (t':=tk) λb o e=>qA _ e,zAP _ lo (hi-lo).toNat,?_,λb hb=>?_,q⟩
 ·have e1:lo+((0:Nat):Int)*1=lo:=by simp
  have e2:(((hi-lo).toNat:Nat):Int)-((0:Nat):Int)=Builtin.Range.rangeSize lo hi 1:=by rw[rangeSize_one];split<;>omega
  show IsRangeIter _ _ (lo+((0:Nat):Int)*1) ((((hi-lo).toNat:Nat):Int)-((0:Nat):Int)) 1
  rw[e1,e2];exact get?_push_size _ rfl
 ·have e:b=(s.heap.push {cls:=.type "range",data:=.fields #[.int lo t,.int hi u,.int 1 v]}).objs.size:=by simpa using hb
  subst e;exact I1.fpOk (le_refl _) (I1.hok.fresh (le_refl _))
def iRng1(ta:TA):TI:=λO H R=>ta O H λvs H1=>∃j:Int,vs=[.int j]/\-(2^62)<=j/\j<2^62/\R (Itr 0 j.toNat) H1
def iRng2(ta:TA):TI:=λO H R=>ta O H λvs H1=>∃i j:Int,vs=[.int i,.int j]/\(-(2^62)<=i/\i<2^62/\-(2^62)<=j/\j<2^62)/\R (Itr i (j-i).toNat) H1
def uL{a:Expr}{ta:TA}{p pos:Pos}(hg:Gl X "range")(hm:X.mg "range"=none)(ha:PA X [a] ta)(hs:starEach [a] X.env=[(false,eval a X.env)]:=by rfl):PI X tg (.Call (.Name "range" p) [a] [] pos) (iRng1 ta):=by
 intro pins s O H R I h;refine Call_ (Ws I hg hm boot_range (PyProof.Rows.callWith_type1 (thn (ha pos pins s O H _ I h) λus s1 ⟨vs,H1,I1,r1,q1⟩=>?_) hs rfl));obtain⟨j,e,q1,q2,q⟩:=q1;subst e;cases r1 with
 |cons r rr =>
  cases rr;obtain⟨t,rfl⟩:=r;exact call_range_1 (Qc I1 (by omega) (by omega) q1 q2 (by simpa using q))
def zA1{a b:Expr}{ta:TA}{p pos:Pos}(hg:Gl X "range")(hm:X.mg "range"=none)(ha:PA X [a,b] ta)(hs:starEach [a,b] X.env=[(false,eval a X.env),(false,eval b X.env)]:=by rfl)(hs2:starEach [b] X.env=[(false,eval b X.env)]:=by rfl) :
  PI X tg (.Call (.Name "range" p) [a,b] [] pos) (iRng2 ta):=by
 intro pins s O H R I h;refine Call_ (Ws I hg hm boot_range (PyProof.Rows.callWith_type1 (thn (ha pos pins s O H _ I h) λus s1 ⟨vs,H1,I1,r1,q1⟩=>?_) (by rw[hs,hs2]) (by rw[hs2];rfl)));obtain⟨i,j,e,⟨q1,q2,q3,q4⟩,q⟩:=q1;subst e;cases r1 with
 |cons r rr =>
  cases rr with
  |cons r' rr =>
   cases rr;obtain⟨t,rfl⟩:=r;obtain⟨t',rfl⟩:=r';exact call_range_2 (Qc I1 q1 q2 q3 q4 q)
def tFor(wi:TI)(g:TG)(tb:TS):TS:=λD O H=>wi O H λJ H1=>∃W:Nat->Nat->St->Hp->Prop,(∃m,W 0 m O H1)/\∀i m O H,W i m O H ->
 (J.stop i H/\D.nx O H)\/(J.go i H/\∃N:St->Hp->Prop,(∀O' H',N O' H'->∃m',m'<m/\W (i+1) m' O' H')/\∀x H',J.yld i H x H'->g x O H' λO2 H2=>tb {D with nx:=N,ct:=N,bk:=D.nx} O2 H2)
def Wt(fp:List Addr)(h:Heap):List (Addr×Obj):=fp.filterMap λb=>(h.get? b).map λo=>(b,o)
def jX{fp:List Addr}{h:Heap}{b:Addr}{o:Obj}(hb:b∈fp)(e:h.get? b=some o):(b,o)∈Wt fp h:=mem_filterMap.mpr ⟨b,hb,by rw[e];rfl⟩
def zA2{fp:List Addr}{h:Heap}{p:Addr×Obj}(hp:p∈Wt fp h):p.1∈fp/\h.get? p.1=some p.2:=by
 obtain⟨b,hb,e⟩:=mem_filterMap.mp hp;cases q:h.get? b with
 |none=>rw[q]at e;cases e
 |some o =>
  rw[q]at e;have e':(b,o)=p:=qJ e;subst e';exact⟨hb,q⟩
def Inv.pinned{pins:List (Addr×Obj)}{O:St}{H:Hp}{s:Shared}{fp:List Addr}(I:Inv X pins O H s)(hf:∀b∈fp,Qb X pins H b)(ho:∀b∈fp,∃o,s.heap.get? b=some o/\∀v,o.data≠.cell v):Inv X (pins++Wt fp s.heap) O H s :=
 I.pins_of λp hp=>(mem_append.mp hp).elim (λz=>I.pin p (qK _ z)) λz=>by
  obtain⟨hb,e⟩:=zA2 z;obtain⟨f0,f1,f2,_⟩:=hf p.1 hb;obtain⟨o,e',d⟩:=ho p.1 hb;rw[e]at e';cases e';exact⟨e,f0,f1,f2,d⟩
def Inv.unpinned{pins pl:List (Addr×Obj)}{O:St}{H:Hp}{s:Shared}(I:Inv X (pins++pl) O H s):Inv X pins O H s:=I.pins_of λp hp=>I.pin p (qK _ (mem_append_left _ hp))
def Qd{iter:Expr}{body:List Stmt}{wi:TI}{g:TG}{tb:TS}{pos:Pos}(hp:PassesOwn (model X.prog X.w) X.A X.env X.xe)(hc:X.calm=true)(hi:PI X tg iter wi)(hg:PG X tg g)(hb:PSs X body tb)
  (hs:∀x,foldedSetIterable iter X.env x=pure x:=by intro _;rfl):PS X (.For tg iter body [] pos) (tFor wi g tb):=by
 intro pins s O H D I h;refine wpAny_For (thn (hi pins s O H _ I h) λv s1 h1=>thn h1 λitv s2 h2=>?_) hs;obtain⟨it,fp,tn,J,H2,e,I2,T,st2,f2,W,⟨m0,w0⟩,turn⟩:=h2;subst e
 -- what stays true of the iterator's objects through the loop
 have stat:∀{H':Hp},(∀b∈fp,H' b=none)->∀b∈fp,Qb X pins H' b:=λhn b hb=>⟨hn b hb,(f2 b hb).2⟩
 refine codeAny_forLoop_any (λn s'=>∃i O' H',Inv X pins O' H' s'/\tn i s'.heap/\(∀b∈fp,H' b=none)/\W i n O' H') ?_ m0 ⟨0,O,H2,I2,st2,λb hb=>(f2 b hb).1,w0⟩
 rintro n s3 ⟨i,O3,H3,I3,st3,fr3,w3⟩
 rcases turn i n O3 H3 w3 with⟨stop,qn⟩|⟨go,N,hN,step⟩
 ·refine wpAny_passesOwn hp (thn (T.done X rfl rfl rfl hc i pins s3 O3 H3 X.xe I3 (stat fr3) st3 stop) λr s4 ⟨hr,I4⟩=>?_)
  subst hr;exact wpAny_execs_nil ⟨O3,H3,I4,qn⟩
 ·refine wpAny_passesOwn hp (thn (T.item X rfl rfl rfl hc i pins s3 O3 H3 X.xe I3 (stat fr3) st3 go) λr s4 ⟨u,hr,h4⟩=>?_)
  subst hr;refine wpAny_passesOwn hp (thn h4 λ_ s5 ⟨x,H5,I5,r5,y5,st5,fr5⟩=>?_);have I5':=I5.pinned (stat fr5) (T.obj _ _ st5);refine wpAny_passesOwn hp (thn (hg _ s5 O3 H5 x u _ I5' r5 (step x H5 y5)) λ_ s6 ⟨O6,H6,I6,q6⟩=>?_);refine wpAny_passesOwn hp (thn (hb _ s6 O6 H6 _ I6 q6) λf s7 q7=>?_);have again:∀{O7:St} {H7:Hp},Inv X (pins++Wt fp s5.heap) O7 H7 s7->N O7 H7->∃m,m<n/\∃i O' H',Inv X pins O' H' s7/\tn i s7.heap/\(∀b∈fp,H' b=none)/\W i m O' H':=λ{O7 H7} I7 n7=>by
   obtain⟨m',hm,w7⟩:=hN O7 H7 n7;refine⟨m',hm,i+1,O7,H7,I7.unpinned,T.keep _ _ _ st5 λb hb o e=>(I7.pin (b,o) (qK _ (qK _ (jX hb e)))).1,λb hb=>?_,w7⟩;obtain⟨o,e,d⟩:=T.obj _ _ st5 b hb;exact(I7.pin (b,o) (qK _ (qK _ (jX hb e)))).2.1
  cases f with
  |next=>obtain⟨O7,H7,I7,n7⟩:=q7;exact again I7 n7|cont=>obtain⟨O7,H7,I7,n7⟩:=q7;exact again I7 n7|brk=>obtain⟨O7,H7,I7,q7⟩:=q7;exact⟨O7,H7,I7.unpinned,q7⟩|ret v=>obtain⟨x7,O7,H7,I7,r7,q7⟩:=q7;exact⟨x7,O7,H7,I7.unpinned,r7,q7⟩
end
def zDJ{K:qH}{a:Addr}{xs:List V}{g:TG}{tb:TS}{D:Ends}{O:St}{H:Hp}(Pv:Nat->St->Hp->Prop)(h0:Pv 0 O H)(hl:∀i O H,i<=xs.length->Pv i O H->SqL K H a xs)
  (hs:∀i x O H,xs[i]?=some x->Pv i O H->g x O H λO2 H2=>tb {D with nx:=Pv (i+1),ct:=Pv (i+1),bk:=D.nx} O2 H2) (hd:∀O H,Pv xs.length O H->D.nx O H) :
  ∃W:Nat->Nat->St->Hp->Prop,(∃m,W 0 m O H)/\∀i m O H,W i m O H ->
   ((Itl K a).stop i H/\D.nx O H)\/((Itl K a).go i H/\∃N:St->Hp->Prop,(∀O' H',N O' H'->∃m',m'<m/\W (i+1) m' O' H')/\∀x H',(Itl K a).yld i H x H'->g x O H' λO2 H2=>tb {D with nx:=N,ct:=N,bk:=D.nx} O2 H2):=by
 refine⟨λi m O H=>m=xs.length-i/\i<=xs.length/\Pv i O H,⟨xs.length,by simp,zero_le _,h0⟩,?_⟩
 rintro i m O H ⟨rfl,hi,p⟩
 have q:=hl i O H hi p;by_cases hlt:i<xs.length
 ·refine .inr ⟨⟨xs,xs[i],q,by simp[hlt]⟩,Pv (i+1),λO' H' p'=>⟨xs.length-(i+1),by omega,rfl,hlt,p'⟩,λx H' y=>?_⟩
  obtain⟨e,y⟩:=y;subst e;exact hs i x O _ (y xs q) p
 ·have e:i=xs.length:=by omega
  subst e;exact .inl ⟨⟨xs,q,le_refl _⟩,hd O H p⟩
def for_tup{K:qH}{a:Addr}{xs:List V}{g:TG}{tb:TS}{D:Ends}{O:St}{H:Hp}(Pv:Nat->St->Hp->Prop)(h0:Pv 0 O H)(hl:∀i O H,i<=xs.length->Pv i O H->SqT K H a xs)
  (hs:∀i x O H,xs[i]?=some x->Pv i O H->g x O H λO2 H2=>tb {D with nx:=Pv (i+1),ct:=Pv (i+1),bk:=D.nx} O2 H2) (hd:∀O H,Pv xs.length O H->D.nx O H) :
  ∃W:Nat->Nat->St->Hp->Prop,(∃m,W 0 m O H)/\∀i m O H,W i m O H ->
   ((Itt K a).stop i H/\D.nx O H)\/((Itt K a).go i H/\∃N:St->Hp->Prop,(∀O' H',N O' H'->∃m',m'<m/\W (i+1) m' O' H')/\∀x H',(Itt K a).yld i H x H'->g x O H' λO2 H2=>tb {D with nx:=N,ct:=N,bk:=D.nx} O2 H2):=by
 refine⟨λi m O H=>m=xs.length-i/\i<=xs.length/\Pv i O H,⟨xs.length,by simp,zero_le _,h0⟩,?_⟩
 rintro i m O H ⟨rfl,hi,p⟩
 have q:=hl i O H hi p;by_cases hlt:i<xs.length
 ·refine .inr ⟨⟨xs,xs[i],q,by simp[hlt]⟩,Pv (i+1),λO' H' p'=>⟨xs.length-(i+1),by omega,rfl,hlt,p'⟩,λx H' y=>?_⟩
  obtain⟨e,y⟩:=y;subst e;exact hs i x O _ (y xs q) p
 ·have e:i=xs.length:=by omega
  subst e;exact .inl ⟨⟨xs,q,le_refl _⟩,hd O H p⟩
def zA3{lo:Int}{n:Nat}{g:TG}{tb:TS}{D:Ends}{O:St}{H:Hp}(Pv:Nat->St->Hp->Prop)(h0:Pv 0 O H)
  (hs:∀i O H,i<n->Pv i O H->g (.int (lo+i)) O H λO2 H2=>tb {D with nx:=Pv (i+1),ct:=Pv (i+1),bk:=D.nx} O2 H2) (hd:∀O H,Pv n O H->D.nx O H) :
  ∃W:Nat->Nat->St->Hp->Prop,(∃m,W 0 m O H)/\∀i m O H,W i m O H ->
   ((Itr lo n).stop i H/\D.nx O H)\/((Itr lo n).go i H/\∃N:St->Hp->Prop,(∀O' H',N O' H'->∃m',m'<m/\W (i+1) m' O' H')/\∀x H',(Itr lo n).yld i H x H'->g x O H' λO2 H2=>tb {D with nx:=N,ct:=N,bk:=D.nx} O2 H2):=by
 refine⟨λi m O H=>m=n-i/\i<=n/\Pv i O H,⟨n,by simp,zero_le _,h0⟩,?_⟩
 rintro i m O H ⟨rfl,hi,p⟩
 by_cases hlt:i<n
 ·refine .inr ⟨hlt,Pv (i+1),λO' H' p'=>⟨n-(i+1),by omega,rfl,hlt,p'⟩,λx H' y=>?_⟩
  obtain⟨e,y⟩:=y;subst e y;exact hs i O _ hlt p
 ·have e:i=n:=by omega
  subst e;exact .inl ⟨le_refl _,hd O H p⟩
abbrev R2:=V->V->Hp->VK->Prop
def OpR(X:Cx)(f:Value->Value->Sem Value)(r:R2):Prop :=
 ∀(pins:List (Addr×Obj)) (s:Shared) (O:St) (H:Hp) (x y:V) (v u:Value) (Q:VK),Inv X pins O H s->zz x v->zz y u->r x y H Q ->
  wpAny (model X.prog X.w) X.A (f v u) (EP X pins O Q) X.xe s
def UnR(X:Cx)(f:Value->Sem Value)(r:V->Hp->VK->Prop):Prop :=
 ∀(pins:List (Addr×Obj)) (s:Shared) (O:St) (H:Hp) (x:V) (v:Value) (Q:VK),Inv X pins O H s->zz x v->r x H Q ->
  wpAny (model X.prog X.w) X.A (f v) (EP X pins O Q) X.xe s
def j9(X:Cx)(f:Value)(r:List V->Hp->VK->Prop):Prop :=
 ∀(pins:List (Addr×Obj)) (s:Shared) (O:St) (H:Hp) (xs:List V) (us:List Value) (Q:VK),Inv X pins O H s->yG xs us->r xs H Q ->
  wpAny (model X.prog X.w) X.A (call f us) (EP X pins O Q) X.xe s
def tOp(r:R2)(ta tb:TE):TE:=λO H Q=>ta O H λx H1=>tb O H1 λy H2=>r x y H2 Q
def tUn(r:V->Hp->VK->Prop)(ta:TE):TE:=λO H Q=>ta O H λx H1=>r x H1 Q
def rI(C:Int->Int->Prop)(g:Int->Int->V):R2:=λx y H Q=>∃i j,x=.int i/\y=.int j/\C i j/\Q (g i j) H
def rI0(g:Int->Int->V):R2:=λx y H Q=>∃i j,x=.int i/\y=.int j/\Q (g i j) H
def rU(g:Int->V):V->Hp->VK->Prop:=λx H Q=>∃i,x=.int i/\Q (g i) H
section
variable{X:Cx}{a b c:Expr}{ta tb tc:TE}{pos:Pos}
def binT(ha:PE X a ta)(hb:PE X b tb){pins:List (Addr×Obj)}{s:Shared}{O:St}{H:Hp}{R:V->V->Hp->Prop}(I:Inv X pins O H s)
  (h:ta O H λx H1=>tb O H1 λy H2=>R x y H2) {Q:Value->Shared->Prop} {f:Value->Value->Sem Value}
  (hf:∀v u s2 x y H2,Inv X pins O H2 s2->zz x v->zz y u->R x y H2->wpAny (model X.prog X.w) X.A (f v u) Q X.xe s2) :
  wpAny (model X.prog X.w) X.A (eval a X.env) (λv s₁=>wpAny (model X.prog X.w) X.A (eval b X.env) (λu s₂=>wpAny (model X.prog X.w) X.A (f v u) Q X.xe s₂) X.xe s₁) X.xe s:=by
 refine thn (ha pins s O H _ I h) λv s1 ⟨x,H1,I1,r1,q1⟩=>?_
 refine thn (hb pins s1 O H1 _ I1 q1) λu s2 ⟨y,H2,I2,r2,q2⟩=>?_
 exact hf v u s2 x y H2 I2 r1 r2 q2
def pe_op{op:Operator}{r:R2}(ho:OpR X (binaryOp op) r)(ha:PE X a ta)(hb:PE X b tb):PE X (.BinOp a op b pos) (tOp r ta tb):=by
 intro pins s O H Q I h;exact wpAny_BinOp (binT ha hb I h λv u s2 x y H2 I2 rx ry q=>ho pins s2 O H2 x y v u Q I2 rx ry q)
def pe_un{op:UnaryOp}{r:V->Hp->VK->Prop}(ho:UnR X (unaryOp op) r)(ha:PE X a ta):PE X (.UnaryOp op a pos) (tUn r ta):=by
 intro pins s O H Q I h;exact UnaryOp_ (thn (ha pins s O H _ I h) λv s1 ⟨x,H1,I1,r1,q1⟩=>ho pins s1 O H1 x v Q I1 r1 q1)
def opI{f:Value->Value->Sem Value}{C:Int->Int->Prop}{g:Int->Int->Int}
  (rule:∀(i j:Int) (t u:Tok) (s:Shared) (Q:Value->Shared->Prop) (E:Value->Shared->Prop),C i j->Q (.int (g i j) s.toks) {s with toks:=s.toks+1}->wpAny (model X.prog X.w) X.A (f (.int i t) (.int j u)) Q E s) :
  OpR X f (rI C λi j=>.int (g i j)):=by
 intro pins s O H x y v u Q I rx ry h;obtain⟨i,j,rfl,rfl,hc,q⟩:=h;obtain⟨t,rfl⟩:=rx;obtain⟨t',rfl⟩:=ry;exact rule i j t t' s _ _ hc ⟨.int (g i j),H,I.tok _,⟨_,rfl⟩,q⟩
def opI0{f:Value->Value->Sem Value}{g:Int->Int->Int}
  (rule:∀(i j:Int) (t u:Tok) (s:Shared) (Q:Value->Shared->Prop) (E:Value->Shared->Prop),Q (.int (g i j) s.toks) {s with toks:=s.toks+1}->wpAny (model X.prog X.w) X.A (f (.int i t) (.int j u)) Q E s) :
  OpR X f (rI0 λi j=>.int (g i j)):=by
 intro pins s O H x y v u Q I rx ry h;obtain⟨i,j,rfl,rfl,q⟩:=h;obtain⟨t,rfl⟩:=rx;obtain⟨t',rfl⟩:=ry;exact rule i j t t' s _ _ ⟨.int (g i j),H,I.tok _,⟨_,rfl⟩,q⟩
def opB0{f:Value->Value->Sem Value}{g:Int->Int->Bool}
  (rule:∀(i j:Int) (t u:Tok) (s:Shared) (Q:Value->Shared->Prop) (E:Value->Shared->Prop),Q (.bool (g i j)) s->wpAny (model X.prog X.w) X.A (f (.int i t) (.int j u)) Q E s) :
  OpR X f (rI0 λi j=>.bl (g i j)):=by
 intro pins s O H x y v u Q I rx ry h;obtain⟨i,j,rfl,rfl,q⟩:=h;obtain⟨t,rfl⟩:=rx;obtain⟨t',rfl⟩:=ry;exact rule i j t t' s _ _ ⟨.bl (g i j),H,I,rfl,q⟩
def CPow(i j:Int):Prop:=0<=j/\j<=1000000/\i.natAbs<2^64
def CMul(i j:Int):Prop:=(-(2^64)<i/\i<2^64)\/(-(2^64)<j/\j<2^64)
def CMul.ok{i j:Int}(h:CMul i j):IntMulOk i j:=by
 rcases h with⟨h1,h2⟩|⟨h1,h2⟩
 ·exact .of_left (intBits_le_64 h1 h2)
 ·exact .of_right (intBits_le_64 h1 h2)
def op_add:OpR X (binaryOp .Add) (rI0 λi j=>.int (i+j)):=opI0 λ_ _ _ _ _ _ _ q=>add_int q
def op_sub:OpR X (binaryOp .Sub) (rI0 λi j=>.int (i-j)):=opI0 λ_ _ _ _ _ _ _ q=>sub_int q
def op_mod:OpR X (binaryOp .Mod) (rI (λ_ j=>0<j) λi j=>.int (i%j)):=opI λi j _ _ _ _ _ hc q=>by
 have h1:(0:Int)<j:=hc;exact mod_int' (by omega) (by rw[Int.fmod_eq_emod_of_nonneg i (by omega)];exact q)
def op_pow:OpR X (binaryOp .Pow) (rI CPow λi j=>.int (i^j.toNat)):=opI λ_ _ _ _ _ _ _ hc q=>pow_int_small hc.1 hc.2.1 hc.2.2 q
def unI{f:Value->Sem Value}{g:Int->Int}
  (rule:∀(i:Int) (t:Tok) (s:Shared) (Q:Value->Shared->Prop) (E:Value->Shared->Prop),Q (.int (g i) s.toks) {s with toks:=s.toks+1}->wpAny (model X.prog X.w) X.A (f (.int i t)) Q E s) :
  UnR X f (rU λi=>.int (g i)):=by
 intro pins s O H x v Q I rx h;obtain⟨i,rfl,q⟩:=h;obtain⟨t,rfl⟩:=rx;exact rule i t s _ _ ⟨.int (g i),H,I.tok _,⟨_,rfl⟩,q⟩
def un_neg:UnR X (unaryOp .USub) (rU λi=>.int (-i)):=unI λ_ _ _ _ _ q=>neg_int q
end
def scal:V->V->Bool
 | .non,.non=>true | .non,.int _=>true | .int _,.non=>true | .non,.bl _=>true | .bl _,.non=>true | .non,.str _=>true | .str _,.non=>true
 | .int _,.int _=>true | .bl _,.bl _=>true | .str _,.str _=>true | .byt _,.byt _=>true
 | .int _,.str _=>true | .str _,.int _=>true | .bl _,.str _=>true | .str _,.bl _=>true
 |_,_=>false
def rEq:R2:=λx y H Q=>scal x y=true/\Q (.bl (decide (x=y))) H
def rNe:R2:=λx y H Q=>scal x y=true/\Q (.bl (!decide (x=y))) H
def zA4{i j:Int}:decide (V.int i=V.int j)=(i==j):=by
 rw[Bool.eq_iff_iff];simp
def zE3{i j:Bool}:decide (V.bl i=V.bl j)=(i==j):=by
 rw[Bool.eq_iff_iff];simp
def zA5{i j:Str}:decide (V.str i=V.str j)=(i==j):=by
 rw[Bool.eq_iff_iff];simp
def zA6{i j:Array UInt8}:decide (V.byt i=V.byt j)=(i.toList==j.toList):=by
 rw[Bool.eq_iff_iff];cases i;cases j;simp
section
variable{X:Cx}{a b c:Expr}{ta tb tc:TE}{pos:Pos}
def z3{pins:List (Addr×Obj)}{O:St}{H:Hp}{s:Shared}{Q:VK}{k k':Bool}(I:Inv X pins O H s)(q:Q (.bl k) H)(e:k=k'):EP X pins O Q (.bool k') s:=by
 subst e;exact⟨.bl k,H,I,rfl,q⟩
def op_eq:OpR X (compareOp .Eq) rEq:=by
 intro pins s O H x y v u Q I rx ry h;obtain⟨hs,q⟩:=h;cases x with
 |non =>
  cases rx;cases y with
  |non=>cases ry;exact PySem.EqNone.eq_none_none (z3 I q (by simp))|bl j=>cases ry;exact PySem.EqNone.eq_none_bool (z3 I q (by simp))|int j=>obtain⟨t',rfl⟩:=ry;exact PySem.EqNone.eq_none_int (z3 I q (by simp))|str j=>obtain⟨t',rfl⟩:=ry;exact PySem.EqNone.eq_none_str (z3 I q (by simp))|_=>exact absurd (show false=true from hs) qF
 |bl i =>
  cases rx;cases y with
  |non=>cases ry;exact PySem.EqNone.eq_bool_none (z3 I q (by simp))|bl j=>cases ry;exact eq_bool (z3 I q zE3)|str j=>obtain⟨t',rfl⟩:=ry;exact PySem.EqMixed.eq_bool_str (z3 I q (by simp))|_=>exact absurd (show false=true from hs) qF
 |int i =>
  obtain⟨t,rfl⟩:=rx;cases y with
  |non=>cases ry;exact PySem.EqNone.eq_int_none (z3 I q (by simp))|int j=>obtain⟨t',rfl⟩:=ry;exact eq_int (z3 I q zA4)|str j=>obtain⟨t',rfl⟩:=ry;exact PySem.EqMixed.eq_int_str (z3 I q (by simp))|_=>exact absurd (show false=true from hs) qF
 |str i =>
  obtain⟨t,rfl⟩:=rx;cases y with
  |non=>cases ry;exact PySem.EqNone.eq_str_none (z3 I q (by simp))|bl j=>cases ry;exact PySem.EqMixed.eq_str_bool (z3 I q (by simp))|int j=>obtain⟨t',rfl⟩:=ry;exact PySem.EqMixed.eq_str_int (z3 I q (by simp))|str j=>obtain⟨t',rfl⟩:=ry;exact eq_str (z3 I q zA5)|_=>exact absurd (show false=true from hs) qF
 |byt i =>
  obtain⟨t,rfl⟩:=rx;cases y with
  |byt j=>obtain⟨t',rfl⟩:=ry;exact PySem.W.eq_bytes (z3 I q zA6)|_=>exact absurd (show false=true from hs) qF
 |_=>cases y<;>exact absurd (show false=true from hs) qF
def op_ne:OpR X (compareOp .NotEq) rNe:=by
 intro pins s O H x y v u Q I rx ry h;obtain⟨hs,q⟩:=h;cases x with
 |non =>
  cases rx;cases y with
  |non=>cases ry;exact PySem.EqNone.ne_none_none (z3 I q (by simp))|bl j=>cases ry;exact PySem.EqNone.ne_none_bool (z3 I q (by simp))|int j=>obtain⟨t',rfl⟩:=ry;exact PySem.EqNone.ne_none_int (z3 I q (by simp))|str j=>obtain⟨t',rfl⟩:=ry;exact PySem.EqNone.ne_none_str (z3 I q (by simp))|_=>exact absurd (show false=true from hs) qF
 |bl i =>
  cases rx;cases y with
  |non=>cases ry;exact PySem.EqNone.ne_bool_none (z3 I q (by simp))|bl j=>cases ry;exact ne_bool (z3 I q (congrArg not zE3))|str j=>obtain⟨t',rfl⟩:=ry;exact PySem.EqMixed.ne_bool_str (z3 I q (by simp))|_=>exact absurd (show false=true from hs) qF
 |int i =>
  obtain⟨t,rfl⟩:=rx;cases y with
  |non=>cases ry;exact PySem.EqNone.ne_int_none (z3 I q (by simp))|int j=>obtain⟨t',rfl⟩:=ry;exact ne_int (z3 I q (congrArg not zA4))|str j=>obtain⟨t',rfl⟩:=ry;exact PySem.EqMixed.ne_int_str (z3 I q (by simp))|_=>exact absurd (show false=true from hs) qF
 |str i =>
  obtain⟨t,rfl⟩:=rx;cases y with
  |non=>cases ry;exact PySem.EqNone.ne_str_none (z3 I q (by simp))|bl j=>cases ry;exact PySem.EqMixed.ne_str_bool (z3 I q (by simp))|int j=>obtain⟨t',rfl⟩:=ry;exact PySem.EqMixed.ne_str_int (z3 I q (by simp))|str j=>obtain⟨t',rfl⟩:=ry;exact ne_str (z3 I q (congrArg not zA5))|_=>exact absurd (show false=true from hs) qF
 |byt i =>
  obtain⟨t,rfl⟩:=rx;cases y with
  |byt j=>obtain⟨t',rfl⟩:=ry;exact PySem.W.ne_bytes (z3 I q (congrArg not zA6))|_=>exact absurd (show false=true from hs) qF
 |_=>cases y<;>exact absurd (show false=true from hs) qF
def op_lt:OpR X (compareOp .Lt) (rI0 λi j=>.bl (decide (i<j))):=opB0 λ_ _ _ _ _ _ _ q=>lt_int q
def op_le:OpR X (compareOp .LtE) (rI0 λi j=>.bl (decide (i<=j))):=opB0 λ_ _ _ _ _ _ _ q=>le_int q
def op_gt:OpR X (compareOp .Gt) (rI0 λi j=>.bl (decide (j<i))):=opB0 λ_ _ _ _ _ _ _ q=>gt_int q
def op_ge:OpR X (compareOp .GtE) (rI0 λi j=>.bl (decide (j<=i))):=opB0 λ_ _ _ _ _ _ _ q=>ge_int q
def OpR.or{f:Value->Value->Sem Value}{r r':R2}(h:OpR X f r)(h':OpR X f r'):OpR X f (λx y H Q=>r x y H Q\/r' x y H Q):=by
 intro pins s O H x y v u Q I rx ry q;rcases q with q|q
 ·exact h pins s O H x y v u Q I rx ry q
 ·exact h' pins s O H x y v u Q I rx ry q
def pe_cmpR{op:CmpOp}{r:R2}(ho:OpR X (compareOp op) r)(ha:PE X a ta)(hb:PE X b tb)(hm:behindInMarks op b=false):PE X (.Compare a [op] [b] pos) (tOp r ta tb):=by
 intro pins s O H Q I h;exact wpAny_Compare1 (binT ha hb I h λv u s2 x y H2 I2 rx ry q=>ho pins s2 O H2 x y v u Q I2 rx ry q) hm
def tTest(t:TE):TT:=λO H Q=>t O H λx H'=>∃k,x=.bl k/\Q k H'
def pt_cmpR{op:CmpOp}{r:R2}(ho:OpR X (compareOp op) r)(ha:PE X a ta)(hb:PE X b tb)(hm:behindInMarks op b=false):PT X (.Compare a [op] [b] pos) (tTest (tOp r ta tb)):=by
 intro pins s O H Q I h;refine wpAny_isTrue_Compare1 (thn (ha pins s O H _ I h) λv s1 ⟨x,H1,I1,r1,q1⟩=>thn (hb pins s1 O H1 _ I1 q1) λu s2 ⟨y,H2,I2,r2,q2⟩ =>
  thn (ho pins s2 O H2 x y v u _ I2 r1 r2 q2) λc s3 ⟨z,H3,I3,r3,k,e,q3⟩=>?_) hm
 subst e;cases r3;exact wpAny_truthy_bool ⟨H3,I3,q3⟩
def zA7(r r':R2)(ta tb tc:TE):TE:=λO H Q=>ta O H λx H1=>tb O H1 λy H2=>r x y H2 λz H3=>∃k,z=.bl k /\
 (if k=true then tc O H3 λw' H4=>r' y w' H4 Q else Q (.bl false) H3)
def zDK{op op':CmpOp}{r r':R2}(ho:OpR X (compareOp op) r)(ho':OpR X (compareOp op') r')(ha:PE X a ta)(hb:PE X b tb)(hc:PE X c tc)
  (hm:lastMarks [op,op'] [b,c]=false:=by with_unfolding_all rfl):PE X (.Compare a [op,op'] [b,c] pos) (zA7 r r' ta tb tc):=by
 intro pins s O H Q I h;refine Compare_chain (thn (ha pins s O H _ I h) λv s1 ⟨x,H1,I1,r1,q1⟩=>chain_link (thn (hb pins s1 O H1 _ I1 q1) λu s2 ⟨y,H2,I2,r2,q2⟩ =>
  thn (ho pins s2 O H2 x y v u _ I2 r1 r2 q2) λd s3 ⟨z,H3,I3,r3,k,e,q3⟩=>?_)) hm
 subst e;cases r3;refine wpAny_truthy_bool ?_;cases k with
 |false=>exact ite_ff ⟨.bl false,H3,I3,rfl,q3⟩|true=>exact ite_tt (chain_last (thn (hc pins s3 O H3 _ I3 q3) λw' s4 ⟨z',H4,I4,r4,q4⟩=>ho' pins s4 O H4 y z' u w' Q I4 r2 r4 q4))
def zDL{op op':CmpOp}{r r':R2}(ho:OpR X (compareOp op) r)(ho':OpR X (compareOp op') r')(ha:PE X a ta)(hb:PE X b tb)(hc:PE X c tc)
  (hm:lastMarks [op,op'] [b,c]=false:=by with_unfolding_all rfl):PT X (.Compare a [op,op'] [b,c] pos) (tTest (zA7 r r' ta tb tc)):=by
 intro pins s O H Q I h;refine isTrue_chain (thn (ha pins s O H _ I h) λv s1 ⟨x,H1,I1,r1,q1⟩=>test_link (thn (hb pins s1 O H1 _ I1 q1) λu s2 ⟨y,H2,I2,r2,q2⟩ =>
  thn (ho pins s2 O H2 x y v u _ I2 r1 r2 q2) λd s3 ⟨z,H3,I3,r3,k,e,q3⟩=>?_)) hm
 subst e;cases r3;refine wpAny_truthy_bool ?_;cases k with
 |false =>
  obtain⟨k',e',q'⟩:=q3;cases e';exact ite_ff ⟨H3,I3,q'⟩
 |true =>
  refine ite_tt (test_last (thn (hc pins s3 O H3 _ I3 q3) λw' s4 ⟨z',H4,I4,r4,q4⟩=>thn (ho' pins s4 O H4 y z' u w' _ I4 r2 r4 q4) λd' s5 ⟨z2,H5,I5,r5,k2,e2,q5⟩=>?_));subst e2;cases r5;exact wpAny_truthy_bool ⟨H5,I5,q5⟩
def uM:(sizeLine:Nat)<2^63:=by rw[sizeLine_eq];decide
def vF{x:V}{us:List Value}(r:yG [x] us):∃u,us=[u]/\zz x u:=by
 cases r with
 |cons r1 r2=>cases r2;exact⟨_,rfl,r1⟩
def vals2{x y:V}{us:List Value}(r:yG [x,y] us):∃u w',us=[u,w']/\zz x u/\zz y w':=by
 cases r with
 |cons r1 r2 =>
  cases r2 with
  |cons r3 r4=>cases r4;exact⟨_,_,rfl,r1,r3⟩
def zDM:j9 X (.builtin "abs") (λxs H Q=>∃i,xs=[.int i]/\Q (.int (if i<0 then -i else i)) H):=by
 intro pins s O H xs us Q I r h;obtain⟨i,rfl,q⟩:=h;obtain⟨u,rfl,t,rfl⟩:=vF r;exact call_abs_int λu tk=>⟨.int (if i<0 then -i else i),H,I.tok _,⟨_,rfl⟩,q⟩
def zA8(hc:X.calm=true):j9 X (.builtin "max") (λxs H Q=>∃i j,xs=[.int i,.int j]/\Q (.int (if j > i then j else i)) H):=by
 intro pins s O H xs us Q I r h;obtain⟨i,j,rfl,q⟩:=h;obtain⟨u,w',rfl,⟨t,rfl⟩,⟨t',rfl⟩⟩:=vals2 r;refine max_two_ints (I.ok.hd hc) λh' tk k=>⟨_,H,I.kept k,?_,q⟩
 by_cases hj:j > i
 ·rw[if_pos hj,if_pos hj];exact⟨_,rfl⟩
 ·rw[if_neg hj,if_neg hj];exact⟨_,rfl⟩
def zA9:j9 X (.type "int") (λxs H Q=>(∃i,xs=[.int i]/\Q (.int i) H)\/∃k,xs=[.bl k]/\Q (.int (if k then 1 else 0)) H):=by
 intro pins s O H xs us Q I r h;rcases h with⟨i,rfl,q⟩|⟨k,rfl,q⟩
 ·obtain⟨u,rfl,t,rfl⟩:=vF r
  exact call_int_int ⟨.int i,H,I,⟨_,rfl⟩,q⟩
 ·obtain⟨u,rfl,r1⟩:=vF r
  cases r1;exact call_int_bool ⟨.int (if k then 1 else 0),H,I.tok _,⟨_,rfl⟩,q⟩
end
structure Room(k:Nat)(A:Around):Prop where
 hd:A.handled=none
 gd:A.guards=some []
 dp:A.depth+3*k+5<recursionLimit
 un:A.units+16*k+200<cLine
def Room.mono{j k:Nat}{A:Around}(r:Room k A)(h:j<=k):Room j A:=⟨r.hd,r.gd,by have:=r.dp;omega,by have:=r.un;omega⟩
def tNil:TA:=λ_ H Q=>Q [] H
def tCons(ta:TE)(tr:TA):TA:=λO H Q=>ta O H λx H1=>tr O H1 λxs H2=>Q (x::xs) H2
section
variable{X:Cx}{e:Expr}{es:List Expr}{te:TE}{t:TA}{pos:Pos}
def Y7:PA X [] tNil:=λ_ _ _ _ H Q I h=>Calls.spliced_nil ⟨[],H,I,.nil,h⟩
def yw(ha:PE X e te)(hr:PA X es t)(hs:starEach (e::es) X.env=(false,eval e X.env)::starEach es X.env:=by rfl):PA X (e::es) (tCons te t):=by
 intro pos pins s O H Q I h;rw[hs];show wpAny _ _ (spliced ((false,eval e X.env)::backTo pos (starEach es X.env))) _ _ s;refine Calls.spliced_cons (thn (ha pins s O H _ I h) λu s1 ⟨x,H1,I1,r1,q1⟩=>?_);exact thn (hr pos pins s1 O H1 _ I1 q1) λus s2 ⟨xs,H2,I2,r2,q2⟩=>⟨x::xs,H2,I2,.cons r1 r2,q2⟩
def tTup(t:TA):TE:=λO H Q=>t O H λxs H1=>xs.length<=sizeLine/\∀p,H1 p=none->Q (.ref p) (upd H1 p (.t xs))
def tLst(t:TA):TE:=λO H Q=>t O H λxs H1=>xs.length<=sizeLine/\∀p,H1 p=none->Q (.ref p) (upd H1 p (.l xs))
def pe_tup{x1}(h:PA X es t):PE X (.Tuple es x1 pos) (tTup t):=by
 intro pins s O H Q I hq;refine wpAny_Tuple_spliced (thn (h pos pins s O H _ I hq) λus s1 ⟨xs,H1,I1,r,z,q⟩=>⟨by rw[<- r.length];exact z,?_⟩);have hf:H1 s1.heap.objs.size=none:=I1.hok.fresh (le_refl _);refine⟨.ref s1.heap.objs.size,upd H1 s1.heap.objs.size (.t xs),I1.laid (t':=s1.toks) (λb u e=>qA _ e) (le_refl _) ?_,rfl,q _ hf⟩;exact⟨z,us,r,⟨_,get?_push_size _ rfl,rfl,_,rfl⟩⟩
def pe_lst(h:PA X es t):PE X (.List es pos) (tLst t):=by
 intro pins s O H Q I hq;refine wpAny_List_spliced (thn (h pos pins s O H _ I hq) λus s1 ⟨xs,H1,I1,r,z,q⟩=>⟨by rw[<- r.length];exact z,?_⟩);have hf:H1 s1.heap.objs.size=none:=I1.hok.fresh (le_refl _);refine⟨.ref s1.heap.objs.size,upd H1 s1.heap.objs.size (.l xs),I1.laid (t':=s1.toks) (λb u e=>qA _ e) (le_refl _) ?_,rfl,q _ hf⟩;exact⟨z,us,0,r,get?_push_size _ rfl⟩
end
abbrev Sp:=List V->Hp->VK->XK->Prop
abbrev CXT:=List Env->Hp->Shared->XK->Value->Shared->Prop
structure Env0(P:Program)(w:World)(K:qH)(mg:Str->Option Value)(base:Heap)(A:Around)(outer:List Env)(s:Shared)(H:Hp):Prop where
 frames:A.frames=some outer
 mod:Mod K mg base
 bs:∀b o,base.get? b=some o->s.heap.get? b=some o/\H b=none
 bsz:base.objs.size<=s.heap.objs.size
 funs:s.heap.FunFrames base outer
 frf:∀b∈frs outer,H b=none
 hok:HOk P w H s.heap
 bare:AllBare s.gens
def CE(outer:List Env)(P:Program)(w:World)(H:Hp)(s:Shared)(Q:VK)(u:Value)(s':Shared):Prop :=
 ∃v H',s'.os=s.os/\AllBare s'.gens/\Un (frs outer) [] H H' s.heap s'.heap/\HOk P w H' s'.heap/\zz v u/\Q v H'
def CR(CX:CXT)(outer:List Env)(P:Program)(w:World)(H:Hp)(s:Shared)(Q:VK)(E:XK)(r:Result)(s':Shared):Prop :=
 match r with
 | .ok (.ret u)=>CE outer P w H s Q u s'| .ok _=>False| .error e=>CX outer H s E e s'
structure FnOk(P:Program)(w:World)(K:qH)(mg:Str->Option Value)(base:Heap)(CX:CXT)(k:Nat)(f:Addr)(fd:FuncData)(ps:List Str)(sp:Sp):Prop where
 len:∀vs H Q E,sp vs H Q E->vs.length=ps.length
 run:∀(A:Around) (outer:List Env) (s:Shared) (H:Hp) (args:Args) (us:List Value) (vs:List V) (Q:VK) (E:XK),Room k A->Env0 P w K mg base A outer s H->BindsTo s fd args (ps.zip us)->yG vs us->sp vs H Q E ->
  codeAny (model P w) A (.call (.ref f) args) (CR CX outer P w H s Q E) s
theorem FnOk.mono{P:Program}{w:World}{K:qH}{mg:Str->Option Value}{base:Heap}{CX:CXT}{j k:Nat}{f:Addr}{fd:FuncData}{ps:List Str}{sp:Sp}(F:FnOk P w K mg base CX j f fd ps sp)(h:j<=k) :
  FnOk P w K mg base CX k f fd ps sp:=⟨F.len,λA outer s H args us vs Q E hr=>F.run A outer s H args us vs Q E (hr.mono h)⟩
def FnOk.imp{P:Program}{w:World}{K:qH}{mg:Str->Option Value}{base:Heap}{CX:CXT}{k:Nat}{f:Addr}{fd:FuncData}{ps:List Str}{sp sp':Sp}(F:FnOk P w K mg base CX k f fd ps sp)
  (h:∀vs H Q E,sp' vs H Q E->sp vs H Q E):FnOk P w K mg base CX k f fd ps sp' :=
 ⟨λvs H Q E q=>F.len vs H Q E (h _ _ _ _ q),λA outer s H args us vs Q E hr he hb hv hs=>F.run A outer s H args us vs Q E hr he hb hv (h _ _ _ _ hs)⟩
section
variable{X:Cx}{pins:List (Addr×Obj)}{O:St}{H:Hp}{s s':Shared}
def Inv.env0(I:Inv X pins O H s):Env0 X.prog X.w X.K X.mg X.base X.A X.stack s H :=
 ⟨I.ok.frames,I.ok.mod,I.bs,le_trans I.ok.bsz I.sz,I.stack,I.stkFree,I.hok,I.bare⟩
def Inv.after{Q:VK}{u:Value}(I:Inv X pins O H s)(h:CE X.stack X.prog X.w H s Q u s'):EP X pins O Q u s':=by
 obtain⟨v,H',os,bare,un,hok,r,q⟩:=h;obtain⟨hh,g,d,t,os'⟩:=s';obtain rfl:os'=s.os:=os;exact⟨v,H',I.call (h':=hh) (g':=g) (d':=d) (t':=t) (ch:=[]) un hok bare (λb z=>absurd z (by simp)),r,q⟩
end
def ZL(K:qH)(fd:FuncData)(ps:List Str)(ds:List Value):Prop :=
 ∀(s:Shared) (us:List Value),K.In s.heap->(us++ds).length=ps.length->BindsTo s fd ⟨us,[]⟩ (ps.zip (us++ds))
def ZL.all{K:qH}{fd:FuncData}{ps:List Str}(h:∀us:List Value,us.length=ps.length->bindArgs fd ⟨us,[]⟩=pure (ps.zip us)):ZL K fd ps []:=λs us _ hl=>by
 rw[append_nil]at hl ⊢;exact .of_eq (h us hl)
structure FnScope(N P:List Str)(sc:Scope):Prop where
 kind:sc.kind=.function
 co:sc.isCoroutine=false
 gen:sc.isGenerator=false
 nd:N.Nodup
 pre:N.take P.length=P
 par:∀x∈P,sc.names.lookup x=some .local\/sc.names.lookup x=some .cell
 nofree:∀y∈sc.names,y.2≠.free
theorem uN{kindOf:Str->Option NameKind}{x:Str}:∀{binds:List (Str×Value)} {m:Str->Option Value},(∀v,(x,v)∉binds)->bindL kindOf binds m x=m x
 | [],_,_=>rfl
 | (n,v)::r,m,h=>by
  unfold bindL;rw[uN λw hw=>h w (qD _ hw)];split
  ·have:x≠n:=by rintro rfl;exact h v qE
   simp[this]
  ·rfl
theorem uO{kindOf:Str->Option NameKind}{x:Str}:∀{binds:List (Str×Value)} {m:Str->Option Value},(∀v,(x,v)∉binds)->bindC kindOf binds m x=m x
 | [],_,_=>rfl
 | (n,v)::r,m,h=>by
  unfold bindC;rw[uO λw hw=>h w (qD _ hw)];split
  ·rfl
  ·have:x≠n:=by rintro rfl;exact h v qE
   simp[this]
theorem uP{kindOf:Str->Option NameKind}{x:Str}{v:Value}:∀{P:List Str} {vs:List Value} {i:Nat} {m:Str->Option Value},P.Nodup->P[i]?=some x->vs[i]?=some v->kindOf x=some .local ->
  bindL kindOf (P.zip vs) m x=some v
 | [],_,_,_,_,h,_,_=>by simp at h|_::_,[],_,_,_,_,h,_=>by simp at h
 |p::P,w::vs,0,m,nd,h1,h2,hk=>by
  simp at h1 h2;subst h1;subst h2
  show bindL kindOf ((p,w)::P.zip vs) m p=_
  unfold bindL;rw[uN λv hv=>(nodup_cons.mp nd).1 (of_mem_zip hv).1,if_pos hk];simp
 |p::P,w::vs,i+1,m,nd,h1,h2,hk=>by
  show bindL kindOf ((p,w)::P.zip vs) m x=_
  unfold bindL;exact uP (i:=i) (nodup_cons.mp nd).2 (by simpa using h1) (by simpa using h2) hk
theorem uQ{kindOf:Str->Option NameKind}{x:Str}{v:Value}:∀{P:List Str} {vs:List Value} {i:Nat} {m:Str->Option Value},P.Nodup->P[i]?=some x->vs[i]?=some v->kindOf x≠some .local ->
  bindC kindOf (P.zip vs) m x=some v
 | [],_,_,_,_,h,_,_=>by simp at h|_::_,[],_,_,_,_,h,_=>by simp at h
 |p::P,w::vs,0,m,nd,h1,h2,hk=>by
  simp at h1 h2;subst h1;subst h2
  show bindC kindOf ((p,w)::P.zip vs) m p=_
  unfold bindC;rw[uO λv hv=>(nodup_cons.mp nd).1 (of_mem_zip hv).1,if_neg hk];simp
 |p::P,w::vs,i+1,m,nd,h1,h2,hk=>by
  show bindC kindOf ((p,w)::P.zip vs) m x=_
  unfold bindC;exact uQ (i:=i) (nodup_cons.mp nd).2 (by simpa using h1) (by simpa using h2) hk
def wZ(N:List Str)(vs:List V):St:=vs.map some++replicate (N.length-vs.length) none
def cxOf(CX:CXT)(P:Program)(w:World)(K:qH)(mg:Str->Option Value)(base:Heap)(N:List Str)(qual:Str)(scope:Scope)(f:Addr)(cd:Value)(A:Around)(outer:List Env)(s:Shared)(H:Hp)(E:XK):Cx where
 prog:=P
 w:=w
 K:=K
 mg:=mg
 base:=base
 A:=A.deeper (envOfC qual scope s.heap.objs.size f cd)
 N:=N
 s₀:=s
 H₀:=H
 env:=envOfC qual scope s.heap.objs.size f cd
 outer:=outer
 stack:=envOfC qual scope s.heap.objs.size f cd::outer
 ex:=[]
 calm:=true
 fn:=λ_=>true
 pn:=[]
 xe:=λe s'=>wpAny (model P w) (A.deeper (envOfC qual scope s.heap.objs.size f cd)) (leaving (envOfC qual scope s.heap.objs.size f cd) e) (λ_ s''=>CX outer H s E e s'') (λe' s''=>CX outer H s E e' s'') s'
def Qe{sc:Scope}{n:Nat}{x:Str}(h:sc.names.lookup x=some .cell):∃c,(cellsFrom n sc.names []).lookup x=some c:=by
 have q:=cellsFrom_some sc.names n [] (.inl h);exact Option.isSome_iff_exists.mp q
def zBA{CX:CXT}{P:Program}{w:World}{K:qH}{mg:Str->Option Value}{base:Heap}{N ps:List Str}{qual:Str}{scope:Scope}{f:Addr}{cd:Value}{A:Around}{outer:List Env}{s s1:Shared}{H:Hp}{E:XK}{us:List Value}{vs:List V}
  (S:FnScope N ps scope) (hd:A.handled=none) (e0:Env0 P w K mg base A outer s H) (hl:vs.length=ps.length) (r:yG vs us)
  (x:InCallC s s.heap.objs.size (bindL (envOfC qual scope s.heap.objs.size f cd).kindOf (ps.zip us) λ_=>none) (cellsFrom (s.heap.objs.size+1) scope.names []) (bindC (envOfC qual scope s.heap.objs.size f cd).kindOf (ps.zip us) λ_=>none) s1) :
  Inv (cxOf CX P w K mg base N qual scope f cd A outer s H E) [] (wZ N vs) H s1:=by
 have hpl:ps.length<=N.length:=by have:=congrArg length S.pre;rw[List.length_take]at this;omega
 obtain⟨h1,tk,rfl,hk⟩:=x.done;have noA:∀b:Addr,b∉(cxOf CX P w K mg base N qual scope f cd A outer s H E).ex:=λb z=>absurd (show b∈([]:List Addr)from z) (by simp)
 refine⟨⟨e0.mod,S.kind,rfl,rfl,le_refl _,λy z c h1 h2=>?_,λy hy=>?_,λy c _ h=>?_,λ_=>hd,Around.frames_deeper e0.frames,.inr ⟨rfl,rfl⟩,λb z=>absurd z (noA b),e0.bs,e0.bsz,λb _ _=>noA b,λb z=>absurd z (noA b),e0.funs,e0.frf⟩,
  rfl,e0.bare,Un.kept hk,⟨_,x.toInCall.ns,λi y v h1 h2 h3=>?_⟩,λy c h=>⟨_,x.cell y c h⟩,e0.hok.fresh (le_refl _),λy c h=>?_,λp hp=>absurd (show p∈([]:List (Addr×Obj))from hp) (by simp),e0.hok.kept hk,?_⟩
 ·exact name_of_addr x.apart (PySem.mem_of_lookup h1) (PySem.mem_of_lookup h2)
 ·have hy:scope.names.lookup y=some .cell\/scope.names.lookup y=some .free:=hy
  rcases hy with hy|hy
  ·exact Qe hy
  ·exact absurd rfl (S.nofree _ (PySem.mem_of_lookup hy))
 ·exact Nat.le_of_lt (x.above y c (PySem.mem_of_lookup h))
 ·have hi:i<vs.length:=by
   unfold wZ at h2;by_cases hi:i<vs.length
   ·exact hi
   ·rw[getElem?_append_right (by simpa using hi)]at h2
    rw[List.getElem?_replicate]at h2;split at h2<;>cases h2
  have ha:vs[i]?=some v:=by
   unfold wZ at h2;rw[getElem?_append_left (by simpa using hi),getElem?_map]at h2;cases e:vs[i]? with
   |none=>rw[e]at h2;cases h2|some a=>rw[e]at h2;cases h2;rfl
  obtain⟨u,hu,rv⟩:=r.get ha;have hp:ps[i]?=some y:=by
   rw[<- S.pre,List.getElem?_take_of_lt (by omega)];exact h1
  have ndP:ps.Nodup:=by rw[<- S.pre];exact S.nd.sublist (List.take_sublist _ _)
  refine⟨u,rv,?_⟩;rcases S.par y (mem_of_getElem? hp)with k|k
  ·exact .inl ⟨k,uP ndP hp hu k⟩
  ·obtain⟨c,e⟩:=Qe (n:=s.heap.objs.size+1) k
   refine .inr ⟨.inl k,c,e,?_⟩;have q:=x.cell y c e;rw[uQ ndP hp hu (by show scope.names.lookup y≠_;rw[k];decide)]at q;exact q
 ·exact e0.hok.fresh (Nat.le_of_lt (x.above y c (PySem.mem_of_lookup h)))
 ·unfold wZ
  show _=N.length
  rw[length_append,length_map,List.length_replicate];omega
section
variable{X:Cx}{x:Str}{p pos:Pos}{e:Expr}{es:List Expr}{t:TA}{id T:String}{r:List V->Hp->VK->Prop}
def tCB(r:List V->Hp->VK->Prop)(t:TA):TE:=λO H Q=>t O H λvs H1=>r vs H1 Q
def ZS(hc:j9 X (.builtin id) r)(hg:Gl X x)(hm:X.mg x=none)(hv:bootBuiltins x=some (.builtin id))(ha:PA X (e::es) t)(hn:x≠"__name__":=by decide)(hdb:(x==("__debug__":Str))=false:=by decide)
  (he:starEach (e::es) X.env=(false,eval e X.env)::starEach es X.env:=by rfl) (hpl:(backTo pos (starEach es X.env)).any (·.1)=false:=by rfl):PE X (.Call (.Name x p) (e::es) [] pos) (tCB r t):=by
 intro pins s O H Q I h;refine wpAny_Call_Name_kw (Ws I hg hm hv ?_ hn hdb);exact PyProof.Rows.callWith_builtin1 (thn (ha pos pins s O H _ I h) λus s1 ⟨vs,H1,I1,r1,q1⟩=>hc pins s1 O H1 vs us Q I1 r1 q1) he hpl
def zBB(hc:j9 X (.type T) r)(hg:Gl X x)(hm:X.mg x=none)(hv:bootBuiltins x=some (.type T))(ha:PA X (e::es) t)(hn:x≠"__name__":=by decide)(hdb:(x==("__debug__":Str))=false:=by decide)
  (he:starEach (e::es) X.env=(false,eval e X.env)::starEach es X.env:=by rfl) (hpl:(backTo pos (starEach es X.env)).any (·.1)=false:=by rfl):PE X (.Call (.Name x p) (e::es) [] pos) (tCB r t):=by
 intro pins s O H Q I h;refine wpAny_Call_Name_kw (Ws I hg hm hv ?_ hn hdb);exact PyProof.Rows.callWith_type1 (thn (ha pos pins s O H _ I h) λus s1 ⟨vs,H1,I1,r1,q1⟩=>hc pins s1 O H1 vs us Q I1 r1 q1) he hpl
end
end L2
namespace HT
open PySem PyProof.Rows
section
variable{prog:Program}{w:World}{A:Around}{E:Value->Shared->Prop}{s:Shared}
def cat_tup{t b:Addr}{vs ws:List Value}{Q:Value->Shared->Prop}(ht:IsTup s.heap t vs.toArray)(hb:IsTup s.heap b ws.toArray)(hv:vs≠[])
  (h1:ws=[]->Q (.ref t) s) (h2:ws≠[]->Q (.ref s.heap.objs.size) {s with heap:=s.heap.push {cls:=.type "tuple",data:=.seq (vs++ws).toArray}})
  (hsz:vs.length+ws.length<=sizeLine):wpAny (model prog w) A (binaryOp .Add (.ref t) (.ref b)) Q E s:=by
 obtain⟨⟨cls,dd,data,sl⟩,ho,hc,n,hd⟩:=id ht;obtain⟨⟨cls2,dd2,data2,sl2⟩,ho2,hc2,n2,hd2⟩:=id hb;simp only at hc hd hc2 hd2;subst hc hd hc2 hd2;have e:vs.toArray++ws.toArray=(vs++ws).toArray:=by simp
 by_cases hw:ws=[]
 ·exact concat_meets ⟨_,ho,rfl⟩ ⟨_,ho2,rfl⟩ noFill_tuple_add seq_tuple_add PySem.F.slot_tuple_add PySem.F.entry_tuple_add (PySem.F.args_tuple_add_2 _ _)
   (tuple_addW1 t b vs.toArray ws.toArray n n2 dd dd2 sl sl2 (by simpa using hv) (by simp[hw])) ⟨ho,ho2,h1 hw⟩
 ·refine concat_meets ⟨_,ho,rfl⟩ ⟨_,ho2,rfl⟩ noFill_tuple_add seq_tuple_add PySem.F.slot_tuple_add PySem.F.entry_tuple_add (PySem.F.args_tuple_add_2 _ _)
   (tuple_addW2 t b vs.toArray ws.toArray n n2 dd dd2 sl sl2 (by simpa using hv) (by simpa using hw) (by rw[size_toArray,size_toArray];exact hsz)) ⟨ho,ho2,?_⟩
  rw[e];exact h2 hw
def sIx(n d:Nat):Option Int->Nat
 |none=>d|some v=>if v<0 then(v+(n:Int)).toNat else min v.toNat n
def sIx_le(n d:Nat)(hd:d<=n)(o:Option Int):sIx n d o<=n:=by
 cases o with
 |none=>exact hd
 |some v =>
  show(if v<0 then(v+(n:Int)).toNat else min v.toNat n)<=n
  by_cases hv:v<0
  ·rw[if_pos hv];omega
  ·rw[if_neg hv];exact Nat.min_le_right _ _
def zBC(v:Int)(n d:Nat):(if v<0 then max (v+(n:Int)) 0 else min v (n:Int))=((sIx n d (some v):Nat):Int):=by
 show(if v<0 then max (v+(n:Int)) 0 else min v (n:Int))=(((if v<0 then(v+(n:Int)).toNat else min v.toNat n):Nat):Int)
 by_cases hv:v<0
 ·simp only[if_pos hv];omega
 ·simp only[if_neg hv];omega
def zAQ(lo hi:Option Int)(n:Nat):Builtin.Slice.sliceAdjust lo hi 1 (n:Int)=(((sIx n 0 lo:Nat):Int),((sIx n n hi:Nat):Int)):=by
 have h1:¬((1:Int)<0):=by omega
 unfold Builtin.Slice.sliceAdjust;simp only[h1,if_false];refine Prod.ext ?_ ?_
 ·cases lo with
  |none=>rfl|some v=>exact zBC v n 0
 ·cases hi with
  |none=>rfl|some v=>exact zBC v n n
def zAR(i j:Nat):Builtin.Slice.slicePlaces (i:Int) (j:Int) 1=j-i:=by
 unfold Builtin.Slice.slicePlaces;have h1:(1:Int) > 0:=by omega
 simp only[h1,if_true,Int.ediv_one];split<;>omega
def Wu{v:Value}{o:Option Int}{Q:Option Int->Shared->Prop}(p:IsPart v o)(h:Q o s):wpAny (model prog w) A (Builtin.Slice.slicePartIndex v) Q E s:=by
 cases p with
 |none=>exact slicePart_none h|int i t=>exact slicePart_int h
def sliceApplied_gen{sl:Addr}{vl vu:Value}{lo hi:Option Int}{n:Nat}{Q:Int×Int×Nat->Shared->Prop}(hs:s.heap.IsSliceOf sl vl vu .none)(pl:IsPart vl lo)(pu:IsPart vu hi)
  (h:Q (((sIx n 0 lo:Nat):Int),1,sIx n n hi-sIx n 0 lo) s):wpAny (model prog w) A (Builtin.Slice.sliceApplied (.ref sl) (pure (n:Int))) Q E s:=by
 obtain⟨os,hos,hcs,hds⟩:=id hs;unfold Builtin.Slice.sliceApplied Builtin.Slice.sliceFields;refine qB (qB (wpAny_field hos hds (x:=vl) rfl (qB (wpAny_field hos hds (x:=vu) rfl (qB (wpAny_field hos hds (x:=.none) rfl (qC ?_)))))));refine qB (slicePart_none ?_);show wpAny _ _ (if((1:Int)==0)=true then _ else _) _ _ s;rw[if_neg (by decide)];refine qB (Wu pl (qB (Wu pu (qB (qC ?_)))));show wpAny _ _ (match Builtin.Slice.sliceAdjust lo hi 1 (n:Int)with|(lo,hi)=>pure (lo,(1:Int),Builtin.Slice.slicePlaces lo hi 1)) _ _ s
 rw[zAQ lo hi n];show wpAny _ _ (pure (((sIx n 0 lo:Nat):Int),(1:Int),Builtin.Slice.slicePlaces ((sIx n 0 lo:Nat):Int) ((sIx n n hi:Nat):Int) 1)) _ _ s;rw[zAR];exact qC h
def zDN(xs:Array Value)(i k:Nat):((List.range k).filterMap λ(m:Nat)=>xs[((i:Int)+(m:Int)*1).toNat]?).toArray=((xs.toList.drop i).take k).toArray:=by
 have e:(λ(m:Nat)=>xs[((i:Int)+(m:Int)*1).toNat]?)=λm=>xs[i+m]?:=by
  funext m
  have:((i:Int)+(m:Int)*1).toNat=i+m:=by omega
  rw[this]
 rw[e];have:=pick_run xs i k;rw[List.filterMap_map]at this;have e2:((λx=>xs[x]?) ∘ λx=>i+x)=λm=>xs[i+m]?:=rfl
 rw[e2]at this;rw[this]
def getItem_tuple_cut{t sl:Addr}{items:Array Value}{vl vu:Value}{lo hi:Option Int}{Q:Value->Shared->Prop}(ht:IsTup s.heap t items)(hs:s.heap.IsSliceOf sl vl vu .none)(pl:IsPart vl lo)(pu:IsPart vu hi)
  (hw:¬(sIx items.size 0 lo=0/\sIx items.size items.size hi=items.size))
  (h:Q (.ref s.heap.objs.size) {s with heap:=s.heap.push {cls:=.type "tuple",data:=.seq ((items.toList.drop (sIx items.size 0 lo)).take (sIx items.size items.size hi-sIx items.size 0 lo)).toArray}})
  (hsz:items.size<=sizeLine):wpAny (model prog w) A (getItem (.ref t) (.ref sl)) Q E s:=by
 have htake:sizeOk (.seq ((items.toList.drop (sIx items.size 0 lo)).take (sIx items.size items.size hi-sIx items.size 0 lo)).toArray):=by
  show((items.toList.drop (sIx items.size 0 lo)).take (sIx items.size items.size hi-sIx items.size 0 lo)).toArray.size<=sizeLine
  rw[size_toArray,List.length_take,List.length_drop,Array.length_toList];omega
 have hj:sIx items.size items.size hi<=items.size:=sIx_le _ _ (le_refl _) hi;obtain⟨os,hos,hcs,hds⟩:=id hs;have hTs:s.TypeIs (.ref sl) "slice":=⟨os,hos,hcs⟩;unfold getItem
 try with_reducible refine wpAny_holding ?_
 first|refine qB (qC ?_)|skip
 refine qB (wpAny_sequenceKey ht.typeIs (by decide) ?_);refine qB (wpAny_callSpecial?_slot (name:=Str.ofString "__getitem__") ht.typeIs PyProof.Rows.slot_tuple_getitem
  (wpAny_call_entry PyProof.Rows.slot_tuple_getitem ht.typeIs entry_tuple_getitem ?_ (args_tuple_getitem _ _)))
 show wpAny _ _ (Builtin.Tuple.tupleItemsOf (.ref t) >>= _) _ _ s
 refine qB (tupleItemsOf_ ht ?_);refine qB (wpAny_typeOf hTs ?_);rw[if_pos (by decide)];refine qB (sliceApplied_gen hs pl pu ?_);have hno:¬((((sIx items.size 0 lo:Nat):Int)==0&&(1:Int)==1&&(sIx items.size items.size hi-sIx items.size 0 lo)==items.size)=true):=by
  intro q;rw[Bool.and_eq_true,Bool.and_eq_true]at q;have q1:((sIx items.size 0 lo:Nat):Int)=0:=eq_of_beq q.1.1;have q2:sIx items.size items.size hi-sIx items.size 0 lo=items.size:=eq_of_beq q.2;exact hw ⟨by omega,by omega⟩
 show wpAny _ _ (if(((sIx items.size 0 lo:Nat):Int)==0&&(1:Int)==1&&(sIx items.size items.size hi-sIx items.size 0 lo)==items.size)=true then _ else _) _ _ s
 rw[if_neg hno,zDN]
 first
  |exact qB (m:=Builtin.Tuple.tupleExact _) (wpAny_newObj_type (qC ⟨_,rfl,qC h⟩) htake)
  |exact qB (m:=Builtin.Tuple.tupleExact _) (wpAny_newObj_type (qB (qC (qC ⟨_,rfl,qC h⟩))) htake)
  |exact qB (qB (m:=Builtin.Tuple.tupleExact _) (wpAny_newObj_type (qC (qC ⟨_,rfl,qC h⟩)) htake))
  |exact qB (qB (m:=Builtin.Tuple.tupleExact _) (wpAny_newObj_type (qC ⟨_,rfl,qC h⟩) htake))
end
end HT
namespace L2
open PySem PySem.Spec PyProof.Rows
abbrev TO:=St->Hp->(Option Int->Hp->Prop)->Prop
def PO(X:Cx)(e:Option Expr)(t:TO):Prop :=
 ∀(pins:List (Addr×Obj)) (s:Shared) (O:St) (H:Hp) (Q:Option Int->Hp->Prop),Inv X pins O H s->t O H Q ->
  wpAny (model X.prog X.w) X.A (evalPart e X.env) (λu s'=>∃o H',Inv X pins O H' s'/\IsPart u o/\Q o H') X.xe s
def tNoPart:TO:=λ_ H Q=>Q none H
def tPart(t:TE):TO:=λO H Q=>t O H λx H1=>∃i,x=.int i/\Q (some i) H1
section
variable{X:Cx}{e:Expr}{te:TE}{lo hi:Option Expr}{tl th:TO}{pos p2:Pos}
def po_none:PO X none tNoPart:=by
 intro pins s O H Q I h;rw[evalPart_none];exact qC ⟨none,H,I,.none,h⟩
def po_some(h:PE X e te):PO X (some e) (tPart te):=by
 intro pins s O H Q I hw;rw[evalPart_some];refine thn (h pins s O H _ I hw) λu s1 ⟨x,H1,I1,r1,q1⟩=>?_
 obtain⟨i,rfl,q⟩:=q1;obtain⟨t,rfl⟩:=r1;exact⟨some i,H1,I1,.int i t,q⟩
def SlR(X:Cx)(r:V->Option Int->Option Int->Hp->VK->Prop):Prop :=
 ∀(pins:List (Addr×Obj)) (s:Shared) (O:St) (H:Hp) (x:V) (v vl vu:Value) (lo hi:Option Int) (sl:Addr) (Q:VK),Inv X pins O H s->zz x v->s.heap.IsSliceOf sl vl vu .none->IsPart vl lo->IsPart vu hi->r x lo hi H Q ->
  ∃T id,typeLookup (.type T) "__getitem__"=pure (some (.builtin id))/\s.TypeIs v T/\wpAny (model X.prog X.w) X.A (getItem v (.ref sl)) (EP X pins O Q) X.xe s
def SlR.or{r r':V->Option Int->Option Int->Hp->VK->Prop}(h:SlR X r)(h':SlR X r'):SlR X (λx lo hi H Q=>r x lo hi H Q\/r' x lo hi H Q):=by
 intro pins s O H x v vl vu lo hi sl Q I rx hs pl pu q;rcases q with q|q
 ·exact h pins s O H x v vl vu lo hi sl Q I rx hs pl pu q
 ·exact h' pins s O H x v vl vu lo hi sl Q I rx hs pl pu q
def tSl(r:V->Option Int->Option Int->Hp->VK->Prop)(te:TE)(tl th:TO):TE:=λO H Q=>te O H λx H1=>tl O H1 λl H2=>th O H2 λu H3=>r x l u H3 Q
def zDO{r:V->Option Int->Option Int->Hp->VK->Prop}(hr:SlR X r)(he:PE X e te)(hl:PO X lo tl)(hu:PO X hi th):PE X (.Subscript e (.Slice lo hi none p2) pos) (tSl r te tl th):=by
 intro pins s O H Q I h;refine Subscript_ (thn (he pins s O H _ I h) λv s1 ⟨x,H1,I1,r1,q1⟩=>?_);refine wpAny_Slice (thn (hl pins s1 O H1 _ I1 q1) λvl s2 ⟨l,H2,I2,pl,q2⟩=>thn (hu pins s2 O H2 _ I2 q2) λvu s3 ⟨u,H3,I3,pu,q3⟩=>?_);rw[evalPart_none];refine qC ?_;have I4:Inv X pins O H3 {s3 with heap:=s3.heap.push {cls:=.type "slice",data:=.fields #[vl,vu,.none]}}:=I3.kept (t':=s3.toks) λb ob q=>qA _ q
 obtain⟨T,id,hT,ht,hg⟩:=hr pins {s3 with heap:=s3.heap.push {cls:=.type "slice",data:=.fields #[vl,vu,.none]}} O H3 x v vl vu l u s3.heap.objs.size Q I4 r1 (Heap.IsSliceOf.new ..) pl pu q3
 show wpAny (model X.prog X.w) X.A (subscriptTail e (.Slice lo hi none p2) v (.ref s3.heap.objs.size)) (EP X pins O Q) X.xe {s3 with heap:=s3.heap.push {cls:=.type "slice",data:=.fields #[vl,vu,.none]}}
 exact tail_any (ops:=[.ref s3.heap.objs.size,v]) ht hT hg (by with_unfolding_all rfl)
def zDP(xs:List V)(lo hi:Option Int):List V:=(xs.drop (HT.sIx xs.length 0 lo)).take (HT.sIx xs.length xs.length hi-HT.sIx xs.length 0 lo)
def Zi(xs:List V)(lo hi:Option Int):(zDP xs lo hi).length<=xs.length:=by
 unfold zDP;rw[List.length_take,List.length_drop];omega
def rSlT(K:qH):V->Option Int->Option Int->Hp->VK->Prop:=λx lo hi H Q=>∃a xs,x=.ref a/\SqT K H a xs /\
 ¬(HT.sIx xs.length 0 lo=0/\HT.sIx xs.length xs.length hi=xs.length)/\∀p,H p=none->Q (.ref p) (upd H p (.t (zDP xs lo hi)))
def sl_tup:SlR X (rSlT X.K):=by
 intro pins s O H x v vl vu lo hi sl Q I rx hs pl pu h;obtain⟨a,xs,rfl,hx,hw,q⟩:=h;cases rx;obtain⟨its,r,ht,hz⟩:=I.tuple hx;have hlen:its.toArray.size=xs.length:=by rw[size_toArray];exact r.length.symm
 refine⟨"tuple",_,PyProof.Rows.slot_tuple_getitem.lookup,ht.typeIs,?_⟩;refine HT.getItem_tuple_cut ht hs pl pu (by rw[hlen];exact hw) ?_ (by rw[hlen];exact hz);rw[hlen];refine⟨.ref s.heap.objs.size,_,I.laid (t':=s.toks) (o:=.t (zDP xs lo hi)) (λb ob q=>qA _ q) (le_refl _) ?_,rfl,q _ (I.hok.fresh (le_refl _))⟩;exact⟨le_trans (Zi xs lo hi) hz,_,(r.drop (HT.sIx xs.length 0 lo)).take (HT.sIx xs.length xs.length hi-HT.sIx xs.length 0 lo),IsTup.new _ _⟩
def rCatT(K:qH):R2:=λx y H Q=>∃a b xs ys,x=.ref a/\y=.ref b/\SqT K H a xs/\SqT K H b ys/\xs≠[]/\xs.length+ys.length<=sizeLine /\
 (ys=[]->Q (.ref a) H)/\(ys≠[]->∀p,H p=none->Q (.ref p) (upd H p (.t (xs++ys))))
def yG.nil_iff{xs:List V}{us:List Value}(r:yG xs us):us=[]↔xs=[]:=by
 cases r with
 |nil=>simp|cons _ _=>simp
def op_catT:OpR X (binaryOp .Add) (rCatT X.K):=by
 intro pins s O H x y v u Q I rx ry h;obtain⟨a,b,xs,ys,rfl,rfl,ha,hb,hx,hz,q1,q2⟩:=h;cases rx;cases ry;obtain⟨its,r1,p1,_⟩:=I.tuple ha;obtain⟨its2,r2,p2,_⟩:=I.tuple hb;refine HT.cat_tup p1 p2 (λz=>hx (r1.nil_iff.mp z)) (λz=>⟨.ref a,H,I,rfl,q1 (r2.nil_iff.mp z)⟩) (λz=>?_) (by rw[<- r1.length,<- r2.length];exact hz);refine⟨.ref s.heap.objs.size,_,I.laid (t':=s.toks) (o:=.t (xs++ys)) (λb ob q=>qA _ q) (le_refl _) ?_,rfl,q2 (λw=>z (r2.nil_iff.mpr w)) _ (I.hok.fresh (le_refl _))⟩;exact⟨by rw[length_append];exact hz,_,r1.append r2,IsTup.new _ _⟩
end
def ixN(n:Nat)(i:Int):Option Nat:=if 0<=i then(if i<n then some i.toNat else none)else if -(n:Int)<=i then some (i+n).toNat else none
def atI{α:Type}(xs:List α)(i:Int):Option α:=(ixN xs.length i).bind λj=>xs[j]?
def zBD{n:Nat}{i:Int}{j:Nat}(h:ixN n i=some j):seqIndex? i n=some j/\j<n/\-(n:Int)<=i/\i<n:=by
 unfold ixN at h;by_cases h0:0<=i
 ·rw[if_pos h0]at h
  by_cases h1:i<n
  ·rw[if_pos h1]at h
   have e:i.toNat=j:=qJ h;exact⟨by rw[seqIndex_of h0 h1,e],by omega,by omega,h1⟩
  ·rw[if_neg h1]at h;cases h
 ·rw[if_neg h0]at h
  by_cases h1:-(n:Int)<=i
  ·rw[if_pos h1]at h
   have e:(i+n).toNat=j:=qJ h;exact⟨by rw[seqIndex_neg (by omega) h1,e],by omega,h1,by omega⟩
  ·rw[if_neg h1]at h;cases h
def zBE{α:Type}{xs:List α}{i:Int}{v:α}(h:atI xs i=some v):∃j,seqIndex? i xs.length=some j/\xs[j]?=some v/\j<xs.length/\-(xs.length:Int)<=i/\i<xs.length:=by
 unfold atI at h;cases e:ixN xs.length i with
 |none=>rw[e]at h;cases h
 |some j =>
  rw[e]at h;obtain⟨h1,h2,h3,h4⟩:=zBD e;exact⟨j,h1,h,h2,h3,h4⟩
def Zj(b:Expr):Prop:=∀o i,subscripted b false o i=operate [o,i] (getItem o i)
def IxR(X:Cx)(r:R2):Prop :=
 ∀(value slice:Expr) (pins:List (Addr×Obj)) (s:Shared) (O:St) (H:Hp) (x y:V) (v u:Value) (Q:VK),Inv X pins O H s->zz x v->zz y u->r x y H Q ->
  subscripted slice false v u=operate [v,u] (getItem v u)->wpAny (model X.prog X.w) X.A (subscriptTail value slice v u) (EP X pins O Q) X.xe s
def MtR(X:Cx)(id:String)(r:V->List V->Hp->VK->Prop):Prop :=
 ∀(pins:List (Addr×Obj)) (s:Shared) (O:St) (H:Hp) (x:V) (xs:List V) (v:Value) (us:List Value) (Q:VK),Inv X pins O H s->zz x v->yG xs us->r x xs H Q ->
  wpAny (model X.prog X.w) X.A (call (.builtin id) (v::us)) (EP X pins O Q) X.xe s
section
variable{X:Cx}{a b:Expr}{ta tb:TE}{pos:Pos}
def IxR.or{r r':R2}(h:IxR X r)(h':IxR X r'):IxR X (λx y H Q=>r x y H Q\/r' x y H Q):=by
 intro value slice pins s O H x y v u Q I rx ry q hs;rcases q with q|q
 ·exact h value slice pins s O H x y v u Q I rx ry q hs
 ·exact h' value slice pins s O H x y v u Q I rx ry q hs
def pe_ix{r:R2}(hr:IxR X r)(ha:PE X a ta)(hb:PE X b tb)(hs:Zj b):PE X (.Subscript a b pos) (tOp r ta tb):=by
 intro pins s O H Q I h;exact Subscript_ (binT ha hb I h λv u s2 x y H2 I2 rx ry q=>hr a b pins s2 O H2 x y v u Q I2 rx ry q (hs _ _))
def rIxL(K:qH):R2:=λx y H Q=>∃p xs i v,x=.ref p/\y=.int i/\SqL K H p xs/\atI xs i=some v/\Q v H
def rIxT(K:qH):R2:=λx y H Q=>∃p xs i v,x=.ref p/\y=.int i/\SqT K H p xs/\atI xs i=some v/\Q v H
def zBF:IxR X (rIxL X.K):=by
 intro value slice pins s O H x y v u Q I rx ry h hs;obtain⟨p,xs,i,z,rfl,rfl,hq,he,q⟩:=h;cases rx;obtain⟨t,rfl⟩:=ry;obtain⟨its,r,pl,hz⟩:=I.list hq;obtain⟨j,h1,h2,h3,h4,h5⟩:=zBE he;obtain⟨w,ew,rw'⟩:=r.get h2;have hl:=r.length;have hn:=uM;have fin:EP X pins O Q w s:=⟨z,H,I,rw',q⟩;by_cases h0:0<=i
 ·have hj:i.toNat=j:=by
   rw[seqIndex_of h0 h5]at h1;exact qJ h1
  exact item_listR pl.isList h0 (by omega) (by rw[hj];simpa using ew) fin hs
 ·have hj:(i+(its.toArray.size:Int)).toNat=j:=by
   rw[seqIndex_neg (by omega) h4]at h1;rw[size_toArray,<- hl];exact qJ h1
  exact subscriptTail_builtinR (x:=w) pl.isList.typeIs slot_list_getitem.lookup
   (wpAny_getItem_list_neg (Q:=λr s'=>r=w/\EP X pins O Q r s') pl.isList (by omega) (by rw[size_toArray]<;>omega) (by omega) (by rw[hj];simpa using ew) ⟨rfl,fin⟩) hs
def ix_tup:IxR X (rIxT X.K):=by
 intro value slice pins s O H x y v u Q I rx ry h hs;obtain⟨p,xs,i,z,rfl,rfl,hq,he,q⟩:=h;cases rx;obtain⟨t,rfl⟩:=ry;obtain⟨its,r,pl,hz⟩:=I.tuple hq;obtain⟨j,h1,h2,h3,h4,h5⟩:=zBE he;obtain⟨w,ew,rw'⟩:=r.get h2;have hl:=r.length;have hn:=uM;have fin:EP X pins O Q w s:=⟨z,H,I,rw',q⟩;exact subscriptTail_builtinR (x:=w) pl.typeIs slot_tuple_getitem.lookup
  (getItem_tuple (j:=j) (Q:=λr s'=>r=w/\EP X pins O Q r s') pl (by omega) (by omega) (by rw[size_toArray,<- hl];exact h1) (by simpa using ew) ⟨rfl,fin⟩) hs
def zAS(its:List Value)(n j:Nat)(u:Value):Obj.mapSeq (·.setIfInBounds j u) {cls:=.type "list",data:=.seq its.toArray n}={cls:=.type "list",data:=.seq (its.set j u).toArray n}:=by
 simp[Obj.mapSeq]
theorem Inv.lst{pins:List (Addr×Obj)}{O:St}{H:Hp}{s:Shared}{p:Addr}{xs:List V}(I:Inv X pins O H s)(h:H p=some (.l xs)) :
  ∃(its:List Value) (n:Nat),yG xs its/\s.heap.get? p=some {cls:=.type "list",data:=.seq its.toArray n}/\xs.length<=sizeLine:=by
 obtain⟨z,its,n,r,e⟩:=I.hok p _ h;exact⟨its,n,r,e,z⟩
def Inv.lstUpd{pins:List (Addr×Obj)}{O:St}{H:Hp}{s:Shared}{p:Addr}{xs ys:List V}{its its':List Value}{n n':Nat}{f:Obj->Obj}(I:Inv X pins O H s)(h:H p=some (.l xs))
  (ho:s.heap.get? p=some {cls:=.type "list",data:=.seq its.toArray n}) (hf:f {cls:=.type "list",data:=.seq its.toArray n}={cls:=.type "list",data:=.seq its'.toArray n'}) (r:yG ys its') (hz:ys.length<=sizeLine) (t:Nat) :
  Inv X pins O (upd H p (.l ys)) {s with heap:=s.heap.update p f,toks:=t}:=by
 have e:(s.heap.update p f).get? p=some {cls:=.type "list",data:=.seq its'.toArray n'}:=by
  rw[Heap.get?_update_self f ho (by rw[hf]<;>rfl),hf]
 refine I.write (x:=p) (e:=p) (by rw[h];trivial) (.inl rfl) (λb u hb q=>(Heap.get?_update_other _ _ (Ne.symm hb)).trans q) ⟨_,e⟩ ?_;exact⟨hz,its',n',r,e⟩
def rSetL:V->V->V->Hp->(Hp->Prop)->Prop:=λo i v H Q=>∃p xs k j,o=.ref p/\i=.int k/\H p=some (.l xs)/\ixN xs.length k=some j/\Q (upd H p (.l (xs.set j v)))
def Qf:PSet X rSetL:=by
 intro pins s O H o i v ov iv u Q I ro ri rv h;obtain⟨p,xs,k,j,rfl,rfl,hp,hj,q⟩:=h;cases ro;obtain⟨t,rfl⟩:=ri;obtain⟨its,n,r,ho,hz⟩:=I.lst hp;obtain⟨h1,h2,h3,h4⟩:=zBD hj;have hl:=r.length;have hn:=uM;have I':Inv X pins O (upd H p (.l (xs.set j v))) {s with heap:=s.heap.update p (Obj.mapSeq (·.setIfInBounds j u))} :=
  I.lstUpd hp ho (zAS its n j u) (r.set rv j) (by rw[List.length_set];exact hz) s.toks
 by_cases h0:0<=k
 ·have hk:k.toNat=j:=by
   rw[seqIndex_of h0 h4]at h1;exact qJ h1
  exact PySem.W.ki_setAt ho h0 (by omega) (by rw[size_toArray,<- hl];exact h4) (by rw[hk];exact⟨_,I',q⟩)
 ·have hk:(k+(its.toArray.size:Int)).toNat=j:=by
   rw[seqIndex_neg (by omega) h3]at h1;rw[size_toArray,<- hl];exact qJ h1
  exact PySem.W.ki_setBack ho (by omega) (by rw[size_toArray,<- hl];exact h3) (by omega) (by rw[hk];exact⟨_,I',q⟩)
def uR(lo hi:Option Int)(n:Nat):(sliceBounds lo hi none n).1=((HT.sIx n 0 lo:Nat):Int)/\(sliceBounds lo hi none n).2.1=((HT.sIx n n hi:Nat):Int)/\(sliceBounds lo hi none n).2.2=1:=by
 refine⟨?_,?_,rfl⟩
 ·cases lo with
  |none=>simp[sliceBounds,HT.sIx]
  |some i =>
   simp only[sliceBounds,HT.sIx,Option.getD_none,show(1:Int) > 0 by decide,if_true];by_cases h:i<0
   ·simp only[h,if_true]<;>omega
   ·simp only[h,if_false]<;>omega
 ·cases hi with
  |none=>simp[sliceBounds,HT.sIx]
  |some i =>
   simp only[sliceBounds,HT.sIx,Option.getD_none,show(1:Int) > 0 by decide,if_true];by_cases h:i<0
   ·simp only[h,if_true]<;>omega
   ·simp only[h,if_false]<;>omega
def vG(its:List Value)(lo hi:Option Int):slicePick its.toArray lo hi none=((its.drop (HT.sIx its.length 0 lo)).take (HT.sIx its.length its.length hi-HT.sIx its.length 0 lo)).toArray:=by
 obtain⟨h1,h2,h3⟩:=uR lo hi its.toArray.size;unfold slicePick;rw[h1,h2,h3];simp only[sliceRange_one,pick_run,size_toArray]<;>rfl
def rSlL(K:qH):V->Option Int->Option Int->Hp->VK->Prop:=λx lo hi H Q=>∃a xs,x=.ref a/\SqL K H a xs/\∀p,H p=none->Q (.ref p) (upd H p (.l (zDP xs lo hi)))
def sl_list:SlR X (rSlL X.K):=by
 intro pins s O H x v vl vu lo hi sl Q I rx hs pl pu h;obtain⟨a,xs,rfl,hx,q⟩:=h;cases rx;obtain⟨its,r,ht,hz⟩:=I.list hx;have hlen:=r.length;refine⟨"list",_,slot_list_getitem.lookup,ht.isList.typeIs,?_⟩;refine wpAny_getItem_list_slice ht.isList hs pl pu .none (by simp) ?_ (by rw[size_toArray]<;>omega);rw[vG,<- hlen];refine⟨.ref s.heap.objs.size,_,I.laid (t':=s.toks) (o:=.l (zDP xs lo hi)) (λb ob q=>qA _ q) (le_refl _) ?_,rfl,q _ (I.hok.fresh (le_refl _))⟩;exact⟨le_trans (Zi xs lo hi) hz,_,0,(r.drop (HT.sIx xs.length 0 lo)).take (HT.sIx xs.length xs.length hi-HT.sIx xs.length 0 lo),get?_push_size _ rfl⟩
def JK:V->Bool
 | .non=>true| .bl _=>true| .int _=>true| .str _=>true|_=>false
def eqV:V->V->Bool
 | .non,.non=>true| .bl a,.bl b=>a==b| .bl a,.int b=>(if a then 1 else 0)==b| .int a,.bl b=>a==(if b then 1 else 0)| .int a,.int b=>a==b| .str a,.str b=>a==b|_,_=>false
def Wv{A:Around}{s:Shared}{y x:V}{u v:Value}(ry:zz y u)(rx:zz x v)(fy:JK y=true)(fx:JK x=true):SeqAt.EqAt A s u v (eqV y x):=by
 cases y with
 |non =>
  cases ry;cases x with
  |non=>cases rx;exact SeqAt.EqAt.same _|bl b=>cases rx;exact SeqAt.EqAt.none_bool b|int b=>obtain⟨t,rfl⟩:=rx;exact SeqAt.EqAt.none_int b t|str b=>obtain⟨t,rfl⟩:=rx;exact SeqAt.EqAt.none_str b t|_=>exact absurd (show false=true from fx) qF
 |bl a =>
  cases ry;cases x with
  |non=>cases rx;exact SeqAt.EqAt.bool_none a|bl b=>cases rx;exact SeqAt.EqAt.bool_bool a b|int b=>obtain⟨t,rfl⟩:=rx;exact SeqAt.EqAt.bool_int a b t|str b=>obtain⟨t,rfl⟩:=rx;exact SeqAt.EqAt.bool_str a b t|_=>exact absurd (show false=true from fx) qF
 |int a =>
  obtain⟨t',rfl⟩:=ry;cases x with
  |non=>cases rx;exact SeqAt.EqAt.int_none a t'|bl b=>cases rx;exact SeqAt.EqAt.int_bool a t' b|int b=>obtain⟨t,rfl⟩:=rx;exact SeqAt.EqAt.int_int a t' b t|str b=>obtain⟨t,rfl⟩:=rx;exact SeqAt.EqAt.int_str a t' b t|_=>exact absurd (show false=true from fx) qF
 |str a =>
  obtain⟨t',rfl⟩:=ry;cases x with
  |non=>cases rx;exact SeqAt.EqAt.str_none a t'|bl b=>cases rx;exact SeqAt.EqAt.str_bool a t' b|int b=>obtain⟨t,rfl⟩:=rx;exact SeqAt.EqAt.str_int a t' b t|str b=>obtain⟨t,rfl⟩:=rx;exact SeqAt.EqAt.str_str a t' b t|_=>exact absurd (show false=true from fx) qF
 |_=>exact absurd (show false=true from fy) qF
def eqU(x:V)(u:Value):Bool:=match u with
 | .none=>eqV .non x| .bool b=>eqV (.bl b) x| .int i _=>eqV (.int i) x| .str z _=>eqV (.str z) x|_=>false
def zE4{x y:V}{u:Value}(r:zz y u)(f:JK y=true):eqU x u=eqV y x:=by
 cases y with
 |non=>cases r;rfl|bl b=>cases r;rfl|int i=>obtain⟨t,rfl⟩:=r;rfl|str z=>obtain⟨t,rfl⟩:=r;rfl|_=>exact absurd (show false=true from f) qF
theorem Ge{x:V}:∀{xs:List V} {us:List Value},yG xs us->xs.all JK=true->us.any (eqU x)=xs.any λy=>eqV y x
 |_,_,.nil,_=>rfl
 |y::xs,u::us,.cons r t,f=>by
  rw[all_cons,Bool.and_eq_true]at f;rw[any_cons,any_cons,zE4 r f.1,Ge t f.2]
theorem vH{A:Around}{s:Shared}{x:V}{v:Value}(rx:zz x v)(fx:JK x=true):∀{xs:List V} {us:List Value},yG xs us->xs.all JK=true->∀u∈us,SeqAt.EqAt A s u v (eqU x u)
 |_,_,.nil,_=>λu hu=>by cases hu
 |y::xs,u::us,.cons r t,f=>λu' hu=>by
  rw[all_cons,Bool.and_eq_true]at f;rcases mem_cons.mp hu with rfl|hu
  ·rw[zE4 r f.1];exact Wv r rx f.1 fx
  ·exact vH rx fx t f.2 u' hu
def inV(x:V)(xs:List V):Bool:=xs.any λy=>eqV y x
def rIn(K:qH)(neg:Bool):R2:=λx y H Q=>∃p xs,y=.ref p/\(SqL K H p xs\/SqT K H p xs)/\JK x=true/\xs.all JK=true/\Q (.bl (if neg then !inV x xs else inV x xs)) H
def Y8:OpR X (compareOp .NotIn) (rIn X.K true):=by
 intro pins s O H x y v u Q I rx ry h;obtain⟨p,xs,rfl,hq,fx,fs,q⟩:=h;cases ry;rcases hq with hq|hq
 ·obtain⟨its,r,pl,hz⟩:=I.list hq
  refine SeqAt.notIn_listAt (eqU x) pl.isList (λw hw=>vH rx fx r fs w (by simpa using hw)) ⟨.bl _,H,I,rfl,?_⟩;rw[show its.toArray.any (eqU x)=its.any (eqU x)by simp,Ge r fs];exact q
 ·obtain⟨its,r,pl,hz⟩:=I.tuple hq
  refine SeqAt.notIn_tupleAt (eqU x) pl (λw hw=>vH rx fx r fs w (by simpa using hw)) ⟨.bl _,H,I,rfl,?_⟩;rw[show its.toArray.any (eqU x)=its.any (eqU x)by simp,Ge r fs];exact q
def uS:j9 X (.builtin "len") (λxs H Q=>∃p ys,xs=[.ref p]/\(SqL X.K H p ys\/SqT X.K H p ys)/\Q (.int ys.length) H):=by
 intro pins s O H xs us Q I r h;obtain⟨p,ys,rfl,hq,q⟩:=h;obtain⟨u,rfl,rx⟩:=vF r;cases rx;have hn:=uM;rcases hq with hq|hq
 ·obtain⟨its,r',pl,hz⟩:=I.list hq
  have hlen:=r'.length;exact Calls.call_len_list pl.isList (by simp only[size_toArray]<;>omega) ⟨.int ys.length,H,I.tok _,⟨s.toks+1,by rw[size_toArray,hlen]⟩,q⟩
 ·obtain⟨its,r',pl,hz⟩:=I.tuple hq
  have hlen:=r'.length;exact len_tuple pl (by simp only[size_toArray]<;>omega) ⟨.int ys.length,H,I.tok _,⟨s.toks+1,by rw[size_toArray,hlen]⟩,q⟩
def vI:j9 X (.type "tuple") (λxs H Q=>∃p ys,xs=[.ref p]/\((SqL X.K H p ys/\∀l,H l=none->Q (.ref l) (upd H l (.t ys)))\/(SqT X.K H p ys/\Q (.ref p) H))):=by
 intro pins s O H xs us Q I r h;obtain⟨p,ys,rfl,h⟩:=h;obtain⟨u,rfl,rx⟩:=vF r;cases rx;rcases h with⟨hq,q⟩|⟨hq,q⟩
 ·obtain⟨its,r',pl,hz⟩:=I.list hq
  have hlen:=r'.length;refine call_tuple_list pl.isList (λh' kp=>?_) (by simp only[size_toArray]<;>omega);have I1:Inv X pins O H {s with heap:=h'}:=I.kept (t':=s.toks) kp
  have I2:Inv X pins O (upd H h'.objs.size (.t ys)) {s with heap:=h'.push {cls:=.type "tuple",data:=.seq its.toArray}} :=
   I1.laid (t':=s.toks) (λb o e=>qA _ e) (le_refl _) (show yu X.prog X.w _ _ _ (.t ys)from⟨hz,its,r',IsTup.new _ _⟩)
  exact⟨.ref h'.objs.size,_,I2,rfl,q _ (I1.hok.fresh (le_refl _))⟩
 ·obtain⟨its,r',pl,hz⟩:=I.tuple hq
  exact call_tuple_same pl ⟨.ref p,H,I,rfl,q⟩
def tyV(K:qH)(T:String)(x:V)(H:Hp):Prop:=match x with
 | .str _=>T="str"| .int _=>T="int"
 | .ref p=>(T="list"/\∃xs,SqL K H p xs)\/(T="tuple"/\∃o,K.lookup p=some o/\o.cls=.type "tuple"/\o.dict=none) \/
   (T="dict"/\((∃kvs,H p=some (.dK kvs))\/∃kvs,H p=some (.dT kvs)))\/(T="set"/\∃S n,H p=some (.set S n))
 |_=>False
def tyV_is{pins:List (Addr×Obj)}{O:St}{H:Hp}{s:Shared}{T:String}{x:V}{v:Value}(I:Inv X pins O H s)(r:zz x v)(ty:tyV X.K T x H) :
  s.TypeIs v T/\∀a,v=.ref a->∃ob,s.heap.get? a=some ob/\ob.dict=none:=by
 cases x with
 |str z =>
  obtain⟨t,rfl⟩:=r;cases (show T="str" from ty);exact⟨typeIs_str s z t,λ_ e=>nomatch e⟩
 |int i =>
  obtain⟨t,rfl⟩:=r;cases (show T="int" from ty);exact⟨typeIs_int s i t,λ_ e=>nomatch e⟩
 |ref p =>
  cases r;rcases ty with⟨rfl,xs,hq⟩|⟨rfl,o,hk,hc,hd⟩|⟨rfl,hk⟩|⟨rfl,S,n,hk⟩
  ·obtain⟨its,_,pl,_⟩:=I.list hq
   refine⟨pl.isList.typeIs,λa e=>?_⟩;cases e;obtain⟨o,n,e,c,hd,_⟩:=pl;exact⟨o,e,hd⟩
  ·refine⟨⟨o,I.kIn p o hk,hc⟩,λa e=>?_⟩
   cases e;exact⟨o,I.kIn _ o hk,hd⟩
  ·have z:∃o,s.heap.get? p=some o/\o.ExactDict:=by
    rcases hk with⟨kvs,hk⟩|⟨kvs,hk⟩
    ·obtain⟨_,_,_,_,o,_,_,e,ex,_⟩:=I.hok p _ hk
     exact⟨o,e,ex⟩
    ·obtain⟨_,_,_,_,o,_,_,e,ex,_⟩:=I.hok p _ hk
     exact⟨o,e,ex⟩
   obtain⟨o,e,ex⟩:=z;refine⟨⟨o,e,ex.1⟩,λa e2=>?_⟩;cases e2;exact⟨o,e,ex.2.1⟩
  ·obtain⟨o,_,_,_,e,ex,_⟩:=I.hok p _ hk
   refine⟨⟨o,e,ex.1⟩,λa e2=>?_⟩;cases e2;exact⟨o,e,ex.2.1⟩
 |_=>exact False.elim ty
def tBM(K:qH)(T:String)(r:V->List V->Hp->VK->Prop)(to:TE)(t:TA):TE:=λO H Q=>to O H λx H1=>tyV K T x H1/\t O H1 λxs H2=>r x xs H2 Q
variable{o e:Expr}{es:List Expr}{to:TE}{t:TA}{name:Str}{apos cpos:Pos}{T id:String}{r:V->List V->Hp->VK->Prop}
def pe_bm(pa:PlainAttrs T)(slot:Slot T name id)(hty:typeOf (.builtin id)=pure (.type "method_descriptor"))(hm:MtR X id r)(ho:PE X o to)(ha:PA X (e::es) t)
  (hbase:attributeBase o name X.env (eval o X.env)=eval o X.env:=by rfl)
  (hfew:((backTo cpos (starEach (e::es) X.env)).all (λx=>!x.1)&&(backToKw cpos (keywordEach [] X.env)).all (λx=>x.1.isSome)
   && decide ((e::es).length+([]:List Keyword).length+(if([]:List Keyword).isEmpty then 0 else 1)<30))=true:=by rfl)
  (hline:(apos.endLine==cpos.line)=true:=by rfl) (hs:starEach (e::es) X.env=(false,eval e X.env)::starEach es X.env:=by rfl) (hplain:(backTo cpos (starEach es X.env)).any (·.1)=false:=by rfl) :
  PE X (.Call (.Attribute o name apos) (e::es) [] cpos) (tBM X.K T r to t):=by
 intro pins s O H Q I h;refine wpAny_Call_method_late hbase hfew hline rfl (thn (ho pins s O H _ I h) λv s1 ⟨x,H1,I1,r1,ty,q1⟩=>?_);obtain⟨h1,h2⟩:=tyV_is I1 r1 ty;refine⟨T,id,pa,slot,hty,h1,h2,?_⟩;have hA:=ha cpos pins s1 O H1 _ I1 q1;rw[hs]at hA ⊢;refine Calls.callWith_builtin (by show(false||(backTo cpos (starEach es X.env)).any (·.1))=false;rw[hplain]<;>rfl) (Calls.evalArgs_plain ?_);exact thn hA λus s2 ⟨vs,H2,I2,r2,q2⟩=>hm pins s2 O H2 x vs v us Q I2 r1 r2 q2
end
def MtM(X:Cx)(id:String)(r:V->List V->Hp->VK->Prop):Prop :=
 ∀(pins:List (Addr×Obj)) (s:Shared) (O:St) (H:Hp) (x:V) (xs:List V) (v:Value) (us:List Value) (Q:VK),Inv X pins O H s->zz x v->yG xs us->r x xs H Q ->
  wpAny (model X.prog X.w) X.A (call (.builtin id) (v::us)) (EP X pins O Q) X.xe s
def yG.one:∀{x:V} {us:List Value},yG [x] us->∃u,us=[u]/\zz x u
 |_,_,.cons r .nil=>⟨_,rfl,r⟩
def yG.two:∀{x y:V} {us:List Value},yG [x,y] us->∃u v,us=[u,v]/\zz x u/\zz y v
 |_,_,_,.cons r (.cons q .nil)=>⟨_,_,rfl,r,q⟩
theorem yG.rep{xs:List V}{us:List Value}(h:yG xs us):∀k:Nat,yG (replicate k xs).flatten (replicate k us).flatten
 |0=>.nil
 |k+1=>by
  rw[replicate_succ,replicate_succ,flatten_cons,flatten_cons];exact yG.append h (yG.rep h k)
theorem Zk(its:List Value):∀(k:Nat) (acc:List Value),
  foldl (λx1 x2=>x1++x2) acc.toArray (replicate k its.toArray)=(acc++(replicate k its).flatten).toArray
 |0,acc=>by simp
 |k+1,acc=>by
  have e:acc.toArray++its.toArray=(acc++its).toArray:=by simp
  have e2:(acc++its)++(replicate k its).flatten=acc++(replicate (k+1) its).flatten:=by
   rw[replicate_succ,flatten_cons,append_assoc]
  rw[<- e2,<- Zk its k (acc++its),<- e,replicate_succ,foldl_cons]
section
variable{X:Cx}{pins:List (Addr×Obj)}{O:St}{H:Hp}{s:Shared}{l b:Addr}{xs ys zs:List V}
def Inv.lset{its its':List Value}{n:Nat}{f:Array Value->Array Value}{t':Nat}(I:Inv X pins O H s)(hH:H l=some (.l xs))
  (e:s.heap.get? l=some {cls:=.type "list",data:=.seq its.toArray n}) (hf:f its.toArray=its'.toArray) (hv:yG ys its') (hz:ys.length<=sizeLine) :
  Inv X pins O (upd H l (.l ys)) {s with heap:=s.heap.update l (Obj.mapSeq f),toks:=t'}:=by
 have q:=PySem.IsL.update e f;rw[hf]at q;refine I.write (x:=l) (e:=l) (by rw[hH];exact trivial) (.inl rfl) (λb' u hb hu=>(Heap.get?_update_other s.heap (Obj.mapSeq f) (Ne.symm hb)).trans hu) ⟨_,q⟩ ?_;exact⟨hz,its',_,hv,q⟩
def Inv.lnew{its:List Value}{t':Nat}(I:Inv X pins O H s)(hv:yG ys its)(hz:ys.length<=sizeLine) :
  Inv X pins O (upd H s.heap.objs.size (.l ys)) {s with heap:=s.heap.push {cls:=.type "list",data:=.seq its.toArray},toks:=t'} :=
 I.laid (λ_ _ q=>qA _ q) (le_refl _) ⟨hz,its,0,hv,get?_push_size _ rfl⟩
theorem Inv.fresh(I:Inv X pins O H s):H s.heap.objs.size=none:=I.hok.fresh (le_refl _)
def Inv.lstM(I:Inv X pins O H s)(hH:H l=some (.l xs)):xs.length<=sizeLine/\∃(its:List Value) (n:Nat),yG xs its/\xs.length=its.length/\s.heap.get? l=some {cls:=.type "list",data:=.seq its.toArray n}:=by
 obtain⟨z,its,n,r,e⟩:=I.hok l _ hH;exact⟨z,its,n,r,r.length,e⟩
def zDQ{n:Nat}(h:n<=sizeLine):Builtin.List.listTooLong n=false:=by
 unfold Builtin.List.listTooLong;exact decide_eq_false (by omega)
end
section
variable{X:Cx}
def rAppend:V->List V->Hp->VK->Prop:=λx vs H Q=>∃l xs y,x=.ref l/\vs=[y]/\H l=some (.l xs)/\xs.length<sizeLine/\Q .non (upd H l (.l (xs++[y])))
def zBG:MtM X "list.append" rAppend:=by
 intro pins s O H x vs v us Q I rx rv h;obtain⟨l,xs,y,rfl,rfl,hH,hz,q⟩:=h;cases rx;obtain⟨u,rfl,ru⟩:=rv.one;obtain⟨z,its,n,r,hl,e⟩:=I.lstM hH;refine call_meets F.slot_list_append ⟨_,e,rfl⟩ F.entry_list_append (F.args_list_append_2 _ _) (PySem.list_append l its.toArray n u (by rw[size_toArray];omega)) ⟨e,?_⟩;refine⟨.non,_,I.lset (its':=its++[u]) hH e (by simp) (r.append (.cons ru .nil)) ?_,rfl,q⟩;rw[length_append,List.length_singleton];omega
def Gf{α:Type}(xs:List α)(k:Nat):(replicate k xs).flatten.length=k*xs.length:=by
 induction k with
 |zero=>simp|succ k ih=>rw[replicate_succ,flatten_cons,length_append,ih,Nat.succ_mul,Nat.add_comm]
end
end L2
namespace Att
open PySem PySem.W PySem.Calls PyProof.Rows
def Zl{P:Params}{h:Heap}:∀(ns:List Int) (vs:List Value),WellAll P h vs (ns.map WData.int)->IntsAre vs ns:=by
 intro ns
 induction ns with
 |nil =>
  intro vs w;rw[map_nil]at w;cases w;exact .nil
 |cons n ns ih =>
  intro vs w;rw[map_cons]at w;cases w with
  |cons a b =>
   cases a;exact .cons _ _ (ih _ b)
def zBH{l:OpenLaw}{n:Nat}(hn:l.most=some n){P:Params}{h:Heap}{args:List WData}{vals:List Value}
  (hpre:l.row.toRowW.claim.pre args=true) (hwl:WellAll P h vals args) :
  ∃a vs ns,vals=[Value.ref a]/\args=[WData.list (ns.map WData.int)]/\h.get? a=some {cls:=.type "list",data:=.seq vs.toArray}/\IntsAre vs ns/\ns.length<=n:=by
 have hsh:WShape.hasAll [] args [.list .int]=true:=(pre_splitW hpre).1;have hc:l.pre.holds [] {args:=args}=true:=(pre_splitW hpre).2;obtain⟨d,r,rfl,h1,h2⟩:=hasAllW_cons hsh;obtain rfl:=hasAllW_nil h2;obtain⟨xs,rfl,h3⟩:=hasW_list h1;obtain⟨ns,rfl⟩:=items_int h3;have hlen:ns.length<=n:=by
  unfold OpenLaw.pre at hc;have h4:(WTm.not (.lt (.lit (.int (n:Int))) (.len (.arg 0)))).holds [] {args:=[.list (ns.map .int)]}=true:=by
   have h4:=(holds_andW hc).1;rw[hn]at h4;exact h4
  have h5:=condW_of h4 (w_not (w_lt w_lit (w_len_list (w_arg rfl))));rw[length_map]at h5;refine Nat.le_of_not_lt λq=>?_
  have q':(n:Int)<((ns.length:Nat):Int):=by omega
  first
   | (rw[decide_eq_true q']at h5;exact absurd h5 (by decide))
   | (simp at h5;omega)
 cases hwl with
 |cons w1 w2 =>
  cases w2;cases w1 with
  |list ho hall=>exact⟨_,_,ns,rfl,rfl,ho,Zl ns _ hall,hlen⟩
def zBI(l:OpenLaw)(args:List WData):l.row.toRowW.claim.post args (.bool true) args=true :=
 postW_of (r:=l.row.toRowW) (X:=(true==true))
  (show WShape.has [] (.bool true) .bool=true by first|rfl|decide|simp[WShape.has,WShape.arms,WShape.armsAll])
  (show(WTm.eq .res (.lit (.bool true))).value [] {args:=args,res:=some (.bool true),after:=args}=some (.bool (true==true))from w_eq_bool (w_res rfl) w_lit) rfl
def attach_call{l:OpenLaw}{n:Nat}{q:Program}{loose:List Str}{XP:(Str->Option Value)->Heap->Prop}{YP:World->Heap->Prop}{d:DefRec}
  (hn:l.most=some n) (hdf:d.params.defaults=[])
  (call:∀(w:World) (s₀ s₁:Shared) (mg mb:Str->Option Value) (fa:Addr) (o:Obj) (pm cd doc:Value) (a:Addr) (vs:List Value) (ns:List Int),
   Ground q loose [] XP w s₀ mg mb s₁.heap->YP w s₁.heap ->
   s₁.heap.get? fa=some o->o.data=.func (docDef d.name d.params d.body d.scope pm cd doc)->s₁.heap.CodeRec cd d.name->mg d.name=some (.ref fa) ->
   s₁.heap.get? a=some {cls:=.type "list",data:=.seq vs.toArray}->IntsAre vs ns->ns.length<=n->s₁.gens=#[] ->
   codeAny (model l.prog w) callerA (.call (.ref fa) ⟨[.ref a],[]⟩) (λr s'=>r=.ok (.ret (.bool true))/\OldK s₁.heap s'.heap/\s'.os=s₁.os/\AllBare s'.gens) s₁) :
  WalkO q loose XP YP l.row.toRowW d [] (λf vs=>PySem.call f vs):=by
 intro w s₀ s₁ mg mb G Y fa o pm cd doc dV kV ho hd hcd hD hmg hg args vals as hpre hlay hrd hwl hlo;obtain rfl:dV=.none:=Dflts.none hD hdf;obtain rfl:kV=.none:=Dflts.noKw hD;obtain⟨a,vs,ns,rfl,rfl,hobj,hints,hlen⟩:=zBH hn hpre hwl;refine enter_call (codeAny_mono (call w s₀ s₁ mg mb fa o pm cd doc a vs ns G Y ho (fd_plain hd) hcd hmg hobj hints hlen hg) λr s' hq=>?_);obtain⟨rfl,h2,h3,h4⟩:=hq;exact⟨.inl ⟨.bool true,.bool true,[],rfl,λ_=>rfl,.bool true,zBI l _,λ_=>⟨List.Pairwise.nil,λ_ hm=>(nomatch hm)⟩⟩,h2,h3,h4⟩
end Att
namespace L2
open PySem PySem.Spec PyProof.Rows
theorem uT:∀{vs:List Value} {ns:List Int},IntsAre vs ns->yG (ns.map V.int) vs
 |_,_,.nil=>.nil|_,_,.cons n t h=>.cons ⟨t,rfl⟩ (uT h)
def Only(H:Hp):Prop:=∀b,H b=none\/∃o xs,H b=some (.frz o (.l xs))
def zDR{P:Program}{w:World}{K:qH}{mg mb:Str->Option Value}{CX:CXT}{k:Nat}{fa a:Addr}{fd:FuncData}{x:Str}{sp:Sp}{s₁:Shared}{vs:List Value}{ns:List Int}
  (KX:K.In s₁.heap) (hns:s₁.heap.Ns mainGlobals mg) (hb:s₁.heap.Ns builtinsNs mb) (hbb:∀x:Str,x≠"__name__"->mb x=bootBuiltins x) (hlim:s₁.heap.NoLimit) (hg:s₁.gens=#[])
  (ha:s₁.heap.get? a=some {cls:=.type "list",data:=.seq vs.toArray}) (hi:IntsAre vs ns) (hl:ns.length<=sizeLine) (hr:Room k callerA)
  (F:∀base:Heap,K.In base->base.Ns mainGlobals mg->FnOk P w K mg base CX k fa fd [x] sp) (hbind:∀(s:Shared) (u:Value),BindsTo s fd ⟨[u],[]⟩ [(x,u)])
  (hsp:∀H:Hp,Only H->SqL K H a (ns.map V.int)->sp [.ref a] H (λv _=>v=.bl true) λ_ _ _=>False)
  (hCX:∀H e s',CX [] H s₁ (λ_ _ _=>False) e s'->False) :
  codeAny (model P w) callerA (.call (.ref fa) ⟨[.ref a],[]⟩) (λr s'=>r=.ok (.ret (.bool true))/\OldK s₁.heap s'.heap/\s'.os=s₁.os/\AllBare s'.gens) s₁:=by
 have rv:=uT hi;have lenV:=hi.length
 -- from an abstract heap in which nothing but the script may be tracked
 have core:∀H:Hp,Only H->SqL K H a (ns.map V.int)->HOk P w H s₁.heap->(∀b,H b≠none->b=a)->(H a≠none->K.lookup a=none) ->
   codeAny (model P w) callerA (.call (.ref fa) ⟨[.ref a],[]⟩) (λr s'=>r=.ok (.ret (.bool true))/\OldK s₁.heap s'.heap/\s'.os=s₁.os/\AllBare s'.gens) s₁:=by
  intro H hO hS hok hA hK;have base_of:∀{b:Addr} {o:Obj},s₁.heap.get? b=some o->H b=none->(zDC s₁.heap H).get? b=some o:=λe n=>zDD e n
  have noA:∀{b:Addr} {o:Obj} {es:Array DictEntry} {ep:Nat},s₁.heap.get? b=some o->o.data=.dict es ep->H b=none:=λ{b o es ep} e d=>by
   cases q:H b with
   |none=>rfl
   |some u =>
    have e':b=a:=hA b (by rw[q];simp);subst e';rw[ha]at e;cases e;have d':Data.seq vs.toArray _=Data.dict es ep:=d;cases d'
  have nsK:∀{b:Addr} {m:Str->Option Value},s₁.heap.Ns b m->(zDC s₁.heap H).Ns b m:=λ{b m} ⟨o,es,ep,e,d,r⟩=>⟨o,es,ep,base_of e (noA e d),d,r⟩
  have hKb:K.In (zDC s₁.heap H):=λb o e=>base_of (KX b o e) (by
   cases q:H b with
   |none=>rfl
   |some u =>
    have e':b=a:=hA b (by rw[q];simp);subst e';rw[hK (by rw[q];simp)]at e;cases e)
  have hM:Mod K mg (zDC s₁.heap H):=⟨hKb,nsK hns,⟨mb,nsK hb,hbb⟩,let ⟨mc,h1,h2⟩:=hlim;⟨mc,nsK h1,h2⟩⟩;have e0:Env0 P w K mg (zDC s₁.heap H) callerA [] s₁ H:=⟨rfl,hM,λb o e=>of_hidT e,Nat.le_of_eq (zAr _ _),trivial,λb hb=>absurd (show b∈([]:List Addr)from hb) (by simp),hok,.of_eq hg⟩;refine codeAny_mono ((F _ hKb (nsK hns)).run callerA [] s₁ H ⟨[.ref a],[]⟩ [.ref a] [.ref a] _ _ hr e0 (hbind s₁ (.ref a)) (.cons rfl .nil) (hsp H hO hS)) λr s' h=>?_
  cases r with
  |error e=>exact(hCX H e s' h).elim
  |ok fl =>
   cases fl with
   |next=>exact False.elim h|brk=>exact False.elim h|cont=>exact False.elim h
   |ret u =>
    obtain⟨v,H',os,bare,un,hok',r',q⟩:=h;have q':v=.bl true:=q;subst q';obtain rfl:u=Value.bool true:=r';refine⟨rfl,OldK.of_keep λb o e=>?_,os,bare⟩;cases q:H b with
    |none=>exact un.keep b o e q (by intro z;exact absurd (show b∈([]:List Addr)from z) (by simp)) (by simp)
    |some u =>
     rcases hO b with z|⟨ob,xs,z⟩
     ·rw[q]at z;cases z
     ·have z2:=un.frzs b ob _ z
      obtain⟨e1,_⟩:=hok b _ z;obtain⟨e2,_⟩:=hok' b _ z2;rw[e]at e1;cases e1;exact e2
 cases hk:K.lookup a with
 |some o =>
  -- the script is one of the module's own objects
  have e:=KX a o hk;rw[ha]at e;cases e;refine core (λ_=>none) (λ_=>.inl rfl) (.inr ⟨_,vs.toArray,_,hk,rfl,rfl,rfl,by rw[size_toArray,lenV];exact hl,by simpa using rv⟩) (λb u z=>by have z':(none:Option HO)=some u:=z;cases z') (λb z=>absurd rfl z) λz=>absurd rfl z
 |none =>
  refine core (λb=>if b=a then some (.frz {cls:=.type "list",data:=.seq vs.toArray} (.l (ns.map V.int)))else none) (λb=>?_) (.inl (.inr ⟨{cls:=.type "list",data:=.seq vs.toArray},if_pos rfl⟩)) (λb u z=>?_) (λb z=>?_) λ_=>hk
  ·by_cases hb:b=a
   ·exact .inr ⟨_,_,if_pos hb⟩
   ·exact .inl (if_neg hb)
  ·by_cases hb:b=a
   ·have z':=(if_pos hb).symm.trans z
    cases z';subst hb;exact⟨ha,by rw[length_map];exact hl,vs,_,rv,ha⟩
   ·have z':=(if_neg hb).symm.trans z
    cases z'
  ·by_cases hb:b=a
   ·exact hb
   ·exact absurd (if_neg hb) z
abbrev E0:XK:=λ_ _ _=>False
structure Fun(K:qH)(x qual:Str)(st:Stmt)(f:Addr)(fd:FuncData):Prop where
 ex:∃(oc:Value) (od:Option Addr) (kV doc pm:Value) (an:Option Addr) (cdv ct:Value) (osl:Array (Option Value)),
  fd=fnOf x qual (Jj st) (jH st) (zl st) .none kV doc pm an cdv ct/\K.lookup f=some ⟨oc,od,.func fd,osl⟩/\codeIn K cdv qual=true
 kp:keepIn K (.ref f)=true
section
variable{P:Program}{w:World}{K:qH}{mg:Str->Option Value}{base:Heap}
def Fun.binds{x qual:Str}{st:Stmt}{f:Addr}{fd:FuncData}{ps:List Str}(F:Fun K x qual st f fd)
  (h:∀(kV doc pm:Value) (an:Option Addr) (cdv ct:Value) (us:List Value),us.length=ps.length->bindArgs (fnOf x qual (Jj st) (jH st) (zl st) .none kV doc pm an cdv ct) ⟨us,[]⟩=pure (ps.zip us)):ZL K fd ps []:=by
 obtain⟨oc,od,kV,doc,pm,an,cdv,ct,osl,rfl,lk,hcd⟩:=F.ex;exact .all (h kV doc pm an cdv ct)
def zE5{x qual:Str}{st:Stmt}{f:Addr}{oc:Value}{od an:Option Addr}{osl:Array (Option Value)}{kV doc pm cdv ct:Value}(l:K.lookup f=some ⟨oc,od,.func (fnOf x qual (Jj st) (jH st) (zl st) .none kV doc pm an cdv ct),osl⟩)
  (c:codeIn K cdv qual=true) (k:keepIn K (.ref f)=true):Fun K x qual st f (fnOf x qual (Jj st) (jH st) (zl st) .none kV doc pm an cdv ct):=⟨⟨oc,od,kV,doc,pm,an,cdv,ct,osl,rfl,l,c⟩,k⟩
end
def zE6{A B:Prop}(h:B):if false=true then A else B:=by
 rw[if_neg qF];exact h
def zE7{A B:Prop}(h:A):if true=true then A else B:=by
 rw[if_pos rfl];exact h
def Yj(H H':Hp):Prop:=∀b o,H b=some o->H' b=some o
def Yj.refl(H:Hp):Yj H H:=λ_ _ h=>h
def Yj.trans{H H1 H2:Hp}(a:Yj H H1)(b:Yj H1 H2):Yj H H2:=λc o h=>b c o (a c o h)
def Yj.seq{K:qH}{H H':Hp}{a:Addr}{xs:List V}(e:Yj H H')(h:SqL K H a xs):SqL K H' a xs:=by
 rcases h with(h|⟨o,h⟩)|h
 ·exact .inl (.inl (e _ _ h))
 ·exact .inl (.inr ⟨o,e _ _ h⟩)
 ·exact .inr h
end L2
namespace DV
open PySem L2
abbrev KN:=Option Int
def oV:KN->V
 |none=>.non|some i=>.int i
def knIs:KN->Value->Bool
 |none,.none=>true|some i,v=>Value.isInt i v|_,_=>false
def jM{k:KN}{v:Value}(h:knIs k v=true):(k=none/\v=.none)\/∃i t,k=some i/\v=.int i t:=by
 cases k with
 |none=>cases v<;>first|exact .inl ⟨rfl,rfl⟩|(cases h)
 |some i=>obtain⟨t,e⟩:=Value.isInt_shape (k:=i) (v:=v) h;exact .inr ⟨i,t,rfl,e⟩
def kn_of{k:KN}{u:Value}(r:zz (oV k) u):knIs k u=true:=by
 cases k with
 |none=>cases r;rfl|some i=>obtain⟨t,rfl⟩:=r;simp[knIs,Value.isInt]
def hN:KN->Int
 |none=>0xFCA86420|some i=>hashInt i
section
variable{prog:Program}{w:World}{A:Around}{E:Value->Shared->Prop}{s:Shared}
def Yk{Q:Int->Shared->Prop}(h:Q 0xFCA86420 {s with toks:=s.toks+1}):wpAny (model prog w) A (pyHash .none) Q E s:=by
 have hT:s.TypeIs .none "NoneType":=rfl;unfold pyHash
 first|unfold pyHashByItsType|skip
 have hv:[Value.none].any Value.onHeap=false:=rfl;refine qB ?_;rw[cRoomFor,if_neg (by rw[hv];exact qF)];refine qC ?_;refine qB (wpAny_specialOf hT F.slot_NoneType_hash.lookup ?_);show wpAny _ _ (if(some (Value.builtin "NoneType.__hash__")==some Value.none)=true then _ else _) Q E s;rw[if_neg (by rw[beq_builtin_none];exact qF)];refine qB (wpAny_specialOf hT F.slot_NoneType_hash.lookup ?_);show wpAny _ _ (callSpecialIfBoundUnlessNone? .none "__hash__" _ >>= _) Q E s;refine qB (wpAny_callSpecialIfBoundUnlessNone?_slot hT F.slot_NoneType_hash
  (wpAny_call_entry F.slot_NoneType_hash hT F.entry_NoneType_hash
   (show wpAny _ _ (do ret (<- mkInt 0xFCA86420)) _ _ s from wpAny_ret_mkInt ?_) (F.args_NoneType_hash_1 _)))
 exact qC h
end
def Gg(prog:Program)(w:World):KeyKind prog w KN where
 is:=knIs
 hash:=hN
 inj:=λv a b ha hb=>by
  rcases jM ha with⟨rfl,rfl⟩|⟨i,t,rfl,rfl⟩
  ·rcases jM hb with⟨rfl,e⟩|⟨j,u,rfl,e⟩
   ·rfl
   ·cases e
  ·rcases jM hb with⟨rfl,e⟩|⟨j,u,rfl,e⟩
   ·cases e
   ·injection e with e1 _;rw[e1]
 byValue:=λk v h=>by
  rcases jM h with⟨rfl,rfl⟩|⟨i,t,rfl,rfl⟩<;>rfl
 pyHash:=λhv h=>by
  rcases jM hv with⟨rfl,rfl⟩|⟨i,t,rfl,rfl⟩
  ·exact Yk h
  ·exact wpAny_pyHash_int h
 eqBool:=λ{A E s a b u v Q} hu hv h=>by
  have e:(if eqV (oV a) (oV b)=true then True else True):=by split<;>trivial
  rcases jM hu with⟨rfl,rfl⟩|⟨i,t,rfl,rfl⟩
  ·rcases jM hv with⟨rfl,rfl⟩|⟨j,u,rfl,rfl⟩
   ·exact Wv (y:=.non) (x:=.non) rfl rfl rfl rfl _ _ _ _ h
   ·exact Wv (y:=.non) (x:=.int j) rfl ⟨u,rfl⟩ rfl rfl _ _ _ _ h
  ·rcases jM hv with⟨rfl,rfl⟩|⟨j,u,rfl,rfl⟩
   ·exact Wv (y:=.int i) (x:=.non) ⟨t,rfl⟩ rfl rfl rfl _ _ _ _ h
   ·refine wpAny_eqBool_int ?_
    have:(i==j)=decide (some i=some j):=by
     by_cases q:i=j
     ·subst q;simp
     ·simp[q]
    rw[this];exact h
 «strs»:=λk x t v h=>by
  rcases jM h with⟨_,e⟩|⟨_,_,_,e⟩<;>cases e
def hT(ks:List KN):Int:=reduceHash (Builtin.Tuple.tupleHashOf (ks.map hN))
abbrev DE:=List KN×Addr×V
abbrev DX:=List KN×Addr×Value
def entN(x:DX):DictEntry:=⟨hT x.1,.ref x.2.1,x.2.2⟩
abbrev jy:List DE->List DX->Prop:=Paired λe x=>x.1=e.1/\x.2.1=e.2.1/\zz e.2.2 x.2.2
def zE8(a:Addr)(es:List DE)(h:Heap):Prop:=(a==sysModules)=false/\es.length<=sizeLine/\(es.map (·.1)).Nodup/\∃(o:Obj) (esA:Array DictEntry) (ep:Nat) (xs:List DX),h.get? a=some o/\o.ExactDict/\o.data=.dict esA ep/\jy es xs/\esA.toList=xs.map entN
def Yl(a:Addr)(es:List DE):HO:=.dN (zE8 a es)
def OwnK(o:HO):Prop:=(∃xs,o=.l xs)\/∃φ,o=.dN φ
def zBJ{a:Addr}{es:List DE}{h1 h2:Heap}(x:zE8 a es h1)(k:∀o,h1.get? a=some o->h2.get? a=some o):zE8 a es h2:=by
 obtain⟨x1,x2,x3,o,esA,ep,xs,e,r⟩:=x;exact⟨x1,x2,x3,o,esA,ep,xs,k o e,r⟩
def Qg{P:Program}{w:World}{H:Hp}{h:Heap}{a:Addr}{es:List DE}(x:zE8 a es h):yu P w H h a (Yl a es):=by
 obtain⟨_,_,_,o,_,_,_,e,_⟩:=id x;exact⟨x,⟨o,e⟩,λh1 h2 y k=>zBJ y k⟩
section
variable{P:Program}{w:World}{h:Heap}{a:Addr}{es:List DE}{xs:List DX}
theorem jy.keys:∀{es:List DE} {xs:List DX},jy es xs->xs.map (·.1)=es.map (·.1)
 |_,_,.nil=>rfl|_,_,.cons r t=>by simp only[map_cons];rw[r.1,jy.keys t]
theorem jy.mem:∀{es:List DE} {xs:List DX} {x:DX},jy es xs->x∈xs->∃e∈es,x.1=e.1/\x.2.1=e.2.1/\zz e.2.2 x.2.2
 |_,_,_,.nil,h=>by cases h
 |_,_,_,.cons r t,h=>by
  rcases mem_cons.mp h with rfl|h
  ·exact⟨_,qE,r⟩
  ·obtain⟨e,he,q⟩:=jy.mem t h
   exact⟨e,qD _ he,q⟩
def atE(es:List DE)(k:List KN):Option V:=(es.find? λe=>decide (e.1=k)).map (·.2.2)
theorem jy.at:∀{es:List DE} {xs:List DX} {k:List KN} {v:V},jy es xs->atE es k=some v->∃p,atKey xs k=some p/\zz v p.2
 |_,_,_,_,.nil,h=>by cases h
 |e::es,x::xs,k,v,.cons r t,h=>by
  unfold atE atKey at *;rw[find?_cons]at h ⊢;by_cases q:e.1=k
  ·rw[decide_eq_true q]at h
   rw[decide_eq_true (r.1.trans q)];simp only[Option.map_some,Option.some.injEq]at h;subst h;exact⟨x.2,rfl,r.2.2⟩
  ·rw[decide_eq_false q]at h
   rw[decide_eq_false (λz=>q (r.1.symm.trans z))];exact jy.at t h
theorem jy.none:∀{es:List DE} {xs:List DX} {k:List KN},jy es xs->atE es k=none->atKey xs k=none
 |_,_,_,.nil,_=>rfl
 |e::es,x::xs,k,.cons r t,h=>by
  unfold atE atKey at *;rw[find?_cons]at h ⊢;by_cases q:e.1=k
  ·rw[decide_eq_true q]at h;cases h
  ·rw[decide_eq_false q]at h
   rw[decide_eq_false (λz=>q (r.1.symm.trans z))];exact jy.none t h
def Gh(es:List DE)(k:List KN)(ka:Addr)(v:V):List DE:=if(atE es k).isSome then es.map (λe=>if e.1=k then(e.1,e.2.1,v)else e)else es++[(k,ka,v)]
theorem jy.mapP:∀{es:List DE} {xs:List DX} {k:List KN} {v:V} {u:Value},jy es xs->zz v u->jy (es.map λe=>if e.1=k then(e.1,e.2.1,v)else e) (xs.map (putAt k u))
 |_,_,_,_,_,.nil,_=>.nil
 |e::es,x::xs,k,v,u,.cons r t,rv=>by
  simp only[map_cons];refine .cons ?_ (jy.mapP t rv);unfold putAt;by_cases q:e.1=k
  ·rw[if_pos q,if_pos (r.1.trans q)];exact⟨r.1,r.2.1,rv⟩
  ·rw[if_neg q,if_neg (λz=>q (r.1.symm.trans z))];exact r
theorem jy.app:∀{es fs:List DE} {xs ys:List DX},jy es xs->jy fs ys->jy (es++fs) (xs++ys)
 |_,_,_,_,.nil,g=>g|_,_,_,_,.cons r t,g=>.cons r (jy.app t g)
def jy.put{k:List KN}{ka:Addr}{v:V}{u:Value}(h:jy es xs)(rv:zz v u):jy (Gh es k ka v) (storedH xs k ka u):=by
 unfold Gh storedH;cases q:atE es k with
 |none=>rw[jy.none h q];exact h.app (.cons ⟨rfl,rfl,rv⟩ .nil)
 |some y =>
  obtain⟨p,e,_⟩:=jy.at h q;rw[e];exact h.mapP rv
def Zm{k:List KN}{ka:Addr}{v:V}(hn:(es.map (·.1)).Nodup):((Gh es k ka v).map (·.1)).Nodup/\(Gh es k ka v).length<=es.length+1:=by
 unfold Gh;cases q:atE es k with
 |none =>
  simp only[Option.isSome_none,Bool.false_eq_true,if_false];refine⟨?_,by simp⟩;rw[map_append];refine nodup_append.mpr ⟨hn,by simp,λa ha b hb=>?_⟩;simp only[map_cons,map_nil,mem_singleton]at hb;subst hb;intro z;subst z;obtain⟨e,he,rfl⟩:=mem_map.mp ha;unfold atE at q;simp only[Option.map_eq_none_iff,List.find?_eq_none]at q;exact q e he (decide_eq_true rfl)
 |some y =>
  simp only[Option.isSome_some,if_true];refine⟨?_,by simp⟩;have:(es.map λe=>if e.1=k then(e.1,e.2.1,v)else e).map (·.1)=es.map (·.1):=by
   rw[map_map];refine map_congr_left λe _=>?_
   simp only[Function.comp];split<;>rfl
  rw[this];exact hn
end
section
variable{X:Cx}{pins:List (Addr×Obj)}{O:L2.St}{H:Hp}{s:Shared}{a:Addr}{es:List DE}
def Zn{ks:List KN}{ka:Addr}(I:Inv X pins O H s)(h:SqT X.K H ka (ks.map oV)):IsTupleKey (Gg X.prog X.w) s.heap ks ka:=by
 obtain⟨its,r,p,_⟩:=I.tuple h;obtain⟨o,ho,hc,n,hd⟩:=p;refine⟨o,its.toArray,n,ho,hc,hd,?_⟩;have gen:∀{ks:List KN} {us:List Value},yG (ks.map oV) us->ItemsAre (Gg X.prog X.w) ks us:=λ{ks}=>by
  induction ks with
  |nil=>intro us h;cases h;exact .nil
  |cons k ks ih=>intro us h;cases h with|cons r t=>exact .cons (kn_of r) (ih t)
 exact gen r
def Zo(I:Inv X pins O H s)(e:H a=some (Yl a es))(hk:∀x∈es,SqT X.K H x.2.1 (x.1.map oV)):∃xs:List DX,jy es xs/\s.heap.DictOfH (tupleKind (Gg X.prog X.w)) a xs/\(a==sysModules)=false/\es.length<=sizeLine/\(es.map (·.1)).Nodup:=by
 obtain⟨⟨x1,x2,x3,o,esA,ep,xs,h1,h2,h3,h4,h5⟩,_⟩:=(show yu X.prog X.w H s.heap a (Yl a es)from I.hok a _ e);refine⟨xs,h4,⟨o,esA,ep,h1,h2,h3,h5,λx hx=>?_,by rw[jy.keys h4];exact x3⟩,x1,x2,x3⟩;obtain⟨y,hy,q1,q2,_⟩:=jy.mem h4 hx;rw[q1,q2];exact Zn I (hk y hy)
end
def wA(h h':Heap):Prop:=∀b o,h.get? b=some o->∃o',h'.get? b=some o'/\o'.dict=o.dict
def wA.refl(h:Heap):wA h h:=λ_ o e=>⟨o,e,rfl⟩
theorem wA.trans{h1 h2 h3:Heap}(a:wA h1 h2)(b:wA h2 h3):wA h1 h3:=λc o e=>by
 obtain⟨o1,e1,d1⟩:=a c o e;obtain⟨o2,e2,d2⟩:=b c o1 e1;exact⟨o2,e2,d2.trans d1⟩
def wA.of_keeps{h h':Heap}(k:∀b o,h.get? b=some o->h'.get? b=some o):wA h h':=λb o e=>⟨o,k b o e,rfl⟩
def wA.upd{h:Heap}{a:Addr}{f:Obj->Obj}(hf:∀o,(f o).dict=o.dict/\(o.isFreed=false->(f o).isFreed=false)):wA h (h.update a f):=λb o e=>by
 by_cases hb:a=b
 ·subst hb
  exact⟨f o,Heap.get?_update_self _ e ((hf o).2 (Heap.get?_some_iff.mp e).2),(hf o).1⟩
 ·exact⟨o,(Heap.get?_update_other _ _ hb).trans e,rfl⟩
def jN{α:Type}:Sem α->Prop
 | .pure _=>True| .raise _=>True| .unsupported _=>True| .finish _=>True| .rule _ k=>jN (k ())| .at _ k=>jN (k ())| .load _ _ k=>∀o,jN (k o)| .update _ _ f k=>(∀o,(f o).dict=o.dict/\(o.isFreed=false->(f o).isFreed=false))/\jN (k ())| .alloc _ k=>∀a,jN (k a)| .stack k=>∀l,jN (k l)|_=>False
theorem jN.bind{α β:Type}{f:α->Sem β}(hf:∀a,jN (f a)){t:Sem α}(ht:jN t):jN (t >>= f):=by
 show jN (t.bind f)
 induction t with
 |pure a=>exact hf a|raise _=>trivial|unsupported _=>trivial|finish _=>trivial|rule _ k ih=>exact ih () ht| «at» _ k ih=>exact ih () ht|load _ _ k ih=>exact λo=>ih o (ht o)|update _ _ _ k ih=>exact⟨ht.1,ih () ht.2⟩|alloc _ k ih=>exact λa=>ih a (ht a)|stack k ih=>exact λl=>ih l (ht l)|_=>exact False.elim ht
def tame_wp{α:Type}(M:Model)(Γ:Ctx)(h0:Heap)(Q:α->Pos->Shared->Prop)(E:Value->Pos->Shared->Prop)(t:Sem α):∀(p:Pos) (s:Shared),jN t->wA h0 s.heap->Sem.wp M Γ t Q E p s ->
  Sem.wp M Γ t (λa p' s'=>Q a p' s'/\wA h0 s'.heap) (λe p' s'=>E e p' s'/\wA h0 s'.heap) p s:=by
 induction t with
 |pure a=>intro p s _ k h;rw[Sem.wp]at h ⊢;exact⟨h,k⟩|raise a=>intro p s _ k h;rw[Sem.wp]at h ⊢;exact⟨h,k⟩|unsupported _=>intro p s _ k h;rw[Sem.wp]at h;exact h.elim|finish _=>intro p s _ k h;rw[Sem.wp]at h;exact h.elim|rule _ f ih=>intro p s t k h;rw[Sem.wp]at h ⊢;exact ih () p s t k h| «at» _ f ih=>intro p s t k h;rw[Sem.wp]at h ⊢;exact ih () _ s t k h
 |load a _ f ih =>
  intro p s t k h;rw[Sem.wp]at h ⊢;obtain⟨o,e,h⟩:=h;exact⟨o,e,ih o p s (t o) k h⟩
 |update a _ g f ih =>
  intro p s t k h;rw[Sem.wp]at h ⊢;exact⟨h.1,ih () p _ t.2 (k.trans (wA.upd t.1)) h.2⟩
 |alloc o f ih =>
  intro p s t k h;rw[Sem.wp]at h ⊢;exact ih _ p _ (t _) (k.trans (wA.of_keeps λb o e=>qA _ e)) h
 |stack f ih=>intro p s t k h;rw[Sem.wp]at h ⊢;exact ih _ p s (t _) k h|_=>intro p s t;exact False.elim t
def j0{α:Type}{M:Model}{A:Around}{t:Sem α}{Q:α->Shared->Prop}{E:Value->Shared->Prop}{s:Shared}(ht:jN t)(h:wpAny M A t Q E s) :
  wpAny M A t (λa s'=>Q a s'/\wA s.heap s'.heap) (λe s'=>E e s'/\wA s.heap s'.heap) s:=λΓ p hΓ =>
 tame_wp M Γ s.heap _ _ t p s ht (wA.refl _) (h Γ p hΓ)
def jO{α:Type}{c:Prop}[Decidable c]{a b:Sem α}(ha:jN a)(hb:jN b):jN (if c then a else b):=by split<;>assumption
def mapF_ok(f:Array Value->Array Value)(o:Obj):(Obj.mapFields f o).dict=o.dict/\(o.isFreed=false->(Obj.mapFields f o).isFreed=false):=by
 obtain⟨c,d,dt,sl⟩:=o;cases dt<;>exact⟨rfl,λh=>h⟩
def Zp(a:Addr):jN (load a):=λ_=>trivial
def Qh{a:Addr}{f:Obj->Obj}(h:∀o,(f o).dict=o.dict/\(o.isFreed=false->(f o).isFreed=false)):jN (update a f):=⟨h,trivial⟩
def w8(v:Value)(i:Nat):jN (field v i):=by
 unfold field fieldsOf;refine jN.bind (λa=>?_) ?_
 ·cases a[i]?<;>trivial
 ·cases v<;>first|trivial|skip
  refine jN.bind (λo=>?_) (Zp _);cases o.data<;>trivial
def wB(v:Value)(i:Nat)(x:Value):jN (setField v i x):=by
 unfold setField updateField;cases v with
 |ref a =>
  refine jN.bind (λo=>?_) (Zp _);cases o.data<;>first|trivial|skip;exact jO (Qh (mapF_ok _)) trivial
 |_=>trivial
def Ym:jN stack:=λ_=>trivial
def jr(v:Value)(f:Option Addr):jN (setFlight v f):=by
 unfold setFlight;refine jN.bind (λtb=>jO (wB _ _ _) ?_) (w8 v 1);exact trivial
theorem Ww:∀l:List Env,jN (readyFrames l)
 | []=>trivial
 |env::outer=>by
  unfold readyFrames;cases env.frame with
  |none=>trivial
  |some f =>
   refine jN.bind (λo=>jO ?_ ?_) (Zp f)
   ·exact trivial
   refine jN.bind (λim=>?_) ?_
   ·refine jN.bind (λbk=>?_) ?_
    ·refine jN.bind (λ_=>Ww outer) (Qh λo=>⟨rfl,?_⟩)
     obtain⟨c,d,dt,sl⟩:=o;cases dt<;>exact λh=>h
    ·cases outer with
     |nil =>
      refine jO ?_ (jN.bind (λb=>?_) (jN.bind (λ_=>?_) Ym))
      all_goals exact trivial
     |cons c r=>exact trivial
   ·unfold behindIsImport
    refine jO ?_ (jO ?_ (jN.bind (λ_=>?_) (w8 _ _)))
    all_goals exact trivial
def uU(v:Value)(env:Env):jN (noteFrame v env):=by
 unfold noteFrame;cases env.frame with
 |none=>trivial
 |some f =>
  have hN:∀head:Value,jN (do setField v 1 (<- EntryCells.newEntry head (<- frameOf env) .none (rawInt f) .none (<- entryPlaceOf f (head != .none)))):=λhead=>by
   refine jN.bind (λfr=>?_) ?_
   ·refine jN.bind (λpl=>?_) ?_
    ·refine jN.bind (λx=>wB _ _ _) ?_
     unfold EntryCells.newEntry newFields newObj;refine jO ?_ ?_
     ·exact trivial
     ·exact λa=>trivial
    ·unfold entryPlaceOf
     refine jN.bind (λacts=>?_) Ym;split<;>exact trivial
   ·unfold frameOf frameObject
    refine jN.bind (λe=>?_) (jN.bind (λ_=>?_) Ym)
    ·refine jN.bind (λo=>?_) ?_
     ·cases o<;>exact trivial
     ·split
      ·exact trivial
      ·refine jN.bind (λ_=>?_) (Ww _)
       exact trivial
    ·exact trivial
  refine jN.bind (λhead=>jO ?_ (hN head)) (w8 v 1);refine jN.bind (λx=>jO ?_ ?_) (w8 _ _)
  ·exact trivial
  ·exact jN.bind (λ_=>hN head) (wB _ _ _)
def Y9(env:Env)(v:Value):jN (leaving env v):=jN.bind (λ_=>jr v none) (uU v env)
end DV
namespace DV
open PySem L2 PyProof.Rows
def ExO(C a:Addr):HO:=.ext λh=>∃o,h.get? a=some o/\o.cls=.ref C
def zBK{P:Program}{w:World}{H:Hp}{h:Heap}{C a:Addr}{o:Obj}(e:h.get? a=some o)(c:o.cls=.ref C):yu P w H h a (ExO C a) :=
 ⟨⟨o,e,c⟩,⟨o,e⟩,λh1 h2 ⟨o1,e1,c1⟩ k=>⟨o1,k o1 e1,c1⟩⟩
def ExA(C d a:Addr):HO:=.ext λh=>∃o,h.get? a=some o/\o.cls=.ref C/\o.dict=some d/\∃vs,o.data=.fields vs
def zBL{P:Program}{w:World}{H:Hp}{h:Heap}{C d a:Addr}{o:Obj}(e:h.get? a=some o)(c:o.cls=.ref C)(k:o.dict=some d){vs:Array Value}(dt:o.data=.fields vs):yu P w H h a (ExA C d a) :=
 ⟨⟨o,e,c,k,vs,dt⟩,⟨o,e⟩,λh1 h2 ⟨o1,e1,c1,d1⟩ k=>⟨o1,k o1 e1,c1,d1⟩⟩
def XD(d:Addr)(fs:List (Str×V)):HO:=.ext λh=>∃mA,h.Ns1 d mA/\∀f,RelO (fs.lookup f) (mA f)
def XD_ne{H:Hp}{d:Addr}{fs:List (Str×V)}{xs:List V}(h:H d=some (XD d fs))(q:H d=some (.l xs)):False:=by
 rw[h]at q;unfold XD at q;cases q
def uV(a:Addr)(od:Option Addr)(h:Heap):Prop:=∀d,od=some d->∃o,h.get? a=some o/\o.dict=some d
def uV.on{a:Addr}{od:Option Addr}{h h':Heap}(l:uV a od h)(k:wA h h'):uV a od h':=λd e=>by
 obtain⟨o,e1,d1⟩:=l d e;obtain⟨o',e2,d2⟩:=k a o e1;exact⟨o',e2,d2.trans d1⟩
structure MadeD(h h':Heap)(a:Addr)(C:Value)(od:Option Addr):Prop where
 keeps:∀b o,h.get? b=some o->h'.get? b=some o
 new:h.get? a=none
 there:∃oe vs t,h'.get? a=some oe/\oe.cls=C/\(∀d,od=some d->oe.dict=some d)/\oe.data=.fields vs/\vs[1]?=some .none/\vs[0]?=some (.ref t)
def MadeD.of{h h':Heap}{a:Addr}{C:Value}{args:List Value}(x:Heap.MadeExcOf h h' a C args):MadeD h h' a C none :=
 ⟨x.keeps,x.new,let ⟨t,e,_⟩:=x.there;⟨_,_,t,e,rfl,λ_ z=>(by cases z),rfl,rfl,rfl⟩⟩
def MadeD.link{h h':Heap}{a:Addr}{C:Value}{od:Option Addr}(x:MadeD h h' a C od):uV a od h':=λd e=>by
 obtain⟨oe,_,_,h1,_,h2,_⟩:=x.there;exact⟨oe,h1,h2 d e⟩
def Qi{P:Program}{w:World}{H:Hp}{h:Heap}{a:Addr}{o:HO}(x:yu P w H h a o):∃u,h.get? a=some u:=by
 cases o with
 |l xs=>obtain⟨_,_,_,_,e⟩:=x;exact⟨_,e⟩|t xs=>obtain⟨_,_,_,o,e,_⟩:=x;exact⟨_,e⟩|dK kvs=>obtain⟨_,_,_,_,o,_,_,e,_⟩:=x;exact⟨_,e⟩|dT kvs=>obtain⟨_,_,_,_,o,_,_,e,_⟩:=x;exact⟨_,e⟩|set S n=>obtain⟨o,_,_,_,e,_⟩:=x;exact⟨_,e⟩|ins C dx fs=>obtain⟨_,_,_,e,_⟩:=x;exact⟨_,e⟩|own y=>exact x|xd fs=>obtain⟨_,⟨_,_,_,e,_⟩,_⟩:=x;exact⟨_,e⟩|rng lo hi=>obtain⟨_,_,_,e⟩:=x;exact⟨_,e⟩|frz ob u=>obtain⟨e,_⟩:=x;exact⟨_,e⟩|tbl ps=>exact⟨_,(show h.get? a=some _ from x)⟩|met f y=>exact⟨_,(show h.get? a=some _ from x)⟩|ext φ=>obtain⟨_,e,_⟩:=x;exact e|dN φ=>obtain⟨_,e,_⟩:=x;exact e
def zC8(B:Heap)(H:Hp)(g:Heap)(fs:List Addr)(h:Heap):Prop:=∀b o,h.get? b=some o->((∃o',g.get? b=some o')\/H b≠none)->b∉fs->B.get? b=some o
def Flies(l:List Env)(H:Hp)(g:Heap)(a C:Addr)(h:Heap):Prop:=∃B t,Heap.FlyingW B l a (.ref C) (.ref t) h/\zC8 B H g (frs l) h
def CXx(P:Program)(w:World):CXT:=λouter H s E e s'=>∃a C od H',e=.ref a/\s'.os=s.os/\AllBare s'.gens/\Un (frs outer) [] H H' s.heap s'.heap/\HOk P w H' s'.heap/\H' a=none/\Flies outer H' s.heap a C s'.heap/\uV a od s'.heap/\E (.ref C) od H'
section
variable{P:Program}{w:World}{fs:List Addr}{H H':Hp}{g h h' B:Heap}{L:Addr}
def un_on(u:Un fs [] H H' g h)(ok:HOk P w H' h)(kb:zC8 B H' g (L::fs) h)(st:B.StaysIn h')(hL:g.get? L=none)(hf:∀b∈fs,∀o,h.get? b=some o->∃sl,h'.get? b=some {o with slots:=sl}):Un fs [] H H' g h' where
 keep:=λb o e n hb hx=>st b o (kb b o (u.keep b o e n hb hx) (.inl ⟨o,e⟩) λz=>by
  rcases mem_cons.mp z with rfl|z
  ·rw[hL]at e;cases e
  ·exact hb z)
 slot:=λb o e n hb hx=>by
  obtain⟨sl,q⟩:=u.slot b o e n hb hx;obtain⟨sl',q'⟩:=hf b hb _ q;exact⟨sl',q'⟩
 free:=u.free
 there:=λb o e hx=>by
  obtain⟨o',q⟩:=u.there b o e hx;by_cases hb:b∈fs
  ·obtain⟨sl,q'⟩:=hf b hb _ q;exact⟨_,q'⟩
  ·exact⟨o',st b o' (kb b o' q (.inl ⟨o,e⟩) λz=>by
    rcases mem_cons.mp z with rfl|z
    ·rw[hL]at e;cases e
    ·exact hb z)⟩
 tups:=u.tups
 frzs:=u.frzs
 tbls:=u.tbls
def zBM(ok:HOk P w H' h)(kb:zC8 B H' g (L::fs) h)(st:B.StaysIn h')(hn:∀b∈L::fs,H' b=none):HOk P w H' h':=λa o e=>by
 refine(ok a o e).stay (λb u hb q=>?_) (λ_ q=>q) λ_ _ q=>q
 have ht:H' b≠none:=by
  rcases hb with rfl|hb
  ·rw[e];exact λz=>by cases z
  ·rw[hb];exact λz=>by cases z
 exact st b u (kb b u q (.inr ht) λz=>ht (hn b z))
def zBN(u:Un fs [] H H' g h)(ok:HOk P w H' h)(kb:zC8 B H' g (L::fs) h)(st:B.StaysIn h')(hL:g.get? L=none)(hn:∀b∈L::fs,H' b=none):zC8 B H' g fs h':=λb o e hb nf=>by
 have nL:b∉L::fs:=λz=>by
  rcases mem_cons.mp z with rfl|z
  ·rcases hb with⟨o',q⟩|q
   ·rw[hL]at q;cases q
   ·exact q (hn _ (qE))
  ·exact nf z
 have:∃o1,h.get? b=some o1:=by
  rcases hb with⟨o',q⟩|q
  ·exact u.there b o' q (by simp)
  ·obtain⟨x,hx⟩:=Option.ne_none_iff_exists'.mp q
   exact Qi (ok b x hx)
 obtain⟨o1,q1⟩:=this;have q2:=kb b o1 q1 hb nL;have q3:=st b o1 q2;rw[e]at q3;cases q3;exact q2
end
section
variable{P:Program}{w:World}{K:qH}{mg:Str->Option Value}{base:Heap}{N:List Str}{qual:Str}{scope:Scope}{f:Addr}{cd:Value}{A:Around}{outer:List Env}{s:Shared}{H:Hp}{E:XK}
abbrev cxC(c:Bool)(P:Program)(w:World)(K:qH)(mg:Str->Option Value)(base:Heap)(N:List Str)(qual:Str)(scope:Scope)(f:Addr)(cd:Value)(A:Around)(outer:List Env)(s:Shared)(H:Hp)(E:XK):Cx :=
 {cxOf (CXx P w) P w K mg base N qual scope f cd A outer s H E with calm:=c}
variable{c:Bool}
abbrev cxX(P:Program)(w:World)(K:qH)(mg:Str->Option Value)(base:Heap)(N:List Str)(qual:Str)(scope:Scope)(f:Addr)(cd:Value)(A:Around)(outer:List Env)(s:Shared)(H:Hp)(E:XK):Cx :=
 cxOf (CXx P w) P w K mg base N qual scope f cd A outer s H E
variable{pins:List (Addr×Obj)}{O:L2.St}{H':Hp}{s' s1:Shared}{a C:Addr}
def Gi:frs (envOfC qual scope s.heap.objs.size f cd::outer)=s.heap.objs.size::frs outer:=rfl
def zAT(I:Inv (cxC c P w K mg base N qual scope f cd A outer s H E) pins O H' s')(u:Un (frs outer) [] H H' s.heap s'.heap)(hn:H' a=none)
  (hf:∃B t,Heap.FlyingW B (cxC c P w K mg base N qual scope f cd A outer s H E).stack a (.ref C) (.ref t) s'.heap/\zC8 B H' s.heap (frs (cxC c P w K mg base N qual scope f cd A outer s H E).stack) s'.heap) {od:Option Addr} (dl:uV a od s'.heap) (hE:E (.ref C) od H') :
  (cxC c P w K mg base N qual scope f cd A outer s H E).xe (.ref a) s':=by
 obtain⟨B,t,fl,kb⟩:=hf;have hL:s.heap.get? s.heap.objs.size=none:=Heap.get?_none_of_le (le_refl _);have hN:∀b∈s.heap.objs.size::frs outer,H' b=none:=λb hb=>I.stkFree b (by show b∈frs (envOfC qual scope s.heap.objs.size f cd::outer);rw[Gi];exact hb)
 have kb':zC8 B H' s.heap (s.heap.objs.size::frs outer) s'.heap:=kb;refine wpAny_mono (j0 (Y9 _ _) (wpAny_leaves_onW (base:=B) (E:=λ_ _=>False) (Q:=λ_ z=>∃h',z={s' with heap:=h'}/\Heap.FlyingW B outer a (.ref C) (.ref t) h'/\s'.heap.UpToSlots h') I.ok.frames rfl fl λh' fl' sl=>⟨h',rfl,fl',sl⟩)) (λ_ z ⟨⟨h',ez,fl',sl⟩,kd⟩=>?_) λ_ _ z=>z.1.elim
 subst ez;have st:B.StaysIn h':=fl'.1;have hfs:∀b∈frs outer,∀o,s'.heap.get? b=some o->∃sl,h'.get? b=some {o with slots:=sl}:=λb hb o e=>by
  obtain⟨_,o',q,nd⟩:=I.funs.mem hb;rw[e]at q;cases q;exact sl b o e nd
 exact⟨a,C,od,H',rfl,I.os,I.bare,un_on u I.hok kb' st hL hfs,zBM I.hok kb' st hN,hn,⟨B,t,fl',zBN u I.hok kb' st hL hN⟩,dl.on kd,hE⟩
def Gj(I:Inv (cxC c P w K mg base N qual scope f cd A outer s H E) pins O H' s1){od:Option Addr}(hx:MadeD s1.heap s'.heap a (.ref C) od)(hs:s'={s1 with heap:=s'.heap})(hn:H' a=none)(hE:E (.ref C) od H') :
  (cxC c P w K mg base N qual scope f cd A outer s H E).xe (.ref a) s':=by
 have u:Un (frs outer) [] H H' s.heap s1.heap:=I.base;have hL:s.heap.get? s.heap.objs.size=none:=Heap.get?_none_of_le (le_refl _);have hN:∀b∈s.heap.objs.size::frs outer,H' b=none:=λb hb=>I.stkFree b (by show b∈frs (envOfC qual scope s.heap.objs.size f cd::outer);rw[Gi];exact hb)
 have kb:zC8 (hideAll s1.heap (s.heap.objs.size::frs outer)) H' s.heap (s.heap.objs.size::frs outer) s1.heap:=λb o e _ nf=>hideAll_get _ e nf
 have hin:∀env∈(envOfC qual scope s.heap.objs.size f cd::outer),∀b,env.frame=some b->b∈s.heap.objs.size::frs outer:=λenv he b hb=>by
  rw[<- Gi (qual:=qual) (scope:=scope) (f:=f) (cd:=cd)];exact mem_filterMap.mpr ⟨env,he,hb⟩
 have hstk:s1.heap.FunFrames base (envOfC qual scope s.heap.objs.size f cd::outer):=I.stack;obtain⟨oe,vs,t,e1,e2,e3,e4,e5,e6⟩:=hx.there;have fresh:(hideAll s1.heap (s.heap.objs.size::frs outer)).get? a=none:=by
  cases q:(hideAll s1.heap (s.heap.objs.size::frs outer)).get? a with
  |none=>rfl|some o'=>have:=of_hideAll _ q;rw[hx.new]at this;cases this
 have hfun:s'.heap.FunFrames (hideAll s1.heap (s.heap.objs.size::frs outer)) (envOfC qual scope s.heap.objs.size f cd::outer):=(PySem.W.funFrames_hide hstk hin).of_keeps λb o hb _=>⟨o,hx.keeps b o hb,rfl⟩
 refine wpAny_mono (j0 (Y9 _ _) (wpAny_leaving_firstW (base:=hideAll s1.heap (s.heap.objs.size::frs outer)) (a0:=.ref t) (E:=λ_ _=>False) (Q:=λ_ z=>∃h',z={s' with heap:=h'}/\Heap.LeftW (hideAll s1.heap (s.heap.objs.size::frs outer)) (envOfC qual scope s.heap.objs.size f cd::outer) a oe.cls (.ref t) s'.heap h') I.ok.frames hfun rfl e1 (λb o q=>hx.keeps b o (of_hideAll _ q)) fresh e4 e5 e6 λh' hL=>⟨h',rfl,hL⟩)) (λ_ z ⟨⟨h',ez,k1,⟨_,_,k2⟩,k3,x4⟩,kd⟩=>?_) λ_ _ z=>z.1.elim
 subst ez;rw[e2]at k3;have x1:Heap.FlyingW (hideAll s1.heap (s.heap.objs.size::frs outer)) outer a (.ref C) (.ref t) h':=⟨k1,fresh,k2,k3⟩;have st:=x1.1;have hfs:∀b∈frs outer,∀o,s1.heap.get? b=some o->∃sl,h'.get? b=some {o with slots:=sl}:=λb hb o e=>by
  obtain⟨_,o',q,nd⟩:=I.funs.mem hb;rw[e]at q;cases q;exact x4 b o (hx.keeps b o e) nd
 have os:s'.os=s1.os:=by rw[hs]
 have ge:s'.gens=s1.gens:=by rw[hs]
 refine⟨a,C,od,H',rfl,os.trans I.os,?_,un_on u I.hok kb st hL hfs,zBM I.hok kb st hN,hn,⟨_,t,x1,zBN u I.hok kb st hL hN⟩,hx.link.on kd,hE⟩;show AllBare s'.gens;rw[ge];exact I.bare
end
structure RoomN(k:Nat)(A:Around):Prop where
 gd:A.guards=some []
 dp:A.depth+3*k+5<recursionLimit
 un:A.units+16*k+200<cLine
def RoomN.mono{j k:Nat}{A:Around}(r:RoomN k A)(h:j<=k):RoomN j A:=⟨r.gd,by have:=r.dp;omega,by have:=r.un;omega⟩
theorem RoomN.deeper{k:Nat}{A:Around}(r:RoomN (k+1) A)(env:Env):RoomN k (A.deeper env) :=
 ⟨r.gd,by have:=r.dp;show A.depth+1+3*k+5<_;omega,by have:=r.un;show A.units+3+16*k+200<_;omega⟩
theorem RoomN.depth{k:Nat}{A:Around}(r:RoomN k A):A.depth<recursionLimit:=by have:=r.dp;omega
def zDS{k:Nat}{A:Around}(r:Room k A):RoomN k A:=⟨r.gd,r.dp,r.un⟩
section
variable{X:Cx}{pins:List (Addr×Obj)}{O:L2.St}{H:Hp}{s:Shared}
def Yn(I:Inv X pins O H s)(A':Around)(c:Bool)(E:Value->Shared->Prop)(hd:c=true->A'.handled=none)(fr:A'.frames=some X.stack):Inv {X with A:=A',calm:=c,xe:=E} pins O H s :=
 ⟨⟨I.ok.mod,I.ok.kind,I.ok.glob,I.ok.blt,I.ok.above,I.ok.inj,I.ok.has,I.ok.cab,hd,fr,I.ok.stk,I.ok.exf,I.ok.bs,I.ok.bsz,I.ok.noex,I.ok.exfs,I.ok.funs,I.ok.frf⟩,I.os,I.bare,I.base,I.loc,I.cell,I.free,I.freeC,I.pin,I.hok,I.len⟩
end
abbrev cxN(c:Bool)(P:Program)(w:World)(K:qH)(mg:Str->Option Value)(base:Heap)(N:List Str)(qual:Str)(scope:Scope)(f:Addr)(cd:Value)(A:Around)(outer:List Env)(s:Shared)(H:Hp)(E:XK):Cx :=
 cxC c P w K mg base N qual scope f cd A outer s H E
structure FnOkN(c:Bool)(P:Program)(w:World)(K:qH)(mg:Str->Option Value)(base:Heap)(k:Nat)(f:Addr)(fd:FuncData)(ps:List Str)(sp:Sp):Prop where
 len:∀vs H Q E,sp vs H Q E->vs.length=ps.length
 run:∀(A:Around) (outer:List Env) (s:Shared) (H:Hp) (args:Args) (us:List Value) (vs:List V) (Q:VK) (E:XK),(c=true->A.handled=none)->RoomN k A->Env0 P w K mg base A outer s H->BindsTo s fd args (ps.zip us)->yG vs us->sp vs H Q E ->
  codeAny (model P w) A (.call (.ref f) args) (CR (CXx P w) outer P w H s Q E) s
section
variable{c:Bool}{P:Program}{w:World}{K:qH}{mg:Str->Option Value}{base:Heap}
def FnOkN.fn{k:Nat}{f:Addr}{fd:FuncData}{ps:List Str}{sp:Sp}(F:FnOkN c P w K mg base k f fd ps sp):FnOk P w K mg base (CXx P w) k f fd ps sp :=
 ⟨F.len,λA outer s H args us vs Q E hr=>F.run A outer s H args us vs Q E (λ_=>hr.hd) (zDS hr)⟩
def fn_ofN{k:Nat}{f:Addr}{name qual:Str}{params:Arguments}{body:List Stmt}{scope:Scope}{dV kV doc pm cdv ct oc:Value}{an od:Option Addr}
  {osl:Array (Option Value)} {N ps:List Str} {sp:Sp} (lk:K.lookup f=some ⟨oc,od,.func (fnOf name qual params body scope dV kV doc pm an cdv ct),osl⟩) (hcd:codeIn K cdv qual=true) (S:FnScope N ps scope)
  (len:∀vs H Q E,sp vs H Q E->vs.length=ps.length)
  (hbody:∀(A:Around) (outer:List Env) (s:Shared) (H:Hp) (vs:List V) (Q:VK) (E:XK),(c=true->A.handled=none)->RoomN k (A.deeper (envOfC qual scope s.heap.objs.size f cdv))->sp vs H Q E ->
   ∃t,PSs (cxN c P w K mg base N qual scope f cdv A outer s H E) body t/\t {nx:=λ_ H'=>Q .non H',rt:=Q} (wZ N vs) H) :
  FnOkN c P w K mg base (k+1) f (fnOf name qual params body scope dV kV doc pm an cdv ct) ps sp:=by
 refine⟨len,λA outer s H args us vs Q E hd hr e0 hb r hsp=>?_⟩;have hl:=len _ _ _ _ hsp;have KX:K.In s.heap:=e0.mod.kin.keeps λb o e=>(e0.bs b o e).1
 have lim:s.heap.NoLimit:=e0.mod.nolimit.keeps λb o e=>(e0.bs b o e).1
 have hkind:∀y∈ps.zip us,scope.names.lookup y.1=some .local\/(scope.names.lookup y.1=some .cell/\((cellsFrom (s.heap.objs.size+1) scope.names []).lookup y.1).isSome=true):=λ⟨n,v⟩ hy=>by
  rcases S.par n (of_mem_zip hy).1 with q|q
  ·exact .inl q
  ·exact .inr ⟨q,cellsFrom_some _ _ _ (.inl q)⟩
 refine codeAny_call_function hr.depth (KX _ _ lk) rfl S.co S.gen rfl (PySem.W.codeRec_of KX hcd) (hb _ _ _ _ ?_);refine wpAny_newFunctionEnv_cells S.kind hkind λenv he s1 x=>?_
 subst he;refine⟨lim.keeps x.toInCall.keep,codeAny_func ?_⟩;obtain⟨t,ht,hq⟩:=hbody A outer s H vs Q E hd (hr.deeper _) hsp;have e1:Env0 P w K mg base {A with handled:=none} outer s H:=⟨e0.frames,e0.mod,e0.bs,e0.bsz,e0.funs,e0.frf,e0.hok,e0.bare⟩
 have I0:Inv (cxOf (CXx P w) P w K mg base N qual scope f cdv {A with handled:=none} outer s H E) [] (wZ N vs) H s1:=zBA S rfl e1 hl r x
 have I:Inv (cxN c P w K mg base N qual scope f cdv A outer s H E) [] (wZ N vs) H s1:=Yn I0 (A.deeper (envOfC qual scope s.heap.objs.size f cdv)) c _ hd (Around.frames_deeper e0.frames);refine wpAny_mono (ht [] s1 (wZ N vs) H _ I hq) (λfl s' hs=>?_) λe s' hs=>hs
 have fin:∀{O':L2.St} {H':Hp} {v:V} {u:Value},Inv (cxN c P w K mg base N qual scope f cdv A outer s H E) [] O' H' s'->zz v u->Q v H'->CE outer P w H s Q u s' :=
  λ{O' H' v u} J rv q=>⟨v,H',J.os,J.bare,J.base,J.hok,rv,q⟩
 cases fl with
 |ret u =>
  obtain⟨v,O',H',J,rv,q⟩:=hs;exact fin J rv q
 |next =>
  obtain⟨O',H',J,q⟩:=hs;exact fin (v:=V.non) (u:=Value.none) J rfl q
 |brk =>
  obtain⟨_,_,_,q⟩:=hs;exact False.elim q
 |cont =>
  obtain⟨_,_,_,q⟩:=hs;exact False.elim q
end
structure Exn where
 cls:Str
 made:Bool
 vs:List Int
 deriving Inhabited
def zBO(c:Str):List Str:=if c == "TooGreat" then ["many","most"]else if c == "NoText" then ["row"]else []
def fsV(c:Str)(vs:List Int):List (Str×V):=(zBO c).zip (vs.map V.int)
def Fs(od:Option Addr)(H:Hp)(c:Str)(vs:List Int):Prop:=vs=[]\/∃d,od=some d/\H d=some (XD d (fsV c vs))
def RelX(X:Cx)(pins:List (Addr×Obj))(O:L2.St)(x:Exn)(H:Hp)(e:Value)(s:Shared):Prop:=∃a C od,e=.ref a/\X.mg x.cls=some (.ref C)/\H a=none/\Fs od H x.cls x.vs /\
 ((x.made=true/\∃s1,Inv X pins O H s1/\s={s1 with heap:=s.heap}/\MadeD s1.heap s.heap a (.ref C) od) \/
  (x.made=false/\∃sc Hc,Inv X pins O Hc sc/\Un (frs X.stack) [] Hc H sc.heap s.heap/\Flies X.stack H sc.heap a C s.heap/\uV a od s.heap))
def XE(X:Cx)(O:L2.St)(H:Hp)(x:Exn):Prop:=∀(pins:List (Addr×Obj)) (s:Shared) (e:Value),Inv X pins O H s->RelX X pins O x H e s->X.xe e s
def EX(X:Cx)(O:L2.St):XK:=λc od H'=>∃x C,c=.ref C/\X.mg x.cls=some (.ref C)/\x.made=false/\Fs od H' x.cls x.vs/\XE X O H' x
section
variable{X:Cx}{pins:List (Addr×Obj)}{O:L2.St}{H:Hp}{s s':Shared}{e:Value}
def pass_x(I:Inv X pins O H s)(h:CXx X.prog X.w X.stack H s (EX X O) e s'):X.xe e s':=by
 obtain⟨a,C,od,H',rfl,os,bare,un,hok,hn,fl,dl,x,C',ec,hm,hmd,hf,k⟩:=h;cases ec;have I':Inv X pins O H' s':=I.call' (ch:=[]) os un hok bare (λb z=>absurd z (by simp));exact k pins s' _ I' ⟨a,C,od,rfl,hm,hn,hf,.inr ⟨hmd,s,H,I,un,fl,dl⟩⟩
def run_fnN{c:Bool}{k:Nat}{f:Addr}{fd:FuncData}{ps:List Str}{sp:Sp}{Q:VK}{us:List Value}{vs:List V}(F:FnOkN c X.prog X.w X.K X.mg X.base k f fd ps sp)(hd:c=true->X.A.handled=none)(hr:RoomN k X.A)(hb:ZL X.K fd ps [])
  (I:Inv X pins O H s) (r:yG vs us) (h:sp vs H Q (EX X O)):wpAny (model X.prog X.w) X.A (call (.ref f) us) (EP X pins O Q) X.xe s:=by
 have hl:us.length=ps.length:=by rw[<- r.length];exact F.len _ _ _ _ h
 have hbd:=hb s us I.kIn (by rw[append_nil];exact hl);rw[append_nil]at hbd;refine wpAny_call (codeAny_mono (F.run X.A X.stack s H ⟨us,[]⟩ us vs Q (EX X O) hd hr I.env0 hbd r h) λr s' hq=>?_);cases r with
 |error e=>exact pass_x I hq
 |ok fl =>
  cases fl with
  |ret u=>exact I.after hq|next=>exact False.elim hq|brk=>exact False.elim hq|cont=>exact False.elim hq
end
section
variable{X:Cx}{c:Bool}{k:Nat}{f:Addr}{fd:FuncData}{ps:List Str}{sp:Sp}{x:Str}{p pos:Pos}{e:Expr}{es:List Expr}{t:TA}
def zDT(F:FnOkN c X.prog X.w X.K X.mg X.base k f fd ps sp)(hdl:c=true->X.A.handled=none)(hr:RoomN k X.A)(hg:Gl X x)(hm:X.mg x=some (.ref f))(hk:keepIn X.K (.ref f)=true)(hb:ZL X.K fd ps [])
  (ha:PA X (e::es) t) (hdb:(x==("__debug__":Str))=false:=by decide) (he:starEach (e::es) X.env=(false,eval e X.env)::starEach es X.env:=by rfl) (hpl:(backTo pos (starEach es X.env)).any (·.1)=false:=by rfl) :
  PE X (.Call (.Name x p) (e::es) [] pos) (λO H Q=>t O H λvs H1=>sp vs H1 Q (EX X O)):=by
 intro pins s O H Q I h;refine wpAny_Call_Name_kw (vE I hg hm ?_ hdb);refine PySem.W.callWith_K (h₀:=X.base) I.ok.mod.kin hk (thn (ha pos pins s O H _ I h) λus s1 ⟨vs,H1,I1,r,q⟩=>⟨I1.kIn,?_⟩) he hpl;exact run_fnN F hdl hr hb I1 r q
end
def zDU{c:Bool}{P:Program}{w:World}{K:qH}{mg:Str->Option Value}{base:Heap}{N:List Str}{qual:Str}{scope:Scope}{f:Addr}{cd:Value}{A:Around}{outer:List Env}{s:Shared}{H H':Hp}{E:XK}{O:L2.St}{x:Exn}
  (hE:∀C od,mg x.cls=some (.ref C)->Fs od H' x.cls x.vs->E (.ref C) od H'):XE (cxN c P w K mg base N qual scope f cd A outer s H E) O H' x:=by
 intro pins s' e I ⟨a,C,od,he,hm,hn,hf,h⟩;subst he;have sw:∀{H1:Hp} {s1:Shared},Inv (cxN c P w K mg base N qual scope f cd A outer s H E) pins O H1 s1->Inv (cxX P w K mg base N qual scope f cd {A with handled:=none} outer s H E) pins O H1 s1:=λJ=>Yn J _ true _ (λ_=>rfl) J.ok.frames
 rcases h with⟨_,s1,I1,hs,hx⟩|⟨_,sc,Hc,Ic,un,fl,dl⟩
 ·exact Gj I1 hx hs hn (hE C od hm hf)
 ·obtain⟨B,t,f1,f2⟩:=fl
  refine zAT I I.base hn ⟨B,t,f1,λb o q z nf=>f2 b o q ?_ nf⟩ dl (hE C od hm hf);rcases z with⟨o',z⟩|z
  ·exact .inl (Ic.base.there b o' z (by show b∉([]:List Addr);simp))
  ·exact .inr z
end DV
namespace DV
open PySem L2 PyProof.Rows PySem.Spec
open PySem.W (Frag Looks)
structure XCls(K:Frag)(c:Str)(C T:Addr):Prop where
 cd:∃cd,clsIn K C=some cd/\cd.name=c/\cd.mro=[.ref C,.ref T,.type "ValueError",.type "Exception",.type "BaseException",.type "object"]
 ty:typeIn K (.ref C)=some (.type "type")
 ga:findIn K (.ref C) "__getattribute__"=some (some (.builtin "BaseException.__getattribute__"))
 gn:findIn K (.ref C) "__getattr__"=some none
 gc:findIn K (.ref C) "__class__"=some (some (.builtin "object.__class__"))
 sp:specialIn K (.builtin "object.__class__") "__get__"=some (some (.builtin "getset_descriptor.__get__"))
 tk:takesIn K (.builtin "object.__class__")=some true
section
open Builtin Builtin.ObjectAttr Builtin.Getset_descriptor
variable{K:Frag}{c:Str}{C T x:Addr}{h:Heap}{ox:Obj}{M:Model}
def XCls.mro(F:XCls K c C T)(b:Value):mroIn K C b=some ([Value.ref C,.ref T,.type "ValueError",.type "Exception",.type "BaseException",.type "object"].contains b):=by
 obtain⟨cd,h1,_,h3⟩:=F.cd;unfold mroIn;rw[h1,Option.bind_some,h3];rfl
def typ(e:h.get? x=some ox)(ec:ox.cls=.ref C):Looks M h (typeOf (.ref x)) (.ref C):=ec▸(Looks.ld e).andThen .now
def zDV(F:XCls K c C T)(X:K.In h):Looks M h (find (.ref x) (.ref C) "__class__") (.bind (.builtin "getset_descriptor.__get__") (.builtin "object.__class__")):=by
 have l3:Looks M h (takesStores (.builtin "object.__class__")) true:=PySem.W.looks_takesIn X F.tk;have l4:Looks M h (dataDescriptor? (some (.builtin "object.__class__")) (some (.builtin "getset_descriptor.__get__"))) (some (.builtin "getset_descriptor.__get__",.builtin "object.__class__")):=l3.andThen .now;exact(looks_findIn X F.gc).andThen ((PySem.W.looks_specialIn X F.sp).andThen (l4.andThen (Looks.tag .now)))
end
section
open Builtin Builtin.ObjectAttr Builtin.Getset_descriptor
variable{K:Frag}{c:Str}{C T x:Addr}{ox:Obj}{prog:Program}{w:World}{A:Around}{E:Value->Shared->Prop}{s:Shared}
def cls_get{R:Result->Shared->Prop}(F:XCls K c C T)(X:K.In s.heap)(e:s.heap.get? x=some ox)(ec:ox.cls=.ref C)(hq:R (.ok (.ret (.ref C))) s) :
  codeAny (model prog w) A (.call (.builtin "getset_descriptor.__get__") ⟨[.builtin "object.__class__",.ref x,.ref C],[]⟩) R s:=by
 obtain⟨hh,gs,dr,tt,os⟩:=s;have ty:Looks (model prog w) hh (typeOf (.ref x)) (.ref C):=typ e ec;have sb:Looks (model prog w) hh (isSubtype (.ref C) (.type "object")) true:=looks_mroIn X (by rw[F.mro];rfl);refine codeAny_call_builtin PySem.W.KF.slot_gs.plain PySem.W.KF.entry_gs (PySem.W.KF.slot_gs.check _ _ _ _ _ _ _ _ PySem.W.KF.type_class (PySem.W.KF.args_gs _ _ _) ?_);unfold Builtin.«getset_descriptor.__get__»;unfold descrGet;rw[PySem.W.dga_obj];refine qB (qC ?_);unfold descrGetter descrCheckInstance descrNameAndClass isInstance;simp only[PySem.W.KF.owner_class]
 repeat lk
 refine⟨Code.quiet_builtin _ (by decide +kernel),?_⟩;refine codeAny_builtin PySem.W.KF.entry_class ?_;unfold Builtin.«object.__class__»;unfold shownTypeOf
 repeat lk
 exact hq
def zBP{tk:Tok}{Q:Fin->Shared->Prop}(F:XCls K c C T)(X:K.In s.heap)(e:s.heap.get? x=some ox)(ec:ox.cls=.ref C)(hq:Q (.done (.ret (.ref C))) s) :
  wpAny (model prog w) A (Builtin.«object.__getattribute__» ⟨[.ref x,.str "__class__" tk],[]⟩) Q E s:=by
 obtain⟨hh,gs,dr,tt,os⟩:=s;have ty:Looks (model prog w) hh (typeOf (.ref x)) (.ref C):=typ e ec;have fd:Looks (model prog w) hh (find (.ref x) (.ref C) "__class__") _:=zDV F X;have go:∀Q',Q' (.done (.ret (.ref C))) (⟨hh,gs,dr,tt,os⟩:Shared)->wpAny (model prog w) A (bindTo (.builtin "getset_descriptor.__get__") (.builtin "object.__class__") (.ref x) (.ref C)) Q' E ⟨hh,gs,dr,tt,os⟩:=λQ' q=>by
  unfold bindTo;refine qB (wpAny_call (cls_get F X e ec ?_));exact qC q
 refine qB (qC ?_);refine qB (qC ?_);refine qB (ty.at ?_);refine qB (fd.at ?_);exact go _ hq
def zBQ{nameV:Value}{M:Model}{Q:Unit->Shared->Prop}(F:XCls K c C T)(X:K.In s.heap)(e:s.heap.get? x=some ox)(ec:ox.cls=.ref C)(hq:Q () s) :
  wpAny M A (checkBuiltinCall "BaseException.__getattribute__" ⟨[.ref x,nameV],[]⟩) Q E s:=by
 obtain⟨hh,gs,dr,tt,os⟩:=s;have ty:Looks M hh (typeOf (.ref x)) (.ref C):=typ e ec;have sb:Looks M hh (isSubtype (.ref C) (.type "BaseException")) true:=looks_mroIn X (by rw[F.mro];rfl);have inst:Looks M hh (isInstance (.ref x) (.type "BaseException")) true:=ty.andThen sb;have k1:builtinKind "BaseException.__getattribute__"=some .slot:=by decide +kernel
 have k2:splitId "BaseException.__getattribute__"=some ("BaseException","__getattribute__"):=by decide +kernel
 have k3:=PySem.F.args_bexc_ga (.ref x) nameV;simp only[checkBuiltinCall,k1,k2];refine qB (inst.at ?_)
 repeat (any_goals (first|assumption|wp_step))
def zDW{tk:Tok}{R:Result->Shared->Prop}(F:XCls K c C T)(X:K.In s.heap)(e:s.heap.get? x=some ox)(ec:ox.cls=.ref C)(hq:R (.ok (.ret (.ref C))) s) :
  codeAny (model prog w) A (.call (.builtin "BaseException.__getattribute__") ⟨[.ref x,.str "__class__" tk],[]⟩) R s :=
 codeAny_call_builtin PySem.F.attr_ValueError.ga.plain PySem.F.entry_bexc_ga (zBQ F X e ec (zBP F X e ec hq))
def zDX{Q:Option Value->Shared->Prop}(F:XCls K c C T)(X:K.In s.heap)(e:s.heap.get? x=some ox)(ec:ox.cls=.ref C)(hq:Q (some (.ref C)) {s with toks:=s.toks+1}) :
  wpAny (model prog w) A (getAttr? (.ref x) "__class__") Q E s:=by
 obtain⟨hh,gs,dr,tt,os⟩:=s;have ty:Looks (model prog w) hh (typeOf (.ref x)) (.ref C):=typ e ec;have l1:Looks (model prog w) hh (typeLookup (.ref C) "__getattribute__") _:=looks_findIn X F.ga;have l2:Looks (model prog w) hh (typeLookup (.ref C) "__getattr__") _:=looks_findIn X F.gn;have b1:=PySem.F.attr_ValueError.ga.bind (.ref x);unfold getAttr? getAttrBy?;refine qB (wpAny_mkText (qB (wpAny_attempt ?_)));unfold getAttrBy;refine wpAny_holding (qB (ty.at (qB (l1.at ?_))));have ne:(Value.builtin "BaseException.__getattribute__" == Value.builtin "object.__getattribute__")=false:=by decide +kernel
 dsimp only;rw[ne,Bool.and_false,if_neg (by decide)];unfold getAttrByItsOwn hookBefore;refine qB (l2.at ?_);refine qB (wpAny_attempt (wpAny_holding ?_));unfold callGetattribute;rw[if_neg (by decide +kernel)];unfold boundAndCalled;rw[b1];refine qB (qC (wpAny_call (zDW F X e ec ?_)));exact qC (qC hq)
end
structure TCls(K:Frag)(T:Addr):Prop where
 cd:∃cd,clsIn K T=some cd/\cd.mro=.ref T::VB
 ty:typeIn K (.ref T)=some (.type "type")
section
variable{K:Frag}{c y:Str}{C Y T x:Addr}{h:Heap}{ox:Obj}{M:Model}
def TCls.mro(F:TCls K T)(b:Value):mroIn K T b=some ((Value.ref T::VB).contains b):=by
 obtain⟨cd,h1,h3⟩:=F.cd;unfold mroIn;rw[h1,Option.bind_some,h3];rfl
def zBR{cd:ClassData}(X:K.In h)(e:clsIn K C=some cd):Looks M h (isType (.ref C)) true:=by
 unfold clsIn at e;split at e
 ·rename_i ho
  intro A Q E s k q;unfold isType loadHead;exact qB (wpAny_loadPart (k _ _ (X _ _ ho)) (qC q))
 ·cases e
def not_tup{cd:ClassData}{tp:Addr}{dd:Option Addr}{its:List Value}{n:Nat}{sl:Array (Option Value)}(X:K.In h)(e:clsIn K C=some cd)(ht:h.get? tp=some ⟨.type "tuple",dd,.seq its.toArray n,sl⟩):(Value.ref C==.ref tp)=false:=by
 refine Bool.eq_false_iff.mpr λq=>?_
 obtain rfl:C=tp:=Value.ref.inj (beq_iff_eq.mp q);unfold clsIn at e;split at e
 ·rename_i ho;have z:=(X _ _ ho).symm.trans ht;cases z
 ·cases e
def kit_exc(F:XCls K c C T):PySem.W.KitX K (.ref x) (.ref C) (λh=>∃o,h.get? x=some o/\o.cls=.ref C) where
 ty:=λM h X ⟨o,e,ec⟩=>typ e ec
 it:=λM h X _=>let ⟨_,e,_⟩:=F.cd;zBR X e
 ne:=λh tp dd its n sl X ht=>let ⟨_,e,_⟩:=F.cd;not_tup X e ht
 ca:=λX ⟨o,e,ec⟩ q=>zDX F X e ec q
def kit_own(F:XCls K c C T)(G:XCls K y Y T)(hY:Y≠T)(he:c=y->C=Y):kitOne K (.ref C) (.ref Y)=some (c==y):=by
 obtain⟨cd,h1,h2,h3⟩:=F.cd;obtain⟨cy,g1,g2,g3⟩:=G.cd;unfold kitOne;by_cases e:C=Y
 ·subst e
  rw[h1]at g1;cases g1;rw[if_pos (by simp),<- h2,<- g2];simp
 ·have ne:(c==y)=false:=by
   cases q:c==y with
   |false=>rfl|true=>exact absurd (he (by simpa using q)) e
  rw[if_neg (by simpa using e),ne];unfold kitCls;dsimp only;rw[if_pos (by rw[g1,G.ty];rfl)];show mroIn K C (.ref Y)=_;rw[F.mro];have e1:(Value.ref Y==Value.ref C)=false:=by simpa using λz:Y=C=>e z.symm
  have e2:(Value.ref Y==Value.ref T)=false:=by simpa using hY
  simp only[List.contains_cons,e1,e2];rfl
def kit_val(F:XCls K c C T):kitOne K (.ref C) (.type "ValueError")=some true:=by
 unfold kitOne;rw[if_neg (by simp)];unfold kitCls;dsimp only;rw[if_pos (by decide +kernel)];show mroIn K C _=_;rw[F.mro];rfl
def Gm{A:Around}{E:Value->Shared->Prop}{s:Shared}{Q:Bool->Shared->Prop}(F:XCls K c C T)(G:TCls K T)(X:K.In s.heap)(e:s.heap.get? x=some ox)(ec:ox.cls=.ref C)(hq:Q true s):wpAny M A (excMatches (.ref x) (.ref T)) Q E s:=by
 obtain⟨hh,gs,dr,tt,os⟩:=s;obtain⟨cd,g1,g2⟩:=G.cd;have ty:Looks M hh (typeOf (.ref x)) (.ref C):=typ e ec;have tT:Looks M hh (typeOf (.ref T)) (.type "type"):=PySem.W.looks_typeIn X G.ty;have nt:Looks M hh (isInstance (.ref T) (.type "tuple")) false:=tT.andThen (Looks.of_pure tc_notTuple);have iT:Looks M hh (isType (.ref T)) true:=zBR X g1;have sT:Looks M hh (isSubtype (.ref T) (.type "BaseException")) true:=looks_mroIn X (by rw[G.mro];rfl);have sC:Looks M hh (isSubtype (.ref C) (.ref T)) true:=looks_mroIn X (by rw[F.mro];simp);unfold excMatches isExcClass;refine qB (nt.at ?_);refine qB (qC ?_);refine qB ?_;rw[forIn_cons];refine qB (qB (qB (iT.at ?_)));refine sT.at ?_;refine qC ?_;refine qC ?_;refine qB (ty.at ?_);refine qB ?_;rw[forIn_cons];refine qB (qB (sC.at ?_));refine qC (qC ?_);exact qC hq
def own_at{newId:String}{bmB:List Value}(X:K.In h)(q:excIn K C bmB newId=true) :
  ∃bm N nm q bs hdct sn sub ab col dd k0 k1 k2 k3 k5 mN,h.get? C=some (excClassObj nm q C N bs bm hdct sn sub ab col dd k0 k1 k2 k3 k5 newId)/\h.Ns N mN/\mN "__init__"=none/\OwnTail h bmB bm:=by
 unfold excIn at q;split at q
 ·rename_i dd cd sl ho
  split at q
  ·rename_i C' bm a0 a1 a2 a3 id a5 hm hs
   simp only[Bool.and_eq_true,beq_iff_eq,Bool.not_eq_true']at q;obtain⟨⟨⟨⟨⟨q1,q2⟩,q3⟩,q4⟩,q5⟩,q6⟩:=q;subst q1 q2;obtain⟨l⟩:=sl;have hs':l=[a0,a1,a2,a3,some (.builtin id),a5]:=hs;subst hs';obtain⟨nm,bs,mro,ns,qn,hd,sn,sub,ab,col,del⟩:=cd;cases hm;cases q3;exact⟨bm,ns,nm,qn,bs,hd,sn,sub,ab,col,dd,a0,a1,a2,a3,a5,_,X _ _ ho,.of_isNs (PySem.W.isNs_of_in X q5),PySem.W.nsMap_none_of_in X q5 q6,PySem.W.tail_of_in X q4⟩
  ·cases q
 ·cases q
end
end DV
namespace DV
open PySem L2 PyProof.Rows PySem.Spec
open PySem.W (Looks)
structure XSet(K:qH)(C T:Addr):Prop where
 cd:∃cd,clsIn K C=some cd/\cd.mro=.ref C::.ref T::VB/\cd.hasDict=true
 sa:findIn K (.ref C) "__setattr__"=some (some (.builtin "object.__setattr__"))
end DV
namespace DV
open PySem L2
set_option genInjectivity true in
inductive D where
 |non
 |bl (b:Bool)
 |int (i:Int)
 |str (x:Str)
 |t (ds:List D)
 |l (ds:List D)
 |fn (x:Str)
 |dic
 |exn (c:Str) (vs:List Int)
 |dct (ks:List (List KN)) (vs:List D)
 deriving Inhabited
def oD:KN->D
 |none=>.non|some i=>.int i
def kD(ks:List KN):D:=.t (ks.map oD)
mutual
def Rep(K:qH)(mg:Str->Option Value)(H:Hp):D->V->Prop
 | .non,v=>v=.non| .bl b,v=>v=.bl b| .int i,v=>v=.int i| .str x,v=>v=.str x| .t ds,v=>∃a xs,v=.ref a/\SqT K H a xs/\Reps K mg H ds xs| .l ds,v=>∃a xs,v=.ref a/\SqL K H a xs/\Reps K mg H ds xs| .fn x,v=>∃f,v=.ref f/\mg x=some (.ref f)| .dic,v=>∃a,v=.ref a/\H a=some (.dK [])| .exn c vs,v=>∃a C,v=.ref a/\mg c=some (.ref C)/\((vs=[]/\H a=some (ExO C a))\/∃d,H a=some (ExA C d a)/\H d=some (XD d (fsV c vs)))| .dct ks vs,v=>∃a es,v=.ref a/\H a=some (Yl a es)/\ks=es.map (·.1)/\(∀e∈es,SqT K H e.2.1 (e.1.map oV))/\Reps K mg H vs (es.map (·.2.2))
def Reps(K:qH)(mg:Str->Option Value)(H:Hp):List D->List V->Prop
 | [],vs=>vs=[]|d::ds,vs=>∃v r,vs=v::r/\Rep K mg H d v/\Reps K mg H ds r
end
section
variable{K:qH}{mg:Str->Option Value}{H H':Hp}
def zH{a:Addr}{xs:List V}(e:Yj H H')(h:SqT K H a xs):SqT K H' a xs:=by
 rcases h with(h|⟨o,h⟩)|h
 ·exact .inl (.inl (e _ _ h))
 ·exact .inl (.inr ⟨o,e _ _ h⟩)
 ·exact .inr h
mutual
theorem Rep.mono(e:Yj H H'):∀{d:D} {v:V},Rep K mg H d v->Rep K mg H' d v
 | .non,_,h=>by simpa only[Rep]using h| .bl _,_,h=>by simpa only[Rep]using h| .int _,_,h=>by simpa only[Rep]using h| .str _,_,h=>by simpa only[Rep]using h
 | .t ds,_,h=>by
  simp only[Rep]at h ⊢;obtain⟨a,xs,h1,h2,h3⟩:=h;exact⟨a,xs,h1,zH e h2,Reps.mono e h3⟩
 | .l ds,_,h=>by
  simp only[Rep]at h ⊢;obtain⟨a,xs,h1,h2,h3⟩:=h;exact⟨a,xs,h1,e.seq h2,Reps.mono e h3⟩
 | .fn _,_,h=>by simpa only[Rep]using h
 | .dic,_,h=>by
  simp only[Rep]at h ⊢;obtain⟨a,h1,h2⟩:=h;exact⟨a,h1,e _ _ h2⟩
 | .exn _ _,_,h=>by
  simp only[Rep]at h ⊢;obtain⟨a,C,h1,h2,h3⟩:=h;refine⟨a,C,h1,h2,?_⟩;rcases h3 with⟨hv,h3⟩|⟨d,h3,h4⟩
  ·exact .inl ⟨hv,e _ _ h3⟩
  ·exact .inr ⟨d,e _ _ h3,e _ _ h4⟩
 | .dct ks vs,_,h=>by
  simp only[Rep]at h ⊢;obtain⟨a,es,h1,h2,h3,h4,h5⟩:=h;exact⟨a,es,h1,e _ _ h2,h3,λx hx=>zH e (h4 x hx),Reps.mono e h5⟩
theorem Reps.mono(e:Yj H H'):∀{ds:List D} {vs:List V},Reps K mg H ds vs->Reps K mg H' ds vs
 | [],_,h=>by simpa only[Reps]using h
 |d::ds,_,h=>by
  simp only[Reps]at h ⊢;obtain⟨v,r,h1,h2,h3⟩:=h;exact⟨v,r,h1,Rep.mono e h2,Reps.mono e h3⟩
end
theorem Reps.length:∀{ds:List D} {vs:List V},Reps K mg H ds vs->vs.length=ds.length
 | [],_,h=>by simp only[Reps]at h;subst h;rfl
 |d::ds,_,h=>by
  simp only[Reps]at h;obtain⟨v,r,rfl,h2,h3⟩:=h;simp[Reps.length h3]
def Reps.nil:Reps K mg H [] []:=by simp only[Reps]
def Reps.cons{d:D}{v:V}{ds:List D}{vs:List V}(h:Rep K mg H d v)(t:Reps K mg H ds vs):Reps K mg H (d::ds) (v::vs):=by
 simp only[Reps];exact⟨v,vs,rfl,h,t⟩
theorem Reps.get:∀{ds:List D} {vs:List V} {i:Nat} {v:V},Reps K mg H ds vs->vs[i]?=some v->∃d,ds[i]?=some d/\Rep K mg H d v
 | [],_,_,_,h,e=>by simp only[Reps]at h;subst h;simp at e
 |d::ds,_,i,v,h,e=>by
  simp only[Reps]at h;obtain⟨v',r,rfl,h2,h3⟩:=h;cases i with
  |zero=>simp at e;subst e;exact⟨d,rfl,h2⟩|succ i=>simp at e;obtain⟨d',q1,q2⟩:=Reps.get h3 e;exact⟨d',by simpa using q1,q2⟩
theorem Reps.get':∀{ds:List D} {vs:List V} {i:Nat} {d:D},Reps K mg H ds vs->ds[i]?=some d->∃v,vs[i]?=some v/\Rep K mg H d v
 | [],_,_,_,h,e=>by simp at e
 |d::ds,_,i,d',h,e=>by
  simp only[Reps]at h;obtain⟨v',r,rfl,h2,h3⟩:=h;cases i with
  |zero=>simp at e;subst e;exact⟨v',rfl,h2⟩|succ i=>simp at e;obtain⟨v,q1,q2⟩:=Reps.get' h3 e;exact⟨v,by simpa using q1,q2⟩
theorem Reps.append:∀{ds es:List D} {vs ws:List V},Reps K mg H ds vs->Reps K mg H es ws->Reps K mg H (ds++es) (vs++ws)
 | [],_,_,_,h,g=>by simp only[Reps]at h;subst h;exact g
 |d::ds,_,_,_,h,g=>by
  simp only[Reps]at h;obtain⟨v',r,rfl,h2,h3⟩:=h;exact Reps.cons h2 (Reps.append h3 g)
theorem Reps.set:∀{ds:List D} {vs:List V} (i:Nat) {d:D} {v:V},Reps K mg H ds vs->Rep K mg H d v->Reps K mg H (ds.set i d) (vs.set i v)
 | [],_,_,_,_,h,g=>by simp only[Reps]at h;subst h;exact Reps.nil
 |d::ds,_,i,_,_,h,g=>by
  simp only[Reps]at h;obtain⟨v',r,rfl,h2,h3⟩:=h;cases i with
  |zero=>exact Reps.cons g h3|succ i=>exact Reps.cons h2 (Reps.set i h3 g)
theorem Reps.take:∀{ds:List D} {vs:List V} (n:Nat),Reps K mg H ds vs->Reps K mg H (ds.take n) (vs.take n)
 | [],_,_,h=>by simp only[Reps]at h;subst h;simp[Reps.nil]
 |d::ds,_,n,h=>by
  simp only[Reps]at h;obtain⟨v',r,rfl,h2,h3⟩:=h;cases n with
  |zero=>exact Reps.nil|succ n=>exact Reps.cons h2 (Reps.take n h3)
theorem Reps.drop:∀{ds:List D} {vs:List V} (n:Nat),Reps K mg H ds vs->Reps K mg H (ds.drop n) (vs.drop n)
 | [],_,_,h=>by simp only[Reps]at h;subst h;simp[Reps.nil]
 |d::ds,_,n,h=>by
  simp only[Reps]at h;obtain⟨v',r,rfl,h2,h3⟩:=h;cases n with
  |zero=>exact Reps.cons h2 h3|succ n=>exact Reps.drop n h3
theorem Reps.flatten{ds:List D}{vs:List V}(h:Reps K mg H ds vs):∀n:Nat,Reps K mg H (replicate n ds).flatten (replicate n vs).flatten
 |0=>Reps.nil|n+1=>by simp only[replicate_succ,flatten_cons];exact h.append (Reps.flatten h n)
end
open Classical in
def Hm(M:Addr->Prop)(H:Hp):Hp:=λb=>if M b then none else H b
section
variable{M M':Addr->Prop}{H H':Hp}{b:Addr}{o:HO}
def zo:Hm M H b=some o↔¬M b/\H b=some o:=by
 unfold Hm;by_cases h:M b
 ·simp[h]
 ·simp[h]
def zE:Yj (Hm M H) H:=λb o h=>(zo.mp h).2
def jI(h:∀b,M' b->M b):Yj (Hm M H) (Hm M' H):=λb o e=>zo.mpr ⟨λx=>(zo.mp e).1 (h b x),(zo.mp e).2⟩
end
inductive Slot where
 |e
 |v (d:D)
 |own (ds:List D)
 |par (ds:List D)
 |dct (ks:List (List KN)) (vs:List D)
 deriving Inhabited
abbrev zN:=List Slot
set_option genInjectivity true in
inductive R where
 |v (d:D)
 |own (ds:List D)
 |dct (ks:List (List KN)) (vs:List D)
 deriving Inhabited
def R.slot:R->Slot
 | .v d=>.v d| .own ds=>.own ds| .dct ks vs=>.dct ks vs
def R.d:R->D
 | .v d=>d| .own ds=>.l ds| .dct ks vs=>.dct ks vs
inductive Ct where
 |l (ds:List D)
 |d (ks:List (List KN)) (vs:List D)
def Slot.ct?:Slot->Option Ct
 | .own ds=>some (.l ds)| .par ds=>some (.l ds)| .dct ks vs=>some (.d ks vs)|_=>none
def CRep(K:qH)(mg:Str->Option Value)(H:Hp)(a:Addr):Ct->HO->Prop
 | .l ds,o=>∃xs,o=.l xs/\Reps K mg H ds xs| .d ks vs,o=>∃es,o=Yl a es/\ks=es.map (·.1)/\(∀e∈es,SqT K H e.2.1 (e.1.map oV))/\Reps K mg H vs (es.map (·.2.2))
theorem CRep.mono{K:qH}{mg:Str->Option Value}{H H':Hp}(e:Yj H H'){a:Addr}{o:HO}:∀{c:Ct},CRep K mg H a c o->CRep K mg H' a c o
 | .l ds,⟨xs,h1,h2⟩=>⟨xs,h1,h2.mono e⟩| .d ks vs,⟨es,h1,h2,h3,h4⟩=>⟨es,h1,h2,λx hx=>zH e (h3 x hx),h4.mono e⟩
def Slot.list?:Slot->Option (List D)
 | .own ds=>some ds| .par ds=>some ds|_=>none
abbrev Fz:=List (Option V×Slot)
def vJ:Option V×Slot->Option Addr
 | (some (.ref a),.own _)=>some a| (some (.ref a),.par _)=>some a| (some (.ref a),.dct _ _)=>some a|_=>none
def z7(Z:Fz):List Addr:=Z.filterMap vJ
def Mo(M:Addr->Prop)(Z:Fz):Addr->Prop:=λb=>M b\/b∈z7 Z
def zR(Z T:Fz):z7 (Z++T)=z7 Z++z7 T:=List.filterMap_append
def zb(o:Option V)(d:D)(Z:Fz):z7 ((o,.v d)::Z)=z7 Z:=by
 unfold z7;rw[List.filterMap_cons_none];cases o with
 |none=>rfl
 |some v=>cases v<;>rfl
def YK(a:Addr)(ds:List D)(Z:Fz):z7 ((some (.ref a),.own ds)::Z)=a::z7 Z:=rfl
def YL(a:Addr)(ks:List (List KN))(vs:List D)(Z:Fz):z7 ((some (.ref a),.dct ks vs)::Z)=a::z7 Z:=rfl
def zr(o:Option V)(Z:Fz):z7 ((o,.e)::Z)=z7 Z:=by
 unfold z7;rw[List.filterMap_cons_none];cases o with
 |none=>rfl
 |some v=>cases v<;>rfl
def jG(M:Addr->Prop)(T Z:Fz):Mo M (T++Z)=Mo (Mo M T) Z:=by
 funext b
 apply propext;simp only[Mo,zR,mem_append];constructor
 ·rintro (h|h|h)
  ·exact .inl (.inl h)
  ·exact .inl (.inr h)
  ·exact .inr h
 ·rintro ((h|h)|h)
  ·exact .inl h
  ·exact .inr (.inl h)
  ·exact .inr (.inr h)
def vK{M:Addr->Prop}{T Z:Fz}(p:T.Perm Z):Mo M T=Mo M Z:=by
 funext b
 apply propext;simp only[Mo,z7];rw[(p.filterMap vJ).mem_iff]
def wT(M:Addr->Prop)(o:Option V)(d:D)(Z:Fz):Mo M ((o,.v d)::Z)=Mo M Z:=by unfold Mo;rw[zb]
def uW(M:Addr->Prop)(o:Option V)(Z:Fz):Mo M ((o,.e)::Z)=Mo M Z:=by unfold Mo;rw[zr]
structure FR(K:qH)(mg:Str->Option Value)(M:Addr->Prop)(H:Hp)(Z:Fz):Prop where
 val:∀o d,(o,Slot.v d)∈Z->∃v,o=some v/\Rep K mg (Hm (Mo M Z) H) d v
 own:∀o s c,(o,s)∈Z->s.ct?=some c->∃a ho,o=some (.ref a)/\H a=some ho/\¬M a/\CRep K mg (Hm (Mo M Z) H) a c ho
 nd:(z7 Z).Nodup
 mal:∀b,M b->∃o,H b=some o/\OwnK o
structure Step(M:Addr->Prop)(H:Hp)(Z:Fz)(H':Hp)(Z':Fz):Prop where
 same:Yj (Hm (Mo M Z) H) (Hm (Mo M Z') H')
 keep:∀b o,M b->H b=some o->H' b=some o
section
variable{K:qH}{mg:Str->Option Value}{M:Addr->Prop}{H H' H1 H2:Hp}{Z Z' T Z1 Z2:Fz}
theorem Step.refl:Step M H Z H Z:=⟨Yj.refl _,λ_ _ _ h=>h⟩
theorem Step.trans(a:Step M H Z H1 Z1)(b:Step M H1 Z1 H2 Z2):Step M H Z H2 Z2 :=
 ⟨a.same.trans b.same,λx o m h=>b.keep x o m (a.keep x o m h)⟩
def JS(h:∀b,b∈z7 Z->b∈z7 Z'):∀b,Mo M Z b->Mo M Z' b:=λb q=>q.elim .inl λq=>.inr (h b q)
def Step.weak(a:Step M H Z H' Z')(h:∀b,b∈z7 T->b∈z7 Z'):Step M H Z H' T :=
 ⟨a.same.trans (jI (JS h)),a.keep⟩
def Step.left(a:Step M H Z H' Z')(h:∀b,b∈z7 Z->b∈z7 T):Step M H T H' Z' :=
 ⟨(jI (JS h)).trans a.same,a.keep⟩
def zC(h:T.Sublist Z):∀b,b∈z7 T->b∈z7 Z:=λb q=>(h.filterMap vJ).subset q
def zD(h:T.Perm Z):∀b,b∈z7 T->b∈z7 Z:=λb q=>(h.filterMap vJ).subset q
def FR.perm(h:FR K mg M H Z)(p:Z.Perm T):FR K mg M H T where
 val:=λo d q=>by rw[<- vK p];exact h.val o d (p.mem_iff.mpr q)
 own:=λo s ds q e=>by rw[<- vK p];exact h.own o s ds (p.mem_iff.mpr q) e
 nd:=(p.filterMap vJ).nodup_iff.mp h.nd
 mal:=h.mal
def FR.sub(h:FR K mg M H Z)(p:T.Sublist Z):FR K mg M H T where
 val:=λo d q=>by
  obtain⟨v,e,r⟩:=h.val o d (p.subset q);exact⟨v,e,r.mono (jI (JS (zC p)))⟩
 own:=λo s ds q e=>by
  obtain⟨a,xs,e1,e2,e3,r⟩:=h.own o s ds (p.subset q) e;exact⟨a,xs,e1,e2,e3,r.mono (jI (JS (zC p)))⟩
 nd:=h.nd.sublist (p.filterMap vJ)
 mal:=h.mal
def FR.tail{x:Option V×Slot}(h:FR K mg M H (x::Z)):FR K mg M H Z:=h.sub (sublist_cons_self _ _)
def zBS{s:Slot}{ds:List D}(e:s.list?=some ds):s.ct?=some (.l ds):=by
 cases s<;>first|(cases e;rfl)|(cases e)
def FR.ownL(h:FR K mg M H Z)(o:Option V)(s:Slot)(ds:List D)(m:(o,s)∈Z)(e:s.list?=some ds):∃a xs,o=some (.ref a)/\H a=some (.l xs)/\¬M a/\Reps K mg (Hm (Mo M Z) H) ds xs:=by
 obtain⟨a,ho,e1,e2,e3,xs,rfl,r⟩:=h.own o s _ m (zBS e);exact⟨a,xs,e1,e2,e3,r⟩
def yx{o:Option V}{s:Slot}{c:Ct}{a:Addr}(h:(o,s)∈Z)(e:s.ct?=some c)(ho:o=some (.ref a)):a∈z7 Z:=by
 subst ho;refine mem_filterMap.mpr ⟨_,h,?_⟩;cases s<;>simp[Slot.ct?]at e<;>rfl
def Gn{o:Option V}{s:Slot}{ds:List D}{a:Addr}(h:(o,s)∈Z)(e:s.list?=some ds)(ho:o=some (.ref a)):a∈z7 Z:=yx h (zBS e) ho
def Go{a:Addr}(h:a∈z7 Z):∃s c,(some (V.ref a),s)∈Z/\Slot.ct? s=some c:=by
 obtain⟨⟨o,s⟩,h1,h2⟩:=mem_filterMap.mp h;unfold vJ at h2;split at h2
 ·rename_i e;cases e;cases h2;exact⟨_,_,h1,rfl⟩
 ·rename_i e;cases e;cases h2;exact⟨_,_,h1,rfl⟩
 ·rename_i e;cases e;cases h2;exact⟨_,_,h1,rfl⟩
 ·cases h2
def CRep.own{K:qH}{mg:Str->Option Value}{H:Hp}{a:Addr}{o:HO}:∀{c:Ct},CRep K mg H a c o->OwnK o
 | .l _,⟨xs,h,_⟩=>.inl ⟨xs,h⟩| .d _ _,⟨es,h,_⟩=>.inr ⟨_,h⟩
def FR.ownAt(h:FR K mg M H Z){a:Addr}(e:a∈z7 Z):∃o,H a=some o/\¬M a/\OwnK o:=by
 obtain⟨s,c,h1,h2⟩:=Go e;obtain⟨a',o,e1,e2,e3,r⟩:=h.own _ s c h1 h2;cases e1;exact⟨o,e2,e3,r.own⟩
def FR.moAl(h:FR K mg M H Z)(b:Addr)(e:Mo M Z b):∃o,H b=some o/\OwnK o:=by
 rcases e with e|e
 ·exact h.mal b e
 ·obtain⟨xs,q,_,z⟩:=h.ownAt e
  exact⟨_,q,z⟩
def FR.inner(h:FR K mg M H (T++Z)):FR K mg (Mo M T) H Z where
 val:=λo d q=>by rw[<- jG];exact h.val o d (qK _ q)
 own:=λo s ds q e=>by
  obtain⟨a,xs,e1,e2,e3,r⟩:=h.own o s ds (qK _ q) e;refine⟨a,xs,e1,e2,λm=>?_,by rw[<- jG];exact r⟩;rcases m with m|m
  ·exact e3 m
  ·have nd:=h.nd
   rw[zR]at nd;exact(nodup_append.mp nd).2.2 a m a (yx q e e1) rfl
 nd:=by
  have nd:=h.nd;rw[zR]at nd;exact(nodup_append.mp nd).2.1
 mal:=λb q=>by
  rcases q with q|q
  ·exact h.mal b q
  ·obtain⟨xs,q,_,z⟩:=h.ownAt (a:=b) (by rw[zR];exact mem_append_left _ q)
   exact⟨_,q,z⟩
def FR.outer(h:FR K mg M H (T++Z))(g:FR K mg (Mo M T) H' Z')(st:Step (Mo M T) H Z H' Z'):FR K mg M H' (T++Z') where
 val:=λo d q=>by
  rw[jG];rcases mem_append.mp q with q|q
  ·obtain⟨v,e,r⟩:=h.val o d (mem_append_left _ q)
   rw[jG]at r;exact⟨v,e,r.mono st.same⟩
  ·exact g.val o d q
 own:=λo s ds q e=>by
  rw[jG];rcases mem_append.mp q with q|q
  ·obtain⟨a,xs,e1,e2,e3,r⟩:=h.own o s ds (mem_append_left _ q) e
   rw[jG]at r;exact⟨a,xs,e1,st.keep a _ (.inr (yx q e e1)) e2,e3,r.mono st.same⟩
  ·obtain⟨a,xs,e1,e2,e3,r⟩:=g.own o s ds q e
   exact⟨a,xs,e1,e2,λm=>e3 (.inl m),r⟩
 nd:=by
  rw[zR];have nd:=h.nd;rw[zR]at nd;refine nodup_append.mpr ⟨(nodup_append.mp nd).1,g.nd,λa ha b hb e=>?_⟩;subst e;obtain⟨xs,_,q,_⟩:=g.ownAt hb;exact q (.inr ha)
 mal:=λb q=>g.mal b (.inl q)
def Step.outer(st:Step (Mo M T) H Z H' Z'):Step M H (T++Z) H' (T++Z') :=
 ⟨by rw[jG,jG];exact st.same,λb o m h=>st.keep b o (.inl m) h⟩
def yE{p:Addr}{o:HO}(hp:H p=none):Yj H (upd H p o):=λb u e=>by
 rw[zc (λq=>by subst q;rw[hp]at e;cases e)];exact e
def FR.grow(h:FR K mg M H Z){p:Addr}{o:HO}(hp:H p=none):FR K mg M (upd H p o) Z where
 val:=λo' d q=>by
  obtain⟨v,e,r⟩:=h.val o' d q;exact⟨v,e,r.mono λb u x=>zo.mpr ⟨(zo.mp x).1,yE hp b u (zo.mp x).2⟩⟩
 own:=λo' s ds q e=>by
  obtain⟨a,xs,e1,e2,e3,r⟩:=h.own o' s ds q e;exact⟨a,xs,e1,yE hp _ _ e2,e3,r.mono λb u x=>zo.mpr ⟨(zo.mp x).1,yE hp b u (zo.mp x).2⟩⟩
 nd:=h.nd
 mal:=λb q=>by obtain⟨u,e,z⟩:=h.mal b q;exact⟨u,yE hp _ _ e,z⟩
def Step.grow{p:Addr}{o:HO}(hp:H p=none):Step M H Z (upd H p o) Z :=
 ⟨λb u x=>zo.mpr ⟨(zo.mp x).1,yE hp b u (zo.mp x).2⟩,λb u _ e=>yE hp b u e⟩
def FR.add(h:FR K mg M H Z){v:V}{d:D}(r:Rep K mg (Hm (Mo M Z) H) d v):FR K mg M H ((some v,.v d)::Z) where
 val:=λo d' q=>by
  rw[wT];rcases mem_cons.mp q with q|q
  ·cases q;exact⟨v,rfl,r⟩
  ·exact h.val o d' q
 own:=λo s ds q e=>by
  rw[wT];rcases mem_cons.mp q with q|q
  ·cases q;cases e
  ·exact h.own o s ds q e
 nd:=by rw[zb];exact h.nd
 mal:=h.mal
def Step.add{v:Option V}{d:D}(st:Step M H Z H' Z'):Step M H Z H' ((v,.v d)::Z'):=by
 refine⟨?_,st.keep⟩;rw[wT];exact st.same
def w9(h:FR K mg M H Z){p:Addr}(hp:H p=none):¬Mo M Z p:=λq=>by
 obtain⟨o,e,_⟩:=h.moAl p q;rw[hp]at e;cases e
def wC(h:FR K mg M H Z){p:Addr}{ds:List D}{xs:List V}(hp:H p=none):Yj (Hm (Mo M Z) H) (Hm (Mo M ((some (.ref p),.own ds)::Z)) (upd H p (.l xs))):=λb u x=>by
 obtain⟨h1,h2⟩:=zo.mp x;refine zo.mpr ⟨λq=>?_,yE hp _ _ h2⟩;rcases q with q|q
 ·exact h1 (.inl q)
 ·rw[YK]at q
  rcases mem_cons.mp q with q|q
  ·subst q;rw[hp]at h2;cases h2
  ·exact h1 (.inr q)
def FR.newOwn(h:FR K mg M H Z){p:Addr}{ds:List D}{xs:List V}(hp:H p=none)(r:Reps K mg (Hm (Mo M Z) H) ds xs):FR K mg M (upd H p (.l xs)) ((some (.ref p),.own ds)::Z) where
 val:=λo d q=>by
  rcases mem_cons.mp q with q|q
  ·cases q
  ·obtain⟨v,e,r⟩:=h.val o d q
   exact⟨v,e,r.mono (wC h hp)⟩
 own:=λo s ds' q e=>by
  rcases mem_cons.mp q with q|q
  ·cases q;cases e
   exact⟨p,_,rfl,yY,λm=>w9 h hp (.inl m),xs,rfl,r.mono (wC h hp)⟩
  ·obtain⟨a,ys,e1,e2,e3,r⟩:=h.own o s ds' q e
   exact⟨a,ys,e1,yE hp _ _ e2,e3,r.mono (wC h hp)⟩
 nd:=by
  rw[YK];exact nodup_cons.mpr ⟨λq=>w9 h hp (.inr q),h.nd⟩
 mal:=λb q=>by obtain⟨u,e,z⟩:=h.mal b q;exact⟨u,yE hp _ _ e,z⟩
def Step.newOwn(h:FR K mg M H Z){p:Addr}{ds:List D}{xs:List V}(hp:H p=none):Step M H Z (upd H p (.l xs)) ((some (.ref p),.own ds)::Z) :=
 ⟨wC h hp,λb u _ e=>yE hp b u e⟩
def jY(h:FR K mg M H Z){p:Addr}{ks:List (List KN)}{vs:List D}{o:HO}(hp:H p=none):Yj (Hm (Mo M Z) H) (Hm (Mo M ((some (.ref p),.dct ks vs)::Z)) (upd H p o)):=λb u x=>by
 obtain⟨h1,h2⟩:=zo.mp x;refine zo.mpr ⟨λq=>?_,yE hp _ _ h2⟩;rcases q with q|q
 ·exact h1 (.inl q)
 ·rw[YL]at q
  rcases mem_cons.mp q with q|q
  ·subst q;rw[hp]at h2;cases h2
  ·exact h1 (.inr q)
def FR.newDct(h:FR K mg M H Z){p:Addr}{vs:List D}{es:List DE}(hp:H p=none)(hk:∀e∈es,SqT K (Hm (Mo M Z) H) e.2.1 (e.1.map oV))(r:Reps K mg (Hm (Mo M Z) H) vs (es.map (·.2.2))):FR K mg M (upd H p (Yl p es)) ((some (.ref p),.dct (es.map (·.1)) vs)::Z) where
 val:=λo d q=>by
  rcases mem_cons.mp q with q|q
  ·cases q
  ·obtain⟨v,e,r⟩:=h.val o d q
   exact⟨v,e,r.mono (jY h hp)⟩
 own:=λo s c q e=>by
  rcases mem_cons.mp q with q|q
  ·cases q;cases e
   exact⟨p,_,rfl,yY,λm=>w9 h hp (.inl m),es,rfl,rfl,λx hx=>zH (jY h hp) (hk x hx),r.mono (jY h hp)⟩
  ·obtain⟨a,ys,e1,e2,e3,r⟩:=h.own o s c q e
   exact⟨a,ys,e1,yE hp _ _ e2,e3,r.mono (jY h hp)⟩
 nd:=by
  rw[YL];exact nodup_cons.mpr ⟨λq=>w9 h hp (.inr q),h.nd⟩
 mal:=λb q=>by obtain⟨u,e,z⟩:=h.mal b q;exact⟨u,yE hp _ _ e,z⟩
def Step.newDct(h:FR K mg M H Z){p:Addr}{ks:List (List KN)}{vs:List D}{o:HO}(hp:H p=none):Step M H Z (upd H p o) ((some (.ref p),.dct ks vs)::Z) :=
 ⟨jY h hp,λb u _ e=>yE hp b u e⟩
def FR.newTup(h:FR K mg M H Z){p:Addr}{ds:List D}{xs:List V}(hp:H p=none)(r:Reps K mg (Hm (Mo M Z) H) ds xs):FR K mg M (upd H p (.t xs)) ((some (.ref p),.v (.t ds))::Z):=by
 refine(h.grow hp).add ?_;simp only[Rep];refine⟨p,xs,rfl,SqT.of (zo.mpr ⟨w9 h hp,yY⟩),r.mono λb u x=>zo.mpr ⟨(zo.mp x).1,yE hp b u (zo.mp x).2⟩⟩
def Step.newVal{p:Addr}{o:HO}{v:Option V}{d:D}(hp:H p=none):Step M H Z (upd H p o) ((v,.v d)::Z):=(Step.grow hp).add
def FR.frz{o:Option V}{r:R}(h:FR K mg M H ((o,r.slot)::Z)):FR K mg M H ((o,.v r.d)::Z):=by
 cases r with
 |v d=>exact h
 |own ds =>
  obtain⟨a,xs,e1,e2,e3,rr⟩:=h.ownL o (.own ds) ds qE rfl;subst e1;have hn:¬Mo M Z a:=λq=>by
   rcases q with q|q
   ·exact e3 q
   ·exact(nodup_cons.mp h.nd).1 q
  refine h.tail.add ?_;simp only[R.d,Rep];exact⟨a,xs,rfl,SqL.of (zo.mpr ⟨hn,e2⟩),rr.mono (jI (JS (zC (sublist_cons_self _ _))))⟩
 |dct ks vs =>
  obtain⟨a,ho,e1,e2,e3,es,rfl,r1,r2,r3⟩:=h.own o (.dct ks vs) (.d ks vs) qE rfl;subst e1;have hn:¬Mo M Z a:=λq=>by
   rcases q with q|q
   ·exact e3 q
   ·exact(nodup_cons.mp h.nd).1 q
  refine h.tail.add ?_;have sm:=jI (H:=H) (JS (M:=M) (zC (sublist_cons_self ((some (V.ref a),Slot.dct ks vs)) Z)));simp only[R.d,Rep];exact⟨a,es,rfl,zo.mpr ⟨hn,e2⟩,r1,λx hx=>zH sm (r2 x hx),r3.mono sm⟩
def Step.frz{o:Option V}{r:R}(h:Step M H Z H' ((o,r.slot)::Z')):Step M H Z H' ((o,.v r.d)::Z'):=by
 cases r with
 |v d=>exact h
 |own ds =>
  refine h.weak λb q=>?_
  rw[zb]at q;exact(zC (sublist_cons_self _ _)) b q
 |dct ks vs =>
  refine h.weak λb q=>?_
  rw[zb]at q;exact(zC (sublist_cons_self _ _)) b q
theorem vL:∀(O:St) (E:zN) (i:Nat) (o:Option V) (s:Slot),(O.set i o).zip (E.set i s)=(O.zip E).set i (o,s)
 | [],_,_,_,_=>by simp|_::_,[],_,_,_=>by simp|x::O,y::E,0,o,s=>by simp|x::O,y::E,i+1,o,s=>by simp[vL O E i o s]
theorem zQ{α:Type}(x:α):∀(l:List α) (i:Nat),i<l.length->(l.set i x).Perm (x::l.eraseIdx i)
 | [],_,h=>by simp at h|y::l,0,_=>List.Perm.refl _
 |y::l,i+1,h=>by
  have ih:=zQ x l i (by simpa using h);simp only[List.set_cons_succ,List.eraseIdx_cons_succ];exact(ih.cons y).trans (List.Perm.swap x y _)
def FR.put(h:FR K mg M H (((o:Option V),s)::Z)){i:Nat}(hi:i<Z.length):FR K mg M H (Z.set i (o,s)) :=
 (h.sub ((eraseIdx_sublist Z i).cons_cons (o,s))).perm (zQ _ _ _ hi).symm
def Step.put{o:Option V}{s:Slot}(h:Step M H Z H' ((o,s)::Z')){i:Nat}(hi:i<Z'.length):Step M H Z H' (Z'.set i (o,s)):=by
 refine h.weak λb q=>?_
 exact zC ((eraseIdx_sublist Z' i).cons_cons (o,s)) b (zD (zQ _ _ _ hi) b q)
end
inductive Out(α:Type) where
 |z
 |ok (a:α)
 |exc (x:Exn) (E:zN)
 deriving Inhabited
abbrev ME:=zN->Out (R×zN)
abbrev MA:=zN->Out (List R×zN)
abbrev MT:=zN->Out (Bool×zN)
def PKp(O:St)(E:zN)(O':St)(E':zN):Prop:=∀(i:Nat) ds,E[i]?=some (.par ds)->(∃ds',E'[i]?=some (.par ds'))/\O'[i]?=O[i]?
def PKp.refl{O:St}{E:zN}:PKp O E O E:=λi ds h=>⟨⟨ds,h⟩,rfl⟩
theorem PKp.trans{O O1 O2:St}{E E1 E2:zN}(a:PKp O E O1 E1)(b:PKp O1 E1 O2 E2):PKp O E O2 E2:=λi ds h=>by
 obtain⟨⟨ds1,h1⟩,e1⟩:=a i ds h;obtain⟨h2,e2⟩:=b i ds1 h1;exact⟨h2,e2.trans e1⟩
structure Got(K:qH)(mg:Str->Option Value)(M:Addr->Prop)(O:St)(E:zN)(H:Hp)(T0:Fz)(O':St)(E':zN)(H':Hp)(T:Fz):Prop where
 len:E'.length=O'.length
 fr:FR K mg M H' (T++(T0++O'.zip E'))
 st:Step M H (T0++O.zip E) H' (T++(T0++O'.zip E'))
 pk:PKp O E O' E'
def zBT(vs:List V)(rs:List R):Fz:=(vs.zip rs).map λp=>(some p.1,p.2.slot)
def KM(X:Cx)(M:Addr->Prop)(O:St)(E:zN)(H:Hp)(T0:Fz)(Q:VK):Out (R×zN)->Prop
 | .z=>False| .ok (r,E')=>∀v H',Got X.K X.mg M O E H T0 O E' H' [(some v,r.slot)]->Q v H'| .exc x E'=>∀H',Got X.K X.mg M O E H T0 O E' H' []->XE X O H' x
def KT(X:Cx)(M:Addr->Prop)(O:St)(E:zN)(H:Hp)(T0:Fz)(Q:Bool->Hp->Prop):Out (Bool×zN)->Prop
 | .z=>False| .ok (b,E')=>∀H',Got X.K X.mg M O E H T0 O E' H' []->Q b H'| .exc x E'=>∀H',Got X.K X.mg M O E H T0 O E' H' []->XE X O H' x
def KA(X:Cx)(M:Addr->Prop)(O:St)(E:zN)(H:Hp)(T0:Fz)(Q:List V->Hp->Prop):Out (List R×zN)->Prop
 | .z=>False| .ok (rs,E')=>∀vs H',vs.length=rs.length->Got X.K X.mg M O E H T0 O E' H' (zBT vs rs)->Q vs H'| .exc x E'=>∀H',Got X.K X.mg M O E H T0 O E' H' []->XE X O H' x
def tM(X:Cx)(m:ME):TE:=λO H Q=>∃M E,E.length=O.length/\FR X.K X.mg M H (O.zip E)/\KM X M O E H [] Q (m E)
def tMT(X:Cx)(m:MT):TT:=λO H Q=>∃M E,E.length=O.length/\FR X.K X.mg M H (O.zip E)/\KT X M O E H [] Q (m E)
def tMA(X:Cx)(m:MA):TA:=λO H Q=>∃M E,E.length=O.length/\FR X.K X.mg M H (O.zip E)/\KA X M O E H [] Q (m E)
abbrev EOk(X:Cx)(e:Expr)(m:ME):Prop:=PE X e (tM X m)
abbrev TOk(X:Cx)(e:Expr)(m:MT):Prop:=PT X e (tMT X m)
abbrev AOk(X:Cx)(es:List Expr)(m:MA):Prop:=PA X es (tMA X m)
def zf{X:Cx}{e:Expr}{t t':TE}(h:PE X e t)(i:∀O H Q,t' O H Q->t O H Q):PE X e t':=λpins s O H Q I q=>h pins s O H Q I (i O H Q q)
def Qj{X:Cx}{e:Expr}{t t':TT}(h:PT X e t)(i:∀O H Q,t' O H Q->t O H Q):PT X e t':=λpins s O H Q I q=>h pins s O H Q I (i O H Q q)
def pw_imp{X:Cx}{e:Expr}{t t':TT}(h:PW X e t)(i:∀O H Q,t' O H Q->t O H Q):PW X e t':=λwh pins s O H Q I q=>h wh pins s O H Q I (i O H Q q)
def uX{X:Cx}{e:List Expr}{t t':TA}(h:PA X e t)(i:∀O H Q,t' O H Q->t O H Q):PA X e t':=λp pins s O H Q I q=>h p pins s O H Q I (i O H Q q)
def yW{X:Cx}{e:Stmt}{t t':TS}(h:PS X e t)(i:∀D O H,t' D O H->t D O H):PS X e t':=λpins s O H D I q=>h pins s O H D I (i D O H q)
def zBU{X:Cx}{e:List Stmt}{t t':TS}(h:PSs X e t)(i:∀D O H,t' D O H->t D O H):PSs X e t':=λpins s O H D I q=>h pins s O H D I (i D O H q)
section
variable{X:Cx}{K:qH}{mg:Str->Option Value}{M:Addr->Prop}{O O' O1 O2:St}{E E' E1 E2:zN}{H H' H1 H2:Hp}{T0 T T1 T2:Fz}{Q:VK}
def swapP{α:Type}(A B C:List α):(A++(B++([]++C))).Perm (B++(A++C)):=by
 rw[nil_append,<- append_assoc,<- append_assoc];exact(perm_append_comm).append_right _
def jj{α:Type}{l:List α}{i:Nat}{x:α}(h:l[i]?=some x):l.set i x=l:=by
 obtain⟨hi,rfl⟩:=qG.mp h;exact List.set_getElem_self hi
theorem Got.outer(h:FR K mg M H (T0++O.zip E))(g:Got K mg (Mo M T0) O E H [] O' E' H' T):Got K mg M O E H T0 O' E' H' T where
 len:=g.len
 fr:=by
  have q:=FR.outer h g.fr g.st;exact q.perm (swapP _ _ _)
 st:=by
  have q:=Step.outer g.st;refine q.weak λb hb=>?_
  exact zD (swapP _ _ _).symm b hb
 pk:=g.pk
theorem Got.trans(a:Got K mg M O E H T0 O1 E1 H1 T1)(b:Got K mg M O1 E1 H1 (T1++T0) O2 E2 H2 T2):Got K mg M O E H T0 O2 E2 H2 (T2++T1) where
 len:=b.len
 fr:=by
  have q:=b.fr;rw[append_assoc]at q;rw[append_assoc];exact q
 st:=by
  have q:=b.st;rw[append_assoc,append_assoc]at q;rw[append_assoc];exact a.st.trans q
 pk:=a.pk.trans b.pk
def Got.dropAll(a:Got K mg M O E H T0 O1 E1 H1 T1):Got K mg M O E H T0 O1 E1 H1 [] where
 len:=a.len
 fr:=a.fr.sub (sublist_append_right _ _)
 st:=a.st.weak (zC (sublist_append_right _ _))
 pk:=a.pk
def Got.trans'(a:Got K mg M O E H [] O1 E1 H1 T1)(b:Got K mg M O1 E1 H1 T1 O2 E2 H2 T2):Got K mg M O E H [] O2 E2 H2 (T2++T1):=a.trans (by rw[append_nil];exact b)
theorem Got.refl(hl:E.length=O.length)(h:FR K mg M H (T0++O.zip E)):Got K mg M O E H T0 O E H []:=⟨hl,h,Step.refl,PKp.refl⟩
def Got.more(a:Got K mg M O E H [] O1 E1 H1 T1)(f:FR K mg M H2 (T++O1.zip E1))(s:Step M H1 (O1.zip E1) H2 (T++O1.zip E1)):Got K mg M O E H [] O1 E1 H2 T where
 len:=a.len
 fr:=f
 st:=(a.st.weak (zC (sublist_append_right _ _))).trans s
 pk:=a.pk
def Got.frame(a:Got K mg M O E H [] O1 E1 H1 T1):FR K mg M H1 (O1.zip E1):=a.fr.sub (sublist_append_right _ _)
def Wx(v:V)(r:R)(vs:List V)(rs:List R):zBT (v::vs) (r::rs)=(some v,r.slot)::zBT vs rs:=rfl
theorem zBV:∀{vs:List V} {rs:List R} {Z:Fz},vs.length=rs.length->FR K mg M H (zBT vs rs++Z)->Reps K mg (Hm (Mo M Z) H) (rs.map R.d) vs
 | [],[],Z,_,h=>Reps.nil
 |v::vs,r::rs,Z,hl,h=>by
  rw[Wx,List.cons_append]at h;refine Reps.cons ?_ (zBV (by simpa using hl) h.tail);obtain⟨v',e,q⟩:=h.frz.val (some v) r.d qE;cases e;refine q.mono (jI (JS λb hb=>?_));rw[zb,zR];exact qK _ hb
def Got.reps{vs:List V}{rs:List R}(hl:vs.length=rs.length)(a:Got K mg M O E H [] O1 E1 H1 (zBT vs rs)):Reps K mg (Hm (Mo M (O1.zip E1)) H1) (rs.map R.d) vs:=zBV hl a.fr
def Got.rep{v:V}{r:R}(a:Got K mg M O E H [] O1 E1 H1 [(some v,r.slot)]):Rep K mg (Hm (Mo M (O1.zip E1)) H1) r.d v:=by
 have q:=Got.reps (vs:=[v]) (rs:=[r]) rfl a;simp only[List.map,Reps]at q;obtain⟨v',r',e,h,_⟩:=q;cases e;exact h
def ze{m:ME}(hl:E.length=O.length)(h:FR X.K X.mg M H (T0++O.zip E))
  (k:KM X M O E H T0 Q (m E)):tM X m O H Q:=by
 refine⟨Mo M T0,E,hl,h.inner,?_⟩;cases e:m E with
 |z=>rw[e]at k;exact k|ok a=>rw[e]at k;exact λv H' g=>k v H' (g.outer h)|exc x E'=>rw[e]at k;exact λH' g=>k H' (g.outer h)
def Yo{m:MT}{Q:Bool->Hp->Prop}(hl:E.length=O.length)(h:FR X.K X.mg M H (T0++O.zip E))
  (k:KT X M O E H T0 Q (m E)):tMT X m O H Q:=by
 refine⟨Mo M T0,E,hl,h.inner,?_⟩;cases e:m E with
 |z=>rw[e]at k;exact k|ok a=>rw[e]at k;exact λH' g=>k H' (g.outer h)|exc x E'=>rw[e]at k;exact λH' g=>k H' (g.outer h)
def Jk{m:MA}{Q:List V->Hp->Prop}(hl:E.length=O.length)(h:FR X.K X.mg M H (T0++O.zip E))
  (k:KA X M O E H T0 Q (m E)):tMA X m O H Q:=by
 refine⟨Mo M T0,E,hl,h.inner,?_⟩;cases e:m E with
 |z=>rw[e]at k;exact k|ok a=>rw[e]at k;exact λvs H' hv g=>k vs H' hv (g.outer h)|exc x E'=>rw[e]at k;exact λH' g=>k H' (g.outer h)
def eC(d:D):ME:=λE=>.ok (.v d,E)
def flat:D->Bool
 | .non | .bl _ | .int _ | .str _=>true
 |_=>false
def flV:D->V
 | .bl b=>.bl b| .int i=>.int i| .str x=>.str x|_=>.non
def Ql{d:D}(h:flat d=true):Rep K mg H d (flV d):=by
 cases d<;>simp[flat]at h<;>simp[Rep,flV]
theorem Got.flat(a:Got K mg M O E H [] O1 E1 H1 T1){d:D}(h:flat d=true):Got K mg M O E H [] O1 E1 H1 [(some (flV d),.v d)] :=
 a.more (a.frame.add (Ql h)) Step.refl.add
def ok_c{e:Expr}{d:D}(h:PE X e (tC (flV d)))(hf:flat d=true:=by rfl):EOk X e (eC d):=zf h λO H Q ⟨M,E,hl,f,k⟩ =>
 k (flV d) H ((Got.refl (T0:=[]) hl f).flat hf)
def ok_int{i j pos}:EOk X (.Constant (.int i) j pos) (eC (.int i)):=ok_c pe_int
def ok_bl{b j pos}:EOk X (.Constant (.bool b) j pos) (eC (.bl b)):=ok_c pe_bl
def ok_non{j pos}:EOk X (.Constant .none j pos) (eC .non):=ok_c pe_non
def ok_str{x j pos}:EOk X (.Constant (.str x) j pos) (eC (.str x)):=ok_c pe_str
def zAU(i:Nat):ME:=λE=>match E[i]? with
 |some (.v d)=>.ok (.v d,E)|some (.own ds)=>.ok (.v (.l ds),E.set i (.v (.l ds)))|some (.dct ks vs)=>.ok (.v (.dct ks vs),E.set i (.v (.dct ks vs)))|_=>.z
def jZ{i:Nat}{s:Slot}(hl:E.length=O.length)(h:E[i]?=some s):∃o,O[i]?=some o/\(O.zip E)[i]?=some (o,s):=by
 have hi:i<E.length:=(qG.mp h).1;have:i<O.length:=hl▸hi;refine⟨O[i],by simp[this],?_⟩;rw[List.getElem?_zip_eq_some];exact⟨by simp[this],h⟩
def jt{i:Nat}{s:Slot}(hl:E.length=O.length)(h:E[i]?=some s):∃o,O[i]?=some o/\(o,s)∈O.zip E:=by
 obtain⟨o,h1,h2⟩:=jZ hl h;exact⟨o,h1,mem_of_getElem? h2⟩
def zS{i:Nat}{o:Option V}(s:Slot)(h:O[i]?=some o):O.zip (E.set i s)=(O.zip E).set i (o,s):=by
 rw[<- vL];congr 1;have hi:i<O.length:=(qG.mp h).1;apply List.ext_getElem?;intro j;by_cases e:i=j
 ·subst e;rw[getElem?_set_self hi,h]
 ·rw[getElem?_set_ne e]
def Zq{i:Nat}{s:Slot}{ds0:List D}(h:E[i]?=some s)(hs:∀ds,s≠.par ds)(o:Slot):PKp O E O (E.set i o):=λj ds e=>by
 have ne:i≠j:=λq=>by subst q;rw[h]at e;exact hs ds (qJ e)
 exact⟨⟨ds,by rw[getElem?_set_ne ne];exact e⟩,rfl⟩
def ok_var(i:Nat){x:Str}{pos:Pos}(h:PE X (.Name x pos) (vD i)):EOk X (.Name x pos) (zAU i):=zf h λO H Q ⟨M,E,hl,f,k⟩=>by
 unfold zAU at k;cases e:E[i]? with
 |none=>rw[e]at k;exact k.elim
 |some sl =>
 rw[e]at k;cases sl with
 |e=>exact k.elim|par ds=>exact k.elim
 |v d =>
  obtain⟨o,h1,h2⟩:=jt hl e;obtain⟨v,rfl,r⟩:=f.val o d h2;exact⟨v,h1,k v H ⟨hl,f.add r,Step.refl.add,PKp.refl⟩⟩
 |own ds =>
  obtain⟨o,h1,h2⟩:=jZ hl e;obtain⟨a,xs,rfl,q1,q2,q3⟩:=f.ownL o (.own ds) ds (mem_of_getElem? h2) rfl;refine⟨.ref a,h1,k _ H ?_⟩;have hlt:i<(O.zip E).length:=(qG.mp h2).1;have p:(O.zip E).Perm ((some (.ref a),R.slot (.own ds))::(O.zip E).eraseIdx i):=by
   have:=zQ (some (V.ref a),Slot.own ds) (O.zip E) i hlt;rw[jj h2]at this;exact this
  have f1:=(f.perm p).frz;have f2:FR X.K X.mg M H ((O.zip E).set i (some (.ref a),.v (.l ds))):=f1.perm (zQ _ _ _ hlt).symm;rw[<- zS (.v (.l ds)) h1]at f2;have r:=f1.val _ _ qE;obtain⟨v,ev,rr⟩:=r;cases ev;have em:Mo M ((some (V.ref a),Slot.v (R.own ds).d)::(O.zip E).eraseIdx i)=Mo M (O.zip (E.set i (.v (.l ds)))):=by
   rw[zS (.v (.l ds)) h1];exact(vK (zQ _ _ _ hlt)).symm
  rw[em]at rr;refine⟨by simp[hl],f2.add rr,?_,?_⟩
  ·refine Step.add ?_
   refine Step.weak Step.refl λb hb=>?_
   refine zD p.symm b ?_;rw[nil_append,zS (.v (.l ds)) h1]at hb;have hb':=zD (zQ _ _ _ hlt) b hb;rw[zb]at hb';exact zC (sublist_cons_self _ _) b hb'
  ·exact Zq (ds0:=[]) e (λds' q=>by cases q) _
 |dct ks vs =>
  obtain⟨o,h1,h2⟩:=jZ hl e;obtain⟨a,ho,rfl,q1,q2,q3⟩:=f.own o (.dct ks vs) (.d ks vs) (mem_of_getElem? h2) rfl;refine⟨.ref a,h1,k _ H ?_⟩;have hlt:i<(O.zip E).length:=(qG.mp h2).1;have p:(O.zip E).Perm ((some (.ref a),R.slot (.dct ks vs))::(O.zip E).eraseIdx i):=by
   have:=zQ (some (V.ref a),Slot.dct ks vs) (O.zip E) i hlt;rw[jj h2]at this;exact this
  have f1:=(f.perm p).frz;have f2:FR X.K X.mg M H ((O.zip E).set i (some (.ref a),.v (.dct ks vs))):=f1.perm (zQ _ _ _ hlt).symm;rw[<- zS (.v (.dct ks vs)) h1]at f2;have r:=f1.val _ _ qE;obtain⟨v,ev,rr⟩:=r;cases ev;have em:Mo M ((some (V.ref a),Slot.v (R.dct ks vs).d)::(O.zip E).eraseIdx i)=Mo M (O.zip (E.set i (.v (.dct ks vs)))):=by
   rw[zS (.v (.dct ks vs)) h1];exact(vK (zQ _ _ _ hlt)).symm
  rw[em]at rr;refine⟨by simp[hl],f2.add rr,?_,?_⟩
  ·refine Step.add ?_
   refine Step.weak Step.refl λb hb=>?_
   refine zD p.symm b ?_;rw[nil_append,zS (.v (.dct ks vs)) h1]at hb;have hb':=zD (zQ _ _ _ hlt) b hb;rw[zb]at hb';exact zC (sublist_cons_self _ _) b hb'
  ·exact Zq (ds0:=[]) e (λds' q=>by cases q) _
end
def zT:Expr->Bool
 | .Starred _ _=>true|_=>false
def ja:List Expr->Bool
 | []=>true|e::es=>!zT e&&ja es
def zI{e:Expr}{es:List Expr}{env:Env}(h:zT e=false):starEach (e::es) env=(false,eval e env)::starEach es env:=by
 cases e<;>first|rfl|(cases h)
def star2{a b:Expr}{env:Env}(ha:zT a=false)(hb:zT b=false):starEach [a,b] env=[(false,eval a env),(false,eval b env)]:=by
 rw[zI ha,zI hb];rfl
def zDY{a:Expr}{env:Env}(ha:zT a=false):starEach [a] env=[(false,eval a env)]:=by
 rw[zI ha];rfl
def jL:Expr->Bool
 | .Set _ _ _=>false|_=>true
def yh{e:Expr}{env:Env}(h:jL e=true):∀x,foldedSetIterable e env x=pure x:=by
 intro x;cases e<;>first|rfl|(cases h)
def Jl:Expr->Bool
 | .ListComp _ _ _ _=>false| .SetComp _ _ _ _=>false| .DictComp _ _ _ _ _=>false|_=>true
def vM{e:Expr}{t:Option Expr}{l:Nat}{env:Env}(h:Jl e=true):swapsWith e t l env=pure false:=by
 cases e<;>first|rfl|(cases h)
def zE9:Expr->Bool
 | .UnaryOp .Not _ _=>false| .BoolOp _ _ _=>false| .IfExp _ _ _ _=>false| .Compare _ _ _ _=>false|_=>true
def test_of{e:Expr}{env:Env}(h:zE9 e=true):∀whole,isTrue e env whole=(do let v <- whole;standAt e.pos;holding [v] (truthy v)):=by
 intro x;cases e<;>first|rfl|(cases h)|skip;rename_i op _ _;cases op<;>first|rfl|(cases h)
def Wb:Expr->Bool
 | .Slice _ _ _ _=>false|_=>true
theorem uY{env:Env}:∀{es:List Expr},ja es=true->(starEach es env).any (·.1)=false
 | [],_=>rfl
 |e::es,h=>by
  simp only[ja,Bool.and_eq_true,Bool.not_eq_true']at h;rw[zI h.1];simp[uY h.2]
def zDZ(pos:Pos)(l:List (Bool×Sem Value)):(backTo pos l).any (·.1)=l.any (·.1):=by
 unfold backTo;rw[List.any_map];rfl
def j1{env:Env}{es:List Expr}{pos:Pos}(h:ja es=true):(backTo pos (starEach es env)).any (·.1)=false:=by
 rw[zDZ,uY h]
end DV
namespace L2
open PySem PySem.Spec PyProof.Rows
section
variable{X:Cx}
def zFA(K:qH):R2:=λx y H Q=>∃a b xs ys,x=.ref a/\y=.ref b/\SqT K H a xs/\SqT K H b ys/\xs.length+ys.length<=sizeLine /\
 (xs=[]->Q (.ref b) H)/\(xs≠[]->ys=[]->Q (.ref a) H)/\(xs≠[]->ys≠[]->∀p,H p=none->Q (.ref p) (upd H p (.t (xs++ys))))
def zDa:OpR X (binaryOp .Add) (zFA X.K):=by
 intro pins s O H x y v u Q I rx ry h;obtain⟨a,b,xs,ys,rfl,rfl,ha,hb,hz,q0,q1,q2⟩:=h;cases rx;cases ry;obtain⟨its,r1,p1,_⟩:=I.tuple ha;obtain⟨its2,r2,p2,_⟩:=I.tuple hb;by_cases hx:xs=[]
 ·have hi:its=[]:=r1.nil_iff.mpr hx
  obtain⟨⟨cls,dd,data,sl⟩,ho,hc,n,hd⟩:=id p1;obtain⟨⟨cls2,dd2,data2,sl2⟩,ho2,hc2,n2,hd2⟩:=id p2;simp only at hc hd hc2 hd2;subst hc hd hc2 hd2;exact concat_meets ⟨_,ho,rfl⟩ ⟨_,ho2,rfl⟩ noFill_tuple_add seq_tuple_add PySem.F.slot_tuple_add PySem.F.entry_tuple_add (PySem.F.args_tuple_add_2 _ _)
   (tuple_addW0 a b its.toArray its2.toArray n n2 dd dd2 sl sl2 (by simp[hi])) ⟨ho,ho2,⟨.ref b,H,I,rfl,q0 hx⟩⟩
 ·exact op_catT pins s O H (.ref a) (.ref b) (.ref a) (.ref b) Q I rfl rfl ⟨a,b,xs,ys,rfl,rfl,ha,hb,hx,hz,q1 hx,q2 hx⟩
def rCatL(K:qH):R2:=λx y H Q=>∃l b xs zs,x=.ref l/\y=.ref b/\SqL K H l xs/\SqL K H b zs/\xs.length+zs.length<=sizeLine/\∀p,H p=none->Q (.ref p) (upd H p (.l (xs++zs)))
def op_catL:OpR X (binaryOp .Add) (rCatL X.K):=by
 intro pins s O H x y v u Q I rx ry h;obtain⟨l,b,xs,zs,rfl,rfl,hH,hB,hz,q⟩:=h;cases rx;cases ry;obtain⟨its,r,pl,_⟩:=I.list hH;obtain⟨its2,r2,pl2,_⟩:=I.list hB;have hl:=r.length;have hl2:=r2.length;obtain⟨⟨cls,dd,data,sl⟩,n,ho,hc,hdd,hd⟩:=pl;obtain⟨⟨cls2,dd2,data2,sl2⟩,n2,ho2,hc2,hdd2,hd2⟩:=pl2;simp only at hc hd hc2 hd2;subst hc hd hc2 hd2;refine concat_meets ⟨_,ho,rfl⟩ ⟨_,ho2,rfl⟩ noFill_list_add seq_list_add PySem.F.slot_list_add PySem.F.entry_list_add (PySem.F.args_list_add_2 _ _) (list_addW l b its.toArray its2.toArray n n2 dd dd2 sl sl2 (by rw[size_toArray,size_toArray];omega)) ⟨ho,ho2,?_⟩;have ea:its.toArray++its2.toArray=(its++its2).toArray:=by simp
 rw[ea];exact⟨.ref _,_,I.lnew (t':=s.toks) (r.append r2) (by rw[length_append];omega),rfl,q _ I.fresh⟩
def Jm{prog:Program}{w:World}{A:Around}{E:Value->Shared->Prop}{s:Shared}{t sl:Addr}{items:Array Value}{vl vu:Value}{lo hi:Option Int}{Q:Value->Shared->Prop}(ht:IsTup s.heap t items)(hs:s.heap.IsSliceOf sl vl vu .none)(pl:IsPart vl lo)(pu:IsPart vu hi)
  (h1:HT.sIx items.size 0 lo=0) (h2:HT.sIx items.size items.size hi=items.size)
  (h:Q (.ref t) s):wpAny (model prog w) A (getItem (.ref t) (.ref sl)) Q E s:=by
 obtain⟨os,hos,hcs,hds⟩:=id hs;have hTs:s.TypeIs (.ref sl) "slice":=⟨os,hos,hcs⟩;unfold getItem
 try with_reducible refine wpAny_holding ?_
 first|refine qB (qC ?_)|skip
 refine qB (wpAny_sequenceKey ht.typeIs (by decide) ?_);refine qB (wpAny_callSpecial?_slot (name:=Str.ofString "__getitem__") ht.typeIs PyProof.Rows.slot_tuple_getitem
  (wpAny_call_entry PyProof.Rows.slot_tuple_getitem ht.typeIs entry_tuple_getitem ?_ (args_tuple_getitem _ _)))
 show wpAny _ _ (Builtin.Tuple.tupleItemsOf (.ref t) >>= _) _ _ s
 refine qB (tupleItemsOf_ ht ?_);refine qB (wpAny_typeOf hTs ?_);rw[if_pos (by decide)];refine qB (HT.sliceApplied_gen hs pl pu ?_);have hyes:(((HT.sIx items.size 0 lo:Nat):Int)==0&&(1:Int)==1&&(HT.sIx items.size items.size hi-HT.sIx items.size 0 lo)==items.size)=true:=by
  rw[h1,h2];simp
 show wpAny _ _ (if(((HT.sIx items.size 0 lo:Nat):Int)==0&&(1:Int)==1&&(HT.sIx items.size items.size hi-HT.sIx items.size 0 lo)==items.size)=true then _ else _) _ _ s
 rw[if_pos hyes];unfold Builtin.Tuple.tupleIsExact;refine qB (qB (wpAny_typeOf ht.typeIs (qC ?_)));rw[if_pos (by decide)];exact qB (wpAny_rule (qC ⟨_,rfl,qC h⟩))
def rSlTT(K:qH):V->Option Int->Option Int->Hp->VK->Prop:=λx lo hi H Q=>∃a xs,x=.ref a/\SqT K H a xs /\
 ((HT.sIx xs.length 0 lo=0/\HT.sIx xs.length xs.length hi=xs.length)->Q (.ref a) H) /\
 (¬(HT.sIx xs.length 0 lo=0/\HT.sIx xs.length xs.length hi=xs.length)->∀p,H p=none->Q (.ref p) (upd H p (.t (zDP xs lo hi))))
def sl_tupT:SlR X (rSlTT X.K):=by
 intro pins s O H x v vl vu lo hi sl Q I rx hs pl pu h;obtain⟨a,xs,rfl,hx,q1,q2⟩:=h;by_cases hw:HT.sIx xs.length 0 lo=0/\HT.sIx xs.length xs.length hi=xs.length
 ·cases rx
  obtain⟨its,r,ht,hz⟩:=I.tuple hx;have hlen:its.toArray.size=xs.length:=by rw[size_toArray];exact r.length.symm
  refine⟨"tuple",_,PyProof.Rows.slot_tuple_getitem.lookup,ht.typeIs,?_⟩;exact Jm ht hs pl pu (by rw[hlen];exact hw.1) (by rw[hlen];exact hw.2) ⟨.ref a,H,I,rfl,q1 hw⟩
 ·exact sl_tup pins s O H (.ref a) v vl vu lo hi sl Q I rx hs pl pu ⟨a,xs,rfl,hx,hw,q2 hw⟩
theorem uZ:∀bs:List Bool,(List.range bs.length).all (λi=>bs.getD i false)=bs.all id
 | []=>rfl
 |b::bs=>by
  rw[length_cons,List.range_succ_eq_map,all_cons,all_cons,List.all_map,<- uZ bs];rfl
def zDb(hc:X.calm=true):j9 X (.builtin "all") (λxs H Q=>∃(p:Addr) (bs:List Bool),xs=[.ref p]/\SqL X.K H p (bs.map V.bl)/\Q (.bl (bs.all id)) H):=by
 intro pins s O H xs us Q I r h;obtain⟨p,bs,rfl,hq,q⟩:=h;obtain⟨u,rfl,rx⟩:=vF r;cases rx;obtain⟨its,rv,pl,hz⟩:=I.list hq;have hlen:=rv.length;refine call_all_walk (wpAny_pyIter_list pl.isList ?_);have hp:p<s.heap.objs.size:=by obtain⟨o,n,e,_⟩:=pl;exact lt_size e
 have hk:∀b o,s.heap.get? b=some o->(s.heap.push {cls:=.type "list_iterator",data:=.fields #[.ref p,.int 0 0]}).get? b=some o:=λb o e=>qA _ e
 have htr:∀(i:Nat) (v:Value),its.toArray[i]?=some v->v=Value.bool (bs.getD i false):=λi v hv=>by
  have hv':its[i]?=some v:=by simpa using hv
  have hi:i<its.length:=(qG.mp hv').1;have hx:i<(bs.map V.bl).length:=by rw[hlen];exact hi
  obtain⟨u',e1,e2⟩:=rv.get (i:=i) (x:=(bs.map V.bl)[i]) (by simp[hx]);rw[hv']at e1;cases e1;rw[length_map]at hx;rw[List.getElem_map]at e2;have:v=.bool (bs[i]):=e2;rw[this];simp[hx]
 refine⟨s.heap.objs.size,[s.heap.objs.size,p],[s.heap.objs.size],its.toArray.size,_,_,λi=>bs.getD i false,rfl,
  Walks.list (by show X.A.handled=none;exact I.ok.hd hc) _ p (ne_of_lt hp) its.toArray,⟨⟨_,get?_push_size _ rfl,rfl,rfl⟩,?_⟩,?_,?_⟩
 ·obtain⟨o,e,c⟩:=pl.isList
  exact⟨o,hk _ _ e,c⟩
 ·intro i v s' Q' E' hv hQ
  rw[htr i v hv];exact wpAny_truthy_bool hQ
 ·intro h' tk kp
  have e:(List.range its.toArray.size).all (λi=>bs.getD i false)=bs.all id:=by
   rw[size_toArray,<- hlen,length_map,uZ]
  rw[e];exact⟨.bl (bs.all id),H,I.kept (t':=tk) λb o eb=>kp b o (λm=>by
   have:b=s.heap.objs.size:=by simpa using m
   subst this;exact absurd (lt_size eb) (lt_irrefl _)) (hk b o eb),rfl,q⟩
def ZM:fillsNumberSlot (.type "tuple") "mul"=pure false :=
 PySem.fillsNumberSlot_seq (id:="tuple.__mul__") (r:=some (.builtin "tuple.__rmul__")) F.slot_tuple_mul.lookup (by decide +kernel) F.slot_tuple_rmul.lookup (by decide +kernel)
def ub:seqRepeat? (.type "tuple")=pure (some (.builtin "tuple.__mul__")):=by
 unfold seqRepeat?;rw[PySem.seqSlot_of (T:="tuple") (name:="__mul__") (id:="tuple.__mul__") F.slot_tuple_mul.lookup (by decide +kernel),PySem.seqSlot_of (T:="tuple") (name:="__rmul__") (id:="tuple.__rmul__") F.slot_tuple_rmul.lookup (by decide +kernel)];rfl
def Wc(a:Int)(t:Tok)(l:Addr)(items:Array Value)(n:Nat)(dd:Option Addr)(sl:Array (Option Value)) :
  Meets (Builtin.«int.__rmul__» ⟨[.int a t,.ref l],[]⟩) (λ_ R s=>s.heap.get? l=some {cls:=.type "tuple",dict:=dd,data:=.seq items n,slots:=sl}/\R (.ok (.ret Value.notImplemented)) s) :=
 .of_wp λprog w A R s h=>by obtain⟨hp,g,d,tk,os⟩:=s;obtain⟨hl,h⟩:=h;wp_walk;exact⟨_,rfl,h⟩
def Wd{prog:Program}{w:World}{A:Around}{E:Value->Shared->Prop}{s:Shared}{l:Addr}{items:Array Value}{k:Int}{t:Tok}{Q:Value->Shared->Prop}(hl:IsTup s.heap l items)(h1:-(2^63)<=k)(h2:k<2^63)
  (hz:(items.size:Int)*k<=sizeLine) (q0:items.isEmpty=true\/k=1->Q (.ref l) s)
  (q1:k<=0->Q (.ref s.heap.objs.size) {s with heap:=s.heap.push {cls:=.type "tuple",data:=.seq #[]}})
  (q2:Q (.ref s.heap.objs.size) {s with heap:=s.heap.push {cls:=.type "tuple",data:=.seq ((replicate k.toNat items).foldl (·++·) #[])}})
  (hfit:sizeOk (.seq ((replicate k.toNat items).foldl (·++·) #[]))) :
  wpAny (model prog w) A (call (.builtin "tuple.__mul__") [.ref l,.int k t]) Q E s:=by
 refine wpAny_call_entry F.slot_tuple_mul hl.typeIs F.entry_tuple_mul ?_ (F.args_tuple_mul_2 _ _);show wpAny _ _ (asIndex (.int k t) >>= _) _ _ s;refine qB (wpAny_of_eq (a:=k) rfl ?_);dsimp only;rw[if_neg (by simp only[Bool.or_eq_true,decide_eq_true_eq];omega)];refine qB (tupleItemsOf_ hl ?_);by_cases e1:(items.isEmpty||k==1)=true
 ·rw[if_pos e1]
  unfold Builtin.Tuple.tupleIsExact;refine qB (qB (wpAny_typeOf hl.typeIs (qC ?_)));rw[if_pos (by decide)];refine qB (wpAny_rule (qC ⟨_,rfl,q0 ?_⟩));rw[Bool.or_eq_true,beq_iff_eq]at e1;exact e1
 ·rw[if_neg e1]
  by_cases e2:(decide (k<=0)||items.isEmpty)=true
  ·rw[if_pos e2]
   have hk:k<=0:=by
    simp only[Bool.or_eq_true,decide_eq_true_eq,beq_iff_eq,not_or]at e1 e2;rcases e2 with e2|e2
    ·exact e2
    ·exact absurd e2 e1.1
   exact qB (m:=Builtin.Tuple.tupleExact _) (wpAny_newObj_type (qC ⟨_,rfl,q1 hk⟩) (by show(#[]:Array Value).size<=sizeLine;simp))
  ·rw[if_neg e2]
   have hs:sizeLine=16777216:=sizeLine_eq;rw[if_neg (by rw[hs]at hz;omega),if_neg (by unfold Builtin.Tuple.tupleTooMany;simp only[decide_eq_true_eq];omega)];exact qB (m:=Builtin.Tuple.tupleExact _) (wpAny_newObj_type (qC ⟨_,rfl,q2⟩) hfit)
def rRepT(K:qH):R2:=λx y H Q=>∃l k xs,x=.ref l/\y=.int k/\SqT K H l xs/\-(2^63)<=k/\k<2^63/\xs.length*k.toNat<=sizeLine /\
 (xs=[]\/k=1->Q (.ref l) H)/\(∀p,H p=none->Q (.ref p) (upd H p (.t (replicate k.toNat xs).flatten)))
def op_repT:OpR X (binaryOp .Mult) (rRepT X.K):=by
 intro pins s O H x y v u Q I rx ry h;obtain⟨l,k,xs,rfl,rfl,hH,h1,h2,hz,q0,q⟩:=h;cases rx;obtain⟨t,rfl⟩:=ry;obtain⟨its,r,pt,_⟩:=I.tuple hH;have hl:=r.length;obtain⟨⟨cls,dd,data,sl⟩,ho,hc,n,hd⟩:=id pt;simp only at hc hd;subst hc hd;have hnew:foldl (λx1 x2=>x1++x2) #[] (replicate k.toNat its.toArray)=(replicate k.toNat its).flatten.toArray:=by
  have:=Zk its k.toNat [];rw[nil_append]at this;exact this
 have hlen:(replicate k.toNat its).flatten.length<=sizeLine:=by rw[Gf,mul_comm,<- hl];exact hz
 have hzz:((its.toArray.size:Nat):Int)*k<=(sizeLine:Nat):=by
  rw[size_toArray,<- hl];by_cases hk:0<=k
  ·obtain⟨m,rfl⟩:=Int.eq_ofNat_of_zero_le hk
   have:xs.length*m<=sizeLine:=by simpa using hz
   exact_mod_cast this
  ·have:(xs.length:Int)*k<=0:=Int.mul_nonpos_of_nonneg_of_nonpos (Int.natCast_nonneg _) (by omega)
   omega
 refine wpAny_binaryOp_repeat_ref (T:="tuple") (U:="int") (by decide) ⟨_,ho,rfl⟩ (λs'=>typeIs_int s' k t) ZM F.fills_int_mul F.slot_int_rmul ub F.slot_int_index.lookup
  (call_meets F.slot_int_rmul (typeIs_int s k t) F.entry_int_rmul (F.args_int_rmul_2 _ _) (Wc k t l its.toArray n dd sl) ⟨ho,rfl,⟨_,ho,rfl⟩,?_⟩)
 refine Wd pt h1 h2 hzz (λe=>⟨.ref l,H,I,rfl,q0 ?_⟩) (λe=>?_) ?_ ?_
 ·rcases e with e|e
  ·left
   have:its=[]:=by simpa using e
   exact r.nil_iff.mp this
  ·right;exact e
 ·have ek:k.toNat=0:=by omega
  have q':=q s.heap.objs.size I.fresh;rw[ek]at q';exact⟨.ref s.heap.objs.size,_,I.laid (t':=s.toks) (o:=.t []) (λb ob q=>qA _ q) (le_refl _) ⟨zero_le _,[],.nil,IsTup.new _ _⟩,rfl,q'⟩
 ·rw[hnew]
  exact⟨.ref s.heap.objs.size,_,I.laid (t':=s.toks) (o:=.t (replicate k.toNat xs).flatten) (λb ob q=>qA _ q) (le_refl _) ⟨by rw[Gf,mul_comm];exact hz,_,r.rep k.toNat,IsTup.new _ _⟩,rfl,q _ I.fresh⟩
 ·rw[hnew]
  show(replicate k.toNat its).flatten.toArray.size<=sizeLine
  rw[size_toArray];exact hlen
end
end L2
namespace DV
open PySem L2
def cap:Nat:=1000000
def wa{n:Nat}(h:n<=cap):n<=sizeLine:=le_trans h (by rw[sizeLine_eq];decide)
abbrev Kt(K:qH)(mg:Str->Option Value)(M:Addr->Prop)(H:Hp)(Z:Fz)(res:R)(Q:VK):Prop :=
 ∀v H',FR K mg M H' ((some v,res.slot)::Z)->Step M H Z H' ((some v,res.slot)::Z)->Q v H'
def ROk(K:qH)(mg:Str->Option Value)(rel:R2)(f:D->D->Option R):Prop :=
 ∀(M:Addr->Prop) (H:Hp) (Z:Fz) (x y:V) (d1 d2:D) (res:R) (Q:VK),FR K mg M H Z->Rep K mg (Hm (Mo M Z) H) d1 x->Rep K mg (Hm (Mo M Z) H) d2 y->f d1 d2=some res->Kt K mg M H Z res Q->rel x y H Q
def COk(K:qH)(mg:Str->Option Value)(rel:List V->Hp->VK->Prop)(f:List D->Option R):Prop :=
 ∀(M:Addr->Prop) (H:Hp) (Z:Fz) (xs:List V) (ds:List D) (res:R) (Q:VK),FR K mg M H Z->Reps K mg (Hm (Mo M Z) H) ds xs->f ds=some res->Kt K mg M H Z res Q->rel xs H Q
section
variable{X:Cx}{K:qH}{mg:Str->Option Value}{M:Addr->Prop}{H H':Hp}{Z:Fz}{Q:VK}{O:St}
theorem Kt.flat{d:D}(k:Kt K mg M H Z (.v d) Q)(f:FR K mg M H Z)(h:flat d=true):Q (flV d) H:=k _ _ (f.add (Ql h)) Step.refl.add
def Kt.rep{d:D}{v:V}(k:Kt K mg M H Z (.v d) Q)(f:FR K mg M H Z)(h:Rep K mg (Hm (Mo M Z) H) d v):Q v H:=k _ _ (f.add h) Step.refl.add
theorem Kt.tup{ds:List D}{xs:List V}{p:Addr}(k:Kt K mg M H Z (.v (.t ds)) Q)(f:FR K mg M H Z)(hp:H p=none)(h:Reps K mg (Hm (Mo M Z) H) ds xs):Q (.ref p) (upd H p (.t xs)):=k _ _ (f.newTup hp h) (Step.newVal hp)
theorem Kt.own{ds:List D}{xs:List V}{p:Addr}(k:Kt K mg M H Z (.own ds) Q)(f:FR K mg M H Z)(hp:H p=none)(h:Reps K mg (Hm (Mo M Z) H) ds xs):Q (.ref p) (upd H p (.l xs)):=k _ _ (f.newOwn hp h) (Step.newOwn f hp)
def ZN(f:D->D->Option R)(a b:ME):ME:=λE=>match a E with
 | .z=>.z| .exc x E1=>.exc x E1
 | .ok (r1,E1)=>match b E1 with
  | .z=>.z| .exc x E2=>.exc x E2
  | .ok (r2,E2)=>match f r1.d r2.d with
   |some r=>.ok (r,E2)|none=>.z
def vN{rel:R2}{f:D->D->Option R}{a b:ME}(hr:ROk X.K X.mg rel f){H:Hp}{Q:VK}(h:tM X (ZN f a b) O H Q):tOp rel (tM X a) (tM X b) O H Q:=by
 obtain⟨M,E,hl,fr,k⟩:=h;unfold ZN at k;refine ze (T0:=[]) hl fr ?_;cases ea:a E with
 |z=>rw[ea]at k;exact k|exc x E1=>rw[ea]at k;exact λH' g=>k H' g
 |ok p =>
  obtain⟨r1,E1⟩:=p;rw[ea]at k;intro x H1 g1;refine ze (T0:=[(some x,r1.slot)]) g1.len g1.fr ?_;dsimp only at k;cases eb:b E1 with
  |z=>rw[eb]at k;exact k|exc x E2=>rw[eb]at k;exact λH' g=>k H' (g1.trans' g).dropAll
  |ok p =>
   obtain⟨r2,E2⟩:=p;rw[eb]at k;intro y H2 g2;have g:=g1.trans' g2;have rp:=Got.reps (vs:=[y,x]) (rs:=[r2,r1]) rfl g;simp only[List.map,Reps]at rp;obtain⟨y',_,e1,ry,x',_,e2,rx,_⟩:=rp;cases e1;cases e2;dsimp only at k;cases ef:f r1.d r2.d with
   |none=>rw[ef]at k;exact k.elim
   |some r =>
    rw[ef]at k;exact hr M H2 _ x y r1.d r2.d r Q g.frame rx ry ef λv H' f' s'=>k v H' (g.more (T:=[(some v,r.slot)]) f' s')
def zAV{op:Operator}{rel:R2}{f:D->D->Option R}{a b:Expr}{ma mb:ME}{pos:Pos}(ho:OpR X (binaryOp op) rel)(hr:ROk X.K X.mg rel f)(ha:EOk X a ma)(hb:EOk X b mb):EOk X (.BinOp a op b pos) (ZN f ma mb) :=
 zf (pe_op ho ha hb) λO H Q h=>vN hr h
def Zr{op:CmpOp}{rel:R2}{f:D->D->Option R}{a b:Expr}{ma mb:ME}{pos:Pos}(ho:OpR X (compareOp op) rel)(hr:ROk X.K X.mg rel f)(hm:behindInMarks op b=false)(ha:EOk X a ma)(hb:EOk X b mb):EOk X (.Compare a [op] [b] pos) (ZN f ma mb) :=
 zf (pe_cmpR ho ha hb hm) λO H Q h=>vN hr h
def ok_ix{rel:R2}{f:D->D->Option R}{a b:Expr}{ma mb:ME}{pos:Pos}(ho:IxR X rel)(hr:ROk X.K X.mg rel f)(hs:Zj b)(ha:EOk X a ma)(hb:EOk X b mb):EOk X (.Subscript a b pos) (ZN f ma mb) :=
 zf (pe_ix ho ha hb hs) λO H Q h=>vN hr h
def tT(m:ME):MT:=λE=>match m E with
 | .z=>.z| .exc x E1=>.exc x E1| .ok (.v (.bl b),E1)=>.ok (b,E1)|_=>.z
def zBW{m:ME}{H:Hp}{Q:Bool->Hp->Prop}(h:tMT X (tT m) O H Q):tM X m O H λx H'=>∃k,x=.bl k/\Q k H':=by
 obtain⟨M,E,hl,fr,k⟩:=h;refine⟨M,E,hl,fr,?_⟩;unfold tT at k;cases e:m E with
 |z=>rw[e]at k;exact k|exc x E1=>rw[e]at k;exact k
 |ok p =>
  obtain⟨r,E1⟩:=p;rw[e]at k;cases r with
  |own ds=>exact k.elim|dct _ _=>exact k.elim
  |v d =>
   cases d with
   |bl b =>
    intro v H' g;have rp:=g.rep;simp only[R.d,Rep]at rp;exact⟨b,rp,k H' g.dropAll⟩
   |_=>exact k.elim
def ok_test{e:Expr}{m:ME}(h:EOk X e m)(he:∀whole,isTrue e X.env whole=(do let v <- whole;standAt e.pos;holding [v] (truthy v)):=by intro _;rfl):TOk X e (tT m) :=
 Qj (pt_val h he) λO H Q q=>zBW q
def Jn{op:CmpOp}{rel:R2}{f:D->D->Option R}{a b:Expr}{ma mb:ME}{pos:Pos}(ho:OpR X (compareOp op) rel)(hr:ROk X.K X.mg rel f)(hm:behindInMarks op b=false)(ha:EOk X a ma)(hb:EOk X b mb):TOk X (.Compare a [op] [b] pos) (tT (ZN f ma mb)) :=
 Qj (pt_cmpR ho ha hb hm) λO H Q h=>vN hr (zBW h)
def Gp(a b:MT):MT:=λE=>match a E with
 | .ok (true,E1)=>b E1|o=>o
def zAW(a b:MT):MT:=λE=>match a E with
 | .ok (false,E1)=>b E1|o=>o
def Yp(a:MT):MT:=λE=>match a E with
 | .z=>.z| .exc x E1=>.exc x E1| .ok (b,E1)=>.ok (!b,E1)
def or_run{a b:MT}{H:Hp}{Q:Bool->Hp->Prop}(h:tMT X (zAW a b) O H Q):tOr (tMT X a) (tMT X b) O H Q:=by
 obtain⟨M,E,hl,fr,k⟩:=h;unfold zAW at k;refine Yo (T0:=[]) hl fr ?_;cases ea:a E with
 |z=>rw[ea]at k;exact k|exc x E1=>rw[ea]at k;exact k
 |ok p =>
  obtain⟨c,E1⟩:=p;rw[ea]at k;intro H1 g1;cases c with
  |true=>exact zE7 (k H1 g1)
  |false =>
   refine zE6 ?_;refine Yo (T0:=[]) g1.len g1.fr ?_;dsimp only at k;cases eb:b E1 with
   |z=>rw[eb]at k;exact k|exc x E2=>rw[eb]at k;exact λH' g=>k H' (g1.trans' g)|ok p=>rw[eb]at k;exact λH' g=>k H' (g1.trans' g)
def not_run{a:MT}{H:Hp}{Q:Bool->Hp->Prop}(h:tMT X (Yp a) O H Q):tNot (tMT X a) O H Q:=by
 obtain⟨M,E,hl,fr,k⟩:=h;unfold Yp at k;refine Yo (T0:=[]) hl fr ?_;cases ea:a E with
 |z=>rw[ea]at k;exact k|exc x E1=>rw[ea]at k;exact k|ok p=>rw[ea]at k;exact k
abbrev WOk(X:Cx)(e:Expr)(m:MT):Prop:=PW X e (tMT X m)
def wk_or1{a:Expr}{m:MT}{pos:Pos}(h:TOk X a m):WOk X (.BoolOp .Or [a] pos) m:=pw_or1 h
def wk_or{a b:Expr}{ZR:List Expr}{ma mb:MT}{pos:Pos}(ha:TOk X a ma)(hb:WOk X (.BoolOp .Or (b::ZR) pos) mb):WOk X (.BoolOp .Or (a::b::ZR) pos) (zAW ma mb):=pw_imp (pw_or ha hb) λO H Q=>or_run
def tk_w{e:Expr}{m:MT}(h:WOk X e m):TOk X e m:=h.pt
def tk_not{a:Expr}{m:MT}{pos:Pos}(h:TOk X a m):TOk X (.UnaryOp .Not a pos) (Yp m):=Qj (pt_not h) λO H Q=>not_run
def zBX(a:ME):ME:=λE=>match a E with
 | .ok (.v (.bl b),E1)=>.ok (.v (.bl (!b)),E1)| .exc x E1=>.exc x E1|_=>.z
def Qm(a b:ME):ME:=λE=>match a E with
 | .ok (.v (.bl true),E1)=>b E1| .ok (.v (.bl false),E1)=>.ok (.v (.bl false),E1)| .exc x E1=>.exc x E1|_=>.z
def eOr(a b:ME):ME:=λE=>match a E with
 | .ok (.v (.bl false),E1)=>b E1| .ok (.v (.bl true),E1)=>.ok (.v (.bl true),E1)| .exc x E1=>.exc x E1|_=>.z
def zDc{a:ME}{H:Hp}{Q:VK}(h:tM X (zBX a) O H Q):tNotV (tM X a) O H Q:=by
 obtain⟨M,E,hl,fr,k⟩:=h;unfold zBX at k;refine ze (T0:=[]) hl fr ?_;cases ea:a E with
 |z=>rw[ea]at k;exact k|exc x E1=>rw[ea]at k;exact k
 |ok p =>
  obtain⟨r,E1⟩:=p;rw[ea]at k;cases r with
  |own ds=>exact k.elim|dct _ _=>exact k.elim
  |v d =>
   cases d with
   |bl b =>
    intro v H' g;have rp:=g.rep;simp only[R.d,Rep]at rp;exact⟨b,rp,k _ H' (g.flat (d:=.bl (!b)) rfl)⟩
   |_=>exact k.elim
def zDd{a b:ME}{H:Hp}{Q:VK}(h:tM X (Qm a b) O H Q):tAndV (tM X a) (tM X b) O H Q:=by
 obtain⟨M,E,hl,fr,k⟩:=h;unfold Qm at k;refine ze (T0:=[]) hl fr ?_;cases ea:a E with
 |z=>rw[ea]at k;exact k|exc x E1=>rw[ea]at k;exact k
 |ok p =>
  obtain⟨r,E1⟩:=p;rw[ea]at k;cases r with
  |own ds=>exact k.elim|dct _ _=>exact k.elim
  |v d =>
   cases d with
   |bl c =>
    intro v H' g;have rp:=g.rep;simp only[R.d,Rep]at rp;refine⟨c,rp,?_⟩;cases c with
    |false=>exact zE6 (k _ H' (g.flat (d:=.bl false) rfl))
    |true =>
     refine zE7 (ze (T0:=[]) g.len g.frame ?_);dsimp only at k;cases eb:b E1 with
     |z=>rw[eb]at k;exact k|exc x E2=>rw[eb]at k;exact λH'' g'=>k H'' (g.dropAll.trans' g')|ok p=>rw[eb]at k;exact λv'' H'' g'=>k v'' H'' (g.dropAll.trans' g')
   |_=>exact k.elim
def ok_not{a:Expr}{m:ME}{pos:Pos}(h:EOk X a m):EOk X (.UnaryOp .Not a pos) (zBX m):=zf (pe_not h) λO H Q=>zDc
def zFB{a b:Expr}{ZR:List Expr}{ma mb:ME}{pos:Pos}(ha:EOk X a ma)(hb:EOk X (.BoolOp .And (b::ZR) pos) mb):EOk X (.BoolOp .And (a::b::ZR) pos) (Qm ma mb):=zf (pe_and ha hb) λO H Q=>zDd
def ok_one{a:Expr}{op:BoolOp}{m:ME}{pos:Pos}(h:EOk X a m):EOk X (.BoolOp op [a] pos) m:=pe_one h
def eIf(c:MT)(a b:ME):ME:=λE=>match c E with
 | .ok (true,E1)=>a E1| .ok (false,E1)=>b E1| .exc x E1=>.exc x E1| .z=>.z
def if_run{c:MT}{a b:ME}{H:Hp}{Q:VK}(h:tM X (eIf c a b) O H Q):tIf (tMT X c) (tM X a) (tM X b) O H Q:=by
 obtain⟨M,E,hl,fr,k⟩:=h;unfold eIf at k;refine Yo (T0:=[]) hl fr ?_;cases ea:c E with
 |z=>rw[ea]at k;exact k|exc x E1=>rw[ea]at k;exact k
 |ok p =>
  obtain⟨t,E1⟩:=p;rw[ea]at k;intro H1 g1;cases t with
  |true =>
   refine zE7 (ze (T0:=[]) g1.len g1.fr ?_);dsimp only at k;cases eb:a E1 with
   |z=>rw[eb]at k;exact k|exc x E2=>rw[eb]at k;exact λH' g=>k H' (g1.trans' g)|ok p=>rw[eb]at k;exact λv H' g=>k v H' (g1.trans' g)
  |false =>
   refine zE6 (ze (T0:=[]) g1.len g1.fr ?_);dsimp only at k;cases eb:b E1 with
   |z=>rw[eb]at k;exact k|exc x E2=>rw[eb]at k;exact λH' g=>k H' (g1.trans' g)|ok p=>rw[eb]at k;exact λv H' g=>k v H' (g1.trans' g)
def ok_if{c a b:Expr}{mc:MT}{ma mb:ME}{pos:Pos}(hc:TOk X c mc)(ha:EOk X a ma)(hb:EOk X b mb):EOk X (.IfExp c a b pos) (eIf mc ma mb):=zf (zDE hc ha hb) λO H Q=>if_run
def zBY:MA:=λE=>.ok ([],E)
def Yq(a:ME)(m:MA):MA:=λE=>match a E with
 | .z=>.z| .exc x E1=>.exc x E1
 | .ok (r,E1)=>match m E1 with
  | .z=>.z| .exc x E2=>.exc x E2| .ok (rs,E2)=>.ok (r::rs,E2)
def ak_nil:AOk X [] zBY:=uX Y7 λO H Q ⟨M,E,hl,fr,k⟩=>k [] H rfl (Got.refl (T0:=[]) hl fr)
theorem Got.perm{K:qH}{mg:Str->Option Value}{M:Addr->Prop}{O O1:St}{E E1:zN}{H H1:Hp}{T0 T T':Fz}(a:Got K mg M O E H T0 O1 E1 H1 T)(p:T.Perm T'):Got K mg M O E H T0 O1 E1 H1 T' where
 len:=a.len
 fr:=a.fr.perm (p.append_right _)
 st:=a.st.weak (zD (p.append_right _).symm)
 pk:=a.pk
def zDe{a:ME}{m:MA}{H:Hp}{Q:List V->Hp->Prop}(h:tMA X (Yq a m) O H Q):tCons (tM X a) (tMA X m) O H Q:=by
 obtain⟨M,E,hl,fr,k⟩:=h;unfold Yq at k;refine ze (T0:=[]) hl fr ?_;cases ea:a E with
 |z=>rw[ea]at k;exact k|exc x E1=>rw[ea]at k;exact k
 |ok p =>
  obtain⟨r1,E1⟩:=p;rw[ea]at k;intro x H1 g1;refine Jk (T0:=[(some x,r1.slot)]) g1.len g1.fr ?_;dsimp only at k;cases eb:m E1 with
  |z=>rw[eb]at k;exact k|exc x E2=>rw[eb]at k;exact λH' g=>k H' (g1.trans' g).dropAll
  |ok p =>
   obtain⟨rs,E2⟩:=p;rw[eb]at k;intro vs H2 hv g2;refine k (x::vs) H2 (by simp[hv]) ?_;rw[Wx];exact(g1.trans' g2).perm (perm_append_comm)
def ak_cons{e:Expr}{es:List Expr}{a:ME}{m:MA}(ha:EOk X e a)(hm:AOk X es m)(hs:zT e=false:=by rfl):AOk X (e::es) (Yq a m):=uX (yw ha hm (zI hs)) λO H Q=>zDe
def eCB(f:List D->Option R)(m:MA):ME:=λE=>match m E with
 | .z=>.z| .exc x E1=>.exc x E1
 | .ok (rs,E1)=>match f (rs.map R.d)with
  |some r=>.ok (r,E1)|none=>.z
def Qn{rel:List V->Hp->VK->Prop}{f:List D->Option R}{m:MA}(hr:COk X.K X.mg rel f){H:Hp}{Q:VK}(h:tM X (eCB f m) O H Q):tCB rel (tMA X m) O H Q:=by
 obtain⟨M,E,hl,fr,k⟩:=h;unfold eCB at k;refine Jk (T0:=[]) hl fr ?_;cases ea:m E with
 |z=>rw[ea]at k;exact k|exc x E1=>rw[ea]at k;exact k
 |ok p =>
  obtain⟨rs,E1⟩:=p;rw[ea]at k;intro vs H1 hv g;have rp:=Got.reps hv g;dsimp only at k;cases ef:f (rs.map R.d)with
  |none=>rw[ef]at k;exact k.elim
  |some r =>
   rw[ef]at k;exact hr M H1 _ vs _ r Q g.frame rp ef λv H' f' s'=>k v H' (g.more (T:=[(some v,r.slot)]) f' s')
def zBZ(m:MA):ME:=eCB (λds=>if ds.length<=cap then some (.v (.t ds))else none) m
def zBa(m:MA):ME:=eCB (λds=>if ds.length<=cap then some (.own ds)else none) m
def ok_tup{es:List Expr}{m:MA}{x1:Nat}{pos:Pos}(h:AOk X es m):EOk X (.Tuple es x1 pos) (zBZ m) :=
 zf (pe_tup h) λO H Q q=>Qn (rel:=λxs H1 Q=>xs.length<=sizeLine/\∀p,H1 p=none->Q (.ref p) (upd H1 p (.t xs))) (λM H Z xs ds res Q f r e k=>by
  split at e
  ·rename_i hc
   cases e;exact⟨by rw[r.length];exact wa hc,λp hp=>k.tup f hp r⟩
  ·cases e) q
def ok_lst{es:List Expr}{m:MA}{pos:Pos}(h:AOk X es m):EOk X (.List es pos) (zBa m) :=
 zf (pe_lst h) λO H Q q=>Qn (rel:=λxs H1 Q=>xs.length<=sizeLine/\∀p,H1 p=none->Q (.ref p) (upd H1 p (.l xs))) (λM H Z xs ds res Q f r e k=>by
  split at e
  ·rename_i hc
   cases e;exact⟨by rw[r.length];exact wa hc,λp hp=>k.own f hp r⟩
  ·cases e) q
def JA{f:List D->Option R}{m:MA}{rel:List V->Hp->VK->Prop}{id:String}{x:Str}{p pos:Pos}{e:Expr}{es:List Expr}(hc:j9 X (.builtin id) rel)(hr:COk X.K X.mg rel f)(hg:Gl X x)(hm:X.mg x=none)(hv:bootBuiltins x=some (.builtin id))(ha:AOk X (e::es) m)(hn:x≠"__name__":=by decide)(hdb:(x==("__debug__":Str))=false:=by decide)
  (he:zT e=false:=by rfl) (hpl:ja es=true:=by rfl):EOk X (.Call (.Name x p) (e::es) [] pos) (eCB f m) :=
 zf (ZS hc hg hm hv ha hn hdb (zI he) (j1 hpl)) λO H Q q=>Qn hr q
def Zs{f:List D->Option R}{m:MA}{rel:List V->Hp->VK->Prop}{T:String}{x:Str}{p pos:Pos}{e:Expr}{es:List Expr}(hc:j9 X (.type T) rel)(hr:COk X.K X.mg rel f)(hg:Gl X x)(hm:X.mg x=none)(hv:bootBuiltins x=some (.type T))(ha:AOk X (e::es) m)(hn:x≠"__name__":=by decide)(hdb:(x==("__debug__":Str))=false:=by decide)
  (he:zT e=false:=by rfl) (hpl:ja es=true:=by rfl):EOk X (.Call (.Name x p) (e::es) [] pos) (eCB f m) :=
 zf (zBB hc hg hm hv ha hn hdb (zI he) (j1 hpl)) λO H Q q=>Qn hr q
end
section
variable{X:Cx}{K:qH}{mg:Str->Option Value}
def zK{H:Hp}{i:Int}{v:V}(h:Rep K mg H (.int i) v):v=.int i:=by simpa only[Rep]using h
def JT{H:Hp}{i:Bool}{v:V}(h:Rep K mg H (.bl i) v):v=.bl i:=by simpa only[Rep]using h
def Yr{H:Hp}{i:Str}{v:V}(h:Rep K mg H (.str i) v):v=.str i:=by simpa only[Rep]using h
def Gq{H:Hp}{v:V}(h:Rep K mg H .non v):v=.non:=by simpa only[Rep]using h
def za{H:Hp}{ds:List D}{v:V}(h:Rep K mg H (.t ds) v):∃a xs,v=.ref a/\SqT K H a xs/\Reps K mg H ds xs:=by simpa only[Rep]using h
def zU{H:Hp}{ds:List D}{v:V}(h:Rep K mg H (.l ds) v):∃a xs,v=.ref a/\SqL K H a xs/\Reps K mg H ds xs:=by simpa only[Rep]using h
def zV{H:Hp}{d:D}{v:V}(hf:flat d=true)(h:Rep K mg H d v):v=flV d:=by
 cases d<;>simp[flat]at hf<;>simpa only[Rep,flV]using h
def zAn:D->D->Option R
 | .int i,.int j=>some (.v (.int (i+j)))| .t a,.t b=>if a.length+b.length<=cap then some (.v (.t (a++b)))else none| .l a,.l b=>if a.length+b.length<=cap then some (.own (a++b))else none|_,_=>none
def rAddD(K:qH):R2:=λx y H Q=>rI0 (λi j=>.int (i+j)) x y H Q\/(zFA K x y H Q\/rCatL K x y H Q)
def op_addD:OpR X (binaryOp .Add) (rAddD X.K):=op_add.or (zDa.or op_catL)
def ro_add:ROk K mg (rAddD K) zAn:=by
 intro M H Z x y d1 d2 res Q f r1 r2 e k;cases d1 with
 |int i =>
  cases d2 with
  |int j =>
   cases e;exact .inl ⟨i,j,zK r1,zK r2,k.flat f rfl⟩
  |_=>cases e
 |t a =>
  cases d2 with
  |t b =>
   simp only[zAn]at e;split at e
   ·rename_i hc
    cases e;obtain⟨p,xs,rfl,h1,h2⟩:=za r1;obtain⟨q,ys,rfl,h3,h4⟩:=za r2;have l1:=h2.length;have l2:=h4.length;refine .inr (.inl ⟨p,q,xs,ys,rfl,rfl,zH zE h1,zH zE h3,by rw[l1,l2];exact wa hc,λe=>?_,λ_ e=>?_,λ_ _ p' hp=>k.tup f hp (h2.append h4)⟩)
    ·subst e
     have:a=[]:=by simpa using l1.symm
     subst this;exact k.rep f (by simpa using r2)
    ·subst e
     have:b=[]:=by simpa using l2.symm
     subst this;exact k.rep f (by simpa using r1)
   ·cases e
  |_=>cases e
 |l a =>
  cases d2 with
  |l b =>
   simp only[zAn]at e;split at e
   ·rename_i hc
    cases e;obtain⟨p,xs,rfl,h1,h2⟩:=zU r1;obtain⟨q,ys,rfl,h3,h4⟩:=zU r2;have l1:=h2.length;have l2:=h4.length;exact .inr (.inr ⟨p,q,xs,ys,rfl,rfl,zE.seq h1,zE.seq h3,by rw[l1,l2];exact wa hc,λp' hp=>k.own f hp (h2.append h4)⟩)
   ·cases e
  |_=>cases e
 |_=>cases e
def zAo(C:Int->Int->Bool)(g:Int->Int->D):D->D->Option R
 | .int i,.int j=>if C i j=true then some (.v (g i j))else none|_,_=>none
def zBb{C:Int->Int->Bool}{P:Int->Int->Prop}{g:Int->Int->D}{gv:Int->Int->V}(hC:∀i j,C i j=true->P i j)(hg:∀i j,flat (g i j)=true/\flV (g i j)=gv i j):ROk K mg (rI P gv) (zAo C g):=by
 intro M H Z x y d1 d2 res Q f r1 r2 e k;cases d1 with
 |int i =>
  cases d2 with
  |int j =>
   simp only[zAo]at e;split at e
   ·rename_i hc
    cases e;refine⟨i,j,zK r1,zK r2,hC i j hc,?_⟩;have:=k.flat f (hg i j).1;rw[(hg i j).2]at this;exact this
   ·cases e
  |_=>cases e
 |_=>cases e
def zC9(g:Int->Int->D):D->D->Option R
 | .int i,.int j=>some (.v (g i j))|_,_=>none
def Zt{g:Int->Int->D}{gv:Int->Int->V}(hg:∀i j,flat (g i j)=true/\flV (g i j)=gv i j):ROk K mg (rI0 gv) (zC9 g):=by
 intro M H Z x y d1 d2 res Q f r1 r2 e k;cases d1 with
 |int i =>
  cases d2 with
  |int j =>
   cases e;refine⟨i,j,zK r1,zK r2,?_⟩;have:=k.flat f (hg i j).1;rw[(hg i j).2]at this;exact this
  |_=>cases e
 |_=>cases e
abbrev subD:=zC9 λi j=>.int (i-j)
def ro_sub:ROk K mg (rI0 λi j=>.int (i-j)) subD:=Zt λ_ _=>⟨rfl,rfl⟩
def Big:Nat:=2^4000
def zBc{n:Nat}(h:n<Big):n.log2<4000:=by
 by_cases h0:n=0
 ·subst h0;decide +kernel
 ·exact(Nat.log2_lt h0).mpr h
def Qo{i:Int}(h:i.natAbs<Big):Builtin.Int.intBits i<=4000:=by
 unfold Builtin.Int.intBits;split
 ·exact zero_le _
 ·exact zBc h
def zBd{i j:Int}(h1:i.natAbs<Big)(h2:j.natAbs<Big):IntMulOk i j:=by
 have b1:=Qo h1;have b2:=Qo h2;unfold IntMulOk;have:Builtin.Int.intTooBig (((Builtin.Int.intBits i:Nat):Int)+(Builtin.Int.intBits j:Nat))=false:=by
  unfold Builtin.Int.intTooBig bitsLine;simp only[decide_eq_false_iff_not];have:(2^27:Nat)=134217728:=by decide
  omega
 rw[this,Bool.and_false];decide
def CDivB(i j:Int):Prop:=0<j/\(j<1073741824\/j.natAbs<Big)
def zDf:OpR X (binaryOp .FloorDiv) (rI CDivB λi j=>.int (i/j)):=opI λi j _ _ _ _ _ hc q=>by
 have h1:(0:Int)<j:=hc.1;refine PyProof.Rows.floordiv_int (by omega) (by rw[Int.fdiv_eq_ediv_of_nonneg i (by omega)];exact q) (.inl ?_);rcases hc.2 with h|h
 ·exact PyProof.noPylong_small (by omega)
 ·exact PyProof.noPylong_of_log2 (lt_of_lt_of_le (zBc h) (by decide))
def CMulB(i j:Int):Prop:=CMul i j\/(i.natAbs<Big/\j.natAbs<Big)
def op_mulB:OpR X (binaryOp .Mult) (rI CMulB λi j=>.int (i*j)):=opI λ_ _ _ _ _ _ _ hc q=>PyProof.Rows.mul_int q (by
 rcases hc with h|h
 ·exact h.ok
 ·exact zBd h.1 h.2)
abbrev zAX:=zAo (λ_ j=>decide (0<j/\(j<1073741824\/j.natAbs<Big))) λi j=>.int (i/j)
def ro_fdiv:ROk K mg (rI CDivB λi j=>.int (i/j)) zAX:=zBb (λi j h=>(of_decide_eq_true h:0<j/\(j<1073741824\/j.natAbs<Big))) λ_ _=>⟨rfl,rfl⟩
abbrev zFC:=zAo (λ_ j=>decide (0<j)) λi j=>.int (i%j)
def ro_mod:ROk K mg (rI (λ_ j=>0<j) λi j=>.int (i%j)) zFC:=zBb (λi j h=>of_decide_eq_true h) λ_ _=>⟨rfl,rfl⟩
abbrev powD:=zAo (λi j=>decide (0<=j/\j<=1000000/\i.natAbs<2^64)) λi j=>.int (i^j.toNat)
def ro_pow:ROk K mg (rI CPow λi j=>.int (i^j.toNat)) powD:=zBb (λi j h=>(of_decide_eq_true h:0<=j/\j<=1000000/\i.natAbs<2^64)) λ_ _=>⟨rfl,rfl⟩
def Wy:D->D->Option R
 | .int i,.int j=>if((-(2^64)<i/\i<2^64)\/(-(2^64)<j/\j<2^64))\/(i.natAbs<Big/\j.natAbs<Big)then some (.v (.int (i*j)))else none| .t a,.int k=>if -(2^63)<=k/\k<2^63/\a.length*k.toNat<=cap then some (.v (.t (replicate k.toNat a).flatten))else none|_,_=>none
def rMulD(K:qH):R2:=λx y H Q=>rI CMulB (λi j=>.int (i*j)) x y H Q\/rRepT K x y H Q
def op_mulD:OpR X (binaryOp .Mult) (rMulD X.K):=op_mulB.or op_repT
def ro_mul:ROk K mg (rMulD K) Wy:=by
 intro M H Z x y d1 d2 res Q f r1 r2 e k;cases d1 with
 |int i =>
  cases d2 with
  |int j =>
   simp only[Wy]at e;split at e
   ·rename_i hc
    cases e;exact .inl ⟨i,j,zK r1,zK r2,hc,k.flat f rfl⟩
   ·cases e
  |_=>cases e
 |t a =>
  cases d2 with
  |int n =>
   simp only[Wy]at e;split at e
   ·rename_i hc
    cases e;obtain⟨p,xs,rfl,h1,h2⟩:=za r1;have l1:=h2.length;refine .inr ⟨p,n,xs,rfl,zK r2,zH zE h1,hc.1,hc.2.1,by rw[l1];exact wa hc.2.2,λe=>?_,λp' hp=>k.tup f hp (h2.flatten _)⟩;refine k.rep f ?_;rcases e with e|e
    ·subst e
     have:a=[]:=by simpa using l1.symm
     subst this;simpa using r1
    ·subst e
     simpa using r1
   ·cases e
  |_=>cases e
 |_=>cases e
abbrev ltD:=zC9 λi j=>.bl (decide (i<j))
def ro_lt:ROk K mg (rI0 λi j=>.bl (decide (i<j))) ltD:=Zt λ_ _=>⟨rfl,rfl⟩
abbrev leD:=zC9 λi j=>.bl (decide (i<=j))
def ro_le:ROk K mg (rI0 λi j=>.bl (decide (i<=j))) leD:=Zt λ_ _=>⟨rfl,rfl⟩
abbrev gtD:=zC9 λi j=>.bl (decide (j<i))
def ro_gt:ROk K mg (rI0 λi j=>.bl (decide (j<i))) gtD:=Zt λ_ _=>⟨rfl,rfl⟩
abbrev geD:=zC9 λi j=>.bl (decide (j<=i))
def ro_ge:ROk K mg (rI0 λi j=>.bl (decide (j<=i))) geD:=Zt λ_ _=>⟨rfl,rfl⟩
def eqF:D->D->Option R
 | .int i,.int j=>some (.v (.bl (decide (i=j))))| .bl i,.bl j=>some (.v (.bl (decide (i=j))))| .str i,.str j=>some (.v (.bl (decide (i=j))))|_,_=>none
def neF:D->D->Option R
 | .int i,.int j=>some (.v (.bl (!decide (i=j))))| .bl i,.bl j=>some (.v (.bl (!decide (i=j))))| .str i,.str j=>some (.v (.bl (!decide (i=j))))|_,_=>none
def vint{i j:Int}:decide (V.int i=V.int j)=decide (i=j):=by simp
def vbl{i j:Bool}:decide (V.bl i=V.bl j)=decide (i=j):=by simp
def vstr{i j:Str}:decide (V.str i=V.str j)=decide (i=j):=by simp
def ro_eq:ROk K mg rEq eqF:=by
 intro M H Z x y d1 d2 res Q f r1 r2 e k;cases d1<;>cases d2<;>cases e
 ·rw[JT r1,JT r2];refine⟨rfl,?_⟩;rw[vbl];exact k.flat f rfl
 ·rw[zK r1,zK r2];refine⟨rfl,?_⟩;rw[vint];exact k.flat f rfl
 ·rw[Yr r1,Yr r2];refine⟨rfl,?_⟩;rw[vstr];exact k.flat f rfl
def ro_ne:ROk K mg rNe neF:=by
 intro M H Z x y d1 d2 res Q f r1 r2 e k;cases d1<;>cases d2<;>cases e
 ·rw[JT r1,JT r2];refine⟨rfl,?_⟩;rw[vbl];exact k.flat f rfl
 ·rw[zK r1,zK r2];refine⟨rfl,?_⟩;rw[vint];exact k.flat f rfl
 ·rw[Yr r1,Yr r2];refine⟨rfl,?_⟩;rw[vstr];exact k.flat f rfl
def inF(neg:Bool)(d:D):D->Option R
 | .t ds=>if flat d=true/\ds.all flat=true then some (.v (.bl (if neg then !inV (flV d) (ds.map flV)else inV (flV d) (ds.map flV))))else none| .l ds=>if flat d=true/\ds.all flat=true then some (.v (.bl (if neg then !inV (flV d) (ds.map flV)else inV (flV d) (ds.map flV))))else none|_=>none
theorem Zu{H:Hp}:∀{ds:List D} {xs:List V},ds.all flat=true->Reps K mg H ds xs->xs=ds.map flV
 | [],_,_,h=>by simp only[Reps]at h;subst h;rfl
 |d::ds,_,hf,h=>by
  simp only[Reps]at h;obtain⟨v,r,rfl,h1,h2⟩:=h;simp only[all_cons,Bool.and_eq_true]at hf;rw[zV hf.1 h1,Zu hf.2 h2];rfl
def yA{d:D}(h:flat d=true):JK (flV d)=true:=by cases d<;>simp[flat]at h<;>rfl
theorem Zv:∀{ds:List D},ds.all flat=true->(ds.map flV).all JK=true
 | [],_=>rfl
 |d::ds,h=>by
  simp only[all_cons,Bool.and_eq_true]at h;simp only[map_cons,all_cons,Bool.and_eq_true];exact⟨yA h.1,Zv h.2⟩
def ro_in{neg:Bool}:ROk K mg (rIn K neg) (inF neg):=by
 intro M H Z x y d1 d2 res Q f r1 r2 e k;cases d2 with
 |t ds =>
  simp only[inF]at e;split at e
  ·rename_i hc
   cases e;obtain⟨p,xs,rfl,h1,h2⟩:=za r2;rw[zV hc.1 r1];have:=Zu hc.2 h2;subst this;exact⟨p,_,rfl,.inr (zH zE h1),yA hc.1,Zv hc.2,k.flat f rfl⟩
  ·cases e
 |l ds =>
  simp only[inF]at e;split at e
  ·rename_i hc
   cases e;obtain⟨p,xs,rfl,h1,h2⟩:=zU r2;rw[zV hc.1 r1];have:=Zu hc.2 h2;subst this;exact⟨p,_,rfl,.inl (zE.seq h1),yA hc.1,Zv hc.2,k.flat f rfl⟩
  ·cases e
 |_=>cases e
def ixD:D->D->Option R
 | .t ds,.int i=>(atI ds i).map .v| .l ds,.int i=>(atI ds i).map .v|_,_=>none
def ZT{H:Hp}{ds:List D}{xs:List V}{i:Int}{d:D}(h:Reps K mg H ds xs)(e:atI ds i=some d):∃v,atI xs i=some v/\Rep K mg H d v:=by
 unfold atI at e ⊢;have hl:=h.length;rw[hl];cases hj:ixN ds.length i with
 |none=>rw[hj]at e;cases e
 |some j =>
  rw[hj]at e;exact h.get' e
def ro_ix:ROk K mg (λx y H Q=>rIxL K x y H Q\/rIxT K x y H Q) ixD:=by
 intro M H Z x y d1 d2 res Q f r1 r2 e k;cases d1 with
 |t ds =>
  cases d2 with
  |int i =>
   simp only[ixD]at e;cases ea:atI ds i with
   |none=>rw[ea]at e;cases e
   |some d =>
    rw[ea]at e;cases e;obtain⟨p,xs,rfl,h1,h2⟩:=za r1;obtain⟨v,e1,e2⟩:=ZT h2 ea;exact .inr ⟨p,xs,i,v,rfl,zK r2,zH zE h1,e1,k.rep f e2⟩
  |_=>cases e
 |l ds =>
  cases d2 with
  |int i =>
   simp only[ixD]at e;cases ea:atI ds i with
   |none=>rw[ea]at e;cases e
   |some d =>
    rw[ea]at e;cases e;obtain⟨p,xs,rfl,h1,h2⟩:=zU r1;obtain⟨v,e1,e2⟩:=ZT h2 ea;exact .inl ⟨p,xs,i,v,rfl,zK r2,zE.seq h1,e1,k.rep f e2⟩
  |_=>cases e
 |_=>cases e
def ix_both:IxR X (λx y H Q=>rIxL X.K x y H Q\/rIxT X.K x y H Q):=zBF.or ix_tup
def lenD:List D->Option R
 | [.t ds]=>some (.v (.int ds.length))| [.l ds]=>some (.v (.int ds.length))|_=>none
def YM{H:Hp}{d:D}{xs:List V}(h:Reps K mg H [d] xs):∃v,xs=[v]/\Rep K mg H d v:=by
 simp only[Reps]at h;obtain⟨v,r,rfl,h1,rfl⟩:=h;exact⟨v,rfl,h1⟩
def reps2{H:Hp}{d e:D}{xs:List V}(h:Reps K mg H [d,e] xs):∃v w,xs=[v,w]/\Rep K mg H d v/\Rep K mg H e w:=by
 simp only[Reps]at h;obtain⟨v,r,rfl,h1,w,r',rfl,h2,rfl⟩:=h;exact⟨v,w,rfl,h1,h2⟩
def co_len:COk K mg (λxs H Q=>∃p ys,xs=[.ref p]/\(SqL K H p ys\/SqT K H p ys)/\Q (.int ys.length) H) lenD:=by
 intro M H Z xs ds res Q f r e k
 match ds,e with
 | [.t ds],e =>
  cases e;obtain⟨v,rfl,h⟩:=YM r;obtain⟨p,ys,rfl,h1,h2⟩:=za h;refine⟨p,ys,rfl,.inr (zH zE h1),?_⟩;rw[h2.length];exact k.flat f rfl
 | [.l ds],e =>
  cases e;obtain⟨v,rfl,h⟩:=YM r;obtain⟨p,ys,rfl,h1,h2⟩:=zU h;refine⟨p,ys,rfl,.inl (zE.seq h1),?_⟩;rw[h2.length];exact k.flat f rfl
def zBe:List D->Option R
 | [.int i,.int j]=>some (.v (.int (if j > i then j else i)))|_=>none
def co_max:COk K mg (λxs H Q=>∃i j,xs=[.int i,.int j]/\Q (.int (if j > i then j else i)) H) zBe:=by
 intro M H Z xs ds res Q f r e k
 match ds,e with
 | [.int i,.int j],e =>
  cases e;obtain⟨v,w,rfl,h1,h2⟩:=reps2 r;exact⟨i,j,by rw[zK h1,zK h2],k.flat f rfl⟩
def intF:List D->Option R
 | [.int i]=>some (.v (.int i))| [.bl b]=>some (.v (.int (if b then 1 else 0)))|_=>none
def co_int:COk K mg (λxs H Q=>(∃i,xs=[.int i]/\Q (.int i) H)\/∃k,xs=[.bl k]/\Q (.int (if k then 1 else 0)) H) intF:=by
 intro M H Z xs ds res Q f r e k
 match ds,e with
 | [.int i],e =>
  cases e;obtain⟨v,rfl,h1⟩:=YM r;exact .inl ⟨i,by rw[zK h1],k.flat f rfl⟩
 | [.bl b],e =>
  cases e;obtain⟨v,rfl,h1⟩:=YM r;exact .inr ⟨b,by rw[JT h1],k.flat f rfl⟩
def zFD:List D->Option R
 | [.l ds]=>some (.v (.t ds))| [.t ds]=>some (.v (.t ds))|_=>none
def zDg:COk K mg (λxs H Q=>∃p ys,xs=[.ref p]/\((SqL K H p ys/\∀l,H l=none->Q (.ref l) (upd H l (.t ys)))\/(SqT K H p ys/\Q (.ref p) H))) zFD:=by
 intro M H Z xs ds res Q f r e k
 match ds,e with
 | [.l ds],e =>
  cases e;obtain⟨v,rfl,h⟩:=YM r;obtain⟨p,ys,rfl,h1,h2⟩:=zU h;exact⟨p,ys,rfl,.inl ⟨zE.seq h1,λl hl=>k.tup f hl h2⟩⟩
 | [.t ds],e =>
  cases e;obtain⟨v,rfl,h⟩:=YM r;have h':=h;obtain⟨p,ys,rfl,h1,h2⟩:=za h;exact⟨p,ys,rfl,.inr ⟨zH zE h1,k.rep f h'⟩⟩
def jJ:List D->Option (List Bool)
 | []=>some []| .bl b::ds=>(jJ ds).map (b::·)|_=>none
theorem JB{H:Hp}:∀{ds:List D} {xs:List V} {bs:List Bool},jJ ds=some bs->Reps K mg H ds xs->xs=bs.map V.bl
 | [],_,_,e,h=>by cases e;simp only[Reps]at h;subst h;rfl
 |d::ds,_,bs,e,h=>by
  simp only[Reps]at h;obtain⟨v,r,rfl,h1,h2⟩:=h;cases d with
  |bl b =>
   simp only[jJ]at e;cases eb:jJ ds with
   |none=>rw[eb]at e;cases e
   |some cs =>
    rw[eb]at e;cases e;rw[JT h1,JB eb h2];rfl
  |_=>cases e
def allD:List D->Option R
 | [.l ds]=>(jJ ds).map λbs=>.v (.bl (bs.all id))|_=>none
def co_all:COk K mg (λxs H Q=>∃(p:Addr) (bs:List Bool),xs=[.ref p]/\SqL K H p (bs.map V.bl)/\Q (.bl (bs.all id)) H) allD:=by
 intro M H Z xs ds res Q f r e k
 match ds,e with
 | [.l ds],e =>
  simp only[allD]at e;cases eb:jJ ds with
  |none=>rw[eb]at e;cases e
  |some bs =>
   rw[eb]at e;cases e;obtain⟨v,rfl,h⟩:=YM r;obtain⟨p,ys,rfl,h1,h2⟩:=zU h;have:=JB eb h2;subst this;exact⟨p,bs,rfl,zE.seq h1,k.flat f rfl⟩
end
abbrev MO:=zN->Out (Option Int×zN)
def tMO(X:Cx)(m:MO):TO:=λO H Q=>∃M E,E.length=O.length/\FR X.K X.mg M H (O.zip E)/\match m E with
 | .z=>False| .ok (b,E')=>∀H',Got X.K X.mg M O E H [] O E' H' []->Q b H'| .exc x E'=>∀H',Got X.K X.mg M O E H [] O E' H' []->XE X O H' x
section
variable{X:Cx}{K:qH}{mg:Str->Option Value}{O:St}{M:Addr->Prop}{E:zN}{H:Hp}{T0:Fz}
def zBf{m:MO}{Q:Option Int->Hp->Prop}(hl:E.length=O.length)(h:FR X.K X.mg M H (T0++O.zip E))
  (k:match m E with | .z=>False | .ok (b,E')=>∀H',Got X.K X.mg M O E H T0 O E' H' []->Q b H' | .exc x E'=>∀H',Got X.K X.mg M O E H T0 O E' H' []->XE X O H' x):tMO X m O H Q:=by
 refine⟨Mo M T0,E,hl,h.inner,?_⟩;cases e:m E with
 |z=>rw[e]at k;exact k|ok a=>rw[e]at k;exact λH' g=>k H' (g.outer h)|exc x E'=>rw[e]at k;exact λH' g=>k H' (g.outer h)
abbrev OOk(X:Cx)(e:Option Expr)(m:MO):Prop:=PO X e (tMO X m)
def zFE{e:Option Expr}{t t':TO}(h:PO X e t)(i:∀O H Q,t' O H Q->t O H Q):PO X e t':=λpins s O H Q I q=>h pins s O H Q I (i O H Q q)
def zDh:MO:=λE=>.ok (none,E)
def zBg(m:ME):MO:=λE=>match m E with
 | .ok (.v (.int i),E1)=>.ok (some i,E1)| .exc x E1=>.exc x E1|_=>.z
def oo_none:OOk X none zDh:=zFE po_none λO H Q ⟨M,E,hl,fr,k⟩=>k H (Got.refl (T0:=[]) hl fr)
def oo_some{e:Expr}{m:ME}(h:EOk X e m):OOk X (some e) (zBg m):=zFE (po_some h) λO H Q ⟨M,E,hl,fr,k⟩=>by
 unfold zBg at k;refine ze (T0:=[]) hl fr ?_;cases ea:m E with
 |z=>rw[ea]at k;exact k|exc x E1=>rw[ea]at k;exact k
 |ok p =>
  obtain⟨r,E1⟩:=p;rw[ea]at k;cases r with
  |own ds=>exact k.elim|dct _ _=>exact k.elim
  |v d =>
   cases d with
   |int i =>
    intro v H' g;exact⟨i,zK g.rep,k H' g.dropAll⟩
   |_=>exact k.elim
def eSl(f:D->Option Int->Option Int->Option R)(a:ME)(lo hi:MO):ME:=λE=>match a E with
 | .z=>.z| .exc x E1=>.exc x E1
 | .ok (r,E1)=>match lo E1 with
  | .z=>.z| .exc x E2=>.exc x E2
  | .ok (l,E2)=>match hi E2 with
   | .z=>.z| .exc x E3=>.exc x E3
   | .ok (u,E3)=>match f r.d l u with
    |some r=>.ok (r,E3)|none=>.z
def zDA(ds:List D)(lo hi:Option Int):List D:=(ds.drop (HT.sIx ds.length 0 lo)).take (HT.sIx ds.length ds.length hi-HT.sIx ds.length 0 lo)
def slD:D->Option Int->Option Int->Option R
 | .t ds,lo,hi=>some (.v (.t (zDA ds lo hi)))| .l ds,lo,hi=>some (.own (zDA ds lo hi))|_,_,_=>none
def Qp{ds:List D}{xs:List V}(h:Reps K mg H ds xs)(lo hi:Option Int):Reps K mg H (zDA ds lo hi) (zDP xs lo hi):=by
 unfold zDA zDP;rw[h.length];exact(h.drop _).take _
def sl_run{a:ME}{lo hi:MO}{Q:VK}(h:tM X (eSl slD a lo hi) O H Q):tSl (λx l u H Q=>rSlTT X.K x l u H Q\/rSlL X.K x l u H Q) (tM X a) (tMO X lo) (tMO X hi) O H Q:=by
 obtain⟨M,E,hl,fr,k⟩:=h;unfold eSl at k;refine ze (T0:=[]) hl fr ?_;cases ea:a E with
 |z=>rw[ea]at k;exact k|exc x E1=>rw[ea]at k;exact λH' g=>k H' g
 |ok p =>
  obtain⟨r1,E1⟩:=p;rw[ea]at k;intro x H1 g1;refine zBf (T0:=[(some x,r1.slot)]) g1.len g1.fr ?_;dsimp only at k;cases eb:lo E1 with
  |z=>rw[eb]at k;exact k|exc x E2=>rw[eb]at k;exact λH' g=>k H' (g1.trans' g).dropAll
  |ok p =>
   obtain⟨l,E2⟩:=p;rw[eb]at k;intro H2 g2;have g12:=g1.trans' g2;refine zBf (T0:=[(some x,r1.slot)]) g12.len g12.fr ?_;dsimp only at k;cases ec:hi E2 with
   |z=>rw[ec]at k;exact k|exc x E3=>rw[ec]at k;exact λH' g=>k H' (g12.trans' g).dropAll
   |ok p =>
    obtain⟨u,E3⟩:=p;rw[ec]at k;intro H3 g3;have g:=g12.trans' g3;have rx:=g.rep;dsimp only at k;have f:=g.frame;cases ed:r1.d with
    |t ds =>
     rw[ed]at k rx;have k':Kt X.K X.mg M H3 (O.zip E3) (.v (.t (zDA ds l u))) Q:=λv H' f' s'=>k v H' (g.more (T:=[(some v,_)]) f' s')
     obtain⟨p,xs,rfl,h1,h2⟩:=za rx;refine .inl ⟨p,xs,rfl,zH zE h1,λhw=>k'.rep f ?_,λ_ p' hp=>k'.tup f hp (Qp h2 l u)⟩;have:zDA ds l u=ds:=by
      have hl:=h2.length;rw[hl]at hw;unfold zDA;rw[hw.1,hw.2];simp
     rw[this];exact rx
    |l ds =>
     rw[ed]at k rx;have k':Kt X.K X.mg M H3 (O.zip E3) (.own (zDA ds l u)) Q:=λv H' f' s'=>k v H' (g.more (T:=[(some v,_)]) f' s')
     obtain⟨p,xs,rfl,h1,h2⟩:=zU rx;exact .inr ⟨p,xs,rfl,zE.seq h1,λp' hp=>k'.own f hp (Qp h2 l u)⟩
    |_=>rw[ed]at k;exact k.elim
def ok_sl{a:Expr}{lo hi:Option Expr}{ma:ME}{ml mh:MO}{p2 pos:Pos}(ha:EOk X a ma)(hl:OOk X lo ml)(hh:OOk X hi mh):EOk X (.Subscript a (.Slice lo hi none p2) pos) (eSl slD ma ml mh) :=
 zf (zDO (sl_tupT.or sl_list) ha hl hh) λO H Q=>sl_run
def tyD:D->Option String
 | .non=>some "NoneType"| .bl _=>some "bool"| .int _=>some "int"| .str _=>some "str"| .t _=>some "tuple"| .l _=>some "list"| .dic=>some "dict"| .fn _=>none| .exn _ _=>none| .dct _ _=>none
def ud(t T:String):Bool:=t==T||(t == "bool"&&T == "int")
def zDi{T:String}(hk:∀t∈["NoneType","bool","int","str","tuple","list","dict"],kitOne X.K (.type t) (.type T)=some (ud t T)) :
  j9 X (.builtin "isinstance") (λxs H Q=>∃x d t,xs=[x,.ty T]/\Rep X.K X.mg H d x/\tyD d=some t/\Q (.bl (ud t T)) H):=by
 intro pins s O H xs us Q I r h;obtain⟨x,d,t,rfl,rd,et,q⟩:=h;obtain⟨u,w',rfl,rx,ry⟩:=vals2 r;cases (show w'=Value.type T from ry);have fin:∀tk,EP X pins O Q (.bool (ud t T)) {s with toks:=tk}:=λtk=>⟨.bl _,H,I.tok tk,rfl,q⟩
 cases d with
 |non=>cases et;rw[Gq rd]at rx;cases (show u=Value.none from rx);exact kia_one PySem.W.kitx_none I.kIn True.intro (hk _ (by simp)) (λz=>nomatch z) fin|bl b=>cases et;rw[JT rd]at rx;cases (show u=Value.bool b from rx);exact kia_one PySem.W.kitx_bool I.kIn True.intro (hk _ (by simp)) (λz=>nomatch z) fin|int i=>cases et;rw[zK rd]at rx;obtain⟨t,q⟩:=(show ∃t,u=Value.int i t from rx);cases q;exact kia_one PySem.W.kitx_int I.kIn True.intro (hk _ (by simp)) (λz=>nomatch z) fin|str y=>cases et;rw[Yr rd]at rx;obtain⟨t,q⟩:=(show ∃t,u=Value.str y t from rx);cases q;exact kia_one PySem.W.kitx_str I.kIn True.intro (hk _ (by simp)) (λz=>nomatch z) fin
 |t ds =>
  cases et;obtain⟨a,xs,rfl,h1,_⟩:=za rd;cases (show u=Value.ref a from rx);obtain⟨its,_,p,_⟩:=I.tuple h1;obtain⟨o,e1,e2,_⟩:=p;exact kia_one PySem.W.kitx_tuple I.kIn ⟨o,e1,e2⟩ (hk _ (by simp)) (λz=>nomatch z) fin
 |l ds =>
  cases et;obtain⟨a,xs,rfl,h1,_⟩:=zU rd;cases (show u=Value.ref a from rx);obtain⟨its,_,p,_⟩:=I.list h1;obtain⟨o,n,e1,e2,_⟩:=p;exact kia_one PySem.W.kitx_list I.kIn ⟨o,e1,e2⟩ (hk _ (by simp)) (λz=>nomatch z) fin
 |dic =>
  cases et;simp only[Rep]at rd;obtain⟨a,rfl,e⟩:=rd;cases (show u=Value.ref a from rx);obtain⟨_,_,vs,_,p⟩:=(show yu X.prog X.w H s.heap a (.dK [])from I.hok a _ e);obtain⟨o,es,ep,h1,h2,_⟩:=p;exact kia_one PySem.W.kitx_dict I.kIn ⟨o,h1,h2.1⟩ (hk _ (by simp)) (λz=>nomatch z) fin
 |fn x=>cases et|exn x y=>cases et|dct _ _=>cases et
def eIs(T:String)(m:ME):ME:=λE=>match m E with
 | .z=>.z| .exc x E1=>.exc x E1
 | .ok (r,E1)=>match tyD r.d with
  |some t=>.ok (.v (.bl (ud t T)),E1)|none=>.z
def ok_is{T:String}{a:Expr}{m:ME}{x:Str}{p p1 pos:Pos}(hk:∀t∈["NoneType","bool","int","str","tuple","list","dict"],kitOne X.K (.type t) (.type T)=some (ud t T))(hg:Gl X "isinstance")(hm:X.mg "isinstance"=none)
  (hgT:Gl X x) (hmT:X.mg x=none) (hvT:bootBuiltins x=some (.type T)) (ha:EOk X a m) (hv:bootBuiltins "isinstance"=some (.builtin "isinstance")) (hn:x≠"__name__":=by decide) (hd:(x==("__debug__":Str))=false:=by decide)
  (he:zT a=false:=by rfl) :
  EOk X (.Call (.Name "isinstance" p) [a,.Name x p1] [] pos) (eIs T m):=by
 refine zf (ZS (zDi hk) hg hm hv (yw ha (yw (zAt (v:=.ty T) hgT hmT hvT rfl hn hd) Y7 (zI rfl)) (zI he)) (by decide) (by decide) (zI he) (j1 rfl)) λO H Q ⟨M,E,hl,fr,k⟩=>?_
 unfold eIs at k;refine ze (T0:=[]) hl fr ?_;cases ea:m E with
 |z=>rw[ea]at k;exact k|exc x E1=>rw[ea]at k;exact k
 |ok pr =>
  obtain⟨r,E1⟩:=pr;rw[ea]at k;intro v H' g;dsimp only at k;cases et:tyD r.d with
  |none=>rw[et]at k;exact k.elim
  |some t =>
   rw[et]at k;exact⟨v,r.d,t,rfl,g.rep.mono zE,et,k _ H' (g.flat (d:=.bl (ud t T)) rfl)⟩
inductive Fl where
 |nx
 |ret (r:R)
 |bk
 |ct
 deriving Inhabited
abbrev MS:=zN->Out (Fl×zN)
def KS(X:Cx)(M:Addr->Prop)(O:St)(E:zN)(H:Hp)(T0:Fz)(D:Ends):Out (Fl×zN)->Prop
 | .z=>False| .ok (.nx,E')=>∀O' H',Got X.K X.mg M O E H T0 O' E' H' []->D.nx O' H'| .ok (.bk,E')=>∀O' H',Got X.K X.mg M O E H T0 O' E' H' []->D.bk O' H'| .ok (.ct,E')=>∀O' H',Got X.K X.mg M O E H T0 O' E' H' []->D.ct O' H'| .ok (.ret r,E')=>∀v O' H',Got X.K X.mg M O E H T0 O' E' H' [(some v,r.slot)]->D.rt v H'| .exc x E'=>∀O' H',Got X.K X.mg M O E H T0 O' E' H' []->XE X O' H' x
def tS(X:Cx)(m:MS):TS:=λD O H=>∃M E,E.length=O.length/\FR X.K X.mg M H (O.zip E)/\KS X M O E H [] D (m E)
abbrev SOk(X:Cx)(st:Stmt)(m:MS):Prop:=PS X st (tS X m)
abbrev Gr(X:Cx)(st:List Stmt)(m:MS):Prop:=PSs X st (tS X m)
def Zw{m:MS}{D:Ends}(hl:E.length=O.length)(h:FR X.K X.mg M H (T0++O.zip E))
  (k:KS X M O E H T0 D (m E)):tS X m D O H:=by
 refine⟨Mo M T0,E,hl,h.inner,?_⟩;cases e:m E with
 |z=>rw[e]at k;exact k
 |ok a =>
  obtain⟨fl,E'⟩:=a;rw[e]at k;cases fl with
  |nx=>exact λO' H' g=>k O' H' (g.outer h)|bk=>exact λO' H' g=>k O' H' (g.outer h)|ct=>exact λO' H' g=>k O' H' (g.outer h)|ret r=>exact λv O' H' g=>k v O' H' (g.outer h)
 |exc x E'=>rw[e]at k;exact λO' H' g=>k O' H' (g.outer h)
def zBh:MS:=λE=>.ok (.nx,E)
def Gs(a b:MS):MS:=λE=>match a E with
 | .ok (.nx,E1)=>b E1|o=>o
def sk_nil:Gr X [] zBh:=zBU pss_nil λD O H ⟨M,E,hl,fr,k⟩=>k O H (Got.refl (T0:=[]) hl fr)
def sk_one{st:Stmt}{m:MS}(h:SOk X st m):Gr X [st] m:=pss_one h
def seq_run{a b:MS}{D:Ends}(h:tS X (Gs a b) D O H):tSeq (tS X a) (tS X b) D O H:=by
 obtain⟨M,E,hl,fr,k⟩:=h;unfold Gs at k;refine Zw (T0:=[]) hl fr ?_;cases ea:a E with
 |z=>rw[ea]at k;exact k|exc x E1=>rw[ea]at k;exact k
 |ok p =>
  obtain⟨fl,E1⟩:=p;rw[ea]at k;cases fl with
  |bk=>exact k|ct=>exact k|ret r=>exact k
  |nx =>
   intro O1 H1 g1;refine Zw (T0:=[]) g1.len g1.fr ?_;dsimp only at k;cases eb:b E1 with
   |z=>rw[eb]at k;exact k|exc x E2=>rw[eb]at k;exact λO' H' g=>k O' H' (g1.trans' g)
   |ok p =>
    obtain⟨fl2,E2⟩:=p;rw[eb]at k;cases fl2 with
    |nx=>exact λO' H' g=>k O' H' (g1.trans' g)|bk=>exact λO' H' g=>k O' H' (g1.trans' g)|ct=>exact λO' H' g=>k O' H' (g1.trans' g)|ret r=>exact λv O' H' g=>k v O' H' (g1.trans' g)
def sk_cons{st:Stmt}{ZR:List Stmt}{a b:MS}(h1:SOk X st a)(h2:Gr X ZR b):Gr X (st::ZR) (Gs a b):=zBU (zDF h1 h2) λD O H=>seq_run
def sIf(c:MT)(a b:MS):MS:=λE=>match c E with
 | .ok (true,E1)=>a E1| .ok (false,E1)=>b E1| .exc x E1=>.exc x E1| .z=>.z
def tS_go{m:MS}{D:Ends}{O1:St}{E1:zN}{H1:Hp}(g1:Got X.K X.mg M O E H [] O1 E1 H1 [])
  (k:match m E1 with
   | .z=>False| .ok (.nx,E')=>∀O' H',Got X.K X.mg M O E H [] O' E' H' []->D.nx O' H'| .ok (.bk,E')=>∀O' H',Got X.K X.mg M O E H [] O' E' H' []->D.bk O' H'| .ok (.ct,E')=>∀O' H',Got X.K X.mg M O E H [] O' E' H' []->D.ct O' H'| .ok (.ret r,E')=>∀v O' H',Got X.K X.mg M O E H [] O' E' H' [(some v,r.slot)]->D.rt v H'
   | .exc x E'=>∀O' H',Got X.K X.mg M O E H [] O' E' H' []->XE X O' H' x):tS X m D O1 H1:=by
 refine Zw (T0:=[]) g1.len g1.fr ?_;cases eb:m E1 with
 |z=>rw[eb]at k;exact k|exc x E2=>rw[eb]at k;exact λO' H' g=>k O' H' (g1.trans' g)
 |ok p =>
  obtain⟨fl2,E2⟩:=p;rw[eb]at k;cases fl2 with
  |nx=>exact λO' H' g=>k O' H' (g1.trans' g)|bk=>exact λO' H' g=>k O' H' (g1.trans' g)|ct=>exact λO' H' g=>k O' H' (g1.trans' g)|ret r=>exact λv O' H' g=>k v O' H' (g1.trans' g)
def sif_run{c:MT}{a b:MS}{D:Ends}(h:tS X (sIf c a b) D O H):tIfS (tMT X c) (tS X a) (tS X b) D O H:=by
 obtain⟨M,E,hl,fr,k⟩:=h;unfold sIf at k;refine Yo (T0:=[]) hl fr ?_;cases ea:c E with
 |z=>rw[ea]at k;exact k|exc x E1=>rw[ea]at k;exact λH' g=>k O H' g
 |ok p =>
  obtain⟨t,E1⟩:=p;rw[ea]at k;intro H1 g1;cases t with
  |true=>exact zE7 (tS_go g1 k)|false=>exact zE6 (tS_go g1 k)
def sk_if{c:Expr}{a b:List Stmt}{mc:MT}{ma mb:MS}{pos:Pos}(hc:TOk X c mc)(ha:Gr X a ma)(hb:Gr X b mb):SOk X (.If c a b pos) (sIf mc ma mb):=yW (ps_if hc ha hb) λD O H=>sif_run
def ZO(i:Nat)(r:R)(E:zN):Out zN:=match E[i]? with
 |none=>.z|some (.par _)=>.z|some _=>.ok (E.set i r.slot)
def sSet(i:Nat)(m:ME):MS:=λE=>match m E with
 | .z=>.z| .exc x E1=>.exc x E1
 | .ok (r,E1)=>match ZO i r E1 with
  | .ok E2=>.ok (.nx,E2)|_=>.z
def Zx{O1:St}{E1 E2:zN}{H1:Hp}{i:Nat}{r:R}{v:V}(g:Got K mg M O E H T0 O1 E1 H1 [(some v,r.slot)])(e:ZO i r E1=.ok E2):Got K mg M O E H T0 (O1.set i (some v)) E2 H1 []:=by
 unfold ZO at e;cases e1:E1[i]? with
 |none=>rw[e1]at e;cases e
 |some sl =>
  rw[e1]at e;have hne:∀ds,sl≠.par ds:=λds q=>by subst q;cases e
  have e2:E2=E1.set i r.slot:=by
   cases sl with
   |par ds=>exact absurd rfl (hne ds)|_=>cases e;rfl
  subst e2;have hi:i<E1.length:=(qG.mp e1).1;have hl:=g.len;have hz:i<(O1.zip E1).length:=by rw[List.length_zip];omega
  have hT:T0++((O1.set i (some v)).zip (E1.set i r.slot))=(T0++O1.zip E1).set (T0.length+i) (some v,r.slot):=by
   rw[vL,List.set_append_right _ _ (by omega)];congr 2;omega
  have hz2:T0.length+i<(T0++O1.zip E1).length:=by rw[length_append];omega
  refine⟨by simp[hl],?_,?_,?_⟩
  ·show FR K mg M H1 (T0++((O1.set i (some v)).zip (E1.set i r.slot)))
   rw[hT];exact FR.put g.fr hz2
  ·show Step M H _ H1 (T0++((O1.set i (some v)).zip (E1.set i r.slot)))
   rw[hT];exact Step.put g.st hz2
  ·refine g.pk.trans λj ds q=>?_
   have ne:i≠j:=λz=>by subst z;rw[e1]at q;exact hne ds (qJ q)
   exact⟨⟨ds,by rw[getElem?_set_ne ne];exact q⟩,by rw[getElem?_set_ne ne]⟩
def Gu{i:Nat}{m:ME}{D:Ends}(h:tS X (sSet i m) D O H):zE0 (tM X m) (uK i) D O H:=by
 obtain⟨M,E,hl,fr,k⟩:=h;unfold sSet at k;refine ze (T0:=[]) hl fr ?_;cases ea:m E with
 |z=>rw[ea]at k;exact k|exc x E1=>rw[ea]at k;exact λH' g=>k O H' g
 |ok p =>
  obtain⟨r,E1⟩:=p;rw[ea]at k;intro v H' g;dsimp only at k;cases ep:ZO i r E1 with
  |z=>rw[ep]at k;exact k.elim|exc _ _=>rw[ep]at k;exact k.elim
  |ok E2 =>
   rw[ep]at k;exact k _ H' (Zx g ep)
def zBi{i:Nat}{x:Str}{e:Expr}{m:ME}{pos pos':Pos}(hN:X.N.Nodup)(hi:X.N[i]?=some x)(hx:Loc X.env.scope x)(he:EOk X e m)(hs:swapsWith e (some (.Name x pos')) pos.line X.env=pure false:=by rfl)
  (hf:X.fn x=true\/X.env.scope.names.lookup x=some .local:=by first|exact .inl rfl|exact .inr rfl|assumption):SOk X (.Assign [.Name x pos'] e pos) (sSet i m) :=
 yW (ps_set hN hi hx he hs hf) λD O H=>Gu
def sRet(m:ME):MS:=λE=>match m E with
 | .z=>.z| .exc x E1=>.exc x E1| .ok (r,E1)=>.ok (.ret r,E1)
def ret_run{m:ME}{D:Ends}(h:tS X (sRet m) D O H):tRet (tM X m) D O H:=by
 obtain⟨M,E,hl,fr,k⟩:=h;unfold sRet at k;refine ze (T0:=[]) hl fr ?_;cases ea:m E with
 |z=>rw[ea]at k;exact k|exc x E1=>rw[ea]at k;exact λH' g=>k O H' g|ok p=>rw[ea]at k;exact λv H' g=>k v O H' g
def sk_ret{e:Expr}{m:ME}{pos:Pos}(he:EOk X e m):SOk X (.Return (some e) pos) (sRet m):=yW (ps_ret he) λD O H=>ret_run
def zBj(i:Nat):ME:=λE=>match E[i]? with
 |some (.own ds)=>.ok (.own ds,E.set i .e)|some (.dct ks vs)=>.ok (.dct ks vs,E.set i .e)|some (.v d)=>.ok (.v d,E)|_=>.z
def ok_move(i:Nat){x:Str}{pos:Pos}(h:PE X (.Name x pos) (vD i)):EOk X (.Name x pos) (zBj i):=zf h λO H Q ⟨M,E,hl,f,k⟩=>by
 unfold zBj at k;cases e:E[i]? with
 |none=>rw[e]at k;exact k.elim
 |some sl =>
 rw[e]at k;cases sl with
 |e=>exact k.elim|par ds=>exact k.elim
 |v d =>
  obtain⟨o,h1,h2⟩:=jt hl e;obtain⟨v,rfl,r⟩:=f.val o d h2;exact⟨v,h1,k v H ⟨hl,f.add r,Step.refl.add,PKp.refl⟩⟩
 |own ds =>
  obtain⟨o,h1,h2⟩:=jZ hl e;obtain⟨a,xs,rfl,q1,q2,q3⟩:=f.ownL o (.own ds) ds (mem_of_getElem? h2) rfl;refine⟨.ref a,h1,k _ H ?_⟩;have hlt:i<(O.zip E).length:=(qG.mp h2).1;have p:(O.zip E).Perm ((some (.ref a),R.slot (.own ds))::(O.zip E).eraseIdx i):=by
   have:=zQ (some (V.ref a),Slot.own ds) (O.zip E) i hlt;rw[jj h2]at this;exact this
  have ez:O.zip (E.set i .e)=(O.zip E).set i (some (.ref a),.e):=zS .e h1;have p2:((some (V.ref a),R.slot (.own ds))::O.zip (E.set i .e)).Perm ((some (V.ref a),Slot.e)::((some (V.ref a),R.slot (.own ds))::(O.zip E).eraseIdx i)):=by
   rw[ez];exact((zQ _ _ _ hlt).cons _).trans (List.Perm.swap _ _ _)
  have f1:=f.perm p;have f2:FR X.K X.mg M H ((some (V.ref a),Slot.e)::((some (V.ref a),R.slot (.own ds))::(O.zip E).eraseIdx i)):={
   val:=λo d q=>by
    rw[uW];rcases mem_cons.mp q with q|q
    ·cases q
    ·exact f1.val o d q
   own:=λo s ds' q e'=>by
    rw[uW];rcases mem_cons.mp q with q|q
    ·cases q;cases e'
    ·exact f1.own o s ds' q e'
   nd:=by rw[zr];exact f1.nd
   mal:=f1.mal}
  refine⟨by simp[hl],f2.perm p2.symm,?_,Zq (ds0:=[]) e (λds' q=>by cases q) _⟩;refine Step.weak Step.refl λb hb=>?_
  have hb':=zD p2 b hb;rw[zr]at hb';exact zD p.symm b hb'
 |dct ks vs =>
  obtain⟨o,h1,h2⟩:=jZ hl e;obtain⟨a,ho,rfl,q1,q2,q3⟩:=f.own o (.dct ks vs) (.d ks vs) (mem_of_getElem? h2) rfl;refine⟨.ref a,h1,k _ H ?_⟩;have hlt:i<(O.zip E).length:=(qG.mp h2).1;have p:(O.zip E).Perm ((some (.ref a),R.slot (.dct ks vs))::(O.zip E).eraseIdx i):=by
   have:=zQ (some (V.ref a),Slot.dct ks vs) (O.zip E) i hlt;rw[jj h2]at this;exact this
  have ez:O.zip (E.set i .e)=(O.zip E).set i (some (.ref a),.e):=zS .e h1;have p2:((some (V.ref a),R.slot (.dct ks vs))::O.zip (E.set i .e)).Perm ((some (V.ref a),Slot.e)::((some (V.ref a),R.slot (.dct ks vs))::(O.zip E).eraseIdx i)):=by
   rw[ez];exact((zQ _ _ _ hlt).cons _).trans (List.Perm.swap _ _ _)
  have f1:=f.perm p;have f2:FR X.K X.mg M H ((some (V.ref a),Slot.e)::((some (V.ref a),R.slot (.dct ks vs))::(O.zip E).eraseIdx i)):={
   val:=λo d q=>by
    rw[uW];rcases mem_cons.mp q with q|q
    ·cases q
    ·exact f1.val o d q
   own:=λo s ds' q e'=>by
    rw[uW];rcases mem_cons.mp q with q|q
    ·cases q;cases e'
    ·exact f1.own o s ds' q e'
   nd:=by rw[zr];exact f1.nd
   mal:=f1.mal}
  refine⟨by simp[hl],f2.perm p2.symm,?_,Zq (ds0:=[]) e (λds' q=>by cases q) _⟩;refine Step.weak Step.refl λb hb=>?_
  have hb':=zD p2 b hb;rw[zr]at hb';exact zD p.symm b hb'
def sDrop(m:ME):MS:=λE=>match m E with
 | .z=>.z| .exc x E1=>.exc x E1| .ok (_,E1)=>.ok (.nx,E1)
def zDj{m:ME}{D:Ends}(h:tS X (sDrop m) D O H):tDrop (tM X m) D O H:=by
 obtain⟨M,E,hl,fr,k⟩:=h;unfold sDrop at k;refine ze (T0:=[]) hl fr ?_;cases ea:m E with
 |z=>rw[ea]at k;exact k|exc x E1=>rw[ea]at k;exact λH' g=>k O H' g|ok p=>rw[ea]at k;exact λv H' g=>k O H' g.dropAll
def sk_drop{e:Expr}{m:ME}{pos:Pos}(he:EOk X e m)(hs:swapsWith e none pos.line X.env=pure false:=by rfl):SOk X (.Expr e pos) (sDrop m):=yW (ps_expr he hs) λD O H=>zDj
end
theorem yi{α β:Type}{f:α->Option β}{x y:α}(h:f y=f x):∀{l:List α} {i:Nat},l[i]?=some x->(l.set i y).filterMap f=l.filterMap f
 | [],_,e=>by simp at e
 |a::l,0,e=>by
  simp at e;subst e
  simp only[List.set_cons_zero,filterMap_cons,h]
 |a::l,i+1,e=>by
  simp at e
  simp only[List.set_cons_succ,filterMap_cons,yi h e]
section
variable{X:Cx}{K:qH}{mg:Str->Option Value}{O:St}{M:Addr->Prop}{E:zN}{H:Hp}{T0 Z:Fz}
def Slot.put:Slot->List D->Slot
 | .own _,es=>.own es| .par _,es=>.par es|s,_=>s
def vO{p:Addr}{s:Slot}{ds es:List D}(hs:s.list?=some ds):vJ (some (.ref p),s.put es)=vJ (some (.ref p),s)/\(s.put es).list?=some es:=by
 cases s<;>simp[Slot.list?]at hs<;>exact⟨rfl,rfl⟩
def FR.mut(h:FR K mg M H Z){i:Nat}{p:Addr}{s:Slot}{ds es:List D}{ys:List V}(hi:Z[i]?=some (some (.ref p),s))(hs:s.list?=some ds)(r:Reps K mg (Hm (Mo M Z) H) es ys) :
  FR K mg M (upd H p (.l ys)) (Z.set i (some (.ref p),s.put es))/\Step M H Z (upd H p (.l ys)) (Z.set i (some (.ref p),s.put es)):=by
 have eo:z7 (Z.set i (some (.ref p),s.put es))=z7 Z:=yi (vO hs).1 hi;have em:Mo M (Z.set i (some (.ref p),s.put es))=Mo M Z:=by unfold Mo;rw[eo]
 have hp:p∈z7 Z:=Gn (mem_of_getElem? hi) hs rfl;obtain⟨xs0,hH,hM,_⟩:=h.ownAt hp;have ehm:Hm (Mo M Z) (upd H p (.l ys))=Hm (Mo M Z) H:=by
  funext b
  unfold Hm;by_cases hb:Mo M Z b
  ·simp[hb]
  ·have:b≠p:=λe=>hb (by subst e;exact .inr hp)
   simp[hb,zc this]
 have mem:∀{q:Option V×Slot},q∈Z.set i (some (.ref p),s.put es)->q=(some (.ref p),s.put es)\/q∈Z:=λ{q} hq=>(List.mem_or_eq_of_mem_set hq).symm
 have hlt:i<Z.length:=(qG.mp hi).1;have nd2:(z7 (Z.eraseIdx i)).Nodup/\p∉z7 (Z.eraseIdx i):=by
  have pz:Z.Perm ((some (.ref p),s)::Z.eraseIdx i):=by
   have:=zQ (some (V.ref p),s) Z i hlt;rw[jj hi]at this;exact this
  have nd:=(pz.filterMap vJ).nodup_iff.mp h.nd;have e:List.filterMap vJ ((some (V.ref p),s)::Z.eraseIdx i)=p::z7 (Z.eraseIdx i):=by
   cases s<;>simp[Slot.list?]at hs<;>rfl
  rw[e]at nd;exact⟨(nodup_cons.mp nd).2,(nodup_cons.mp nd).1⟩
 have pz2:(Z.set i (some (.ref p),s.put es)).Perm ((some (.ref p),s.put es)::Z.eraseIdx i):=zQ _ _ _ hlt;refine⟨⟨λo d q=>?_,λo s' ds' q e=>?_,by rw[eo];exact h.nd,λb q=>?_⟩,⟨by rw[em,ehm];exact Yj.refl _,λb o m e=>?_⟩⟩
 ·rw[em,ehm]
  rcases mem q with q|q
  ·exfalso
   cases s<;>simp[Slot.list?]at hs<;>cases q
  ·exact h.val o d q
 ·rw[em,ehm]
  rcases mem_cons.mp (pz2.mem_iff.mp q)with q'|q'
  ·cases q'
   rw[zBS (vO (p:=p) hs).2]at e;cases e;exact⟨p,_,rfl,yY,hM,ys,rfl,r⟩
  ·have q'':(o,s')∈Z:=(eraseIdx_sublist Z i).subset q'
   obtain⟨a,xs,e1,e2,e3,rr⟩:=h.own o s' ds' q'' e;have ne:a≠p:=λz=>by
    subst z;exact nd2.2 (yx q' e e1)
   exact⟨a,xs,e1,by rw[zc ne];exact e2,e3,rr⟩
 ·obtain⟨o,e,ko⟩:=h.mal b q
  by_cases z:b=p
  ·subst z;exact⟨_,yY,.inl ⟨_,rfl⟩⟩
  ·exact⟨o,by rw[zc z];exact e,ko⟩
 ·have ne:b≠p:=λz=>hM (by subst z;exact m)
  rw[zc ne];exact e
theorem Got.mut{O1:St}{E1:zN}{H1:Hp}{T:Fz}(g:Got K mg M O E H [] O1 E1 H1 T){i:Nat}{s:Slot}{ds es:List D}{ys:List V}(hi:E1[i]?=some s)(hs:s.list?=some ds)(r:Reps K mg (Hm (Mo M (O1.zip E1)) H1) es ys) :
  ∃p,O1[i]?=some (some (.ref p))/\Got K mg M O E H [] O1 (E1.set i (s.put es)) (upd H1 p (.l ys)) []:=by
 obtain⟨o,h1,h2⟩:=jZ g.len hi;obtain⟨p,xs,rfl,_⟩:=g.frame.ownL o s ds (mem_of_getElem? h2) hs;refine⟨p,h1,?_⟩;obtain⟨f,st⟩:=FR.mut g.frame h2 hs r;have e:=zS (E:=E1) (s.put es) h1;rw[<- e]at f st;refine⟨by simp[g.len],f,(g.st.weak (zC (sublist_append_right _ _))).trans st,g.pk.trans λj ds' q=>?_⟩;by_cases ej:i=j
 ·subst ej
  rw[hi]at q;cases q;have hlt:i<E1.length:=(qG.mp hi).1;exact⟨⟨es,by rw[getElem?_set_self hlt];rfl⟩,rfl⟩
 ·exact⟨⟨ds',by rw[getElem?_set_ne ej];exact q⟩,rfl⟩
def Zy{i:Nat}{s:Slot}(hl:E.length=O.length)(f:FR K mg M H (O.zip E))(h:E[i]?=some s)(hs:s≠.e):∃v,O[i]?=some (some v):=by
 obtain⟨o,h1,h2⟩:=jt hl h;cases s with
 |e=>exact absurd rfl hs|v d=>obtain⟨v,rfl,_⟩:=f.val o d h2;exact⟨v,h1⟩|own ds=>obtain⟨a,_,rfl,_⟩:=f.own o _ _ h2 rfl;exact⟨_,h1⟩|par ds=>obtain⟨a,_,rfl,_⟩:=f.own o _ _ h2 rfl;exact⟨_,h1⟩|dct ks vs=>obtain⟨a,_,rfl,_⟩:=f.own o _ _ h2 rfl;exact⟨_,h1⟩
def yg:Option Slot->Bool
 |none=>true|some .e=>true|_=>false
def Jo{o:Option Slot}(h:yg o=false):∃s,o=some s/\s≠.e:=by
 cases o with
 |none=>cases h
 |some s=>cases s<;>simp[yg]at h<;>exact⟨_,rfl,by intro q;cases q⟩
def ixS:Slot->Int->Option D
 | .own ds,i=>atI ds i| .par ds,i=>atI ds i| .v (.l ds),i=>atI ds i|_,_=>none
def zDk(i:Nat)(m:ME):ME:=λE=>if yg E[i]?=true then .z else match m E with
 | .z=>.z| .exc x E1=>.exc x E1
 | .ok (.v (.int k),E1)=>match E1[i]? with
  |some s=>match ixS s k with
   |some d=>.ok (.v d,E1)|none=>.z
  |none=>.z
 |_=>.z
def ixO_run{i:Nat}{m:ME}{Q:VK}(h:tM X (zDk i m) O H Q):tOp (rIxL X.K) (vD i) (tM X m) O H Q:=by
 obtain⟨M,E,hl,fr,k⟩:=h;unfold zDk at k;cases em:yg E[i]? with
 |true=>rw[em]at k;exact k.elim
 |false =>
  rw[em]at k;obtain⟨s,hs1,hs2⟩:=Jo em;obtain⟨v,hv⟩:=Zy hl fr hs1 hs2;refine⟨v,hv,?_⟩;refine ze (T0:=[]) hl fr ?_;simp only[Bool.false_eq_true,if_false]at k;cases ea:m E with
  |z=>rw[ea]at k;exact k|exc x E1=>rw[ea]at k;exact k
  |ok p =>
   obtain⟨r,E1⟩:=p;rw[ea]at k;cases r with
   |own ds=>exact k.elim|dct _ _=>exact k.elim
   |v d =>
    cases d with
    |int n =>
     intro y H' g;dsimp only at k;cases e1:E1[i]? with
     |none=>rw[e1]at k;exact k.elim
     |some s1 =>
      rw[e1]at k;dsimp only at k;cases e2:ixS s1 n with
      |none=>rw[e2]at k;exact k.elim
      |some d =>
       rw[e2]at k;have f:=g.frame;have fin:∀{w:V},Rep X.K X.mg (Hm (Mo M (O.zip E1)) H') d w->Q w H':=λ{w} rw'=>k w H' (g.more (T:=[(some w,.v d)]) (f.add rw') Step.refl.add)
       obtain⟨o,h1,h2⟩:=jt g.len e1;have ho:o=some v:=by rw[hv]at h1;exact(qJ h1).symm
       subst ho;have key:∀{ds:List D},s1.list?=some ds->atI ds n=some d->rIxL X.K v y H' Q:=λ{ds} hl1 ha=>by
        obtain⟨a,xs,ev,q1,_,q3⟩:=f.ownL _ s1 ds h2 hl1;cases ev;obtain⟨w,a1,a2⟩:=ZT q3 ha;exact⟨a,xs,n,w,rfl,zK g.rep,SqL.of q1,a1,fin a2⟩
       cases s1 with
       |e=>cases e2|own ds=>exact key rfl e2|par ds=>exact key rfl e2|dct _ _=>cases e2
       |v dd =>
        cases dd with
        |l ds =>
         obtain⟨v',ev,rr⟩:=f.val _ _ h2;cases ev;obtain⟨a,xs,rfl,q1,q2⟩:=zU rr;obtain⟨w,a1,a2⟩:=ZT q2 e2;exact⟨a,xs,n,w,rfl,zK g.rep,zE.seq q1,a1,fin a2⟩
        |_=>cases e2
    |_=>exact k.elim
def ok_ixO(i:Nat){x:Str}{b:Expr}{m:ME}{p pos:Pos}(hv:PE X (.Name x p) (vD i))(hb:EOk X b m)(hs:Zj b):EOk X (.Subscript (.Name x p) b pos) (zDk i m) :=
 zf (pe_ix zBF hv hb hs) λO H Q=>ixO_run
def ZA(i:Nat)(mi mv:ME):MS:=λE=>if yg E[i]?=true then .z else match mv E with
 | .z=>.z| .exc x E1=>.exc x E1
 | .ok (r,E1)=>match mi E1 with
  | .z=>.z| .exc x E2=>.exc x E2
  | .ok (.v (.int k),E2)=>match E2[i]? with
   |none=>.z
   |some s=>match s.list? with
    |none=>.z
    |some ds=>match ixN ds.length k with
     |none=>.z|some j=>.ok (.nx,E2.set i (s.put (ds.set j r.d)))
  |_=>.z
def zBk{i:Nat}{mi mv:ME}{D:Ends}(h:tS X (ZA i mi mv) D O H):zE0 (tM X mv) (gSub (vD i) (tM X mi) rSetL) D O H:=by
 obtain⟨M,E,hl,fr,k⟩:=h;unfold ZA at k;cases em:yg E[i]? with
 |true=>rw[em]at k;exact k.elim
 |false =>
  rw[em]at k;obtain⟨s,hs1,hs2⟩:=Jo em;obtain⟨v,hv⟩:=Zy hl fr hs1 hs2;refine ze (T0:=[]) hl fr ?_;simp only[Bool.false_eq_true,if_false]at k;cases ea:mv E with
  |z=>rw[ea]at k;exact k|exc x E1=>rw[ea]at k;exact λH' g=>k O H' g
  |ok p =>
   obtain⟨r,E1⟩:=p;rw[ea]at k;intro y H1 g1;refine⟨v,hv,?_⟩;refine ze (T0:=[(some y,r.slot)]) g1.len g1.fr ?_;dsimp only at k;cases eb:mi E1 with
   |z=>rw[eb]at k;exact k|exc x E2=>rw[eb]at k;exact λH' g=>k O H' (g1.trans' g).dropAll
   |ok p =>
    obtain⟨r2,E2⟩:=p;rw[eb]at k;cases r2 with
    |own ds=>exact k.elim|dct _ _=>exact k.elim
    |v d =>
     cases d with
     |int n =>
      intro z H2 g2;have g:=g1.trans' g2;dsimp only at k;cases e1:E2[i]? with
      |none=>rw[e1]at k;exact k.elim
      |some s1 =>
       rw[e1]at k;dsimp only at k;cases e2:s1.list? with
       |none=>rw[e2]at k;exact k.elim
       |some ds =>
        rw[e2]at k;dsimp only at k;cases e3:ixN ds.length n with
        |none=>rw[e3]at k;exact k.elim
        |some j =>
         rw[e3]at k;have rp:=Got.reps (vs:=[z,y]) (rs:=[.v (.int n),r]) rfl g;simp only[List.map,Reps]at rp;obtain⟨z',_,q1,rz,y',_,q2,ry,_⟩:=rp;cases q1;cases q2;obtain⟨o,h1,h2⟩:=jt g.len e1;obtain⟨a,xs,ev,w1,_,w3⟩:=g.frame.ownL _ s1 ds h2 e2;subst ev;have ev:v=.ref a:=by rw[hv]at h1;exact qJ (qJ h1)
         subst ev;obtain⟨p,hp,g'⟩:=g.mut e1 e2 (w3.set j ry);have ep:p=a:=by rw[h1]at hp;cases hp;rfl
         subst ep;exact⟨p,xs,n,j,rfl,zK rz,w1,by rw[w3.length];exact e3,k O _ g'⟩
     |_=>exact k.elim
def zDl(i:Nat){x:Str}{b e:Expr}{mi mv:ME}{p p1 pos:Pos}(hv:PE X (.Name x p) (vD i))(hb:EOk X b mi)(he:EOk X e mv)
  (ha:∀v,assign (.Subscript (.Name x p) b p1) X.env v=(do
   let ov <- holding [v] (eval (.Name x p) X.env)
   let iv <- holding [v,ov] (eval b X.env)
   standAt p1
   holding [v,ov,iv] (setItem ov iv v)
   release [v,ov,iv] []):=by intro _;rfl) (hs:swapsWithSole [.Subscript (.Name x p) b p1] e pos.line X.env=pure false:=by rfl):SOk X (.Assign [.Subscript (.Name x p) b p1] e pos) (ZA i mi mv) :=
 yW (zAv he (zEz hv hb Qf ha) hs) λD O H=>zBk
end
section
variable{X:Cx}{K:qH}{mg:Str->Option Value}{O:St}{M:Addr->Prop}{E:zN}{H:Hp}{T0 Z:Fz}
abbrev MG:=D->zN->Out zN
def GOk(X:Cx)(g:TG)(tg:MG):Prop:=∀(M:Addr->Prop) (O:St) (E:zN) (H:Hp) (T0:Fz) (x:V) (d:D) (E':zN) (Q:St->Hp->Prop),E.length=O.length->FR X.K X.mg M H ((some x,.v d)::(T0++O.zip E))->tg d E=.ok E' ->
 (∀O',Got X.K X.mg M O E H T0 O' E' H []->Q O' H)->g x O H Q
def gN(i:Nat):MG:=λd E=>ZO i (.v d) E
def go_name(i:Nat):GOk X (uK i) (gN i):=λM O E H T0 x d E' Q hl f e k =>
 k _ (Zx (O1:=O) (E1:=E) (H1:=H) (r:=.v d) (v:=x) ⟨hl,f,Step.refl.add,PKp.refl⟩ e)
def gNs:List Nat->List D->zN->Out zN
 | [],[],E=>.ok E
 |i::is,d::ds,E=>match ZO i (.v d) E with
  | .ok E1=>gNs is ds E1|_=>.z
 |_,_,_=>.z
def gT(is:List Nat):MG:=λd E=>match d with
 | .t ds=>gNs is ds E|_=>.z
def Jp:List Nat->TGs
 | []=>gNil|i::is=>gCons (uK i) (Jp is)
theorem Zz:∀(is:List Nat) (ds:List D) (xs:List V) {M:Addr->Prop} {O0 O:St} {E0 E E':zN} {H:Hp} {T0:Fz} {a:Addr} {ts:List D} {Q:St->Hp->Prop},
  Got X.K X.mg M O0 E0 H T0 O E H []->Reps X.K X.mg (Hm (Mo M (T0++O.zip E)) H) ds xs->gNs is ds E=.ok E'->(∀O',Got X.K X.mg M O0 E0 H T0 O' E' H []->Q O' H)->Jp is xs O H Q
 | [],[],xs,M,O0,O,E0,E,E',H,T0,a,ts,Q,g,r,e,k=>by
  cases e;simp only[Reps]at r;exact⟨r,k O g⟩
 | [],d::ds,xs,M,O0,O,E0,E,E',H,T0,a,ts,Q,g,r,e,k=>by cases e|i::is,[],xs,M,O0,O,E0,E,E',H,T0,a,ts,Q,g,r,e,k=>by cases e
 |i::is,d::ds,xs,M,O0,O,E0,E,E',H,T0,a,ts,Q,g,r,e,k=>by
  simp only[Reps]at r;obtain⟨x,ZR,rfl,rx,rr⟩:=r;simp only[gNs]at e;cases e1:ZO i (.v d) E with
  |z=>rw[e1]at e;cases e|exc _ _=>rw[e1]at e;cases e
  |ok E1 =>
   rw[e1]at e;refine⟨x,ZR,rfl,?_⟩;have g1:Got X.K X.mg M O0 E0 H T0 O E H [(some x,R.slot (.v d))]:=⟨g.len,g.fr.add rx,g.st.add,g.pk⟩;have g2:=Zx g1 e1;refine Zz is ds ZR (a:=a) (ts:=ts) g2 (rr.mono ?_) e k;refine jI (JS λb hb=>?_);have st:=g2.fr
   -- the stored slot is a value: it z7 nothing
   unfold ZO at e1;cases e2:E[i]? with
   |none=>rw[e2]at e1;cases e1
   |some sl =>
    rw[e2]at e1;have e3:E1=E.set i (.v d):=by cases sl<;>cases e1<;>rfl
    subst e3;have hi:i<E.length:=(qG.mp e2).1;have hz:i<(O.zip E).length:=by rw[List.length_zip];have:=g.len;omega
    rw[vL]at hb;rw[zR]at hb ⊢;rcases mem_append.mp hb with hb|hb
    ·exact mem_append_left _ hb
    ·refine qK _ ?_
     have:=zD (zQ _ _ _ hz) b hb;rw[zb]at this;exact zC (eraseIdx_sublist _ _) b this
def zFF{n:Nat}(is:List Nat)(hn:is.length=n):GOk X (gTup X.K n (Jp is)) (gT is):=λM O E H T0 x d E' Q hl f e k=>by
 cases d with
 |t ds =>
  obtain⟨v,ev,r⟩:=f.val _ _ qE;cases ev;obtain⟨a,xs,rfl,h1,h2⟩:=za r;rw[wT]at h2;have hlen:ds.length=is.length:=by
   have:∀(is:List Nat) (ds:List D) (E E':zN),gNs is ds E=.ok E'->ds.length=is.length:=by
    intro is
    induction is with
    |nil=>intro ds E E' h;cases ds with|nil=>rfl|cons d ds=>cases h
    |cons i is ih =>
     intro ds E E' h;cases ds with
     |nil=>cases h
     |cons d ds =>
      simp only[gNs]at h;cases e1:ZO i (.v d) E with
      |ok E1=>rw[e1]at h;simp[ih ds E1 E' h]|z=>rw[e1]at h;cases h|exc _ _=>rw[e1]at h;cases h
   exact this is ds E E' e
  refine⟨a,xs,rfl,zH zE h1,by rw[h2.length,hlen,hn],?_⟩;exact Zz is ds xs (a:=a) (ts:=[]) (Got.refl hl f.tail) h2 e k
 |_=>cases e
def wX(tg:MG)(body:MS):List D->zN->Out (Fl×zN)
 | [],E=>.ok (.nx,E)
 |d::ds,E=>match tg d E with
  | .ok E1=>match body E1 with
   | .ok (.nx,E2)=>wX tg body ds E2| .ok (.ct,E2)=>wX tg body ds E2| .ok (.bk,E2)=>.ok (.nx,E2)| .ok (.ret r,E2)=>.ok (.ret r,E2)| .exc x E2=>.exc x E2| .z=>.z
  |_=>.z
def Fin(X:Cx)(M:Addr->Prop)(O:St)(E:zN)(H:Hp)(D:Ends)(o:Out (Fl×zN)):Prop:=match o with
 | .z=>False| .ok (.nx,E')=>∀O' H',Got X.K X.mg M O E H [] O' E' H' []->D.nx O' H'| .ok (.bk,E')=>∀O' H',Got X.K X.mg M O E H [] O' E' H' []->D.bk O' H'| .ok (.ct,E')=>∀O' H',Got X.K X.mg M O E H [] O' E' H' []->D.ct O' H'| .ok (.ret r,E')=>∀v O' H',Got X.K X.mg M O E H [] O' E' H' [(some v,r.slot)]->D.rt v H'| .exc x E'=>∀O' H',Got X.K X.mg M O E H [] O' E' H' []->XE X O' H' x
def Got.dropT{K:qH}{mg:Str->Option Value}{M:Addr->Prop}{O O1:St}{E E1:zN}{H H1:Hp}{T T':Fz}(a:Got K mg M O E H [] O1 E1 H1 (T++T')):Got K mg M O E H [] O1 E1 H1 T where
 len:=a.len
 fr:=a.fr.sub (by rw[append_assoc];exact(sublist_append_right _ _).append_left _)
 st:=a.st.weak (zC (by rw[append_assoc];exact(sublist_append_right _ _).append_left _))
 pk:=a.pk
def ZU{tg:MG}{body:MS}{g:TG}{D:Ends}{d:DV.D}{ds:List DV.D}{O1:St}{E1:zN}{H1:Hp}{T:Fz}{x:V}{P:St->Hp->Prop}(hg:GOk X g tg)
  (g1:Got X.K X.mg M O E H [] O1 E1 H1 T) (rx:Rep X.K X.mg (Hm (Mo M (T++O1.zip E1)) H1) d x) (fin:Fin X M O E H D (wX tg body (d::ds) E1))
  (next:∀O2 E2 H2,Got X.K X.mg M O E H [] O2 E2 H2 T->Step M H1 (T++O1.zip E1) H2 (T++O2.zip E2)->Fin X M O E H D (wX tg body ds E2)->P O2 H2) :
  g x O1 H1 λO2 H2=>tS X body {D with nx:=P,ct:=P,bk:=D.nx} O2 H2:=by
 simp only[wX]at fin;cases e1:tg d E1 with
 |z=>rw[e1]at fin;exact fin.elim|exc _ _=>rw[e1]at fin;exact fin.elim
 |ok E2 =>
  rw[e1]at fin;dsimp only at fin;refine hg M O1 E1 H1 T x d E2 _ g1.len (g1.fr.add rx) e1 λO2 g2=>?_
  have g12:=g1.trans' g2;refine Zw (T0:=T) g2.len g2.fr ?_;cases e2:body E2 with
  |z=>rw[e2]at fin;exact fin|exc y E3=>rw[e2]at fin;exact λO' H' g'=>fin O' H' (g12.trans' g').dropAll
  |ok p =>
   obtain⟨fl,E3⟩:=p;rw[e2]at fin;cases fl with
   |nx=>exact λO' H' g'=>next O' E3 H' (g12.trans' g') (g2.st.trans g'.st) fin|ct=>exact λO' H' g'=>next O' E3 H' (g12.trans' g') (g2.st.trans g'.st) fin|bk=>exact λO' H' g'=>fin O' H' (g12.trans' g').dropAll|ret r=>exact λv O' H' g'=>fin v O' H' (g12.trans' g').dropT
def sForL(m:ME)(tg:MG)(body:MS):MS:=λE=>match m E with
 | .z=>.z| .exc x E1=>.exc x E1
 | .ok (r,E1)=>match r.d with
  | .l ds=>wX tg body ds E1|_=>.z
def sForT(m:ME)(tg:MG)(body:MS):MS:=λE=>match m E with
 | .z=>.z| .exc x E1=>.exc x E1
 | .ok (r,E1)=>match r.d with
  | .t ds=>wX tg body ds E1|_=>.z
def Qq{m:MS}{D:Ends}(h:tS X m D O H):∃M E,E.length=O.length/\FR X.K X.mg M H (O.zip E)/\Fin X M O E H D (m E):=h
def zDm{m:ME}{tg:MG}{g:TG}{body:MS}{D:Ends}(hg:GOk X g tg)(h:tS X (sForL m tg body) D O H):tFor (iList X.K (tM X m)) g (tS X body) D O H:=by
 obtain⟨M,E,hl,fr,k⟩:=Qq h;unfold sForL at k;refine ze (T0:=[]) hl fr ?_;cases ea:m E with
 |z=>rw[ea]at k;exact k|exc x E1=>rw[ea]at k;exact λH' g=>k O H' g
 |ok p =>
  obtain⟨r,E1⟩:=p;rw[ea]at k;intro v H1 g0;have g1:Got X.K X.mg M O E H [] O E1 H1 [(some v,.v r.d)]:=⟨g0.len,g0.fr.frz,g0.st.frz,g0.pk⟩;dsimp only at k;cases ed:r.d with
  |l ds =>
   rw[ed]at k g1;have rl:=g0.rep;rw[ed]at rl;obtain⟨a,xs,rfl,q1,q2⟩:=zU rl;refine⟨a,rfl,⟨xs,zE.seq q1⟩,?_⟩;have em:∀(O':St) (E':zN),Mo M ([(some (V.ref a),Slot.v (.l ds))]++O'.zip E')=Mo M (O'.zip E'):=λO' E'=>wT _ _ _ _
   refine zDJ (K:=X.K) (a:=a) (xs:=xs) (λi O1 H2=>∃E2,Got X.K X.mg M O E H [] O1 E2 H2 [(some (.ref a),.v (.l ds))]/\SqL X.K (Hm (Mo M (O1.zip E2)) H2) a xs/\Reps X.K X.mg (Hm (Mo M (O1.zip E2)) H2) ds xs/\Fin X M O E H D (wX tg body (ds.drop i) E2))
    ⟨E1,g1,q1,q2,k⟩ (λi O' H' _ ⟨E2,_,q,_⟩=>zE.seq q) ?_ ?_
   ·rintro i x O1 H2 hx ⟨E2,g2,s2,r2,fin⟩
    obtain⟨d,hd,rx⟩:=r2.get hx;have ed:ds.drop i=d::ds.drop (i+1):=by
     obtain⟨hi,rfl⟩:=qG.mp hd;exact drop_eq_getElem_cons hi
    rw[ed]at fin;refine ZU hg g2 (by rw[em];exact rx) fin λO3 E3 H3 g3 st fin3=>?_
    have sm:=st.same;rw[em,em]at sm;exact⟨E3,g3,sm.seq s2,r2.mono sm,fin3⟩
   ·rintro O1 H2 ⟨E2,g2,s2,r2,fin⟩
    rw[r2.length,drop_length]at fin;exact fin O1 H2 g2.dropAll
  |_=>rw[ed]at k;exact k.elim
def zDn{m:ME}{tg:MG}{g:TG}{body:MS}{D:Ends}(hg:GOk X g tg)(h:tS X (sForT m tg body) D O H):tFor (iTup X.K (tM X m)) g (tS X body) D O H:=by
 obtain⟨M,E,hl,fr,k⟩:=Qq h;unfold sForT at k;refine ze (T0:=[]) hl fr ?_;cases ea:m E with
 |z=>rw[ea]at k;exact k|exc x E1=>rw[ea]at k;exact λH' g=>k O H' g
 |ok p =>
  obtain⟨r,E1⟩:=p;rw[ea]at k;intro v H1 g0;have g1:Got X.K X.mg M O E H [] O E1 H1 [(some v,.v r.d)]:=⟨g0.len,g0.fr.frz,g0.st.frz,g0.pk⟩;dsimp only at k;cases ed:r.d with
  |t ds =>
   rw[ed]at k g1;have rl:=g0.rep;rw[ed]at rl;obtain⟨a,xs,rfl,q1,q2⟩:=za rl;refine⟨a,rfl,⟨xs,zH zE q1⟩,?_⟩;have em:∀(O':St) (E':zN),Mo M ([(some (V.ref a),Slot.v (.t ds))]++O'.zip E')=Mo M (O'.zip E'):=λO' E'=>wT _ _ _ _
   refine for_tup (K:=X.K) (a:=a) (xs:=xs) (λi O1 H2=>∃E2,Got X.K X.mg M O E H [] O1 E2 H2 [(some (.ref a),.v (.t ds))]/\SqT X.K (Hm (Mo M (O1.zip E2)) H2) a xs/\Reps X.K X.mg (Hm (Mo M (O1.zip E2)) H2) ds xs/\Fin X M O E H D (wX tg body (ds.drop i) E2))
    ⟨E1,g1,q1,q2,k⟩ (λi O' H' _ ⟨E2,_,q,_⟩=>zH zE q) ?_ ?_
   ·rintro i x O1 H2 hx ⟨E2,g2,s2,r2,fin⟩
    obtain⟨d,hd,rx⟩:=r2.get hx;have ed:ds.drop i=d::ds.drop (i+1):=by
     obtain⟨hi,rfl⟩:=qG.mp hd;exact drop_eq_getElem_cons hi
    rw[ed]at fin;refine ZU hg g2 (by rw[em];exact rx) fin λO3 E3 H3 g3 st fin3=>?_
    have sm:=st.same;rw[em,em]at sm;exact⟨E3,g3,zH sm s2,r2.mono sm,fin3⟩
   ·rintro O1 H2 ⟨E2,g2,s2,r2,fin⟩
    rw[r2.length,drop_length]at fin;exact fin O1 H2 g2.dropAll
  |_=>rw[ed]at k;exact k.elim
def zG(lo:Int):Nat->List D
 |0=>[]|n+1=>.int lo::zG (lo+1) n
theorem yJ(lo:Int):∀n,(zG lo n).length=n
 |0=>rfl|n+1=>by simp[zG,yJ (lo+1) n]
theorem wD:∀(n i:Nat) (lo:Int),i<n->(zG lo n).drop i=.int (lo+i)::(zG lo n).drop (i+1)
 |0,_,_,h=>by omega|n+1,0,lo,_=>by simp[zG]
 |n+1,i+1,lo,h=>by
  have:=wD n i (lo+1) (by omega);simp only[zG,List.drop_succ_cons];rw[this];congr 2;omega
def sForR1(m:MA)(tg:MG)(body:MS):MS:=λE=>match m E with
 | .z=>.z| .exc x E1=>.exc x E1
 | .ok ([r],E1)=>match r.d with
  | .int j=>if -(2^62)<=j/\j<2^62 then wX tg body (zG 0 j.toNat) E1 else .z|_=>.z
 |_=>.z
def Gv{tg:MG}{g:TG}{body:MS}{D:Ends}(hg:GOk X g tg){lo:Int}{n:Nat}{E1:zN}{H1:Hp}(g1:Got X.K X.mg M O E H [] O E1 H1 [])(fin:Fin X M O E H D (wX tg body (zG lo n) E1)) :
  ∃W:Nat->Nat->St->Hp->Prop,(∃m,W 0 m O H1)/\∀i m O H,W i m O H ->
   ((Itr lo n).stop i H/\D.nx O H)\/((Itr lo n).go i H/\∃N:St->Hp->Prop,(∀O' H',N O' H'->∃m',m'<m/\W (i+1) m' O' H')/\∀x H',(Itr lo n).yld i H x H'->g x O H' λO2 H2=>tS X body {D with nx:=N,ct:=N,bk:=D.nx} O2 H2):=by
 refine zA3 (λi O1 H2=>∃E2,Got X.K X.mg M O E H [] O1 E2 H2 []/\Fin X M O E H D (wX tg body ((zG lo n).drop i) E2)) ⟨E1,g1,fin⟩ ?_ ?_
 ·rintro i O1 H2 hi ⟨E2,g2,fin⟩
  rw[wD n i lo hi]at fin;exact ZU hg g2 (by simp only[Rep]) fin λO3 E3 H3 g3 st fin3=>⟨E3,g3,fin3⟩
 ·rintro O1 H2 ⟨E2,g2,fin⟩
  rw[List.drop_of_length_le (by rw[yJ];exact le_refl _)]at fin;exact fin O1 H2 g2
def zBl{m:MA}{tg:MG}{g:TG}{body:MS}{D:Ends}(hg:GOk X g tg)(h:tS X (sForR1 m tg body) D O H):tFor (iRng1 (tMA X m)) g (tS X body) D O H:=by
 obtain⟨M,E,hl,fr,k⟩:=Qq h;unfold sForR1 at k;refine Jk (T0:=[]) hl fr ?_;cases ea:m E with
 |z=>rw[ea]at k;exact k|exc x E1=>rw[ea]at k;exact λH' g=>k O H' g
 |ok p =>
  obtain⟨rs,E1⟩:=p;rw[ea]at k
  match rs,k with
  | [r],k =>
   intro vs H1 hv g1;have rp:=Got.reps hv g1;dsimp only at k;cases ed:r.d with
   |int j =>
    rw[ed]at k;simp only[List.map,ed]at rp;obtain⟨v,rfl,h1⟩:=YM rp;dsimp only at k;by_cases hc:-(2^62)<=j/\j<2^62
    ·rw[if_pos hc]at k
     exact⟨j,by rw[zK h1],hc.1,hc.2,Gv hg g1.dropAll k⟩
    ·rw[if_neg hc]at k;exact k.elim
   |_=>rw[ed]at k;exact k.elim
  | [],k=>exact k.elim|_::_::_,k=>exact k.elim
def sk_forL{tgt iter:Expr}{body:List Stmt}{m:ME}{g:TG}{tg:MG}{mb:MS}{pos:Pos}(hp:PassesOwn (model X.prog X.w) X.A X.env X.xe)(hc:X.calm=true)(hi:EOk X iter m)(hg:PG X tgt g)(ho:GOk X g tg)(hb:Gr X body mb)
  (hs:∀x,foldedSetIterable iter X.env x=pure x:=by intro _;rfl):SOk X (.For tgt iter body [] pos) (sForL m tg mb):=yW (Qd hp hc (zA0 hi) hg hb hs) λD O H=>zDm ho
def sk_forT{tgt iter:Expr}{body:List Stmt}{m:ME}{g:TG}{tg:MG}{mb:MS}{pos:Pos}(hp:PassesOwn (model X.prog X.w) X.A X.env X.xe)(hc:X.calm=true)(hi:EOk X iter m)(hg:PG X tgt g)(ho:GOk X g tg)(hb:Gr X body mb)
  (hs:∀x,foldedSetIterable iter X.env x=pure x:=by intro _;rfl):SOk X (.For tgt iter body [] pos) (sForT m tg mb):=yW (Qd hp hc (zE2 hi) hg hb hs) λD O H=>zDn ho
def zDo{tgt a:Expr}{body:List Stmt}{m:MA}{g:TG}{tg:MG}{mb:MS}{p cpos pos:Pos}(hp:PassesOwn (model X.prog X.w) X.A X.env X.xe)(hc:X.calm=true)(hgl:Gl X "range")(hm:X.mg "range"=none)(ha:AOk X [a] m)(hg:PG X tgt g)(ho:GOk X g tg)(hb:Gr X body mb)
  (hst:zT a=false:=by rfl) (hs:∀x,foldedSetIterable (.Call (.Name "range" p) [a] [] cpos) X.env x=pure x:=by intro _;rfl):SOk X (.For tgt (.Call (.Name "range" p) [a] [] cpos) body [] pos) (sForR1 m tg mb) :=
 yW (Qd hp hc (uL hgl hm ha (zDY hst)) hg hb hs) λD O H=>zBl ho
end
section
variable{X:Cx}{K:qH}{mg:Str->Option Value}{O:St}{M:Addr->Prop}{E:zN}{H H':Hp}{T0 Z T:Fz}
def zDp{o:Option V}{s s':Slot}{ds:List D}(h:s.list?=some ds)(h':s'.list?=some ds):vJ (o,s')=vJ (o,s):=by
 cases s<;>simp[Slot.list?]at h<;>cases s'<;>simp[Slot.list?]at h'<;>(cases o with|none=>rfl|some v=>cases v<;>rfl)
def ZV{o:Option V}{s s':Slot}{ds:List D}(h:s.list?=some ds)(h':s'.list?=some ds):z7 ((o,s')::Z)=z7 ((o,s)::Z):=by
 unfold z7;rw[filterMap_cons,filterMap_cons,zDp h h']
def FR.lab{o:Option V}{s s':Slot}{ds:List D}(f:FR K mg M H ((o,s)::Z))(h:s.list?=some ds)(h':s'.list?=some ds):FR K mg M H ((o,s')::Z):=by
 have em:Mo M ((o,s')::Z)=Mo M ((o,s)::Z):=by unfold Mo;rw[ZV h h']
 refine⟨λo' d q=>?_,λo' t es q e=>?_,by rw[ZV h h'];exact f.nd,f.mal⟩
 ·rw[em]
  rcases mem_cons.mp q with q|q
  ·cases q;cases h'
  ·exact f.val o' d (qD _ q)
 ·rw[em]
  rcases mem_cons.mp q with q|q
  ·cases q
   rw[zBS h']at e;cases e;exact f.own o s _ qE (zBS h)
  ·exact f.own o' t es (qD _ q) e
def ue{o:Option V}{s1 s2:Slot}{i:Nat}(hi:Z[i]?=some (o,s2)):((o,s1)::(T++Z)).Perm ((o,s2)::(T++Z.set i (o,s1))):=by
 have hlt:i<Z.length:=(qG.mp hi).1;have p1:Z.Perm ((o,s2)::Z.eraseIdx i):=by
  have:=zQ (o,s2) Z i hlt;rw[jj hi]at this;exact this
 have p2:(Z.set i (o,s1)).Perm ((o,s1)::Z.eraseIdx i):=zQ _ _ _ hlt;refine((p1.append_left T).cons _).trans ?_;refine List.Perm.trans ?_ ((p2.append_left T).cons _).symm;have a:(T++(o,s2)::Z.eraseIdx i).Perm ((o,s2)::(T++Z.eraseIdx i)):=perm_middle;have b:(T++(o,s1)::Z.eraseIdx i).Perm ((o,s1)::(T++Z.eraseIdx i)):=perm_middle;exact((a.cons _).trans (List.Perm.swap _ _ _)).trans (b.cons _).symm
inductive AR where
 |tmp (d:D)
 |ln (i:Nat)
 deriving Inhabited
def AR.slot:AR->Slot
 | .tmp d=>.v d| .ln _=>.e
def zx(vs:List V)(as:List AR):Fz:=(vs.map some).zip (as.map AR.slot)
def AV(O:St):List AR->List V->Prop
 | [],vs=>vs=[]| .tmp _::as,vs=>∃v r,vs=v::r/\AV O as r| .ln i::as,vs=>∃v r,vs=v::r/\O[i]?=some (some v)/\AV O as r
theorem AV.length:∀{as:List AR} {vs:List V},AV O as vs->vs.length=as.length
 | [],_,h=>by simp only[AV]at h;subst h;rfl| .tmp _::as,_,h=>by simp only[AV]at h;obtain⟨v,r,rfl,h⟩:=h;simp[AV.length h]| .ln i::as,_,h=>by simp only[AV]at h;obtain⟨v,r,rfl,_,h⟩:=h;simp[AV.length h]
def zL:List AR->zN->Out (List Slot×zN)
 | [],E=>.ok ([],E)
 | .tmp d::as,E=>match zL as E with
  | .ok (ss,E')=>.ok (.v d::ss,E')|_=>.z
 | .ln i::as,E=>match E[i]? with
  |none=>.z
  |some s=>match s.list? with
   |none=>.z
   |some ds=>match zL as (E.set i .e)with
    | .ok (ss,E')=>.ok (.par ds::ss,E')|_=>.z
def zJ:List AR->List Slot->zN->zN->Out zN
 | [],[],_,E=>.ok E| .tmp _::as,_::ss,E0,E=>zJ as ss E0 E
 | .ln i::as,s'::ss,E0,E=>match E0[i]? with
  |none=>.z
  |some s=>match s.list?,s'.list?,E[i]? with
   |some _,some ds,some .e=>zJ as ss E0 (E.set i (s.put ds))|_,_,_=>.z
 |_,_,_,_=>.z
theorem Ys:∀(as:List AR) {vs:List V} {E E':zN} {ss:List Slot} {T:Fz},E.length=O.length->AV O as vs->zL as E=.ok (ss,E')->FR K mg M H (T++(zx vs as++O.zip E)) ->
  FR K mg M H (T++((vs.map some).zip ss++O.zip E'))/\(∀b,b∈z7 (T++(zx vs as++O.zip E))↔b∈z7 (T++((vs.map some).zip ss++O.zip E')))/\ss.length=as.length/\E'.length=O.length
 | [],vs,E,E',ss,T,hl,av,e,f=>by
  cases e;simp only[AV]at av;subst av;exact⟨f,λb=>Iff.rfl,rfl,hl⟩
 | .tmp d::as,vs,E,E',ss,T,hl,av,e,f=>by
  simp only[AV]at av;obtain⟨v,r,rfl,av⟩:=av;simp only[zL]at e;cases e1:zL as E with
  |z=>rw[e1]at e;cases e|exc _ _=>rw[e1]at e;cases e
  |ok p =>
   obtain⟨ss1,E1⟩:=p;rw[e1]at e;cases e;have f1:FR K mg M H ((T++[(some v,.v d)])++(zx r as++O.zip E)):=by
    rw[append_assoc];exact f
   obtain⟨g1,g2,g3,g4⟩:=Ys as hl av e1 f1;refine⟨by rw[append_assoc]at g1;exact g1,λb=>?_,by simp[g3],g4⟩;have:=g2 b;rw[append_assoc,append_assoc]at this;exact this
 | .ln i::as,vs,E,E',ss,T,hl,av,e,f=>by
  simp only[AV]at av;obtain⟨v,r,rfl,hv,av⟩:=av;simp only[zL]at e;cases e0:E[i]? with
  |none=>rw[e0]at e;cases e
  |some s =>
   rw[e0]at e;dsimp only at e;cases e2:s.list? with
   |none=>rw[e2]at e;cases e
   |some ds =>
    rw[e2]at e;dsimp only at e;cases e1:zL as (E.set i .e)with
    |z=>rw[e1]at e;cases e|exc _ _=>rw[e1]at e;cases e
    |ok p =>
     obtain⟨ss1,E1⟩:=p;rw[e1]at e;cases e;obtain⟨o,h1,h2⟩:=jZ hl e0;have ho:o=some v:=by rw[hv]at h1;exact(qJ h1).symm
     subst ho;have ez:O.zip (E.set i .e)=(O.zip E).set i (some v,.e):=zS .e hv;have pA:(T++(((some v,Slot.e)::zx r as)++O.zip E)).Perm ((some v,s)::(T++(zx r as++O.zip (E.set i .e)))):=by
      rw[ez];have a:(T++(((some v,Slot.e)::zx r as)++O.zip E)).Perm ((some v,Slot.e)::((T++zx r as)++O.zip E)):=by
       rw[append_assoc];exact perm_middle
      refine a.trans ((ue h2).trans ?_);rw[append_assoc]
     have f1:=(f.perm pA).lab e2 (s':=.par ds) rfl;have f2:FR K mg M H ((((some v,Slot.par ds))::T)++(zx r as++O.zip (E.set i .e))):=f1;obtain⟨g1,g2,g3,g4⟩:=Ys as (by simp[hl]) av e1 f2;have pB:(((some v,Slot.par ds)::T)++((r.map some).zip ss1++O.zip E')).Perm (T++(((some v,Slot.par ds)::(r.map some).zip ss1)++O.zip E')):=perm_middle.symm;refine⟨g1.perm pB,λb=>?_,by simp[g3],g4⟩;have x1:b∈z7 (T++(((some v,Slot.e)::zx r as)++O.zip E))↔b∈z7 ((some v,s)::(T++(zx r as++O.zip (E.set i .e)))):=(pA.filterMap vJ).mem_iff;have x2:z7 ((some v,Slot.par ds)::(T++(zx r as++O.zip (E.set i .e))))=z7 ((some v,s)::(T++(zx r as++O.zip (E.set i .e)))):=ZV e2 rfl;have x3:=g2 b;have x4:b∈z7 (((some v,Slot.par ds)::T)++((r.map some).zip ss1++O.zip E'))↔b∈z7 (T++(((some v,Slot.par ds)::(r.map some).zip ss1)++O.zip E')):=(pB.filterMap vJ).mem_iff;refine x1.trans ?_;rw[<- x2];exact x3.trans x4
theorem vP:∀(as:List AR) {vs:List V} {E0 E E':zN} {ss:List Slot} {T:Fz},E.length=O.length->AV O as vs->zJ as ss E0 E=.ok E'->FR K mg M H (T++((vs.map some).zip ss++O.zip E)) ->
  FR K mg M H (T++O.zip E')/\(∀b,b∈z7 (T++O.zip E')->b∈z7 (T++((vs.map some).zip ss++O.zip E)))/\E'.length=O.length
 | [],vs,E0,E,E',ss,T,hl,av,e,f=>by
  cases ss with
  |cons _ _=>cases e
  |nil =>
   cases e;simp only[AV]at av;subst av;exact⟨f,λb q=>q,hl⟩
 | .tmp d::as,vs,E0,E,E',ss,T,hl,av,e,f=>by
  simp only[AV]at av;obtain⟨v,r,rfl,av⟩:=av;cases ss with
  |nil=>cases e
  |cons s ss =>
   simp only[zJ]at e;have sub:(T++((r.map some).zip ss++O.zip E)).Sublist (T++(((some v,s)::(r.map some).zip ss)++O.zip E)):=(sublist_cons_self _ _).append_left _;obtain⟨g1,g2,g3⟩:=vP as hl av e (f.sub sub);exact⟨g1,λb q=>zC sub b (g2 b q),g3⟩
 | .ln i::as,vs,E0,E,E',ss,T,hl,av,e,f=>by
  simp only[AV]at av;obtain⟨v,r,rfl,hv,av⟩:=av;cases ss with
  |nil=>cases e
  |cons s' ss =>
   simp only[zJ]at e;cases e0:E0[i]? with
   |none=>rw[e0]at e;cases e
   |some s =>
    rw[e0]at e;dsimp only at e;cases e1:s.list? with
    |none=>rw[e1]at e;cases e
    |some ds0 =>
     cases e2:s'.list? with
     |none=>rw[e1,e2]at e;cases e
     |some ds =>
      cases e3:E[i]? with
      |none=>rw[e1,e2,e3]at e;cases e
      |some se =>
       rw[e1,e2,e3]at e;cases se with
       |e =>
        dsimp only at e;obtain⟨o,h1,h2⟩:=jZ hl e3;have ho:o=some v:=by rw[hv]at h1;exact(qJ h1).symm
        subst ho;have ez:O.zip (E.set i (s.put ds))=(O.zip E).set i (some v,s.put ds):=zS _ hv;have hp:(s.put ds).list?=some ds:=(vO (p:=0) e1).2;have pA:(T++(((some v,s')::(r.map some).zip ss)++O.zip E)).Perm ((some v,s')::((T++(r.map some).zip ss)++O.zip E)):=by
         rw[append_assoc];exact perm_middle
        have f1:=(f.perm pA).lab e2 hp;have pB:((some v,s.put ds)::((T++(r.map some).zip ss)++O.zip E)).Perm ((some v,Slot.e)::((T++(r.map some).zip ss)++O.zip (E.set i (s.put ds)))):=by
         rw[ez];exact ue h2
        have f2:=(f1.perm pB).tail;rw[append_assoc]at f2;obtain⟨g1,g2,g3⟩:=vP as (by simp[hl]) av e f2;refine⟨g1,λb q=>?_,g3⟩;have q1:=g2 b q;rw[<- append_assoc]at q1;have q2:b∈z7 ((some v,Slot.e)::((T++(r.map some).zip ss)++O.zip (E.set i (s.put ds)))):=zC (sublist_cons_self _ _) b q1;have q3:=zD pB.symm b q2;rw[ZV e2 hp]at q3;exact zD pA.symm b q3
       |_=>cases e
def Gw:List AR->List Nat
 | []=>[]| .tmp _::as=>Gw as| .ln i::as=>i::Gw as
theorem vQ:∀(as:List AR) {E E':zN} {ss:List Slot},zL as E=.ok (ss,E')->∀(k:Nat),k∉Gw as->E'[k]?=E[k]?
 | [],E,E',ss,e,k,h=>by cases e;rfl
 | .tmp d::as,E,E',ss,e,k,h=>by
  simp only[zL]at e;cases e1:zL as E with
  |z=>rw[e1]at e;cases e|exc _ _=>rw[e1]at e;cases e
  |ok p =>
   obtain⟨ss1,E1⟩:=p;rw[e1]at e;cases e;exact vQ as e1 k h
 | .ln i::as,E,E',ss,e,k,h=>by
  simp only[zL]at e;cases e0:E[i]? with
  |none=>rw[e0]at e;cases e
  |some s =>
   rw[e0]at e;dsimp only at e;cases e2:s.list? with
   |none=>rw[e2]at e;cases e
   |some ds =>
    rw[e2]at e;dsimp only at e;cases e1:zL as (E.set i .e)with
    |z=>rw[e1]at e;cases e|exc _ _=>rw[e1]at e;cases e
    |ok p =>
     obtain⟨ss1,E1⟩:=p;rw[e1]at e;cases e;simp only[Gw,mem_cons,not_or]at h;rw[vQ as e1 k h.2,getElem?_set_ne (λq=>h.1 q.symm)]
theorem ZW:∀(as:List AR) {E0 E E':zN} {ss:List Slot},zJ as ss E0 E=.ok E'->∀(k:Nat),E'[k]?=E[k]?\/∃(s:Slot) (ds:List D),E0[k]?=some s/\E'[k]?=some (s.put ds)
 | [],E0,E,E',ss,e,k=>by
  cases ss with
  |cons _ _=>cases e|nil=>cases e;exact .inl rfl
 | .tmp d::as,E0,E,E',ss,e,k=>by
  cases ss with
  |nil=>cases e|cons s ss=>exact ZW as e k
 | .ln i::as,E0,E,E',ss,e,k=>by
  cases ss with
  |nil=>cases e
  |cons s' ss =>
   simp only[zJ]at e;cases e0:E0[i]? with
   |none=>rw[e0]at e;cases e
   |some s =>
    rw[e0]at e;dsimp only at e;cases e1:s.list? with
    |none=>rw[e1]at e;cases e
    |some ds0 =>
     cases e2:s'.list? with
     |none=>rw[e1,e2]at e;cases e
     |some ds =>
      cases e3:E[i]? with
      |none=>rw[e1,e2,e3]at e;cases e
      |some se =>
       rw[e1,e2,e3]at e;cases se with
       |e =>
        dsimp only at e;rcases ZW as e k with q|q
        ·by_cases ek:i=k
         ·subst ek
          have hlt:i<E.length:=(qG.mp e3).1;rw[getElem?_set_self hlt]at q;exact .inr ⟨s,ds,e0,q⟩
         ·rw[getElem?_set_ne ek]at q
          exact .inl q
        ·exact .inr q
       |_=>cases e
theorem Z0:∀(as:List AR) {E0 E E':zN} {ss:List Slot},zJ as ss E0 E=.ok E'->∀(k:Nat),k∈Gw as->∃(s:Slot) (ds:List D),E0[k]?=some s/\E'[k]?=some (s.put ds)
 | [],E0,E,E',ss,e,k,h=>by cases h
 | .tmp d::as,E0,E,E',ss,e,k,h=>by
  cases ss with
  |nil=>cases e|cons s ss=>exact Z0 as e k h
 | .ln i::as,E0,E,E',ss,e,k,h=>by
  cases ss with
  |nil=>cases e
  |cons s' ss =>
   simp only[zJ]at e;cases e0:E0[i]? with
   |none=>rw[e0]at e;cases e
   |some s =>
    rw[e0]at e;dsimp only at e;cases e1:s.list? with
    |none=>rw[e1]at e;cases e
    |some ds0 =>
     cases e2:s'.list? with
     |none=>rw[e1,e2]at e;cases e
     |some ds =>
      cases e3:E[i]? with
      |none=>rw[e1,e2,e3]at e;cases e
      |some se =>
       rw[e1,e2,e3]at e;cases se with
       |e =>
        dsimp only at e;by_cases ek:i=k
        ·subst ek
         rcases ZW as e i with q|q
         ·have hlt:i<E.length:=(qG.mp e3).1
          rw[getElem?_set_self hlt]at q;exact⟨s,ds,e0,q⟩
         ·exact q
        ·simp only[Gw,mem_cons]at h
         rcases h with h|h
         ·exact absurd h.symm ek
         ·exact Z0 as e k h
       |_=>cases e
def zBm{as:List AR}{E1 E2 E3:zN}{ss outs:List Slot}(h1:zL as E1=.ok (ss,E2))(h2:zJ as outs E1 E2=.ok E3):PKp O E1 O E3:=λk ds e=>by
 refine⟨?_,rfl⟩;by_cases hk:k∈Gw as
 ·obtain⟨s,es,q1,q2⟩:=Z0 as h2 k hk
  rw[e]at q1;cases q1;exact⟨es,q2⟩
 ·rcases ZW as h2 k with q|⟨s,es,q1,q2⟩
  ·rw[q,vQ as h1 k hk];exact⟨ds,e⟩
  ·rw[e]at q1;cases q1
   exact⟨es,q2⟩
abbrev MF:=List Slot->Out (R×List Slot)
def spM(K:qH)(mg:Str->Option Value)(n:Nat)(F:MF):Sp:=λvs H Q XQ=>vs.length=n/\∃(M:Addr->Prop) (ss:List Slot),ss.length=vs.length/\FR K mg M H ((vs.map some).zip ss)/\match F ss with
 | .z=>False| .ok (r,outs)=>∀v H',outs.length=vs.length->FR K mg M H' ((some v,r.slot)::(vs.map some).zip outs)->Step M H ((vs.map some).zip ss) H' ((some v,r.slot)::(vs.map some).zip outs)->Q v H'| .exc x _=>∀C od H',mg x.cls=some (.ref C)->Fs od H' x.cls x.vs->FR K mg M H' []->Step M H ((vs.map some).zip ss) H' []->XQ (.ref C) od H'
inductive Arg where
 |ev (m:ME)
 |lend (i:Nat)
def zt:List Arg->zN->Out (List AR×zN)
 | [],E=>.ok ([],E)
 | .ev m::as,E=>match m E with
  | .z=>.z| .exc x E1=>.exc x E1
  | .ok (r,E1)=>match zt as E1 with
   | .ok (ars,E2)=>.ok (.tmp r.d::ars,E2)| .exc x E2=>.exc x E2| .z=>.z
 | .lend i::as,E=>if yg E[i]?=true then .z else match zt as E with
  | .ok (ars,E2)=>.ok (.ln i::ars,E2)| .exc x E2=>.exc x E2| .z=>.z
def tArgs(X:Cx)(as:List Arg):TA:=λO H Q=>∃M E,E.length=O.length/\FR X.K X.mg M H (O.zip E)/\match zt as E with
 | .z=>False| .ok (ars,E')=>∀vs H',AV O ars vs->Got X.K X.mg M O E H [] O E' H' (zx vs ars)->Q vs H'| .exc x E'=>∀H',Got X.K X.mg M O E H [] O E' H' []->XE X O H' x
abbrev zFG(X:Cx)(es:List Expr)(as:List Arg):Prop:=PA X es (tArgs X as)
def Z3{as:List Arg}{Q:List V->Hp->Prop}(hl:E.length=O.length)(h:FR X.K X.mg M H (T0++O.zip E))
  (k:match zt as E with | .z=>False | .ok (ars,E')=>∀vs H',AV O ars vs->Got X.K X.mg M O E H T0 O E' H' (zx vs ars)->Q vs H' | .exc x E'=>∀H',Got X.K X.mg M O E H T0 O E' H' []->XE X O H' x):tArgs X as O H Q:=by
 refine⟨Mo M T0,E,hl,h.inner,?_⟩;cases e:zt as E with
 |z=>rw[e]at k;exact k|ok a=>rw[e]at k;exact λvs H' av g=>k vs H' av (g.outer h)|exc x E'=>rw[e]at k;exact λH' g=>k H' (g.outer h)
def ga_nil:zFG X [] []:=uX Y7 λO H Q ⟨M,E,hl,fr,k⟩=>k [] H (by simp only[AV]) (Got.refl (T0:=[]) hl fr)
def ga_ev{e:Expr}{es:List Expr}{m:ME}{as:List Arg}(he:EOk X e m)(hr:zFG X es as)(hs:zT e=false:=by rfl):zFG X (e::es) (.ev m::as):=uX (yw he hr (zI hs)) λO H Q ⟨M,E,hl,fr,k⟩=>by
 simp only[zt]at k;refine ze (T0:=[]) hl fr ?_;cases ea:m E with
 |z=>rw[ea]at k;exact k|exc x E1=>rw[ea]at k;exact k
 |ok p =>
  obtain⟨r1,E1⟩:=p;rw[ea]at k;intro x H1 g0;have g1:Got X.K X.mg M O E H [] O E1 H1 [(some x,.v r1.d)]:=⟨g0.len,g0.fr.frz,g0.st.frz,g0.pk⟩;refine Z3 (T0:=[(some x,.v r1.d)]) g1.len g1.fr ?_;dsimp only at k;cases eb:zt as E1 with
  |z=>rw[eb]at k;exact k|exc x E2=>rw[eb]at k;exact λH' g=>k H' (g1.trans' g).dropAll
  |ok p =>
   obtain⟨ars,E2⟩:=p;rw[eb]at k;intro vs H2 av g2;refine k (x::vs) H2 (by simp only[AV];exact⟨x,vs,rfl,av⟩) ?_;exact(g1.trans' g2).perm (perm_append_comm)
def ga_lend{x:Str}{p:Pos}{es:List Expr}{i:Nat}{as:List Arg}(hv:PE X (.Name x p) (vD i))(hr:zFG X es as)  : zFG X (.Name x p::es) (.lend i::as):=uX (yw hv hr (zI rfl)) λO H Q ⟨M,E,hl,fr,k⟩=>by
 simp only[zt]at k;cases em:yg E[i]? with
 |true=>rw[em]at k;exact k.elim
 |false =>
  rw[em]at k;simp only[Bool.false_eq_true,if_false]at k;obtain⟨s,hs1,hs2⟩:=Jo em;obtain⟨v,hv⟩:=Zy hl fr hs1 hs2;refine⟨v,hv,?_⟩;refine Z3 (T0:=[]) hl fr ?_;cases eb:zt as E with
  |z=>rw[eb]at k;exact k|exc x E2=>rw[eb]at k;exact k
  |ok p =>
   obtain⟨ars,E2⟩:=p;rw[eb]at k;intro vs H2 av g2;refine k (v::vs) H2 (by simp only[AV];exact⟨v,vs,rfl,hv,av⟩) ?_;have em2:Mo M ((some v,Slot.e)::(zx vs ars++([]++O.zip E2)))=Mo M (zx vs ars++([]++O.zip E2)):=uW _ _ _;refine⟨g2.len,⟨λo d q=>?_,λo t ds q e=>?_,?_,g2.fr.mal⟩,⟨?_,g2.st.keep⟩,g2.pk⟩
   ·show ∃v',_/\Rep X.K X.mg (Hm (Mo M ((some v,Slot.e)::(zx vs ars++([]++O.zip E2)))) H2) d v'
    rw[em2];rcases mem_cons.mp q with q|q
    ·cases q
    ·exact g2.fr.val o d q
   ·show ∃a ho,_/\_/\_/\CRep X.K X.mg (Hm (Mo M ((some v,Slot.e)::(zx vs ars++([]++O.zip E2)))) H2) a ds ho
    rw[em2];rcases mem_cons.mp q with q|q
    ·cases q;cases e
    ·exact g2.fr.own o t ds q e
   ·show(z7 ((some v,Slot.e)::(zx vs ars++([]++O.zip E2)))).Nodup
    rw[zr];exact g2.fr.nd
   ·show Yj _ (Hm (Mo M ((some v,Slot.e)::(zx vs ars++([]++O.zip E2)))) H2)
    rw[em2];exact g2.st.same
def Z4:List AR->Bool
 | []=>true| .tmp _::as=>Z4 as| .ln _::_=>false
theorem Wz:∀{as:List AR} {E E':zN} {ss:List Slot},Z4 as=true->zL as E=.ok (ss,E')->E'=E
 | [],E,E',ss,_,e=>by cases e;rfl
 | .tmp d::as,E,E',ss,h,e=>by
  simp only[zL]at e;cases q:zL as E with
  |z=>rw[q]at e;cases e|exc _ _=>rw[q]at e;cases e|ok p=>obtain⟨s1,E1⟩:=p;rw[q]at e;cases e;exact Wz (as:=as) h q
 | .ln i::as,E,E',ss,h,e=>by cases h
def jh(F:MF)(as:List Arg):ME:=λE=>match zt as E with
 | .z=>.z| .exc x E1=>.exc x E1
 | .ok (ars,E1)=>match zL ars E1 with
  | .ok (ss,E2)=>match F ss with
   | .ok (r,outs)=>match zJ ars outs E1 E2 with
    | .ok E3=>.ok (r,E3)|_=>.z
   | .exc x _=>if Z4 ars=true then .exc ⟨x.cls,false,x.vs⟩ E1 else .z| .z=>.z
  |_=>.z
def zDq{F:MF}{n:Nat}{ars:List AR}{E1 E2 E3:zN}{ss outs:List Slot}{r:R}{vs:List V}{H1:Hp}{Q:VK}{XQ:XK}(hn:ars.length=n)(e1:zL ars E1=.ok (ss,E2))(e2:F ss=.ok (r,outs))(e3:zJ ars outs E1 E2=.ok E3)
  (av:AV O ars vs) (g:Got K mg M O E H [] O E1 H1 (zx vs ars)) (k:∀v H',Got K mg M O E H [] O E3 H' [(some v,r.slot)]->Q v H'):spM K mg n F vs H1 Q XQ:=by
 obtain⟨f1,o1,l1,l2⟩:=Ys (T:=[]) ars g.len av e1 g.fr;have f1':FR K mg M H1 (O.zip E2++(vs.map some).zip ss):=FR.perm (T:=O.zip E2++(vs.map some).zip ss) (Z:=(vs.map some).zip ss++O.zip E2) f1 perm_append_comm;have hlen:=av.length;refine⟨hlen.trans hn,Mo M (O.zip E2),ss,l1.trans hlen.symm,f1'.inner,?_⟩;rw[e2];intro v H' ol f2 s2;have f3:=FR.outer f1' f2 s2;have s3:=Step.outer s2;have p:(O.zip E2++((some v,r.slot)::(vs.map some).zip outs)).Perm ([(some v,r.slot)]++((vs.map some).zip outs++O.zip E2)):=by
  refine perm_append_comm.trans ?_;exact List.Perm.refl _
 obtain⟨f4,o4,l4⟩:=vP ars l2 av e3 (f3.perm p);refine k v H' ⟨l4,f4,?_,g.pk.trans (zBm e1 e3)⟩;have st1:Step M H (O.zip E) H1 (O.zip E2++(vs.map some).zip ss):=g.st.weak λb hb=>(o1 b).mpr (zD (T:=O.zip E2++(vs.map some).zip ss) (Z:=(vs.map some).zip ss++O.zip E2) perm_append_comm b hb)
 have st2:=st1.trans s3;exact st2.weak λb hb=>zD p.symm b (o4 b hb)
def zDr{F:MF}{n:Nat}{ars:List AR}{E1 E2:zN}{ss outs:List Slot}{x:Exn}{vs:List V}{H1:Hp}{Q:VK}{XQ:XK}(hn:ars.length=n)(hl:Z4 ars=true)(e1:zL ars E1=.ok (ss,E2))(e2:F ss=.exc x outs)
  (av:AV O ars vs) (g:Got K mg M O E H [] O E1 H1 (zx vs ars)) (k:∀C od H',mg x.cls=some (.ref C)->Fs od H' x.cls x.vs->Got K mg M O E H [] O E1 H' []->XQ (.ref C) od H'):spM K mg n F vs H1 Q XQ:=by
 obtain⟨f1,o1,l1,l2⟩:=Ys (T:=[]) ars g.len av e1 g.fr;have f1':FR K mg M H1 (O.zip E2++(vs.map some).zip ss):=FR.perm (T:=O.zip E2++(vs.map some).zip ss) (Z:=(vs.map some).zip ss++O.zip E2) f1 perm_append_comm;have hlen:=av.length;refine⟨hlen.trans hn,Mo M (O.zip E2),ss,l1.trans hlen.symm,f1'.inner,?_⟩;rw[e2];intro C od H' hm hf f2 s2;have f3:=FR.outer f1' f2 s2;have s3:=Step.outer s2;rw[append_nil]at f3 s3;have st1:Step M H (O.zip E) H1 (O.zip E2++(vs.map some).zip ss):=g.st.weak λb hb=>(o1 b).mpr (zD (T:=O.zip E2++(vs.map some).zip ss) (Z:=(vs.map some).zip ss++O.zip E2) perm_append_comm b hb)
 obtain rfl:=Wz hl e1;exact k C od H' hm hf ⟨g.len,f3,st1.trans s3,g.pk⟩
theorem jP:∀(as:List Arg) {E E':zN} {ars:List AR},zt as E=.ok (ars,E')->ars.length=as.length
 | [],E,E',ars,e=>by cases e;rfl
 | .ev m::as,E,E',ars,e=>by
  simp only[zt]at e;cases ea:m E with
  |z=>rw[ea]at e;cases e|exc _ _=>rw[ea]at e;cases e
  |ok p =>
   obtain⟨r,E1⟩:=p;rw[ea]at e;dsimp only at e;cases eb:zt as E1 with
   |z=>rw[eb]at e;cases e|exc _ _=>rw[eb]at e;cases e|ok p=>obtain⟨a,b⟩:=p;rw[eb]at e;cases e;simp[jP as eb]
 | .lend i::as,E,E',ars,e=>by
  simp only[zt]at e;split at e
  ·cases e
  ·cases eb:zt as E with
   |z=>rw[eb]at e;cases e|exc _ _=>rw[eb]at e;cases e|ok p=>obtain⟨a,b⟩:=p;rw[eb]at e;cases e;simp[jP as eb]
def zDs{F:MF}{n:Nat}{as:List Arg}{Q:VK}(hn:as.length=n)(h:tM X (jh F as) O H Q):tArgs X as O H λvs H1=>spM X.K X.mg n F vs H1 Q (EX X O):=by
 obtain⟨M,E,hl,fr,k⟩:=h;unfold jh at k;refine Z3 (T0:=[]) hl fr ?_;cases ea:zt as E with
 |z=>rw[ea]at k;exact k|exc x E1=>rw[ea]at k;exact k
 |ok p =>
  obtain⟨ars,E1⟩:=p;rw[ea]at k;intro vs H1 av g;dsimp only at k;cases e1:zL ars E1 with
  |z=>rw[e1]at k;exact k.elim|exc _ _=>rw[e1]at k;exact k.elim
  |ok p =>
   obtain⟨ss,E2⟩:=p;rw[e1]at k;dsimp only at k;cases e2:F ss with
   |z=>rw[e2]at k;exact k.elim
   |exc x o =>
    rw[e2]at k;dsimp only at k;cases hl:Z4 ars with
    |false=>rw[hl]at k;exact k.elim
    |true =>
     rw[hl]at k;exact zDr ((jP as ea).trans hn) hl e1 e2 av g λC od H' hm hf g'=>⟨⟨x.cls,false,x.vs⟩,C,rfl,hm,rfl,hf,k H' g'⟩
   |ok p =>
    obtain⟨r,outs⟩:=p;rw[e2]at k;dsimp only at k;cases e3:zJ ars outs E1 E2 with
    |z=>rw[e3]at k;exact k.elim|exc _ _=>rw[e3]at k;exact k.elim
    |ok E3 =>
     rw[e3]at k;exact zDq ((jP as ea).trans hn) e1 e2 e3 av g k
inductive Mask:Fz->Fz->Prop
 |nil (Z:Fz):Mask Z []
 |keep {z:Option V×Slot} {Z W:Fz}:Mask Z W->Mask (z::Z) (z::W)
 |skip {z:Option V×Slot} {Z W:Fz}:Mask Z W->Mask (z::Z) W
 |extra {o:Option V} {Z W:Fz}:Mask Z W->Mask Z ((o,.e)::W)
def Mask.emq{z:Option V×Slot}{o:Option V}{Z W:Fz}(h:Mask Z W):Mask (z::Z) ((o,.e)::W):=.skip (.extra h)
theorem Mask.sub:∀{Z W:Fz},Mask Z W->(z7 W).Sublist (z7 Z)
 |_,_,.nil Z=>by simp[z7]
 |_,_,.keep (z:=z) (Z:=Z) (W:=W) h=>by
  have e:∀W:Fz,z7 (z::W)=z7 [z]++z7 W:=λW=>zR [z] W
  rw[e Z,e W];exact h.sub.append_left _
 |_,_,.skip (z:=z) (Z:=Z) (W:=W) h=>by
  have e:∀W:Fz,z7 (z::W)=z7 [z]++z7 W:=λW=>zR [z] W
  rw[e Z];exact h.sub.trans (sublist_append_right _ _)
 |_,_,.extra (Z:=Z) (W:=W) h=>by
  rw[zr];exact h.sub
theorem Mask.mem:∀{Z W:Fz},Mask Z W->∀o s,s≠Slot.e->(o,s)∈W->(o,s)∈Z
 |_,_,.nil Z,o,s,hs,h=>by cases h
 |_,_,.keep h,o,s,hs,q=>by
  rcases mem_cons.mp q with q|q
  ·subst q;exact qE
  ·exact qD _ (h.mem o s hs q)
 |_,_,.skip h,o,s,hs,q=>qD _ (h.mem o s hs q)
 |_,_,.extra h,o,s,hs,q=>by
  rcases mem_cons.mp q with q|q
  ·cases q;exact absurd rfl hs
  ·exact h.mem o s hs q
def FR.mask{Z W:Fz}(f:FR K mg M H Z)(h:Mask Z W):FR K mg M H W where
 val:=λo d q=>by
  obtain⟨v,e,r⟩:=f.val o d (h.mem o _ (by intro z;cases z) q);exact⟨v,e,r.mono (jI (JS λb hb=>h.sub.subset hb))⟩
 own:=λo s ds q e=>by
  obtain⟨a,xs,e1,e2,e3,r⟩:=f.own o s ds (h.mem o s (by intro z;subst z;cases e) q) e;exact⟨a,xs,e1,e2,e3,r.mono (jI (JS λb hb=>h.sub.subset hb))⟩
 nd:=f.nd.sublist h.sub
 mal:=f.mal
def zm:List Slot->zN->List Slot
 | [],_=>[]| .par _::ss,s::E=>s::zm ss E|_::ss,_::E=>.e::zm ss E|_::ss,[]=>.e::zm ss []
def fnM(N:Nat)(body:MS):MF:=λss=>match body (ss++replicate (N-ss.length) .e)with
 | .ok (.ret r,E')=>.ok (r,zm ss E')| .ok (.nx,E')=>.ok (.v .non,zm ss E')| .exc x E'=>.exc x (zm ss E')|_=>.z
theorem zh:∀(ss:List Slot) (E:zN),(zm ss E).length=ss.length
 | [],_=>rfl| .par _::ss,s::E=>by simp[zm,zh ss E]| .e::ss,s::E=>by simp[zm,zh ss E]| .v _::ss,s::E=>by simp[zm,zh ss E]| .own _::ss,s::E=>by simp[zm,zh ss E]| .dct _ _::ss,s::E=>by simp[zm,zh ss E]| .par _::ss,[]=>by simp[zm,zh ss []]| .e::ss,[]=>by simp[zm,zh ss []]| .v _::ss,[]=>by simp[zm,zh ss []]| .own _::ss,[]=>by simp[zm,zh ss []]| .dct _ _::ss,[]=>by simp[zm,zh ss []]
theorem YN:∀(ss:List Slot) (vs:List (Option V)) (O:St) (E:zN),E.length=O.length->vs.length=ss.length->(∀(i:Nat) ds,ss[i]?=some (.par ds)->O[i]?=vs[i]?)->Mask (O.zip E) (vs.zip (zm ss E))
 | [],vs,O,E,_,_,_=>by
  simp only[zm,List.zip_nil_right];exact .nil _
 |s::ss,[],O,E,_,h,_=>by simp at h|s::ss,v::vs,[],y::E,h,_,_=>by simp at h|s::ss,v::vs,x::O,[],h,_,_=>by simp at h
 |s::ss,v::vs,[],[],h1,h2,h4=>by
  have ih:=YN ss vs [] [] rfl (by simpa using h2) λi ds e=>by
   have:=h4 (i+1) ds (by simpa using e);simpa using this
  cases s<;>exact .extra ih
 |s::ss,v::vs,x::O,y::E,h1,h2,h4=>by
  have ih:=YN ss vs O E (by simpa using h1) (by simpa using h2) λi ds e=>by
   have:=h4 (i+1) ds (by simpa using e);simpa using this
  cases s with
  |par ds =>
   have e:=h4 0 ds rfl;simp at e;subst e;simp only[zm,zip_cons_cons];exact .keep ih
  |e=>simp only[zm,zip_cons_cons];exact .emq ih|v d=>simp only[zm,zip_cons_cons];exact .emq ih|own ds=>simp only[zm,zip_cons_cons];exact .emq ih|dct ks vs=>simp only[zm,zip_cons_cons];exact .emq ih
theorem vR:∀n:Nat,(replicate n (none:Option V)).zip (replicate n Slot.e)=replicate n (none,Slot.e)
 |0=>rfl|n+1=>by simp[replicate_succ,vR n]
def vS(n:Nat):z7 (replicate n ((none:Option V),Slot.e))=[]:=by
 induction n with
 |zero=>rfl|succ n ih=>rw[replicate_succ,zr,ih]
def FR.emps(f:FR K mg M H Z)(n:Nat):FR K mg M H (Z++replicate n (none,.e)):=by
 have eo:z7 (Z++replicate n (none,Slot.e))=z7 Z:=by rw[zR,vS,append_nil]
 have em:Mo M (Z++replicate n (none,Slot.e))=Mo M Z:=by unfold Mo;rw[eo]
 refine⟨λo d q=>?_,λo s ds q e=>?_,by rw[eo];exact f.nd,f.mal⟩
 ·rw[em]
  rcases mem_append.mp q with q|q
  ·exact f.val o d q
  ·have:=List.eq_of_mem_replicate q;cases this
 ·rw[em]
  rcases mem_append.mp q with q|q
  ·exact f.own o s ds q e
  ·have:=List.eq_of_mem_replicate q;cases this;cases e
def body_ok{N:List Str}{n:Nat}{body:MS}{vs:List V}{Q:VK}{XQ:XK}(hx:∀x O' H',(∀C od,X.mg x.cls=some (.ref C)->Fs od H' x.cls x.vs->XQ (.ref C) od H')->XE X O' H' x)(h:spM X.K X.mg n (fnM N.length body) vs H Q XQ):tS X body {nx:=λ_ H'=>Q .non H',rt:=Q} (L2.wZ N vs) H:=by
 obtain⟨hv,M,ss,hl,f,k⟩:=h;have e0:(L2.wZ N vs).zip (ss++replicate (N.length-ss.length) Slot.e)=(vs.map some).zip ss++replicate (N.length-ss.length) (none,.e):=by
  unfold L2.wZ;rw[zip_append (by simp[hl]),hl,vR]
 have hE:(ss++replicate (N.length-ss.length) Slot.e).length=(L2.wZ N vs).length:=by
  unfold L2.wZ;simp[hl]
 have f0:FR X.K X.mg M H ((L2.wZ N vs).zip (ss++replicate (N.length-ss.length) Slot.e)):=by rw[e0];exact f.emps _
 have eo:∀b,b∈z7 ((L2.wZ N vs).zip (ss++replicate (N.length-ss.length) Slot.e))->b∈z7 ((vs.map some).zip ss):=λb hb=>by
  rw[e0,zR,vS,append_nil]at hb;exact hb
 refine⟨M,ss++replicate (N.length-ss.length) Slot.e,hE,f0,?_⟩;unfold fnM at k;have fin:∀{O':St} {E':zN} {H':Hp} {v:V} {r:R},Got X.K X.mg M (L2.wZ N vs) (ss++replicate (N.length-ss.length) Slot.e) H [] O' E' H' [(some v,r.slot)] ->
   (∀v H',(zm ss E').length=vs.length->FR X.K X.mg M H' ((some v,r.slot)::(vs.map some).zip (zm ss E'))->Step M H ((vs.map some).zip ss) H' ((some v,r.slot)::(vs.map some).zip (zm ss E'))->Q v H')->Q v H':=λ{O' E' H' v r} g kk=>by
  have mk:Mask (O'.zip E') ((vs.map some).zip (zm ss E')):=YN ss _ O' E' g.len (by simp[hl]) λi ds e=>by
   have hi:i<ss.length:=(qG.mp e).1;have e1:(ss++replicate (N.length-ss.length) Slot.e)[i]?=some (.par ds):=by rw[getElem?_append_left hi];exact e
   have:=(g.pk i ds e1).2;rw[this];unfold L2.wZ;rw[getElem?_append_left (by simp;omega)]
  refine kk v H' (by rw[zh,hl]) (g.fr.mask (.keep mk)) ?_;exact(g.st.weak λb hb=>(Mask.keep mk).sub.subset hb).left eo
 cases eb:body (ss++replicate (N.length-ss.length) Slot.e)with
 |z=>rw[eb]at k;exact k
 |exc x E' =>
  rw[eb]at k;intro O' H' g;refine hx x O' H' λC od hm hf=>k C od H' hm hf (g.fr.sub (List.nil_sublist _)) ?_
  exact(g.st.weak λb hb=>by cases hb).left eo
 |ok p =>
  obtain⟨fl,E'⟩:=p;rw[eb]at k;cases fl with
  |bk=>exact k.elim|ct=>exact k.elim|ret r=>exact λv O' H' g=>fin g k|nx=>exact λO' H' g=>fin (r:=.v .non) (g.flat (d:=.non) rfl) k
end
section
variable{P:Program}{w:World}{K:qH}{mg:Str->Option Value}{base:Heap}
def fn_ok{c:Bool}{x qual:Str}{st:Stmt}{f:Addr}{fd:FuncData}{N ps:List Str}{k:Nat}{body:MS}(F:Fun K x qual st f fd)(S:FnScope N ps (zl st))
  (hb:∀(cdv:Value) (A:Around) (outer:List Env) (s:Shared) (H:Hp) (E:XK),(c=true->A.handled=none)->RoomN k (A.deeper (PyProof.Rows.envOfC qual (zl st) s.heap.objs.size f cdv)) ->
   Gr (cxN c P w K mg base N qual (zl st) f cdv A outer s H E) (jH st) body):FnOkN c P w K mg base (k+1) f fd ps (spM K mg ps.length (fnM N.length body)):=by
 obtain⟨oc,od,kV,doc,pm,an,cdv,ct,osl,rfl,lk,hcd⟩:=F.ex;exact fn_ofN lk hcd S (λvs H Q E h=>h.1) λA outer s H vs Q E hd hr h=>⟨_,hb cdv A outer s H E hd hr,body_ok (X:=cxN c P w K mg base N qual (zl st) f cdv A outer s H E) (λx O' H' hE=>zDU hE) h⟩
end
section
variable{X:Cx}{k:Nat}{f:Addr}{fd:FuncData}{ps:List Str}{F:MF}{x:Str}{p pos:Pos}{e:Expr}{es:List Expr}{as:List Arg}
def ok_call{c:Bool}(G:FnOkN c X.prog X.w X.K X.mg X.base k f fd ps (spM X.K X.mg ps.length F))(hd:c=true->X.A.handled=none)(hr:RoomN k X.A)(hg:Gl X x)(hm:X.mg x=some (.ref f))(hk:keepIn X.K (.ref f)=true)(hb:ZL X.K fd ps [])(ha:zFG X (e::es) as)(hn:as.length=ps.length:=by rfl)
  (hdb:(x==("__debug__":Str))=false:=by decide) (he:zT e=false:=by rfl) (hpl:ja es=true:=by rfl):EOk X (.Call (.Name x p) (e::es) [] pos) (jh F as) :=
 zf (zDT G hd hr hg hm hk hb ha hdb (zI he) (j1 hpl)) λO H Q=>zDs hn
end
end DV
namespace L2
open PySem PySem.Spec PyProof.Rows
def Inv.big{X:Cx}{pins:List (Addr×Obj)}{O:St}{H:Hp}{s:Shared}(I:Inv X pins O H s):sysModules<s.heap.objs.size:=by
 have h:mainGlobals<s.heap.objs.size:=(I.mod.glob.keeps I.bk).lt;exact lt_trans (by decide) h
def cxB(X:Cx)(N:List Str)(scope:Scope)(cl:List (Str×Addr))(C:Addr)(ex:List Addr)(s:Shared)(H:Hp):Cx :=
 {X with N:=N,s₀:=s,H₀:=H,env:=compEnvC scope cl C X.env,outer:=X.stack,ex:=ex,fn:=λy=>scope.names.lookup y==some NameKind.cell,pn:=[]}
def Jq{prog:Program}{w:World}{A:Around}{R:Result->Shared->Prop}{s:Shared}{elt target iter:Expr}{ifs:List Expr}{scope:Scope}{pos:Pos}{it acc:Value}{env:Env}(I:Nat->Shared->Prop)
  (turn:∀n s,I n s->wpAny (model prog w) A (pyNext it) (λr s₁=>match r with
   |none=>R (.ok .next) s₁
   |some v=>wpAny (model prog w) A (letOwnedTupleGo target it v) (λ_ s₁=>wpAny (model prog w) A (assign target env v) (λ_ s₂ =>
     wpAny (model prog w) A (forIn ifs true λc r=>if r=true then do let ok <- isTrue c env (eval c env);pure (ForInStep.yield ok)else pure (ForInStep.yield r)) (λok s₃ =>
      if ok=true then wpAny (model prog w) A (eval elt env) (λx s₄ =>
       wpAny (model prog w) A (call (.builtin "list.append") [acc,x]) (λ_ s₅=>∃m,m<n/\I m s₅) (notedBy (model prog w) A env λe s'=>R (.error e) s') s₄) (notedBy (model prog w) A env λe s'=>R (.error e) s') s₃
      else ∃m,m<n/\I m s₃) (notedBy (model prog w) A env λe s'=>R (.error e) s') s₂) (notedBy (model prog w) A env λe s'=>R (.error e) s') s₁) (notedBy (model prog w) A env λe s'=>R (.error e) s') s₁) (notedBy (model prog w) A env λe s'=>R (.error e) s') s)
  (n:Nat) (h:I n s) :
  codeAny (model prog w) A (.compLoop (.ListComp elt [⟨target,iter,ifs,0⟩] scope pos) 0 it acc env) R s:=by
 refine codeAny_loop rfl I (λn s hI=>?_) n h;show wpAny _ A ((compTurn (.ListComp elt [⟨target,iter,ifs,0⟩] scope pos) 0 it acc env).onRaise (λx=>do noteFrame x env;theTreesLotGoes x)) _ _ s;refine wpAny_noted ?_;rw[compTurn_list];refine qB (wpAny_standAt (qB (wpAny_mono (turn n s hI) (λr s₁ h₁=>?_) λ_ _ h'=>h')));cases r with
 |none=>exact qC h₁
 |some v =>
  refine qB (wpAny_mono h₁ (λ_ s₁' h₁'=>?_) λ_ _ h'=>h');refine qB (wpAny_mono h₁' (λ_ s₂ h₂=>qB (wpAny_mono h₂ (λok s₃ h₃=>?_) λ_ _ h'=>h')) λ_ _ h'=>h');cases ok with
  |false=>exact qC ⟨rfl,h₃⟩
  |true =>
   exact qB (qB (wpAny_mono h₃ (λx s₄ h₄=>qB (wpAny_mono h₄ (λ_ s₅ h₅=>qC (qC ⟨rfl,h₅⟩)) λ_ _ h'=>h')) λ_ _ h'=>h'))
def zBn(X:Cx)(ifs:List Expr)(t:TT):Prop:=∀(pins:List (Addr×Obj)) (s:Shared) (O:St) (H:Hp) (Q:Bool->Hp->Prop),Inv X pins O H s->t O H Q ->
 wpAny (model X.prog X.w) X.A (forIn ifs true λc r=>if r=true then do let ok <- isTrue c X.env (eval c X.env);pure (ForInStep.yield ok)else pure (ForInStep.yield r)) (TP X pins O Q) X.xe s
def pif_nil{X:Cx}:zBn X [] (λO H Q=>Q true H):=λpins s O H Q I h=>wpAny_tests_nil ⟨H,I,h⟩
def pif_one{X:Cx}{c:Expr}{t:TT}(h:PT X c t):zBn X [c] t:=λpins s O H Q I q=>wpAny_tests_one (h pins s O H Q I q)
def zZ(nl:Nat)(caps:List Nat)(O:St):St:=replicate nl none++caps.map λj=>(O[j]?).getD none
def zDt(nl:Nat)(caps:List Nat)(wi:TI)(g:TG)(tt:TT)(te:TE):TE:=λO H Q=>wi O H λJ H1=>∀D,H1 D=none->∃W:Nat->Nat->St->Hp->Prop,(∃m,W 0 m (zZ nl caps O) (upd H1 D (.l [])))/\∀i m O' H',W i m O' H' ->
 (J.stop i H'/\Q (.ref D) H')\/(J.go i H'/\∃Nx:St->Hp->Prop,(∀O'' H'',Nx O'' H''->∃m',m'<m/\W (i+1) m' O'' H'')/\∀x H'',J.yld i H' x H''->g x O' H'' λO2 H2 =>
  tt O2 H2 λb H3=>if b=true then te O2 H3 λy H4=>∃ys,H4 D=some (.l ys)/\ys.length<sizeLine/\Nx O2 (upd H4 D (.l (ys++[y])))else Nx O2 H3)
theorem ju{env:Env}:∀{names:List (Str×NameKind)} {x:Str} {k:NameKind},(names.map λ(n,k)=>if(k==NameKind.free&&env.scope.kind==.function&&env.kindOf n==some .cell)then(n,NameKind.cell)else(n,k)).lookup x=some k ->
  ∃k0,names.lookup x=some k0/\(k=k0\/(k0=.free/\k=.cell))
 | [],_,_,h=>by simp at h
 | (n,k1)::r,x,k,h=>by
  have ih:=@ju env r x k;rw[map_cons]at h;by_cases hc:(k1==NameKind.free&&env.scope.kind==.function&&env.kindOf n==some .cell)=true
  ·simp only[hc,if_true]at h
   cases hx:x==n with
   |true =>
    simp only[lookup_cons,hx]at h ⊢;cases h;refine⟨k1,rfl,.inr ⟨?_,rfl⟩⟩;simp only[Bool.and_eq_true,beq_iff_eq]at hc;exact hc.1.1
   |false=>simp only[lookup_cons,hx]at h ⊢;exact ih h
  ·have hc':(k1==NameKind.free&&env.scope.kind==.function&&env.kindOf n==some .cell)=false:=by simpa using hc
   simp only[hc',Bool.false_eq_true,if_false]at h;cases hx:x==n with
   |true=>simp only[lookup_cons,hx]at h ⊢;cases h;exact⟨k1,rfl,.inl rfl⟩|false=>simp only[lookup_cons,hx]at h ⊢;exact ih h
theorem wb{env:Env}:∀{names:List (Str×NameKind)} {x:Str},names.lookup x=some .free->env.scope.kind=.function->env.kindOf x=some .cell ->
  (names.map λ(n,k)=>if(k==NameKind.free&&env.scope.kind==.function&&env.kindOf n==some .cell)then(n,NameKind.cell)else(n,k)).lookup x=some .cell
 | [],_,h,_,_=>by simp at h
 | (n,k1)::r,x,h,hk,hc=>by
  have ih:=@wb env r x;rw[map_cons];cases hx:x==n with
  |true =>
   have:x=n:=by simpa using hx
   subst this;simp only[lookup_cons,hx]at h;cases h;have:(NameKind.free==NameKind.free&&env.scope.kind==.function&&env.kindOf x==some .cell)=true:=by simp[hk,hc]
   simp only[this,if_true,lookup_cons,hx]
  |false =>
   simp only[lookup_cons,hx]at h;by_cases hcc:(k1==NameKind.free&&env.scope.kind==.function&&env.kindOf n==some .cell)=true
   ·simp only[hcc,if_true,lookup_cons,hx];exact ih h hk hc
   ·have hcc':(k1==NameKind.free&&env.scope.kind==.function&&env.kindOf n==some .cell)=false:=by simpa using hcc
    simp only[hcc',Bool.false_eq_true,if_false,lookup_cons,hx];exact ih h hk hc
def Gc(env:Env):List (Str×NameKind)->List (Str×Addr)->List (Str×Addr)
 | [],cs=>cs| (n,k)::r,cs=>if k==.free then Gc env r ((n,(env.cells.lookup n).getD 0)::cs)else Gc env r cs
theorem JC{env:Env}:∀(names:List (Str×NameKind)) (cs:List (Str×Addr)),(∀y∈names,y.2=.free->∃c,env.cells.lookup y.1=some c) ->
  (forIn names cs (λx r=>if(x.snd==NameKind.free)=true then do
    let c <- cellOf env x.fst
    pure (ForInStep.yield ((x.fst,c)::r))
   else pure (ForInStep.yield r)):Sem (List (Str×Addr)))=pure (Gc env names cs)
 | [],cs,_=>by rfl
 | (n,k)::r,cs,h=>by
  rw[forIn_cons];dsimp only;by_cases hk:(k==NameKind.free)=true
  ·obtain⟨c,hc⟩:=h (n,k) qE (by simpa using hk)
   have ec:cellOf env n=pure c:=by unfold cellOf;rw[hc]
   rw[if_pos hk,ec];show(forIn r ((n,c)::cs) _:Sem (List (Str×Addr)))=_;rw[JC r _ λy hy=>h y (qD _ hy)]
   conv=>rhs;unfold Gc
   rw[if_pos hk,hc];rfl
  ·rw[if_neg hk]
   show(forIn r cs _:Sem (List (Str×Addr)))=_
   rw[JC r _ λy hy=>h y (qD _ hy)]
   conv=>rhs;unfold Gc
   rw[if_neg hk]
theorem yy{env:Env}:∀(names:List (Str×NameKind)) (cs:List (Str×Addr)) (x:Str),(∀y∈names,y.2=.free->∃c,env.cells.lookup y.1=some c)->(∀c,cs.lookup x=some c->env.cells.lookup x=some c) ->
  (∀c,(Gc env names cs).lookup x=some c->env.cells.lookup x=some c)/\(((∃c,cs.lookup x=some c)\/∃y∈names,y.1=x/\y.2=.free)->∃c,(Gc env names cs).lookup x=some c)
 | [],cs,x,_,hcs=>⟨hcs,λh=>h.elim id λ⟨y,hy,_⟩=>by cases hy⟩
 | (n,k)::r,cs,x,h,hcs=>by
  unfold Gc;by_cases hk:(k==NameKind.free)=true
  ·rw[if_pos hk]
   obtain⟨c,hc⟩:=h (n,k) qE (by simpa using hk);have ih:=yy r ((n,(env.cells.lookup n).getD 0)::cs) x (λy hy=>h y (qD _ hy)) (λc' e=>by
    rw[lookup_cons]at e;cases hx:x==n with
    |true =>
     have:x=n:=by simpa using hx
     subst this;rw[hx]at e;simp only[hc,Option.getD_some]at e;rw[hc];exact e
    |false=>rw[hx]at e;exact hcs c' e)
   refine⟨ih.1,λq=>ih.2 ?_⟩;rcases q with⟨c',q⟩|⟨y,hy,q1,q2⟩
   ·left
    rw[lookup_cons];cases hx:x==n with
    |true=>exact⟨_,rfl⟩|false=>exact⟨c',q⟩
   ·rcases mem_cons.mp hy with hy|hy
    ·subst hy
     left
     have q1:n=x:=q1;subst q1;exact⟨(env.cells.lookup n).getD 0,by rw[lookup_cons,beq_self_eq_true]⟩
    ·right;exact⟨y,hy,q1,q2⟩
  ·rw[if_neg hk]
   have ih:=yy r cs x (λy hy=>h y (qD _ hy)) hcs;refine⟨ih.1,λq=>ih.2 ?_⟩;rcases q with q|⟨y,hy,q1,q2⟩
   ·exact .inl q
   ·rcases mem_cons.mp hy with hy|hy
    ·subst hy
     exact absurd (by simpa using q2) hk
    ·exact .inr ⟨y,hy,q1,q2⟩
theorem YO:∀(names:List (Str×NameKind)) (h:Heap) (acc:List (Str×Addr)) (x:Str) (c:Addr),(cellsFrom h.objs.size names acc).lookup x=some c ->
  acc.lookup x=some c\/((x,NameKind.cell)∈names/\h.objs.size<=c/\(pushCells h names).IsCell c none)
 | [],h,acc,x,c,e=>.inl e
 | (n,k)::r,h,acc,x,c,e=>by
  unfold cellsFrom at e;unfold pushCells;split at e
  ·rename_i hk
   rw[if_pos hk];have sz:(h.push {cls:=.type "cell",data:=.cell none}).objs.size=h.objs.size+1:=size_push ..;rw[<- sz]at e;rcases YO r (h.push {cls:=.type "cell",data:=.cell none}) _ x c e with q|⟨q1,q2,q3⟩
   ·rw[lookup_cons]at q
    cases hx:x==n with
    |true =>
     rw[hx]at q;cases q;have hx':x=n:=by simpa using hx
     have hk':k=.cell:=by simpa using hk
     subst hx';subst hk';exact .inr ⟨qE,le_refl _,⟨_,pushCells_keeps _ _ _ _ (get?_push_size _ rfl),rfl⟩⟩
    |false=>rw[hx]at q;exact .inl q
   ·exact .inr ⟨qD _ q1,by rw[sz]at q2;omega,q3⟩
  ·rename_i hk
   rw[if_neg hk];rcases YO r h acc x c e with q|⟨q1,q2,q3⟩
   ·exact .inl q
   ·exact .inr ⟨qD _ q1,q2,q3⟩
theorem Z5:∀(names:List (Str×NameKind)) (n:Nat) (acc:List (Str×Addr)) (x:Str),(x,NameKind.cell)∉names->(cellsFrom n names acc).lookup x=acc.lookup x
 | [],n,acc,x,_=>rfl
 | (y,k)::r,n,acc,x,h=>by
  simp only[mem_cons,not_or]at h;unfold cellsFrom;split
  ·rename_i hk
   rw[Z5 r _ _ x h.2,lookup_cons];cases hx:x==y with
   |true =>
    have hx':x=y:=by simpa using hx
    have hk':k=.cell:=by simpa using hk
    subst hx';subst hk';exact absurd rfl h.1
   |false=>rfl
  ·exact Z5 r _ _ x h.2
theorem Qr:∀(names:List (Str×NameKind)) (n:Nat) (acc:List (Str×Addr)) (x:Str) (c:Addr),(x,NameKind.cell)∈names->(cellsFrom n names acc).lookup x=some c->n<=c
 | [],_,_,_,_,h,_=>by cases h
 | (y,k)::r,n,acc,x,c,h,e=>by
  unfold cellsFrom at e;by_cases hr:(x,NameKind.cell)∈r
  ·split at e
   ·exact Nat.le_of_succ_le (Qr r _ _ x c hr e)
   ·exact Qr r _ _ x c hr e
  ·rcases mem_cons.mp h with q|q
   ·cases q
    rw[if_pos (by rfl),Z5 r _ _ _ hr,lookup_cons,beq_self_eq_true]at e;cases e;exact le_refl _
   ·exact absurd q hr
theorem Qs:∀(names:List (Str×NameKind)) (n:Nat) (acc:List (Str×Addr)),(∀x y c,acc.lookup x=some c->acc.lookup y=some c->x=y)->(∀x c,acc.lookup x=some c->c<n) ->
  ∀x y c,(cellsFrom n names acc).lookup x=some c->(cellsFrom n names acc).lookup y=some c->x=y
 | [],n,acc,hi,_,x,y,c,e1,e2=>hi x y c e1 e2
 | (z,k)::r,n,acc,hi,hb,x,y,c,e1,e2=>by
  unfold cellsFrom at e1 e2;split at e1
  ·refine Qs r (n+1) ((z,n)::acc) (λx y c e1 e2=>?_) (λx c e=>?_) x y c e1 (by rename_i hk;rwa [if_pos hk]at e2)
   ·rw[lookup_cons]at e1 e2
    cases hx:x==z with
    |true =>
     rw[hx]at e1;cases e1;have hx':x=z:=by simpa using hx
     cases hy:y==z with
     |true =>
      have hy':y=z:=by simpa using hy
      rw[hx',hy']
     |false=>rw[hy]at e2;exact absurd (hb y _ e2) (lt_irrefl _)
    |false =>
     rw[hx]at e1;cases hy:y==z with
     |true=>rw[hy]at e2;cases e2;exact absurd (hb x _ e1) (lt_irrefl _)|false=>rw[hy]at e2;exact hi x y c e1 e2
   ·rw[lookup_cons]at e
    cases hx:x==z with
    |true=>rw[hx]at e;cases e;exact Nat.lt_succ_self _|false=>rw[hx]at e;exact lt_succ_of_lt (hb x c e)
  ·exact Qs r n acc hi hb x y c e1 (by rename_i hk;rwa [if_neg hk]at e2)
def wU{M:Model}{A:Around}{E:Value->Shared->Prop}{s:Shared}{scope:Scope}{globals:Addr}{cl:List (Str×Addr)}{qual:Str}{env:Env}{Q:Env->Shared->Prop}
  (hQ:Q (newEnv scope s.heap.objs.size globals (cellsFrom (s.heap.objs.size+1) scope.names cl) qual none .none (some env) builtinsNs) {s with heap:=pushCells (s.heap.push {cls:=.type "dict",data:=.dict #[]}) scope.names}) :
  wpAny M A (newFunctionEnv scope globals cl [] qual none .none (some env)) Q E s:=by
 simp only[newFunctionEnv,Option.isSome_some,if_true];refine qB (wpAny_alloc ?_);refine qB (wpAny_layCells _ (λname kind cells=>by cases hkc:kind==NameKind.cell<;>simp[hkc]) _ _ _ _ ?_);rw[show({s with heap:=s.heap.push {cls:=.type "dict",data:=.dict #[]}}:Shared).heap.objs.size=s.heap.objs.size+1 from size_push ..]
 rw[List.forIn_nil];exact qB (qC (qC hQ))
section
variable{X:Cx}{elt target iter:Expr}{ifs:List Expr}{scope:Scope}{pos:Pos}{nl:Nat}{caps:List Nat}{N':List Str}
def uf{wi:TI}{g:TG}{tt:TT}{te:TE}{use:Option (Value->Sem Unit)}{QQ:Value->Shared->Prop}{pins:List (Addr×Obj)}{s:Shared}{O:St}{H:Hp}{Q:VK}{p0:Pos}(hx:∀e s,¬X.xe e s)(hc:X.calm=true)(hkind:scope.kind=.function)(hnames:∀y∈scope.names,y.2=.local->scope.names.lookup y.1=some .local)(hcell:∀y∈scope.names,y.2=.cell->scope.names.lookup y.1=some .cell)
  (hfree:(scope.names.all λy=>y.2 != .free||X.env.kindOf y.1==some .cell)=true)
  (hlen:N'.length=nl+caps.length) (hcap:∀(i j:Nat),caps[i]?=some j->∃x,N'[nl+i]?=some x/\X.N[j]?=some x/\scope.names.lookup x=some .free)
  (hi:PI X target iter wi) (hg:∀cl C ex s H,PG (cxB X N' scope cl C ex s H) target g) (ht:∀cl C ex s H,zBn (cxB X N' scope cl C ex s H) ifs tt) (he:∀cl C ex s H,PE (cxB X N' scope cl C ex s H) elt te)
  (hs:∀x,foldedSetIterable iter X.env x=pure x) (I:Inv X pins O H s) (h:zDt nl caps wi g tt te O H Q)
  (hfin:∀(D C:Addr) (H5:Hp) (s6:Shared) (m6:Str->Option Value),Inv X pins O H5 s6->Qb X pins H5 C->s6.heap.Ns C m6->Q (.ref D) H5->compPost (model X.prog X.w) X.A X.xe use QQ (.ref D) C (.ok .next) s6) :
  wpAny (model X.prog X.w) X.A (comprehension (.ListComp elt [⟨target,iter,ifs,0⟩] scope pos) scope X.env p0 (newList []) false (eval iter X.env) use) QQ X.xe s:=by
 have hfr:∀y∈scope.names,y.2=.free->X.env.kindOf y.1=some .cell:=λy hy e=>by
  have:=all_eq_true.mp hfree y hy;rw[e]at this;simpa using this
 have hcl:∀y∈scope.names,y.2=.free->∃c,X.env.cells.lookup y.1=some c:=λy hy e=>I.ok.has y.1 (.inl (hfr y hy e))
 have hclos:closureFor scope X.env=pure (Gc X.env scope.names []):=by
  simp only[closureFor];rw[JC scope.names [] hcl];rfl
 have cl1:∀x c,(Gc X.env scope.names []).lookup x=some c->X.env.cells.lookup x=some c:=λx c e=>(yy scope.names [] x hcl (λ_ z=>by cases z)).1 c e
 have cl2:∀x,(∃y∈scope.names,y.1=x/\y.2=.free)->∃c,(Gc X.env scope.names []).lookup x=some c:=λx q=>(yy scope.names [] x hcl (λ_ z=>by cases z)).2 (.inr q)
 generalize Gc X.env scope.names []=cl at hclos cl1 cl2;refine wpAny_comprehension_free (use:=use) rfl hs hclos hkind hnames (thn (hi pins s O H _ I h) λxv s1 h1=>thn h1 λitv s2 h2=>?_);obtain⟨it,fp,tn,J,H2,e,I2,T,st2,f2,turn⟩:=h2;subst e;refine wpAny_newObj_type (wU ?_) (by show(#[]:Array Value).size<=sizeLine;simp);dsimp only;generalize hH3:s2.heap.push {cls:=.type "list",dict:=none,data:=.seq ([]:List Value).toArray}=h3;have hC:h3.objs.size=s2.heap.objs.size+1:=by rw[<- hH3,size_push]
 have hD:H2 s2.heap.objs.size=none:=I2.hok.fresh (le_refl _);obtain⟨W,⟨m0,w0⟩,step⟩:=turn s2.heap.objs.size hD
 -- the state at the block's entry
 have I3:Inv X pins O (upd H2 s2.heap.objs.size (.l [])) {s2 with heap:=h3}:=by
  rw[<- hH3];exact I2.laid (t':=s2.toks) (λb o q=>qA _ q) (le_refl _) ⟨zero_le _,[],0,.nil,get?_push_size _ rfl⟩
 have hcfr:∀x,scope.names.lookup x=some .free->(x,NameKind.cell)∉scope.names:=λx e z=>by
  have:=hcell _ z rfl;rw[e]at this;cases this
 have szp:(h3.push {cls:=.type "dict",data:=.dict #[]}).objs.size=h3.objs.size+1:=size_push ..;have cw:∀x c,(cellsFrom (h3.objs.size+1) scope.names cl).lookup x=some c->cl.lookup x=some c\/((x,NameKind.cell)∈scope.names/\h3.objs.size+1<=c/\(pushCells (h3.push {cls:=.type "dict",data:=.dict #[]}) scope.names).IsCell c none):=λx c e=>by
  rw[<- szp]at e ⊢;exact YO _ _ _ x c e
 have cfr:∀x,scope.names.lookup x=some .free->(cellsFrom (h3.objs.size+1) scope.names cl).lookup x=cl.lookup x:=λx e=>Z5 _ _ _ x (hcfr x e)
 have chas:∀x,scope.names.lookup x=some .cell->∃c,(cellsFrom (h3.objs.size+1) scope.names cl).lookup x=some c:=λx e=>by
  have:=cellsFrom_some scope.names (h3.objs.size+1) cl (x:=x) (.inl e);exact Option.isSome_iff_exists.mp this
 have clt:∀x c,cl.lookup x=some c->c<h3.objs.size:=λx c e=>by
  obtain⟨v,q⟩:=I3.cell x c (cl1 x c e);exact q.lt
 have cinj:=Qs scope.names (h3.objs.size+1) cl (λx y c e1 e2=>I.ok.inj x y c (cl1 x c e1) (cl1 y c e2)) λx c e=>lt_succ_of_lt (clt x c e)
 have hns₁:(pushCells (h3.push {cls:=.type "dict",data:=.dict #[]}) scope.names).Ns h3.objs.size λ_=>none:=(Heap.Ns.new h3 (.type "dict")).keeps (pushCells_keeps _ _)
 have old:∀b o,h3.get? b=some o->(pushCells (h3.push {cls:=.type "dict",data:=.dict #[]}) scope.names).get? b=some o:=λb o e=>pushCells_keeps _ _ b o (qA _ e)
 generalize hh1:pushCells (h3.push {cls:=.type "dict",data:=.dict #[]}) scope.names=h₁ at hns₁ old cw ⊢;generalize hcs:cellsFrom (h3.objs.size+1) scope.names cl=cs at cw cfr chas cinj ⊢;have fpD:∀b∈fp,b≠s2.heap.objs.size:=λb hb z=>by
  obtain⟨o,e,_⟩:=T.obj 0 s2.heap st2 b hb;subst z;exact absurd (lt_size e) (lt_irrefl _)
 have fp3:∀b∈fp,upd H2 s2.heap.objs.size (.l []) b=none:=λb hb=>by rw[zc (fpD b hb)];exact(f2 b hb).1
 have fpC:∀b∈fp,b≠h3.objs.size:=λb hb z=>by
  obtain⟨o,e,_⟩:=T.obj 0 s2.heap st2 b hb;have q:b<s2.heap.objs.size:=lt_size e;rw[z,hC]at q;exact absurd q (not_lt.mpr (le_succ _))
 have hCn:upd H2 s2.heap.objs.size (.l []) h3.objs.size=none:=I3.hok.fresh (le_refl _);have fpok:∀b∈fp,(b∈X.ex\/X.s₀.heap.objs.size<=b)/\b≠X.env.locals/\(∀x c,X.env.cells.lookup x=some c->c≠b)/\∀p∈X.pn++pins,p.1≠b:=λb hb=>by
  obtain⟨_,q2,_,q4,q5,q6⟩:=f2 b hb;exact⟨q4,q2,q5,q6⟩
 have fpH:∀b∈fp,b<h3.objs.size:=λb hb=>by
  obtain⟨o,e,_⟩:=T.obj 0 s2.heap st2 b hb;have q:b<s2.heap.objs.size:=lt_size e;rw[hC];exact lt_succ_of_lt q
 have fpcs:∀b∈fp,∀x c,cs.lookup x=some c->c≠b:=λb hb x c e=>by
  rcases cw x c e with q|⟨_,q,_⟩
  ·exact(fpok b hb).2.2.1 x c (cl1 x c q)
  ·intro z;subst z
   exact absurd (lt_of_lt_of_le (fpH _ hb) (Nat.le_of_succ_le q)) (lt_irrefl _)
 let Y:Cx:=cxB X N' scope cs h3.objs.size fp {s2 with heap:=h3} (upd H2 s2.heap.objs.size (.l []))
 have kindY:∀x k,Y.env.kindOf x=some k->∃k0,scope.names.lookup x=some k0/\(k=k0\/(k0=.free/\k=.cell)):=λx k e=>ju e
 have okY:Y.Ok:={
  mod:=I.ok.mod
  kind:=hkind
  glob:=I.ok.glob
  blt:=I.ok.blt
  above:=le_refl _
  inj:=cinj
  has:=λx q=>by
   have:scope.names.lookup x=some .cell\/scope.names.lookup x=some .free:=by
    rcases q with q|q
    ·obtain⟨k0,e,z⟩:=kindY x _ q
     rcases z with z|z
     ·subst z;exact .inl e
     ·rw[z.1]at e;exact .inr e
    ·obtain⟨k0,e,z⟩:=kindY x _ q
     rcases z with z|z
     ·subst z;exact .inr e
     ·rw[z.1]at e;exact .inr e
   rcases this with q|q
   ·exact chas x q
   ·obtain⟨c,e⟩:=cl2 x ⟨(x,.free),PySem.mem_of_lookup q,rfl,rfl⟩
    exact⟨c,by show cs.lookup x=_;rw[cfr x q];exact e⟩
  cab:=λx c z e=>by
   have z:scope.names.lookup x=some .cell:=by
    have z:(scope.names.lookup x==some NameKind.cell)=true:=z;simpa using z
   have e:cs.lookup x=some c:=e;rw[<- hcs]at e;exact le_trans (le_succ _) (Qr _ _ _ x c (PySem.mem_of_lookup z) e)
  hd:=I.ok.hd
  frames:=I.ok.frames
  stk:=.inl rfl
  exf:=λb hb=>⟨fpC b hb,fpcs b hb⟩
  bs:=λb o e=>I3.bs b o e
  bsz:=le_trans I.ok.bsz I3.sz
  noex:=λb o e hb=>by
   obtain⟨q,_⟩:=fpok b hb;rcases q with q|q
   ·exact I.ok.noex b o e q
   ·exact absurd (lt_of_lt_of_le (lt_size e) I.ok.bsz) (not_lt.mpr q)
  exfs:=λb hb z=>by
   have:=I2.stkSub b z;rcases mem_cons.mp this with q|q
   ·exact(fpok b hb).2.1 q
   ·exact(f2 b hb).2.2.1 q
  funs:=I3.stack
  frf:=I3.stkFree}
 have keep1:∀b o,h3.get? b=some o->h₁.get? b=some o:=old;have lenY:(zZ nl caps O).length=N'.length:=by unfold zZ;simp[hlen]
 have IY:Inv Y [] (zZ nl caps O) (upd H2 s2.heap.objs.size (.l [])) {s2 with heap:=h₁}:={
  ok:=okY
  os:=rfl
  bare:=I3.bare
  base:=Un.kept keep1
  loc:=by
   refine⟨_,hns₁,λi x v e1 e2 e3=>?_⟩;have e1:N'[i]?=some x:=e1;have hi:nl<=i:=by
    by_cases z:nl<=i
    ·exact z
    ·unfold zZ at e2
     rw[getElem?_append_left (by simp;omega),List.getElem?_replicate]at e2;split at e2<;>cases e2
   unfold zZ at e2;rw[getElem?_append_right (by simpa using hi),List.length_replicate,getElem?_map]at e2;cases ej:caps[i-nl]? with
   |none=>rw[ej]at e2;cases e2
   |some j =>
    rw[ej]at e2;simp only[Option.map_some,Option.some.injEq]at e2;obtain⟨x',c1,c2,c3⟩:=hcap (i-nl) j ej;have ex:x'=x:=by
     rw[show nl+(i-nl)=i by omega,e1]at c1;exact(qJ c1).symm
    subst ex;have e4:O[j]?=some (some v):=by
     cases z:O[j]? with
     |none=>rw[z]at e2;cases e2|some o=>rw[z]at e2;simp at e2;rw[e2]
    have kx:X.env.kindOf x'=some .cell:=hfr (x',.free) (PySem.mem_of_lookup c3) rfl;obtain⟨mm,_,lk⟩:=I3.loc;obtain⟨u,ru,lu⟩:=lk j x' v c2 e4 (.inr (.inl kx));refine⟨u,ru,?_⟩;rcases lu with⟨z,_⟩|⟨_,c,d1,d2⟩
    ·rw[kx]at z;cases z
    ·obtain⟨c',d3⟩:=cl2 x' ⟨(x',.free),PySem.mem_of_lookup c3,rfl,rfl⟩
     have:c'=c:=by have:=cl1 x' c' d3;rw[d1]at this;exact(qJ this).symm
     subst this;exact .inr ⟨.inl (wb c3 I.ok.kind kx),c',by show cs.lookup _=_;rw[cfr x' c3];exact d3,d2.keeps old⟩
  cell:=λx c e=>by
   rcases cw x c e with e|⟨_,_,q⟩
   ·obtain⟨v,q⟩:=I3.cell x c (cl1 x c e)
    exact⟨v,q.keeps old⟩
   ·exact⟨_,q⟩
  free:=hCn
  freeC:=λx c e=>by
   rcases cw x c e with e|⟨_,q,_⟩
   ·exact I3.freeC x c (cl1 x c e)
   ·exact I3.hok.fresh (le_trans (le_succ _) q)
  pin:=λp hp=>absurd (show p∈([]:List (Addr×Obj))from hp) (by simp)
  hok:=I3.hok.kept old
  len:=lenY}
 have st1:tn 0 h₁:=T.keep 0 s2.heap h₁ st2 λb hb o e=>old b o (by rw[<- hH3];exact qA _ e)
 have fpY:∀{H':Hp},(∀b∈fp,H' b=none)->∀b∈fp,Qb Y [] H' b:=λhn b hb =>
  ⟨hn b hb,fpC b hb,okY.exfs b hb,.inl hb,fpcs b hb,λp hp=>absurd (show p∈([]:List (Addr×Obj))from hp) (by simp)⟩
 have hA:Y.A=X.A:=rfl;have noE:∀{E':Value->Shared->Prop} {e:Value} {s:Shared},X.xe e s->E' e s:=λq=>absurd q (hx _ _)
 have fin:∀s₄:Shared,s₄={s2 with heap:=h₁} ->
   codeAny (model X.prog X.w) X.A (.compLoop (.ListComp elt [⟨target,iter,ifs,0⟩] scope pos) 0 (.ref it) (.ref s2.heap.objs.size) Y.env)
    (compPost (model X.prog X.w) X.A X.xe use QQ (.ref s2.heap.objs.size) h3.objs.size) s₄:=by
  rintro s₄ rfl
  refine Jq (λn s'=>∃i O' H',Inv Y [] O' H' s'/\tn i s'.heap/\(∀b∈fp,H' b=none)/\W i n O' H') ?_ m0 ⟨0,zZ nl caps O,_,IY,st1,fp3,w0⟩
  rintro n s5 ⟨i,O5,H5,I5,st5,fr5,w5⟩
  rcases step i n O5 H5 w5 with⟨stop,q⟩|⟨go,Nx,hN,turn⟩
  ·refine wpAny_mono (T.done Y rfl rfl rfl hc i [] s5 O5 H5 (λ_ _=>False) I5 (fpY fr5) st5 stop) (λr s6 ⟨hr,I6⟩=>?_) (λ_ _ z=>z.elim)
   subst hr;obtain⟨m6,n6,_⟩:=I6.loc;have u:Un (frs X.stack) fp (upd H2 s2.heap.objs.size (.l [])) H5 h3 s6.heap:=I6.base;have I7:Inv X pins O H5 s6:=I3.call' (s':=s6) (ch:=fp) I6.os u I6.hok I6.bare fpok;exact hfin _ _ H5 s6 m6 I7 (I3.fpOk (le_refl _) I6.free) n6 q
  ·refine wpAny_mono (T.item Y rfl rfl rfl hc i [] s5 O5 H5 (λ_ _=>False) I5 (fpY fr5) st5 go) (λr s6 ⟨u,hr,h6⟩=>?_) (λ_ _ z=>z.elim)
   subst hr;refine wpAny_mono h6 (λ_ s7 ⟨x,H7,I7,r7,y7,st7,fr7⟩=>?_) (λ_ _ z=>z.elim);have I7':=I7.pinned (fpY fr7) (T.obj _ _ st7);refine wpAny_mono (hg _ _ _ _ _ _ s7 O5 H7 x u _ I7' r7 (turn x H7 y7)) (λ_ s8 ⟨O8,H8,I8,q8⟩=>?_) (λ_ _ z=>noE z);refine wpAny_mono (ht _ _ _ _ _ _ s8 O8 H8 _ I8 q8) (λb s9 ⟨H9,I9,q9⟩=>?_) (λ_ _ z=>noE z);have again:∀{O7:St} {H':Hp} {s':Shared},Inv Y ([]++Wt fp s7.heap) O7 H' s'->Nx O7 H'->∃m,m<n/\∃i O' H',Inv Y [] O' H' s'/\tn i s'.heap/\(∀b∈fp,H' b=none)/\W i m O' H':=λ{O7 H' s'} I' n7=>by
    obtain⟨m',hm,w7⟩:=hN O7 H' n7;refine⟨m',hm,i+1,O7,H',I'.unpinned,T.keep _ _ _ st7 λb hb o e=>(I'.pin (b,o) (qK _ (qK _ (jX hb e)))).1,λb hb=>?_,w7⟩;obtain⟨o,e,d⟩:=T.obj _ _ st7 b hb;exact(I'.pin (b,o) (qK _ (qK _ (jX hb e)))).2.1
   cases b with
   |false =>
    rw[if_neg qF]at q9 ⊢;exact again I9 q9
   |true =>
    rw[if_pos rfl]at q9 ⊢;refine wpAny_mono (he _ _ _ _ _ _ s9 O8 H9 _ I9 q9) (λy s10 ⟨vy,H10,I10,r10,ys,hy,hz,n10⟩=>?_) (λ_ _ z=>noE z);have ap:=zBG (X:=Y) _ s10 O8 H10 (.ref s2.heap.objs.size) [vy] (.ref s2.heap.objs.size) [y] (λv H'=>Nx O8 H') I10 rfl (.cons r10 .nil) ⟨_,ys,vy,rfl,rfl,hy,hz,n10⟩;refine wpAny_mono ap (λ_ s11 ⟨v11,H11,I11,_,n11⟩=>?_) (λ_ _ z=>noE z);exact again I11 n11
 exact codeAny_compStart_list (fin _ rfl) (T.self X.A 0 _ _ _ st1 (fin _ rfl))
def pe_comp{wi:TI}{g:TG}{tt:TT}{te:TE}(hx:∀e s,¬X.xe e s)(hc:X.calm=true)(hkind:scope.kind=.function)(hnames:∀y∈scope.names,y.2=.local->scope.names.lookup y.1=some .local)(hcell:∀y∈scope.names,y.2=.cell->scope.names.lookup y.1=some .cell)
  (hfree:(scope.names.all λy=>y.2 != .free||X.env.kindOf y.1==some .cell)=true)
  (hlen:N'.length=nl+caps.length) (hcap:∀(i j:Nat),caps[i]?=some j->∃x,N'[nl+i]?=some x/\X.N[j]?=some x/\scope.names.lookup x=some .free)
  (hi:PI X target iter wi) (hg:∀cl C ex s H,PG (cxB X N' scope cl C ex s H) target g) (ht:∀cl C ex s H,zBn (cxB X N' scope cl C ex s H) ifs tt) (he:∀cl C ex s H,PE (cxB X N' scope cl C ex s H) elt te)
  (hs:∀x,foldedSetIterable iter X.env x=pure x:=by intro _;rfl):PE X (.ListComp elt [⟨target,iter,ifs,0⟩] scope pos) (zDt nl caps wi g tt te):=by
 intro pins s O H Q I h;rw[eval_ListComp];refine uf (use:=none) hx hc hkind hnames hcell hfree hlen hcap hi hg ht he hs I h λD C H5 s6 m6 I7 f n6 q=>?_
 refine⟨m6,n6,λh' hs'=>?_⟩;obtain⟨f1,f2,f3,f4,f5,f6⟩:=f;exact⟨.ref D,H5,I7.turned (it:=C) (t':=s6.toks) (λb o hb e=>hs'.extBut b o hb e) f1 (λz=>f2 z) f4 f5 f6,rfl,q⟩
def ps_setC{i:Nat}{y:Str}{py spos:Pos}{wi:TI}{g:TG}{tt:TT}{te:TE}(hN:X.N.Nodup)(hi':X.N[i]?=some y)(hy:Loc X.env.scope y)(hf:X.fn y=true\/X.env.scope.names.lookup y=some .local)(hx:∀e s,¬X.xe e s)(hc:X.calm=true)(hkind:scope.kind=.function)(hnames:∀y∈scope.names,y.2=.local->scope.names.lookup y.1=some .local)(hcell:∀y∈scope.names,y.2=.cell->scope.names.lookup y.1=some .cell)
  (hfree:(scope.names.all λy=>y.2 != .free||X.env.kindOf y.1==some .cell)=true)
  (hlen:N'.length=nl+caps.length) (hcap:∀(i j:Nat),caps[i]?=some j->∃x,N'[nl+i]?=some x/\X.N[j]?=some x/\scope.names.lookup x=some .free)
  (hi:PI X target iter wi) (hg:∀cl C ex s H,PG (cxB X N' scope cl C ex s H) target g) (ht:∀cl C ex s H,zBn (cxB X N' scope cl C ex s H) ifs tt) (he:∀cl C ex s H,PE (cxB X N' scope cl C ex s H) elt te)
  (hs:∀x,foldedSetIterable iter X.env x=pure x) (hsw:swapsWith (.ListComp elt [⟨target,iter,ifs,0⟩] scope pos) (some (.Name y py)) spos.line X.env=pure true) :
  PS X (.Assign [.Name y py] (.ListComp elt [⟨target,iter,ifs,0⟩] scope pos) spos) (zE0 (zDt nl caps wi g tt te) (uK i)):=by
 intro pins s O H D I h;rw[exec_Assign_Name_used _ _ _ _ hsw];refine qB (wpAny_standAt (qB ?_));show wpAny _ X.A (do let _ <- comprehension (.ListComp elt [⟨target,iter,ifs,0⟩] scope pos) scope X.env _ (newList []) false (eval iter X.env) (some (assign (.Name y py) X.env))) _ _ s;refine qB (wpAny_mono (uf (use:=some (assign (.Name y py) X.env)) (QQ:=λ_ s'=>SP X pins D .next s') hx hc hkind hnames hcell hfree hlen hcap hi hg ht he hs I h λDa C H5 s6 m6 I7 f n6 q=>?_) (λ_ s' hq=>qC (qC hq)) λ_ _ e=>e);obtain⟨f1,f2,f3,f4,f5,f6⟩:=f;show wpAny _ X.A (assign (.Name y py) X.env (.ref Da)) _ _ s6;refine wpAny_assign_Name (Zh I7 hN hi' hy (v:=.ref Da) rfl (λs7 I8 ⟨a,sb,ha⟩=>?_) hf);have hne:C≠a:=by
  rcases ha with ha|ha
  ·rw[ha];exact f2
  ·exact λz=>f5 y a ha z.symm
 refine⟨m6,n6.sameBut sb hne,λh' hs'=>?_⟩;exact⟨_,H5,I8.turned (it:=C) (t':=s7.toks) (λb o hb e=>hs'.extBut b o hb e) f1 (λz=>f2 z) f4 f5 f6,q⟩
end
end L2
namespace DV
open PySem L2
section
variable{X:Cx}{K:qH}{mg:Str->Option Value}{O:St}{M:Addr->Prop}{E:zN}{H:Hp}{T0 Z T:Fz}
structure ItOk(K:qH)(mg:Str->Option Value)(J:It)(ds:List D)(Iv:Hp->Prop):Prop where
 mono:∀H H',Yj H H'->Iv H->Iv H'
 go:∀i Hh H,Yj Hh H->Iv Hh->i<ds.length->J.go i H
 yld:∀i Hh H x H',Yj Hh H->Iv Hh->i<ds.length->J.yld i H x H'->∃d,ds[i]?=some d/\((H'=H/\Rep K mg Hh d x)\/∃q xs es,H q=none/\H'=upd H q (.t xs)/\x=.ref q/\d=.t es/\Reps K mg Hh es xs)
 stop:∀i Hh H,Yj Hh H->Iv Hh->ds.length<=i->J.stop i H
abbrev MI:=zN->Out (List D×zN)
def tMI(X:Cx)(m:MI):TI:=λO H R=>∃M E,E.length=O.length/\FR X.K X.mg M H (O.zip E)/\match m E with
 | .z=>False| .ok (ds,E')=>∀J Iv H',ItOk X.K X.mg J ds Iv->Iv (Hm (Mo M (O.zip E')) H')->Got X.K X.mg M O E H [] O E' H' []->R J H'| .exc x E'=>∀H',Got X.K X.mg M O E H [] O E' H' []->XE X O H' x
abbrev IOk(X:Cx)(tg e:Expr)(m:MI):Prop:=PI X tg e (tMI X m)
def ug{tg e:Expr}{t t':TI}(h:PI X tg e t)(i:∀O H R,t' O H R->t O H R):PI X tg e t':=λpins s O H R I q=>h pins s O H R I (i O H R q)
def iL(m:ME):MI:=λE=>match m E with
 | .z=>.z| .exc x E1=>.exc x E1
 | .ok (r,E1)=>match r.d with
  | .l ds=>.ok (ds,E1)|_=>.z
def iT(m:ME):MI:=λE=>match m E with
 | .z=>.z| .exc x E1=>.exc x E1
 | .ok (r,E1)=>match r.d with
  | .t ds=>.ok (ds,E1)|_=>.z
def it_list{a:Addr}{xs:List V}{ds:List D}:ItOk K mg (Itl K a) ds (λH=>SqL K H a xs/\Reps K mg H ds xs) where
 mono:=λH H' s h=>⟨s.seq h.1,h.2.mono s⟩
 go:=λi Hh H s h hi=>⟨xs,xs[i]'(by rw[h.2.length];exact hi),s.seq h.1,by simp⟩
 yld:=λi Hh H x H' s h hi y=>by
  obtain⟨e,y⟩:=y;obtain⟨d,h1,h2⟩:=h.2.get (y xs (s.seq h.1));exact⟨d,h1,.inl ⟨e,h2⟩⟩
 stop:=λi Hh H s h hi=>⟨xs,s.seq h.1,by rw[h.2.length];exact hi⟩
def it_tup{a:Addr}{xs:List V}{ds:List D}:ItOk K mg (Itt K a) ds (λH=>SqT K H a xs/\Reps K mg H ds xs) where
 mono:=λH H' s h=>⟨zH s h.1,h.2.mono s⟩
 go:=λi Hh H s h hi=>⟨xs,xs[i]'(by rw[h.2.length];exact hi),zH s h.1,by simp⟩
 yld:=λi Hh H x H' s h hi y=>by
  obtain⟨e,y⟩:=y;obtain⟨d,h1,h2⟩:=h.2.get (y xs (zH s h.1));exact⟨d,h1,.inl ⟨e,h2⟩⟩
 stop:=λi Hh H s h hi=>⟨xs,zH s h.1,by rw[h.2.length];exact hi⟩
def uh:∀(n i:Nat) (lo:Int),i<n->(zG lo n)[i]?=some (.int (lo+i)):=λn i lo h=>by
 have:=wD n i lo h;have e:((zG lo n).drop i)[0]?=some (.int (lo+i)):=by rw[this];rfl
 rw[List.getElem?_drop]at e;simpa using e
def zFH{lo:Int}{n:Nat}:ItOk K mg (Itr lo n) (zG lo n) (λ_=>True) where
 mono:=λ_ _ _ h=>h
 go:=λi Hh H s h hi=>by rw[yJ]at hi;exact hi
 yld:=λi Hh H x H' s h hi y=>by
  obtain⟨e,y⟩:=y;rw[yJ]at hi;exact⟨_,uh n i lo hi,.inl ⟨e,by rw[y];simp only[Rep]⟩⟩
 stop:=λi Hh H s h hi=>by rw[yJ]at hi;exact hi
def io_list{tg e:Expr}{m:ME}(h:EOk X e m):IOk X tg e (iL m):=ug (zA0 h) λO H R ⟨M,E,hl,fr,k⟩=>by
 unfold iL at k;refine ze (T0:=[]) hl fr ?_;cases ea:m E with
 |z=>rw[ea]at k;exact k|exc x E1=>rw[ea]at k;exact k
 |ok p =>
  obtain⟨r,E1⟩:=p;rw[ea]at k;intro v H1 g;dsimp only at k;cases ed:r.d with
  |l ds =>
   rw[ed]at k;have rl:=g.rep;rw[ed]at rl;obtain⟨a,xs,rfl,q1,q2⟩:=zU rl;exact⟨a,rfl,⟨xs,zE.seq q1⟩,k _ _ H1 it_list ⟨q1,q2⟩ g.dropAll⟩
  |_=>rw[ed]at k;exact k.elim
def io_tup{tg e:Expr}{m:ME}(h:EOk X e m):IOk X tg e (iT m):=ug (zE2 h) λO H R ⟨M,E,hl,fr,k⟩=>by
 unfold iT at k;refine ze (T0:=[]) hl fr ?_;cases ea:m E with
 |z=>rw[ea]at k;exact k|exc x E1=>rw[ea]at k;exact k
 |ok p =>
  obtain⟨r,E1⟩:=p;rw[ea]at k;intro v H1 g;dsimp only at k;cases ed:r.d with
  |t ds =>
   rw[ed]at k;have rl:=g.rep;rw[ed]at rl;obtain⟨a,xs,rfl,q1,q2⟩:=za rl;exact⟨a,rfl,⟨xs,zH zE q1⟩,k _ _ H1 it_tup ⟨q1,q2⟩ g.dropAll⟩
  |_=>rw[ed]at k;exact k.elim
def iR1(m:MA):MI:=λE=>match m E with
 | .z=>.z| .exc x E1=>.exc x E1
 | .ok ([r],E1)=>match r.d with
  | .int j=>if -(2^62)<=j/\j<2^62 then .ok (zG 0 j.toNat,E1)else .z|_=>.z
 |_=>.z
def iR2(m:MA):MI:=λE=>match m E with
 | .z=>.z| .exc x E1=>.exc x E1
 | .ok ([r,r'],E1)=>match r.d,r'.d with
  | .int i,.int j=>if -(2^62)<=i/\i<2^62/\-(2^62)<=j/\j<2^62 then .ok (zG i (j-i).toNat,E1)else .z|_,_=>.z
 |_=>.z
def io_r1{tg a:Expr}{m:MA}{p cpos:Pos}(hgl:Gl X "range")(hm:X.mg "range"=none)(ha:AOk X [a] m)(hst:zT a=false:=by rfl):IOk X tg (.Call (.Name "range" p) [a] [] cpos) (iR1 m):=ug (uL hgl hm ha (zDY hst)) λO H R ⟨M,E,hl,fr,k⟩=>by
 unfold iR1 at k;refine Jk (T0:=[]) hl fr ?_;cases ea:m E with
 |z=>rw[ea]at k;exact k|exc x E1=>rw[ea]at k;exact k
 |ok p =>
  obtain⟨rs,E1⟩:=p;rw[ea]at k
  match rs,k with
  | [r],k =>
   intro vs H1 hv g1;have rp:=Got.reps hv g1;dsimp only at k;cases ed:r.d with
   |int j =>
    rw[ed]at k;simp only[List.map,ed]at rp;obtain⟨v,rfl,h1⟩:=YM rp;dsimp only at k;by_cases hc:-(2^62)<=j/\j<2^62
    ·rw[if_pos hc]at k
     exact⟨j,by rw[zK h1],hc.1,hc.2,k _ _ H1 zFH trivial g1.dropAll⟩
    ·rw[if_neg hc]at k;exact k.elim
   |_=>rw[ed]at k;exact k.elim
  | [],k=>exact k.elim|_::_::_,k=>exact k.elim
def io_r2{tg a b:Expr}{m:MA}{p cpos:Pos}(hgl:Gl X "range")(hm:X.mg "range"=none)(ha:AOk X [a,b] m)(hst:zT a=false:=by rfl)(hst2:zT b=false:=by rfl) :
  IOk X tg (.Call (.Name "range" p) [a,b] [] cpos) (iR2 m):=ug (zA1 hgl hm ha (star2 hst hst2) (zDY hst2)) λO H R ⟨M,E,hl,fr,k⟩=>by
 unfold iR2 at k;refine Jk (T0:=[]) hl fr ?_;cases ea:m E with
 |z=>rw[ea]at k;exact k|exc x E1=>rw[ea]at k;exact k
 |ok p =>
  obtain⟨rs,E1⟩:=p;rw[ea]at k
  match rs,k with
  | [r,r'],k =>
   intro vs H1 hv g1;have rp:=Got.reps hv g1;dsimp only at k;cases ed:r.d with
   |int i =>
    cases ed':r'.d with
    |int j =>
     rw[ed,ed']at k;simp only[List.map,ed,ed']at rp;obtain⟨v,w,rfl,h1,h2⟩:=reps2 rp;dsimp only at k;by_cases hc:-(2^62)<=i/\i<2^62/\-(2^62)<=j/\j<2^62
     ·rw[if_pos hc]at k
      exact⟨i,j,by rw[zK h1,zK h2],hc,k _ _ H1 zFH trivial g1.dropAll⟩
     ·rw[if_neg hc]at k;exact k.elim
    |_=>rw[ed,ed']at k;exact k.elim
   |_=>rw[ed]at k;exact k.elim
  | [],k=>exact k.elim| [_],k=>exact k.elim|_::_::_::_,k=>exact k.elim
def YQ(tg:MG)(tt:MT)(el:ME):List D->zN->List D->Out (List D×zN)
 | [],E,acc=>.ok (acc,E)
 |d::ds,E,acc=>match tg d E with
  | .ok E1=>match tt E1 with
   | .ok (true,E2)=>match el E2 with
    | .ok (r,E3)=>if acc.length<cap then YQ tg tt el ds E3 (acc++[r.d])else .z|_=>.z
   | .ok (false,E2)=>YQ tg tt el ds E2 acc|_=>.z
  |_=>.z
def JL(E:zN):List Nat->Out (List AR)
 | []=>.ok []
 |j::js=>match E[j]? with
  |some (.v d)=>match JL E js with
   | .ok as=>.ok (.tmp d::as)|_=>.z
  |some s=>match s.list? with
   |some _=>match JL E js with
    | .ok as=>.ok (.ln j::as)|_=>.z
   |none=>.z
  |none=>.z
def Z6(nl:Nat)(caps:List Nat)(mi:MI)(tg:MG)(tt:MT)(el:ME):ME:=λE=>match mi E with
 | .z=>.z| .exc x E1=>.exc x E1
 | .ok (ds,E1)=>match JL E1 caps with
  | .ok ars=>match zL ars E1 with
   | .ok (ss,E2)=>match YQ tg tt el ds (replicate nl .e++ss) []with
    | .ok (res,Eb)=>match zJ ars ((zm (replicate nl .e++ss) Eb).drop nl) E1 E2 with
     | .ok E3=>.ok (.own res,E3)|_=>.z
    |_=>.z
   |_=>.z
  |_=>.z
def zBo:MT:=λE=>.ok (true,E)
abbrev zFI(X:Cx)(ifs:List Expr)(m:MT):Prop:=zBn X ifs (tMT X m)
def YR{ifs:List Expr}{t t':TT}(h:zBn X ifs t)(i:∀O H Q,t' O H Q->t O H Q):zBn X ifs t':=λpins s O H Q I q=>h pins s O H Q I (i O H Q q)
def vT:zFI X [] zBo:=YR pif_nil λO H Q ⟨M,E,hl,fr,k⟩=>k H (Got.refl (T0:=[]) hl fr)
def vU{c:Expr}{m:MT}(h:TOk X c m):zFI X [c] m:=pif_one h
theorem Qt:∀(js:List Nat) {as:List AR} {T:Fz},E.length=O.length->JL E js=.ok as->FR K mg M H (T++O.zip E) ->
  ∃vs,AV O as vs/\vs.map some=js.map (λj=>(O[j]?).getD none)/\FR K mg M H (T++(zx vs as++O.zip E))/\∀b,b∈z7 (T++(zx vs as++O.zip E))->b∈z7 (T++O.zip E)
 | [],as,T,hl,e,f=>by
  cases e;exact⟨[],by simp only[AV],rfl,f,λb q=>q⟩
 |j::js,as,T,hl,e,f=>by
  simp only[JL]at e;cases ej:E[j]? with
  |none=>rw[ej]at e;cases e
  |some s =>
   rw[ej]at e;obtain⟨o,h1,h2⟩:=jt hl ej;have lnk:∀{ds:List D},s.list?=some ds->(match JL E js with | .ok as=>Out.ok (AR.ln j::as)|_=>.z)=.ok as->∃vs,AV O as vs/\vs.map some=(j::js).map (λj=>(O[j]?).getD none)/\FR K mg M H (T++(zx vs as++O.zip E))/\∀b,b∈z7 (T++(zx vs as++O.zip E))->b∈z7 (T++O.zip E):=λ{ds} hs e=>by
    cases ec:JL E js with
    |z=>rw[ec]at e;cases e|exc _ _=>rw[ec]at e;cases e
    |ok as1 =>
     rw[ec]at e;cases e;obtain⟨a,xs,ev,_⟩:=f.ownL o s ds (qK _ h2) hs;subst ev;obtain⟨vs,q1,q2,q3,q4⟩:=Qt js hl ec f;have p:(T++(((some (V.ref a),Slot.e)::zx vs as1)++O.zip E)).Perm ((some (V.ref a),Slot.e)::(T++(zx vs as1++O.zip E))):=perm_middle;have fe:FR K mg M H ((some (V.ref a),Slot.e)::(T++(zx vs as1++O.zip E))):=q3.mask (.extra (by
      have:∀W:Fz,Mask W W:=by
       intro W
       induction W with
       |nil=>exact .nil _|cons x W ih=>exact .keep ih
      exact this _))
     refine⟨.ref a::vs,by simp only[AV];exact⟨_,vs,rfl,h1,q1⟩,by simp[h1,q2],fe.perm p.symm,λb hb=>?_⟩;have:=zD p b hb;rw[zr]at this;exact q4 b this
   cases s with
   |e=>cases e|own ds=>exact lnk rfl e|par ds=>exact lnk rfl e|dct _ _=>cases e
   |v d =>
    dsimp only at e;cases ec:JL E js with
    |z=>rw[ec]at e;cases e|exc _ _=>rw[ec]at e;cases e
    |ok as1 =>
     rw[ec]at e;cases e;obtain⟨v,ev,r⟩:=f.val o d (qK _ h2);subst ev;obtain⟨vs,q1,q2,q3,q4⟩:=Qt js hl ec f;obtain⟨v',ev',r'⟩:=q3.val (some v) d (qK _ (qK _ h2));cases ev';have p:(T++(((some v,Slot.v d)::zx vs as1)++O.zip E)).Perm ((some v,Slot.v d)::(T++(zx vs as1++O.zip E))):=perm_middle;refine⟨v::vs,by simp only[AV];exact⟨v,vs,rfl,q1⟩,by simp[h1,q2],(q3.add r').perm p.symm,λb hb=>?_⟩;have:=zD p b hb;rw[zb]at this;exact q4 b this
def ui(n:Nat)(Z:Fz):z7 (replicate n ((none:Option V),Slot.e)++Z)=z7 Z:=by rw[zR,vS,nil_append]
def FR.emps0(f:FR K mg M H Z)(n:Nat):FR K mg M H (replicate n (none,.e)++Z):=(f.emps n).perm perm_append_comm
end
def tN(K:qH)(mg:Str->Option Value)(m:ME):TE:=λO H Q=>∃M E,E.length=O.length/\FR K mg M H (O.zip E)/\match m E with
 | .ok (r,E')=>∀v H',Got K mg M O E H [] O E' H' [(some v,r.slot)]->Q v H'|_=>False
def tNT(K:qH)(mg:Str->Option Value)(m:MT):TT:=λO H Q=>∃M E,E.length=O.length/\FR K mg M H (O.zip E)/\match m E with
 | .ok (b,E')=>∀H',Got K mg M O E H [] O E' H' []->Q b H'|_=>False
section
variable{X:Cx}{K:qH}{mg:Str->Option Value}{O:St}{M:Addr->Prop}{E:zN}{H:Hp}{T0 Z T:Fz}
def zFJ{m:ME}{Q:VK}(h:tN X.K X.mg m O H Q):tM X m O H Q:=by
 obtain⟨M,E,hl,fr,k⟩:=h;refine⟨M,E,hl,fr,?_⟩;cases e:m E with
 |z=>rw[e]at k;exact k|exc x E1=>rw[e]at k;exact k.elim|ok p=>rw[e]at k;exact k
def zDu{m:MT}{Q:Bool->Hp->Prop}(h:tNT X.K X.mg m O H Q):tMT X m O H Q:=by
 obtain⟨M,E,hl,fr,k⟩:=h;refine⟨M,E,hl,fr,?_⟩;cases e:m E with
 |z=>rw[e]at k;exact k|exc x E1=>rw[e]at k;exact k.elim|ok p=>rw[e]at k;exact k
def zBp{m:ME}{r:R}{E':zN}{Q:VK}(hl:E.length=O.length)(h:FR K mg M H (T0++O.zip E))(e:m E=.ok (r,E'))(k:∀v H',Got K mg M O E H T0 O E' H' [(some v,r.slot)]->Q v H'):tN K mg m O H Q:=by
 refine⟨Mo M T0,E,hl,h.inner,?_⟩;rw[e];exact λv H' g=>k v H' (g.outer h)
def zBq{m:MT}{b:Bool}{E':zN}{Q:Bool->Hp->Prop}(hl:E.length=O.length)(h:FR K mg M H (T0++O.zip E))(e:m E=.ok (b,E'))(k:∀H',Got K mg M O E H T0 O E' H' []->Q b H'):tNT K mg m O H Q:=by
 refine⟨Mo M T0,E,hl,h.inner,?_⟩;rw[e];exact λH' g=>k H' (g.outer h)
def uj{ars:List AR}{E1 E2 E3:zN}{ss outs:List Slot}{r:R}{vs:List V}{v:V}{H1 H':Hp}(e1:zL ars E1=.ok (ss,E2))(e3:zJ ars outs E1 E2=.ok E3)
  (av:AV O ars vs) (f1':FR K mg M H1 (O.zip E2++(vs.map some).zip ss)) (st1:Step M H (O.zip E) H1 (O.zip E2++(vs.map some).zip ss)) (l2:E2.length=O.length) (pk:PKp O E O E1)
  (f2:FR K mg (Mo M (O.zip E2)) H' ((some v,r.slot)::(vs.map some).zip outs)) (s2:Step (Mo M (O.zip E2)) H1 ((vs.map some).zip ss) H' ((some v,r.slot)::(vs.map some).zip outs)):Got K mg M O E H [] O E3 H' [(some v,r.slot)]:=by
 have f3:=FR.outer f1' f2 s2;have s3:=Step.outer s2;have p:(O.zip E2++((some v,r.slot)::(vs.map some).zip outs)).Perm ([(some v,r.slot)]++((vs.map some).zip outs++O.zip E2)):=by
  refine perm_append_comm.trans ?_;exact List.Perm.refl _
 obtain⟨f4,o4,l4⟩:=vP ars l2 av e3 (f3.perm p);refine⟨l4,f4,?_,pk.trans (zBm e1 e3)⟩;have st2:=st1.trans s3;exact st2.weak λb hb=>zD p.symm b (o4 b hb)
theorem wc:∀(n:Nat) {Z W:Fz},Mask Z W->Mask Z (W.drop n)
 |0,_,_,h=>h|n+1,_,_,.nil Z=>by simp only[List.drop_nil];exact .nil _|n+1,_,_,.keep h=>.skip (wc n h)|n+1,_,_,.skip h=>.skip (wc (n+1) h)|n+1,_,_,.extra h=>wc n h
theorem Z7{α β:Type}:∀(n:Nat) (l:List α) (m:List β),(l.zip m).drop n=(l.drop n).zip (m.drop n)
 |0,_,_=>rfl|n+1,[],_=>by simp|n+1,_::_,[]=>by simp|n+1,_::l,_::m=>by simp[Z7 n l m]
def yld_got{J:It}{ds:List D}{Iv:Hp->Prop}{O0 O':St}{E0 E':zN}{H1 H' H'':Hp}{Da:Addr}{acc:List D}{i:Nat}{x:V}(it:ItOk K mg J ds Iv)(hlt:i<ds.length)(gb:Got K mg M O0 E0 H1 [] O' E' H' [(some (.ref Da),.own acc)])(ivb:Iv (Hm (Mo M ((some (.ref Da),Slot.own acc)::O'.zip E')) H'))(y:J.yld i H' x H'') :
  ∃d,ds[i]?=some d/\Got K mg M O0 E0 H1 [] O' E' H'' [(some (.ref Da),.own acc)]/\Iv (Hm (Mo M ((some (.ref Da),Slot.own acc)::O'.zip E')) H'')/\Rep K mg (Hm (Mo M ((some (.ref Da),Slot.own acc)::O'.zip E')) H'') d x:=by
 obtain⟨d,hd,h⟩:=it.yld i _ _ x _ zE ivb hlt y;rcases h with⟨rfl,rx⟩|⟨q,xs,es,hq,rfl,rfl,rfl,rs⟩
 ·exact⟨d,hd,gb,ivb,rx⟩
 ·have f:FR K mg M H' ((some (.ref Da),Slot.own acc)::O'.zip E'):=gb.fr
  have f1:=f.newTup hq rs;have s1:Step M H' ((some (.ref Da),Slot.own acc)::O'.zip E') (upd H' q (.t xs)) ((some (.ref q),.v (.t es))::((some (.ref Da),Slot.own acc)::O'.zip E')):=Step.newVal hq;obtain⟨v,ev,rv⟩:=f1.val _ _ qE;cases ev;have sm:=s1.same;rw[wT]at rv sm;have s2:Step M H' ((some (.ref Da),Slot.own acc)::O'.zip E') (upd H' q (.t xs)) ((some (.ref Da),Slot.own acc)::O'.zip E'):=⟨sm,s1.keep⟩;exact⟨_,hd,⟨gb.len,f1.tail,gb.st.trans s2,gb.pk⟩,it.mono _ _ sm ivb,rv⟩
def Qu{nl:Nat}{caps:List Nat}{mi:MI}{tg:MG}{tt:MT}{el:ME}{g:TG}{Q:VK}(ho:GOk X g tg)(h:tM X (Z6 nl caps mi tg tt el) O H Q):zDt nl caps (tMI X mi) g (tNT X.K X.mg tt) (tN X.K X.mg el) O H Q:=by
 obtain⟨M,E,hl,fr,k⟩:=h;unfold Z6 at k;refine⟨M,E,hl,fr,?_⟩;cases ei:mi E with
 |z=>rw[ei]at k;exact k|exc x E1=>rw[ei]at k;exact k
 |ok p =>
  obtain⟨ds,E1⟩:=p;rw[ei]at k;intro J Iv H1 it iv g1 D hD;dsimp only at k;cases ec:JL E1 caps with
  |z=>rw[ec]at k;exact k.elim|exc _ _=>rw[ec]at k;exact k.elim
  |ok ars =>
   rw[ec]at k;dsimp only at k;cases el1:zL ars E1 with
   |z=>rw[el1]at k;exact k.elim|exc _ _=>rw[el1]at k;exact k.elim
   |ok p =>
    obtain⟨ss,E2⟩:=p;rw[el1]at k;dsimp only at k;cases em:YQ tg tt el ds (replicate nl .e++ss) []with
    |z=>rw[em]at k;exact k.elim|exc _ _=>rw[em]at k;exact k.elim
    |ok p =>
     obtain⟨res,Eb⟩:=p;rw[em]at k;dsimp only at k;cases eb:zJ ars ((zm (replicate nl .e++ss) Eb).drop nl) E1 E2 with
     |z=>rw[eb]at k;exact k.elim|exc _ _=>rw[eb]at k;exact k.elim
     |ok E3 =>
      rw[eb]at k;obtain⟨vs,av,evs,f1,o1⟩:=Qt (T:=[]) caps g1.len ec g1.fr;obtain⟨f2,o2,l2,l3⟩:=Ys (T:=[]) ars g1.len av el1 f1;have hv:=av.length;have f2':FR X.K X.mg M H1 (O.zip E2++(vs.map some).zip ss):=FR.perm (T:=O.zip E2++(vs.map some).zip ss) (Z:=(vs.map some).zip ss++O.zip E2) f2 perm_append_comm;have osub:∀b,b∈z7 (O.zip E2++(vs.map some).zip ss)->b∈z7 (O.zip E1):=λb hb =>
       o1 b ((o2 b).mpr (zD (T:=O.zip E2++(vs.map some).zip ss) (Z:=(vs.map some).zip ss++O.zip E2) perm_append_comm b hb))
      have st1:Step M H (O.zip E) H1 (O.zip E2++(vs.map some).zip ss):=g1.st.weak osub;have eO:zZ nl caps O=replicate nl none++vs.map some:=by unfold L2.zZ;rw[evs]
      rw[eO];have ez:(replicate nl (none:Option V)++vs.map some).zip (replicate nl Slot.e++ss)=replicate nl (none,.e)++(vs.map some).zip ss:=by
       rw[zip_append (by simp),vR]
      have f4:FR X.K X.mg (Mo M (O.zip E2)) H1 ((replicate nl (none:Option V)++vs.map some).zip (replicate nl Slot.e++ss)):=by
       rw[ez];exact(FR.inner f2').emps0 nl
      have oo:z7 ((replicate nl (none:Option V)++vs.map some).zip (replicate nl Slot.e++ss))=z7 ((vs.map some).zip ss):=by rw[ez,ui]
      generalize hO0:replicate nl (none:Option V)++vs.map some=O0 at f4 oo ⊢;generalize hE0:replicate nl Slot.e++ss=E0 at f4 oo em eb ⊢;have hl0:E0.length=O0.length:=by rw[<- hO0,<- hE0];simp[l2,hv]
      have f5:=f4.newOwn (ds:=[]) (xs:=[]) hD Reps.nil;have s5:=Step.newOwn (ds:=[]) (xs:=[]) f4 hD;have iv5:Iv (Hm (Mo (Mo M (O.zip E2)) ((some (.ref D),Slot.own [])::O0.zip E0)) (upd H1 D (.l []))):=by
       refine it.mono _ _ s5.same (it.mono _ _ (jI λb hb=>?_) iv);rcases hb with hb|hb
       ·rcases hb with hb|hb
        ·exact .inl hb
        ·exact .inr (osub b (by rw[zR];exact mem_append_left _ hb))
       ·rw[oo]at hb
        exact .inr (osub b (by rw[zR];exact qK _ hb))
      refine⟨λi m O' H'=>m=ds.length-i/\i<=ds.length/\∃E' acc,Got X.K X.mg (Mo M (O.zip E2)) O0 E0 H1 [] O' E' H' [(some (.ref D),.own acc)]/\Iv (Hm (Mo (Mo M (O.zip E2)) ((some (.ref D),Slot.own acc)::O'.zip E')) H')/\YQ tg tt el (ds.drop i) E' acc=.ok (res,Eb),
       ⟨ds.length,by simp,zero_le _,E0,[],⟨hl0,f5,s5,PKp.refl⟩,iv5,em⟩,?_⟩
      rintro i m O' H' ⟨rfl,hi,E',acc,gb,ivb,cm⟩
      by_cases hlt:i<ds.length
      ·refine .inr ⟨it.go i _ H' zE ivb hlt,λO'' H''=>(i+1<=ds.length/\∃E' acc,Got X.K X.mg (Mo M (O.zip E2)) O0 E0 H1 [] O'' E' H'' [(some (.ref D),.own acc)]/\Iv (Hm (Mo (Mo M (O.zip E2)) ((some (.ref D),Slot.own acc)::O''.zip E')) H'')/\YQ tg tt el (ds.drop (i+1)) E' acc=.ok (res,Eb)),
        λO'' H'' q=>⟨ds.length-(i+1),by omega,rfl,q⟩,λx H'' y=>?_⟩
       obtain⟨d,hd,gb,ivb,rx⟩:=yld_got it hlt gb ivb y;have ed:ds.drop i=d::ds.drop (i+1):=by
        obtain⟨hi',rfl⟩:=qG.mp hd;exact drop_eq_getElem_cons hi'
       rw[ed]at cm;simp only[YQ]at cm;cases e1:tg d E' with
       |z=>rw[e1]at cm;cases cm|exc _ _=>rw[e1]at cm;cases cm
       |ok Ea =>
        rw[e1]at cm;dsimp only at cm;refine ho _ O' E' _ [(some (.ref D),.own acc)] x d Ea _ gb.len (gb.fr.add rx) e1 λO2 ga=>?_
        have g2:=gb.trans' ga;cases e2:tt Ea with
        |z=>rw[e2]at cm;cases cm|exc _ _=>rw[e2]at cm;cases cm
        |ok p =>
         obtain⟨b,Eb2⟩:=p;rw[e2]at cm;refine zBq ga.len ga.fr e2 λH3 gt=>?_
         have g3:=g2.trans' gt;have iv3:=it.mono _ _ (ga.st.same.trans gt.st.same) ivb;cases b with
         |false =>
          refine zE6 ⟨hlt,Eb2,acc,g3,iv3,cm⟩
         |true =>
          refine zE7 ?_;dsimp only at cm;cases e3:el Eb2 with
          |z=>rw[e3]at cm;cases cm|exc _ _=>rw[e3]at cm;cases cm
          |ok p =>
           obtain⟨r,Ec⟩:=p;rw[e3]at cm;dsimp only at cm;by_cases hcap:acc.length<cap
           ·rw[if_pos hcap]at cm
            refine zBp g3.len g3.fr e3 λyv H4 ge=>?_
            have g4:=g3.trans' ge;have fz:FR X.K X.mg (Mo M (O.zip E2)) H4 ((some yv,.v r.d)::((some (.ref D),Slot.own acc)::O2.zip Ec)):=g4.fr.frz;obtain⟨yv',ey,ry⟩:=fz.val _ _ qE;cases ey;rw[wT]at ry;have fo:=fz.tail;obtain⟨a,ys,ea,ha,_,rys⟩:=fo.ownL _ _ acc qE rfl;cases ea;refine⟨ys,ha,by rw[rys.length];exact lt_of_lt_of_le hcap (wa (le_refl _)),hlt,Ec,acc++[r.d],?_⟩;obtain⟨fm,sm⟩:=FR.mut (i:=0) (s:=.own acc) fo rfl rfl (rys.append (Reps.cons ry Reps.nil));have fm':FR X.K X.mg (Mo M (O.zip E2)) (upd H4 D (.l (ys++[yv]))) ((some (.ref D),Slot.own (acc++[r.d]))::O2.zip Ec):=fm;have sm':Step (Mo M (O.zip E2)) H4 ((some (.ref D),Slot.own acc)::O2.zip Ec) (upd H4 D (.l (ys++[yv]))) ((some (.ref D),Slot.own (acc++[r.d]))::O2.zip Ec):=sm;have sz:Step (Mo M (O.zip E2)) H3 ((some (.ref D),Slot.own acc)::O2.zip Eb2) H4 ((some (.ref D),Slot.own acc)::O2.zip Ec):=ge.st.weak (zC (sublist_cons_self _ _));have sz0:Step (Mo M (O.zip E2)) H1 (O0.zip E0) H4 ((some (.ref D),Slot.own acc)::O2.zip Ec):=g4.st.weak (zC (sublist_cons_self _ _));exact⟨⟨g4.len,fm',sz0.trans sm',g4.pk⟩,it.mono _ _ (sz.same.trans sm'.same) iv3,cm⟩
           ·rw[if_neg hcap]at cm;cases cm
      ·have ei2:i=ds.length:=by omega
       subst ei2;rw[drop_length]at cm;simp only[YQ]at cm;cases cm;refine .inl ⟨it.stop _ _ H' zE ivb (le_refl _),k _ H' ?_⟩;have mk0:Mask (O'.zip Eb) (O0.zip (zm E0 Eb)):=YN E0 O0 O' Eb gb.len (hl0.symm) λj ds' e=>(gb.pk j ds' e).2
       have mk:Mask (O'.zip Eb) ((vs.map some).zip ((zm E0 Eb).drop nl)):=by
        have:=wc nl mk0;have e:(O0.zip (zm E0 Eb)).drop nl=(vs.map some).zip ((zm E0 Eb).drop nl):=by
         rw[Z7,<- hO0];congr 1;rw[List.drop_left' (by simp)]
        rw[e]at this;exact this
       refine uj (r:=.own res) el1 eb av f2' st1 l3 g1.pk (gb.fr.mask (.keep mk)) ?_;refine(gb.st.weak λb hb=>(Mask.keep mk).sub.subset hb).left λb hb=>?_
       show b∈z7 _
       rw[nil_append,oo]at hb;exact hb
end
section
variable{X:Cx}{elt target iter:Expr}{ifs:List Expr}{scope:Scope}{pos:Pos}
def ok_comp{mi:MI}{tg:MG}{tt:MT}{el:ME}{g:TG}(nl:Nat)(caps:List Nat)(N':List Str)(hx:∀e s,¬X.xe e s)(hc:X.calm=true)(hkind:scope.kind=.function)(hnames:∀y∈scope.names,y.2=.local->scope.names.lookup y.1=some .local)(hcell:∀y∈scope.names,y.2=.cell->scope.names.lookup y.1=some .cell)
  (hfree:(scope.names.all λy=>y.2 != .free||X.env.kindOf y.1==some .cell)=true)
  (hlen:N'.length=nl+caps.length) (hcap:∀(i j:Nat),caps[i]?=some j->∃x,N'[nl+i]?=some x/\X.N[j]?=some x/\scope.names.lookup x=some .free)
  (hi:IOk X target iter mi) (hg:∀cl C ex s H,PG (cxB X N' scope cl C ex s H) target g) (ho:GOk X g tg) (ht:∀cl C ex s H,zFI (cxB X N' scope cl C ex s H) ifs tt) (he:∀cl C ex s H,EOk (cxB X N' scope cl C ex s H) elt el)
  (hs:∀x,foldedSetIterable iter X.env x=pure x:=by intro _;rfl):EOk X (.ListComp elt [⟨target,iter,ifs,0⟩] scope pos) (Z6 nl caps mi tg tt el) :=
 zf (pe_comp (te:=tN X.K X.mg el) (tt:=tNT X.K X.mg tt) hx hc hkind hnames hcell hfree hlen hcap hi hg (λcl C ex s H=>YR (ht cl C ex s H) λO H Q q=>zDu (X:=cxB X N' scope cl C ex s _) q) (λcl C ex s H=>zf (he cl C ex s H) λO H Q q=>zFJ (X:=cxB X N' scope cl C ex s _) q) hs) λO H Q=>Qu ho
def sk_comp{mi:MI}{tg:MG}{tt:MT}{el:ME}{g:TG}{i:Nat}{y:Str}{py spos:Pos}(nl:Nat)(caps:List Nat)(N':List Str)(hN:X.N.Nodup)(hi':X.N[i]?=some y)(hy:Loc X.env.scope y)(hf:X.fn y=true\/X.env.scope.names.lookup y=some .local)(hx:∀e s,¬X.xe e s)(hc:X.calm=true)(hkind:scope.kind=.function)(hnames:∀y∈scope.names,y.2=.local->scope.names.lookup y.1=some .local)(hcell:∀y∈scope.names,y.2=.cell->scope.names.lookup y.1=some .cell)
  (hfree:(scope.names.all λy=>y.2 != .free||X.env.kindOf y.1==some .cell)=true)
  (hlen:N'.length=nl+caps.length) (hcap:∀(i j:Nat),caps[i]?=some j->∃x,N'[nl+i]?=some x/\X.N[j]?=some x/\scope.names.lookup x=some .free)
  (hi:IOk X target iter mi) (hg:∀cl C ex s H,PG (cxB X N' scope cl C ex s H) target g) (ho:GOk X g tg) (ht:∀cl C ex s H,zFI (cxB X N' scope cl C ex s H) ifs tt) (he:∀cl C ex s H,EOk (cxB X N' scope cl C ex s H) elt el)
  (hs:∀x,foldedSetIterable iter X.env x=pure x) (hsw:swapsWith (.ListComp elt [⟨target,iter,ifs,0⟩] scope pos) (some (.Name y py)) spos.line X.env=pure true) :
  SOk X (.Assign [.Name y py] (.ListComp elt [⟨target,iter,ifs,0⟩] scope pos) spos) (sSet i (Z6 nl caps mi tg tt el)) :=
 yW (ps_setC (te:=tN X.K X.mg el) (tt:=tNT X.K X.mg tt) hN hi' hy hf hx hc hkind hnames hcell hfree hlen hcap hi hg (λcl C ex s H=>YR (ht cl C ex s H) λO H Q q=>zDu (X:=cxB X N' scope cl C ex s _) q) (λcl C ex s H=>zf (he cl C ex s H) λO H Q q=>zFJ (X:=cxB X N' scope cl C ex s _) q) hs hsw) λD O H h=>Qu ho (Gu h)
end
def mem7{P:String->Prop}(h1:P "NoneType")(h2:P "bool")(h3:P "int")(h4:P "str")(h5:P "tuple")(h6:P "list")(h7:P "dict"):∀t∈["NoneType","bool","int","str","tuple","list","dict"],P t:=by
 intro t ht;simp only[mem_cons,mem_nil_iff,or_false]at ht;rcases ht with rfl|rfl|rfl|rfl|rfl|rfl|rfl<;>assumption
abbrev Kit(K:qH)(T:String):Prop:=∀t∈["NoneType","bool","int","str","tuple","list","dict"],kitOne K (.type t) (.type T)=some (ud t T)
def kit_int(K:qH):Kit K "int":=mem7 rfl rfl rfl rfl rfl rfl rfl
def zDv(K:qH):Kit K "bool":=mem7 rfl rfl rfl rfl rfl rfl rfl
def zBr(K:qH):Kit K "tuple":=mem7 rfl rfl rfl rfl rfl rfl rfl
def zDw(K:qH):Kit K "list":=mem7 rfl rfl rfl rfl rfl rfl rfl
def kit_str(K:qH):Kit K "str":=mem7 rfl rfl rfl rfl rfl rfl rfl
def zDx(K:qH):Kit K "dict":=mem7 rfl rfl rfl rfl rfl rfl rfl
def wE:bootBuiltins "isinstance"=some (.builtin "isinstance"):=by decide +kernel
def bt_len:bootBuiltins "len"=some (.builtin "len"):=by decide +kernel
def bt_max:bootBuiltins "max"=some (.builtin "max"):=by decide +kernel
def bt_all:bootBuiltins "all"=some (.builtin "all"):=by decide +kernel
def zFK:bootBuiltins "int"=some (.type "int"):=by decide +kernel
def bt_bool:bootBuiltins "bool"=some (.type "bool"):=by decide +kernel
def Qv:bootBuiltins "tuple"=some (.type "tuple"):=by decide +kernel
def zBs:bootBuiltins "list"=some (.type "list"):=by decide +kernel
def bt_str:bootBuiltins "str"=some (.type "str"):=by decide +kernel
def bt_dict:bootBuiltins "dict"=some (.type "dict"):=by decide +kernel
section
variable{X:Cx}{K:qH}{mg:Str->Option Value}{O:St}{H:Hp}
def eNeg(a:ME):ME:=λE=>match a E with
 | .ok (.v (.int i),E1)=>.ok (.v (.int (-i)),E1)| .exc x E1=>.exc x E1|_=>.z
def ok_neg{a:Expr}{m:ME}{pos:Pos}(h:EOk X a m):EOk X (.UnaryOp .USub a pos) (eNeg m):=zf (pe_un un_neg h) λO H Q ⟨M,E,hl,fr,k⟩=>by
 unfold eNeg at k;refine ze (T0:=[]) hl fr ?_;cases ea:m E with
 |z=>rw[ea]at k;exact k|exc x E1=>rw[ea]at k;exact k
 |ok p =>
  obtain⟨r,E1⟩:=p;rw[ea]at k;cases r with
  |own ds=>exact k.elim|dct _ _=>exact k.elim
  |v d =>
   cases d with
   |int i =>
    intro v H' g;exact⟨i,zK g.rep,k _ H' (g.flat (d:=.int (-i)) rfl)⟩
   |_=>exact k.elim
def jb(p p':Int->Int->Bool)(a b c:ME):ME:=λE=>match a E with
 | .z=>.z| .exc x E1=>.exc x E1
 | .ok (.v (.int i),E1)=>match b E1 with
  | .z=>.z| .exc x E2=>.exc x E2
  | .ok (.v (.int j),E2)=>if p i j=true then match c E2 with
    | .z=>.z| .exc x E3=>.exc x E3| .ok (.v (.int k),E3)=>.ok (.v (.bl (p' j k)),E3)|_=>.z
   else .ok (.v (.bl false),E2)
  |_=>.z
 |_=>.z
def uk{p p':Int->Int->Bool}{a b c:ME}{Q:VK}(h:tM X (jb p p' a b c) O H Q):zA7 (rI0 λi j=>.bl (p i j)) (rI0 λi j=>.bl (p' i j)) (tM X a) (tM X b) (tM X c) O H Q:=by
 obtain⟨M,E,hl,fr,k⟩:=h;unfold jb at k;refine ze (T0:=[]) hl fr ?_;cases ea:a E with
 |z=>rw[ea]at k;exact k|exc x E1=>rw[ea]at k;exact k
 |ok q =>
  obtain⟨r,E1⟩:=q;rw[ea]at k;cases r with
  |own ds=>exact k.elim|dct _ _=>exact k.elim
  |v d =>
   cases d with
   |int i =>
    intro x H1 g1;have g1':=g1.dropAll;refine ze (T0:=[]) g1'.len g1'.fr ?_;dsimp only at k;cases eb:b E1 with
    |z=>rw[eb]at k;exact k|exc x E2=>rw[eb]at k;exact λH' g=>k H' (g1'.trans' g)
    |ok q =>
     obtain⟨r2,E2⟩:=q;rw[eb]at k;cases r2 with
     |own ds=>exact k.elim|dct _ _=>exact k.elim
     |v d2 =>
      cases d2 with
      |int j =>
       intro y H2 g2;have g12:=(g1'.trans' g2).dropAll;refine⟨i,j,zK g1.rep,zK g2.rep,p i j,rfl,?_⟩;dsimp only at k;cases ep:p i j with
       |false =>
        rw[ep]at k;exact zE6 (k _ H2 (g12.flat (d:=.bl false) rfl))
       |true =>
        rw[ep]at k;simp only[if_true]at k;refine zE7 (ze (T0:=[]) g12.len g12.fr ?_);cases ec:c E2 with
        |z=>rw[ec]at k;exact k|exc x E3=>rw[ec]at k;exact λH' g=>k H' (g12.trans' g)
        |ok q =>
         obtain⟨r3,E3⟩:=q;rw[ec]at k;cases r3 with
         |own ds=>exact k.elim|dct _ _=>exact k.elim
         |v d3 =>
          cases d3 with
          |int n =>
           intro w H3 g3;exact⟨j,n,zK g2.rep,zK g3.rep,k _ H3 ((g12.trans' g3).flat (d:=.bl (p' j n)) rfl)⟩
          |_=>exact k.elim
      |_=>exact k.elim
   |_=>exact k.elim
def zDy{op op':CmpOp}{p p':Int->Int->Bool}{a b c:Expr}{ma mb mc:ME}{pos:Pos}(ho:OpR X (compareOp op) (rI0 λi j=>.bl (p i j)))(ho':OpR X (compareOp op') (rI0 λi j=>.bl (p' i j)))(ha:EOk X a ma)(hb:EOk X b mb)(hc:EOk X c mc)
  (hm:lastMarks [op,op'] [b,c]=false:=by with_unfolding_all rfl):EOk X (.Compare a [op,op'] [b,c] pos) (jb p p' ma mb mc):=zf (zDK ho ho' ha hb hc hm) λO H Q=>uk
def zBt{op op':CmpOp}{p p':Int->Int->Bool}{a b c:Expr}{ma mb mc:ME}{pos:Pos}(ho:OpR X (compareOp op) (rI0 λi j=>.bl (p i j)))(ho':OpR X (compareOp op') (rI0 λi j=>.bl (p' i j)))(ha:EOk X a ma)(hb:EOk X b mb)(hc:EOk X c mc)
  (hm:lastMarks [op,op'] [b,c]=false:=by with_unfolding_all rfl):TOk X (.Compare a [op,op'] [b,c] pos) (tT (jb p p' ma mb mc)):=Qj (zDL ho ho' ha hb hc hm) λO H Q q=>uk (zBW q)
abbrev ltB:Int->Int->Bool:=λi j=>decide (i<j)
abbrev leB:Int->Int->Bool:=λi j=>decide (i<=j)
abbrev gtB:Int->Int->Bool:=λi j=>decide (j<i)
abbrev geB:Int->Int->Bool:=λi j=>decide (j<=i)
def Gy(X:Cx)(scope:Scope):List Nat->List Str->Prop
 | [],[]=>True|j::js,x::xs=>X.N[j]?=some x/\scope.names.lookup x=some .free/\Gy X scope js xs|_,_=>False
theorem ul{scope:Scope}{loc:List Str}:∀{caps:List Nat} {capn:List Str},Gy X scope caps capn->capn.length=caps.length/\∀(i j:Nat),caps[i]?=some j->∃x,capn[i]?=some x/\X.N[j]?=some x/\scope.names.lookup x=some .free
 | [],[],h=>⟨rfl,λi j e=>by simp at e⟩| [],_::_,h=>h.elim|_::_,[],h=>h.elim
 |j::js,x::xs,h=>by
  obtain⟨h1,h2,h3⟩:=h;obtain⟨i1,i2⟩:=ul (loc:=loc) h3;refine⟨by simp[i1],λi k e=>?_⟩;cases i with
  |zero=>simp at e;subst e;exact⟨x,rfl,h1,h2⟩|succ i=>simp at e;obtain⟨y,q⟩:=i2 i k e;exact⟨y,by simpa using q⟩
def ok_lc{elt target iter:Expr}{ifs:List Expr}{scope:Scope}{pos:Pos}{mi:MI}{tg:MG}{tt:MT}{el:ME}{g:TG}{nl:Nat}{caps:List Nat}(loc capn:List Str)(hnl:loc.length=nl)(hx:∀e s,¬X.xe e s)(hc:X.calm=true)(hkind:scope.kind=.function)(hnames:∀y∈scope.names,y.2=.local->scope.names.lookup y.1=some .local)(hcell:∀y∈scope.names,y.2=.cell->scope.names.lookup y.1=some .cell)
  (hfree:(scope.names.all λy=>y.2 != .free||X.env.kindOf y.1==some .cell)=true) (hcap:Gy X scope caps capn)
  (hi:IOk X target iter mi) (hg:∀cl C ex s H,PG (cxB X (loc++capn) scope cl C ex s H) target g) (ho:GOk X g tg) (ht:∀cl C ex s H,zFI (cxB X (loc++capn) scope cl C ex s H) ifs tt) (he:∀cl C ex s H,EOk (cxB X (loc++capn) scope cl C ex s H) elt el)
  (hs:∀x,foldedSetIterable iter X.env x=pure x:=by intro _;rfl):EOk X (.ListComp elt [⟨target,iter,ifs,0⟩] scope pos) (Z6 nl caps mi tg tt el):=by
 obtain⟨c1,c2⟩:=ul (loc:=loc) hcap;refine ok_comp nl caps (loc++capn) hx hc hkind hnames hcell hfree (by simp[hnl,c1]) (λi j e=>?_) hi hg ho ht he hs;obtain⟨x,q1,q2,q3⟩:=c2 i j e;refine⟨x,?_,q2,q3⟩;rw[getElem?_append_right (by omega),hnl,Nat.add_sub_cancel_left];exact q1
def sk_lc{elt target iter:Expr}{ifs:List Expr}{scope:Scope}{pos:Pos}{mi:MI}{tg:MG}{tt:MT}{el:ME}{g:TG}{nl:Nat}{caps:List Nat}{i:Nat}{y:Str}{py spos:Pos}(loc capn:List Str)(hN:X.N.Nodup)(hi':X.N[i]?=some y)(hy:Loc X.env.scope y)(hf:X.fn y=true\/X.env.scope.names.lookup y=some .local)(hnl:loc.length=nl)(hx:∀e s,¬X.xe e s)(hc:X.calm=true)(hkind:scope.kind=.function)(hnames:∀y∈scope.names,y.2=.local->scope.names.lookup y.1=some .local)(hcell:∀y∈scope.names,y.2=.cell->scope.names.lookup y.1=some .cell)
  (hfree:(scope.names.all λy=>y.2 != .free||X.env.kindOf y.1==some .cell)=true) (hcap:Gy X scope caps capn)
  (hi:IOk X target iter mi) (hg:∀cl C ex s H,PG (cxB X (loc++capn) scope cl C ex s H) target g) (ho:GOk X g tg) (ht:∀cl C ex s H,zFI (cxB X (loc++capn) scope cl C ex s H) ifs tt) (he:∀cl C ex s H,EOk (cxB X (loc++capn) scope cl C ex s H) elt el)
  (hs:∀x,foldedSetIterable iter X.env x=pure x) (hsw:swapsWith (.ListComp elt [⟨target,iter,ifs,0⟩] scope pos) (some (.Name y py)) spos.line X.env=pure true) :
  SOk X (.Assign [.Name y py] (.ListComp elt [⟨target,iter,ifs,0⟩] scope pos) spos) (sSet i (Z6 nl caps mi tg tt el)):=by
 obtain⟨c1,c2⟩:=ul (loc:=loc) hcap;refine sk_comp nl caps (loc++capn) hN hi' hy hf hx hc hkind hnames hcell hfree (by simp[hnl,c1]) (λi j e=>?_) hi hg ho ht he hs hsw;obtain⟨x,q1,q2,q3⟩:=c2 i j e;refine⟨x,?_,q2,q3⟩;rw[getElem?_append_right (by omega),hnl,Nat.add_sub_cancel_left];exact q1
end
section
variable(P:Program)(w:World)(K:qH)(mg:Str->Option Value)(base:Heap)
def JD(x:Str)(st:Stmt)(ps:List Str):Prop:=∃(a:Addr) (fd:FuncData),mg x=some (.ref a)/\Fun K x x st a fd/\ZL K fd ps []
def FOk(c:Bool)(x:Str)(k:Nat)(ps:List Str)(F:MF):Prop:=∃(a:Addr) (fd:FuncData),mg x=some (.ref a)/\keepIn K (.ref a)=true/\ZL K fd ps []/\FnOkN c P w K mg base k a fd ps (spM K mg ps.length F)
end
mutual
def deq:D->D->Bool
 | .t a,d=>match d with
  | .t b=>deqs a b|_=>false
 | .l a,d=>match d with
  | .l b=>deqs a b|_=>false
 |a,d=>match d with
  | .t _=>false| .l _=>false|b=>eqV (flV a) (flV b)
def deqs:List D->List D->Bool
 | [],[]=>true|a::as,b::bs=>deq a b&&deqs as bs| [],_::_=>false|_::_,[]=>false
end
def eqb:Nat->D->Bool
 |_,.non=>true|_,.bl _=>true|_,.int _=>true|_,.str _=>true|n+1,.t ds=>ds.all (eqb n)|n+1,.l ds=>ds.all (eqb n)|_,_=>false
theorem wF:∀(a b:List D),deqs a b=((List.range (min a.length b.length)).all (λj=>deq (a.getD j .non) (b.getD j .non))&&a.length==b.length)
 | [],[]=>by simp[deqs]| [],_::_=>by simp[deqs]|_::_,[]=>by simp[deqs]
 |a::as,b::bs=>by
  simp only[deqs,wF as bs,length_cons];have e:min (as.length+1) (bs.length+1)=min as.length bs.length+1:=by omega
  rw[e,List.range_succ_eq_map,all_cons,List.all_map];simp[Function.comp_def,Bool.and_assoc]
section
variable{X:Cx}{pins:List (Addr×Obj)}{O:St}{H:Hp}{s:Shared}
def jk{d:D}(h:eqb 0 d=true):flat d=true:=by cases d<;>first|rfl|(cases h)
def Qw{v:V}(h:JK v=true):eqV v v=true:=by cases v<;>simp[JK]at h<;>simp[eqV]
def JE{a b:D}(ha:flat a=true)(hb:flat b=true):deq a b=eqV (flV a) (flV b):=by
 cases a<;>cases b<;>first|(simp[flat]at ha;done)|(simp[flat]at hb;done)|simp[deq]
def zq{n:Nat}{d:D}(h:eqb n d=true):flat d=true\/(∃m ds,n=m+1/\d=.t ds/\∀e∈ds,eqb m e=true)\/(∃m ds,n=m+1/\d=.l ds/\∀e∈ds,eqb m e=true):=by
 cases d with
 |t ds =>
  cases n with
  |zero=>cases h|succ m=>exact .inr (.inl ⟨m,ds,rfl,rfl,all_eq_true.mp h⟩)
 |l ds =>
  cases n with
  |zero=>cases h|succ m=>exact .inr (.inr ⟨m,ds,rfl,rfl,all_eq_true.mp h⟩)
 |fn x=>cases n<;>cases h
 |dic=>cases n<;>cases h
 |dct _ _=>cases n<;>cases h
 |exn x y=>cases n<;>cases h
 |_=>exact .inl rfl
def Qx(I:Inv X pins O H s):∀(n:Nat) (d e:D) (x:V),eqb n d=true->eqb n e=true->Rep X.K X.mg H d x->Rep X.K X.mg H e x->deq d e=true:=by
 intro n
 induction n with
 |zero =>
  intro d e x hd he rd re;have fd:=jk hd;have fe:=jk he;rw[JE fd fe,<- zV fd rd,<- zV fe re];exact Qw (by rw[zV fd rd];exact yA fd)
 |succ n ih =>
  intro d e x hd he rd re;have seq:∀(ds es:List D) (xs:List V),(∀e∈ds,eqb n e=true)->(∀e∈es,eqb n e=true)->Reps X.K X.mg H ds xs->Reps X.K X.mg H es xs->deqs ds es=true:=by
   intro ds
   induction ds with
   |nil =>
    intro es xs _ _ r1 r2;simp only[Reps]at r1;subst r1;cases es with
    |nil=>rfl|cons e es=>simp only[Reps]at r2;obtain⟨v,r,q,_⟩:=r2;cases q
   |cons d ds ihd =>
    intro es xs h1 h2 r1 r2;simp only[Reps]at r1;obtain⟨v,r,rfl,a1,a2⟩:=r1;cases es with
    |nil=>simp only[Reps]at r2;cases r2
    |cons e es =>
     simp only[Reps]at r2;obtain⟨v',r',q,b1,b2⟩:=r2;cases q;simp only[deqs,Bool.and_eq_true];exact⟨ih d e v (h1 d qE) (h2 e qE) a1 b1,ihd es r (λz hz=>h1 z (qD _ hz)) (λz hz=>h2 z (qD _ hz)) a2 b2⟩
  have isRef:∀{d:D} {a:Addr},flat d=true->Rep X.K X.mg H d (.ref a)->False:=λ{d a} fd r=>by
   have:=zV fd r;cases d<;>simp[flat]at fd<;>cases this
  have kinds:∀{a:Addr} {xs ys:List V},SqT X.K H a xs->SqL X.K H a ys->False:=λ{a xs ys} h1 h2=>by
   obtain⟨i1,_,⟨o,e1,c1,_⟩,_⟩:=I.tuple h1;obtain⟨i2,_,⟨o2,n2,e2,c2,_⟩,_⟩:=I.list h2;rw[e1]at e2;cases e2;rw[c1]at c2;simp at c2
  rcases zq hd with fd|⟨m,ds,em,rfl,hds⟩|⟨m,ds,em,rfl,hds⟩
  ·rcases zq he with fe|⟨m,es,em,rfl,hes⟩|⟨m,es,em,rfl,hes⟩
   ·rw[JE fd fe,<- zV fd rd,<- zV fe re]
    exact Qw (by rw[zV fd rd];exact yA fd)
   ·obtain⟨a,xs,rfl,_,_⟩:=za re
    exact(isRef fd rd).elim
   ·obtain⟨a,xs,rfl,_,_⟩:=zU re
    exact(isRef fd rd).elim
  ·cases em
   obtain⟨a,xs,rfl,q1,q2⟩:=za rd;rcases zq he with fe|⟨m,es,em,rfl,hes⟩|⟨m,es,em,rfl,hes⟩
   ·exact(isRef fe re).elim
   ·cases em
    obtain⟨b,ys,e,p1,p2⟩:=za re;cases e;have:=I.tuple_inj q1 p1;subst this;simp only[deq];exact seq ds es xs hds hes q2 p2
   ·obtain⟨b,ys,e,p1,p2⟩:=zU re
    cases e;exact(kinds q1 p1).elim
  ·cases em
   obtain⟨a,xs,rfl,q1,q2⟩:=zU rd;rcases zq he with fe|⟨m,es,em,rfl,hes⟩|⟨m,es,em,rfl,hes⟩
   ·exact(isRef fe re).elim
   ·obtain⟨b,ys,e,p1,p2⟩:=za re
    cases e;exact(kinds p1 q1).elim
   ·cases em
    obtain⟨b,ys,e,p1,p2⟩:=zU re;cases e;have:=I.list_inj q1 p1;subst this;simp only[deq];exact seq ds es xs hds hes q2 p2
def Yt{ds:List D}{xs:List V}{us:List Value}(r:Reps X.K X.mg H ds xs)(v:yG xs us){j:Nat}(h:j<us.length):j<ds.length/\∃x,Rep X.K X.mg H (ds.getD j .non) x/\zz x us[j]:=by
 have l1:=r.length;have l2:=v.length;have hd:j<ds.length:=by omega
 refine⟨hd,?_⟩;obtain⟨x,q1,q2⟩:=r.get' (i:=j) (d:=ds[j]) (by simp[hd]);obtain⟨u,e1,e2⟩:=v.get q1;have:us[j]=u:=by
  have:=qG.mp e1;exact this.2
 refine⟨x,?_,by rw[this];exact e2⟩;rw[getD_eq_getElem?_getD,getElem?_eq_getElem hd];exact q2
def eqAt_ft{A:Around}{d:D}{x:V}{u:Value}{b:Addr}{its:Array Value}(hd:flat d=true)(rx:zz x u)(ex:x=flV d)(hb:s.heap.IsTuple b its)(hu:A.units<cLine):SeqAt.EqAt A s u (.ref b) false:=by
 subst ex;cases d with
 |non=>cases rx;exact SeqAt.EqAt.none_tuple hb hu|bl c=>cases rx;exact SeqAt.EqAt.bool_tuple c hb hu|int i=>obtain⟨t,rfl⟩:=rx;exact SeqAt.EqAt.int_tuple i t hb hu|str z=>obtain⟨t,rfl⟩:=rx;exact SeqAt.EqAt.str_tuple z t hb hu|_=>simp[flat]at hd
def eqAt_fl{A:Around}{d:D}{x:V}{u:Value}{b:Addr}{its:Array Value}(hd:flat d=true)(rx:zz x u)(ex:x=flV d)(hb:s.heap.IsList b its)(hu:A.units<cLine):SeqAt.EqAt A s u (.ref b) false:=by
 subst ex;cases d with
 |non=>cases rx;exact SeqAt.EqAt.none_list hb hu|bl c=>cases rx;exact SeqAt.EqAt.bool_list c hb hu|int i=>obtain⟨t,rfl⟩:=rx;exact SeqAt.EqAt.int_list i t hb hu|str z=>obtain⟨t,rfl⟩:=rx;exact SeqAt.EqAt.str_list z t hb hu|_=>simp[flat]at hd
def eqAt_tf{A:Around}{d:D}{x:V}{u:Value}{b:Addr}{its:Array Value}(hd:flat d=true)(rx:zz x u)(ex:x=flV d)(hb:s.heap.IsTuple b its)(hu:A.units<cLine):SeqAt.EqAt A s (.ref b) u false:=by
 subst ex;cases d with
 |non=>cases rx;exact SeqAt.EqAt.tuple_none hb hu|bl c=>cases rx;exact SeqAt.EqAt.tuple_bool c hb hu|int i=>obtain⟨t,rfl⟩:=rx;exact SeqAt.EqAt.tuple_int i t hb hu|str z=>obtain⟨t,rfl⟩:=rx;exact SeqAt.EqAt.tuple_str z t hb hu|_=>simp[flat]at hd
def eqAt_lf{A:Around}{d:D}{x:V}{u:Value}{b:Addr}{its:Array Value}(hd:flat d=true)(rx:zz x u)(ex:x=flV d)(hb:s.heap.IsList b its)(hu:A.units<cLine):SeqAt.EqAt A s (.ref b) u false:=by
 subst ex;cases d with
 |non=>cases rx;exact SeqAt.EqAt.list_none hb hu|bl c=>cases rx;exact SeqAt.EqAt.list_bool c hb hu|int i=>obtain⟨t,rfl⟩:=rx;exact SeqAt.EqAt.list_int i t hb hu|str z=>obtain⟨t,rfl⟩:=rx;exact SeqAt.EqAt.list_str z t hb hu|_=>simp[flat]at hd
def zBu{d:D}{ds:List D}(h:flat d=true):deq d (.t ds)=false:=by cases d<;>simp[flat]at h<;>simp[deq]
def zBv{d:D}{ds:List D}(h:flat d=true):deq d (.l ds)=false:=by cases d<;>simp[flat]at h<;>simp[deq]
def zBw{d:D}{ds:List D}(h:flat d=true):deq (.t ds) d=false:=by cases d<;>simp[flat]at h<;>simp[deq]
def zBx{d:D}{ds:List D}(h:flat d=true):deq (.l ds) d=false:=by cases d<;>simp[flat]at h<;>simp[deq]
def eqAtD(I:Inv X pins O H s):∀(n:Nat) (A:Around) (d e:D) (x y:V) (u v:Value),eqb n d=true->eqb n e=true->Rep X.K X.mg H d x->Rep X.K X.mg H e y->zz x u->zz y v->A.units+n<cLine->SeqAt.EqAt A s u v (deq d e):=by
 intro n
 induction n with
 |zero =>
  intro A d e x y u v hd he rd re rx ry hu;have fd:=jk hd;have fe:=jk he;rw[JE fd fe,<- zV fd rd,<- zV fe re];exact Wv rx ry (by rw[zV fd rd];exact yA fd) (by rw[zV fe re];exact yA fe)
 |succ n ih =>
  intro A d e x y u v hd he rd re rx ry hu;have hu0:A.units<cLine:=by omega
  have item:∀{ds es:List D} {xs ys:List V} {us vs:List Value},(∀e∈ds,eqb n e=true)->(∀e∈es,eqb n e=true)->Reps X.K X.mg H ds xs->Reps X.K X.mg H es ys->yG xs us->yG ys vs ->
    ∀j (h1:j<us.toArray.size) (h2:j<vs.toArray.size),SeqAt.EqAt A.in1 s us.toArray[j] vs.toArray[j] (deq (ds.getD j .non) (es.getD j .non)):=by
   intro ds es xs ys us vs k1 k2 r1 r2 v1 v2 j h1 h2;have h1':j<us.length:=by simpa using h1
   have h2':j<vs.length:=by simpa using h2
   obtain⟨l1,x1,a1,b1⟩:=Yt r1 v1 h1';obtain⟨l2,x2,a2,b2⟩:=Yt r2 v2 h2';rw[getElem_toArray,getElem_toArray];have m1:ds.getD j .non∈ds:=by rw[getD_eq_getElem?_getD,getElem?_eq_getElem l1];exact getElem_mem l1
   have m2:es.getD j .non∈es:=by rw[getD_eq_getElem?_getD,getElem?_eq_getElem l2];exact getElem_mem l2
   exact ih A.in1 _ _ x1 x2 _ _ (k1 _ m1) (k2 _ m2) a1 a2 b1 b2 (by show A.units+1+n<cLine;omega)
  rcases zq hd with fd|⟨m,ds,em,rfl,hds⟩|⟨m,ds,em,rfl,hds⟩
  ·have ex:=zV fd rd
   rcases zq he with fe|⟨m,es,em,rfl,hes⟩|⟨m,es,em,rfl,hes⟩
   ·rw[JE fd fe,<- zV fd rd,<- zV fe re]
    exact Wv rx ry (by rw[zV fd rd];exact yA fd) (by rw[zV fe re];exact yA fe)
   ·obtain⟨b,ys,rfl,p1,p2⟩:=za re
    cases ry;obtain⟨its,_,pl,_⟩:=I.tuple p1;rw[zBu fd];exact eqAt_ft fd rx ex pl hu0
   ·obtain⟨b,ys,rfl,p1,p2⟩:=zU re
    cases ry;obtain⟨its,_,pl,_⟩:=I.list p1;rw[zBv fd];exact eqAt_fl fd rx ex pl.isList hu0
  ·cases em
   obtain⟨a,xs,rfl,q1,q2⟩:=za rd;cases rx;obtain⟨us,v1,pl1,_⟩:=I.tuple q1;rcases zq he with fe|⟨m,es,em,rfl,hes⟩|⟨m,es,em,rfl,hes⟩
   ·rw[zBw fe];exact eqAt_tf fe ry (zV fe re) pl1 hu0
   ·cases em
    obtain⟨b,ys,rfl,p1,p2⟩:=za re;cases ry;obtain⟨vs,v2,pl2,_⟩:=I.tuple p1;by_cases hab:a=b
    ·subst hab
     rw[Qx I (n+1) _ _ _ hd he rd re];exact SeqAt.EqAt.same _
    ·have q:=SeqAt.EqAt.of_refs hab (SeqAt.RcAt.tuples pl1 pl2 hu0 (item hds hes q2 p2 v1 v2))
     simp only[deq];rw[wF];have l1:us.toArray.size=ds.length:=by rw[size_toArray,<- v1.length,q2.length]
     have l2:vs.toArray.size=es.length:=by rw[size_toArray,<- v2.length,p2.length]
     rw[l1,l2]at q;exact q
   ·obtain⟨b,ys,rfl,p1,p2⟩:=zU re
    cases ry;obtain⟨vs,v2,pl2,_⟩:=I.list p1;simp only[deq];exact SeqAt.EqAt.tuple_list pl1 pl2.isList hu0
  ·cases em
   obtain⟨a,xs,rfl,q1,q2⟩:=zU rd;cases rx;obtain⟨us,v1,pl1,_⟩:=I.list q1;rcases zq he with fe|⟨m,es,em,rfl,hes⟩|⟨m,es,em,rfl,hes⟩
   ·rw[zBx fe];exact eqAt_lf fe ry (zV fe re) pl1.isList hu0
   ·obtain⟨b,ys,rfl,p1,p2⟩:=za re
    cases ry;obtain⟨vs,v2,pl2,_⟩:=I.tuple p1;simp only[deq];exact SeqAt.EqAt.list_tuple pl1.isList pl2 hu0
   ·cases em
    obtain⟨b,ys,rfl,p1,p2⟩:=zU re;cases ry;obtain⟨vs,v2,pl2,_⟩:=I.list p1;have l1:us.toArray.size=ds.length:=by rw[size_toArray,<- v1.length,q2.length]
    have l2:vs.toArray.size=es.length:=by rw[size_toArray,<- v2.length,p2.length]
    by_cases hab:a=b
    ·subst hab
     rw[Qx I (n+1) _ _ _ hd he rd re];exact SeqAt.EqAt.same _
    ·simp only[deq]
     rw[wF];by_cases hl:ds.length=es.length
     ·have q:=SeqAt.EqAt.of_refs hab (SeqAt.RcAt.lists pl1.isList pl2.isList (by rw[l1,l2,hl]) hu0 (item hds hes q2 p2 v1 v2))
      rw[l1]at q;rw[hl]at q ⊢;simpa using q
     ·have q:=SeqAt.EqAt.of_refs hab (SeqAt.RcAt.lists_lengths (A:=A) pl1.isList pl2.isList (by rw[l1,l2];simpa using hl) hu0)
      have e:(ds.length==es.length)=false:=by simpa using hl
      rw[e,Bool.and_false];exact q
def rcAt_V{A:Around}{y x:V}{u v:Value}(ry:zz y u)(rx:zz x v)(fy:JK y=true)(fx:JK x=true):SeqAt.RcAt A s u v (eqV y x):=by
 cases y with
 |non =>
  cases ry;cases x with
  |non=>cases rx;exact SeqAt.RcAt.none_none|bl b=>cases rx;exact SeqAt.RcAt.none_bool  b|int b=>obtain⟨t2,rfl⟩:=rx;exact SeqAt.RcAt.none_int  b t2|str b=>obtain⟨t2,rfl⟩:=rx;exact SeqAt.RcAt.none_str  b t2|_=>exact absurd (show false=true from fx) qF
 |bl a =>
  cases ry;cases x with
  |non=>cases rx;exact SeqAt.RcAt.bool_none a|bl b=>cases rx;exact SeqAt.RcAt.bool_bool a b|int b=>obtain⟨t2,rfl⟩:=rx;exact SeqAt.RcAt.bool_int a b t2|str b=>obtain⟨t2,rfl⟩:=rx;exact SeqAt.RcAt.bool_str a b t2|_=>exact absurd (show false=true from fx) qF
 |int a =>
  obtain⟨t,rfl⟩:=ry;cases x with
  |non=>cases rx;exact SeqAt.RcAt.int_none a t|bl b=>cases rx;exact SeqAt.RcAt.int_bool a t b|int b=>obtain⟨t2,rfl⟩:=rx;exact SeqAt.RcAt.int_int a t b t2|str b=>obtain⟨t2,rfl⟩:=rx;exact SeqAt.RcAt.int_str a t b t2|_=>exact absurd (show false=true from fx) qF
 |str a =>
  obtain⟨t,rfl⟩:=ry;cases x with
  |non=>cases rx;exact SeqAt.RcAt.str_none a t|bl b=>cases rx;exact SeqAt.RcAt.str_bool a t b|int b=>obtain⟨t2,rfl⟩:=rx;exact SeqAt.RcAt.str_int a t b t2|str b=>obtain⟨t2,rfl⟩:=rx;exact SeqAt.RcAt.str_str a t b t2|_=>exact absurd (show false=true from fx) qF
 |_=>exact absurd (show false=true from fy) qF
def rcNe_V{A:Around}{y x:V}{u v:Value}(ry:zz y u)(rx:zz x v)(fy:JK y=true)(fx:JK x=true):SeqAt.RcNeAt A s u v (!eqV y x):=by
 cases y with
 |non =>
  cases ry;cases x with
  |non=>cases rx;exact SeqAt.RcNeAt.none_none|bl b=>cases rx;exact SeqAt.RcNeAt.none_bool  b|int b=>obtain⟨t2,rfl⟩:=rx;exact SeqAt.RcNeAt.none_int  b t2|str b=>obtain⟨t2,rfl⟩:=rx;exact SeqAt.RcNeAt.none_str  b t2|_=>exact absurd (show false=true from fx) qF
 |bl a =>
  cases ry;cases x with
  |non=>cases rx;exact SeqAt.RcNeAt.bool_none a|bl b=>cases rx;exact SeqAt.RcNeAt.bool_bool a b|int b=>obtain⟨t2,rfl⟩:=rx;exact SeqAt.RcNeAt.bool_int a b t2|str b=>obtain⟨t2,rfl⟩:=rx;exact SeqAt.RcNeAt.bool_str a b t2|_=>exact absurd (show false=true from fx) qF
 |int a =>
  obtain⟨t,rfl⟩:=ry;cases x with
  |non=>cases rx;exact SeqAt.RcNeAt.int_none a t|bl b=>cases rx;exact SeqAt.RcNeAt.int_bool a t b|int b=>obtain⟨t2,rfl⟩:=rx;exact SeqAt.RcNeAt.int_int a t b t2|str b=>obtain⟨t2,rfl⟩:=rx;exact SeqAt.RcNeAt.int_str a t b t2|_=>exact absurd (show false=true from fx) qF
 |str a =>
  obtain⟨t,rfl⟩:=ry;cases x with
  |non=>cases rx;exact SeqAt.RcNeAt.str_none a t|bl b=>cases rx;exact SeqAt.RcNeAt.str_bool a t b|int b=>obtain⟨t2,rfl⟩:=rx;exact SeqAt.RcNeAt.str_int a t b t2|str b=>obtain⟨t2,rfl⟩:=rx;exact SeqAt.RcNeAt.str_str a t b t2|_=>exact absurd (show false=true from fx) qF
 |_=>exact absurd (show false=true from fy) qF
def rc_ft{A:Around}{d:D}{x:V}{u:Value}{b:Addr}{its:Array Value}(hd:flat d=true)(rx:zz x u)(ex:x=flV d)(hb:s.heap.IsTuple b its)(hu:A.units<cLine):SeqAt.RcAt A s u (.ref b) false:=by
 subst ex;cases d with
 |non=>cases rx;exact SeqAt.RcAt.none_tuple hb hu|bl c=>cases rx;exact SeqAt.RcAt.bool_tuple c hb hu|int c=>obtain⟨t,rfl⟩:=rx;exact SeqAt.RcAt.int_tuple c t hb hu|str c=>obtain⟨t,rfl⟩:=rx;exact SeqAt.RcAt.str_tuple c t hb hu|_=>simp[flat]at hd
def rc_fl{A:Around}{d:D}{x:V}{u:Value}{b:Addr}{its:Array Value}(hd:flat d=true)(rx:zz x u)(ex:x=flV d)(hb:s.heap.IsList b its)(hu:A.units<cLine):SeqAt.RcAt A s u (.ref b) false:=by
 subst ex;cases d with
 |non=>cases rx;exact SeqAt.RcAt.none_list hb hu|bl c=>cases rx;exact SeqAt.RcAt.bool_list c hb hu|int c=>obtain⟨t,rfl⟩:=rx;exact SeqAt.RcAt.int_list c t hb hu|str c=>obtain⟨t,rfl⟩:=rx;exact SeqAt.RcAt.str_list c t hb hu|_=>simp[flat]at hd
def rc_tf{A:Around}{d:D}{x:V}{u:Value}{b:Addr}{its:Array Value}(hd:flat d=true)(rx:zz x u)(ex:x=flV d)(hb:s.heap.IsTuple b its)(hu:A.units<cLine):SeqAt.RcAt A s (.ref b) u false:=by
 subst ex;cases d with
 |non=>cases rx;exact SeqAt.RcAt.tuple_none hb hu|bl c=>cases rx;exact SeqAt.RcAt.tuple_bool c hb hu|int c=>obtain⟨t,rfl⟩:=rx;exact SeqAt.RcAt.tuple_int c t hb hu|str c=>obtain⟨t,rfl⟩:=rx;exact SeqAt.RcAt.tuple_str c t hb hu|_=>simp[flat]at hd
def rc_lf{A:Around}{d:D}{x:V}{u:Value}{b:Addr}{its:Array Value}(hd:flat d=true)(rx:zz x u)(ex:x=flV d)(hb:s.heap.IsList b its)(hu:A.units<cLine):SeqAt.RcAt A s (.ref b) u false:=by
 subst ex;cases d with
 |non=>cases rx;exact SeqAt.RcAt.list_none hb hu|bl c=>cases rx;exact SeqAt.RcAt.list_bool c hb hu|int c=>obtain⟨t,rfl⟩:=rx;exact SeqAt.RcAt.list_int c t hb hu|str c=>obtain⟨t,rfl⟩:=rx;exact SeqAt.RcAt.list_str c t hb hu|_=>simp[flat]at hd
def rn_ft{A:Around}{d:D}{x:V}{u:Value}{b:Addr}{its:Array Value}(hd:flat d=true)(rx:zz x u)(ex:x=flV d)(hb:s.heap.IsTuple b its)(hu:A.units<cLine):SeqAt.RcNeAt A s u (.ref b) true:=by
 subst ex;cases d with
 |non=>cases rx;exact SeqAt.RcNeAt.none_tuple hb hu|bl c=>cases rx;exact SeqAt.RcNeAt.bool_tuple c hb hu|int c=>obtain⟨t,rfl⟩:=rx;exact SeqAt.RcNeAt.int_tuple c t hb hu|str c=>obtain⟨t,rfl⟩:=rx;exact SeqAt.RcNeAt.str_tuple c t hb hu|_=>simp[flat]at hd
def rn_fl{A:Around}{d:D}{x:V}{u:Value}{b:Addr}{its:Array Value}(hd:flat d=true)(rx:zz x u)(ex:x=flV d)(hb:s.heap.IsList b its)(hu:A.units<cLine):SeqAt.RcNeAt A s u (.ref b) true:=by
 subst ex;cases d with
 |non=>cases rx;exact SeqAt.RcNeAt.none_list hb hu|bl c=>cases rx;exact SeqAt.RcNeAt.bool_list c hb hu|int c=>obtain⟨t,rfl⟩:=rx;exact SeqAt.RcNeAt.int_list c t hb hu|str c=>obtain⟨t,rfl⟩:=rx;exact SeqAt.RcNeAt.str_list c t hb hu|_=>simp[flat]at hd
def rn_tf{A:Around}{d:D}{x:V}{u:Value}{b:Addr}{its:Array Value}(hd:flat d=true)(rx:zz x u)(ex:x=flV d)(hb:s.heap.IsTuple b its)(hu:A.units<cLine):SeqAt.RcNeAt A s (.ref b) u true:=by
 subst ex;cases d with
 |non=>cases rx;exact SeqAt.RcNeAt.tuple_none hb hu|bl c=>cases rx;exact SeqAt.RcNeAt.tuple_bool c hb hu|int c=>obtain⟨t,rfl⟩:=rx;exact SeqAt.RcNeAt.tuple_int c t hb hu|str c=>obtain⟨t,rfl⟩:=rx;exact SeqAt.RcNeAt.tuple_str c t hb hu|_=>simp[flat]at hd
def rn_lf{A:Around}{d:D}{x:V}{u:Value}{b:Addr}{its:Array Value}(hd:flat d=true)(rx:zz x u)(ex:x=flV d)(hb:s.heap.IsList b its)(hu:A.units<cLine):SeqAt.RcNeAt A s (.ref b) u true:=by
 subst ex;cases d with
 |non=>cases rx;exact SeqAt.RcNeAt.list_none hb hu|bl c=>cases rx;exact SeqAt.RcNeAt.list_bool c hb hu|int c=>obtain⟨t,rfl⟩:=rx;exact SeqAt.RcNeAt.list_int c t hb hu|str c=>obtain⟨t,rfl⟩:=rx;exact SeqAt.RcNeAt.list_str c t hb hu|_=>simp[flat]at hd
def rcAtD(I:Inv X pins O H s)(n:Nat)(A:Around)(d e:D)(x y:V)(u v:Value)(hd:eqb n d=true)(he:eqb n e=true)(rd:Rep X.K X.mg H d x)(re:Rep X.K X.mg H e y)(rx:zz x u)(ry:zz y v)(hu:A.units+n<cLine):SeqAt.RcAt A s u v (deq d e):=by
 have hu0:A.units<cLine:=by omega
 have item:∀{m:Nat} {ds es:List D} {xs ys:List V} {us vs:List Value},n=m+1->(∀e∈ds,eqb m e=true)->(∀e∈es,eqb m e=true)->Reps X.K X.mg H ds xs->Reps X.K X.mg H es ys->yG xs us->yG ys vs ->
   ∀j (h1:j<us.toArray.size) (h2:j<vs.toArray.size),SeqAt.EqAt A.in1 s us.toArray[j] vs.toArray[j] (deq (ds.getD j .non) (es.getD j .non)):=by
  intro m ds es xs ys us vs hm k1 k2 r1 r2 v1 v2 j h1 h2;have h1':j<us.length:=by simpa using h1
  have h2':j<vs.length:=by simpa using h2
  obtain⟨l1,x1,a1,b1⟩:=Yt r1 v1 h1';obtain⟨l2,x2,a2,b2⟩:=Yt r2 v2 h2';rw[getElem_toArray,getElem_toArray];have m1:ds.getD j .non∈ds:=by rw[getD_eq_getElem?_getD,getElem?_eq_getElem l1];exact getElem_mem l1
  have m2:es.getD j .non∈es:=by rw[getD_eq_getElem?_getD,getElem?_eq_getElem l2];exact getElem_mem l2
  exact eqAtD I m A.in1 _ _ x1 x2 _ _ (k1 _ m1) (k2 _ m2) a1 a2 b1 b2 (by show A.units+1+m<cLine;omega)
 rcases zq hd with fd|⟨m,ds,em,rfl,hds⟩|⟨m,ds,em,rfl,hds⟩
 ·have ex:=zV fd rd
  rcases zq he with fe|⟨m,es,em,rfl,hes⟩|⟨m,es,em,rfl,hes⟩
  ·rw[JE fd fe,<- zV fd rd,<- zV fe re]
   exact rcAt_V rx ry (by rw[zV fd rd];exact yA fd) (by rw[zV fe re];exact yA fe)
  ·obtain⟨b,ys,rfl,p1,p2⟩:=za re
   cases ry;obtain⟨its,_,pl,_⟩:=I.tuple p1;rw[zBu fd];exact rc_ft fd rx ex pl hu0
  ·obtain⟨b,ys,rfl,p1,p2⟩:=zU re
   cases ry;obtain⟨its,_,pl,_⟩:=I.list p1;rw[zBv fd];exact rc_fl fd rx ex pl.isList hu0
 ·obtain⟨a,xs,rfl,q1,q2⟩:=za rd
  cases rx;obtain⟨us,v1,pl1,_⟩:=I.tuple q1;rcases zq he with fe|⟨m',es,em',rfl,hes⟩|⟨m',es,em',rfl,hes⟩
  ·rw[zBw fe];exact rc_tf fe ry (zV fe re) pl1 hu0
  ·have:m=m':=by omega
   subst this;obtain⟨b,ys,rfl,p1,p2⟩:=za re;cases ry;obtain⟨vs,v2,pl2,_⟩:=I.tuple p1;have q:=SeqAt.RcAt.tuples pl1 pl2 hu0 (item em hds hes q2 p2 v1 v2);simp only[deq];rw[wF];have l1:us.toArray.size=ds.length:=by rw[size_toArray,<- v1.length,q2.length]
   have l2:vs.toArray.size=es.length:=by rw[size_toArray,<- v2.length,p2.length]
   rw[l1,l2]at q;exact q
  ·obtain⟨b,ys,rfl,p1,p2⟩:=zU re
   cases ry;obtain⟨vs,v2,pl2,_⟩:=I.list p1;simp only[deq];exact SeqAt.RcAt.tuple_list pl1 pl2.isList hu0
 ·obtain⟨a,xs,rfl,q1,q2⟩:=zU rd
  cases rx;obtain⟨us,v1,pl1,_⟩:=I.list q1;rcases zq he with fe|⟨m',es,em',rfl,hes⟩|⟨m',es,em',rfl,hes⟩
  ·rw[zBx fe];exact rc_lf fe ry (zV fe re) pl1.isList hu0
  ·obtain⟨b,ys,rfl,p1,p2⟩:=za re
   cases ry;obtain⟨vs,v2,pl2,_⟩:=I.tuple p1;simp only[deq];exact SeqAt.RcAt.list_tuple pl1.isList pl2 hu0
  ·have:m=m':=by omega
   subst this;obtain⟨b,ys,rfl,p1,p2⟩:=zU re;cases ry;obtain⟨vs,v2,pl2,_⟩:=I.list p1;have l1:us.toArray.size=ds.length:=by rw[size_toArray,<- v1.length,q2.length]
   have l2:vs.toArray.size=es.length:=by rw[size_toArray,<- v2.length,p2.length]
   simp only[deq];rw[wF];by_cases hl:ds.length=es.length
   ·have q:=SeqAt.RcAt.lists pl1.isList pl2.isList (by rw[l1,l2,hl]) hu0 (item em hds hes q2 p2 v1 v2)
    rw[l1]at q;rw[hl]at q ⊢;simpa using q
   ·have q:=SeqAt.RcAt.lists_lengths (A:=A) pl1.isList pl2.isList (by rw[l1,l2];simpa using hl) hu0
    have e:(ds.length==es.length)=false:=by simpa using hl
    rw[e,Bool.and_false];exact q
def rcNeD(I:Inv X pins O H s)(n:Nat)(A:Around)(d e:D)(x y:V)(u v:Value)(hd:eqb n d=true)(he:eqb n e=true)(rd:Rep X.K X.mg H d x)(re:Rep X.K X.mg H e y)(rx:zz x u)(ry:zz y v)(hu:A.units+n<cLine):SeqAt.RcNeAt A s u v (!deq d e):=by
 have hu0:A.units<cLine:=by omega
 have item:∀{m:Nat} {ds es:List D} {xs ys:List V} {us vs:List Value},n=m+1->(∀e∈ds,eqb m e=true)->(∀e∈es,eqb m e=true)->Reps X.K X.mg H ds xs->Reps X.K X.mg H es ys->yG xs us->yG ys vs ->
   ∀j (h1:j<us.toArray.size) (h2:j<vs.toArray.size),SeqAt.EqAt A.in1 s us.toArray[j] vs.toArray[j] (deq (ds.getD j .non) (es.getD j .non)):=by
  intro m ds es xs ys us vs hm k1 k2 r1 r2 v1 v2 j h1 h2;have h1':j<us.length:=by simpa using h1
  have h2':j<vs.length:=by simpa using h2
  obtain⟨l1,x1,a1,b1⟩:=Yt r1 v1 h1';obtain⟨l2,x2,a2,b2⟩:=Yt r2 v2 h2';rw[getElem_toArray,getElem_toArray];have m1:ds.getD j .non∈ds:=by rw[getD_eq_getElem?_getD,getElem?_eq_getElem l1];exact getElem_mem l1
  have m2:es.getD j .non∈es:=by rw[getD_eq_getElem?_getD,getElem?_eq_getElem l2];exact getElem_mem l2
  exact eqAtD I m A.in1 _ _ x1 x2 _ _ (k1 _ m1) (k2 _ m2) a1 a2 b1 b2 (by show A.units+1+m<cLine;omega)
 rcases zq hd with fd|⟨m,ds,em,rfl,hds⟩|⟨m,ds,em,rfl,hds⟩
 ·have ex:=zV fd rd
  rcases zq he with fe|⟨m,es,em,rfl,hes⟩|⟨m,es,em,rfl,hes⟩
  ·rw[JE fd fe,<- zV fd rd,<- zV fe re]
   exact rcNe_V rx ry (by rw[zV fd rd];exact yA fd) (by rw[zV fe re];exact yA fe)
  ·obtain⟨b,ys,rfl,p1,p2⟩:=za re
   cases ry;obtain⟨its,_,pl,_⟩:=I.tuple p1;rw[zBu fd];exact rn_ft fd rx ex pl hu0
  ·obtain⟨b,ys,rfl,p1,p2⟩:=zU re
   cases ry;obtain⟨its,_,pl,_⟩:=I.list p1;rw[zBv fd];exact rn_fl fd rx ex pl.isList hu0
 ·obtain⟨a,xs,rfl,q1,q2⟩:=za rd
  cases rx;obtain⟨us,v1,pl1,_⟩:=I.tuple q1;rcases zq he with fe|⟨m',es,em',rfl,hes⟩|⟨m',es,em',rfl,hes⟩
  ·rw[zBw fe];exact rn_tf fe ry (zV fe re) pl1 hu0
  ·have:m=m':=by omega
   subst this;obtain⟨b,ys,rfl,p1,p2⟩:=za re;cases ry;obtain⟨vs,v2,pl2,_⟩:=I.tuple p1;have q:=SeqAt.RcNeAt.tuples pl1 pl2 hu0 (item em hds hes q2 p2 v1 v2);simp only[deq];rw[wF];have l1:us.toArray.size=ds.length:=by rw[size_toArray,<- v1.length,q2.length]
   have l2:vs.toArray.size=es.length:=by rw[size_toArray,<- v2.length,p2.length]
   rw[l1,l2]at q;exact q
  ·obtain⟨b,ys,rfl,p1,p2⟩:=zU re
   cases ry;obtain⟨vs,v2,pl2,_⟩:=I.list p1;simp only[deq];exact SeqAt.RcNeAt.tuple_list pl1 pl2.isList hu0
 ·obtain⟨a,xs,rfl,q1,q2⟩:=zU rd
  cases rx;obtain⟨us,v1,pl1,_⟩:=I.list q1;rcases zq he with fe|⟨m',es,em',rfl,hes⟩|⟨m',es,em',rfl,hes⟩
  ·rw[zBx fe];exact rn_lf fe ry (zV fe re) pl1.isList hu0
  ·obtain⟨b,ys,rfl,p1,p2⟩:=za re
   cases ry;obtain⟨vs,v2,pl2,_⟩:=I.tuple p1;simp only[deq];exact SeqAt.RcNeAt.list_tuple pl1.isList pl2 hu0
  ·have:m=m':=by omega
   subst this;obtain⟨b,ys,rfl,p1,p2⟩:=zU re;cases ry;obtain⟨vs,v2,pl2,_⟩:=I.list p1;have l1:us.toArray.size=ds.length:=by rw[size_toArray,<- v1.length,q2.length]
   have l2:vs.toArray.size=es.length:=by rw[size_toArray,<- v2.length,p2.length]
   simp only[deq];rw[wF];by_cases hl:ds.length=es.length
   ·have q:=SeqAt.RcNeAt.lists pl1.isList pl2.isList (by rw[l1,l2,hl]) hu0 (item em hds hes q2 p2 v1 v2)
    rw[l1]at q;rw[hl]at q ⊢;simpa using q
   ·have q:=SeqAt.RcNeAt.lists_lengths (A:=A) pl1.isList pl2.isList (by rw[l1,l2];simpa using hl) hu0
    have e:(ds.length==es.length)=false:=by simpa using hl
    rw[e,Bool.and_false];exact q
end
section
variable{X:Cx}{K:qH}{mg:Str->Option Value}
def rEqD(K:qH)(mg:Str->Option Value)(neg:Bool):R2:=λx y H Q=>∃d e,eqb 20 d=true/\eqb 20 e=true/\Rep K mg H d x/\Rep K mg H e y/\Q (.bl (if neg then !deq d e else deq d e)) H
def zFL(hu:X.A.units+20<cLine):OpR X (compareOp .Eq) (rEqD X.K X.mg false):=by
 intro pins s O H x y v u Q I rx ry h;obtain⟨d,e,h1,h2,r1,r2,q⟩:=h;exact rcAtD I 20 X.A d e x y v u h1 h2 r1 r2 rx ry hu X.prog X.w _ _ ⟨.bl (deq d e),H,I,rfl,q⟩
def zFM(hu:X.A.units+20<cLine):OpR X (compareOp .NotEq) (rEqD X.K X.mg true):=by
 intro pins s O H x y v u Q I rx ry h;obtain⟨d,e,h1,h2,r1,r2,q⟩:=h;exact rcNeD I 20 X.A d e x y v u h1 h2 r1 r2 rx ry hu X.prog X.w _ _ ⟨.bl (!deq d e),H,I,rfl,q⟩
def eqDD(neg:Bool)(d e:D):Option R:=if eqb 20 d=true/\eqb 20 e=true then some (.v (.bl (if neg then !deq d e else deq d e)))else none
def zFN{neg:Bool}:ROk K mg (rEqD K mg neg) (eqDD neg):=by
 intro M H Z x y d1 d2 res Q f r1 r2 e k;unfold eqDD at e;split at e
 ·rename_i hc
  cases e;exact⟨d1,d2,hc.1,hc.2,r1.mono zE,r2.mono zE,k.flat f rfl⟩
 ·cases e
end
end DV
namespace L2
open PySem PySem.Spec PyProof.Rows
section
variable{X:Cx}
def Qy{ns:List Int}{its:List Value}(rv:yG (ns.map V.int) its)(i:Nat)(v:Value)(hv:its.toArray[i]?=some v):∃t,v=.int (ns.getD i 0) t:=by
 have hv':its[i]?=some v:=by simpa using hv
 have hi:i<its.length:=(qG.mp hv').1;have hl:=rv.length;have hx:i<(ns.map V.int).length:=by rw[hl];exact hi
 obtain⟨u',e1,e2⟩:=rv.get (i:=i) (x:=(ns.map V.int)[i]) (by simp[hx]);rw[hv']at e1;cases e1;rw[length_map]at hx;rw[List.getElem_map]at e2;obtain⟨t,e⟩:=(show ∃t,v=.int (ns[i]) t from e2);exact⟨t,by rw[e];simp[hx]⟩
def maxAt(ns:List Int):Int:=ns.getD (argBest (λi j=>decide (ns.getD i 0 > ns.getD j 0)) (ns.length-1)) 0
theorem Z8(ns:List Int):∀k,k<=ns.length->preSum (λi=>ns.getD i 0) k=(ns.take k).sum
 |0,_=>by simp[preSum]
 |k+1,h=>by
  have hk:k<ns.length:=by omega
  rw[preSum,Z8 ns k (by omega),take_add_one,getElem?_eq_getElem hk,sum_append];simp[hk]
def zBy(hc:X.calm=true):j9 X (.builtin "sum") (λxs H Q=>∃(p:Addr) (ns:List Int),xs=[.ref p]/\SqL X.K H p (ns.map V.int)/\Q (.int ns.sum) H):=by
 intro pins s O H xs us Q I r h;obtain⟨p,ns,rfl,hq,q⟩:=h;obtain⟨u,rfl,rx⟩:=vF r;cases rx;obtain⟨its,rv,pl,hz⟩:=I.list hq;have hlen:its.length=ns.length:=by rw[<- rv.length,length_map]
 have hp:p<s.heap.objs.size:=by obtain⟨o,n,e,_⟩:=pl;exact lt_size e
 have hk:∀b o,s.heap.get? b=some o->(s.heap.push {cls:=.type "list_iterator",data:=.fields #[.ref p,.int 0 0]}).get? b=some o:=λb o e=>qA _ e
 refine call_sum_walkAnyS (wpAny_pyIter_list pl.isList ?_);refine⟨s.heap.objs.size,[s.heap.objs.size,p],[s.heap.objs.size],_,its.toArray.size,_,_,λi=>ns.getD i 0,rfl,
  (Walks.list (by show X.A.handled=none;exact I.ok.hd hc) _ p (ne_of_lt hp) its.toArray).toS,⟨⟨_,get?_push_size _ rfl,rfl,rfl⟩,?_⟩,?_,Qy rv,?_⟩
 ·obtain⟨o,e,c⟩:=pl.isList
  exact⟨o,hk _ _ e,c⟩
 ·intro b hb
  rw[size_push];rcases mem_cons.mp hb with rfl|hb
  ·exact Nat.lt_succ_self _
  ·have:b=p:=by simpa using hb
   subst this;exact lt_succ_of_lt hp
 ·intro s' t' mv
  rw[size_toArray,hlen,Z8 ns _ (le_refl _),take_length];obtain⟨h',g',d',tk,o'⟩:=s';have e1:g'=s.gens:=mv.gens;have e2:d'=s.drawn:=mv.drawn;have e3:o'=s.os:=mv.os;subst e1 e2 e3;exact⟨.int ns.sum,H,I.kept (t':=tk) λb o eb=>mv.heap b o (λm=>by
   have:b=s.heap.objs.size:=by simpa using m
   subst this;exact absurd (lt_size eb) (lt_irrefl _)) (hk b o eb),⟨_,rfl⟩,q⟩
def zBz(hc:X.calm=true):j9 X (.builtin "sum") (λxs H Q=>∃(p:Addr) (ns:List Int),xs=[.ref p]/\SqT X.K H p (ns.map V.int)/\Q (.int ns.sum) H):=by
 intro pins s O H xs us Q I r h;obtain⟨p,ns,rfl,hq,q⟩:=h;obtain⟨u,rfl,rx⟩:=vF r;cases rx;obtain⟨its,rv,pl,hz⟩:=I.tuple hq;have hlen:its.length=ns.length:=by rw[<- rv.length,length_map]
 have hp:p<s.heap.objs.size:=by obtain⟨o,e,_⟩:=pl;exact lt_size e
 have hk:∀b o,s.heap.get? b=some o->(s.heap.push {cls:=.type "tuple_iterator",data:=.fields #[.ref p,.int 0 0]}).get? b=some o:=λb o e=>qA _ e
 refine call_sum_walkAnyS (wpAny_pyIter_tuple (show s.heap.IsTuple p its.toArray from pl) ?_);refine⟨s.heap.objs.size,[s.heap.objs.size,p],[s.heap.objs.size],_,its.toArray.size,_,_,λi=>ns.getD i 0,rfl,
  (Walks.tuple (by show X.A.handled=none;exact I.ok.hd hc) _ p (ne_of_lt hp) its.toArray).toS,⟨⟨_,get?_push_size _ rfl,rfl,rfl⟩,?_⟩,?_,Qy rv,?_⟩
 ·obtain⟨o,e,c⟩:=pl
  exact⟨o,hk _ _ e,c⟩
 ·intro b hb
  rw[size_push];rcases mem_cons.mp hb with rfl|hb
  ·exact Nat.lt_succ_self _
  ·have:b=p:=by simpa using hb
   subst this;exact lt_succ_of_lt hp
 ·intro s' t' mv
  rw[size_toArray,hlen,Z8 ns _ (le_refl _),take_length];obtain⟨h',g',d',tk,o'⟩:=s';have e1:g'=s.gens:=mv.gens;have e2:d'=s.drawn:=mv.drawn;have e3:o'=s.os:=mv.os;subst e1 e2 e3;exact⟨.int ns.sum,H,I.kept (t':=tk) λb o eb=>mv.heap b o (λm=>by
   have:b=s.heap.objs.size:=by simpa using m
   subst this;exact absurd (lt_size eb) (lt_irrefl _)) (hk b o eb),⟨_,rfl⟩,q⟩
def zAY(a:Int)(t:Tok)(l:Addr)(its:Array Value)(n:Nat)(dd:Option Addr)(sl:Array (Option Value)) :
  Meets (Builtin.«int.__rmul__» ⟨[.int a t,.ref l],[]⟩) (λ_ R s=>s.heap.get? l=some {cls:=.type "list",dict:=dd,data:=.seq its n,slots:=sl}/\R (.ok (.ret Value.notImplemented)) s) :=
 .of_wp λprog w A R s h=>by
  obtain⟨hp,g,d,tk,os⟩:=s;obtain⟨hl,h⟩:=h
  wp_walk
  exact⟨_,rfl,h⟩
def zB0(l:Addr)(its:Array Value)(n:Nat)(dd:Option Addr)(sl:Array (Option Value))(k:Int)(u:Tok)(h0:¬(!Builtin.List.listFitsIndex k)=true)(h1:¬its.size*k.toNat > (2^63-1)/8)(h2:¬Builtin.List.listTooLong (its.size*k.toNat)=true) :
  Meets (Builtin.«list.__mul__» ⟨[.ref l,.int k u],[]⟩) (λ_ R s=>s.heap.get? l=some {cls:=.type "list",dict:=dd,data:=.seq its n,slots:=sl} /\
   R (.ok (.ret (Value.ref s.heap.objs.size))) {s with heap:=s.heap.push {cls:=Value.type "list",data:=Data.seq (foldl (λa b=>a++b) #[] (replicate (if its.isEmpty=true then 0 else k.toNat) its))},toks:=s.toks}) :=
 .of_wp λprog w A R s h=>by
  obtain⟨hp,g,d,tk,os⟩:=s;obtain⟨hl,h⟩:=h;have fits:=AutoListH.joined_fits h2
  wp_walk
  refine wpAny_ite_false (decide_eq_false (not_lt.mpr fits)) ?_
  wp_walk
  exact⟨_,rfl,h⟩
def rRepL(K:qH):R2:=λx y H Q=>∃l k xs,x=.ref l/\y=.int k/\SqL K H l xs/\-(2^63)<=k/\k<2^63/\xs.length*k.toNat<=sizeLine /\
 ∀p,H p=none->Q (.ref p) (upd H p (.l (replicate k.toNat xs).flatten))
def op_repL:OpR X (binaryOp .Mult) (rRepL X.K):=by
 intro pins s O H x y v u Q I rx ry h;obtain⟨l,k,xs,rfl,rfl,hH,h1,h2,hz,q⟩:=h;cases rx;obtain⟨t,rfl⟩:=ry;obtain⟨its,r,pl,_⟩:=I.list hH;have hl:=r.length;obtain⟨⟨cls,dd,data,sl⟩,n,ho,hc,hdd,hd⟩:=pl;simp only at hc hd;subst hc hd;have hlen:its.toArray.size*k.toNat<=sizeLine:=by rw[size_toArray,<- hl];exact hz
 have c1:¬its.toArray.size*k.toNat > (2^63-1)/8:=by
  have:(sizeLine:Nat)<=(2^63-1)/8:=by decide
  omega
 have c2:¬(!Builtin.List.listFitsIndex k)=true:=by rw[fitsIndex_both h1 h2];exact qF
 have c3:¬Builtin.List.listTooLong (its.toArray.size*k.toNat)=true:=by rw[zDQ hlen];exact qF
 have hnew:foldl (λa b=>a++b) #[] (replicate (if its.toArray.isEmpty=true then 0 else k.toNat) its.toArray)=(replicate k.toNat its).flatten.toArray:=by
  have f0:∀m:Nat,foldl (λa b=>a++b) #[] (replicate m its.toArray)=(replicate m its).flatten.toArray:=λm=>by
   have:=Zk its m [];rw[nil_append]at this;exact this
  rw[f0];cases its with
  |nil=>simp|cons a r'=>rw[if_neg (by simp)]
 refine wpAny_binaryOp_repeat_ref (T:="list") (U:="int") (by decide) ⟨_,ho,rfl⟩ (λs'=>typeIs_int s' k t) noFill_list_mul F.fills_int_mul F.slot_int_rmul repeat_list F.slot_int_index.lookup
  (call_meets F.slot_int_rmul (typeIs_int s k t) F.entry_int_rmul (F.args_int_rmul_2 _ _) (zAY k t l its.toArray n dd sl) ⟨ho,rfl,⟨_,ho,rfl⟩,?_⟩)
 refine call_meets F.slot_list_mul ⟨_,ho,rfl⟩ F.entry_list_mul (F.args_list_mul_2 _ _) (zB0 l its.toArray n dd sl k t c2 c1 c3) ⟨ho,?_⟩;rw[hnew];exact⟨.ref _,_,I.lnew (t':=s.toks) (r.rep k.toNat) (by rw[Gf,mul_comm];exact hz),rfl,q _ I.fresh⟩
def isV:V->V->Option Bool
 | .non,.non=>some true| .non,.bl _=>some false| .bl _,.non=>some false| .bl a,.bl b=>some (a==b)| .non,.int _=>some false| .int _,.non=>some false| .non,.str _=>some false| .str _,.non=>some false| .ref _,.non=>some false| .non,.ref _=>some false| .ref _,.bl _=>some false| .bl _,.ref _=>some false| .int _,.bl _=>some false| .bl _,.int _=>some false| .str _,.bl _=>some false| .bl _,.str _=>some false|_,_=>none
end
end L2
namespace DV
open PySem PySem.W PyProof.Rows
variable{κ:Nat->Int}
def ev(κ:Nat->Int){α:Type}:KasT α->α
 | .ret a=>a| .ask i j k=>ev κ (k (decide (κ i<κ j)))
def getD_q(p:Array Nat)(t:Nat):p.getD t 0=(p[t]?).getD 0:=by simp
end DV
namespace L2
open PySem PySem.Spec PyProof.Rows PySem.W
end L2
namespace DV
open PySem L2 PyProof.Rows PySem.W
end DV
namespace L2
open PySem PySem.Spec PyProof.Rows
end L2
namespace DV
open PySem L2
section
variable{X:Cx}{K:qH}{mg:Str->Option Value}
def call_or{f:Value}{r r':List V->Hp->VK->Prop}(h:j9 X f r)(h':j9 X f r'):j9 X f (λxs H Q=>r xs H Q\/r' xs H Q):=by
 intro pins s O H xs us Q I rv q;rcases q with q|q
 ·exact h pins s O H xs us Q I rv q
 ·exact h' pins s O H xs us Q I rv q
def eqG(d e:D):Option R:=match eqF d e with
 |some r=>some r|none=>eqDD false d e
def neG(d e:D):Option R:=match neF d e with
 |some r=>some r|none=>eqDD true d e
def zFO:ROk K mg (λx y H Q=>rEq x y H Q\/rEqD K mg false x y H Q) eqG:=by
 intro M H Z x y d1 d2 res Q f r1 r2 e k;unfold eqG at e;cases h:eqF d1 d2 with
 |some r=>rw[h]at e;cases e;exact .inl (ro_eq M H Z x y d1 d2 res Q f r1 r2 h k)|none=>rw[h]at e;exact .inr (zFN M H Z x y d1 d2 res Q f r1 r2 e k)
def zFP:ROk K mg (λx y H Q=>rNe x y H Q\/rEqD K mg true x y H Q) neG:=by
 intro M H Z x y d1 d2 res Q f r1 r2 e k;unfold neG at e;cases h:neF d1 d2 with
 |some r=>rw[h]at e;cases e;exact .inl (ro_ne M H Z x y d1 d2 res Q f r1 r2 h k)|none=>rw[h]at e;exact .inr (zFN M H Z x y d1 d2 res Q f r1 r2 e k)
def um(d e:D):Option R:=match Wy d e with
 |some r=>some r
 |none=>match d,e with
  | .l a,.int k=>if -(2^63)<=k/\k<2^63/\a.length*k.toNat<=cap then some (.own (replicate k.toNat a).flatten)else none|_,_=>none
def ro_mulG:ROk K mg (λx y H Q=>rMulD K x y H Q\/rRepL K x y H Q) um:=by
 intro M H Z x y d1 d2 res Q f r1 r2 e k;unfold um at e;cases h:Wy d1 d2 with
 |some r=>rw[h]at e;cases e;exact .inl (ro_mul M H Z x y d1 d2 res Q f r1 r2 h k)
 |none =>
  rw[h]at e;cases d1 with
  |l a =>
   cases d2 with
   |int n =>
    dsimp only at e;split at e
    ·rename_i hc
     cases e;obtain⟨p,xs,rfl,h1,h2⟩:=zU r1;rw[zK r2];exact .inr ⟨p,n,xs,rfl,rfl,zE.seq h1,hc.1,hc.2.1,by rw[h2.length];exact wa hc.2.2,λq hq=>k.own f hq (h2.flatten _)⟩
    ·cases e
   |_=>cases e
  |_=>cases e
def Jr:List D->Option (List Int)
 | []=>some []| .int i::ds=>(Jr ds).map (i::·)|_::_=>none
theorem JF{H:Hp}:∀{ds:List D} {xs:List V} {ns:List Int},Jr ds=some ns->Reps K mg H ds xs->xs=ns.map V.int
 | [],_,_,e,h=>by cases e;simp only[Reps]at h;subst h;rfl
 |d::ds,_,ns,e,h=>by
  simp only[Reps]at h;obtain⟨v,r,rfl,h1,h2⟩:=h;cases d with
  |int i =>
   simp only[Jr]at e;cases eb:Jr ds with
   |none=>rw[eb]at e;cases e
   |some cs =>
    rw[eb]at e;cases e;rw[zK h1,JF eb h2];rfl
  |_=>cases e
def maxG:List D->Option R
 | [.int i,.int j]=>zBe [.int i,.int j]
 | [.l ds]=>match Jr ds with
  |some ns=>if 0<ns.length then some (.v (.int (maxAt ns)))else none|none=>none
 |_=>none
def zFQ:List D->Option R
 | [.l ds]=>(Jr ds).map λns=>.v (.int ns.sum)| [.t ds]=>(Jr ds).map λns=>.v (.int ns.sum)|_=>none
def co_sumG:COk K mg (λxs H Q=>(∃(p:Addr) (ns:List Int),xs=[.ref p]/\SqL K H p (ns.map V.int)/\Q (.int ns.sum) H)\/∃(p:Addr) (ns:List Int),xs=[.ref p]/\SqT K H p (ns.map V.int)/\Q (.int ns.sum) H) zFQ:=by
 intro M H Z xs ds res Q f r e k
 match ds,e with
 | [.l ds],e =>
  simp only[zFQ]at e;cases hi:Jr ds with
  |none=>rw[hi]at e;cases e
  |some ns =>
   rw[hi]at e;cases e;obtain⟨v,rfl,h⟩:=YM r;obtain⟨p,ys,rfl,h1,h2⟩:=zU h;rw[JF hi h2]at h1;exact .inl ⟨p,ns,rfl,zE.seq h1,k.flat f rfl⟩
 | [.t ds],e =>
  simp only[zFQ]at e;cases hi:Jr ds with
  |none=>rw[hi]at e;cases e
  |some ns =>
   rw[hi]at e;cases e;obtain⟨v,rfl,h⟩:=YM r;obtain⟨p,ys,rfl,h1,h2⟩:=za h;rw[JF hi h2]at h1;exact .inr ⟨p,ns,rfl,zH zE h1,k.flat f rfl⟩
def absG:List D->Option R
 | [.int i]=>some (.v (.int (if i<0 then -i else i)))|_=>none
def co_absG:COk K mg (λxs H Q=>∃i,xs=[.int i]/\Q (.int (if i<0 then -i else i)) H) absG:=by
 intro M H Z xs ds res Q f r e k
 match ds,e with
 | [.int i],e =>
  cases e;obtain⟨v,rfl,h⟩:=YM r;exact⟨i,by rw[zK h],k.flat f rfl⟩
end
section
variable{X:Cx}{O:St}{H:Hp}
def sTup(is:List Nat)(m:ME):MS:=λE=>match m E with
 | .z=>.z| .exc x E1=>.exc x E1
 | .ok (r,E1)=>match gT is r.d E1 with
  | .ok E2=>.ok (.nx,E2)|_=>.z
def zDz{is:List Nat}{m:ME}{D:Ends}(h:tS X (sTup is m) D O H):zE0 (tM X m) (gTup X.K is.length (Jp is)) D O H:=by
 obtain⟨M,E,hl,fr,k⟩:=h;unfold sTup at k;refine ze (T0:=[]) hl fr ?_;cases ea:m E with
 |z=>rw[ea]at k;exact k|exc x E1=>rw[ea]at k;exact λH' g=>k O H' g
 |ok p =>
  obtain⟨r,E1⟩:=p;rw[ea]at k;intro v H1 g;dsimp only at k;cases eg:gT is r.d E1 with
  |z=>rw[eg]at k;exact k.elim|exc _ _=>rw[eg]at k;exact k.elim
  |ok E2 =>
   rw[eg]at k;have g0:=g.dropAll;exact zFF (X:=X) is rfl M O E1 H1 [] v r.d E2 _ g0.len (FR.add g0.frame g.rep) eg λO' g'=>k O' H1 (g0.trans' g')
def sk_tup{is:List Nat}{es:List Expr}{e:Expr}{m:ME}{k:Nat}{p pos:Pos}(hg:PG X (.Tuple es k p) (gTup X.K is.length (Jp is)))(he:EOk X e m)(hs:swapsWithSole [.Tuple es k p] e pos.line X.env=pure false)(hw:swappedStores [.Tuple es k p] e X.env=pure none):SOk X (.Assign [.Tuple es k p] e pos) (sTup is m) :=
 yW (zAv he hg hs hw) λD O H=>zDz
def sPar(i j:Nat)(m:MA):MS:=λE=>match m E with
 | .z=>.z| .exc x E1=>.exc x E1
 | .ok ([r1,r2],E1)=>match gNs [i,j] [r1.d,r2.d] E1 with
  | .ok E2=>.ok (.nx,E2)|_=>.z
 |_=>.z
def zD0{i j:Nat}{m:MA}{D:Ends}(h:tS X (sPar i j m) D O H):tPar i j (tMA X m) D O H:=by
 obtain⟨M,E,hl,fr,k⟩:=h;unfold sPar at k;refine Jk (T0:=[]) hl fr ?_;cases ea:m E with
 |z=>rw[ea]at k;exact k|exc x E1=>rw[ea]at k;exact λH' g=>k O H' g
 |ok p =>
  obtain⟨rs,E1⟩:=p;rw[ea]at k
  match rs,k with
  | [r1,r2],k =>
   intro vs H1 hv g;dsimp only at k;cases eg:gNs [i,j] [r1.d,r2.d] E1 with
   |z=>rw[eg]at k;exact k.elim|exc _ _=>rw[eg]at k;exact k.elim
   |ok E2 =>
    rw[eg]at k
    match vs,hv with
    | [v,w],_ =>
     have rp:=Got.reps rfl g;have g0:=g.dropAll;have q:=Zz (X:=X) [i,j] [r1.d,r2.d] [v,w] (a:=0) (ts:=[]) (Q:=D.nx) (Got.refl (T0:=[]) g0.len g0.fr) rp eg λO' g'=>k O' H1 (g0.trans' g')
     obtain⟨v1,rr,e1,v2,rr2,e2,e3,q⟩:=q;cases e1;cases e2;exact⟨v,w,rfl,q⟩
  | [],k=>exact k.elim| [_],k=>exact k.elim|_::_::_::_,k=>exact k.elim
def sk_any{st:Stmt}:SOk X st (λ_=>.z):=yW zDG λD O H ⟨M,E,hl,fr,k⟩=>k
end
section
variable{X:Cx}{pins:List (Addr×Obj)}{O:L2.St}{H:Hp}{s:Shared}
def zB1(I:Inv X pins O H s){a:Addr}(h:s.heap.get? a=none):H a=none:=by
 cases q:H a with
 |none=>rfl|some o=>obtain⟨u,e⟩:=Qi (I.hok a o q);rw[h]at e;cases e
def sRaise(c:Str):MS:=λE=>.exc ⟨c,true,[]⟩ E
def zD1{c:Str}{C:Addr}{np cpos pos:Pos}(hc:X.calm=true)(hg:Gl X c)(hm:X.mg c=some (.ref C))(q:excIn X.K C VB "ValueError.__new__"=true)(hd:(c==("__debug__":Str))=false):SOk X (.Raise (some (.Call (.Name c np) [] [] cpos)) none pos) (sRaise c):=by
 intro pins s O H D I ⟨M,E,hl,fr,k⟩;have k':XE X O H ⟨c,true,[]⟩:=k O H (Got.refl (T0:=[]) hl fr);obtain⟨bm,N,nm,qn,bs,hdct,sn,sub,ab,col,dd,k0,k1,k2,k3,k5,mN,hC,hN,hni,T⟩:=own_at I.kIn q;refine wpAny_Raise_call_subT (nm:=nm) (q:=qn) (C:=C) (N:=N) (bs:=bs) (bm:=bm) (hdct:=hdct) (sn:=sn) (sub:=sub) (ab:=ab) (col:=col) (dd:=dd) (k0:=k0) (k1:=k1) (k2:=k2) (k3:=k3) (k5:=k5) PySem.F.excBase_ValueError (T.hasType (by decide +kernel)) (I.ok.hd hc) rfl hni (vE I hg hm ⟨rfl,?_⟩ hd);refine qC ⟨rfl,zero_le _,hC,hN,T,λh' e hx=>?_⟩;refine k' pins _ _ (I.kept hx.keeps) ⟨e,C,none,rfl,hm,zB1 I hx.new,.inl rfl,.inl ⟨rfl,s,I,rfl,MadeD.of hx⟩⟩
def zB2{A:Around}{M:Model}{E:Value->Shared->Prop}{i:Nat}{x:Str}{v:V}{Q:Unit->Shared->Prop}(I:Inv X pins O H s)(hN:X.N.Nodup)(hi:X.N[i]?=some x)(hx:X.env.scope.names.lookup x=some .local)(hv:O[i]?=some (some v))
  (h:∀s',Inv X pins (O.set i none) H s'->Q () s'):wpAny M A (unbindName X.env x) Q E s:=by
 obtain⟨m,hn,hl⟩:=id I.loc;have hcls:(X.env.scope.kind==.class||(X.env.scope.kind==.module&&X.env.locals != X.env.globals))=false:=by rw[I.ok.kind];rfl
 obtain⟨u,_,lk⟩:=hl i x v hi hv (.inl hx);have hm:m x=some u:=by
  rcases lk with⟨_,e⟩|⟨z,_⟩
  ·exact e
  ·have z':X.env.scope.names.lookup x=some .cell\/X.env.scope.names.lookup x=some .free:=z
   rcases z' with z'|z'<;>(rw[hx]at z';cases z')
 refine wpAny_unbindName_local hx hn hm hcls λh' u' hn' hs=>?_
 obtain⟨oL,_,_,hoL,_⟩:=id hn;have keep:∀b,b≠X.env.locals->h'.get? b=s.heap.get? b:=λb hb=>hs.2 b hb
 have neL:∀b o,X.s₀.heap.get? b=some o->b≠X.env.locals:=λb o e=>ne_of_lt (lt_of_lt_of_le (lt_size e) I.ok.above)
 refine h _ ⟨I.ok,I.os,I.bare,⟨λb o e n hb hx=>(keep b (neL b o e)).trans (I.base.keep b o e n hb hx),λb o e n hb hx=>?_,I.base.free,λb o e hx=>?_,I.base.tups,I.base.frzs,I.base.tbls⟩,⟨_,hn',λj y v' e1 e2 e3=>?_⟩,λy c e=>?_,I.free,I.freeC,λp hp=>?_,λb o e=>?_,by simpa using I.len⟩
 ·obtain⟨sl,q⟩:=I.base.slot b o e n hb hx
  exact⟨sl,(keep b (neL b o e)).trans q⟩
 ·obtain⟨o',q⟩:=I.base.there b o e hx
  exact⟨o',(keep b (neL b o e)).trans q⟩
 ·have hiO:i<O.length:=(qG.mp hv).1
  have hj:j≠i:=λz=>by
   subst z;rw[getElem?_set_self hiO]at e2;cases e2
  rw[getElem?_set_ne (Ne.symm hj)]at e2;obtain⟨u2,r2,q⟩:=hl j y v' e1 e2 e3;refine⟨u2,r2,?_⟩;rcases q with⟨k,e⟩|⟨k,c,e,z⟩
  ·have ny:y≠x:=λe=>hj (vA hN e1 (e▸hi))
   exact .inl ⟨k,by simp[ny,e]⟩
  ·exact .inr ⟨k,c,e,z.sameBut hs (I.cne y c e)⟩
 ·obtain⟨w',z⟩:=I.cell y c e
  exact⟨w',z.sameBut hs (I.cne y c e)⟩
 ·obtain⟨e,n,ne,nf,d⟩:=I.pin p hp
  exact⟨(keep p.1 ne).trans e,n,ne,nf,d⟩
 ·refine(I.hok b o e).stay (λc w' hc q=>(keep c λz=>?_).trans q) (λ_ q=>q) λ_ _ q=>q
  subst z;rcases hc with rfl|hc
  ·rw[I.free]at e;cases e
  ·rw[I.free]at hc;cases hc
def zB3{sc:Shared}{Hc:Hp}{B:Heap}{a C:Addr}{t:Value}{h6:Heap}(I:Inv X pins O H s)(Ic:Inv X pins O Hc sc)(un:Un (frs X.stack) [] Hc H sc.heap s.heap)(fl:Heap.FlyingW B X.stack a (.ref C) t s.heap)(kb:zC8 B H sc.heap (frs X.stack) s.heap)(hn:H a=none)
  (fl6:Heap.FlyingW B X.stack a (.ref C) t h6) (sl:s.heap.UpToSlots h6) {oX:HO} (hX:yu X.prog X.w (upd H a oX) h6 a oX):Inv X pins O (upd H a oX) {s with heap:=h6}:=by
 obtain⟨oe,vs,he,hec,hed,_⟩:=fl.first;have naf:a∉frs X.stack:=λz=>by
  obtain⟨_,o,q,nd⟩:=I.stack.mem z;rw[he]at q;cases q;exact nd vs hed
 have nac:sc.heap.get? a=none:=by
  cases q:sc.heap.get? a with
  |none=>rfl
  |some o =>
   have:=kb a oe he (.inl ⟨o,q⟩) naf;rw[fl.2.1]at this;cases this
 have kb':zC8 B H sc.heap (a::frs X.stack) s.heap:=λb o e z nf=>kb b o e z λq=>nf (qD _ q)
 have hN:∀b∈a::frs X.stack,H b=none:=λb hb=>by
  rcases mem_cons.mp hb with rfl|hb
  ·exact hn
  ·exact I.stkFree b hb
 have hfs:∀b∈frs X.stack,∀o,s.heap.get? b=some o->∃sl,h6.get? b=some {o with slots:=sl}:=λb hb o e=>by
  obtain⟨_,o',q,nd⟩:=I.stack.mem hb;rw[e]at q;cases q;exact sl b o e nd
 have u6:=un_on un I.hok kb' fl6.1 nac hfs;have ok6:HOk X.prog X.w H h6:=zBM I.hok kb' fl6.1 hN;have ne:∀{b:Addr} {o:HO},H b=some o->b≠a:=λ{b o} e z=>by subst z;rw[hn]at e;cases e
 refine Ic.call' (s':={s with heap:=h6}) (ch:=[]) (I.os.trans Ic.os.symm) ?_ (λb o e=>?_) I.bare (λb z=>absurd z (by simp))
 ·exact⟨u6.keep,u6.slot,λb o e n hx=>by
   have:b≠a:=λz=>by subst z;rw[nac]at e;cases e
   rw[zc this];exact u6.free b o e n hx,u6.there,λb xs e=>by have q:=u6.tups b xs e;rw[zc (ne q)];exact q,λb o u e=>by have q:=u6.frzs b o u e;rw[zc (ne q)];exact q,λb ps e=>by obtain⟨m,q⟩:=u6.tbls b ps e;exact⟨m,by rw[zc (ne q)];exact q⟩⟩
 ·by_cases hb:b=a
  ·subst hb
   rw[yY]at e;cases e;exact hX
  ·rw[zc hb]at e
   exact(ok6 b o e).stay (λc w' _ q=>q) (λc q=>by rw[zc (ne q)];exact q) λc xs q=>by rw[zc (ne q)];exact q
abbrev trX(X:Cx)(pn:List (Addr×Obj))(E:Value->Shared->Prop):Cx:={X with pn:=pn,xe:=E}
abbrev hdX(X:Cx)(a:Addr):Cx:={X with A:=X.A.mark (some (.ref a)),calm:=false,xe:=λ_ _=>False}
def inv_tr(I:Inv X pins O H s)(E:Value->Shared->Prop):Inv (trX X (X.pn++pins) E) [] O H s :=
 ⟨⟨I.ok.mod,I.ok.kind,I.ok.glob,I.ok.blt,I.ok.above,I.ok.inj,I.ok.has,I.ok.cab,I.ok.hd,I.ok.frames,I.ok.stk,I.ok.exf,I.ok.bs,I.ok.bsz,I.ok.noex,I.ok.exfs,I.ok.funs,I.ok.frf⟩,I.os,I.bare,I.base,I.loc,I.cell,I.free,I.freeC,λp hp=>I.pin p (by simpa using hp),I.hok,I.len⟩
def JG{pins':List (Addr×Obj)}{E:Value->Shared->Prop}(I:Inv (trX X (X.pn++pins) E) pins' O H s):Inv X pins O H s :=
 ⟨⟨I.ok.mod,I.ok.kind,I.ok.glob,I.ok.blt,I.ok.above,I.ok.inj,I.ok.has,I.ok.cab,I.ok.hd,I.ok.frames,I.ok.stk,I.ok.exf,I.ok.bs,I.ok.bsz,I.ok.noex,I.ok.exfs,I.ok.funs,I.ok.frf⟩,I.os,I.bare,I.base,I.loc,I.cell,I.free,I.freeC,λp hp=>I.pin p (mem_append_left _ hp),I.hok,I.len⟩
def vV{pins':List (Addr×Obj)}{E:Value->Shared->Prop}{D:Ends}{f:Flow}{s':Shared}(h:SP (trX X (X.pn++pins) E) pins' D f s'):SP X pins D f s':=by
 cases f with
 |next=>obtain⟨O',H',I,q⟩:=h;exact⟨O',H',JG I,q⟩|brk=>obtain⟨O',H',I,q⟩:=h;exact⟨O',H',JG I,q⟩|cont=>obtain⟨O',H',I,q⟩:=h;exact⟨O',H',JG I,q⟩|ret u=>obtain⟨v,O',H',I,r,q⟩:=h;exact⟨v,O',H',JG I,r,q⟩
def zFR(I:Inv X pins O H s)(a:Addr):Inv (hdX X a) pins O H s:=Yn I _ false _ (λz=>by cases z) I.ok.frames
def zD2{a:Addr}(I:Inv (hdX X a) pins O H s)(hd:X.calm=true->X.A.handled=none):Inv X pins O H s :=
 ⟨⟨I.ok.mod,I.ok.kind,I.ok.glob,I.ok.blt,I.ok.above,I.ok.inj,I.ok.has,I.ok.cab,hd,I.ok.frames,I.ok.stk,I.ok.exf,I.ok.bs,I.ok.bsz,I.ok.noex,I.ok.exfs,I.ok.funs,I.ok.frf⟩,I.os,I.bare,I.base,I.loc,I.cell,I.free,I.freeC,I.pin,I.hok,I.len⟩
def sTry(cl:List Str)(i:Nat)(b h:MS):MS:=λE=>match b E with
 | .exc x E1=>if(!x.made&&cl.contains x.cls)=true then(match ZO i (.v (.exn x.cls x.vs)) E1 with
   | .ok E2=>(match h E2 with
    | .ok (.ret r,E3)=>.ok (.ret r,E3)|_=>.z)
   |_=>.z)else .z
 |o=>o
def sk_try{body suite:List Stmt}{b0:Stmt}{n t:Str}{i:Nat}{T:Addr}{np hp pos:Pos}{mb mh:MS}{cl:List Str}(hst:X.stack=X.env::X.outer/\X.env.frame=some X.env.locals)(hN:X.N.Nodup)(hi:X.N[i]?=some n)(hx:X.env.scope.names.lookup n=some .local)
  (hg:Gl X t) (hd:(t==("__debug__":Str))=false) (hm:X.mg t=some (.ref T)) (hT:TCls X.K T) (hcl:∀c∈cl,∃C,X.mg c=some (.ref C)/\XCls X.K c C T)
  (hb:∀pn E,Gr (trX X pn E) body mb) (hh:∀a,Gr (hdX X a) (b0::suite) mh) :
  SOk X (.Try body [.ExceptHandler (some (.Name t np)) (some n) (b0::suite) hp] [] [] pos) (sTry cl i mb mh):=by
 intro pins s O H D I ⟨M,E,hl,fr,k⟩;rw[arm_exec_Try];refine qB (wpAny_standAt (wpAny_tryStmt_except ?_));unfold sTry at k;refine wpAny_mono (hb (X.pn++pins) _ [] s O H D (inv_tr I _) ⟨M,E,hl,fr,?_⟩) (λf s1 q=>?_) λ_ _ z=>z
 ·cases eb:mb E with
  |z=>rw[eb]at k;exact k
  |ok p =>
   rw[eb]at k;obtain⟨fl,E1⟩:=p;cases fl<;>exact k
  |exc x E1 =>
   rw[eb]at k;dsimp only at k;intro O1 H1 g;intro pins' s1 e I1 ⟨a,C,od,he,hmx,hn,hf,rel⟩;subst he;cases hq:(!x.made&&cl.contains x.cls)with
   |false=>rw[hq]at k;exact k.elim
   |true =>
   rw[hq]at k;simp only[Bool.and_eq_true,Bool.not_eq_true']at hq;obtain⟨hmd,hin⟩:=hq;rcases rel with⟨z,_⟩|⟨_,sc,Hc,Ic,un,⟨B,tt,fl,kb⟩,dl⟩
   ·rw[hmd]at z;cases z
   obtain⟨C',hmc,FC⟩:=hcl x.cls (by simpa using hin);have ec:C=C':=by
    have z:X.mg x.cls=some (.ref C):=hmx;rw[hmc]at z;cases z;rfl
   subst ec;have J1:Inv X pins O1 H1 s1:=JG I1;have Jc:Inv X pins O1 Hc sc:=JG Ic;have hfr:X.A.frames=some (X.env::X.outer):=by rw[<- hst.1];exact J1.ok.frames
   have fl':Heap.FlyingW B (X.env::X.outer) a (.ref C) (.ref tt) s1.heap:=by rw[<- hst.1];exact fl
   obtain⟨oX,hX,hR⟩:∃oX:HO,(∀(h':Heap) (o:Obj) (vs:Array Value),h'.get? a=some o->o.cls=.ref C->o.data=.fields vs->uV a od h'->yu X.prog X.w (upd H1 a oX) h' a oX) /\
     ((x.vs=[]/\oX=ExO C a)\/∃d,oX=ExA C d a/\H1 d=some (XD d (fsV x.cls x.vs))):=by
    rcases hf with hv|⟨d,e1,e2⟩
    ·exact⟨ExO C a,λh' o _ q c _ _=>zBK q c,.inl ⟨hv,rfl⟩⟩
    ·refine⟨ExA C d a,λh' o _ q c dt l=>?_,.inr ⟨d,rfl,e2⟩⟩
     obtain⟨o',q',k'⟩:=l d e1;rw[q]at q';cases q';exact zBL q c k' dt
   refine wpAny_mono (j0 (uU _ _) (wpAny_looks_onW (E:=λ_ _=>False) (Q:=λ_ z=>∃h',z={s1 with heap:=h'}/\Heap.HeldW B (X.env::X.outer) a (.ref C) (.ref tt) X.env.locals h'/\s1.heap.UpToSlots h') hfr hst.2 fl' λh4 held sl4=>⟨h4,rfl,held,sl4⟩)) (λ_ z4 ⟨⟨h4,ez4,held,sl4⟩,kd4⟩=>?_) λ_ _ z=>z.1.elim
   subst ez4;refine wpAny_mono (j0 (jr _ _) (wpAny_landsW (E:=λ_ _=>False) (Q:=λ_ z=>∃h',z={s1 with heap:=h'}/\Heap.FlyingW B (X.env::X.outer) a (.ref C) (.ref tt) h'/\h4.UpToSlots h') held λh5 fl5 sl5=>⟨h5,rfl,fl5,sl5⟩)) (λ_ z5 ⟨⟨h5,ez5,fl5,sl5⟩,kd5⟩=>?_) λ_ _ z=>z.1.elim
   subst ez5;have dl5:=(dl.on kd4).on kd5;have fl5':Heap.FlyingW B X.stack a (.ref C) (.ref tt) h5:=by rw[hst.1];exact fl5
   obtain⟨o5,v5,e5,c5,d5,_⟩:=fl5.first;have J5:=zB3 J1 Jc un fl kb hn fl5' (sl4.trans sl5) (hX h5 o5 v5 e5 c5 d5 dl5);refine wpAny_handleBy_cons (codeAny_handlers_test ?_) (by intro z;cases z);refine vE (X:=hdX X a) (zFR J5 a) hg hm ?_ hd;refine Gm FC hT J5.kIn e5 c5 ?_;refine codeAny_handlers_suite_as ?_;refine wpAny_mono (j0 (jr _ _) (PyProof.Rows.lands_againW (E:=λ_ _=>False) (Q:=λ_ z=>∃h',z={s1 with heap:=h'}/\Heap.FlyingW B (X.env::X.outer) a (.ref C) (.ref tt) h'/\h5.UpToSlots h') fl5 λh6 fl6 sl6=>⟨h6,rfl,fl6,sl6⟩)) (λ_ z6 ⟨⟨h6,ez6,fl6,sl6⟩,kd6⟩=>?_) λ_ _ z=>z.1.elim
   subst ez6;have fl6':Heap.FlyingW B X.stack a (.ref C) (.ref tt) h6:=by rw[hst.1];exact fl6
   obtain⟨o6,v6,e6,c6,d6,_⟩:=fl6.first;have J6:=zB3 J1 Jc un fl kb hn fl6' ((sl4.trans sl5).trans sl6) (hX h6 o6 v6 e6 c6 d6 (dl5.on kd6));have g2:Got X.K X.mg M O E H [] O1 E1 (upd H1 a oX) [(some (.ref a),R.slot (.v (.exn x.cls x.vs)))]:=by
    refine g.more (T:=[(some (.ref a),.v (.exn x.cls x.vs))]) ((g.frame.grow hn).add ?_) (Step.newVal hn);simp only[Rep];have ha:Hm (Mo M (O1.zip E1)) (upd H1 a oX) a=some oX:=zo.mpr ⟨w9 g.frame hn,yY⟩;refine⟨a,C,rfl,hmx,?_⟩;rcases hR with⟨hv,rfl⟩|⟨d,rfl,hd⟩
    ·exact .inl ⟨hv,ha⟩
    ·refine .inr ⟨d,ha,zo.mpr ⟨λq=>?_,?_⟩⟩
     ·obtain⟨o,q,ok⟩:=g.frame.moAl d q
      rcases ok with⟨xs,rfl⟩|⟨φ,rfl⟩
      ·exact XD_ne hd q
      ·rw[hd]at q;unfold XD at q;cases q
     ·rw[zc (jW hd hn)];exact hd
   cases ep:ZO i (.v (.exn x.cls x.vs)) E1 with
   |z=>rw[ep]at k;exact k.elim|exc _ _=>rw[ep]at k;exact k.elim
   |ok E2 =>
   rw[ep]at k;dsimp only at k;have g3:=Zx g2 ep;refine j8 (i:=i) (v:=.ref a) J6 hN hi (.inl hx) rfl (λs7 J7=>?_) (.inr hx);refine wpAny_mono (hh a pins s7 (O1.set i (some (.ref a))) (upd H1 a oX) {D with nx:=λ_ _=>False,bk:=λ_ _=>False,ct:=λ_ _=>False} (zFR J7 a) (Zw (T0:=[]) g3.len g3.fr ?_)) (λf s8 q=>?_) λ_ _ z=>z.elim
   ·cases eh:mh E2 with
    |z=>rw[eh]at k;exact k.elim|exc _ _=>rw[eh]at k;exact k.elim
    |ok p =>
     obtain⟨fl,E3⟩:=p;rw[eh]at k;cases fl with
     |nx=>exact k.elim|bk=>exact k.elim|ct=>exact k.elim|ret r=>exact λv O' H' g4=>k v O' H' (g3.trans' g4)
   ·cases f with
    |next=>obtain⟨_,_,_,z⟩:=q;exact z.elim|brk=>obtain⟨_,_,_,z⟩:=q;exact z.elim|cont=>obtain⟨_,_,_,z⟩:=q;exact z.elim
    |ret u =>
     obtain⟨v,O3,H3,J8,ru,dr⟩:=q;have J8':=zD2 J8 I.ok.hd;refine qB (wpAny_bindName (j8 (i:=i) (v:=.non) J8' hN hi (.inl hx) rfl (λs9 J9=>?_) (.inr hx)));unfold unbindBehindTheSuite;refine wpAny_onRaise ?_;refine zB2 (v:=.non) J9 hN hi hx ?_ λs10 J10=>⟨v,_,H3,J10,ru,dr⟩
     have:i<O3.length:=by rw[J8.len];exact(qG.mp hi).1
     rw[getElem?_set_self this]
 ·cases f with
  |next=>exact wpAny_execs_nil (vV q)|brk=>exact vV q|cont=>exact vV q|ret u=>exact vV q
end
section
variable{X:Cx}{O:L2.St}{H:Hp}
def Qz{cl:List Str}{v:V}{cv:Value}{b:Str->Bool}(rv:∀u,zz v u->u=cv)(hk:∀c∈cl,∃C T,X.mg c=some (.ref C)/\XCls X.K c C T/\kitOne X.K (.ref C) cv=some (b c)) :
  j9 X (.builtin "isinstance") (λxs H Q=>∃x c vs,xs=[x,v]/\Rep X.K X.mg H (.exn c vs) x/\c∈cl/\Q (.bl (b c)) H):=by
 intro pins s O H xs us Q I r h;obtain⟨x,c,vs,rfl,rd,hc,q⟩:=h;obtain⟨u,w',rfl,rx,ry⟩:=vals2 r;obtain rfl:=rv w' ry;simp only[Rep]at rd;obtain⟨a,C,rfl,hm,ha⟩:=rd;obtain⟨C',T,hm',F,kq⟩:=hk c hc;rw[hm]at hm';cases hm';cases (show u=Value.ref a from rx);have φ:∃o,s.heap.get? a=some o/\o.cls=.ref C:=by
  rcases ha with⟨_,ha⟩|⟨d,ha,_⟩
  ·exact(show yu X.prog X.w H s.heap a (ExO C a)from I.hok a _ ha).1
  ·obtain⟨⟨o,h1,h2,_⟩,_⟩:=(show yu X.prog X.w H s.heap a (ExA C d a)from I.hok a _ ha)
   exact⟨o,h1,h2⟩
 exact kia_one (kit_exc F) I.kIn φ kq (λz=>nomatch z) λtk=>⟨.bl _,H,I.tok tk,rfl,q⟩
def eIsX(cl:List Str)(b:Str->Bool)(m:ME):ME:=λE=>match m E with
 | .z=>.z| .exc x E1=>.exc x E1| .ok (.v (.exn c _),E1)=>if cl.contains c=true then .ok (.v (.bl (b c)),E1)else .z|_=>.z
def zB4{cl:List Str}{v:V}{b:Str->Bool}{m:ME}{Q:VK}(h:tM X (eIsX cl b m) O H Q):tM X m O H λx H1=>∃y c vs,[x,v]=[y,v]/\Rep X.K X.mg H1 (.exn c vs) y/\c∈cl/\Q (.bl (b c)) H1:=by
 obtain⟨M,E,hl,fr,k⟩:=h;unfold eIsX at k;refine ze (T0:=[]) hl fr ?_;cases ea:m E with
 |z=>rw[ea]at k;exact k|exc x E1=>rw[ea]at k;exact k
 |ok pr =>
  obtain⟨r,E1⟩:=pr;rw[ea]at k;cases r with
  |own ds=>exact k.elim|dct _ _=>exact k.elim
  |v d =>
   cases d with
   |exn c vs =>
    dsimp only at k;intro v H' g;cases hc:cl.contains c with
    |false=>rw[hc]at k;exact k.elim
    |true =>
     rw[hc]at k;exact⟨v,c,vs,rfl,g.rep.mono zE,by simpa using hc,k _ H' (g.flat (d:=.bl (b c)) rfl)⟩
   |_=>exact k.elim
def ok_isC{cl:List Str}{y:Str}{Y T:Addr}{a:Expr}{m:ME}{p p1 pos:Pos}(hcl:∀c∈cl,∃C,X.mg c=some (.ref C)/\XCls X.K c C T)(hy:X.mg y=some (.ref Y))(FY:XCls X.K y Y T)(hYT:Y≠T)(hg:Gl X "isinstance")(hm:X.mg "isinstance"=none)
  (hgY:Gl X y) (ha:EOk X a m) (hv:bootBuiltins "isinstance"=some (.builtin "isinstance")) (hd:(y==("__debug__":Str))=false) (he:zT a=false) :
  EOk X (.Call (.Name "isinstance" p) [a,.Name y p1] [] pos) (eIsX cl (·==y) m) :=
 zf (ZS (Qz (cl:=cl) (v:=.ref Y) (cv:=.ref Y) (b:=(·==y)) (λu h=>h) λc hc=>by
  obtain⟨C,h1,h2⟩:=hcl c hc;exact⟨C,T,h1,h2,kit_own h2 FY hYT λe=>by subst e;rw[h1]at hy;cases hy;rfl⟩) hg hm hv (yw ha (yw (zAs (v:=.ref Y) hgY hy rfl hd) Y7 (zI rfl)) (zI he)) (by decide) (by decide) (zI he) (j1 rfl)) λO H Q h=>zB4 h
def ok_isV{cl:List Str}{T:Addr}{a:Expr}{m:ME}{p p1 pos:Pos}(hcl:∀c∈cl,∃C,X.mg c=some (.ref C)/\XCls X.K c C T)(hg:Gl X "isinstance")(hm:X.mg "isinstance"=none)
  (hgV:Gl X "ValueError") (hmV:X.mg "ValueError"=none) (hvV:bootBuiltins "ValueError"=some (.type "ValueError")) (ha:EOk X a m) (hv:bootBuiltins "isinstance"=some (.builtin "isinstance")) (he:zT a=false) :
  EOk X (.Call (.Name "isinstance" p) [a,.Name "ValueError" p1] [] pos) (eIsX cl (λ_=>true) m) :=
 zf (ZS (Qz (cl:=cl) (v:=.ty "ValueError") (cv:=.type "ValueError") (b:=λ_=>true) (λu h=>h) λc hc=>by
  obtain⟨C,h1,h2⟩:=hcl c hc;exact⟨C,T,h1,h2,kit_val h2⟩) hg hm hv (yw ha (yw (zAt (v:=.ty "ValueError") hgV hmV hvV rfl (by decide) (by decide)) Y7 (zI rfl)) (zI he)) (by decide) (by decide) (zI he) (j1 rfl)) λO H Q h=>zB4 h
end
section
variable{X:Cx}{O:L2.St}{H:Hp}
def uo(k:Bool):Value->Bool
 | .bool b=>b==k|_=>false
def zFS(k:Int):Value->Bool
 | .int b _=>b==k|_=>false
theorem Yu:∀{bs:List Bool} {us:List Value},yG (bs.map V.bl) us->us=bs.map Value.bool
 | [],_,.nil=>rfl
 |b::bs,_,.cons r t=>by
  cases (show _=Value.bool b from r);rw[Yu t];rfl
theorem YS:∀{ns:List Int} {us:List Value},yG (ns.map V.int) us->∀u∈us,∃i t,u=.int i t
 | [],_,.nil,_,h=>by cases h
 |n::ns,_,.cons r t,u,h=>by
  rcases mem_cons.mp h with rfl|h
  ·obtain⟨tk,e⟩:=r;exact⟨n,tk,e⟩
  ·exact YS t u h
theorem wd(k:Int):∀{ns:List Int} {us:List Value},yG (ns.map V.int) us->us.countP (zFS k)=ns.count k
 | [],_,.nil=>rfl
 |n::ns,_,.cons r t=>by
  obtain⟨tk,e⟩:=r;subst e;rw[List.countP_cons,List.count_cons,wd k t];rfl
def zD3:MtM X "list.count" (λx vs H Q=>∃l,x=.ref l/\((∃(bs:List Bool) (k:Bool),vs=[.bl k]/\SqL X.K H l (bs.map V.bl)/\Q (.int (bs.count k:Nat)) H)\/(∃(ns:List Int) (k:Int),vs=[.int k]/\SqL X.K H l (ns.map V.int)/\Q (.int (ns.count k:Nat)) H))):=by
 intro pins s O H x vs v us Q I rx rv h;obtain⟨l,rfl,h⟩:=h;cases rx;rcases h with⟨bs,k,rfl,hs,q⟩|⟨ns,k,rfl,hs,q⟩
 ·obtain⟨u,rfl,ru⟩:=rv.one
  cases (show u=Value.bool k from ru);obtain⟨its,r,p,_⟩:=I.list hs;obtain⟨⟨c0,dd,dt,sl⟩,n,e,ec,ed,es⟩:=p;dsimp only at ec ed es;subst ec ed es;have hb:=Yu r;subst hb;refine call_meets PySem.F.slot_list_count ⟨_,e,rfl⟩ PySem.F.entry_list_count (PySem.F.args_list_count_2 _ _) (SeqAt.list_countAt l _ n none sl (.bool k) (uo k)) ⟨e,λy hy=>?_,?_⟩
  ·have hy':y∈bs.map Value.bool:=by simpa using hy
   obtain⟨b,_,rfl⟩:=mem_map.mp hy';exact SeqAt.EqAt.bool_bool b k
  ·have:(bs.map Value.bool).countP (uo k)=bs.count k:=by rw[List.countP_map,List.count];rfl
   rw[show(bs.map Value.bool).toArray.toList=bs.map Value.bool from rfl,this];exact⟨.int _,H,I.tok _,⟨_,rfl⟩,q⟩
 ·obtain⟨u,rfl,ru⟩:=rv.one
  obtain⟨tk,eu⟩:=(show ∃t,u=Value.int k t from ru);subst eu;obtain⟨its,r,p,_⟩:=I.list hs;obtain⟨⟨c0,dd,dt,sl⟩,n,e,ec,ed,es⟩:=p;dsimp only at ec ed es;subst ec ed es;refine call_meets PySem.F.slot_list_count ⟨_,e,rfl⟩ PySem.F.entry_list_count (PySem.F.args_list_count_2 _ _) (SeqAt.list_countAt l _ n none sl (.int k tk) (zFS k)) ⟨e,λy hy=>?_,?_⟩
  ·obtain⟨i,t,rfl⟩:=YS r y (by simpa using hy)
   exact SeqAt.EqAt.int_int i t k tk
  ·rw[show its.toArray.toList=its from rfl,wd k r]
   exact⟨.int _,H,I.tok _,⟨_,rfl⟩,q⟩
def zD4:MtM X "list.index" (λx vs H Q=>∃l,x=.ref l/\∃(bs:List Bool) (k:Bool) (j:Nat),vs=[.bl k]/\SqL X.K H l (bs.map V.bl)/\bs.findIdx? (·==k)=some j/\j<1000000/\Q (.int (j:Nat)) H):=by
 intro pins s O H x vs v us Q I rx rv h;obtain⟨l,rfl,bs,k,j,rfl,hs,hj,hj2,q⟩:=h;cases rx;obtain⟨u,rfl,ru⟩:=rv.one;cases (show u=Value.bool k from ru);obtain⟨its,r,p,_⟩:=I.list hs;obtain⟨⟨c0,dd,dt,sl⟩,n,e,ec,ed,es⟩:=p;dsimp only at ec ed es;subst ec ed es;have hb:=Yu r;subst hb;obtain⟨h1,h2,h3⟩:=List.findIdx?_eq_some_iff_getElem.mp hj;refine call_meets PySem.F.slot_list_index ⟨_,e,rfl⟩ PySem.F.entry_list_index (PySem.F.args_list_index_2 _ _) (SeqAt.list_indexAt l _ n none sl (.bool k) (uo k) j (by simpa using h1) (by omega) ?_ ?_) ⟨e,λy hy=>?_,⟨.int _,H,I.tok _,⟨_,rfl⟩,q⟩⟩
 ·simpa[uo]using h2
 ·intro m hm hlt
  have:=h3 m hlt;simpa[uo]using this
 ·have hy':y∈bs.map Value.bool:=by simpa using hy
  obtain⟨b,_,rfl⟩:=mem_map.mp hy';exact SeqAt.EqAt.bool_bool b k
def eMet(f:D->D->Option R)(a b:ME):ME:=λE=>match a E with
 | .z=>.z| .exc x E1=>.exc x E1
 | .ok (r1,E1)=>match r1.d with
  | .l _=>(match b E1 with
   | .z=>.z| .exc x E2=>.exc x E2
   | .ok (r2,E2)=>match f r1.d r2.d with
    |some r=>.ok (r,E2)|none=>.z)
  |_=>.z
def cntD:D->D->Option R
 | .l ds,.bl k=>(jJ ds).map λbs=>.v (.int (bs.count k:Nat))| .l ds,.int k=>(Jr ds).map λns=>.v (.int (ns.count k:Nat))|_,_=>none
def idxD:D->D->Option R
 | .l ds,.bl k=>(jJ ds).bind λbs=>match bs.findIdx? (·==k)with
  |some j=>if j<1000000 then some (.v (.int (j:Nat)))else none|none=>none
 |_,_=>none
def zB5{f:D->D->Option R}{rel:V->List V->Hp->VK->Prop}{a b:ME}{Q:VK}(hr:ROk X.K X.mg (λx y H Q=>rel x [y] H Q) f)(h:tM X (eMet f a b) O H Q):tBM X.K "list" rel (tM X a) (tCons (tM X b) tNil) O H Q:=by
 obtain⟨M,E,hl,fr,k⟩:=h;unfold eMet at k;refine ze (T0:=[]) hl fr ?_;cases ea:a E with
 |z=>rw[ea]at k;exact k|exc x E1=>rw[ea]at k;exact k
 |ok p =>
  obtain⟨r1,E1⟩:=p;rw[ea]at k;intro x H1 g1;dsimp only at k;cases ed:r1.d with
  |l ds =>
   rw[ed]at k;have rx:=g1.rep;rw[ed]at rx;obtain⟨l,xs,ex,hs,_⟩:=zU rx;subst ex;refine⟨(show tyV X.K "list" (.ref l) H1 from .inl ⟨rfl,xs,zE.seq hs⟩),?_⟩;refine ze (T0:=[(some (.ref l),r1.slot)]) g1.len g1.fr ?_;dsimp only at k;cases eb:b E1 with
   |z=>rw[eb]at k;exact k|exc x E2=>rw[eb]at k;exact λH' g=>k H' (g1.trans' g).dropAll
   |ok p =>
    obtain⟨r2,E2⟩:=p;rw[eb]at k;intro y H2 g2;have g:=g1.trans' g2;have rp:=Got.reps (vs:=[y,.ref l]) (rs:=[r2,r1]) rfl g;simp only[List.map,Reps]at rp;obtain⟨y',_,e1,ry,x',_,e2,rx,_⟩:=rp;cases e1;cases e2;dsimp only at k;cases ef:f (.l ds) r2.d with
    |none=>rw[ef]at k;exact k.elim
    |some r =>
     rw[ef]at k;rw[ed]at rx;exact hr M H2 _ (.ref l) y (.l ds) r2.d r Q g.frame rx ry ef λv H' f' s'=>k v H' (g.more (T:=[(some v,r.slot)]) f' s')
  |_=>rw[ed]at k;exact k.elim
def ro_cnt{K:qH}{mg:Str->Option Value}:ROk K mg (λx y H Q=>∃l,x=.ref l/\((∃(bs:List Bool) (k:Bool),[y]=[.bl k]/\SqL K H l (bs.map V.bl)/\Q (.int (bs.count k:Nat)) H)\/(∃(ns:List Int) (k:Int),[y]=[.int k]/\SqL K H l (ns.map V.int)/\Q (.int (ns.count k:Nat)) H))) cntD:=by
 intro M H Z x y d1 d2 res Q f r1 r2 e k;cases d1 with
 |l ds =>
  obtain⟨l,xs,rfl,hs,rs⟩:=zU r1;refine⟨l,rfl,?_⟩;cases d2 with
  |bl b =>
   simp only[cntD]at e;cases eb:jJ ds with
   |none=>rw[eb]at e;cases e
   |some bs =>
    rw[eb]at e;cases e;rw[JB eb rs]at hs;exact .inl ⟨bs,b,by rw[JT r2],zE.seq hs,k.flat f rfl⟩
  |int i =>
   simp only[cntD]at e;cases eb:Jr ds with
   |none=>rw[eb]at e;cases e
   |some ns =>
    rw[eb]at e;cases e;rw[JF eb rs]at hs;exact .inr ⟨ns,i,by rw[zK r2],zE.seq hs,k.flat f rfl⟩
  |_=>cases e
 |_=>cases e
def ro_idx{K:qH}{mg:Str->Option Value}:ROk K mg (λx y H Q=>∃l,x=.ref l/\∃(bs:List Bool) (k:Bool) (j:Nat),[y]=[.bl k]/\SqL K H l (bs.map V.bl)/\bs.findIdx? (·==k)=some j/\j<1000000/\Q (.int (j:Nat)) H) idxD:=by
 intro M H Z x y d1 d2 res Q f r1 r2 e k;cases d1 with
 |l ds =>
  obtain⟨l,xs,rfl,hs,rs⟩:=zU r1;refine⟨l,rfl,?_⟩;cases d2 with
  |bl b =>
   simp only[idxD]at e;cases eb:jJ ds with
   |none=>rw[eb]at e;cases e
   |some bs =>
    rw[eb,Option.bind_some]at e;cases ej:bs.findIdx? (·==b)with
    |none=>rw[ej]at e;cases e
    |some j =>
     rw[ej]at e;dsimp only at e;split at e
     ·rename_i hj
      cases e;rw[JB eb rs]at hs;exact⟨bs,b,j,by rw[JT r2],zE.seq hs,ej,hj,k.flat f rfl⟩
     ·cases e
  |_=>cases e
 |_=>cases e
def ok_cnt{o e:Expr}{a b:ME}{apos cpos:Pos}(ho:EOk X o a)(he:EOk X e b)(hbase:attributeBase o "count" X.env (eval o X.env)=eval o X.env)(hs:zT e=false)(hline:(apos.endLine==cpos.line)=true)
  (hfew:((backTo cpos (starEach (e::[]) X.env)).all (λx=>!x.1)&&(backToKw cpos (keywordEach [] X.env)).all (λx=>x.1.isSome)&&decide ((e::([]:List Expr)).length+([]:List Keyword).length+(if([]:List Keyword).isEmpty then 0 else 1)<30))=true) :
  EOk X (.Call (.Attribute o "count" apos) [e] [] cpos) (eMet cntD a b) :=
 zf (pe_bm PySem.F.plainAttrs_list PySem.F.slot_list_count PySem.F.type_list_count zD3 ho (yw he Y7 (zI hs)) hbase hfew hline (zI hs) rfl) λO H Q h=>zB5 ro_cnt h
def ok_idx{o e:Expr}{a b:ME}{apos cpos:Pos}(ho:EOk X o a)(he:EOk X e b)(hbase:attributeBase o "index" X.env (eval o X.env)=eval o X.env)(hs:zT e=false)(hline:(apos.endLine==cpos.line)=true)
  (hfew:((backTo cpos (starEach (e::[]) X.env)).all (λx=>!x.1)&&(backToKw cpos (keywordEach [] X.env)).all (λx=>x.1.isSome)&&decide ((e::([]:List Expr)).length+([]:List Keyword).length+(if([]:List Keyword).isEmpty then 0 else 1)<30))=true) :
  EOk X (.Call (.Attribute o "index" apos) [e] [] cpos) (eMet idxD a b) :=
 zf (pe_bm PySem.F.plainAttrs_list PySem.F.slot_list_index PySem.F.type_list_index zD4 ho (yw he Y7 (zI hs)) hbase hfew hline (zI hs) rfl) λO H Q h=>zB5 ro_idx h
end
end DV
namespace DV
open PySem L2 PyProof.Rows
def xinIn(K:qH)(C f:Addr):Bool:=match K.lookup C with
 |some ⟨.type "type",_,.cls cd,sl⟩=>(match cd.mro,sl.toList with
  | .ref C'::bm,[_,_,_,_,some (.builtin n),_]=>(C'==C&&n == "ValueError.__new__")&&(!cd.hasDel&&PySem.W.tailIn K VB bm)&&(PySem.W.nsOkIn K cd.ns&&nsIn K cd.ns "__init__" == some (some (.ref f)))|_,_=>false)
 |_=>false
def XO(C a:Addr)(od:Option Addr):HO:=.ext λh=>∃o t,h.get? a=some o/\o.cls=.ref C/\o.dict=od/\o.data=.fields #[.ref t,.none,.none,.none,.bool false,.none]
def spI(c:Str)(C:Addr):Sp:=λvs H Q _=>∃(a:Addr) (ns:List Int),vs=.ref a::ns.map V.int/\ns.length=(zBO c).length/\(∀n∈ns,n.natAbs.log2<1920)/\H a=some (XO C a none)/\∀d,H d=none->Q .non (upd (upd H d (XD d (fsV c ns))) a (XO C a (some d)))
def RIok(P:Program)(w:World)(K:qH)(mg:Str->Option Value)(base:Heap)(c:Str):Prop:=∃C f fd,mg c=some (.ref C)/\keepIn K (.ref C)=true/\xinIn K C f=true/\typeIn K (.ref f)=some (.type "function") /\
 ZL K fd ("self"::zBO c) []/\FnOkN true P w K mg base 2 f fd ("self"::zBO c) (spI c C)
end DV
namespace DV
open PySem L2 PyProof.Rows
open PySem.W (Looks)
def ris_nil{R:Str->Prop}:∀c∈([]:List Str),R c:=λ_ h=>by cases h
def RAok(K:qH)(mg:Str->Option Value)(c:Str):Prop:=∃C T,mg c=some (.ref C)/\mg "ThrowError"=some (.ref T)/\XSet K C T/\∀n∈zBO c,findIn K (.ref C) n=some none
end DV
namespace DV
open PySem L2
section
variable{X:Cx}{O:L2.St}{H:Hp}{K:qH}{mg:Str->Option Value}{M:Addr->Prop}{E E1:zN}{T0:Fz}
def whN(c:MT)(b:MS):Nat->MS
 |0=>λ_=>.z
 |n+1=>λE=>match c E with
  | .z=>.z| .exc x E1=>.exc x E1| .ok (false,E1)=>.ok (.nx,E1)
  | .ok (true,E1)=>match b E1 with
   | .ok (.nx,E2)=>whN c b n E2| .ok (.ct,E2)=>whN c b n E2| .ok (.bk,E2)=>.ok (.nx,E2)|o=>o
def whN_run{c:MT}{b:MS}{D:Ends}{n:Nat}(h:tS X (whN c b n) D O H):zE1 (tMT X c) (tS X b) D O H:=by
 refine⟨λm O H=>tS X (whN c b m) D O H,⟨n,h⟩,λm O H h=>?_⟩;cases m with
 |zero=>obtain⟨M,E,hl,fr,k⟩:=h;exact k.elim
 |succ m =>
  obtain⟨M,E,hl,fr,k⟩:=h;unfold whN at k;refine Yo (T0:=[]) hl fr ?_;cases ec:c E with
  |z=>rw[ec]at k;exact k|exc x E1=>rw[ec]at k;exact λH' g=>k O H' g
  |ok p =>
   obtain⟨t,E1⟩:=p;rw[ec]at k;intro H1 g1;cases t with
   |false=>exact zE6 (k O H1 g1)
   |true =>
    refine zE7 ⟨λO' H'=>tS X (whN c b m) D O' H',λO' H' q=>⟨m,Nat.lt_succ_self m,q⟩,?_⟩;refine Zw (T0:=[]) g1.len g1.fr ?_;dsimp only at k;cases eb:b E1 with
    |z=>rw[eb]at k;exact k|exc x E2=>rw[eb]at k;exact λO' H' g=>k O' H' (g1.trans' g)
    |ok p =>
     obtain⟨fl,E2⟩:=p;rw[eb]at k;cases fl with
     |ret r=>exact λv O' H' g=>k v O' H' (g1.trans' g)|bk=>exact λO' H' g=>k O' H' (g1.trans' g)|nx=>exact λO' H' g=>go g1 g k|ct=>exact λO' H' g=>go g1 g k
where
 go {c:MT} {b:MS} {D:Ends} {n:Nat} {M:Addr->Prop} {O O1 O':L2.St} {E E1 E2:zN} {H H1 H':Hp} (g1:Got X.K X.mg M O E H [] O1 E1 H1 []) (g:Got X.K X.mg M O1 E1 H1 [] O' E2 H' [])
  (k:match whN c b n E2 with
   | .z=>False| .ok (.nx,E')=>∀O' H',Got X.K X.mg M O E H [] O' E' H' []->D.nx O' H'| .ok (.bk,E')=>∀O' H',Got X.K X.mg M O E H [] O' E' H' []->D.bk O' H'| .ok (.ct,E')=>∀O' H',Got X.K X.mg M O E H [] O' E' H' []->D.ct O' H'| .ok (.ret r,E')=>∀v O' H',Got X.K X.mg M O E H [] O' E' H' [(some v,r.slot)]->D.rt v H'
   | .exc x E'=>∀O' H',Got X.K X.mg M O E H [] O' E' H' []->XE X O' H' x):tS X (whN c b n) D O' H':=by
  have gg:=g1.trans' g;refine Zw (T0:=[]) gg.len gg.fr ?_;cases e:whN c b n E2 with
  |z=>rw[e]at k;exact k|exc x E3=>rw[e]at k;exact λO3 H3 g3=>k O3 H3 (gg.trans' g3)
  |ok p =>
   obtain⟨fl,E3⟩:=p;rw[e]at k;cases fl with
   |nx=>exact λO3 H3 g3=>k O3 H3 (gg.trans' g3)|bk=>exact λO3 H3 g3=>k O3 H3 (gg.trans' g3)|ct=>exact λO3 H3 g3=>k O3 H3 (gg.trans' g3)|ret r=>exact λv O3 H3 g3=>k v O3 H3 (gg.trans' g3)
def sWhile(c:MT)(b:MS):MS:=whN c b 1000000
def zD5{c:Expr}{body:List Stmt}{mc:MT}{mb:MS}{pos:Pos}(hp:PassesOwn (model X.prog X.w) X.A X.env X.xe)(hc:TOk X c mc)(hb:Gr X body mb):SOk X (.While c body [] pos) (sWhile mc mb) :=
 yW (zDI hp hc hb) λD O H h=>whN_run h
def sAug(i:Nat)(f:Int->Int->Option Int)(m:ME):MS:=λE=>match E[i]? with
 |some (.v (.int a))=>(match m E with
  | .z=>.z| .exc x E1=>.exc x E1
  | .ok (r,E1)=>match r.d with
   | .int b=>(match E1[i]?,f a b with
    |some (.v (.int a')),some z=>if a'=a then .ok (.nx,E1.set i (.v (.int z)))else .z|_,_=>.z)
   |_=>.z)
 |_=>.z
def Gz{i:Nat}{f:Int->Int->Option Int}{ti:TIp}{m:ME}{D:Ends}(hi:∀a b z H Q,f a b=some z->Q (.int z) H->ti (.int a) (.int b) H Q)(h:tS X (sAug i f m) D O H):tAug i (tM X m) ti D O H:=by
 obtain⟨M,E,hl,fr,k⟩:=h;unfold sAug at k;cases e0:E[i]? with
 |none=>rw[e0]at k;exact k.elim
 |some s0 =>
  rw[e0]at k;cases s0 with
  |v d =>
   cases d with
   |int a =>
    dsimp only at k;obtain⟨o,h1,h2⟩:=jt hl e0;obtain⟨v,rfl,rv⟩:=fr.val o (.int a) h2;have ev:=zK rv;subst ev;refine⟨.int a,h1,?_⟩;refine ze (T0:=[]) hl fr ?_;cases em:m E with
    |z=>rw[em]at k;exact k|exc x E1=>rw[em]at k;exact λH' g=>k O H' g
    |ok p =>
     obtain⟨r,E1⟩:=p;rw[em]at k;intro y H1 g;dsimp only at k;cases ed:r.d with
     |int b =>
      rw[ed]at k;dsimp only at k;have ry:=g.rep;rw[ed]at ry;have ey:=zK ry;subst ey;cases e1:E1[i]? with
      |none=>rw[e1]at k;exact k.elim
      |some s1 =>
       cases ef:f a b with
       |none=>rw[e1,ef]at k;cases s1<;>first|exact k.elim|(rename_i d;cases d<;>exact k.elim)
       |some z =>
        rw[e1,ef]at k;cases s1 with
        |v d1 =>
         cases d1 with
         |int a' =>
          dsimp only at k;by_cases ha:a'=a
          ·rw[if_pos ha]at k
           refine hi a b z _ _ ef (k _ H1 ?_);have gz:=g.dropAll.flat (d:=.int z) rfl;exact Zx (r:=.v (.int z)) gz (by simp only[ZO,e1];rfl)
          ·rw[if_neg ha]at k;exact k.elim
         |_=>exact k.elim
        |_=>exact k.elim
     |_=>rw[ed]at k;exact k.elim
   |_=>exact k.elim
  |_=>exact k.elim
def ip_mulB:PIp X .Mult (λx y H Q=>∃i j,x=.int i/\y=.int j/\CMulB i j/\Q (.int (i*j)) H):=by
 intro pins s O H x y v u Q I r1 r2 h;obtain⟨i,j,e1,e2,hc,q⟩:=h;subst e1;subst e2;obtain⟨t,rfl⟩:=r1;obtain⟨t',rfl⟩:=r2;refine PyProof.Rows.imul_int ⟨.int _,H,I.tok _,⟨_,rfl⟩,q⟩ ?_;rcases hc with h|h
 ·exact h.ok
 ·exact zBd h.1 h.2
def uq:Int->Int->Option Int:=λa b=>if((-(2^64)<a/\a<2^64)\/(-(2^64)<b/\b<2^64))\/(a.natAbs<Big/\b.natAbs<Big)then some (a*b)else none
def zB6{i:Nat}{x:Str}{e:Expr}{m:ME}{pos pos':Pos}(hN:X.N.Nodup)(hi:X.N[i]?=some x)(hx:Loc X.env.scope x)(hf:X.fn x=true\/X.env.scope.names.lookup x=some .local)(he:EOk X e m):SOk X (.AugAssign (.Name x pos') .Add e pos) (sAug i (λa b=>some (a+b)) m) :=
 yW (zAw hN hi hx he zAy hf) λD O H h=>Gz (λa b z H Q ez q=>by cases ez;exact⟨a,b,rfl,rfl,q⟩) h
def zB7{i:Nat}{x:Str}{e:Expr}{m:ME}{pos pos':Pos}(hN:X.N.Nodup)(hi:X.N[i]?=some x)(hx:Loc X.env.scope x)(hf:X.fn x=true\/X.env.scope.names.lookup x=some .local)(he:EOk X e m):SOk X (.AugAssign (.Name x pos') .Sub e pos) (sAug i (λa b=>some (a-b)) m) :=
 yW (zAw hN hi hx he ip_sub hf) λD O H h=>Gz (λa b z H Q ez q=>by cases ez;exact⟨a,b,rfl,rfl,q⟩) h
def zB8{i:Nat}{x:Str}{e:Expr}{m:ME}{pos pos':Pos}(hN:X.N.Nodup)(hi:X.N[i]?=some x)(hx:Loc X.env.scope x)(hf:X.fn x=true\/X.env.scope.names.lookup x=some .local)(he:EOk X e m):SOk X (.AugAssign (.Name x pos') .Mult e pos) (sAug i uq m) :=
 yW (zAw hN hi hx he ip_mulB hf) λD O H h=>Gz (λa b z H Q ez q=>by
  unfold uq at ez;split at ez
  ·rename_i hc
   cases ez;exact⟨a,b,rfl,rfl,hc,q⟩
  ·cases ez) h
end
mutual
def pyD:D->Option PyData
 | .non=>some .none| .bl b=>some (.bool b)| .int i=>some (.int i)| .str x=>some (.str x)| .t ds=>(pyDs ds).map .tuple| .l ds=>(pyDs ds).map .list| .dic=>some (.dict [])|_=>none
def pyDs:List D->Option (List PyData)
 | []=>some []
 |d::ds=>match pyD d,pyDs ds with
  |some x,some xs=>some (x::xs)|_,_=>none
end
section
variable{X:Cx}{O:L2.St}{pins:List (Addr×Obj)}{H:Hp}{s:Shared}
def SmOk(K:qH):Prop:=∃o es n,K.lookup sysModules=some o/\o.data=.dict es n
def sm_ne(I:Inv X pins O H s)(S:SmOk X.K){a:Addr}{o:Obj}{vs:Array Value}{n:Nat}(e1:s.heap.get? a=some o)(e2:o.data=.seq vs n):sysModules≠a:=by
 obtain⟨p,es,m,q1,q2⟩:=S;intro e;have:=I.kIn _ _ q1;rw[e,e1]at this;cases this;rw[q2]at e2;cases e2
mutual
theorem Q0(I:Inv X pins O H s)(S:SmOk X.K):∀{d:D} {v:V} {u:Value} {x:PyData},Rep X.K X.mg H d v->zz v u->pyD d=some x->∃as,Reads s.heap u x as/\sysModules∉as
 | .non,v,u,x,r,rv,e=>by cases e;rw[Gq r]at rv;cases (show u=Value.none from rv);exact⟨_,.none,by simp⟩| .bl b,v,u,x,r,rv,e=>by cases e;rw[JT r]at rv;cases (show u=Value.bool b from rv);exact⟨_,.bool b,by simp⟩| .int i,v,u,x,r,rv,e=>by cases e;rw[zK r]at rv;obtain⟨t,q⟩:=(show ∃t,u=Value.int i t from rv);subst q;exact⟨_,.int i t,by simp⟩| .str y,v,u,x,r,rv,e=>by cases e;rw[Yr r]at rv;obtain⟨t,q⟩:=(show ∃t,u=Value.str y t from rv);subst q;exact⟨_,.str y t,by simp⟩
 | .t ds,v,u,x,r,rv,e=>by
  obtain⟨a,xs,rfl,h1,h2⟩:=za r;cases (show u=Value.ref a from rv);obtain⟨its,r1,p,_⟩:=I.tuple h1;obtain⟨o,e1,e2,n,e3⟩:=p;simp only[pyD]at e;cases eq:pyDs ds with
  |none=>rw[eq]at e;cases e
  |some ys =>
   rw[eq]at e;cases e;obtain⟨as,q,z⟩:=readss_of I S h2 r1 eq;exact⟨_,.tuple e1 e2 e3 (by simpa using q),z⟩
 | .l ds,v,u,x,r,rv,e=>by
  obtain⟨a,xs,rfl,h1,h2⟩:=zU r;cases (show u=Value.ref a from rv);obtain⟨its,r1,p,_⟩:=I.list h1;obtain⟨o,n,e1,e2,_,e3⟩:=p;simp only[pyD]at e;cases eq:pyDs ds with
  |none=>rw[eq]at e;cases e
  |some ys =>
   rw[eq]at e;cases e;obtain⟨as,q,z⟩:=readss_of I S h2 r1 eq;exact⟨_,.list e1 e2 e3 (by simpa using q),λhm=>(mem_cons.mp hm).elim (sm_ne I S e1 e3) z⟩
 | .fn y,v,u,x,r,rv,e=>by cases e
 | .dic,v,u,x,r,rv,e=>by
  cases e;simp only[Rep]at r;obtain⟨a,rfl,h1⟩:=r;cases (show u=Value.ref a from rv);obtain⟨_,hS,vs,kv,o,es,ep,g1,g2,g3,_,g5,_⟩:(([]:List (Key×V)).length<=sizeLine)/\(a==sysModules)=false/\∃vs,KV [] vs/\s.heap.DictOf (Gd X.prog X.w) a vs:=I.hok a _ h1;cases kv;have e0:es.toList=[]:=by cases h:es.toList with|nil=>rfl|cons y ys=>rw[h]at g5;cases g5
  refine⟨_,.dict g1 g2.1 g3 (kvs:=[]) (by rw[e0];exact .nil) (by rw[e0];exact .nil),λhm=>?_⟩;rcases mem_cons.mp hm with hm|hm
  ·exact beq_eq_false_iff_ne.mp hS hm.symm
  ·cases hm
 | .exn y z,v,u,x,r,rv,e=>by cases e
theorem readss_of(I:Inv X pins O H s)(S:SmOk X.K):∀{ds:List D} {vs:List V} {us:List Value} {xs:List PyData},Reps X.K X.mg H ds vs->yG vs us->pyDs ds=some xs->∃as,ReadsAll s.heap us xs as/\sysModules∉as
 | [],vs,us,xs,r,rv,e=>by
  cases e;simp only[Reps]at r;subst r;cases rv;exact⟨_,.nil,by simp⟩
 |d::ds,vs,us,xs,r,rv,e=>by
  simp only[Reps]at r;obtain⟨v,vs',rfl,r1,r2⟩:=r;cases rv with
  |cons p q =>
   simp only[pyDs]at e;cases e1:pyD d with
   |none=>rw[e1]at e;cases e
   |some x =>
    cases e2:pyDs ds with
    |none=>rw[e1,e2]at e;cases e
    |some ys =>
     rw[e1,e2]at e;cases e;obtain⟨as,a1,z1⟩:=Q0 I S r1 p e1;obtain⟨bs,a2,z2⟩:=readss_of I S r2 q e2;exact⟨_,.cons a1 a2,λhm=>(mem_append.mp hm).elim z1 z2⟩
end
def vW(d:D):Option R:=match pyD d with
 |some x=>if x.showable=true/\x.depth<=60/\x.shown.length<=cap then some (.v (.str x.shown))else none|none=>none
def zAZ(S:SmOk X.K)(hg:X.A.guards=some [])(hu:X.A.units+64<cLine):j9 X (.builtin "repr") (λxs H Q=>∃x d r,xs=[x]/\Rep X.K X.mg H d x/\vW d=some r/\∃t,r=.v (.str t)/\Q (.str t) H):=by
 intro pins s O H xs us Q I rv h;obtain⟨x,d,r,rfl,rd,er,t,rfl,q⟩:=h;obtain⟨u,rfl,ru⟩:=rv.one;unfold vW at er;cases ep:pyD d with
 |none=>rw[ep]at er;cases er
 |some p =>
  rw[ep]at er;dsimp only at er;split at er
  ·rename_i hc
   cases er;obtain⟨as,rs,z⟩:=Q0 I S rd ru ep;have fin:∀h' tk tk2,(∀b o,s.heap.get? b=some o->h'.get? b=some o)->EP X pins O Q (.str p.shown tk) {s with heap:=h',toks:=tk2}:=λh' tk tk2 hk=>⟨.str _,H,I.kept (t':=tk2) hk,⟨_,rfl⟩,q⟩
   have fin0:EP X pins O Q (.str p.shown s.toks) {s with toks:=s.toks+1}:=⟨.str _,H,I.tok _,⟨_,rfl⟩,q⟩
   cases rs with
   |none=>exact PySem.P.repr_of_none fin0|bool b=>exact PySem.P.repr_of_bool fin0
   |int i t =>
    have hi:(decide (i.natAbs.log2<1920))=true:=hc.1;exact PySem.P.repr_of_int (of_decide_eq_true hi) fin0
   |str y t=>exact PySem.P.repr_of_str fin0 (wa hc.2.2)|list h1 h2 h3 h4=>exact repr_of_reads' (.list h1 h2 h3 h4) hc.1 (λ_=>z) hg (by have:=hc.2.1;omega) (λ_ _ e=>e) (λh' u tk hk=>fin h' u tk hk) (wa hc.2.2)|tuple h1 h2 h3 h4=>exact repr_of_reads' (.tuple h1 h2 h3 h4) hc.1 (λ_=>z) hg (by have:=hc.2.1;omega) (λ_ _ e=>e) (λh' u tk hk=>fin h' u tk hk) (wa hc.2.2)|dict h1 h2 h3 h4 h5=>exact repr_of_reads' (.dict h1 h2 h3 h4 h5) hc.1 (λ_=>z) hg (by have:=hc.2.1;omega) (λ_ _ e=>e) (λh' u tk hk=>fin h' u tk hk) (wa hc.2.2)
  ·cases er
def zD6:List D->Option R
 | [d]=>vW d|_=>none
def co_repr{K:qH}{mg:Str->Option Value}:COk K mg (λxs H Q=>∃x d r,xs=[x]/\Rep K mg H d x/\vW d=some r/\∃t,r=.v (.str t)/\Q (.str t) H) zD6:=by
 intro M H Z xs ds res Q f r e k
 match ds,e with
 | [d],e =>
  simp only[Reps]at r;obtain⟨v,r',rfl,r1,rfl⟩:=r;have e':=e;replace e':vW d=some res:=e';unfold vW at e';cases ep:pyD d with
  |none=>rw[ep]at e';cases e'
  |some p =>
   rw[ep]at e';dsimp only at e';split at e'
   ·cases e'
    exact⟨v,d,_,rfl,r1.mono zE,e,_,rfl,k.flat f rfl⟩
   ·cases e'
end
end DV
namespace L2
open PySem PySem.Spec PyProof.Rows
section
variable{X:Cx}{pins:List (Addr×Obj)}{O:List (Option V)}{H:Hp}{s:Shared}{h':Heap}
def Inv.turnLay{t':Nat}{fp:List Addr}{q:Addr}{xs:List V}(I:Inv X pins O H s)(hf:∀b∈fp,Qb X pins H b)(k:∀b o,b∉fp->s.heap.get? b=some o->h'.get? b=some o)(hq:s.heap.objs.size<=q)(new:yu X.prog X.w (upd H q (.t xs)) h' q (.t xs)):Inv X pins O (upd H q (.t xs)) {s with heap:=h',toks:=t'}:=by
 have hn:H q=none:=I.hok.fresh hq;have nq:∀b u,H b=some u->b≠q:=λb u e z=>by rw[z,hn]at e;cases e
 have nf:∀b u,H b=some u->b∉fp:=λb u e z=>by rw[(hf b z).1]at e;cases e
 refine I.step (g':=s.gens) (d':=s.drawn) (ch:=fp) (λb hb=>?_) (λb o _ _ hc e _=>k b o hc e) (λb o _ _ hc e _=>⟨o.slots,k b o hc e⟩) (λb o _ e n=>?_) (λb o hc e=>⟨o,k b o hc e⟩)
  (λb ys e=>?_) (λb o u e=>?_) (λb ps e=>⟨#[],?_⟩) (λm hm=>?_) (λb u e=>?_) I.bare
 ·obtain⟨_,f1,_,f3,f4,f5⟩:=hf b hb
  exact⟨f3,f1,f4,f5⟩
 ·have:b≠q:=λz=>by subst z;exact absurd (lt_of_lt_of_le (lt_size e) hq) (lt_irrefl _)
  rw[zc this];exact n
 ·rw[zc (nq b _ e)];exact e
 ·rw[zc (nq b _ e)];exact e
 ·rw[zc (nq b _ e),e];simp
 ·obtain⟨o,es,ep,ho,r⟩:=hm
  exact⟨o,es,ep,k _ o (λz=>(hf _ z).2.1 rfl) ho,r⟩
 ·by_cases hb:b=q
  ·subst hb;rw[yY]at e;cases e;exact new
  ·rw[zc hb]at e
   refine(I.hok b u e).stay (λc v hc q'=>k c v ?_ q') (λc q'=>?_) λc ys q'=>?_
   ·rcases hc with z|z
    ·rw[z];exact nf b u e
    ·exact nf c _ z
   ·rw[zc (nq c _ q')];exact q'
   ·rw[zc (nq c _ q')];exact q'
def Inv.turnL{t':Nat}{fp:List Addr}(I:Inv X pins O H s)(hf:∀b∈fp,Qb X pins H b)(k:∀b o,b∉fp->s.heap.get? b=some o->h'.get? b=some o):Inv X pins O H {s with heap:=h',toks:=t'}:=by
 have nf:∀b u,H b=some u->b∉fp:=λb u e z=>by rw[(hf b z).1]at e;cases e
 refine I.step (g':=s.gens) (d':=s.drawn) (ch:=fp) (λb hb=>?_) (λb o _ _ hc e _=>k b o hc e) (λb o _ _ hc e _=>⟨o.slots,k b o hc e⟩) (λ_ _ _ _ n=>n) (λb o hc e=>⟨o,k b o hc e⟩)
  (λ_ _ e=>e) (λ_ _ _ e=>e) (λb ps e=>⟨#[],by rw[e];simp⟩) (λm hm=>?_) (λb u e=>?_) I.bare
 ·obtain⟨_,f1,_,f3,f4,f5⟩:=hf b hb
  exact⟨f3,f1,f4,f5⟩
 ·obtain⟨o,es,ep,ho,r⟩:=hm
  exact⟨o,es,ep,k _ o (λz=>(hf _ z).2.1 rfl) ho,r⟩
 ·refine(I.hok b u e).stay (λc v hc q'=>k c v ?_ q') (λ_ q=>q) λ_ _ q=>q
  rcases hc with z|z
  ·rw[z];exact nf b u e
  ·exact nf c _ z
end
end L2
namespace DV
open PySem
section
variable{prog:Program}{w:World}{A:Around}{E:Value->Shared->Prop}{s:Shared}
def st_iter{α:Type}{Q:α->Shared->Prop}(hh:A.handled=none)(hE:∀h' e,(∀b o,s.heap.get? b=some o->h'.get? b=some o)->(∃o,h'.get? e=some o/\o.cls=.type "StopIteration")->E (.ref e) {s with heap:=h'}):wpAny (model prog w) A.in1 (Builtin.SmallTypes.stopIteration:Sem α) Q E s:=by
 unfold Builtin.SmallTypes.stopIteration;refine qB ?_;unfold newExc newTuple;refine qB (wpAny_newObj_type ?_ (by size_fits));refine qB (m:=firstArgMember _ _) (wpAny_of_eq (a:=Value.none) rfl ?_);refine wpAny_newObj_type ?_ (by size_fits);unfold raiseNew;have hh':A.in1.handled=none:=hh;refine qB (wpAny_handled ?_);rw[hh'];refine qB (qC (wpAny_throw ?_));exact hE _ _ (λb o eb=>qA _ (qA _ eb)) ⟨_,get?_push_size _ rfl,rfl⟩
def sp_tup{it t:Addr}{i:Nat}{items:Array Value}{Q:Option Value->Shared->Prop}(hh:A.handled=none)(hit:s.heap.IsTupleIter it t i)(ht:s.heap.IsTuple t items)
  (h1:∀x,items[i]?=some x->∀h',h'.IsTupleIter it t (i+1)->Heap.SameBut it s.heap h'->Q (some x) {s with heap:=h'})
  (h2:items[i]?=none->∀h' e,Heap.ExtBut it s.heap h'->(∃o,h'.get? e=some o/\o.cls=.type "StopIteration")->E (.ref e) {s with heap:=h'}) :
  wpAny (model prog w) A (callSpecial? (.ref it) (Str.ofString "__next__")) Q E s:=by
 have⟨o,ho,hc,hd⟩:=id hit;obtain⟨u,hu,_,n,du⟩:=ht;refine wpAny_callSpecial?_slot hit.typeIs F.slot_tuple_iterator_next (wpAny_call_entry F.slot_tuple_iterator_next hit.typeIs F.entry_tuple_iterator_next ?_ (F.args_tuple_iterator_next_1 _));refine qB (m:=field (.ref it) 0) (wpAny_field ho hd (x:=.ref t) rfl ?_);have nn:¬(Value.ref t==Value.none)=true:=qF;simp only[nn,Bool.false_eq_true,if_false];refine qB (m:=field (.ref it) 1) (wpAny_field ho hd (x:=.int i 0) rfl ?_);refine qB (m:=seqItems? (.ref t)) (wpAny_seqItems hu du ?_);cases hx:items[i]? with
 |some x =>
  simp only[Int.toNat_natCast,hx];refine qB (wpAny_setField ho hd (by simp) (qC ⟨x,rfl,h1 x hx _ ?_ (Heap.SameBut.update ..)⟩));exact⟨_,Heap.get?_update_self _ ho (Obj.isFreed_of_fields (Obj.data_mapFields hd _)),(Obj.cls_mapFields ..).trans hc,by rw[Obj.data_mapFields hd];simp[rawInt]⟩
 |none =>
  simp only[Int.toNat_natCast,hx];refine qB (wpAny_rule (qB (wpAny_setField ho hd (by simp) ?_)));refine st_iter hh λh' e k q=>h2 hx h' e (λb o nb eb=>k b o ?_) q
  exact(Heap.SameBut.update ..).extBut b o nb eb
structure Src(prog:Program)(w:World)(A:Around)(it l:Addr)(items:Array Value)(st:Nat->Heap->Prop):Prop where
 keep:∀{i:Nat} {h h':Heap},st i h->(∀b,b=it\/b=l->∀o,h.get? b=some o->h'.get? b=some o)->st i h'
 lt:∀{i:Nat} {h:Heap},st i h->it<h.objs.size
 next:∀{i:Nat} {s:Shared} {Q:Value->Shared->Prop} {E:Value->Shared->Prop},st i s.heap->(∀x,items[i]?=some x->∀h',st (i+1) h'->Heap.SameBut it s.heap h'->Q x {s with heap:=h'}) ->
  (items[i]?=none->∀h' e,Heap.ExtBut it s.heap h'->(∃o,h'.get? e=some o/\o.cls=.type "StopIteration")->E (.ref e) {s with heap:=h'})->wpAny (model prog w) A (Builtin.SmallTypes.nextOf (.ref it)) Q E s
def src_tup(hh:A.handled=none){it t:Addr}(ne:t≠it)(items:Array Value):Src prog w A it t items (λi h=>h.IsTupleIter it t i/\h.IsTuple t items) where
 keep:=λst k=>⟨st.1.at λo e=>k it (.inl rfl) o e,st.2.at λo e=>k t (.inr rfl) o e⟩
 lt:=λst=>by obtain⟨⟨o,e,_⟩,_⟩:=st;exact lt_size e
 next:=λ{i s Q E} st h1 h2=>by
  unfold Builtin.SmallTypes.nextOf;exact qB (sp_tup hh st.1 st.2 (λx hx h' a b=>qC (h1 x hx h' ⟨a,st.2.extBut b.extBut ne⟩ b)) h2)
def zD7(hh:A.handled=none){it t:Addr}(ne:t≠it)(items:Array Value):Src prog w A it t items (λi h=>h.IsListIter it t i/\h.IsList t items) where
 keep:=λst k=>⟨st.1.at λo e=>k it (.inl rfl) o e,st.2.at λo e=>k t (.inr rfl) o e⟩
 lt:=λst=>by obtain⟨⟨o,e,_⟩,_⟩:=st;exact lt_size e
 next:=λ{i s Q E} st h1 h2=>by
  cases hx:items[i]? with
  |some x=>exact wpAny_nextOf_list_item st.1 st.2 hx λh' a b=>h1 x hx h' ⟨a,st.2.extBut b.extBut ne⟩ b|none=>exact wpAny_nextOf_list_end hh st.1 st.2 hx (h2 hx)
end
abbrev itO(c:String)(l:Addr):Obj:={cls:=.type c,data:=.fields #[.ref l,.int 0 0]}
section
variable{prog:Program}{w:World}{A:Around}{E:Value->Shared->Prop}{s:Shared}
def SqO(h:Heap)(t:Bool)(l:Addr)(xs:Array Value):Prop:=if t then h.IsTuple l xs else h.IsList l xs
end
end DV
namespace DV
open PySem L2 PySem.Spec PyProof.Rows
def SqH(K:qH)(H:Hp)(t:Bool)(a:Addr)(xs:List V):Prop:=if t then SqT K H a xs else SqL K H a xs
section
variable{X:Cx}{pins:List (Addr×Obj)}{O:L2.St}{H:Hp}{s:Shared}{a b:Addr}{xs ys:List V}
def G0{t:Bool}(I:Inv X pins O H s)(h:SqH X.K H t a xs):∃its:List Value,yG xs its/\SqO s.heap t a its.toArray:=by
 cases t with
 |true =>
  obtain⟨its,r,p,_⟩:=I.tuple h;exact⟨its,r,p⟩
 |false =>
  obtain⟨its,r,p,_⟩:=I.list h;exact⟨its,r,p.isList⟩
def sqh_inj{t:Bool}(I:Inv X pins O H s)(h:SqH X.K H t a xs)(h':SqH X.K H t a ys):xs=ys:=by
 cases t with
 |true=>exact I.tuple_inj h h'|false=>exact I.list_inj h h'
def zFT{t:Bool}(I:Inv X pins O H s)(h:SqH X.K H t a xs)(f:Qb X pins H b):a≠b:=by
 intro z;subst z;have key:∀o,X.K.lookup a=some o->False:=λo hk=>by
  have hb:=I.ok.mod.kin a o hk;have e:=I.ok.bs a o hb;rcases f.2.2.2.1 with q|q
  ·exact I.ok.noex a o hb q
  ·exact absurd (lt_of_lt_of_le (lt_size e.1) q) (lt_irrefl _)
 have key2:∀u,Rd H a u->False:=λu r=>by
  rcases r with r|⟨o,r⟩<;>rw[f.1]at r<;>cases r
 cases t with
 |true =>
  rcases h with h|⟨o,its,n,hk,_⟩
  ·exact key2 _ h
  ·exact key o hk
 |false =>
  rcases h with h|⟨o,its,n,hk,_⟩
  ·exact key2 _ h
  ·exact key o hk
end
def ItA(t:Bool)(h:Heap)(it l:Addr)(i:Nat):Prop:=if t then h.IsTupleIter it l i else h.IsListIter it l i
def zFU{t:Bool}{h h':Heap}{it l:Addr}{i:Nat}(x:ItA t h it l i)(k:∀o,h.get? it=some o->h'.get? it=some o):ItA t h' it l i:=by
 cases t with
 |true=>exact Heap.IsTupleIter.at x k|false=>exact Heap.IsListIter.at x k
def zB9{t:Bool}{h:Heap}{it l:Addr}{i:Nat}(x:ItA t h it l i):∃o,h.get? it=some o/\∀v,o.data≠.cell v:=by
 cases t with
 |true=>obtain⟨o,e,c,d⟩:=x;exact⟨o,e,λv z=>by rw[d]at z;cases z⟩|false=>obtain⟨o,e,c,d⟩:=x;exact⟨o,e,λv z=>by rw[d]at z;cases z⟩
def srcA{prog:Program}{w:World}{A:Around}(hh:A.handled=none)(t:Bool){it l:Addr}(ne:l≠it)(items:Array Value):Src prog w A it l items (λi h=>ItA t h it l i/\SqO h t l items):=by
 cases t with
 |true=>exact src_tup hh ne items|false=>exact zD7 hh ne items
section
variable{X:Cx}{K:qH}{mg:Str->Option Value}{O:L2.St}{H:Hp}
def YT{t:Bool}{a:Addr}{xs:List V}{H H':Hp}(e:Yj H H')(h:SqH K H t a xs):SqH K H' t a xs:=by
 cases t with
 |true=>exact zH e h|false=>exact e.seq h
end
end DV
namespace DV
open PySem L2
section
variable{X:Cx}
def seqD:Bool->D->Option (List D)
 |true,.t ds=>some ds|false,.l ds=>some ds|_,_=>none
def rep_seq{K:qH}{mg:Str->Option Value}{H:Hp}{t:Bool}{d:D}{ds:List D}{v:V}(e:seqD t d=some ds)(r:Rep K mg H d v):∃a xs,v=.ref a/\SqH K H t a xs/\Reps K mg H ds xs:=by
 cases t with
 |true =>
  cases d with
  |t es=>cases e;exact za r|_=>cases e
 |false =>
  cases d with
  |l es=>cases e;exact zU r|_=>cases e
end
section
variable{X:Cx}{K:qH}{mg:Str->Option Value}{O:L2.St}{M:Addr->Prop}{E:zN}{H:Hp}
def zD8{J:It}{ds:List D}{Iv:Hp->Prop}{O0 O':L2.St}{E0 E':zN}{H1 H' H'':Hp}{i:Nat}{x:V}(it:ItOk K mg J ds Iv)(hlt:i<ds.length)(gb:Got K mg M O0 E0 H1 [] O' E' H' [])(ivb:Iv (Hm (Mo M (O'.zip E')) H'))(y:J.yld i H' x H'') :
  ∃d,ds[i]?=some d/\Got K mg M O0 E0 H1 [] O' E' H'' []/\Iv (Hm (Mo M (O'.zip E')) H'')/\Rep K mg (Hm (Mo M (O'.zip E')) H'') d x:=by
 obtain⟨d,hd,h⟩:=it.yld i _ _ x _ zE ivb hlt y;rcases h with⟨rfl,rx⟩|⟨q,xs,es,hq,rfl,rfl,rfl,rs⟩
 ·exact⟨d,hd,gb,ivb,rx⟩
 ·have f:FR K mg M H' (O'.zip E'):=gb.fr
  have f1:=f.newTup hq rs;have s1:Step M H' (O'.zip E') (upd H' q (.t xs)) ((some (.ref q),.v (.t es))::O'.zip E'):=Step.newVal hq;obtain⟨v,ev,rv⟩:=f1.val _ _ qE;cases ev;have sm:=s1.same;rw[wT]at rv sm;have s2:Step M H' (O'.zip E') (upd H' q (.t xs)) (O'.zip E'):=⟨sm,s1.keep⟩;exact⟨_,hd,⟨gb.len,f1.tail,gb.st.trans s2,gb.pk⟩,it.mono _ _ sm ivb,rv⟩
def sForI(mi:MI)(tg:MG)(body:MS):MS:=λE=>match mi E with
 | .z=>.z| .exc x E1=>.exc x E1| .ok (ds,E1)=>wX tg body ds E1
def zD9{mi:MI}{tg:MG}{g:TG}{body:MS}{D:Ends}(hg:GOk X g tg)(h:tS X (sForI mi tg body) D O H):tFor (tMI X mi) g (tS X body) D O H:=by
 obtain⟨M,E,hl,fr,k⟩:=Qq h;unfold sForI at k;refine⟨M,E,hl,fr,?_⟩;cases ei:mi E with
 |z=>rw[ei]at k;exact k|exc x E1=>rw[ei]at k;exact λH' g=>k O H' g
 |ok p =>
  obtain⟨ds,E1⟩:=p;rw[ei]at k;intro J Iv H1 it iv g1;refine⟨λi m O1 H2=>m=ds.length-i/\i<=ds.length/\∃E2,Got X.K X.mg M O E H [] O1 E2 H2 []/\Iv (Hm (Mo M (O1.zip E2)) H2)/\Fin X M O E H D (wX tg body (ds.drop i) E2),⟨ds.length,by simp,zero_le _,E1,g1,iv,k⟩,?_⟩
  rintro i m O1 H2 ⟨rfl,hi,E2,g2,iv2,fin⟩
  by_cases hlt:i<ds.length
  ·refine .inr ⟨it.go i _ H2 zE iv2 hlt,λO3 H3=>i+1<=ds.length/\∃E3,Got X.K X.mg M O E H [] O3 E3 H3 []/\Iv (Hm (Mo M (O3.zip E3)) H3)/\Fin X M O E H D (wX tg body (ds.drop (i+1)) E3),λO3 H3 q=>⟨ds.length-(i+1),by omega,rfl,q⟩,λx H3 y=>?_⟩
   obtain⟨d,hd,g3,iv3,rx⟩:=zD8 it hlt g2 iv2 y;have ed:ds.drop i=d::ds.drop (i+1):=by
    obtain⟨hi',rfl⟩:=qG.mp hd;exact drop_eq_getElem_cons hi'
   rw[ed]at fin;exact ZU hg g3 rx fin λO4 E4 H4 g4 st fin4=>⟨hlt,E4,g4,it.mono _ _ st.same iv3,fin4⟩
  ·have e:i=ds.length:=by omega
   subst e;rw[drop_length]at fin;exact .inl ⟨it.stop _ _ H2 zE iv2 (le_refl _),fin O1 H2 g2⟩
def sk_forI{tgt iter:Expr}{body:List Stmt}{mi:MI}{g:TG}{tg:MG}{mb:MS}{pos:Pos}(hp:PassesOwn (model X.prog X.w) X.A X.env X.xe)(hc:X.calm=true)(hi:IOk X tgt iter mi)(hg:PG X tgt g)(ho:GOk X g tg)(hb:Gr X body mb)
  (hs:∀x,foldedSetIterable iter X.env x=pure x:=by intro _;rfl):SOk X (.For tgt iter body [] pos) (sForI mi tg mb):=yW (Qd hp hc hi hg hb hs) λD O H=>zD9 ho
end
end DV
namespace DV
open PySem L2 PySem.Spec PyProof.Rows
section
variable{prog:Program}{w:World}{A:Around}{E:Value->Shared->Prop}{s:Shared}
def en_next{e it l:Addr}{k:Nat}{items:Array Value}{st:Nat->Heap->Prop}{old:Value}{Q:Value->Shared->Prop}(S:Src prog w A it l items st)(ne:e≠it)(nl:l≠e)(he:IsEnum s.heap e it k old)(h1:st k s.heap)
  (hQ:∀x,items[k]?=some x->∀h',IsEnumOut h' e it ((k:Int)+1) x s.heap.objs.size->st (k+1) h'->IsPair h' s.heap.objs.size (.int k s.toks) x->(∀b o,b≠e->b≠it->s.heap.get? b=some o->h'.get? b=some o)->Q (.ref s.heap.objs.size) {s with heap:=h',toks:=s.toks+1})
  (hE:items[k]?=none->∀h' x,Heap.ExtBut it s.heap h'->(∃o,h'.get? x=some o/\o.cls=.type "StopIteration")->E (.ref x) {s with heap:=h'}) :
  wpAny (model prog w) A (Builtin.«enumerate.__next__» ⟨[.ref e],[]⟩) (λfin s'=>∃v,fin=.done (.ret v)/\Q v s') E s:=by
 obtain⟨hp,g,d,tk,os⟩:=s;refine qB (m:=field (.ref e) 2) (wpAny_field he rfl (x:=.ref it) rfl (qB (S.next h1 (λx hx g1 s1 b1=>?_) hE)));have b1:Heap.SameBut it hp g1:=b1;have e1:IsEnum g1 e it k old:=(b1.2 e ne).trans he;refine qB (m:=field (.ref e) 3) (wpAny_field e1 rfl (x:=rawInt k) rfl ?_);refine qB (m:=field (.ref e) 4) (wpAny_field e1 rfl (x:=.none) rfl ?_);refine qB (m:=mkInt k) (wpAny_mkInt ?_);refine qB (m:=setField (.ref e) 3 (rawInt ((k:Int)+1))) (wpAny_setField_rec e1 (by simp) λg2 e2 b2=>?_);have b2:Heap.SameBut e g1 g2:=b2;have e2:IsEnum g2 e it ((k:Int)+1) old:=e2;refine qB (m:=setField (.ref e) 4 .none) (wpAny_setField_rec e2 (by simp) λg3 e3 b3=>?_);have b3:Heap.SameBut e g2 g3:=b3;have e3:IsEnum g3 e it ((k:Int)+1) old:=e3;refine qB (m:=newTuple [.int k tk,x]) (wpAny_newTuple ?_);have sz:g3.objs.size=hp.objs.size:=by rw[b3.1,b2.1,b1.1]
 have el:e<hp.objs.size:=lt_size he;have e4:IsEnum (g3.push {cls:=.type "tuple",data:=.seq #[.int k tk,x]}) e it ((k:Int)+1) old:=qA _ e3;have p4:IsPair (g3.push {cls:=.type "tuple",data:=.seq #[.int k tk,x]}) hp.objs.size (.int k tk) x:=by rw[<- sz];exact get?_push_size _ rfl
 have k4:∀b o,b≠e->g1.get? b=some o->(g3.push {cls:=.type "tuple",data:=.seq #[.int k tk,x]}).get? b=some o:=λb o nb q=>qA _ (b3.extBut b o nb (b2.extBut b o nb q))
 generalize g3.push {cls:=.type "tuple",data:=.seq #[.int k tk,x]}=g4 at e4 p4 k4;refine qB (m:=Builtin.SmallTypes.ownedTupleIsFree (.ref e)) ?_;rw[sz];unfold Builtin.SmallTypes.ownedTupleIsFree;refine qB (wpAny_field e4 rfl (x:=.none) rfl (qC ?_));simp only[if_true];refine qB (wpAny_rule (qB (wpAny_field e4 rfl (x:=old) rfl (qB (wpAny_setField_rec e4 (by simp) λg5 e5 b5=>?_)))));have b5:Heap.SameBut e g4 g5:=b5;have e5:IsEnum g5 e it ((k:Int)+1) x:=e5;refine qB (m:=Builtin.SmallTypes.ownedTupleHandOut (.ref e) (.ref hp.objs.size)) ?_;unfold Builtin.SmallTypes.ownedTupleHandOut;refine qB (wpAny_setField_rec e5 (by simp) λg6 e6 b6=>?_);have b6:Heap.SameBut e g5 g6:=b6;have e6:IsEnumOut g6 e it ((k:Int)+1) x hp.objs.size:=e6;refine wpAny_setField_rec e6 (by simp) λg7 e7 b7=>?_
 have b7:Heap.SameBut e g6 g7:=b7;have e7:IsEnumOut g7 e it ((k:Int)+1) x hp.objs.size:=e7;have up:∀b o,b≠e->g4.get? b=some o->g7.get? b=some o:=λb o nb q=>b7.extBut b o nb (b6.extBut b o nb (b5.extBut b o nb q))
 refine qB (wpAny_letGo (qC ⟨_,rfl,hQ x hx g7 e7 (S.keep s1 λb hb o q=>?_) (up _ _ (Nat.ne_of_gt el) p4) λb o nb ni q=>up b o nb (k4 b o nb (b1.extBut b o ni q))⟩));have nb:b≠e:=by rcases hb with rfl|rfl;exact ne.symm;exact nl
 exact up b o nb (k4 b o nb q)
def ur{e it l:Addr}{k:Nat}{items:Array Value}{st:Nat->Heap->Prop}{old:Value}{Q:Option Value->Shared->Prop}(S:Src prog w A.in1 it l items st)(ne:e≠it)(nl:l≠e)(he:IsEnum s.heap e it k old)(h1:st k s.heap)
  (hQ:∀x,items[k]?=some x->∀h',IsEnumOut h' e it ((k:Int)+1) x s.heap.objs.size->st (k+1) h'->IsPair h' s.heap.objs.size (.int k s.toks) x->(∀b o,b≠e->b≠it->s.heap.get? b=some o->h'.get? b=some o)->Q (some (.ref s.heap.objs.size)) {s with heap:=h',toks:=s.toks+1})
  (hE:items[k]?=none->∀h',(∀b o,b≠it->s.heap.get? b=some o->h'.get? b=some o)->Q none {s with heap:=h'}):wpAny (model prog w) A (pyNext (.ref e)) Q E s:=by
 have hT:s.TypeIs (.ref e) "enumerate":=⟨_,he,rfl⟩;unfold pyNext;refine qB (wpAny_attempt (wpAny_callSpecial?_slot hT F.slot_enumerate_next (wpAny_call_entry F.slot_enumerate_next hT F.entry_enumerate_next (en_next S ne nl he h1 (λx hx h' a1 a2 a3 a4=>?_) λhx h' y hk q=>?_) (F.args_enumerate_next_1 _))))
 ·exact qC (hQ x hx h' a1 a2 a3 a4)
 ·obtain⟨o,ho,hc⟩:=q
  exact qB (wpAny_isInstance (T:="StopIteration") (b:=true) ⟨o,ho,hc⟩ isSubtype_stop (qC (hE hx h' λb o nb e=>hk b o nb e)))
end
def Ite(K:qH)(t:Bool)(a:Addr):It :=
 ⟨λi H=>∃xs,SqH K H t a xs/\i<xs.length,
  λi H x H'=>∃q u,(∀xs,SqH K H t a xs->xs[i]?=some u)/\H q=none/\H'=upd H q (.t [.int i,u])/\x=.ref q,
  λi H=>∃xs,SqH K H t a xs/\xs.length<=i⟩
def ESt(e it:Addr)(t:Bool)(a:Addr)(i:Nat)(h:Heap):Prop:=(∃old,IsEnum h e it i old)/\ItA t h it a i
def zCA{P:Program}{w:World}{K:qH}{elts:List Expr}{x1}{pos:Pos}{e it:Addr}(ne:e≠it)(t:Bool)(a:Addr):Turn P w K (.Tuple elts x1 pos) (Ite K t a) [e,it] e (ESt e it t a) where
 mem:=by simp
 obj:=λi h st c hc=>by
  obtain⟨⟨old,he⟩,h1⟩:=st;simp only[mem_cons,mem_nil_iff,or_false]at hc;rcases hc with rfl|rfl
  ·exact⟨_,he,λv z=>by cases z⟩
  ·exact zB9 h1
 keep:=λi h h' st k=>by
  obtain⟨⟨old,he⟩,h1⟩:=st;exact⟨⟨old,k e (by simp) _ he⟩,zFU h1 λo q=>k it (by simp) o q⟩
 item:=by
  intro X hP hw hK hc i pins s O H E I hf st hg;subst hP hw hK;obtain⟨⟨old,he⟩,h1⟩:=st;obtain⟨xs,q1,l1⟩:=hg;obtain⟨us,r1,p1⟩:=G0 I q1;have na:∀c∈[e,it],a≠c:=λc hc=>zFT I q1 (hf c hc)
  have hh:X.A.in1.handled=none:=I.ok.hd hc;obtain⟨u,eu⟩:∃u,xs[i]?=some u:=⟨_,getElem?_eq_getElem l1⟩;obtain⟨u',eu',ru⟩:=r1.get eu;refine ur (srcA hh t (na it (by simp)) us.toArray) ne (na e (by simp)) he ⟨h1,p1⟩ (λx hx h' o1 s1 pq kk=>?_) (λhx=>?_)
  ·have ex:x=u':=by simp[eu']at hx;exact hx.symm
   subst ex;refine⟨_,rfl,wpAny_letOwnedTupleGo_enum o1 λh2 z2 b2=>?_⟩;have lt:∀{c o},s.heap.get? c=some o->s.heap.objs.size≠c:=λq=>Nat.ne_of_gt (lt_size q)
   have pq2:IsPair h2 s.heap.objs.size (.int i s.toks) x:=b2.extBut _ _ (lt he) pq;have k2:∀c o,c∉[e,it]->s.heap.get? c=some o->h2.get? c=some o:=λc o hc q=>b2.extBut _ _ (λz=>hc (by simp[z])) (kk c o (λz=>hc (by simp[z])) (λz=>hc (by simp[z])) q)
   have new:yu X.prog X.w (upd H s.heap.objs.size (.t [.int i,u])) h2 s.heap.objs.size (.t [.int i,u]):=⟨by simp[sizeLine_eq],[.int i s.toks,x],.cons ⟨_,rfl⟩ (.cons ru .nil),⟨_,pq2,rfl,_,rfl⟩⟩;have I2:=I.turnLay (t':=s.toks+1) hf k2 (le_refl _) new;have fresh:H s.heap.objs.size=none:=I.hok.fresh (le_refl _);refine⟨.ref s.heap.objs.size,_,I2,rfl,⟨_,u,λzs hz=>by rw[sqh_inj I hz q1];exact eu,fresh,rfl,rfl⟩,⟨⟨_,by have:=z2;simpa using this⟩,zFU s1.1 λo q=>b2.extBut _ _ ne.symm q⟩,λc hc=>?_⟩;have:c≠s.heap.objs.size:=λq=>by
    obtain⟨o,e⟩:∃o,s.heap.get? c=some o:=by
     simp only[mem_cons,mem_nil_iff,or_false]at hc;rcases hc with rfl|rfl
     ·exact⟨_,he⟩
     ·obtain⟨o,e,_⟩:=zB9 h1;exact⟨o,e⟩
    exact lt e q.symm
   rw[zc this];exact(hf c hc).1
  ·exfalso
   simp[eu']at hx
 done:=by
  intro X hP hw hK hc i pins s O H E I hf st hg;subst hP hw hK;obtain⟨⟨old,he⟩,h1⟩:=st;obtain⟨xs,q1,l1⟩:=hg;obtain⟨us,r1,p1⟩:=G0 I q1;have na:∀c∈[e,it],a≠c:=λc hc=>zFT I q1 (hf c hc)
  have hh:X.A.in1.handled=none:=I.ok.hd hc;have e1:=r1.length;refine ur (srcA hh t (na it (by simp)) us.toArray) ne (na e (by simp)) he ⟨h1,p1⟩ (λx hx=>?_) (λhx h' kk=>⟨rfl,?_⟩)
  ·exfalso
   simp at hx
   have a1:=(qG.mp hx).1;omega
  ·exact I.turnL (t':=s.toks) hf λc o hc q=>kk c o (λz=>hc (by simp[z])) q
 self:=λ_ _ _ _ _ st h=>by
  obtain⟨⟨old,he⟩,_⟩:=st;exact wpAny_pyIter_enum he h
end DV
namespace DV
open PySem L2 PySem.Spec PyProof.Rows
open AutoSeq1 (wpAny_loadPart')
abbrev enH(h:Heap)(c:String)(l:Addr):Heap:=(h.push (itO c l)).push {cls:=.type "enumerate",data:=.fields #[.none,.bool false,.ref h.objs.size,rawInt 0,.none,.none]}
def en_newT(l:Addr)(items:Array Value)(n:Nat)(dd:Option Addr)(sl:Array (Option Value)) :
  Meets (Builtin.«enumerate.__new__» ⟨[.type "enumerate",.ref l],[]⟩) (λ_ R s=>s.heap.get? l=some {cls:=.type "tuple",dict:=dd,data:=.seq items n,slots:=sl}/\R (.ok (.ret (.ref (s.heap.push (itO "tuple_iterator" l)).objs.size))) {s with heap:=enH s.heap "tuple_iterator" l}) :=
 .of_wp λprog w A R s h=>by
  obtain⟨hp,g,d,tk,os⟩:=s;obtain⟨hl,h⟩:=h;have hs:=sub_enumerate;have a1:Heap.IsTuple (Shared.heap ⟨hp,g,d,tk,os⟩) l items:=⟨_,hl,rfl,n,rfl⟩
  wp_walk using wpAny_loadPart' hl
  refine wpAny_stack_any λst=>qC ?_
  split
  ·rename_i c _ _ _ _ _
   cases (c==Value.type "enumerate")<;>(wp_walk using wpAny_loadPart' hl,wpAny_pyIter_tuple a1;exact⟨_,rfl,h⟩)
  ·wp_walk using wpAny_loadPart' hl,wpAny_pyIter_tuple a1;exact⟨_,rfl,h⟩
section
variable{prog:Program}{w:World}{A:Around}{E:Value->Shared->Prop}{s:Shared}
structure En(h h':Heap)(c:String)(l:Addr):Prop where
 e:IsEnum h' (h.objs.size+1) h.objs.size 0 .none
 i:h'.get? h.objs.size=some (itO c l)
 kp:∀b o,h.get? b=some o->h'.get? b=some o
def en_call{t:Bool}{l:Addr}{xs:Array Value}{Q:Value->Shared->Prop}(h1:SqO s.heap t l xs)(h:∀h',(IsEnum h' (s.heap.objs.size+1) s.heap.objs.size 0 .none)->ItA t h' s.heap.objs.size l 0->(∀b o,s.heap.get? b=some o->h'.get? b=some o)->Q (.ref (s.heap.objs.size+1)) {s with heap:=h'}):wpAny (model prog w) A (call (.type "enumerate") [.ref l]) Q E s:=by
 cases t with
 |false =>
  exact call_enumerate_list h1 λh' a b c k=>h h' a b k
 |true =>
  obtain⟨⟨cl,dd,da,sl⟩,e,c,n,d⟩:=(h1:s.heap.IsTuple l xs);simp only at c d;subst c d;refine callType_new F.called_enumerate (by decide) (F.typeCall_enumerate_1 _) (F.newCall_enumerate_1 _) (λobj=>F.args_object_init_2 obj _) F.entry_enumerate_new (en_newT l xs n dd sl) ⟨e,?_⟩;have hz:(s.heap.push (itO "tuple_iterator" l)).objs.size=s.heap.objs.size+1:=size_push ..;have g1:(enH s.heap "tuple_iterator" l).get? (s.heap.push (itO "tuple_iterator" l)).objs.size=some _:=get?_push_size _ rfl;rw[hz]at g1;show _/\_;rw[hz];exact⟨⟨_,g1,rfl⟩,h _ g1 ⟨_,qA _ (get?_push_size _ rfl),rfl,rfl⟩ λb o x=>qA _ (qA _ x)⟩
end
section
variable{X:Cx}{K:qH}{mg:Str->Option Value}{O:L2.St}{H:Hp}
def iEnum(K:qH)(t:Bool)(ta:TA):TI:=λO H R=>ta O H λvs H1=>∃a xs,vs=[.ref a]/\SqH K H1 t a xs/\R (Ite K t a) H1
def bt_enum:bootBuiltins "enumerate"=some (.type "enumerate"):=by decide +kernel
def pi_enum{t:Bool}{e:Expr}{ta:TA}{elts:List Expr}{x1}{tp p pos:Pos}(hg:Gl X "enumerate")(hm:X.mg "enumerate"=none)(ha:PA X [e] ta)(hs:starEach [e] X.env=[(false,eval e X.env)]:=by rfl) :
  PI X (.Tuple elts x1 tp) (.Call (.Name "enumerate" p) [e] [] pos) (iEnum X.K t ta):=by
 intro pins s O H R I h;refine Call_ (Ws I hg hm bt_enum (PyProof.Rows.callWith_type1 (thn (ha pos pins s O H _ I h) λus s1 ⟨vs,H1,I1,r1,q1⟩=>?_) hs rfl));obtain⟨a,xs,ev,qa,q⟩:=q1;subst ev;cases r1 with
 |cons r rr =>
  cases rr;cases r;obtain⟨u1,v1,p1⟩:=G0 I1 qa;refine en_call p1 λh' z0 z1 kp=>?_
  refine wpAny_pyIter_enum (s:={s1 with heap:=h'}) z0 ?_
  have fr:∀c,s1.heap.objs.size<=c->Qb X pins H1 c:=λc hc=>I1.fpOk hc (I1.hok.fresh hc)
  have nn:s1.heap.objs.size+1≠s1.heap.objs.size:=λz=>by have:=Nat.succ_ne_self s1.heap.objs.size;exact this z
  refine⟨_,[s1.heap.objs.size+1,s1.heap.objs.size],_,_,H1,rfl,I1.kept (t':=s1.toks) kp,zCA nn t a,⟨⟨_,z0⟩,z1⟩,λc hc=>?_,q⟩;simp only[mem_cons,mem_nil_iff,or_false]at hc;rcases hc with rfl|rfl
  ·exact fr _ (le_succ _)
  ·exact fr _ (le_refl _)
def ut:Nat->List D->List D
 |_,[]=>[]|n,d::ds=>.t [.int (n:Int),d]::ut (n+1) ds
theorem vX:∀(ds:List D) (n:Nat),(ut n ds).length=ds.length
 | [],_=>rfl|d::ds,n=>by simp[ut,vX ds]
theorem Q1:∀(ds:List D) (n i:Nat) (d:D),ds[i]?=some d->(ut n ds)[i]?=some (.t [.int ((n+i:Nat):Int),d])
 | [],_,_,_,h=>by simp at h|e::ds,n,0,d,h=>by simp at h;subst h;simp[ut]
 |e::ds,n,i+1,d,h=>by
  simp only[List.getElem?_cons_succ]at h;have:=Q1 ds (n+1) i d h;simp only[ut,List.getElem?_cons_succ];rw[this,show n+1+i=n+(i+1)by omega]
def it_enum{t:Bool}{a:Addr}{xs:List V}{ds:List D}:ItOk K mg (Ite K t a) (ut 0 ds) (λH=>SqH K H t a xs/\Reps K mg H ds xs) where
 mono:=λH H' s h=>⟨YT s h.1,h.2.mono s⟩
 go:=λi Hh H s h hi=>by
  rw[vX]at hi;exact⟨xs,YT s h.1,by rw[h.2.length];omega⟩
 yld:=λi Hh H x H' s h hi y=>by
  obtain⟨q,u,h1,hq,rfl,rfl⟩:=y;have e1:=h1 xs (YT s h.1);obtain⟨d,g1,r1⟩:=h.2.get e1;refine⟨_,Q1 ds 0 i d g1,.inr ⟨q,[.int (i:Int),u],[.int ((0+i:Nat):Int),d],hq,rfl,rfl,rfl,Reps.cons (by rw[zero_add];simp only[Rep]) (Reps.cons r1 Reps.nil)⟩⟩
 stop:=λi Hh H s h hi=>by
  rw[vX]at hi;exact⟨xs,YT s h.1,by rw[h.2.length];omega⟩
def iE(t:Bool)(m:MA):MI:=λE=>match m E with
 | .z=>.z| .exc x E1=>.exc x E1
 | .ok ([r],E1)=>match seqD t r.d with
  |some ds=>.ok (ut 0 ds,E1)|none=>.z
 |_=>.z
def io_enum{t:Bool}{a:Expr}{m:MA}{elts:List Expr}{x1}{tp p cpos:Pos}(hgl:Gl X "enumerate")(hm:X.mg "enumerate"=none)(ha:AOk X [a] m)(hst:zT a=false:=by rfl) :
  IOk X (.Tuple elts x1 tp) (.Call (.Name "enumerate" p) [a] [] cpos) (iE t m):=ug (pi_enum hgl hm ha (zDY hst)) λO H R ⟨M,E,hl,fr,k⟩=>by
 unfold iE at k;refine Jk (T0:=[]) hl fr ?_;cases ea:m E with
 |z=>rw[ea]at k;exact k|exc x E1=>rw[ea]at k;exact k
 |ok p =>
  obtain⟨rs,E1⟩:=p;rw[ea]at k
  match rs,k with
  | [r],k =>
   intro vs H1 hv g1;have rp:=Got.reps hv g1;dsimp only at k;cases ed:seqD t r.d with
   |none=>rw[ed]at k;exact k.elim
   |some ds =>
    rw[ed]at k;simp only[List.map]at rp;obtain⟨v,rfl,h1⟩:=YM rp;obtain⟨c,xs,rfl,c1,c2⟩:=rep_seq ed h1;exact⟨c,xs,rfl,YT zE c1,k _ _ H1 it_enum ⟨c1,c2⟩ g1.dropAll⟩
  | [],k=>exact k.elim|_::_::_,k=>exact k.elim
end
end DV
namespace PySem
open Sem (wp)
open AutoSeq1 (wpAny_loadPart')
end PySem
namespace L2
open PySem PySem.Spec PyProof.Rows
end L2
namespace DV
open PySem L2
section
variable{X:Cx}{K:qH}{mg:Str->Option Value}{P P':Addr->Prop}{H:Hp}{a:Addr}{xs:List V}
def zCB(mi:MI)(tg:MG)(body:MS):MS:=λE=>match mi E with
 | .exc x E1=>.exc x E1
 |_=>(match sForI mi tg body E with
  | .exc _ _=>.z|o=>o)
def ps_forX{tg iter:Expr}{body:List Stmt}{wi:TI}{pos:Pos}(hi:PI X tg iter wi)(hs:∀x,foldedSetIterable iter X.env x=pure x):PS X (.For tg iter body [] pos) (λD O H=>wi O H λ_ _=>False):=by
 intro pins s O H D I h;refine wpAny_For (thn (hi pins s O H _ I h) λv s1 h1=>thn h1 λitv s2 h2=>?_) hs;obtain⟨it,fp,tn,J,H2,e,I2,T,st2,f2,f⟩:=h2;exact f.elim
end
def tupI:D->Option (List Int)
 | .t ds=>Jr ds|_=>none
def tupIs:List D->Option (List (List Int))
 | []=>some []
 |d::ds=>match tupI d,tupIs ds with
  |some a,some as=>some (a::as)|_,_=>none
def inT(neg:Bool)(d:D):D->Option R
 | .l ds=>match tupI d,tupIs ds with
  |some a,some as=>some (.v (.bl (if neg then !as.contains a else as.contains a)))|_,_=>none
 |_=>none
def inG(neg:Bool)(d e:D):Option R:=match inF neg d e with
 |some r=>some r|none=>inT neg d e
end DV
namespace DV
open PySem L2 PyProof.Rows PySem.Calls
end DV
namespace DV
open PySem L2
section
variable{X:Cx}{O:L2.St}{pins:List (Addr×Obj)}{H:Hp}{s:Shared}
def zEA:PGet X (λx y H Q=>∃(p:Addr) (xs:List V) (i:Nat) (v:V),x=.ref p/\y=.int (i:Nat)/\SqL X.K H p xs/\xs[i]?=some v/\Q v H):=by
 intro pins s O H x y v u Q I rx ry h;obtain⟨p,xs,i,z,rfl,rfl,hq,he,q⟩:=h;cases rx;obtain⟨t,rfl⟩:=ry;obtain⟨its,r,pl,hz⟩:=I.list hq;obtain⟨w,ew,rw'⟩:=r.get he;have hi:i<xs.length:=(qG.mp he).1;have hn:=uM;exact wpAny_getItem_list (x:=w) pl.isList (by omega) (by omega) (by simpa using ew) ⟨z,H,I,rw',q⟩
def sAugIx(i:Nat)(mi mv:ME):MS:=λE=>if yg E[i]?=true then .z else match mi E with
 | .ok (.v (.int k),E1)=>(match E1[i]? with
  |some s1=>(match s1.list? with
   |some ds1=>if k<0 then .z else(match ds1[k.toNat]? with
    |some (.int a)=>(match mv E1 with
     | .ok (.v (.int b),E2)=>(match E2[i]? with
      |some s2=>(match s2.list? with
       |some ds2=>(match ixN ds2.length k with
        |some j=>.ok (.nx,E2.set i (s2.put (ds2.set j (.int (a+b)))))|none=>.z)
       |none=>.z)
      |none=>.z)
     |_=>.z)
    |_=>.z)
   |none=>.z)
  |none=>.z)
 |_=>.z
def zCC{i:Nat}{mi mv:ME}{D:Ends}(h:tS X (sAugIx i mi mv) D O H):tAugS (vD i) (tM X mi) (tM X mv) (λx y H Q=>∃(p:Addr) (xs:List V) (i:Nat) (v:V),x=.ref p/\y=.int (i:Nat)/\SqL X.K H p xs/\xs[i]?=some v/\Q v H) (ipI λi j=>i+j) rSetL D O H:=by
 obtain⟨M,E,hl,fr,k⟩:=h;unfold sAugIx at k;cases em:yg E[i]? with
 |true=>rw[em]at k;exact k.elim
 |false =>
  rw[em]at k;obtain⟨s,hs1,hs2⟩:=Jo em;obtain⟨v,hv⟩:=Zy hl fr hs1 hs2;refine⟨v,hv,?_⟩;refine ze (T0:=[]) hl fr ?_;simp only[Bool.false_eq_true,if_false]at k;cases ea:mi E with
  |z=>rw[ea]at k;exact k.elim|exc x E1=>rw[ea]at k;exact k.elim
  |ok p =>
   obtain⟨r1,E1⟩:=p;rw[ea]at k;cases r1 with
   |own ds=>exact k.elim|dct _ _=>exact k.elim
   |v d =>
    cases d with
    |int n =>
     intro y H1 g1;dsimp only at k;have ey:=zK g1.rep;subst ey;cases e1:E1[i]? with
     |none=>rw[e1]at k;exact k.elim
     |some s1 =>
      rw[e1]at k;dsimp only at k;cases e2:s1.list? with
      |none=>rw[e2]at k;exact k.elim
      |some ds1 =>
       rw[e2]at k;dsimp only at k;by_cases hn:n<0
       ·rw[if_pos hn]at k;exact k.elim
       ·rw[if_neg hn]at k
        obtain⟨m,rfl⟩:=Int.eq_ofNat_of_zero_le (Int.not_lt.mp hn);rw[Int.toNat_natCast]at k;cases e3:ds1[m]? with
        |none=>rw[e3]at k;exact k.elim
        |some d1 =>
         rw[e3]at k;cases d1 with
         |int a =>
          dsimp only at k;obtain⟨o,h1,h2⟩:=jt g1.len e1;obtain⟨ad,xs,ev,w1,_,w3⟩:=g1.frame.ownL _ s1 ds1 h2 e2;subst ev;have ev:v=.ref ad:=by rw[hv]at h1;exact qJ (qJ h1)
          subst ev;obtain⟨u,eu,ru⟩:=w3.get' e3;have eui:=zK ru;subst eui;refine⟨ad,xs,m,.int a,rfl,rfl,SqL.of w1,eu,?_⟩;refine ze (T0:=[(some (.int (m:Nat)),(R.v (.int (m:Nat))).slot)]) g1.len g1.fr ?_;cases eb:mv E1 with
          |z=>rw[eb]at k;exact k.elim|exc x E2=>rw[eb]at k;exact k.elim
          |ok p =>
           obtain⟨r2,E2⟩:=p;rw[eb]at k;cases r2 with
           |own ds=>exact k.elim|dct _ _=>exact k.elim
           |v d =>
            cases d with
            |int b =>
             intro z H2 g2;have g:=g1.trans' g2;dsimp only at k;cases e4:E2[i]? with
             |none=>rw[e4]at k;exact k.elim
             |some s2 =>
              rw[e4]at k;dsimp only at k;cases e5:s2.list? with
              |none=>rw[e5]at k;exact k.elim
              |some ds2 =>
               rw[e5]at k;dsimp only at k;cases e6:ixN ds2.length (m:Int)with
               |none=>rw[e6]at k;exact k.elim
               |some j =>
                rw[e6]at k;have rp:=Got.reps (vs:=[z,.int (m:Nat)]) (rs:=[.v (.int b),.v (.int (m:Nat))]) rfl g;simp only[List.map,Reps]at rp;obtain⟨z',_,q1,rz,_,_,q2,_,_⟩:=rp;cases q1;have ez:=zK rz;obtain⟨o',h1',h2'⟩:=jt g.len e4;obtain⟨a',xs',ev',w1',_,w3'⟩:=g.frame.ownL _ s2 ds2 h2' e5;subst ev';have ev':V.ref ad=.ref a':=by rw[hv]at h1';exact qJ (qJ h1')
                cases ev';obtain⟨p,hp,g'⟩:=g.mut e4 e5 (w3'.set j (d:=.int (a+b)) (v:=.int (a+b)) (by simp only[Rep]));have ep:p=ad:=by rw[h1']at hp;cases hp;rfl
                subst ep;exact⟨a,b,rfl,ez,p,xs',(m:Int),j,rfl,rfl,w1',by rw[w3'.length];exact e6,k O _ g'⟩
            |_=>exact k.elim
         |_=>exact k.elim
    |_=>exact k.elim
def zEB(i:Nat){x:Str}{b e:Expr}{mi mv:ME}{p p1 pos:Pos}(hv:PE X (.Name x p) (vD i))(hb:EOk X b mi)(he:EOk X e mv)(ha:∀ov iv new,augStore b ov iv new=(do holding [new,ov,iv] (setItem ov iv new);release [new,ov,iv] [];pure .next)) :
  SOk X (.AugAssign (.Subscript (.Name x p) b p1) .Add e pos) (sAugIx i mi mv) :=
 yW (zAx hv hb zEA he zAy Qf ha) λD O H=>zCC
end
end DV
namespace DV
open PySem PyProof.Rows
end DV
namespace DV
open PySem L2
abbrev TA:=Addr->St->Hp->(St->Hp->Prop)->Prop
def PA(Y:Cx)(act:Value->Env->Sem PySem.Fin->Sem PySem.Fin)(ta:TA):Prop:=∀(D:Addr) (pins:List (Addr×Obj)) (s:Shared) (O:St) (H:Hp) (Nx:St->Hp->Prop) (k:Sem PySem.Fin) (Q:PySem.Fin->Shared->Prop) (E:Value->Shared->Prop),Inv Y pins O H s->ta D O H Nx ->
 (∀O' H' s',Inv Y pins O' H' s'->Nx O' H'->wpAny (model Y.prog Y.w) Y.A k Q E s')->wpAny (model Y.prog Y.w) Y.A (act (.ref D) Y.env k) Q E s
end DV
namespace DV
open PySem PyProof.Rows
end DV
namespace DV
open PySem L2
def uu(K:qH)(H:Hp)(a:Addr)(es:List DE):Prop:=H a=some (Yl a es)/\∀e∈es,SqT K H e.2.1 (e.1.map oV)
section
variable{X:Cx}{pins:List (Addr×Obj)}{O:L2.St}{H:Hp}{s:Shared}{a:Addr}{es:List DE}
def rDIx(K:qH):R2:=λx y H Q=>∃a es kb ks v,x=.ref a/\uu K H a es/\y=.ref kb/\SqT K H kb (ks.map oV)/\atE es ks=some v/\Q v H
def ix_dic(hu:X.A.units+1<cLine):IxR X (rDIx X.K):=by
 intro value slice pins s O H x y v u Q I rx ry h hs;obtain⟨a,es,kb,ks,w,rfl,⟨e,hk⟩,rfl,hb,hat,q⟩:=h;cases rx;cases ry;obtain⟨xs,r,hm,hd,_⟩:=Zo I e hk;obtain⟨p,hp,rw'⟩:=jy.at r hat
 exact PyProof.Rows.tail_any hm.typeIs slot_dict_getitem.lookup (wpAny_getItem_heap (tupleKind_room_in1 hu) (Zn I hb) hm hp ⟨w,H,I.tok _,rw',q⟩) hs
def G1{h:Heap}{xs:List DX}(hm:h.DictOfH (tupleKind (Gg X.prog X.w)) a xs)(hd:(a==sysModules)=false)(hl:es.length<=sizeLine)(r:jy es xs):zE8 a es h:=by
 obtain⟨o,esA,ep,h1,h2,h3,h4,_,h5⟩:=hm;exact⟨hd,hl,by rw[<- jy.keys r];exact h5,o,esA,ep,xs,h1,h2,h3,r,h4⟩
def rSetD(K:qH):V->V->V->Hp->(Hp->Prop)->Prop:=λo i v H Q=>∃a es kb ks,o=.ref a/\uu K H a es/\i=.ref kb/\SqT K H kb (ks.map oV)/\es.length<1000000/\Q (upd H a (Yl a (Gh es ks kb v)))
def zCD(hu:X.A.units+1<cLine):PSet X (rSetD X.K):=by
 intro pins s O H o i v ov iv u Q I ro ri rv h;obtain⟨a,es,kb,ks,rfl,⟨e,hk⟩,rfl,hb,hl,q⟩:=h;cases ro;cases ri;obtain⟨xs,r,hm,hd,hz,hn⟩:=Zo I e hk;have hsl:(1000000:Nat)<=sizeLine:=by decide +kernel
 have hlen:xs.length=es.length:=by have:=congrArg length (jy.keys r);simpa using this
 refine wpAny_setItem_heap (tupleKind_room_in1 hu) (Zn I hb) hm (λh' hm' sb=>?_) (by omega);have dp:zE8 a (Gh es ks kb v) h':=G1 hm' hd (by have:=(Zm (k:=ks) (ka:=kb) (v:=v) hn).2;omega) (r.put rv);obtain⟨_,_,_,o',_,_,_,e',_⟩:=id dp;refine⟨_,I.write (x:=a) (e:=a) (by rw[e];trivial) (.inl rfl) (λb w hb' q'=>(sb.2 b hb').trans q') ⟨o',e'⟩ (Qg dp),q⟩
end
def uv:List D->Option (List KN)
 | []=>some []| .int i::ds=>(uv ds).map (some i::·)| .non::ds=>(uv ds).map (none::·)|_::_=>none
def vY:D->Option (List KN)
 | .t ds=>uv ds|_=>none
def YU:List (List KN)->List D->List KN->Option D
 |k::ks,v::vs,q=>if k=q then some v else YU ks vs q|_,_,_=>none
def setV:List (List KN)->List D->List KN->D->List D
 |k::ks,v::vs,q,d=>(if k=q then d else v)::setV ks vs q d|_,vs,_,_=>vs
def uw(ks:List (List KN))(vs:List D)(q:List KN)(d:D):List (List KN)×List D:=match YU ks vs q with
 |some _=>(ks,setV ks vs q d)|none=>(ks++[q],vs++[d])
section
variable{K:qH}{mg:Str->Option Value}{X:Cx}{O:L2.St}{H:Hp}{M:Addr->Prop}
theorem G2:∀{ds:List D} {ks:List KN} {xs:List V},uv ds=some ks->Reps K mg H ds xs->xs=ks.map oV
 | [],_,_,e,r=>by cases e;simp only[Reps]at r;subst r;rfl
 |d::ds,ks,xs,e,r=>by
  simp only[Reps]at r;obtain⟨v,t,rfl,r1,r2⟩:=r;cases d with
  |int i =>
   simp only[uv]at e;cases h:uv ds with
   |none=>rw[h]at e;cases e|some q=>rw[h]at e;cases e;rw[zK r1,G2 h r2];rfl
  |non =>
   simp only[uv]at e;cases h:uv ds with
   |none=>rw[h]at e;cases e|some q=>rw[h]at e;cases e;rw[Gq r1,G2 h r2];rfl
  |_=>cases e
def Yv{d:D}{ks:List KN}{v:V}(e:vY d=some ks)(r:Rep K mg H d v):∃kb,v=.ref kb/\SqT K H kb (ks.map oV):=by
 cases d with
 |t ds =>
  obtain⟨a,xs,rfl,h1,h2⟩:=za r;rw[G2 e h2]at h1;exact⟨a,rfl,h1⟩
 |_=>cases e
theorem we:∀{es:List DE} {vs:List D} {q:List KN} {d:D},Reps K mg H vs (es.map (·.2.2))->YU (es.map (·.1)) vs q=some d->∃v,atE es q=some v/\Rep K mg H d v
 | [],_,_,_,_,e=>by simp[YU]at e
 |x::es,vs,q,d,r,e=>by
  cases vs with
  |nil=>simp[YU]at e
  |cons y vs =>
   simp only[map_cons,Reps]at r;obtain⟨v,t,h0,r1,r2⟩:=r;cases h0;simp only[map_cons,YU]at e;unfold atE;rw[find?_cons];by_cases h:x.1=q
   ·rw[if_pos h]at e;cases e
    rw[decide_eq_true h];exact⟨_,rfl,r1⟩
   ·rw[if_neg h]at e
    rw[decide_eq_false h];exact we r2 e
theorem Z9:∀{es:List DE} {vs:List D} {q:List KN},Reps K mg H vs (es.map (·.2.2))->YU (es.map (·.1)) vs q=none->atE es q=none
 | [],_,_,_,_=>rfl
 |x::es,vs,q,r,e=>by
  cases vs with
  |nil=>simp only[map_cons,Reps]at r;cases r
  |cons y vs =>
   simp only[map_cons,Reps]at r;obtain⟨v,t,h0,r1,r2⟩:=r;cases h0;simp only[map_cons,YU]at e;unfold atE;rw[find?_cons];by_cases h:x.1=q
   ·rw[if_pos h]at e;cases e
   ·rw[if_neg h]at e
    rw[decide_eq_false h];exact Z9 r2 e
def G3{es:List DE}{vs:List D}{q:List KN}(r:Reps K mg H vs (es.map (·.2.2))):(atE es q).isSome=(YU (es.map (·.1)) vs q).isSome:=by
 cases h:YU (es.map (·.1)) vs q with
 |none=>rw[Z9 r h];rfl|some d=>obtain⟨v,e,_⟩:=we r h;rw[e];rfl
theorem Q2:∀{es:List DE} {vs:List D} {q:List KN} {d:D} {v:V},Reps K mg H vs (es.map (·.2.2))->Rep K mg H d v->Reps K mg H (setV (es.map (·.1)) vs q d) ((es.map λe=>if e.1=q then(e.1,e.2.1,v)else e).map (·.2.2))
 | [],vs,_,_,_,r,_=>by
  cases vs with
  |nil=>exact r|cons _ _=>simp only[map_nil,Reps]at r;obtain⟨_,_,z,_⟩:=r;cases z
 |x::es,vs,q,d,v,r,rd=>by
  cases vs with
  |nil=>simp only[map_cons,Reps]at r;cases r
  |cons y vs =>
   simp only[map_cons,Reps]at r;obtain⟨w,t,h0,r1,r2⟩:=r;cases h0;simp only[map_cons,setV];refine Reps.cons ?_ (Q2 r2 rd);by_cases h:x.1=q
   ·rw[if_pos h,if_pos h];exact rd
   ·rw[if_neg h,if_neg h];exact r1
def G4{es:List DE}{vs:List D}{q:List KN}{kb:Addr}{d:D}{v:V}(r:Reps K mg H vs (es.map (·.2.2)))(rd:Rep K mg H d v) :
  (Gh es q kb v).map (·.1)=(uw (es.map (·.1)) vs q d).1/\Reps K mg H (uw (es.map (·.1)) vs q d).2 ((Gh es q kb v).map (·.2.2)):=by
 unfold Gh uw;rw[G3 r];cases h:YU (es.map (·.1)) vs q with
 |none =>
  simp only[Option.isSome_none,Bool.false_eq_true,if_false,map_append,map_cons,map_nil];exact⟨trivial,r.append (Reps.cons rd Reps.nil)⟩
 |some y =>
  simp only[Option.isSome_some,if_true];refine⟨?_,Q2 r rd⟩;rw[map_map];refine map_congr_left λe _=>?_
  simp only[Function.comp];split<;>rfl
def vZ{es:List DE}{q:List KN}{kb:Addr}{v:V}(h:∀e∈es,SqT K H e.2.1 (e.1.map oV))(hb:SqT K H kb (q.map oV)):∀e∈Gh es q kb v,SqT K H e.2.1 (e.1.map oV):=λe he=>by
 unfold Gh at he;split at he
 ·obtain⟨x,hx,rfl⟩:=mem_map.mp he
  have:=h x hx;split
  ·exact this
  ·exact this
 ·rcases mem_append.mp he with he|he
  ·exact h e he
  ·rw[mem_singleton.mp he];exact hb
def ctD:Slot->Option (List (List KN)×List D)
 | .dct ks vs=>some (ks,vs)| .v (.dct ks vs)=>some (ks,vs)|_=>none
def W0{E:zN}{i:Nat}{s:Slot}{ks:List (List KN)}{vs:List D}(hl:E.length=O.length)(f:FR K mg M H (O.zip E))(h:E[i]?=some s)(hs:ctD s=some (ks,vs)):∃a es,O[i]?=some (some (.ref a))/\H a=some (Yl a es)/\ks=es.map (·.1)/\(∀e∈es,SqT K (Hm (Mo M (O.zip E)) H) e.2.1 (e.1.map oV))/\Reps K mg (Hm (Mo M (O.zip E)) H) vs (es.map (·.2.2)):=by
 obtain⟨o,h1,h2⟩:=jt hl h;cases s with
 |dct ks' vs' =>
  cases hs;obtain⟨a,ho,rfl,e2,_,es,rfl,r1,r2,r3⟩:=f.own o _ _ h2 rfl;exact⟨a,es,h1,e2,r1,r2,r3⟩
 |v d =>
  cases d with
  |dct ks' vs' =>
   cases hs;obtain⟨v,rfl,r⟩:=f.val o _ h2;simp only[Rep]at r;obtain⟨a,es,rfl,e2,r1,r2,r3⟩:=r;exact⟨a,es,h1,zE _ _ e2,r1,r2,r3⟩
  |_=>cases hs
 |_=>cases hs
def eDgO(i:Nat)(m:ME):ME:=λE=>if yg E[i]?=true then .z else match m E with
 | .z=>.z| .exc x E1=>.exc x E1
 | .ok (r,E1)=>match E1[i]? with
  |some s=>match ctD s with
   |some (ks,vs)=>match vY r.d with
    |some q=>match YU ks vs q with
     |some d=>.ok (.v d,E1)|none=>.z
    |none=>.z
   |none=>.z
  |none=>.z
def dgO_run{i:Nat}{m:ME}{Q:VK}(h:tM X (eDgO i m) O H Q):tOp (rDIx X.K) (vD i) (tM X m) O H Q:=by
 obtain⟨M,E,hl,fr,k⟩:=h;unfold eDgO at k;cases em:yg E[i]? with
 |true=>rw[em]at k;exact k.elim
 |false =>
  rw[em]at k;simp only[Bool.false_eq_true,if_false]at k;obtain⟨s,hs1,hs2⟩:=Jo em;obtain⟨v,hv⟩:=Zy hl fr hs1 hs2;refine⟨v,hv,?_⟩;refine ze (T0:=[]) hl fr ?_;cases ea:m E with
  |z=>rw[ea]at k;exact k|exc x E1=>rw[ea]at k;exact k
  |ok p =>
   obtain⟨r,E1⟩:=p;rw[ea]at k;intro y H1 g;dsimp only at k;cases e1:E1[i]? with
   |none=>rw[e1]at k;exact k.elim
   |some s1 =>
    rw[e1]at k;dsimp only at k;cases e2:ctD s1 with
    |none=>rw[e2]at k;exact k.elim
    |some pr =>
     obtain⟨ks,vs⟩:=pr;rw[e2]at k;dsimp only at k;cases e3:vY r.d with
     |none=>rw[e3]at k;exact k.elim
     |some q =>
      rw[e3]at k;dsimp only at k;cases e4:YU ks vs q with
      |none=>rw[e4]at k;exact k.elim
      |some d =>
       rw[e4]at k;obtain⟨a,es,h1,h2,rfl,h4,h5⟩:=W0 g.len g.frame e1 e2;have ev:v=.ref a:=by rw[hv]at h1;exact qJ (qJ h1)
       subst ev;obtain⟨kb,rfl,hb⟩:=Yv e3 g.rep;obtain⟨w,hw,rw'⟩:=we h5 e4;exact⟨a,es,kb,q,w,rfl,⟨h2,λx hx=>zH zE (h4 x hx)⟩,rfl,zH zE hb,hw,k w H1 (g.more (T:=[(some w,.v d)]) (g.frame.add rw') Step.refl.add)⟩
def ok_dgO(i:Nat){x:Str}{b:Expr}{m:ME}{p pos:Pos}(hu:X.A.units+1<cLine)(hv:PE X (.Name x p) (vD i))(hs:Zj b)(hb:EOk X b m):EOk X (.Subscript (.Name x p) b pos) (eDgO i m) :=
 zf (pe_ix (ix_dic hu) hv hb hs) λO H Q h=>dgO_run h
def FR.mutD{Z:Fz}(h:FR K mg M H Z){i:Nat}{p:Addr}{ks:List (List KN)}{vs vs':List D}{es:List DE}(hi:Z[i]?=some (some (.ref p),.dct ks vs))(hk:∀e∈es,SqT K (Hm (Mo M Z) H) e.2.1 (e.1.map oV))(r:Reps K mg (Hm (Mo M Z) H) vs' (es.map (·.2.2))) :
  FR K mg M (upd H p (Yl p es)) (Z.set i (some (.ref p),.dct (es.map (·.1)) vs'))/\Step M H Z (upd H p (Yl p es)) (Z.set i (some (.ref p),.dct (es.map (·.1)) vs')):=by
 have eo:z7 (Z.set i (some (.ref p),.dct (es.map (·.1)) vs'))=z7 Z:=yi (show vJ (some (.ref p),Slot.dct (es.map (·.1)) vs')=vJ (some (.ref p),Slot.dct ks vs)from rfl) hi;have em:Mo M (Z.set i (some (.ref p),.dct (es.map (·.1)) vs'))=Mo M Z:=by unfold Mo;rw[eo]
 have hp:p∈z7 Z:=yx (c:=.d ks vs) (mem_of_getElem? hi) rfl rfl;obtain⟨o0,hH,hM,_⟩:=h.ownAt hp;have ehm:Hm (Mo M Z) (upd H p (Yl p es))=Hm (Mo M Z) H:=by
  funext b
  unfold Hm;by_cases hb:Mo M Z b
  ·simp[hb]
  ·have:b≠p:=λe=>hb (by subst e;exact .inr hp)
   simp[hb,zc this]
 have hlt:i<Z.length:=(qG.mp hi).1;have nd2:p∉z7 (Z.eraseIdx i):=by
  have pz:Z.Perm ((some (.ref p),.dct ks vs)::Z.eraseIdx i):=by
   have:=zQ (some (V.ref p),Slot.dct ks vs) Z i hlt;rw[jj hi]at this;exact this
  have nd:=(pz.filterMap vJ).nodup_iff.mp h.nd;have e:List.filterMap vJ ((some (V.ref p),Slot.dct ks vs)::Z.eraseIdx i)=p::z7 (Z.eraseIdx i):=rfl;rw[e]at nd;exact(nodup_cons.mp nd).1
 have pz2:(Z.set i (some (.ref p),.dct (es.map (·.1)) vs')).Perm ((some (.ref p),.dct (es.map (·.1)) vs')::Z.eraseIdx i):=zQ _ _ _ hlt;refine⟨⟨λo d q=>?_,λo s' c q e=>?_,by rw[eo];exact h.nd,λb q=>?_⟩,⟨by rw[em,ehm];exact Yj.refl _,λb o m e=>?_⟩⟩
 ·rw[em,ehm]
  rcases(List.mem_or_eq_of_mem_set q).symm with q|q
  ·cases q
  ·exact h.val o d q
 ·rw[em,ehm]
  rcases mem_cons.mp (pz2.mem_iff.mp q)with q'|q'
  ·cases q';cases e
   exact⟨p,_,rfl,yY,hM,es,rfl,rfl,hk,r⟩
  ·have q'':(o,s')∈Z:=(eraseIdx_sublist Z i).subset q'
   obtain⟨a,ho,e1,e2,e3,rr⟩:=h.own o s' c q'' e;have ne:a≠p:=λz=>by subst z;exact nd2 (yx q' e e1)
   exact⟨a,ho,e1,by rw[zc ne];exact e2,e3,rr⟩
 ·obtain⟨o,e,ko⟩:=h.mal b q
  by_cases z:b=p
  ·subst z;exact⟨_,yY,.inr ⟨_,rfl⟩⟩
  ·exact⟨o,by rw[zc z];exact e,ko⟩
 ·have ne:b≠p:=λz=>hM (by subst z;exact m)
  rw[zc ne];exact e
def sDput(i:Nat)(mk mv:ME):MS:=λE=>if yg E[i]?=true then .z else match mv E with
 | .z=>.z| .exc x E1=>.exc x E1
 | .ok (r,E1)=>match mk E1 with
  | .z=>.z| .exc x E2=>.exc x E2
  | .ok (r2,E2)=>match E2[i]? with
   |some (.dct ks vs)=>match vY r2.d with
    |some q=>if ks.length<1000000 then .ok (.nx,E2.set i (.dct (uw ks vs q r.d).1 (uw ks vs q r.d).2))else .z|none=>.z
   |_=>.z
def zEC{i:Nat}{mk mv:ME}{D:Ends}(h:tS X (sDput i mk mv) D O H):zE0 (tM X mv) (gSub (vD i) (tM X mk) (rSetD X.K)) D O H:=by
 obtain⟨M,E,hl,fr,k⟩:=h;unfold sDput at k;cases em:yg E[i]? with
 |true=>rw[em]at k;exact k.elim
 |false =>
  rw[em]at k;obtain⟨s,hs1,hs2⟩:=Jo em;obtain⟨v,hv⟩:=Zy hl fr hs1 hs2;refine ze (T0:=[]) hl fr ?_;simp only[Bool.false_eq_true,if_false]at k;cases ea:mv E with
  |z=>rw[ea]at k;exact k|exc x E1=>rw[ea]at k;exact λH' g=>k O H' g
  |ok p =>
   obtain⟨r,E1⟩:=p;rw[ea]at k;intro y H1 g1;refine⟨v,hv,?_⟩;refine ze (T0:=[(some y,r.slot)]) g1.len g1.fr ?_;dsimp only at k;cases eb:mk E1 with
   |z=>rw[eb]at k;exact k|exc x E2=>rw[eb]at k;exact λH' g=>k O H' (g1.trans' g).dropAll
   |ok p =>
    obtain⟨r2,E2⟩:=p;rw[eb]at k;intro z H2 g2;have g:=g1.trans' g2;dsimp only at k;cases e1:E2[i]? with
    |none=>rw[e1]at k;exact k.elim
    |some s1 =>
     rw[e1]at k;cases s1 with
     |dct ks vs =>
      dsimp only at k;cases e3:vY r2.d with
      |none=>rw[e3]at k;exact k.elim
      |some q =>
       rw[e3]at k;dsimp only at k;by_cases hc:ks.length<1000000
       ·rw[if_pos hc]at k
        have rp:=Got.reps (vs:=[z,y]) (rs:=[r2,r]) rfl g;simp only[List.map,Reps]at rp;obtain⟨z',_,q1,rz,y',_,q2,ry,_⟩:=rp;cases q1;cases q2;obtain⟨a,es,h1,h2,rfl,h4,h5⟩:=W0 g.len g.frame e1 rfl;have ev:v=.ref a:=by rw[hv]at h1;exact qJ (qJ h1)
        subst ev;obtain⟨kb,rfl,hb⟩:=Yv e3 rz;obtain⟨o,h1',h2'⟩:=jZ g.len e1;have eo:o=some (.ref a):=by rw[h1]at h1';exact(qJ h1').symm
        subst eo;obtain⟨pk1,pk2⟩:=G4 (q:=q) (kb:=kb) h5 ry;obtain⟨f,st⟩:=FR.mutD g.frame h2' (vZ h4 hb) pk2;rw[pk1]at f st;have e:=zS (E:=E2) (.dct (uw (es.map (·.1)) vs q r.d).1 (uw (es.map (·.1)) vs q r.d).2) h1;rw[<- e]at f st;refine⟨a,es,kb,q,rfl,⟨h2,λx hx=>zH zE (h4 x hx)⟩,rfl,zH zE hb,by simpa using hc,k O _ ?_⟩;exact⟨by simp[g.len],f,(g.st.weak (zC (sublist_append_right _ _))).trans st,g.pk.trans (Zq (ds0:=[]) e1 (λds' q=>by cases q) _)⟩
       ·rw[if_neg hc]at k;exact k.elim
     |_=>exact k.elim
def sk_dput(i:Nat){x:Str}{b e:Expr}{mk mv:ME}{p p1 pos:Pos}(hu:X.A.units+1<cLine)(hv:PE X (.Name x p) (vD i))(hb:EOk X b mk)(he:EOk X e mv)
  (ha:∀v,assign (.Subscript (.Name x p) b p1) X.env v=(do
   let ov <- holding [v] (eval (.Name x p) X.env)
   let iv <- holding [v,ov] (eval b X.env)
   standAt p1
   holding [v,ov,iv] (setItem ov iv v)
   release [v,ov,iv] []):=by intro _;rfl) (hs:swapsWithSole [.Subscript (.Name x p) b p1] e pos.line X.env=pure false:=by rfl):SOk X (.Assign [.Subscript (.Name x p) b p1] e pos) (sDput i mk mv) :=
 yW (zAv he (zEz hv hb (zCD hu) ha) hs) λD O H=>zEC
end
def G5{P:Program}{w:World}{H:Hp}(h:Heap)(hb:sysModules<h.objs.size):yu P w H (h.push {cls:=.type "dict",dict:=none,data:=.dict #[]}) h.objs.size (Yl h.objs.size []) :=
 Qg ⟨beq_eq_false_iff_ne.mpr (Ne.symm (ne_of_lt hb)),zero_le _,nodup_nil,_,#[],0,[],get?_push_size _ rfl,⟨rfl,rfl,rfl⟩,rfl,.nil,rfl⟩
def zAa{env:Env}(k v gens scope pos):eval (.DictComp k v gens scope pos) env=comprehension (.DictComp k v gens scope pos) scope env (firstIterPos gens pos) newDict (firstAsync gens) (firstIter gens env):=rfl
def actD(ke ve:Expr):Value->Env->Sem PySem.Fin->Sem PySem.Fin:=λacc env k=>do
 (do
  let kv <- eval ke env
  let vv <- holding [kv] (eval ve env)
  match acc with
  | .ref d=>do
   standAt {ke.pos with endLine:=ve.pos.endLine,endCol:=ve.pos.endCol}
   holding [kv,vv] (dictSet d kv vv)
  |_=>unsupported "internal:dictcomp")
 k
section
variable{prog:Program}{w:World}{A:Around}{R:Result->Shared->Prop}{s:Shared}{ke ve t0 i0 t1 i1:Expr}{f0 f1:List Expr}{scope:Scope}{pos:Pos}{it acc:Value}{env:Env}
def zAb{target iter:Expr}{ifs:List Expr}(h0:codeAny (model prog w) A (.compLoop (.DictComp ke ve [⟨target,iter,ifs,0⟩] scope pos) 0 it acc env) R s)
  (h:wpAny (model prog w) A (pyIter it) (λit' s'=>codeAny (model prog w) A (.compLoop (.DictComp ke ve [⟨target,iter,ifs,0⟩] scope pos) 0 it' acc env) R s') (notedBy (model prog w) A env λx s'=>R (.error x) s') s) :
  codeAny (model prog w) A (.compStart (.DictComp ke ve [⟨target,iter,ifs,0⟩] scope pos) 0 it acc env) R s:=by
 refine codeAny_of_tree (wpAny_notedAt ?_);refine qB (wpAny_askSetting (wpAny_ite ?_));split
 ·exact qB (qC (qC ⟨rfl,h0⟩))
 ·exact qB (wpAny_rule (qB (wpAny_standAt (qB (wpAny_mono h (λit' s' h'=>qC ⟨rfl,h'⟩) λx x_1 x_2=>x_2)))))
def turnD:compTurn (.DictComp ke ve [⟨t0,i0,f0,0⟩] scope pos) 0 it acc env=(do
  standAt i0.pos
  let r <- pyNext it
  match r with
  |none=>pure (.done .next)
  |some v=>do
   letOwnedTupleGo t0 it v
   assign t0 env v
   let ok <- forIn f0 true λc r=>if r=true then do let ok <- isTrue c env (eval c env);pure (ForInStep.yield ok)else pure (ForInStep.yield r)
   if ok=true then actD ke ve acc env (again (.compLoop (.DictComp ke ve [⟨t0,i0,f0,0⟩] scope pos) 0 it acc env))else again (.compLoop (.DictComp ke ve [⟨t0,i0,f0,0⟩] scope pos) 0 it acc env)):=rfl
def loopD{gens:List Comprehension}{d:Nat}{p:Pos}{t:Expr}{fs:List Expr}{act:Sem PySem.Fin->Sem PySem.Fin}
  (hT:compTurn (.DictComp ke ve gens scope pos) d it acc env=(do
   standAt p
   let r <- pyNext it
   match r with
   |none=>pure (.done .next)
   |some v=>do
    letOwnedTupleGo t it v
    assign t env v
    let ok <- forIn fs true λc r=>if r=true then do let ok <- isTrue c env (eval c env);pure (ForInStep.yield ok)else pure (ForInStep.yield r)
    if ok=true then act (again (.compLoop (.DictComp ke ve gens scope pos) d it acc env))else again (.compLoop (.DictComp ke ve gens scope pos) d it acc env)))
  (I:Nat->Shared->Prop)
  (turn:∀n s,I n s->wpAny (model prog w) A (pyNext it) (λr s₁=>match r with
   |none=>R (.ok .next) s₁
   |some v=>wpAny (model prog w) A (letOwnedTupleGo t it v) (λ_ s₁=>wpAny (model prog w) A (assign t env v) (λ_ s₂ =>
     wpAny (model prog w) A (forIn fs true λc r=>if r=true then do let ok <- isTrue c env (eval c env);pure (ForInStep.yield ok)else pure (ForInStep.yield r)) (λok s₃ =>
      if ok=true then ∀(k:Sem PySem.Fin) (Q:PySem.Fin->Shared->Prop),(∀s',(∃m,m<n/\I m s')->wpAny (model prog w) A k Q (notedBy (model prog w) A env λe s'=>R (.error e) s') s')->wpAny (model prog w) A (act k) Q (notedBy (model prog w) A env λe s'=>R (.error e) s') s₃
      else ∃m,m<n/\I m s₃) (notedBy (model prog w) A env λe s'=>R (.error e) s') s₂) (notedBy (model prog w) A env λe s'=>R (.error e) s') s₁) (notedBy (model prog w) A env λe s'=>R (.error e) s') s₁) (notedBy (model prog w) A env λe s'=>R (.error e) s') s)
  (n:Nat) (h:I n s):codeAny (model prog w) A (.compLoop (.DictComp ke ve gens scope pos) d it acc env) R s:=by
 refine codeAny_loop rfl I (λn s hI=>?_) n h;show wpAny _ A ((compTurn (.DictComp ke ve gens scope pos) d it acc env).onRaise (λx=>do noteFrame x env;theTreesLotGoes x)) _ _ s;refine wpAny_noted ?_;rw[hT];refine qB (wpAny_standAt (qB (wpAny_mono (turn n s hI) (λr s₁ h₁=>?_) λ_ _ h'=>h')));cases r with
 |none=>exact qC h₁
 |some v =>
  refine qB (wpAny_mono h₁ (λ_ s₁' h₁'=>?_) λ_ _ h'=>h');refine qB (wpAny_mono h₁' (λ_ s₂ h₂=>qB (wpAny_mono h₂ (λok s₃ h₃=>?_) λ_ _ h'=>h')) λ_ _ h'=>h');cases ok with
  |false=>exact qC ⟨rfl,h₃⟩|true=>exact h₃ _ _ λs' q=>qC ⟨rfl,q⟩
end
def taD(K:qH)(tk tv:TE):TA:=λD O H Nx=>tk O H λy H1=>tv O H1 λz H2=>∃es kb ks,y=.ref kb/\uu K H2 D es/\SqT K H2 kb (ks.map oV)/\es.length<1000000/\Nx O (upd H2 D (Yl D (Gh es ks kb z)))
def Q3(nl:Nat)(caps:List Nat)(wi:TI)(g:TG)(tt:TT)(ta:TA):TE:=λO H Q=>wi O H λJ H1=>∀D,H1 D=none->∃W:Nat->Nat->St->Hp->Prop,(∃m,W 0 m (L2.zZ nl caps O) (upd H1 D (Yl D [])))/\∀i m O' H',W i m O' H' ->
 (J.stop i H'/\Q (.ref D) H')\/(J.go i H'/\∃Nx:St->Hp->Prop,(∀O'' H'',Nx O'' H''->∃m',m'<m/\W (i+1) m' O'' H'')/\∀x H'',J.yld i H' x H''->g x O' H'' λO2 H2 =>
  tt O2 H2 λb H3=>if b=true then ta D O2 H3 Nx else Nx O2 H3)
def zFV{Y:Cx}{ke ve:Expr}{tk tv:TE}(hu:Y.A.units<cLine)(hx:∀e s,¬Y.xe e s)(hk:PE Y ke tk)(hv:PE Y ve tv):PA Y (actD ke ve) (taD Y.K tk tv):=λD pins s O H Nx k Q E I h hn=>by
 unfold actD;refine qB (qB (wpAny_mono (hk pins s O H _ I h) (λkv s1 h1=>?_) λ_ _ z=>absurd z (hx _ _)));obtain⟨y,H1,I1,r1,q1⟩:=h1;refine qB (wpAny_holding (wpAny_mono (hv pins s1 O H1 _ I1 q1) (λvv s2 h2=>?_) λ_ _ z=>absurd z (hx _ _)));obtain⟨z,H2,I2,r2,es,kb,ks,rfl,⟨e,hkk⟩,hb,hl,n2⟩:=h2;cases r1;dsimp only;refine qB (wpAny_standAt (wpAny_holding ?_));obtain⟨xs,r,hm,hd,hz,hnd⟩:=Zo I2 e hkk;have hsl:(1000000:Nat)<=sizeLine:=by decide +kernel
 have hlen:xs.length=es.length:=by have:=congrArg length (jy.keys r);simpa using this
 refine wpAny_dictSet_heap (knd:=tupleKind (Gg Y.prog Y.w)) hu (Zn I2 hb) hm (λh' hm' sb=>?_) (by omega);have dp:zE8 D (Gh es ks kb z) h':=G1 (X:=Y) hm' hd (by have:=(Zm (k:=ks) (ka:=kb) (v:=z) hnd).2;omega) (r.put r2);obtain⟨_,_,_,o',_,_,_,e',_⟩:=id dp;exact hn O _ _ (I2.write (x:=D) (e:=D) (by rw[e];trivial) (.inl rfl) (λb w hb' q'=>(sb.2 b hb').trans q') ⟨o',e'⟩ (Qg dp)) n2
section
variable{X:Cx}{ke ve target iter:Expr}{ifs:List Expr}{scope:Scope}{pos:Pos}{nl:Nat}{caps:List Nat}{N':List Str}
def W1{wi:TI}{g:TG}{tt:TT}{ta:TA}{use:Option (Value->Sem Unit)}{QQ:Value->Shared->Prop}{pins:List (Addr×Obj)}{s:Shared}{O:St}{H:Hp}{Q:VK}{p0:Pos}(hx:∀e s,¬X.xe e s)(hc:X.calm=true)(hkind:scope.kind=.function)(hnames:∀y∈scope.names,y.2=.local->scope.names.lookup y.1=some .local)(hcell:∀y∈scope.names,y.2=.cell->scope.names.lookup y.1=some .cell)
  (hfree:(scope.names.all λy=>y.2 != .free||X.env.kindOf y.1==some .cell)=true)
  (hlen:N'.length=nl+caps.length) (hcap:∀(i j:Nat),caps[i]?=some j->∃x,N'[nl+i]?=some x/\X.N[j]?=some x/\scope.names.lookup x=some .free)
  (hi:PI X target iter wi) (hg:∀cl C ex s H,PG (cxB X N' scope cl C ex s H) target g) (ht:∀cl C ex s H,zBn (cxB X N' scope cl C ex s H) ifs tt) (he:∀cl C ex s H,PA (cxB X N' scope cl C ex s H) (actD ke ve) ta)
  (hs:∀x,foldedSetIterable iter X.env x=pure x) (I:Inv X pins O H s) (h:Q3 nl caps wi g tt ta O H Q)
  (hfin:∀(D C:Addr) (H5:Hp) (s6:Shared) (m6:Str->Option Value),Inv X pins O H5 s6->Qb X pins H5 C->s6.heap.Ns C m6->Q (.ref D) H5->compPost (model X.prog X.w) X.A X.xe use QQ (.ref D) C (.ok .next) s6) :
  wpAny (model X.prog X.w) X.A (comprehension (.DictComp ke ve [⟨target,iter,ifs,0⟩] scope pos) scope X.env p0 newDict false (eval iter X.env) use) QQ X.xe s:=by
 have hfr:∀y∈scope.names,y.2=.free->X.env.kindOf y.1=some .cell:=λy hy e=>by
  have:=all_eq_true.mp hfree y hy;rw[e]at this;simpa using this
 have hcl:∀y∈scope.names,y.2=.free->∃c,X.env.cells.lookup y.1=some c:=λy hy e=>I.ok.has y.1 (.inl (hfr y hy e))
 have hclos:closureFor scope X.env=pure (Gc X.env scope.names []):=by
  simp only[closureFor];rw[JC scope.names [] hcl];rfl
 have cl1:∀x c,(Gc X.env scope.names []).lookup x=some c->X.env.cells.lookup x=some c:=λx c e=>(yy scope.names [] x hcl (λ_ z=>by cases z)).1 c e
 have cl2:∀x,(∃y∈scope.names,y.1=x/\y.2=.free)->∃c,(Gc X.env scope.names []).lookup x=some c:=λx q=>(yy scope.names [] x hcl (λ_ z=>by cases z)).2 (.inr q)
 generalize Gc X.env scope.names []=cl at hclos cl1 cl2;refine wpAny_comprehension_free (use:=use) rfl hs hclos hkind hnames (thn (hi pins s O H _ I h) λxv s1 h1=>thn h1 λitv s2 h2=>?_);obtain⟨it,fp,tn,J,H2,e,I2,T,st2,f2,turn⟩:=h2;subst e;refine wpAny_newObj_type (wU ?_) (by first|trivial|decide|simp[sizeOk]);dsimp only;generalize hH3:s2.heap.push {cls:=.type "dict",dict:=none,data:=.dict #[]}=h3;have hC:h3.objs.size=s2.heap.objs.size+1:=by rw[<- hH3,size_push]
 have hD:H2 s2.heap.objs.size=none:=I2.hok.fresh (le_refl _);obtain⟨W,⟨m0,w0⟩,step⟩:=turn s2.heap.objs.size hD
 -- the state at the block's entry
 have I3:Inv X pins O (upd H2 s2.heap.objs.size (Yl s2.heap.objs.size [])) {s2 with heap:=h3}:=by
  rw[<- hH3];exact I2.laid (t':=s2.toks) (λb o q=>qA _ q) (le_refl _) (G5 s2.heap (Inv.big I2))
 have hcfr:∀x,scope.names.lookup x=some .free->(x,NameKind.cell)∉scope.names:=λx e z=>by
  have:=hcell _ z rfl;rw[e]at this;cases this
 have szp:(h3.push {cls:=.type "dict",data:=.dict #[]}).objs.size=h3.objs.size+1:=size_push ..;have cw:∀x c,(cellsFrom (h3.objs.size+1) scope.names cl).lookup x=some c->cl.lookup x=some c\/((x,NameKind.cell)∈scope.names/\h3.objs.size+1<=c/\(pushCells (h3.push {cls:=.type "dict",data:=.dict #[]}) scope.names).IsCell c none):=λx c e=>by
  rw[<- szp]at e ⊢;exact YO _ _ _ x c e
 have cfr:∀x,scope.names.lookup x=some .free->(cellsFrom (h3.objs.size+1) scope.names cl).lookup x=cl.lookup x:=λx e=>Z5 _ _ _ x (hcfr x e)
 have chas:∀x,scope.names.lookup x=some .cell->∃c,(cellsFrom (h3.objs.size+1) scope.names cl).lookup x=some c:=λx e=>by
  have:=cellsFrom_some scope.names (h3.objs.size+1) cl (x:=x) (.inl e);exact Option.isSome_iff_exists.mp this
 have clt:∀x c,cl.lookup x=some c->c<h3.objs.size:=λx c e=>by
  obtain⟨v,q⟩:=I3.cell x c (cl1 x c e);exact q.lt
 have cinj:=Qs scope.names (h3.objs.size+1) cl (λx y c e1 e2=>I.ok.inj x y c (cl1 x c e1) (cl1 y c e2)) λx c e=>lt_succ_of_lt (clt x c e)
 have hns₁:(pushCells (h3.push {cls:=.type "dict",data:=.dict #[]}) scope.names).Ns h3.objs.size λ_=>none:=(Heap.Ns.new h3 (.type "dict")).keeps (pushCells_keeps _ _)
 have old:∀b o,h3.get? b=some o->(pushCells (h3.push {cls:=.type "dict",data:=.dict #[]}) scope.names).get? b=some o:=λb o e=>pushCells_keeps _ _ b o (qA _ e)
 generalize hh1:pushCells (h3.push {cls:=.type "dict",data:=.dict #[]}) scope.names=h₁ at hns₁ old cw ⊢;generalize hcs:cellsFrom (h3.objs.size+1) scope.names cl=cs at cw cfr chas cinj ⊢;have fpD:∀b∈fp,b≠s2.heap.objs.size:=λb hb z=>by
  obtain⟨o,e,_⟩:=T.obj 0 s2.heap st2 b hb;subst z;exact absurd (lt_size e) (lt_irrefl _)
 have fp3:∀b∈fp,upd H2 s2.heap.objs.size (Yl s2.heap.objs.size []) b=none:=λb hb=>by rw[zc (fpD b hb)];exact(f2 b hb).1
 have fpC:∀b∈fp,b≠h3.objs.size:=λb hb z=>by
  obtain⟨o,e,_⟩:=T.obj 0 s2.heap st2 b hb;have q:b<s2.heap.objs.size:=lt_size e;rw[z,hC]at q;exact absurd q (not_lt.mpr (le_succ _))
 have hCn:upd H2 s2.heap.objs.size (Yl s2.heap.objs.size []) h3.objs.size=none:=I3.hok.fresh (le_refl _);have fpok:∀b∈fp,(b∈X.ex\/X.s₀.heap.objs.size<=b)/\b≠X.env.locals/\(∀x c,X.env.cells.lookup x=some c->c≠b)/\∀p∈X.pn++pins,p.1≠b:=λb hb=>by
  obtain⟨_,q2,_,q4,q5,q6⟩:=f2 b hb;exact⟨q4,q2,q5,q6⟩
 have fpH:∀b∈fp,b<h3.objs.size:=λb hb=>by
  obtain⟨o,e,_⟩:=T.obj 0 s2.heap st2 b hb;have q:b<s2.heap.objs.size:=lt_size e;rw[hC];exact lt_succ_of_lt q
 have fpcs:∀b∈fp,∀x c,cs.lookup x=some c->c≠b:=λb hb x c e=>by
  rcases cw x c e with q|⟨_,q,_⟩
  ·exact(fpok b hb).2.2.1 x c (cl1 x c q)
  ·intro z;subst z
   exact absurd (lt_of_lt_of_le (fpH _ hb) (Nat.le_of_succ_le q)) (lt_irrefl _)
 let Y:Cx:=cxB X N' scope cs h3.objs.size fp {s2 with heap:=h3} (upd H2 s2.heap.objs.size (Yl s2.heap.objs.size []))
 have kindY:∀x k,Y.env.kindOf x=some k->∃k0,scope.names.lookup x=some k0/\(k=k0\/(k0=.free/\k=.cell)):=λx k e=>ju e
 have okY:Y.Ok:={
  mod:=I.ok.mod
  kind:=hkind
  glob:=I.ok.glob
  blt:=I.ok.blt
  above:=le_refl _
  inj:=cinj
  has:=λx q=>by
   have:scope.names.lookup x=some .cell\/scope.names.lookup x=some .free:=by
    rcases q with q|q
    ·obtain⟨k0,e,z⟩:=kindY x _ q
     rcases z with z|z
     ·subst z;exact .inl e
     ·rw[z.1]at e;exact .inr e
    ·obtain⟨k0,e,z⟩:=kindY x _ q
     rcases z with z|z
     ·subst z;exact .inr e
     ·rw[z.1]at e;exact .inr e
   rcases this with q|q
   ·exact chas x q
   ·obtain⟨c,e⟩:=cl2 x ⟨(x,.free),PySem.mem_of_lookup q,rfl,rfl⟩
    exact⟨c,by show cs.lookup x=_;rw[cfr x q];exact e⟩
  cab:=λx c z e=>by
   have z:scope.names.lookup x=some .cell:=by
    have z:(scope.names.lookup x==some NameKind.cell)=true:=z;simpa using z
   have e:cs.lookup x=some c:=e;rw[<- hcs]at e;exact le_trans (le_succ _) (Qr _ _ _ x c (PySem.mem_of_lookup z) e)
  hd:=I.ok.hd
  frames:=I.ok.frames
  stk:=.inl rfl
  exf:=λb hb=>⟨fpC b hb,fpcs b hb⟩
  bs:=λb o e=>I3.bs b o e
  bsz:=le_trans I.ok.bsz I3.sz
  noex:=λb o e hb=>by
   obtain⟨q,_⟩:=fpok b hb;rcases q with q|q
   ·exact I.ok.noex b o e q
   ·exact absurd (lt_of_lt_of_le (lt_size e) I.ok.bsz) (not_lt.mpr q)
  exfs:=λb hb z=>by
   have:=I2.stkSub b z;rcases mem_cons.mp this with q|q
   ·exact(fpok b hb).2.1 q
   ·exact(f2 b hb).2.2.1 q
  funs:=I3.stack
  frf:=I3.stkFree}
 have keep1:∀b o,h3.get? b=some o->h₁.get? b=some o:=old;have lenY:(L2.zZ nl caps O).length=N'.length:=by unfold L2.zZ;simp[hlen]
 have IY:Inv Y [] (L2.zZ nl caps O) (upd H2 s2.heap.objs.size (Yl s2.heap.objs.size [])) {s2 with heap:=h₁}:={
  ok:=okY
  os:=rfl
  bare:=I3.bare
  base:=Un.kept keep1
  loc:=by
   refine⟨_,hns₁,λi x v e1 e2 e3=>?_⟩;have e1:N'[i]?=some x:=e1;have hi:nl<=i:=by
    by_cases z:nl<=i
    ·exact z
    ·unfold L2.zZ at e2
     rw[getElem?_append_left (by simp;omega),List.getElem?_replicate]at e2;split at e2<;>cases e2
   unfold L2.zZ at e2;rw[getElem?_append_right (by simpa using hi),List.length_replicate,getElem?_map]at e2;cases ej:caps[i-nl]? with
   |none=>rw[ej]at e2;cases e2
   |some j =>
    rw[ej]at e2;simp only[Option.map_some,Option.some.injEq]at e2;obtain⟨x',c1,c2,c3⟩:=hcap (i-nl) j ej;have ex:x'=x:=by
     rw[show nl+(i-nl)=i by omega,e1]at c1;exact(qJ c1).symm
    subst ex;have e4:O[j]?=some (some v):=by
     cases z:O[j]? with
     |none=>rw[z]at e2;cases e2|some o=>rw[z]at e2;simp at e2;rw[e2]
    have kx:X.env.kindOf x'=some .cell:=hfr (x',.free) (PySem.mem_of_lookup c3) rfl;obtain⟨mm,_,lk⟩:=I3.loc;obtain⟨u,ru,lu⟩:=lk j x' v c2 e4 (.inr (.inl kx));refine⟨u,ru,?_⟩;rcases lu with⟨z,_⟩|⟨_,c,d1,d2⟩
    ·rw[kx]at z;cases z
    ·obtain⟨c',d3⟩:=cl2 x' ⟨(x',.free),PySem.mem_of_lookup c3,rfl,rfl⟩
     have:c'=c:=by have:=cl1 x' c' d3;rw[d1]at this;exact(qJ this).symm
     subst this;exact .inr ⟨.inl (wb c3 I.ok.kind kx),c',by show cs.lookup _=_;rw[cfr x' c3];exact d3,d2.keeps old⟩
  cell:=λx c e=>by
   rcases cw x c e with e|⟨_,_,q⟩
   ·obtain⟨v,q⟩:=I3.cell x c (cl1 x c e)
    exact⟨v,q.keeps old⟩
   ·exact⟨_,q⟩
  free:=hCn
  freeC:=λx c e=>by
   rcases cw x c e with e|⟨_,q,_⟩
   ·exact I3.freeC x c (cl1 x c e)
   ·exact I3.hok.fresh (le_trans (le_succ _) q)
  pin:=λp hp=>absurd (show p∈([]:List (Addr×Obj))from hp) (by simp)
  hok:=I3.hok.kept old
  len:=lenY}
 have st1:tn 0 h₁:=T.keep 0 s2.heap h₁ st2 λb hb o e=>old b o (by rw[<- hH3];exact qA _ e)
 have fpY:∀{H':Hp},(∀b∈fp,H' b=none)->∀b∈fp,Qb Y [] H' b:=λhn b hb =>
  ⟨hn b hb,fpC b hb,okY.exfs b hb,.inl hb,fpcs b hb,λp hp=>absurd (show p∈([]:List (Addr×Obj))from hp) (by simp)⟩
 have hA:Y.A=X.A:=rfl;have noE:∀{E':Value->Shared->Prop} {e:Value} {s:Shared},X.xe e s->E' e s:=λq=>absurd q (hx _ _)
 have fin:∀s₄:Shared,s₄={s2 with heap:=h₁} ->
   codeAny (model X.prog X.w) X.A (.compLoop (.DictComp ke ve [⟨target,iter,ifs,0⟩] scope pos) 0 (.ref it) (.ref s2.heap.objs.size) Y.env)
    (compPost (model X.prog X.w) X.A X.xe use QQ (.ref s2.heap.objs.size) h3.objs.size) s₄:=by
  rintro s₄ rfl
  refine loopD (act:=actD ke ve (.ref s2.heap.objs.size) Y.env) turnD (λn s'=>∃i O' H',Inv Y [] O' H' s'/\tn i s'.heap/\(∀b∈fp,H' b=none)/\W i n O' H') ?_ m0 ⟨0,L2.zZ nl caps O,_,IY,st1,fp3,w0⟩
  rintro n s5 ⟨i,O5,H5,I5,st5,fr5,w5⟩
  rcases step i n O5 H5 w5 with⟨stop,q⟩|⟨go,Nx,hN,turn⟩
  ·refine wpAny_mono (T.done Y rfl rfl rfl hc i [] s5 O5 H5 (λ_ _=>False) I5 (fpY fr5) st5 stop) (λr s6 ⟨hr,I6⟩=>?_) (λ_ _ z=>z.elim)
   subst hr;obtain⟨m6,n6,_⟩:=I6.loc;have u:Un (frs X.stack) fp (upd H2 s2.heap.objs.size (Yl s2.heap.objs.size [])) H5 h3 s6.heap:=I6.base;have I7:Inv X pins O H5 s6:=I3.call' (s':=s6) (ch:=fp) I6.os u I6.hok I6.bare fpok;exact hfin _ _ H5 s6 m6 I7 (I3.fpOk (le_refl _) I6.free) n6 q
  ·refine wpAny_mono (T.item Y rfl rfl rfl hc i [] s5 O5 H5 (λ_ _=>False) I5 (fpY fr5) st5 go) (λr s6 ⟨u,hr,h6⟩=>?_) (λ_ _ z=>z.elim)
   subst hr;refine wpAny_mono h6 (λ_ s7 ⟨x,H7,I7,r7,y7,st7,fr7⟩=>?_) (λ_ _ z=>z.elim);have I7':=I7.pinned (fpY fr7) (T.obj _ _ st7);refine wpAny_mono (hg _ _ _ _ _ _ s7 O5 H7 x u _ I7' r7 (turn x H7 y7)) (λ_ s8 ⟨O8,H8,I8,q8⟩=>?_) (λ_ _ z=>noE z);refine wpAny_mono (ht _ _ _ _ _ _ s8 O8 H8 _ I8 q8) (λb s9 ⟨H9,I9,q9⟩=>?_) (λ_ _ z=>noE z);have again:∀{O7:St} {H':Hp} {s':Shared},Inv Y ([]++Wt fp s7.heap) O7 H' s'->Nx O7 H'->∃m,m<n/\∃i O' H',Inv Y [] O' H' s'/\tn i s'.heap/\(∀b∈fp,H' b=none)/\W i m O' H':=λ{O7 H' s'} I' n7=>by
    obtain⟨m',hm,w7⟩:=hN O7 H' n7;refine⟨m',hm,i+1,O7,H',I'.unpinned,T.keep _ _ _ st7 λb hb o e=>(I'.pin (b,o) (qK _ (qK _ (jX hb e)))).1,λb hb=>?_,w7⟩;obtain⟨o,e,d⟩:=T.obj _ _ st7 b hb;exact(I'.pin (b,o) (qK _ (qK _ (jX hb e)))).2.1
   cases b with
   |false =>
    rw[if_neg qF]at q9 ⊢;exact again I9 q9
   |true =>
    rw[if_pos rfl]at q9 ⊢;exact λk Qk hk=>he _ _ _ _ _ _ _ s9 O8 H9 Nx k Qk _ I9 q9 λO' H' s' I' n'=>hk s' (again I' n')
 exact zAb (fin _ rfl) (T.self X.A 0 _ _ _ st1 (fin _ rfl))
def zED{wi:TI}{g:TG}{tt:TT}{ta:TA}(hx:∀e s,¬X.xe e s)(hc:X.calm=true)(hkind:scope.kind=.function)(hnames:∀y∈scope.names,y.2=.local->scope.names.lookup y.1=some .local)(hcell:∀y∈scope.names,y.2=.cell->scope.names.lookup y.1=some .cell)
  (hfree:(scope.names.all λy=>y.2 != .free||X.env.kindOf y.1==some .cell)=true)
  (hlen:N'.length=nl+caps.length) (hcap:∀(i j:Nat),caps[i]?=some j->∃x,N'[nl+i]?=some x/\X.N[j]?=some x/\scope.names.lookup x=some .free)
  (hi:PI X target iter wi) (hg:∀cl C ex s H,PG (cxB X N' scope cl C ex s H) target g) (ht:∀cl C ex s H,zBn (cxB X N' scope cl C ex s H) ifs tt) (he:∀cl C ex s H,PA (cxB X N' scope cl C ex s H) (actD ke ve) ta)
  (hs:∀x,foldedSetIterable iter X.env x=pure x:=by intro _;rfl):PE X (.DictComp ke ve [⟨target,iter,ifs,0⟩] scope pos) (Q3 nl caps wi g tt ta):=by
 intro pins s O H Q I h;rw[zAa];refine W1 (use:=none) hx hc hkind hnames hcell hfree hlen hcap hi hg ht he hs I h λD C H5 s6 m6 I7 f n6 q=>?_
 refine⟨m6,n6,λh' hs'=>?_⟩;obtain⟨f1,f2,f3,f4,f5,f6⟩:=f;exact⟨.ref D,H5,I7.turned (it:=C) (t':=s6.toks) (λb o hb e=>hs'.extBut b o hb e) f1 (λz=>f2 z) f4 f5 f6,rfl,q⟩
def zEE{i:Nat}{y:Str}{py spos:Pos}{wi:TI}{g:TG}{tt:TT}{ta:TA}(hN:X.N.Nodup)(hi':X.N[i]?=some y)(hy:Loc X.env.scope y)(hf:X.fn y=true\/X.env.scope.names.lookup y=some .local)(hx:∀e s,¬X.xe e s)(hc:X.calm=true)(hkind:scope.kind=.function)(hnames:∀y∈scope.names,y.2=.local->scope.names.lookup y.1=some .local)(hcell:∀y∈scope.names,y.2=.cell->scope.names.lookup y.1=some .cell)
  (hfree:(scope.names.all λy=>y.2 != .free||X.env.kindOf y.1==some .cell)=true)
  (hlen:N'.length=nl+caps.length) (hcap:∀(i j:Nat),caps[i]?=some j->∃x,N'[nl+i]?=some x/\X.N[j]?=some x/\scope.names.lookup x=some .free)
  (hi:PI X target iter wi) (hg:∀cl C ex s H,PG (cxB X N' scope cl C ex s H) target g) (ht:∀cl C ex s H,zBn (cxB X N' scope cl C ex s H) ifs tt) (he:∀cl C ex s H,PA (cxB X N' scope cl C ex s H) (actD ke ve) ta)
  (hs:∀x,foldedSetIterable iter X.env x=pure x) (hsw:swapsWith (.DictComp ke ve [⟨target,iter,ifs,0⟩] scope pos) (some (.Name y py)) spos.line X.env=pure true) :
  PS X (.Assign [.Name y py] (.DictComp ke ve [⟨target,iter,ifs,0⟩] scope pos) spos) (zE0 (Q3 nl caps wi g tt ta) (uK i)):=by
 intro pins s O H D I h;rw[exec_Assign_Name_used _ _ _ _ hsw];refine qB (wpAny_standAt (qB ?_));show wpAny _ X.A (do let _ <- comprehension (.DictComp ke ve [⟨target,iter,ifs,0⟩] scope pos) scope X.env _ newDict false (eval iter X.env) (some (assign (.Name y py) X.env))) _ _ s;refine qB (wpAny_mono (W1 (use:=some (assign (.Name y py) X.env)) (QQ:=λ_ s'=>SP X pins D .next s') hx hc hkind hnames hcell hfree hlen hcap hi hg ht he hs I h λDa C H5 s6 m6 I7 f n6 q=>?_) (λ_ s' hq=>qC (qC hq)) λ_ _ e=>e);obtain⟨f1,f2,f3,f4,f5,f6⟩:=f;show wpAny _ X.A (assign (.Name y py) X.env (.ref Da)) _ _ s6;refine wpAny_assign_Name (Zh I7 hN hi' hy (v:=.ref Da) rfl (λs7 I8 ⟨a,sb,ha⟩=>?_) hf);have hne:C≠a:=by
  rcases ha with ha|ha
  ·rw[ha];exact f2
  ·exact λz=>f5 y a ha z.symm
 refine⟨m6,n6.sameBut sb hne,λh' hs'=>?_⟩;exact⟨_,H5,I8.turned (it:=C) (t':=s7.toks) (λb o hb e=>hs'.extBut b o hb e) f1 (λz=>f2 z) f4 f5 f6,q⟩
end
abbrev Acc:=List (List KN)×List D
section
variable{X:Cx}{K:qH}{mg:Str->Option Value}{O:St}{M:Addr->Prop}{E:zN}{H:Hp}{T0 Z T:Fz}
structure GD(K:qH)(mg:Str->Option Value)(M:Addr->Prop)(D:Addr)(O:St)(E:zN)(H:Hp)(acc:Acc)(O':St)(E':zN)(H':Hp)(acc':Acc):Prop where
 len:E'.length=O'.length
 fr:FR K mg M H' ((some (.ref D),.dct acc'.1 acc'.2)::O'.zip E')
 st:Step M H ((some (.ref D),.dct acc.1 acc.2)::O.zip E) H' ((some (.ref D),.dct acc'.1 acc'.2)::O'.zip E')
 pk:PKp O E O' E'
def GD.of{D:Addr}{acc:Acc}{O':St}{E':zN}{H':Hp}(g:Got K mg M O E H [(some (.ref D),.dct acc.1 acc.2)] O' E' H' []):GD K mg M D O E H acc O' E' H' acc:=⟨g.len,g.fr,g.st,g.pk⟩
theorem GD.trans{D:Addr}{acc acc1 acc2:Acc}{O1 O2:St}{E1 E2:zN}{H1 H2:Hp}(a:GD K mg M D O E H acc O1 E1 H1 acc1)(b:GD K mg M D O1 E1 H1 acc1 O2 E2 H2 acc2):GD K mg M D O E H acc O2 E2 H2 acc2:=⟨b.len,b.fr,a.st.trans b.st,a.pk.trans b.pk⟩
abbrev MCD:=zN->Acc->Out (Acc×zN)
def zCE(K:qH)(mg:Str->Option Value)(ma:MCD)(ta:TA):Prop:=∀(M:Addr->Prop) (D:Addr) (O:St) (E:zN) (H:Hp) (acc acc':Acc) (E':zN) (Nx:St->Hp->Prop),E.length=O.length->FR K mg M H ((some (.ref D),.dct acc.1 acc.2)::O.zip E)->ma E acc=.ok (acc',E')->(∀O' H',GD K mg M D O E H acc O' E' H' acc'->Nx O' H')->ta D O H Nx
def maD(mk mv:ME):MCD:=λE acc=>match mk E with
 | .ok (r1,E1)=>match mv E1 with
  | .ok (r2,E2)=>match vY r1.d with
   |some q=>if acc.1.length<1000000 then .ok (uw acc.1 acc.2 q r2.d,E2)else .z|none=>.z
  |_=>.z
 |_=>.z
def G6{mk mv:ME}:zCE K mg (maD mk mv) (taD K (tN K mg mk) (tN K mg mv)):=λM D O E H acc acc' E' Nx hl fr em hN=>by
 unfold maD at em;cases e1:mk E with
 |z=>rw[e1]at em;cases em|exc _ _=>rw[e1]at em;cases em
 |ok p =>
  obtain⟨r1,Ea⟩:=p;rw[e1]at em;dsimp only at em;cases e2:mv Ea with
  |z=>rw[e2]at em;cases em|exc _ _=>rw[e2]at em;cases em
  |ok p =>
   obtain⟨r2,Eb⟩:=p;rw[e2]at em;dsimp only at em;cases e3:vY r1.d with
   |none=>rw[e3]at em;cases em
   |some q =>
    rw[e3]at em;dsimp only at em;by_cases hc:acc.1.length<1000000
    ·rw[if_pos hc]at em
     cases em;refine zBp (T0:=[(some (.ref D),.dct acc.1 acc.2)]) hl fr e1 λy H1 g1=>?_
     refine zBp (T0:=[(some y,r1.slot)]++[(some (.ref D),.dct acc.1 acc.2)]) g1.len g1.fr e2 λz H2 g2=>?_
     have g:=g1.trans g2
     -- the key and the value are given up
     have fa:FR K mg M H2 ((some z,r2.slot)::(some y,r1.slot)::((some (.ref D),Slot.dct acc.1 acc.2)::O.zip E')):=g.fr;have fb:=fa.frz;have fc:FR K mg M H2 ((some y,r1.slot)::(some z,.v r2.d)::((some (.ref D),Slot.dct acc.1 acc.2)::O.zip E')):=fb.perm (List.Perm.swap _ _ _);have fd:=fc.frz;obtain⟨y',ey,ry⟩:=fd.val _ _ qE;cases ey;obtain⟨z',ez,rz⟩:=fd.val _ _ (qD _ qE);cases ez;rw[wT,wT]at ry rz;have fo:=fd.tail.tail;obtain⟨a,ho,ea,ha,_,es,rfl,k1,k2,k3⟩:=fo.own _ _ _ qE rfl;cases ea;obtain⟨kb,rfl,hb⟩:=Yv e3 ry;rw[k1]at hc;obtain⟨pk1,pk2⟩:=G4 (q:=q) (kb:=kb) k3 rz;obtain⟨fm,sm⟩:=FR.mutD (i:=0) fo rfl (vZ k2 hb) pk2;rw[pk1,<- k1]at fm sm;refine⟨es,kb,q,rfl,⟨ha,λx hx=>zH zE (k2 x hx)⟩,zH zE hb,by simpa using hc,hN O _ ?_⟩;have sz:Step M H ((some (.ref D),Slot.dct acc.1 acc.2)::O.zip E) H2 ((some (.ref D),Slot.dct acc.1 acc.2)::O.zip E'):=g.st.weak (zC (.cons _ (.cons _ (List.Sublist.refl _))));exact⟨g.len,fm,sz.trans sm,g.pk⟩
    ·rw[if_neg hc]at em;cases em
def Yw(tg:MG)(tt:MT)(ma:MCD):List D->zN->Acc->Out (Acc×zN)
 | [],E,acc=>.ok (acc,E)
 |d::ds,E,acc=>match tg d E with
  | .ok E1=>match tt E1 with
   | .ok (true,E2)=>match ma E2 acc with
    | .ok (acc',E3)=>Yw tg tt ma ds E3 acc'|_=>.z
   | .ok (false,E2)=>Yw tg tt ma ds E2 acc|_=>.z
  |_=>.z
def WA(nl:Nat)(caps:List Nat)(mi:MI)(tg:MG)(tt:MT)(ma:MCD):ME:=λE=>match mi E with
 | .z=>.z| .exc x E1=>.exc x E1
 | .ok (ds,E1)=>match JL E1 caps with
  | .ok ars=>match zL ars E1 with
   | .ok (ss,E2)=>match Yw tg tt ma ds (replicate nl .e++ss) ([],[])with
    | .ok (res,Eb)=>match zJ ars ((zm (replicate nl .e++ss) Eb).drop nl) E1 E2 with
     | .ok E3=>.ok (.dct res.1 res.2,E3)|_=>.z
    |_=>.z
   |_=>.z
  |_=>.z
def yld_gd{J:It}{ds:List D}{Iv:Hp->Prop}{O0 O':St}{E0 E':zN}{H1 H' H'':Hp}{Da:Addr}{acc0 acc:Acc}{i:Nat}{x:V}(it:ItOk K mg J ds Iv)(hlt:i<ds.length)(gb:GD K mg M Da O0 E0 H1 acc0 O' E' H' acc)(ivb:Iv (Hm (Mo M ((some (.ref Da),Slot.dct acc.1 acc.2)::O'.zip E')) H'))(y:J.yld i H' x H'') :
  ∃d,ds[i]?=some d/\GD K mg M Da O0 E0 H1 acc0 O' E' H'' acc/\Iv (Hm (Mo M ((some (.ref Da),Slot.dct acc.1 acc.2)::O'.zip E')) H'')/\Rep K mg (Hm (Mo M ((some (.ref Da),Slot.dct acc.1 acc.2)::O'.zip E')) H'') d x:=by
 obtain⟨d,hd,h⟩:=it.yld i _ _ x _ zE ivb hlt y;rcases h with⟨rfl,rx⟩|⟨q,xs,es,hq,rfl,rfl,rfl,rs⟩
 ·exact⟨d,hd,gb,ivb,rx⟩
 ·have f1:=gb.fr.newTup hq rs
  have s1:Step M H' ((some (.ref Da),Slot.dct acc.1 acc.2)::O'.zip E') (upd H' q (.t xs)) ((some (.ref q),.v (.t es))::((some (.ref Da),Slot.dct acc.1 acc.2)::O'.zip E')):=Step.newVal hq;obtain⟨v,ev,rv⟩:=f1.val _ _ qE;cases ev;have sm:=s1.same;rw[wT]at rv sm;exact⟨_,hd,⟨gb.len,f1.tail,gb.st.trans ⟨sm,s1.keep⟩,gb.pk⟩,it.mono _ _ sm ivb,rv⟩
def turnsD{tg:MG}{tt:MT}{ma:MCD}{ta:TA}{g:TG}(ho:GOk X g tg)(ha:zCE X.K X.mg ma ta){J:It}{ds:List D}{Iv:Hp->Prop}(it:ItOk X.K X.mg J ds Iv){Da:Addr}{acc accF:Acc}{EF:zN}{Nx:St->Hp->Prop}(hl:E.length=O.length)(fr:FR X.K X.mg M H ((some (.ref Da),.dct acc.1 acc.2)::O.zip E))(iv:Iv (Hm (Mo M ((some (.ref Da),Slot.dct acc.1 acc.2)::O.zip E)) H))(em:Yw tg tt ma ds E acc=.ok (accF,EF))
  (hN:∀O' H',GD X.K X.mg M Da O E H acc O' EF H' accF->Nx O' H'):∃W:Nat->Nat->St->Hp->Prop,(∃m,W 0 m O H)/\∀i m O' H',W i m O' H' ->
   (J.stop i H'/\Nx O' H')\/(J.go i H'/\∃N2:St->Hp->Prop,(∀O'' H'',N2 O'' H''->∃m',m'<m/\W (i+1) m' O'' H'')/\∀x H'',J.yld i H' x H''->g x O' H'' λO2 H2 =>
    tNT X.K X.mg tt O2 H2 λb H3=>if b=true then ta Da O2 H3 N2 else N2 O2 H3):=by
 refine⟨λi m O' H'=>m=ds.length-i/\i<=ds.length/\∃E' acc',GD X.K X.mg M Da O E H acc O' E' H' acc'/\Iv (Hm (Mo M ((some (.ref Da),Slot.dct acc'.1 acc'.2)::O'.zip E')) H')/\Yw tg tt ma (ds.drop i) E' acc'=.ok (accF,EF),
  ⟨ds.length,by simp,zero_le _,E,acc,⟨hl,fr,Step.refl,PKp.refl⟩,iv,em⟩,?_⟩
 rintro i m O' H' ⟨rfl,hi,E',acc',gb,ivb,cm⟩
 by_cases hlt:i<ds.length
 ·refine .inr ⟨it.go i _ H' zE ivb hlt,λO'' H''=>(i+1<=ds.length/\∃E' acc',GD X.K X.mg M Da O E H acc O'' E' H'' acc'/\Iv (Hm (Mo M ((some (.ref Da),Slot.dct acc'.1 acc'.2)::O''.zip E')) H'')/\Yw tg tt ma (ds.drop (i+1)) E' acc'=.ok (accF,EF)),
   λO'' H'' q=>⟨ds.length-(i+1),by omega,rfl,q⟩,λx H'' y=>?_⟩
  obtain⟨d,hd,gb,ivb,rx⟩:=yld_gd it hlt gb ivb y;have ed:ds.drop i=d::ds.drop (i+1):=by
   obtain⟨hi',rfl⟩:=qG.mp hd;exact drop_eq_getElem_cons hi'
  rw[ed]at cm;simp only[Yw]at cm;cases e1:tg d E' with
  |z=>rw[e1]at cm;cases cm|exc _ _=>rw[e1]at cm;cases cm
  |ok Ea =>
   rw[e1]at cm;dsimp only at cm;refine ho _ O' E' _ [(some (.ref Da),.dct acc'.1 acc'.2)] x d Ea _ gb.len (gb.fr.add rx) e1 λO2 ga=>?_
   have g2:=gb.trans (GD.of ga);cases e2:tt Ea with
   |z=>rw[e2]at cm;cases cm|exc _ _=>rw[e2]at cm;cases cm
   |ok p =>
    obtain⟨b,Eb2⟩:=p;rw[e2]at cm;refine zBq ga.len ga.fr e2 λH3 gt=>?_
    have gt':GD X.K X.mg M Da O2 Ea H'' acc' O2 Eb2 H3 acc':=⟨gt.len,gt.fr,gt.st,gt.pk⟩;have g3:=g2.trans gt';have iv3:=it.mono _ _ (ga.st.same.trans gt.st.same) ivb;cases b with
    |false=>exact zE6 ⟨hlt,Eb2,acc',g3,iv3,cm⟩
    |true =>
     refine zE7 ?_;dsimp only at cm;cases e3:ma Eb2 acc' with
     |z=>rw[e3]at cm;cases cm|exc _ _=>rw[e3]at cm;cases cm
     |ok p =>
      obtain⟨acc2,Ec⟩:=p;rw[e3]at cm;exact ha M Da O2 Eb2 H3 acc' acc2 Ec _ g3.len g3.fr e3 λO4 H4 g4=>⟨hlt,Ec,acc2,g3.trans g4,it.mono _ _ g4.st.same iv3,cm⟩
 ·have ei2:i=ds.length:=by omega
  subst ei2;rw[drop_length]at cm;simp only[Yw]at cm;cases cm;exact .inl ⟨it.stop _ _ H' zE ivb (le_refl _),hN O' H' gb⟩
def ux{nl:Nat}{caps:List Nat}{mi:MI}{tg:MG}{tt:MT}{ma:MCD}{ta:TA}{g:TG}{Q:VK}(ho:GOk X g tg)(ha:zCE X.K X.mg ma ta)(h:tM X (WA nl caps mi tg tt ma) O H Q):Q3 nl caps (tMI X mi) g (tNT X.K X.mg tt) ta O H Q:=by
 obtain⟨M,E,hl,fr,k⟩:=h;unfold WA at k;refine⟨M,E,hl,fr,?_⟩;cases ei:mi E with
 |z=>rw[ei]at k;exact k|exc x E1=>rw[ei]at k;exact k
 |ok p =>
  obtain⟨ds,E1⟩:=p;rw[ei]at k;intro J Iv H1 it iv g1 D hD;dsimp only at k;cases ec:JL E1 caps with
  |z=>rw[ec]at k;exact k.elim|exc _ _=>rw[ec]at k;exact k.elim
  |ok ars =>
   rw[ec]at k;dsimp only at k;cases el1:zL ars E1 with
   |z=>rw[el1]at k;exact k.elim|exc _ _=>rw[el1]at k;exact k.elim
   |ok p =>
    obtain⟨ss,E2⟩:=p;rw[el1]at k;dsimp only at k;cases em:Yw tg tt ma ds (replicate nl .e++ss) ([],[])with
    |z=>rw[em]at k;exact k.elim|exc _ _=>rw[em]at k;exact k.elim
    |ok p =>
     obtain⟨res,Eb⟩:=p;rw[em]at k;dsimp only at k;cases eb:zJ ars ((zm (replicate nl .e++ss) Eb).drop nl) E1 E2 with
     |z=>rw[eb]at k;exact k.elim|exc _ _=>rw[eb]at k;exact k.elim
     |ok E3 =>
      rw[eb]at k;obtain⟨vs,av,evs,f1,o1⟩:=Qt (T:=[]) caps g1.len ec g1.fr;obtain⟨f2,o2,l2,l3⟩:=Ys (T:=[]) ars g1.len av el1 f1;have hv:=av.length;have f2':FR X.K X.mg M H1 (O.zip E2++(vs.map some).zip ss):=FR.perm (T:=O.zip E2++(vs.map some).zip ss) (Z:=(vs.map some).zip ss++O.zip E2) f2 perm_append_comm;have osub:∀b,b∈z7 (O.zip E2++(vs.map some).zip ss)->b∈z7 (O.zip E1):=λb hb =>
       o1 b ((o2 b).mpr (zD (T:=O.zip E2++(vs.map some).zip ss) (Z:=(vs.map some).zip ss++O.zip E2) perm_append_comm b hb))
      have st1:Step M H (O.zip E) H1 (O.zip E2++(vs.map some).zip ss):=g1.st.weak osub;have eO:zZ nl caps O=replicate nl none++vs.map some:=by unfold L2.zZ;rw[evs]
      rw[eO];have ez:(replicate nl (none:Option V)++vs.map some).zip (replicate nl Slot.e++ss)=replicate nl (none,.e)++(vs.map some).zip ss:=by
       rw[zip_append (by simp),vR]
      have f4:FR X.K X.mg (Mo M (O.zip E2)) H1 ((replicate nl (none:Option V)++vs.map some).zip (replicate nl Slot.e++ss)):=by
       rw[ez];exact(FR.inner f2').emps0 nl
      have oo:z7 ((replicate nl (none:Option V)++vs.map some).zip (replicate nl Slot.e++ss))=z7 ((vs.map some).zip ss):=by rw[ez,ui]
      generalize hO0:replicate nl (none:Option V)++vs.map some=O0 at f4 oo ⊢;generalize hE0:replicate nl Slot.e++ss=E0 at f4 oo em eb ⊢;have hl0:E0.length=O0.length:=by rw[<- hO0,<- hE0];simp[l2,hv]
      have f5:=f4.newDct (es:=[]) (vs:=[]) hD (λe he=>by cases he) Reps.nil;have s5:=Step.newDct (ks:=[]) (vs:=[]) (o:=Yl D []) f4 hD;have iv5:Iv (Hm (Mo (Mo M (O.zip E2)) ((some (.ref D),Slot.dct [] [])::O0.zip E0)) (upd H1 D (Yl D []))):=by
       refine it.mono _ _ s5.same (it.mono _ _ (jI λb hb=>?_) iv);rcases hb with hb|hb
       ·rcases hb with hb|hb
        ·exact .inl hb
        ·exact .inr (osub b (by rw[zR];exact mem_append_left _ hb))
       ·rw[oo]at hb
        exact .inr (osub b (by rw[zR];exact qK _ hb))
      refine turnsD ho ha it hl0 f5 iv5 em λO' H' ga=>k _ H' ?_
      have gb:Got X.K X.mg (Mo M (O.zip E2)) O0 E0 H1 [] O' Eb H' [(some (.ref D),.dct res.1 res.2)]:=⟨ga.len,ga.fr,s5.trans ga.st,ga.pk⟩;have mk0:Mask (O'.zip Eb) (O0.zip (zm E0 Eb)):=YN E0 O0 O' Eb gb.len (hl0.symm) λj ds' e=>(gb.pk j ds' e).2
      have mk:Mask (O'.zip Eb) ((vs.map some).zip ((zm E0 Eb).drop nl)):=by
       have:=wc nl mk0;have e:(O0.zip (zm E0 Eb)).drop nl=(vs.map some).zip ((zm E0 Eb).drop nl):=by
        rw[Z7,<- hO0];congr 1;rw[List.drop_left' (by simp)]
       rw[e]at this;exact this
      refine uj (r:=.dct res.1 res.2) el1 eb av f2' st1 l3 g1.pk (gb.fr.mask (.keep mk)) ?_;refine(gb.st.weak λb hb=>(Mask.keep mk).sub.subset hb).left λb hb=>?_
      show b∈z7 _
      rw[nil_append,oo]at hb;exact hb
end
section
variable{X:Cx}{ke ve target iter:Expr}{ifs:List Expr}{scope:Scope}{pos:Pos}{mi:MI}{tg:MG}{tt:MT}{mk mv:ME}{g:TG}{nl:Nat}{caps:List Nat}
def ok_dc(loc capn:List Str)(hu:X.A.units<cLine)(hnl:loc.length=nl)(hx:∀e s,¬X.xe e s)(hc:X.calm=true)(hkind:scope.kind=.function)(hnames:∀y∈scope.names,y.2=.local->scope.names.lookup y.1=some .local)(hcell:∀y∈scope.names,y.2=.cell->scope.names.lookup y.1=some .cell)
  (hfree:(scope.names.all λy=>y.2 != .free||X.env.kindOf y.1==some .cell)=true) (hcap:Gy X scope caps capn)
  (hi:IOk X target iter mi) (hg:∀cl C ex s H,PG (cxB X (loc++capn) scope cl C ex s H) target g) (ho:GOk X g tg) (ht:∀cl C ex s H,zFI (cxB X (loc++capn) scope cl C ex s H) ifs tt)
  (hk:∀cl C ex s H,EOk (cxB X (loc++capn) scope cl C ex s H) ke mk) (hv:∀cl C ex s H,EOk (cxB X (loc++capn) scope cl C ex s H) ve mv)
  (hs:∀x,foldedSetIterable iter X.env x=pure x) :
  EOk X (.DictComp ke ve [⟨target,iter,ifs,0⟩] scope pos) (WA nl caps mi tg tt (maD mk mv)):=by
 obtain⟨c1,c2⟩:=ul (loc:=loc) hcap;refine zf (zED (N':=loc++capn) (tt:=tNT X.K X.mg tt) (ta:=taD X.K (tN X.K X.mg mk) (tN X.K X.mg mv)) hx hc hkind hnames hcell hfree (by simp[hnl,c1]) (λi j e=>by
  obtain⟨x,q1,q2,q3⟩:=c2 i j e;refine⟨x,?_,q2,q3⟩;rw[getElem?_append_right (by omega),hnl,Nat.add_sub_cancel_left];exact q1) hi hg (λcl C ex s H=>YR (ht cl C ex s H) λO H Q q=>zDu (X:=cxB X (loc++capn) scope cl C ex s _) q)
  (λcl C ex s H=>zFV (Y:=cxB X (loc++capn) scope cl C ex s H) hu hx (zf (hk cl C ex s H) λO H Q q=>zFJ (X:=cxB X (loc++capn) scope cl C ex s _) q) (zf (hv cl C ex s H) λO H Q q=>zFJ (X:=cxB X (loc++capn) scope cl C ex s _) q)) hs) λO H Q=>ux ho G6
def sk_dc{i:Nat}{y:Str}{py spos:Pos}(loc capn:List Str)(hu:X.A.units<cLine)(hN:X.N.Nodup)(hi':X.N[i]?=some y)(hy:Loc X.env.scope y)(hf:X.fn y=true\/X.env.scope.names.lookup y=some .local)(hnl:loc.length=nl)(hx:∀e s,¬X.xe e s)(hc:X.calm=true)(hkind:scope.kind=.function)(hnames:∀y∈scope.names,y.2=.local->scope.names.lookup y.1=some .local)(hcell:∀y∈scope.names,y.2=.cell->scope.names.lookup y.1=some .cell)
  (hfree:(scope.names.all λy=>y.2 != .free||X.env.kindOf y.1==some .cell)=true) (hcap:Gy X scope caps capn)
  (hi:IOk X target iter mi) (hg:∀cl C ex s H,PG (cxB X (loc++capn) scope cl C ex s H) target g) (ho:GOk X g tg) (ht:∀cl C ex s H,zFI (cxB X (loc++capn) scope cl C ex s H) ifs tt)
  (hk:∀cl C ex s H,EOk (cxB X (loc++capn) scope cl C ex s H) ke mk) (hv:∀cl C ex s H,EOk (cxB X (loc++capn) scope cl C ex s H) ve mv)
  (hs:∀x,foldedSetIterable iter X.env x=pure x)
  (hsw:swapsWith (.DictComp ke ve [⟨target,iter,ifs,0⟩] scope pos) (some (.Name y py)) spos.line X.env=pure true) :
  SOk X (.Assign [.Name y py] (.DictComp ke ve [⟨target,iter,ifs,0⟩] scope pos) spos) (sSet i (WA nl caps mi tg tt (maD mk mv))):=by
 obtain⟨c1,c2⟩:=ul (loc:=loc) hcap;refine yW (zEE (N':=loc++capn) (tt:=tNT X.K X.mg tt) (ta:=taD X.K (tN X.K X.mg mk) (tN X.K X.mg mv)) hN hi' hy hf hx hc hkind hnames hcell hfree (by simp[hnl,c1]) (λi j e=>by
  obtain⟨x,q1,q2,q3⟩:=c2 i j e;refine⟨x,?_,q2,q3⟩;rw[getElem?_append_right (by omega),hnl,Nat.add_sub_cancel_left];exact q1) hi hg (λcl C ex s H=>YR (ht cl C ex s H) λO H Q q=>zDu (X:=cxB X (loc++capn) scope cl C ex s _) q)
  (λcl C ex s H=>zFV (Y:=cxB X (loc++capn) scope cl C ex s H) hu hx (zf (hk cl C ex s H) λO H Q q=>zFJ (X:=cxB X (loc++capn) scope cl C ex s _) q) (zf (hv cl C ex s H) λO H Q q=>zFJ (X:=cxB X (loc++capn) scope cl C ex s _) q)) hs hsw) λD O H h=>ux ho G6 (Gu h)
end
def tDisp1(K:qH)(tk tv:TE):TE:=λO H Q=>∀D,H D=none->taD K tk tv D O (upd H D (Yl D [])) λO' H'=>O'=O->Q (.ref D) H'
def zEF{X:Cx}{ke ve:Expr}{pos:Pos}{tk tv:TE}(hu:X.A.units<cLine)(hk:PE X ke tk)(hv:PE X ve tv):PE X (.Dict [some ke] [ve] pos) (tDisp1 X.K tk tv):=λpins s O H Q I h=>by
 have hn:=I.hok.fresh (le_refl s.heap.objs.size);have I1:=I.laid (h':=s.heap.push {cls:=.type "dict",dict:=none,data:=.dict #[]}) (t':=s.toks) (λ_ _ q=>qA _ q) (le_refl _) (G5 s.heap (Inv.big I));refine wpAny_Dict_any rfl rfl (by simp) (by simp) (pairTrees_cons_walk (thn (hk pins _ O _ _ I1 (h _ hn)) λkv s1 h1=>?_));obtain⟨y,H1,I1',r1,q1⟩:=h1;refine thn (hv pins s1 O H1 _ I1' q1) λvv s2 h2=>pairTrees_nil_walk ?_
 obtain⟨z,H2,I2,r2,es,kb,ks,rfl,⟨e,hkk⟩,hb,hl,n2⟩:=h2;cases r1;unfold storeAll;rw[forIn_cons];refine qB (qB ?_);obtain⟨xs,r,hm,hd,hz,hnd⟩:=Zo I2 e hkk;have hsl:(1000000:Nat)<=sizeLine:=by decide +kernel
 have hlen:xs.length=es.length:=by have:=congrArg length (jy.keys r);simpa using this
 refine wpAny_dictSet_heap (knd:=tupleKind (Gg X.prog X.w)) hu (Zn I2 hb) hm (λh' hm' sb=>?_) (by omega);have dp:zE8 s.heap.objs.size (Gh es ks kb z) h':=G1 (X:=X) hm' hd (by have:=(Zm (k:=ks) (ka:=kb) (v:=z) hnd).2;omega) (r.put r2);obtain⟨_,_,_,o',_,_,_,e',_⟩:=id dp;refine qC ?_;dsimp only;rw[List.forIn_nil];exact qC ⟨.ref _,_,I2.write (x:=s.heap.objs.size) (e:=s.heap.objs.size) (by rw[e];trivial) (.inl rfl) (λb w hb' q'=>(sb.2 b hb').trans q') ⟨o',e'⟩ (Qg dp),rfl,n2 rfl⟩
def zCF(mk mv:ME):ME:=λE=>match maD mk mv E ([],[])with
 | .ok (acc,E')=>.ok (.dct acc.1 acc.2,E')|_=>.z
section
variable{X:Cx}{ke ve:Expr}{pos:Pos}{mk mv:ME}
def ok_disp(hu:X.A.units<cLine)(hk:EOk X ke mk)(hv:EOk X ve mv):EOk X (.Dict [some ke] [ve] pos) (zCF mk mv) :=
 zf (zEF hu (zf hk λO H Q q=>zFJ q) (zf hv λO H Q q=>zFJ q)) λO H Q ⟨M,E,hl,fr,k⟩=>by
  unfold zCF at k;intro D hD;cases em:maD mk mv E ([],[])with
  |z=>rw[em]at k;exact k.elim|exc _ _=>rw[em]at k;exact k.elim
  |ok p =>
   obtain⟨acc,E'⟩:=p;rw[em]at k;have f5:=fr.newDct (es:=[]) (vs:=[]) hD (λe he=>by cases he) Reps.nil;have s5:=Step.newDct (ks:=[]) (vs:=[]) (o:=Yl D []) fr hD;refine G6 M D O E _ ([],[]) acc E' _ hl f5 em λO' H' ga es=>?_
   subst es;exact k _ H' ⟨ga.len,ga.fr,s5.trans ga.st,ga.pk⟩
def eDNew:ME:=λE=>.ok (.dct [] [],E)
def ok_dnew:EOk X (.Dict [] [] pos) eDNew :=
 λpins s O H Q I ⟨M,E,hl,fr,k⟩=>by
  have hn:=I.hok.fresh (le_refl s.heap.objs.size);have I1:=I.laid (h':=s.heap.push {cls:=.type "dict",dict:=none,data:=.dict #[]}) (t':=s.toks) (λ_ _ q=>qA _ q) (le_refl _) (G5 s.heap (Inv.big I));have f5:=fr.newDct (es:=[]) (vs:=[]) hn (λe he=>by cases he) Reps.nil;have s5:=Step.newDct (ks:=[]) (vs:=[]) (o:=Yl s.heap.objs.size []) fr hn;exact wpAny_Dict_empty ⟨.ref s.heap.objs.size,_,I1,rfl,k _ _ ⟨hl,f5,s5,PKp.refl⟩⟩
end
end DV
namespace DV
open PySem PySem.W L2
def EA(h:Heap)(d:Addr)(es:Array DictEntry)(ep:Nat):Prop:=∃o,h.get? d=some o/\o.ExactDict/\o.data=.dict es ep
section
variable{prog:Program}{w:World}{A:Around}{E:Value->Shared->Prop}{s:Shared}{d it:Addr}{es:Array DictEntry}{ep i:Nat}
def EA.ty(m:EA s.heap d es ep):s.TypeIs (.ref d) "dict":=let ⟨o,h,c,_⟩:=m;⟨o,h,c.1⟩
def EA.lt{h:Heap}(m:EA h d es ep):d<h.objs.size:=let ⟨_,h,_⟩:=m;lt_size h
def EA.kp{h h':Heap}(m:EA h d es ep)(k:∀o,h.get? d=some o->h'.get? d=some o):EA h' d es ep:=let ⟨o,h,r⟩:=m;⟨o,k o h,r⟩
def it_dct{Q:Value->Shared->Prop}(hd:(d==sysModules)=false)(m:EA s.heap d es ep)(hQ:Q (.ref s.heap.objs.size) {s with heap:=s.heap.push {cls:=.type "dict_keyiterator",data:=.fields #[.ref d,.int 0 0,.int es.size 0,.int ep 0]}}):wpAny (model prog w) A (pyIter (.ref d)) Q E s:=by
 obtain⟨o,ho,hc,hdat⟩:=id m;refine wpAny_pyIter_slot m.ty PySem.F.slot_dict_iter (wpAny_call_entry PySem.F.slot_dict_iter m.ty PySem.F.entry_dict_iter ?_ (PySem.F.args_dict_iter_1 _));unfold Builtin.«dict.__iter__» Builtin.Dict.dictSlotNone Builtin.Dict.showsAll;refine qB (qB (wpAny_notOrdered_dict m.ty (qC ?_)));refine qB (qC ?_);rw[if_neg (by rw[hd];exact qF)];refine qB (qC (qB (wpAny_dictEntries ho hdat (qB (wpAny_dictEpoch ho hdat ?_)))));exact qB (wpAny_newObj_type (qC ⟨_,rfl,"dict_keyiterator",_,⟨_,get?_push_size _ rfl,rfl⟩,PySem.F.slot_dict_keyiterator_next.lookup,by simpa[rawInt]using hQ⟩))
def zFW{Q:Option Value->Shared->Prop}(hh:A.handled=none)(hit:s.heap.IsKeyIter it d i es.size ep)(m:EA s.heap d es ep)
  (h1:∀e h',es[i]?=some e->h'.IsKeyIter it d (i+1) es.size ep->Heap.SameBut it s.heap h'->Q (some e.key) {s with heap:=h'})
  (h0:∀h',es[i]?=none->Heap.ExtBut it s.heap h'->Q none {s with heap:=h'}):wpAny (model prog w) A (pyNext (.ref it)) Q E s:=by
 obtain⟨o,ho,hc,hd⟩:=id hit;obtain⟨od,hod,_,hdd⟩:=id m;refine qB (wpAny_attempt (wpAny_callSpecial?_slot (name:=Str.ofString "__next__") hit.typeIs PySem.F.slot_dict_keyiterator_next (wpAny_call_entry PySem.F.slot_dict_keyiterator_next hit.typeIs PySem.F.entry_dict_keyiterator_next (qB (qC (qB (qB (qB (wpAny_typeNameOfWhole_keyiter hit.typeIs (qC (qB (wpAny_fieldsOf ho hd ?_)))))))))  (PySem.F.args_dict_keyiterator_next_1 _))));simp only[show Builtin.Dict_items.ownsTuple "dict_keyiterator"=false by decide,Bool.false_eq_true,if_false];show wpAny _ _ (if(Value.ref d==Value.none)=true then _ else _) _ _ s;rw[if_neg (show ¬((Value.ref d==Value.none)=true)from qF)];refine qB (qC (qB (wpAny_dictEntries hod hdd ?_)));rw[if_neg (by simp)];refine qB (qC (qB (wpAny_dictEpoch hod hdd ?_)));rw[if_neg (by simp)];refine qC ?_;simp only[show ¬((i:Int)<0)from by omega,if_false,Int.toNat_natCast];cases he:es[i]? with
 |some e =>
  refine qB (qB (wpAny_typeNameOfWhole_keyiter hit.typeIs (qC (qB (wpAny_isOneOf_keyiter hit.typeIs ?_)))));show wpAny _ _ (setField (.ref it) 1 (rawInt ((i:Int)+1)) >>= _) _ _ s;refine qB (wpAny_setField ho hd (by simp) ?_);have hit':(s.heap.update it (Obj.mapFields (·.setIfInBounds 1 (rawInt ((i:Int)+1))))).IsKeyIter it d (i+1) es.size ep :=
   ⟨_,Heap.get?_update_self _ ho (Obj.isFreed_of_fields (Obj.data_mapFields hd _)),(Obj.cls_mapFields ..).trans hc,by rw[Obj.data_mapFields hd];simp[rawInt]⟩
  refine qB (wpAny_holding (qB (wpAny_isOneOf_keyiter (s:={s with heap:=_}) hit'.typeIs ?_)))
  show wpAny _ _ (pure e.key) _ _ _
  exact qC (qC ⟨_,rfl,qC (h1 e _ he hit' (Heap.SameBut.update ..))⟩)
 |none =>
  refine qB (qB (wpAny_typeNameOfWhole_keyiter hit.typeIs (qC ?_)));show wpAny _ _ (setField (.ref it) 0 .none >>= _) _ _ s;refine qB (wpAny_setField ho hd (by simp) ?_);show wpAny _ _ (newExc (.type "StopIteration") [] >>= _) _ _ _;simp only[newExc,newTuple];refine qB (qB (wpAny_newObj_type (qB (m:=firstArgMember _ _) (wpAny_of_eq (a:=Value.none) (by first|rfl|(simp only[firstArgMember];rfl)) (wpAny_newObj_type ?_ (by size_fits)))) (by size_fits)));simp only[raiseNew];refine qB (wpAny_handled ?_);rw[show A.in1.handled=none from hh];refine qB (qC (wpAny_throw ?_));refine qB (wpAny_isInstance (T:="StopIteration") (b:=true) ⟨_,get?_push_size _ rfl,rfl⟩ isSubtype_stop ?_);exact qC (h0 _ he (((Heap.SameBut.update ..).extBut.push _).push _))
def zCG(hh:A.handled=none)(I:Addr)(hne:d≠I):Walks prog w A I [I,d] [I] es.size (λi v=>∃e,es[i]?=some e/\v=e.key) (λi h=>h.IsKeyIter I d i es.size ep/\EA h d es ep) where
 sub:=λb hb=>by simp at hb;simp[hb]
 frame:=λ_ _ _ st hk=>⟨st.1.at λo e=>hk I (by simp) o e,st.2.kp λo e=>hk d (by simp) o e⟩
 item:=λi s Q E hi st hQ=>zFW hh st.1 st.2 (λe h' he hit' hs'=>hQ e.key h' s.toks ⟨e,he,rfl⟩ ⟨hit',st.2.kp λo q=>hs'.extBut d o hne q⟩ λb o hb q=>hs'.extBut b o (λh=>hb (by simp[h])) q) λh' he _=>by
  rw[Array.getElem?_eq_getElem hi]at he;cases he
 done:=λs Q E st hQ=>zFW hh st.1 st.2 (λe h' he _ _=>by rw[Array.getElem?_eq_none (le_refl _)]at he;cases he) λh' _ he'=>hQ h' s.toks λb o hb e=>he' b o (λh=>hb (by simp[h])) e
 self:=λ_ _ _ _ st hQ=>wpAny_pyIter_keyiter st.1 hQ
def src_dct(lo:(d==sysModules)=false):KdlSrc prog w "dict" d d es.size (λi v=>∃e,es[i]?=some e/\v=e.key) (λh=>EA h d es ep) where
 type:=λ_ m=>m.ty
 there:=λ_ m=>⟨m.lt,m.lt⟩
 keep:=λ_ _ m hk=>m.kp λo e=>hk d (.inl rfl) o e
 notList:=by decide
 notTuple:=by decide
 hint:=λ_ _ _ _ m hq=>kdl_hint_dict m.ty hq
 iter:=λ_ _ hh m=>⟨_,_,(λ_ _ hq=>it_dct lo m hq),zCG hh _ (ne_of_lt m.lt),⟨⟨_,get?_push_size _ rfl,rfl,rfl⟩,m.kp λo e=>qA _ e⟩⟩
end
section
variable{X:Cx}{K:qH}{mg:Str->Option Value}
def rDLs(K:qH):List V->Hp->VK->Prop:=λxs H Q=>∃a es,xs=[.ref a]/\uu K H a es/\∀l,H l=none->Q (.ref l) (upd H l (.l (es.map λe=>.ref e.2.1)))
theorem uy:∀{es:List DE} {xs:List DX} {us:List Value},jy es xs->us.length=xs.length->(∀(j:Nat) v,us[j]?=some v->∃x,xs[j]?=some x/\v=(.ref x.2.1:Value))->yG (es.map λe=>.ref e.2.1) us
 |_,_,us,.nil,hl,h=>by
  cases us with
  |nil=>exact .nil|cons _ _=>cases hl
 |_,_,us,.cons (b:=x) r t,hl,h=>by
  cases us with
  |nil=>cases hl
  |cons v us =>
   obtain⟨x',e1,e2⟩:=h 0 v rfl;cases qJ e1;subst e2;refine .cons (by show Value.ref _=_;rw[r.2.1]) (uy t (by simpa using hl) λj v hv=>?_);obtain⟨y,q1,q2⟩:=h (j+1) v (by simpa using hv);exact⟨y,by simpa using q1,q2⟩
def zAc(hcm:X.calm=true):j9 X (.type "list") (rDLs X.K):=by
 intro pins s O H xs us Q I r h;obtain⟨a,es,rfl,⟨e,hk⟩,q⟩:=h;obtain⟨u,rfl,hu⟩:=vF r;cases hu;obtain⟨⟨x1,x2,x3,o,esA,ep,xs,h1,h2,h3,h4,h5⟩,_⟩:=(show yu X.prog X.w H s.heap a (Yl a es)from I.hok a _ e);have hl:es.length=xs.length:=by have:=congrArg length (jy.keys h4);simpa using this.symm
 have hz:esA.size=xs.length:=by rw[<- Array.length_toList,h5,length_map]
 refine kdl_call (src_dct x1) (I.ok.hd hcm) ⟨o,h1,h2,h3⟩ (by rw[hz,<- hl];exact x2) λh' tk acc c kp e' hacc=>?_
 have hv:yG (es.map λe=>V.ref e.2.1) acc.toList:=uy h4 (by rw[Array.length_toList,hacc.1,hz]) λj v hv=>by
  obtain⟨en,q1,rfl⟩:=hacc.2 j v (by simpa using hv);rw[<- Array.getElem?_toList,h5,getElem?_map]at q1;cases hx:xs[j]? with
  |none=>rw[hx]at q1;cases q1|some x=>rw[hx]at q1;cases q1;exact⟨x,rfl,rfl⟩
 refine⟨.ref s.heap.objs.size,_,I.laid (t':=tk) kp (le_refl _) (show yu X.prog X.w _ h' _ (.l (es.map λe=>V.ref e.2.1))from⟨by simpa using x2,acc.toList,c,hv,by simpa using e'⟩),rfl,q _ (I.hok.fresh (le_refl _))⟩
def listK:List D->Option R
 | [.dct ks _]=>some (.own (ks.map kD))|_=>none
theorem G7{H:Hp}:∀ks:List KN,Reps K mg H (ks.map oD) (ks.map oV)
 | []=>Reps.nil|none::ks=>Reps.cons (by simp only[oD,oV,Rep]) (G7 ks)|some _::ks=>Reps.cons (by simp only[oD,oV,Rep]) (G7 ks)
def rep_kD{H:Hp}{ks:List KN}{a:Addr}(h:SqT K H a (ks.map oV)):Rep K mg H (kD ks) (.ref a):=by
 simp only[kD,Rep];exact⟨a,_,rfl,h,G7 ks⟩
theorem uz{H:Hp}:∀{es:List DE},(∀e∈es,SqT K H e.2.1 (e.1.map oV))->Reps K mg H ((es.map (·.1)).map kD) (es.map λe=>.ref e.2.1)
 | [],_=>Reps.nil|e::es,h=>Reps.cons (rep_kD (h e qE)) (uz λx hx=>h x (qD _ hx))
def zEG:COk K mg (rDLs K) listK:=by
 intro M H Z xs ds res Q f r e k
 match ds,e with
 | [.dct ks vs],e =>
  cases e;obtain⟨v,rfl,h⟩:=YM r;obtain⟨a,es,rfl,h1,rfl,h2,h3⟩:=h;exact⟨a,es,rfl,⟨zE _ _ h1,λx hx=>zH zE (h2 x hx)⟩,λl hl=>k.own f hl (uz h2)⟩
end
end DV
namespace DV
open PySem L2
section
variable{X:Cx}{K:qH}{mg:Str->Option Value}{M:Addr->Prop}{O:St}{E:zN}{H:Hp}
def got_frz{i:Nat}{r:R}(hl:E.length=O.length)(f:FR K mg M H (O.zip E))(e:E[i]?=some r.slot):Got K mg M O E H [] O (E.set i (.v r.d)) H []:=by
 obtain⟨o,h1,h2⟩:=jZ hl e;have hlt:i<(O.zip E).length:=(qG.mp h2).1;have p:(O.zip E).Perm ((o,r.slot)::(O.zip E).eraseIdx i):=by
  have:=zQ (o,r.slot) (O.zip E) i hlt;rw[jj h2]at this;exact this
 have f2:FR K mg M H ((O.zip E).set i (o,.v r.d)):=((f.perm p).frz).perm (zQ _ _ _ hlt).symm;rw[<- zS (.v r.d) h1]at f2;refine⟨by simp[hl],f2,Step.weak Step.refl λb hb=>zD p.symm b ?_,Zq (ds0:=[]) e (λds' q=>by cases r<;>cases q) _⟩;rw[nil_append,nil_append,zS (.v r.d) h1]at hb;have hb':=zD (zQ _ _ _ hlt) b hb;rw[zb]at hb';exact zC (sublist_cons_self _ _) b hb'
def slR:DV.Slot->Option R
 | .dct ks vs=>some (.dct ks vs)| .own ds=>some (.own ds)|_=>none
def slR_eq{s:DV.Slot}{r:R}(h:slR s=some r):s=r.slot:=by
 cases s<;>first|(cases h;rfl)|(cases h)
def eFrd(i:Nat)(m:ME):ME:=λE=>match E[i]?.bind slR with
 |some r=>m (E.set i (.v r.d))|none=>m E
def ok_frd(i:Nat){e:Expr}{m:ME}(h:EOk X e m):EOk X e (eFrd i m):=zf h λO H Q ⟨M,E,hl,f,k⟩=>by
 unfold eFrd at k;cases hd:E[i]?.bind slR with
 |none=>rw[hd]at k;exact⟨M,E,hl,f,k⟩
 |some r =>
  rw[hd]at k;have hs:E[i]?=some r.slot:=by
   cases e0:E[i]? with
   |none=>rw[e0]at hd;cases hd|some s=>rw[e0]at hd;rw[slR_eq hd]
  have g:=got_frz hl f hs;refine⟨M,_,g.len,g.fr,?_⟩;dsimp only at k;cases em:m (E.set i (.v r.d))with
  |z=>rw[em]at k;exact k|exc x E1=>rw[em]at k;exact λH' g'=>k H' (g.trans g')|ok p=>rw[em]at k;exact λv H' g'=>k v H' (g.trans g')
end
section
variable{K:qH}{mg:Str->Option Value}{X:Cx}{O:L2.St}{H:Hp}{M:Addr->Prop}
def gtK(K:qH)(a:Addr)(Q:VK):List V->Hp->Prop
 | [y,z],H2=>∃es' kb ks,y=.ref kb/\SqT K H2 kb (ks.map oV)/\uu K H2 a es'/\Q ((atE es' ks).getD z) H2|_,_=>False
def gtK_two{a:Addr}{Q:VK}:∀{vs:List V},gtK K a Q vs H->∃y z,vs=[y,z]/\∃es' kb ks,y=.ref kb/\SqT K H kb (ks.map oV)/\uu K H a es'/\Q ((atE es' ks).getD z) H
 | [],h=>h.elim| [_],h=>h.elim| [y,z],h=>⟨y,z,rfl,h⟩|_::_::_::_,h=>h.elim
def tDget(K:qH)(i:Nat)(tk tx:TE):TE:=λO H Q=>∃a es,O[i]?=some (some (.ref a))/\uu K H a es/\tk O H λy H1=>tx O H1 λz H2=>gtK K a Q [y,z] H2
def zEH{es:List DE}{xs:List DX}(r:jy es xs)(ks:List KN){z:V}{u:Value}(rz:zz z u):zz ((atE es ks).getD z) (((atKey xs ks).map (·.2)).getD u):=by
 cases h:atE es ks with
 |none=>rw[jy.none r h];exact rz|some v=>obtain⟨p,e,rv⟩:=jy.at r h;rw[e];exact rv
def pe_dget(i:Nat){x:Str}{k d:Expr}{tk tx:TE}{p ap cp:Pos}(hu:X.A.units+1<cLine)(hv:PE X (.Name x p) (vD i))(hk:PE X k tk)(hd:PE X d tx)(h1:zT k=false)(h2:zT d=false)(hline:(ap.endLine==cp.line)=true) :
  PE X (.Call (.Attribute (.Name x p) "get" ap) [k,d] [] cp) (tDget X.K i tk tx):=by
 intro pins s O H Q I h;obtain⟨a,es,e1,hD,h⟩:=h;refine wpAny_Call_method_late rfl (by rw[zI h1,zI h2];rfl) hline rfl (thn (hv pins s O H (λx H'=>x=.ref a/\uu X.K H' a es/\tk O H' _) I ⟨.ref a,e1,rfl,hD,h⟩) λv s1 ⟨x1,H1,I1,r1,q0,q1,q2⟩=>?_);subst q0;cases r1;obtain⟨xs,r,hm,hd0,_⟩:=Zo I1 q1.1 q1.2;refine⟨"dict","dict.get",PySem.F.plainAttrs_dict,PySem.F.slot_dict_get,PySem.F.type_dict_get,hm.typeIs,λb eb=>?_,?_⟩
 ·cases eb
  obtain⟨o,_,_,ho,hc,_⟩:=hm;exact⟨o,ho,hc.2.1⟩
 ·have hA:=(yw hk (yw hd Y7 (zI h2)) (zI h1)) cp pins s1 O H1 (gtK X.K a Q) I1 q2
  rw[zI h1,zI h2]at hA ⊢;refine Calls.callWith_builtin rfl (Calls.evalArgs_plain ?_);refine thn hA λus s2 ⟨vs,H2,I2,r2,q2⟩=>?_
  obtain⟨y,z,rfl,es',kb,ks,rfl,hb,hD2,q⟩:=gtK_two q2;obtain⟨u1,u2,rfl,ra,rb⟩:=r2.two;cases ra;obtain⟨xs2,r2,hm2,hd2,_⟩:=Zo I2 hD2.1 hD2.2;exact call_meetsIn PySem.F.slot_dict_get hm2.typeIs PySem.F.entry_dict_get (PySem.F.args_dict_get_3 _ _ _) (meetsH_dict_get_default (tupleKind (Gg X.prog X.w)) a kb hd2 _) ⟨tupleKind_room_in1 hu,ks,xs2,Zn I2 hb,hm2,⟨_,H2,I2.tok _,zEH r2 ks rb,q⟩⟩
def zAd(i:Nat)(mk mx:ME):ME:=λE=>match E[i]?.bind ctD with
 |none=>.z
 |some _=>match mk E with
  | .ok (r1,E1)=>(match mx E1 with
   | .ok (r2,E2)=>(match E2[i]?.bind ctD with
    |some (ks,vs)=>(match vY r1.d with
     |some q=>.ok (.v ((YU ks vs q).getD r2.d),E2)|none=>.z)
    |none=>.z)
   |_=>.z)
  |_=>.z
def zCH{E:zN}{i:Nat}{p:List (List KN)×List D}(h:E[i]?.bind ctD=some p):∃s,E[i]?=some s/\ctD s=some p:=by
 cases e:E[i]? with
 |none=>rw[e]at h;cases h|some s=>rw[e]at h;exact⟨s,rfl,h⟩
def zCI{es:List DE}{vs:List D}{q:List KN}{d:D}{z:V}(r:Reps K mg H vs (es.map (·.2.2)))(rz:Rep K mg H d z):Rep K mg H ((YU (es.map (·.1)) vs q).getD d) ((atE es q).getD z):=by
 cases h:YU (es.map (·.1)) vs q with
 |none=>rw[Z9 r h];exact rz|some y=>obtain⟨v,e,rv⟩:=we r h;rw[e];exact rv
def zEI{i:Nat}{mk mx:ME}{Q:VK}(h:tM X (zAd i mk mx) O H Q):tDget X.K i (tM X mk) (tM X mx) O H Q:=by
 obtain⟨M,E,hl,fr,k⟩:=h;unfold zAd at k;cases e0:E[i]?.bind ctD with
 |none=>rw[e0]at k;exact k.elim
 |some p0 =>
  rw[e0]at k;obtain⟨s0,hs0,hc0⟩:=zCH e0;obtain⟨a,es,h1,h2,h3,h4,h5⟩:=W0 hl fr hs0 hc0;refine⟨a,es,h1,⟨h2,λx hx=>zH zE (h4 x hx)⟩,?_⟩;refine ze (T0:=[]) hl fr ?_;cases ea:mk E with
  |z=>rw[ea]at k;exact k|exc x E1=>rw[ea]at k;exact k.elim
  |ok p =>
   obtain⟨r1,E1⟩:=p;rw[ea]at k;intro y H1 g1;dsimp only at k;refine ze (T0:=[(some y,r1.slot)]) g1.len g1.fr ?_;cases eb:mx E1 with
   |z=>rw[eb]at k;exact k|exc x E2=>rw[eb]at k;exact k.elim
   |ok p =>
    obtain⟨r2,E2⟩:=p;rw[eb]at k;intro z H2 g2;have g:=g1.trans' g2;dsimp only at k;cases ec:E2[i]?.bind ctD with
    |none=>rw[ec]at k;exact k.elim
    |some pr =>
     obtain⟨ks,vs⟩:=pr;rw[ec]at k;dsimp only at k;cases eq:vY r1.d with
     |none=>rw[eq]at k;exact k.elim
     |some q =>
      rw[eq]at k;have rp:=Got.reps (vs:=[z,y]) (rs:=[r2,r1]) rfl g;simp only[List.map,Reps]at rp;obtain⟨z',_,q1,rz,y',_,q2,ry,_⟩:=rp;cases q1;cases q2;obtain⟨s1,hs1,hc1⟩:=zCH ec;obtain⟨a',es',h1',h2',rfl,h4',h5'⟩:=W0 g.len g.frame hs1 hc1;have ev:a=a':=by rw[h1]at h1';cases h1';rfl
      subst ev;obtain⟨kb,rfl,hb⟩:=Yv eq ry;exact⟨es',kb,q,rfl,zH zE hb,⟨h2',λx hx=>zH zE (h4' x hx)⟩,k _ H2 (g.more (T:=[(some _,.v _)]) (g.frame.add (zCI h5' rz)) Step.refl.add)⟩
def ok_dget(i:Nat){x:Str}{b c:Expr}{mk mx:ME}{p ap cp:Pos}(hu:X.A.units+1<cLine)(hv:PE X (.Name x p) (vD i))(hb:EOk X b mk)(hc:EOk X c mx)(h1:zT b=false)(h2:zT c=false)(hline:(ap.endLine==cp.line)=true) :
  EOk X (.Call (.Attribute (.Name x p) "get" ap) [b,c] [] cp) (zAd i mk mx):=zf (pe_dget i hu hv hb hc h1 h2 hline) λO H Q h=>zEI h
def get_dic(hu:X.A.units+1<cLine):PGet X (rDIx X.K):=by
 intro pins s O H x y v u Q I rx ry h;obtain⟨a,es,kb,ks,w,rfl,⟨e,hk⟩,rfl,hb,hat,q⟩:=h;cases rx;cases ry;obtain⟨xs,r,hm,hd,_⟩:=Zo I e hk;obtain⟨p,hp,rw'⟩:=jy.at r hat
 exact wpAny_getItem_heap (tupleKind_room_in1 hu) (Zn I hb) hm hp ⟨w,H,I.tok _,rw',q⟩
def sDaug(i:Nat)(mk mv:ME):MS:=λE=>if yg E[i]?=true then .z else match mk E with
 | .ok (r1,E1)=>(match E1[i]?,vY r1.d with
  |some (.dct ks vs),some q=>(match YU ks vs q with
   |some (.int a)=>(match mv E1 with
    | .ok (.v (.int b),E2)=>(match E2[i]? with
     |some (.dct ks2 vs2)=>if ks2.length<1000000 then .ok (.nx,E2.set i (.dct (uw ks2 vs2 q (.int (a+b))).1 (uw ks2 vs2 q (.int (a+b))).2))else .z|_=>.z)
    |_=>.z)
   |_=>.z)
  |_,_=>.z)
 |_=>.z
def zEJ{i:Nat}{mk mv:ME}{D:Ends}(h:tS X (sDaug i mk mv) D O H):tAugS (vD i) (tM X mk) (tM X mv) (rDIx X.K) (ipI λi j=>i+j) (rSetD X.K) D O H:=by
 obtain⟨M,E,hl,fr,k⟩:=h;unfold sDaug at k;cases em:yg E[i]? with
 |true=>rw[em]at k;exact k.elim
 |false =>
  rw[em]at k;obtain⟨s,hs1,hs2⟩:=Jo em;obtain⟨v,hv⟩:=Zy hl fr hs1 hs2;refine⟨v,hv,?_⟩;refine ze (T0:=[]) hl fr ?_;simp only[Bool.false_eq_true,if_false]at k;cases ea:mk E with
  |z=>rw[ea]at k;exact k.elim|exc x E1=>rw[ea]at k;exact k.elim
  |ok p =>
   obtain⟨r1,E1⟩:=p;rw[ea]at k;intro y H1 g1;dsimp only at k;split at k
   ·rename_i ks vs q e1 e3
    split at k
    ·rename_i n1 e4
     obtain⟨a,es,h1,h2,rfl,h4,h5⟩:=W0 g1.len g1.frame e1 rfl;have ev:v=.ref a:=by rw[hv]at h1;exact qJ (qJ h1)
     subst ev;obtain⟨kb,rfl,hb⟩:=Yv e3 g1.rep;obtain⟨w,hw,rw'⟩:=we h5 e4;have ew:=zK rw';subst ew;refine⟨a,es,kb,q,.int n1,rfl,⟨h2,λx hx=>zH zE (h4 x hx)⟩,rfl,zH zE hb,hw,?_⟩;refine ze (T0:=[(some (.ref kb),r1.slot)]) g1.len g1.fr ?_;cases eb:mv E1 with
     |z=>rw[eb]at k;exact k.elim|exc x E2=>rw[eb]at k;exact k.elim
     |ok p =>
      obtain⟨r2,E2⟩:=p;rw[eb]at k;intro z H2 g2;have g:=g1.trans' g2;split at k
      ·rename_i b E2' eo
       cases eo;split at k
       ·rename_i ks2 vs2 e5
        by_cases hc:ks2.length<1000000
        ·rw[if_pos hc]at k
         have rp:=Got.reps (vs:=[z,.ref kb]) (rs:=[.v (.int b),r1]) rfl g;simp only[List.map,Reps]at rp;obtain⟨z',_,q1,rz,y',_,q2,ry,_⟩:=rp;cases q1;cases q2;have ez:=zK rz;obtain⟨a',es',h1',h2',rfl,h4',h5'⟩:=W0 g.len g.frame e5 rfl;have ev:a=a':=by rw[h1]at h1';cases h1';rfl
         subst ev;obtain⟨kb',ek,hb'⟩:=Yv e3 ry;cases ek;obtain⟨o,h1'',h2''⟩:=jZ g.len e5;have eo:o=some (.ref a):=by rw[h1']at h1'';exact(qJ h1'').symm
         subst eo;obtain⟨pk1,pk2⟩:=G4 (q:=q) (kb:=kb) (d:=.int (n1+b)) (v:=.int (n1+b)) h5' (by simp only[Rep]);obtain⟨f,st⟩:=FR.mutD g.frame h2'' (vZ h4' hb') pk2;rw[pk1]at f st;have e:=zS (E:=E2) (.dct (uw (es'.map (·.1)) vs2 q (.int (n1+b))).1 (uw (es'.map (·.1)) vs2 q (.int (n1+b))).2) h1';rw[<- e]at f st;refine⟨n1,b,rfl,ez,a,es',kb,q,rfl,⟨h2',λx hx=>zH zE (h4' x hx)⟩,rfl,zH zE hb',by simpa using hc,k O _ ?_⟩;exact⟨by simp[g.len],f,(g.st.weak (zC (sublist_append_right _ _))).trans st,g.pk.trans (Zq (ds0:=[]) e5 (λds' q=>by cases q) _)⟩
        ·rw[if_neg hc]at k;exact k.elim
       ·exact k.elim
      ·exact k.elim
    ·exact k.elim
   ·exact k.elim
def sk_daug(i:Nat){x:Str}{b e:Expr}{mi mv:ME}{p p1 pos:Pos}(hu:X.A.units+1<cLine)(hv:PE X (.Name x p) (vD i))(hb:EOk X b mi)(he:EOk X e mv)(ha:∀ov iv new,augStore b ov iv new=(do holding [new,ov,iv] (setItem ov iv new);release [new,ov,iv] [];pure .next)) :
  SOk X (.AugAssign (.Subscript (.Name x p) b p1) .Add e pos) (sDaug i mi mv) :=
 yW (zAx hv hb (get_dic hu) he zAy (zCD hu) ha) λD O H=>zEJ
end
inductive Op2 where
 |add|sub|mul|fdiv|mod|pow
def Op2.op:Op2->Operator
 | .add=>.Add | .sub=>.Sub | .mul=>.Mult | .fdiv=>.FloorDiv | .mod=>.Mod | .pow=>.Pow
def Op2.f:Op2->D->D->Option R
 | .add=>zAn | .sub=>subD | .mul=>um | .fdiv=>zAX | .mod=>zFC | .pow=>powD
inductive Cp where
 |lt|le|gt|ge|eq|ne|nin
def Cp.op:Cp->CmpOp
 | .lt=>.Lt | .le=>.LtE | .gt=>.Gt | .ge=>.GtE | .eq=>.Eq | .ne=>.NotEq | .nin=>.NotIn
def Cp.f:Cp->D->D->Option R
 | .lt=>ltD | .le=>leD | .gt=>gtD | .ge=>geD | .eq=>eqG | .ne=>neG | .nin=>inF true
def Cp.isI:Cp->Bool
 | .lt | .le | .gt | .ge=>true
 |_=>false
def Cp.b:Cp->Int->Int->Bool
 | .lt=>ltB | .le=>leB | .gt=>gtB|_=>geB
inductive Bi where
 |len|max|all|int|tuple|sum|abs|repr|lisK
def Bi.nm:Bi->Str
 | .len=>"len" | .max=>"max" | .all=>"all" | .int=>"int" | .tuple=>"tuple" | .sum=>"sum" | .abs=>"abs" | .repr=>"repr" | .lisK=>"list"
def Bi.f:Bi->List D->Option R
 | .len=>lenD | .max=>zBe | .all=>allD | .int=>intF | .tuple=>zFD | .sum=>zFQ | .abs=>absG | .repr=>zD6 | .lisK=>DV.listK
inductive Ty where
 |int|bool|tuple|list|str|dict
def Ty.s:Ty->String
 | .int=>"int" | .bool=>"bool" | .tuple=>"tuple" | .list=>"list" | .str=>"str" | .dict=>"dict"
def Ty.nm:Ty->Str
 | .int=>"int" | .bool=>"bool" | .tuple=>"tuple" | .list=>"list" | .str=>"str" | .dict=>"dict"
inductive Tg where
 |n (i:Nat)
 |t (is:List Nat)
def Tg.m:Tg->MG
 | .n i=>gN i| .t is=>gT is
mutual
inductive Ex where
 |c (d:D)|gl (d:D)|var (i:Nat)|mov (i:Nat)
 |bin (o:Op2) (a b:Ex)|cmp (o:Cp) (a b:Ex)|chain (o o':Cp) (a b c:Ex)
 |neg (a:Ex)|not (a:Ex)|and (a b:Ex)
 |ifx (t:Tx) (a b:Ex)|t (as:Ax)|l (as:Ax)
 |ix (a b:Ex)|ixO (i:Nat) (b:Ex)|sl (a:Ex) (l h:Ox)
 |comp (nl:Nat) (loc capn:List Str) (caps:List Nat) (it:Ix) (tg:Tg) (tt:Tx) (el:Ex)
 |is (T:Ty) (a:Ex)|cB (b:Bi) (as:Ax)|call (k:Nat) (as:Gx)
 |isC (cl:List Str) (y:Str) (a:Ex)|isV (cl:List Str) (a:Ex)|cnt (a b:Ex)|idx (a b:Ex)
 |frd (i:Nat) (a:Ex)|dget (i:Nat) (b c:Ex)|dgO (i:Nat) (b:Ex)|disp (a b:Ex)|dnew
 |dcomp (nl:Nat) (loc capn:List Str) (caps:List Nat) (it:Ix) (tg:Tg) (tt:Tx) (ka va:Ex)
inductive Tx where
 |tOr (a b:Tx)|tNot (a:Tx)|tE (a:Ex)|tTr
inductive Ax where
 |nil|cons (a:Ex) (as:Ax)
inductive Gx where
 |nil|ev (a:Ex) (as:Gx)|lend (i:Nat) (as:Gx)
inductive Ox where
 |oN|oS (a:Ex)
inductive Ix where
 |iL (a:Ex)|iT (a:Ex)|iR1 (as:Ax)|iR2 (as:Ax)|iE (t1:Bool) (as:Ax)
end
mutual
inductive Sx where
 |sIf (t:Tx) (a b:Bx)|sSet (i:Nat) (a:Ex)|sRet (a:Ex)|sDrop (a:Ex)|sIx (i:Nat) (b a:Ex)|sAugIx (i:Nat) (b a:Ex)
 |sForL (a:Ex) (tg:Tg) (b:Bx)|sForT (a:Ex) (tg:Tg) (b:Bx)|sForR1 (as:Ax) (tg:Tg) (b:Bx)|sForI (it:Ix) (tg:Tg) (b:Bx)
 |sDput (i:Nat) (b a:Ex)|sDaug (i:Nat) (b a:Ex)
 |sAny|sTup (is:List Nat) (a:Ex)|sPar (i j:Nat) (as:Ax)
 |sRaise (c:Str)|sTry (cl:List Str) (b:Bx) (i:Nat) (h:Bx)
 |sWhile (t:Tx) (b:Bx)|sAug (i:Nat) (o:Op2) (a:Ex)
inductive Bx where
 |bNil|bOne (s:Sx)|bSeq (s:Sx) (b:Bx)
end
structure FI where
 x:Str
 n:Nat
 lv:Nat
 wild:Bool
 F:MF
def fiF(fs:List FI)(k:Nat):MF:=match fs[k]? with
 |some i=>i.F|none=>λ_=>.z
def fiX(fs:List FI)(k:Nat):Str:=match fs[k]? with
 |some i=>i.x|none=>""
def Op2.aug:Op2->Int->Int->Option Int
 | .add=>λa b=>some (a+b)| .sub=>λa b=>some (a-b)| .mul=>uq|_=>λ_ _=>none
def Op2.isAug:Op2->Bool
 | .add | .sub | .mul=>true
 |_=>false
def u0(m:ME):ME:=λE=>match m E with
 | .exc _ _=>.z|o=>o
def Wa(m:MS):MS:=λE=>match m E with
 | .exc _ _=>.z|o=>o
def G8{m:ME}{E:zN}{p:R×zN}(h:m E=.ok p):u0 m E=.ok p:=by simp only[u0,h]
def WB{m:MS}{E:zN}{p:Fl×zN}(h:m E=.ok p):Wa m E=.ok p:=by simp only[Wa,h]
def no_E{X:Cx}{e:Expr}{m:ME}(h:EOk X.nox e m):EOk X e (u0 m):=zf h.nox λO H Q ⟨M,E,hl,fr,k⟩=>by
 unfold u0 at k;refine⟨M,E,hl,fr,?_⟩;cases e:m E with
 |z=>rw[e]at k;exact k|exc x E1=>rw[e]at k;exact k.elim|ok p=>rw[e]at k;exact k
def no_S{X:Cx}{st:Stmt}{m:MS}(h:SOk X.nox st m):SOk X st (Wa m):=λpins s O H D I ⟨M,E,hl,fr,k⟩=>by
 refine wpAny_mono (h pins s O H D (I.wish _) ⟨M,E,hl,fr,?_⟩) (λ_ _ q=>q.unwish) λ_ _ z=>False.elim z
 unfold Wa at k;cases e:m E with
 |z=>rw[e]at k;exact k|exc x E1=>rw[e]at k;exact k.elim
 |ok p =>
  rw[e]at k;obtain⟨fl,E1⟩:=p;cases fl<;>exact k
def sk_forN{X:Cx}{st:Stmt}{mi:MI}{tg:MG}{body:MS}(h1:PS X st (λD O H=>tMI X mi O H λ_ _=>False))(h2:SOk X st (Wa (sForI mi tg body))):SOk X st (zCB mi tg body):=λpins s O H D I ⟨M,E,hl,fr,k⟩=>by
 unfold zCB at k;cases e:mi E with
 |exc x E1=>rw[e]at k;exact h1 pins s O H D I ⟨M,E,hl,fr,by rw[e];exact λH' g=>k O H' g⟩|z=>rw[e]at k;exact h2 pins s O H D I ⟨M,E,hl,fr,k⟩|ok p=>rw[e]at k;exact h2 pins s O H D I ⟨M,E,hl,fr,k⟩
def zFX{i:Nat}{m:ME}:Wa (sSet i m)=sSet i (u0 m):=by
 funext E
 simp only[Wa,sSet,u0];cases m E with
 |z=>rfl|exc x E1=>rfl
 |ok p =>
  obtain⟨r,E1⟩:=p;dsimp only;cases ZO i r E1<;>rfl
mutual
def dE(fs:List FI):Ex->ME
 | .c d=>eC d| .gl d=>eC d| .var i=>zAU i| .mov i=>zBj i| .bin o a b=>ZN o.f (dE fs a) (dE fs b)| .cmp o a b=>ZN o.f (dE fs a) (dE fs b)| .chain o o' a b c=>jb o.b o'.b (dE fs a) (dE fs b) (dE fs c)| .neg a=>eNeg (dE fs a)| .not a=>zBX (dE fs a)| .and a b=>Qm (dE fs a) (dE fs b)| .ifx t a b=>eIf (dT fs t) (dE fs a) (dE fs b)| .t as=>zBZ (dA fs as)| .l as=>zBa (dA fs as)| .ix a b=>ZN ixD (dE fs a) (dE fs b)| .ixO i b=>zDk i (dE fs b)| .sl a l h=>eSl slD (dE fs a) (dO fs l) (dO fs h)| .comp nl _ _ caps it tg tt el=>u0 (Z6 nl caps (dI fs it) tg.m (dT fs tt) (dE fs el))| .is T a=>eIs T.s (dE fs a)| .cB b as=>eCB b.f (dA fs as)| .call k as=>jh (fiF fs k) (dG fs as)| .isC cl y a=>eIsX cl (·==y) (dE fs a)| .isV cl a=>eIsX cl (λ_=>true) (dE fs a)| .cnt a b=>eMet cntD (dE fs a) (dE fs b)| .idx a b=>eMet idxD (dE fs a) (dE fs b)| .dgO i b=>eDgO i (dE fs b)| .frd i a=>eFrd i (dE fs a)| .dget i b c=>zAd i (dE fs b) (dE fs c)| .disp a b=>zCF (dE fs a) (dE fs b)| .dnew=>eDNew| .dcomp nl _ _ caps it tg tt ka va=>u0 (WA nl caps (dI fs it) tg.m (dT fs tt) (maD (dE fs ka) (dE fs va)))
def dT(fs:List FI):Tx->MT
 | .tOr a b=>zAW (dT fs a) (dT fs b)| .tNot a=>Yp (dT fs a)| .tE a=>tT (dE fs a)| .tTr=>zBo
def dA(fs:List FI):Ax->MA
 | .nil=>zBY| .cons a as=>Yq (dE fs a) (dA fs as)
def dG(fs:List FI):Gx->List Arg
 | .ev a as=>.ev (dE fs a)::dG fs as| .lend i as=>.lend i::dG fs as| .nil=>[]
def dO(fs:List FI):Ox->MO
 | .oN=>zDh| .oS a=>zBg (dE fs a)
def dI(fs:List FI):Ix->MI
 | .iL a=>iL (dE fs a)| .iT a=>iT (dE fs a)| .iR1 as=>iR1 (dA fs as)| .iR2 as=>iR2 (dA fs as)| .iE t1 as=>iE t1 (dA fs as)
end
mutual
def dS(fs:List FI):Sx->MS
 | .sIf t a b=>sIf (dT fs t) (dB fs a) (dB fs b)| .sSet i a=>sSet i (dE fs a)| .sRet a=>sRet (dE fs a)| .sDrop a=>sDrop (dE fs a)| .sIx i b a=>ZA i (dE fs b) (dE fs a)| .sDput i b a=>DV.sDput i (dE fs b) (dE fs a)| .sDaug i b a=>DV.sDaug i (dE fs b) (dE fs a)| .sAugIx i b a=>DV.sAugIx i (dE fs b) (dE fs a)| .sTup is a=>sTup is (dE fs a)| .sPar i j as=>sPar i j (dA fs as)| .sForL a tg b=>Wa (sForL (dE fs a) tg.m (dB fs b))| .sForI it tg b=>zCB (dI fs it) tg.m (dB fs b)| .sForT a tg b=>Wa (sForT (dE fs a) tg.m (dB fs b))| .sForR1 a tg b=>Wa (sForR1 (dA fs a) tg.m (dB fs b))| .sAny=>λ_=>.z| .sRaise c=>DV.sRaise c| .sTry cl b i h=>DV.sTry cl i (dB fs b) (dB fs h)| .sWhile t b=>Wa (DV.sWhile (dT fs t) (dB fs b))| .sAug i o a=>DV.sAug i o.aug (dE fs a)
def dB(fs:List FI):Bx->MS
 | .bNil=>zBh| .bOne s=>dS fs s| .bSeq s b=>Gs (dS fs s) (dB fs b)
end
def rE_c{fs d}:dE fs (.c d)=eC d:=rfl
def rE_gl{fs d}:dE fs (.gl d)=eC d:=rfl
def JU{fs i}:dE fs (.var i)=zAU i:=rfl
def rE_mov{fs i}:dE fs (.mov i)=zBj i:=rfl
def W2{fs o a b}:dE fs (.bin o a b)=ZN o.f (dE fs a) (dE fs b):=rfl
def GA{fs o a b}:dE fs (.cmp o a b)=ZN o.f (dE fs a) (dE fs b):=rfl
def ZX{fs o o' a b c}:dE fs (.chain o o' a b c)=jb o.b o'.b (dE fs a) (dE fs b) (dE fs c):=rfl
def rE_neg{fs a}:dE fs (.neg a)=eNeg (dE fs a):=rfl
def Q4{fs a b}:dE fs (.and a b)=Qm (dE fs a) (dE fs b):=rfl
def zFY{fs t a b}:dE fs (.ifx t a b)=eIf (dT fs t) (dE fs a) (dE fs b):=rfl
def rE_tup{fs as}:dE fs (.t as)=zBZ (dA fs as):=rfl
def WC{fs as}:dE fs (.l as)=zBa (dA fs as):=rfl
def rE_ix{fs a b}:dE fs (.ix a b)=ZN ixD (dE fs a) (dE fs b):=rfl
def Q5{fs i b}:dE fs (.ixO i b)=zDk i (dE fs b):=rfl
def rE_sl{fs a l h}:dE fs (.sl a l h)=eSl slD (dE fs a) (dO fs l) (dO fs h):=rfl
def zCJ{fs nl u1 u2 caps it tg tt el}:dE fs (.comp nl u1 u2 caps it tg tt el)=u0 (Z6 nl caps (dI fs it) tg.m (dT fs tt) (dE fs el)):=rfl
def rE_is{fs T a}:dE fs (.is T a)=eIs T.s (dE fs a):=rfl
def zEK{fs b as}:dE fs (.cB b as)=eCB b.f (dA fs as):=rfl
def yj{fs k as}:dE fs (.call k as)=jh (fiF fs k) (dG fs as):=rfl
def zFZ{fs i b}:dE fs (.dgO i b)=eDgO i (dE fs b):=rfl
def zFa{fs i a}:dE fs (.frd i a)=eFrd i (dE fs a):=rfl
def rE_dget{fs i b c}:dE fs (.dget i b c)=zAd i (dE fs b) (dE fs c):=rfl
def rE_disp{fs a b}:dE fs (.disp a b)=zCF (dE fs a) (dE fs b):=rfl
def zEL{fs nl u1 u2 caps it tg tt ka va}:dE fs (.dcomp nl u1 u2 caps it tg tt ka va)=u0 (WA nl caps (dI fs it) tg.m (dT fs tt) (maD (dE fs ka) (dE fs va))):=rfl
def rT_tOr{fs a b}:dT fs (.tOr a b)=zAW (dT fs a) (dT fs b):=rfl
def rT_tNot{fs a}:dT fs (.tNot a)=Yp (dT fs a):=rfl
def zEM{fs a}:dT fs (.tE a)=tT (dE fs a):=rfl
def zFb{fs}:dT fs (.tTr)=zBo:=rfl
def WD{fs}:dA fs (.nil)=zBY:=rfl
def G9{fs a as}:dA fs (.cons a as)=Yq (dE fs a) (dA fs as):=rfl
def WE{fs a as}:dG fs (.ev a as)=.ev (dE fs a)::dG fs as:=rfl
def vb{fs i as}:dG fs (.lend i as)=.lend i::dG fs as:=rfl
def jc{fs}:dG fs (.nil)=[]:=rfl
def rO_oN{fs}:dO fs (.oN)=zDh:=rfl
def rO_oS{fs a}:dO fs (.oS a)=zBg (dE fs a):=rfl
def rI_iL{fs a}:dI fs (.iL a)=iL (dE fs a):=rfl
def rI_iT{fs a}:dI fs (.iT a)=iT (dE fs a):=rfl
def rI_iR1{fs as}:dI fs (.iR1 as)=iR1 (dA fs as):=rfl
def rI_iR2{fs as}:dI fs (.iR2 as)=iR2 (dA fs as):=rfl
def rI_iE{fs t1 as}:dI fs (.iE t1 as)=iE t1 (dA fs as):=rfl
def GB{fs t a b}:dS fs (.sIf t a b)=sIf (dT fs t) (dB fs a) (dB fs b):=rfl
def WF{fs i a}:dS fs (.sSet i a)=sSet i (dE fs a):=rfl
def wG{fs a}:dS fs (.sRet a)=sRet (dE fs a):=rfl
def Q6{fs a}:dS fs (.sDrop a)=sDrop (dE fs a):=rfl
def zCK{fs i b a}:dS fs (.sIx i b a)=ZA i (dE fs b) (dE fs a):=rfl
def zEN{fs i b a}:dS fs (.sDput i b a)=DV.sDput i (dE fs b) (dE fs a):=rfl
def zEO{fs i b a}:dS fs (.sDaug i b a)=DV.sDaug i (dE fs b) (dE fs a):=rfl
def zCL{fs i b a}:dS fs (.sAugIx i b a)=DV.sAugIx i (dE fs b) (dE fs a):=rfl
def rS_sTup{fs is a}:dS fs (.sTup is a)=sTup is (dE fs a):=rfl
def rS_sPar{fs i j as}:dS fs (.sPar i j as)=sPar i j (dA fs as):=rfl
def zEP{fs a tg b}:dS fs (.sForL a tg b)=Wa (sForL (dE fs a) tg.m (dB fs b)):=rfl
def zEQ{fs it tg b}:dS fs (.sForI it tg b)=zCB (dI fs it) tg.m (dB fs b):=rfl
def zER{fs a tg b}:dS fs (.sForT a tg b)=Wa (sForT (dE fs a) tg.m (dB fs b)):=rfl
def zCM{fs a tg b}:dS fs (.sForR1 a tg b)=Wa (sForR1 (dA fs a) tg.m (dB fs b)):=rfl
def zCN{fs c}:dS fs (.sRaise c)=DV.sRaise c:=rfl
def zCO{fs cl b i h}:dS fs (.sTry cl b i h)=DV.sTry cl i (dB fs b) (dB fs h):=rfl
def GC{fs t b}:dS fs (.sWhile t b)=Wa (DV.sWhile (dT fs t) (dB fs b)):=rfl
def rS_sAug{fs i o a}:dS fs (.sAug i o a)=DV.sAug i o.aug (dE fs a):=rfl
def vc{fs}:dB fs (.bNil)=zBh:=rfl
def wf{fs s}:dB fs (.bOne s)=dS fs s:=rfl
def wg{fs s b}:dB fs (.bSeq s b)=Gs (dS fs s) (dB fs b):=rfl
structure Sg where
 N:List Str
 sc:Scope
 top:Bool
 cs:List (Str×D)
 fs:List FI
 bs:List Str
 lv:Nat
 calm:Bool
 cl:List Str
 rs:List Str
 oc:List Str
 ri:List Str
def kIs(sg:Sg)(x:Str)(k:NameKind):Bool:=sg.sc.names.lookup x==some k
def vis(sg:Sg)(i:Nat)(x:Str):Bool:=sg.N[i]?==some x&&(kIs sg x .local||(kIs sg x .cell||kIs sg x .free))&&(!(x==("__debug__":Str))&&!(x==("__classdict__":Str)))
def glb(sg:Sg)(x:Str):Bool:=kIs sg x .globalImplicit&&!(x==("__debug__":Str))
def locd(sg:Sg)(i:Nat)(x:Str):Bool:=sg.N[i]?==some x&&(kIs sg x .local||(kIs sg x .cell&&(sg.top||sg.oc.contains x)))
def cIs:D->Const->Bool
 | .non,.none=>true| .bl b,.bool c=>b==c| .int i,.int j=>i==j| .str x,.str y=>x==y|_,_=>false
def feq:D->D->Bool
 | .non,.non=>true| .bl b,.bl c=>b==c| .int i,.int j=>i==j| .str x,.str y=>x==y|_,_=>false
def geq:D->D->Bool
 | .t [.int a,.int b],.t [.int c,.int d]=>a==c&&b==d| .t [.non,.int b],.t [.non,.int d]=>b==d|d,e=>feq d e
def gIs(sg:Sg)(x:Str)(d:D):Bool:=match sg.cs.lookup x with
 |some d'=>geq d d'|none=>false
def fIs(sg:Sg)(k:Nat)(x:Str):Bool:=match sg.fs[k]? with
 |some i=>i.x==x|none=>false
def fArg(sg:Sg)(n:Nat)(k:Nat):Bool:=match sg.fs[k]? with
 |some i=>i.n==n&&decide (i.lv<=sg.lv)&&(sg.calm||i.wild)
 |none=>false
def bIn(sg:Sg)(x:Str):Bool:=sg.bs.contains x
def gLen:Gx->Nat
 | .ev _ as=>gLen as+1| .lend _ as=>gLen as+1| .nil=>0
def Q7:Tg->Sg->Expr->Bool
 | .n i,sg,e=>match e with
  | .Name x _=>locd sg i x|_=>false
 | .t is,sg,e=>match e with
  | .Tuple es _ _=>all2 sg is es|_=>false
where all2 (sg:Sg):List Nat->List Expr->Bool
 | [],[]=>true
 |i::is,e::es=>(match e with | .Name x _=>locd sg i x|_=>false)&&all2 sg is es
 |_,_=>false
def relab(scope:Scope)(sc:Scope):Scope:={scope with names:=scope.names.map λ(n,k)=>if(k==NameKind.free&&sc.kind==.function&&sc.names.lookup n==some .cell)then(n,NameKind.cell)else(n,k)}
def capB(sg:Sg)(scope:Scope):List Nat->List Str->Bool
 | [],[]=>true|j::js,x::xs=>sg.N[j]?==some x&&scope.names.lookup x==some .free&&capB sg scope js xs|_,_=>false
def Js(sg:Sg)(N:List Str)(scope:Scope):Sg:={sg with N:=N,sc:=relab scope sg.sc,top:=false,oc:=(scope.names.filter λy=>y.2==.cell).map Prod.fst}
def GE(sg:Sg)(nl:Nat)(loc capn:List Str)(caps:List Nat)(scope:Scope):Bool :=
 loc.length==nl&&scope.kind==.function&&decide (loc++capn).Nodup&&scope.names.all (λy=>y.2 != .local||scope.names.lookup y.1==some .local)&&scope.names.all (λy=>y.2 != .cell||scope.names.lookup y.1==some .cell)
  && scope.names.all (λy=>y.2 != .free||sg.sc.names.lookup y.1==some .cell)&&capB sg scope caps capn
def isCmp:Ex->Bool
 | .cmp _ _ _=>true| .chain _ _ _ _ _=>true|_=>false
def swOk(sg:Sg)(es:List Expr)(v:Expr):Bool:=match v with
 | .Tuple vs _ _=>es.any (λe=>match e with | .Name x _=>!(kIs sg x .local)|_=>true)||vs.all (foldedForSure 8)
 |_=>true
def swB(sg:Sg)(x:Str)(px:Pos)(scope:Scope)(vp:Pos):Bool:=kIs sg x .local&&px.line==vp.line&&!(scope.names.any λy=>y.1==x&&(y.2==.local||y.2==.cell))
def isCo:Ex->Bool
 | .comp _ _ _ _ _ _ _ _=>true|_=>false
def isDc:Ex->Bool
 | .dcomp _ _ _ _ _ _ _ _ _=>true|_=>false
def setOk(sg:Sg)(x:Str)(px:Pos)(a:Ex)(v:Expr):Bool:=match v with
 | .ListComp _ _ scope vp=>sg.sc.kind==.function&&(!swB sg x px scope vp||isCo a)
 | .DictComp _ _ _ scope vp=>sg.sc.kind==.function&&(!swB sg x px scope vp||isDc a)
 |v=>Jl v
def zES(sg:Sg)(i j:Nat)(x y:Str)(px py:Pos)(a b:Expr):Bool :=
 sg.sc.kind==.function&&sg.N[i]?==some x&&sg.N[j]?==some y&&i != j&&kIs sg x .local&&kIs sg y .local&&py.line==px.line&&!(x==y)&&!zT a&&!zT b&&!([a,b].all (foldedForSure 8))&&!([a,b].all (constantsAlone 8))
def isTr:Tx->Bool
 | .tTr=>true|_=>false
def chkZ:Ix->Expr->Bool
 | .iE _ _,e=>match e with
  | .Tuple _ _ _=>true|_=>false
 |_,_=>true
mutual
def zu:Ex->Sg->Expr->Bool
 | .c d,_,e=>match e with
  | .Constant k _ _=>cIs d k|_=>false
 | .gl d,sg,e=>match e with
  | .Name x _=>glb sg x&&gIs sg x d|_=>false
 | .var i,sg,e=>match e with
  | .Name x _=>vis sg i x|_=>false
 | .mov i,sg,e=>match e with
  | .Name x _=>vis sg i x|_=>false
 | .bin o a b,sg,e=>match e with
  | .BinOp x op y _=>op==o.op&&(zu a sg x&&zu b sg y)|_=>false
 | .cmp o a b,sg,e=>match e with
  | .Compare x [op] [y] _=>op==o.op&&jL y&&(zu a sg x&&zu b sg y)|_=>false
 | .chain o o' a b c,sg,e=>match e with
  | .Compare x [op,op'] [y,z] _=>op==o.op&&op'==o'.op&&o.isI&&o'.isI&&jL z&&(zu a sg x&&(zu b sg y&&zu c sg z))|_=>false
 | .neg a,sg,e=>match e with
  | .UnaryOp .USub x _=>zu a sg x|_=>false
 | .not a,sg,e=>match e with
  | .UnaryOp .Not x _=>zu a sg x|_=>false
 | .and a b,sg,e=>match e with
  | .BoolOp .And (x::y::r) p=>zu a sg x&&(match r with | []=>zu b sg y|z::r'=>zu b sg (.BoolOp .And (y::z::r') p))
  |_=>false
 | .ifx t a b,sg,e=>match e with
  | .IfExp c x y _=>chkT t sg c&&(zu a sg x&&zu b sg y)|_=>false
 | .t as,sg,e=>match e with
  | .Tuple es _ _=>chkA as sg es|_=>false
 | .l as,sg,e=>match e with
  | .List es _=>chkA as sg es|_=>false
 | .ix a b,sg,e=>match e with
  | .Subscript x y _=>Wb y&&(zu a sg x&&zu b sg y)|_=>false
 | .ixO i b,sg,e=>match e with
  | .Subscript (.Name x _) y _=>vis sg i x&&Wb y&&zu b sg y|_=>false
 | .sl a l h,sg,e=>match e with
  | .Subscript x (.Slice lo hi none _) _=>zu a sg x&&(chkO l sg lo&&chkO h sg hi)|_=>false
 | .comp nl loc capn caps it tg tt el,sg,e=>match e with
  | .ListComp elt [⟨target,iter,ifs,0⟩] scope _=>sg.calm&&(GE sg nl loc capn caps scope&&jL iter&&((chkZ it target&&chkI it sg iter)&&(Q7 tg (Js sg (loc++capn) scope) target&&((match ifs with | []=>isTr tt|c::cs=>cs.isEmpty&&chkT tt (Js sg (loc++capn) scope) c)&&zu el (Js sg (loc++capn) scope) elt))))
  |_=>false
 | .is T a,sg,e=>match e with
  | .Call (.Name f _) [x,.Name y _] [] _=>f == "isinstance"&&y==T.nm&&glb sg "isinstance"&&bIn sg "isinstance"&&glb sg T.nm&&bIn sg T.nm&&!zT x&&zu a sg x|_=>false
 | .cB b as,sg,e=>match e with
  | .Call (.Name f _) (x::es) [] _=>sg.calm&&(f==b.nm&&glb sg b.nm&&bIn sg b.nm&&ja (x::es)&&chkA as sg (x::es))|_=>false
 | .call k as,sg,e=>match e with
  | .Call (.Name f _) (x::es) [] _=>glb sg f&&fIs sg k f&&fArg sg (gLen as) k&&ja (x::es)&&chkG as sg (x::es)|_=>false
 | .isC cl y a,sg,e=>match e with
  | .Call (.Name f _) [x,.Name z _] [] _=>f == "isinstance"&&z==y&&glb sg "isinstance"&&bIn sg "isinstance"&&glb sg y&&(cl==sg.cl&&sg.cl.contains y)&&!zT x&&zu a sg x|_=>false
 | .isV cl a,sg,e=>match e with
  | .Call (.Name f _) [x,.Name z _] [] _=>f == "isinstance"&&z == "ValueError"&&glb sg "isinstance"&&bIn sg "isinstance"&&glb sg "ValueError"&&bIn sg "ValueError"&&(cl==sg.cl&&!sg.cl.isEmpty)&&!zT x&&zu a sg x|_=>false
 | .cnt a b,sg,e=>match e with
  | .Call (.Attribute (.Name x p) m ap) [v] [] cp=>m == "count"&&ap.endLine==cp.line&&!zT v&&(zu a sg (.Name x p)&&zu b sg v)|_=>false
 | .idx a b,sg,e=>match e with
  | .Call (.Attribute (.Name x p) m ap) [v] [] cp=>m == "index"&&ap.endLine==cp.line&&!zT v&&(zu a sg (.Name x p)&&zu b sg v)|_=>false
 | .frd i a,sg,e=>zu a sg e
 | .dget i b c,sg,e=>match e with
  | .Call (.Attribute (.Name x p) m ap) [y,z] [] cp=>m == "get"&&ap.endLine==cp.line&&vis sg i x&&!zT y&&!zT z&&(zu b sg y&&zu c sg z)|_=>false
 | .dgO i b,sg,e=>match e with
  | .Subscript (.Name x _) y _=>vis sg i x&&Wb y&&zu b sg y|_=>false
 | .disp a b,sg,e=>match e with
  | .Dict [some x] [y] _=>zu a sg x&&zu b sg y|_=>false
 | .dnew,_,e=>match e with
  | .Dict [] [] _=>true|_=>false
 | .dcomp nl loc capn caps it tg tt ka va,sg,e=>match e with
  | .DictComp ke ve [⟨target,iter,ifs,0⟩] scope _=>sg.calm&&(GE sg nl loc capn caps scope&&jL iter&&((chkZ it target&&chkI it sg iter)&&(Q7 tg (Js sg (loc++capn) scope) target&&((match ifs with | []=>isTr tt|c::cs=>cs.isEmpty&&chkT tt (Js sg (loc++capn) scope) c)&&(zu ka (Js sg (loc++capn) scope) ke&&zu va (Js sg (loc++capn) scope) ve)))))
  |_=>false
def chkT:Tx->Sg->Expr->Bool
 | .tOr a b,sg,e=>match e with
  | .BoolOp .Or (x::y::r) p=>chkT a sg x&&(match r with | []=>chkT b sg y|z::r'=>chkT b sg (.BoolOp .Or (y::z::r') p))
  |_=>false
 | .tNot a,sg,e=>match e with
  | .UnaryOp .Not x _=>chkT a sg x|_=>false
 | .tE a,sg,e=>(zE9 e||isCmp a)&&zu a sg e
 | .tTr,_,_=>false
def chkA:Ax->Sg->List Expr->Bool
 | .nil,_,es=>es.isEmpty
 | .cons a as,sg,es=>match es with
  |x::r=>!zT x&&(zu a sg x&&chkA as sg r)| []=>false
def chkG:Gx->Sg->List Expr->Bool
 | .nil,_,es=>es.isEmpty
 | .ev a as,sg,es=>match es with
  |x::r=>!zT x&&(zu a sg x&&chkG as sg r)| []=>false
 | .lend i as,sg,es=>match es with
  | .Name x _::r=>vis sg i x&&chkG as sg r|_=>false
def chkO:Ox->Sg->Option Expr->Bool
 | .oN,_,o=>o.isNone
 | .oS a,sg,o=>match o with
  |some e=>zu a sg e|none=>false
def chkI:Ix->Sg->Expr->Bool
 | .iL a,sg,e=>zu a sg e| .iT a,sg,e=>zu a sg e
 | .iR1 as,sg,e=>match e with
  | .Call (.Name f _) [x] [] _=>f == "range"&&glb sg "range"&&bIn sg "range"&&!zT x&&chkA as sg [x]|_=>false
 | .iR2 as,sg,e=>match e with
  | .Call (.Name f _) [x,y] [] _=>f == "range"&&glb sg "range"&&bIn sg "range"&&!zT x&&!zT y&&chkA as sg [x,y]|_=>false
 | .iE t1 as,sg,e=>match e with
  | .Call (.Name f _) [x] [] _=>f == "enumerate"&&glb sg "enumerate"&&bIn sg "enumerate"&&!zT x&&chkA as sg [x]|_=>false
end
mutual
def WG:Sx->Sg->Stmt->Bool
 | .sIf t a b,sg,e=>match e with
  | .If c x y _=>chkT t sg c&&(chkB a sg x&&chkB b sg y)|_=>false
 | .sSet i a,sg,e=>match e with
  | .Assign [.Name x px] v _=>locd sg i x&&setOk sg x px a v&&zu a sg v|_=>false
 | .sAny,_,_=>true
 | .sRaise c,sg,e=>match e with
  | .Raise (some (.Call (.Name x _) [] [] _)) none _=>sg.calm&&(x==c&&glb sg c&&sg.rs.contains c)|_=>false
 | .sWhile t b,sg,e=>match e with
  | .While c body [] _=>chkT t sg c&&chkB b sg body|_=>false
 | .sAug i o a,sg,e=>match e with
  | .AugAssign (.Name x _) op v _=>locd sg i x&&op==o.op&&o.isAug&&zu a sg v|_=>false
 | .sTry cl b i h,sg,e=>match e with
  | .Try body [.ExceptHandler (some (.Name t _)) (some n) (b0::suite) _] [] [] _=>t == "ThrowError"&&glb sg "ThrowError"&&(cl==sg.cl&&!sg.cl.isEmpty)&&sg.top&&(sg.N[i]?==some n&&kIs sg n .local)&&(chkB b sg body&&chkB h {sg with calm:=false} (b0::suite))
  |_=>false
 | .sTup is a,sg,e=>match e with
  | .Assign [.Tuple es k p] v _=>sg.calm&&(Q7.all2 sg is es&&Jl v&&swOk sg es v&&zu a sg v)|_=>false
 | .sPar i j as,sg,e=>match e with
  | .Assign [.Tuple [.Name x px,.Name y py] _ _] (.Tuple [a,b] _ _) _=>sg.calm&&(zES sg i j x y px py a b&&chkA as sg [a,b])|_=>false
 | .sRet a,sg,e=>match e with
  | .Return (some v) _=>zu a sg v|_=>false
 | .sDrop a,sg,e=>match e with
  | .Expr v _=>Jl v&&zu a sg v|_=>false
 | .sIx i b a,sg,e=>match e with
  | .Assign [.Subscript (.Name x _) y _] v _=>vis sg i x&&Wb y&&Jl v&&(zu b sg y&&zu a sg v)|_=>false
 | .sDaug i b a,sg,e=>match e with
  | .AugAssign (.Subscript (.Name x _) y _) op v _=>vis sg i x&&op==.Add&&Wb y&&(zu b sg y&&zu a sg v)|_=>false
 | .sDput i b a,sg,e=>match e with
  | .Assign [.Subscript (.Name x _) y _] v _=>vis sg i x&&Wb y&&Jl v&&(zu b sg y&&zu a sg v)|_=>false
 | .sAugIx i b a,sg,e=>match e with
  | .AugAssign (.Subscript (.Name x _) y _) op v _=>vis sg i x&&op==.Add&&Wb y&&(zu b sg y&&zu a sg v)|_=>false
 | .sForL a tg b,sg,e=>match e with
  | .For t it body [] _=>sg.calm&&(jL it&&Q7 tg sg t&&(zu a sg it&&chkB b sg body))|_=>false
 | .sForI ix tg b,sg,e=>match e with
  | .For t it body [] _=>sg.calm&&(jL it&&Q7 tg sg t&&((chkZ ix t&&chkI ix sg it)&&chkB b sg body))|_=>false
 | .sForT a tg b,sg,e=>match e with
  | .For t it body [] _=>sg.calm&&(jL it&&Q7 tg sg t&&(zu a sg it&&chkB b sg body))|_=>false
 | .sForR1 as tg b,sg,e=>match e with
  | .For t (.Call (.Name f _) [x] [] _) body [] _=>sg.calm&&(f == "range"&&glb sg "range"&&bIn sg "range"&&!zT x&&Q7 tg sg t&&(chkA as sg [x]&&chkB b sg body))|_=>false
def chkB:Bx->Sg->List Stmt->Bool
 | .bNil,_,l=>l.isEmpty
 | .bOne a,sg,l=>match l with
  | [s]=>WG a sg s|_=>false
 | .bSeq a b,sg,l=>match l with
  |s::r=>WG a sg s&&chkB b sg r|_=>false
end
structure SgOk(X:Cx)(sg:Sg):Prop where
 N:X.N=sg.N
 sc:X.env.scope=sg.sc
 fn:sg.top=true->∀x,X.fn x=true
 oc:∀x∈sg.oc,X.env.scope.names.lookup x=some .cell->X.fn x=true
 calm:sg.calm=true->X.calm=true
 hd:sg.calm=true->X.A.handled=none
 stk:sg.top=true->X.stack=X.env::X.outer/\X.env.frame=some X.env.locals
 nd:X.N.Nodup
 cs:∀x d,sg.cs.lookup x=some d->∃u v,X.mg x=some u/\zz v u/\∀H,Rep X.K X.mg H d v
 fs:∀i∈sg.fs,∃f fd ps,X.mg i.x=some (.ref f)/\keepIn X.K (.ref f)=true/\ZL X.K fd ps []/\ps.length=i.n/\FnOkN (!i.wild) X.prog X.w X.K X.mg X.base i.lv f fd ps (spM X.K X.mg i.n i.F)
 bs:∀x∈sg.bs,X.mg x=none
 room:RoomN sg.lv X.A
 cl:sg.cl≠[]->∃T,X.mg "ThrowError"=some (.ref T)/\TCls X.K T/\∀c∈sg.cl,∃C,X.mg c=some (.ref C)/\XCls X.K c C T/\C≠T
 rs:∀c∈sg.rs,∃C,X.mg c=some (.ref C)/\excIn X.K C VB "ValueError.__new__"=true
 sm:SmOk X.K
 ri:∀c∈sg.ri,RIok X.prog X.w X.K X.mg X.base c/\RAok X.K X.mg c
section
variable{X:Cx}{sg:Sg}
def j5(G:SgOk X sg){x:Str}{k:NameKind}(h:kIs sg x k=true):X.env.scope.names.lookup x=some k:=by
 rw[G.sc];simpa[kIs]using h
def yk(G:SgOk X sg){x:Str}(h:glb sg x=true):Gl X x/\(x==("__debug__":Str))=false:=by
 simp only[glb,Bool.and_eq_true,Bool.not_eq_true']at h;exact⟨j5 G h.1,h.2⟩
def JV(G:SgOk X sg){x:Str}{i:Nat}{pos:Pos}(h:vis sg i x=true):PE X (.Name x pos) (vD i):=by
 simp only[vis,Bool.and_eq_true,Bool.or_eq_true,Bool.not_eq_true']at h;refine pe_var (by rw[G.N];simpa using h.1.1) ?_ h.2.1 h.2.2;rcases h.1.2 with q|q|q
 ·exact .inl (j5 G q)
 ·exact .inr (.inl (j5 G q))
 ·exact .inr (.inr (j5 G q))
def vd(G:SgOk X sg){x:Str}{i:Nat}(h:locd sg i x=true):X.N[i]?=some x/\Loc X.env.scope x/\(X.fn x=true\/X.env.scope.names.lookup x=some .local):=by
 simp only[locd,Bool.and_eq_true,Bool.or_eq_true]at h;refine⟨by rw[G.N];simpa using h.1,?_⟩;rcases h.2 with q|q
 ·exact⟨.inl (j5 G q),.inr (j5 G q)⟩
 ·refine⟨.inr (j5 G q.1),.inl ?_⟩
  rcases q.2 with q2|q2
  ·exact G.fn q2 x
  ·exact G.oc x (by simpa using q2) (j5 G q.1)
def JW(G:SgOk X sg){x:Str}(h:bIn sg x=true):X.mg x=none:=G.bs x (by simpa[bIn]using h)
def feq_of{d d':D}(h:feq d d'=true):d=d':=by
 cases d<;>cases d'<;>simp[feq]at h<;>first|rfl|(subst h;rfl)
def geq_of{d d':D}(h:geq d d'=true):d=d':=by
 unfold geq at h;split at h
 ·obtain⟨h1,h2⟩:=Bool.and_eq_true_iff.mp h
  have:=beq_iff_eq.mp h1;have:=beq_iff_eq.mp h2
  subst_vars;rfl
 ·have:=beq_iff_eq.mp h
  subst_vars;rfl
 ·exact feq_of h
def ok_glR{x:Str}{d:D}{u:Value}{v:V}{pos:Pos}(hg:Gl X x)(hm:X.mg x=some u)(r:zz v u)(hr:∀H,Rep X.K X.mg H d v)(hd:(x==("__debug__":Str))=false):EOk X (.Name x pos) (eC d) :=
 zf (zAs hg hm r hd) λO H Q ⟨M,E,hl,fr,k⟩=>k _ H ((Got.refl (T0:=[]) hl fr).more (T:=[(some v,.v d)]) (FR.add fr (hr _)) Step.refl.add)
def fIs_of{k:Nat}{x:Str}(h:fIs sg k x=true):∃i,sg.fs[k]?=some i/\i.x=x:=by
 unfold fIs at h;split at h
 ·rename_i i e;exact⟨i,e,by simpa using h⟩
 ·cases h
def fArg_of{k n:Nat}(h:fArg sg n k=true):∃i,sg.fs[k]?=some i/\i.n=n/\i.lv<=sg.lv/\(sg.calm||i.wild)=true:=by
 unfold fArg at h;split at h
 ·rename_i i e
  simp only[Bool.and_eq_true,decide_eq_true_eq,beq_iff_eq]at h;exact⟨i,e,h.1.1,h.1.2,by simpa using h.2⟩
 ·cases h
def hd_of(G:SgOk X sg){b:Bool}(h:(sg.calm||b)=true):(!b)=true->X.A.handled=none:=λhb=>G.hd (by
 cases b with
 |true=>cases hb|false=>simpa using h)
def fiF_of{fs:List FI}{k:Nat}{i:FI}(h:fs[k]?=some i):fiF fs k=i.F/\fiX fs k=i.x:=by
 unfold fiF fiX;rw[h];exact⟨rfl,rfl⟩
def Yx{b:Expr}(h:Wb b=true):Zj b:=by
 intro o i;cases b<;>first|rfl|(cases h)
def ZB(es:List Expr)(is:List Nat)(G:SgOk X sg)(h:Q7.all2 sg is es=true):PGs X es (Jp is)/\(assignEach es X.env).length=is.length/\(assignEach es X.env).findIdx? (·.1)=none:=by
 induction es generalizing is with
 |nil =>
  cases is with
  |nil=>exact⟨pgs_nil,rfl,rfl⟩|cons i is=>cases h
 |cons e es ih =>
  cases is with
  |nil=>cases h
  |cons i is =>
   simp only[Q7.all2,Bool.and_eq_true]at h;obtain⟨h1,h2⟩:=h;cases e with
   |Name x pos =>
    obtain⟨q1,q2,q3⟩:=vd G h1;obtain⟨i1,i2,i3⟩:=ih is h2;refine⟨zDH (zAu G.nd q1 q2 q3) i1 rfl,?_,?_⟩
    ·show(assignEach es X.env).length+1=_
     rw[i2];rfl
    ·show List.findIdx? _ ((false,_)::assignEach es X.env)=none
     simp only[List.findIdx?_cons,i3];rfl
   |_=>cases h1
def gOf(K:qH):Tg->TG
 | .n i=>uK i| .t is=>gTup K is.length (Jp is)
def ZK(tg:Tg):GOk X (gOf X.K tg) tg.m:=by
 cases tg with
 |n i=>exact go_name i|t is=>exact zFF is rfl
def GF{tg:Tg}{t:Expr}(hcm:sg.calm=true)(G:SgOk X sg)(h:Q7 tg sg t=true):PG X t (gOf X.K tg):=by
 cases tg with
 |n i =>
  simp only[Q7]at h;cases t with
  |Name x pos =>
   obtain⟨q1,q2,q3⟩:=vd G h;exact zAu G.nd q1 q2 q3
  |_=>cases h
 |t is =>
  simp only[Q7]at h;cases t with
  |Tuple es k pos =>
   obtain⟨q1,q2,q3⟩:=ZB es is G h;exact zEy (G.calm hcm) q1 q2 q3
  |_=>cases h
def ZY(G:SgOk X sg){N:List Str}{scope:Scope}(hn:N.Nodup)(hcell:∀y∈scope.names,y.2=.cell->scope.names.lookup y.1=some .cell){cl C ex s H}:SgOk (cxB X N scope cl C ex s H) (Js sg N scope) where
 N:=rfl
 sc:=by
  show relabel scope X.env=relab scope sg.sc
  rw[<- G.sc];rfl
 fn:=λh=>by cases h
 oc:=λx h _=>by
  obtain⟨y,hy,rfl⟩:=mem_map.mp (show x∈(scope.names.filter λy=>y.2==.cell).map Prod.fst from h);obtain⟨q1,q2⟩:=mem_filter.mp hy;show(scope.names.lookup y.1==some NameKind.cell)=true;rw[hcell y q1 (by simpa using q2)];rfl
 calm:=G.calm
 hd:=G.hd
 stk:=λh=>by cases h
 nd:=hn
 cs:=G.cs
 fs:=G.fs
 bs:=G.bs
 room:=G.room
 cl:=G.cl
 rs:=G.rs
 sm:=G.sm
 ri:=G.ri
def z8(G:SgOk X sg):SgOk X.nox sg:=⟨G.N,G.sc,G.fn,G.oc,G.calm,G.hd,G.stk,G.nd,G.cs,G.fs,G.bs,G.room,G.cl,G.rs,G.sm,G.ri⟩
def tr_ok(G:SgOk X sg)(pn:List (Addr×Obj))(E:Value->Shared->Prop):SgOk (trX X pn E) sg:=⟨G.N,G.sc,G.fn,G.oc,G.calm,G.hd,G.stk,G.nd,G.cs,G.fs,G.bs,G.room,G.cl,G.rs,G.sm,G.ri⟩
def hd_ok(G:SgOk X sg)(a:Addr):SgOk (hdX X a) {sg with calm:=false}:=⟨G.N,G.sc,G.fn,G.oc,λh=>by(cases h),λh=>by(cases h),G.stk,G.nd,G.cs,G.fs,G.bs,⟨G.room.gd,G.room.dp,G.room.un⟩,G.cl,G.rs,G.sm,G.ri⟩
end
section
open Bool
def kit_of(K:qH)(T:Ty):Kit K T.s:=by
 cases T
 ·exact kit_int K
 ·exact zDv K
 ·exact zBr K
 ·exact zDw K
 ·exact kit_str K
 ·exact zDx K
def bt_of(T:Ty):bootBuiltins T.nm=some (.type T.s):=by
 cases T
 ·exact zFK
 ·exact bt_bool
 ·exact Qv
 ·exact zBs
 ·exact bt_str
 ·exact bt_dict
def nm_of(T:Ty):T.nm≠"__name__":=by cases T<;>decide +kernel
def bin_of{X:Cx}{o:Op2}{a b:Expr}{ma mb:ME}{pos:Pos}(ha:EOk X a ma)(hb:EOk X b mb):EOk X (.BinOp a o.op b pos) (ZN o.f ma mb):=by
 cases o
 ·exact zAV op_addD ro_add ha hb
 ·exact zAV op_sub ro_sub ha hb
 ·exact zAV (op_mulD.or op_repL) ro_mulG ha hb
 ·exact zAV zDf ro_fdiv ha hb
 ·exact zAV op_mod ro_mod ha hb
 ·exact zAV op_pow ro_pow ha hb
def wj{X:Cx}{sg:Sg}(G:SgOk X sg):X.A.units+20<cLine:=by have:=G.room.un;omega
def bt_sum:bootBuiltins "sum"=some (.builtin "sum"):=by decide +kernel
def bt_abs:bootBuiltins "abs"=some (.builtin "abs"):=by decide +kernel
def bt_repr:bootBuiltins "repr"=some (.builtin "repr"):=by decide +kernel
def room64{X:Cx}{sg:Sg}(G:SgOk X sg):X.A.units+64<cLine:=by have:=G.room.un;omega
def yF{op:CmpOp}{b:Expr}(h:jL b=true):behindInMarks op b=false:=by
 cases b<;>first|rfl|(cases h)
def cmp_of{X:Cx}{sg:Sg}(G:SgOk X sg){o:Cp}{a b:Expr}{ma mb:ME}{pos:Pos}(hn:jL b=true)(ha:EOk X a ma)(hb:EOk X b mb):EOk X (.Compare a [o.op] [b] pos) (ZN o.f ma mb):=by
 cases o
 ·exact Zr op_lt ro_lt (yF hn) ha hb
 ·exact Zr op_le ro_le (yF hn) ha hb
 ·exact Zr op_gt ro_gt (yF hn) ha hb
 ·exact Zr op_ge ro_ge (yF hn) ha hb
 ·exact Zr (op_eq.or (zFL (wj G))) zFO (yF hn) ha hb
 ·exact Zr (op_ne.or (zFM (wj G))) zFP (yF hn) ha hb
 ·exact Zr Y8 (ro_in (neg:=true)) (yF hn) ha hb
def cmpT_of{X:Cx}{sg:Sg}(G:SgOk X sg){o:Cp}{a b:Expr}{ma mb:ME}{pos:Pos}(hn:jL b=true)(ha:EOk X a ma)(hb:EOk X b mb):TOk X (.Compare a [o.op] [b] pos) (tT (ZN o.f ma mb)):=by
 cases o
 ·exact Jn op_lt ro_lt (yF hn) ha hb
 ·exact Jn op_le ro_le (yF hn) ha hb
 ·exact Jn op_gt ro_gt (yF hn) ha hb
 ·exact Jn op_ge ro_ge (yF hn) ha hb
 ·exact Jn (op_eq.or (zFL (wj G))) zFO (yF hn) ha hb
 ·exact Jn (op_ne.or (zFM (wj G))) zFP (yF hn) ha hb
 ·exact Jn Y8 (ro_in (neg:=true)) (yF hn) ha hb
def zCP{o o':CmpOp}{b c:Expr}(h:jL c=true):lastMarks [o,o'] [b,c]=false:=yF h
def Q8{X:Cx}{o:Cp}(h:o.isI=true):OpR X (compareOp o.op) (rI0 λi j=>.bl (o.b i j)):=by
 cases o<;>first|exact op_lt|exact op_le|exact op_gt|exact op_ge|(cases h)
def bi_of{X:Cx}{sg:Sg}(hcm:sg.calm=true)(G:SgOk X sg)(b:Bi){x:Expr}{es:List Expr}{m:MA}{p pos:Pos}(hg:Gl X b.nm)(hm:X.mg b.nm=none)(hs:ja (x::es)=true)(ha:AOk X (x::es) m):EOk X (.Call (.Name b.nm p) (x::es) [] pos) (eCB b.f m):=by
 have h1:zT x=false:=by simp only[ja,Bool.and_eq_true,Bool.not_eq_true']at hs;exact hs.1
 have h2:ja es=true:=by simp only[ja,Bool.and_eq_true,Bool.not_eq_true']at hs;exact hs.2
 cases b with
 |len=>exact JA uS co_len hg hm bt_len ha (by decide +kernel) (by decide +kernel) h1 h2|max=>exact JA (zA8 (G.calm hcm)) co_max hg hm bt_max ha (by decide +kernel) (by decide +kernel) h1 h2|all=>exact JA (zDb (G.calm hcm)) co_all hg hm bt_all ha (by decide +kernel) (by decide +kernel) h1 h2|int=>exact Zs zA9 co_int hg hm zFK ha (by decide +kernel) (by decide +kernel) h1 h2|tuple=>exact Zs vI zDg hg hm Qv ha (by decide +kernel) (by decide +kernel) h1 h2|sum=>exact JA (call_or (zBy (G.calm hcm)) (zBz (G.calm hcm))) co_sumG hg hm bt_sum ha (by decide +kernel) (by decide +kernel) h1 h2|abs=>exact JA zDM co_absG hg hm bt_abs ha (by decide +kernel) (by decide +kernel) h1 h2|repr=>exact JA (zAZ G.sm G.room.gd (room64 G)) co_repr hg hm bt_repr ha (by decide +kernel) (by decide +kernel) h1 h2|lisK=>exact Zs (zAc (G.calm hcm)) zEG hg hm zBs ha (by decide +kernel) (by decide +kernel) h1 h2
theorem zCQ(fs:List FI):∀as:Gx,(dG fs as).length=gLen as
 | .nil=>rfl| .ev a as=>congrArg (·+1) (zCQ fs as)| .lend i as=>congrArg (·+1) (zCQ fs as)
def call_ok{X:Cx}{sg:Sg}(G:SgOk X sg){k:Nat}{as:Gx}{f:Str}{x:Expr}{es:List Expr}{p pos:Pos}(h1:glb sg f=true)(h2:fIs sg k f=true)(h3:fArg sg (gLen as) k=true)(h4:ja (x::es)=true)(ha:zFG X (x::es) (dG sg.fs as)):EOk X (.Call (.Name f p) (x::es) [] pos) (jh (fiF sg.fs k) (dG sg.fs as)):=by
 obtain⟨g1,g2⟩:=yk G h1;obtain⟨i,e1,e2⟩:=fIs_of h2;obtain⟨i',e1',e3,e4,e5⟩:=fArg_of h3;rw[e1]at e1';cases e1';obtain⟨a,fd,ps,m1,m2,m3,m4,m5⟩:=G.fs i (mem_of_getElem? e1);rw[(fiF_of e1).1];subst e2;simp only[ja,Bool.and_eq_true,Bool.not_eq_true']at h4;rw[<- m4]at m5;exact ok_call m5 (hd_of G e5) (G.room.mono e4) g1 m1 m2 m3 ha (by rw[zCQ,m4,e3]) g2 h4.1 h4.2
theorem GG{X:Cx}{sg:Sg}(G:SgOk X sg){scope:Scope}:∀{caps:List Nat} {capn:List Str},capB sg scope caps capn=true->Gy X scope caps capn
 | [],[],_=>trivial| [],_::_,h=>by cases h|_::_,[],h=>by cases h
 |j::js,x::xs,h=>by
  simp only[capB,Bool.and_eq_true]at h;exact⟨by rw[G.N];simpa using h.1.1,by simpa using h.1.2,GG G h.2⟩
end
section
def zFc{b:Expr}(h:Wb b=true):∀ov iv new,augStore b ov iv new=(do holding [new,ov,iv] (setItem ov iv new);release [new,ov,iv] [];pure .next):=by
 cases b<;>first|(intros;rfl)|(cases h)
def zFd{x:Str}{p p1:Pos}{b:Expr}{env:Env}(h:Wb b=true):∀v,assign (.Subscript (.Name x p) b p1) env v=(do
   let ov <- holding [v] (eval (.Name x p) env)
   let iv <- holding [v,ov] (eval b env)
   standAt p1
   holding [v,ov,iv] (setItem ov iv v)
   release [v,ov,iv] []):=by
 intro v;cases b<;>first|rfl|(cases h)
def vf{t e:Expr}{l:Nat}{env:Env}(h:Jl e=true):swapsWithSole [t] e l env=pure false:=by
 show swapsWith e (some t) l env=pure false
 exact vM h
def QA{X:Cx}{sg:Sg}(G:SgOk X sg)(h:(sg.sc.kind==ScopeKind.function)=true):X.env.blockKind=.function:=by
 have:X.env.scope.kind=.function:=by rw[G.sc];exact beq_iff_eq.mp h
 unfold Env.blockKind;rw[this];rfl
def zCR{X:Cx}{sg:Sg}(G:SgOk X sg)(hk:(sg.sc.kind==ScopeKind.function)=true){ke ve:Expr}{gs:List Comprehension}{scope:Scope}{vp px:Pos}{x:Str}{l:Nat}:swapsWith (.DictComp ke ve gs scope vp) (some (.Name x px)) l X.env=pure (swB sg x px scope vp):=by
 show(pure (X.env.blockKind==.function&&X.env.kindOf x==some .local&&px.line==vp.line&&!(scope.names.any λ(n,k)=>n==x&&(k==.local||k==.cell))):Sem Bool)=_
 rw[QA G hk];unfold swB kIs Env.kindOf;rw[G.sc];simp
def zFe{X:Cx}{sg:Sg}(G:SgOk X sg)(hk:(sg.sc.kind==ScopeKind.function)=true){el:Expr}{gs:List Comprehension}{scope:Scope}{vp px:Pos}{x:Str}{l:Nat}:swapsWith (.ListComp el gs scope vp) (some (.Name x px)) l X.env=pure (swB sg x px scope vp):=by
 show(pure (X.env.blockKind==.function&&X.env.kindOf x==some .local&&px.line==vp.line&&!(scope.names.any λ(n,k)=>n==x&&(k==.local||k==.cell))):Sem Bool)=_
 rw[QA G hk];unfold swB kIs Env.kindOf;rw[G.sc];simp
theorem zFf{α β:Type}(f:α->Option β):∀l:List α,(l.filterMap f).length<=l.length
 | []=>le_refl _
 |a::l=>by
  have:=zFf f l;rw[filterMap_cons];split
  ·simp only[length_cons];omega
  ·simp only[length_cons];omega
theorem fm_lt{α β:Type}(f:α->Option β):∀l:List α,(∃a∈l,f a=none)->(l.filterMap f).length<l.length
 | [],h=>by obtain⟨a,h,_⟩:=h;cases h
 |b::l,h=>by
  obtain⟨a,hm,hf⟩:=h;rw[filterMap_cons];rcases mem_cons.mp hm with rfl|hm
  ·rw[hf]
   have:=zFf f l;simp only[length_cons];omega
  ·have:=fm_lt f l ⟨a,hm,hf⟩
   split
   ·simp only[length_cons];omega
   ·simp only[length_cons];omega
def sw_ok{X:Cx}{sg:Sg}(G:SgOk X sg){es:List Expr}{k:Nat}{p:Pos}{v:Expr}(h:swOk sg es v=true):swappedStores [.Tuple es k p] v X.env=pure none:=by
 cases v with
 |Tuple vs k2 p2 =>
  unfold swappedStores;dsimp only;split
  ·rfl
  split
  ·rfl
  split
  ·rfl
  rename_i hn;split
  ·rfl
  rename_i hf
  exfalso
  rcases Bool.or_eq_true _ _ |>.mp h with h|h
  ·obtain⟨e,he,hk⟩:=List.any_eq_true.mp h
   refine hn (Bool.or_eq_true _ _ |>.mpr (.inl ?_));refine bne_iff_ne.mpr (ne_of_lt (fm_lt _ es ⟨e,he,?_⟩));cases e with
   |Name x q =>
    have:X.env.kindOf x≠some .local:=λz=>by
     have z':sg.sc.names.lookup x=some .local:=by rw[<- G.sc];exact z
     simp[kIs,z']at hk
    have e1:(X.env.kindOf x==some NameKind.local)=false:=by simpa using this
    simp[e1]
   |_=>rfl
  ·exact hf h
 |_=>rfl
def sw_par0{env:Env}{x y:Str}{px py p p2:Pos}{a b:Expr}{kt k2:Nat}(hk:env.blockKind=.function)(hx:env.kindOf x=some .local)(hy:env.kindOf y=some .local)(hl:py.line=px.line)(hxy:(x==y)=false)(ha:zT a=false)(hb:zT b=false)(hf:[a,b].all (foldedForSure 8)=false)(hc:[a,b].all (constantsAlone 8)=false) :
  swappedStores [.Tuple [.Name x px,.Name y py] kt p] (.Tuple [a,b] k2 p2) env=pure (some [x,y]):=by
 have sa:∀e:Expr,(match e with | .Starred _ _=>true|_=>false)=zT e:=λe=>by cases e<;>rfl
 have e1:([Expr.Name x px,Expr.Name y py].filterMap fun
  | .Name id pos=>if env.kindOf id==some .local&&pos.line==px.line then some id else none|_=>none)=[x,y]:=by simp[hx,hy,hl]
 have e2:[x,y].eraseDups.length=2:=by
  have:y≠x:=λz=>by subst z;simp at hxy
  have h2:(y==x)=false:=by simpa using this
  simp[List.eraseDups,List.eraseDupsBy,List.eraseDupsBy.loop,h2]
 have e3:([a,b].any fun | .Starred ..=>true|_=>false)=false:=by
  simp only[any_cons,List.any_nil,Bool.or_false];rw[sa,sa,ha,hb];rfl
 show(if !(2==2||2==3)||2 != 2||env.blockKind != .function then pure none else if([a,b].any fun | .Starred ..=>true|_=>false)then pure none else
  (let names:=([Expr.Name x px,Expr.Name y py].filterMap fun
  | .Name id pos=>if env.kindOf id==some .local&&pos.line==px.line then some id else none|_=>none)
  if names.length != 2||names.eraseDups.length != names.length then pure none else if [a,b].all (foldedForSure 8)then pure none else if [a,b].all (constantsAlone 8)then(do unsupported "assign.tuple-of-constant-expressions:order-of-the-stores";pure (some names))else pure (some names)):Sem (Option (List Str)))=_
 rw[hk,e3,e1,hf,hc];simp[e2]
def sw_par{X:Cx}{sg:Sg}(G:SgOk X sg){i j:Nat}{x y:Str}{px py p p2:Pos}{a b:Expr}{kt k2:Nat}(h:zES sg i j x y px py a b=true):swappedStores [.Tuple [.Name x px,.Name y py] kt p] (.Tuple [a,b] k2 p2) X.env=pure (some [x,y]):=by
 unfold zES at h;simp only[Bool.and_eq_true,Bool.not_eq_true',beq_iff_eq,bne_iff_ne]at h;obtain⟨⟨⟨⟨⟨⟨⟨⟨⟨⟨⟨kk,_⟩,_⟩,_⟩,l1⟩,l2⟩,ln⟩,xy⟩,sa⟩,sb⟩,f1⟩,f2⟩:=h;exact sw_par0 (QA G (by rw[kk];rfl)) (j5 G l1) (j5 G l2) ln xy sa sb f1 f2
def w_of_t{X:Cx}{op:BoolOp}{vs:List Expr}{p:Pos}{m:MT}(h:TOk X (.BoolOp op vs p) m):WOk X (.BoolOp op vs p) m:=λwh=>h
def zFg{e:Expr}{env:Env}{cpos:Pos}(h:zT e=false):((backTo cpos (starEach (e::[]) env)).all (λx=>!x.1)&&(backToKw cpos (keywordEach [] env)).all (λx=>x.1.isSome)
   && decide ((e::([]:List Expr)).length+([]:List Keyword).length+(if([]:List Keyword).isEmpty then 0 else 1)<30))=true:=by
 rw[zI h];rfl
def zF{a b:Bool}(h:(a&&b)=true):a=true/\b=true:=by simpa using h
def nst{a:Bool}(h:(!a)=true):a=false:=by simpa using h
def vg:bootBuiltins "ValueError"=some (.type "ValueError"):=by decide +kernel
mutual
theorem sE:∀(t:Ex) {X:Cx} {sg:Sg} {e:Expr},SgOk X sg->zu t sg e=true->EOk X e (dE sg.fs t)
 | .c d,X,sg,e,G,h=>by
  unfold zu at h;split at h
  ·unfold cIs at h
   split at h
   ·exact ok_non
   ·have:=(beq_iff_eq.mp h);subst this;exact ok_bl
   ·have:=(beq_iff_eq.mp h);subst this;exact ok_int
   ·have:=(beq_iff_eq.mp h);subst this;exact ok_str
   ·cases h
  ·cases h
 | .gl d,X,sg,e,G,h=>by
  unfold zu at h;split at h
  ·rename_i x _
   obtain⟨h1,h2⟩:=zF h;obtain⟨g1,g2⟩:=yk G h1;unfold gIs at h2;split at h2
   ·rename_i d' e
    have:=geq_of h2;subst this;obtain⟨u,v,q1,q2,q3⟩:=G.cs x d e;exact ok_glR g1 q1 q2 q3 g2
   ·cases h2
  ·cases h
 | .var i,X,sg,e,G,h=>by
  unfold zu at h;split at h
  ·exact ok_var i (JV G h)
  ·cases h
 | .mov i,X,sg,e,G,h=>by
  unfold zu at h;split at h
  ·exact ok_move i (JV G h)
  ·cases h
 | .bin o a b,X,sg,e,G,h=>by
  unfold zu at h;split at h
  ·obtain⟨h1,h2⟩:=zF h
   obtain⟨h2,h3⟩:=zF h2;have:=beq_iff_eq.mp h1;subst this;exact bin_of (sE a G h2) (sE b G h3)
  ·cases h
 | .cmp o a b,X,sg,e,G,h=>by
  unfold zu at h;split at h
  ·obtain⟨h1,h2⟩:=zF h
   obtain⟨h1,h0⟩:=zF h1;obtain⟨h2,h3⟩:=zF h2;have:=beq_iff_eq.mp h1;subst this;exact cmp_of G h0 (sE a G h2) (sE b G h3)
  ·cases h
 | .chain o o' a b c,X,sg,e,G,h=>by
  unfold zu at h;split at h
  ·obtain⟨h1,h2⟩:=zF h
   obtain⟨h1,k5⟩:=zF h1;obtain⟨h1,k4⟩:=zF h1;obtain⟨h1,k3⟩:=zF h1;obtain⟨k1,k2⟩:=zF h1;obtain⟨h2,h3⟩:=zF h2;obtain⟨h3,h4⟩:=zF h3;have:=beq_iff_eq.mp k1;subst this;have:=beq_iff_eq.mp k2;subst this;exact zDy (Q8 k3) (Q8 k4) (sE a G h2) (sE b G h3) (sE c G h4) (zCP k5)
  ·cases h
 | .neg a,X,sg,e,G,h=>by
  unfold zu at h;split at h
  ·exact ok_neg (sE a G h)
  ·cases h
 | .not a,X,sg,e,G,h=>by
  unfold zu at h;split at h
  ·exact ok_not (sE a G h)
  ·cases h
 | .and a b,X,sg,e,G,h=>by
  unfold zu at h;split at h
  ·rename_i _ _ r _
   obtain⟨h1,h2⟩:=zF h;cases r with
   |nil=>exact zFB (sE a G h1) (ok_one (sE b G h2))|cons z r'=>exact zFB (sE a G h1) (sE b G h2)
  ·cases h
 | .ifx t a b,X,sg,e,G,h=>by
  unfold zu at h;split at h
  ·obtain⟨h1,h2⟩:=zF h
   obtain⟨h2,h3⟩:=zF h2;exact ok_if (sT t G h1) (sE a G h2) (sE b G h3)
  ·cases h
 | .t as,X,sg,e,G,h=>by
  unfold zu at h;split at h
  ·exact ok_tup (sA as G h)
  ·cases h
 | .l as,X,sg,e,G,h=>by
  unfold zu at h;split at h
  ·exact ok_lst (sA as G h)
  ·cases h
 | .ix a b,X,sg,e,G,h=>by
  unfold zu at h;split at h
  ·obtain⟨h1,h2⟩:=zF h
   obtain⟨h2,h3⟩:=zF h2;exact ok_ix ix_both ro_ix (Yx h1) (sE a G h2) (sE b G h3)
  ·cases h
 | .ixO i b,X,sg,e,G,h=>by
  unfold zu at h;split at h
  ·obtain⟨h1,h2⟩:=zF h
   obtain⟨h1,h3⟩:=zF h1;exact ok_ixO i (JV G h1) (sE b G h2) (Yx h3)
  ·cases h
 | .sl a l hh,X,sg,e,G,h=>by
  unfold zu at h;split at h
  ·obtain⟨h1,h2⟩:=zF h
   obtain⟨h2,h3⟩:=zF h2;exact ok_sl (sE a G h1) (sO l G h2) (sO hh G h3)
  ·cases h
 | .comp nl loc capn caps it tg tt el,X,sg,e,G,h=>by
  unfold zu at h;split at h
  ·rename_i _ _ _ ifs scope _
   obtain⟨hcm,h⟩:=zF h;obtain⟨h1,h2⟩:=zF h;obtain⟨h1,k9⟩:=zF h1;unfold GE at h1;obtain⟨h1,k7⟩:=zF h1;obtain⟨h1,k6⟩:=zF h1;obtain⟨h1,k5⟩:=zF h1;obtain⟨h1,k4⟩:=zF h1;obtain⟨h1,k3⟩:=zF h1;obtain⟨k1,k2⟩:=zF h1;obtain⟨q1,q2⟩:=zF h2;obtain⟨q0,q1⟩:=zF q1;obtain⟨q2,q3⟩:=zF q2;obtain⟨q3,q4⟩:=zF q3;have nd:(loc++capn).Nodup:=of_decide_eq_true k3;have kc:∀y∈scope.names,y.2=.cell->scope.names.lookup y.1=some .cell:=λy hy hc=>by
    have:=all_eq_true.mp k5 y hy;rw[hc]at this;simpa using this
   have I:∀cl C ex s H,SgOk (cxB X.nox (loc++capn) scope cl C ex s H) (Js sg (loc++capn) scope):=λ_ _ _ _ _=>ZY (z8 G) nd kc
   refine no_E (ok_lc (X:=X.nox) loc capn (beq_iff_eq.mp k1) (λe s z=>z) (G.calm hcm) (beq_iff_eq.mp k2) (λy hy hl=>?_) (λy hy hc=>?_) (by rw[show X.env.kindOf=λn=>X.env.scope.names.lookup n from rfl,G.sc];exact k6) (GG (z8 G) k7) (sI it (z8 G) q1 q0) (g:=gOf X.K tg) (λcl C ex s H=>GF (sg:=Js sg (loc++capn) scope) hcm (I cl C ex s H) q2) (ZK tg) (λcl C ex s H=>?_) (λcl C ex s H=>sE (sg:=Js sg (loc++capn) scope) el (I cl C ex s H) q4) (yh k9))
   ·have:=all_eq_true.mp k4 y hy
    rw[hl]at this;simpa using this
   ·exact kc y hy hc
   ·cases ifs with
    |nil =>
     cases tt<;>first|(cases q3;done)|skip;exact vT
    |cons c cs =>
     obtain⟨q3,q5⟩:=zF q3;have:=isEmpty_iff.mp q3;subst this;exact vU (sT (sg:=Js sg (loc++capn) scope) tt (I cl C ex s H) q5)
  ·cases h
 | .dcomp nl loc capn caps it tg tt ka va,X,sg,e,G,h=>by
  unfold zu at h;split at h
  ·rename_i _ _ _ _ ifs scope _
   obtain⟨hcm,h⟩:=zF h;obtain⟨h1,h2⟩:=zF h;obtain⟨h1,k9⟩:=zF h1;unfold GE at h1;obtain⟨h1,k7⟩:=zF h1;obtain⟨h1,k6⟩:=zF h1;obtain⟨h1,k5⟩:=zF h1;obtain⟨h1,k4⟩:=zF h1;obtain⟨h1,k3⟩:=zF h1;obtain⟨k1,k2⟩:=zF h1;obtain⟨q1,q2⟩:=zF h2;obtain⟨q0,q1⟩:=zF q1;obtain⟨q2,q3⟩:=zF q2;obtain⟨q3,q4⟩:=zF q3;obtain⟨q4,q6⟩:=zF q4;have nd:(loc++capn).Nodup:=of_decide_eq_true k3;have kc:∀y∈scope.names,y.2=.cell->scope.names.lookup y.1=some .cell:=λy hy hc=>by
    have:=all_eq_true.mp k5 y hy;rw[hc]at this;simpa using this
   have I:∀cl C ex s H,SgOk (cxB X.nox (loc++capn) scope cl C ex s H) (Js sg (loc++capn) scope):=λ_ _ _ _ _=>ZY (z8 G) nd kc
   refine no_E (ok_dc (X:=X.nox) loc capn (by have:=wj G;show X.A.units<_;omega) (beq_iff_eq.mp k1) (λe s z=>z) (G.calm hcm) (beq_iff_eq.mp k2) (λy hy hl=>?_) (λy hy hc=>?_) (by rw[show X.env.kindOf=λn=>X.env.scope.names.lookup n from rfl,G.sc];exact k6) (GG (z8 G) k7) (sI it (z8 G) q1 q0) (g:=gOf X.K tg) (λcl C ex s H=>GF (sg:=Js sg (loc++capn) scope) hcm (I cl C ex s H) q2) (ZK tg) (λcl C ex s H=>?_) (λcl C ex s H=>sE (sg:=Js sg (loc++capn) scope) ka (I cl C ex s H) q4) (λcl C ex s H=>sE (sg:=Js sg (loc++capn) scope) va (I cl C ex s H) q6) (yh k9))
   ·have:=all_eq_true.mp k4 y hy
    rw[hl]at this;simpa using this
   ·exact kc y hy hc
   ·cases ifs with
    |nil =>
     cases tt<;>first|(cases q3;done)|skip;exact vT
    |cons c cs =>
     obtain⟨q3,q5⟩:=zF q3;have:=isEmpty_iff.mp q3;subst this;exact vU (sT (sg:=Js sg (loc++capn) scope) tt (I cl C ex s H) q5)
  ·cases h
 | .frd i a,X,sg,e,G,h=>ok_frd i (sE a G (by unfold zu at h;exact h))
 | .dget i b c,X,sg,e,G,h=>by
  unfold zu at h;split at h
  ·obtain⟨h,h2⟩:=zF h
   obtain⟨h2,h3⟩:=zF h2;obtain⟨h,k5⟩:=zF h;obtain⟨h,k4⟩:=zF h;obtain⟨h,k3⟩:=zF h;obtain⟨k1,k2⟩:=zF h;have:=beq_iff_eq.mp k1;subst this;exact ok_dget i (by have:=wj G;omega) (JV G k3) (sE b G h2) (sE c G h3) (nst k4) (nst k5) k2
  ·cases h
 | .dgO i b,X,sg,e,G,h=>by
  unfold zu at h;split at h
  ·obtain⟨h1,h2⟩:=zF h
   obtain⟨h1,h3⟩:=zF h1;exact ok_dgO i (by have:=wj G;omega) (JV G h1) (Yx h3) (sE b G h2)
  ·cases h
 | .disp a b,X,sg,e,G,h=>by
  unfold zu at h;split at h
  ·obtain⟨h1,h2⟩:=zF h
   exact ok_disp (by have:=wj G;omega) (sE a G h1) (sE b G h2)
  ·cases h
 | .dnew,X,sg,e,G,h=>by
  unfold zu at h;split at h
  ·exact ok_dnew
  ·cases h
 | .is T a,X,sg,e,G,h=>by
  unfold zu at h;split at h
  ·obtain⟨h1,h2⟩:=zF h
   obtain⟨h1,k7⟩:=zF h1;obtain⟨h1,k6⟩:=zF h1;obtain⟨h1,k5⟩:=zF h1;obtain⟨h1,k4⟩:=zF h1;obtain⟨h1,k3⟩:=zF h1;obtain⟨k1,k2⟩:=zF h1;have:=beq_iff_eq.mp k1;subst this;have:=beq_iff_eq.mp k2;subst this;exact ok_is (kit_of _ T) (yk G k3).1 (JW G k4) (yk G k5).1 (JW G k6) (bt_of T) (sE a G h2) wE (nm_of T) (yk G k5).2 (nst k7)
  ·cases h
 | .cB b as,X,sg,e,G,h=>by
  unfold zu at h;split at h
  ·obtain⟨hcm,h⟩:=zF h
   obtain⟨h1,h2⟩:=zF h;obtain⟨h1,k4⟩:=zF h1;obtain⟨h1,k3⟩:=zF h1;obtain⟨k1,k2⟩:=zF h1;have:=beq_iff_eq.mp k1;subst this;exact bi_of hcm G b (yk G k2).1 (JW G k3) k4 (sA as G h2)
  ·cases h
 | .call k as,X,sg,e,G,h=>by
  unfold zu at h;split at h
  ·obtain⟨h1,h2⟩:=zF h
   obtain⟨h1,k4⟩:=zF h1;obtain⟨h1,k3⟩:=zF h1;obtain⟨k1,k2⟩:=zF h1;exact call_ok G k1 k2 k3 k4 (sG as G h2)
  ·cases h
 | .isC cl y a,X,sg,e,G,h=>by
  unfold zu at h;split at h
  ·rename_i _ _ _ z _ _
   obtain⟨h,h2⟩:=zF h;obtain⟨h,k7⟩:=zF h;obtain⟨h,k6⟩:=zF h;obtain⟨h,k5⟩:=zF h;obtain⟨h,k4⟩:=zF h;obtain⟨h,k3⟩:=zF h;obtain⟨k1,k2⟩:=zF h;obtain⟨k10,k8⟩:=zF k6;have:=beq_iff_eq.mp k1;subst this;have:=beq_iff_eq.mp k2;subst this;have ecl:cl=sg.cl:=by simpa using k10
   subst ecl;have hy:z∈sg.cl:=by simpa using k8
   obtain⟨T,t1,t2,t3⟩:=G.cl (List.ne_nil_of_mem hy);obtain⟨Y,y1,y2,y3⟩:=t3 z hy;exact ok_isC (λc hc=>let ⟨C,c1,c2,_⟩:=t3 c hc;⟨C,c1,c2⟩) y1 y2 y3 (yk G k3).1 (JW G k4) (yk G k5).1 (sE a G h2) wE (yk G k5).2 (nst k7)
  ·cases h
 | .isV cl a,X,sg,e,G,h=>by
  unfold zu at h;split at h
  ·rename_i _ _ _ z _ _
   obtain⟨h,h2⟩:=zF h;obtain⟨h,k7⟩:=zF h;obtain⟨h,k6⟩:=zF h;obtain⟨h,k9⟩:=zF h;obtain⟨h,k5⟩:=zF h;obtain⟨h,k4⟩:=zF h;obtain⟨h,k3⟩:=zF h;obtain⟨k1,k2⟩:=zF h;obtain⟨k10,k8⟩:=zF k6;have:=beq_iff_eq.mp k1;subst this;have:=beq_iff_eq.mp k2;subst this;have ecl:cl=sg.cl:=by simpa using k10
   subst ecl;obtain⟨T,t1,t2,t3⟩:=G.cl (λz=>by rw[z]at k8;cases k8);exact ok_isV (T:=T) (λc hc=>let ⟨C,c1,c2,_⟩:=t3 c hc;⟨C,c1,c2⟩) (yk G k3).1 (JW G k4) (yk G k5).1 (JW G k9) vg (sE a G h2) wE (nst k7)
  ·cases h
 | .cnt a b,X,sg,e,G,h=>by
  unfold zu at h;split at h
  ·obtain⟨h,h2⟩:=zF h
   obtain⟨h2,h3⟩:=zF h2;obtain⟨h,k3⟩:=zF h;obtain⟨k1,k2⟩:=zF h;have:=beq_iff_eq.mp k1;subst this;exact ok_cnt (sE a G h2) (sE b G h3) rfl (nst k3) k2 (zFg (nst k3))
  ·cases h
 | .idx a b,X,sg,e,G,h=>by
  unfold zu at h;split at h
  ·obtain⟨h,h2⟩:=zF h
   obtain⟨h2,h3⟩:=zF h2;obtain⟨h,k3⟩:=zF h;obtain⟨k1,k2⟩:=zF h;have:=beq_iff_eq.mp k1;subst this;exact ok_idx (sE a G h2) (sE b G h3) rfl (nst k3) k2 (zFg (nst k3))
  ·cases h
theorem sT:∀(t:Tx) {X:Cx} {sg:Sg} {e:Expr},SgOk X sg->chkT t sg e=true->TOk X e (dT sg.fs t)
 | .tOr a b,X,sg,e,G,h=>by
  unfold chkT at h;split at h
  ·rename_i _ _ r _
   obtain⟨h1,h2⟩:=zF h;cases r with
   |nil=>exact tk_w (wk_or (sT a G h1) (wk_or1 (sT b G h2)))|cons z r'=>exact tk_w (wk_or (sT a G h1) (w_of_t (sT b G h2)))
  ·cases h
 | .tNot a,X,sg,e,G,h=>by
  unfold chkT at h;split at h
  ·exact tk_not (sT a G h)
  ·cases h
 | .tE a,X,sg,e,G,h=>by
  obtain⟨h1,h2⟩:=zF h;rcases Bool.or_eq_true _ _ |>.mp h1 with h1|h1
  ·exact ok_test (sE a G h2) (test_of h1)
  ·cases a with
   |cmp o a b =>
    cases e with
    |Compare x v66 v67 w1 =>
     cases v66 with
     |cons op v68 =>
      cases v68 with
      |nil =>
       cases v67 with
       |cons y v69 =>
        cases v69 with
        |nil =>
         replace h2:(op==o.op&&jL y&&(zu a sg x&&zu b sg y))=true:=h2;obtain⟨h1,k1⟩:=zF h2;obtain⟨h1,h0⟩:=zF h1;obtain⟨k2,k3⟩:=zF k1;have:=beq_iff_eq.mp h1;subst this;exact cmpT_of G h0 (sE a G k2) (sE b G k3)
        |_=>exact absurd h2 qF
       |_=>exact absurd h2 qF
      |_=>exact absurd h2 qF
     |_=>exact absurd h2 qF
    |_=>exact absurd h2 qF
   |chain o o' a b c =>
    cases e with
    |Compare x v70 v71 w1 =>
     cases v70 with
     |cons op v72 =>
      cases v72 with
      |cons op' v73 =>
       cases v73 with
       |nil =>
        cases v71 with
        |cons y v74 =>
         cases v74 with
         |cons z v75 =>
          cases v75 with
          |nil =>
           replace h2:(op==o.op&&op'==o'.op&&o.isI&&o'.isI&&jL z&&(zu a sg x&&(zu b sg y&&zu c sg z)))=true:=h2;obtain⟨h1,j2⟩:=zF h2;obtain⟨h1,k5⟩:=zF h1;obtain⟨h1,k4⟩:=zF h1;obtain⟨h1,k3⟩:=zF h1;obtain⟨k1,k2⟩:=zF h1;obtain⟨j2,j3⟩:=zF j2;obtain⟨j3,j4⟩:=zF j3;have:=beq_iff_eq.mp k1;subst this;have:=beq_iff_eq.mp k2;subst this;exact zBt (Q8 k3) (Q8 k4) (sE a G j2) (sE b G j3) (sE c G j4) (zCP k5)
          |_=>exact absurd h2 qF
         |_=>exact absurd h2 qF
        |_=>exact absurd h2 qF
       |_=>exact absurd h2 qF
      |_=>exact absurd h2 qF
     |_=>exact absurd h2 qF
    |_=>exact absurd h2 qF
   |_=>cases h1
 | .tTr,X,sg,e,G,h=>absurd h qF
theorem sA:∀(t:Ax) {X:Cx} {sg:Sg} {e:List Expr},SgOk X sg->chkA t sg e=true->AOk X e (dA sg.fs t)
 | .nil,X,sg,e,G,h=>by
  have:=isEmpty_iff.mp h;subst this;exact ak_nil
 | .cons a as,X,sg,e,G,h=>by
  cases e with
  |cons x r =>
   replace h:(!zT x&&(zu a sg x&&chkA as sg r))=true:=h;obtain⟨h1,h2⟩:=zF h;obtain⟨h2,h3⟩:=zF h2;exact ak_cons (sE a G h2) (sA as G h3) (nst h1)
  |_=>exact nf h
theorem sG:∀(t:Gx) {X:Cx} {sg:Sg} {e:List Expr},SgOk X sg->chkG t sg e=true->zFG X e (dG sg.fs t)
 | .nil,X,sg,e,G,h=>by
  have:=isEmpty_iff.mp h;subst this;exact ga_nil
 | .ev a as,X,sg,e,G,h=>by
  cases e with
  |cons x r =>
   replace h:(!zT x&&(zu a sg x&&chkG as sg r))=true:=h;obtain⟨h1,h2⟩:=zF h;obtain⟨h2,h3⟩:=zF h2;exact ga_ev (sE a G h2) (sG as G h3) (nst h1)
  |_=>exact nf h
 | .lend i as,X,sg,e,G,h=>by
  cases e with
  |cons v76 r =>
   cases v76 with
   |Name x w1 =>
    replace h:(vis sg i x&&chkG as sg r)=true:=h;obtain⟨h1,h2⟩:=zF h;exact ga_lend (JV G h1) (sG as G h2)
   |_=>exact nf h
  |_=>exact nf h
theorem sO:∀(t:Ox) {X:Cx} {sg:Sg} {e:Option Expr},SgOk X sg->chkO t sg e=true->OOk X e (dO sg.fs t)
 | .oN,X,sg,e,G,h=>by
  cases e with
  |none=>exact oo_none|some e=>cases h
 | .oS a,X,sg,e,G,h=>by
  cases e with
  |none=>cases h|some e=>exact oo_some (sE a G h)
theorem sI:∀(t:Ix) {X:Cx} {sg:Sg} {tg e:Expr},SgOk X sg->chkI t sg e=true->chkZ t tg=true->IOk X tg e (dI sg.fs t)
 | .iL a,X,sg,tg,e,G,h,hz=>by
  exact io_list (sE a G h)
 | .iT a,X,sg,tg,e,G,h,hz=>by
  exact io_tup (sE a G h)
 | .iR1 as,X,sg,tg,e,G,h,hz=>by
  unfold chkI at h;split at h
  ·obtain⟨h1,h2⟩:=zF h
   obtain⟨h1,k4⟩:=zF h1;obtain⟨h1,k3⟩:=zF h1;obtain⟨k1,k2⟩:=zF h1;have:=beq_iff_eq.mp k1;subst this;exact io_r1 (yk G k2).1 (JW G k3) (sA as G h2) (nst k4)
  ·cases h
 | .iR2 as,X,sg,tg,e,G,h,hz=>by
  unfold chkI at h;split at h
  ·obtain⟨h1,h2⟩:=zF h
   obtain⟨h1,k5⟩:=zF h1;obtain⟨h1,k4⟩:=zF h1;obtain⟨h1,k3⟩:=zF h1;obtain⟨k1,k2⟩:=zF h1;have:=beq_iff_eq.mp k1;subst this;exact io_r2 (yk G k2).1 (JW G k3) (sA as G h2) (nst k4) (nst k5)
  ·cases h
 | .iE t1 as,X,sg,tg,e,G,h,hz=>by
  unfold chkI at h;split at h
  ·obtain⟨h1,h2⟩:=zF h
   obtain⟨h1,k4⟩:=zF h1;obtain⟨h1,k3⟩:=zF h1;obtain⟨k1,k2⟩:=zF h1;have:=beq_iff_eq.mp k1;subst this;cases tg with
   |Tuple tE tX tP=>exact io_enum (yk G k2).1 (JW G k3) (sA as G h2) (nst k4)|_=>exact absurd hz qF
  ·cases h
end
def zET{X:Cx}{sg:Sg}(G:SgOk X sg){i:Nat}{x:Str}{px spos:Pos}{nl:Nat}{loc capn:List Str}{caps:List Nat}{it:Ix}{tg:Tg}{tt:Tx}{el:Ex}{v:Expr}(hi:X.N[i]?=some x)(hx:Loc X.env.scope x)(hf:X.fn x=true\/X.env.scope.names.lookup x=some .local)
  (hsw:swapsWith v (some (.Name x px)) spos.line X.env=pure true) (h:zu (.comp nl loc capn caps it tg tt el) sg v=true):SOk X (.Assign [.Name x px] v spos) (sSet i (dE sg.fs (.comp nl loc capn caps it tg tt el))):=by
 cases v with
 |ListComp elt v86 scope w1 =>
  cases v86 with
  |cons v87 v88 =>
   cases v87 with
   |mk target iter ifs v89 =>
    cases v89 with
    |ofNat v90 =>
     cases v90 with
     |zero =>
      cases v88 with
      |nil =>
       replace h:(sg.calm&&(GE sg nl loc capn caps scope&&jL iter&&((chkZ it target&&chkI it sg iter)&&(Q7 tg (Js sg (loc++capn) scope) target&&(_&&zu el (Js sg (loc++capn) scope) elt)))))=true:=h;obtain⟨hcm,h⟩:=zF h;obtain⟨h1,h2⟩:=zF h;obtain⟨h1,k9⟩:=zF h1;unfold GE at h1;obtain⟨h1,k7⟩:=zF h1;obtain⟨h1,k6⟩:=zF h1;obtain⟨h1,k5⟩:=zF h1;obtain⟨h1,k4⟩:=zF h1;obtain⟨h1,k3⟩:=zF h1;obtain⟨k1,k2⟩:=zF h1;obtain⟨q1,q2⟩:=zF h2;obtain⟨q0,q1⟩:=zF q1;obtain⟨q2,q3⟩:=zF q2;obtain⟨q3,q4⟩:=zF q3;have nd:(loc++capn).Nodup:=of_decide_eq_true k3;have kc:∀y∈scope.names,y.2=.cell->scope.names.lookup y.1=some .cell:=λy hy hc=>by
        have:=all_eq_true.mp k5 y hy;rw[hc]at this;simpa using this
       have I:∀cl C ex s H,SgOk (cxB X.nox (loc++capn) scope cl C ex s H) (Js sg (loc++capn) scope):=λ_ _ _ _ _=>ZY (z8 G) nd kc
       refine zFX▸no_S (sk_lc (X:=X.nox) loc capn G.nd hi hx hf (beq_iff_eq.mp k1) (λe s z=>z) (G.calm hcm) (beq_iff_eq.mp k2) (λy hy hl=>?_) (λy hy hc=>?_) (by rw[show X.env.kindOf=λn=>X.env.scope.names.lookup n from rfl,G.sc];exact k6) (GG (z8 G) k7) (sI it (z8 G) q1 q0) (g:=gOf X.K tg) (λcl C ex s H=>GF (sg:=Js sg (loc++capn) scope) hcm (I cl C ex s H) q2) (ZK tg) (λcl C ex s H=>?_) (λcl C ex s H=>sE (sg:=Js sg (loc++capn) scope) el (I cl C ex s H) q4) (yh k9) hsw)
       ·have:=all_eq_true.mp k4 y hy
        rw[hl]at this;simpa using this
       ·exact kc y hy hc
       ·cases ifs with
        |nil =>
         cases tt<;>first|(cases q3;done)|skip;exact vT
        |cons c cs =>
         obtain⟨q3,q5⟩:=zF q3;have:=isEmpty_iff.mp q3;subst this;exact vU (sT (sg:=Js sg (loc++capn) scope) tt (I cl C ex s H) q5)
      |_=>exact nf h
     |_=>exact nf h
    |_=>exact nf h
  |_=>exact nf h
 |_=>exact nf h
def zCS{X:Cx}{sg:Sg}(G:SgOk X sg){i:Nat}{x:Str}{px spos:Pos}{nl:Nat}{loc capn:List Str}{caps:List Nat}{it:Ix}{tg:Tg}{tt:Tx}{ka va:Ex}{v:Expr}(hi:X.N[i]?=some x)(hx:Loc X.env.scope x)(hf:X.fn x=true\/X.env.scope.names.lookup x=some .local)
  (hsw:swapsWith v (some (.Name x px)) spos.line X.env=pure true) (h:zu (.dcomp nl loc capn caps it tg tt ka va) sg v=true):SOk X (.Assign [.Name x px] v spos) (sSet i (dE sg.fs (.dcomp nl loc capn caps it tg tt ka va))):=by
 cases v with
 |DictComp ke ve v86 scope w1 =>
  cases v86 with
  |cons v87 v88 =>
   cases v87 with
   |mk target iter ifs v89 =>
    cases v89 with
    |ofNat v90 =>
     cases v90 with
     |zero =>
      cases v88 with
      |nil =>
       replace h:(sg.calm&&(GE sg nl loc capn caps scope&&jL iter&&((chkZ it target&&chkI it sg iter)&&(Q7 tg (Js sg (loc++capn) scope) target&&(_&&(zu ka (Js sg (loc++capn) scope) ke&&zu va (Js sg (loc++capn) scope) ve))))))=true:=h;obtain⟨hcm,h⟩:=zF h;obtain⟨h1,h2⟩:=zF h;obtain⟨h1,k9⟩:=zF h1;unfold GE at h1;obtain⟨h1,k7⟩:=zF h1;obtain⟨h1,k6⟩:=zF h1;obtain⟨h1,k5⟩:=zF h1;obtain⟨h1,k4⟩:=zF h1;obtain⟨h1,k3⟩:=zF h1;obtain⟨k1,k2⟩:=zF h1;obtain⟨q1,q2⟩:=zF h2;obtain⟨q0,q1⟩:=zF q1;obtain⟨q2,q3⟩:=zF q2;obtain⟨q3,q4⟩:=zF q3;obtain⟨q4,q6⟩:=zF q4;have nd:(loc++capn).Nodup:=of_decide_eq_true k3;have kc:∀y∈scope.names,y.2=.cell->scope.names.lookup y.1=some .cell:=λy hy hc=>by
        have:=all_eq_true.mp k5 y hy;rw[hc]at this;simpa using this
       have I:∀cl C ex s H,SgOk (cxB X.nox (loc++capn) scope cl C ex s H) (Js sg (loc++capn) scope):=λ_ _ _ _ _=>ZY (z8 G) nd kc
       refine zFX▸no_S (sk_dc (X:=X.nox) loc capn (by have:=wj G;show X.A.units<_;omega) G.nd hi hx hf (beq_iff_eq.mp k1) (λe s z=>z) (G.calm hcm) (beq_iff_eq.mp k2) (λy hy hl=>?_) (λy hy hc=>?_) (by rw[show X.env.kindOf=λn=>X.env.scope.names.lookup n from rfl,G.sc];exact k6) (GG (z8 G) k7) (sI it (z8 G) q1 q0) (g:=gOf X.K tg) (λcl C ex s H=>GF (sg:=Js sg (loc++capn) scope) hcm (I cl C ex s H) q2) (ZK tg) (λcl C ex s H=>?_) (λcl C ex s H=>sE (sg:=Js sg (loc++capn) scope) ka (I cl C ex s H) q4) (λcl C ex s H=>sE (sg:=Js sg (loc++capn) scope) va (I cl C ex s H) q6) (yh k9) hsw)
       ·have:=all_eq_true.mp k4 y hy
        rw[hl]at this;simpa using this
       ·exact kc y hy hc
       ·cases ifs with
        |nil =>
         cases tt<;>first|(cases q3;done)|skip;exact vT
        |cons c cs =>
         obtain⟨q3,q5⟩:=zF q3;have:=isEmpty_iff.mp q3;subst this;exact vU (sT (sg:=Js sg (loc++capn) scope) tt (I cl C ex s H) q5)
      |_=>exact nf h
     |_=>exact nf h
    |_=>exact nf h
  |_=>exact nf h
 |_=>exact nf h
mutual
theorem sS:∀(t:Sx) {X:Cx} {sg:Sg} {e:Stmt},SgOk X sg->WG t sg e=true->SOk X e (dS sg.fs t)
 | .sIf t a b,X,sg,e,G,h=>by
  unfold WG at h;split at h
  ·obtain⟨h1,h2⟩:=zF h
   obtain⟨h2,h3⟩:=zF h2;exact sk_if (sT t G h1) (sB a G h2) (sB b G h3)
  ·cases h
 | .sSet i a,X,sg,e,G,h=>by
  unfold WG at h;split at h
  ·obtain⟨h1,h2⟩:=zF h
   obtain⟨h1,h3⟩:=zF h1;obtain⟨q1,q2,q3⟩:=vd G h1;unfold setOk at h3;split at h3
   ·obtain⟨k1,k2⟩:=zF h3
    rename_i el gs scope vp;cases hb:swB sg _ _ scope vp with
    |false=>exact zBi G.nd q1 q2 (sE a G h2) (by rw[zFe G k1,hb]) q3
    |true =>
     rw[hb]at k2;cases a with
     |comp nl loc capn caps it tg tt el'=>exact zET G q1 q2 q3 (by rw[zFe G k1,hb]) h2|_=>cases k2
   ·obtain⟨k1,k2⟩:=zF h3
    rename_i ke ve gs scope vp;cases hb:swB sg _ _ scope vp with
    |false=>exact zBi G.nd q1 q2 (sE a G h2) (by rw[zCR G k1,hb]) q3
    |true =>
     rw[hb]at k2;cases a with
     |dcomp nl loc capn caps it tg tt ka va=>exact zCS G q1 q2 q3 (by rw[zCR G k1,hb]) h2|_=>cases k2
   ·exact zBi G.nd q1 q2 (sE a G h2) (vM h3) q3
  ·cases h
 | .sAny,X,sg,e,G,h=>by
  exact sk_any
 | .sTup is a,X,sg,e,G,h=>by
  unfold WG at h;split at h
  ·obtain⟨hcm,h⟩:=zF h
   obtain⟨h1,h2⟩:=zF h;obtain⟨h1,k3⟩:=zF h1;obtain⟨k1,k2⟩:=zF h1;obtain⟨q1,q2,q3⟩:=ZB _ is G k1;exact sk_tup (zEy (G.calm hcm) q1 q2 q3) (sE a G h2) (vf k2) (sw_ok G k3)
  ·cases h
 | .sPar i j as,X,sg,e,G,h=>by
  unfold WG at h;split at h
  ·obtain⟨hcm,h⟩:=zF h
   obtain⟨h1,h2⟩:=zF h;have h1':=h1;unfold zES at h1;simp only[Bool.and_eq_true,Bool.not_eq_true',beq_iff_eq,bne_iff_ne]at h1;obtain⟨⟨⟨⟨⟨⟨⟨⟨⟨⟨⟨_,n1⟩,n2⟩,n3⟩,l1⟩,l2⟩,_⟩,_⟩,_⟩,_⟩,_⟩,_⟩:=h1;exact yW (ps_par (G.calm hcm) G.nd (by rw[G.N];exact n1) (by rw[G.N];exact n2) n3 (j5 G l1) (j5 G l2) (sA as G h2) (sw_par G h1') (vf rfl)) λD O H=>zD0
  ·cases h
 | .sRet a,X,sg,e,G,h=>by
  unfold WG at h;split at h
  ·exact sk_ret (sE a G h)
  ·cases h
 | .sDrop a,X,sg,e,G,h=>by
  unfold WG at h;split at h
  ·obtain⟨h1,h2⟩:=zF h
   exact sk_drop (sE a G h2) (vM h1)
  ·cases h
 | .sIx i b a,X,sg,e,G,h=>by
  unfold WG at h;split at h
  ·obtain⟨h1,h2⟩:=zF h
   obtain⟨h1,h0⟩:=zF h1;obtain⟨h1,h4⟩:=zF h1;obtain⟨h2,h3⟩:=zF h2;exact zDl i (JV G h1) (sE b G h2) (sE a G h3) (zFd h4) (vf h0)
  ·cases h
 | .sDaug i b a,X,sg,e,G,h=>by
  unfold WG at h;split at h
  ·obtain⟨h1,h2⟩:=zF h
   obtain⟨h6,h4⟩:=zF h1;obtain⟨h7,h5⟩:=zF h6;obtain⟨h8,h3⟩:=zF h2;rw[eq_of_beq h5];exact sk_daug i (by have:=wj G;omega) (JV G h7) (sE b G h8) (sE a G h3) (zFc h4)
  ·cases h
 | .sDput i b a,X,sg,e,G,h=>by
  unfold WG at h;split at h
  ·obtain⟨h1,h2⟩:=zF h
   obtain⟨h1,h0⟩:=zF h1;obtain⟨h1,h4⟩:=zF h1;obtain⟨h2,h3⟩:=zF h2;exact sk_dput i (by have:=wj G;omega) (JV G h1) (sE b G h2) (sE a G h3) (zFd h4) (vf h0)
  ·cases h
 | .sAugIx i b a,X,sg,e,G,h=>by
  unfold WG at h;split at h
  ·obtain⟨h1,h2⟩:=zF h
   obtain⟨h6,h4⟩:=zF h1;obtain⟨h7,h5⟩:=zF h6;obtain⟨h8,h3⟩:=zF h2;rw[eq_of_beq h5];exact zEB i (JV G h7) (sE b G h8) (sE a G h3) (zFc h4)
  ·cases h
 | .sForL a tg b,X,sg,e,G,h=>by
  unfold WG at h;split at h
  ·obtain⟨hcm,h⟩:=zF h
   obtain⟨h1,h2⟩:=zF h;obtain⟨h1,h0⟩:=zF h1;obtain⟨h2,h3⟩:=zF h2;exact no_S (sk_forL (X:=X.nox) PassesOwn.never (G.calm hcm) (sE a (z8 G) h2) (GF hcm (z8 G) h0) (ZK tg) (sB b (z8 G) h3) (yh h1))
  ·cases h
 | .sForI ix tg b,X,sg,e,G,h=>by
  unfold WG at h;split at h
  ·obtain⟨hcm,h⟩:=zF h
   obtain⟨h1,h2⟩:=zF h;obtain⟨h1,h0⟩:=zF h1;obtain⟨h2,h3⟩:=zF h2;obtain⟨h4,h2⟩:=zF h2;exact sk_forN (ps_forX (sI ix G h2 h4) (yh h1)) (no_S (sk_forI (X:=X.nox) PassesOwn.never (G.calm hcm) (sI ix (z8 G) h2 h4) (GF hcm (z8 G) h0) (ZK tg) (sB b (z8 G) h3) (yh h1)))
  ·cases h
 | .sForT a tg b,X,sg,e,G,h=>by
  unfold WG at h;split at h
  ·obtain⟨hcm,h⟩:=zF h
   obtain⟨h1,h2⟩:=zF h;obtain⟨h1,h0⟩:=zF h1;obtain⟨h2,h3⟩:=zF h2;exact no_S (sk_forT (X:=X.nox) PassesOwn.never (G.calm hcm) (sE a (z8 G) h2) (GF hcm (z8 G) h0) (ZK tg) (sB b (z8 G) h3) (yh h1))
  ·cases h
 | .sForR1 as tg b,X,sg,e,G,h=>by
  unfold WG at h;split at h
  ·obtain⟨hcm,h⟩:=zF h
   obtain⟨h1,h2⟩:=zF h;obtain⟨h1,k5⟩:=zF h1;obtain⟨h1,k4⟩:=zF h1;obtain⟨h1,k3⟩:=zF h1;obtain⟨k1,k2⟩:=zF h1;obtain⟨h2,h3⟩:=zF h2;have:=beq_iff_eq.mp k1;subst this;exact no_S (zDo (X:=X.nox) PassesOwn.never (G.calm hcm) (yk (z8 G) k2).1 (JW (z8 G) k3) (sA as (z8 G) h2) (GF hcm (z8 G) k5) (ZK tg) (sB b (z8 G) h3) (nst k4) (yh rfl))
  ·cases h
 | .sWhile t b,X,sg,e,G,h=>by
  unfold WG at h;split at h
  ·obtain⟨h1,h2⟩:=zF h
   exact no_S (zD5 (X:=X.nox) PassesOwn.never (sT t (z8 G) h1) (sB b (z8 G) h2))
  ·cases h
 | .sAug i o a,X,sg,e,G,h=>by
  unfold WG at h;split at h
  ·obtain⟨h,h2⟩:=zF h
   obtain⟨h,k2⟩:=zF h;obtain⟨h1,k1⟩:=zF h;obtain⟨q1,q2,q3⟩:=vd G h1;have:=beq_iff_eq.mp k1;subst this;cases o with
   |add=>exact zB6 G.nd q1 q2 q3 (sE a G h2)|sub=>exact zB7 G.nd q1 q2 q3 (sE a G h2)|mul=>exact zB8 G.nd q1 q2 q3 (sE a G h2)|_=>cases k2
  ·cases h
 | .sRaise c,X,sg,e,G,h=>by
  unfold WG at h;split at h
  ·rename_i x _ _ _
   obtain⟨hcm,h⟩:=zF h;obtain⟨h,k3⟩:=zF h;obtain⟨k1,k2⟩:=zF h;have:=beq_iff_eq.mp k1;subst this;obtain⟨C,c1,c2⟩:=G.rs x (by simpa using k3);exact zD1 (G.calm hcm) (yk G k2).1 c1 c2 (yk G k2).2
  ·cases h
 | .sTry cl b i hb,X,sg,e,G,h=>by
  unfold WG at h;split at h
  ·obtain⟨h,h2⟩:=zF h
   obtain⟨h2,h3⟩:=zF h2;obtain⟨h,k5⟩:=zF h;obtain⟨h,k4⟩:=zF h;obtain⟨h,k3⟩:=zF h;obtain⟨k1,k2⟩:=zF h;obtain⟨k3,k6⟩:=zF k3;obtain⟨k5,k7⟩:=zF k5;have:=beq_iff_eq.mp k1;subst this;have ecl:cl=sg.cl:=by simpa using k3
   subst ecl;obtain⟨T,t1,t2,t3⟩:=G.cl (λz=>by rw[z]at k6;cases k6);exact sk_try (G.stk k4) G.nd (by rw[G.N];simpa using k5) (j5 G k7) (yk G k2).1 (yk G k2).2 t1 t2 (λc hc=>let ⟨C,c1,c2,_⟩:=t3 c hc;⟨C,c1,c2⟩) (λpn E=>sB b (tr_ok G pn E) h2) (λa=>sB (sg:={sg with calm:=false}) hb (hd_ok G a) h3)
  ·cases h
theorem sB:∀(t:Bx) {X:Cx} {sg:Sg} {e:List Stmt},SgOk X sg->chkB t sg e=true->Gr X e (dB sg.fs t)
 | .bNil,X,sg,e,G,h=>by
  have:=isEmpty_iff.mp h;subst this;exact sk_nil
 | .bOne a,X,sg,e,G,h=>by
  cases e with
  |cons s v135 =>
   cases v135 with
   |nil =>
    replace h:(WG a sg s)=true:=h;exact sk_one (sS a G h)
   |_=>exact nf h
  |_=>exact nf h
 | .bSeq a b,X,sg,e,G,h=>by
  cases e with
  |cons s r =>
   replace h:(WG a sg s&&chkB b sg r)=true:=h;obtain⟨h1,h2⟩:=zF h;exact sk_cons (sS a G h1) (sB b G h2)
  |_=>exact nf h
end
end
def ClOk(K:qH)(mg:Str->Option Value)(cl rs:List Str):Prop :=
 (cl≠[]->∃T,mg "ThrowError"=some (.ref T)/\TCls K T/\∀c∈cl,∃C,mg c=some (.ref C)/\XCls K c C T/\C≠T)/\(∀c∈rs,∃C,mg c=some (.ref C)/\excIn K C VB "ValueError.__new__"=true)/\SmOk K
abbrev zCT(P:Program)(w:World)(K:qH)(mg:Str->Option Value)(base:Heap)(ri:List Str):Prop:=∀c∈ri,RIok P w K mg base c/\RAok K mg c
def def_ok{P:Program}{w:World}{K:qH}{mg:Str->Option Value}{base:Heap}{x:Str}{st:Stmt}{ps N:List Str}{n lv:Nat}{cs:List (Str×D)}{fs:List FI}{bs:List Str}{c:Bool}{cl rs:List Str}(t:Bx)(T:JD K mg x st ps)(S:FnScope N ps (zl st))(hn:N.length=n)
  (hcs:∀x d,cs.lookup x=some d->∃u v,mg x=some u/\zz v u/\∀H,Rep K mg H d v)
  (hfs:∀i∈fs,∃f fd ps,mg i.x=some (.ref f)/\keepIn K (.ref f)=true/\ZL K fd ps []/\ps.length=i.n/\FnOkN (!i.wild) P w K mg base i.lv f fd ps (spM K mg i.n i.F))
  (hbs:∀x∈bs,mg x=none) (hcl:ClOk K mg cl rs) {ri:List Str} (hri:zCT P w K mg base ri) (h:chkB t ⟨N,zl st,true,cs,fs,bs,lv,c,cl,rs,[],ri⟩ (jH st)=true):FOk P w K mg base c x (lv+1) ps (fnM n (dB fs t)):=by
 obtain⟨a,fd,hm,F,bnd⟩:=T;subst hn;refine⟨a,fd,hm,F.kp,bnd,fn_ok F S λcdv A outer s H E hd hr=>?_⟩;exact sB (sg:=⟨N,zl st,true,cs,fs,bs,lv,c,cl,rs,[],ri⟩) t ⟨rfl,rfl,λ_ _=>rfl,(λx h=>by cases h),id,hd,λ_=>⟨rfl,rfl⟩,S.nd,hcs,hfs,hbs,hr,hcl.1,hcl.2.1,hcl.2.2,hri⟩ h
def zCU(K:qH)(mg:Str->Option Value)(cs:List (Str×D)):Prop:=∀x d,cs.lookup x=some d->∃u v,mg x=some u/\zz v u/\∀H,Rep K mg H d v
def BsOk(mg:Str->Option Value)(bs:List Str):Prop:=∀x∈bs,mg x=none
def FsOk(P:Program)(w:World)(K:qH)(mg:Str->Option Value)(base:Heap)(fs:List FI):Prop :=
 ∀i∈fs,∃f fd ps,mg i.x=some (.ref f)/\keepIn K (.ref f)=true/\ZL K fd ps []/\ps.length=i.n/\FnOkN (!i.wild) P w K mg base i.lv f fd ps (spM K mg i.n i.F)
section
variable{P:Program}{w:World}{K:qH}{mg:Str->Option Value}{base:Heap}
def cs_nil:zCU K mg []:=λx d h=>by cases h
def zFh{x:Str}{d:D}{cs:List (Str×D)}(h:∃u v,mg x=some u/\zz v u/\∀H,Rep K mg H d v)(t:zCU K mg cs):zCU K mg ((x,d)::cs):=λy d' e=>by
 rw[lookup_cons]at e;cases hy:y==x with
 |true =>
  rw[hy]at e;cases e;have:y=x:=by simpa using hy
  subst this;exact h
 |false=>rw[hy]at e;exact t y d' e
def Yy{x:Str}{i:Int}{cs:List (Str×D)}(h:∃t,mg x=some (.int i t))(t:zCU K mg cs):zCU K mg ((x,.int i)::cs):=by
 obtain⟨k,h⟩:=h;exact zFh ⟨_,.int i,h,⟨_,rfl⟩,λH=>by simp only[Rep]⟩ t
def cs_tup{x:Str}{d:D}{cs:List (Str×D)}(h:∃a,mg x=some (.ref a)/\∀H,Rep K mg H d (.ref a))(t:zCU K mg cs):zCU K mg ((x,d)::cs):=by
 obtain⟨a,h,r⟩:=h;exact zFh ⟨_,.ref a,h,rfl,r⟩ t
def bs_nil:BsOk mg []:=λx h=>by cases h
def yl{x:Str}{bs:List Str}(h:mg x=none)(t:BsOk mg bs):BsOk mg (x::bs):=λy e=>by
 rcases mem_cons.mp e with e|e
 ·subst e;exact h
 ·exact t y e
def zy:FsOk P w K mg base []:=λx h=>by cases h
def zP{x:Str}{n lv:Nat}{F:MF}{fs:List FI}{ps:List Str}{wl:Bool}(h:FOk P w K mg base (!wl) x lv ps F)(hl:ps.length=n)(t:FsOk P w K mg base fs):FsOk P w K mg base (⟨x,n,lv,wl,F⟩::fs):=λi e=>by
 rcases mem_cons.mp e with e|e
 ·subst e
  subst hl;obtain⟨a,fd,h1,h2,h3,h4⟩:=h;exact⟨a,fd,ps,h1,h2,h3,rfl,h4⟩
 ·exact t i e
def def_at{x:Str}{st:Stmt}{ps N:List Str}{n lv:Nat}{cs:List (Str×D)}{fs:List FI}{bs:List Str}{cl rs:List Str}(t:Bx){a:Addr}{fd:FuncData}(F:Fun K x x st a fd)(S:FnScope N ps (zl st))(hn:N.length=n)
  (hcs:zCU K mg cs) (hfs:FsOk P w K mg base fs) (hbs:BsOk mg bs) (hcl:ClOk K mg cl rs) {ri:List Str} (hri:zCT P w K mg base ri) (h:chkB t ⟨N,zl st,true,cs,fs,bs,lv,true,cl,rs,[],ri⟩ (jH st)=true):FnOk P w K mg base (CXx P w) (lv+1) a fd ps (spM K mg ps.length (fnM n (dB fs t))):=by
 subst hn;refine(fn_ok (c:=true) F S λcdv A outer s H E hd hr=>?_).fn;exact sB (sg:=⟨N,zl st,true,cs,fs,bs,lv,true,cl,rs,[],ri⟩) t ⟨rfl,rfl,λ_ _=>rfl,(λx h=>by cases h),id,hd,λ_=>⟨rfl,rfl⟩,S.nd,hcs,hfs,hbs,hr,hcl.1,hcl.2.1,hcl.2.2,hri⟩ h
def scP(N P:List Str)(sc:Scope):Prop:=sc.kind=.function/\sc.isCoroutine=false/\sc.isGenerator=false/\N.Nodup/\N.take P.length=P/\(∀x∈P,sc.names.lookup x=some .local\/sc.names.lookup x=some .cell)/\∀y∈sc.names,y.2≠.free
instance scD (N P:List Str) (sc:Scope):Decidable (scP N P sc):=by unfold scP;infer_instance
def sc_of{N P:List Str}{sc:Scope}(h:scP N P sc):FnScope N P sc:=⟨h.1,h.2.1,h.2.2.1,h.2.2.2.1,h.2.2.2.2.1,h.2.2.2.2.2.1,h.2.2.2.2.2.2⟩
def zd{x:Str}{st:Stmt}{ps:List Str}{lv:Nat}{cs:List (Str×D)}{fs:List FI}{bs:List Str}{c:Bool}{cl rs:List Str}(t:Bx)(N:List Str)(T:JD K mg x st ps)
  (hcs:zCU K mg cs) (hfs:FsOk P w K mg base fs) (hbs:BsOk mg bs) (hcl:ClOk K mg cl rs) {ri:List Str} (hri:zCT P w K mg base ri) (h:(decide (scP N ps (zl st))&&chkB t ⟨N,zl st,true,cs,fs,bs,lv,c,cl,rs,[],ri⟩ (jH st))=true):FOk P w K mg base c x (lv+1) ps (fnM N.length (dB fs t)) :=
 def_ok t T (sc_of (of_decide_eq_true (Bool.and_eq_true_iff.mp h).1)) rfl hcs hfs hbs hcl hri (Bool.and_eq_true_iff.mp h).2
def def_atB{x:Str}{st:Stmt}{ps:List Str}{lv:Nat}{cs:List (Str×D)}{fs:List FI}{bs:List Str}{cl rs:List Str}(t:Bx)(N:List Str){a:Addr}{fd:FuncData}(F:Fun K x x st a fd)
  (hcs:zCU K mg cs) (hfs:FsOk P w K mg base fs) (hbs:BsOk mg bs) (hcl:ClOk K mg cl rs) {ri:List Str} (hri:zCT P w K mg base ri) (h:(decide (scP N ps (zl st))&&chkB t ⟨N,zl st,true,cs,fs,bs,lv,true,cl,rs,[],ri⟩ (jH st))=true):FnOk P w K mg base (CXx P w) (lv+1) a fd ps (spM K mg ps.length (fnM N.length (dB fs t))) :=
 def_at t F (sc_of (of_decide_eq_true (Bool.and_eq_true_iff.mp h).1)) rfl hcs hfs hbs hcl hri (Bool.and_eq_true_iff.mp h).2
def zCV{c:Str}{C T:Addr}(h:xIn K c C T=true):XCls K c C T/\C≠T:=by
 unfold xIn at h;simp only[Bool.and_eq_true,beq_iff_eq,Bool.not_eq_true']at h;obtain⟨⟨⟨⟨⟨⟨⟨h1,h2⟩,h3⟩,h4⟩,h5⟩,h6⟩,h7⟩,h8⟩:=h;refine⟨⟨?_,h2,h3,h4,h5,h6,h7⟩,by simpa using h8⟩;cases e:clsIn K C with
 |none=>rw[e]at h1;cases h1
 |some cd =>
  rw[e]at h1;simp only[Bool.and_eq_true,beq_iff_eq]at h1;exact⟨cd,rfl,h1.1,h1.2⟩
def tcls_of{T:Addr}(h:tIn K T=true):TCls K T:=by
 unfold tIn at h;simp only[Bool.and_eq_true,beq_iff_eq]at h;obtain⟨h1,h2⟩:=h;refine⟨?_,h2⟩;cases e:clsIn K T with
 |none=>rw[e]at h1;cases h1|some cd=>rw[e]at h1;exact⟨cd,rfl,by simpa using h1⟩
def spLaw(K:qH):Sp:=λvs H Q _=>∃(a:Addr) (ns:List Int),vs=[.ref a]/\SqL K H a (ns.map V.int)/\ns.length<=63/\∀H',Q (.bl true) H'
theorem GH{H:Hp}:∀ns:List Int,Reps K mg H (ns.map D.int) (ns.map V.int)
 | []=>Reps.nil|n::ns=>Reps.cons (by simp only[Rep]) (GH ns)
def law_imp{F:MF}(hm:∀ns:List Int,ns.length<=63->∃outs,F [.v (.l (ns.map D.int))]=.ok (.v (.bl true),outs))(vs:List V)(H:Hp)(Q:VK)(E:XK)(h:spLaw K vs H Q E):spM K mg 1 F vs H Q E:=by
 obtain⟨a,ns,rfl,hS,hl,k⟩:=h;obtain⟨outs,hF⟩:=hm ns hl;have em:∀b,¬Mo (λ_=>False) [(some (V.ref a),Slot.v (.l (ns.map D.int)))] b:=by
  intro b q;rcases q with q|q
  ·exact q
  ·rw[zb]at q;cases q
 have sm:Yj H (Hm (Mo (λ_=>False) [(some (V.ref a),Slot.v (.l (ns.map D.int)))]) H):=λb o q=>zo.mpr ⟨em b,q⟩
 refine⟨rfl,λ_=>False,[.v (.l (ns.map D.int))],rfl,⟨?_,?_,?_,?_⟩,?_⟩
 ·intro o d q
  have q':=mem_singleton.mp q
  cases q';refine⟨_,rfl,?_⟩;simp only[Rep];exact⟨a,_,rfl,sm.seq hS,GH ns⟩
 ·intro o s ds q e
  have q':=mem_singleton.mp q
  cases q';cases e
 ·show(z7 [(some (V.ref a),Slot.v (.l (ns.map D.int)))]).Nodup
  rw[zb];exact nodup_nil
 ·intro b q;cases q
 ·rw[hF]
  intro v H' _ fr _;obtain⟨v',e,r⟩:=fr.val (some v) (.bl true) qE;cases e;simp only[Rep]at r;subst r;exact k H'
end
def wk{E:zN}:zm [] E=[]:=rfl
def Jt{ds:List D}{ss:List Slot}{s:Slot}{E:zN}:zm (.par ds::ss) (s::E)=s::zm ss E:=rfl
def wm{d:D}{ss:List Slot}{s:Slot}{E:zN}:zm (.v d::ss) (s::E)=.e::zm ss E:=rfl
def Ju{d:List D}{ss:List Slot}{s:Slot}{E:zN}:zm (.own d::ss) (s::E)=.e::zm ss E:=rfl
def Jv{ss:List Slot}{s:Slot}{E:zN}:zm (.e::ss) (s::E)=.e::zm ss E:=rfl
theorem GI{tg:MG}{tt:MT}{el:ME}(I:Nat->zN->List D->Prop):∀(ds:List D) (k:Nat) (E:zN) (acc:List D),I k E acc->acc.length+ds.length<=cap ->
  (∀i d,ds[i]?=some d->∀E acc,I (k+i) E acc->acc.length<cap->∃E1 E2 r E3,tg d E=.ok E1/\tt E1=.ok (true,E2)/\el E2=.ok (r,E3)/\I (k+i+1) E3 (acc++[r.d])) ->
  ∃res E',YQ tg tt el ds E acc=.ok (res,E')/\I (k+ds.length) E' res
 | [],k,E,acc,h,hc,step=>⟨acc,E,rfl,h⟩
 |d::ds,k,E,acc,h,hc,step=>by
  simp only[length_cons]at hc;obtain⟨E1,E2,r,E3,h1,h2,h3,h4⟩:=step 0 d rfl E acc h (by omega);obtain⟨res,E',q1,q2⟩:=GI I ds (k+1) E3 (acc++[r.d]) h4 (by simp;omega) λi d' e E acc h hl=>by
   have:=step (i+1) d' (by simpa using e) E acc (by rw[show k+(i+1)=k+1+i by omega];exact h) hl;rw[show k+(i+1)=k+1+i by omega]at this;exact this
  refine⟨res,E',?_,?_⟩
  ·simp only[YQ,h1,h2,h3]
   rw[if_pos (by omega)];exact q1
  ·rw[length_cons,show k+(ds.length+1)=k+1+ds.length by omega];exact q2
theorem z9{tg:MG}{body:MS}(I:Nat->zN->Prop):∀(ds:List D) (k:Nat) (E:zN),I k E ->
  (∀i d,ds[i]?=some d->∀E,I (k+i) E->∃E1 E2,tg d E=.ok E1/\body E1=.ok (.nx,E2)/\I (k+i+1) E2) ->
  ∃E',wX tg body ds E=.ok (.nx,E')/\I (k+ds.length) E'
 | [],k,E,h,step=>⟨E,rfl,h⟩
 |d::ds,k,E,h,step=>by
  obtain⟨E1,E2,h1,h2,h4⟩:=step 0 d rfl E h;obtain⟨E',q1,q2⟩:=z9 I ds (k+1) E2 h4 λi d' e E h=>by
   have:=step (i+1) d' (by simpa using e) E (by rw[show k+(i+1)=k+1+i by omega];exact h);rw[show k+(i+1)=k+1+i by omega]at this;exact this
  refine⟨E',?_,?_⟩
  ·simp only[wX,h1,h2]
   exact q1
  ·rw[length_cons,show k+(ds.length+1)=k+1+ds.length by omega];exact q2
theorem vh:∀(n:Nat) (lo:Int) (i:Nat) (d:D),(zG lo n)[i]?=some d->i<n/\d=.int (lo+i)
 |0,_,_,_,h=>by simp[zG]at h
 |n+1,lo,0,d,h=>by
  simp[zG]at h;exact⟨by omega,by rw[<- h];simp⟩
 |n+1,lo,i+1,d,h=>by
  simp only[zG,List.getElem?_cons_succ]at h;obtain⟨h1,h2⟩:=vh n (lo+1) i d h;refine⟨by omega,?_⟩;rw[h2];congr 1
  push_cast
  omega
theorem ym:∀(n:Nat) (lo:Int),(zG lo n).length=n
 |0,_=>rfl|n+1,lo=>by simp[zG,ym n]
def zn:Slot->Bool
 | .par _=>false|_=>true
theorem Q9:∀(vs:List D) (E:zN),zL (vs.map AR.tmp) E=.ok (vs.map Slot.v,E)
 | [],_=>rfl|d::vs,E=>by simp only[map_cons,zL,Q9 vs E]
theorem zAA:∀(vs:List D) (outs:List Slot) (E0 E:zN),outs.length=vs.length->zJ (vs.map AR.tmp) outs E0 E=.ok E
 | [],[],_,_,_=>rfl| [],_::_,_,_,h=>by cases h|_::_,[],_,_,h=>by cases h|d::vs,s::outs,E0,E,h=>by simp only[map_cons,zJ];exact zAA vs outs E0 E (by simpa using h)
theorem GJ{vs:List D}{tg:MG}{tt:MT}{el:ME}{nl:Nat}(pat:D->List DV.Slot)(f:D->Bool)(g:D->D):∀(ds:List D),
  (∀d∈ds,∀S:List DV.Slot,S.length=nl->(∀s∈S,zn s=true)->tg d (S++vs.map Slot.v)=.ok (pat d++vs.map Slot.v)) ->
  (∀d∈ds,(pat d).length=nl/\∀s∈pat d,zn s=true) ->
  (∀d∈ds,tt (pat d++vs.map Slot.v)=.ok (f d,pat d++vs.map Slot.v)) ->
  (∀d∈ds,f d=true->∃r,el (pat d++vs.map Slot.v)=.ok (r,pat d++vs.map Slot.v)/\r.d=g d) ->
  ∀(S:List DV.Slot) (acc:List D),S.length=nl->(∀s∈S,zn s=true)->acc.length+ds.length<=cap->∃S',S'.length=nl/\YQ tg tt el ds (S++vs.map Slot.v) acc=.ok (acc++(ds.filter f).map g,S'++vs.map Slot.v)
 | [],_,_,_,_,S,acc,hS,_,_=>⟨S,hS,by simp[YQ]⟩
 |d::ds,h1,h2,h3,h4,S,acc,hS,hn,hc=>by
  have m:=qE (a:=d) (l:=ds);have r1:=h1 d m S hS hn;have r3:=h3 d m;have r2:=h2 d m;simp only[length_cons]at hc;have go:=GJ pat f g ds (λz hz=>h1 z (qD _ hz)) (λz hz=>h2 z (qD _ hz)) (λz hz=>h3 z (qD _ hz)) (λz hz=>h4 z (qD _ hz)) (pat d);cases hf:f d with
  |false =>
   rw[hf]at r3;obtain⟨S',l',e'⟩:=go acc r2.1 r2.2 (by omega);refine⟨S',l',?_⟩;simp only[YQ,r1,r3,e',List.filter_cons,hf];simp
  |true =>
   rw[hf]at r3;obtain⟨r,r4,r5⟩:=h4 d m hf;obtain⟨S',l',e'⟩:=go (acc++[r.d]) r2.1 r2.2 (by simp;omega);refine⟨S',l',?_⟩;simp only[YQ,r1,r3,r4];rw[if_pos (by omega),e',r5];simp[List.filter_cons,hf]
def zEU{vs:List D}{tg:MG}{tt:MT}{el:ME}{nl:Nat}{caps:List Nat}(pat:D->List DV.Slot)(f:D->Bool)(g:D->D)(ds:List D)
  (h1:∀d∈ds,∀S:List DV.Slot,S.length=nl->(∀s∈S,zn s=true)->tg d (S++vs.map Slot.v)=.ok (pat d++vs.map Slot.v))
  (h2:∀d∈ds,(pat d).length=nl/\∀s∈pat d,zn s=true)
  (h3:∀d∈ds,tt (pat d++vs.map Slot.v)=.ok (f d,pat d++vs.map Slot.v))
  (h4:∀d∈ds,f d=true->∃r,el (pat d++vs.map Slot.v)=.ok (r,pat d++vs.map Slot.v)/\r.d=g d) (hc:ds.length<=cap)
  {mi:MI} {E E1:zN} (hi:mi E=.ok (ds,E1)) (hcap:JL E1 caps=.ok (vs.map AR.tmp)):Z6 nl caps mi tg tt el E=.ok (.own ((ds.filter f).map g),E1):=by
 obtain⟨S',l',e'⟩:=GJ (vs:=vs) (tg:=tg) (tt:=tt) (el:=el) (nl:=nl) pat f g ds h1 h2 h3 h4 (replicate nl .e) [] (by simp) (λs hs=>by rw[(List.mem_replicate.mp hs).2];rfl) (by simpa using hc);simp only[Z6,hi,hcap,Q9,e'];rw[zAA vs _ _ _ (by rw[List.length_drop,zh];simp)];simp
def gN_ok1{a:D}{S:List DV.Slot}{R:List DV.Slot}(hS:S.length=1)(hn:∀s∈S,zn s=true):gN 0 a (S++R)=.ok ([.v a]++R):=by
 match S,hS,hn with
 | [x],_,hn =>
  have hx:=hn x (by simp);cases x<;>first|(cases hx;done)|rfl
theorem zAB:∀(l:List Obj) (i:Nat) (as:List Addr) (a:Addr) (o:Obj),(uJ l i as).lookup a=some o->∃j,a=i+j/\l[j]?=some o/\isFr o=false
 | [],_,_,a,o,e=>by cases e|_::_,_,[],a,o,e=>by cases e
 |x::os,i,b::as,a,o,e=>by
  have up:∀{as:List Addr},(uJ os (i+1) as).lookup a=some o->∃j,a=i+j/\(x::os)[j]?=some o/\isFr o=false:=λe=>by
   obtain⟨j,h1,h2,h3⟩:=zAB os (i+1) _ a o e;exact⟨j+1,h1.trans ((add_assoc i 1 j).trans (congrArg (i+·) (Nat.add_comm 1 j))),by simpa using h2,h3⟩
  unfold uJ at e;cases hb:Nat.beq i b with
  |false=>rw[hb]at e;exact up e
  |true =>
   rw[hb]at e;cases hf:isFr x with
   |true=>rw[hf]at e;exact up e
   |false =>
    rw[hf]at e;replace e:(match a==i with|true=>some x|false=>List.lookup a (uJ os (i+1) as))=some o:=e
    cases ha:a==i with
    |true =>
     rw[ha]at e;cases e;exact⟨0,beq_iff_eq.mp ha,rfl,hf⟩
    |false=>rw[ha]at e;exact up e
def zCW{h:Heap}(as:List Addr):(YC h as).In h:=λa o e=>by
 obtain⟨j,h1,h2,h3⟩:=zAB _ _ _ _ _ e;rw[zero_add]at h1;subst h1;have h4:h.objs[a]?=some o:=by rw[<- Array.getElem?_toList];exact h2
 unfold Heap.get?;rw[h4];obtain⟨c,d,dt,sl⟩:=o;cases dt<;>first|rfl|(cases h3)
def zAC(as:List Addr)(α:Type)(L:qH->α)(v:α):PySem.W.Hook :=
 ⟨α,λs=>L (YC s.heap as),λ_=>v,λ_ h=>∃K:qH,K.In h/\L K=v,λ_ s e=>⟨_,zCW as,e⟩,λ_ _ _ ⟨K,x,e⟩ k=>⟨K,x.keeps k,e⟩⟩
def zEV{K:qH}{n:Str}{st:Stmt}(e:yM K n=yU n st):∃(f:Addr) (oc:Value) (od:Option Addr) (kV dc pm:Value) (an:Option Addr) (cd ct:Value) (sl:Array (Option Value)),
  nsIn K mainGlobals n=some (some (.ref f))/\K.lookup f=some ⟨oc,od,.func (fnOf n n (Jj st) (jH st) (zl st) .none kV dc pm an cd ct),sl⟩/\codeIn K cd n=true/\keepIn K (.ref f)=true:=by
 unfold yM at e;split at e
 ·rename_i a ha
  split at e
  ·rename_i oc od fd sl hl
   have e:=qJ e;unfold fvOf at e;injection e with e1 e
   injection e with e2 e
   injection e with e3 e
   injection e with e4 e
   injection e with e5 e
   injection e with e6 e
   injection e with e7 e
   injection e with e8 e
   injection e with e9 e10
   obtain⟨k,p⟩:=zF e1;cases fd;simp only at e2 e3 e4 e5 e6 e7 e8 e9 e10;subst e2 e3 e4 e5 e6 e7 e8 e9 e10;exact⟨_,_,_,_,_,_,_,_,_,_,ha,hl,k,p⟩
  ·cases e
 ·cases e
def nth{α:Type}:List α->Nat->Option α
 | [],_=>none|a::_,0=>some a|_::l,n+1=>nth l n
def ix{α:Type}{l l':List α}(n:Nat)(h:l=l'):nth l n=nth l' n:=congrArg (λl=>nth l n) h
section
variable{K:qH}{h:Heap}{mg:Str->Option Value}
def ar0{P:List Value->Prop}(h:P []):∀us:List Value,us.length=0->P us
 | [],_=>h
def ar1{P:List Value->Prop}(h:∀a:Value,P [a]):∀us:List Value,us.length=1->P us
 | [a],_=>h a
def ar2{P:List Value->Prop}(h:∀a b:Value,P [a,b]):∀us:List Value,us.length=2->P us
 | [a,b],_=>h a b
def ar3{P:List Value->Prop}(h:∀a b c:Value,P [a,b,c]):∀us:List Value,us.length=3->P us
 | [a,b,c],_=>h a b c
def yZ{n:Str}{st:Stmt}{ps:List Str}(X:K.In h)(G:h.Ns mainGlobals mg)(e:some (yM K n)=some (yU n st))
  (b:∀(kV doc pm:Value) (an:Option Addr) (cdv ct:Value) (us:List Value),us.length=ps.length->bindArgs (fnOf n n (Jj st) (jH st) (zl st) .none kV doc pm an cdv ct) ⟨us,[]⟩=pure (ps.zip us):=by intro _ _ _ _ _ _;first|exact ar1 (λ_=>rfl)|exact ar2 (λ_ _=>rfl)|exact ar3 (λ_ _ _=>rfl)|exact ar0 rfl):JD K mg n st ps:=by
 obtain⟨f,oc,od,kV,dc,pm,an,cd,ct,sl,a,l,k,p⟩:=zEV (qJ e);exact⟨_,_,mg_of X G a,zE5 (st:=st) l k p,(zE5 (st:=st) l k p).binds b⟩
def zAe{n:Str}{i:Int}(X:K.In h)(G:h.Ns mainGlobals mg)(e:some (Y1 K n)=some (some i)):∃t,mg n=some (.int i t):=by
 have e:=qJ e;unfold Y1 at e;split at e
 ·rename_i j t hj
  cases e;exact⟨_,mg_of X G hj⟩
 ·cases e
def tn_at{n:Str}{j:Int}(X:K.In h)(G:h.Ns mainGlobals mg)(e:some (zAp K n j)=some true):∃a,mg n=some (.ref a)/\∀H,Rep K mg H (.t [.non,.int j]) (.ref a):=by
 have e:=qJ e;unfold zAp at e;split at e
 ·rename_i a ha
  split at e
  ·rename_i t od its k sl hl
   obtain⟨e1,e2⟩:=zF e;have:=beq_iff_eq.mp e1;subst this;split at e2
   ·rename_i y t2 hi
    have:=beq_iff_eq.mp e2
    subst_vars
    refine⟨a,mg_of X G ha,λH=>?_⟩;simp only[Rep,Reps];refine⟨a,[.non,.int y],rfl,.inr ⟨_,its,k,hl,rfl,rfl,?_,?_⟩,.non,_,rfl,rfl,.int y,_,rfl,rfl,rfl⟩
    ·have:its.size=2:=by rw[<- Array.length_toList,hi];rfl
     rw[this];decide
    ·rw[hi];exact .cons rfl (.cons ⟨_,rfl⟩ .nil)
   ·cases e2
  ·cases e
 ·cases e
def YV{n:Str}(X:K.In h)(G:h.Ns mainGlobals mg)(e:some (jK K n)=some true):mg n=none:=by
 have e:=qJ e;unfold jK at e;split at e
 ·rename_i hj
  exact PySem.W.mg_none_of X G hj
 ·cases e
def QB{n:Str}{a:Addr}(X:K.In h)(G:h.Ns mainGlobals mg)(e:JN K n=some a):mg n=some (.ref a):=by
 unfold JN at e;split at e
 ·rename_i b hb
  cases e;exact mg_of X G hb
 ·cases e
def sm_at(e:zAq K=true):SmOk K:=by
 unfold zAq at e;cases h:K.lookup sysModules with
 |none=>rw[h]at e;cases e
 |some o =>
  rw[h]at e;dsimp only at e;cases hd:o.data with
  |dict es n=>exact⟨o,es,n,h,hd⟩|_=>rw[hd]at e;cases e
def cl_at{cl rs:List Str}(X:K.In h)(G:h.Ns mainGlobals mg)(e:zEx K cl rs=true):ClOk K mg cl rs:=by
 obtain⟨e,e3⟩:=zF e;obtain⟨e1,e2⟩:=zF e;refine⟨λhc=>?_,λc hc=>?_,sm_at e3⟩
 ·cases cl with
  |nil=>exact absurd rfl hc
  |cons c0 cs =>
   replace e1:(match JN K "ThrowError" with
    |some T=>tIn K T&&(c0::cs).all λc=>(match JN K c with|some C=>xIn K c C T|none=>false)
    |none=>false)=true:=e1
   cases hT:JN K "ThrowError" with
   |none=>rw[hT]at e1;cases e1
   |some T =>
    rw[hT]at e1;obtain⟨t1,t2⟩:=zF e1;refine⟨T,QB X G hT,tcls_of t1,λc hc=>?_⟩;have q:=all_eq_true.mp t2 c hc;cases hC:JN K c with
    |none=>rw[hC]at q;cases q
    |some C =>
     rw[hC]at q;exact⟨C,QB X G hC,(zCV q).1,(zCV q).2⟩
 ·have q:=all_eq_true.mp e2 c hc
  cases hC:JN K c with
  |none=>rw[hC]at q;cases q
  |some C =>
   rw[hC]at q;exact⟨C,QB X G hC,q⟩
end
def walkE{l:PySem.W.OpenLaw}{q:Program}{loose:List Str}{XP:(Str->Option Value)->Heap->Prop}{d:DefRec}{as:List Addr}{α:Type}{L:qH->α}{v:α}{x:Str}{F:MF}(hm:∀ns:List Int,ns.length<=63->∃outs,F [.v (.l (ns.map D.int))]=.ok (.v (.bl true),outs))
  (hn:l.most=some 63) (hdf:d.params.defaults=[])
  (Gk:∀(w:World) (K:qH) (mg:Str->Option Value) (fa:Addr) (h:Heap),K.In h->L K=v->h.Ns mainGlobals mg->mg d.name=some (.ref fa) ->
   ∃fd:FuncData,(∀(s:Shared) (u:Value),BindsTo s fd ⟨[u],[]⟩ [(x,u)])/\∀base:Heap,FnOk l.prog w K mg base (CXx l.prog w) 40 fa fd [x] (spM K mg 1 F)) :
  PySem.W.WalkO q loose XP (zAC as α L v).says l.row.toRowW d [] (λf vs=>PySem.call f vs):=by
 refine Att.attach_call hn hdf λw s₀ s₁ mg mb fa o pm cd doc a vs ns G Y ho hd hcd hmg hobj hints hlen hg=>?_
 obtain⟨K,KX,e⟩:=Y;obtain⟨fd,hb,hF⟩:=Gk w K mg fa _ KX e G.T.g hmg;exact zDR (sp:=spLaw K) (k:=40) KX G.T.g G.T.b G.T.builtins G.T.nolimit hg hobj hints (le_trans hlen (by decide)) ⟨rfl,rfl,by decide,by decide⟩ (λbase _ _=>(hF base).imp (law_imp hm)) hb (λH hO hS=>⟨a,ns,rfl,hS,hlen,λ_=>rfl⟩) λH e s' ⟨_,_,_,_,_,_,_,_,_,_,_,_,z⟩=>z
end DV
namespace My
open PySem L2 DV
def cs_:List (Str×D):=[("LEAST_SIGNS",.int 2),("LEAST_WEIGHT",.int 1),("MOST_MATCHED",.int 6),("MOST_PLAYED",.int 30),("MOST_SIGNS",.int 3),("MOST_WEIGHT",.int 9),("NO_STAND",.t [.non,.int 0])]
def bs_:List Str:=["ValueError","abs","all","bool","enumerate","int","isinstance","len","list","max","range","repr","sum","tuple"]
def ri_:List Str:=[]
def W3:Bx :=
  (.bOne (.sRet (.and (.is .int (.var 0)) (.not (.is .bool (.var 0))))))
def QC:List FI:=[]
def Yz:MF:=fnM 1 (dB QC W3)
def yN:Bx :=
  (.bOne (.sRet (.and (.call 0 (.ev (.var 0) .nil)) (.chain .le .le (.var 1) (.var 0) (.var 2)))))
def yn:List FI:=[⟨"is_whole",1,1,false,Yz⟩]
def zW:MF:=fnM 3 (dB yn yN)
abbrev JM:Bx :=
  (.bOne (.sPar 0 1 (.cons (.var 1) (.cons (.bin .mod (.var 0) (.var 1)) .nil))))
def jl:Bx :=
  (.bSeq (.sPar 0 1 (.cons (.cB .abs (.cons (.var 0) .nil)) (.cons (.cB .abs (.cons (.var 1) .nil)) .nil)))
  (.bSeq (.sWhile (.tE (.cmp .ne (.var 1) (.c (.int 0))))
  JM)
  (.bOne (.sRet (.var 0)))))
def ya:List FI:=[]
def yo:MF:=fnM 2 (dB ya jl)
abbrev WH:Bx :=
  (.bOne (.sAug 2 .mul (.var 0)))
def YW:Bx :=
  (.bSeq (.sSet 2 (.c (.int 1)))
  (.bSeq (.sForR1 (.cons (.var 1) .nil) (.n 3)
  WH)
  (.bOne (.sRet (.var 2)))))
def JX:List FI:=[]
def jQ:MF:=fnM 4 (dB JX YW)
def W4:Bx :=
  (.bSeq (.sIf (.tE (.cmp .eq (.var 1) (.c (.int 0)))) (.bOne .sAny) .bNil)
  (.bSeq (.sSet 2 (.call 0 (.ev (.var 0) (.ev (.var 1) .nil))))
  (.bSeq (.sIf (.tE (.cmp .lt (.var 1) (.c (.int 0)))) (.bOne (.sSet 2 (.neg (.var 2)))) .bNil)
  (.bOne (.sRet (.t (.cons (.bin .fdiv (.var 0) (.var 2)) (.cons (.bin .fdiv (.var 1) (.var 2)) .nil))))))))
def QD:List FI:=[⟨"greatest_divisor",2,1,false,yo⟩]
def JH:MF:=fnM 3 (dB QD W4)
def W5:Bx :=
  (.bSeq (.sIf (.tOr (.tNot (.tE (.is .tuple (.var 0)))) (.tNot (.tE (.chain .le .le (.gl (.int 2)) (.cB .len (.cons (.var 0) .nil)) (.gl (.int 3)))))) (.bOne (.sRet (.c (.bl false)))) .bNil)
  (.bOne (.sRet (.cB .all (.cons (.comp 1 ["weight"] [] [] (.iT (.var 0)) (.n 0) .tTr (.call 0 (.ev (.var 0) (.ev (.gl (.int 1)) (.ev (.gl (.int 9)) .nil))))) .nil)))))
def Jw:List FI:=[⟨"is_whole_within",3,2,false,zW⟩]
def yz:MF:=fnM 1 (dB Jw W5)
def YX:Bx :=
  (.bOne (.sIf (.tNot (.tE (.call 0 (.ev (.var 0) (.ev (.var 1) (.ev (.var 2) .nil)))))) (.bOne (.sRaise "NoNumber")) .bNil))
def We:List FI:=[⟨"is_whole_within",3,2,false,zW⟩]
def yO:MF:=fnM 3 (dB We YX)
def JY:Bx :=
  (.bOne (.sRet (.call 0 (.ev (.var 2) (.ev (.call 1 (.ev (.cB .sum (.cons (.var 0) .nil)) (.ev (.var 1) .nil))) .nil)))))
def WI:List FI:=[⟨"share_of",2,2,false,JH⟩,⟨"whole_power",2,1,false,jQ⟩]
def jA:MF:=fnM 3 (dB WI JY)
def ZC:Bx :=
  (.bSeq (.sIf (.tOr (.tNot (.tE (.is .tuple (.var 0)))) (.tE (.cmp .ne (.cB .len (.cons (.var 0) .nil)) (.c (.int 5))))) (.bOne (.sRet (.c (.bl false)))) .bNil)
  (.bSeq (.sTup [1,2,3,4,5] (.var 0))
  (.bSeq (.sIf (.tNot (.tE (.call 1 (.ev (.var 1) .nil)))) (.bOne (.sRet (.c (.bl false)))) .bNil)
  (.bSeq (.sIf (.tNot (.tE (.cB .all (.cons (.comp 1 ["thrown"] ["die"] [1] (.iT (.t (.cons (.var 2) (.cons (.var 4) .nil)))) (.n 0) .tTr (.call 0 (.ev (.var 0) (.ev (.c (.int 0)) (.ev (.bin .sub (.cB .len (.cons (.var 1) .nil)) (.c (.int 1))) .nil))))) .nil)))) (.bOne (.sRet (.c (.bl false)))) .bNil)
  (.bOne (.sRet (.and (.cmp .ne (.var 2) (.var 4)) (.cB .all (.cons (.comp 1 ["wanted"] [] [] (.iT (.t (.cons (.var 3) (.cons (.var 5) .nil)))) (.n 0) .tTr (.call 0 (.ev (.var 0) (.ev (.c (.int 1)) (.ev (.gl (.int 6)) .nil))))) .nil)))))))))
def yp:List FI:=[⟨"is_whole_within",3,2,false,zW⟩,⟨"die_good",1,3,false,yz⟩]
def jm:MF:=fnM 6 (dB yp ZC)
def ZD:Bx :=
  (.bOne (.sIf (.tNot (.tE (.call 0 (.ev (.var 0) .nil)))) (.bOne (.sRaise "NoLine")) .bNil))
def vi:List FI:=[⟨"match_good",1,4,false,jm⟩]
def yK:MF:=fnM 1 (dB vi ZD)
def YY:Bx :=
  (.bSeq (.sDrop (.call 0 (.ev (.var 0) .nil)))
  (.bSeq (.sTup [1,2,3,4,5] (.var 0))
  (.bSeq (.sSet 6 (.comp 1 ["many"] ["sign"] [2] (.iR2 (.cons (.c (.int 1)) (.cons (.var 3) .nil))) (.n 0) .tTr (.t (.cons (.var 1) (.cons (.var 0) .nil)))))
  (.bSeq (.sSet 7 (.comp 1 ["many"] ["other"] [4] (.iR2 (.cons (.c (.int 1)) (.cons (.var 5) .nil))) (.n 0) .tTr (.t (.cons (.var 1) (.cons (.var 0) .nil)))))
  (.bOne (.sRet (.bin .add (.bin .add (.l (.cons (.gl (.t [.non,.int 0])) .nil)) (.var 6)) (.var 7))))))))
def jv:List FI:=[⟨"need_match",1,5,false,yK⟩]
def jR:MF:=fnM 8 (dB jv YY)
def JZ:Bx :=
  (.bSeq (.sTup [3,4,5,6,7] (.var 0))
  (.bSeq (.sIf (.tE (.cmp .nin (.var 2) (.t (.cons (.var 4) (.cons (.var 6) .nil))))) (.bOne (.sRet (.gl (.t [.non,.int 0])))) .bNil)
  (.bOne (.sRet (.ifx (.tE (.cmp .eq (.var 2) (.ix (.var 1) (.c (.int 0))))) (.t (.cons (.var 2) (.cons (.bin .add (.ix (.var 1) (.c (.int 1))) (.c (.int 1))) .nil))) (.t (.cons (.var 2) (.cons (.c (.int 1)) .nil))))))))
def wn:List FI:=[]
def jB:MF:=fnM 8 (dB wn JZ)
abbrev wH:Bx :=
  (.bOne (.sDaug 12 (.call 1 (.ev (.var 0) (.ev (.var 13) (.ev (.var 14) .nil)))) (.bin .mul (.var 15) (.dgO 10 (.var 13)))))
abbrev jS:Bx :=
  (.bOne (.sForI (.iE true (.cons (.var 2) .nil)) (.t [14,15])
  wH))
abbrev jT:Bx :=
  (.bSeq (.sSet 12 (.dcomp 1 ["stand"] [] [] (.iL (.var 7)) (.n 0) .tTr (.var 0) (.c (.int 0))))
  (.bSeq (.sDput 12 (.var 8) (.bin .mul (.dgO 10 (.var 8)) (.cB .sum (.cons (.var 2) .nil))))
  (.bSeq (.sDput 12 (.var 9) (.bin .mul (.dgO 10 (.var 9)) (.cB .sum (.cons (.var 2) .nil))))
  (.bSeq (.sForL (.var 7) (.n 13)
  jS)
  (.bOne (.sSet 10 (.mov 12)))))))
def Jx:Bx :=
  (.bSeq (.sDrop (.call 4 (.ev (.var 0) .nil)))
  (.bSeq (.sDrop (.call 3 (.ev (.var 1) (.ev (.c (.int 0)) (.ev (.gl (.int 30)) .nil)))))
  (.bSeq (.sTup [2,3,4,5,6] (.var 0))
  (.bSeq (.sSet 7 (.call 2 (.ev (.var 0) .nil)))
  (.bSeq (.sPar 8 9 (.cons (.t (.cons (.var 3) (.cons (.var 4) .nil))) (.cons (.t (.cons (.var 5) (.cons (.var 6) .nil))) .nil)))
  (.bSeq (.sSet 10 (.dcomp 1 ["stand"] [] [] (.iL (.bin .add (.var 7) (.l (.cons (.var 8) (.cons (.var 9) .nil))))) (.n 0) .tTr (.var 0) (.c (.int 0))))
  (.bSeq (.sDput 10 (.gl (.t [.non,.int 0])) (.c (.int 1)))
  (.bSeq (.sForR1 (.cons (.var 1) .nil) (.n 11)
  jT)
  (.bSeq (.sSet 16 (.cB .sum (.cons (.frd 10 (.comp 1 ["stand"] ["ends"] [10] (.iL (.var 7)) (.n 0) .tTr (.dgO 1 (.var 0)))) .nil)))
  (.bOne (.sRet (.cB .tuple (.cons (.comp 1 ["weight"] ["die","n"] [2,1] (.iT (.t (.cons (.dgO 10 (.var 8)) (.cons (.dgO 10 (.var 9)) (.cons (.var 16) .nil))))) (.n 0) .tTr (.call 0 (.ev (.var 1) (.ev (.var 2) (.ev (.var 0) .nil))))) .nil)))))))))))))
def zY:List FI:=[⟨"share_in_all",3,3,false,jA⟩,⟨"stand_behind",3,1,false,jB⟩,⟨"stands_list",1,6,false,jR⟩,⟨"need_number",3,3,false,yO⟩,⟨"need_match",1,5,false,yK⟩]
def y4:MF:=fnM 17 (dB zY Jx)
def jw:Bx :=
  (.bSeq (.sIf (.tE (.cmp .lt (.var 1) (.cB .len (.cons (.var 0) .nil)))) (.bOne (.sRet (.ix (.var 0) (.var 1)))) .bNil)
  (.bOne (.sRet (.c (.int 0)))))
def wo:List FI:=[]
def yX:MF:=fnM 2 (dB wo jw)
def Jy:Bx :=
  (.bSeq (.sSet 0 (.bin .mod (.bin .add (.var 0) (.c (.int 7919))) (.c (.int 2147483647))))
  (.bOne (.sRet (.bin .mod (.bin .add (.bin .add (.bin .mul (.var 0) (.var 0)) (.bin .mul (.c (.int 48271)) (.var 0))) (.c (.int 12345))) (.c (.int 2147483629))))))
def ZE:List FI:=[]
def wI:MF:=fnM 1 (dB ZE Jy)
def wJ:Bx :=
  (.bSeq (.sSet 1 (.cB .max (.cons (.var 0) (.cons (.bin .sub (.c (.int 0)) (.var 0)) .nil))))
  (.bOne (.sRet (.l (.cons (.var 1) (.cons (.cB .int (.cons (.cmp .ge (.var 1) (.bin .pow (.c (.int 10)) (.c (.int 18)))) .nil)) (.cons (.bin .mod (.var 1) (.c (.int 1000003))) .nil)))))))
def Ja:List FI:=[]
def yq:MF:=fnM 2 (dB Ja wJ)
def wK:Bx :=
  (.bSeq (.sIf (.tE (.cmp .eq (.ixO 0 (.c (.int 1))) (.c (.int 1)))) (.bSeq (.sSet 2 (.bin .mod (.ixO 0 (.c (.int 0))) (.var 1)))
  (.bSeq (.sIx 0 (.c (.int 0)) (.bin .fdiv (.ixO 0 (.c (.int 0))) (.var 1)))
  (.bOne (.sRet (.var 2))))) .bNil)
  (.bSeq (.sIx 0 (.c (.int 2)) (.call 0 (.ev (.bin .add (.call 0 (.ev (.ixO 0 (.c (.int 2))) .nil)) (.c (.int 7))) .nil)))
  (.bOne (.sRet (.bin .mod (.bin .fdiv (.ixO 0 (.c (.int 2))) (.c (.int 64))) (.var 1))))))
def wq:List FI:=[⟨"_law_next",1,1,false,wI⟩]
def zg:MF:=fnM 3 (dB wq wK)
def Jb:Bx :=
  (.bSeq (.sSet 1 (.l (.cons (.isC cl_ "NoDie" (.var 0)) (.cons (.isC cl_ "NoRow" (.var 0)) (.cons (.isC cl_ "NoNumber" (.var 0)) (.cons (.isC cl_ "NoLine" (.var 0)) .nil))))))
  (.bSeq (.sSet 1 (.bin .add (.var 1) (.l (.cons (.isC cl_ "NoMachine" (.var 0)) (.cons (.isC cl_ "NoPaper" (.var 0)) (.cons (.isC cl_ "NoText" (.var 0)) (.cons (.isC cl_ "TooGreat" (.var 0)) .nil)))))))
  (.bSeq (.sIf (.tOr (.tNot (.tE (.isV cl_ (.var 0)))) (.tE (.cmp .ne (.cnt (.var 1) (.c (.bl true))) (.c (.int 1))))) (.bOne (.sRet (.c (.str "other")))) .bNil)
  (.bOne (.sRet (.ix (.l (.cons (.c (.str "die")) (.cons (.c (.str "row")) (.cons (.c (.str "number")) (.cons (.c (.str "line")) (.cons (.c (.str "machine")) (.cons (.c (.str "paper")) (.cons (.c (.str "text")) (.cons (.c (.str "great")) .nil))))))))) (.idx (.var 1) (.c (.bl true)))))))))
def WJ:List FI:=[]
def jC:MF:=fnM 2 (dB WJ Jb)
abbrev Jd:Bx :=
  (.bOne (.sPar 2 3 (.cons (.var 3) (.cons (.bin .mod (.var 2) (.var 3)) .nil))))
def ZF:Bx :=
  (.bSeq (.sPar 2 3 (.cons (.cB .abs (.cons (.var 0) .nil)) (.cons (.cB .abs (.cons (.var 1) .nil)) .nil)))
  (.bSeq (.sWhile (.tE (.cmp .ne (.var 3) (.c (.int 0))))
  Jd)
  (.bSeq (.sIf (.tE (.cmp .lt (.var 1) (.c (.int 0)))) (.bOne (.sSet 2 (.bin .sub (.c (.int 0)) (.var 2)))) .bNil)
  (.bOne (.sRet (.t (.cons (.bin .fdiv (.var 0) (.var 2)) (.cons (.bin .fdiv (.var 1) (.var 2)) .nil))))))))
def wL:List FI:=[]
def zi:MF:=fnM 4 (dB wL ZF)
def W6:Bx :=
  (.bOne (.sRet (.call 0 (.ev (.bin .add (.bin .mul (.ix (.var 0) (.c (.int 0))) (.ix (.var 1) (.c (.int 1)))) (.bin .mul (.ix (.var 1) (.c (.int 0))) (.ix (.var 0) (.c (.int 1))))) (.ev (.bin .mul (.ix (.var 0) (.c (.int 1))) (.ix (.var 1) (.c (.int 1)))) .nil)))))
def QE:List FI:=[⟨"_law_share",2,1,false,zi⟩]
def y6:MF:=fnM 2 (dB QE W6)
def ZG:Bx :=
  (.bOne (.sRet (.call 0 (.ev (.bin .mul (.ix (.var 0) (.c (.int 0))) (.ix (.var 1) (.c (.int 0)))) (.ev (.bin .mul (.ix (.var 0) (.c (.int 1))) (.ix (.var 1) (.c (.int 1)))) .nil)))))
def vj:List FI:=[⟨"_law_share",2,1,false,zi⟩]
def jn:MF:=fnM 2 (dB vj ZG)
def YZ:Bx :=
  (.bSeq (.sSet 1 (.ix (.l (.cons (.c (.int 1)) (.cons (.c (.int 3)) (.cons (.c (.int 9)) .nil)))) (.call 0 (.lend 0 (.ev (.c (.int 3)) .nil)))))
  (.bOne (.sRet (.cB .tuple (.cons (.comp 1 ["_law_sign"] ["_law_pen","_law_top"] [0,1] (.iR1 (.cons (.bin .add (.c (.int 2)) (.call 0 (.lend 0 (.ev (.c (.int 2)) .nil)))) .nil)) (.n 0) .tTr (.bin .add (.c (.int 1)) (.call 0 (.lend 1 (.ev (.var 2) .nil))))) .nil)))))
def jD:List FI:=[⟨"_law_draw",2,2,false,zg⟩]
def jU:MF:=fnM 2 (dB jD YZ)
def wu:Bx :=
  (.bSeq (.sSet 1 (.call 1 (.lend 0 .nil)))
  (.bSeq (.sSet 2 (.call 0 (.lend 0 (.ev (.cB .len (.cons (.var 1) .nil)) .nil))))
  (.bSeq (.sSet 3 (.bin .mod (.bin .add (.bin .add (.var 2) (.c (.int 1))) (.call 0 (.lend 0 (.ev (.bin .sub (.cB .len (.cons (.var 1) .nil)) (.c (.int 1))) .nil)))) (.cB .len (.cons (.var 1) .nil))))
  (.bOne (.sRet (.t (.cons (.var 1) (.cons (.var 2) (.cons (.bin .add (.c (.int 1)) (.call 0 (.lend 0 (.ev (.c (.int 6)) .nil)))) (.cons (.var 3) (.cons (.bin .add (.c (.int 1)) (.call 0 (.lend 0 (.ev (.c (.int 6)) .nil)))) .nil)))))))))))
def wV:List FI:=[⟨"_law_draw",2,2,false,zg⟩,⟨"_law_die_by",1,3,false,jU⟩]
def yr:MF:=fnM 4 (dB wV wu)
abbrev wv:Bx :=
  (.bOne (.sIf (.tE (.cmp .eq (.var 2) (.var 4))) (.bOne (.sRet (.ifx (.tE (.cmp .eq (.var 3) (.var 5))) (.var 6) (.t (.cons (.var 2) (.cons (.var 3) .nil)))))) .bNil))
def Yb:Bx :=
  (.bSeq (.sSet 3 (.ifx (.tE (.cmp .eq (.ix (.var 1) (.c (.int 0))) (.var 2))) (.bin .add (.ix (.var 1) (.c (.int 1))) (.c (.int 1))) (.c (.int 1))))
  (.bSeq (.sForL (.l (.cons (.t (.cons (.ix (.var 0) (.c (.int 1))) (.cons (.ix (.var 0) (.c (.int 2))) (.cons (.c (.int 1)) .nil)))) (.cons (.t (.cons (.ix (.var 0) (.c (.int 3))) (.cons (.ix (.var 0) (.c (.int 4))) (.cons (.c (.int 0)) .nil)))) .nil))) (.t [4,5,6])
  wv)
  (.bOne (.sRet (.t (.cons (.c .non) (.cons (.c (.int 0)) .nil)))))))
def jE:List FI:=[]
def yP:MF:=fnM 7 (dB jE Yb)
abbrev wM:Bx :=
  (.bOne (.sSet 4 (.bin .add (.var 4) (.comp 1 ["_law_sign"] ["_law_row"] [5] (.iR1 (.cons (.var 0) .nil)) (.n 0) .tTr (.bin .add (.var 1) (.t (.cons (.var 0) .nil)))))))
abbrev Yc:Bx :=
  (.bSeq (.sSet 4 (.l .nil))
  (.bSeq (.sForL (.var 2) (.n 5)
  wM)
  (.bOne (.sSet 2 (.var 4)))))
def WK:Bx :=
  (.bSeq (.sSet 2 (.l (.cons (.t .nil) .nil)))
  (.bSeq (.sForR1 (.cons (.var 1) .nil) (.n 3)
  Yc)
  (.bOne (.sRet (.var 2)))))
def yL:List FI:=[]
def wN:MF:=fnM 6 (dB yL WK)
abbrev ww:Bx :=
  (.bOne (.sSet 2 (.bin .mul (.var 2) (.ix (.var 0) (.var 3)))))
def Yd:Bx :=
  (.bSeq (.sSet 2 (.c (.int 1)))
  (.bSeq (.sForT (.var 1) (.n 3)
  ww)
  (.bOne (.sRet (.var 2)))))
def Je:List FI:=[]
def yQ:MF:=fnM 4 (dB Je Yd)
abbrev jF:Bx :=
  (.bSeq (.sSet 2 (.call 0 (.ev (.var 0) (.ev (.var 2) (.ev (.var 3) .nil)))))
  (.bOne (.sIf (.tE (.is .int (.var 2))) (.bOne (.sRet (.var 2))) .bNil)))
def ZH:Bx :=
  (.bSeq (.sSet 2 (.t (.cons (.c .non) (.cons (.c (.int 0)) .nil))))
  (.bSeq (.sForT (.var 1) (.n 3)
  jF)
  (.bOne (.sRet (.c (.int 2))))))
def yR:List FI:=[⟨"_law_behind",3,1,false,yP⟩]
def yf:MF:=fnM 4 (dB yR ZH)
abbrev wx:Bx :=
  (.bOne (.sSet 10 (.call 0 (.ev (.var 10) (.ev (.dgO 2 (.var 6)) .nil)))))
abbrev wy:Bx :=
  (.bSeq (.sSet 8 (.call 3 (.ev (.var 0) (.ev (.var 6) (.ev (.var 7) .nil)))))
  (.bSeq (.sSet 9 (.call 1 (.ev (.dgO 2 (.var 6)) (.ev (.call 2 (.ev (.ix (.ix (.var 0) (.c (.int 0))) (.var 7)) (.ev (.cB .sum (.cons (.ix (.var 0) (.c (.int 0))) .nil)) .nil))) .nil))))
  (.bOne (.sIf (.tE (.is .int (.var 8))) (.bOne (.sIx 3 (.var 8) (.call 0 (.ev (.ixO 3 (.var 8)) (.ev (.var 9) .nil))))) (.bOne (.sDput 5 (.var 8) (.call 0 (.ev (.dget 5 (.var 8) (.t (.cons (.c (.int 0)) (.cons (.c (.int 1)) .nil)))) (.ev (.var 9) .nil)))))))))
abbrev jo:Bx :=
  (.bOne (.sForR1 (.cons (.cB .len (.cons (.ix (.var 0) (.c (.int 0))) .nil)) .nil) (.n 7)
  wy))
abbrev jp:Bx :=
  (.bSeq (.sSet 5 .dnew)
  (.bSeq (.sForL (.frd 2 (.cB .lisK (.cons (.var 2) .nil))) (.n 6)
  jo)
  (.bOne (.sSet 2 (.mov 5)))))
def W7:Bx :=
  (.bSeq (.sSet 2 (.disp (.t (.cons (.c .non) (.cons (.c (.int 0)) .nil))) (.t (.cons (.c (.int 1)) (.cons (.c (.int 1)) .nil)))))
  (.bSeq (.sSet 3 (.l (.cons (.t (.cons (.c (.int 0)) (.cons (.c (.int 1)) .nil))) (.cons (.t (.cons (.c (.int 0)) (.cons (.c (.int 1)) .nil))) .nil))))
  (.bSeq (.sForR1 (.cons (.var 1) .nil) (.n 4)
  jp)
  (.bSeq (.sSet 10 (.t (.cons (.c (.int 0)) (.cons (.c (.int 1)) .nil))))
  (.bSeq (.sForL (.frd 2 (.cB .lisK (.cons (.var 2) .nil))) (.n 6)
  wx)
  (.bOne (.sRet (.t (.cons (.ixO 3 (.c (.int 1))) (.cons (.ixO 3 (.c (.int 0))) (.cons (.var 10) .nil)))))))))))
def zp:List FI:=[⟨"_law_add",2,2,false,y6⟩,⟨"_law_times",2,2,false,jn⟩,⟨"_law_share",2,1,false,zi⟩,⟨"_law_behind",3,1,false,yP⟩]
def JI:MF:=fnM 11 (dB zp W7)
abbrev wO:Bx :=
  (.bOne (.sAugIx 2 (.call 1 (.ev (.var 0) (.ev (.var 3) .nil))) (.call 2 (.ev (.ix (.var 0) (.c (.int 0))) (.ev (.var 3) .nil)))))
def WL:Bx :=
  (.bSeq (.sSet 2 (.l (.cons (.c (.int 0)) (.cons (.c (.int 0)) (.cons (.c (.int 0)) .nil)))))
  (.bSeq (.sForL (.call 3 (.ev (.cB .len (.cons (.ix (.var 0) (.c (.int 0))) .nil)) (.ev (.var 1) .nil))) (.n 3)
  wO)
  (.bOne (.sRet (.cB .tuple (.cons (.frd 2 (.comp 1 ["_law_way"] ["_law_counts"] [2] (.iT (.t (.cons (.c (.int 1)) (.cons (.c (.int 0)) (.cons (.c (.int 2)) .nil))))) (.n 0) .tTr (.call 0 (.ev (.ixO 1 (.var 0)) (.ev (.cB .sum (.cons (.var 1) .nil)) .nil))))) .nil))))))
def jq:List FI:=[⟨"_law_share",2,1,false,zi⟩,⟨"_law_first",2,2,false,yf⟩,⟨"_law_weight",2,1,false,yQ⟩,⟨"_law_rows",2,1,false,wN⟩]
def wP:MF:=fnM 4 (dB jq WL)
def WM:Bx :=
  (.bOne (.sTry cl_ (.bOne (.sRet (.call 0 (.ev (.var 0) (.ev (.var 1) .nil))))) 2
  (.bOne (.sRet (.call 1 (.ev (.var 2) .nil))))))
def GL:List FI:=[⟨"shares_by",2,7,false,y4⟩,⟨"_law_kind_of",1,1,true,jC⟩]
def yb:MF:=fnM 3 (dB GL WM)
abbrev QF:Bx :=
  (.bOne (.sIf (.tE (.cmp .ne (.call 0 (.ev (.var 3) (.ev (.var 6) .nil))) (.c (.str "number")))) (.bOne (.sRet (.c (.bl false)))) .bNil))
abbrev QG:Bx :=
  (.bOne (.sIf (.tE (.cmp .ne (.cB .repr (.cons (.call 0 (.ev (.var 3) (.ev (.var 4) .nil))) .nil)) (.cB .repr (.cons (.call 3 (.ev (.var 3) (.ev (.var 4) .nil))) .nil)))) (.bOne (.sRet (.c (.bl false)))) .bNil))
abbrev QH:Bx :=
  (.bSeq (.sSet 2 (.call 5 (.ev (.var 1) .nil)))
  (.bSeq (.sSet 3 (.call 4 (.lend 2 .nil)))
  (.bSeq (.sForL (.l (.cons (.call 2 (.lend 2 (.ev (.c (.int 31)) .nil))) (.cons (.c (.int 30)) (.cons (.c (.int 0)) .nil)))) (.n 4)
  QG)
  (.bSeq (.sSet 5 (.bin .add (.bin .add (.bin .add (.sl (.var 3) .oN (.oS (.c (.int 2)))) (.t (.cons (.bin .add (.c (.int 1)) (.bin .mod (.ix (.var 3) (.c (.int 2))) (.c (.int 3)))) .nil))) (.sl (.var 3) (.oS (.c (.int 3))) (.oS (.c (.int 4))))) (.t (.cons (.bin .add (.c (.int 1)) (.bin .mod (.ix (.var 3) (.c (.int 4))) (.c (.int 3)))) .nil))))
  (.bSeq (.sSet 4 (.call 2 (.lend 2 (.ev (.c (.int 7)) .nil))))
  (.bSeq (.sIf (.tE (.cmp .ne (.cB .repr (.cons (.call 0 (.ev (.var 5) (.ev (.var 4) .nil))) .nil)) (.cB .repr (.cons (.call 1 (.ev (.var 5) (.ev (.var 4) .nil))) .nil)))) (.bOne (.sRet (.c (.bl false)))) .bNil)
  (.bOne (.sForL (.l (.cons (.c (.int 31)) (.cons (.neg (.c (.int 1))) (.cons (.c (.bl true)) (.cons (.c .non) (.cons (.c (.str "3")) (.cons (.t (.cons (.c (.int 3)) .nil)) (.cons (.bin .pow (.c (.int 10)) (.c (.int 30))) .nil)))))))) (.n 6)
  QF))))))))
def t_law:Bx :=
  (.bSeq (.sForL (.bin .add (.l (.cons (.call 6 (.ev (.var 0) (.ev (.c (.int 0)) .nil))) .nil)) (.sl (.var 0) (.oS (.c (.int 1))) (.oS (.c (.int 3))))) (.n 1)
  QH)
  (.bOne (.sRet (.c (.bl true)))))
def j6:List FI:=[⟨"_law_told",2,8,false,yb⟩,⟨"_law_gone",2,3,false,wP⟩,⟨"_law_draw",2,2,false,zg⟩,⟨"_law_due",2,3,false,JI⟩,⟨"_law_match_by",1,4,false,yr⟩,⟨"_law_pen_of",1,1,false,yq⟩,⟨"_law_cell_at",2,1,false,yX⟩]
def m_law:MF:=fnM 7 (dB j6 t_law)
structure Txt(K:qH)(mg:Str->Option Value):Prop where
 n_ValueError:mg "ValueError"=none
 n_abs:mg "abs"=none
 n_all:mg "all"=none
 n_bool:mg "bool"=none
 n_enumerate:mg "enumerate"=none
 n_int:mg "int"=none
 n_isinstance:mg "isinstance"=none
 n_len:mg "len"=none
 n_list:mg "list"=none
 n_max:mg "max"=none
 n_range:mg "range"=none
 n_repr:mg "repr"=none
 n_sum:mg "sum"=none
 n_tuple:mg "tuple"=none
 c_LEAST_SIGNS:∃t,mg "LEAST_SIGNS"=some (.int 2 t)
 c_LEAST_WEIGHT:∃t,mg "LEAST_WEIGHT"=some (.int 1 t)
 c_MOST_MATCHED:∃t,mg "MOST_MATCHED"=some (.int 6 t)
 c_MOST_PLAYED:∃t,mg "MOST_PLAYED"=some (.int 30 t)
 c_MOST_SIGNS:∃t,mg "MOST_SIGNS"=some (.int 3 t)
 c_MOST_WEIGHT:∃t,mg "MOST_WEIGHT"=some (.int 9 t)
 c_NO_STAND:∃a,mg "NO_STAND"=some (.ref a)/\∀H,Rep K mg H (.t [.non,.int 0]) (.ref a)
 f_is_whole:JD K mg "is_whole" Wn ["thing"]
 f_is_whole_within:JD K mg "is_whole_within" jz ["thing","low","high"]
 f_greatest_divisor:JD K mg "greatest_divisor" ji ["one","other"]
 f_whole_power:JD K mg "whole_power" YD ["base","exponent"]
 f_share_of:JD K mg "share_of" Wo ["top","bottom"]
 f_die_good:JD K mg "die_good" Wp ["thing"]
 f_need_number:JD K mg "need_number" YE ["thing","low","high"]
 f_share_in_all:JD K mg "share_in_all" JO ["die","n","weight"]
 f_match_good:JD K mg "match_good" Y2 ["thing"]
 f_need_match:JD K mg "need_match" Y3 ["thing"]
 f_stands_list:JD K mg "stands_list" YF ["match"]
 f_stand_behind:JD K mg "stand_behind" JP ["match","stand","thrown"]
 f_shares_by:JD K mg "shares_by" Za ["match","n"]
 f__law_cell_at:JD K mg "_law_cell_at" JQ ["_law_script","_law_k"]
 f__law_next:JD K mg "_law_next" Zb ["_law_seed"]
 f__law_pen_of:JD K mg "_law_pen_of" YG ["_law_cell"]
 f__law_draw:JD K mg "_law_draw" Zc ["_law_pen","_law_many"]
 f__law_kind_of:JD K mg "_law_kind_of" JR ["_law_e"]
 f__law_share:JD K mg "_law_share" Y4 ["_law_top","_law_bottom"]
 f__law_add:JD K mg "_law_add" Wq ["_law_one","_law_other"]
 f__law_times:JD K mg "_law_times" Y5 ["_law_one","_law_other"]
 f__law_die_by:JD K mg "_law_die_by" YH ["_law_pen"]
 f__law_match_by:JD K mg "_law_match_by" wY ["_law_pen"]
 f__law_behind:JD K mg "_law_behind" YI ["_law_match","_law_stand","_law_sign"]
 f__law_rows:JD K mg "_law_rows" Zd ["_law_signs","_law_n"]
 f__law_weight:JD K mg "_law_weight" YJ ["_law_die","_law_row"]
 f__law_first:JD K mg "_law_first" Y6 ["_law_match","_law_row"]
 f__law_due:JD K mg "_law_due" Wr ["_law_match","_law_n"]
 f__law_gone:JD K mg "_law_gone" Ze ["_law_match","_law_n"]
 f__law_told:JD K mg "_law_told" Zf ["_law_match","_law_n"]
 f_law:JD K mg "law" s_law ["_law_script"]
 cl:ClOk K mg cl_ rs_
section
variable{P:Program}{w:World}{K:qH}{mg:Str->Option Value}{base:Heap}
def yc(T:Txt K mg):zCU K mg cs_:=(Yy T.c_LEAST_SIGNS (Yy T.c_LEAST_WEIGHT (Yy T.c_MOST_MATCHED (Yy T.c_MOST_PLAYED (Yy T.c_MOST_SIGNS (Yy T.c_MOST_WEIGHT (cs_tup T.c_NO_STAND cs_nil)))))))
def yd(T:Txt K mg):zCT P w K mg base ri_:=ris_nil
def ye(T:Txt K mg):BsOk mg bs_:=(yl T.n_ValueError (yl T.n_abs (yl T.n_all (yl T.n_bool (yl T.n_enumerate (yl T.n_int (yl T.n_isinstance (yl T.n_len (yl T.n_list (yl T.n_max (yl T.n_range (yl T.n_repr (yl T.n_sum (yl T.n_tuple bs_nil))))))))))))))
def QI(T:Txt K mg):FOk P w K mg base true "is_whole" 1 ["thing"] Yz:=zd W3 ["thing"] T.f_is_whole (yc T) zy (ye T) T.cl (yd T) (by decide +kernel)
def yt(T:Txt K mg):FOk P w K mg base true "is_whole_within" 2 ["thing","low","high"] zW:=zd yN ["thing","low","high"] T.f_is_whole_within (yc T) (zP (QI T) rfl zy) (ye T) T.cl (yd T) (by decide +kernel)
def Jz(T:Txt K mg):FOk P w K mg base true "greatest_divisor" 1 ["one","other"] yo:=zd jl ["one","other"] T.f_greatest_divisor (yc T) zy (ye T) T.cl (yd T) (by decide +kernel)
def Wf(T:Txt K mg):FOk P w K mg base true "whole_power" 1 ["base","exponent"] jQ:=zd YW ["base","exponent","power","step"] T.f_whole_power (yc T) zy (ye T) T.cl (yd T) (by decide +kernel)
def QJ(T:Txt K mg):FOk P w K mg base true "share_of" 2 ["top","bottom"] JH:=zd W4 ["top","bottom","divisor"] T.f_share_of (yc T) (zP (Jz T) rfl zy) (ye T) T.cl (yd T) (by decide +kernel)
def QK(T:Txt K mg):FOk P w K mg base true "die_good" 3 ["thing"] yz:=zd W5 ["thing"] T.f_die_good (yc T) (zP (yt T) rfl zy) (ye T) T.cl (yd T) (by decide +kernel)
def Wg(T:Txt K mg):FOk P w K mg base true "need_number" 3 ["thing","low","high"] yO:=zd YX ["thing","low","high"] T.f_need_number (yc T) (zP (yt T) rfl zy) (ye T) T.cl (yd T) (by decide +kernel)
def WN(T:Txt K mg):FOk P w K mg base true "share_in_all" 3 ["die","n","weight"] jA:=zd JY ["die","n","weight"] T.f_share_in_all (yc T) (zP (QJ T) rfl (zP (Wf T) rfl zy)) (ye T) T.cl (yd T) (by decide +kernel)
def vk(T:Txt K mg):FOk P w K mg base true "match_good" 4 ["thing"] jm:=zd ZC ["thing","die","sign","k","other","length"] T.f_match_good (yc T) (zP (yt T) rfl (zP (QK T) rfl zy)) (ye T) T.cl (yd T) (by decide +kernel)
def Ye(T:Txt K mg):FOk P w K mg base true "need_match" 5 ["thing"] yK:=zd ZD ["thing"] T.f_need_match (yc T) (zP (vk T) rfl zy) (ye T) T.cl (yd T) (by decide +kernel)
def Wh(T:Txt K mg):FOk P w K mg base true "stands_list" 6 ["match"] jR:=zd YY ["match","die","sign","k","other","length","of_one","of_other"] T.f_stands_list (yc T) (zP (Ye T) rfl zy) (ye T) T.cl (yd T) (by decide +kernel)
def WO(T:Txt K mg):FOk P w K mg base true "stand_behind" 1 ["match","stand","thrown"] jB:=zd JZ ["match","stand","thrown","die","sign","k","other","length"] T.f_stand_behind (yc T) zy (ye T) T.cl (yd T) (by decide +kernel)
def GM(T:Txt K mg):FOk P w K mg base true "shares_by" 7 ["match","n"] y4:=zd Jx ["match","n","die","sign","k","other","length","stands","one_there","other_there","ends","throw","grown","stand","thrown","weight","none"] T.f_shares_by (yc T) (zP (WN T) rfl (zP (WO T) rfl (zP (Wh T) rfl (zP (Wg T) rfl (zP (Ye T) rfl zy))))) (ye T) T.cl (yd T) (by decide +kernel)
def WP(T:Txt K mg):FOk P w K mg base true "_law_cell_at" 1 ["_law_script","_law_k"] yX:=zd jw ["_law_script","_law_k"] T.f__law_cell_at (yc T) zy (ye T) T.cl (yd T) (by decide +kernel)
def GN(T:Txt K mg):FOk P w K mg base true "_law_next" 1 ["_law_seed"] wI:=zd Jy ["_law_seed"] T.f__law_next (yc T) zy (ye T) T.cl (yd T) (by decide +kernel)
def Wi(T:Txt K mg):FOk P w K mg base true "_law_pen_of" 1 ["_law_cell"] yq:=zd wJ ["_law_cell","_law_left"] T.f__law_pen_of (yc T) zy (ye T) T.cl (yd T) (by decide +kernel)
def wz(T:Txt K mg):FOk P w K mg base true "_law_draw" 2 ["_law_pen","_law_many"] zg:=zd wK ["_law_pen","_law_many","_law_found"] T.f__law_draw (yc T) (zP (GN T) rfl zy) (ye T) T.cl (yd T) (by decide +kernel)
def WQ(T:Txt K mg):FOk P w K mg base false "_law_kind_of" 1 ["_law_e"] jC:=zd Jb ["_law_e","_law_marks"] T.f__law_kind_of (yc T) zy (ye T) T.cl (yd T) (by decide +kernel)
def jV(T:Txt K mg):FOk P w K mg base true "_law_share" 1 ["_law_top","_law_bottom"] zi:=zd ZF ["_law_top","_law_bottom","_law_one","_law_other"] T.f__law_share (yc T) zy (ye T) T.cl (yd T) (by decide +kernel)
def QL(T:Txt K mg):FOk P w K mg base true "_law_add" 2 ["_law_one","_law_other"] y6:=zd W6 ["_law_one","_law_other"] T.f__law_add (yc T) (zP (jV T) rfl zy) (ye T) T.cl (yd T) (by decide +kernel)
def vm(T:Txt K mg):FOk P w K mg base true "_law_times" 2 ["_law_one","_law_other"] jn:=zd ZG ["_law_one","_law_other"] T.f__law_times (yc T) (zP (jV T) rfl zy) (ye T) T.cl (yd T) (by decide +kernel)
def Wj(T:Txt K mg):FOk P w K mg base true "_law_die_by" 3 ["_law_pen"] jU:=zd YZ ["_law_pen","_law_top"] T.f__law_die_by (yc T) (zP (wz T) rfl zy) (ye T) T.cl (yd T) (by decide +kernel)
def ZP(T:Txt K mg):FOk P w K mg base true "_law_match_by" 4 ["_law_pen"] yr:=zd wu ["_law_pen","_law_die","_law_sign","_law_other"] T.f__law_match_by (yc T) (zP (wz T) rfl (zP (Wj T) rfl zy)) (ye T) T.cl (yd T) (by decide +kernel)
def Jf(T:Txt K mg):FOk P w K mg base true "_law_behind" 1 ["_law_match","_law_stand","_law_sign"] yP:=zd Yb ["_law_match","_law_stand","_law_sign","_law_length","_law_own","_law_most","_law_value"] T.f__law_behind (yc T) zy (ye T) T.cl (yd T) (by decide +kernel)
def GO(T:Txt K mg):FOk P w K mg base true "_law_rows" 1 ["_law_signs","_law_n"] wN:=zd WK ["_law_signs","_law_n","_law_found","_law_turn","_law_longer","_law_row"] T.f__law_rows (yc T) zy (ye T) T.cl (yd T) (by decide +kernel)
def Wk(T:Txt K mg):FOk P w K mg base true "_law_weight" 1 ["_law_die","_law_row"] yQ:=zd Yd ["_law_die","_law_row","_law_found","_law_sign"] T.f__law_weight (yc T) zy (ye T) T.cl (yd T) (by decide +kernel)
def vn(T:Txt K mg):FOk P w K mg base true "_law_first" 2 ["_law_match","_law_row"] yf:=zd ZH ["_law_match","_law_row","_law_stand","_law_sign"] T.f__law_first (yc T) (zP (Jf T) rfl zy) (ye T) T.cl (yd T) (by decide +kernel)
def QM(T:Txt K mg):FOk P w K mg base true "_law_due" 3 ["_law_match","_law_n"] JI:=zd W7 ["_law_match","_law_n","_law_kept","_law_found","_law_turn","_law_later","_law_stand","_law_sign","_law_there","_law_part","_law_rest"] T.f__law_due (yc T) (zP (QL T) rfl (zP (vm T) rfl (zP (jV T) rfl (zP (Jf T) rfl zy)))) (ye T) T.cl (yd T) (by decide +kernel)
def GP(T:Txt K mg):FOk P w K mg base true "_law_gone" 3 ["_law_match","_law_n"] wP:=zd WL ["_law_match","_law_n","_law_counts","_law_row"] T.f__law_gone (yc T) (zP (jV T) rfl (zP (vn T) rfl (zP (Wk T) rfl (zP (GO T) rfl zy)))) (ye T) T.cl (yd T) (by decide +kernel)
def GQ(T:Txt K mg):FOk P w K mg base true "_law_told" 8 ["_law_match","_law_n"] yb:=zd WM ["_law_match","_law_n","_law_e"] T.f__law_told (yc T) (zP (GM T) rfl (zP (WQ T) rfl zy)) (ye T) T.cl (yd T) (by decide +kernel)
end
def law_fd{P:Program}{w:World}{K:qH}{mg:Str->Option Value}{fa:Addr}(hfa:mg "law"=some (.ref fa))(T:Txt K mg):∃fd:FuncData,(∀(s:Shared) (u:Value),BindsTo s fd ⟨[u],[]⟩ [("_law_script",u)])/\∀base:Heap,FnOk P w K mg base (CXx P w) 40 fa fd ["_law_script"] (spM K mg 1 m_law):=by
 obtain⟨a,fd,hm,F,bnd⟩:=T.f_law;have e:=hfa.symm.trans hm;cases e;refine⟨fd,?_,λbase=>(def_atB (P:=P) (w:=w) (base:=base) (fs:=j6) (lv:=8) t_law ["_law_script","_law_cell","_law_pen","_law_match","_law_n","_law_short","_law_bad"] F (yc T) (zP (GQ T) rfl (zP (GP T) rfl (zP (wz T) rfl (zP (QM T) rfl (zP (ZP T) rfl (zP (Wi T) rfl (zP (WP T) rfl zy))))))) (ye T) T.cl (yd T) (by decide +kernel)).mono (by decide)⟩;obtain⟨oc,od,kV,doc,pm,an,cdv,ct,osl,rfl,lk,hcd⟩:=F.ex;exact λs u=>.of_eq rfl
end My
namespace DV
open PySem L2
section
variable{fs:List FI}{E E1 E2 E3:zN}
def x_c{d:D}:dE fs (.c d) E=.ok (.v d,E):=by simp only[rE_c,eC]
def zAf{d:D}:dE fs (.gl d) E=.ok (.v d,E):=by simp only[rE_gl,eC]
def zA{i:Nat}{d:D}(h:E[i]?=some (.v d)):dE fs (.var i) E=.ok (.v d,E):=by simp only[JU,zAU,h]
def W8{i:Nat}{ds:List D}(h:E[i]?=some (.own ds))(h':E.set i (.v (.l ds))=E1):dE fs (.var i) E=.ok (.v (.l ds),E1):=by simp only[JU,WC,zAU,h,h']
def yB{o:Op2}{a b:_}{r1 r2 r:R}(h1:dE fs a E=.ok (r1,E1))(h2:dE fs b E1=.ok (r2,E2))(h3:o.f r1.d r2.d=some r):dE fs (.bin o a b) E=.ok (r,E2):=by simp only[W2,ZN,h1,h2,h3]
def jd{o:Cp}{a b:_}{r1 r2 r:R}(h1:dE fs a E=.ok (r1,E1))(h2:dE fs b E1=.ok (r2,E2))(h3:o.f r1.d r2.d=some r):dE fs (.cmp o a b) E=.ok (r,E2):=by simp only[GA,ZN,h1,h2,h3]
def J0{a b:_}{r1 r2 r:R}(h1:dE fs a E=.ok (r1,E1))(h2:dE fs b E1=.ok (r2,E2))(h3:ixD r1.d r2.d=some r):dE fs (.ix a b) E=.ok (r,E2):=by simp only[rE_ix,ZN,h1,h2,h3]
def Jg{b:Bi}{as:_}{rs:List R}{r:R}(h1:dA fs as E=.ok (rs,E1))(h2:b.f (rs.map R.d)=some r):dE fs (.cB b as) E=.ok (r,E1):=by simp only[zEK,eCB,h1,h2]
def yV{as:_}{rs:List R}{ds:List D}(h1:dA fs as E=.ok (rs,E1))(h2:rs.map R.d=ds)(h3:ds.length<=cap):dE fs (.t as) E=.ok (.v (.t ds),E1):=by
 subst h2;simp only[rE_tup,zBZ,eCB,h1];rw[if_pos h3]
def WR{as:_}{rs:List R}{ds:List D}(h1:dA fs as E=.ok (rs,E1))(h2:rs.map R.d=ds)(h3:ds.length<=cap):dE fs (.l as) E=.ok (.own ds,E1):=by
 subst h2;simp only[WC,zBa,eCB,h1];rw[if_pos h3]
def x_sl{a l u:_}{r r':R}{lo hi:Option Int}{E3:zN}(h1:dE fs a E=.ok (r,E1))(h2:dO fs l E1=.ok (lo,E2))(h3:dO fs u E2=.ok (hi,E3))(h4:slD r.d lo hi=some r'):dE fs (.sl a l u) E=.ok (r',E3):=by simp only[rE_sl,eSl,h1,h2,h3,h4]
def je{k:Nat}{a:_}{F:MF}{r r':R}{o:Slot}(h0:fiF fs k=F)(h1:dE fs a E=.ok (r,E1))(h2:F [.v r.d]=.ok (r',[o])):dE fs (.call k (.ev a .nil)) E=.ok (r',E1):=by
 subst h0;simp only[yj,WE,jc,jh,zt,h1,zL,h2,zJ]
def zj{k:Nat}{a b:_}{F:MF}{r r2 r':R}{o o2:Slot}(h0:fiF fs k=F)(h1:dE fs a E=.ok (r,E1))(h1':dE fs b E1=.ok (r2,E2))(h2:F [.v r.d,.v r2.d]=.ok (r',[o,o2])):dE fs (.call k (.ev a (.ev b .nil))) E=.ok (r',E2):=by
 subst h0;simp only[yj,WE,jc,jh,zt,h1,h1',zL,h2,zJ]
def zCX{o o':Cp}{a b c:_}{i j k:Int}{E3:zN}{v:Bool}(h1:dE fs a E=.ok (.v (.int i),E1))(h2:dE fs b E1=.ok (.v (.int j),E2))(h3:o.b i j=true)(h4:dE fs c E2=.ok (.v (.int k),E3))(h5:o'.b j k=v):dE fs (.chain o o' a b c) E=.ok (.v (.bl v),E3):=by
 subst h5;simp only[ZX,jb,h1,h2,h4];rw[if_pos h3]
def zEW{o o':Cp}{a b c:_}{i j:Int}(h1:dE fs a E=.ok (.v (.int i),E1))(h2:dE fs b E1=.ok (.v (.int j),E2))(h3:o.b i j=false):dE fs (.chain o o' a b c) E=.ok (.v (.bl false),E2):=by
 simp only[ZX,jb,h1,h2];rw[if_neg (by rw[h3];decide)]
def zAD{k i:Nat}{a:_}{F:MF}{r r':R}{p p':List D}{o:Slot}(h0:fiF fs k=F)(hE:E[i]?=some (.own p))(h1:dE fs a E=.ok (r,E))(h2:F [.par p,.v r.d]=.ok (r',[.par p',o]))(h3:E.set i (.own p')=E1):dE fs (.call k (.lend i (.ev a .nil))) E=.ok (r',E1):=by
 subst h0 h3;have hi:i<E.length:=(qG.mp hE).1;have hs:(E.set i .e)[i]?=some .e:=by simp[hi]
 simp only[yj,WE,vb,jc,jh,zt,hE,yg,Bool.false_eq_true,if_false,h1,zL,Slot.list?,h2,zJ,hs,Slot.put,set_set]
def jx{k:Nat}{a b c:_}{F:MF}{r r2 r3 r':R}{o o2 o3:Slot}(h0:fiF fs k=F)(h1:dE fs a E=.ok (r,E1))(h1':dE fs b E1=.ok (r2,E2))(h1'':dE fs c E2=.ok (r3,E3))(h2:F [.v r.d,.v r2.d,.v r3.d]=.ok (r',[o,o2,o3])):dE fs (.call k (.ev a (.ev b (.ev c .nil)))) E=.ok (r',E3):=by
 subst h0;simp only[yj,WE,jc,jh,zt,h1,h1',h1'',zL,h2,zJ]
def yS{n:Nat}{body:MS}{ss o:List Slot}{r:R}(h:body (ss++replicate (n-ss.length) .e)=.ok (.ret r,E1))(ho:zm ss E1=o):fnM n body ss=.ok (r,o):=by
 subst ho;simp only[fnM,h]
def f_nx{n:Nat}{body:MS}{ss o:List Slot}(h:body (ss++replicate (n-ss.length) .e)=.ok (.nx,E1))(ho:zm ss E1=o):fnM n body ss=.ok (.v .non,o):=by
 subst ho;simp only[fnM,h]
def zM:dA fs .nil E=.ok ([],E):=by simp only[WD,zBY]
def zB{a as:_}{r:R}{rs:List R}(h1:dE fs a E=.ok (r,E1))(h2:dA fs as E1=.ok (rs,E2)):dA fs (.cons a as) E=.ok (r::rs,E2):=by simp only[G9,Yq,h1,h2]
def o_N:dO fs .oN E=.ok (none,E):=by simp only[rO_oN,zDh]
def o_S{a:_}{i:Int}(h:dE fs a E=.ok (.v (.int i),E1)):dO fs (.oS a) E=.ok (some i,E1):=by simp only[rO_oS,zBg,h]
def t_E{a:_}{b:Bool}(h:dE fs a E=.ok (.v (.bl b),E1)):dT fs (.tE a) E=.ok (b,E1):=by simp only[zEM,tT,h]
def t_or{a b:_}{c:Bool}(h1:dT fs a E=.ok (false,E1))(h2:dT fs b E1=.ok (c,E2)):dT fs (.tOr a b) E=.ok (c,E2):=by simp only[rT_tOr,zAW,h1,h2]
def J2{a:_}{b c:Bool}(h1:dT fs a E=.ok (b,E1))(h2:(!b)=c):dT fs (.tNot a) E=.ok (c,E1):=by subst h2;simp only[rT_tNot,Yp,h1]
def yH{i:Nat}{a:_}{r:R}(h1:dE fs a E=.ok (r,E1))(h2:ZO i r E1=.ok E2):dS fs (.sSet i a) E=.ok (.nx,E2):=by simp only[WF,sSet,h1,h2]
def wQ{t a b:_}{o:Out (Fl×zN)}(h1:dT fs t E=.ok (false,E1))(h2:dB fs b E1=o):dS fs (.sIf t a b) E=o:=by subst h2;simp only[GB,sIf,h1]
def ZQ{t a b:_}{o:Out (Fl×zN)}(h1:dT fs t E=.ok (true,E1))(h2:dB fs a E1=o):dS fs (.sIf t a b) E=o:=by subst h2;simp only[GB,sIf,h1]
def yT{a:_}{r:R}(h1:dE fs a E=.ok (r,E1)):dS fs (.sRet a) E=.ok (.ret r,E1):=by simp only[wG,sRet,h1]
def zAE{a:_}{r:R}(h1:dE fs a E=.ok (r,E1)):dS fs (.sDrop a) E=.ok (.nx,E1):=by simp only[Q6,sDrop,h1]
def s_tup{is:List Nat}{a:_}{r:R}(h1:dE fs a E=.ok (r,E1))(h2:gT is r.d E1=.ok E2):dS fs (.sTup is a) E=.ok (.nx,E2):=by simp only[rS_sTup,sTup,h1,h2]
def zCY{i j:Nat}{as:_}{r1 r2:R}(h1:dA fs as E=.ok ([r1,r2],E1))(h2:gNs [i,j] [r1.d,r2.d] E1=.ok E2):dS fs (.sPar i j as) E=.ok (.nx,E2):=by simp only[rS_sPar,sPar,h1,h2]
def w6{a b:_}{tg:Tg}{r:R}{ds:List D}{p:Fl×zN}(h1:dE fs a E=.ok (r,E1))(h2:r.d=.l ds)(h3:wX tg.m (dB fs b) ds E1=.ok p):dS fs (.sForL a tg b) E=.ok p:=by simp only[zEP];exact WB (by simp only[sForL,h1,h2,h3])
def zCZ{a b:_}{tg:Tg}{r:R}{ds:List D}{p:Fl×zN}(h1:dE fs a E=.ok (r,E1))(h2:r.d=.t ds)(h3:wX tg.m (dB fs b) ds E1=.ok p):dS fs (.sForT a tg b) E=.ok p:=by simp only[zER];exact WB (by simp only[sForT,h1,h2,h3])
def WS{a b:_}{tg:Tg}{r:R}{j:Int}{p:Fl×zN}(h1:dA fs a E=.ok ([r],E1))(h2:r.d=.int j)(hj:-1000000<=j/\j<=1000000)(h3:wX tg.m (dB fs b) (zG 0 j.toNat) E1=.ok p):dS fs (.sForR1 a tg b) E=.ok p:=by
 simp only[zCM];refine WB ?_;simp only[sForR1,h1,h2];rw[if_pos ⟨by omega,by omega⟩,h3]
def i_L{a:_}{r:R}{ds:List D}(h1:dE fs a E=.ok (r,E1))(h2:r.d=.l ds):dI fs (.iL a) E=.ok (ds,E1):=by simp only[rI_iL,iL,h1,h2]
def i_T{a:_}{r:R}{ds:List D}(h1:dE fs a E=.ok (r,E1))(h2:r.d=.t ds):dI fs (.iT a) E=.ok (ds,E1):=by simp only[rI_iT,iT,h1,h2]
def i_R1{a:_}{r:R}{j:Int}(h1:dA fs a E=.ok ([r],E1))(h2:r.d=.int j)(hj:-1000000<=j/\j<=1000000):dI fs (.iR1 a) E=.ok (zG 0 j.toNat,E1):=by
 simp only[rI_iR1,iR1,h1,h2];rw[if_pos ⟨by omega,by omega⟩]
def wW:dB fs .bNil E=.ok (.nx,E):=by simp only[vc,zBh]
def zX{s:_}{o:Out (Fl×zN)}(h:dS fs s E=o):dB fs (.bOne s) E=o:=by simp only[wf,h]
def zO{s b:_}{o:Out (Fl×zN)}(h:dS fs s E=.ok (.nx,E1))(h2:dB fs b E1=o):dB fs (.bSeq s b) E=o:=by simp only[wg,Gs,h,h2]
def vo{s b:_}{r:R}(h:dS fs s E=.ok (.ret r,E1)):dB fs (.bSeq s b) E=.ok (.ret r,E1):=by simp only[wg,Gs,h]
def b_exc{s b:_}{x:Exn}(h:dS fs s E=.exc x E1):dB fs (.bSeq s b) E=.exc x E1:=by simp only[wg,Gs,h]
def s_dropX{a:_}{x:Exn}(h:dE fs a E=.exc x E1):dS fs (.sDrop a) E=.exc x E1:=by simp only[Q6,sDrop,h]
def s_retX{a:_}{x:Exn}(h:dE fs a E=.exc x E1):dS fs (.sRet a) E=.exc x E1:=by simp only[wG,sRet,h]
def s_raise{c:Str}:dS fs (.sRaise c) E=.exc ⟨c,true,[]⟩ E:=by simp only[zCN,DV.sRaise]
def zEX{k:Nat}{a b:_}{F:MF}{r r2:R}{x:Exn}{o:List Slot}(h0:fiF fs k=F)(h1:dE fs a E=.ok (r,E1))(h1':dE fs b E1=.ok (r2,E2))(h2:F [.v r.d,.v r2.d]=.exc x o):dE fs (.call k (.ev a (.ev b .nil))) E=.exc ⟨x.cls,false,x.vs⟩ E2:=by
 subst h0;simp only[yj,WE,jc,jh,zt,h1,h1',zL,h2,Z4,if_true]
def zEY{k:Nat}{a b c:_}{F:MF}{r r2 r3:R}{x:Exn}{o:List Slot}(h0:fiF fs k=F)(h1:dE fs a E=.ok (r,E1))(h1':dE fs b E1=.ok (r2,E2))(h1'':dE fs c E2=.ok (r3,E3))(h2:F [.v r.d,.v r2.d,.v r3.d]=.exc x o):dE fs (.call k (.ev a (.ev b (.ev c .nil)))) E=.exc ⟨x.cls,false,x.vs⟩ E3:=by
 subst h0;simp only[yj,WE,jc,jh,zt,h1,h1',h1'',zL,h2,Z4,if_true]
def s_tryO{cl:List Str}{b hb:_}{i:Nat}{p:Fl×zN}(h:dB fs b E=.ok p):dS fs (.sTry cl b i hb) E=.ok p:=by simp only[zCO,DV.sTry,h]
def s_tryX{cl:List Str}{b hb:_}{i:Nat}{c:Str}{ws:List Int}{r:R}(h:dB fs b E=.exc ⟨c,false,ws⟩ E1)(hc:cl.contains c=true)(hp:ZO i (.v (.exn c ws)) E1=.ok E2)(hh:dB fs hb E2=.ok (.ret r,E3)):dS fs (.sTry cl b i hb) E=.ok (.ret r,E3):=by
 simp only[zCO,DV.sTry,h,hc,hp,hh,Bool.not_false,Bool.and_self,if_true]
def J3{d:D}:[d].length<=cap:=by simp only[List.length_singleton,cap];omega
def zCa:([]:List D).length<=cap:=by simp only[length_nil,cap];omega
def zk{d e:D}:[d,e].length<=cap:=by simp only[length_cons,length_nil,cap];omega
def x_comp{nl:Nat}{xs ys:List Str}{caps:List Nat}{it tt el:_}{tg:Tg}{ds rs:List D}{vs:List D}(pat:D->List DV.Slot)(f:D->Bool)(g:D->D)(hi:dI fs it E=.ok (ds,E1))(hcap:JL E1 caps=.ok (vs.map AR.tmp))
  (h1:∀d∈ds,∀S:List DV.Slot,S.length=nl->(∀s∈S,zn s=true)->tg.m d (S++vs.map Slot.v)=.ok (pat d++vs.map Slot.v))
  (h2:∀d∈ds,(pat d).length=nl/\∀s∈pat d,zn s=true)
  (h3:∀d∈ds,dT fs tt (pat d++vs.map Slot.v)=.ok (f d,pat d++vs.map Slot.v))
  (h4:∀d∈ds,f d=true->∃r,dE fs el (pat d++vs.map Slot.v)=.ok (r,pat d++vs.map Slot.v)/\r.d=g d) (hc:ds.length<=cap) (hr:(ds.filter f).map g=rs):dE fs (.comp nl xs ys caps it tg tt el) E=.ok (.own rs,E1):=by
 subst hr;simp only[zCJ];exact G8 <| zEU pat f g ds h1 h2 h3 h4 hc hi hcap
def wR{xs ys:List Str}{caps:List Nat}{it el:_}{ds rs:List D}{vs:List D}(g:D->D)(hi:dI fs it E=.ok (ds,E1))(hcap:JL E1 caps=.ok (vs.map AR.tmp))
  (h4:∀d∈ds,∃r,dE fs el (.v d::vs.map Slot.v)=.ok (r,.v d::vs.map Slot.v)/\r.d=g d) (hc:ds.length<=cap) (hr:ds.map g=rs):dE fs (.comp 1 xs ys caps it (.n 0) .tTr el) E=.ok (.own rs,E1):=by
 refine x_comp (λd=>[.v d]) (λ_=>true) g hi hcap (λd hd S hS hn=>gN_ok1 hS hn) (λd hd=>⟨rfl,λs hs=>?_⟩) (λd hd=>?_) (λd hd _=>h4 d hd) hc ?_
 ·rw[mem_singleton]at hs;subst hs;rfl
 ·simp only[zFb,zBo]
 ·rw[List.filter_eq_self.mpr (λ_ _=>rfl),hr]
end
end DV
namespace SM
open PySem L2 DV
def ends(w o k:Nat):Nat->List Nat
 |0=>1::replicate k 0|n+1=>(o*(ends w o k n).sum)::((ends w o k n).dropLast.map (w*·))
def U(w o k n:Nat):Nat:=(ends w o k n).sum
def F(w o k m:Nat):Nat->Nat
 |0=>0|r+1=>F w o k m r+w^r*o*U w o k (m-1-r)
def rsum(f:Nat->Nat)(n:Nat):((List.range (n+1)).map f).sum=((List.range n).map f).sum+f n:=by
 rw[range_succ,map_append,sum_append];simp
theorem zCb(w:Nat):∀l:List Nat,(l.map (w*·)).sum=w*l.sum
 | []=>by simp|a::l=>by simp[zCb w l,mul_add]
def zw(m:Nat):Nat->List (List Nat)
 |0=>[[]]|n+1=>(zw m n).flatMap λr=>(List.range m).map λx=>r++[x]
def wt(die:List Nat)(row:List Nat):Nat:=row.foldl (λa x=>a*die.getD x 0) 1
theorem vq(g:List Nat->Nat)(f:List Nat->List (List Nat)):∀l:List (List Nat),((l.flatMap f).map g).sum=(l.map λx=>((f x).map g).sum).sum
 | []=>rfl|a::l=>by simp[List.flatMap_cons,vq g f l]
theorem Yg(c:Nat)(f:List Nat->Nat):∀l:List (List Nat),(l.map λx=>f x*c).sum=(l.map f).sum*c
 | []=>by simp|a::l=>by simp[Yg c f l,Nat.add_mul]
def Die(die:List Nat):Prop:=(die.length=2\/die.length=3)/\∀x∈die,1<=x/\x<=9
def Yh{die:List Nat}(hd:Die die):((List.range die.length).map λx=>die.getD x 0).sum=die.sum:=by
 match die,hd with
 | [a,b],hd=>simp[range_succ]| [a,b,c],hd=>simp[range_succ]| [],hd=>simp[Die]at hd| [_],hd=>simp[Die]at hd|_::_::_::_::_,hd=>simp[Die]at hd
theorem zEZ{die:List Nat}(hd:Die die):∀n,((zw die.length n).map (wt die)).sum=die.sum^n
 |0=>by simp[zw,wt]
 |n+1=>by
  simp only[zw];rw[vq,pow_succ,<- zEZ hd n];rw[<- Yg];congr 1;refine map_congr_left λr _=>?_
  rw[map_map];have:(wt die ∘ λx=>r++[x])=λx=>wt die r*die.getD x 0:=by funext x;simp[wt]
  rw[this];have e:=zCb (wt die r) ((List.range die.length).map λx=>die.getD x 0);rw[map_map,Yh hd]at e;exact e
def red(t u B b:Nat)(hB:0<B)(hb:0<b)(h:t*b=u*B):t/t.gcd B=u/u.gcd b/\B/t.gcd B=b/u.gcd b:=by
 have g0:0<t.gcd B:=Nat.gcd_pos_of_pos_right _ hB;have h0:0<u.gcd b:=Nat.gcd_pos_of_pos_right _ hb;have c1:=Nat.coprime_div_gcd_div_gcd (m:=t) (n:=B) g0;have c2:=Nat.coprime_div_gcd_div_gcd (m:=u) (n:=b) h0;have t1:t=t.gcd B*(t/t.gcd B):=(Nat.mul_div_cancel' (Nat.gcd_dvd_left t B)).symm;have B1:B=t.gcd B*(B/t.gcd B):=(Nat.mul_div_cancel' (gcd_dvd_right t B)).symm;have u1:u=u.gcd b*(u/u.gcd b):=(Nat.mul_div_cancel' (Nat.gcd_dvd_left u b)).symm;have b1:b=u.gcd b*(b/u.gcd b):=(Nat.mul_div_cancel' (gcd_dvd_right u b)).symm;generalize t.gcd B=g at *;generalize u.gcd b=k at *;generalize t/g=x at *;generalize B/g=y at *;generalize u/k=z at *;generalize b/k=v at *;have e:x*v=z*y:=by
  have:(g*k)*(x*v)=(g*k)*(z*y):=by
   calc (g*k)*(x*v)=(g*x)*(k*v):=by grind
    _=t*b:=by rw[<- t1,<- b1]
    _=u*B:=h
    _=(k*z)*(g*y):=by rw[<- u1,<- B1]
    _=(g*k)*(z*y):=by grind
  exact Nat.eq_of_mul_eq_mul_left (mul_pos g0 h0) this
 have d1:y∣v:=c1.symm.dvd_of_dvd_mul_left ⟨z,by rw[e,mul_comm]⟩;have d2:v∣y:=c2.symm.dvd_of_dvd_mul_left ⟨x,by rw[<- e,mul_comm]⟩;have yv:y=v:=Nat.dvd_antisymm d1 d2;refine⟨?_,yv⟩;subst yv;have y0:0<y:=by
  rcases Nat.eq_zero_or_pos y with h'|h'
  ·rw[h',mul_zero]at B1;omega
  ·exact h'
 exact Nat.eq_of_mul_eq_mul_right y0 e
def GR(t:Int)(b:Nat):Int:=t/(t.natAbs.gcd b:Nat)
def W9(t:Int)(b:Nat):Nat:=b/t.natAbs.gcd b
def nrm(t:Int)(b:Nat):D:=.t [.int (GR t b),.int (W9 t b:Nat)]
def J4(n b:Nat):GR (n:Int) b=((n/n.gcd b:Nat):Int):=by
 simp[GR]
def zCc{T W:Int}{B b:Nat}(hB:0<B)(hb:0<b)(h:T*b=W*B):nrm T B=nrm W b:=by
 have hn:T.natAbs*b=W.natAbs*B:=by
  have:=congrArg Int.natAbs h;simpa[Int.natAbs_mul]using this
 obtain⟨r1,r2⟩:=red T.natAbs W.natAbs B b hB hb hn;have e2:W9 T B=W9 W b:=r2;have e1:GR T B=GR W b:=by
  by_cases c:0<=T
  ·have cw:0<=W:=by
    have h1:0<=T*b:=Int.mul_nonneg c (by omega);rw[h]at h1;exact Int.nonneg_of_mul_nonneg_left h1 (by omega)
   obtain⟨n,rfl⟩:=Int.eq_ofNat_of_zero_le c;obtain⟨m,rfl⟩:=Int.eq_ofNat_of_zero_le cw;rw[J4,J4];simp only[Int.natAbs_natCast]at r1;rw[r1]
  ·have cw:¬0<=W:=λq=>by
    have h1:0<=W*B:=Int.mul_nonneg q (by omega);rw[<- h]at h1;exact c (Int.nonneg_of_mul_nonneg_left h1 (by omega))
   obtain⟨n,hn'⟩:=Int.eq_ofNat_of_zero_le (a:=-T) (by omega);obtain⟨m,hm'⟩:=Int.eq_ofNat_of_zero_le (a:=-W) (by omega);have f1:T=-(n:Int):=by omega
   have f2:W=-(m:Int):=by omega
   subst f1;subst f2;simp only[Int.natAbs_neg,Int.natAbs_natCast]at r1;have f:∀n b:Nat,GR (-(n:Int)) b=-((n/n.gcd b:Nat):Int):=λn b=>by
    unfold GR;rw[Int.natAbs_neg,Int.natAbs_natCast,Int.neg_ediv_of_dvd (by exact_mod_cast Nat.gcd_dvd_left n b)];simp
   rw[f,f,r1]
 unfold nrm;rw[e1,e2]
theorem vt{c:MT}{bd:MS}(mk:Nat->Nat->zN)(hc:∀a b,c (mk a b)=.ok (decide (b≠0),mk a b))(hb:∀a b,b≠0->bd (mk a b)=.ok (.nx,mk b (a%b))) :
  ∀(k n a b:Nat),b<2^k->2*k+1<=n->whN c bd n (mk a b)=.ok (.nx,mk (a.gcd b) 0)
 |0,n,a,b,h,hn=>by
  have:b=0:=by omega
  subst this;obtain⟨m,rfl⟩:∃m,n=m+1:=⟨n-1,by omega⟩;simp only[whN,hc,ne_eq,not_true_eq_false,decide_false,Nat.gcd_zero_right]
 |k+1,n,a,b,h,hn=>by
  obtain⟨m,rfl⟩:∃m,n=m+2:=⟨n-2,by omega⟩;by_cases b0:b=0
  ·subst b0
   simp only[whN,hc,ne_eq,not_true_eq_false,decide_false,Nat.gcd_zero_right]
  ·by_cases r0:a%b=0
   ·simp only[whN,hc,hb a b b0,ne_eq,b0,not_false_eq_true,decide_true,r0,not_true_eq_false,decide_false]
    rw[gcd_comm,gcd_rec,r0,Nat.gcd_zero_left]
   ·have lt:a%b<b:=mod_lt _ (by omega)
    have lt2:b%(a%b)<a%b:=mod_lt _ (by omega);have half:b%(a%b)<2^k:=by
     have:2*(b%(a%b))<b:=by
      by_cases q:2*(a%b)<=b
      ·omega
      ·have:b%(a%b)=b-a%b:=by
        rw[Nat.mod_eq_sub_mod (by omega),Nat.mod_eq_of_lt (by omega)]
       omega
     rw[pow_succ]at h;omega
    have ih:=vt mk hc hb k m (a%b) (b%(a%b)) half (by omega);simp only[whN,hc,hb a b b0,hb b (a%b) r0,ne_eq,b0,r0,not_false_eq_true,decide_true];rw[ih];rw[gcd_comm a b,gcd_rec b a,gcd_comm (a%b) b,gcd_comm (a%b),<- gcd_rec,gcd_comm b]
def tot(es:List (List Nat)):Nat:=(es.map List.sum).sum
def al(ws:List Nat)(k:Nat):Nat->List (List Nat)
 |0=>ws.map λw=>w::replicate (k-1) 0|n+1=>List.zipWith (λw e=>(w*(tot (al ws k n)-e.sum))::e.dropLast.map (w*·)) ws (al ws k n)
def A(ws:List Nat)(n k:Nat):Nat:=if n=0 then 1 else if k=0 then 0 else tot (al ws k (n-1))
def zEa(t:Int)(b:Nat):GR t b*b=t*(W9 t b:Nat):=by
 unfold GR W9;have h1:((t.natAbs.gcd b:Nat):Int)∣t:=by
  have:=Nat.gcd_dvd_left t.natAbs b;exact Int.ofNat_dvd_left.mpr this
 have h2:t.natAbs.gcd b∣b:=gcd_dvd_right _ _;obtain⟨x,hx⟩:=h1;obtain⟨y,hy⟩:=h2;generalize hg:t.natAbs.gcd b=g at *;by_cases c:g=0
 ·subst c
  simp at hx hy
  subst hx;subst hy;simp
 ·have e1:t/(g:Int)=x:=by rw[hx];exact Int.mul_ediv_cancel_left _ (by omega)
  have e2:b/g=y:=by rw[hy];exact Nat.mul_div_cancel_left _ (by omega)
  rw[e1,e2,hx,hy,Int.natCast_mul]
  grind
def vw(t:Int){b:Nat}(h:0<b):0<W9 t b:=by
 unfold W9;exact Nat.div_pos (Nat.le_of_dvd h (gcd_dvd_right _ _)) (Nat.gcd_pos_of_pos_right _ h)
def add_nrm{t1 t2 T:Int}{b1 b2 B:Nat}(h1:0<b1)(h2:0<b2)(hB:0<B)(h:(t1*b2+t2*b1)*B=T*(b1*b2:Nat)) :
  nrm (GR t1 b1*(W9 t2 b2:Nat)+GR t2 b2*(W9 t1 b1:Nat)) (W9 t1 b1*W9 t2 b2)=nrm T B:=by
 have c1:=zEa t1 b1;have c2:=zEa t2 b2;have p1:=vw t1 h1;have p2:=vw t2 h2;generalize GR t1 b1=x1 at *;generalize W9 t1 b1=y1 at *;generalize GR t2 b2=x2 at *;generalize W9 t2 b2=y2 at *;refine zCc (mul_pos p1 p2) hB ?_;rw[Int.natCast_mul]at h ⊢;have hb:((b1:Int)*b2)≠0:=by
  have:0<(b1:Int)*b2:=Int.mul_pos (by omega) (by omega);omega
 apply Int.eq_of_mul_eq_mul_right hb;have e1:(x1*(y2:Int)+x2*y1)*B*(b1*b2)=((x1*b1)*b2*y2+(x2*b2)*b1*y1)*B:=by grind
 have e2:T*((y1:Int)*y2)*(b1*b2)=T*(b1*b2)*(y1*y2):=by grind
 rw[e1,e2,c1,c2,<- h]
 grind
end SM
namespace DV
open PySem L2
inductive smD:Nat->D->Prop
 |sI {n:Nat} {i:Int}:i.natAbs<2^200->smD n (.int i)
 |sT {n:Nat} {ds:List D}:ds.length<=3->(∀d∈ds,smD n d)->smD (n+1) (.t ds)
def rpB:Nat->Nat
 |0=>70|n+1=>3*(rpB n+2)+10
theorem zFi(n:Nat):70<=rpB n:=by
 cases n with
 |zero=>exact le_refl _|succ n=>have:=zFi n;simp only[rpB];omega
def zEb{i:Int}(h:i.natAbs<2^200):(PyData.int i).showable=true:=by
 have:i.natAbs.log2<1920:=by
  by_cases c:i.natAbs=0
  ·rw[c];decide
  ·rw[Nat.log2_lt c]
   exact lt_of_lt_of_le h (Nat.pow_le_pow_right (by omega) (by omega))
 simp only[PyData.showable,decide_eq_true_eq];exact this
def len_int{i:Int}(h:i.natAbs<2^200):((PyData.int i).shown).length<=70:=by
 have e:=int_text_length_le10 (a:=i) (k:=69) (by omega) (lt_trans h (by decide +kernel));simp only[PyData.shown];rw[ofString_length];exact e
theorem zCd(M:Nat):∀ts:List Str,(∀t∈ts,t.length<=M)->(Str.join ", " ts).length<=ts.length*(M+2)
 | [],_=>by rw[show(Str.join ", " ([]:List Str)).length=0 by decide +kernel];omega
 | [t],h=>by
  have h1:=h t qE;show t.length<=_;simp;omega
 |t::u::ts,h=>by
  have ih:=zCd M (u::ts) (λx hx=>h x (qD _ hx));have h1:=h t qE;show(t++", "++Str.join ", " (u::ts)).length<=_;have e2:((", ":String):Str).length=2:=by decide +kernel
  rw[strLen_append,strLen_append,e2];have:(t::u::ts).length*(M+2)=(u::ts).length*(M+2)+(M+2):=by rw[length_cons,Nat.succ_mul]
  omega
theorem ZI:∀xs:List PyData,PyData.shownAll xs=xs.map PyData.shown
 | []=>by simp[PyData.shownAll]|x::xs=>by simp[PyData.shownAll,ZI xs]
structure Rp(n:Nat)(x:PyData):Prop where
 sh:x.showable=true
 dp:x.depth<=n+2
 ln:x.shown.length<=rpB n
theorem rps{n:Nat}:∀(ds:List D),(∀d∈ds,∃x,pyD d=some x/\Rp n x)->∃xs,pyDs ds=some xs/\xs.length=ds.length/\PyData.showableAll xs=true/\PyData.depthAll xs<=n+2/\∀x∈xs,x.shown.length<=rpB n
 | [],_=>⟨[],rfl,rfl,rfl,by simp[PyData.depthAll],λx h=>by cases h⟩
 |d::ds,h=>by
  obtain⟨x,e1,h1⟩:=h d qE;obtain⟨xs,e2,q1,q2,q3,q4⟩:=rps ds (λy hy=>h y (qD _ hy));refine⟨x::xs,by simp only[pyDs,e1,e2],by simp[q1],?_,?_,λy hy=>?_⟩
  ·simp only[PyData.showableAll,h1.sh,q2];rfl
  ·have:=h1.dp;simp only[PyData.depthAll];omega
  ·rcases mem_cons.mp hy with rfl|hy
   ·exact h1.ln
   ·exact q4 y hy
def sm_py{n:Nat}{d:D}(h:smD n d):∃x,pyD d=some x/\Rp n x:=by
 induction h with
 | @sI n i h =>
  have b:=zFi n;have e:=len_int h;exact⟨.int i,rfl,zEb h,by simp[PyData.depth],by omega⟩
 | @sT n ds h _ ih =>
  obtain⟨xs,e,q1,q2,q3,q4⟩:=rps ds ih;refine⟨.tuple xs,by simp only[pyD,e];rfl,by simp only[PyData.showable];exact q2,by simp only[PyData.depth];omega,?_⟩;simp only[PyData.shown,ZI,tupleText,strLen_append];have j:=zCd (rpB n) (xs.map PyData.shown) (λt ht=>by obtain⟨y,hy,rfl⟩:=mem_map.mp ht;exact q4 y hy);have e1:(("(":Str)).length=1:=by decide +kernel
  have e2:((if(xs.map PyData.shown).length==1 then ",)" else ")":String):Str).length<=2:=by split<;>decide +kernel
  rw[length_map]at j;have:=Nat.mul_le_mul_right (rpB n+2) (show xs.length<=3 by omega);simp only[rpB];omega
def sm_repr{d:D}(h:smD 2 d):∃t,vW d=some (.v (.str t)):=by
 obtain⟨x,e,r⟩:=sm_py h;refine⟨x.shown,?_⟩;unfold vW;rw[e];have h1:=r.dp;have h2:=r.ln;have e3:rpB 2=694:=by decide
 dsimp only;rw[if_pos ⟨r.sh,by omega,by rw[e3]at h2;simp only[cap];omega⟩]
section
variable{fs:List FI}{E E1 E2 E3 E4 E5:zN}
def zFj{n:Nat}{body:MS}{ss o:List DV.Slot}{x:Exn}(h:body (ss++replicate (n-ss.length) .e)=.exc x E1)(ho:zm ss E1=o):fnM n body ss=.exc x o:=by
 subst ho;simp only[fnM,h]
def x_cX2{k:Nat}{a b:_}{F:MF}{r r2:R}{z:Str}{y:Bool}{ws:List Int}{o:List DV.Slot}(h0:fiF fs k=F)(h1:dE fs a E=.ok (r,E1))(h1':dE fs b E1=.ok (r2,E2))(h2:F [.v r.d,.v r2.d]=.exc ⟨z,y,ws⟩ o):dE fs (.call k (.ev a (.ev b .nil))) E=.exc ⟨z,false,ws⟩ E2:=zEX h0 h1 h1' h2
def x_cX3{k:Nat}{a b c:_}{F:MF}{r r2 r3:R}{z:Str}{y:Bool}{ws:List Int}{o:List DV.Slot}(h0:fiF fs k=F)(h1:dE fs a E=.ok (r,E1))(h1':dE fs b E1=.ok (r2,E2))(h1'':dE fs c E2=.ok (r3,E3))(h2:F [.v r.d,.v r2.d,.v r3.d]=.exc ⟨z,y,ws⟩ o):dE fs (.call k (.ev a (.ev b (.ev c .nil)))) E=.exc ⟨z,false,ws⟩ E3:=zEY h0 h1 h1' h1'' h2
def wS{k i:Nat}{a:_}{F:MF}{r r':R}{p p':List D}{o:DV.Slot}(h0:fiF fs k=F)(hE:E[i]?=some (.par p))(h1:dE fs a E=.ok (r,E))(h2:F [.par p,.v r.d]=.ok (r',[.par p',o]))(h3:E.set i (.par p')=E1):dE fs (.call k (.lend i (.ev a .nil))) E=.ok (r',E1):=by
 subst h0 h3;have hi:i<E.length:=(qG.mp hE).1;have hs:(E.set i .e)[i]?=some .e:=by simp[hi]
 simp only[yj,WE,vb,jc,jh,zt,hE,yg,Bool.false_eq_true,if_false,h1,zL,Slot.list?,h2,zJ,hs,Slot.put,set_set]
def x_neg{a:_}{i:Int}(h:dE fs a E=.ok (.v (.int i),E1)):dE fs (.neg a) E=.ok (.v (.int (-i)),E1):=by simp only[rE_neg,eNeg,h]
def x_and1{a b:_}{o:Out (R×zN)}(h:dE fs a E=.ok (.v (.bl true),E1))(h1:dE fs b E1=o):dE fs (.and a b) E=o:=by subst h1;simp only[Q4,Qm,h]
def x_and0{a b:_}(h:dE fs a E=.ok (.v (.bl false),E1)):dE fs (.and a b) E=.ok (.v (.bl false),E1):=by simp only[Q4,Qm,h]
def x_is{T:Ty}{a:_}{r:R}{t:String}{v:Bool}(h:dE fs a E=.ok (r,E1))(ht:tyD r.d=some t)(hv:ud t T.s=v):dE fs (.is T a) E=.ok (.v (.bl v),E1):=by subst hv;simp only[rE_is,eIs,h,ht]
def zCe{t a b:_}{o:Out (R×zN)}(h:dT fs t E=.ok (true,E1))(h1:dE fs a E1=o):dE fs (.ifx t a b) E=o:=by subst h1;simp only[zFY,eIf,h]
def zCf{t a b:_}{o:Out (R×zN)}(h:dT fs t E=.ok (false,E1))(h1:dE fs b E1=o):dE fs (.ifx t a b) E=o:=by subst h1;simp only[zFY,eIf,h]
def zEc{i:Nat}{b:_}{ds:List D}{k:Int}{d:D}(h:E[i]?=some (.own ds))(h1:dE fs b E=.ok (.v (.int k),E))(hx:atI ds k=some d):dE fs (.ixO i b) E=.ok (.v d,E):=by
 simp only[Q5,zDk,h,yg,Bool.false_eq_true,if_false,h1,ixS,hx]
def i_R2{a:_}{r1 r2:R}{i j:Int}(h1:dA fs a E=.ok ([r1,r2],E1))(h2:r1.d=.int i)(h2':r2.d=.int j)(hi:-1000000<=i/\i<=1000000)(hj:-1000000<=j/\j<=1000000):dI fs (.iR2 a) E=.ok (zG i (j-i).toNat,E1):=by
 simp only[rI_iR2,iR2,h1,h2,h2'];rw[if_pos ⟨by omega,by omega,by omega,by omega⟩]
end
def put_ok{i:Nat}{E:zN}{s:DV.Slot}(r:R)(h:E[i]?=some s)(hs:zn s=true):ZO i r E=.ok (E.set i r.slot):=by
 simp only[ZO,h];cases s<;>first|rfl|(cases hs)
def Jh{i:Nat}{E E1:zN}{s:DV.Slot}{r:R}(h:E[i]?=some s)(hs:zn s=true)(e:E.set i r.slot=E1):ZO i r E=.ok E1:=by
 rw[put_ok r h hs,e]
def ne_int(x y:Int):neG (.int x) (.int y)=some (.v (.bl (!decide (x=y)))):=by simp[neG,neF]
def eq_int(x y:Int):eqG (.int x) (.int y)=some (.v (.bl (decide (x=y)))):=by simp[eqG,eqF]
def eq_str(t:Str):eqG (.str t) (.str t)=some (.v (.bl true)):=by simp[eqG,eqF]
def ne_str(t:Str):neG (.str t) (.str t)=some (.v (.bl false)):=by simp[neG,neF]
def WT(a b:List D)(h:a.length+b.length<=100000):zAn (.l a) (.l b)=some (.own (a++b)):=by
 simp only[zAn];rw[if_pos (by simp only[cap];omega)]
def vx(a b:List D)(h:a.length+b.length<=100000):zAn (.t a) (.t b)=some (.v (.t (a++b))):=by
 simp only[zAn];rw[if_pos (by simp only[cap];omega)]
def zCg{x y:D}{r:R}(e:Wy x y=some r):um x y=some r:=by simp only[um,e]
def at_nat{ds:List D}{k:Nat}{d:D}(h:ds[k]?=some d):atI ds (k:Int)=some d:=by
 obtain⟨hk,e⟩:=qG.mp h;have:(k:Int)<ds.length:=by omega
 simp[atI,ixN,this,h]
def ixD_tup(ds:List D)(i:Int):ixD (.t ds) (.int i)=(atI ds i).map .v:=rfl
theorem GS(f:D->Bool):∀ds:List D,jJ (ds.map λd=>D.bl (f d))=some (ds.map f)
 | []=>rfl|d::ds=>by simp only[map_cons,jJ,GS f ds];rfl
theorem all_map(f:D->Bool)(ds:List D):(ds.map f).all id=ds.all f:=by simp[List.all_map]
def zCh{f:D->Bool}{ds:List D}{b:Bool}(h:ds.all f=b):allD [.l (ds.map λd=>D.bl (f d))]=some (.v (.bl b)):=by
 subst h;simp[allD,GS,all_map]
def N(l:List Nat):List D:=l.map λn:Nat=>D.int (n:Int)
def vz(l:List Nat):(N l).length=l.length:=by simp[N]
def N_mem{l:List Nat}{d:D}(h:d∈N l):∃n∈l,d=.int (n:Nat):=by
 obtain⟨n,hn,rfl⟩:=mem_map.mp h;exact⟨n,hn,rfl⟩
def N_get{l:List Nat}{k n:Nat}(h:l[k]?=some n):(N l)[k]?=some (.int (n:Nat)):=by simp[N,h]
def N_app(a b:List Nat):N (a++b)=N a++N b:=by simp[N]
def zFk(n:Nat):zG 0 n=N (List.range n):=by
 have key:∀n k:Nat,zG (k:Int) n=N (range' k n):=by
  intro n
  induction n with
  |zero=>intro k;rfl
  |succ n ih =>
   intro k;have:=ih (k+1);rw[List.range'_succ];show D.int (k:Int)::zG ((k:Int)+1) n=D.int (k:Int)::N (range' (k+1) n);rw[<- this];simp
 rw[List.range_eq_range'];exact key n 0
section
variable{fs:List FI}{E E1 E2 E3:zN}
def x_vA{i:Nat}{s:DV.Slot}{ds:List D}(hs:s=.own ds\/s=.v (.l ds))(h:E[i]?=some s)(h':E.set i (.v (.l ds))=E1):dE fs (.var i) E=.ok (.v (.l ds),E1):=by
 rcases hs with rfl|rfl
 ·exact W8 h h'
 ·rw[zA h]
  have:E.set i (.v (.l ds))=E:=by
   obtain⟨hi,e⟩:=qG.mp h;rw[<- e,List.set_getElem_self]
  rw[<- h',this]
def s_forI{it b:_}{tg:Tg}{ds:List D}{p:Fl×zN}(h1:dI fs it E=.ok (ds,E1))(h3:wX tg.m (dB fs b) ds E1=.ok p):dS fs (.sForI it tg b) E=.ok p:=by
 simp only[zEQ,zCB,h1,sForI,h3]
def i_E{t:Bool}{as:_}{r:R}{ds:List D}(h1:dA fs as E=.ok ([r],E1))(h2:seqD t r.d=some ds):dI fs (.iE t as) E=.ok (ut 0 ds,E1):=by
 simp only[rI_iE,iE,h1,h2]
end
section
variable{fs:List FI}{E E1 E2 E3 E4 E5 E6:zN}
def Yi{tg:MG}{body:MS}{d:D}{ds:List D}{o:Out (Fl×zN)}(h1:tg d E=.ok E1)(h2:body E1=.ok (.nx,E2))(h3:wX tg body ds E2=o):wX tg body (d::ds) E=o:=by
 subst h3;simp only[wX,h1,h2]
def zEd{tg:MG}{body:MS}:wX tg body [] E=.ok (.nx,E):=rfl
end
section
variable{fs:List FI}{E E1 E2:zN}
def x_disp{a b:_}{r1 r2:R}{q:List KN}(h1:dE fs a E=.ok (r1,E1))(h2:dE fs b E1=.ok (r2,E2))(h3:vY r1.d=some q):dE fs (.disp a b) E=.ok (.dct [q] [r2.d],E2):=by
 simp only[rE_disp,zCF,maD,h1,h2,h3,length_nil];rfl
def x_dgO{i:Nat}{b:_}{r:R}{ks:List (List KN)}{vs:List D}{q:List KN}{d:D}(h:E[i]?=some (.dct ks vs))(h1:dE fs b E=.ok (r,E))(h2:vY r.d=some q)(h3:YU ks vs q=some d):dE fs (.dgO i b) E=.ok (.v d,E):=by
 have e:yg E[i]?=false:=by rw[h];rfl
 simp only[zFZ,eDgO,h1,h,ctD,h2,h3];rfl
def zFl{i:Nat}{ks:List (List KN)}{vs:List D}(h:E[i]?=some (.dct ks vs))(h':E.set i .e=E1):dE fs (.mov i) E=.ok (.dct ks vs,E1):=by simp only[rE_mov,zBj,h,h']
def QN{t b:_}{p:Fl×zN}(h:DV.whN (dT fs t) (dB fs b) 1000000 E=.ok p):dS fs (.sWhile t b) E=.ok p:=by
 simp only[GC];exact WB (by simp only[DV.sWhile];exact h)
end
theorem zCi:∀{ks:List (List KN)} {vs:List D} {q:List KN},q∉ks->YU ks vs q=none
 | [],_,_,_=>rfl|k::ks,[],_,_=>rfl
 |k::ks,v::vs,q,h=>by
  simp only[YU];have:¬k=q:=λe=>h (by rw[e];exact qE)
  rw[if_neg this,zCi λh'=>h (qD _ h')]
section
variable{fs:List FI}{E E1 E2:zN}
def zCj{i:Nat}{a:_}{ks:List (List KN)}{vs:List D}{o:Out (R×zN)}(h:E[i]?=some (.dct ks vs))(he:E.set i (.v (.dct ks vs))=E1)(h1:dE fs a E1=o):dE fs (.frd i a) E=o:=by
 subst he h1;simp only[zFa,eFrd,h,Option.bind_some,slR,R.d]
def x_frdO{i:Nat}{a:_}{ds:List D}{o:Out (R×zN)}(h:E[i]?=some (.own ds))(he:E.set i (.v (.l ds))=E1)(h1:dE fs a E1=o):dE fs (.frd i a) E=o:=by
 subst he h1;simp only[WC,zFa,eFrd,h,Option.bind_some,slR,R.d]
def GT{i:Nat}{b:_}{s:DV.Slot}{r:R}{ks:List (List KN)}{vs:List D}{q:List KN}{d:D}(h:E[i]?=some s)(hs:s=.dct ks vs\/s=.v (.dct ks vs))(h1:dE fs b E=.ok (r,E))(h2:vY r.d=some q)(h3:YU ks vs q=some d):dE fs (.dgO i b) E=.ok (.v d,E):=by
 rcases hs with rfl|rfl
 ·exact x_dgO h h1 h2 h3
 ·have e:yg E[i]?=false:=by rw[h];rfl
  simp only[zFZ,eDgO,h1,h,ctD,h2,h3];rfl
def x_dget{i:Nat}{b c:_}{r1 r2:R}{ks:List (List KN)}{vs:List D}{q:List KN}{d:D}(h:E[i]?=some (.dct ks vs))(h1:dE fs b E=.ok (r1,E))(h2:dE fs c E=.ok (r2,E))(h3:vY r1.d=some q)(h4:(YU ks vs q).getD r2.d=d):dE fs (.dget i b c) E=.ok (.v d,E):=by
 subst h4;simp only[rE_dget,zAd,h,Option.bind_some,ctD,h1,h2,h3]
def v0{i:Nat}{a b:_}{r r2:R}{ks:List (List KN)}{vs:List D}{q:List KN}{p:List (List KN)×List D}(h:E[i]?=some (.dct ks vs))(h1:dE fs a E=.ok (r,E))(h2:dE fs b E=.ok (r2,E))(h3:vY r2.d=some q)(hl:ks.length<1000000)(hp:uw ks vs q r.d=p)(he:E.set i (.dct p.1 p.2)=E1):dS fs (.sDput i b a) E=.ok (.nx,E1):=by
 have e:yg E[i]?=false:=by rw[h];rfl
 subst hp he;simp only[zEN,DV.sDput,h1,h2,h,h3,if_pos hl];rfl
def s_daug{i:Nat}{a b:_}{r:R}{ks:List (List KN)}{vs:List D}{q:List KN}{x y:Int}{p:List (List KN)×List D}(h:E[i]?=some (.dct ks vs))(h1:dE fs b E=.ok (r,E))(h3:vY r.d=some q)(h4:YU ks vs q=some (.int x))(h2:dE fs a E=.ok (.v (.int y),E))(hl:ks.length<1000000)(hp:uw ks vs q (.int (x+y))=p)(he:E.set i (.dct p.1 p.2)=E1):dS fs (.sDaug i b a) E=.ok (.nx,E1):=by
 have e:yg E[i]?=false:=by rw[h];rfl
 subst hp he;simp only[zEO,DV.sDaug,h1,h,h3,h4,h2,if_pos hl];rfl
theorem GU{tg:MG}{tt:MT}{ma:MCD}(I:Nat->zN->Acc->Prop):∀(ds:List D) (k:Nat) (E:zN) (acc:Acc),I k E acc ->
  (∀i d,ds[i]?=some d->∀E acc,I (k+i) E acc->∃E1 E2 E3 acc',tg d E=.ok E1/\tt E1=.ok (true,E2)/\ma E2 acc=.ok (acc',E3)/\I (k+i+1) E3 acc') ->
  ∃E' acc',Yw tg tt ma ds E acc=.ok (acc',E')/\I (k+ds.length) E' acc'
 | [],k,E,acc,h,step=>⟨E,acc,rfl,h⟩
 |d::ds,k,E,acc,h,step=>by
  obtain⟨E1,E2,E3,acc',h1,h2,h3,h4⟩:=step 0 d rfl E acc h;obtain⟨E',acc2,q1,q2⟩:=GU I ds (k+1) E3 acc' h4 λi d' e E acc h=>by
   have:=step (i+1) d' (by simpa using e) E acc (by rw[show k+(i+1)=k+1+i by omega];exact h);rw[show k+(i+1)+1=k+1+i+1 by omega]at this;exact this
  exact⟨E',acc2,by simp only[Yw,h1,h2,h3,q1],by rw[length_cons,show k+(ds.length+1)=k+1+ds.length by omega];exact q2⟩
def zEe{xs ys:List Str}{it tt ka va:_}{tg:Tg}{ds:List D}{res:Acc}{Eb:zN}(hi:dI fs it E=.ok (ds,E1))(h:Yw tg.m (dT fs tt) (maD (dE fs ka) (dE fs va)) ds [.e] ([],[])=.ok (res,Eb)):dE fs (.dcomp 1 xs ys [] it tg tt ka va) E=.ok (.dct res.1 res.2,E1):=by
 simp only[zEL];refine G8 ?_;have e:(zm (replicate 1 DV.Slot.e++[]) Eb).drop 1=[]:=by
  match Eb with
  | []=>rfl|_::_=>rfl
 have h':Yw tg.m (dT fs tt) (maD (dE fs ka) (dE fs va)) ds (replicate 1 .e++[]) ([],[])=.ok (res,Eb):=h;simp only[WA,hi,JL,zL,h',e,zJ]
end
end DV
namespace My
open PySem L2 DV SM
def zDB:D->Bool
 | .fn _=>true| .exn _ _=>true| .dct _ _=>true|_=>false
def isW:D->Bool
 | .int _=>true|_=>false
def YA(lo hi:Int):D->Bool
 | .int i=>decide (lo<=i)&&decide (i<=hi)|_=>false
def okD:D->Prop
 | .t ds=>ds.length<=cap/\∀d∈ds,zDB d=false| .fn _=>False| .exn _ _=>False| .dct _ _=>False|_=>True
def zAg:D->Bool
 | .t ds=>decide (2<=ds.length)&&decide (ds.length<=3)&&ds.all (YA 1 9)|_=>false
def zAh(d:D)(h:zDB d=false):Yz [.v d]=.ok (.v (.bl (isW d)),[.e]):=by
 cases d<;>first|rfl|(cases h)
def yC(d:D)(lo hi:Int)(h:zDB d=false):zW [.v d,.v (.int lo),.v (.int hi)]=.ok (.v (.bl (YA lo hi d)),[.e,.e,.e]):=by
 have e:=zAh d h;cases d with
 |int i =>
  simp[zW,yN,yn,fnM,wf,wG,JU,ZX,Q4,yj,WE,jc,WD,sRet,sIf,Gs,zBh,sSet,ZO,R.slot,Qm,eOr,zBX,jh,zt,zAU,eC,zL,fiF,fiX,R.d,zJ,jb,Cp.b,Cp.f,Op2.f,Bi.f,Ty.s,wm,wk,Jt,Ju,Jv,zAW,Gp,Yp,tT,ZN,eCB,Yq,zBY,zBZ,zBa,Wa,u0,Tg.m,eqG,eqF,neG,neF,maxG,zBe,um,Wy,e,isW,YA];by_cases h1:lo<=i<;>simp[h1,wm,wk]
 |_=>first|(cases h;done)|simp[zW,yN,yn,fnM,wf,wG,JU,ZX,Q4,yj,WE,jc,WD,sRet,sIf,Gs,zBh,sSet,ZO,R.slot,Qm,eOr,zBX,jh,zt,zAU,eC,zL,fiF,fiX,R.d,zJ,jb,Cp.b,Cp.f,Op2.f,Bi.f,Ty.s,wm,wk,Jt,Ju,Jv,zAW,Gp,Yp,tT,ZN,eCB,Yq,zBY,zBZ,zBa,Wa,u0,Tg.m,eqG,eqF,neG,neF,maxG,zBe,um,Wy,e,isW,YA]
def nxt(s:Int):Int:=((s+7919)%2147483647*((s+7919)%2147483647)+48271*((s+7919)%2147483647)+12345)%2147483629
def QO(s:Int):wI [.v (.int s)]=.ok (.v (.int (nxt s)),[.e]):=by
 have h1:0<=(s+7919)%2147483647:=Int.emod_nonneg _ (by decide);have h2:(s+7919)%2147483647<2147483647:=Int.emod_lt_of_pos _ (by decide);have h3:-18446744073709551616<(s+7919)%2147483647/\(s+7919)%2147483647<18446744073709551616:=by omega
 simp[wI,Jy,ZE,fnM,wf,wg,WF,wG,rE_c,JU,W2,sRet,sIf,Gs,zBh,sSet,ZO,R.slot,Qm,eOr,zBX,jh,zt,zAU,eC,zL,fiF,fiX,R.d,zJ,jb,Cp.b,Cp.f,Op2.f,Bi.f,Ty.s,wm,wk,Jt,Ju,Jv,zAW,Gp,Yp,tT,ZN,eCB,Yq,zBY,zBZ,zBa,Wa,u0,Tg.m,eqG,eqF,neG,neF,maxG,zBe,um,Wy,zAn,Wy,zFC,zAo,nxt,h3]
def Pen(p:List D):Prop:=∃l f s:Int,p=[.int l,.int f,.int s]
def y8(p:List D)(hp:Pen p)(m:Int)(h0:0<m)(h1:m<1073741824):∃r p',zg [.par p,.v (.int m)]=.ok (.v (.int r),[.par p',.e])/\0<=r/\r<m/\Pen p':=by
 obtain⟨l,f,s,rfl⟩:=hp;by_cases hf:f=1
 ·refine⟨l%m,[.int (l/m),.int f,.int s],?_,Int.emod_nonneg _ (by omega),Int.emod_lt_of_pos _ h0,_,_,_,rfl⟩
  simp[zg,wK,wq,fnM,vc,wf,wg,GB,WF,wG,zCK,rE_c,JU,W2,GA,Q5,yj,WE,jc,zEM,WD,sRet,sIf,Gs,zBh,sSet,ZO,R.slot,Qm,eOr,zBX,jh,zt,zAU,eC,zL,fiF,fiX,R.d,zJ,jb,Cp.b,Cp.f,Op2.f,Bi.f,Ty.s,wm,wk,Jt,Ju,Jv,zAW,Gp,Yp,tT,ZN,eCB,Yq,zBY,zBZ,zBa,Wa,u0,Tg.m,eqG,eqF,neG,neF,maxG,zBe,um,Wy,zDk,yg,ixS,atI,ixN,eqF,hf,zFC,zAX,zAo,h0,h1,ZA,Slot.list?,Slot.put]
 ·refine⟨nxt (nxt s+7)/64%m,[.int l,.int f,.int (nxt (nxt s+7))],?_,Int.emod_nonneg _ (by omega),Int.emod_lt_of_pos _ h0,_,_,_,rfl⟩
  simp[zg,wK,wq,fnM,vc,wf,wg,GB,WF,wG,zCK,rE_c,JU,W2,GA,Q5,yj,WE,jc,zEM,WD,sRet,sIf,Gs,zBh,sSet,ZO,R.slot,Qm,eOr,zBX,jh,zt,zAU,eC,zL,fiF,fiX,R.d,zJ,jb,Cp.b,Cp.f,Op2.f,Bi.f,Ty.s,wm,wk,Jt,Ju,Jv,zAW,Gp,Yp,tT,ZN,eCB,Yq,zBY,zBZ,zBa,Wa,u0,Tg.m,eqG,eqF,neG,neF,maxG,zBe,um,Wy,zDk,yg,ixS,atI,ixN,eqF,hf,zFC,zAX,zAn,zAo,h0,h1,ZA,Slot.list?,Slot.put,QO]
def v3(c:Int):∃p,yq [.v (.int c)]=.ok (.own p,[.e])/\Pen p:=by
 refine⟨[.int (if 0-c > c then 0-c else c),.int (if decide (10^18<=(if 0-c > c then 0-c else c))=true then 1 else 0),.int ((if 0-c > c then 0-c else c)%1000003)],?_,_,_,_,rfl⟩;simp[yq,wJ,Ja,fnM,wf,wg,WF,wG,rE_c,JU,W2,GA,WC,zEK,jc,WD,G9,sRet,sIf,Gs,zBh,sSet,ZO,R.slot,Qm,eOr,zBX,jh,zt,zAU,eC,zL,fiF,fiX,R.d,zJ,jb,Cp.b,Cp.f,Op2.f,Bi.f,Ty.s,wm,wk,Jt,Ju,Jv,zAW,Gp,Yp,tT,ZN,eCB,Yq,zBY,zBZ,zBa,Wa,u0,Tg.m,eqG,eqF,neG,neF,maxG,zBe,um,Wy,zBe,subD,zC9,intF,geD,powD,zFC,zAo,cap]
def Wl(ns:List Int):∃c,yX [.v (.l (ns.map .int)),.v (.int 0)]=.ok (.v (.int c),[.e,.e]):=by
 cases ns with
 |nil=>exact⟨0,rfl⟩
 |cons n ns => 
  refine⟨n,?_⟩;have:(0:Int)<ns.length+1:=by omega
  simp[yX,jw,wo,fnM,vc,wf,wg,GB,wG,rE_c,JU,GA,WC,rE_ix,zEK,jc,zEM,WD,G9,sRet,sIf,Gs,zBh,sSet,ZO,R.slot,Qm,eOr,zBX,jh,zt,zAU,eC,zL,fiF,fiX,R.d,zJ,jb,Cp.b,Cp.f,Op2.f,Bi.f,Ty.s,wm,wk,Jt,Ju,Jv,zAW,Gp,Yp,tT,ZN,eCB,Yq,zBY,zBZ,zBa,Wa,u0,Tg.m,eqG,eqF,neG,neF,maxG,zBe,um,Wy,lenD,ltD,zC9,ixD,atI,ixN,this]
def zAi(d:D)(h:okD d):yz [.v d]=.ok (.v (.bl (zAg d)),[.e]):=by
 cases d with
 |t ds =>
  have t1:dT Jw (.tNot (.tE (.is .tuple (.var 0)))) [.v (.t ds)]=.ok (false,[.v (.t ds)]):=J2 (t_E (b:=true) rfl) rfl;have l1:dE Jw (.cB .len (.cons (.var 0) .nil)) [.v (.t ds)]=.ok (.v (.int ds.length),[.v (.t ds)]):=Jg (zB (zA rfl) zM) rfl;by_cases h2:2<=ds.length
  ·have b1:Cp.le.b 2 (ds.length:Int)=true:=decide_eq_true (by omega)
   by_cases h3:ds.length<=3
   ·have b2:Cp.le.b (ds.length:Int) 3=true:=decide_eq_true (by omega)
    have e:zAg (.t ds)=ds.all (YA 1 9):=by simp[zAg,h2,h3]
    rw[e];exact yS (zO (wQ (t_or t1 (J2 (t_E (zCX zAf l1 b1 zAf b2)) rfl)) wW) (zX (yT (Jg (zB (wR (vs:=[]) (λd=>.bl (YA 1 9 d)) (i_T (zA rfl) rfl) rfl (λd hd=>⟨_,jx rfl (zA rfl) zAf zAf (yC d 1 9 (h.2 d hd)),rfl⟩) h.1 rfl) zM) (zCh rfl))))) rfl
   ·have b2:Cp.le.b (ds.length:Int) 3=false:=decide_eq_false (by omega)
    have e:zAg (.t ds)=false:=by simp[zAg,h3]
    rw[e];exact yS (vo (ZQ (t_or t1 (J2 (t_E (zCX zAf l1 b1 zAf b2)) rfl)) (zX (yT x_c)))) rfl
  ·have b1:Cp.le.b 2 (ds.length:Int)=false:=decide_eq_false (by omega)
   have e:zAg (.t ds)=false:=by simp[zAg,h2]
   rw[e];exact yS (vo (ZQ (t_or t1 (J2 (t_E (zEW zAf l1 b1)) rfl)) (zX (yT x_c)))) rfl
 |fn x=>cases h|exn x y=>cases h|dct x y=>cases h|_=>rfl
abbrev O1:List DV.Slot:=[.e]
abbrev O2:List DV.Slot:=[.e,.e]
def okM:D->Prop
 | .t ds=>ds.length<=cap/\∀d∈ds,okD d| .fn _=>False| .exn _ _=>False| .dct _ _=>False|_=>True
def tl:D->Int
 | .t as=>as.length|_=>0
def neB:D->D->Bool
 | .int i,.int j=>!decide (i=j)|_,_=>false
def zCk:D->Bool
 | .t [a,b,c,d,e]=>zAg a&&(YA 0 (tl a-1) b&&YA 0 (tl a-1) d)&&neB b d&&(YA 1 6 c&&YA 1 6 e)|_=>false
def zAF{d:D}(h:okD d):zDB d=false:=by cases d<;>first|rfl|(cases h)
def zCl(f:D->Bool)(b d:D):[b,d].all f=(f b&&f d):=by simp
def zAG{lo hi:Int}{d:D}(h:YA lo hi d=true):∃i,d=.int i:=by cases d<;>first|exact⟨_,rfl⟩|(cases h)
def zEf{ds:List D}(h:ds.length≠5):zCk (.t ds)=false:=by
 match ds,h with
 | [],_=>rfl| [_],_=>rfl| [_,_],_=>rfl| [_,_,_],_=>rfl| [_,_,_,_],_=>rfl| [_,_,_,_,_],h=>exact absurd rfl h|_::_::_::_::_::_::_,_=>rfl
def ne5{ds:List D}(h:ds.length≠5):neG (.int (ds.length:Nat)) (.int 5)=some (.v (.bl true)):=by
 rw[ne_int,decide_eq_false (by omega)];rfl
def zEg{a:D}(h:zAg a=true):∃as,a=.t as/\as.length<=3:=by
 cases a with
 |t as=>simp[zAg]at h;exact⟨as,rfl,h.1.2⟩|_=>cases h
def GV(th:D)(h:okM th):jm [.v th]=.ok (.v (.bl (zCk th)),O1):=by
 cases th with
 |t ds =>
  by_cases h5:ds.length=5
  ·match ds,h5,h with
   | [a,b,c,d,e],_,h =>
    have ha:=h.2 a (by simp);have hb:=zAF (h.2 b (by simp));have hc:=zAF (h.2 c (by simp));have hd:=zAF (h.2 d (by simp));have he:=zAF (h.2 e (by simp));have eg:=zAi a ha;have s0:dS yp (.sIf (.tOr (.tNot (.tE (.is .tuple (.var 0)))) (.tE (.cmp .ne (.cB .len (.cons (.var 0) .nil)) (.c (.int 5))))) (.bOne (.sRet (.c (.bl false)))) .bNil) [.v (.t [a,b,c,d,e]),.e,.e,.e,.e,.e]=.ok (.nx,[.v (.t [a,b,c,d,e]),.e,.e,.e,.e,.e]):=rfl;have s1:dS yp (.sTup [1,2,3,4,5] (.var 0)) [.v (.t [a,b,c,d,e]),.e,.e,.e,.e,.e]=.ok (.nx,[.v (.t [a,b,c,d,e]),.v a,.v b,.v c,.v d,.v e]):=rfl;by_cases da:zAg a=true
    ·obtain⟨as,rfl,hl⟩:=zEg da
     rw[da]at eg;have c1:dE yp (.cB .all (.cons (.comp 1 ["thrown"] ["die"] [1] (.iT (.t (.cons (.var 2) (.cons (.var 4) .nil)))) (.n 0) .tTr (.call 0 (.ev (.var 0) (.ev (.c (.int 0)) (.ev (.bin .sub (.cB .len (.cons (.var 1) .nil)) (.c (.int 1))) .nil))))) .nil)) [.v (.t [.t as,b,c,d,e]),.v (.t as),.v b,.v c,.v d,.v e]=.ok (.v (.bl (YA 0 ((as.length:Int)-1) b&&YA 0 ((as.length:Int)-1) d)),[.v (.t [.t as,b,c,d,e]),.v (.t as),.v b,.v c,.v d,.v e]) :=
      Jg (zB (wR (ds:=[b,d]) (vs:=[.t as]) (λx=>.bl (YA 0 ((as.length:Int)-1) x)) (i_T (yV (zB (zA rfl) (zB (zA rfl) zM)) rfl zk) rfl) rfl (λx hx=>⟨_,jx (F:=zW) rfl (zA rfl) x_c (yB (Jg (zB (zA rfl) zM) rfl) x_c rfl) (yC x 0 ((as.length:Int)-1) (by
       simp only[mem_cons,mem_nil_iff,or_false]at hx;rcases hx with rfl|rfl<;>assumption)),rfl⟩) zk rfl) zM) (zCh (zCl _ _ _))
     by_cases q:(YA 0 ((as.length:Int)-1) b&&YA 0 ((as.length:Int)-1) d)=true
     ·rw[q]at c1
      obtain⟨q1,q2⟩:=Bool.and_eq_true_iff.mp q;obtain⟨i,rfl⟩:=zAG q1;obtain⟨j,rfl⟩:=zAG q2;have c2:dE yp (.cB .all (.cons (.comp 1 ["wanted"] [] [] (.iT (.t (.cons (.var 3) (.cons (.var 5) .nil)))) (.n 0) .tTr (.call 0 (.ev (.var 0) (.ev (.c (.int 1)) (.ev (.gl (.int 6)) .nil))))) .nil)) [.v (.t [.t as,.int i,c,.int j,e]),.v (.t as),.v (.int i),.v c,.v (.int j),.v e]=.ok (.v (.bl (YA 1 6 c&&YA 1 6 e)),[.v (.t [.t as,.int i,c,.int j,e]),.v (.t as),.v (.int i),.v c,.v (.int j),.v e]) :=
       Jg (zB (wR (ds:=[c,e]) (vs:=[]) (λx=>.bl (YA 1 6 x)) (i_T (yV (zB (zA rfl) (zB (zA rfl) zM)) rfl zk) rfl) rfl (λx hx=>⟨_,jx (F:=zW) rfl (zA rfl) x_c zAf (yC x 1 6 (by
        simp only[mem_cons,mem_nil_iff,or_false]at hx;rcases hx with rfl|rfl<;>assumption)),rfl⟩) zk rfl) zM) (zCh (zCl _ _ _))
      have k:zCk (.t [.t as,.int i,c,.int j,e])=(!decide (i=j)&&(YA 1 6 c&&YA 1 6 e)):=by
       simp only[zCk,tl,da,q,neB,Bool.true_and]
      rw[k];by_cases ij:i=j
      ·rw[decide_eq_true ij]
       exact yS (zO s0 (zO s1 (zO (wQ (J2 (t_E (je (F:=yz) rfl (zA rfl) eg)) rfl) wW) (zO (wQ (J2 (t_E c1) rfl) wW) (zX (yT (x_and0 (jd (zA rfl) (zA rfl) (by
        show neG (.int i) (.int j)=_
        rw[ne_int,decide_eq_true ij];rfl))))))))) rfl
      ·rw[decide_eq_false ij]
       exact yS (zO s0 (zO s1 (zO (wQ (J2 (t_E (je (F:=yz) rfl (zA rfl) eg)) rfl) wW) (zO (wQ (J2 (t_E c1) rfl) wW) (zX (yT (x_and1 (jd (zA rfl) (zA rfl) (by
        show neG (.int i) (.int j)=_
        rw[ne_int,decide_eq_false ij];rfl)) c2))))))) rfl
     ·have q:=Bool.eq_false_iff.mpr q
      rw[q]at c1;have k:zCk (.t [.t as,b,c,d,e])=false:=by simp only[zCk,tl,da,q,Bool.true_and,Bool.false_and]
      rw[k];exact yS (zO s0 (zO s1 (zO (wQ (J2 (t_E (je (F:=yz) rfl (zA rfl) eg)) rfl) wW) (vo (ZQ (J2 (t_E c1) rfl) (zX (yT x_c))))))) rfl
    ·have da:=Bool.eq_false_iff.mpr da
     rw[da]at eg;have k:zCk (.t [a,b,c,d,e])=false:=by simp only[zCk,da,Bool.false_and]
     rw[k];exact yS (zO s0 (zO s1 (vo (ZQ (J2 (t_E (je (F:=yz) rfl (zA rfl) eg)) rfl) (zX (yT x_c)))))) rfl
  ·rw[zEf h5]
   exact yS (vo (ZQ (t_or (J2 (t_E (x_is (zA rfl) rfl rfl)) rfl) (t_E (jd (Jg (zB (zA rfl) zM) rfl) x_c (ne5 h5)))) (zX (yT x_c)))) rfl
 |fn x=>cases h|exn x y=>cases h|dct x y=>cases h|_=>rfl
abbrev Ji(die:List Nat):D:=.t (N die)
def N_fn{l:List Nat}:∀d∈N l,zDB d=false:=λd hd=>by
 obtain⟨n,_,rfl⟩:=N_mem hd;rfl
def jf(a b:Nat):zAn (.int a) (.int b)=some (.v (.int ((a+b:Nat):Int))):=by simp[zAn]
def die_ok{die:List Nat}(h:Die die):okD (Ji die):=⟨by rw[vz];rcases h.1 with e|e<;>rw[e]<;>simp[cap],N_fn⟩
def die_B{die:List Nat}(h:Die die):zAg (Ji die)=true:=by
 have hl:2<=die.length/\die.length<=3:=by rcases h.1 with e|e<;>omega
 have ha:(N die).all (YA 1 9)=true:=by
  rw[all_eq_true];intro d hd;obtain⟨n,hn,rfl⟩:=N_mem hd;have:=h.2 n hn;simp only[YA,Bool.and_eq_true,decide_eq_true_eq];omega
 simp only[zAg,vz,ha,decide_eq_true hl.1,decide_eq_true hl.2,Bool.and_self]
def WU(die:List Nat):lenD [Ji die]=some (.v (.int die.length)):=by simp only[lenD,vz]
structure Mt(die:List Nat)(s k o l:Nat):Prop where
 d:Die die
 hs:s<die.length
 ho:o<die.length
 ne:s≠o
 hk:1<=k/\k<=6
 hl:1<=l/\l<=6
abbrev yI(die:List Nat)(s k o l:Nat):D:=.t [Ji die,.int (s:Nat),.int (k:Nat),.int (o:Nat),.int (l:Nat)]
def QP{die:List Nat}{s k o l:Nat}(h:Mt die s k o l):zCk (yI die s k o l)=true:=by
 have:=h.hs;have:=h.ho;have:=h.ne;have:=h.hk;have:=h.hl;simp only[zCk,die_B h.d,tl,vz,YA,neB,Bool.true_and,Bool.and_eq_true,decide_eq_true_eq,Bool.not_eq_true',decide_eq_false_iff_not];omega
def QR{die:List Nat}{s k o l:Nat}(h:Mt die s k o l):okM (yI die s k o l):=by
 refine⟨by simp[cap],λd hd=>?_⟩;simp only[mem_cons,mem_nil_iff,or_false]at hd;rcases hd with rfl|rfl|rfl|rfl|rfl
 ·exact die_ok h.d
 all_goals exact trivial
def QS{th:D}(h:okM th)(hb:zCk th=true):yK [.v th]=.ok (.v .non,O1):=by
 have e:=GV th h;rw[hb]at e;exact f_nx (zX (wQ (J2 (t_E (je (F:=jm) rfl (zA rfl) e)) rfl) wW)) rfl
def SP(s:Nat)(n:Nat):List D:=(zG 1 n).map λd=>.t [.int (s:Nat),d]
def SL(s k o l:Nat):List D:=[.t [.non,.int 0]]++SP s (k-1)++SP o (l-1)
def zCm(s n:Nat):(SP s n).length=n:=by rw[SP,length_map,ym]
def rng{fs:List FI}{E:zN}{a:_}{k:Nat}(hk:k<=6)(h:dE fs a E=.ok (.v (.int (k:Nat)),E)):dI fs (.iR2 (.cons (.c (.int 1)) (.cons a .nil))) E=.ok (zG 1 (k-1),E):=by
 have:=i_R2 (fs:=fs) (E:=E) (a:=.cons (.c (.int 1)) (.cons a .nil)) (zB x_c (zB h zM)) rfl rfl ⟨by decide,by decide⟩ ⟨by omega,by omega⟩;rw[show((k:Int)-1).toNat=k-1 by omega]at this;exact this
def zEh{die:List Nat}{s k o l:Nat}(h:Mt die s k o l):jR [.v (yI die s k o l)]=.ok (.own (SL s k o l),O1):=by
 have hk:=h.hk;have hl:=h.hl;have c1:dE jv (.comp 1 ["many"] ["sign"] [2] (.iR2 (.cons (.c (.int 1)) (.cons (.var 3) .nil))) (.n 0) .tTr (.t (.cons (.var 1) (.cons (.var 0) .nil)))) [.v (yI die s k o l),.v (Ji die),.v (.int (s:Nat)),.v (.int (k:Nat)),.v (.int (o:Nat)),.v (.int (l:Nat)),.e,.e]=.ok (.own (SP s (k-1)),[.v (yI die s k o l),.v (Ji die),.v (.int (s:Nat)),.v (.int (k:Nat)),.v (.int (o:Nat)),.v (.int (l:Nat)),.e,.e]) :=
  wR (ds:=zG 1 (k-1)) (vs:=[.int (s:Nat)]) (λd=>.t [.int (s:Nat),d]) (rng hk.2 (zA rfl)) rfl (λd _=>⟨_,yV (zB (zA rfl) (zB (zA rfl) zM)) rfl zk,rfl⟩) (by rw[ym];simp only[cap];omega) rfl
 have c2:dE jv (.comp 1 ["many"] ["other"] [4] (.iR2 (.cons (.c (.int 1)) (.cons (.var 5) .nil))) (.n 0) .tTr (.t (.cons (.var 1) (.cons (.var 0) .nil)))) [.v (yI die s k o l),.v (Ji die),.v (.int (s:Nat)),.v (.int (k:Nat)),.v (.int (o:Nat)),.v (.int (l:Nat)),.own (SP s (k-1)),.e]=.ok (.own (SP o (l-1)),[.v (yI die s k o l),.v (Ji die),.v (.int (s:Nat)),.v (.int (k:Nat)),.v (.int (o:Nat)),.v (.int (l:Nat)),.own (SP s (k-1)),.e]) :=
  wR (ds:=zG 1 (l-1)) (vs:=[.int (o:Nat)]) (λd=>.t [.int (o:Nat),d]) (rng hl.2 (zA rfl)) rfl (λd _=>⟨_,yV (zB (zA rfl) (zB (zA rfl) zM)) rfl zk,rfl⟩) (by rw[ym];simp only[cap];omega) rfl
 have a1:=WT [D.t [.non,.int 0]] (SP s (k-1)) (by rw[zCm];simp;omega);have a2:=WT ([D.t [.non,.int 0]]++SP s (k-1)) (SP o (l-1)) (by rw[length_append,zCm,zCm];simp;omega);exact yS (zO (zAE (je (F:=yK) rfl (zA rfl) (QS (QR h) (QP h)))) (zO (s_tup (zA rfl) rfl) (zO (yH c1 rfl) (zO (yH c2 rfl) (zX (yT (yB (yB (WR (zB zAf zM) rfl J3) (W8 rfl rfl) a1) (W8 rfl rfl) a2))))))) rfl
def v4(p:List D)(hp:Pen p):∃die p',jU [.par p]=.ok (.v (Ji die),[.par p'])/\Pen p'/\Die die:=by
 obtain⟨r1,p1,e1,l1,u1,hp1⟩:=y8 p hp 3 (by decide) (by decide);have ht:∃t:Nat,ixD (.l [.int 1,.int 3,.int 9]) (.int r1)=some (.v (.int (t:Nat)))/\0<t/\t<=9:=by
  have:r1=0\/r1=1\/r1=2:=by omega
  rcases this with rfl|rfl|rfl
  ·exact⟨1,rfl,by decide,by decide⟩
  ·exact⟨3,rfl,by decide,by decide⟩
  ·exact⟨9,rfl,by decide,by decide⟩
 obtain⟨t,ht,t0,t1⟩:=ht;obtain⟨r2,p2,e2,l2,u2,hp2⟩:=y8 p1 hp1 2 (by decide) (by decide);obtain⟨q2,rfl⟩:=Int.eq_ofNat_of_zero_le l2;obtain⟨res,E',h1,h2,s,p3,l,hE,hs,hp3,hl,hn⟩:=GI (tg:=gN 0) (tt:=zBo) (el:=dE jD (.bin .add (.c (.int 1)) (.call 0 (.lend 1 (.ev (.var 2) .nil))))) (λk E acc=>acc.length=k/\∃s p l,E=[s,.par p,.v (.int (t:Nat))]/\zn s=true/\Pen p/\acc=N l/\∀x∈l,1<=x/\x<=9) (DV.zG 0 (2+q2)) 0 [.e,.par p2,.v (.int (t:Nat))] [] ⟨rfl,.e,p2,[],rfl,rfl,hp2,rfl,λx hx=>by cases hx⟩ (by rw[ym];simp only[length_nil,cap];omega)
  (λi d e E acc ⟨ha,s,p,l,hE,hs,hp,hl,hn⟩ hlt=>by
   obtain⟨r,p',e',l',u',hp'⟩:=y8 p hp (t:Nat) (by omega) (by omega);obtain⟨r,rfl⟩:=Int.eq_ofNat_of_zero_le l';refine⟨[.v d,.par p,.v (.int (t:Nat))],[.v d,.par p,.v (.int (t:Nat))],.v (.int ((1+r:Nat):Int)),[.v d,.par p',.v (.int (t:Nat))],?_,rfl,?_,by simp[ha],.v d,p',l++[1+r],rfl,rfl,hp',?_,?_⟩
   ·subst hE;cases s<;>first|rfl|(cases hs)
   ·exact yB x_c (wS rfl rfl (zA rfl) e' rfl) (jf 1 r)
   ·rw[hl,N_app];rfl
   ·intro x hx
    rcases mem_append.mp hx with hx|hx
    ·exact hn x hx
    ·simp at hx;omega)
 subst hE;have cp:dE jD (.comp 1 ["_law_sign"] ["_law_pen","_law_top"] [0,1] (.iR1 (.cons (.bin .add (.c (.int 2)) (.call 0 (.lend 0 (.ev (.c (.int 2)) .nil)))) .nil)) (.n 0) .tTr (.bin .add (.c (.int 1)) (.call 0 (.lend 1 (.ev (.var 2) .nil))))) [.par p1,.v (.int (t:Nat))]=.ok (.own (N l),[.par p3,.v (.int (t:Nat))]):=by
  have hi:=i_R1 (fs:=jD) (E:=[.par p1,.v (.int (t:Nat))]) (E1:=[.par p2,.v (.int (t:Nat))]) (a:=.cons (.bin .add (.c (.int 2)) (.call 0 (.lend 0 (.ev (.c (.int 2)) .nil)))) .nil) (zB (yB x_c (wS rfl rfl x_c e2 rfl) (jf 2 q2)) zM) (j:=((2+q2:Nat):Int)) rfl ⟨by omega,by omega⟩;rw[show(((2+q2:Nat):Int)).toNat=2+q2 by omega]at hi;simp only[rE_c,JU,W2,WC,rE_ix,zCJ,zEK,yj]at h1 ⊢;refine G8 ?_;simp only[Tg.m,zFb];rw[<- hl];simp[Z6,hi,JL,Slot.list?,zL,h1,zm,zJ,Slot.put]
 have hl2:l.length=2+q2:=by
  have:=congrArg length hl;rw[vz]at this;rw[<- this,h2,ym];omega
 refine⟨l,p3,?_,hp3,⟨by omega,hn⟩⟩;exact yS (zO (yH (J0 (WR (zB x_c (zB x_c (zB x_c zM))) rfl (by simp[cap])) (wS rfl rfl x_c e1 rfl) ht) rfl) (zX (yT (Jg (zB cp zM) rfl)))) rfl
def zEi{fs:List FI}{E E1:zN}{k i:Nat}{F:MF}{r':R}{p p':List D}(h0:fiF fs k=F)(hE:E[i]?=some (.par p))(h2:F [.par p]=.ok (r',[.par p']))(h3:E.set i (.par p')=E1):dE fs (.call k (.lend i .nil)) E=.ok (r',E1):=by
 subst h0 h3;have hi:i<E.length:=(qG.mp hE).1;have hs:(E.set i .e)[i]?=some .e:=by simp[hi]
 have hp:(E.set i (.par p))[i]?=some (.par p):=by simp[hi]
 simp only[yj,vb,jc,jh,zt,hE,yg,Bool.false_eq_true,if_false,zL,Slot.list?,h2,zJ,hs,hp,Slot.put,set_set]
def zEj{fs:List FI}{E E1:zN}{k i:Nat}{F:MF}{r':R}{p p':List D}(h0:fiF fs k=F)(hE:E[i]?=some (.own p))(h2:F [.par p]=.ok (r',[.par p']))(h3:E.set i (.own p')=E1):dE fs (.call k (.lend i .nil)) E=.ok (r',E1):=by
 subst h0 h3;have hi:i<E.length:=(qG.mp hE).1;have hs:(E.set i .e)[i]?=some .e:=by simp[hi]
 simp only[yj,vb,jc,jh,zt,hE,yg,Bool.false_eq_true,if_false,zL,Slot.list?,h2,zJ,hs,Slot.put,set_set]
def WV(a b:Nat)(h:b≠0):zFC (.int a) (.int b)=some (.v (.int ((a%b:Nat):Int))):=by
 have:(0:Int)<b:=by omega
 simp only[zFC,zAo];rw[if_pos (decide_eq_true this)];rfl
def JJ(p:List D)(hp:Pen p)(m:Nat)(h0:0<m)(h1:m<1000):∃(r:Nat) (p':List D),zg [.par p,.v (.int (m:Nat))]=.ok (.v (.int (r:Nat)),[.par p',.e])/\r<m/\Pen p':=by
 obtain⟨r,p',e,l,u,h⟩:=y8 p hp m (by omega) (by omega);obtain⟨r,rfl⟩:=Int.eq_ofNat_of_zero_le l;exact⟨r,p',e,by omega,h⟩
def zAj(p:List D)(hp:Pen p):∃die s k o l p',yr [.par p]=.ok (.v (yI die s k o l),[.par p'])/\Pen p'/\Mt die s k o l:=by
 obtain⟨die,p1,e1,hp1,hd⟩:=v4 p hp;have hl:2<=die.length/\die.length<=3:=by rcases hd.1 with e|e<;>omega
 obtain⟨s,p2,e2,u2,hp2⟩:=JJ p1 hp1 die.length (by omega) (by omega);obtain⟨r,p3,e3,u3,hp3⟩:=JJ p2 hp2 (die.length-1) (by omega) (by omega);obtain⟨a,p4,e4,u4,hp4⟩:=JJ p3 hp3 6 (by decide) (by decide);obtain⟨b,p5,e5,u5,hp5⟩:=JJ p4 hp4 6 (by decide) (by decide);have sb:subD (.int (die.length:Nat)) (.int 1)=some (.v (.int ((die.length-1:Nat):Int))):=by
  rw[show((die.length-1:Nat):Int)=(die.length:Int)-1 by omega];rfl
 refine⟨die,s,1+a,(s+1+r)%die.length,1+b,p5,?_,hp5,hd,u2,mod_lt _ (by omega),?_,by omega,by omega⟩
 ·have x3:dE wV (.call 0 (.lend 0 (.ev (.bin .sub (.cB .len (.cons (.var 1) .nil)) (.c (.int 1))) .nil))) [.par p2,.v (Ji die),.v (.int (s:Nat)),.e]=.ok (.v (.int (r:Nat)),[.par p3,.v (Ji die),.v (.int (s:Nat)),.e]):=wS (F:=zg) rfl rfl (yB (Jg (zB (zA rfl) zM) (WU die)) x_c sb) e3 rfl
  exact yS (zO (yH (zEi (F:=jU) rfl rfl e1 rfl) rfl) (zO (yH (wS (F:=zg) rfl rfl (Jg (zB (zA rfl) zM) (WU die)) e2 rfl) rfl) (zO (yH (yB (yB (yB (zA rfl) x_c (jf s 1)) x3 (jf (s+1) r)) (Jg (zB (zA rfl) zM) (WU die)) (WV (s+1+r) die.length (by omega))) rfl) (zX (yT (yV (zB (zA rfl) (zB (zA rfl) (zB (yB x_c (wS (F:=zg) rfl rfl x_c e4 rfl) (jf 1 a)) (zB (zA rfl) (zB (yB x_c (wS (F:=zg) rfl rfl x_c e5 rfl) (jf 1 b)) zM))))) rfl (by simp only[length_cons,length_nil,cap];omega))))))) rfl
 ·rcases hd.1 with e|e<;>rw[e]at u2 u3 ⊢<;>omega
abbrev tN(l:List Nat):D:=.t (N l)
def T(ls:List (List Nat)):List D:=ls.map λl=>tN l
def zCn{n k:Nat}{d:D}(h:(DV.zG 0 n)[k]?=some d):d=.int (k:Nat)/\k<n:=by
 rw[zFk]at h;simp only[N,getElem?_map]at h;cases hr:(List.range n)[k]? with
 |none=>rw[hr]at h;cases h
 |some x =>
  rw[hr]at h;obtain⟨h1,h2⟩:=qG.mp hr;simp at h1 h2;subst h2;simp at h;exact⟨h.symm,h1⟩
section
variable{fs:List FI}{E E1 E2 E3 E4:zN}
def QN{t b:_}{p:Fl×zN}(h:DV.whN (dT fs t) (dB fs b) 1000000 E=.ok p):dS fs (.sWhile t b) E=.ok p:=by
 simp only[GC];exact WB (by simp only[DV.sWhile];exact h)
def s_aug{i:Nat}{o:Op2}{a:_}{x y z:Int}(h:E[i]?=some (.v (.int x)))(h1:dE fs a E=.ok (.v (.int y),E))(hz:o.aug x y=some z)(h2:E.set i (.v (.int z))=E1):dS fs (.sAug i o a) E=.ok (.nx,E1):=by
 subst h2;simp only[rS_sAug,DV.sAug,h,h1,R.d,hz,if_true]
end
def GW{n:Nat}(h:n<2^800):n<Big:=lt_trans h (by decide +kernel)
def mul_big{i j:Int}(h1:i.natAbs<2^800)(h2:j.natAbs<2^800):um (.int i) (.int j)=some (.v (.int (i*j))):=by
 unfold um;have:Wy (.int i) (.int j)=some (.v (.int (i*j))):=by
  simp only[Wy];exact if_pos (.inr ⟨GW h1,GW h2⟩)
 rw[this]
def WW(a b:Nat)(h1:a<2^800)(h2:b<2^800):um (.int a) (.int b)=some (.v (.int ((a*b:Nat):Int))):=by
 rw[mul_big (by simpa using h1) (by simpa using h2)];simp
def zCo(t:Int):absG [.int t]=some (.v (.int (t.natAbs:Nat))):=by
 have:(if t<0 then -t else t)=((t.natAbs:Nat):Int):=by split<;>omega
 simp only[absG,this]
def QT(t:Nat):absG [.int t]=some (.v (.int (t:Nat))):=by
 rw[zCo];simp
def ZZ(a:Int)(b:Nat)(h:0<b)(h2:b<2^800):zAX (.int a) (.int b)=some (.v (.int (a/b))):=by
 simp only[zAX,zAo];rw[if_pos (decide_eq_true ⟨by omega,.inr (GW (by simpa using h2))⟩)]
def v7(d:D)(lo hi:Int)(h:zDB d=false)(hb:YA lo hi d=true):yO [.v d,.v (.int lo),.v (.int hi)]=.ok (.v .non,[.e,.e,.e]):=by
 have e:=yC d lo hi h;rw[hb]at e;exact f_nx (zX (wQ (J2 (t_E (jx rfl (zA rfl) (zA rfl) (zA rfl) e)) rfl) wW)) rfl
def e_gcd(t:Int)(b:Nat)(hb:b<2^400):yo [.v (.int t),.v (.int b)]=.ok (.v (.int (t.natAbs.gcd b:Nat)),[.e,.e]):=by
 have w:=vt (c:=dT ya (.tE (.cmp .ne (.var 1) (.c (.int 0))))) (bd:=dB ya (.bOne (.sPar 0 1 (.cons (.var 1) (.cons (.bin .mod (.var 0) (.var 1)) .nil))))) (λa b=>[.v (.int (a:Nat)),.v (.int (b:Nat))])
  (λa b=>t_E (jd (zA rfl) x_c (by
   show neG (.int (b:Int)) (.int 0)=_
   rw[ne_int];by_cases z:b=0
   ·subst z;rfl
   ·have:¬(b:Int)=0:=by omega
    simp[z])))
  (λa b h=>zX (zCY (zB (zA rfl) (zB (yB (zA rfl) (zA rfl) (WV a b h)) zM)) rfl)) 400 1000000 t.natAbs b hb (by omega)
 exact yS (zO (zCY (zB (Jg (zB (zA rfl) zM) (zCo t)) (zB (Jg (zB (zA rfl) zM) (QT b)) zM)) rfl) (zO (QN w) (zX (yT (zA rfl))))) rfl
def zFm{t b:Nat}(h0:0<b)(hb:b<2^400):0<t.gcd b/\t.gcd b<2^800:=by
 refine⟨Nat.gcd_pos_of_pos_right _ h0,?_⟩;have:=Nat.le_of_dvd h0 (gcd_dvd_right t b);exact lt_trans (lt_of_le_of_lt this hb) (by decide +kernel)
def zAH(b g:Nat):((b:Int)/(g:Int))=((b/g:Nat):Int):=by simp
def zAk(t:Int)(b:Nat)(h0:0<b)(hb:b<2^400):JH [.v (.int t),.v (.int b)]=.ok (.v (nrm t b),[.e,.e]):=by
 obtain⟨g0,g1⟩:=zFm (t:=t.natAbs) h0 hb;have q:eqG (.int (b:Int)) (.int 0)=some (.v (.bl false)):=by
  rw[eq_int,decide_eq_false (by omega)]
 have l:ltD (.int (b:Int)) (.int 0)=some (.v (.bl false)):=by
  simp[ltD,zC9]
 have d1:=ZZ t _ g0 g1;have d2:=ZZ b _ g0 g1;rw[zAH]at d2;exact yS (zO (wQ (t_E (jd (zA rfl) x_c q)) wW) (zO (yH (zj rfl (zA rfl) (zA rfl) (e_gcd t b hb)) rfl) (zO (wQ (t_E (jd (zA rfl) x_c l)) wW) (zX (yT (yV (zB (yB (zA rfl) (zA rfl) d1) (zB (yB (zA rfl) (zA rfl) d2) zM)) rfl zk)))))) rfl
abbrev O3:List DV.Slot:=[.e,.e,.e]
def mul_sm0{i j:Int}(h0:0<=i)(h:i<=100000):Wy (.int i) (.int j)=some (.v (.int (i*j))):=by
 simp only[Wy];exact if_pos (.inl (.inl ⟨by omega,by omega⟩))
def mul_sm1{i j:Int}(h0:0<=j)(h:j<=100000):Wy (.int i) (.int j)=some (.v (.int (i*j))):=by
 simp only[Wy];exact if_pos (.inl (.inr ⟨by omega,by omega⟩))
def zCp(a b:Nat)(h:a<=100000):um (.int a) (.int b)=some (.v (.int ((a*b:Nat):Int))):=by
 have:=zCg (mul_sm0 (i:=(a:Int)) (j:=(b:Int)) (by omega) (by omega));rw[this,Int.natCast_mul]
def Y0(a b:Nat)(h:b<=100000):um (.int a) (.int b)=some (.v (.int ((a*b:Nat):Int))):=by
 have:=zCg (mul_sm1 (i:=(a:Int)) (j:=(b:Int)) (by omega) (by omega));rw[this,Int.natCast_mul]
def zAI(a b:Nat):eqG (.int (a:Int)) (.int (b:Int))=some (.v (.bl (decide (a=b)))):=by
 rw[eq_int];congr 3;simp[Int.natCast_inj]
def zCq(l:List Int):Jr (l.map D.int)=some l:=by
 induction l with
 |nil=>rfl|cons a l ih=>simp only[map_cons,Jr,ih];rfl
def zCr(l:List Nat):Jr (N l)=some (l.map λ(n:Nat)=>(n:Int)):=by
 have:N l=(l.map λ(n:Nat)=>(n:Int)).map D.int:=by simp[N]
 rw[this,zCq]
def zEk(l:List Nat):zFQ [.t (N l)]=some (.v (.int (l.sum:Nat))):=by
 have sc:∀l:List Nat,(l.map λ(n:Nat)=>(n:Int)).sum=((l.sum:Nat):Int):=λl=>by
  induction l with
  |nil=>rfl|cons a l ih=>simp[ih]
 simp only[zFQ,zCr,Option.map_some,sc]
theorem zAJ:∀l:List Nat,(l.map λ(n:Nat)=>(n:Int)).sum=((l.sum:Nat):Int)
 | []=>rfl|a::l=>by simp[zAJ l]
def sum_N(l:List Nat):zFQ [.l (N l)]=some (.v (.int (l.sum:Nat))):=by
 simp only[zFQ,zCr,Option.map_some,zAJ]
def zEl(d:D)(lo hi:Int)(h:zDB d=false)(hb:YA lo hi d=false):yO [.v d,.v (.int lo),.v (.int hi)]=.exc ⟨"NoNumber",true,[]⟩ O3:=by
 have e:=yC d lo hi h;rw[hb]at e;exact zFj (zX (ZQ (J2 (t_E (jx rfl (zA rfl) (zA rfl) (zA rfl) e)) rfl) (zX s_raise))) rfl
def p27{n:Nat}(h:n<=80):27^n<2^400:=lt_of_le_of_lt (Nat.pow_le_pow_right (by omega) h) (by decide +kernel)
def lt400{n:Nat}(h:n<2^400):n<2^800:=lt_trans h (by decide +kernel)
theorem zCs:∀{l:List Nat} {x:Nat},x∈l->x<=l.sum
 |a::l,x,h=>by
  rw[sum_cons];rcases mem_cons.mp h with rfl|h
  ·omega
  ·have:=zCs h;omega
def v8{S n:Nat}(h:S<=27)(hn:n<=80):jQ [.v (.int S),.v (.int n)]=.ok (.v (.int (S^n:Nat)),[.e,.e]):=by
 obtain⟨E1,f1,s3,hE,h3⟩:=z9 (tg:=gN 3) (body:=dB JX (.bOne (.sAug 2 .mul (.var 0)))) (λi E=>∃s3,E=[.v (.int S),.v (.int n),.v (.int (S^i:Nat)),s3]/\zn s3=true) (DV.zG 0 n) 0 [.v (.int S),.v (.int n),.v (.int 1),.e] ⟨.e,by simp,rfl⟩ (λi d q E ⟨s3,hE,h3⟩=>by
  obtain⟨hi,rfl⟩:=vh _ _ _ _ q;rw[zero_add]at hE ⊢;refine⟨[.v (.int S),.v (.int n),.v (.int (S^i:Nat)),.v (.int (0+(i:Int)))],[.v (.int S),.v (.int n),.v (.int (S^(i+1):Nat)),.v (.int (0+(i:Int)))],?_,?_,_,rfl,rfl⟩
  ·subst hE;cases s3<;>first|rfl|(cases h3)
  ·have b1:S^i<2^800:=lt400 (lt_of_le_of_lt (Nat.pow_le_pow_left h i) (p27 (by omega)))
   have m:uq ((S^i:Nat):Int) (S:Int)=some ((S^(i+1):Nat):Int):=by
    unfold uq;rw[if_pos (.inr ⟨GW (by rw[Int.natAbs_natCast];exact b1),GW (by rw[Int.natAbs_natCast];exact lt_of_le_of_lt h (by decide +kernel))⟩),pow_succ,Int.natCast_mul]
   exact zX (s_aug rfl (zA rfl) m rfl))
 rw[ym,zero_add]at hE;subst hE;have tn:((n:Nat):Int).toNat=n:=by omega
 exact yS (zO (yH x_c rfl) (zO (WS (zB (zA rfl) zM) rfl ⟨by omega,by omega⟩ (by rw[tn];exact f1)) (zX (yT (zA rfl))))) rfl
end My
namespace SM
end SM
namespace My
open PySem L2 DV SM
theorem GX{c:Nat}:∀{l:List Nat},(∀x∈l,1<=x/\x<=c)->l.length<=l.sum/\l.sum<=l.length*c
 | [],_=>by simp
 |a::l,h=>by
  have h1:=h a qE;have ih:=GX (l:=l) (λx hx=>h x (qD _ hx));rw[sum_cons,length_cons,Nat.succ_mul];omega
structure DS(die:List Nat)(s:Nat):Prop where
 ok:Die die
 lt:s<die.length
namespace DS
variable{die:List Nat}{s:Nat}
def S27(h:DS die s):2<=die.sum/\die.sum<=27:=by
 have:=GX h.ok.2;rcases h.ok.1 with e|e<;>rw[e]at this<;>omega
def get(h:DS die s):die[s]?=some (die.getD s 0):=by
 rw[getD_eq_getElem?_getD,getElem?_eq_getElem h.lt];rfl
def le(h:DS die s):die.getD s 0<=die.sum:=zCs (mem_of_getElem? h.get)
end DS
def zFn{die:List Nat}{s x:Nat}(h:die[s]?=some x):ixD (Ji die) (.int s)=some (.v (.int (x:Nat))):=by
 rw[ixD_tup,at_nat (N_get h)];rfl
def S_pow{die:List Nat}{s:Nat}(h:DS die s){n:Nat}(hn:n<=80):0<die.sum^n/\die.sum^n<2^400 :=
 ⟨pow_pos (by have:=h.S27;omega),lt_of_le_of_lt (Nat.pow_le_pow_left h.S27.2 n) (p27 hn)⟩
def in_nat{n hi:Nat}(h:n<=hi):YA 0 (hi:Int) (.int n)=true:=by
 simp[YA];omega
def zEm{die:List Nat}{s:Nat}(h:DS die s){n:Nat}(hn:n<=80)(t:Int):jA [.v (Ji die),.v (.int n),.v (.int t)]=.ok (.v (nrm t (die.sum^n)),O3):=by
 have sp:=S_pow h hn;exact yS (zX (yT (zj (F:=JH) rfl (zA rfl) (zj (F:=jQ) rfl (Jg (zB (zA rfl) zM) (zEk die)) (zA rfl) (v8 h.S27.2 hn)) (zAk _ _ sp.1 sp.2)))) rfl
abbrev dr(die:List Nat)(s:Nat):Nat:=die.sum-die.getD s 0
def TL(ls:List (List Nat)):List D:=ls.map λl=>.t (N l)
def GY(ls:List (List Nat)):(TL ls).length=ls.length:=by simp[TL]
def more(m:Nat)(r:List Nat):List (List Nat):=(List.range m).map λx=>r++[x]
theorem v9(m:Nat):∀l:List (List Nat),(l.flatMap (more m)).length=l.length*m
 | []=>by simp|a::l=>by rw[List.flatMap_cons,length_append,v9 m l];simp[more,Nat.add_mul,Nat.add_comm]
theorem zAK(m:Nat):∀n,(zw m n).length=m^n
 |0=>rfl
 |n+1=>by
  show((zw m n).flatMap (more m)).length=_
  rw[v9,zAK m n,pow_succ]
theorem zCt(m:Nat):∀n (r:List Nat),r∈zw m n->r.length=n
 |0,r,h=>by simp[zw]at h;subst h;rfl
 |n+1,r,h=>by
  obtain⟨a,ha,hr⟩:=List.mem_flatMap.mp h;obtain⟨x,_,rfl⟩:=mem_map.mp hr;have:=zCt m n a ha;simp[this]
theorem QU(m:Nat):∀n (r:List Nat),r∈zw m n->∀x∈r,x<m
 |0,r,h=>by simp[zw]at h;subst h;simp
 |n+1,r,h=>by
  obtain⟨a,ha,hr⟩:=List.mem_flatMap.mp h;obtain⟨x,hx,rfl⟩:=mem_map.mp hr;have:=QU m n a ha;intro y hy;rcases mem_append.mp hy with hy|hy
  ·exact this y hy
  ·simp at hy hx;omega
def e_more{m n:Nat}(hm:m<=3){r:List Nat}(hr:r.length<=100)(s2 s3 s4:DV.Slot):dE yL (.comp 1 ["_law_sign"] ["_law_row"] [5] (.iR1 (.cons (.var 0) .nil)) (.n 0) .tTr (.bin .add (.var 1) (.t (.cons (.var 0) .nil)))) [.v (.int (m:Nat)),.v (.int (n:Nat)),s2,s3,s4,.v (.t (N r))]=.ok (.own (TL (more m r)),[.v (.int (m:Nat)),.v (.int (n:Nat)),s2,s3,s4,.v (.t (N r))]):=by
 have hi:dI yL (.iR1 (.cons (.var 0) .nil)) [.v (.int (m:Nat)),.v (.int (n:Nat)),s2,s3,s4,.v (.t (N r))]=.ok (N (List.range m),[.v (.int (m:Nat)),.v (.int (n:Nat)),s2,s3,s4,.v (.t (N r))]):=by
  have:=i_R1 (fs:=yL) (E:=[.v (.int (m:Nat)),.v (.int (n:Nat)),s2,s3,s4,.v (.t (N r))]) (a:=.cons (.var 0) .nil) (j:=(m:Int)) (zB (zA rfl) zM) rfl ⟨by omega,by omega⟩;rw[Int.toNat_natCast,zFk]at this;exact this
 refine wR (vs:=[.t (N r)]) (λd=>.t (N r++[d])) hi rfl (λd hd=>?_) (by rw[vz];simp[cap];omega) ?_
 ·exact⟨_,yB (zA rfl) (yV (zB (zA rfl) zM) rfl J3) (vx (N r) [d] (by rw[vz];simp;omega)),rfl⟩
 ·simp only[N,TL,more,map_map]
  refine map_congr_left λx _=>?_
  simp
def TL_app(a b:List (List Nat)):TL (a++b)=TL a++TL b:=by simp[TL]
def zCu{m n:Nat}(hm:m<=3){ls:List (List Nat)}(hl:ls.length<=1000)(hr:∀r∈ls,r.length<=100)(s2 s3 s5:DV.Slot)(h5:zn s5=true) :
  ∃t5,DV.wX (gN 5) (dB yL wM) (TL ls) [.v (.int (m:Nat)),.v (.int (n:Nat)),s2,s3,.own [],s5]=.ok (.nx,[.v (.int (m:Nat)),.v (.int (n:Nat)),s2,s3,.own (TL (ls.flatMap (more m))),t5])/\zn t5=true:=by
 obtain⟨E',f1,t5,hE,q5⟩:=z9 (tg:=gN 5) (body:=dB yL wM) (λi E=>∃t5,E=[.v (.int (m:Nat)),.v (.int (n:Nat)),s2,s3,.own (TL ((ls.take i).flatMap (more m))),t5]/\zn t5=true) (TL ls) 0 [.v (.int (m:Nat)),.v (.int (n:Nat)),s2,s3,.own [],s5] ⟨s5,rfl,h5⟩ (λi d q E ⟨t5,hE,q5⟩=>by
  rw[zero_add]at hE ⊢;obtain⟨r,er⟩:∃r,ls[i]?=some r:=by
   have:i<ls.length:=by
    have:=(qG.mp q).1
    rwa [GY]at this
   exact⟨_,getElem?_eq_getElem this⟩
  have ed:d=.t (N r):=by
   have:(TL ls)[i]?=some (.t (N r)):=by simp[TL,er]
   rw[this]at q;exact(qJ q).symm
  subst ed;have et:ls.take (i+1)=ls.take i++[r]:=by rw[take_add_one,er];rfl
  refine⟨[.v (.int (m:Nat)),.v (.int (n:Nat)),s2,s3,.own (TL ((ls.take i).flatMap (more m))),.v (.t (N r))],[.v (.int (m:Nat)),.v (.int (n:Nat)),s2,s3,.own (TL ((ls.take (i+1)).flatMap (more m))),.v (.t (N r))],?_,?_,_,rfl,rfl⟩
  ·subst hE;cases t5<;>first|rfl|(cases q5)
  ·rw[et,List.flatMap_append,TL_app]
   have:[r].flatMap (more m)=more m r:=by simp
   rw[this];exact zX (yH (yB (W8 rfl rfl) (e_more hm (hr r (mem_of_getElem? er)) _ _ _) (WT _ _ (by rw[GY,GY,v9];have:(ls.take i).length<=1000:=(by simp;omega);have:=Nat.mul_le_mul this hm;have l2:(more m r).length=m:=(by simp[more]);rw[l2];omega))) rfl))
 rw[GY,zero_add,take_length]at hE;exact⟨t5,by rw[f1,hE],q5⟩
def e_rows{m n:Nat}(hm:2<=m/\m<=3)(hn:n<7):wN [.v (.int (m:Nat)),.v (.int (n:Nat))]=.ok (.v (.l (TL (zw m n))),O2):=by
 obtain⟨E',f1,s2,s3,s4,s5,hE,h2,h3,h4,h5⟩:=z9 (tg:=gN 3) (body:=dB yL Yc) (λi E=>∃s2 s3 s4 s5,E=[.v (.int (m:Nat)),.v (.int (n:Nat)),s2,s3,s4,s5]/\(s2=.own (TL (zw m i))\/s2=.v (.l (TL (zw m i))))/\zn s3=true/\zn s4=true/\zn s5=true) (DV.zG 0 n) 0 [.v (.int (m:Nat)),.v (.int (n:Nat)),.own [.t []],.e,.e,.e] ⟨_,_,_,_,rfl,.inl rfl,rfl,rfl,rfl⟩ (λi d q E ⟨s2,s3,s4,s5,hE,h2,h3,h4,h5⟩=>by
  obtain⟨hi,rfl⟩:=vh _ _ _ _ q;rw[zero_add]at h2 ⊢;have hl:(zw m i).length<=1000:=by
   rw[zAK];exact le_trans (Nat.pow_le_pow_left hm.2 i) (le_trans (Nat.pow_le_pow_right (by omega) (show i<=6 by omega)) (by decide))
  obtain⟨t5,f,q5⟩:=zCu (n:=n) hm.2 hl (λr hr=>by rw[zCt m i r hr];omega) (.v (.l (TL (zw m i)))) (.v (.int (0+(i:Int)))) s5 h5;refine⟨[.v (.int (m:Nat)),.v (.int (n:Nat)),s2,.v (.int (0+(i:Int))),s4,s5],[.v (.int (m:Nat)),.v (.int (n:Nat)),.v (.l (TL (zw m (i+1)))),.v (.int (0+(i:Int))),.v (.l (TL (zw m (i+1)))),t5],?_,?_,_,_,_,_,rfl,.inr rfl,rfl,rfl,q5⟩
  ·subst hE;cases s3<;>first|rfl|(cases h3)
  ·exact zO (yH (WR zM rfl zCa) (Jh rfl h4 rfl)) (zO (w6 (x_vA h2 rfl rfl) rfl f) (zX (yH (W8 rfl rfl) (Jh rfl rfl rfl)))))
 rw[ym,zero_add]at h2;subst hE;exact yS (zO (yH (WR (zB (yV zM rfl zCa) zM) rfl J3) rfl) (zO (WS (j:=(n:Int)) (zB (zA rfl) zM) rfl ⟨by omega,by omega⟩ (by rw[Int.toNat_natCast];exact f1)) (zX (yT (x_vA h2 rfl rfl))))) rfl
def y9(t b:Nat)(h0:0<b)(hb:b<2^400):zi [.v (.int t),.v (.int b)]=.ok (.v (nrm t b),O2):=by
 have w:=vt (c:=dT wL (.tE (.cmp .ne (.var 3) (.c (.int 0))))) (bd:=dB wL Jd) (λa c=>[.v (.int (t:Nat)),.v (.int (b:Nat)),.v (.int (a:Nat)),.v (.int (c:Nat))])
  (λa b=>t_E (jd (zA rfl) x_c (by
   show neG (.int (b:Int)) (.int 0)=_
   rw[ne_int];by_cases z:b=0
   ·subst z;rfl
   ·have:¬(b:Int)=0:=by omega
    simp[z])))
  (λa b h=>zX (zCY (zB (zA rfl) (zB (yB (zA rfl) (zA rfl) (WV a b h)) zM)) rfl)) 400 1000000 t b hb (by omega)
 obtain⟨g0,g1⟩:=zFm (t:=t) h0 hb;have l:ltD (.int (b:Int)) (.int 0)=some (.v (.bl false)):=by simp[ltD,zC9]
 have d1:=ZZ t _ g0 g1;have d2:=ZZ b _ g0 g1;rw[zAH]at d2;exact yS (zO (E1:=[.v (.int (t:Nat)),.v (.int (b:Nat)),.v (.int (t:Nat)),.v (.int (b:Nat))]) (zCY (zB (Jg (zB (zA rfl) zM) (QT t)) (zB (Jg (zB (zA rfl) zM) (QT b)) zM)) rfl) (zO (E1:=[.v (.int (t:Nat)),.v (.int (b:Nat)),.v (.int ((t.gcd b:Nat):Int)),.v (.int ((0:Nat):Int))]) (QN w) (zO (wQ (t_E (jd (zA rfl) x_c l)) wW) (zX (yT (yV (zB (yB (zA rfl) (zA rfl) d1) (zB (yB (zA rfl) (zA rfl) d2) zM)) rfl zk)))))) rfl
def wt_take{die r:List Nat}{i t:Nat}(h:r[i]?=some t):wt die (r.take (i+1))=wt die (r.take i)*die.getD t 0:=by
 have:r.take (i+1)=r.take i++[t]:=by rw[take_add_one,h];rfl
 rw[this,wt,List.foldl_append];rfl
def N_at{r:List Nat}{i:Nat}{d:D}(h:(N r)[i]?=some d):∃t,r[i]?=some t/\d=.int (t:Nat):=by
 simp only[N,getElem?_map,Option.map_eq_some_iff]at h;obtain⟨t,e,rfl⟩:=h;exact⟨t,e,rfl⟩
def zEn{die r:List Nat}(hd:∀x∈die,x<=1000)(hr:∀t∈r,t<die.length):yQ [.v (Ji die),.v (tN r)]=.ok (.v (.int (wt die r:Nat)),O2):=by
 obtain⟨E1,f,s3,rfl,_⟩:=z9 (tg:=gN 3) (body:=dB Je ww) (λk E=>∃s3,E=[.v (Ji die),.v (tN r),.v (.int (wt die (r.take k):Nat)),s3]/\zn s3=true) (N r) 0 [.v (Ji die),.v (tN r),.v (.int 1),.e] ⟨.e,rfl,rfl⟩ (λi d q E ⟨s3,hE,h3⟩=>by
  rw[zero_add]at hE ⊢;obtain⟨t,ht,rfl⟩:=N_at q;have hlt:=hr t (mem_of_getElem? ht);have eg:die[t]?=some (die.getD t 0):=by rw[getD_eq_getElem?_getD,getElem?_eq_getElem hlt];rfl
  have m:=Y0 (wt die (r.take i)) (die.getD t 0) (by have:=hd _ (mem_of_getElem? eg);omega);rw[<- wt_take ht]at m;refine⟨[.v (Ji die),.v (tN r),.v (.int (wt die (r.take i):Nat)),.v (.int (t:Nat))],[.v (Ji die),.v (tN r),.v (.int (wt die (r.take (i+1)):Nat)),.v (.int (t:Nat))],?_,zX (yH (yB (zA rfl) (J0 (zA rfl) (zA rfl) (zFn eg)) m) rfl),.v (.int (t:Nat)),rfl,rfl⟩;subst hE;cases s3<;>first|rfl|(cases h3))
 rw[vz,zero_add,take_length]at f;exact yS (zO (yH x_c rfl) (zO (zCZ (zA rfl) rfl f) (zX (yT (zA rfl))))) rfl
abbrev St:=Option (Nat×Nat)
def ln(q:St)(t:Nat):Nat:=match q with
 |some (u,j)=>if u=t then j+1 else 1|none=>1
def nx(s o:Nat)(q:St)(t:Nat):St:=if t=s\/t=o then some (t,ln q t)else none
abbrev En(s k o l:Nat)(q:St):Prop:=q=some (s,k)\/q=some (o,l)
def go(s k o l:Nat)(q:St)(t:Nat):St:=if En s k o l q then q else nx s o q t
def st(s k o l:Nat)(r:List Nat):St:=r.foldl (go s k o l) none
def A(die:List Nat)(s k o l n:Nat)(x:St):Nat:=((zw die.length n).map λr=>if st s k o l r=x then wt die r else 0).sum
def RR(die:List Nat)(s k o l n:Nat):Nat:=((zw die.length n).map λr=>if En s k o l (st s k o l r)then 0 else wt die r).sum
def ru(t n:Nat):List St:=(List.range n).map λj=>some (t,j+1)
def L0(s k o l:Nat):List St:=none::(ru s (k-1)++ru o (l-1))
def WX{t n:Nat}{q:St}:q∈ru t n↔∃j,1<=j/\j<=n/\q=some (t,j):=by
 simp only[ru,mem_map,List.mem_range];constructor
 ·rintro ⟨j,h,rfl⟩;exact⟨j+1,by omega,by omega,rfl⟩
 ·rintro ⟨j,h1,h2,rfl⟩;exact⟨j-1,by omega,by rw[show j-1+1=j by omega]⟩
def ru_nd(t n:Nat):(ru t n).Nodup:=by
 refine List.Pairwise.map _ (λa b h e=>h ?_) (List.nodup_range (n:=n));simp at e;exact e
theorem WY(f g:List Nat->Nat):∀l:List (List Nat),(l.map f).sum+(l.map g).sum=(l.map λx=>f x+g x).sum
 | []=>rfl|a::l=>by simp only[map_cons,sum_cons,<- WY f g l];omega
theorem uA{α:Type}(c:Nat)(f:α->Nat):∀l:List α,(l.map λx=>c*f x).sum=c*(l.map f).sum
 | []=>rfl|a::l=>by simp only[map_cons,sum_cons,uA c f l,mul_add]
theorem sumL(R:List (List Nat))(w:List Nat->Nat)(f:List Nat->St)(c:St->Nat):∀L:List St,L.Nodup->(L.map λy=>(R.map λr=>if f r=y then w r else 0).sum*c y).sum=(R.map λr=>if f r∈L then w r*c (f r)else 0).sum
 | [],_=>by
  have:(R.map λr=>if f r∈([]:List St)then w r*c (f r)else 0)=R.map λ_=>0:=map_congr_left λr _=>by simp
  rw[this];have z:∀R:List (List Nat),(R.map λ_=>0).sum=0:=λR=>by induction R with|nil=>rfl|cons a R ih=>simpa using ih
  rw[z];rfl
 |y::L,h=>by
  have hy:=(nodup_cons.mp h).1;rw[map_cons,sum_cons,sumL R w f c L (nodup_cons.mp h).2,<- Yg (c y),WY];congr 1;refine map_congr_left λr _=>?_
  by_cases e:f r=y
  ·have:¬f r∈L:=by rw[e];exact hy
   rw[if_pos e,if_neg this,if_pos (by rw[e];exact qE),e,add_zero]
  ·rw[if_neg e,Nat.zero_mul,zero_add]
   have:f r∈y::L↔f r∈L:=by simp[e]
   simp only[this]
section
variable{die:List Nat}{s k o l:Nat}
def ccT(die:List Nat)(s o t:Nat)(x y:St):Nat:=((List.range t).map λt=>if nx s o y t=x then die.getD t 0 else 0).sum
def uB(x y:St):ccT die s o 0 x y=0:=rfl
def uC(t:Nat)(x y:St):ccT die s o (t+1) x y=ccT die s o t x y+if nx s o y t=x then die.getD t 0 else 0:=by
 unfold ccT;rw[rsum]
def L0_nd(h:Mt die s k o l):(L0 s k o l).Nodup:=by
 refine nodup_cons.mpr ⟨?_,nodup_append.mpr ⟨ru_nd _ _,ru_nd _ _,?_⟩⟩
 ·intro m
  rcases mem_append.mp m with m|m<;>(obtain⟨j,_,_,e⟩:=WX.mp m;cases e)
 ·intro a ha b hb e
  obtain⟨j,_,_,e1⟩:=WX.mp ha;obtain⟨i,_,_,e2⟩:=WX.mp hb;subst e1 e2;cases e;exact h.ne rfl
def WZ(h:Mt die s k o l){q:St}(hq:q∈L0 s k o l):¬En s k o l q:=by
 rcases mem_cons.mp hq with rfl|hq
 ·intro z;rcases z with z|z<;>cases z
 ·have:=h.hk;have:=h.hl
  rcases mem_append.mp hq with m|m<;>(obtain⟨j,h1,h2,rfl⟩:=WX.mp m;intro z;rcases z with z|z<;>cases z)
  ·omega
  ·exact h.ne rfl
  ·exact h.ne rfl
  ·omega
def nx_in(h:Mt die s k o l){q:St}(hq:q∈L0 s k o l)(t:Nat):nx s o q t∈L0 s k o l\/En s k o l (nx s o q t):=by
 have hk:=h.hk;have hl:=h.hl;unfold nx;by_cases c:t=s\/t=o
 ·rw[if_pos c]
  have b:1<=ln q t/\(t=s->ln q t<=k)/\(t=o->ln q t<=l):=by
   rcases mem_cons.mp hq with rfl|hq
   ·exact⟨le_refl _,λ_=>hk.1,λ_=>hl.1⟩
   ·rcases mem_append.mp hq with m|m<;>(obtain⟨j,h1,h2,rfl⟩:=WX.mp m;unfold ln;simp only;split)
    all_goals first
     | (rename_i e;subst e;exact⟨by omega,λ_=>by omega,λe=>absurd e h.ne⟩)| (rename_i e;subst e;exact⟨by omega,λe=>absurd e.symm h.ne,λ_=>by omega⟩)|exact⟨by omega,λ_=>by omega,λ_=>by omega⟩
  rcases c with rfl|rfl
  ·by_cases e:ln q t=k
   ·exact .inr (.inl (by rw[e]))
   ·have:=b.2.1 rfl
    exact .inl (qD _ (mem_append_left _ (WX.mpr ⟨_,b.1,by omega,rfl⟩)))
  ·by_cases e:ln q t=l
   ·exact .inr (.inr (by rw[e]))
   ·have:=b.2.2 rfl
    exact .inl (qD _ (qK _ (WX.mpr ⟨_,b.1,by omega,rfl⟩)))
 ·rw[if_neg c];exact .inl qE
def st_app(r:List Nat)(t:Nat):st s k o l (r++[t])=go s k o l (st s k o l r) t:=by simp[st]
def go_in(h:Mt die s k o l){q:St}(hq:q∈L0 s k o l\/En s k o l q)(t:Nat):go s k o l q t∈L0 s k o l\/En s k o l (go s k o l q t):=by
 unfold go;by_cases e:En s k o l q
 ·rw[if_pos e];exact .inr e
 ·rw[if_neg e]
  rcases hq with hq|hq
  ·exact nx_in h hq t
  ·exact absurd hq e
def st_in(h:Mt die s k o l)(r:List Nat):st s k o l r∈L0 s k o l\/En s k o l (st s k o l r):=by
 have gen:∀(r:List Nat) (q:St),(q∈L0 s k o l\/En s k o l q)->r.foldl (go s k o l) q∈L0 s k o l\/En s k o l (r.foldl (go s k o l) q):=by
  intro r
  induction r with
  |nil=>exact λq h=>h|cons t r ih=>exact λq hq=>ih _ (go_in h hq t)
 exact gen r none (.inl qE)
def Aw_succ(n:Nat)(x:St):A die s k o l (n+1) x=((zw die.length n).map λr=>((List.range die.length).map λt=>if go s k o l (st s k o l r) t=x then wt die r*die.getD t 0 else 0).sum).sum:=by
 show(((zw die.length n).flatMap λr=>(List.range die.length).map λx=>r++[x]).map λr=>if st s k o l r=x then wt die r else 0).sum=_
 rw[vq];congr 1;refine map_congr_left λr _=>?_
 rw[map_map];congr 1;refine map_congr_left λt _=>?_
 simp only[Function.comp,st_app];rw[show wt die (r++[t])=wt die r*die.getD t 0 by simp[wt]]
structure Cov(die:List Nat)(s k o l n:Nat)(L:List St):Prop where
 nd:L.Nodup
 live:∀y∈L,y∈L0 s k o l
 all:∀r∈zw die.length n,¬En s k o l (st s k o l r)->st s k o l r∈L
def step(h:Mt die s k o l){n:Nat}{L:List St}(c:Cov die s k o l n L)(x:St):A die s k o l (n+1) x=(if En s k o l x then A die s k o l n x*die.sum else 0)+(L.map λy=>A die s k o l n y*ccT die s o die.length x y).sum:=by
 rw[Aw_succ];unfold A;rw[sumL _ _ _ _ L c.nd];have e1:(if En s k o l x then((zw die.length n).map λr=>if st s k o l r=x then wt die r else 0).sum*die.sum else 0)=((zw die.length n).map λr=>if En s k o l x then(if st s k o l r=x then wt die r else 0)*die.sum else 0).sum:=by
  by_cases e:En s k o l x
  ·simp only[if_pos e];rw[Yg]
  ·simp only[if_neg e]
   generalize zw die.length n=R
   induction R with|nil=>rfl|cons a R ih=>simpa using ih
 rw[e1,WY];congr 1;refine map_congr_left λr hr=>?_
 by_cases e:En s k o l (st s k o l r)
 ·have n1:¬st s k o l r∈L:=λm=>WZ h (c.live _ m) e
  rw[if_neg n1,add_zero];simp only[go,if_pos e];by_cases ex:st s k o l r=x
  ·simp only[if_pos ex,if_pos (show En s k o l x from ex▸e)]
   rw[uA,Yh h.d]
  ·simp only[if_neg ex,Nat.zero_mul]
   have z:∀m,((List.range m).map λ_=>0).sum=0:=λm=>by induction (List.range m)with|nil=>rfl|cons a R ih=>simpa using ih
   rw[z];split<;>rfl
 ·have n1:st s k o l r∈L:=c.all r hr e
  rw[if_pos n1];simp only[go,if_neg e];have z:(if En s k o l x then(if st s k o l r=x then wt die r else 0)*die.sum else 0)=0:=by
   by_cases ex:En s k o l x
   ·have:¬st s k o l r=x:=λq=>e (q▸ex)
    rw[if_pos ex,if_neg this,Nat.zero_mul]
   ·rw[if_neg ex]
  rw[z,zero_add,ccT,<- uA];congr 1;refine map_congr_left λt _=>?_
  split<;>simp
def ZR(h:Mt die s k o l){n:Nat}{L:List St}(c:Cov die s k o l n L):(L.map (A die s k o l n)).sum=RR die s k o l n:=by
 have e:=sumL (zw die.length n) (wt die) (st s k o l) (λ_=>1) L c.nd;simp only[Nat.mul_one]at e;show(L.map λy=>A die s k o l n y).sum=_;unfold A RR;rw[e];congr 1;refine map_congr_left λr hr=>?_
 by_cases e:En s k o l (st s k o l r)
 ·rw[if_pos e,if_neg λm=>WZ h (c.live _ m) e]
 ·rw[if_neg e,if_pos (c.all r hr e)]
def cov0(h:Mt die s k o l)(n:Nat):Cov die s k o l n (L0 s k o l):=⟨L0_nd h,λ_ m=>m,λr _ e=>(st_in h r).resolve_right e⟩
def zEo(h:Mt die s k o l)(n:Nat)(x:St):A die s k o l n x<=die.sum^n:=by
 rw[<- zEZ h.d n];unfold A;generalize zw die.length n=R
 induction R with
 |nil=>exact le_refl _
 |cons a R ih=>simp only[map_cons,sum_cons];split<;>omega
def RR_le(h:Mt die s k o l)(n:Nat):RR die s k o l n<=die.sum^n:=by
 rw[<- zEZ h.d n];unfold RR;generalize zw die.length n=R
 induction R with
 |nil=>exact le_refl _
 |cons a R ih=>simp only[map_cons,sum_cons];split<;>omega
def zAL(x:St):A die s k o l 0 x=if x=none then 1 else 0:=by
 have:A die s k o l 0 x=(if(none:St)=x then 1 else 0)+0:=rfl;rw[this];by_cases e:x=none
 ·subst e;rfl
 ·rw[if_neg e,if_neg λz=>e z.symm]
def three(h:Mt die s k o l)(n:Nat):A die s k o l n (some (s,k))+A die s k o l n (some (o,l))+RR die s k o l n=die.sum^n:=by
 rw[<- zEZ h.d n];unfold A RR;rw[WY,WY];congr 1;refine map_congr_left λr _=>?_
 have hn:¬(some (s,k):St)=some (o,l):=λe=>by cases e;exact h.ne rfl
 by_cases e1:st s k o l r=some (s,k)
 ·have e2:¬st s k o l r=some (o,l):=λe=>hn (e1.symm.trans e)
  rw[if_pos e1,if_neg e2,if_pos (.inl e1)];omega
 ·by_cases e2:st s k o l r=some (o,l)
  ·rw[if_neg e1,if_pos e2,if_pos (.inr e2)];omega
  ·rw[if_neg e1,if_neg e2,if_neg λz=>z.elim e1 e2];omega
end
def kS:St->D
 |none=>.t [.non,.int 0]|some (t,j)=>.t [.int (t:Nat),.int (j:Nat)]
def kK:St->List KN
 |none=>[none,some 0]|some (t,j)=>[some (t:Int),some (j:Int)]
def jg(q:St):vY (kS q)=some (kK q):=by
 match q with
 |none=>rfl|some (t,j)=>rfl
def kD_kK(q:St):kD (kK q)=kS q:=by
 match q with
 |none=>rfl|some (t,j)=>rfl
def zCv{p q:St}(h:kK p=kK q):p=q:=by
 match p,q with
 |none,none=>rfl|none,some (t,j)=>simp[kK]at h|some (t,j),none=>simp[kK]at h|some (t,j),some (u,i)=>simp[kK]at h;rw[show t=u by omega,show j=i by omega]
theorem j7(v:St->D){q:St}:∀{L:List St},q∈L->YU (L.map kK) (L.map v) (kK q)=some (v q)
 | [],h=>by cases h
 |p::L,h=>by
  simp only[map_cons,YU];by_cases e:p=q
  ·subst e;rw[if_pos rfl]
  ·rw[if_neg λz=>e (zCv z)]
   exact j7 v ((mem_cons.mp h).resolve_left λz=>e z.symm)
def zFo(v:St->D){q:St}{L:List St}(h:q∉L):YU (L.map kK) (L.map v) (kK q)=none :=
 zCi λm=>by
  obtain⟨p,hp,e⟩:=mem_map.mp m;rw[zCv e]at hp;exact h hp
theorem zFp(v:St->D)(q:St)(d:D):∀L:List St,setV (L.map kK) (L.map v) (kK q) d=L.map λx=>if x=q then d else v x
 | []=>rfl
 |p::L=>by
  simp only[map_cons,setV,zFp v q d L];by_cases e:p=q
  ·rw[if_pos (congrArg kK e),if_pos e]
  ·rw[if_neg λz=>e (zCv z),if_neg e]
def uD(L:List St)(q:St):List St:=if q∈L then L else L++[q]
def QV(v:St->D)(q:St)(d:D)(L:List St):uw (L.map kK) (L.map v) (kK q) d=((uD L q).map kK,(uD L q).map λx=>if x=q then d else v x):=by
 unfold uw uD;by_cases h:q∈L
 ·rw[j7 v h,if_pos h,zFp]
 ·rw[zFo v h,if_neg h]
  simp only[map_append,map_cons,map_nil,if_true];have:(L.map λx=>if x=q then d else v x)=L.map v:=map_congr_left λx hx=>if_neg λ(e:x=q)=>h (by rw[<- e];exact hx)
  rw[this]
def zCw{L:List St}{q:St}(h:q∈L):uD L q=L:=if_pos h
def uE{L:List St}{q:St}(h:q∉L):uD L q=L++[q]:=if_neg h
def uF{L:List St}{p q:St}:p∈uD L q↔p∈L\/p=q:=by
 unfold uD;by_cases h:q∈L
 ·rw[if_pos h]
  exact⟨.inl,λz=>z.elim id λe=>e▸h⟩
 ·rw[if_neg h];simp
def QW{L:List St}{q:St}(h:L.Nodup):(uD L q).Nodup:=by
 unfold uD;by_cases m:q∈L
 ·rw[if_pos m];exact h
 ·rw[if_neg m]
  refine nodup_append.mpr ⟨h,by simp,λa ha b hb e=>?_⟩;rw[mem_singleton]at hb;subst hb e;exact m ha
def GZ{fs:List FI}{E E1:zN}{xs ys:List Str}{it:_}{L:List St}(nd:L.Nodup)(hl:L.length<=1000)(hi:dI fs it E=.ok (L.map kS,E1)):dE fs (.dcomp 1 xs ys [] it (.n 0) .tTr (.var 0) (.c (.int 0))) E=.ok (.dct (L.map kK) (L.map λ_=>.int 0),E1):=by
 obtain⟨Eb,acc,q1,⟨q2,_⟩⟩:=GU (tg:=gN 0) (tt:=dT fs .tTr) (ma:=maD (dE fs (.var 0)) (dE fs (.c (.int 0)))) (λi E acc=>acc=((L.take i).map kK,(L.take i).map λ_=>D.int 0)/\∃s,E=[s]/\zn s=true) (L.map kS) 0 [.e] ([],[]) ⟨rfl,_,rfl,rfl⟩
  (λi d e E acc ⟨ha,s,hE,hs⟩=>by
   rw[zero_add]at ha ⊢;obtain⟨q,eq,rfl⟩:∃q,L[i]?=some q/\d=kS q:=by
    rw[getElem?_map,Option.map_eq_some_iff]at e;obtain⟨q,e1,e2⟩:=e;exact⟨q,e1,e2.symm⟩
   have hi:i<L.length:=(qG.mp eq).1;have et:L.take (i+1)=L.take i++[q]:=by rw[take_add_one,eq];rfl
   have nq:q∉L.take i:=by
    have:=nd;rw[<- List.take_append_drop (i+1) L,et]at this;have:=(nodup_append.mp this).1;intro m;exact(nodup_append.mp this).2.2 q m q (by simp) rfl
   refine⟨[.v (kS q)],[.v (kS q)],[.v (kS q)],_,?_,rfl,?_,⟨rfl,_,rfl,rfl⟩⟩
   ·subst hE;cases s<;>first|rfl|(cases hs)
   ·subst ha
    have k:=QV (λ_=>D.int 0) q (.int 0) (L.take i);rw[uE nq,<- et]at k;have k2:((L.take (i+1)).map λx=>if x=q then D.int 0 else D.int 0)=(L.take (i+1)).map λ_=>D.int 0:=map_congr_left λx _=>by split<;>rfl
    rw[k2]at k;have x1:dE fs (.var 0) [.v (kS q)]=.ok (.v (kS q),[.v (kS q)]):=zA rfl;have x2:dE fs (.c (.int 0)) [.v (kS q)]=.ok (.v (.int 0),[.v (kS q)]):=x_c;have hl2:((L.take i).map kK).length<1000000:=by simp;omega
    simp only[maD,x1,x2,R.d,jg,if_pos hl2,k])
 rw[length_map,zero_add,take_length]at q2;subst q2;exact zEe (tg:=.n 0) (tt:=.tTr) (ka:=.var 0) (va:=.c (.int 0)) hi q1
abbrev O5:List DV.Slot:=[.e,.e,.e]
def nin_two(t s o:Nat):Cp.f .nin (.int (t:Nat)) (.t [.int (s:Nat),.int (o:Nat)])=some (.v (.bl (!decide (t=s\/t=o)))):=by
 by_cases h2:t=s
 ·subst h2
  have b2:eqV (.int (t:Nat)) (.int ((t:Nat):Int))=true:=by simp[eqV]
  simp[Cp.f,inG,inF,flat,flV,inV,b2]
 ·by_cases h3:t=o
  ·subst h3
   have b2:eqV (.int (t:Nat)) (.int ((t:Nat):Int))=true:=by simp[eqV]
   simp[Cp.f,inG,inF,flat,flV,inV,b2]
  ·have b2:eqV (.int (s:Nat)) (.int ((t:Nat):Int))=false:=by simp[eqV];omega
   have b3:eqV (.int (o:Nat)) (.int ((t:Nat):Int))=false:=by simp[eqV];omega
   simp[Cp.f,inG,inF,flat,flV,inV,b2,b3,h2,h3]
def fst':St->D
 |none=>.non|some (t,_)=>.int (t:Nat)
def snd':St->Nat
 |none=>0|some (_,j)=>j
def kS_0(q:St):ixD (kS q) (.int 0)=some (.v (fst' q)):=by cases q<;>rfl
def kS_1(q:St):ixD (kS q) (.int 1)=some (.v (.int (snd' q:Nat))):=by cases q<;>rfl
def isT(q:St)(t:Nat):Bool:=match q with
 |none=>false|some (u,_)=>decide (u=t)
def eq_fst(q:St)(t:Nat):eqG (.int (t:Nat)) (fst' q)=some (.v (.bl (isT q t))):=by
 match q with
 |none=>rfl
 |some (u,j) =>
  show eqG (.int (t:Nat)) (.int (u:Nat))=some (.v (.bl (decide (u=t))))
  rw[zAI];by_cases e:t=u
  ·subst e;rfl
  ·rw[decide_eq_false e,decide_eq_false λz=>e z.symm]
def eq_fst'(q:St)(t:Nat):eqG (fst' q) (.int (t:Nat))=some (.v (.bl (isT q t))):=by
 match q with
 |none=>rfl|some (u,j)=>exact zAI u t
def ln_T(q:St)(t:Nat):ln q t=if isT q t then snd' q+1 else 1:=by
 match q with
 |none=>rfl|some (u,j)=>simp[ln,isT,snd']
section
variable{die:List Nat}{s k o l:Nat}
def Wm(q:St)(t:Nat):jB [.v (yI die s k o l),.v (kS q),.v (.int (t:Nat))]=.ok (.v (kS (nx s o q t)),O5):=by
 have s1:dS wn (.sTup [3,4,5,6,7] (.var 0)) [.v (yI die s k o l),.v (kS q),.v (.int (t:Nat)),.e,.e,.e,.e,.e]=.ok (.nx,[.v (yI die s k o l),.v (kS q),.v (.int (t:Nat)),.v (Ji die),.v (.int (s:Nat)),.v (.int (k:Nat)),.v (.int (o:Nat)),.v (.int (l:Nat))]):=rfl;have t1:=nin_two t s o;by_cases c:t=s\/t=o
 ·rw[decide_eq_true c]at t1
  have e:nx s o q t=some (t,ln q t):=if_pos c;rw[e,ln_T];have x1:=eq_fst q t;cases b:isT q t with
  |true =>
   rw[b]at x1;exact yS (zO s1 (zO (wQ (t_E (jd (zA rfl) (yV (zB (zA rfl) (zB (zA rfl) zM)) rfl zk) t1)) wW) (zX (yT (zCe (t_E (jd (zA rfl) (J0 (zA rfl) x_c (kS_0 q)) x1)) (yV (zB (zA rfl) (zB (yB (J0 (zA rfl) x_c (kS_1 q)) x_c (jf _ 1)) zM)) rfl zk)))))) rfl
  |false =>
   rw[b]at x1;exact yS (zO s1 (zO (wQ (t_E (jd (zA rfl) (yV (zB (zA rfl) (zB (zA rfl) zM)) rfl zk) t1)) wW) (zX (yT (zCf (t_E (jd (zA rfl) (J0 (zA rfl) x_c (kS_0 q)) x1)) (yV (zB (zA rfl) (zB x_c zM)) rfl zk)))))) rfl
 ·rw[decide_eq_false c]at t1
  have e:nx s o q t=none:=if_neg c;rw[e];exact yS (zO s1 (vo (ZQ (t_E (jd (zA rfl) (yV (zB (zA rfl) (zB (zA rfl) zM)) rfl zk) t1)) (zX (yT zAf))))) rfl
def bD(s k o l:Nat)(x:St):D:=if x=some (s,k)then .int 1 else if x=some (o,l)then .int 0 else kS x
def uG{tg:MG}{body:MS}{d:D}{ds:List D}{r:R}{E E1 E2:zN}(h1:tg d E=.ok E1)(h2:body E1=.ok (.ret r,E2)):DV.wX tg body (d::ds) E=.ok (.ret r,E2):=by
 simp only[DV.wX,h1,h2]
def zFq{q:St}{t a m:Nat}{v:D}{s4 s5 s6:DV.Slot}(n:Nat) :
  dB jE wv [.v (yI die s k o l),.v (kS q),.v (.int (t:Nat)),.v (.int (n:Nat)),.v (.int (a:Nat)),.v (.int (m:Nat)),.v v]=.ok (if t=a then(.ret (.v (if n=m then v else .t [.int (t:Nat),.int (n:Nat)])))else .nx,[.v (yI die s k o l),.v (kS q),.v (.int (t:Nat)),.v (.int (n:Nat)),.v (.int (a:Nat)),.v (.int (m:Nat)),.v v]):=by
 have x1:=zAI t a;have x2:=zAI n m;by_cases e:t=a
 ·rw[decide_eq_true e]at x1
  rw[if_pos e];by_cases e2:n=m
  ·rw[decide_eq_true e2]at x2
   rw[if_pos e2];exact zX (ZQ (t_E (jd (zA rfl) (zA rfl) x1)) (zX (yT (zCe (t_E (jd (zA rfl) (zA rfl) x2)) (zA rfl)))))
  ·rw[decide_eq_false e2]at x2
   rw[if_neg e2];exact zX (ZQ (t_E (jd (zA rfl) (zA rfl) x1)) (zX (yT (zCf (t_E (jd (zA rfl) (zA rfl) x2)) (yV (zB (zA rfl) (zB (zA rfl) zM)) rfl zk)))))
 ·rw[decide_eq_false e]at x1
  rw[if_neg e];exact zX (wQ (t_E (jd (zA rfl) (zA rfl) x1)) wW)
def ZJ(hne:s≠o)(q:St)(t:Nat):yP [.v (yI die s k o l),.v (kS q),.v (.int (t:Nat))]=.ok (.v (bD s k o l (nx s o q t)),O5):=by
 have xl:dE jE (.ifx (.tE (.cmp .eq (.ix (.var 1) (.c (.int 0))) (.var 2))) (.bin .add (.ix (.var 1) (.c (.int 1))) (.c (.int 1))) (.c (.int 1))) [.v (yI die s k o l),.v (kS q),.v (.int (t:Nat)),.e,.e,.e,.e]=.ok (.v (.int (ln q t:Nat)),[.v (yI die s k o l),.v (kS q),.v (.int (t:Nat)),.e,.e,.e,.e]):=by
  have x1:=eq_fst' q t;rw[ln_T];cases b:isT q t with
  |true=>rw[b]at x1;exact zCe (t_E (jd (J0 (zA rfl) x_c (kS_0 q)) (zA rfl) x1)) (yB (J0 (zA rfl) x_c (kS_1 q)) x_c (jf _ 1))|false=>rw[b]at x1;exact zCf (t_E (jd (J0 (zA rfl) x_c (kS_0 q)) (zA rfl) x1)) x_c
 generalize hn:ln q t=n at xl;have c3:∀a b c:D,[a,b,c].length<=cap:=λa b c=>by simp[cap]
 have xt:dE jE (.l (.cons (.t (.cons (.ix (.var 0) (.c (.int 1))) (.cons (.ix (.var 0) (.c (.int 2))) (.cons (.c (.int 1)) .nil)))) (.cons (.t (.cons (.ix (.var 0) (.c (.int 3))) (.cons (.ix (.var 0) (.c (.int 4))) (.cons (.c (.int 0)) .nil)))) .nil))) [.v (yI die s k o l),.v (kS q),.v (.int (t:Nat)),.v (.int (n:Nat)),.e,.e,.e]=.ok (.own [.t [.int (s:Nat),.int (k:Nat),.int 1],.t [.int (o:Nat),.int (l:Nat),.int 0]],[.v (yI die s k o l),.v (kS q),.v (.int (t:Nat)),.v (.int (n:Nat)),.e,.e,.e]) :=
  WR (zB (yV (zB (J0 (r:=.v (.int (s:Nat))) (zA rfl) x_c rfl) (zB (J0 (r:=.v (.int (k:Nat))) (zA rfl) x_c rfl) (zB x_c zM))) rfl (c3 _ _ _)) (zB (yV (zB (J0 (r:=.v (.int (o:Nat))) (zA rfl) x_c rfl) (zB (J0 (r:=.v (.int (l:Nat))) (zA rfl) x_c rfl) (zB x_c zM))) rfl (c3 _ _ _)) zM)) rfl zk
 have g1:gT [4,5,6] (.t [.int (s:Nat),.int (k:Nat),.int 1]) [.v (yI die s k o l),.v (kS q),.v (.int (t:Nat)),.v (.int (n:Nat)),.e,.e,.e]=.ok [.v (yI die s k o l),.v (kS q),.v (.int (t:Nat)),.v (.int (n:Nat)),.v (.int (s:Nat)),.v (.int (k:Nat)),.v (.int 1)]:=rfl;have g2:gT [4,5,6] (.t [.int (o:Nat),.int (l:Nat),.int 0]) [.v (yI die s k o l),.v (kS q),.v (.int (t:Nat)),.v (.int (n:Nat)),.v (.int (s:Nat)),.v (.int (k:Nat)),.v (.int 1)]=.ok [.v (yI die s k o l),.v (kS q),.v (.int (t:Nat)),.v (.int (n:Nat)),.v (.int (o:Nat)),.v (.int (l:Nat)),.v (.int 0)]:=rfl;have b1:=zFq (die:=die) (s:=s) (k:=k) (o:=o) (l:=l) (q:=q) (t:=t) (a:=s) (m:=k) (v:=.int 1) (s4:=.e) (s5:=.e) (s6:=.e) n;have b2:=zFq (die:=die) (s:=s) (k:=k) (o:=o) (l:=l) (q:=q) (t:=t) (a:=o) (m:=l) (v:=.int 0) (s4:=.e) (s5:=.e) (s6:=.e) n;unfold nx;rw[hn];by_cases e1:t=s
 ·subst e1
  rw[if_pos rfl]at b1;have k1:bD t k o l (some (t,n))=if n=k then .int 1 else .t [.int (t:Nat),.int (n:Nat)]:=by
   unfold bD;have:¬(some (t,n):St)=some (o,l):=λe=>by cases e;exact hne rfl
   rw[if_neg this];by_cases e:n=k
   ·rw[if_pos e,if_pos (by rw[e])]
   ·rw[if_neg e,if_neg λz=>by cases z;exact e rfl];rfl
  rw[if_pos (.inl rfl),k1];exact yS (zO (yH xl rfl) (vo (w6 (tg:=.t [4,5,6]) xt rfl (uG g1 b1)))) rfl
 ·rw[if_neg e1]at b1
  by_cases e2:t=o
  ·subst e2
   rw[if_pos rfl]at b2;have k1:bD s k t l (some (t,n))=if n=l then .int 0 else .t [.int (t:Nat),.int (n:Nat)]:=by
    unfold bD;have:¬(some (t,n):St)=some (s,k):=λe=>by cases e;exact hne rfl
    rw[if_neg this];by_cases e:n=l
    ·rw[if_pos e,if_pos (by rw[e])]
    ·rw[if_neg e,if_neg λz=>by cases z;exact e rfl];rfl
   rw[if_pos (.inr rfl),k1];exact yS (zO (yH xl rfl) (vo (w6 (tg:=.t [4,5,6]) xt rfl (Yi g1 b1 (uG g2 b2))))) rfl
  ·rw[if_neg e2]at b2
   rw[if_neg λz=>z.elim e1 e2];have k1:bD s k o l none=.t [.non,.int 0]:=rfl;rw[k1];exact yS (zO (yH xl rfl) (zO (w6 (tg:=.t [4,5,6]) xt rfl (Yi g1 b1 (Yi g2 b2 zEd))) (zX (yT (yV (zB x_c (zB x_c zM)) rfl zk))))) rfl
end
section
variable{die:List Nat}{s k o l:Nat}
def KS(s k o l:Nat):List St:=L0 s k o l++[some (s,k)]++[some (o,l)]
def ints_ru(t n:Nat):∀j:Nat,(DV.zG ((j+1:Nat):Int) n).map (λd=>D.t [.int (t:Nat),d])=((range' j n).map λi=>(some (t,i+1):St)).map kS:=by
 induction n with
 |zero=>intro j;rfl
 |succ n ih =>
  intro j;have:=ih (j+1);simp only[DV.zG,map_cons,List.range'_succ];rw[<- this];rfl
def SL_eq:SL s k o l=(L0 s k o l).map kS:=by
 have e:∀t n,SP t n=(ru t n).map kS:=λt n=>by
  have:=ints_ru t n 0;rw[<- List.range_eq_range']at this;exact this
 simp only[SL,L0,e,map_cons,map_append,List.singleton_append,List.cons_append];rfl
def Ga(h:Mt die s k o l):(L0 s k o l).length<=11:=by
 have:=h.hk;have:=h.hl;simp[L0,ru];omega
def uH{x:St}:x∈KS s k o l↔x∈L0 s k o l\/En s k o l x:=by
 simp[KS,or_assoc]
def E_ne(h:Mt die s k o l):¬(some (o,l):St)=some (s,k):=λe=>by cases e;exact h.ne rfl
def add1(h:Mt die s k o l):uD (L0 s k o l) (some (s,k))=L0 s k o l++[some (s,k)]:=uE λm=>WZ h m (.inl rfl)
def add2(h:Mt die s k o l):uD (L0 s k o l++[some (s,k)]) (some (o,l))=KS s k o l:=uE λm=>by
 rcases mem_append.mp m with m|m
 ·exact WZ h m (.inr rfl)
 ·exact E_ne h (mem_singleton.mp m)
def KS_nd(h:Mt die s k o l):(KS s k o l).Nodup:=by rw[<- add2 h,<- add1 h];exact QW (QW (L0_nd h))
def zCx(h:Mt die s k o l):(KS s k o l).length<=13:=by
 have:=Ga h;simp[KS];omega
abbrev dS'(L:List St)(f:St->Nat):DV.Slot:=.dct (L.map kK) (L.map λx=>.int (f x:Nat))
def kl{L:List St}(h:L.length<=1000):(L.map kK).length<1000000:=by rw[length_map];omega
abbrev frS(die:List Nat)(s k o l n:Nat)(e s11 s12 s13 s14 s15 s16:DV.Slot):zN:=[.v (yI die s k o l),.v (.int (n:Nat)),.v (Ji die),.v (.int (s:Nat)),.v (.int (k:Nat)),.v (.int (o:Nat)),.v (.int (l:Nat)),.v (.l ((L0 s k o l).map kS)),.v (kS (some (s,k))),.v (kS (some (o,l))),e,s11,s12,s13,s14,s15,s16]
def zEp(L:List St)(f:St->Nat)(q:St)(m:Nat):uw (L.map kK) (L.map λx=>.int (f x:Nat)) (kK q) (.int (m:Nat))=((uD L q).map kK,(uD L q).map λx=>.int ((if x=q then m else f x:Nat):Int)):=by
 rw[QV];have:((uD L q).map λx=>if x=q then D.int (m:Nat)else D.int (f x:Nat))=(uD L q).map λx=>.int ((if x=q then m else f x:Nat):Int):=map_congr_left λx _=>by split<;>rfl
 rw[this]
def one_add(h:Mt die s k o l){n:Nat}(f g:St->Nat){y:St}(hy:y∈L0 s k o l)(t w:Nat)(hw:w<=9)(s11 s16:DV.Slot) :
  dB zY wH (frS die s k o l n (dS' (KS s k o l) f) s11 (dS' (KS s k o l) g) (.v (kS y)) (.v (.int (t:Nat))) (.v (.int (w:Nat))) s16)=.ok (.nx,frS die s k o l n (dS' (KS s k o l) f) s11 (dS' (KS s k o l) λx=>g x+f y*(if nx s o y t=x then w else 0)) (.v (kS y)) (.v (.int (t:Nat))) (.v (.int (w:Nat))) s16):=by
 have hin:nx s o y t∈KS s k o l:=uH.mpr (nx_in h hy t);have hyk:y∈KS s k o l:=uH.mpr (.inl hy);have g1:=j7 (λx=>.int (g x:Nat)) hin;have g2:=j7 (λx=>.int (f x:Nat)) hyk;have m1:=zCp w (f y) (by omega);have p:=zEp (KS s k o l) g (nx s o y t) (g (nx s o y t)+w*f y);rw[zCw hin]at p;have e:((KS s k o l).map λx=>D.int ((if x=nx s o y t then g (nx s o y t)+w*f y else g x:Nat):Int))=(KS s k o l).map λx=>D.int ((g x+f y*(if nx s o y t=x then w else 0):Nat):Int):=map_congr_left λx _=>by
  by_cases c:x=nx s o y t
  ·rw[if_pos c,if_pos c.symm,c,mul_comm]
  ·rw[if_neg c,if_neg λz=>c z.symm,mul_zero,add_zero]
 rw[e]at p;have ci:((g (nx s o y t):Int)+((w*f y:Nat):Int))=((g (nx s o y t)+w*f y:Nat):Int):=by omega
 rw[<- ci]at p;exact zX (s_daug (q:=kK (nx s o y t)) (x:=g (nx s o y t)) (y:=((w*f y:Nat):Int)) rfl (jx (F:=jB) rfl (zA rfl) (zA rfl) (zA rfl) (Wm y t)) (jg _) g1 (yB (zA rfl) (GT (q:=kK y) rfl (.inl rfl) (zA rfl) (jg y) g2) m1) (kl (le_trans (zCx h) (by decide))) p rfl)
theorem zCy:∀(l:List Nat) (n i:Nat) {d:D},(ut n (N l))[i]?=some d->∃x,l[i]?=some x/\d=.t [.int ((n+i:Nat):Int),.int (x:Nat)]
 | [],_,_,_,h=>by simp[N,ut]at h|e::l,n,0,d,h=>by simp[N,ut]at h;exact⟨e,rfl,h.symm⟩
 |e::l,n,i+1,d,h=>by
  have h':(ut (n+1) (N l))[i]?=some d:=by simpa[N,ut]using h
  obtain⟨x,h1,h2⟩:=zCy l (n+1) i h';exact⟨x,by simpa using h1,by rw[h2,show n+1+i=n+(i+1)by omega]⟩
theorem zCz:∀(l:List D) (n:Nat),(ut n l).length=l.length
 | [],_=>rfl|_::l,n=>by simp[ut,zCz l]
def zC0(h:Mt die s k o l){n:Nat}(f g:St->Nat){y:St}(hy:y∈L0 s k o l)(s11 s14 s15 s16:DV.Slot)(h14:zn s14=true)(h15:zn s15=true) :
  ∃t14 t15,zn t14=true/\zn t15=true/\dB zY jS (frS die s k o l n (dS' (KS s k o l) f) s11 (dS' (KS s k o l) g) (.v (kS y)) s14 s15 s16)=.ok (.nx,frS die s k o l n (dS' (KS s k o l) f) s11 (dS' (KS s k o l) λx=>g x+f y*ccT die s o die.length x y) (.v (kS y)) t14 t15 s16):=by
 obtain⟨E',f1,t14,t15,hE,q14,q15⟩:=z9 (tg:=gT [14,15]) (body:=dB zY wH) (λi E=>∃t14 t15,E=frS die s k o l n (dS' (KS s k o l) f) s11 (dS' (KS s k o l) λx=>g x+f y*ccT die s o i x y) (.v (kS y)) t14 t15 s16/\zn t14=true/\zn t15=true) (ut 0 (N die)) 0 (frS die s k o l n (dS' (KS s k o l) f) s11 (dS' (KS s k o l) g) (.v (kS y)) s14 s15 s16) ⟨s14,s15,by simp only[uB,mul_zero,add_zero],h14,h15⟩
  (λi d q E ⟨t14,t15,hE,q14,q15⟩=>by
   rw[zero_add]at hE ⊢;obtain⟨w,hw,rfl⟩:=zCy die 0 i q;rw[zero_add];have b:=one_add h (n:=n) f (λx=>g x+f y*ccT die s o i x y) hy i w ((h.d.2 w (mem_of_getElem? hw)).2) s11 s16;have ew:die.getD i 0=w:=by rw[getD_eq_getElem?_getD,hw];rfl
   have e:(λx=>g x+f y*ccT die s o i x y+f y*(if nx s o y i=x then w else 0))=λx=>g x+f y*ccT die s o (i+1) x y:=by
    funext x
    rw[uC,ew,mul_add,add_assoc]
   rw[e]at b;refine⟨_,_,?_,b,_,_,rfl,rfl,rfl⟩;subst hE;cases t14<;>first|(cases q14;done)|(cases t15<;>first|rfl|(cases q15)))
 rw[zCz,vz,zero_add]at hE;subst hE;exact⟨t14,t15,q14,q15,zX (s_forI (tg:=.t [14,15]) (i_E (zB (zA rfl) zM) rfl) f1)⟩
def zAl(h:Mt die s k o l){n:Nat}(f g:St->Nat)(s11 s13 s14 s15 s16:DV.Slot)(h13:zn s13=true)(h14:zn s14=true)(h15:zn s15=true) :
  ∃t13 t14 t15,zn t13=true/\zn t14=true/\zn t15=true/\DV.wX (gN 13) (dB zY jS) ((L0 s k o l).map kS) (frS die s k o l n (dS' (KS s k o l) f) s11 (dS' (KS s k o l) g) s13 s14 s15 s16)=.ok (.nx,frS die s k o l n (dS' (KS s k o l) f) s11 (dS' (KS s k o l) λx=>g x+((L0 s k o l).map λy=>f y*ccT die s o die.length x y).sum) t13 t14 t15 s16):=by
 obtain⟨E',f1,t13,t14,t15,hE,q13,q14,q15⟩:=z9 (tg:=gN 13) (body:=dB zY jS) (λi E=>∃t13 t14 t15,E=frS die s k o l n (dS' (KS s k o l) f) s11 (dS' (KS s k o l) λx=>g x+(((L0 s k o l).take i).map λy=>f y*ccT die s o die.length x y).sum) t13 t14 t15 s16/\zn t13=true/\zn t14=true/\zn t15=true) ((L0 s k o l).map kS) 0 (frS die s k o l n (dS' (KS s k o l) f) s11 (dS' (KS s k o l) g) s13 s14 s15 s16) ⟨s13,s14,s15,by simp only[List.take_zero,map_nil,List.sum_nil,add_zero],h13,h14,h15⟩
  (λi d q E ⟨t13,t14,t15,hE,q13,q14,q15⟩=>by
   rw[zero_add]at hE ⊢;obtain⟨y,ey,rfl⟩:∃y,(L0 s k o l)[i]?=some y/\d=kS y:=by
    rw[getElem?_map,Option.map_eq_some_iff]at q;obtain⟨y,e1,e2⟩:=q;exact⟨y,e1,e2.symm⟩
   have et:(L0 s k o l).take (i+1)=(L0 s k o l).take i++[y]:=by rw[take_add_one,ey];rfl
   obtain⟨u14,u15,p14,p15,b⟩:=zC0 h (n:=n) f (λx=>g x+(((L0 s k o l).take i).map λy=>f y*ccT die s o die.length x y).sum) (mem_of_getElem? ey) s11 t14 t15 s16 q14 q15;have e:(λx=>g x+(((L0 s k o l).take i).map λy=>f y*ccT die s o die.length x y).sum+f y*ccT die s o die.length x y)=λx=>g x+(((L0 s k o l).take (i+1)).map λy=>f y*ccT die s o die.length x y).sum:=by
    funext x
    rw[et,map_append,sum_append];simp[add_assoc]
   rw[e]at b;refine⟨_,_,?_,b,_,_,_,rfl,rfl,p14,p15⟩;subst hE;cases t13<;>first|rfl|(cases q13))
 rw[length_map,zero_add,take_length]at hE;subst hE;exact⟨t13,t14,t15,q13,q14,q15,f1⟩
end
section
variable{die:List Nat}{s k o l:Nat}
def Mt.ds(h:Mt die s k o l):DS die s:=⟨h.d,h.hs⟩
abbrev AF(die:List Nat)(s k o l n:Nat):St->Nat:=A die s k o l n
def e_turn(h:Mt die s k o l){n i:Nat}(s11 s12 s13 s14 s15 s16:DV.Slot)(h12:zn s12=true)(h13:zn s13=true)(h14:zn s14=true)(h15:zn s15=true) :
  ∃t13 t14 t15,zn t13=true/\zn t14=true/\zn t15=true/\dB zY jT (frS die s k o l n (dS' (KS s k o l) (AF die s k o l i)) s11 s12 s13 s14 s15 s16)=.ok (.nx,frS die s k o l n (dS' (KS s k o l) (AF die s k o l (i+1))) s11 .e t13 t14 t15 s16):=by
 have S27:=h.ds.S27
 let g0:St->Nat:=λx=>if En s k o l x then A die s k o l i x*die.sum else 0
 obtain⟨t13,t14,t15,q13,q14,q15,f1⟩:=zAl h (n:=n) (AF die s k o l i) g0 s11 s13 s14 s15 s16 h13 h14 h15;refine⟨t13,t14,t15,q13,q14,q15,?_⟩;have e:(λx=>g0 x+((L0 s k o l).map λy=>AF die s k o l i y*ccT die s o die.length x y).sum)=AF die s k o l (i+1):=by
  funext x
  exact(step h (cov0 h i) x).symm
 rw[e]at f1;have z:dE zY (.dcomp 1 ["stand"] [] [] (.iL (.var 7)) (.n 0) .tTr (.var 0) (.c (.int 0))) (frS die s k o l n (dS' (KS s k o l) (AF die s k o l i)) s11 s12 s13 s14 s15 s16)=.ok (.dct ((L0 s k o l).map kK) ((L0 s k o l).map λ_=>.int 0),frS die s k o l n (dS' (KS s k o l) (AF die s k o l i)) s11 s12 s13 s14 s15 s16) :=
  GZ (L0_nd h) (le_trans (Ga h) (by decide)) (i_L (zA rfl) rfl)
 have p1:=zEp (L0 s k o l) (λ_=>0) (some (s,k)) (A die s k o l i (some (s,k))*die.sum);rw[add1 h]at p1;have p2:=zEp (L0 s k o l++[some (s,k)]) (λx=>if x=some (s,k)then A die s k o l i (some (s,k))*die.sum else 0) (some (o,l)) (A die s k o l i (some (o,l))*die.sum);rw[add2 h]at p2;have e2:((KS s k o l).map λx=>D.int ((if x=some (o,l)then A die s k o l i (some (o,l))*die.sum else if x=some (s,k)then A die s k o l i (some (s,k))*die.sum else 0:Nat):Int))=(KS s k o l).map λx=>D.int (g0 x:Nat):=map_congr_left λx _=>by
  show _=D.int ((if En s k o l x then A die s k o l i x*die.sum else 0:Nat):Int)
  by_cases c1:x=some (o,l)
  ·rw[if_pos c1,if_pos (.inr c1),c1]
  ·by_cases c2:x=some (s,k)
   ·rw[if_neg c1,if_pos c2,if_pos (.inl c2),c2]
   ·rw[if_neg c1,if_neg c2,if_neg λz=>z.elim c2 c1]
 rw[e2]at p2;have k1:(some (s,k):St)∈KS s k o l:=uH.mpr (.inr (.inl rfl));have k2:(some (o,l):St)∈KS s k o l:=uH.mpr (.inr (.inr rfl));have g1:=j7 (λx=>.int (A die s k o l i x:Nat)) k1;have g2:=j7 (λx=>.int (A die s k o l i x:Nat)) k2;have m1:=Y0 (A die s k o l i (some (s,k))) die.sum (by omega);have m2:=Y0 (A die s k o l i (some (o,l))) die.sum (by omega);have hl:=Ga h;refine zO (E1:=frS die s k o l n (dS' (KS s k o l) (AF die s k o l i)) s11 (.dct ((L0 s k o l).map kK) ((L0 s k o l).map λ_=>.int 0)) s13 s14 s15 s16) (yH z (Jh rfl h12 rfl)) ?_;refine zO (E1:=frS die s k o l n (dS' (KS s k o l) (AF die s k o l i)) s11 (dS' (L0 s k o l++[some (s,k)]) λx=>if x=some (s,k)then A die s k o l i (some (s,k))*die.sum else 0) s13 s14 s15 s16) (v0 (q:=kK (some (s,k))) (p:=(_,_)) rfl (yB (GT (q:=kK (some (s,k))) rfl (.inl rfl) (zA rfl) (jg (some (s,k))) g1) (Jg (zB (zA rfl) zM) (zEk die)) m1) (zA rfl) (jg (some (s,k))) (kl (by omega)) p1 rfl) ?_;refine zO (E1:=frS die s k o l n (dS' (KS s k o l) (AF die s k o l i)) s11 (dS' (KS s k o l) g0) s13 s14 s15 s16) (v0 (q:=kK (some (o,l))) (p:=(_,_)) rfl (yB (GT (q:=kK (some (o,l))) rfl (.inl rfl) (zA rfl) (jg (some (o,l))) g2) (Jg (zB (zA rfl) zM) (zEk die)) m2) (zA rfl) (jg (some (o,l))) (kl (by simp;omega)) p2 rfl) ?_;refine zO (w6 (tg:=.n 13) (zA rfl) rfl f1) ?_;exact zX (yH (zFl rfl rfl) rfl)
def e_turns(h:Mt die s k o l){n:Nat}:∃t11 t12 t13 t14 t15,DV.wX (gN 11) (dB zY jT) (DV.zG 0 n) (frS die s k o l n (dS' (KS s k o l) (AF die s k o l 0)) .e .e .e .e .e .e)=.ok (.nx,frS die s k o l n (dS' (KS s k o l) (AF die s k o l n)) t11 t12 t13 t14 t15 .e):=by
 obtain⟨E',f1,t11,t12,t13,t14,t15,hE,_⟩:=z9 (tg:=gN 11) (body:=dB zY jT) (λi E=>∃t11 t12 t13 t14 t15,E=frS die s k o l n (dS' (KS s k o l) (AF die s k o l i)) t11 t12 t13 t14 t15 .e/\zn t11=true/\zn t12=true/\zn t13=true/\zn t14=true/\zn t15=true) (DV.zG 0 n) 0 (frS die s k o l n (dS' (KS s k o l) (AF die s k o l 0)) .e .e .e .e .e .e) ⟨_,_,_,_,_,rfl,rfl,rfl,rfl,rfl,rfl⟩
  (λi d q E ⟨t11,t12,t13,t14,t15,hE,q11,q12,q13,q14,q15⟩=>by
   rw[zero_add]at hE ⊢;obtain⟨u13,u14,u15,p13,p14,p15,b⟩:=e_turn h (n:=n) (i:=i) (.v d) t12 t13 t14 t15 .e q12 q13 q14 q15;refine⟨_,_,?_,b,_,_,_,_,_,rfl,rfl,rfl,p13,p14,p15⟩;subst hE;cases t11<;>first|rfl|(cases q11))
 rw[ym,zero_add]at hE;subst hE;exact⟨_,_,_,_,_,f1⟩
def ans(die:List Nat)(s k o l n:Nat):D:=.t [nrm (A die s k o l n (some (s,k)):Nat) (die.sum^n),nrm (A die s k o l n (some (o,l)):Nat) (die.sum^n),nrm (RR die s k o l n:Nat) (die.sum^n)]
def zC1:D->Int
 | .int i=>i|_=>0
def QX(h:Mt die s k o l){n:Nat}(hn:n<=30):y4 [.v (yI die s k o l),.v (.int (n:Nat))]=.ok (.v (ans die s k o l n),O2):=by
 obtain⟨t11,t12,t13,t14,t15,f1⟩:=e_turns h (n:=n);have es:=zEh h;rw[SL_eq]at es;have hl:=Ga h;have a1:=WT ((L0 s k o l).map kS) [kS (some (s,k)),kS (some (o,l))] (by simp;omega);have ek:(L0 s k o l).map kS++[kS (some (s,k)),kS (some (o,l))]=(KS s k o l).map kS:=by simp[KS]
 rw[ek]at a1
 let fr0:DV.Slot->DV.Slot->zN:=λs7 e=>[.v (yI die s k o l),.v (.int (n:Nat)),.v (Ji die),.v (.int (s:Nat)),.v (.int (k:Nat)),.v (.int (o:Nat)),.v (.int (l:Nat)),s7,.v (kS (some (s,k))),.v (kS (some (o,l))),e,.e,.e,.e,.e,.e,.e]
 have z:dE zY (.dcomp 1 ["stand"] [] [] (.iL (.bin .add (.var 7) (.l (.cons (.var 8) (.cons (.var 9) .nil))))) (.n 0) .tTr (.var 0) (.c (.int 0))) (fr0 (.own ((L0 s k o l).map kS)) .e)=.ok (.dct ((KS s k o l).map kK) ((KS s k o l).map λ_=>.int 0),fr0 (.v (.l ((L0 s k o l).map kS))) .e) :=
  GZ (KS_nd h) (le_trans (zCx h) (by decide)) (i_L (yB (W8 rfl rfl) (WR (zB (zA rfl) (zB (zA rfl) zM)) rfl zk) a1) rfl)
 have k0:(none:St)∈KS s k o l:=uH.mpr (.inl qE);have p0:=zEp (KS s k o l) (λ_=>0) none 1;rw[zCw k0]at p0;have e0:((KS s k o l).map λx=>D.int ((if x=none then 1 else 0:Nat):Int))=(KS s k o l).map λx=>D.int (A die s k o l 0 x:Nat):=map_congr_left λx _=>by rw[zAL]
 rw[e0]at p0;have k1:(some (s,k):St)∈KS s k o l:=uH.mpr (.inr (.inl rfl));have k2:(some (o,l):St)∈KS s k o l:=uH.mpr (.inr (.inr rfl));have g1:=j7 (λx=>.int (A die s k o l n x:Nat)) k1;have g2:=j7 (λx=>.int (A die s k o l n x:Nat)) k2
 let dn:D:=.dct ((KS s k o l).map kK) ((KS s k o l).map λx=>.int (A die s k o l n x:Nat))
 have cs:dE zY (.comp 1 ["stand"] ["ends"] [10] (.iL (.var 7)) (.n 0) .tTr (.dgO 1 (.var 0))) (frS die s k o l n (.v dn) t11 t12 t13 t14 t15 .e)=.ok (.own (N ((L0 s k o l).map (A die s k o l n))),frS die s k o l n (.v dn) t11 t12 t13 t14 t15 .e):=by
  let un:D->Nat:=λd=>(zC1 (((vY d).bind (YU ((KS s k o l).map kK) ((KS s k o l).map λx=>.int (A die s k o l n x:Nat)))).getD .non)).toNat
  have hu:∀y∈L0 s k o l,un (kS y)=A die s k o l n y:=λy hy=>by
   show(zC1 (((vY (kS y)).bind (YU ((KS s k o l).map kK) ((KS s k o l).map λx=>.int (A die s k o l n x:Nat)))).getD .non)).toNat=_
   rw[jg,Option.bind_some,j7 (λx=>.int (A die s k o l n x:Nat)) (uH.mpr (.inl hy))];rfl
  refine wR (ds:=(L0 s k o l).map kS) (vs:=[dn]) (λd=>.int (un d:Nat)) (i_L (zA rfl) rfl) rfl (λd hd=>?_) (by rw[length_map];simp only[cap];omega) ?_
  ·obtain⟨y,hy,rfl⟩:=mem_map.mp hd
   refine⟨_,GT (q:=kK y) rfl (.inr rfl) (zA rfl) (jg y) (j7 _ (uH.mpr (.inl hy))),?_⟩;show D.int _=D.int _;rw[hu y hy]
  ·rw[map_map,N,map_map]
   exact map_congr_left λy hy=>by simp only[Function.comp,hu y hy]
 have su:=sum_N ((L0 s k o l).map (A die s k o l n));rw[ZR h (cov0 h n)]at su;have c3:∀a b c:D,[a,b,c].length<=cap:=λa b c=>by simp[cap]
 have cw:dE zY (.comp 1 ["weight"] ["die","n"] [2,1] (.iT (.t (.cons (.dgO 10 (.var 8)) (.cons (.dgO 10 (.var 9)) (.cons (.var 16) .nil))))) (.n 0) .tTr (.call 0 (.ev (.var 1) (.ev (.var 2) (.ev (.var 0) .nil))))) (frS die s k o l n (.v dn) t11 t12 t13 t14 t15 (.v (.int (RR die s k o l n:Nat))))=.ok (.own [nrm (A die s k o l n (some (s,k)):Nat) (die.sum^n),nrm (A die s k o l n (some (o,l)):Nat) (die.sum^n),nrm (RR die s k o l n:Nat) (die.sum^n)],frS die s k o l n (.v dn) t11 t12 t13 t14 t15 (.v (.int (RR die s k o l n:Nat)))):=by
  refine wR (ds:=[.int (A die s k o l n (some (s,k)):Nat),.int (A die s k o l n (some (o,l)):Nat),.int (RR die s k o l n:Nat)]) (vs:=[Ji die,.int (n:Nat)]) (λd=>nrm (zC1 d) (die.sum^n)) (i_T (yV (zB (GT (q:=kK (some (s,k))) rfl (.inr rfl) (zA rfl) (jg (some (s,k))) g1) (zB (GT (q:=kK (some (o,l))) rfl (.inr rfl) (zA rfl) (jg (some (o,l))) g2) (zB (zA rfl) zM))) rfl (c3 _ _ _)) rfl) rfl (λd hd=>?_) (c3 _ _ _) rfl;simp only[mem_cons,mem_nil_iff,or_false]at hd;have:∃m:Nat,d=.int (m:Nat):=by rcases hd with rfl|rfl|rfl<;>exact⟨_,rfl⟩
  obtain⟨m,rfl⟩:=this;exact⟨_,jx (F:=jA) rfl (zA rfl) (zA rfl) (zA rfl) (zEm h.ds (by omega) (m:Int)),rfl⟩
 refine yS (r:=.v (ans die s k o l n)) (E1:=frS die s k o l n (.v dn) t11 t12 t13 t14 t15 (.v (.int (RR die s k o l n:Nat)))) ?_ rfl;show dB zY Jx ([.v (yI die s k o l),.v (.int (n:Nat))]++replicate 15 .e)=_;refine zO (zAE (je (F:=yK) rfl (zA rfl) (QS (QR h) (QP h)))) ?_;refine zO (zAE (jx (F:=yO) rfl (zA rfl) x_c zAf (v7 _ 0 30 rfl (in_nat (hi:=30) hn)))) ?_;refine zO (s_tup (zA rfl) rfl) ?_;refine zO (yH (je (F:=jR) rfl (zA rfl) es) rfl) ?_;refine zO (E1:=fr0 (.own ((L0 s k o l).map kS)) .e) (zCY (zB (yV (zB (zA rfl) (zB (zA rfl) zM)) rfl zk) (zB (yV (zB (zA rfl) (zB (zA rfl) zM)) rfl zk) zM)) rfl) ?_;refine zO (E1:=fr0 (.v (.l ((L0 s k o l).map kS))) (.dct ((KS s k o l).map kK) ((KS s k o l).map λ_=>.int 0))) (yH z rfl) ?_;refine zO (E1:=frS die s k o l n (dS' (KS s k o l) (AF die s k o l 0)) .e .e .e .e .e .e) (v0 (q:=kK none) (p:=(_,_)) rfl x_c zAf rfl (kl (le_trans (zCx h) (by decide))) p0 rfl) ?_;refine zO (WS (tg:=.n 11) (j:=(n:Int)) (zB (zA rfl) zM) rfl ⟨by omega,by omega⟩ (by rw[Int.toNat_natCast];exact f1)) ?_;refine zO (E1:=frS die s k o l n (.v dn) t11 t12 t13 t14 t15 (.v (.int (RR die s k o l n:Nat)))) (yH (Jg (zB (zCj rfl rfl cs) zM) su) rfl) ?_;exact zX (yT (Jg (zB cw zM) rfl))
end
def YB(a B:Nat):nrm (a:Int) B=.t [.int ((a/a.gcd B:Nat):Int),.int ((B/a.gcd B:Nat):Int)]:=by
 simp only[nrm,J4,W9,Int.natAbs_natCast]
def m2{a b:Nat}(h1:a<2^200)(h2:b<2^200):a*b<2^400:=by
 have:a*b<2^200*2^200:=Nat.mul_lt_mul'' h1 h2;rw[<- Nat.pow_add]at this;exact this
def l8{a:Nat}(h:a<2^200):a<2^800:=lt_trans h (by decide +kernel)
def dv{a g:Nat}(h:a<2^200):a/g<2^200:=lt_of_le_of_lt (Nat.div_le_self _ _) h
def bpos{a B:Nat}(h:0<B):0<B/a.gcd B:=Nat.div_pos (Nat.le_of_dvd h (gcd_dvd_right _ _)) (Nat.gcd_pos_of_pos_right _ h)
def Gb{a c B:Nat}(hB:0<B)(vB:B<2^200)(ua:a<2^200)(uc:c<2^200):y6 [.v (nrm (a:Int) B),.v (nrm (c:Int) B)]=.ok (.v (nrm ((a+c:Nat):Int) B),O2):=by
 have k:=add_nrm (t1:=(a:Int)) (t2:=(c:Int)) (T:=((a+c:Nat):Int)) hB hB hB (by rw[Int.natCast_add,Int.natCast_mul];grind);rw[J4,J4]at k;simp only[W9,Int.natAbs_natCast]at k;rw[YB a B,YB c B];have q1:=dv (g:=a.gcd B) ua;have q2:=dv (g:=a.gcd B) vB;have q3:=dv (g:=c.gcd B) uc;have q4:=dv (g:=c.gcd B) vB;have r2:=bpos (a:=a) hB;have r4:=bpos (a:=c) hB;generalize a/a.gcd B=x1 at *;generalize B/a.gcd B=y1 at *;generalize c/c.gcd B=x2 at *;generalize B/c.gcd B=y2 at *;have m1:=WW x1 y2 (l8 q1) (l8 q4);have m2':=WW x2 y1 (l8 q3) (l8 q2);have m3:=WW y1 y2 (l8 q2) (l8 q4);have es:=y9 (x1*y2+x2*y1) (y1*y2) (mul_pos r2 r4) (m2 q2 q4);have ek:nrm ((x1*y2+x2*y1:Nat):Int) (y1*y2)=nrm ((a+c:Nat):Int) B:=by
  rw[<- k,Int.natCast_add,Int.natCast_mul,Int.natCast_mul]
 rw[ek]at es;exact yS (zX (yT (zj (F:=zi) rfl (yB (yB (J0 (r:=.v (.int (x1:Nat))) (zA rfl) x_c rfl) (J0 (r:=.v (.int (y2:Nat))) (zA rfl) x_c rfl) m1) (yB (J0 (r:=.v (.int (x2:Nat))) (zA rfl) x_c rfl) (J0 (r:=.v (.int (y1:Nat))) (zA rfl) x_c rfl) m2') (jf _ _)) (yB (J0 (r:=.v (.int (y1:Nat))) (zA rfl) x_c rfl) (J0 (r:=.v (.int (y2:Nat))) (zA rfl) x_c rfl) m3) es))) rfl
def mul_nrm{t1 t2:Int}{b1 b2:Nat}(h1:0<b1)(h2:0<b2):nrm (GR t1 b1*GR t2 b2) (W9 t1 b1*W9 t2 b2)=nrm (t1*t2) (b1*b2):=by
 have c1:=zEa t1 b1;have c2:=zEa t2 b2;have p1:=vw t1 h1;have p2:=vw t2 h2;refine zCc (mul_pos p1 p2) (mul_pos h1 h2) ?_;rw[Int.natCast_mul,Int.natCast_mul];generalize GR t1 b1=x1 at *;generalize W9 t1 b1=y1 at *;generalize GR t2 b2=x2 at *;generalize W9 t2 b2=y2 at *;have e:x1*x2*((b1:Int)*b2)=(x1*b1)*(x2*b2):=by grind
 rw[e,c1,c2];grind
def QY{a c B C:Nat}(hB:0<B)(hC:0<C)(vB:B<2^200)(vC:C<2^200)(ua:a<2^200)(uc:c<2^200):jn [.v (nrm (a:Int) B),.v (nrm (c:Int) C)]=.ok (.v (nrm ((a*c:Nat):Int) (B*C)),O2):=by
 have k:=mul_nrm (t1:=(a:Int)) (t2:=(c:Int)) hB hC;rw[J4,J4]at k;simp only[W9,Int.natAbs_natCast]at k;rw[YB a B,YB c C];have q1:=dv (g:=a.gcd B) ua;have q2:=dv (g:=a.gcd B) vB;have q3:=dv (g:=c.gcd C) uc;have q4:=dv (g:=c.gcd C) vC;have r2:=bpos (a:=a) hB;have r4:=bpos (a:=c) hC;generalize a/a.gcd B=x1 at *;generalize B/a.gcd B=y1 at *;generalize c/c.gcd C=x2 at *;generalize C/c.gcd C=y2 at *;have m1:=WW x1 x2 (l8 q1) (l8 q3);have m3:=WW y1 y2 (l8 q2) (l8 q4);have es:=y9 (x1*x2) (y1*y2) (mul_pos r2 r4) (m2 q2 q4);have ek:nrm ((x1*x2:Nat):Int) (y1*y2)=nrm ((a*c:Nat):Int) (B*C):=by
  rw[Int.natCast_mul,k,Int.natCast_mul]
 rw[ek]at es;exact yS (zX (yT (zj (F:=zi) rfl (yB (J0 (r:=.v (.int (x1:Nat))) (zA rfl) x_c rfl) (J0 (r:=.v (.int (x2:Nat))) (zA rfl) x_c rfl) m1) (yB (J0 (r:=.v (.int (y1:Nat))) (zA rfl) x_c rfl) (J0 (r:=.v (.int (y2:Nat))) (zA rfl) x_c rfl) m3) es))) rfl
def uI{B:Nat}(h:0<B):nrm ((0:Nat):Int) B=.t [.int 0,.int 1]:=by
 rw[YB];have:B/Nat.gcd 0 B=1:=by rw[Nat.gcd_zero_left,Nat.div_self h]
 rw[this];simp
def zFr(a:Nat){B S:Nat}(h:0<B)(hs:0<S):nrm (a:Int) B=nrm ((a*S:Nat):Int) (B*S):=zCc h (mul_pos h hs) (by rw[Int.natCast_mul,Int.natCast_mul];grind)
def s_ix2{fs:List FI}{E E1:zN}{i:Nat}{b a:_}{ds:List D}{r:R}{k:Int}{j:Nat}(hs:E[i]?=some (.own ds))(h1:dE fs a E=.ok (r,E))(h2:dE fs b E=.ok (.v (.int k),E))(h4:ixN ds.length k=some j)(h5:E.set i (.own (ds.set j r.d))=E1):dS fs (.sIx i b a) E=.ok (.nx,E1):=by
 subst h5;have e:yg E[i]?=false:=by rw[hs];rfl
 simp only[zCK,ZA,h1,h2,hs,Slot.list?,h4,Slot.put];rfl
section
variable{die:List Nat}{s k o l:Nat}
abbrev frD(die:List Nat)(s k o l n:Nat)(kp fd tn lt sd sg th pt rs:DV.Slot):zN:=[.v (yI die s k o l),.v (.int (n:Nat)),kp,fd,tn,lt,sd,sg,th,pt,rs]
abbrev fdD(s k o l:Nat)(B:Nat)(G:St->Nat):List D:=[nrm (G (some (o,l)):Nat) B,nrm (G (some (s,k)):Nat) B]
abbrev dcN(K:List St)(B:Nat)(G:St->Nat):DV.Slot:=.dct (K.map kK) (K.map λx=>nrm (G x:Nat) B)
abbrev dvN(K:List St)(B:Nat)(G:St->Nat):D:=.dct (K.map kK) (K.map λx=>nrm (G x:Nat) B)
def nK(s k o l:Nat)(K:List St)(q:St):List St:=if En s k o l q then K else uD K q
def zFs(q:St):∃a b,kS q=.t [a,b]:=by
 match q with
 |none=>exact⟨_,_,rfl⟩|some (t,j)=>exact⟨_,_,rfl⟩
def zEq(h:Mt die s k o l){n N':Nat}{L K:List St}{F G:St->Nat}{B C:Nat}{y:St}{t:Nat}(hy:y∈L)(ht:t<die.length)(hB:0<B)(hC:C=B*die.sum)(vC:C<2^200)(hF:F y<2^200)(hFw:F y*die.getD t 0<2^200)(hG:G (nx s o y t)<2^200)(hK:K.length<=100)(hKl:∀x∈K,¬En s k o l x)(h0:∀x,¬En s k o l x->x∉K->G x=0)(tn th pt rs:DV.Slot)(hth:zn th=true)(hpt:zn pt=true) :
  ∃u v,zn u=true/\zn v=true/\dB zp wy (frD die s k o l n (.v (dvN L B F)) (.own (fdD s k o l C G)) tn (dcN K C G) (.v (kS y)) (.v (.int (t:Nat))) th pt rs)=.ok (.nx,frD die s k o l n (.v (dvN L B F)) (.own (fdD s k o l C λx=>G x+F y*(if nx s o y t=x then die.getD t 0 else 0))) tn (dcN (nK s k o l K (nx s o y t)) C λx=>G x+F y*(if nx s o y t=x then die.getD t 0 else 0)) (.v (kS y)) (.v (.int (t:Nat))) u v rs):=by
 have S27:=h.ds.S27;have hw:die[t]?=some (die.getD t 0):=by rw[getD_eq_getElem?_getD,getElem?_eq_getElem ht];rfl
 have hw9:die.getD t 0<=9:=(h.d.2 _ (mem_of_getElem? hw)).2;have hCp:0<C:=by rw[hC];exact mul_pos hB (by omega)
 have hBv:B<2^200:=lt_of_le_of_lt (by rw[hC];exact Nat.le_mul_of_pos_right B (by omega)) vC;have es:=y9 (die.getD t 0) die.sum (by omega) (lt_of_le_of_lt S27.2 (by decide +kernel));have et:=QY (a:=F y) (c:=die.getD t 0) (B:=B) (C:=die.sum) hB (by omega) hBv (lt_of_le_of_lt S27.2 (by decide +kernel)) hF (lt_of_le_of_lt hw9 (by decide +kernel));rw[<- hC]at et;have g1:=j7 (λx=>nrm (F x:Nat) B) hy;have ea:=Gb (a:=G (nx s o y t)) (c:=F y*die.getD t 0) hCp vC hG hFw;have eb:=ZJ (die:=die) (k:=k) (l:=l) h.ne y t;generalize hq:nx s o y t=q at *;generalize hwd:die.getD t 0=w at *;have G':∀x,(G x+F y*(if q=x then w else 0))=if x=q then G q+F y*w else G x:=λx=>by
  by_cases c:x=q
  ·rw[if_pos c,if_pos c.symm,c]
  ·rw[if_neg c,if_neg λz=>c z.symm,mul_zero,add_zero]
 simp only[G'];refine⟨.v (bD s k o l q),.v (nrm ((F y*w:Nat):Int) C),rfl,rfl,?_⟩;have x0:dE zp (.ix (.var 0) (.c (.int 0))) (frD die s k o l n (.v (dvN L B F)) (.own (fdD s k o l C G)) tn (dcN K C G) (.v (kS y)) (.v (.int (t:Nat))) (.v (bD s k o l q)) pt rs)=.ok (.v (Ji die),frD die s k o l n (.v (dvN L B F)) (.own (fdD s k o l C G)) tn (dcN K C G) (.v (kS y)) (.v (.int (t:Nat))) (.v (bD s k o l q)) pt rs):=J0 (zA rfl) x_c rfl;refine zO (E1:=frD die s k o l n (.v (dvN L B F)) (.own (fdD s k o l C G)) tn (dcN K C G) (.v (kS y)) (.v (.int (t:Nat))) (.v (bD s k o l q)) pt rs) (yH (jx (F:=yP) rfl (zA rfl) (zA rfl) (zA rfl) eb) (Jh rfl hth rfl)) ?_;refine zO (E1:=frD die s k o l n (.v (dvN L B F)) (.own (fdD s k o l C G)) tn (dcN K C G) (.v (kS y)) (.v (.int (t:Nat))) (.v (bD s k o l q)) (.v (nrm ((F y*w:Nat):Int) C)) rs) (yH (zj (F:=jn) rfl (GT (q:=kK y) rfl (.inr rfl) (zA rfl) (jg y) g1) (zj (F:=zi) rfl (J0 x0 (zA rfl) (zFn hw)) (Jg (zB x0 zM) (zEk die)) es) et) (Jh rfl hpt rfl)) ?_;refine zX ?_;have keepK:En s k o l q->(K.map λx=>nrm (((if x=q then G q+F y*w else G x):Nat):Int) C)=K.map λx=>nrm (G x:Nat) C:=λe=>map_congr_left λx hx=>by
  have:¬x=q:=λz=>hKl x hx (z▸e)
  rw[if_neg this]
 have dK:En s k o l q->dcN K C (λx=>if x=q then G q+F y*w else G x)=dcN K C G:=λe=>congrArg (DV.Slot.dct (K.map kK)) (keepK e)
 by_cases c1:q=some (s,k)
 ·have b1:bD s k o l q=.int 1:=if_pos c1
  have n1:nK s k o l K q=K:=if_pos (.inl c1);have e2:¬(some (o,l):St)=q:=λe=>E_ne h (e.trans c1)
  have fD:fdD s k o l C (λx=>if x=q then G q+F y*w else G x)=[nrm (G (some (o,l)):Nat) C,nrm ((G q+F y*w:Nat):Int) C]:=by
   show [nrm (((if some (o,l)=q then G q+F y*w else G (some (o,l))):Nat):Int) C,nrm (((if some (s,k)=q then G q+F y*w else G (some (s,k))):Nat):Int) C]=_
   rw[if_neg e2,if_pos c1.symm]
  rw[b1,n1,dK (.inl c1),fD];subst c1;exact ZQ (t_E (x_is (zA rfl) rfl rfl)) (zX (s_ix2 (j:=1) rfl (zj (F:=y6) rfl (zEc rfl (zA rfl) rfl) (zA rfl) ea) (zA rfl) rfl rfl))
 ·by_cases c2:q=some (o,l)
  ·have b1:bD s k o l q=.int 0:=by unfold bD;rw[if_neg c1,if_pos c2]
   have n1:nK s k o l K q=K:=if_pos (.inr c2);have fD:fdD s k o l C (λx=>if x=q then G q+F y*w else G x)=[nrm ((G q+F y*w:Nat):Int) C,nrm (G (some (s,k)):Nat) C]:=by
    show [nrm (((if some (o,l)=q then G q+F y*w else G (some (o,l))):Nat):Int) C,nrm (((if some (s,k)=q then G q+F y*w else G (some (s,k))):Nat):Int) C]=_
    rw[if_pos c2.symm,if_neg λz=>c1 z.symm]
   rw[b1,n1,dK (.inr c2),fD];subst c2;exact ZQ (t_E (x_is (zA rfl) rfl rfl)) (zX (s_ix2 (j:=0) rfl (zj (F:=y6) rfl (zEc rfl (zA rfl) rfl) (zA rfl) ea) (zA rfl) rfl rfl))
  ·have b1:bD s k o l q=kS q:=by unfold bD;rw[if_neg c1,if_neg c2]
   have nE:¬En s k o l q:=λz=>z.elim c1 c2
   have n1:nK s k o l K q=uD K q:=if_neg nE;have fD:fdD s k o l C (λx=>if x=q then G q+F y*w else G x)=fdD s k o l C G:=by
    show [nrm (((if some (o,l)=q then G q+F y*w else G (some (o,l))):Nat):Int) C,nrm (((if some (s,k)=q then G q+F y*w else G (some (s,k))):Nat):Int) C]=_
    rw[if_neg λz=>c2 z.symm,if_neg λz=>c1 z.symm]
   rw[b1,n1,fD];have p:=QV (λx=>nrm (G x:Nat) C) q (nrm ((G q+F y*w:Nat):Int) C) K;have ep:((uD K q).map λx=>if x=q then nrm ((G q+F y*w:Nat):Int) C else nrm (G x:Nat) C)=(uD K q).map λx=>nrm (((if x=q then G q+F y*w else G x):Nat):Int) C:=map_congr_left λx _=>by split<;>rfl
   rw[ep]at p;have gd:(YU (K.map kK) (K.map λx=>nrm (G x:Nat) C) (kK q)).getD (.t [.int 0,.int 1])=nrm (G q:Nat) C:=by
    by_cases m:q∈K
    ·rw[j7 (λx=>nrm (G x:Nat) C) m];rfl
    ·rw[zFo (λx=>nrm (G x:Nat) C) m,h0 q nE m,uI hCp];rfl
   obtain⟨a',b',ekS⟩:=zFs q;have ty:tyD (kS q)=some "tuple":=by rw[ekS];rfl
   exact wQ (t_E (x_is (zA rfl) ty rfl)) (zX (v0 (q:=kK q) (p:=(_,_)) rfl (zj (F:=y6) rfl (x_dget (q:=kK q) rfl (zA rfl) (yV (zB x_c (zB x_c zM)) rfl zk) (jg q) gd) (zA rfl) ea) (zA rfl) (jg q) (kl (by omega)) p rfl))
end
section
variable{die:List Nat}{s k o l:Nat}
structure GK(s k o l:Nat)(K:List St)(G:St->Nat):Prop where
 nd:K.Nodup
 live:∀x∈K,x∈L0 s k o l
 zero:∀x,¬En s k o l x->x∉K->G x=0
def GK.len(h:Mt die s k o l){K:List St}{G:St->Nat}(g:GK s k o l K G):K.length<=100 :=
 le_trans (List.Nodup.length_le_of_subset g.nd g.live) (le_trans (Ga h) (by decide))
def GK.next{K:List St}{G:St->Nat}(g:GK s k o l K G){q:St}(hq:q∈L0 s k o l\/En s k o l q)(m w:Nat):GK s k o l (nK s k o l K q) λx=>G x+m*(if q=x then w else 0):=by
 unfold nK;by_cases e:En s k o l q
 ·rw[if_pos e]
  refine⟨g.nd,g.live,λx hx hn=>?_⟩;have:¬q=x:=λz=>hx (z▸e)
  simp only[if_neg this,mul_zero,add_zero];exact g.zero x hx hn
 ·rw[if_neg e]
  refine⟨QW g.nd,λx hx=>?_,λx hx hn=>?_⟩
  ·rcases uF.mp hx with hx|rfl
   ·exact g.live x hx
   ·exact hq.resolve_right e
  ·have:¬q=x:=λz=>hn (uF.mpr (.inr z.symm))
   simp only[if_neg this,mul_zero,add_zero];exact g.zero x hx λm=>hn (uF.mpr (.inl m))
def lt200{a b:Nat}(h:a<2^150)(hb:b<=9):a*b<2^200 :=
 lt_of_le_of_lt (Nat.mul_le_mul_left a hb) (lt_of_lt_of_le (Nat.mul_lt_mul_of_pos_right h (by decide)) (by decide +kernel))
def zC2(h:Mt die s k o l){n:Nat}{L K:List St}{F G:St->Nat}{B C:Nat}{y:St}(hy:y∈L)(hy0:y∈L0 s k o l)(hB:0<B)(hC:C=B*die.sum)(vC:C<2^200)(hF:F y<2^150)(hG:∀t x,t<=die.length->G x+F y*ccT die s o t x y<2^200)(gk:GK s k o l K G)(tn sg th pt rs:DV.Slot)(hsg:zn sg=true)(hth:zn th=true)(hpt:zn pt=true) :
  ∃K' sg' u v,GK s k o l K' (λx=>G x+F y*ccT die s o die.length x y)/\zn sg'=true/\zn u=true/\zn v=true/\dB zp jo (frD die s k o l n (.v (dvN L B F)) (.own (fdD s k o l C G)) tn (dcN K C G) (.v (kS y)) sg th pt rs)=.ok (.nx,frD die s k o l n (.v (dvN L B F)) (.own (fdD s k o l C λx=>G x+F y*ccT die s o die.length x y)) tn (dcN K' C λx=>G x+F y*ccT die s o die.length x y) (.v (kS y)) sg' u v rs):=by
 obtain⟨E',f1,K',sg',u,v,hE,g',q1,q2,q3⟩:=z9 (tg:=gN 7) (body:=dB zp wy) (λt E=>∃K' sg' u v,E=frD die s k o l n (.v (dvN L B F)) (.own (fdD s k o l C λx=>G x+F y*ccT die s o t x y)) tn (dcN K' C λx=>G x+F y*ccT die s o t x y) (.v (kS y)) sg' u v rs/\GK s k o l K' (λx=>G x+F y*ccT die s o t x y)/\zn sg'=true/\zn u=true/\zn v=true) (DV.zG 0 die.length) 0 (frD die s k o l n (.v (dvN L B F)) (.own (fdD s k o l C G)) tn (dcN K C G) (.v (kS y)) sg th pt rs)
  ⟨K,sg,th,pt,by simp only[uB,mul_zero,add_zero],by simpa only[uB,mul_zero,add_zero]using gk,hsg,hth,hpt⟩
  (λi d q E ⟨K',sg',u,v,hE,g',q1,q2,q3⟩=>by
   rw[zero_add]at hE g' ⊢;obtain⟨rfl,hi⟩:=zCn q;have hw:die[i]?=some (die.getD i 0):=by rw[getD_eq_getElem?_getD,getElem?_eq_getElem hi];rfl
   have hw9:die.getD i 0<=9:=(h.d.2 _ (mem_of_getElem? hw)).2;obtain⟨u',v',p2,p3,b⟩:=zEq h (n:=n) (N':=0) (L:=L) (K:=K') (F:=F) (G:=λx=>G x+F y*ccT die s o i x y) (B:=B) (C:=C) hy hi hB hC vC (lt_trans hF (by decide +kernel)) (lt200 hF hw9) (hG i _ (by omega)) (g'.len h) (λx hx=>WZ h (g'.live x hx)) g'.zero tn u v rs q2 q3;have e:(λx=>G x+F y*ccT die s o i x y+F y*(if nx s o y i=x then die.getD i 0 else 0))=λx=>G x+F y*ccT die s o (i+1) x y:=by
    funext x
    rw[uC,mul_add,add_assoc]
   have gn:=g'.next (nx_in h hy0 i) (F y) (die.getD i 0);rw[e]at gn;rw[e]at b;refine⟨_,_,?_,b,_,_,_,_,rfl,gn,rfl,p2,p3⟩;subst hE;cases sg'<;>first|rfl|(cases q1))
 rw[ym,zero_add]at hE g';subst hE;refine⟨K',sg',u,v,g',q1,q2,q3,zX (WS (tg:=.n 7) (j:=(die.length:Int)) (zB (Jg (zB (J0 (r:=.v (Ji die)) (zA rfl) x_c rfl) zM) (WU die)) zM) rfl ⟨by omega,?_⟩ (by rw[Int.toNat_natCast];exact f1))⟩;have:=h.d.1;omega
theorem QZ{α:Type}(f:α->Nat):∀{L:List α} {i:Nat} {y:α},L[i]?=some y->((L.take i).map f).sum+f y<=(L.map f).sum
 | [],_,_,h=>by simp at h|a::L,0,y,h=>by simp at h;subst h;simp
 |a::L,i+1,y,h=>by
  have:=QZ f (L:=L) (i:=i) (y:=y) (by simpa using h);simp only[List.take_succ_cons,map_cons,sum_cons];omega
def ccT_le{t:Nat}(x y:St)(h:t<=die.length):ccT die s o t x y<=ccT die s o die.length x y:=by
 have gen:∀d,ccT die s o t x y<=ccT die s o (t+d) x y:=λd=>by
  induction d with
  |zero=>exact le_refl _|succ d ih=>rw[<- add_assoc,uC];omega
 have:=gen (die.length-t)
 rwa [show t+(die.length-t)=die.length by omega]at this
def S150(h:Mt die s k o l){n:Nat}(hn:n<=30):die.sum^n<2^150 :=
 lt_of_le_of_lt (Nat.pow_le_pow_left h.ds.S27.2 n) (lt_of_le_of_lt (Nat.pow_le_pow_right (by omega) hn) (by decide +kernel))
def wt_pos(h:Mt die s k o l){r:List Nat}(hr:∀t∈r,t<die.length):0<wt die r:=by
 have gen:∀(r:List Nat) (a:Nat),0<a->(∀t∈r,t<die.length)->0<r.foldl (λa x=>a*die.getD x 0) a:=by
  intro r
  induction r with
  |nil=>exact λa ha _=>ha
  |cons t r ih =>
   intro a ha hr;have ht:=hr t qE;have hw:die[t]?=some (die.getD t 0):=by rw[getD_eq_getElem?_getD,getElem?_eq_getElem ht];rfl
   have:=(h.d.2 _ (mem_of_getElem? hw)).1;exact ih _ (mul_pos ha (by omega)) λu hu=>hr u (qD _ hu)
 exact gen r 1 (by decide) hr
def A_pos(h:Mt die s k o l){n:Nat}{r:List Nat}(hr:r∈zw die.length n):0<A die s k o l n (st s k o l r):=by
 have hp:=wt_pos h (QU _ n r hr);unfold A;generalize zw die.length n=R at hr
 induction R with
 |nil=>cases hr
 |cons a R ih =>
  simp only[map_cons,sum_cons];rcases mem_cons.mp hr with rfl|hr
  ·rw[if_pos rfl];omega
  ·have:=ih hr;omega
def zFt(h:Mt die s k o l){n:Nat}{K:List St}(g:GK s k o l K (A die s k o l n)):Cov die s k o l n K:=⟨g.nd,g.live,λr hr e=>by
 have p:=A_pos h hr;by_cases m:st s k o l r∈K
 ·exact m
 ·rw[g.zero _ e m]at p;omega⟩
abbrev Sn(die:List Nat)(n:Nat):Nat:=die.sum^n
def zAm(h:Mt die s k o l){n i:Nat}(hi:i+1<=30){L:List St}(c:Cov die s k o l i L)(tn sd sg th pt rs:DV.Slot)(hsd:zn sd=true)(hsg:zn sg=true)(hth:zn th=true)(hpt:zn pt=true) :
  ∃K sd' sg' u v,GK s k o l K (A die s k o l (i+1))/\zn sd'=true/\zn sg'=true/\zn u=true/\zn v=true/\DV.wX (gN 6) (dB zp jo) (L.map kS) (frD die s k o l n (.v (dvN L (Sn die i) (A die s k o l i))) (.own (fdD s k o l (Sn die i) (A die s k o l i))) tn (.dct [] []) sd sg th pt rs)=.ok (.nx,frD die s k o l n (.v (dvN L (Sn die i) (A die s k o l i))) (.own (fdD s k o l (Sn die (i+1)) (A die s k o l (i+1)))) tn (dcN K (Sn die (i+1)) (A die s k o l (i+1))) sd' sg' u v rs):=by
 have S27:=h.ds.S27;have hB:0<Sn die i:=pow_pos (by omega);have hC:Sn die (i+1)=Sn die i*die.sum:=pow_succ ..;have v150:=S150 h hi;have hst:=λx=>step h c x
 let g0:St->Nat:=λx=>if En s k o l x then A die s k o l i x*die.sum else 0
 have hst':∀x,A die s k o l (i+1) x=g0 x+(L.map λy=>A die s k o l i y*ccT die s o die.length x y).sum:=hst;have f0:fdD s k o l (Sn die i) (A die s k o l i)=fdD s k o l (Sn die (i+1)) (λx=>g0 x+((L.take 0).map λy=>A die s k o l i y*ccT die s o die.length x y).sum):=by
  have e1:g0 (some (o,l))=A die s k o l i (some (o,l))*die.sum:=if_pos (.inr rfl);have e2:g0 (some (s,k))=A die s k o l i (some (s,k))*die.sum:=if_pos (.inl rfl);show [_,_]=[nrm ((g0 (some (o,l))+0:Nat):Int) _,nrm ((g0 (some (s,k))+0:Nat):Int) _];rw[add_zero (g0 (some (o,l))),add_zero (g0 (some (s,k))),e1,e2,hC,<- zFr _ hB (by omega),<- zFr _ hB (by omega)]
 have gk0:GK s k o l [] (λx=>g0 x+((L.take 0).map λy=>A die s k o l i y*ccT die s o die.length x y).sum):=⟨nodup_nil,λx hx=>absurd hx List.not_mem_nil,λx hx _=>(show g0 x+0=0 from if_neg hx)⟩;obtain⟨E',f1,K,sd',sg',u,v,hE,g',q0,q1,q2,q3⟩:=z9 (tg:=gN 6) (body:=dB zp jo) (λj E=>∃K sd' sg' u v,E=frD die s k o l n (.v (dvN L (Sn die i) (A die s k o l i))) (.own (fdD s k o l (Sn die (i+1)) λx=>g0 x+((L.take j).map λy=>A die s k o l i y*ccT die s o die.length x y).sum)) tn (dcN K (Sn die (i+1)) λx=>g0 x+((L.take j).map λy=>A die s k o l i y*ccT die s o die.length x y).sum) sd' sg' u v rs/\GK s k o l K (λx=>g0 x+((L.take j).map λy=>A die s k o l i y*ccT die s o die.length x y).sum)/\zn sd'=true/\zn sg'=true/\zn u=true/\zn v=true) (L.map kS) 0 (frD die s k o l n (.v (dvN L (Sn die i) (A die s k o l i))) (.own (fdD s k o l (Sn die i) (A die s k o l i))) tn (.dct [] []) sd sg th pt rs)
  ⟨[],sd,sg,th,pt,by rw[f0];rfl,gk0,hsd,hsg,hth,hpt⟩
  (λj d q E ⟨K,sd',sg',u,v,hE,g',q0,q1,q2,q3⟩=>by
   rw[zero_add]at hE g' ⊢;obtain⟨y,ey,rfl⟩:∃y,L[j]?=some y/\d=kS y:=by
    rw[getElem?_map,Option.map_eq_some_iff]at q;obtain⟨y,e1,e2⟩:=q;exact⟨y,e1,e2.symm⟩
   have et:L.take (j+1)=L.take j++[y]:=by rw[take_add_one,ey];rfl
   have my:=mem_of_getElem? ey;obtain⟨K',sg2,u',v',gn,p1,p2,p3,b⟩:=zC2 h (n:=n) (L:=L) (K:=K) (F:=A die s k o l i) (G:=λx=>g0 x+((L.take j).map λy=>A die s k o l i y*ccT die s o die.length x y).sum) (B:=Sn die i) (C:=Sn die (i+1)) my (c.live y my) hB hC (lt_trans v150 (by decide +kernel)) (lt_of_le_of_lt (zEo h i y) (S150 h (by omega))) (λt x ht=>by
    have a1:=QZ (λy=>A die s k o l i y*ccT die s o die.length x y) ey;have a2:=Nat.mul_le_mul_left (A die s k o l i y) (ccT_le (die:=die) (s:=s) (o:=o) x y ht);have a5:=Nat.add_le_add_left (le_trans (Nat.add_le_add_left a2 _) a1) (g0 x);rw[<- hst' x,<- add_assoc]at a5;have this:=le_trans a5 (zEo h (i+1) x);exact lt_of_le_of_lt this (lt_trans v150 (by decide +kernel))) g' tn sg' u v rs q1 q2 q3
   have e:(λx=>g0 x+((L.take j).map λy=>A die s k o l i y*ccT die s o die.length x y).sum+A die s k o l i y*ccT die s o die.length x y)=λx=>g0 x+((L.take (j+1)).map λy=>A die s k o l i y*ccT die s o die.length x y).sum:=by
    funext x
    rw[et,map_append,sum_append];simp[add_assoc]
   rw[e]at gn b;refine⟨_,_,?_,b,_,_,_,_,_,rfl,gn,rfl,p1,p2,p3⟩;subst hE;cases sd'<;>first|rfl|(cases q0))
 rw[length_map,zero_add,take_length]at hE g';have e:(λx=>g0 x+(L.map λy=>A die s k o l i y*ccT die s o die.length x y).sum)=A die s k o l (i+1):=funext λx=>(hst' x).symm
 rw[e]at hE g';subst hE;exact⟨K,sd',sg',u,v,g',q0,q1,q2,q3,f1⟩
end
section
variable{die:List Nat}{s k o l:Nat}
def lis_K(L:List St)(vs:List D):Bi.f .lisK [.dct (L.map kK) vs]=some (.own (L.map kS)):=by
 show some (R.own ((L.map kK).map kD))=_
 rw[map_map];congr 2;exact map_congr_left λq _=>kD_kK q
def gk_zero:GK s k o l [none] (A die s k o l 0):=⟨by simp,λx hx=>by rw[mem_singleton.mp hx];exact qE,λx _ hn=>by
 rw[zAL,if_neg λe=>hn (by rw[e];exact List.mem_singleton_self _)]⟩
def x_dnew{fs:List FI}{E:zN}:dE fs .dnew E=.ok (.dct [] [],E):=rfl
def zEr(h:Mt die s k o l){n i:Nat}(hi:i+1<=30){L:List St}(c:GK s k o l L (A die s k o l i))(tn lt sd sg th pt rs:DV.Slot)(hlt:zn lt=true)(hsd:zn sd=true)(hsg:zn sg=true)(hth:zn th=true)(hpt:zn pt=true) :
  ∃K sd' sg' u v,GK s k o l K (A die s k o l (i+1))/\zn sd'=true/\zn sg'=true/\zn u=true/\zn v=true/\dB zp jp (frD die s k o l n (dcN L (Sn die i) (A die s k o l i)) (.own (fdD s k o l (Sn die i) (A die s k o l i))) tn lt sd sg th pt rs)=.ok (.nx,frD die s k o l n (dcN K (Sn die (i+1)) (A die s k o l (i+1))) (.own (fdD s k o l (Sn die (i+1)) (A die s k o l (i+1)))) tn .e sd' sg' u v rs):=by
 obtain⟨K,sd',sg',u,v,g',q0,q1,q2,q3,f1⟩:=zAm h (n:=n) hi (zFt h c) tn sd sg th pt rs hsd hsg hth hpt;refine⟨K,sd',sg',u,v,g',q0,q1,q2,q3,?_⟩;exact zO (yH x_dnew (Jh rfl hlt rfl)) (zO (w6 (tg:=.n 6) (zCj rfl rfl (Jg (b:=.lisK) (zB (zA rfl) zM) (lis_K _ _))) rfl f1) (zX (yH (zFl rfl rfl) rfl)))
def zC3(h:Mt die s k o l){n:Nat}(hn:n<=30):∃L t4 t5 t6 t7 t8 t9,GK s k o l L (A die s k o l n)/\zn t6=true/\DV.wX (gN 4) (dB zp jp) (DV.zG 0 n) (frD die s k o l n (dcN [none] (Sn die 0) (A die s k o l 0)) (.own (fdD s k o l (Sn die 0) (A die s k o l 0))) .e .e .e .e .e .e .e)=.ok (.nx,frD die s k o l n (dcN L (Sn die n) (A die s k o l n)) (.own (fdD s k o l (Sn die n) (A die s k o l n))) t4 t5 t6 t7 t8 t9 .e):=by
 obtain⟨E',f1,L,t4,t5,t6,t7,t8,t9,hE,g,q4,q5,q6,q7,q8,q9⟩:=z9 (tg:=gN 4) (body:=dB zp jp) (λi E=>∃L t4 t5 t6 t7 t8 t9,E=frD die s k o l n (dcN L (Sn die i) (A die s k o l i)) (.own (fdD s k o l (Sn die i) (A die s k o l i))) t4 t5 t6 t7 t8 t9 .e/\GK s k o l L (A die s k o l i)/\zn t4=true/\zn t5=true/\zn t6=true/\zn t7=true/\zn t8=true/\zn t9=true) (DV.zG 0 n) 0 (frD die s k o l n (dcN [none] (Sn die 0) (A die s k o l 0)) (.own (fdD s k o l (Sn die 0) (A die s k o l 0))) .e .e .e .e .e .e .e) ⟨_,_,_,_,_,_,_,rfl,gk_zero,rfl,rfl,rfl,rfl,rfl,rfl⟩
  (λi d q E ⟨L,t4,t5,t6,t7,t8,t9,hE,g,q4,q5,q6,q7,q8,q9⟩=>by
   rw[zero_add]at hE g ⊢;obtain⟨rfl,hi⟩:=zCn q;obtain⟨K,u6,u7,u8,u9,g',p6,p7,p8,p9,b⟩:=zEr h (n:=n) (i:=i) (by omega) g (.v (.int (i:Nat))) t5 t6 t7 t8 t9 .e q5 q6 q7 q8 q9;refine⟨_,_,?_,b,_,_,_,_,_,_,_,rfl,g',rfl,rfl,p6,p7,p8,p9⟩;subst hE;cases t4<;>first|rfl|(cases q4))
 rw[ym,zero_add]at hE g;subst hE;exact⟨_,_,_,_,_,_,_,g,q6,f1⟩
def zEs(h:Mt die s k o l){n:Nat}(hn:n<=30){L:List St}(g:GK s k o l L (A die s k o l n))(fd t4 t5 t6 t7 t8 t9:DV.Slot)(h6:zn t6=true):∃u6,DV.wX (gN 6) (dB zp wx) (L.map kS) (frD die s k o l n (.v (dvN L (Sn die n) (A die s k o l n))) fd t4 t5 t6 t7 t8 t9 (.v (.t [.int 0,.int 1])))=.ok (.nx,frD die s k o l n (.v (dvN L (Sn die n) (A die s k o l n))) fd t4 t5 u6 t7 t8 t9 (.v (nrm (RR die s k o l n:Nat) (Sn die n)))):=by
 have S27:=h.ds.S27;have hB:0<Sn die n:=pow_pos (by omega);have vB:=S150 h hn;have c:=zFt h g;have hr:=ZR h c;have rl:=RR_le h n;obtain⟨E',f1,u6,hE,q6⟩:=z9 (tg:=gN 6) (body:=dB zp wx) (λi E=>∃u6,E=frD die s k o l n (.v (dvN L (Sn die n) (A die s k o l n))) fd t4 t5 u6 t7 t8 t9 (.v (nrm (((L.take i).map (A die s k o l n)).sum:Nat) (Sn die n)))/\zn u6=true) (L.map kS) 0 (frD die s k o l n (.v (dvN L (Sn die n) (A die s k o l n))) fd t4 t5 t6 t7 t8 t9 (.v (.t [.int 0,.int 1]))) ⟨t6,by rw[<- uI hB];rfl,h6⟩
  (λi d q E ⟨u6,hE,q6⟩=>by
   rw[zero_add]at hE ⊢;obtain⟨y,ey,rfl⟩:∃y,L[i]?=some y/\d=kS y:=by
    rw[getElem?_map,Option.map_eq_some_iff]at q;obtain⟨y,e1,e2⟩:=q;exact⟨y,e1,e2.symm⟩
   have et:L.take (i+1)=L.take i++[y]:=by rw[take_add_one,ey];rfl
   have tl:=QZ (A die s k o l n) ey;rw[hr]at tl;have b1:((L.take i).map (A die s k o l n)).sum<2^200:=lt_of_le_of_lt (le_trans (le_trans (Nat.le_add_right _ _) tl) rl) (lt_trans vB (by decide +kernel));have b2:A die s k o l n y<2^200:=lt_of_le_of_lt (le_trans (le_trans (Nat.le_add_left _ _) tl) rl) (lt_trans vB (by decide +kernel));have ea:=Gb (a:=((L.take i).map (A die s k o l n)).sum) (c:=A die s k o l n y) hB (lt_trans vB (by decide +kernel)) b1 b2;have es:((L.take i).map (A die s k o l n)).sum+A die s k o l n y=((L.take (i+1)).map (A die s k o l n)).sum:=by rw[et,map_append,sum_append];simp
   rw[es]at ea;have g1:=j7 (λx=>nrm (A die s k o l n x:Nat) (Sn die n)) (mem_of_getElem? ey);refine⟨frD die s k o l n (.v (dvN L (Sn die n) (A die s k o l n))) fd t4 t5 (.v (kS y)) t7 t8 t9 (.v (nrm (((L.take i).map (A die s k o l n)).sum:Nat) (Sn die n))),_,?_,zX (yH (zj (F:=y6) rfl (zA rfl) (GT (q:=kK y) rfl (.inr rfl) (zA rfl) (jg y) g1) ea) rfl),_,rfl,rfl⟩;subst hE;cases u6<;>first|rfl|(cases q6))
 rw[length_map,zero_add,take_length,hr]at hE;subst hE;exact⟨u6,f1⟩
def e_due(h:Mt die s k o l){n:Nat}(hn:n<=30):JI [.v (yI die s k o l),.v (.int (n:Nat))]=.ok (.v (ans die s k o l n),O2):=by
 obtain⟨L,t4,t5,t6,t7,t8,t9,g,q6,f1⟩:=zC3 h hn;obtain⟨u6,f2⟩:=zEs h hn g (.own (fdD s k o l (Sn die n) (A die s k o l n))) t4 t5 t6 t7 t8 t9 q6;have z1:dcN [none] (Sn die 0) (A die s k o l 0)=.dct [kK none] [.t [.int 1,.int 1]]:=by
  have a1:nrm (A die s k o l 0 none:Nat) (Sn die 0)=.t [.int 1,.int 1]:=by rw[zAL,if_pos rfl,show Sn die 0=1 from Nat.pow_zero _,YB,Nat.gcd_self];rfl
  show DV.Slot.dct [kK none] [nrm (A die s k o l 0 none:Nat) (Sn die 0)]=_
  rw[a1]
 have a0:∀x:Nat×Nat,nrm (A die s k o l 0 (some x):Nat) (Sn die 0)=.t [.int 0,.int 1]:=λx=>by
  rw[zAL,if_neg (by simp),show Sn die 0=1 from Nat.pow_zero _];exact uI (by decide)
 have z2:fdD s k o l (Sn die 0) (A die s k o l 0)=[.t [.int 0,.int 1],.t [.int 0,.int 1]]:=by
  show [_,_]=_
  rw[a0,a0]
 rw[z1,z2]at f1;have c3:∀a b c:D,[a,b,c].length<=cap:=λa b c=>by simp[cap]
 refine yS (r:=.v (ans die s k o l n)) (E1:=frD die s k o l n (.v (dvN L (Sn die n) (A die s k o l n))) (.own (fdD s k o l (Sn die n) (A die s k o l n))) t4 t5 u6 t7 t8 t9 (.v (nrm (RR die s k o l n:Nat) (Sn die n)))) ?_ rfl;refine zO (E1:=[.v (yI die s k o l),.v (.int (n:Nat)),.dct [kK none] [.t [.int 1,.int 1]],.e,.e,.e,.e,.e,.e,.e,.e]) (yH (x_disp (q:=kK none) (yV (zB x_c (zB x_c zM)) rfl zk) (yV (zB x_c (zB x_c zM)) rfl zk) rfl) rfl) ?_;refine zO (yH (WR (zB (yV (zB x_c (zB x_c zM)) rfl zk) (zB (yV (zB x_c (zB x_c zM)) rfl zk) zM)) rfl zk) rfl) ?_;refine zO (WS (tg:=.n 4) (j:=(n:Int)) (zB (zA rfl) zM) rfl ⟨by omega,by omega⟩ (by rw[Int.toNat_natCast];exact f1)) ?_;refine zO (yH (yV (zB x_c (zB x_c zM)) rfl zk) rfl) ?_;refine zO (w6 (tg:=.n 6) (zCj rfl rfl (Jg (b:=.lisK) (zB (zA rfl) zM) (lis_K _ _))) rfl f2) ?_;exact zX (yT (yV (zB (zEc (k:=1) rfl x_c rfl) (zB (zEc (k:=0) rfl x_c rfl) (zB (zA rfl) zM))) rfl (c3 _ _ _)))
end
def Qa{fs:List FI}{E E1:zN}{i:Nat}{b v:_}{k:Nat}{ds:List D}{a y:Int}(hE:E[i]?=some (.own ds))(h1:dE fs b E=.ok (.v (.int (k:Nat)),E))(hd:ds[k]?=some (.int a))(h2:dE fs v E=.ok (.v (.int y),E))(h3:E.set i (.own (ds.set k (.int (a+y))))=E1):dS fs (.sAugIx i b v) E=.ok (.nx,E1):=by
 subst h3;have hk:k<ds.length:=(qG.mp hd).1;have n0:¬((k:Nat):Int)<0:=by omega
 have ix:ixN ds.length (k:Int)=some k:=by
  have:(k:Int)<(ds.length:Nat):=by omega
  unfold ixN;rw[if_pos (by omega)];simp[this]
 simp only[zCL,DV.sAugIx,hE,yg,Bool.false_eq_true,if_false,h1,Slot.list?,n0,Int.toNat_natCast,hd,h2,ix,Slot.put]
def x_ixV{fs:List FI}{E:zN}{i:Nat}{b:_}{ds:List D}{k:Int}{d:D}(h:E[i]?=some (.v (.l ds)))(h1:dE fs b E=.ok (.v (.int k),E))(hx:atI ds k=some d):dE fs (.ixO i b) E=.ok (.v d,E):=by
 simp only[WC,Q5,zDk,h,yg,Bool.false_eq_true,if_false,h1,ixS,hx]
section
variable{die:List Nat}{s k o l:Nat}
def fi(s k o l:Nat)(x:St):Nat:=if x=some (s,k)then 1 else if x=some (o,l)then 0 else 2
def bD_En{x:St}(e:En s k o l x):bD s k o l x=.int (fi s k o l x:Nat):=by
 unfold bD fi;by_cases c:x=some (s,k)
 ·rw[if_pos c,if_pos c];rfl
 ·rw[if_neg c,if_neg c,if_pos (e.resolve_left c),if_pos (e.resolve_left c)];rfl
def bD_no{x:St}(e:¬En s k o l x):bD s k o l x=kS x:=by
 unfold bD;rw[if_neg λc=>e (.inl c),if_neg λc=>e (.inr c)]
def fi_no{x:St}(e:¬En s k o l x):fi s k o l x=2:=by
 unfold fi;rw[if_neg λc=>e (.inl c),if_neg λc=>e (.inr c)]
theorem zC4{x:St}(e:En s k o l x):∀r:List Nat,r.foldl (go s k o l) x=x
 | []=>rfl
 |t::r=>by
  have:go s k o l x t=x:=if_pos e;rw[foldl_cons,this,zC4 e r]
theorem zAM(hne:s≠o)(R:D):∀(r:List Nat) (q:St) (s3:DV.Slot),zn s3=true->¬En s k o l q->∃E',DV.wX (gN 3) (dB yR jF) (N r) [.v (yI die s k o l),.v R,.v (kS q),s3]=.ok (if En s k o l (r.foldl (go s k o l) q)then .ret (.v (.int (fi s k o l (r.foldl (go s k o l) q):Nat)))else .nx,.v (yI die s k o l)::.v R::E')
 | [],q,s3,h3,hq=>⟨[.v (kS q),s3],by
  have:¬En s k o l (([]:List Nat).foldl (go s k o l) q):=hq;rw[if_neg this];rfl⟩
 |t::r,q,s3,h3,hq=>by
  have eg:go s k o l q t=nx s o q t:=if_neg hq;have eb:=ZJ (die:=die) (k:=k) (l:=l) hne q t;have g1:gN 3 (.int (t:Nat)) [.v (yI die s k o l),.v R,.v (kS q),s3]=.ok [.v (yI die s k o l),.v R,.v (kS q),.v (.int (t:Nat))]:=by cases s3<;>first|rfl|(cases h3)
  rw[foldl_cons,eg];have st1:dS yR (.sSet 2 (.call 0 (.ev (.var 0) (.ev (.var 2) (.ev (.var 3) .nil))))) [.v (yI die s k o l),.v R,.v (kS q),.v (.int (t:Nat))]=.ok (.nx,[.v (yI die s k o l),.v R,.v (bD s k o l (nx s o q t)),.v (.int (t:Nat))]):=yH (jx (F:=yP) rfl (zA rfl) (zA rfl) (zA rfl) eb) rfl;generalize nx s o q t=q' at *;by_cases e:En s k o l q'
  ·rw[zC4 e r,if_pos e]
   rw[bD_En e]at st1;have b:dB yR jF [.v (yI die s k o l),.v R,.v (kS q),.v (.int (t:Nat))]=.ok (.ret (.v (.int (fi s k o l q':Nat))),[.v (yI die s k o l),.v R,.v (.int (fi s k o l q':Nat)),.v (.int (t:Nat))]):=zO st1 (zX (ZQ (t_E (x_is (zA rfl) rfl rfl)) (zX (yT (zA rfl)))));exact⟨_,uG g1 b⟩
  ·rw[bD_no e]at st1
   obtain⟨a',b',ekS⟩:=zFs q';have ty:tyD (kS q')=some "tuple":=by rw[ekS];rfl
   have b:dB yR jF [.v (yI die s k o l),.v R,.v (kS q),.v (.int (t:Nat))]=.ok (.nx,[.v (yI die s k o l),.v R,.v (kS q'),.v (.int (t:Nat))]):=zO st1 (zX (wQ (t_E (x_is (zA rfl) ty rfl)) wW));obtain⟨E',f⟩:=zAM hne R r q' (.v (.int (t:Nat))) rfl e;exact⟨E',Yi g1 b f⟩
def e_first(hne:s≠o)(r:List Nat):yf [.v (yI die s k o l),.v (tN r)]=.ok (.v (.int (fi s k o l (st s k o l r):Nat)),O2):=by
 obtain⟨E',f⟩:=zAM (die:=die) (k:=k) (l:=l) hne (tN r) r none .e rfl (λz=>by rcases z with z|z<;>cases z)
 have x1:dE yR (.t (.cons (.c .non) (.cons (.c (.int 0)) .nil))) [.v (yI die s k o l),.v (tN r),.e,.e]=.ok (.v (kS none),[.v (yI die s k o l),.v (tN r),.e,.e]):=yV (zB x_c (zB x_c zM)) rfl zk;show _=Out.ok (R.v (.int (fi s k o l (r.foldl (go s k o l) none):Nat)),O2);by_cases e:En s k o l (r.foldl (go s k o l) none)
 ·rw[if_pos e]at f
  exact yS (zO (yH x1 rfl) (vo (zCZ (tg:=.n 3) (zA rfl) rfl f))) rfl
 ·rw[if_neg e]at f
  rw[fi_no e];exact yS (zO (yH x1 rfl) (zO (zCZ (tg:=.n 3) (zA rfl) rfl f) (zX (yT x_c)))) rfl
def cn(die:List Nat)(s k o l:Nat)(R:List (List Nat))(j:Nat):Nat:=(R.map λr=>if fi s k o l (st s k o l r)=j then wt die r else 0).sum
def zC5(R:List (List Nat))(r:List Nat)(j:Nat):cn die s k o l (R++[r]) j=cn die s k o l R j+if fi s k o l (st s k o l r)=j then wt die r else 0:=by
 simp[cn]
def fi_lt(x:St):fi s k o l x=0\/fi s k o l x=1\/fi s k o l x=2:=by
 unfold fi;split
 ·exact .inr (.inl rfl)
 ·split
  ·exact .inl rfl
  ·exact .inr (.inr rfl)
abbrev c3'(die:List Nat)(s k o l:Nat)(R:List (List Nat)):List D:=[.int (cn die s k o l R 0:Nat),.int (cn die s k o l R 1:Nat),.int (cn die s k o l R 2:Nat)]
def zEt(h:Mt die s k o l){n:D}{R:List (List Nat)}{r:List Nat}(hr:∀t∈r,t<die.length):dB jq wO [.v (yI die s k o l),.v n,.own (c3' die s k o l R),.v (tN r)]=.ok (.nx,[.v (yI die s k o l),.v n,.own (c3' die s k o l (R++[r])),.v (tN r)]):=by
 have e1:=e_first (die:=die) (k:=k) (l:=l) h.ne r;have e2:=zEn (die:=die) (r:=r) (λx hx=>by have:=(h.d.2 x hx).2;omega) hr;have c0:=zC5 (die:=die) (s:=s) (k:=k) (o:=o) (l:=l) R r 0;have c1:=zC5 (die:=die) (s:=s) (k:=k) (o:=o) (l:=l) R r 1;have c2:=zC5 (die:=die) (s:=s) (k:=k) (o:=o) (l:=l) R r 2;rcases fi_lt (s:=s) (k:=k) (o:=o) (l:=l) (st s k o l r)with e|e|e
 ·rw[e]at e1 c0 c1 c2
  have w:c3' die s k o l (R++[r])=(c3' die s k o l R).set 0 (.int ((cn die s k o l R 0:Int)+((wt die r:Nat):Int))):=by
   show [D.int _,D.int _,D.int _]=[D.int _,D.int _,D.int _]
   rw[c0,c1,c2];simp
  rw[w];exact zX (Qa (k:=0) rfl (zj (F:=yf) rfl (zA rfl) (zA rfl) e1) rfl (zj (F:=yQ) rfl (J0 (r:=.v (Ji die)) (zA rfl) x_c rfl) (zA rfl) e2) rfl)
 ·rw[e]at e1 c0 c1 c2
  have w:c3' die s k o l (R++[r])=(c3' die s k o l R).set 1 (.int ((cn die s k o l R 1:Int)+((wt die r:Nat):Int))):=by
   show [D.int _,D.int _,D.int _]=[D.int _,D.int _,D.int _]
   rw[c0,c1,c2];simp
  rw[w];exact zX (Qa (k:=1) rfl (zj (F:=yf) rfl (zA rfl) (zA rfl) e1) rfl (zj (F:=yQ) rfl (J0 (r:=.v (Ji die)) (zA rfl) x_c rfl) (zA rfl) e2) rfl)
 ·rw[e]at e1 c0 c1 c2
  have w:c3' die s k o l (R++[r])=(c3' die s k o l R).set 2 (.int ((cn die s k o l R 2:Int)+((wt die r:Nat):Int))):=by
   show [D.int _,D.int _,D.int _]=[D.int _,D.int _,D.int _]
   rw[c0,c1,c2];simp
  rw[w];exact zX (Qa (k:=2) rfl (zj (F:=yf) rfl (zA rfl) (zA rfl) e1) rfl (zj (F:=yQ) rfl (J0 (r:=.v (Ji die)) (zA rfl) x_c rfl) (zA rfl) e2) rfl)
def zEu(h:Mt die s k o l)(x:St):(fi s k o l x=1↔x=some (s,k))/\(fi s k o l x=0↔x=some (o,l))/\(fi s k o l x=2↔¬En s k o l x):=by
 by_cases c1:x=some (s,k)
 ·have c2:¬x=some (o,l):=λe=>E_ne h (e.symm.trans c1)
  have e:fi s k o l x=1:=if_pos c1;rw[e];exact⟨iff_of_true rfl c1,iff_of_false (by decide) c2,iff_of_false (by decide) λz=>z (.inl c1)⟩
 ·by_cases c2:x=some (o,l)
  ·have e:fi s k o l x=0:=(if_neg c1).trans (if_pos c2)
   rw[e];exact⟨iff_of_false (by decide) c1,iff_of_true rfl c2,iff_of_false (by decide) λz=>z (.inr c2)⟩
  ·have n:¬En s k o l x:=λz=>z.elim c1 c2
   rw[fi_no n];exact⟨iff_of_false (by decide) c1,iff_of_false (by decide) c2,iff_of_true rfl n⟩
def cn_all(h:Mt die s k o l)(n:Nat):cn die s k o l (zw die.length n) 1=A die s k o l n (some (s,k))/\cn die s k o l (zw die.length n) 0=A die s k o l n (some (o,l))/\cn die s k o l (zw die.length n) 2=RR die s k o l n:=by
 unfold cn A RR;refine⟨?_,?_,?_⟩
 ·congr 1;exact map_congr_left λr _=>by simp only[(zEu h (st s k o l r)).1]
 ·congr 1;exact map_congr_left λr _=>by simp only[(zEu h (st s k o l r)).2.1]
 ·congr 1
  refine map_congr_left λr _=>?_
  by_cases e:En s k o l (st s k o l r)
  ·rw[if_pos e,if_neg λz=>(zEu h (st s k o l r)).2.2.mp z e]
  ·rw[if_neg e,if_pos ((zEu h (st s k o l r)).2.2.mpr e)]
def e_gone(h:Mt die s k o l){n:Nat}(hn:n<7):wP [.v (yI die s k o l),.v (.int (n:Nat))]=.ok (.v (ans die s k o l n),O2):=by
 have S27:=h.ds.S27;have hm:2<=die.length/\die.length<=3:=by rcases h.d.1 with e|e<;>omega
 obtain⟨E',f1,t3,hE,q3⟩:=z9 (tg:=gN 3) (body:=dB jq wO) (λi E=>∃t3,E=[.v (yI die s k o l),.v (.int (n:Nat)),.own (c3' die s k o l ((zw die.length n).take i)),t3]/\zn t3=true) (TL (zw die.length n)) 0 [.v (yI die s k o l),.v (.int (n:Nat)),.own [.int 0,.int 0,.int 0],.e] ⟨.e,rfl,rfl⟩
  (λi d q E ⟨t3,hE,q3⟩=>by
   rw[zero_add]at hE ⊢;obtain⟨r,er,rfl⟩:∃r,(zw die.length n)[i]?=some r/\d=tN r:=by
    rw[TL,getElem?_map,Option.map_eq_some_iff]at q;obtain⟨y,e1,e2⟩:=q;exact⟨y,e1,e2.symm⟩
   have et:(zw die.length n).take (i+1)=(zw die.length n).take i++[r]:=by rw[take_add_one,er];rfl
   rw[et];refine⟨_,_,?_,zEt h (QU _ n r (mem_of_getElem? er)),_,rfl,rfl⟩;subst hE;cases t3<;>first|rfl|(cases q3))
 rw[GY,zero_add,take_length]at hE;subst hE;obtain⟨a1,a0,a2⟩:=cn_all h n;have sp:=S_pow h.ds (show n<=80 by omega);have hsum:=three h n;have su:=sum_N [cn die s k o l (zw die.length n) 0,cn die s k o l (zw die.length n) 1,cn die s k o l (zw die.length n) 2];have e3:[cn die s k o l (zw die.length n) 0,cn die s k o l (zw die.length n) 1,cn die s k o l (zw die.length n) 2].sum=die.sum^n:=by
  simp only[sum_cons,List.sum_nil];omega
 rw[e3]at su;rw[show c3' die s k o l (zw die.length n)=N [cn die s k o l (zw die.length n) 0,cn die s k o l (zw die.length n) 1,cn die s k o l (zw die.length n) 2]from rfl,a0,a1,a2]at f1;rw[a0,a1,a2]at su;have c3:∀a b c:D,[a,b,c].length<=cap:=λa b c=>by simp[cap]
 let sl:D:=.l (N [A die s k o l n (some (o,l)),A die s k o l n (some (s,k)),RR die s k o l n])
 have cw:dE jq (.comp 1 ["_law_way"] ["_law_counts"] [2] (.iT (.t (.cons (.c (.int 1)) (.cons (.c (.int 0)) (.cons (.c (.int 2)) .nil))))) (.n 0) .tTr (.call 0 (.ev (.ixO 1 (.var 0)) (.ev (.cB .sum (.cons (.var 1) .nil)) .nil)))) [.v (yI die s k o l),.v (.int (n:Nat)),.v sl,t3]=.ok (.own [nrm (A die s k o l n (some (s,k)):Nat) (die.sum^n),nrm (A die s k o l n (some (o,l)):Nat) (die.sum^n),nrm (RR die s k o l n:Nat) (die.sum^n)],[.v (yI die s k o l),.v (.int (n:Nat)),.v sl,t3]):=by
  refine wR (ds:=[.int 1,.int 0,.int 2]) (vs:=[sl]) (λd=>nrm ((if zC1 d=1 then A die s k o l n (some (s,k))else if zC1 d=0 then A die s k o l n (some (o,l))else RR die s k o l n:Nat):Int) (die.sum^n)) (i_T (yV (zB x_c (zB x_c (zB x_c zM))) rfl (c3 _ _ _)) rfl) rfl (λd hd=>?_) (c3 _ _ _) rfl;simp only[mem_cons,mem_nil_iff,or_false]at hd;rcases hd with rfl|rfl|rfl
  ·exact⟨_,zj (F:=zi) rfl (x_ixV (k:=1) rfl (zA rfl) rfl) (Jg (zB (zA rfl) zM) su) (y9 _ _ sp.1 sp.2),rfl⟩
  ·exact⟨_,zj (F:=zi) rfl (x_ixV (k:=0) rfl (zA rfl) rfl) (Jg (zB (zA rfl) zM) su) (y9 _ _ sp.1 sp.2),rfl⟩
  ·exact⟨_,zj (F:=zi) rfl (x_ixV (k:=2) rfl (zA rfl) rfl) (Jg (zB (zA rfl) zM) su) (y9 _ _ sp.1 sp.2),rfl⟩
 exact yS (r:=.v (ans die s k o l n)) (zO (yH (WR (zB x_c (zB x_c (zB x_c zM))) rfl (c3 _ _ _)) rfl) (zO (w6 (tg:=.n 3) (zj (F:=wN) rfl (Jg (zB (J0 (r:=.v (Ji die)) (zA rfl) x_c rfl) zM) (WU die)) (zA rfl) (e_rows hm hn)) rfl f1) (zX (yT (Jg (zB (x_frdO rfl rfl cw) zM) rfl))))) rfl
end
section
variable{die:List Nat}{s k o l:Nat}
def zC6(h:Mt die s k o l){n:Nat}(hn:n<=30):yb [.v (yI die s k o l),.v (.int (n:Nat))]=.ok (.v (ans die s k o l n),O2) :=
 yS (zX (s_tryO (zX (yT (zj (F:=y4) rfl (zA rfl) (zA rfl) (QX h hn)))))) rfl
def zEv:jC [.v (.exn "NoNumber" [])]=.ok (.v (.str "number"),O1):=rfl
def no_by(h:Mt die s k o l){d:D}(h1:zDB d=false)(h2:YA 0 30 d=false):y4 [.v (yI die s k o l),.v d]=.exc ⟨"NoNumber",false,[]⟩ O2 :=
 zFj (zO (zAE (je (F:=yK) rfl (zA rfl) (QS (QR h) (QP h)))) (b_exc (s_dropX (x_cX3 (F:=yO) rfl (zA rfl) x_c zAf (zEl d 0 30 h1 h2))))) rfl
def told_no(h:Mt die s k o l){d:D}(h1:zDB d=false)(h2:YA 0 30 d=false):yb [.v (yI die s k o l),.v d]=.ok (.v (.str "number"),O2) :=
 yS (E1:=[.v (yI die s k o l),.v d,.v (.exn "NoNumber" [])]) (zX (s_tryX (zX (s_retX (x_cX2 (F:=y4) rfl (zA rfl) (zA rfl) (no_by h h1 h2)))) (by decide +kernel) rfl (zX (yT (je (F:=jC) rfl (zA rfl) zEv))))) rfl
def zC7{t b:Nat}(ht:t<2^200)(hb:b<2^200){n:Nat}:smD (n+1) (nrm (t:Int) b):=by
 rw[YB];refine smD.sT (by simp) λd hd=>?_
 simp only[mem_cons,mem_nil_iff,or_false]at hd;rcases hd with rfl|rfl
 ·exact smD.sI (by rw[Int.natAbs_natCast];exact dv ht)
 ·exact smD.sI (by rw[Int.natAbs_natCast];exact dv hb)
def zAN(h:Mt die s k o l){n:Nat}(hn:n<=30):∃t,vW (ans die s k o l n)=some (.v (.str t)):=by
 have v:=lt_trans (S150 h hn) (show 2^150<2^200 by decide +kernel);refine sm_repr (smD.sT (by simp) λd hd=>?_);simp only[mem_cons,mem_nil_iff,or_false]at hd;rcases hd with rfl|rfl|rfl
 ·exact zC7 (lt_of_le_of_lt (zEo h n _) v) v
 ·exact zC7 (lt_of_le_of_lt (zEo h n _) v) v
 ·exact zC7 (lt_of_le_of_lt (RR_le h n) v) v
def bads:List D:=[.int 31,.int (-1),.bl true,.non,.str "3",.t [.int 3],.int (10^30)]
def bads_ok{d:D}(h:d∈bads):zDB d=false/\YA 0 30 d=false:=by
 simp only[bads,mem_cons,mem_nil_iff,or_false]at h;rcases h with rfl|rfl|rfl|rfl|rfl|rfl|rfl<;>exact⟨rfl,by decide⟩
abbrev frL(v c:DV.Slot)(p:List D)(m:D)(s4 s5 s6:DV.Slot):zN:=[v,c,.own p,.v m,s4,s5,s6]
def loop_n(h:Mt die s k o l)(v c:DV.Slot)(p:List D)(s4 s5 s6:DV.Slot)(h4:zn s4=true){ns:List Nat}(hns:∀n∈ns,n<=30):∃t4,DV.wX (gN 4) (dB j6 QG) (N ns) (frL v c p (yI die s k o l) s4 s5 s6)=.ok (.nx,frL v c p (yI die s k o l) t4 s5 s6)/\zn t4=true:=by
 obtain⟨E',f1,t4,hE,q4⟩:=z9 (tg:=gN 4) (body:=dB j6 QG) (λ_ E=>∃t4,E=frL v c p (yI die s k o l) t4 s5 s6/\zn t4=true) (N ns) 0 (frL v c p (yI die s k o l) s4 s5 s6) ⟨s4,rfl,h4⟩
  (λi d q E ⟨t4,hE,q4⟩=>by
   obtain⟨n,hn,rfl⟩:=N_at q;have hn:=hns n (mem_of_getElem? hn);obtain⟨t,ht⟩:=zAN h hn;have r2:zD6 [ans die s k o l n]=some (.v (.str t)):=ht;refine⟨frL v c p (yI die s k o l) (.v (.int (n:Nat))) s5 s6,_,?_,zX (wQ (t_E (jd (Jg (zB (zj (F:=yb) rfl (zA rfl) (zA rfl) (zC6 h hn)) zM) r2) (Jg (zB (zj (F:=JI) rfl (zA rfl) (zA rfl) (e_due h hn)) zM) r2) (ne_str t))) wW),_,rfl,rfl⟩;subst hE;cases t4<;>first|rfl|(cases q4))
 subst hE;exact⟨t4,f1,q4⟩
def loop_b(h:Mt die s k o l)(v c:DV.Slot)(p:List D)(s4 s5 s6:DV.Slot)(h6:zn s6=true):∃t6,DV.wX (gN 6) (dB j6 QF) bads (frL v c p (yI die s k o l) s4 s5 s6)=.ok (.nx,frL v c p (yI die s k o l) s4 s5 t6)/\zn t6=true:=by
 obtain⟨E',f1,t6,hE,q6⟩:=z9 (tg:=gN 6) (body:=dB j6 QF) (λ_ E=>∃t6,E=frL v c p (yI die s k o l) s4 s5 t6/\zn t6=true) bads 0 (frL v c p (yI die s k o l) s4 s5 s6) ⟨s6,rfl,h6⟩
  (λi d q E ⟨t6,hE,q6⟩=>by
   obtain⟨b1,b2⟩:=bads_ok (mem_of_getElem? q);refine⟨frL v c p (yI die s k o l) s4 s5 (.v d),_,?_,zX (wQ (t_E (jd (zj (F:=yb) rfl (zA rfl) (zA rfl) (told_no h b1 b2)) x_c (ne_str "number"))) wW),_,rfl,rfl⟩;subst hE;cases t6<;>first|rfl|(cases q6))
 subst hE;exact⟨t6,f1,q6⟩
def zEw(h:Mt die s k o l):Mt die s (1+k%3) o (1+l%3):=⟨h.d,h.hs,h.ho,h.ne,by omega,by omega⟩
def InC(v:D)(E:zN):Prop:=∃s1 s2 s3 s4 s5 s6,E=[.v v,s1,s2,s3,s4,s5,s6]/\zn s1=true/\zn s2=true/\zn s3=true/\zn s4=true/\zn s5=true/\zn s6=true
def pw30:powD (.int 10) (.int 30)=some (.v (.int (10^30))):=by simp[powD,zAo]
end
def cell_ok(v:D)(c:Int)(s2 s3 s4 s5 s6:DV.Slot)(h2:zn s2=true)(h3:zn s3=true)(h4:zn s4=true)(h5:zn s5=true)(h6:zn s6=true):∃E2,dB j6 QH [.v v,.v (.int c),s2,s3,s4,s5,s6]=.ok (.nx,E2)/\InC v E2:=by
 obtain⟨p,e1,hp⟩:=v3 c;obtain⟨die,s,k,o,l,p1,e2,hp1,h⟩:=zAj p hp;obtain⟨r,p2,e3,l3,u3,hp2⟩:=y8 p1 hp1 31 (by decide) (by decide);obtain⟨n,rfl⟩:=Int.eq_ofNat_of_zero_le l3;obtain⟨t4,f1,q4⟩:=loop_n h (.v v) (.v (.int c)) p2 s4 s5 s6 h4 (ns:=[n,30,0]) (λx hx=>by
  simp only[mem_cons,mem_nil_iff,or_false]at hx;rcases hx with rfl|rfl|rfl<;>omega)
 obtain⟨r7,p3,e7,l7,u7,hp3⟩:=y8 p2 hp2 7 (by decide) (by decide);obtain⟨n7,rfl⟩:=Int.eq_ofNat_of_zero_le l7;have hs:=zEw h;obtain⟨t,ht⟩:=zAN hs (n:=n7) (by omega);have r2:zD6 [ans die s (1+k%3) o (1+l%3) n7]=some (.v (.str t)):=ht;obtain⟨t6,f2,q6⟩:=loop_b h (.v v) (.v (.int c)) p3 (.v (.int (n7:Nat))) (.v (yI die s (1+k%3) o (1+l%3))) s6 h6;have c3:∀a b c:D,[a,b,c].length<=cap:=λa b c=>by simp[cap]
 have m1:=WV k 3 (by decide);have m2:=WV l 3 (by decide)
 let F:=frL (.v v) (.v (.int c)) p2 (yI die s k o l) t4 s5 s6
 have w1:dE j6 (.t (.cons (.bin .add (.c (.int 1)) (.bin .mod (.ix (.var 3) (.c (.int 2))) (.c (.int 3)))) .nil)) F=.ok (.v (.t [.int ((1+k%3:Nat):Int)]),F):=yV (zB (yB x_c (yB (J0 (r:=.v (.int (k:Nat))) (zA rfl) x_c rfl) x_c m1) (jf 1 (k%3))) zM) rfl J3;have w2:dE j6 (.t (.cons (.bin .add (.c (.int 1)) (.bin .mod (.ix (.var 3) (.c (.int 4))) (.c (.int 3)))) .nil)) F=.ok (.v (.t [.int ((1+l%3:Nat):Int)]),F):=yV (zB (yB x_c (yB (J0 (r:=.v (.int (l:Nat))) (zA rfl) x_c rfl) x_c m2) (jf 1 (l%3))) zM) rfl J3;have w3:dE j6 (.sl (.var 3) .oN (.oS (.c (.int 2)))) F=.ok (.v (.t [Ji die,.int (s:Nat)]),F):=x_sl (zA rfl) o_N (o_S x_c) rfl;have w4:dE j6 (.sl (.var 3) (.oS (.c (.int 3))) (.oS (.c (.int 4)))) F=.ok (.v (.t [.int (o:Nat)]),F):=x_sl (zA rfl) (o_S x_c) (o_S x_c) rfl;have a1:=vx [Ji die,.int (s:Nat)] [.int ((1+k%3:Nat):Int)] (by simp);have a2:=vx ([Ji die,.int (s:Nat)]++[.int ((1+k%3:Nat):Int)]) [.int (o:Nat)] (by simp);have a3:=vx ([Ji die,.int (s:Nat)]++[.int ((1+k%3:Nat):Int)]++[.int (o:Nat)]) [.int ((1+l%3:Nat):Int)] (by simp);have xb:dE j6 (.l (.cons (.c (.int 31)) (.cons (.neg (.c (.int 1))) (.cons (.c (.bl true)) (.cons (.c .non) (.cons (.c (.str "3")) (.cons (.t (.cons (.c (.int 3)) .nil)) (.cons (.bin .pow (.c (.int 10)) (.c (.int 30))) .nil)))))))) (frL (.v v) (.v (.int c)) p3 (yI die s k o l) (.v (.int (n7:Nat))) (.v (yI die s (1+k%3) o (1+l%3))) s6)=.ok (.own bads,frL (.v v) (.v (.int c)) p3 (yI die s k o l) (.v (.int (n7:Nat))) (.v (yI die s (1+k%3) o (1+l%3))) s6) :=
  WR (zB x_c (zB (x_neg x_c) (zB x_c (zB x_c (zB x_c (zB (yV (zB x_c zM) rfl J3) (zB (yB x_c x_c pw30) zM))))))) rfl (by simp[bads,cap])
 refine⟨frL (.v v) (.v (.int c)) p3 (yI die s k o l) (.v (.int (n7:Nat))) (.v (yI die s (1+k%3) o (1+l%3))) t6,?_,_,_,_,_,_,_,rfl,rfl,rfl,rfl,rfl,rfl,q6⟩;refine zO (E1:=[.v v,.v (.int c),.own p,s3,s4,s5,s6]) (yH (je (F:=yq) rfl (zA rfl) e1) (Jh rfl h2 rfl)) ?_;refine zO (E1:=frL (.v v) (.v (.int c)) p1 (yI die s k o l) s4 s5 s6) (yH (zEj (F:=yr) rfl rfl e2 rfl) (Jh rfl h3 rfl)) ?_;refine zO (E1:=F) (w6 (tg:=.n 4) (WR (E1:=frL (.v v) (.v (.int c)) p2 (yI die s k o l) s4 s5 s6) (zB (zAD (F:=zg) rfl rfl x_c e3 rfl) (zB x_c (zB x_c zM))) rfl (c3 _ _ _)) rfl f1) ?_;refine zO (E1:=frL (.v v) (.v (.int c)) p2 (yI die s k o l) t4 (.v (yI die s (1+k%3) o (1+l%3))) s6) (yH (yB (yB (yB w3 w1 a1) w4 a2) w2 a3) (Jh rfl h5 rfl)) ?_;refine zO (E1:=frL (.v v) (.v (.int c)) p3 (yI die s k o l) (.v (.int (n7:Nat))) (.v (yI die s (1+k%3) o (1+l%3))) s6) (yH (zAD (F:=zg) rfl rfl x_c e7 rfl) (Jh rfl q4 rfl)) ?_;refine zO (wQ (t_E (jd (Jg (zB (zj (F:=yb) rfl (zA rfl) (zA rfl) (zC6 hs (n:=n7) (by omega))) zM) r2) (Jg (zB (zj (F:=wP) rfl (zA rfl) (zA rfl) (e_gone hs (n:=n7) (by omega))) zM) r2) (ne_str t))) wW) ?_;exact zX (w6 (tg:=.n 6) xb rfl f2)
def math51(ns:List Int)(hns:ns.length<=63):∃outs,m_law [.v (.l (ns.map D.int))]=.ok (.v (.bl true),outs):=by
 obtain⟨c,e2⟩:=Wl ns;have hcut:zDA (ns.map D.int) (some 1) (some 3)=((ns.drop (HT.sIx ns.length 0 (some 1))).take (HT.sIx ns.length ns.length (some 3)-HT.sIx ns.length 0 (some 1))).map D.int:=by
  unfold zDA;simp[List.map_drop,List.map_take]
 generalize hk:(ns.drop (HT.sIx ns.length 0 (some 1))).take (HT.sIx ns.length ns.length (some 3)-HT.sIx ns.length 0 (some 1))=k at hcut;have hkl:k.length<=63:=by rw[<- hk];simp;omega
 have c1:slD (.l (ns.map D.int)) (some 1) (some 3)=some (.own (k.map D.int)):=by simp only[slD,hcut]
 have c2:=WT [.int c] (k.map D.int) (by simp;omega);generalize hv:D.l (ns.map D.int)=v at e2 c1;obtain⟨E',f1,u1,u2,u3,u4,u5,u6,hE,_⟩:=z9 (tg:=gN 1) (body:=dB j6 QH) (λ_ E=>InC v E) ([.int c]++k.map D.int) 0 [.v v,.e,.e,.e,.e,.e,.e] ⟨_,_,_,_,_,_,rfl,rfl,rfl,rfl,rfl,rfl,rfl⟩
  (λi d q E ⟨s1,s2,s3,s4,s5,s6,hE,h1,h2,h3,h4,h5,h6⟩=>by
   obtain⟨x,rfl⟩:∃x:Int,d=.int x:=by
    have:=mem_of_getElem? q;rcases mem_append.mp this with m|m
    ·exact⟨c,mem_singleton.mp m⟩
    ·obtain⟨x,_,rfl⟩:=mem_map.mp m;exact⟨x,rfl⟩
   obtain⟨E2,f1,f2⟩:=cell_ok v x s2 s3 s4 s5 s6 h2 h3 h4 h5 h6;refine⟨[.v v,.v (.int x),s2,s3,s4,s5,s6],E2,?_,f1,f2⟩;subst hE;cases s1<;>first|rfl|(cases h1))
 subst hE;refine⟨_,yS (r:=.v (.bl true)) (E1:=[.v v,u1,u2,u3,u4,u5,u6]) ?_ rfl⟩;exact zO (w6 (yB (WR (zB (zj (F:=yX) rfl (zA rfl) x_c e2) zM) rfl J3) (x_sl (zA rfl) (o_S x_c) (o_S x_c) c1) c2) rfl f1) (zX (yT x_c))
end My
namespace My
open PySem L2 DV
def txt_lk{K:qH}{h:Heap}{mg:Str->Option Value}(X:K.In h)(G:h.Ns mainGlobals mg)(e:Zg K=wants):Txt K mg :=
 have e1:=congrArg (λx:lkT=>x.1) e;have e2:=congrArg (λx:lkT=>x.2.1) e;have e3:=congrArg (λx:lkT=>x.2.2.1) e
 {n_ValueError:=YV X G (ix 0 e3),n_abs:=YV X G (ix 1 e3),n_all:=YV X G (ix 2 e3),n_bool:=YV X G (ix 3 e3),n_enumerate:=YV X G (ix 4 e3),n_int:=YV X G (ix 5 e3),n_isinstance:=YV X G (ix 6 e3),n_len:=YV X G (ix 7 e3),n_list:=YV X G (ix 8 e3),n_max:=YV X G (ix 9 e3),n_range:=YV X G (ix 10 e3),n_repr:=YV X G (ix 11 e3),n_sum:=YV X G (ix 12 e3),n_tuple:=YV X G (ix 13 e3),c_NO_STAND:=tn_at X G (ix 14 e3),c_LEAST_SIGNS:=zAe X G (ix 0 e2),c_LEAST_WEIGHT:=zAe X G (ix 1 e2),c_MOST_MATCHED:=zAe X G (ix 2 e2),c_MOST_PLAYED:=zAe X G (ix 3 e2),c_MOST_SIGNS:=zAe X G (ix 4 e2),c_MOST_WEIGHT:=zAe X G (ix 5 e2),f_is_whole:=yZ X G (ix 0 e1),f_is_whole_within:=yZ X G (ix 1 e1),f_greatest_divisor:=yZ X G (ix 2 e1),f_whole_power:=yZ X G (ix 3 e1),f_share_of:=yZ X G (ix 4 e1),f_die_good:=yZ X G (ix 5 e1),f_need_number:=yZ X G (ix 6 e1),f_share_in_all:=yZ X G (ix 7 e1),f_match_good:=yZ X G (ix 8 e1),f_need_match:=yZ X G (ix 9 e1),f_stands_list:=yZ X G (ix 10 e1),f_stand_behind:=yZ X G (ix 11 e1),f_shares_by:=yZ X G (ix 12 e1),f__law_cell_at:=yZ X G (ix 13 e1),f__law_next:=yZ X G (ix 14 e1),f__law_pen_of:=yZ X G (ix 15 e1),f__law_draw:=yZ X G (ix 16 e1),f__law_kind_of:=yZ X G (ix 17 e1),f__law_share:=yZ X G (ix 18 e1),f__law_add:=yZ X G (ix 19 e1),f__law_times:=yZ X G (ix 20 e1),f__law_die_by:=yZ X G (ix 21 e1),f__law_match_by:=yZ X G (ix 22 e1),f__law_behind:=yZ X G (ix 23 e1),f__law_rows:=yZ X G (ix 24 e1),f__law_weight:=yZ X G (ix 25 e1),f__law_first:=yZ X G (ix 26 e1),f__law_due:=yZ X G (ix 27 e1),f__law_gone:=yZ X G (ix 28 e1),f__law_told:=yZ X G (ix 29 e1),f_law:=yZ X G (ix 30 e1),cl:=cl_at X G (congrArg (λx:lkT=>x.2.2.2) e)}
end My
end
open PySem PySem.W PyProof.Rows
set_option maxRecDepth 100000 in
set_option maxHeartbeats 0 in
theorem PySem.Challenge.cw_throwruns_k51_within_so_many_throws_holds : PySem.Challenge.rw_throwruns_k51_within_so_many_throws.Holds := by
 w_on;refine holds_law My.hz λsaid=>?_
 refine holds_open (q:=My.q) (loose:=My.ls) (Xt:=λs=>xlAt My.q [] s&&recOk (RowW.records (OpenLaw.row PySem.Challenge.rw_throwruns_k51_within_so_many_throws).toRowW) s) (XP:=XL My.q []) (Yf:=λs=>My.Zg (DV.YC s.heap My.as)) (Ya:=λ_=>My.wants) (YP:=(DV.zAC My.as My.lkT My.Zg My.wants).says) (N:=6156) My.hl (DV.zAC My.as My.lkT My.Zg My.wants).of (DV.zAC My.as My.lkT My.Zg My.wants).keeps (λs e=>xl_of s (Bool.and_eq_true_iff.mp e).1) XL.keeps (by rfl) (by rfl) (by rfl) (λs e=>recFacts_of (Bool.and_eq_true_iff.mp e).2) ?h4 ?h5 ?h6 ⟨rfl,rfl,rfl,rfl,rfl,by decide +kernel⟩ ?hw ?hc
 case h4=>rfl
 case h5=>first|assumption|decide +kernel
 case h6=>decide +kernel
 case hw=>w_witness2
 case hc=>exact DV.walkE (l:=PySem.Challenge.rw_throwruns_k51_within_so_many_throws) (x:="_law_script") My.math51 rfl rfl λw K mg fa h KX e G hmg=>My.law_fd hmg (My.txt_lk KX G e)
